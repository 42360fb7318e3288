import PyProof.Rows.All
import Wide.All
import OpenK.AllK
import PySem.Challenge.RW_hushrow_k51_all_else_stays
local macro_rules|`(def $i:declId $s:optDeclSig $v:declVal)=>`(noncomputable def $i:declId $s:optDeclSig $v:declVal)
local macro_rules|`(abbrev $i:declId $s:optDeclSig $v:declVal)=>`(noncomputable abbrev $i:declId $s:optDeclSig $v:declVal)
local macro_rules|`($n:num∘$t)=>`((nat_lit $n,$t))
local macro_rules|`(tactic|rfl')=>`(tactic|try dsimp only)
local macro_rules|`({$x:term,$xs,*})=>`(⟨$x,$xs,*⟩)
open PySem renaming wpAny_bind->Qr,Addr->Qs,Value->Qt,wpAny_pure->Qu,Shared->Qw,starEach->QA,World->QD,model->QG,mainGlobals->QI,compareOp->QK,Stmt->QL,mem_of_lookup->QM,Heap->QN,treeTable->QO,wpAny_newObj_type->QP,importedModules->QS,Around->QU,eval->QV,OsState->Q3,cellsFrom->Q5,attributeBase->Q6,backTo->Q7,Str->Rb,binaryOp->Rg,wpAny_call_entry->Rn,sysModules->Rr,codeAny_builtin->Ru,wpAny_Call_Name_kw->Rx,wpAny_passesOwn->Rz,bootBuiltins->RA,wpAny_setState_of->RD,Params->RE,wpAny_mono->RF,FuncData->RJ,NameKind->RK,wpAny_callSpecial?_slot->RL,wpAny_getItem_str_slice->RN,cLine->RR,sizeLine_eq->RT,keywordEach->RW,behindInMarks->R7,plainId_quiet->R8,Builtin->R9,intKind->Sa,Keyword->Sb,pushCells_keeps->Sd,call_meets->Se,tupleKind_room_in1->Sf,sliceBounds->Si,wpAny_truthy_bool->Sn,codeAny_mono->So,wpAny_typeOf->Sr,wpAny_dictEntries->Su,setAddHashed->Sv,builtinLookup_eq_fast->Sw,pushCells->SF,wpAny_field->SJ,wpAny_execs_nil->SK,letOwnedTupleGo->SM,post_val_or_str->SQ,wpAny_setEntries_of->SS,holding->SU,Spec->S2,Scope->S3,assignEach->S5,backToKw->Ta,isSubtype_type->Tb,getItem->Tf,wpAny_pyIter_list->Tg,evalPart_none->Tn,wpAny_getItem_list_slice->To,GenState->Ts,wpAny_isInstance->Tx,wpAny_askSetting->Tz,builtinsNs->TC,rawInt->TH,wpAny_pyNext_list_item->TJ,typeLookup_type->TZ,wpAny_pyNext_list_end->T1,wpAny_notOrdered_dict->T2,wpAny_loadName_local->T8,pyNext->T9,PyData->Ub,wpAny_setField->Uh,tupleKind->Ul,swapsWith->Um,BindsTo->Uo,callerA->Uq,wpAny_loadName_cell->Us,wpAny_standAt->UB,evalPart_some->UD,wpAny_Constant_int->UK,wpAny_load->UL,IsPart->UN,typeIs_str->UQ,getattributeRaised->UU,wpAny_rule->UW,intKind_is->UY,Within->U4,wpAny_sequenceKey->U8,seqIndex_neg->U9,wpAny_pyIter_slot->Vg,wpAny_execs_cons->Vl,getMethod->Vn,entryFor_of_tree->Vs,wpAny_pyIter_zip->Vt,wpAny_setScan_of->Vu,wpAny_Slice->VA,seqIndex_of->VB,atKey->VC,wpAny_specialOf->VG,wpAny_dictEpoch->VH,codeAny_of_tree->VJ,wpAny_updateSeq->VL,standAt->VN,wpAny_Name->VQ,recursionLimit->VT,wpAny_call->VU,bindL->VW,bindC->VX,typeIs_int->VZ,call->V2,newFunctionEnv->V3,compPost->V4,entryFor->V8,setAddHashedIn->Wa,wpAny_runValue->Wb,entryFor_alias->Wc,firstArgMember->We,DictEntry->Wh,storeName->Wi,PassesOwn->Wj,joinParts->Wl,pickOrder->Wm,spliced->Wq,pyIter->Wr
open PySem.Heap renaming get?_push_of_some->Qv,get?_push_size->QE,lt_size->QF,get?_update_other->Ri,get?_update_self->Rm,size_push->Ro,SameBut->RQ
open PySem.W renaming Frag->Qx,mg_none_of->Q0,kitOne->Q9,topStub->Rk,findIn->Rl,fnOf->Rp,keepIn->RB,emptyDict->RO,kia_one->RS,specialIn->Sg,openSeen->Sk,Frag->Sl,boot_drawn->Sx,instObj->Sz,cellsFrom_some->SD,codeIn->SI,boot_toks->SY,boot_heap->Tt,plainGet->TK,hasDictIn->Ua,fencedOpening->Uz,plainGet_of->UC,kHook->U2,mg_of->Vb,OpenLaw->Vj,boot_o_0->Vk,makesIn->Vo,takesIn->Vp,methodObj->Vy,plainOver->Vz,namesBound->VO,openGood->VP,lookIn->VS,nsIn->V7,staticsOk->Wg,takerIn->Wk,absHeap->Wn,isFn->Ws,mroIn->Wt
open PySem.Paired renaming length->Qy,snoc->Sj
open PySem.PassesOwn renaming never->Qz
open Option.some renaming inj->QB,injEq->Vd
open List renaming replicate->QH,Nodup->QR,range->Q1,lookup->RU,length->SH,dropLast_concat_getLast->SR,getElem?_take_of_lt->Tj,length_filterMap_le->Tp,eq_of_mem_replicate->Tr,getElem?_replicate->Tu,getElem?_cons_zero->Tw,getElem?_set_self->TF,Sublist->TY,getElem?_toArray->T6,getElem?_set_ne->T7,getElem_of_mem->Uv,getElem?_range->Ux,findIdx?_cons->UX,reverse_cons->Va,foldl_append->Vc,ext_getElem?->Vh,length_drop->Vq,getElem_mem->Vv,filter->VD,range_succ->VI,foldl->V0
open PySem.Value renaming ref->QJ,type->Rq,int->RI,none->Sy,str->Uk,isStrOf_shape->Ur,isStrOf->UA,bool->UJ,isInt_shape->U3,isInt->Vw,float->Vx
open PySem.Builtin.Tuple renaming tupleExact->QQ,tupleItemsOf->S7
open PySem.Builtin.Slice renaming slicePlaces->QT,sliceApplied->Ry,sliceAdjust->RX,sliceFields->Tc
open PySem.Builtin renaming bitOr->QW
open PySem.NameKind renaming cell->QX,free->Rf
open PySem.SeqAt renaming shaped->QY,EqAt->TM
open PySem.PyData renaming strOk->QZ,depthAll->SO,canLayAll0->Ti,int->TQ,depth->TR,str->TU,canLay0->Uc,list->Uj,eqv->V5
open PySem.Str renaming empty->Q4,ofString->Rh
open PySem.Builtin.Str renaming occurrences->Q8,strKind->Uu
open PySem.Around renaming under_plainId->Ra,under->U5
open PyProof.Rows renaming callWith_type1->Rc,slot_tuple_getitem->Rj,envOfC->Sq,callWith_builtin1->SE,IntsAre->SV,slicePart_none->S6,AllBare->Te,subscriptTail_builtinR->TL,entry_tuple_getitem->Ut,subscriptTail->UE,args_tuple_getitem->UO,Subscript_->UP,tail_any->VY,drecsOf->Wo,seqObj->Wu
open False renaming elim->Rt
open PyProof.Rows.F renaming plain_set_update_loop->Rv,entry_set_update_loop->R0
open Option renaming none->RC,isSome_some->UT,getD_none->Vr,some->Wv,none->Ww
open PySem.Builtin.List renaming listTooLong->RG,listExtendWith->SX,listSameRef->Tq
open List.Sublist renaming append->RH,map->SG,nodup->U0
open PySem.F renaming plainAttrs_list->RM,plain_list_iadd->TB,plain_set_new->T4,slot_set_iter->T5,slot_dict_eq->Ue,slot_int_rmul->VE
open PySem.Obj renaming mapSeq->RV,putSet->V9
open PySem.Builtin.Int renaming intBits->RY
open PySem.Heap.SameBut renaming update->RZ
open PySem.Builtin.Dict renaming samePairs->Ss,dictSlotArgs->Td,updateFrom->Tv,pairItems->TV,showsAll->T3
open ForInStep renaming yield->SN
open Prod renaming ext->S1
open PySem.Calls renaming Name_function_global->S4,callWith_builtin->TN,spliced_cons->UM,spliced_nil->U7
open PySem.Heap.IsSliceOf renaming new->S8
open Array renaming getElem?_eq_none->TX,toArray_toList->Ud,size_append->Ve
open PySem.SetTable renaming below->Ug
open Nat renaming add_le_add_right->Ui,add_le_add_left->Uw
open PySem.BindsTo renaming of_defaults->Uy
open PySem.Shared renaming TypeIs->UG
open PySem.SeqAt.EqAt renaming int_str->UH,str_int->UI,int_int->UR,str_str->US
open Int renaming emod_lt_of_pos->UZ,emod_nonneg->VM
open PySem.Txt renaming slice_le->U1
open PySem.Code renaming isFrame->U6
open PySem.pickOrder renaming go->Vf
open Function renaming comp_def->Vi
open PySem.Data renaming cell->Vm
open PySem.Heap.DictOf renaming new->VF
open Bool renaming false_and->VR,and_false->V1
open PySem.Walks renaming strAscii->V6
open List.Perm renaming refl->Wf
local macro_rules|`(())=>`(by first|lia|omega)
local macro_rules|`(∅)=>`(by decide)
open List renaming mem_singleton->NF,length_append->NG,length_map->NH,mem_cons->NJ,mem_cons_of_mem->NK,mem_cons_self->NL,getElem?_eq_getElem->NN,mem_of_getElem?->NO,mem_append->NQ,mem_append_right->NR,size_toArray->NV,getElem?_eq_some_iff->NW,getElem?_map->NX,not_mem_nil->NZ,take_length->N0,mem_append_left->N3,mem_map->N4,length_singleton->N6,length_cons->N7,map_cons->N9,map_append->Oc,take_add_one->Od,mem_map_of_mem->Oe,mem_filter->Og,length_take->Oh,append_nil->Oi,getD_eq_getElem?_getD->Oj,nodup_cons->Oq,replicate_succ->Ot,length_filter_le->Ou,find?_cons->Ov,take_append_drop->Ow,mem_flatMap->Oy,append_assoc->Oz,nil_append->OA,length_replicate->OB,filter_append->OC,map_map->OD,flatMap_cons->OE,nodup_append->OF,foldl_cons->OG,getElem?_append_right->OJ,getElem?_append_left->ON,length_nil->OP,filter_nil->OQ,filterMap_cons->OT,lookup_cons->OV,of_mem_zip->OX,pairwise_map->OY,take_zero->O0,all_eq_true->O7,length_reverse->O9,length_zip->Pb,take_of_length_le->Pd,getElem?_eq_none->Pf,cons_append->Pg,map_congr_left->Ph,flatMap_append->Pj,filter_cons_of_neg->Po,filter_cons_of_pos->Pp,flatten_cons->Pq,any_cons->Pr,any_eq_true->Pw,nil_sublist->Px,getElem?_of_mem->Py,filter_sublist->Pz,nodup_nil->PB,mem_filterMap->PC,take_sublist->PD,length_range->PK,getElem_inj->PQ,map_nil->PR,filter_cons->PU,mem_range->PX,sum_cons->PY
open Or renaming inl->NI,inr->Ob
open Nat renaming le_refl->NM,zero_le->NS,le_trans->NU,lt_of_lt_of_le->Oa,ne_of_lt->Of,lt_irrefl->Ol,le_add_right->OK,le_of_ble_eq_true->OM,lt_succ_of_lt->OS,le_succ->OZ,ne_of_gt->O4,lt_succ_self->O5,lt_of_le_of_lt->Pa,le_of_lt->Pm,le_succ_of_le->PM,succ_le_succ->PV,add_comm->PZ
open Bool renaming false_ne_true->NT,or_eq_true_iff->Om,false_eq_true->Ox,eq_iff_iff->OW,and_eq_true->O6,eq_false_iff->Pe
open True renaming intro->NY
open Sum renaming inr->N8,inl->OR
open Option renaming isNone_iff_eq_none->Oo,map_some->OH,isSome_iff_exists->OO,map_eq_some_iff->Pc,isSome_map->PL
open Array renaming length_toList->OI,getElem?_toList->OL,toList_append->Pk,getElem?_eq_getElem->Pl,mk->Pu
open Ne renaming symm->OU
open Int renaming zero_add->O8,add_comm->Pn,toNat_natCast->PH
set_option Elab.async false
set_option linter.all false
set_option maxRecDepth 100000
namespace Hd
open PySem PySem.W PySem.Calls PyProof.Rows
def iq(tb:String->Option R9)(p:Program)(w:QD)(n₀:Nat)(ann:Option Qt):Nat->SharedT->Thread->Option SharedT
 |0,_,_=>Ww
 |n+1,s,t=>match through t with
  |true=>Wv s
  |false=>match stepOk n₀ ann t with
   |false=>Ww
   |true=>match stepT (denote tb) p w s t with
    |some (s',t')=>iq tb p w n₀ ann n s' t'
    |none=>Ww
theorem Gi{tb:String->Option R9}{p:Program}{w:QD}{n₀:Nat}{ann:Option Qt}:∀{n:Nat}{s s':SharedT}{t:Thread},
  iq tb p w n₀ ann n s t=Wv s'->topRun tb p w n₀ ann n s.abs t=Wv s'.abs
 |0,_,_,_,h=>by cases h
 |n+1,s,s',t,h=>by
  unfold iq at h;unfold topRun;cases he:through t with
  |true=>rw[he]at h;cases h;rfl
  |false=>
   rw[he]at h;cases hk:stepOk n₀ ann t with
   |false=>rw[hk]at h;cases h
   |true=>
    rw[hk]at h;cases hs:stepT (denote tb) p w s t with
    |none=>rw[hs]at h;cases h
    |some r=>obtain⟨s₂,t₂⟩:=r;rw[hs]at h;rw[stepT_spec hs];exact Gi h
def Mi(p q:Program)(loose:List Str)(Xt:Qw->Bool){α:Type}(Yf:Qw->α)(g0:Bool)(H:QN)(s:Qw):=
 (Wg (QS p.main.body) H s.heap&&VO p s.heap&&gensDone s&&laidKept H s.heap,Sk q loose (QS p.main.body) Xt g0 s,Yf s)
def BC(p:Program)(H:QN)(s:Qw):=Wg (QS p.main.body) H s.heap&&VO p s.heap&&gensDone s&&laidKept H s.heap
def treeOf:List Obj->Nat->BT->BT
 | [],_,t=>t
 |o::r,i,t=>treeOf r (i+1) (t.ins i o)
theorem HY{p q:Program}{loose:List Str}{Xt:Qw->Bool}{α:Type}{Yf:Qw->α}{Ya:QD->α}{N:Nat}{g0:Bool}{H₀:RE->QN}{ė:Array Ts}{d₀:Drawn}{k₀ m₀ n₀:Nat}{ann:Option Qt}{T₀:RE->BT}{life:Life}
  (opn:∀w:QD,(Uz QO p w N).map (λs=>(s.heap,s.gens,s.drawn,s.toks))=Wv (H₀ w.params,ė,d₀,k₀))
  (size:∀w:QD,((H₀ w.params).isNs QI&&ė.size==0,(H₀ w.params).objs.size,(H₀ w.params).nsMap QI "__annotations__")=(true,m₀,ann))
  (tree:∀P:RE,Wn (T₀ P) n₀ life=H₀ P)
  (look:∀(w:QD)(os:Q3),(iq QO p w m₀ ann N ⟨T₀ w.params,n₀,life,ė,d₀,k₀,os⟩ (Rk p)).map (λs=>Mi p q loose Xt Yf g0 (H₀ w.params) s.abs)=Wv (true,VP q loose,Ya w)) :
  LeftO p q loose Xt Yf Ya N g0:=λw=>by
 obtain⟨⟨h,gs,d,k,os⟩,e,e'⟩:=Pc.mp (opn w)
 obtain⟨rfl,rfl,rfl,rfl⟩:h=H₀ w.params/\gs=ė/\d=d₀/\k=k₀:=by simpa using e'
 obtain⟨z1,z2,z3⟩:_/\_/\_:=by simpa only[Prod.mk.injEq] using size w
 obtain⟨s,hs,hl⟩:=Pc.mp (look w os)
 obtain⟨l1,l23⟩:=Prod.mk.inj hl
 obtain⟨l2,l3⟩:=Prod.mk.inj l23
 have r:=Gi hs
 have t:topFrom QO p w N ⟨H₀ w.params,gs,d,k,os⟩=Wv s.abs:=by
  unfold topFrom;dsimp only;rw[z1,z2,z3];unfold SharedT.abs at r;dsimp only at r;rw[tree w.params]at r;show(topRun QO p w m₀ ann N ⟨H₀ w.params,gs,d,k,os⟩ (Rk p)).bind _=_;rw[r];show(match Wg (QS p.main.body) (H₀ w.params) s.abs.heap&&VO p s.abs.heap&&gensDone s.abs&&laidKept (H₀ w.params) s.abs.heap with|true=>_|false=>_)=_;rw[l1];rfl
 unfold openEnds
 rw[e]
 show(topFrom QO p w N _).map _=_
 rw[t]
 exact congrArg Wv (S1 l2 l3)
theorem EJ{p q:Program}{loose:List Str}{Xt:Qw->Bool}{α:Type}{Yf:Qw->α}{Ya:QD->α}{N:Nat}{g0:Bool}{H₀:RE->QN}{ė:Array Ts}{d₀:Drawn}{k₀ m₀ n₀:Nat}{ann:Option Qt}{T₀:RE->BT}{life:Life}
  (opn:∀w:QD,(Uz QO p w N).map (λs=>(s.heap,s.gens,s.drawn,s.toks))=Wv (H₀ w.params,ė,d₀,k₀))
  (size:∀w:QD,((H₀ w.params).isNs QI&&ė.size==0,(H₀ w.params).objs.size,(H₀ w.params).nsMap QI "__annotations__")=(true,m₀,ann))
  (tree:∀P:RE,Wn (T₀ P) n₀ life=H₀ P)
  (Ũ:∀(w:QD)(os:Q3),(iq QO p w m₀ ann N ⟨T₀ w.params,n₀,life,ė,d₀,k₀,os⟩ (Rk p)).map (λs=>BC p (H₀ w.params) s.abs)=Wv true)
  (Ŧ:∀(w:QD)(os:Q3),(iq QO p w m₀ ann N ⟨T₀ w.params,n₀,life,ė,d₀,k₀,os⟩ (Rk p)).map (λs=>(Sk q loose (QS p.main.body) Xt g0 s.abs).1)=Wv (VP q loose).1)
  (Ţ:∀(w:QD)(os:Q3),(iq QO p w m₀ ann N ⟨T₀ w.params,n₀,life,ė,d₀,k₀,os⟩ (Rk p)).map (λs=>(Sk q loose (QS p.main.body) Xt g0 s.abs).2.1)=Wv (VP q loose).2.1)
  (Ť:∀(w:QD)(os:Q3),(iq QO p w m₀ ann N ⟨T₀ w.params,n₀,life,ė,d₀,k₀,os⟩ (Rk p)).map (λs=>(Sk q loose (QS p.main.body) Xt g0 s.abs).2.2.1)=Wv true)
  (ţ:∀(w:QD)(os:Q3),(iq QO p w m₀ ann N ⟨T₀ w.params,n₀,life,ė,d₀,k₀,os⟩ (Rk p)).map (λs=>(Sk q loose (QS p.main.body) Xt g0 s.abs).2.2.2.1)=Wv true)
  (ť:∀(w:QD)(os:Q3),(iq QO p w m₀ ann N ⟨T₀ w.params,n₀,life,ė,d₀,k₀,os⟩ (Rk p)).map (λs=>(Sk q loose (QS p.main.body) Xt g0 s.abs).2.2.2.2)=Wv (VP q loose).2.2.2.2)
  (ŧ:∀(w:QD)(os:Q3),(iq QO p w m₀ ann N ⟨T₀ w.params,n₀,life,ė,d₀,k₀,os⟩ (Rk p)).map (λs=>Yf s.abs)=Wv (Ya w)) :
  LeftO p q loose Xt Yf Ya N g0:=HY opn size tree λw os=>by
 obtain⟨s,hs,h1⟩:=Pc.mp (Ũ w os)
 have h2:=ŧ w os
 have h3:=Ŧ w os
 have h4:=ť w os
 have h5:=Ť w os
 have h6:=ţ w os
 have h7:=Ţ w os
 rw[hs]at h2 h3 h4 h5 h6 h7⊢
 exact congrArg Wv (S1 h1 (S1 (S1 (QB h3) (S1 (QB h7) (S1 (QB h5) (S1 (QB h6) (QB h4))))) (QB h2)))
end Hd
namespace L2
open PySem PySem.Spec PyProof.Rows
def WA(s:QL)(j:Nat):QL:=match s with
 | .ClassDef _ _ _ body _ _ _ _ _ _ _=>body.getD j (.Pass ⟨0,0,0,0⟩)
 |_=>.Pass ⟨0,0,0,0⟩
def b9(s:QL):Arguments:=match s with
 | .FunctionDef _ a _ _ _ _ _ _ _ _=>a
 |_=>{ posonlyargs:=[],args:=[],vararg:=Ww,kwonlyargs:=[],kw_defaults:=[],kwarg:=Ww,defaults:=[] }
def bK(s:QL):List QL:=match s with
 | .FunctionDef _ _ b _ _ _ _ _ _ _=>b
 |_=>[]
def aA(s:QL):S3:=match s with
 | .FunctionDef _ _ _ _ _ _ sc _ _ _=>sc
 |_=>{ kind:=.function,names:=[],isGenerator:=false,isCoroutine:=false }
end L2
namespace K51
open PySem
def top(i:Nat):QL:=PySem.Challenge.pw_hushrow_k51_all_else_stays.main.body.getD i (.Pass ⟨0,0,0,0⟩)
end K51
set_option genSizeOf false
set_option bootstrap.genMatcherCode false
set_option compiler.extract_closed false
set_option maxHeartbeats 0
namespace K51
open PySem L2 PySem.W PyProof.Rows
abbrev Ey(P:RE)(x:Str)(t:Nat)(v:Qt):Wh:=⟨PyData.keyHash P x,.str x t,v⟩
abbrev FL(P:RE)(a:Nat)(l:Int)(b:Nat):=Ey P "__firstlineno__" a (.int l b)
abbrev SA(P:RE)(a b:Nat):=Ey P "__static_attributes__" a (.ref b)
abbrev DO(P:RE)(a:Nat):=Ey P "__doc__" a .none
abbrev ł(P:RE)(a:Nat):=Ey P "__module__" a (.str "hushrow.rows" 237)
abbrev ER(P:RE)(x:Str)(a b:Nat):=Ey P x a (.ref b)
abbrev DI(x:Array Wh)(n:Nat):Obj:={.type "dict",Ww,.dict x n,#[]}
abbrev WR(x:Str)(a b:Nat)(y:String):Obj:={.type "getset_descriptor",Ww,.fields #[.str x a,.ref b,.builtin y,.none],#[]}
abbrev CX(n:Str)(a c:Nat)(bs m s:List Qt)(d:Option Qt)(u v:Nat)(w:String):Obj:={.type "type",Ww,.cls { name:=n,bases:=bs,mro:=.ref a::m,ns:=c,qualname:=n,hasDict:=true,slotNames:=[],subclasses:=s,abstract:=false,collection:=Ww,hasDel:=false },#[d,Ww,Wv (.str n u),Wv (.str n v),Wv (.builtin w),Wv (.bool true)]}
abbrev CO(n q:Str)(t:Nat)(l a:Int)(r:Nat)(m:Nat):Obj:={.type "code",Ww,.fields #[.str n t,.str q (t+1),.str "/claim/cut.py" (t+2),.int l 0,.int a 0,.int 0 0,.int 0 0,.int 3 0,.ref r,.bool true,.int 181 0,.ref (r+1),.none,.ref (r+2),.ref (r+3),.ref (r+4),.int m 0,.int l 0,.str "/claim/cut.py" (m+1)],#[]}
abbrev FU(n q:Str)(s:QL)(m:Str)(t c:Nat):Obj:={.type "function",Ww,.func (Rp n q (b9 s) (bK s) (aA s) .none .none .none (.str m t) Ww (.ref c) .none),#[]}
abbrev FD(n q:Str)(s:QL)(d:Nat)(m:Str)(t c:Nat):Obj:={.type "function",Ww,.func (Rp n q (b9 s) (bK s) (aA s) (.ref d) .none .none (.str m t) Ww (.ref c) .none),#[]}
abbrev F7T(x:Str)(i c:Nat):=FU x x (top i) "hushrow.ranks" 194 c
abbrev Ϣ(x:Str)(i c:Nat):=FU x x (top i) "hushrow.costs" 856 c
abbrev F9T(x:Str)(i c:Nat):=FU x x (top i) "hushrow.places" 945 c
abbrev Ga(x:Str)(i c:Nat):=FU x x (top i) "hushrow.links" 1013 c
abbrev HS(x:Str)(i c:Nat):=FU x x (top i) "hushrow.reach" 1069 c
abbrev Ab(x:Str)(i c:Nat):=FU x x (top i) "hushrow.evening" 1101 c
abbrev gA(x:Str)(i c:Nat):=FU x x (top i) "law_hushrow_k51_all_else_stays" 1188 c
abbrev lW(x y:Str)(i j c:Nat):=FU x y (WA (top i) j) "hushrow.rows" 237 c
def ö(P:RE):Qx:=
 (nat_lit 2,{.none,Ww,.dict #[] 0,#[]})::
 3∘DI #[Ey P "__name__" 165 (.str "law_hushrow_k51_all_else_stays" 1188),DO P 166,Ey P "__package__" 167 .none,Ey P "__loader__" 168 (.builtin "__main__.__loader__#opaque"),Ey P "__spec__" 169 .none,ER P "__annotations__" 170 6,ER P "__builtins__" 171 4,Ey P "__file__" 173 (.str "/claim/cut.py" 172),Ey P "__cached__" 174 .none,ER P "_wall" 193 21,ER P "only" 202 28,ER P "joined" 210 35,ER P "top" 217 42,ER P "fits" 225 49,ER P "names_in" 236 56,ER P "each_once" 247 63,ER P "Row" 290 94,ER P "HandRow" 325 122,ER P "GivenRow" 362 148,ER P "OwnRow" 397 174,ER P "LetRow" 432 200,ER P "SetRow" 481 240,ER P "PutRow" 532 280,ER P "SendRow" 574 313,ER P "SayRow" 625 353,ER P "CallRow" 666 384,ER P "LastRow" 689 403,ER P "IfRow" 737 436,ER P "LoopRow" 785 469,ER P "DeedRow" 822 495,ER P "Program" 855 514,ER P "most_of" 863 523,ER P "most_of_row" 873 530,ER P "exact_of" 884 537,ER P "exact_of_row" 892 544,ER P "one_more" 899 551,ER P "exact_of_if" 909 558,ER P "exact_of_loop" 918 565,ER P "balanced" 926 572,ER P "mosts" 935 579,ER P "exacts" 944 586,Ey P "CLOCK" 948 (.str "the clock" 947),ER P "row_place" 955 593,ER P "laid_rows" 966 600,ER P "laid_inside" 975 607,ER P "laid_program" 984 614,ER P "is_place" 991 621,ER P "head_places" 1000 628,ER P "places" 1012 635,ER P "drawn" 1020 640,ER P "row_links" 1031 647,ER P "said_links" 1040 654,ER P "called_links" 1053 661,ER P "step_links" 1062 668,ER P "links" 1068 674,ER P "sources" 1076 679,ER P "sources_of" 1082 684,ER P "ways_of" 1088 689,ER P "arrivals" 1094 694,ER P "table" 1100 700,ER P "rows_above" 1115 707,ER P "evened" 1122 713,ER P "head_copy" 1129 720,ER P "deed_copy" 1138 727,ER P "rows_evened" 1144 732,ER P "row_evened" 1153 739,ER P "plain_copy" 1160 746,ER P "if_evened" 1175 753,ER P "loop_evened" 1187 760,ER P "_law_cell_at" 1197 767,ER P "_law_mix" 1208 774,ER P "_law_name" 1222 781,ER P "_law_number" 1229 788,ER P "_law_thing" 1237 795,ER P "_law_value" 1248 802,ER P "_law_kind" 1260 809,ER P "_law_plain" 1266 814,ER P "_law_idles" 1274 821,ER P "_law_block" 1292 828,ER P "_law_nodes" 1304 835,ER P "_law_made" 1314 842,ER P "_law_heads" 1324 849,ER P "_law_drawn" 1330 854,ER P "_law_program" 1342 861,ER P "_law_same" 1351 868,ER P "_law_shape" 1358 875,ER P "_law_shapes" 1364 880,ER P "_law_whole_shape" 1371 887,ER P "_law_blocks" 1380 894,ER P "_law_all_blocks" 1389 901,ER P "_law_ways" 1397 908,ER P "_law_long" 1410 915,ER P "_law_known" 1419 922,ER P "_law_dues" 1434 929,ER P "_law_good" 1444 936,ER P "_law_lists" 1453 943,ER P "_law_spoil" 1466 950,ER P "law" 1483 957] 98::
 27∘CO "only" "only" 196 5 1 22 200::
 28∘F7T "only" 2 27::
 34∘CO "joined" "joined" 203 7 2 29 208::
 35∘F7T "joined" 3 34::
 41∘CO "top" "top" 211 9 1 36 215::
 42∘F7T "top" 4 41::
 48∘CO "fits" "fits" 218 11 2 43 223::
 49∘F7T "fits" 5 48::
 55∘CO "names_in" "names_in" 228 14 1 50 234::
 56∘FU "names_in" "names_in" (top 7) "hushrow.things" 226 55::
 62∘CO "each_once" "each_once" 239 21 1 57 245::
 63∘FU "each_once" "each_once" (top 9) "hushrow.rows" 237 62::
 76∘CO "__init__" "Row.__init__" 260 29 2 71 265::
 77∘lW "__init__" "Row.__init__" 10 0 76::
 93∘DI #[ł P 255,FL P 259 27 258,ER P "__init__" 267 77,ER P "reads" 274 84,ER P "target" 281 91,SA P 283 92,ER P "__dict__" 285 95,ER P "__weakref__" 287 96,DO P 288] 4::
 94∘CX "Row" 94 93 [.type "object"] [.type "object"] [.ref 122,.ref 148,.ref 174,.ref 200,.ref 240,.ref 280,.ref 313,.ref 353,.ref 384,.ref 403,.ref 436,.ref 469,.ref 495] Ww 248 256 "object.__new__"::
 (nat_lit 95,{(.type "getset_descriptor"),Ww,.fields #[(.str "__dict__" 284),(.ref 94),(.builtin "function.__dict__"),(.builtin "function.__dict__#set")],#[]})::
 96∘WR "__weakref__" 286 94 "ExceptionGroup.__weakref__"::
 111∘CO "__init__" "HandRow.__init__" 303 39 4 106 310::
 112∘lW "__init__" "HandRow.__init__" 11 0 111::
 121∘DI #[ł P 298,FL P 302 37 301,ER P "__init__" 312 112,ER P "shown" 319 119,SA P 322 120,DO P 323] 2::
 122∘CX "HandRow" 122 121 [.ref 94] [.ref 94,.type "object"] [] (Wv (.ref 99)) 291 299 "object.__new__"::
 137∘CO "__init__" "GivenRow.__init__" 338 48 5 132 346::
 138∘lW "__init__" "GivenRow.__init__" 12 0 137::
 147∘DI #[ł P 333,FL P 337 46 336,ER P "__init__" 348 138,ER P "shown" 355 145,SA P 359 146,DO P 360] 2::
 148∘CX "GivenRow" 148 147 [.ref 94] [.ref 94,.type "object"] [] (Wv (.ref 125)) 326 334 "object.__new__"::
 163∘CO "__init__" "OwnRow.__init__" 375 58 4 158 382::
 164∘lW "__init__" "OwnRow.__init__" 13 0 163::
 173∘DI #[ł P 370,FL P 374 56 373,ER P "__init__" 384 164,ER P "shown" 391 171,SA P 394 172,DO P 395] 2::
 174∘CX "OwnRow" 174 173 [.ref 94] [.ref 94,.type "object"] [] (Wv (.ref 151)) 363 371 "object.__new__"::
 189∘CO "__init__" "LetRow.__init__" 410 67 4 184 417::
 190∘lW "__init__" "LetRow.__init__" 14 0 189::
 199∘DI #[ł P 405,FL P 409 65 408,ER P "__init__" 419 190,ER P "shown" 426 197,SA P 429 198,DO P 430] 2::
 200∘CX "LetRow" 200 199 [.ref 94] [.ref 94,.type "object"] [] (Wv (.ref 177)) 398 406 "object.__new__"::
 215∘CO "__init__" "SetRow.__init__" 445 76 4 210 452::
 216∘lW "__init__" "SetRow.__init__" 15 0 215::
 229∘CO "reads" "SetRow.reads" 462 84 1 224 466::
 230∘lW "reads" "SetRow.reads" 15 2 229::
 239∘DI #[ł P 440,FL P 444 74 443,ER P "__init__" 454 216,ER P "shown" 461 223,ER P "reads" 468 230,ER P "target" 475 237,SA P 478 238,DO P 479] 2::
 240∘CX "SetRow" 240 239 [.ref 94] [.ref 94,.type "object"] [] (Wv (.ref 203)) 433 441 "object.__new__"::
 255∘CO "__init__" "PutRow.__init__" 494 91 5 250 502::
 256∘lW "__init__" "PutRow.__init__" 16 0 255::
 269∘CO "reads" "PutRow.reads" 512 100 1 264 516::
 270∘lW "reads" "PutRow.reads" 16 2 269::
 279∘DI #[ł P 489,FL P 493 89 492,ER P "__init__" 504 256,ER P "shown" 511 263,ER P "reads" 518 270,ER P "target" 525 277,SA P 529 278,DO P 530] 2::
 280∘CX "PutRow" 280 279 [.ref 94] [.ref 94,.type "object"] [] (Wv (.ref 243)) 482 490 "object.__new__"::
 295∘CO "__init__" "SendRow.__init__" 545 107 4 290 552::
 296∘lW "__init__" "SendRow.__init__" 17 0 295::
 309∘CO "reads" "SendRow.reads" 562 115 1 304 566::
 310∘lW "reads" "SendRow.reads" 17 2 309::
 312∘DI #[ł P 540,FL P 544 105 543,ER P "__init__" 554 296,ER P "shown" 561 303,ER P "reads" 568 310,SA P 571 311,DO P 572] 2::
 313∘CX "SendRow" 313 312 [.ref 94] [.ref 94,.type "object"] [] (Wv (.ref 283)) 533 541 "object.__new__"::
 328∘CO "__init__" "SayRow.__init__" 587 119 5 323 595::
 329∘lW "__init__" "SayRow.__init__" 18 0 328::
 352∘DI #[ł P 582,FL P 586 117 585,ER P "__init__" 597 329,ER P "shown" 604 336,ER P "reads" 611 343,ER P "target" 618 350,SA P 622 351,DO P 623] 2::
 353∘CX "SayRow" 353 352 [.ref 94] [.ref 94,.type "object"] [] (Wv (.ref 316)) 575 583 "object.__new__"::
 368∘CO "__init__" "CallRow.__init__" 638 135 4 363 645::
 369∘lW "__init__" "CallRow.__init__" 19 0 368::
 383∘DI #[ł P 633,FL P 637 133 636,ER P "__init__" 647 369,ER P "shown" 654 376,ER P "reads" 660 381,SA P 663 382,DO P 664] 2::
 384∘CX "CallRow" 384 383 [.ref 94] [.ref 94,.type "object"] [] (Wv (.ref 356)) 626 634 "object.__new__"::
 402∘DI #[ł P 674,FL P 678 145 677,ER P "shown" 685 400,SA P 686 401,DO P 687] 2::
 403∘CX "LastRow" 403 402 [.ref 94] [.ref 94,.type "object"] [] (Wv (.ref 387)) 667 675 "object.__new__"::
 418∘CO "__init__" "IfRow.__init__" 702 151 7 413 712::
 419∘lW "__init__" "IfRow.__init__" 21 0 418::
 432∘CO "reads" "IfRow.reads" 722 162 1 427 726::
 433∘lW "reads" "IfRow.reads" 21 2 432::
 435∘DI #[ł P 697,FL P 701 149 700,ER P "__init__" 714 419,ER P "shown" 721 426,ER P "reads" 728 433,SA P 734 434,DO P 735] 2::
 436∘CX "IfRow" 436 435 [.ref 94] [.ref 94,.type "object"] [] (Wv (.ref 406)) 690 698 "object.__new__"::
 451∘CO "__init__" "LoopRow.__init__" 750 166 7 446 760::
 452∘lW "__init__" "LoopRow.__init__" 22 0 451::
 465∘CO "reads" "LoopRow.reads" 770 177 1 460 774::
 466∘lW "reads" "LoopRow.reads" 22 2 465::
 468∘DI #[ł P 745,FL P 749 164 748,ER P "__init__" 762 452,ER P "shown" 769 459,ER P "reads" 776 466,SA P 782 467,DO P 783] 2::
 469∘CX "LoopRow" 469 468 [.ref 94] [.ref 94,.type "object"] [] (Wv (.ref 439)) 738 746 "object.__new__"::
 484∘CO "__init__" "DeedRow.__init__" 798 181 5 479 806::
 485∘lW "__init__" "DeedRow.__init__" 23 0 484::
 494∘DI #[ł P 793,FL P 797 179 796,ER P "__init__" 808 485,ER P "shown" 815 492,SA P 819 493,DO P 820] 2::
 495∘CX "DeedRow" 495 494 [.ref 94] [.ref 94,.type "object"] [] (Wv (.ref 472)) 786 794 "object.__new__"::
 510∘CO "__init__" "Program.__init__" 835 191 4 505 842::
 511∘lW "__init__" "Program.__init__" 24 0 510::
 513∘DI #[ł P 830,FL P 834 189 833,ER P "__init__" 844 511,SA P 848 512,ER P "__dict__" 850 515,ER P "__weakref__" 852 516,DO P 853] 4::
 514∘CX "Program" 514 513 [.type "object"] [.type "object"] [] Ww 823 831 "object.__new__"::
 (nat_lit 515,{(.type "getset_descriptor"),Ww,.fields #[(.str "__dict__" 849),(.ref 514),(.builtin "function.__dict__"),(.builtin "function.__dict__#set")],#[]})::
 516∘WR "__weakref__" 851 514 "ExceptionGroup.__weakref__"::
 (nat_lit 522,{(.type "code"),Ww,.fields #[(.str "most_of" 858),(.str "most_of" 859),(.str "/claim/cut.py" 860),(.int (196) 0),(.int (2) 0),(.int (0) 0),(.int (0) 0),(.int (3) 0),(.ref 519),(.bool true),(.int (181) 0),(.ref 520),.none,.none,.none,(.ref 521),(.int (861) 0),(.int (196) 0),(.str "/claim/cut.py" 862)],#[]})::
 523∘Ϣ "most_of" 26 522::
 529∘CO "most_of_row" "most_of_row" 864 198 2 524 871::
 530∘Ϣ "most_of_row" 27 529::
 536∘CO "exact_of" "exact_of" 874 208 2 531 882::
 537∘Ϣ "exact_of" 28 536::
 543∘CO "exact_of_row" "exact_of_row" 885 216 2 538 890::
 544∘Ϣ "exact_of_row" 29 543::
 550∘CO "one_more" "one_more" 893 224 1 545 897::
 551∘Ϣ "one_more" 30 550::
 557∘CO "exact_of_if" "exact_of_if" 900 226 2 552 907::
 558∘Ϣ "exact_of_if" 31 557::
 564∘CO "exact_of_loop" "exact_of_loop" 910 232 2 559 916::
 565∘Ϣ "exact_of_loop" 32 564::
 571∘CO "balanced" "balanced" 919 237 2 566 924::
 572∘Ϣ "balanced" 33 571::
 578∘CO "mosts" "mosts" 927 239 1 573 933::
 579∘Ϣ "mosts" 34 578::
 585∘CO "exacts" "exacts" 936 244 1 580 942::
 586∘Ϣ "exacts" 35 585::
 592∘CO "row_place" "row_place" 949 251 1 587 953::
 593∘F9T "row_place" 38 592::
 599∘CO "laid_rows" "laid_rows" 956 253 3 594 964::
 600∘F9T "laid_rows" 39 599::
 606∘CO "laid_inside" "laid_inside" 967 259 2 601 973::
 607∘F9T "laid_inside" 40 606::
 613∘CO "laid_program" "laid_program" 976 266 1 608 982::
 614∘F9T "laid_program" 41 613::
 620∘CO "is_place" "is_place" 985 271 1 615 989::
 621∘F9T "is_place" 42 620::
 627∘CO "head_places" "head_places" 992 273 1 622 998::
 628∘F9T "head_places" 43 627::
 634∘CO "places" "places" 1001 279 1 629 1010::
 635∘F9T "places" 44 634::
 (nat_lit 639,{(.type "code"),Ww,.fields #[(.str "drawn" 1015),(.str "drawn" 1016),(.str "/claim/cut.py" 1017),(.int (288) 0),(.int (4) 0),(.int (0) 0),(.int (0) 0),(.int (3) 0),(.ref 636),(.bool true),(.int (181) 0),(.ref 637),.none,.none,.none,(.ref 638),(.int (1018) 0),(.int (288) 0),(.str "/claim/cut.py" 1019)],#[]})::
 640∘Ga "drawn" 46 639::
 646∘CO "row_links" "row_links" 1021 290 4 641 1029::
 647∘Ga "row_links" 47 646::
 653∘CO "said_links" "said_links" 1032 303 2 648 1038::
 654∘Ga "said_links" 48 653::
 660∘CO "called_links" "called_links" 1041 307 3 655 1051::
 661∘Ga "called_links" 49 660::
 667∘CO "step_links" "step_links" 1054 315 2 662 1060::
 668∘Ga "step_links" 50 667::
 (nat_lit 669,{(.type "tuple"),Ww,.seq #[(.bool false)] 0,#[]})::
 (nat_lit 673,{(.type "code"),Ww,.fields #[(.str "links" 1063),(.str "links" 1064),(.str "/claim/cut.py" 1065),(.int (322) 0),(.int (2) 0),(.int (0) 0),(.int (0) 0),(.int (3) 0),(.ref 670),(.bool true),(.int (181) 0),(.ref 671),.none,.none,.none,(.ref 672),(.int (1066) 0),(.int (322) 0),(.str "/claim/cut.py" 1067)],#[]})::
 674∘FD "links" "links" (top 51) 669 "hushrow.links" 1013 673::
 (nat_lit 678,{(.type "code"),Ww,.fields #[(.str "sources" 1071),(.str "sources" 1072),(.str "/claim/cut.py" 1073),(.int (332) 0),(.int (1) 0),(.int (0) 0),(.int (0) 0),(.int (3) 0),(.ref 675),(.bool true),(.int (181) 0),(.ref 676),.none,.none,.none,(.ref 677),(.int (1074) 0),(.int (332) 0),(.str "/claim/cut.py" 1075)],#[]})::
 679∘HS "sources" 53 678::
 (nat_lit 683,{(.type "code"),Ww,.fields #[(.str "sources_of" 1077),(.str "sources_of" 1078),(.str "/claim/cut.py" 1079),(.int (334) 0),(.int (2) 0),(.int (0) 0),(.int (0) 0),(.int (3) 0),(.ref 680),(.bool true),(.int (181) 0),(.ref 681),.none,.none,.none,(.ref 682),(.int (1080) 0),(.int (334) 0),(.str "/claim/cut.py" 1081)],#[]})::
 684∘HS "sources_of" 54 683::
 (nat_lit 688,{(.type "code"),Ww,.fields #[(.str "ways_of" 1083),(.str "ways_of" 1084),(.str "/claim/cut.py" 1085),(.int (336) 0),(.int (2) 0),(.int (0) 0),(.int (0) 0),(.int (3) 0),(.ref 685),(.bool true),(.int (181) 0),(.ref 686),.none,.none,.none,(.ref 687),(.int (1086) 0),(.int (336) 0),(.str "/claim/cut.py" 1087)],#[]})::
 689∘HS "ways_of" 55 688::
 (nat_lit 693,{(.type "code"),Ww,.fields #[(.str "arrivals" 1089),(.str "arrivals" 1090),(.str "/claim/cut.py" 1091),(.int (341) 0),(.int (2) 0),(.int (0) 0),(.int (0) 0),(.int (3) 0),(.ref 690),(.bool true),(.int (181) 0),(.ref 691),.none,.none,.none,(.ref 692),(.int (1092) 0),(.int (341) 0),(.str "/claim/cut.py" 1093)],#[]})::
 694∘HS "arrivals" 56 693::
 (nat_lit 695,{(.type "tuple"),Ww,.seq #[(.bool false)] 0,#[]})::
 (nat_lit 699,{(.type "code"),Ww,.fields #[(.str "table" 1095),(.str "table" 1096),(.str "/claim/cut.py" 1097),(.int (353) 0),(.int (2) 0),(.int (0) 0),(.int (0) 0),(.int (3) 0),(.ref 696),(.bool true),(.int (181) 0),(.ref 697),.none,.none,.none,(.ref 698),(.int (1098) 0),(.int (353) 0),(.str "/claim/cut.py" 1099)],#[]})::
 700∘FD "table" "table" (top 57) 695 "hushrow.reach" 1069 699::
 706∘CO "rows_above" "rows_above" 1103 361 2 701 1113::
 707∘Ab "rows_above" 59 706::
 (nat_lit 708,{(.type "tuple"),Ww,.seq #[(.int (0) 1116)] 0,#[]})::
 (nat_lit 712,{(.type "code"),Ww,.fields #[(.str "evened" 1117),(.str "evened" 1118),(.str "/claim/cut.py" 1119),(.int (369) 0),(.int (2) 0),(.int (0) 0),(.int (0) 0),(.int (3) 0),(.ref 709),(.bool true),(.int (181) 0),(.ref 710),.none,.none,.none,(.ref 711),(.int (1120) 0),(.int (369) 0),(.str "/claim/cut.py" 1121)],#[]})::
 713∘FD "evened" "evened" (top 60) 708 "hushrow.evening" 1101 712::
 719∘CO "head_copy" "head_copy" 1123 375 1 714 1127::
 720∘Ab "head_copy" 61 719::
 726∘CO "deed_copy" "deed_copy" 1130 383 3 721 1136::
 727∘Ab "deed_copy" 62 726::
 (nat_lit 731,{(.type "code"),Ww,.fields #[(.str "rows_evened" 1139),(.str "rows_evened" 1140),(.str "/claim/cut.py" 1141),(.int (385) 0),(.int (3) 0),(.int (0) 0),(.int (0) 0),(.int (3) 0),(.ref 728),(.bool true),(.int (181) 0),(.ref 729),.none,.none,.none,(.ref 730),(.int (1142) 0),(.int (385) 0),(.str "/claim/cut.py" 1143)],#[]})::
 732∘Ab "rows_evened" 63 731::
 738∘CO "row_evened" "row_evened" 1145 387 3 733 1151::
 739∘Ab "row_evened" 64 738::
 745∘CO "plain_copy" "plain_copy" 1154 393 1 740 1158::
 746∘Ab "plain_copy" 65 745::
 752∘CO "if_evened" "if_evened" 1161 405 3 747 1173::
 753∘Ab "if_evened" 66 752::
 759∘CO "loop_evened" "loop_evened" 1176 416 3 754 1185::
 760∘Ab "loop_evened" 67 759::
 766∘CO "_law_cell_at" "_law_cell_at" 1190 425 2 761 1195::
 767∘gA "_law_cell_at" 69 766::
 773∘CO "_law_mix" "_law_mix" 1198 429 2 768 1206::
 774∘gA "_law_mix" 70 773::
 780∘CO "_law_name" "_law_name" 1209 439 2 775 1220::
 781∘gA "_law_name" 71 780::
 787∘CO "_law_number" "_law_number" 1223 452 1 782 1227::
 788∘gA "_law_number" 72 787::
 794∘CO "_law_thing" "_law_thing" 1230 458 2 789 1235::
 795∘gA "_law_thing" 73 794::
 801∘CO "_law_value" "_law_value" 1238 464 3 796 1246::
 802∘gA "_law_value" 74 801::
 808∘CO "_law_kind" "_law_kind" 1249 472 4 803 1258::
 809∘gA "_law_kind" 75 808::
 (nat_lit 813,{(.type "code"),Ww,.fields #[(.str "_law_plain" 1261),(.str "_law_plain" 1262),(.str "/claim/cut.py" 1263),(.int (482) 0),(.int (3) 0),(.int (0) 0),(.int (0) 0),(.int (3) 0),(.ref 810),(.bool true),(.int (181) 0),(.ref 811),.none,.none,.none,(.ref 812),(.int (1264) 0),(.int (482) 0),(.str "/claim/cut.py" 1265)],#[]})::
 814∘gA "_law_plain" 76 813::
 820∘CO "_law_idles" "_law_idles" 1267 500 1 815 1272::
 821∘gA "_law_idles" 77 820::
 827∘CO "_law_block" "_law_block" 1275 503 5 822 1290::
 828∘gA "_law_block" 78 827::
 834∘CO "_law_nodes" "_law_nodes" 1293 519 3 829 1302::
 835∘gA "_law_nodes" 79 834::
 841∘CO "_law_made" "_law_made" 1305 531 1 836 1312::
 842∘gA "_law_made" 80 841::
 848∘CO "_law_heads" "_law_heads" 1315 552 2 843 1322::
 849∘gA "_law_heads" 81 848::
 (nat_lit 853,{(.type "code"),Ww,.fields #[(.str "_law_drawn" 1325),(.str "_law_drawn" 1326),(.str "/claim/cut.py" 1327),(.int (563) 0),(.int (1) 0),(.int (0) 0),(.int (0) 0),(.int (3) 0),(.ref 850),(.bool true),(.int (181) 0),(.ref 851),.none,.none,.none,(.ref 852),(.int (1328) 0),(.int (563) 0),(.str "/claim/cut.py" 1329)],#[]})::
 854∘gA "_law_drawn" 82 853::
 860∘CO "_law_program" "_law_program" 1331 583 2 855 1340::
 861∘gA "_law_program" 83 860::
 867∘CO "_law_same" "_law_same" 1343 588 2 862 1349::
 868∘gA "_law_same" 84 867::
 874∘CO "_law_shape" "_law_shape" 1352 603 1 869 1356::
 875∘gA "_law_shape" 85 874::
 (nat_lit 879,{(.type "code"),Ww,.fields #[(.str "_law_shapes" 1359),(.str "_law_shapes" 1360),(.str "/claim/cut.py" 1361),(.int (629) 0),(.int (1) 0),(.int (0) 0),(.int (0) 0),(.int (3) 0),(.ref 876),(.bool true),(.int (181) 0),(.ref 877),.none,.none,.none,(.ref 878),(.int (1362) 0),(.int (629) 0),(.str "/claim/cut.py" 1363)],#[]})::
 880∘gA "_law_shapes" 86 879::
 886∘CO "_law_whole_shape" "_law_whole_shape" 1365 633 1 881 1369::
 887∘gA "_law_whole_shape" 87 886::
 893∘CO "_law_blocks" "_law_blocks" 1372 635 1 888 1378::
 894∘gA "_law_blocks" 88 893::
 900∘CO "_law_all_blocks" "_law_all_blocks" 1381 643 1 895 1387::
 901∘gA "_law_all_blocks" 89 900::
 907∘CO "_law_ways" "_law_ways" 1390 648 2 902 1395::
 908∘gA "_law_ways" 90 907::
 914∘CO "_law_long" "_law_long" 1398 652 2 909 1408::
 915∘gA "_law_long" 91 914::
 921∘CO "_law_known" "_law_known" 1411 663 1 916 1417::
 922∘gA "_law_known" 92 921::
 928∘CO "_law_dues" "_law_dues" 1420 668 2 923 1432::
 929∘gA "_law_dues" 93 928::
 935∘CO "_law_good" "_law_good" 1435 679 3 930 1442::
 936∘gA "_law_good" 94 935::
 942∘CO "_law_lists" "_law_lists" 1445 686 1 937 1451::
 943∘gA "_law_lists" 95 942::
 949∘CO "_law_spoil" "_law_spoil" 1454 694 1 944 1464::
 950∘gA "_law_spoil" 96 949::
 956∘CO "law" "law" 1467 710 1 951 1481::
 (nat_lit 957,gA "law" 97 956)::[]
def sy:List Qs:=[2,3,27,28,34,35,41,42,48,49,55,56,62,63,76,77,93,94,95,96,111,112,121,122,137,138,147,148,163,164,173,174,189,190,199,200,215,216,229,230,239,240,255,256,269,270,279,280,295,296,309,310,312,313,328,329,352,353,368,369,383,384,402,403,418,419,432,433,435,436,451,452,465,466,468,469,484,485,494,495,510,511,513,514,515,516,522,523,529,530,536,537,543,544,550,551,557,558,564,565,571,572,578,579,585,586,592,593,599,600,606,607,613,614,620,621,627,628,634,635,639,640,646,647,653,654,660,661,667,668,669,673,674,678,679,683,684,688,689,693,694,695,699,700,706,707,708,712,713,719,720,726,727,731,732,738,739,745,746,752,753,759,760,766,767,773,774,780,781,787,788,794,795,801,802,808,809,813,814,820,821,827,828,834,835,841,842,848,849,853,854,860,861,867,868,874,875,879,880,886,887,893,894,900,901,907,908,914,915,921,922,928,929,935,936,942,943,949,950,956,957]
theorem kN(P:RE):sy=(ö P).map (·.1):=by kernel_rfl
abbrev prog:Program:=PySem.Challenge.pw_hushrow_k51_all_else_stays
abbrev law:Vj:=PySem.Challenge.rw_hushrow_k51_all_else_stays
def dC:Program:={ prog with main:={ prog.main with body:=[top 0,top 2,top 3,top 4,top 5,top 7,top 9,top 10,top 11,top 12,top 13,top 14,top 15,top 16,top 17,top 18,top 19,top 20,top 21,top 22,top 23,top 24,top 26,top 27,top 28,top 29,top 30,top 31,top 32,top 33,top 34,top 35,top 37,top 38,top 39,top 40,top 41,top 42,top 43,top 44,top 46,top 47,top 48,top 49,top 50,top 53,top 54,top 55,top 56,top 59,top 61,top 62,top 63,top 64,top 65,top 66,top 67,top 69,top 70,top 71,top 72,top 73,top 74,top 75,top 76,top 77,top 78,top 79,top 80,top 81,top 82,top 83,top 84,top 85,top 86,top 87,top 88,top 89,top 90,top 91,top 92,top 93,top 94,top 95,top 96,top 97] } }
abbrev hook:W.Hook:=U2 ö sy kN
abbrev test:Qw->Bool:=λs=>xlAt dC [] s&&recOk (RowW.records law.row.toRowW) s
abbrev Lj:Qw->List (Option Obj):=λs=>sy.map s.heap.get?
abbrev MT:QD->List (Option Obj):=λw=>(ö w.params).map λp=>Wv p.2
def T₀(P:RE):BT:=Hd.treeOf (Tt P).objs.toList 0 .nil
def lookL(w:QD)(os:Q3):=(Hd.iq QO prog w 11 (Wv (.ref 6)) 13666 {T₀ w.params,11,{},Pu [],Sx,SY,os} (Rk prog)).map λs=>Hd.BC prog (Tt w.params) s.abs
def lookO(w:QD)(os:Q3):=(Hd.iq QO prog w 11 (Wv (.ref 6)) 13666 {T₀ w.params,11,{},Pu [],Sx,SY,os} (Rk prog)).map λs=>seen ((recsOf dC).map (·.name)) (ownsOf dC) [] { s.abs with gens:=#[] }
def lookY(w:QD)(os:Q3):=(Hd.iq QO prog w 11 (Wv (.ref 6)) 13666 {T₀ w.params,11,{},Pu [],Sx,SY,os} (Rk prog)).map λs=>s.abs.heap.bltView
def lookW(w:QD)(os:Q3):=(Hd.iq QO prog w 11 (Wv (.ref 6)) 13666 {T₀ w.params,11,{},Pu [],Sx,SY,os} (Rk prog)).map λs=>(Sk dC ["links","table","evened"] (QS prog.main.body) test true s.abs).2.2.1
def lookX(w:QD)(os:Q3):=(Hd.iq QO prog w 11 (Wv (.ref 6)) 13666 {T₀ w.params,11,{},Pu [],Sx,SY,os} (Rk prog)).map λs=>(Sk dC ["links","table","evened"] (QS prog.main.body) test true s.abs).2.2.2.1
def lookU(w:QD)(os:Q3):=(Hd.iq QO prog w 11 (Wv (.ref 6)) 13666 {T₀ w.params,11,{},Pu [],Sx,SY,os} (Rk prog)).map λs=>(pinSeenD dC (Wo dC) s.abs,plainSeenE dC (looseW dC ["links","table","evened"]) s.abs,plainSeenD dC ["links","table","evened"] s.abs,wideSeen dC s.abs,clsSeenW dC ["links","table","evened"] s.abs)
def lookM(w:QD)(os:Q3):=(Hd.iq QO prog w 11 (Wv (.ref 6)) 13666 {T₀ w.params,11,{},Pu [],Sx,SY,os} (Rk prog)).map λs=>Lj s.abs
def lookS(w:QD)(os:Q3):=Wv (MT w)
def wQ(w:QD)(os:Q3):=Wv true
def lookQ(w:QD)(os:Q3):=Wv (expectedOf dC)
def lookB(w:QD)(os:Q3):=Wv bltViewBooted
def lookV(w:QD)(os:Q3):=Wv (pinGoodD (Wo dC),plainGoodE dC (looseW dC ["links","table","evened"]),plainGoodD dC ["links","table","evened"],wideGood dC,clsGoodW dC ["links","table","evened"])
theorem lookQ_self:lookQ=lookQ:=rfl
theorem lookB_self:lookB=lookB:=rfl
theorem lookV_self:lookV=lookV:=rfl
theorem lookL_self:lookL=lookL:=rfl
theorem lookO_self:lookO=lookO:=rfl
theorem lookY_self:lookY=lookY:=rfl
theorem lookW_self:lookW=lookW:=rfl
theorem lookX_self:lookX=lookX:=rfl
theorem lookU_self:lookU=lookU:=rfl
theorem lookM_self:lookM=lookM:=rfl
theorem lookS_self:lookS=lookS:=rfl
end K51
def PySem.W.Fast.tw14598715356260435866:PySem.Params->PySem.Obj:=Vk
theorem PySem.W.Fast.te14598715356260435866:Vk=PySem.W.Fast.tw14598715356260435866:=rfl
def PySem.W.Fast.tw2440655526632799063:PySem.Program:=PySem.Challenge.pw_hushrow_k51_all_else_stays
theorem PySem.W.Fast.te2440655526632799063:PySem.Challenge.pw_hushrow_k51_all_else_stays=PySem.W.Fast.tw2440655526632799063:=rfl
def PySem.W.Fast.tw50874278520840488:PySem.Params->Sl:=K51.ö
theorem PySem.W.Fast.te50874278520840488:K51.ö=PySem.W.Fast.tw50874278520840488:=rfl
lay_quick K51.lookQ K51.lookB K51.lookV K51.lookL K51.lookO K51.lookY K51.lookW K51.lookX K51.lookU K51.lookM K51.lookS
name_quick K51lookQ for K51.lookQ by K51.lookQ_self
name_quick K51lookB for K51.lookB by K51.lookB_self
name_quick K51lookV for K51.lookV by K51.lookV_self
name_quick K51lookL for K51.lookL by K51.lookL_self
name_quick K51lookO for K51.lookO by K51.lookO_self
name_quick K51lookY for K51.lookY by K51.lookY_self
name_quick K51lookW for K51.lookW by K51.lookW_self
name_quick K51lookX for K51.lookX by K51.lookX_self
name_quick K51lookU for K51.lookU by K51.lookU_self
name_quick K51lookM for K51.lookM by K51.lookM_self
name_quick K51lookS for K51.lookS by K51.lookS_self
namespace K51
open PySem L2 PySem.W PyProof.Rows
theorem x5:W.Fast.K51lookY=W.Fast.K51lookB:=by kernel_rfl
theorem zI:lookY=lookB:=W.Fast.K51lookY_eq.trans (x5.trans W.Fast.K51lookB_eq.symm)
theorem yj:W.Fast.K51lookM=W.Fast.K51lookS:=by kernel_rfl
theorem Ae:lookM=lookS:=W.Fast.K51lookM_eq.trans (yj.trans W.Fast.K51lookS_eq.symm)
theorem xN:W.Fast.K51lookO=W.Fast.K51lookQ:=by kernel_rfl
theorem yx:lookO=lookQ:=W.Fast.K51lookO_eq.trans (xN.trans W.Fast.K51lookQ_eq.symm)
theorem yw:W.Fast.K51lookU=W.Fast.K51lookV:=by kernel_rfl
theorem yA:lookU=lookV:=W.Fast.K51lookU_eq.trans (yw.trans W.Fast.K51lookV_eq.symm)
theorem yD:W.Fast.K51lookL=wQ:=by kernel_rfl
theorem Be:lookL=wQ:=W.Fast.K51lookL_eq.trans yD
theorem yt:W.Fast.K51lookW=wQ:=by kernel_rfl
theorem zj:lookW=wQ:=W.Fast.K51lookW_eq.trans yt
theorem xB:W.Fast.K51lookX=wQ:=by kernel_rfl
theorem zG:lookX=wQ:=W.Fast.K51lookX_eq.trans xB
theorem Iu(P:RE):Wn (T₀ P) 11 {}=Tt P:=by kernel_rfl
theorem G0(w:QD):((Tt w.params).isNs QI&&(Pu []:Array Ts).size==0,(Tt w.params).objs.size,(Tt w.params).nsMap QI "__annotations__")=(true,11,Wv (.ref 6)):=by kernel_rfl
theorem LN{p q:Program}{loose:List Str}{Xt:Qw->Bool}{α:Type}{Yf:Qw->α}{Ya:QD->α}{N:Nat}{g0:Bool}{H₀:RE->QN}{ė:Array Ts}{d₀:Drawn}{k₀ m₀ n₀:Nat}{ann:Option Qt}{T₀:RE->BT}{life:Life}
  (opn:∀w:QD,(Uz QO p w N).map (λs=>(s.heap,s.gens,s.drawn,s.toks))=Wv (H₀ w.params,ė,d₀,k₀))
  (size:∀w:QD,((H₀ w.params).isNs QI&&ė.size==0,(H₀ w.params).objs.size,(H₀ w.params).nsMap QI "__annotations__")=(true,m₀,ann))
  (tree:∀P:RE,Wn (T₀ P) n₀ life=H₀ P)
  (Ũ:∀(w:QD)(os:Q3),(Hd.iq QO p w m₀ ann N ⟨T₀ w.params,n₀,life,ė,d₀,k₀,os⟩ (Rk p)).map (λs=>Hd.BC p (H₀ w.params) s.abs)=Wv true)
  (Ŧ:∀(w:QD)(os:Q3),(Hd.iq QO p w m₀ ann N ⟨T₀ w.params,n₀,life,ė,d₀,k₀,os⟩ (Rk p)).map (λs=>seen ((recsOf q).map (·.name)) (ownsOf q) [] { s.abs with gens:=#[] })=Wv (expectedOf q))
  (Ţ:∀(w:QD)(os:Q3),(Hd.iq QO p w m₀ ann N ⟨T₀ w.params,n₀,life,ė,d₀,k₀,os⟩ (Rk p)).map (λs=>s.abs.heap.bltView)=Wv bltViewBooted)
  (Ť:∀(w:QD)(os:Q3),(Hd.iq QO p w m₀ ann N ⟨T₀ w.params,n₀,life,ė,d₀,k₀,os⟩ (Rk p)).map (λs=>(Sk q loose (QS p.main.body) Xt g0 s.abs).2.2.1)=Wv true)
  (ţ:∀(w:QD)(os:Q3),(Hd.iq QO p w m₀ ann N ⟨T₀ w.params,n₀,life,ė,d₀,k₀,os⟩ (Rk p)).map (λs=>(Sk q loose (QS p.main.body) Xt g0 s.abs).2.2.2.1)=Wv true)
  (ť:∀(w:QD)(os:Q3),(Hd.iq QO p w m₀ ann N ⟨T₀ w.params,n₀,life,ė,d₀,k₀,os⟩ (Rk p)).map (λs=>(pinSeenD q (Wo q) s.abs,plainSeenE q (looseW q loose) s.abs,plainSeenD q loose s.abs,wideSeen q s.abs,clsSeenW q loose s.abs))=Wv (pinGoodD (Wo q),plainGoodE q (looseW q loose),plainGoodD q loose,wideGood q,clsGoodW q loose))
  (ŧ:∀(w:QD)(os:Q3),(Hd.iq QO p w m₀ ann N ⟨T₀ w.params,n₀,life,ė,d₀,k₀,os⟩ (Rk p)).map (λs=>Yf s.abs)=Wv (Ya w)) :
  LeftO p q loose Xt Yf Ya N g0:=Hd.EJ opn size tree Ũ Ŧ Ţ Ť ţ ť ŧ
theorem left:LeftO prog dC ["links","table","evened"] test hook.obs hook.val 13666:=LN (boot_open (p:=prog) (N:=13666) (by kernel_rfl) rfl (λ_=>rfl)) G0 Iu (λw os=>congrFun (congrFun Be w) os) (λw os=>congrFun (congrFun yx w) os) (λw os=>congrFun (congrFun zI w) os) (λw os=>congrFun (congrFun zj w) os) (λw os=>congrFun (congrFun zG w) os) (λw os=>congrFun (congrFun yA w) os) (λw os=>congrFun (congrFun Ae w) os)
end K51
namespace L2
open PySem PySem.Spec PyProof.Rows
abbrev Key:=Sum Int Str
def wj:Key->Qt->Bool
 | .inl k,v=>Vw k v
 | .inr x,v=>UA x v
def MJ(w:QD):Key->Int
 | .inl k=>hashInt k
 | .inr x=>hashStr w x
theorem dO:∀{k:Key}{v:Qt},wj k v=true->(∃i t,k=OR i/\v=RI i t)\/(∃x t,k=N8 x/\v=Uk x t)
 | .inl i,v,h=>by
  obtain⟨t,e⟩:=U3 (k:=i) (v:=v) h;exact .inl ⟨i,t,rfl,e⟩
 | .inr x,v,h=>by
  obtain⟨t,e⟩:=Ur (x:=x) (v:=v) h;exact .inr ⟨x,t,rfl,e⟩
theorem DE(i:Int)(t:Tok):wj (.inl i) (.int i t)=true:=by simp[wj,Vw]
theorem DT(x:Str)(t:Tok):wj (.inr x) (.str x t)=true:=by simp[wj,UA]
theorem Kl(a b:Int):decide ((OR a:Key)=OR b)=(a==b):=by
 by_cases e:a=b
 ·subst e;simp
 have h:¬ (OR a:Key)=OR b:=λq=>e (OR.inj q);rw[decide_eq_false h];exact(beq_eq_false_iff_ne.mpr e).symm
theorem J9(a b:Str):decide ((N8 a:Key)=N8 b)=decide (a=b):=by
 by_cases e:a=b
 ·subst e;simp
 have h:¬ (N8 a:Key)=N8 b:=λq=>e (N8.inj q);rw[decide_eq_false h,decide_eq_false e]
theorem JA(a:Int)(b:Str):decide ((OR a:Key)=N8 b)=false:=decide_eq_false (λq=>nomatch q)
theorem IZ(a:Str)(b:Int):decide ((N8 a:Key)=OR b)=false:=decide_eq_false (λq=>nomatch q)
def cA(prog:Program)(w:QD):PySem.KeyKind prog w Key where
 is:=wj
 hash:=MJ w
 inj:=λv a b ha hb=>by
  rcases dO ha with⟨i,t,rfl,rfl⟩|⟨x,t,rfl,rfl⟩
  ·rcases dO hb with⟨j,u,rfl,e⟩|⟨y,u,rfl,e⟩
   ·injection e with e1 _;rw[e1]
   exact nomatch e
  rcases dO hb with⟨j,u,rfl,e⟩|⟨y,u,rfl,e⟩
  ·exact nomatch e
  injection e with e1 _;rw[e1]
 byValue:=λk v h=>by
  rcases dO h with⟨i,t,rfl,rfl⟩|⟨x,t,rfl,rfl⟩<;>rfl
 pyHash:=λhv h=>by
  rcases dO hv with⟨i,t,rfl,rfl⟩|⟨x,t,rfl,rfl⟩
  ·exact wpAny_pyHash_int h
  exact wpAny_pyHash_str h
 eqBool:=λhu hv h=>by
  rcases dO hu with⟨i,t,rfl,rfl⟩|⟨x,t,rfl,rfl⟩
  ·rcases dO hv with⟨j,u,rfl,rfl⟩|⟨y,u,rfl,rfl⟩
   ·rw[Kl]at h;exact wpAny_eqBool_int h
   rw[JA]at h;exact UH i t y u _ _ _ _ h
  rcases dO hv with⟨j,u,rfl,rfl⟩|⟨y,u,rfl,rfl⟩
  ·rw[IZ]at h;exact UI x t j u _ _ _ _ h
  rw[J9]at h;exact wpAny_eqBool_str h
 «strs»:=λk x t v h=>by
  rcases dO h with⟨i,u,rfl,e⟩|⟨y,u,rfl,e⟩
  ·exact nomatch e
  injection e with e1 _;subst e1;cases v<;>rfl
theorem zU(prog:Program)(w:QD)(i:Int)(t:Tok):(cA prog w).is (.inl i) (.int i t)=true:=DE i t
theorem zd(prog:Program)(w:QD)(x:Str)(t:Tok):(cA prog w).is (.inr x) (.str x t)=true:=DT x t
inductive V where
 |È|bl (b:Bool)|int (i:Int)|str (x:Str)|Į (b:Array UInt8)|Ϻ (b:UInt64)|ref (a:Qs)|ty (n:String)
 deriving DecidableEq
def WC:V->Qt->Prop
 | .È,u=>u=Sy
 | .bl b,u=>u=UJ b
 | .int i,u=>∃t,u=RI i t
 | .str x,u=>∃t,u=Uk x t
 | .Į b,u=>∃t,u=Value.bytes b t
 | .Ϻ b,u=>∃t,u=Vx b t
 | .ref a,u=>u=QJ a
 | .ty n,u=>u=Rq n
abbrev Wz:List V->List Qt->Prop:=Paired WC
theorem Wz.length(r:Wz xs us):xs.length=us.length:=Qy r
theorem gi{α β:Type}{F:α->β->Prop}{l:List α}{m:List β}(h:Paired F l m):∀{i:Nat}{a:α},l[i]?=Wv a->∃b,m[i]?=Wv b/\F a b:=by
 induction h with
 |nil=>intro i a e;cases e
 |cons r _ ih=>
  intro i a e;cases i with
  |zero=>cases e;exact{_,rfl,r}
  |succ i=>exact ih (i:=i) e
theorem Dq(h:F x y)(r:Paired F xs ys):Paired F (xs.set i x) (ys.set i y):=by
 induction r generalizing i with
 |nil=>exact .nil
 |cons q t ih=>
  cases i with
  |zero=>exact .cons h t
  |succ i=>exact .cons q ih
theorem yy(t:Nat)(h:Paired F l m):Paired F (l.take t) (m.take t):=by
 induction h generalizing t with
 |nil=>cases t<;>exact .nil
 |cons q _ ih=>
  cases t with
  |zero=>exact .nil
  |succ t=>exact .cons q (ih t)
theorem zh(t:Nat)(h:Paired F l m):Paired F (l.drop t) (m.drop t):=by
 induction h generalizing t with
 |nil=>cases t<;>exact .nil
 |cons q r ih=>
  cases t with
  |zero=>exact .cons q r
  |succ t=>exact ih t
theorem BA(h:Paired F xs ys)(g:Paired F zs ws):Paired F (xs++zs) (ys++ws):=by
 induction h with
 |nil=>exact g
 |cons q _ ih=>exact .cons q ih
theorem Wz.get{i:Nat}(h:Wz xs us)(e:xs[i]?=Wv x):∃u,us[i]?=Wv u/\WC x u:=gi h e
theorem Wz.set(r:WC x u)(i:Nat)(h:Wz xs us):Wz (xs.set i x) (us.set i u):=Dq r h
theorem Wz.append(h:Wz xs us)(g:Wz ys ws):Wz (xs++ys) (us++ws):=BA h g
theorem Wz.take(n:Nat)(h:Wz xs us):Wz (xs.take n) (us.take n):=yy n h
theorem Wz.drop(n:Nat)(h:Wz xs us):Wz (xs.drop n) (us.drop n):=zh n h
theorem Wz.none_of:∀{xs:List V}{us:List Qt}{i:Nat},Wz xs us->xs[i]?=Ww->us[i]?=Ww:=λ{xs us i} r e=>by
 have h1:=r.length;have h2:xs.length<=i:=List.getElem?_eq_none_iff.mp e;exact List.getElem?_eq_none_iff.mpr ()
def oU:Option V->Option Qt->Prop
 |some v,Wv u=>WC v u
 |none,Ww=>True
 |_,_=>False
def KV{κ:Type}:List (κ×V)->List (κ×Qt)->Prop:=Paired λ(p:κ×V)(q:κ×Qt)=>p.1=q.1/\WC p.2 q.2
def kV:Key->V
 | .inl i=>.int i
 | .inr x=>.str x
inductive HO where
 |lst (xs:List V)
 |tup (xs:List V)
 |dK (kvs:List (Key×V))|dT (kvs:List (List Key×V))
 |set (S:Int->Bool) (n:Nat)
 |ins (C dx:Qs) (fs:List (Str×V))
 |own (x:Qs)
 |xd (fs:List (Str×V))
 |met (f x:Qs)
 |rng (lo hi:Int)
 |ā (o:Obj) (u:HO)
 |Θ (ps:Array Qt)
 |ext (φ:QN->Prop)
abbrev Hp:=Qs->Option HO
def upd(H:Hp)(a:Qs)(o:HO):Hp:=λb=>if b=a then Wv o else H b
theorem av:upd H a o a=Wv o:=by unfold upd;rw[if_pos rfl]
theorem aR(h:b≠a):upd H a o b=H b:=by unfold upd;rw[if_neg h]
theorem Hs:upd (upd H a o) a u=upd H a u:=by
 funext b;unfold upd;split<;>rfl
theorem LU{H:Hp}(h:H a=Wv o)(h':H b=Wv u)(d:o≠u):a≠b:=by
 intro e;subst e;rw[h]at h';exact d (QB h')
theorem gX{H:Hp}(h:H a=Wv o)(h':H b=Ww):a≠b:=by
 intro e;subst e;rw[h]at h';cases h'
section
variable(P:Program)(w:QD)
def dN(H:Hp)(h:QN)(a:Qs):HO->Prop
 | .lst xs=>xs.length<=sizeLine/\∃(Â:List Qt)(n:Nat),Wz xs Â/\h.get? a=Wv { cls:=.type "list",data:=.seq Â.toArray n }
 | .tup xs=>xs.length<=sizeLine/\∃Â:List Qt,Wz xs Â/\IsTup h a Â.toArray
 | .dK kvs=>kvs.length<=sizeLine/\(a==Rr)=false/\∃vs,KV kvs vs/\h.DictOf (cA P w) a vs
 | .dT kvs=>kvs.length<=sizeLine/\(a==Rr)=false/\∃xs:List (List Key×Qs×Qt),
   Paired (λ(p:List Key×V)(q:List Key×Qs×Qt)=>p.1=q.1/\H q.2.1=Wv (.tup (p.1.map kV))/\WC p.2 q.2.2) kvs xs/\
   ∃o es ep,h.get? a=Wv o/\o.ExactDict/\o.data=.dict es ep/\es.toList=xs.map (entryOfKey (Ul (cA P w)))/\(xs.map (·.1)).Nodup
 | .set S n=>h.SetOf (Sa P w) a S n
 | .ins C dx fs=>H dx=Wv (.own a)/\fs.length<=1000/\dx≠a/\h.get? a=Wv (Sz C dx)/\
   ∃mA,h.Ns1 dx mA/\(∀f,oU (fs.lookup f) (mA f))/\U4 mA (fs.map (·.1))
 | .own _=>∃o,h.get? a=Wv o
 | .xd fs=>∃mA,h.Ns1 a mA/\∀f,oU (fs.lookup f) (mA f)
 | .rng lo hi=>∃t u v,h.get? a=Wv { cls:=.type "range",data:=.fields #[.int lo t,.int hi u,.int 1 v] }
 | .ā o u=>h.get? a=Wv o/\dN H h a u
 | .Θ ps=>h.get? a=Wv { cls:=.none,data:=.fields ps }
 | .met f x=>h.get? a=Wv (Vy (.ref f) (.ref x))
 | .ext φ=>φ h/\(∃o,h.get? a=Wv o)/\∀h1 h2:QN,φ h1->(∀o,h1.get? a=Wv o->h2.get? a=Wv o)->φ h2
def ý(H:Hp)(h:QN):Prop:=∀a o,H a=Wv o->dN P w H h a o
end
section
variable{P:Program}{w:QD}{H H':Hp}{h h':QN}{a:Qs}{o:HO}
theorem dN.lt(x:dN P w H h a o):a<h.objs.size:=by
 cases o with
 |lst xs=>obtain⟨_,_,_,_,e⟩:=x;exact QF e
 |tup xs=>obtain⟨_,_,_,p⟩:=x;exact p.lt
 |dK kvs=>obtain⟨_,_,_,_,o,_,_,e,_⟩:=x;exact QF e
 |dT kvs=>obtain⟨_,_,_,_,o,_,_,e,_⟩:=x;exact QF e
 |set S n=>obtain⟨o,_,_,_,e,_⟩:=x;exact QF e
 |ins C dx fs=>obtain⟨_,_,_,e,_⟩:=x;exact QF e
 |own y=>obtain⟨_,e⟩:=x;exact QF e
 |xd fs=>obtain⟨_,⟨_,_,_,e,_⟩,_⟩:=x;exact QF e
 |rng lo hi=>obtain⟨_,_,_,e⟩:=x;exact QF e
 |ā ob u=>obtain⟨e,_⟩:=x;exact QF e
 |Θ ps=>exact QF (show h.get? a=Wv _ from x)
 |met f y=>exact QF (show h.get? a=Wv _ from x)
 |ext φ=>obtain⟨_,⟨_,e⟩,_⟩:=x;exact QF e
theorem Paired.fg(h:Paired F l₁ l₂)(f:∀a b,F a b->G a b):Paired G l₁ l₂:=by
 induction h with
 |nil=>exact .nil
 |cons q _ ih=>exact .cons (f _ _ q) ih
theorem dN.vJ(x:dN P w H h a o)(k:∀b u,(b=a\/H b=Wv (.own a))->h.get? b=Wv u->h'.get? b=Wv u)
  (ho:∀b,H b=Wv (.own a)->H' b=Wv (.own a)) (ht:∀b xs,H b=Wv (.tup xs)->H' b=Wv (.tup xs)):dN P w H' h' a o:=by
 induction o with
 |lst xs=>obtain⟨z,Â,n,r,e⟩:=x;exact{z,Â,n,r,k _ _ (.inl rfl) e}
 |tup xs=>obtain⟨z,Â,r,ob,e,c⟩:=x;exact{z,Â,r,ob,k _ _ (.inl rfl) e,c}
 |dK kvs=>obtain⟨z,y,vs,r,ob,es,ep,e,c⟩:=x;exact{z,y,vs,r,ob,es,ep,k _ _ (.inl rfl) e,c}
 |dT kvs=>
  obtain⟨z,y,xs,r,ob,es,ep,e,c⟩:=x
  exact{z,y,xs,Paired.fg r λp q z=>{z.1,ht _ _ z.2.1,z.2.2},ob,es,ep,k _ _ (.inl rfl) e,c}
 |set S n=>obtain⟨ob,es,ep,t,e,c⟩:=x;exact{ob,es,ep,t,k _ _ (.inl rfl) e,c}
 |ins C dx fs=>
  obtain⟨d,z,ne,e,mA,⟨od,es,ep,e2,c⟩,r⟩:=x
  exact{ho _ d,z,ne,k _ _ (.inl rfl) e,mA,{od,es,ep,k _ _ (.inr d) e2,c},r}
 |own y=>obtain⟨ob,e⟩:=x;exact{ob,k _ _ (.inl rfl) e}
 |xd fs=>obtain⟨mA,⟨od,es,ep,e,c⟩,r⟩:=x;exact{mA,{od,es,ep,k _ _ (.inl rfl) e,c},r}
 |rng lo hi=>obtain⟨t,u,v,e⟩:=x;exact{t,u,v,k _ _ (.inl rfl) e}
 |ā ob u ih=>obtain⟨e,q⟩:=x;exact{k _ _ (.inl rfl) e,ih q}
 |Θ ps=>
  have e:h.get? a=Wv { cls:=.none,data:=.fields ps }:=x
  show h'.get? a=Wv { cls:=.none,data:=.fields ps }
  exact k a _ (.inl rfl) e
 |met f y=>
  have e:h.get? a=Wv (Vy (.ref f) (.ref y)):=x
  show h'.get? a=Wv (Vy (.ref f) (.ref y))
  exact k a _ (.inl rfl) e
 |ext φ=>obtain⟨p,⟨o,e⟩,st⟩:=x;exact{st _ _ p λo q=>k _ _ (.inl rfl) q,{o,k _ _ (.inl rfl) e},st}
theorem ý.lt(x:ý P w H h)(e:H a=Wv o):a<h.objs.size:=(x a o e).lt
theorem ý.fresh(x:ý P w H h)(e:h.objs.size<=a):H a=Ww:=by
 cases q:H a with
 |none=>rfl
 |some u=>exact absurd (Oa (x.lt q) e) (Ol _)
theorem ý.kept(x:ý P w H h)(k:∀b u,h.get? b=Wv u->h'.get? b=Wv u):ý P w H h':=λa o e=>
 (x a o e).vJ (λb u _ q=>k b u q) (λ_ q=>q) λ_ _ q=>q
theorem ý.laid(x:ý P w H h)(k:∀b u,h.get? b=Wv u->h'.get? b=Wv u)(hp:h.objs.size<=a)(new:dN P w (upd H a o) h' a o):ý P w (upd H a o) h':=λb u e=>by
 have hn:=x.fresh hp;by_cases hb:b=a
 ·subst hb;rw[av]at e;cases e;exact new
 rw[aR hb]at e;exact(x b u e).vJ (λc v _ q=>k c v q) (λc q=>by rw[aR (gX q hn)];exact q) λc xs q=>by rw[aR (gX q hn)];exact q
end
def Rd(H:Hp)(a:Qs)(u:HO):Prop:=H a=Wv u\/∃o,H a=Wv (.ā o u)
theorem Rd.ok(r:Rd H a u)(x:ý P w H h):dN P w H h a u:=by
 rcases r with r|⟨o,r⟩
 ·exact x a u r
 obtain⟨_,q⟩:=x a _ r;exact q
def Mut:Option HO->Prop
 |some (.lst _)=>True
 |some (.dK _)=>True
 |some (.dT _)=>True
 |some (.set _ _)=>True
 |some (.ins _ _ _)=>True
 |some (.ext _)=>True
 |_=>False
section
variable{P:Program}{w:QD}{H:Hp}{h h':QN}{x e:Qs}{o':HO}
theorem ý.write(ok:ý P w H h)(mu:Mut (H x))(he:e=x\/H e=Wv (.own x))(k:∀b u,b≠e->h.get? b=Wv u->h'.get? b=Wv u)(heo:∃u,h'.get? e=Wv u)
  (new:dN P w (upd H x o') h' x o'):ý P w (upd H x o') h':=λb u q=>by
 have nown:∀c y,H c=Wv (.own y)->c≠x:=λc y r z=>by subst z;rw[r]at mu;exact mu
 have ntup:∀c xs,H c=Wv (.tup xs)->c≠x:=λc xs r z=>by subst z;rw[r]at mu;exact mu
 by_cases hb:b=x
 ·subst hb;rw[av]at q;cases q;exact new
 rw[aR hb]at q
 by_cases hbe:b=e
 ·have q':H b=Wv (.own x):=by
   rcases he with z|z
   ·exact absurd (hbe.trans z) hb
   rw[hbe];exact z
  rw[q]at q';cases q';obtain⟨v,hv⟩:=heo;exact{v,by rw[hbe];exact hv}
 refine(ok b u q).vJ (λc v hc r=>k c v ?_ r) (λc r=>by rw[aR (nown c b r)];exact r) λc xs r=>by rw[aR (ntup c xs r)];exact r
 rcases hc with rfl|hc
 ·exact hbe
 rintro rfl
 rcases he with z|z
 ·exact nown c b hc z
 rw[hc]at z;cases z;exact hb rfl
end
structure Un(fs ex:List Qs)(H H':Hp)(h h':QN):Prop where
 keep:∀b o,h.get? b=Wv o->H b=Ww->b∉fs->b∉ex->h'.get? b=Wv o
 slot:∀b o,h.get? b=Wv o->H b=Ww->b∈fs->b∉ex->∃sl,h'.get? b=Wv { o with slots:=sl }
 free:∀b o,h.get? b=Wv o->H b=Ww->b∉ex->H' b=Ww
 there:∀b o,h.get? b=Wv o->b∉ex->∃o',h'.get? b=Wv o'
 vO:∀b xs,H b=Wv (.tup xs)->H' b=Wv (.tup xs)
 sD:∀b o u,H b=Wv (.ā o u)->H' b=Wv (.ā o u)
 vI:∀b ps,H b=Wv (.Θ ps)->∃more,H' b=Wv (.Θ (ps++more))
section
variable{fs fs' ex ex':List Qs}{H H1 H2:Hp}{h h1 h2 h':QN}{a x e:Qs}{o:HO}
theorem Un.any(u:Un fs ex H H1 h h1)(q:h.get? b=Wv ob)(n:H b=Ww)(hx:b∉ex):∃sl,h1.get? b=Wv { ob with slots:=sl }:=by
 by_cases hb:b∈fs
 ·exact u.slot b ob q n hb hx
 exact⟨ob.slots,u.keep b ob q n hb hx⟩
theorem Un.kept(k:∀b u,h.get? b=Wv u->h'.get? b=Wv u):Un fs ex H H h h':=
 {λb ob q _ _ _=>k b ob q,λb ob q _ _ _=>⟨ob.slots,k b ob q⟩,λ_ _ _ n _=>n,λb ob q _=>⟨ob,k b ob q⟩,λ_ _ q=>q,λ_ _ _ q=>q,λ_ ps q=>{#[],by rw[q];simp}}
theorem Un.refl:Un fs ex H H h h:=Un.kept λ_ _ q=>q
theorem Un.laid(k:∀b u,h.get? b=Wv u->h'.get? b=Wv u)(hp:h.objs.size<=a)(hn:H a=Ww):Un fs ex H (upd H a o) h h' where
 keep:=λb u q _ _ _=>k b u q
 slot:=λb u q _ _ _=>⟨u.slots,k b u q⟩
 free:=λb u q n _=>by rw[aR (Of (Oa (QF q) hp))];exact n
 there:=λb u q _=>⟨u,k b u q⟩
 vO:=λb xs q=>by rw[aR (gX q hn)];exact q
 sD:=λb u xs q=>by rw[aR (gX q hn)];exact q
 vI:=λb ps q=>{#[],by rw[aR (gX q hn),q];simp}
theorem Un.write(mu:Mut (H x))(he:e=x\/H e=Wv (.own x))(k:∀b u,b≠e->h.get? b=Wv u->h'.get? b=Wv u)(heo:∃u,h'.get? e=Wv u):Un fs ex H (upd H x o) h h':=by
 have hx:∀b,H b=Ww->b≠x:=λb n z=>by subst z;rw[n]at mu;exact mu
 have hb:∀b,H b=Ww->b≠e:=λb n z=>by
  subst z;rcases he with r|r
  ·exact hx b n r
  rw[n]at r;cases r
 have hm:∀b u,H b=Wv u->¬ Mut (Wv u)->b≠x:=λb u q nm z=>by subst z;rw[q]at mu;exact nm mu
 refine⟨λb u q n _ _=>k b u (hb b n) q,λb u q n _ _=>{u.slots,k b u (hb b n) q},λb u q n _=>by rw[aR (hx b n)];exact n,λb u q _=>?_,
  λb xs q=>by rw[aR (hm b _ q λz=>z)];exact q,λb u xs q=>by rw[aR (hm b _ q λz=>z)];exact q,λb ps q=>{#[],by rw[aR (hm b _ q λz=>z),q];simp}⟩
 by_cases hbe:b=e
 ·subst hbe;exact heo
 exact⟨u,k b u hbe q⟩
end
def trk(h:QN)(H:Hp):List Qs:=(Q1 h.objs.size).filter λa=>(H a).isSome
def xD(h:QN)(H:Hp):QN:=W.hideAll h (trk h H)
theorem DY(h:QN)(H:Hp):(xD h H).objs.size=h.objs.size:=W.hideAll_size _ _
theorem Fb(e:h.get? b=Wv o)(n:H b=Ww):(xD h H).get? b=Wv o:=
 W.hideAll_get _ e λhm=>by
  have q:(H b).isSome=true:=(Og.mp hm).2;rw[n]at q;simp at q
theorem HB(e:(xD h H).get? b=Wv o):h.get? b=Wv o/\H b=Ww:=by
 have e':h.get? b=Wv o:=W.of_hideAll (trk h H) e;refine{e',?_};cases q:H b with
 |none=>rfl
 |some x=>
  have hm:b∈trk h H:=Og.mpr {PX.mpr (QF e'),by simp[q]};have z:(xD h H).get? b=Ww:=W.hideAll_none (trk h H) hm;rw[z]at e;cases e
structure Mod(K:Qx)(mg:Str->Option Qt)(base:QN):Prop where
 kin:K.In base
 glob:base.Ns QI mg
 blt:∃mb,base.Ns TC mb/\∀x:Str,x≠"__name__"->mb x=RA x
 nolimit:base.NoLimit
structure Cx where
 prog:Program
 w:QD
 K:Qx
 mg:Str->Option Qt
 base:QN
 A:QU
 N:List Str
 s₀:Qw
 H₀:Hp
 env:Env
 outer:List Env
 stack:List Env
 ex:List Qs
 fn:Str->Bool
 calm:Bool
 pn:List (Qs×Obj)
 xe:Qt->Qw->Prop
def ŭ(l:List Env):List Qs:=l.filterMap (·.frame)
abbrev Cx.fs(X:Cx):List Qs:=ŭ X.outer
def Vis(sc:S3)(x:Str):Prop:=sc.names.lookup x=Wv .local\/sc.names.lookup x=Wv .cell\/sc.names.lookup x=Wv .free
def Loc(sc:S3)(x:Str):Prop:=sc.names.lookup x=Wv .local\/sc.names.lookup x=Wv .cell
def W2(env:Env)(h:QN)(m:Str->Option Qt)(x:Str)(u:Qt):Prop:=
 (env.kindOf x=Wv .local/\m x=Wv u)\/((env.kindOf x=Wv .cell\/env.kindOf x=Wv .free)/\∃c,env.cells.lookup x=Wv c/\h.IsCell c (Wv u))
structure Cx.Ok(X:Cx):Prop where
 mod:Mod X.K X.mg X.base
 kind:X.env.scope.kind=.function
 glob:X.env.globals=QI
 blt:X.env.builtins=TC
 above:X.s₀.heap.objs.size<=X.env.locals
 inj:∀x y c,X.env.cells.lookup x=Wv c->X.env.cells.lookup y=Wv c->x=y
 has:∀x,(X.env.kindOf x=Wv .cell\/X.env.kindOf x=Wv .free)->∃c,X.env.cells.lookup x=Wv c
 cab:∀x c,X.fn x=true->X.env.cells.lookup x=Wv c->X.s₀.heap.objs.size<=c
 hd:X.calm=true->X.A.handled=Ww
 frames:X.A.frames=Wv X.stack
 stk:X.stack=X.outer\/(X.stack=X.env::X.outer/\X.env.frame=Wv X.env.locals)
 exf:∀b∈X.ex,b≠X.env.locals/\∀x c,X.env.cells.lookup x=Wv c->c≠b
 bs:∀b o,X.base.get? b=Wv o->X.s₀.heap.get? b=Wv o/\X.H₀ b=Ww
 Ζ:X.base.objs.size<=X.s₀.heap.objs.size
 Ei:∀b o,X.base.get? b=Wv o->b∉X.ex
 Eo:∀b∈X.ex,b∉X.fs
 sO:X.s₀.heap.FunFrames X.base X.outer
 frf:∀b∈X.fs,X.H₀ b=Ww
structure Inv(X:Cx)(pins:List (Qs×Obj))(B:List (Option V))(H:Hp)(s:Qw):Prop where
 ok:X.Ok
 os:s.os=X.s₀.os
 bare:Te s.gens
 base:Un X.fs X.ex X.H₀ H X.s₀.heap s.heap
 loc:∃m,s.heap.Ns X.env.locals m/\∀(i:Nat)(x:Str)(v:V),X.N[i]?=Wv x->B[i]?=Wv (Wv v)->Vis X.env.scope x->∃u,WC v u/\W2 X.env s.heap m x u
 cell:∀x c,X.env.cells.lookup x=Wv c->∃v,s.heap.IsCell c v
 free:H X.env.locals=Ww
 kW:∀x c,X.env.cells.lookup x=Wv c->H c=Ww
 pin:∀p∈X.pn++pins,s.heap.get? p.1=Wv p.2/\H p.1=Ww/\p.1≠X.env.locals/\p.1∉X.fs/\∀v,p.2.data≠ .cell v
 Æ:ý X.prog X.w H s.heap
 len:B.length=X.N.length
section
variable{X:Cx}{pins:List (Qs×Obj)}{B:List (Option V)}{H H':Hp}{s:Qw}{h':QN}
theorem Cx.Ok.Nm(ok:X.Ok)(e:X.base.get? b=Wv o):b∉X.fs:=λhb=>by
 have:=(ok.sO.mem hb).1;rw[e]at this;cases this
theorem Inv.bs(I:Inv X pins B H s):∀b o,X.base.get? b=Wv o->s.heap.get? b=Wv o/\H b=Ww:=λb o e=>
 {I.base.keep b o (I.ok.bs b o e).1 (I.ok.bs b o e).2 (I.ok.Nm e) (I.ok.Ei b o e),I.base.free b o (I.ok.bs b o e).1 (I.ok.bs b o e).2 (I.ok.Ei b o e)}
theorem Inv.bk(I:Inv X pins B H s):∀b o,X.base.get? b=Wv o->s.heap.get? b=Wv o:=λb o e=>(I.bs b o e).1
theorem Inv.mod(I:Inv X pins B H s):Mod X.K X.mg X.base:=I.ok.mod
theorem Inv.ċ(I:Inv X pins B H s):X.K.In s.heap:=I.ok.mod.kin.keeps I.bk
theorem Inv.lt(I:Inv X pins B H s):X.env.locals<s.heap.objs.size:=let ⟨_,hn,_⟩:=I.loc;hn.lt
theorem Inv.sz(I:Inv X pins B H s):X.s₀.heap.objs.size<=s.heap.objs.size:=NU I.ok.above (Pm I.lt)
theorem Inv.Mh(I:Inv X pins B H s)(h:s.heap.objs.size<=a):a∉X.fs:=λhb=>by
 obtain⟨_,o,ho,_⟩:=I.ok.sO.mem hb;exact absurd (Oa (QF ho) (NU I.sz h)) (Ol _)
theorem Inv.Γ(I:Inv X pins B H s):∀x c,X.env.cells.lookup x=Wv c->c≠X.env.locals:=λx c e z=>by
 obtain⟨v,o,ho,hd⟩:=I.cell x c e;obtain⟨m,⟨o',es,ep,Ϯ,hd',_⟩,_⟩:=I.loc;rw[z,Ϯ]at ho;cases ho;rw[hd']at hd;cases hd
theorem Inv.sO(I:Inv X pins B H s):s.heap.FunFrames X.base X.outer:=by
 have all:∀(l:List Env),(∀b∈ŭ l,b∈X.fs)->X.s₀.heap.FunFrames X.base l->s.heap.FunFrames X.base l:=by
  intro l;induction l with
  |nil=>intro _ _;trivial
  |cons env r ih=>
   intro hs hl;obtain⟨hk,⟨L,o,hf,hn,ho,hd⟩,hr⟩:=hl;have hL:L∈X.fs:=hs L (by unfold ŭ;rw[OT,hf];exact NL);obtain⟨sl,e⟩:=I.base.slot L o ho (I.ok.frf L hL) hL λz=>I.ok.Eo L z hL;exact{hk,{L,_,hf,hn,e,hd},ih (λb hb=>hs b (by unfold ŭ;rw[OT,hf];exact NK _ hb)) hr}
 exact all X.outer (λ_ hb=>hb) I.ok.sO
theorem Inv.stack(I:Inv X pins B H s):s.heap.FunFrames X.base X.stack:=by
 rcases I.ok.stk with e|⟨e,hf⟩
 ·rw[e];exact I.sO
 rw[e];obtain⟨m,hn,_⟩:=I.loc;refine .cons (by rw[I.ok.kind];decide) hf hn ?_ I.sO;exact Heap.get?_none_of_le (NU I.ok.Ζ I.ok.above)
theorem Inv.BF(I:Inv X pins B H s):∀b∈ŭ X.stack,b∈X.env.locals::X.fs:=λb hb=>by
 rcases I.ok.stk with e|⟨e,hf⟩
 ·rw[e]at hb;exact NK _ hb
 rw[e]at hb;unfold ŭ at hb;rw[OT,hf]at hb;exact hb
theorem Inv.Cf(I:Inv X pins B H s):∀b∈ŭ X.stack,H b=Ww:=λb hb=>by
 rcases NJ.mp (I.BF b hb)with e|hb
 ·rw[e];exact I.free
 obtain⟨_,o,ho,_⟩:=I.ok.sO.mem hb;exact I.base.free b o ho (I.ok.frf b hb) λz=>I.ok.Eo b z hb
theorem Inv.step{g':Array Ts}{t':Nat}{d':Drawn}{ch:List Qs}(I:Inv X pins B H s)
  (ϙ:∀b∈ch,(b∈X.ex\/X.s₀.heap.objs.size<=b)/\b≠X.env.locals/\(∀x c,X.env.cells.lookup x=Wv c->c≠b)/\∀p∈X.pn++pins,p.1≠b)
  (keep:∀b o,b≠X.env.locals->b∉X.fs->b∉ch->s.heap.get? b=Wv o->H b=Ww->h'.get? b=Wv o)
  (slot:∀b o,b≠X.env.locals->b∈X.fs->b∉ch->s.heap.get? b=Wv o->H b=Ww->∃sl,h'.get? b=Wv { o with slots:=sl }) (free:∀b o,b∉ch->s.heap.get? b=Wv o->H b=Ww->H' b=Ww)
  (there:∀b o,b∉ch->s.heap.get? b=Wv o->∃o',h'.get? b=Wv o')
  (vO:∀b xs,H b=Wv (.tup xs)->H' b=Wv (.tup xs)) (sD:∀b o u,H b=Wv (.ā o u)->H' b=Wv (.ā o u)) (vI:∀b ps,H b=Wv (.Θ ps)->∃more,H' b=Wv (.Θ (ps++more)))
  (ns:∀m,s.heap.Ns X.env.locals m->h'.Ns X.env.locals m) (Æ:ý X.prog X.w H' h') (hg:Te g') :
  Inv X pins B H' { s with heap:=h',gens:=g',drawn:=d',toks:=t' }:=by
 have neL:∀b o,X.s₀.heap.get? b=Wv o->b≠X.env.locals:=λb o e=>Of (Oa (QF e) I.ok.above)
 have neC:∀b o,X.s₀.heap.get? b=Wv o->b∉X.ex->b∉ch:=λb o e hx hb=>by
  rcases(ϙ b hb).1 with z|z
  ·exact hx z
  exact absurd (Oa (QF e) z) (Ol _)
 have cellK:∀x c,X.env.cells.lookup x=Wv c->∀v,s.heap.IsCell c v->h'.IsCell c v:=λx c e v ⟨o,ho,hd⟩=>by
  have nch:c∉ch:=λz=>(ϙ c z).2.2.1 x c e rfl;by_cases hc:c∈X.fs
  ·obtain⟨sl,q⟩:=slot c o (I.Γ x c e) hc nch ho (I.kW x c e);exact{_,q,hd}
  exact{o,keep c o (I.Γ x c e) hc nch ho (I.kW x c e),hd}
 refine{I.ok,I.os,hg,{λb o e n hb hx=>?_,λb o e n hb hx=>?_,λb o e n hx=>?_,λb o e hx=>?_,λb xs e=>vO b xs (I.base.vO b xs e),λb o xs e=>sD b o xs (I.base.sD b o xs e),λb ps e=>?_},?_,λx c e=>?_,?_,λx c e=>?_,λp hp=>?_,Æ,I.len}
 ·exact keep b o (neL b o e) hb (neC b o e hx) (I.base.keep b o e n hb hx) (I.base.free b o e n hx)
 ·obtain⟨sl,e1⟩:=I.base.slot b o e n hb hx;obtain⟨sl',e2⟩:=slot b _ (neL b o e) hb (neC b o e hx) e1 (I.base.free b o e n hx);exact⟨sl',e2⟩
 ·obtain⟨o',e1⟩:=I.base.there b o e hx;exact free b o' (neC b o e hx) e1 (I.base.free b o e n hx)
 ·obtain⟨o',e1⟩:=I.base.there b o e hx;exact there b o' (neC b o e hx) e1
 ·obtain⟨m1,e1⟩:=I.base.vI b ps e;obtain⟨m2,e2⟩:=vI b _ e1;exact{m1++m2,by rw[e2,Array.append_assoc]}
 ·obtain⟨m,hn,hl⟩:=I.loc;refine{m,ns m hn,λi x v e1 e2 e3=>?_};obtain⟨u,r,l⟩:=hl i x v e1 e2 e3;refine{u,r,?_};rcases l with l|⟨k,c,e,z⟩
  ·exact .inl l
  exact .inr {k,c,e,cellK x c e _ z}
 ·obtain⟨v,z⟩:=I.cell x c e;exact⟨v,cellK x c e v z⟩
 ·obtain⟨m,⟨o,_,_,ho,_⟩,_⟩:=I.loc;exact free _ o (λz=>(ϙ _ z).2.1 rfl) ho I.free
 ·obtain⟨v,o,ho,hd⟩:=I.cell x c e;exact free c o (λz=>(ϙ c z).2.2.1 x c e rfl) ho (I.kW x c e)
 obtain⟨e,n,ne,nf,d⟩:=I.pin p hp
 have nch:p.1∉ch:=λz=>(ϙ p.1 z).2.2.2 p hp rfl
 exact⟨keep p.1 p.2 ne nf nch e n,free p.1 p.2 nch e n,ne,nf,d⟩
theorem Inv.un(I:Inv X pins B H s)(u:Un X.fs [] H H' s.heap h')(Æ:ý X.prog X.w H' h'):Inv X pins B H' { s with heap:=h',toks:=t' }:=by
 obtain⟨m,⟨o,es,ep,ho,r⟩,_⟩:=id I.loc;obtain⟨sl,hL⟩:=u.any ho I.free (by simp);exact I.step (g':=s.gens) (d':=s.drawn) (ch:=[]) (λ_ z=>nomatch z) (λb o _ hb _ e n=>u.keep b o e n hb (by simp)) (λb o _ hb _ e n=>u.slot b o e n hb (by simp)) (λb o _ e n=>u.free b o e n (by simp)) (λb o _ e=>u.there b o e (by simp)) u.vO u.sD u.vI (λm' hm=>by
  obtain⟨o',es',ů,Ϯ,r'⟩:=hm;rw[ho]at Ϯ;cases Ϯ;exact{_,es',ů,hL,r'}) Æ I.bare
theorem Inv.call(I:Inv X pins B H s)(u:Un (ŭ X.stack) ch H H' s.heap h')(Æ:ý X.prog X.w H' h')(hg:Te g')
  (ϙ:∀b∈ch,(b∈X.ex\/X.s₀.heap.objs.size<=b)/\b≠X.env.locals/\(∀x c,X.env.cells.lookup x=Wv c->c≠b)/\∀p∈X.pn++pins,p.1≠b) :
  Inv X pins B H' { s with heap:=h',gens:=g',drawn:=d',toks:=t' }:=by
 obtain⟨m,⟨o,es,ep,ho,r⟩,_⟩:=id I.loc
 obtain⟨sl,hL⟩:=u.any ho I.free λz=>(ϙ _ z).2.1 rfl
 exact I.step (ch:=ch) ϙ (λb o hL hb hc e n=>u.keep b o e n (λz=>(NJ.mp (I.BF b z)).elim hL hb) hc) (λb o _ _ hc e n=>u.any e n hc) (λb o hc e n=>u.free b o e n hc) (λb o hc e=>u.there b o e hc) u.vO u.sD u.vI (λm' hm=>by
  obtain⟨o',es',ů,Ϯ,r'⟩:=hm;rw[ho]at Ϯ;cases Ϯ;exact{_,es',ů,hL,r'}) Æ hg
theorem Inv.turned(I:Inv X pins B H s)(k:∀b o,b≠it->s.heap.get? b=Wv o->h'.get? b=Wv o)(hn:H it=Ww)(hL:it≠X.env.locals)
  (h1:it∈X.ex\/X.s₀.heap.objs.size<=it) (h2:∀x c,X.env.cells.lookup x=Wv c->c≠it) (h3:∀p∈X.pn++pins,p.1≠it):Inv X pins B H { s with heap:=h',toks:=t' }:=by
 have nit:∀b u,H b=Wv u->b≠it:=λb u e z=>by rw[z,hn]at e;cases e
 refine I.step (g':=s.gens) (d':=s.drawn) (ch:=[it]) (λb hb=>?_) (λb o _ _ hc e _=>k b o (λz=>hc (by simp[z])) e) (λb o _ _ hc e _=>{o.slots,k b o (λz=>hc (by simp[z])) e}) (λ_ _ _ _ n=>n)
  (λb o hc e=>{o,k b o (λz=>hc (by simp[z])) e}) (λ_ _ e=>e) (λ_ _ _ e=>e) (λb ps e=>{#[],by rw[e];simp}) (λm hm=>?_) (λb u e=>?_) I.bare
 ·have e:b=it:=by simpa using hb
  subst e;exact⟨h1,hL,h2,h3⟩
 ·obtain⟨o,es,ep,ho,r⟩:=hm;exact{o,es,ep,k _ o (OU hL) ho,r}
 refine(I.Æ b u e).vJ (λc v hc q=>k c v ?_ q) (λ_ q=>q) λ_ _ q=>q
 rcases hc with z|z
 ·rw[z];exact nit b u e
 exact nit c _ z
theorem Inv.tok(I:Inv X pins B H s)(t:Nat):Inv X pins B H { s with toks:=t }:=I.un (h':=s.heap) (t':=t) Un.refl I.Æ
theorem Inv.kept(I:Inv X pins B H s)(k:∀b u,s.heap.get? b=Wv u->h'.get? b=Wv u):Inv X pins B H { s with heap:=h',toks:=t' }:=I.un (Un.kept k) (I.Æ.kept k)
theorem Inv.laid(I:Inv X pins B H s)(k:∀b u,s.heap.get? b=Wv u->h'.get? b=Wv u)(hp:s.heap.objs.size<=a)(new:dN X.prog X.w (upd H a o) h' a o) :
  Inv X pins B (upd H a o) { s with heap:=h',toks:=t' }:=I.un (Un.laid k hp (I.Æ.fresh hp)) (I.Æ.laid k hp new)
theorem Inv.write(I:Inv X pins B H s)(mu:Mut (H x))(he:e=x\/H e=Wv (.own x))(k:∀b u,b≠e->s.heap.get? b=Wv u->h'.get? b=Wv u)(heo:∃u,h'.get? e=Wv u)
  (new:dN X.prog X.w (upd H x o) h' x o):Inv X pins B (upd H x o) { s with heap:=h',toks:=t' }:=I.un (Un.write mu he k heo) (I.Æ.write mu he k heo new)
theorem Inv.yk(I:Inv X pins B H s)(h:∀p∈pins',s.heap.get? p.1=Wv p.2/\H p.1=Ww/\p.1≠X.env.locals/\p.1∉X.fs/\∀v,p.2.data≠ .cell v):Inv X pins' B H s:=
 {I.ok,I.os,I.bare,I.base,I.loc,I.cell,I.free,I.kW,λp hp=>(NQ.mp hp).elim (λz=>I.pin p (N3 _ z)) (h p),I.Æ,I.len}
theorem zB{N:List Str}(hN:N.Nodup){i j:Nat}{x:Str}(a:N[i]?=Wv x)(b:N[j]?=Wv x):i=j:=by
 obtain⟨h1,e1⟩:=NW.mp a;obtain⟨h2,e2⟩:=NW.mp b;exact(PQ hN).mp (e1.trans e2.symm)
theorem Dg(I:Inv X pins B H s)(hN:X.N.Nodup)(hi:X.N[i]?=Wv x)(hx:Loc X.env.scope x)(r:WC v u)
  (h:∀s',Inv X pins (B.set i (Wv v)) H s'->(∃a,RQ a s.heap s'.heap/\(a=X.env.locals\/X.env.cells.lookup x=Wv a))->Q Unit.unit s') (hf:X.fn x=true\/X.env.scope.names.lookup x=Wv .local:=by first|exact .inl rfl|exact .inr rfl|assumption):wpAny M A (Wi X.env x u) Q E s:=by
 obtain⟨m,hn,hl⟩:=id I.loc
 have hcls:(X.env.scope.kind== .class||(X.env.scope.kind== .module&&X.env.locals !=X.env.globals))=false:=by rw[I.ok.kind];rfl
 have hiσ:i<B.length:=by rw[I.len];exact(NW.mp hi).1
 have Γ:=I.Γ
 have tracked:∀{a:Qs}{h':QN},(∃o,s.heap.get? a=Wv o/\H a=Ww)->RQ a s.heap h'->ý X.prog X.w H h':=λ{a h'} ha hs b ob e=>by
  obtain⟨_,_,Ĵ⟩:=ha;refine(I.Æ b ob e).vJ (λc w' hc q=>(hs.2 c ?_).trans q) (λ_ q=>q) λ_ _ q=>q;rintro rfl;rcases hc with rfl|hc
  ·rw[Ĵ]at e;cases e
  rw[Ĵ]at hc;cases hc
 rcases hx with hk|hk
 ·refine wpAny_storeName_local hk hn (λh' hn' hs=>?_) hcls;obtain⟨oL,_,_,hoL,_⟩:=id hn;refine h _ {I.ok,I.os,I.bare,{λb o e n hb hx=>?_,λb o e n hb hx=>?_,I.base.free,λb o e hx=>?_,I.base.vO,I.base.sD,I.base.vI},{_,hn',λj y v' e1 e2 e3=>?_},λy c e=>?_,I.free,I.kW,λp hp=>?_,tracked ⟨oL,hoL,I.free⟩ hs,by simpa using I.len} {_,hs,.inl rfl}
  ·exact(hs.2 b (Of (Oa (QF e) I.ok.above))).trans (I.base.keep b o e n hb hx)
  ·obtain⟨sl,e1⟩:=I.base.slot b o e n hb hx;exact{sl,(hs.2 b (Of (Oa (QF e) I.ok.above))).trans e1}
  ·obtain⟨o',e1⟩:=I.base.there b o e hx;exact{o',(hs.2 b (Of (Oa (QF e) I.ok.above))).trans e1}
  ·by_cases hj:j=i
   ·subst hj;rw[hi]at e1;cases e1;rw[TF hiσ]at e2;cases e2;exact{u,r,.inl ⟨hk,by simp⟩}
   rw[T7 (OU hj)]at e2;obtain⟨u',r',q⟩:=hl j y v' e1 e2 e3;refine{u',r',?_};rcases q with⟨k,e⟩|⟨k,c,e,z⟩
   ·refine .inl {k,?_};have:y≠x:=λe=>hj (zB hN e1 (e▸hi));simp[this,e]
   exact .inr {k,c,e,z.sameBut hs (Γ y c e)}
  ·obtain⟨w',z⟩:=I.cell y c e;exact{w',z.sameBut hs (Γ y c e)}
  obtain⟨e,n,ne,nf,d⟩:=I.pin p hp;exact{(hs.2 p.1 ne).trans e,n,ne,nf,d}
 have hfn:X.fn x=true:=by
  rcases hf with z|z
  ·exact z
  rw[z]at hk;cases hk
 obtain⟨c,hc⟩:=I.ok.has x (.inl hk)
 obtain⟨w',z⟩:=I.cell x c hc
 refine wpAny_storeName_cell I.ok.kind hk hc z (λh' hc' hs=>?_)
 obtain⟨oc,hoc,hocd⟩:=id z
 refine h { s with heap:=h' } ⟨I.ok,I.os,I.bare,⟨λb o e n hb hx=>?_,λb o e n hb hx=>?_,I.base.free,λb o e hx=>?_,I.base.vO,I.base.sD,I.base.vI⟩,⟨m,hn.sameBut hs (OU (Γ x c hc)),λj y v' e1 e2 e3=>?_⟩,λy c' e=>?_,I.free,I.kW,λp hp=>?_,tracked ⟨oc,hoc,I.kW x c hc⟩ hs,by simpa using I.len⟩ ⟨c,hs,.inr hc⟩
 ·exact(hs.2 b (Of (Oa (QF e) (I.ok.cab x c hfn hc)))).trans (I.base.keep b o e n hb hx)
 ·obtain⟨sl,e1⟩:=I.base.slot b o e n hb hx;exact{sl,(hs.2 b (Of (Oa (QF e) (I.ok.cab x c hfn hc)))).trans e1}
 ·obtain⟨o',e1⟩:=I.base.there b o e hx;exact{o',(hs.2 b (Of (Oa (QF e) (I.ok.cab x c hfn hc)))).trans e1}
 ·by_cases hj:j=i
  ·subst hj;rw[hi]at e1;cases e1;rw[TF hiσ]at e2;cases e2;exact{u,r,.inr ⟨.inl hk,c,hc,hc'⟩}
  rw[T7 (OU hj)]at e2;obtain⟨u',r',q⟩:=hl j y v' e1 e2 e3;refine{u',r',?_};rcases q with q|⟨k,c',e,z'⟩
  ·exact .inl q
  refine .inr {k,c',e,z'.sameBut hs ?_};rintro rfl;exact hj (zB hN e1 (I.ok.inj _ _ _ e hc▸hi))
 ·by_cases hcc:c'=c
  ·subst hcc;exact{_,hc'}
  obtain⟨w2,z2⟩:=I.cell y c' e;exact⟨w2,z2.sameBut hs hcc⟩
 obtain⟨e,n,ne,nf,d⟩:=I.pin p hp
 refine{(hs.2 p.1 ?_).trans e,n,ne,nf,d}
 intro q
 rw[q,hoc]at e
 have q':oc=p.2:=QB e
 exact d w' (by rw[<-q'];exact hocd)
theorem vj(I:Inv X pins B H s)(hN:X.N.Nodup)(hi:X.N[i]?=Wv x)(hx:Loc X.env.scope x)(r:WC v u)
  (h:∀s',Inv X pins (B.set i (Wv v)) H s'->Q Unit.unit s') (hf:X.fn x=true\/X.env.scope.names.lookup x=Wv .local:=by first|exact .inl rfl|exact .inr rfl|assumption):wpAny M A (Wi X.env x u) Q E s:=
 Dg I hN hi hx r (λs' I' _=>h s' I') hf
theorem Inv.Ms(I:Inv X pins B H s)(ho:s'.os=s.os)(u:Un (ŭ X.stack) ch H H' s.heap s'.heap)(Æ:ý X.prog X.w H' s'.heap)(hg:Te s'.gens)
  (ϙ:∀b∈ch,(b∈X.ex\/X.s₀.heap.objs.size<=b)/\b≠X.env.locals/\(∀x c,X.env.cells.lookup x=Wv c->c≠b)/\∀p∈X.pn++pins,p.1≠b):Inv X pins B H' s':=by
 obtain⟨h',g',d',t',o'⟩:=s'
 have e:o'=s.os:=ho
 subst e
 exact I.call (g':=g') (t':=t') (d':=d') u Æ hg ϙ
end
abbrev XK:=Qt->Option Qs->Hp->Prop
abbrev St:=List (Option V)
abbrev VK:=V->Hp->Prop
abbrev TE:=St->Hp->VK->Prop
abbrev TT:=St->Hp->(Bool->Hp->Prop)->Prop
abbrev TA:=St->Hp->(List V->Hp->Prop)->Prop
structure WV where
 nx:St->Hp->Prop
 rt:VK
 bk:St->Hp->Prop:=λ_ _=>False
 ct:St->Hp->Prop:=λ_ _=>False
abbrev TS:=WV->St->Hp->Prop
inductive EP(X:Cx)(pins:List (Qs×Obj))(B:St)(Q:VK)(u:Qt)(s':Qw):Prop
 |mk(v:V)(H':Hp)(h0:Inv X pins B H' s')(h1:WC v u)(h2:Q v H'):EP X pins B Q u s'
inductive TP(X:Cx)(pins:List (Qs×Obj))(B:St)(Q:Bool->Hp->Prop)(b:Bool)(s':Qw):Prop
 |mk(H':Hp)(h0:Inv X pins B H' s')(h1:Q b H'):TP X pins B Q b s'
inductive AP(X:Cx)(pins:List (Qs×Obj))(B:St)(Q:List V->Hp->Prop)(us:List Qt)(s':Qw):Prop
 |mk(vs:List V)(H':Hp)(h0:Inv X pins B H' s')(h1:Wz vs us)(h2:Q vs H'):AP X pins B Q us s'
inductive NP(X:Cx)(pins:List (Qs×Obj))(q:St->Hp->Prop)(s':Qw):Prop
 |mk(B':St)(H':Hp)(h0:Inv X pins B' H' s')(h1:q B' H'):NP X pins q s'
inductive RP(X:Cx)(pins:List (Qs×Obj))(q:VK)(u:Qt)(s':Qw):Prop
 |mk(v:V)(B':St)(H':Hp)(h0:Inv X pins B' H' s')(h1:WC v u)(h2:q v H'):RP X pins q u s'
def SP(X:Cx)(pins:List (Qs×Obj))(D:WV)(f:Flow)(s':Qw):Prop:=
 match f with
 | .next=>NP X pins D.nx s'
 | .brk=>NP X pins D.bk s'
 | .cont=>NP X pins D.ct s'
 | .ret u=>RP X pins D.rt u s'
def PE(X:Cx)(e:Expr)(t:TE):Prop:=
 ∀(pins:List (Qs×Obj))(s:Qw)(B:St)(H:Hp)(Q:VK),Inv X pins B H s->t B H Q->wpAny (QG X.prog X.w) X.A (QV e X.env) (EP X pins B Q) X.xe s
def PT(X:Cx)(e:Expr)(t:TT):Prop:=
 ∀(pins:List (Qs×Obj))(s:Qw)(B:St)(H:Hp)(Q:Bool->Hp->Prop),Inv X pins B H s->t B H Q->wpAny (QG X.prog X.w) X.A (isTrue e X.env (QV e X.env)) (TP X pins B Q) X.xe s
def PW(X:Cx)(e:Expr)(t:TT):Prop:=
 ∀(whole:Sem Qt)(pins:List (Qs×Obj))(s:Qw)(B:St)(H:Hp)(Q:Bool->Hp->Prop),Inv X pins B H s->t B H Q->wpAny (QG X.prog X.w) X.A (isTrue e X.env whole) (TP X pins B Q) X.xe s
theorem PW.pt(h:PW X e t):PT X e t:=h _
def PA(X:Cx)(es:List Expr)(t:TA):Prop:=
 ∀(pos:Pos)(pins:List (Qs×Obj))(s:Qw)(B:St)(H:Hp)(Q:List V->Hp->Prop),Inv X pins B H s->t B H Q->wpAny (QG X.prog X.w) X.A (Wq (Q7 pos (QA es X.env))) (AP X pins B Q) X.xe s
def PS(X:Cx)(st:QL)(t:TS):Prop:=
 ∀(pins:List (Qs×Obj))(s:Qw)(B:St)(H:Hp)(D:WV),Inv X pins B H s->t D B H->wpAny (QG X.prog X.w) X.A (exec st X.env) (SP X pins D) X.xe s
def č(X:Cx)(st:List QL)(t:TS):Prop:=
 ∀(pins:List (Qs×Obj))(s:Qw)(B:St)(H:Hp)(D:WV),Inv X pins B H s->t D B H->wpAny (QG X.prog X.w) X.A (execs st X.env) (SP X pins D) X.xe s
theorem Ï(h:wpAny M A t Q E s)(hQ:∀a s,Q a s->Q' a s):wpAny M A t Q' E s:=RF h hQ λ_ _ x=>x
section
variable{X:Cx}
def Nc(i:Nat):TE:=λB H Q=>∃v,B[i]?=Wv (Wv v)/\Q v H
def tC(v:V):TE:=λ_ H Q=>Q v H
theorem JJ(hN:X.N[i]?=Wv x)(hv:Vis X.env.scope x)(hd:(x==("__debug__":Str))=false:=by decide)(ņ:(x==("__classdict__":Str))=false:=by decide):PE X (.Name x pos) (Nc i):=by
 intro pins s B H Q I h;obtain⟨v,e,h⟩:=h;obtain⟨m,hn,hl⟩:=I.loc;obtain⟨u,r,l⟩:=hl i x v hN e hv;have fin:EP X pins B Q u s:=⟨v,H,I,r,h⟩;rcases l with⟨hk,hm⟩|⟨hk,c,hc,ÿ⟩
 ·exact VQ (T8 I.ok.kind hk hn hm fin) hd
 rcases hk with hk|hk
 ·exact VQ (Us I.ok.kind hk hc ÿ fin) hd
 exact VQ (wpAny_loadName_free I.ok.kind hk hc ÿ fin ņ) hd
theorem aj{i j pos}:PE X (.Constant (.int i) j pos) (tC (.int i)):=λ_ _ _ H _ I h=>UK {.int i,H,I.tok _,{_,rfl},h}
theorem pq{b j pos}:PE X (.Constant (.bool b) j pos) (tC (.bl b)):=λ_ _ _ H _ I h=>Constant_bool ⟨.bl b,H,I,rfl,h⟩
theorem fz{j pos}:PE X (.Constant .none j pos) (tC .È):=λ_ _ _ H _ I h=>Constant_none ⟨.È,H,I,rfl,h⟩
theorem aF{x j pos}:PE X (.Constant (.str x) j pos) (tC (.str x)):=λ_ _ _ H _ I h=>Calls.Constant_str {.str x,H,I.tok _,{_,rfl},h}
def Gl(X:Cx)(x:Str):Prop:=X.env.kindOf x=Wv .globalImplicit
theorem tE(I:Inv X pins B H s)(hg:Gl X x)(hm:X.mg x=Wv u)(h:Q u s)
  (hd:(x==("__debug__":Str))=false:=by decide):wpAny (QG X.prog X.w) X.A (QV (.Name x pos) X.env) Q E s:=
 S4 I.ok.kind hg (Calls.loadGlobal_global (by rw[I.ok.glob];exact I.mod.glob.keeps I.bk) hm h) hd
theorem mE(I:Inv X pins B H s)(hg:Gl X x)(hm:X.mg x=Ww)(hv:RA x=Wv u)(h:Q u s)
  (hn:x≠"__name__":=by decide) (hd:(x==("__debug__":Str))=false:=by decide):wpAny (QG X.prog X.w) X.A (QV (.Name x pos) X.env) Q E s:=by
 obtain⟨mb,h1,h2⟩:=I.mod.blt
 exact S4 I.ok.kind hg (Calls.loadGlobal_builtin (by rw[I.ok.glob];exact I.mod.glob.keeps I.bk) hm (by rw[I.ok.blt];exact h1.keeps I.bk) ((h2 x hn).trans hv) h) hd
theorem Ca(hg:Gl X x)(hm:X.mg x=Wv u)(r:WC v u)(hd:(x==("__debug__":Str))=false:=by decide):PE X (.Name x pos) (tC v):=
 λ_ _ _ H _ I h=>tE I hg hm ⟨v,H,I,r,h⟩ hd
theorem f9(hg:Gl X x)(hm:X.mg x=Ww)(hv:RA x=Wv u)(r:WC v u)(hn:x≠"__name__":=by decide)(hd:(x==("__debug__":Str))=false:=by decide):PE X (.Name x pos) (tC v):=
 λ_ _ _ H _ I h=>mE I hg hm hv ⟨v,H,I,r,h⟩ hn hd
variable{a b:Expr}{ta tb:TE}{pos:Pos}
variable{tA tB':TT}{rest:List Expr}
def MH(t u:TT):TT:=λB H Q=>t B H λc H1=>if c=true then u B H1 Q else Q false H1
def tOr(t u:TT):TT:=λB H Q=>t B H λc H1=>if c=true then Q true H1 else u B H1 Q
def ND(t:TT):TT:=λB H Q=>t B H λc H1=>Q (!c) H1
theorem pw_and1(ha:PT X a tA):PW X (.BoolOp .And [a] pos) tA:=by
 intro wh pins s B H Q I h;refine isTrue_and (Ï (ha pins s B H Q I h) λc s1 e=>?_);cases c with
 |true=>exact isTrue_and_nil e
 |false=>exact e
theorem pw_or1(ha:PT X a tA):PW X (.BoolOp .Or [a] pos) tA:=by
 intro wh pins s B H Q I h;refine isTrue_or (Ï (ha pins s B H Q I h) λc s1 e=>?_);cases c with
 |false=>exact isTrue_or_nil e
 |true=>exact e
theorem pw_and(ha:PT X a tA)(hb:PW X (.BoolOp .And (b::rest) pos) tB'):PW X (.BoolOp .And (a::b::rest) pos) (MH tA tB'):=by
 intro wh pins s B H Q I h;refine isTrue_and (Ï (ha pins s B H _ I h) λc s1 z9=>?_);obtain⟨H1,I1,q1⟩:=z9;cases c with
 |true=>exact hb wh pins s1 B H1 Q I1 q1
 |false=>exact⟨H1,I1,q1⟩
theorem pw_or(ha:PT X a tA)(hb:PW X (.BoolOp .Or (b::rest) pos) tB'):PW X (.BoolOp .Or (a::b::rest) pos) (tOr tA tB'):=by
 intro wh pins s B H Q I h;refine isTrue_or (Ï (ha pins s B H _ I h) λc s1 z9=>?_);obtain⟨H1,I1,q1⟩:=z9;cases c with
 |true=>exact⟨H1,I1,q1⟩
 |false=>exact hb wh pins s1 B H1 Q I1 q1
theorem lr(ha:PT X a tA):PT X (.UnaryOp .Not a pos) (ND tA):=by
 intro pins s B H Q I h;exact isTrue_not (Ï (ha pins s B H (λc H1=>Q (!c) H1) I h) λc s1 ⟨H1,I1,q1⟩=>⟨H1,I1,q1⟩)
def Mr(ta tb:TE):TE:=λB H Q=>ta B H λx H1=>∃c,x=.bl c/\if c=true then tb B H1 Q else Q (.bl false) H1
def Ng(ta tb:TE):TE:=λB H Q=>ta B H λx H1=>∃c,x=.bl c/\if c=true then Q (.bl true) H1 else tb B H1 Q
theorem Bi{op}(h:PE X a t):PE X (.BoolOp op [a] pos) t:=λpins s B H Q I hw=>BoolOp_one (h pins s B H Q I hw)
theorem A4(ha:PE X a ta)(hb:PE X (.BoolOp .And (b::rest) pos) tb):PE X (.BoolOp .And (a::b::rest) pos) (Mr ta tb):=by
 intro pins s B H Q I h;refine BoolOp_and (Ï (ha pins s B H _ I h) λv s1 z9=>?_);obtain⟨x,H1,I1,r1,q1⟩:=z9;obtain⟨c,rfl,q1⟩:=q1;cases r1;refine Sn ?_;cases c with
 |true=>exact hb pins s1 B H1 Q I1 q1
 |false=>exact⟨.bl false,H1,I1,rfl,q1⟩
theorem ED(ha:PE X a ta)(hb:PE X (.BoolOp .Or (b::rest) pos) tb):PE X (.BoolOp .Or (a::b::rest) pos) (Ng ta tb):=by
 intro pins s B H Q I h;refine BoolOp_or (Ï (ha pins s B H _ I h) λv s1 z9=>?_);obtain⟨x,H1,I1,r1,q1⟩:=z9;obtain⟨c,rfl,q1⟩:=q1;cases r1;refine Sn ?_;cases c with
 |false=>exact hb pins s1 B H1 Q I1 q1
 |true=>exact⟨.bl true,H1,I1,rfl,q1⟩
def tIf(t:TT)(ta tb:TE):TE:=λB H Q=>t B H λc H1=>if c=true then ta B H1 Q else tb B H1 Q
theorem Aa(hc:PT X c tA)(ha:PE X a ta)(hb:PE X b tb):PE X (.IfExp c a b pos) (tIf tA ta tb):=by
 intro pins s B H Q I h;refine wpAny_IfExp (Ï (hc pins s B H _ I h) λd s1 z9=>?_);obtain⟨H1,I1,q1⟩:=z9;cases d with
 |true=>exact ha pins s1 B H1 Q I1 q1
 |false=>exact hb pins s1 B H1 Q I1 q1
end
def À(K:Qx)(H:Hp)(a:Qs)(xs:List V):Prop:=
 Rd H a (.lst xs)\/
  ∃(o:Obj)(Â:Array Qt)(n:Nat),K.lookup a=Wv o/\o.cls=.type "list"/\o.dict=Ww/\o.data=.seq Â n/\Â.size<=sizeLine/\Wz xs Â.toList
def Ò(K:Qx)(H:Hp)(a:Qs)(xs:List V):Prop:=
 Rd H a (.tup xs)\/
  ∃(o:Obj)(Â:Array Qt)(n:Nat),K.lookup a=Wv o/\o.cls=.type "tuple"/\o.data=.seq Â n/\Â.size<=sizeLine/\Wz xs Â.toList
def Nv:Qt->Option V
 | .none=>Wv .È
 | .bool b=>Wv (.bl b)
 | .int i _=>Wv (.int i)
 | .str x _=>Wv (.str x)
 | .bytes b _=>Wv (.Į b)
 | .float b _=>Wv (.Ϻ b)
 | .ref a=>Wv (.ref a)
 | .type n=>Wv (.ty n)
 |_=>Ww
theorem WC.abs(r:WC x u):Nv u=Wv x:=by
 cases x with
 |È=>cases r;rfl
 |bl _=>cases r;rfl
 |int _=>obtain⟨t,rfl⟩:=r;rfl
 |str _=>obtain⟨t,rfl⟩:=r;rfl
 |Į _=>obtain⟨t,rfl⟩:=r;rfl
 |Ϻ _=>obtain⟨t,rfl⟩:=r;rfl
 |ref _=>cases r;rfl
 |ty _=>cases r;rfl
theorem WC.inj(r:WC x u)(q:WC y u):x=y:=QB (r.abs.symm.trans q.abs)
theorem Wz.inj:∀{xs ys:List V}{us:List Qt},Wz xs us->Wz ys us->xs=ys:=by
 intro xs ys us h;induction h generalizing ys with
 |nil=>intro g;cases g;rfl
 |cons r _ ih=>intro g;cases g with
  |cons r' t'=>rw[r.inj r',ih t']
section
variable{X:Cx}{pins:List (Qs×Obj)}{B:St}{H:Hp}{s:Qw}{a:Qs}{xs ys:List V}
theorem À.of{K:Qx}(h:H a=Wv (.lst xs)):À K H a xs:=.inl (.inl h)
theorem Ò.of{K:Qx}(h:H a=Wv (.tup xs)):Ò K H a xs:=.inl (.inl h)
theorem Inv.list(I:Inv X pins B H s)(h:À X.K H a xs):∃Â:List Qt,Wz xs Â/\PlainL s.heap a Â.toArray/\xs.length<=sizeLine:=by
 rcases h with h|⟨o,Â,n,hk,hc,hd,hs,hz,r⟩
 ·obtain⟨z,Â,n,r,e⟩:=h.ok I.Æ;exact{Â,r,{_,n,e,rfl,rfl,rfl},z}
 refine{Â.toList,r,⟨o,n,I.ċ a o hk,hc,hd,by simpa using hs⟩,?_};have e:=r.length;simp only[OI]at e;lia
theorem Inv.tuple(I:Inv X pins B H s)(h:Ò X.K H a xs):∃Â:List Qt,Wz xs Â/\IsTup s.heap a Â.toArray/\xs.length<=sizeLine:=by
 rcases h with h|⟨o,Â,n,hk,hc,hs,hz,r⟩
 ·obtain⟨z,Â,r,p⟩:=h.ok I.Æ;exact⟨Â,r,p,z⟩
 refine{Â.toList,r,⟨o,I.ċ a o hk,hc,n,by simpa using hs⟩,?_};have e:=r.length;simp only[OI]at e;lia
theorem Inv.vf(I:Inv X pins B H s)(h:À X.K H a xs)(h':À X.K H a ys):xs=ys:=by
 obtain⟨Â,r,⟨o,n,e,_,_,d⟩,_⟩:=I.list h;obtain⟨its',r',⟨o',n',e',_,_,d'⟩,_⟩:=I.list h';rw[e]at e';cases e';rw[d]at d';injection d' with d1 _;have:Â=its':=by simpa using congrArg Array.toList d1
 subst this;exact r.inj r'
theorem Inv.Dz(I:Inv X pins B H s)(h:Ò X.K H a xs)(h':Ò X.K H a ys):xs=ys:=by
 obtain⟨Â,r,⟨o,e,_,n,d⟩,_⟩:=I.tuple h;obtain⟨its',r',⟨o',e',_,n',d'⟩,_⟩:=I.tuple h';rw[e]at e';cases e';rw[d]at d';injection d' with d1 _;have:Â=its':=by simpa using congrArg Array.toList d1
 subst this;exact r.inj r'
end
abbrev Cx.vA(X:Cx)(E:Qt->Qw->Prop):Cx:={ X with xe:=E }
abbrev Cx.Ι(X:Cx):Cx:=X.vA λ_ _=>False
theorem Cx.Ok.vA{X:Cx}(ok:X.Ok)(E:Qt->Qw->Prop):(X.vA E).Ok:=
 ⟨ok.mod,ok.kind,ok.glob,ok.blt,ok.above,ok.inj,ok.has,ok.cab,ok.hd,ok.frames,ok.stk,ok.exf,ok.bs,ok.Ζ,ok.Ei,ok.Eo,ok.sO,ok.frf⟩
theorem Cx.Ok.nB{X:Cx}{E:Qt->Qw->Prop}(ok:(X.vA E).Ok):X.Ok:=
 ⟨ok.mod,ok.kind,ok.glob,ok.blt,ok.above,ok.inj,ok.has,ok.cab,ok.hd,ok.frames,ok.stk,ok.exf,ok.bs,ok.Ζ,ok.Ei,ok.Eo,ok.sO,ok.frf⟩
section
variable{X:Cx}{pins:List (Qs×Obj)}{B:St}{H:Hp}{s:Qw}{E:Qt->Qw->Prop}
theorem Inv.vA(I:Inv X pins B H s)(E:Qt->Qw->Prop):Inv (X.vA E) pins B H s:=⟨I.ok.vA E,I.os,I.bare,I.base,I.loc,I.cell,I.free,I.kW,I.pin,I.Æ,I.len⟩
theorem Inv.nB(I:Inv (X.vA E) pins B H s):Inv X pins B H s:=⟨I.ok.nB,I.os,I.bare,I.base,I.loc,I.cell,I.free,I.kW,I.pin,I.Æ,I.len⟩
theorem SP.nB(h:SP (X.vA E) pins D f s'):SP X pins D f s':=by
 cases f with
 |next=>obtain⟨B',H',I,q⟩:=h;exact⟨B',H',I.nB,q⟩
 |brk=>obtain⟨B',H',I,q⟩:=h;exact⟨B',H',I.nB,q⟩
 |cont=>obtain⟨B',H',I,q⟩:=h;exact⟨B',H',I.nB,q⟩
 |ret u=>obtain⟨v,B',H',I,r,q⟩:=h;exact⟨v,B',H',I.nB,r,q⟩
theorem č.Ι{st:List QL}{t:TS}(h:č X.Ι st t):č X st t:=λpins s B H D I hw=>
 RF (h pins s B H D (I.vA _) hw) (λ_ _ q=>q.nB) λ_ _ z=>Rt z
end
section
variable{X:Cx}{st:QL}{rest:List QL}{t u:TS}{e:Expr}{te:TE}{pos:Pos}
def LX:TS:=λD B H=>D.nx B H
def Jg(t u:TS):TS:=λD B H=>t { D with nx:=u D } B H
theorem aJ:č X [] LX:=λ_ _ B H _ I h=>SK ⟨B,H,I,h⟩
theorem af(h1:PS X st t)(h2:č X rest u):č X (st::rest) (Jg t u):=by
 intro pins s B H D I h;refine Vl (Ï (h1 pins s B H { D with nx:=u D } I h) λf s1 q=>?_);cases f with
 |next=>
  obtain⟨B',H',I',q⟩:=q;exact h2 pins s1 B' H' D I' q
 |ret v=>exact q
 |brk=>exact q
 |cont=>exact q
theorem ag(h1:PS X st t):č X [st] t:=by
 intro pins s B H D I h;refine Vl (Ï (h1 pins s B H D I h) λf s1 q=>?_);cases f with
 |next=>exact SK q
 |ret v=>exact q
 |brk=>exact q
 |cont=>exact q
def JB:TS:=λD B H=>D.bk B H
theorem Er:PS X (.Break pos) JB:=λ_ _ B H _ I h=>wpAny_Break ⟨B,H,I,h⟩
theorem Inv.quiet(I:Inv X pins B H s):interactive X.env=false:=by simp[interactive,I.ok.kind]
def LS(te:TE):TS:=λD B H=>te B H λ_ H1=>D.nx B H1
theorem aU(he:PE X e te)(hs:Um e Ww pos.line X.env=pure false:=by rfl):PS X (.Expr e pos) (LS te):=by
 intro pins s B H D I h;exact wpAny_Expr_any (Ï (he pins s B H _ I h) λv s1 ⟨x,H1,I1,r1,q1⟩=>⟨B,H1,I1,q1⟩) I.quiet hs
def Nf(te:TE):TS:=λD B H=>te B H D.rt
theorem aE(he:PE X e te):PS X (.Return (Wv e) pos) (Nf te):=by
 intro pins s B H D I h;exact wpAny_Return_some (Ï (he pins s B H _ I h) λv s1 ⟨x,H1,I1,r1,q1⟩=>⟨x,B,H1,I1,r1,q1⟩)
def MI(c:TT)(t u:TS):TS:=λD B H=>c B H λb H1=>if b=true then t D B H1 else u D B H1
theorem aP(hc:PT X c tc)(ha:č X a t)(hb:č X b u):PS X (.If c a b pos) (MI tc t u):=by
 intro pins s B H D I h;refine wpAny_If (Ï (hc pins s B H _ I h) λd s1 z9=>?_);obtain⟨H1,I1,q1⟩:=z9;cases d with
 |true=>exact ha pins s1 B H1 D I1 q1
 |false=>exact hb pins s1 B H1 D I1 q1
end
abbrev TG:=V->St->Hp->(St->Hp->Prop)->Prop
abbrev TGs:=List V->St->Hp->(St->Hp->Prop)->Prop
def PG(X:Cx)(target:Expr)(t:TG):Prop:=
 ∀(pins:List (Qs×Obj))(s:Qw)(B:St)(H:Hp)(v:V)(u:Qt)(Q:St->Hp->Prop),Inv X pins B H s->WC v u->t v B H Q->
  wpAny (QG X.prog X.w) X.A (assign target X.env u) (λ_ s'=>NP X pins Q s') X.xe s
def PGs(X:Cx)(ts:List Expr)(t:TGs):Prop:=
 ∀(pins:List (Qs×Obj))(s:Qw)(B:St)(H:Hp)(vs:List V)(us:List Qt)(Q:St->Hp->Prop),Inv X pins B H s->Wz vs us->t vs B H Q->
  wpAny (QG X.prog X.w) X.A (assignInOrder ((S5 ts X.env).map (·.2)) us) (λ_ s'=>NP X pins Q s') X.xe s
abbrev JL:=V->V->V->Hp->(Hp->Prop)->Prop
def F1(X:Cx)(t:JL):Prop:=
 ∀(pins:List (Qs×Obj))(s:Qw)(B:St)(H:Hp)(o i v:V)(ov iv u:Qt)(Q:Hp->Prop),Inv X pins B H s->WC o ov->WC i iv->WC v u->t o i v H Q->
  wpAny (QG X.prog X.w) X.A (setItem ov iv u) (λ_ s'=>∃H',Inv X pins B H' s'/\Q H') X.xe s
abbrev TIp:=V->V->Hp->VK->Prop
def PIp(X:Cx)(op:Operator)(t:TIp):Prop:=
 ∀(pins:List (Qs×Obj))(s:Qw)(B:St)(H:Hp)(x y:V)(v u:Qt)(Q:VK),Inv X pins B H s->WC x v->WC y u->t x y H Q->
  wpAny (QG X.prog X.w) X.A (inplaceOp op v u) (EP X pins B Q) X.xe s
section
variable{X:Cx}{pos:Pos}
def wq(i:Nat):TG:=λv B H Q=>Q (B.set i (Wv v)) H
theorem CK(hN:X.N.Nodup)(hi:X.N[i]?=Wv x)(hx:Loc X.env.scope x)(hf:X.fn x=true\/X.env.scope.names.lookup x=Wv .local:=by first|exact .inl rfl|exact .inr rfl|assumption):PG X (.Name x pos) (wq i):=by
 intro pins s B H v u Q I r h;exact wpAny_assign_Name (vj I hN hi hx r (λs' I'=>{_,H,I',h}) hf)
def MP:TGs:=λvs B H Q=>vs=[]/\Q B H
def Lp(t:TG)(u:TGs):TGs:=λvs B H Q=>∃v r,vs=v::r/\t v B H λB' H'=>u r B' H' Q
theorem hV:PGs X [] MP:=by
 intro pins s B H vs us Q I r h;obtain⟨e,h⟩:=h;subst e;cases r;exact assignInOrder_nil ⟨B,H,I,h⟩
theorem bI(h1:PG X e t)(h2:PGs X es u)
  (hs:(S5 (e::es) X.env).map (·.2)=assign e X.env::(S5 es X.env).map (·.2):=by rfl):PGs X (e::es) (Lp t u):=by
 intro pins s B H vs us Q I r h
 obtain⟨v,vr,e1,h⟩:=h
 subst e1
 cases r with
 |cons r rr=>
  rw[hs]
  refine assignInOrder_cons (Ï (h1 pins s B H _ _ _ I r h) λ_ s1 z9=>?_);obtain⟨σ1,H1,I1,q1⟩:=z9
  exact h2 pins s1 σ1 H1 _ _ Q I1 rr q1
inductive Mb(K:Qx)(n:Nat)(v:V)(H:Hp)(R:List V->Prop):Prop
 |mk(a:Qs)(xs:List V)(h0:v=.ref a)(h1:Ò K H a xs)(h2:xs.length=n)(q:R xs):Mb K n v H R
def MW(K:Qx)(n:Nat)(t:TGs):TG:=λv B H Q=>Mb K n v H (λxs=>t xs B H Q)
theorem j3(hc:X.calm=true)(h:PGs X es t)
  (hn:(S5 es X.env).length=n:=by rfl) (hst:(S5 es X.env).findIdx? (·.1)=Ww:=by rfl):PG X (.Tuple es k pos) (MW X.K n t):=by
 intro pins s B H v u Q I r hw
 obtain⟨a,xs,e1,hq,hl,hw⟩:=hw
 subst e1
 cases r
 obtain⟨Â,rv,ht,hz⟩:=I.tuple hq
 refine assign_Tuple_tuple (I.ok.hd hc) ht (by simp[hn,<-hl,rv.length]) hst λh' hx=>?_
 have I1:Inv X pins B H { s with heap:=h' }:=I.kept (t':=s.toks) λb o e=>hx b o (Of (QF e)) e
 exact h pins _ B H xs _ Q I1 (by simpa using rv) hw
def Ny(to ti:TE)(t:JL):TG:=λv B H Q=>to B H λo H1=>ti B H1 λi H2=>t o i v H2 λH3=>Q B H3
theorem cY(ho:PE X o to)(hi:PE X i ti)(hs:F1 X t)
  (ha:∀v,assign (.Subscript o i pos) X.env v=(do
   let ov<-SU [v] (QV o X.env)
   let iv<-SU [v,ov] (QV i X.env)
   VN pos
   SU [v,ov,iv] (setItem ov iv v)
   release [v,ov,iv] []):=by intro _;rfl):PG X (.Subscript o i pos) (Ny to ti t):=by
 intro pins s B H v u Q I r h
 rw[ha]
 refine Qr (wpAny_holding (Ï (ho pins s B H _ I h) λov s1 z9=>?_));obtain⟨x,H1,I1,r1,q1⟩:=z9
 refine Qr (wpAny_holding (Ï (hi pins s1 B H1 _ I1 q1) λiv s2 z9=>?_));obtain⟨y,H2,I2,r2,q2⟩:=z9
 refine Qr (UB (Qr (wpAny_holding (Ï (hs pins s2 B H2 x y v ov iv u _ I2 r1 r2 r q2) λ_ s3 z9=>?_))));obtain⟨H3,I3,q3⟩:=z9
 exact wpAny_release ⟨B,H3,I3,q3⟩
def Il(te:TE)(g:TG):TS:=λD B H=>te B H λx H1=>g x B H1 D.nx
theorem cx(he:PE X e te)(hg:PG X tg g)(hs:swapsWithSole [tg] e pos.line X.env=pure false:=by rfl)(hw:swappedStores [tg] e X.env=pure Ww:=by rfl)
  (h1:(S5 [tg] X.env).map (·.2)=[assign tg X.env]:=by rfl):PS X (.Assign [tg] e pos) (Il te g):=by
 intro pins s B H D I h
 refine wpAny_Assign_stores (Ï (he pins s B H _ I h) λv s1 ⟨x,H1,I1,r1,q1⟩=>?_) hs hw
 rw[h1]
 exact Ï (hg pins s1 B H1 x v _ I1 r1 q1) λ_ s2 q=>q
theorem Kc(hN:X.N.Nodup)(hi:X.N[i]?=Wv x)(hx:Loc X.env.scope x)(he:PE X e te)(hs:Um e (Wv (.Name x pos')) pos.line X.env=pure false:=by rfl)(hf:X.fn x=true\/X.env.scope.names.lookup x=Wv .local:=by first|exact .inl rfl|exact .inr rfl|assumption) :
  PS X (.Assign [.Name x pos'] e pos) (Il te (wq i)):=by
 intro pins s B H D I h
 refine wpAny_Assign_Name (Ï (he pins s B H _ I h) λv s1 ⟨y,H1,I1,r1,q1⟩=>?_) hs
 exact vj I1 hN hi hx r1 (λs2 I2=>{_,H1,I2,q1}) hf
def MK(i:Nat)(te:TE)(ti:TIp):TS:=λD B H=>∃x,B[i]?=Wv (Wv x)/\te B H λy H1=>ti x y H1 λz H2=>D.nx (B.set i (Wv z)) H2
theorem Es(hN:X.N.Nodup)(hi:X.N[i]?=Wv x)(hx:Loc X.env.scope x)(he:PE X e te)(ho:PIp X op ti)(hf:X.fn x=true\/X.env.scope.names.lookup x=Wv .local:=by first|exact .inl rfl|exact .inr rfl|assumption) :
  PS X (.AugAssign (.Name x pos') op e pos) (MK i te ti):=by
 intro pins s B H D I h
 obtain⟨v,e1,h⟩:=h
 obtain⟨m,hn,hl⟩:=I.loc
 have vis:Vis X.env.scope x:=by rcases hx with k|k;exact .inl k;exact .inr (.inl k)
 obtain⟨u,r,l⟩:=hl i x v hi e1 vis
 refine wpAny_AugAssign_Name ?_
 have go:wpAny (QG X.prog X.w) X.A (QV e X.env) (λw s₂=>wpAny (QG X.prog X.w) X.A (inplaceOp op u w) (λr s₃=>wpAny (QG X.prog X.w) X.A (Wi X.env x r) (λ_=>SP X pins D .next) X.xe s₃) X.xe s₂) X.xe s:=by
  refine Ï (he pins s B H _ I h) λw s1 z9=>?_;obtain⟨y,H1,I1,r1,q1⟩:=z9;refine Ï (ho pins s1 B H1 v y u w _ I1 r r1 q1) λz s2 z9=>?_;obtain⟨zv,H2,I2,r2,q2⟩:=z9;exact vj I2 hN hi hx r2 (λs3 I3=>{_,H2,I3,q2}) hf
 rcases l with⟨hk,hm⟩|⟨hk,c,hc,ÿ⟩
 ·exact T8 I.ok.kind hk hn hm go
 rcases hk with hk|hk
 ·exact Us I.ok.kind hk hc ÿ go
 rcases hx with k|k
 ·have:X.env.scope.names.lookup x=Wv .free:=hk;rw[k]at this;cases this
 have:X.env.scope.names.lookup x=Wv .free:=hk
 rw[k]at this;cases this
def ipI(f:Int->Int->Int):TIp:=λx y H Q=>∃i j,x=.int i/\y=.int j/\Q (.int (f i j)) H
theorem EU:PIp X .Add (ipI λi j=>i+j):=by
 intro pins s B H x y v u Q I r1 r2 h;obtain⟨i,j,e1,e2,q⟩:=h;subst e1;subst e2;obtain⟨t,rfl⟩:=r1;obtain⟨t',rfl⟩:=r2;exact iadd_int {.int _,H,I.tok _,{_,rfl},q}
def KH(c:TT)(tb:TS):TS:=λD B H=>∃W:Nat->St->Hp->Prop,(∃m,W m B H)/\∀m B H,W m B H->
 c B H λb H1=>if b=true then ∃N:St->Hp->Prop,(∀B' H',N B' H'->∃m',m'<m/\W m' B' H')/\tb { D with nx:=N,ct:=N,bk:=D.nx } B H1 else D.nx B H1
theorem zR(hp:Wj (QG X.prog X.w) X.A X.env X.xe)(hc:PT X c tc)(hb:č X body tb):PS X (.While c body [] pos) (KH tc tb):=by
 intro pins s B H D I h;obtain⟨W,⟨m0,w0⟩,turn⟩:=h;refine wpAny_While (codeAny_whileLoop (λn s'=>NP X pins (W n) s') ?_ m0 ⟨B,H,I,w0⟩);rintro n s1 ⟨σ1,H1,I1,w1⟩;refine Rz hp (Ï (hc pins s1 σ1 H1 _ I1 (turn n σ1 H1 w1)) λb s2 z9=>?_);obtain⟨H2,I2,q2⟩:=z9;cases b with
 |true=>
  obtain⟨N,hN,q2⟩:=q2;rw[if_pos rfl];refine Rz hp (Ï (hb pins s2 σ1 H2 _ I2 q2) λf s3 q3=>?_);cases f with
  |next=>
   obtain⟨σ3,H3,I3,n3⟩:=q3;obtain⟨m',hm,w3⟩:=hN σ3 H3 n3;exact⟨m',hm,σ3,H3,I3,w3⟩
  |cont=>
   obtain⟨σ3,H3,I3,n3⟩:=q3;obtain⟨m',hm,w3⟩:=hN σ3 H3 n3;exact⟨m',hm,σ3,H3,I3,w3⟩
  |brk=>exact q3
  |ret v=>exact q3
 |false=>
  rw[if_neg NT];exact SK ⟨σ1,H2,I2,q2⟩
end
structure It where
 go:Nat->Hp->Prop
 ύ:Nat->Hp->V->Hp->Prop
 stop:Nat->Hp->Prop
def vb(X:Cx)(pins:List (Qs×Obj))(H:Hp)(b:Qs):Prop:=
 H b=Ww/\b≠X.env.locals/\b∉X.fs/\(b∈X.ex\/X.s₀.heap.objs.size<=b)/\(∀x c,X.env.cells.lookup x=Wv c->c≠b)/\∀p∈X.pn++pins,p.1≠b
theorem Inv.zE(I:Inv X pins B H s)(hb:s.heap.objs.size<=b)(hn:H' b=Ww):vb X pins H' b:=by
 refine{hn,O4 (Oa I.lt hb),I.Mh hb,.inr (NU I.sz hb),λx c e z=>?_,λp hp z=>?_}
 ·obtain⟨v,q⟩:=I.cell x c e;exact absurd (Oa q.lt (by rw[z];exact hb)) (Ol _)
 exact absurd (Oa (QF (I.pin p hp).1) (by rw[z];exact hb)) (Ol _)
structure WW(P:Program)(w:QD)(K:Qx)(tg:Expr)(J:It)(fp:List Qs)(it:Qs)(tn:Nat->QN->Prop):Prop where
 mem:it∈fp
 obj:∀i h,tn i h->∀b∈fp,∃o,h.get? b=Wv o/\∀v,o.data≠ .cell v
 keep:∀i h h',tn i h->(∀b∈fp,∀o,h.get? b=Wv o->h'.get? b=Wv o)->tn i h'
 item:∀(X:Cx),X.prog=P->X.w=w->X.K=K->X.calm=true->∀(i:Nat)(pins:List (Qs×Obj))(s:Qw)(B:St)(H:Hp)(E:Qt->Qw->Prop),Inv X pins B H s->(∀b∈fp,vb X pins H b)->tn i s.heap->J.go i H->
  wpAny (QG P w) X.A (T9 (.ref it)) (λr s1=>∃u,r=Wv u/\
   wpAny (QG P w) X.A (SM tg (.ref it) u) (λ_ s2=>∃x H',Inv X pins B H' s2/\WC x u/\J.ύ i H x H'/\tn (i+1) s2.heap/\∀b∈fp,H' b=Ww) E s1) E s
 done:∀(X:Cx),X.prog=P->X.w=w->X.K=K->X.calm=true->∀(i:Nat)(pins:List (Qs×Obj))(s:Qw)(B:St)(H:Hp)(E:Qt->Qw->Prop),Inv X pins B H s->(∀b∈fp,vb X pins H b)->tn i s.heap->J.stop i H->
  wpAny (QG P w) X.A (T9 (.ref it)) (λr s1=>r=Ww/\Inv X pins B H s1) E s
 self:∀(A:QU)(i:Nat)(s:Qw)(Q:Qt->Qw->Prop)(E:Qt->Qw->Prop),tn i s.heap->Q (.ref it) s->wpAny (QG P w) A (Wr (.ref it)) Q E s
abbrev TI:=St->Hp->(It->Hp->Prop)->Prop
def PIE(X:Cx)(pins:List (Qs×Obj))(B:St)(tg:Expr)(R:It->Hp->Prop)(itv:Qt)(s2:Qw):Prop:=
 ∃(it:Qs)(fp:List Qs)(tn:Nat->QN->Prop)(J:It)(H':Hp),itv=.ref it/\Inv X pins B H' s2/\WW X.prog X.w X.K tg J fp it tn/\tn 0 s2.heap/\(∀b∈fp,vb X pins H' b)/\R J H'
def PI(X:Cx)(tg iter:Expr)(wi:TI):Prop:=
 ∀(pins:List (Qs×Obj))(s:Qw)(B:St)(H:Hp)(R:It->Hp->Prop),Inv X pins B H s->wi B H R->
  wpAny (QG X.prog X.w) X.A (QV iter X.env) (λv s1=>wpAny (QG X.prog X.w) X.A (Wr v) (PIE X pins B tg R) X.xe s1) X.xe s
theorem y8(ho:s.heap.get? it=Wv o)(hc:o.cls=.type n)(hd:o.data=.fields vs)
    (hn:["enumerate","zip","dict_itemiterator","dict_reverseitemiterator","odict_iterator","itertools.zip_longest","itertools.pairwise"].contains n=false) (hQ:Q Unit.unit s):wpAny M A (SM tg (.ref it) u) Q E s:=by
  unfold SM
  cases tg<;>first
    |exact Qu hQ
    | (cases u<;>first
        |exact Qu hQ
        | (refine Qr (UL ho ?_)
           rw[hc,hd]
           show wpAny M A (if(["enumerate","zip","dict_itemiterator","dict_reverseitemiterator","odict_iterator","itertools.zip_longest","itertools.pairwise"].contains n&&vs[0]?==Wv (TH _))=true then _ else _) Q E s
           rw[if_neg (by intro h;rw[hn,VR]at h;cases h)]
           exact Qu hQ))
def Itl(K:Qx)(a:Qs):It:=
 {λi H=>∃xs x,À K H a xs/\xs[i]?=Wv x,λi H x H'=>H'=H/\∀xs,À K H a xs->xs[i]?=Wv x,λi H=>∃xs,À K H a xs/\xs.length<=i}
def Itt(K:Qx)(a:Qs):It:=
 {λi H=>∃xs x,Ò K H a xs/\xs[i]?=Wv x,λi H x H'=>H'=H/\∀xs,Ò K H a xs->xs[i]?=Wv x,λi H=>∃xs,Ò K H a xs/\xs.length<=i}
def Η(lo:Int)(n:Nat):It:={λi _=>i<n,λi H x H'=>H'=H/\x=.int (lo+i),λi _=>n<=i}
theorem Dw{P:Program}{w:QD}{K:Qx}{tg:Expr}(a it:Qs):WW P w K tg (Itl K a) [it] it (λi h=>h.IsListIter it a i) where
 mem:=by simp
 obj:=λi h st b hb=>by
  have e:b=it:=by simpa using hb
  subst e;obtain⟨o,e,c,d⟩:=st;exact{o,e,λv z=>by rw[d]at z;cases z}
 keep:=λi h h' st k=>st.at λo e=>k it (by simp) o e
 item:=by
  intro X hP hw hK hc i pins s B H E I hf st hg;subst hP hw hK;obtain⟨xs,x,hq,hx⟩:=hg;obtain⟨Â,rv,p,hz⟩:=I.list hq;obtain⟨u,hu,ru⟩:=rv.get hx;obtain⟨f0,f1,f2,f3,f4,f5⟩:=hf it (by simp);refine TJ st p.isList (x:=u) (by simpa using hu) λh' ĥ sb=>?_;have I1:Inv X pins B H { s with heap:=h' }:=I.turned (t':=s.toks) (λb o hb e=>(sb.2 b hb).trans e) f0 f1 f3 f4 f5;obtain⟨o,e,c,d⟩:=id ĥ;exact{u,rfl,y8 (s:={ s with heap:=h' }) e c d ∅ ⟨x,H,I1,ru,⟨rfl,λys hy=>by rw[I.vf hy hq];exact hx⟩,ĥ,λb hb=>(hf b hb).1⟩}
 done:=by
  intro X hP hw hK hc i pins s B H E I hf st hg;subst hP hw hK;obtain⟨xs,hq,hx⟩:=hg;obtain⟨Â,rv,p,hz⟩:=I.list hq;obtain⟨f0,f1,f2,f3,f4,f5⟩:=hf it (by simp);have hl:=rv.length;exact T1 (I.ok.hd hc) st p.isList (by simp;lia) λh' eb=>{rfl,I.turned (t':=s.toks) (λb o hb e=>eb b o hb e) f0 f1 f3 f4 f5}
 self:=λ_ _ _ _ _ st h=>wpAny_pyIter_listiter st h
theorem AQ{P:Program}{w:QD}{K:Qx}{tg:Expr}(a it:Qs):WW P w K tg (Itt K a) [it] it (λi h=>h.IsTupleIter it a i) where
 mem:=by simp
 obj:=λi h st b hb=>by
  have e:b=it:=by simpa using hb
  subst e;obtain⟨o,e,c,d⟩:=st;exact{o,e,λv z=>by rw[d]at z;cases z}
 keep:=λi h h' st k=>st.at λo e=>k it (by simp) o e
 item:=by
  intro X hP hw hK hc i pins s B H E I hf st hg;subst hP hw hK;obtain⟨xs,x,hq,hx⟩:=hg;obtain⟨Â,rv,p,hz⟩:=I.tuple hq;obtain⟨u,hu,ru⟩:=rv.get hx;obtain⟨f0,f1,f2,f3,f4,f5⟩:=hf it (by simp);refine wpAny_pyNext_tuple_item st (show s.heap.IsTuple a Â.toArray from p) (x:=u) (by simpa using hu) λh' ĥ sb=>?_;have I1:Inv X pins B H { s with heap:=h' }:=I.turned (t':=s.toks) (λb o hb e=>(sb.2 b hb).trans e) f0 f1 f3 f4 f5;obtain⟨o,e,c,d⟩:=id ĥ;exact{u,rfl,y8 (s:={ s with heap:=h' }) e c d ∅ ⟨x,H,I1,ru,⟨rfl,λys hy=>by rw[I.Dz hy hq];exact hx⟩,ĥ,λb hb=>(hf b hb).1⟩}
 done:=by
  intro X hP hw hK hc i pins s B H E I hf st hg;subst hP hw hK;obtain⟨xs,hq,hx⟩:=hg;obtain⟨Â,rv,p,hz⟩:=I.tuple hq;obtain⟨f0,f1,f2,f3,f4,f5⟩:=hf it (by simp);have hl:=rv.length;exact wpAny_pyNext_tuple_end (I.ok.hd hc) st (show s.heap.IsTuple a Â.toArray from p) (by simp;lia) λh' eb=>{rfl,I.turned (t':=s.toks) (λb o hb e=>eb b o hb e) f0 f1 f3 f4 f5}
 self:=λ_ _ _ _ _ st h=>wpAny_pyIter_tupleiter st h
theorem AE{P:Program}{w:QD}{K:Sl}{tg:Expr}(it:Qs)(lo:Int)(n:Nat):WW P w K tg (Η lo n) [it] it (λi h=>IsRangeIter h it (lo+(i:Nat)*1) ((n:Int)-(i:Nat)) 1) where
 mem:=by simp
 obj:=λi h st b hb=>by
  have e:b=it:=by simpa using hb
  subst e;exact⟨_,st,λv z=>by
   have z':Data.fields _=Vm v:=z;cases z'⟩
 keep:=λi h h' st k=>k it (by simp) _ st
 item:=by
  intro X hP hw hK hc i pins s B H E I hf st hg;subst hP hw hK;obtain⟨f0,f1,f2,f3,f4,f5⟩:=hf it (by simp);have W:=Walks.range (prog:=X.prog) (w:=X.w) (I.ok.hd hc) it lo 1 n;refine W.item i s _ _ hg st λv h' tk hv ĥ kk=>?_;obtain⟨t,rfl⟩:=hv;have I1:Inv X pins B H { s with heap:=h',toks:=tk }:=I.turned (λb o hb e=>kk b o (by simpa using hb) e) f0 f1 f3 f4 f5;refine⟨_,rfl,y8 (s:={ s with heap:=h',toks:=tk }) (n:="range_iterator") ĥ rfl rfl ∅ ⟨.int (lo+i),H,I1,⟨t,?_⟩,⟨rfl,rfl⟩,ĥ,λb hb=>(hf b hb).1⟩⟩;rw[Int.mul_one]
 done:=by
  intro X hP hw hK hc i pins s B H E I hf st hg;subst hP hw hK;obtain⟨f0,f1,f2,f3,f4,f5⟩:=hf it (by simp);exact wpAny_pyNext_range_end (I.ok.hd hc) st (by have:n<=i:=hg;lia) λh' eb=>{rfl,I.turned (t':=s.toks) (λb o hb e=>eb b o hb e) f0 f1 f3 f4 f5}
 self:=λ_ _ _ _ _ st h=>wpAny_pyIter_rangeiter st h
section
variable{X:Cx}{tg:Expr}
theorem zq{pins:List (Qs×Obj)}{B:St}{H:Hp}{s:Qw}{R:It->Hp->Prop}{E:Qt->Qw->Prop}{lo hi:Int}{t u v:Tok}{tk:Nat}(I:Inv X pins B H s)(h1:-(2^62)<=lo)(h2:lo<2^62)(h3:-(2^62)<=hi)(h4:hi<2^62)
  (q:R (Η lo (hi-lo).toNat) H):wpAny (QG X.prog X.w) X.A (Wr (.ref s.heap.objs.size)) (PIE X pins B tg R) E { s with heap:=s.heap.push { cls:=.type "range",data:=.fields #[.int lo t,.int hi u,.int 1 v] },toks:=tk }:=by
 refine wpAny_pyIter_range (IsRange.new ..) (small_one h1 h2 h3 h4) ?_
 have I1:Inv X pins B H { s with heap:=s.heap.push { cls:=.type "range",data:=.fields #[.int lo t,.int hi u,.int 1 v] },toks:=tk }:=I.kept λb o e=>Qv _ e
 refine⟨(s.heap.push { cls:=.type "range",data:=.fields #[.int lo t,.int hi u,.int 1 v] }).objs.size,[(s.heap.push { cls:=.type "range",data:=.fields #[.int lo t,.int hi u,.int 1 v] }).objs.size],_,_,H,rfl,
  I1.kept (t':=tk) λb o e=>Qv _ e,AE _ lo (hi-lo).toNat,?_,λb hb=>?_,q⟩
 ·have e1:lo+((0:Nat):Int)*1=lo:=by simp
  have e2:(((hi-lo).toNat:Nat):Int)-((0:Nat):Int)=Builtin.Range.rangeSize lo hi 1:=by rw[rangeSize_one];split<;>lia
  show IsRangeIter _ _ (lo+((0:Nat):Int)*1) ((((hi-lo).toNat:Nat):Int)-((0:Nat):Int)) 1;rw[e1,e2];exact QE _ rfl
 have e:b=(s.heap.push { cls:=.type "range",data:=.fields #[.int lo t,.int hi u,.int 1 v] }).objs.size:=by simpa using hb
 subst e
 exact I1.zE (NM _) (I1.Æ.fresh (NM _))
inductive KY(vs:List V)(H:Hp)(R:It->Hp->Prop):Prop
 |mk(j:Int)(h0:vs=[.int j])(h1:-(2^62)<=j)(h2:j<2^62)(q:R (Η 0 j.toNat) H):KY vs H R
def LW(ta:TA):TI:=λB H R=>ta B H λvs H1=>KY vs H1 R
def LV(ta:TA):TI:=λB H R=>ta B H λvs H1=>∃i j:Int,vs=[.int i,.int j]/\(-(2^62)<=i/\i<2^62/\-(2^62)<=j/\j<2^62)/\R (Η i (j-i).toNat) H1
theorem oN(hg:Gl X "range")(hm:X.mg "range"=Ww)(ha:PA X [a] ta)(hs:QA [a] X.env=[(false,QV a X.env)]:=by rfl):PI X tg (.Call (.Name "range" p) [a] [] pos) (LW ta):=by
 intro pins s B H R I h;refine Call_ (mE I hg hm boot_range (Rc (Ï (ha pos pins s B H _ I h) λus s1 ⟨vs,H1,I1,r1,q1⟩=>?_) hs rfl));obtain⟨j,e,q1,q2,q⟩:=q1;subst e;cases r1 with
 |cons r rr=>
  cases rr;obtain⟨t,rfl⟩:=r;exact call_range_1 (zq I1 () () q1 q2 (by simpa using q))
theorem rn(hg:Gl X "range")(hm:X.mg "range"=Ww)(ha:PA X [a,b] ta)(hs:QA [a,b] X.env=[(false,QV a X.env),(false,QV b X.env)]:=by rfl)(Ő:QA [b] X.env=[(false,QV b X.env)]:=by rfl) :
  PI X tg (.Call (.Name "range" p) [a,b] [] pos) (LV ta):=by
 intro pins s B H R I h
 refine Call_ (mE I hg hm boot_range (Rc (Ï (ha pos pins s B H _ I h) λus s1 ⟨vs,H1,I1,r1,q1⟩=>?_) (by rw[hs,Ő]) (by rw[Ő];rfl)))
 obtain⟨i,j,e,⟨q1,q2,q3,q4⟩,q⟩:=q1
 subst e
 cases r1 with
 |cons r rr=>
  cases rr with
  |cons r' rr=>
   cases rr
   obtain⟨t,rfl⟩:=r
   obtain⟨t',rfl⟩:=r'
   exact call_range_2 (zq I1 q1 q2 q3 q4 q)
def Na(wi:TI)(g:TG)(tb:TS):TS:=λD B H=>wi B H λJ H1=>∃W:Nat->Nat->St->Hp->Prop,(∃m,W 0 m B H1)/\∀i m B H,W i m B H->
 (J.stop i H/\D.nx B H)\/(J.go i H/\∃N:St->Hp->Prop,(∀B' H',N B' H'->∃m',m'<m/\W (i+1) m' B' H')/\∀x H',J.ύ i H x H'->g x B H' λσ2 H2=>tb { D with nx:=N,ct:=N,bk:=D.nx } σ2 H2)
def u7(fp:List Qs)(h:QN):List (Qs×Obj):=fp.filterMap λb=>(h.get? b).map λo=>(b,o)
theorem lJ(hb:b∈fp)(e:h.get? b=Wv o):(b,o)∈u7 fp h:=PC.mpr {b,hb,by rw[e];rfl}
theorem Ea(hp:p∈u7 fp h):p.1∈fp/\h.get? p.1=Wv p.2:=by
 obtain⟨b,hb,e⟩:=PC.mp hp;cases q:h.get? b with
 |none=>rw[q]at e;cases e
 |some o=>
  rw[q]at e;have e':(b,o)=p:=QB e;subst e';exact⟨hb,q⟩
theorem Inv.pinned(I:Inv X pins B H s)(hf:∀b∈fp,vb X pins H b)(ho:∀b∈fp,∃o,s.heap.get? b=Wv o/\∀v,o.data≠ .cell v):Inv X (pins++u7 fp s.heap) B H s:=
 I.yk λp hp=>(NQ.mp hp).elim (λz=>I.pin p (NR _ z)) λz=>by
  obtain⟨hb,e⟩:=Ea z;obtain⟨f0,f1,f2,_⟩:=hf p.1 hb;obtain⟨o,e',d⟩:=ho p.1 hb;rw[e]at e';cases e';exact⟨e,f0,f1,f2,d⟩
theorem Inv.nF(I:Inv X (pins++pl) B H s):Inv X pins B H s:=I.yk λp hp=>I.pin p (NR _ (N3 _ hp))
theorem bG(hp:Wj (QG X.prog X.w) X.A X.env X.xe)(hc:X.calm=true)(hi:PI X tg iter wi)(hg:PG X tg g)(hb:č X body tb)
  (hs:∀x,foldedSetIterable iter X.env x=pure x:=by intro _;rfl):PS X (.For tg iter body [] pos) (Na wi g tb):=by
 intro pins s B H D I h
 refine wpAny_For (Ï (hi pins s B H _ I h) λv s1 h1=>Ï h1 λitv s2 h2=>?_) hs
 obtain⟨it,fp,tn,J,H2,e,I2,T,st2,f2,W,⟨m0,w0⟩,turn⟩:=h2
 subst e
 have Ļ:∀{H':Hp},(∀b∈fp,H' b=Ww)->∀b∈fp,vb X pins H' b:=λhn b hb=>{hn b hb,(f2 b hb).2}
 refine codeAny_forLoop_any (λn s'=>∃i B' H',Inv X pins B' H' s'/\tn i s'.heap/\(∀b∈fp,H' b=Ww)/\W i n B' H') ?_ m0 {0,B,H2,I2,st2,λb hb=>(f2 b hb).1,w0}
 rintro n s3 ⟨i,σ3,H3,I3,st3,fr3,w3⟩
 rcases turn i n σ3 H3 w3 with⟨stop,qn⟩|⟨go,N,hN,step⟩
 ·refine Rz hp (Ï (T.done X rfl rfl rfl hc i pins s3 σ3 H3 X.xe I3 (Ļ fr3) st3 stop) λr s4 z9=>?_);obtain⟨hr,I4⟩:=z9;subst hr;exact SK ⟨σ3,H3,I4,qn⟩
 refine Rz hp (Ï (T.item X rfl rfl rfl hc i pins s3 σ3 H3 X.xe I3 (Ļ fr3) st3 go) λr s4 z9=>?_);obtain⟨u,hr,h4⟩:=z9
 subst hr
 refine Rz hp (Ï h4 λ_ s5 z9=>?_);obtain⟨x,H5,I5,r5,y5,ď,fr5⟩:=z9
 have I5':=I5.pinned (Ļ fr5) (T.obj _ _ ď)
 refine Rz hp (Ï (hg _ s5 σ3 H5 x u _ I5' r5 (step x H5 y5)) λ_ s6 z9=>?_);obtain⟨σ6,H6,I6,q6⟩:=z9
 refine Rz hp (Ï (hb _ s6 σ6 H6 _ I6 q6) λf s7 q7=>?_)
 have again:∀{σ7:St}{H7:Hp},Inv X (pins++u7 fp s5.heap) σ7 H7 s7->N σ7 H7->∃m,m<n/\∃i B' H',Inv X pins B' H' s7/\tn i s7.heap/\(∀b∈fp,H' b=Ww)/\W i m B' H':=λ{σ7 H7} I7 n7=>by
  obtain⟨m',hm,w7⟩:=hN σ7 H7 n7;refine{m',hm,i+1,σ7,H7,I7.nF,T.keep _ _ _ ď λb hb o e=>(I7.pin (b,o) (NR _ (NR _ (lJ hb e)))).1,λb hb=>?_,w7};obtain⟨o,e,d⟩:=T.obj _ _ ď b hb;exact(I7.pin (b,o) (NR _ (NR _ (lJ hb e)))).2.1
 cases f with
 |next=>obtain⟨σ7,H7,I7,n7⟩:=q7;exact again I7 n7
 |cont=>obtain⟨σ7,H7,I7,n7⟩:=q7;exact again I7 n7
 |brk=>obtain⟨σ7,H7,I7,q7⟩:=q7;exact⟨σ7,H7,I7.nF,q7⟩
 |ret v=>obtain⟨x7,σ7,H7,I7,r7,q7⟩:=q7;exact⟨x7,σ7,H7,I7.nF,r7,q7⟩
end
theorem bw{K:Sl}{a:Qs}{xs:List V}{g:TG}{tb:TS}{D:WV}{B:St}{H:Hp}(Pv:Nat->St->Hp->Prop)(h0:Pv 0 B H)(hl:∀i B H,i<=xs.length->Pv i B H->À K H a xs)
  (hs:∀i x B H,xs[i]?=Wv x->Pv i B H->g x B H λσ2 H2=>tb { D with nx:=Pv (i+1),ct:=Pv (i+1),bk:=D.nx } σ2 H2) (hd:∀B H,Pv xs.length B H->D.nx B H) :
  ∃W:Nat->Nat->St->Hp->Prop,(∃m,W 0 m B H)/\∀i m B H,W i m B H->
   ((Itl K a).stop i H/\D.nx B H)\/((Itl K a).go i H/\∃N:St->Hp->Prop,(∀B' H',N B' H'->∃m',m'<m/\W (i+1) m' B' H')/\∀x H',(Itl K a).ύ i H x H'->g x B H' λσ2 H2=>tb { D with nx:=N,ct:=N,bk:=D.nx } σ2 H2):=by
 refine{λi m B H=>m=xs.length-i/\i<=xs.length/\Pv i B H,{xs.length,by simp,NS _,h0},?_}
 rintro i m B H ⟨rfl,hi,p⟩
 have q:=hl i B H hi p
 by_cases í:i<xs.length
 ·refine .inr {{xs,xs[i],q,by simp[í]},Pv (i+1),λB' H' p'=>{xs.length-(i+1),(),rfl,í,p'},λx H' y=>?_};obtain⟨e,y⟩:=y;subst e;exact hs i x B _ (y xs q) p
 have e:i=xs.length:=()
 subst e
 exact .inl {{xs,q,NM _},hd B H p}
theorem HH{K:Sl}{a:Qs}{xs:List V}{g:TG}{tb:TS}{D:WV}{B:St}{H:Hp}(Pv:Nat->St->Hp->Prop)(h0:Pv 0 B H)(hl:∀i B H,i<=xs.length->Pv i B H->Ò K H a xs)
  (hs:∀i x B H,xs[i]?=Wv x->Pv i B H->g x B H λσ2 H2=>tb { D with nx:=Pv (i+1),ct:=Pv (i+1),bk:=D.nx } σ2 H2) (hd:∀B H,Pv xs.length B H->D.nx B H) :
  ∃W:Nat->Nat->St->Hp->Prop,(∃m,W 0 m B H)/\∀i m B H,W i m B H->
   ((Itt K a).stop i H/\D.nx B H)\/((Itt K a).go i H/\∃N:St->Hp->Prop,(∀B' H',N B' H'->∃m',m'<m/\W (i+1) m' B' H')/\∀x H',(Itt K a).ύ i H x H'->g x B H' λσ2 H2=>tb { D with nx:=N,ct:=N,bk:=D.nx } σ2 H2):=by
 refine{λi m B H=>m=xs.length-i/\i<=xs.length/\Pv i B H,{xs.length,by simp,NS _,h0},?_}
 rintro i m B H ⟨rfl,hi,p⟩
 have q:=hl i B H hi p
 by_cases í:i<xs.length
 ·refine .inr {{xs,xs[i],q,by simp[í]},Pv (i+1),λB' H' p'=>{xs.length-(i+1),(),rfl,í,p'},λx H' y=>?_};obtain⟨e,y⟩:=y;subst e;exact hs i x B _ (y xs q) p
 have e:i=xs.length:=()
 subst e
 exact .inl {{xs,q,NM _},hd B H p}
theorem iT{lo:Int}{n:Nat}{g:TG}{tb:TS}{D:WV}{B:St}{H:Hp}(Pv:Nat->St->Hp->Prop)(h0:Pv 0 B H)
  (hs:∀i B H,i<n->Pv i B H->g (.int (lo+i)) B H λσ2 H2=>tb { D with nx:=Pv (i+1),ct:=Pv (i+1),bk:=D.nx } σ2 H2) (hd:∀B H,Pv n B H->D.nx B H) :
  ∃W:Nat->Nat->St->Hp->Prop,(∃m,W 0 m B H)/\∀i m B H,W i m B H->
   ((Η lo n).stop i H/\D.nx B H)\/((Η lo n).go i H/\∃N:St->Hp->Prop,(∀B' H',N B' H'->∃m',m'<m/\W (i+1) m' B' H')/\∀x H',(Η lo n).ύ i H x H'->g x B H' λσ2 H2=>tb { D with nx:=N,ct:=N,bk:=D.nx } σ2 H2):=by
 refine{λi m B H=>m=n-i/\i<=n/\Pv i B H,{n,by simp,NS _,h0},?_}
 rintro i m B H ⟨rfl,hi,p⟩
 by_cases í:i<n
 ·refine .inr {í,Pv (i+1),λB' H' p'=>{n-(i+1),(),rfl,í,p'},λx H' y=>?_};obtain⟨e,y⟩:=y;subst e y;exact hs i B _ í p
 have e:i=n:=()
 subst e
 exact .inl {NM _,hd B H p}
abbrev R2:=V->V->Hp->VK->Prop
def Ô(X:Cx)(f:Qt->Qt->Sem Qt)(r:R2):Prop:=
 ∀(pins:List (Qs×Obj))(s:Qw)(B:St)(H:Hp)(x y:V)(v u:Qt)(Q:VK),Inv X pins B H s->WC x v->WC y u->r x y H Q->
  wpAny (QG X.prog X.w) X.A (f v u) (EP X pins B Q) X.xe s
def UnR(X:Cx)(f:Qt->Sem Qt)(r:V->Hp->VK->Prop):Prop:=
 ∀(pins:List (Qs×Obj))(s:Qw)(B:St)(H:Hp)(x:V)(v:Qt)(Q:VK),Inv X pins B H s->WC x v->r x H Q->
  wpAny (QG X.prog X.w) X.A (f v) (EP X pins B Q) X.xe s
def fG(X:Cx)(f:Qt)(r:List V->Hp->VK->Prop):Prop:=
 ∀(pins:List (Qs×Obj))(s:Qw)(B:St)(H:Hp)(xs:List V)(us:List Qt)(Q:VK),Inv X pins B H s->Wz xs us->r xs H Q->
  wpAny (QG X.prog X.w) X.A (call f us) (EP X pins B Q) X.xe s
def Nx(X:Cx)(r:V->Hp->(Bool->Hp->Prop)->Prop):Prop:=
 ∀(pins:List (Qs×Obj))(s:Qw)(B:St)(H:Hp)(x:V)(v:Qt)(Q:Bool->Hp->Prop),Inv X pins B H s->WC x v->r x H Q->
  wpAny (QG X.prog X.w) X.A (truthy v) (TP X pins B Q) X.xe s
def tOp(r:R2)(ta tb:TE):TE:=λB H Q=>ta B H λx H1=>tb B H1 λy H2=>r x y H2 Q
def tUn(r:V->Hp->VK->Prop)(ta:TE):TE:=λB H Q=>ta B H λx H1=>r x H1 Q
def rI(C:Int->Int->Prop)(g:Int->Int->V):R2:=λx y H Q=>∃i j,x=.int i/\y=.int j/\C i j/\Q (g i j) H
def ϑ(g:Int->Int->V):R2:=λx y H Q=>∃i j,x=.int i/\y=.int j/\Q (g i j) H
def rU(g:Int->V):V->Hp->VK->Prop:=λx H Q=>∃i,x=.int i/\Q (g i) H
section
variable{X:Cx}{a b c:Expr}{ta tb tc:TE}{pos:Pos}
theorem J5(ha:PE X a ta)(hb:PE X b tb){B:St}{H:Hp}{R:V->V->Hp->Prop}(I:Inv X pins B H s)
  (h:ta B H λx H1=>tb B H1 λy H2=>R x y H2) {Q:Qt->Qw->Prop}{f:Qt->Qt->Sem Qt}
  (hf:∀v u s2 x y H2,Inv X pins B H2 s2->WC x v->WC y u->R x y H2->wpAny (QG X.prog X.w) X.A (f v u) Q X.xe s2) :
  wpAny (QG X.prog X.w) X.A (QV a X.env) (λv s₁=>wpAny (QG X.prog X.w) X.A (QV b X.env) (λu s₂=>wpAny (QG X.prog X.w) X.A (f v u) Q X.xe s₂) X.xe s₁) X.xe s:=by
 refine Ï (ha pins s B H _ I h) λv s1 z9=>?_;obtain⟨x,H1,I1,r1,q1⟩:=z9
 refine Ï (hb pins s1 B H1 _ I1 q1) λu s2 z9=>?_;obtain⟨y,H2,I2,r2,q2⟩:=z9
 exact hf v u s2 x y H2 I2 r1 r2 q2
theorem aG(ho:Ô X (Rg op) r)(ha:PE X a ta)(hb:PE X b tb):PE X (.BinOp a op b pos) (tOp r ta tb):=by
 intro pins s B H Q I h;exact wpAny_BinOp (J5 ha hb I h λv u s2 x y H2 I2 rx ry q=>ho pins s2 B H2 x y v u Q I2 rx ry q)
theorem MC(ho:UnR X (unaryOp op) r)(ha:PE X a ta):PE X (.UnaryOp op a pos) (tUn r ta):=by
 intro pins s B H Q I h;exact UnaryOp_ (Ï (ha pins s B H _ I h) λv s1 ⟨x,H1,I1,r1,q1⟩=>ho pins s1 B H1 x v Q I1 r1 q1)
theorem opI{f:Qt->Qt->Sem Qt}{C:Int->Int->Prop}{g:Int->Int->Int}
  (rule:∀(i j:Int)(t u:Tok)(s:Qw)(Q:Qt->Qw->Prop)(E:Qt->Qw->Prop),C i j->Q (.int (g i j) s.toks) { s with toks:=s.toks+1 }->wpAny (QG X.prog X.w) X.A (f (.int i t) (.int j u)) Q E s) :
  Ô X f (rI C λi j=>.int (g i j)):=by
 intro pins s B H x y v u Q I rx ry h
 obtain⟨i,j,rfl,rfl,hc,q⟩:=h
 obtain⟨t,rfl⟩:=rx
 obtain⟨t',rfl⟩:=ry
 exact rule i j t t' s _ _ hc {.int (g i j),H,I.tok _,{_,rfl},q}
theorem KW{f:Qt->Qt->Sem Qt}{g:Int->Int->Int}
  (rule:∀(i j:Int)(t u:Tok)(s:Qw)(Q:Qt->Qw->Prop)(E:Qt->Qw->Prop),Q (.int (g i j) s.toks) { s with toks:=s.toks+1 }->wpAny (QG X.prog X.w) X.A (f (.int i t) (.int j u)) Q E s) :
  Ô X f (ϑ λi j=>.int (g i j)):=by
 intro pins s B H x y v u Q I rx ry h
 obtain⟨i,j,rfl,rfl,q⟩:=h
 obtain⟨t,rfl⟩:=rx
 obtain⟨t',rfl⟩:=ry
 exact rule i j t t' s _ _ {.int (g i j),H,I.tok _,{_,rfl},q}
theorem GA{f:Qt->Qt->Sem Qt}{g:Int->Int->Bool}
  (rule:∀(i j:Int)(t u:Tok)(s:Qw)(Q:Qt->Qw->Prop)(E:Qt->Qw->Prop),Q (.bool (g i j)) s->wpAny (QG X.prog X.w) X.A (f (.int i t) (.int j u)) Q E s) :
  Ô X f (ϑ λi j=>.bl (g i j)):=by
 intro pins s B H x y v u Q I rx ry h
 obtain⟨i,j,rfl,rfl,q⟩:=h
 obtain⟨t,rfl⟩:=rx
 obtain⟨t',rfl⟩:=ry
 exact rule i j t t' s _ _ {.bl (g i j),H,I,rfl,q}
def FR(i j:Int):Prop:=0<=j/\j<=1000000/\i.natAbs<2^64
def Ed(i j:Int):Prop:=(-(2^64)<i/\i<2^64)\/(-(2^64)<j/\j<2^64)
theorem Ed.ok(h:Ed i j):IntMulOk i j:=by
 rcases h with⟨h1,h2⟩|⟨h1,h2⟩
 ·exact .of_left (intBits_le_64 h1 h2)
 exact .of_right (intBits_le_64 h1 h2)
theorem JQ:Ô X (Rg .Add) (ϑ λi j=>.int (i+j)):=KW λ_ _ _ _ _ _ _ q=>add_int q
theorem Kq:Ô X (Rg .Sub) (ϑ λi j=>.int (i-j)):=KW λ_ _ _ _ _ _ _ q=>sub_int q
theorem Kr:Ô X (Rg .Mult) (rI Ed λi j=>.int (i*j)):=opI λ_ _ _ _ _ _ _ hc q=>mul_int q hc.ok
theorem JV:Ô X (Rg .Mod) (rI (λ_ j=>0<j) λi j=>.int (i%j)):=opI λi j _ _ _ _ _ hc q=>by
 have h1:(0:Int)<j:=hc;exact mod_int' () (by rw[Int.fmod_eq_emod_of_nonneg i ()];exact q)
theorem IQ:Ô X (Rg .Pow) (rI FR λi j=>.int (i^j.toNat)):=opI λ_ _ _ _ _ _ _ hc q=>pow_int_small hc.1 hc.2.1 hc.2.2 q
theorem Jz:Ô X (Rg .LShift) (rI FR λi j=>.int (i*2^j.toNat)):=opI λ_ _ _ _ _ _ _ hc q=>lshift_int_small hc.1 hc.2.1 hc.2.2 q
theorem Lz:Ô X (Rg .BitOr) (ϑ λi j=>.int (QW i j)):=KW λ_ _ _ _ _ _ _ q=>or_int q
theorem unI{f:Qt->Sem Qt}{g:Int->Int}
  (rule:∀(i:Int)(t:Tok)(s:Qw)(Q:Qt->Qw->Prop)(E:Qt->Qw->Prop),Q (.int (g i) s.toks) { s with toks:=s.toks+1 }->wpAny (QG X.prog X.w) X.A (f (.int i t)) Q E s) :
  UnR X f (rU λi=>.int (g i)):=by
 intro pins s B H x v Q I rx h
 obtain⟨i,rfl,q⟩:=h
 obtain⟨t,rfl⟩:=rx
 exact rule i t s _ _ {.int (g i),H,I.tok _,{_,rfl},q}
theorem Ka:UnR X (unaryOp .USub) (rU λi=>.int (-i)):=unI λ_ _ _ _ _ q=>neg_int q
def DG:V->V->Bool
 | .È,.È=>true| .È,.int _=>true| .int _,.È=>true| .È,.bl _=>true| .bl _,.È=>true| .È,.str _=>true| .str _,.È=>true
 | .int _,.int _=>true| .bl _,.bl _=>true| .str _,.str _=>true| .Į _,.Į _=>true
 | .int _,.str _=>true| .str _,.int _=>true| .bl _,.str _=>true| .str _,.bl _=>true
 |_,_=>false
def rEq:R2:=λx y H Q=>DG x y=true/\Q (.bl (decide (x=y))) H
def rNe:R2:=λx y H Q=>DG x y=true/\Q (.bl (!decide (x=y))) H
theorem Cz:decide (V.int i=V.int j)=(i==j):=by
 rw[OW];simp
theorem Eu:decide (V.bl i=V.bl j)=(i==j):=by
 rw[OW];simp
theorem B5:decide (V.str i=V.str j)=(i==j):=by
 rw[OW];simp
theorem Cy:decide (V.Į i=V.Į j)=(i.toList==j.toList):=by
 rw[OW];cases i;cases j;simp
theorem bS(I:Inv X pins B H s)(q:Q (.bl k) H)(e:k=k'):EP X pins B Q (.bool k') s:=by
 subst e;exact⟨.bl k,H,I,rfl,q⟩
theorem LY:Ô X (QK .Eq) rEq:=by
 intro pins s B H x y v u Q I rx ry h;obtain⟨hs,q⟩:=h;cases x with
 |È=>
  cases rx;cases y with
  |È=>cases ry;exact PySem.EqNone.eq_none_none (bS I q (by simp))
  |bl j=>cases ry;exact PySem.EqNone.eq_none_bool (bS I q (by simp))
  |int j=>obtain⟨t',rfl⟩:=ry;exact PySem.EqNone.eq_none_int (bS I q (by simp))
  |str j=>obtain⟨t',rfl⟩:=ry;exact PySem.EqNone.eq_none_str (bS I q (by simp))
  |_=>exact absurd (show false=true from hs) NT
 |bl i=>
  cases rx;cases y with
  |È=>cases ry;exact PySem.EqNone.eq_bool_none (bS I q (by simp))
  |bl j=>cases ry;exact eq_bool (bS I q Eu)
  |str j=>obtain⟨t',rfl⟩:=ry;exact PySem.EqMixed.eq_bool_str (bS I q (by simp))
  |_=>exact absurd (show false=true from hs) NT
 |int i=>
  obtain⟨t,rfl⟩:=rx;cases y with
  |È=>cases ry;exact PySem.EqNone.eq_int_none (bS I q (by simp))
  |int j=>obtain⟨t',rfl⟩:=ry;exact eq_int (bS I q Cz)
  |str j=>obtain⟨t',rfl⟩:=ry;exact PySem.EqMixed.eq_int_str (bS I q (by simp))
  |_=>exact absurd (show false=true from hs) NT
 |str i=>
  obtain⟨t,rfl⟩:=rx;cases y with
  |È=>cases ry;exact PySem.EqNone.eq_str_none (bS I q (by simp))
  |bl j=>cases ry;exact PySem.EqMixed.eq_str_bool (bS I q (by simp))
  |int j=>obtain⟨t',rfl⟩:=ry;exact PySem.EqMixed.eq_str_int (bS I q (by simp))
  |str j=>obtain⟨t',rfl⟩:=ry;exact eq_str (bS I q B5)
  |_=>exact absurd (show false=true from hs) NT
 |Į i=>
  obtain⟨t,rfl⟩:=rx;cases y with
  |Į j=>obtain⟨t',rfl⟩:=ry;exact W.eq_bytes (bS I q Cy)
  |_=>exact absurd (show false=true from hs) NT
 |_=>cases y<;>exact absurd (show false=true from hs) NT
theorem LJ:Ô X (QK .NotEq) rNe:=by
 intro pins s B H x y v u Q I rx ry h;obtain⟨hs,q⟩:=h;cases x with
 |È=>
  cases rx;cases y with
  |È=>cases ry;exact PySem.EqNone.ne_none_none (bS I q (by simp))
  |bl j=>cases ry;exact PySem.EqNone.ne_none_bool (bS I q (by simp))
  |int j=>obtain⟨t',rfl⟩:=ry;exact PySem.EqNone.ne_none_int (bS I q (by simp))
  |str j=>obtain⟨t',rfl⟩:=ry;exact PySem.EqNone.ne_none_str (bS I q (by simp))
  |_=>exact absurd (show false=true from hs) NT
 |bl i=>
  cases rx;cases y with
  |È=>cases ry;exact PySem.EqNone.ne_bool_none (bS I q (by simp))
  |bl j=>cases ry;exact ne_bool (bS I q (congrArg not Eu))
  |str j=>obtain⟨t',rfl⟩:=ry;exact PySem.EqMixed.ne_bool_str (bS I q (by simp))
  |_=>exact absurd (show false=true from hs) NT
 |int i=>
  obtain⟨t,rfl⟩:=rx;cases y with
  |È=>cases ry;exact PySem.EqNone.ne_int_none (bS I q (by simp))
  |int j=>obtain⟨t',rfl⟩:=ry;exact ne_int (bS I q (congrArg not Cz))
  |str j=>obtain⟨t',rfl⟩:=ry;exact PySem.EqMixed.ne_int_str (bS I q (by simp))
  |_=>exact absurd (show false=true from hs) NT
 |str i=>
  obtain⟨t,rfl⟩:=rx;cases y with
  |È=>cases ry;exact PySem.EqNone.ne_str_none (bS I q (by simp))
  |bl j=>cases ry;exact PySem.EqMixed.ne_str_bool (bS I q (by simp))
  |int j=>obtain⟨t',rfl⟩:=ry;exact PySem.EqMixed.ne_str_int (bS I q (by simp))
  |str j=>obtain⟨t',rfl⟩:=ry;exact ne_str (bS I q (congrArg not B5))
  |_=>exact absurd (show false=true from hs) NT
 |Į i=>
  obtain⟨t,rfl⟩:=rx;cases y with
  |Į j=>obtain⟨t',rfl⟩:=ry;exact W.ne_bytes (bS I q (congrArg not Cy))
  |_=>exact absurd (show false=true from hs) NT
 |_=>cases y<;>exact absurd (show false=true from hs) NT
theorem Mf:Ô X (QK .Lt) (ϑ λi j=>.bl (decide (i<j))):=GA λ_ _ _ _ _ _ _ q=>lt_int q
theorem LC:Ô X (QK .LtE) (ϑ λi j=>.bl (decide (i<=j))):=GA λ_ _ _ _ _ _ _ q=>le_int q
theorem Ln:Ô X (QK .Gt) (ϑ λi j=>.bl (decide (j<i))):=GA λ_ _ _ _ _ _ _ q=>gt_int q
theorem Mq:Ô X (QK .GtE) (ϑ λi j=>.bl (decide (j<=i))):=GA λ_ _ _ _ _ _ _ q=>ge_int q
theorem Df:Ô X (QK .In) (λx y H Q=>∃i j,x=.str i/\y=.str j/\Q (.bl (!(Q8 j i 0 j.length 1).isEmpty)) H):=by
 intro pins s B H x y v u Q I rx ry h;obtain⟨i,j,rfl,rfl,q⟩:=h;obtain⟨t,rfl⟩:=rx;obtain⟨t',rfl⟩:=ry;exact in_str (bS I q rfl)
theorem JW:Ô X (QK .Is) (λx y H Q=>y=.È/\Q (.bl (decide (x=.È))) H):=by
 intro pins s B H x y v u Q I rx ry h;obtain⟨rfl,q⟩:=h;cases ry;refine is_none_gen (bS I q ?_);cases x<;>first
  | (cases rx;rfl)
  | (obtain⟨t,rfl⟩:=rx;rfl)
theorem Im:Ô X (QK .IsNot) (λx y H Q=>y=.È/\Q (.bl (!decide (x=.È))) H):=by
 intro pins s B H x y v u Q I rx ry h;obtain⟨rfl,q⟩:=h;cases ry;refine isnot_none_gen (bS I q ?_);cases x<;>first
  | (cases rx;rfl)
  | (obtain⟨t,rfl⟩:=rx;rfl)
theorem Ô.or(h:Ô X f r)(h':Ô X f r'):Ô X f (λx y H Q=>r x y H Q\/r' x y H Q):=by
 intro pins s B H x y v u Q I rx ry q;rcases q with q|q
 ·exact h pins s B H x y v u Q I rx ry q
 exact h' pins s B H x y v u Q I rx ry q
theorem FH(b:Expr)(h:op≠ .In:=by decide)(h2:op≠ .NotIn:=by decide):R7 op b=false:=by
 have e1:(op==CmpOp.In)=false:=by cases op<;>first|rfl|exact absurd rfl h
 have e2:(op==CmpOp.NotIn)=false:=by cases op<;>first|rfl|exact absurd rfl h2
 cases b<;>simp[R7,e1,e2]
theorem Ht(ho:Ô X (QK op) r)(ha:PE X a ta)(hb:PE X b tb)(hm:R7 op b=false):PE X (.Compare a [op] [b] pos) (tOp r ta tb):=by
 intro pins s B H Q I h;exact wpAny_Compare1 (J5 ha hb I h λv u s2 x y H2 I2 rx ry q=>ho pins s2 B H2 x y v u Q I2 rx ry q) hm
inductive blI(x:V)(H:Hp)(Q:Bool->Hp->Prop):Prop
 |mk(k:Bool)(h:x=.bl k)(q:Q k H):blI x H Q
def IE(t:TE):TT:=λB H Q=>t B H λx H'=>blI x H' Q
theorem GJ(ho:Ô X (QK op) r)(ha:PE X a ta)(hb:PE X b tb)(hm:R7 op b=false):PT X (.Compare a [op] [b] pos) (IE (tOp r ta tb)):=by
 intro pins s B H Q I h;refine wpAny_isTrue_Compare1 (Ï (ha pins s B H _ I h) λv s1 ⟨x,H1,I1,r1,q1⟩=>Ï (hb pins s1 B H1 _ I1 q1) λu s2 ⟨y,H2,I2,r2,q2⟩=>
  Ï (ho pins s2 B H2 x y v u _ I2 r1 r2 q2) λc s3 ⟨z,H3,I3,r3,k,e,q3⟩=>?_) hm
 subst e;cases r3;exact Sn ⟨H3,I3,q3⟩
def Lx(K:Qx)(x:V)(H:Hp)(k:Bool):Prop:=
 match x with
 | .È=>k=false
 | .bl b=>k=b
 | .int i=>k=(i !=0)
 | .str y=>y.length<=sizeLine/\k=((y.length:Int)!=0)
 | .Į y=>y.size<=sizeLine/\k=((y.size:Int)!=0)
 | .ref p=>(∃xs,À K H p xs/\k=!xs.isEmpty)\/(∃xs,Ò K H p xs/\k=!xs.isEmpty)\/∃kvs,H p=Wv (.dK kvs)/\k=!kvs.isEmpty
 |_=>False
theorem Au(r:KV kvs vs):(!vs.isEmpty)=!kvs.isEmpty:=by
 cases r<;>rfl
theorem uR(r:Wz xs Â):(!Â.toArray.isEmpty)=!xs.isEmpty:=by
 cases r<;>simp
theorem rF:(sizeLine:Nat)<2^63:=by rw[RT];decide
inductive An(K:Qx)(x:V)(H:Hp)(Q:Bool->Hp->Prop):Prop
 |mk(k:Bool)(h:Lx K x H k)(q:Q k H):An K x H Q
theorem Fh:Nx X (An X.K):=by
 intro pins s B H x v Q I rx h;obtain⟨k,e,q⟩:=h;have hl:=rF;have hs:sizeLine=16777216:=RT;cases x with
 |È=>
  cases rx;have e':k=false:=e;subst e';exact truthy_none ⟨H,I,q⟩
 |bl b=>
  cases rx;have e':k=b:=e;subst e';exact Sn ⟨H,I,q⟩
 |int i=>
  obtain⟨t,rfl⟩:=rx;have e':k=(i !=0):=e;subst e';exact PySem.P.truthy_int ⟨H,I,q⟩
 |str y=>
  obtain⟨t,rfl⟩:=rx;obtain⟨hy,e'⟩:y.length<=sizeLine/\k=((y.length:Int)!=0):=e;subst e';exact PySem.P.truthy_str () {H,I.tok _,q}
 |Į y=>
  obtain⟨t,rfl⟩:=rx;obtain⟨hy,e'⟩:y.size<=sizeLine/\k=((y.size:Int)!=0):=e;subst e';exact W.truthy_bytes () {H,I.tok _,q}
 |ref p=>
  cases rx;have e':(∃xs,À X.K H p xs/\k=!xs.isEmpty)\/(∃xs,Ò X.K H p xs/\k=!xs.isEmpty)\/∃kvs,H p=Wv (.dK kvs)/\k=!kvs.isEmpty:=e;rcases e' with⟨xs,hx,e'⟩|⟨xs,hx,e'⟩|⟨kvs,hx,e'⟩
  ·subst e';obtain⟨Â,r,pl,hz⟩:=I.list hx;have hlen:=r.length;exact wpAny_truthy_list pl.isList (by simp only[NV];lia) {H,I.tok _,by rw[uR r];exact q}
  ·subst e';obtain⟨Â,r,pl,hz⟩:=I.tuple hx;have hlen:=r.length;exact truthy_tuple pl (by simp only[NV];lia) {H,I.tok _,by rw[uR r];exact q}
  subst e';obtain⟨hz,hS,vs,r,m⟩:kvs.length<=sizeLine/\(p==Rr)=false/\∃vs,KV kvs vs/\s.heap.DictOf (cA X.prog X.w) p vs:=I.Æ p _ hx;have hlen:kvs.length=vs.length:=Qy r;exact wpAny_truthy_dict hS m () {H,I.tok _,by rw[Au r];exact q}
 |_=>exact(show False from e).elim
theorem Gs(ha:PE X a ta)(he:∀whole,isTrue a X.env whole=(do let v<-whole;VN a.pos;SU [v] (truthy v))) :
  PT X a (λB H Q=>ta B H λx H'=>An X.K x H' Q):=by
 intro pins s B H Q I h
 exact isTrue_plain (Ï (ha pins s B H _ I h) λv s1 ⟨x,H1,I1,r1,q1⟩=>Fh pins s1 B H1 x v Q I1 r1 q1) (he _)
theorem Bh:Ô X (Rg .Add) (λx y H Q=>∃i j,x=.str i/\y=.str j/\i.length+j.length<=sizeLine/\Q (.str (i++j)) H):=by
 intro pins s B H x y v u Q I rx ry h;obtain⟨i,j,rfl,rfl,hz,q⟩:=h;obtain⟨t,rfl⟩:=rx;obtain⟨t',rfl⟩:=ry;exact add_str (λt' tk=>{.str (i++j),H,I.tok _,{_,rfl},q}) hz
theorem WL(r:Wz [x] us):∃u,us=[u]/\WC x u:=by
 cases r with
 |cons r1 r2=>cases r2;exact{_,rfl,r1}
theorem WX(r:Wz [x,y] us):∃u w',us=[u,w']/\WC x u/\WC y w':=by
 cases r with
 |cons r1 r2=>
  cases r2 with
  |cons r3 r4=>cases r4;exact{_,_,rfl,r1,r3}
theorem Dx(hc:X.calm=true):fG X (.builtin "max") (λxs H Q=>∃i j,xs=[.int i,.int j]/\Q (.int (if j>i then j else i)) H):=by
 intro pins s B H xs us Q I r h;obtain⟨i,j,rfl,q⟩:=h;obtain⟨u,w',rfl,⟨t,rfl⟩,⟨t',rfl⟩⟩:=WX r;refine max_two_ints (I.ok.hd hc) λh' tk k=>{_,H,I.kept k,?_,q};by_cases hj:j>i
 ·rw[if_pos hj,if_pos hj];exact{_,rfl}
 rw[if_neg hj,if_neg hj];exact{_,rfl}
theorem xY:fG X (.type "str") (λxs H Q=>∃i,xs=[.int i]/\i.natAbs.log2<1920/\Q (.str (toString i)) H):=by
 intro pins s B H xs us Q I r h;obtain⟨i,rfl,hz,q⟩:=h;obtain⟨u,rfl,t,rfl⟩:=WL r;exact PySem.P.str_of_int hz {.str _,H,I.tok _,{_,rfl},q}
def LP(K:Qx)(x:V)(H:Hp)(n:Nat):Prop:=
 match x with
 | .str y=>y.length<=sizeLine/\n=y.length
 | .Į y=>y.size<=sizeLine/\n=y.size
 | .ref p=>(∃xs,À K H p xs/\n=xs.length)\/∃xs,Ò K H p xs/\n=xs.length
 |_=>False
theorem EC:fG X (.builtin "len") (λxs H Q=>∃x n,xs=[x]/\LP X.K x H n/\Q (.int n) H):=by
 intro pins s B H xs us Q I r h;obtain⟨x,n,rfl,e,q⟩:=h;obtain⟨u,rfl,rx⟩:=WL r;have hl:=rF;have hs:sizeLine=16777216:=RT;cases x with
 |str y=>
  obtain⟨t,rfl⟩:=rx;obtain⟨hy,e'⟩:y.length<=sizeLine/\n=y.length:=e;subst e';exact len_str () {.int _,H,I.tok _,{_,rfl},q}
 |Į y=>
  obtain⟨t,rfl⟩:=rx;obtain⟨hy,e'⟩:y.size<=sizeLine/\n=y.size:=e;subst e';exact W.len_bytes () {.int _,H,I.tok _,{_,rfl},q}
 |ref p=>
  cases rx;have e':(∃xs,À X.K H p xs/\n=xs.length)\/∃xs,Ò X.K H p xs/\n=xs.length:=e;rcases e' with⟨xs,hx,e'⟩|⟨xs,hx,e'⟩
  ·subst e';obtain⟨Â,r',pl,hz⟩:=I.list hx;have hlen:=r'.length;exact Calls.call_len_list pl.isList (by simp only[NV];lia) {.int xs.length,H,I.tok _,{_,by simp only[NV];rw[hlen]},q}
  subst e';obtain⟨Â,r',pl,hz⟩:=I.tuple hx;have hlen:=r'.length;exact len_tuple pl (by simp only[NV];lia) {.int xs.length,H,I.tok _,{_,by simp only[NV];rw[hlen]},q}
 |_=>exact(show False from e).elim
end
structure Bt(h:QN)(x dx C:Qs)(mA:Str->Option Qt):Prop where
 obj:h.get? x=Wv (Sz C dx)
 ns:h.Ns1 dx mA
 ne:dx≠x
theorem DB{h:QN}{mA:Str->Option Qt}(n:h.Ns1 dx mA):∃od,h.get? dx=Wv od/\∀name,VS name od=Wv (mA name):=by
 obtain⟨o,es,ep,ho,hd,hk,_,hm⟩:=n;refine{o,ho,λname=>?_};have e:=hm name;unfold nsFind findBy at e;rw[<-Array.find?_toList]at e;unfold VS;rw[hd];dsimp only;split
 ·rename_i y q;rw[q]at e;exact congrArg Wv e
 rename_i q;rw[q]at e;have a:es.toList.any (·.refKey)=false:=by
  rw[List.any_eq_false];intro y hy;obtain⟨z,t,œ⟩:=hk y (Array.mem_toList_iff.mp hy);simp[DictEntry.refKey,œ]
 have a':¬ es.toList.any (·.refKey)=true:=by rw[a];exact NT
 rw[if_neg a'];exact congrArg Wv e
theorem Bt.look(I:Bt h x dx C mA):∃od,W.InstAt h x (Sz C dx) C (Wv od)/\∀name,VS name od=Wv (mA name):=
 let ⟨od,ho,hl⟩:=DB I.ns
 {od,⟨I.obj,rfl,rfl,ho⟩,hl}
section
variable{prog:Program}{w:QD}{A:QU}{E:Qt->Qw->Prop}{s:Qw}{K:Qx}{x dx C f:Qs}{mA:Str->Option Qt}{name:Str}{v:Qt}
theorem get_map(X:K.In s.heap)(I:Bt s.heap x dx C mA)(hg:TK K C name=true)(hh:Ua K C=true)
  (ha:Rl K (.ref C) name=Wv Ww) (hv:mA name=Wv v) (hv':W.handedIn v=true) (h:Q v { s with toks:=s.toks+1 }) :
  wpAny (QG prog w) A (getAttr (.ref x) name expr) Q E s:=by
 obtain⟨od,J,hl⟩:=I.look
 exact W.get_value X J (UC hg).1 (W.findObj_own hh ha rfl (by rw[hl,hv])) hv' h
theorem Fu(X:K.In s.heap)(I:Bt s.heap x dx C mA)(hg:TK K C name=true)
  (hf:Rl K (.ref C) name=Wv (Wv (.ref f))) (ht:Ws K (.ref f)=true) (hv:mA name=Ww) (h:Q (.ref f,[.ref x]) s) :
  wpAny (QG prog w) A (Vn (.ref x) name pl) Q E s:=by
 obtain⟨od,J,hl⟩:=I.look
 exact W.method_fn X J (UC hg).1 (UC hg).2 hf (beq_iff_eq.mp ht) (by show(VS name od).map (·.isSome)=Wv false;rw[hl,hv];rfl) h
theorem GR(X:K.In s.heap)(I:Bt s.heap x dx C mA)
  (hs:Rl K (.ref C) "__setattr__"=Wv (Wv (.builtin "object.__setattr__"))) (hp:Vz K C=true) (ht:Wk K C name=Wv Ww) (hh:Ua K C=true)
  (hw:U4 mA ns) (hsz:ns.length<=sizeLine)
  (h:∀h',Bt h' x dx C (λy=>if y=name then Wv v else mA y)->RQ dx s.heap h'->Q Unit.unit { s with heap:=h',toks:=s.toks+2 }) :
  wpAny (QG prog w) A (setAttr (.ref x) name v) Q E s:=by
 obtain⟨od,J,hl⟩:=I.look
 refine W.set_plain X J hs (W.osa_open (s:={ s with toks:=s.toks+1 }) (r:=Ww) X J hp ht λb=>?_)
 obtain⟨cd,hc,hd'⟩:=W.any_some hh
 have hx:s.heap.get? x=Wv {.ref C,Wv dx,.plain,#[]}:=I.obj
 refine Qr (Qu (Qr (Qr (wpAny_loadPart hx (Qr (W.Looks.here (s:={ s with toks:=s.toks+1 }) (W.looks_clsIn X hc) ?_))))))
 rw[hd']
 refine Qu (a:=Wv dx) (Qr (Qu (Qr ?_)))
 refine wpAny_nsSet1 (s:={ s with toks:=s.toks+1 }) I.ns λh' Ν Ő=>?_
 obtain⟨oD,esD,epD,hoD,hdD,hcD⟩:=Ν.count (PySem.Within.cons name v hw)
 refine Qr (wpAny_lookBehind hoD (by rw[hdD];exact pastItsLine_dict (NU hcD (by rw[N7];lia))) ?_)
 exact Qu (h _ {(Ő.2 _ (OU I.ne)).trans I.obj,Ν,I.ne} Ő)
theorem EM(X:K.In s.heap)(hm:Vo K C=true)
  (hi:Rl K (.ref C) "__init__"=Wv (Wv (.ref f))) (hf:W.typeIn K (.ref f)=Wv (.type "function"))
  (h:codeAny (QG prog w) (A.under (.builtin "type.__call__" {.ref C::vs,kw})) (.call (.ref f) {.ref (s.heap.objs.size+1)::vs,kw}) (W.InitBack (s.heap.objs.size+1) R)
   { s with heap:=(s.heap.push RO).push (Sz C s.heap.objs.size) }) :
  codeAny (QG prog w) A (.call (.ref C) ⟨vs,kw⟩) R s:=by
 obtain⟨hh,g,d,t,os⟩:=s
 exact W.make_core (W.makes_of X hm) (W.looks_findIn X hi) (λself=>W.bind_fn X self hf) (.inl rfl) h
end
def jf(f:Str)(v:V):List (Str×V)->List (Str×V)
 | []=>[(f,v)]
 | (g,x)::r=>if g=f then(g,v)::r else(g,x)::jf f v r
theorem sr(f g:Str)(v:V):∀fs:List (Str×V),(jf f v fs).lookup g=if g=f then Wv v else fs.lookup g
 | []=>by
  show RU g [(f,v)]=_;by_cases h:g=f
  ·have hb:(g==f)=true:=beq_iff_eq.mpr h;simp only[RU,hb,if_pos h]
  have hb:(g==f)=false:=beq_eq_false_iff_ne.mpr h;simp only[RU,hb,if_neg h]
 | (k,x)::r=>by
  have ih:=sr f g v r;rw[show jf f v ((k,x)::r)=(if k=f then(k,v)::r else(k,x)::jf f v r)from rfl];by_cases hk:k=f
  ·rw[if_pos hk];by_cases h:g=k
   ·have hb:(g==k)=true:=beq_iff_eq.mpr h;simp only[RU,hb,if_pos (h.trans hk)]
   have hb:(g==k)=false:=beq_eq_false_iff_ne.mpr h;simp only[RU,hb,if_neg (λe:g=f=>h (e.trans hk.symm))]
  rw[if_neg hk];by_cases h:g=k
  ·have hb:(g==k)=true:=beq_iff_eq.mpr h;simp only[RU,hb,if_neg (λe:g=f=>hk (h.symm.trans e))]
  have hb:(g==k)=false:=beq_eq_false_iff_ne.mpr h;simp only[RU,hb];exact ih
theorem q5(f:Str)(v:V):∀fs:List (Str×V),f∈(jf f v fs).map (·.1)/\∀g,g∈fs.map (·.1)->g∈(jf f v fs).map (·.1)
 | []=>{by simp[jf],λg h=>by simp at h}
 | (k,x)::r=>by
  obtain⟨i1,i2⟩:=q5 f v r;rw[show jf f v ((k,x)::r)=(if k=f then(k,v)::r else(k,x)::jf f v r)from rfl];by_cases hk:k=f
  ·rw[if_pos hk];subst hk;exact{by simp,λg h=>by simpa using h}
  rw[if_neg hk];refine{?_,λg h=>?_}
  ·rw[N9];exact NK _ i1
  rw[N9]at h⊢;rcases NJ.mp h with e|e
  ·exact NJ.mpr (.inl e)
  exact NK _ (i2 g e)
theorem sv(f:Str)(v:V):∀fs:List (Str×V),(jf f v fs).length<=fs.length+1
 | []=>by simp[jf]
 | (k,x)::r=>by
  have ih:=sv f v r;rw[show jf f v ((k,x)::r)=(if k=f then(k,v)::r else(k,x)::jf f v r)from rfl];by_cases hk:k=f
  ·rw[if_pos hk,N7,N7];lia
  rw[if_neg hk,N7,N7];lia
theorem oU.some_of(r:oU (Wv v) o):∃u,o=Wv u/\WC v u:=by
 cases o with
 |none=>exact(show False from r).elim
 |some u=>exact⟨u,rfl,r⟩
theorem oU.none_of(r:oU Ww o):o=Ww:=by
 cases o with
 |none=>rfl
 |some u=>exact(show False from r).elim
theorem Dl(r:WC v u):W.handedIn u=true:=by
 cases v with
 |È=>cases (show u=Sy from r);rfl
 |bl b=>cases (show u=UJ b from r);rfl
 |int i=>obtain⟨t,e⟩:=(show ∃t,u=RI i t from r);cases e;rfl
 |str x=>obtain⟨t,e⟩:=(show ∃t,u=Uk x t from r);cases e;rfl
 |Į b=>obtain⟨t,e⟩:=(show ∃t,u=Value.bytes b t from r);cases e;rfl
 |Ϻ b=>obtain⟨t,e⟩:=(show ∃t,u=Vx b t from r);cases e;rfl
 |ref a=>cases (show u=QJ a from r);rfl
 |ty n=>cases (show u=Rq n from r);rfl
section
variable{P:Program}{w:QD}{H H':Hp}{h h':QN}{a C dx:Qs}{fs fs':List (Str×V)}
theorem tj(Æ:ý P w H h)(e:H a=Wv (.ins C dx fs)):∃mA,Bt h a dx C mA/\(∀f,oU (fs.lookup f) (mA f))/\U4 mA (fs.map (·.1))/\fs.length<=1000/\H dx=Wv (.own a):=by
 obtain⟨d,z,ne,ob,mA,n,r,q⟩:=(show dN P w H h a (.ins C dx fs)from Æ a _ e);exact{mA,⟨ob,n,ne⟩,r,q,z,d}
end
structure ĺ(K:Qx)(C:Qs):Prop where
 pg:TK K C Q4=true
 hd:Ua K C=true
 po:Vz K C=true
 sa:Rl K (.ref C) "__setattr__"=Wv (Wv (.builtin "object.__setattr__"))
theorem ĺ.get{K:Qx}{C:Qs}(c:ĺ K C)(f:Str):TK K C f=true:=c.pg
def aV(K:Qx)(C:Qs)(f:Str):Prop:=Rl K (.ref C) f=Wv Ww
theorem aV.Mx{K:Qx}{C:Qs}{f:Str}(n:aV K C f):Wk K C f=Wv Ww:=by
 unfold Wk;rw[show Rl K (.ref C) f=Wv Ww from n];rfl
structure Con(K:Qx)(C:Qs)(f:Str)(v:V)(u:Qt):Prop where
 at_:Rl K (.ref C) f=Wv (Wv u)
 rel:WC v u
 get:Sg K u "__get__"=Wv Ww
 cp:W.copiedNames.contains f=false
structure WZ(K:Qx)(C:Qs)(m:Str)(f:Qs):Prop where
 at_:Rl K (.ref C) m=Wv (Wv (.ref f))
 fn:Ws K (.ref f)=true
 kp:RB K (.ref f)=true
section
variable{X:Cx}{pins:List (Qs×Obj)}{B:St}{H:Hp}{s:Qw}{a C dx:Qs}{fs:List (Str×V)}{f:Str}{v:V}{A:QU}{E:Qt->Qw->Prop}
theorem BB(I:Inv X pins B H s)(e:H a=Wv (.ins C dx fs))(c:ĺ X.K C)(n:aV X.K C f)(l:fs.lookup f=Wv v)
  (h:∀u s',Inv X pins B H s'->WC v u->Q u s'):wpAny (QG X.prog X.w) A (getAttr (.ref a) f b) Q E s:=by
 obtain⟨mA,O,r,_,_,_⟩:=tj I.Æ e
 obtain⟨u,hu,ru⟩:=oU.some_of (v:=v) (o:=mA f) (by rw[<-l];exact r f)
 exact get_map I.ċ O (c.get f) c.hd n hu (Dl ru) (h u _ (I.tok _) ru)
theorem AY(I:Inv X pins B H s)(e:H a=Wv (.ins C dx fs))(c:ĺ X.K C)(k:WZ X.K C m g)(l:fs.lookup m=Ww)
  (h:Q (.ref g,[.ref a]) s):wpAny (QG X.prog X.w) A (Vn (.ref a) m pl) Q E s:=by
 obtain⟨mA,O,r,_,_,_⟩:=tj I.Æ e
 have hn:mA m=Ww:=oU.none_of (by rw[<-l];exact r m)
 exact Fu I.ċ O (c.get m) k.at_ k.fn hn h
theorem Bp(I:Inv X pins B H s)(e:H a=Wv (.ins C dx fs))(c:ĺ X.K C)(n:aV X.K C f)(hl:fs.length<1000)(ry:WC y u)
  (h:∀s',Inv X pins B (upd H a (.ins C dx (jf f y fs))) s'->Q Unit.unit s'):wpAny (QG X.prog X.w) A (setAttr (.ref a) f u) Q E s:=by
 obtain⟨mA,O,r,wi,_,ho⟩:=tj I.Æ e
 have hz:(fs.map (·.1)).length<=sizeLine:=by rw[NH,RT];lia
 refine GR I.ċ O c.sa c.po n.Mx c.hd wi hz λh' O' sb=>h _ ?_
 have hd:∃o,h'.get? dx=Wv o:=let ⟨o,_,_,e',_⟩:=O'.ns;⟨o,e'⟩
 refine I.write (x:=a) (e:=dx) (by rw[e];exact NY) (.inr ho) (λb q hb z=>(sb.2 b hb).trans z) hd ?_
 refine{by rw[aR O.ne];exact ho,?_,O.ne,O'.obj,_,O'.ns,λg=>?_,λg hg=>?_}
 ·have:=sv f y fs;lia
 ·show oU ((jf f y fs).lookup g) (if g=f then Wv u else mA g);rw[sr];by_cases q:g=f
  ·rw[if_pos q,if_pos q];exact ry
  rw[if_neg q,if_neg q];exact r g
 by_cases q:g=f
 ·rw[q];exact(q5 f y fs).1
 refine(q5 f y fs).2 g (wi g λz=>hg ?_)
 show(if g=f then Wv u else mA g)=Ww
 rw[if_neg q];exact z
theorem Inv.made(I:Inv X pins B H s):Inv X pins B (upd (upd H s.heap.objs.size (.own (s.heap.objs.size+1))) (s.heap.objs.size+1) (.ins C s.heap.objs.size []))
  { s with heap:=(s.heap.push RO).push (Sz C s.heap.objs.size) }:=by
 have e1:(s.heap.push RO).get? s.heap.objs.size=Wv RO:=QE s.heap rfl
 have e2:((s.heap.push RO).push (Sz C s.heap.objs.size)).get? (s.heap.objs.size+1)=Wv (Sz C s.heap.objs.size):=by
  have:=QE (s.heap.push RO) (o:=Sz C s.heap.objs.size) rfl;rwa [Ro]at this
 have e3:(s.heap.push RO).Ns s.heap.objs.size (λ_=>Ww):={RO,#[],_,e1,rfl,(λe he=>absurd he (by simp)),λ_=>rfl}
 have I1:=I.laid (a:=s.heap.objs.size) (o:=.own (s.heap.objs.size+1)) (h':=s.heap.push RO) (t':=s.toks) (λb u q=>Qv _ q) (NM _) {_,e1}
 refine I1.laid (a:=s.heap.objs.size+1) (o:=.ins C s.heap.objs.size []) (t':=s.toks) (λb u q=>Qv _ q) (Nat.le_of_eq (Ro _ _)) ?_
 have ne:s.heap.objs.size≠s.heap.objs.size+1:=Of (O5 _)
 refine{by rw[aR ne,av],NS _,ne,e2,λ_=>Ww,(Heap.Ns1.of_empty e3).at λo q=>Qv _ q,λ_=>NY,λy hy=>absurd rfl hy}
theorem HM(hb:Q6 e f env (QV e env)=QV e env)
  (h:wpAny (QG prog w) A (QV e env) (λo s₁=>wpAny (QG prog w) A (getAttr o f true) Q E s₁) E s):wpAny (QG prog w) A (QV (.Attribute e f pos) env) Q E s:=
 Attribute_any_ h (by rw[arm_eval_Attribute,hb])
end
inductive nQ(K:Qx)(f:Str)(x:V)(H:Hp)(Q:VK):Prop
 |mk(a C dx:Qs)(fs:List (Str×V))(v:V)(h0:x=.ref a)(h1:H a=Wv (.ins C dx fs))(h2:ĺ K C)(h3:aV K C f)(h4:fs.lookup f=Wv v)(q:Q v H):nQ K f x H Q
def Np(K:Qx)(ta:TE)(f:Str):TE:=λB H Q=>ta B H λx H1=>nQ K f x H1 Q
inductive Jo(K:Qx)(f:Str)(y x:V)(H:Hp)(Q:Hp->Prop):Prop
 |mk(a C dx:Qs)(fs:List (Str×V))(h0:x=.ref a)(h1:H a=Wv (.ins C dx fs))(h2:ĺ K C)(h3:aV K C f)(h4:fs.length<1000)(q:Q (upd H a (.ins C dx (jf f y fs)))):Jo K f y x H Q
def MS(K:Qx)(ta tv:TE)(f:Str):TS:=λD B H=>tv B H λy H1=>ta B H1 λx H2=>Jo K f y x H2 (D.nx B)
section
variable{X:Cx}{o e value:Expr}{f:Str}{pos pos' tpos:Pos}{ta tv:TE}
theorem aq(he:PE X e ta)(hb:Q6 e f X.env (QV e X.env)=QV e X.env):PE X (.Attribute e f pos) (Np X.K ta f):=by
 intro pins s B H Q I h;refine HM hb (Ï (he pins s B H _ I h) λu s1 z9=>?_);obtain⟨x,H1,I1,rx,a,C,dx,fs,v,ex,ea,c,n,l,q⟩:=z9;subst ex;obtain rfl:u=QJ a:=rx;exact BB I1 ea c n l λu' s2 I2 ru=>⟨v,H1,I2,ru,q⟩
theorem bF(ha:PE X o ta)(hv:PE X value tv)(hs:Um value (Wv (.Attribute o f pos')) pos.line X.env=pure false):PS X (.Assign [.Attribute o f pos'] value pos) (MS X.K ta tv f):=by
 intro pins s B H D I h;refine plainObj_wpAny_Assign_Attribute (Ï (hv pins s B H _ I h) λu s1 ⟨y,H1,I1,ry,q⟩=>Ï (ha pins s1 B H1 _ I1 q) λov s2 ⟨x,H2,I2,rx,a,C,dx,fs,ex,ea,c,n,l,q2⟩=>?_) hs;subst ex;obtain rfl:ov=QJ a:=rx;exact Bp I2 ea c n l ry λs3 I3=>{B,_,I3,q2}
end
section
variable{X:Cx}{pins:List (Qs×Obj)}{B:St}{H:Hp}{s:Qw}{A:QU}{E:Qt->Qw->Prop}{Q:Qt->Qw->Prop}{c:Qt}{b:Bool}
inductive pS(K:Qx)(H:Hp):V->Qt->Prop where
 |È:pS K H .È (.type "NoneType")
 |bl (x:Bool):pS K H (.bl x) (.type "bool")
 |int (i:Int):pS K H (.int i) (.type "int")
 |str (x:Str):pS K H (.str x) (.type "str")
 |Ϻ (x:UInt64):pS K H (.Ϻ x) (.type "float")
 |lst {a:Qs}{xs:List V} (e:H a=Wv (.lst xs)):pS K H (.ref a) (.type "list")
 |ā {a:Qs}{o:Obj}{xs:List V} (e:H a=Wv (.ā o (.lst xs))):pS K H (.ref a) (.type "list")
 |tup {a:Qs}{xs:List V} (e:H a=Wv (.tup xs)):pS K H (.ref a) (.type "tuple")
 |dK {a:Qs}{kvs:List (Key×V)} (e:H a=Wv (.dK kvs)):pS K H (.ref a) (.type "dict")
 |dT {a:Qs}{kvs:List (List Key×V)} (e:H a=Wv (.dT kvs)):pS K H (.ref a) (.type "dict")
 |ins {a C dx:Qs}{fs:List (Str×V)} (e:H a=Wv (.ins C dx fs)) (cl:ĺ K C) (ha:Rl K (.ref C) "__class__"=Wv (Wv (.builtin "object.__class__")))
   (hn:Sg K (.builtin "object.__class__") "__get__"=Wv (Wv (.builtin "getset_descriptor.__get__"))) (htk:Vp K (.builtin "object.__class__")=Wv true)
   (hm:Wt K C (.type "object")=Wv true):pS K H (.ref a) (.ref C)
theorem Dv(I:Inv X pins B H s)(rx:WC x u)(ty:pS X.K H x t)(e:Q9 X.K t c=Wv b)(h:∀tk,Q (.bool b) { s with toks:=tk }) :
  wpAny (QG X.prog X.w) A (call (.builtin "isinstance") [u,c]) Q E s:=by
 cases ty with
 |È=>cases (show u=Sy from rx);exact RS W.kitx_none I.ċ NY e (λz=>nomatch z) h
 |bl y=>cases (show u=UJ y from rx);exact RS W.kitx_bool I.ċ NY e (λz=>nomatch z) h
 |int i=>obtain⟨t,q⟩:=(show ∃t,u=RI i t from rx);cases q;exact RS W.kitx_int I.ċ NY e (λz=>nomatch z) h
 |str y=>obtain⟨t,q⟩:=(show ∃t,u=Uk y t from rx);cases q;exact RS W.kitx_str I.ċ NY e (λz=>nomatch z) h
 |Ϻ y=>obtain⟨t,q⟩:=(show ∃t,u=Vx y t from rx);cases q;exact RS W.kitx_float I.ċ NY e (λz=>nomatch z) h
 |@lst a xs ea=>
  cases (show u=QJ a from rx)
  obtain⟨_,_,n,_,h1⟩:=(show dN X.prog X.w H s.heap a (.lst xs)from I.Æ a _ ea)
  exact RS W.kitx_list I.ċ {_,h1,rfl} e (λz=>nomatch z) h
 |@ā a ob xs ea=>
  cases (show u=QJ a from rx)
  obtain⟨_,_,_,n,_,h1⟩:=(show dN X.prog X.w H s.heap a (.ā ob (.lst xs))from I.Æ a _ ea)
  exact RS W.kitx_list I.ċ {_,h1,rfl} e (λz=>nomatch z) h
 |@tup a xs ea=>
  cases (show u=QJ a from rx)
  obtain⟨_,_,_,p⟩:=(show dN X.prog X.w H s.heap a (.tup xs)from I.Æ a _ ea)
  obtain⟨o,h1,h2,_⟩:=p
  exact RS W.kitx_tuple I.ċ ⟨o,h1,h2⟩ e (λz=>nomatch z) h
 |@dK a kvs ea=>
  cases (show u=QJ a from rx)
  obtain⟨_,_,vs,_,p⟩:=(show dN X.prog X.w H s.heap a (.dK kvs)from I.Æ a _ ea)
  obtain⟨o,es,ep,h1,h2,_⟩:=p
  exact RS W.kitx_dict I.ċ ⟨o,h1,h2.1⟩ e (λz=>nomatch z) h
 |@dT a kvs ea=>
  cases (show u=QJ a from rx)
  obtain⟨_,_,xs,_,o,es,ep,h1,h2,_⟩:=(show dN X.prog X.w H s.heap a (.dT kvs)from I.Æ a _ ea)
  exact RS W.kitx_dict I.ċ ⟨o,h1,h2.1⟩ e (λz=>nomatch z) h
 |@ins a C dx fs ea cl ha hn htk hm=>
  cases (show u=QJ a from rx)
  obtain⟨mA,O,_⟩:=tj I.Æ ea
  obtain⟨od,J,_⟩:=O.look
  exact RS (W.kitx_own (cl.get _) cl.hd ha hn htk hm) I.ċ J e (λz=>nomatch z) h
end
structure gp(k:Nat)(A:QU):Prop where
 hd:A.handled=Ww
 dp:A.depth+3*k+5<VT
 un:A.units+16*k+200<RR
theorem gp.mono(r:gp k A)(h:j<=k):gp j A:={r.hd,by have:=r.dp;lia,by have:=r.un;lia}
theorem gp.deeper(r:gp (k+1) A)(env:Env):gp k (A.deeper env):=
 {r.hd,by have:=r.dp;show A.depth+1+3*k+5<_;lia,by have:=r.un;show A.units+3+16*k+200<_;lia}
theorem AO{A:QU}{C:Qs}{us:List Qt}{kw:List (Str×Qt)}:(A.under (.builtin "type.__call__" {.ref C::us,kw})).depth=A.depth+1:=by
 first|rfl|simp[U5,Code.weight,Code.isCreation,Code.isGuard,Code.isCaller,Code.frames,U6,guardIds]
theorem Aw{A:QU}{C:Qs}{us:List Qt}{kw:List (Str×Qt)}:(A.under (.builtin "type.__call__" {.ref C::us,kw})).units=A.units+1:=by
 first|rfl|simp[U5,Code.cUnits,Code.frames,U6]
theorem gp.make(r:gp (k+1) A)(C:Qs)(us:List Qt)(kw:List (Str×Qt)):gp k (A.under (.builtin "type.__call__" {.ref C::us,kw})):=
 {r.hd,by have:=r.dp;rw[AO];lia,by have:=r.un;rw[Aw];lia}
theorem gp.depth(r:gp k A):A.depth<VT:=by have:=r.dp;lia
theorem gp.units(r:gp k A):A.units+64<RR:=by have:=r.un;lia
def Hr:TA:=λ_ H Q=>Q [] H
def EI(ta:TE)(tr:TA):TA:=λB H Q=>ta B H λx H1=>tr B H1 λxs H2=>Q (x::xs) H2
section
variable{X:Cx}{e:Expr}{es:List Expr}{te:TE}{t:TA}{pos:Pos}
theorem ae:PA X [] Hr:=λ_ _ _ _ H Q I h=>U7 {[],H,I,.nil,h}
theorem aa(ha:PE X e te)(hr:PA X es t)(hs:QA (e::es) X.env=(false,QV e X.env)::QA es X.env:=by rfl):PA X (e::es) (EI te t):=by
 intro pos pins s B H Q I h;rw[hs];show wpAny _ _ (Wq ((false,QV e X.env)::Q7 pos (QA es X.env))) _ _ s;refine UM (Ï (ha pins s B H _ I h) λu s1 z9=>?_);obtain⟨x,H1,I1,r1,q1⟩:=z9;exact Ï (hr pos pins s1 B H1 _ I1 q1) λus s2 ⟨xs,H2,I2,r2,q2⟩=>{x::xs,H2,I2,.cons r1 r2,q2}
def ML(t:TA):TE:=λB H Q=>t B H λxs H1=>xs.length<=sizeLine/\∀p,H1 p=Ww->Q (.ref p) (upd H1 p (.tup xs))
def NB(t:TA):TE:=λB H Q=>t B H λxs H1=>xs.length<=sizeLine/\∀p,H1 p=Ww->Q (.ref p) (upd H1 p (.lst xs))
theorem bj{x1}(h:PA X es t):PE X (.Tuple es x1 pos) (ML t):=by
 intro pins s B H Q I hq;refine wpAny_Tuple_spliced (Ï (h pos pins s B H _ I hq) λus s1 ⟨xs,H1,I1,r,z,q⟩=>{by rw[<-r.length];exact z,?_});have hf:H1 s1.heap.objs.size=Ww:=I1.Æ.fresh (NM _);refine{.ref s1.heap.objs.size,upd H1 s1.heap.objs.size (.tup xs),I1.laid (t':=s1.toks) (λb u e=>Qv _ e) (NM _) ?_,rfl,q _ hf};exact{z,us,r,{_,QE _ rfl,rfl,_,rfl}}
theorem aZ(h:PA X es t):PE X (.List es pos) (NB t):=by
 intro pins s B H Q I hq;refine wpAny_List_spliced (Ï (h pos pins s B H _ I hq) λus s1 ⟨xs,H1,I1,r,z,q⟩=>{by rw[<-r.length];exact z,?_});have hf:H1 s1.heap.objs.size=Ww:=I1.Æ.fresh (NM _);refine{.ref s1.heap.objs.size,upd H1 s1.heap.objs.size (.lst xs),I1.laid (t':=s1.toks) (λb u e=>Qv _ e) (NM _) ?_,rfl,q _ hf};exact{z,us,0,r,QE _ rfl}
end
abbrev Sp:=List V->Hp->VK->XK->Prop
abbrev Ş:=List Env->Hp->Qw->XK->Qt->Qw->Prop
structure Bf(P:Program)(w:QD)(K:Qx)(mg:Str->Option Qt)(base:QN)(A:QU)(outer:List Env)(s:Qw)(H:Hp):Prop where
 frames:A.frames=Wv outer
 mod:Mod K mg base
 bs:∀b o,base.get? b=Wv o->s.heap.get? b=Wv o/\H b=Ww
 Ζ:base.objs.size<=s.heap.objs.size
 sO:s.heap.FunFrames base outer
 frf:∀b∈ŭ outer,H b=Ww
 Æ:ý P w H s.heap
 bare:Te s.gens
inductive CE(outer:List Env)(P:Program)(w:QD)(H:Hp)(s:Qw)(Q:VK)(u:Qt)(s':Qw):Prop
 |mk(v:V)(H':Hp)(h0:s'.os=s.os)(h1:Te s'.gens)(h2:Un (ŭ outer) [] H H' s.heap s'.heap)(h3:ý P w H' s'.heap)(h4:WC v u)(h5:Q v H'):CE outer P w H s Q u s'
def CR(CX:Ş)(outer:List Env)(P:Program)(w:QD)(H:Hp)(s:Qw)(Q:VK)(E:XK)(r:Result)(s':Qw):Prop:=
 match r with
 | .ok (.ret u)=>CE outer P w H s Q u s'
 | .ok _=>False
 | .error e=>CX outer H s E e s'
structure mC(P:Program)(w:QD)(K:Qx)(mg:Str->Option Qt)(base:QN)(CX:Ş)(k:Nat)(f:Qs)(fd:RJ)(ps:List Str)(sp:Sp):Prop where
 len:∀vs H Q E,sp vs H Q E->vs.length=ps.length
 run:∀(A:QU)(outer:List Env)(s:Qw)(H:Hp)(args:Args)(us:List Qt)(vs:List V)(Q:VK)(E:XK),gp k A->Bf P w K mg base A outer s H->Uo s fd args (ps.zip us)->Wz vs us->sp vs H Q E->
  codeAny (QG P w) A (.call (.ref f) args) (CR CX outer P w H s Q E) s
theorem mC.mono{P:Program}{w:QD}{K:Qx}{mg:Str->Option Qt}{base:QN}{CX:Ş}{j k:Nat}{f:Qs}{fd:RJ}{ps:List Str}{sp:Sp}(F:mC P w K mg base CX j f fd ps sp)(h:j<=k) :
  mC P w K mg base CX k f fd ps sp:={F.len,λA outer s H args us vs Q E hr=>F.run A outer s H args us vs Q E (hr.mono h)}
theorem Bf.make{P:Program}{w:QD}{K:Qx}{mg:Str->Option Qt}{base:QN}{A:QU}{outer:List Env}{s:Qw}{H:Hp}(e:Bf P w K mg base A outer s H)(C:Qs)(us:List Qt)(kw:List (Str×Qt)) :
  Bf P w K mg base (A.under (.builtin "type.__call__" {.ref C::us,kw})) outer s H:={by first|exact e.frames|(simpa [U5,Code.envs,U6,pushEnvs] using e.frames),e.mod,e.bs,e.Ζ,e.sO,e.frf,e.Æ,e.bare}
section
variable{X:Cx}{pins:List (Qs×Obj)}{B:St}{H:Hp}{s s':Qw}
theorem Inv.Ij(I:Inv X pins B H s):Bf X.prog X.w X.K X.mg X.base X.A X.stack s H:=
 ⟨I.ok.frames,I.ok.mod,I.bs,NU I.ok.Ζ I.sz,I.stack,I.Cf,I.Æ,I.bare⟩
theorem Inv.after(I:Inv X pins B H s)(h:CE X.stack X.prog X.w H s Q u s'):EP X pins B Q u s':=by
 obtain⟨v,H',os,bare,un,Æ,r,q⟩:=h;obtain⟨hh,g,d,t,os'⟩:=s';obtain rfl:os'=s.os:=os;exact{v,H',I.call (h':=hh) (g':=g) (d':=d) (t':=t) (ch:=[]) un Æ bare (λb z=>absurd z (by simp)),r,q}
end
def wY(sp:Sp)(dvs:List V)(E:XK)(t:TA):TE:=λB H Q=>t B H λvs H1=>sp (vs++dvs) H1 Q E
inductive NC(C:Qs)(m:Str)(x:V)(H:Hp)(R:Prop):Prop
 |mk(a dx:Qs)(fs:List (Str×V))(h0:x=.ref a)(h1:H a=Wv (.ins C dx fs))(h2:fs.lookup m=Ww)(q:R):NC C m x H R
def ID(C:Qs)(sp:Sp)(dvs:List V)(E:XK)(t:TA):TE:=λB H Q=>t B H λvs H1=>∀x dx,H1 x=Ww->H1 dx=Ww->dx≠x->
 sp (.ref x::(vs++dvs)) (upd (upd H1 dx (.own x)) x (.ins C dx [])) (λv H2=>v=.È/\Q (.ref x) H2) E
def WE(K:Qx)(fd:RJ)(ps:List Str)(ds:List Qt):Prop:=
 ∀(s:Qw)(us:List Qt),K.In s.heap->(us++ds).length=ps.length->Uo s fd {us,[]} (ps.zip (us++ds))
theorem WE.all{K:Qx}{fd:RJ}{ps:List Str}(h:∀us:List Qt,us.length=ps.length->bindArgs fd {us,[]}=pure (ps.zip us)):WE K fd ps []:=λs us _ hl=>by
 rw[Oi]at hl⊢;exact .of_eq (h us hl)
def WM(CX:Ş)(X:Cx)(E:XK):Prop:=∀(pins:List (Qs×Obj))(B:St)(H:Hp)(s:Qw)(e:Qt)(s':Qw),Inv X pins B H s->CX X.stack H s E e s'->X.xe e s'
section
variable{X:Cx}{CX:Ş}{k:Nat}{f C:Qs}{fd:RJ}{ps:List Str}{sp:Sp}{dvs:List V}{ds:List Qt}{E:XK}{x m:Str}{p pos apos:Pos}{e o:Expr}{es:List Expr}{ta:TE}{t:TA}
theorem A8(F:mC X.prog X.w X.K X.mg X.base CX k f fd ps sp)(hr:gp k X.A)(hb:WE X.K fd ps ds)(hd:Wz dvs ds)(hx:WM CX X E)
  (I:Inv X pins B H s) (r:Wz vs us) (h:sp (vs++dvs) H Q E):wpAny (QG X.prog X.w) X.A (call (.ref f) us) (EP X pins B Q) X.xe s:=by
 have r2:Wz (vs++dvs) (us++ds):=r.append hd
 have hl:(us++ds).length=ps.length:=by rw[<-r2.length];exact F.len _ _ _ _ h
 refine VU (So (F.run X.A X.stack s H {us,[]} (us++ds) (vs++dvs) Q E hr I.Ij (hb s us I.ċ hl) r2 h) λr s' hq=>?_)
 cases r with
 |error e=>exact hx pins B H s e s' I hq
 |ok fl=>
  cases fl with
  |ret u=>exact I.after hq
  |next=>exact Rt hq
  |brk=>exact Rt hq
  |cont=>exact Rt hq
theorem Cb(F:mC X.prog X.w X.K X.mg X.base CX k f fd ps sp)(hr:gp k X.A)(hg:Gl X x)(hm:X.mg x=Wv (.ref f))(hk:RB X.K (.ref f)=true)(hb:WE X.K fd ps ds)(hd:Wz dvs ds)(hx:WM CX X E)
  (ha:PA X (e::es) t) (ģ:(x==("__debug__":Str))=false:=by decide) (he:QA (e::es) X.env=(false,QV e X.env)::QA es X.env:=by rfl) (ą:(Q7 pos (QA es X.env)).any (·.1)=false:=by rfl) :
  PE X (.Call (.Name x p) (e::es) [] pos) (wY sp dvs E t):=by
 intro pins s B H Q I h
 refine Rx (tE I hg hm ?_ ģ)
 refine W.callWith_K (h₀:=X.base) I.ok.mod.kin hk (Ï (ha pos pins s B H _ I h) λus s1 ⟨vs,H1,I1,r,q⟩=>{I1.ċ,?_}) he ą
 exact A8 F hr hb hd hx I1 r q
structure Mk(K:Qx)(C f:Qs):Prop where
 makes:Vo K C=true
 init:Rl K (.ref C) "__init__"=Wv (Wv (.ref f))
 fn:Ws K (.ref f)=true
 kp:RB K (.ref C)=true
theorem Fl(M:Mk X.K C f)(F:mC X.prog X.w X.K X.mg X.base CX k f fd ps sp)(hr:gp (k+1) X.A)(hb:WE X.K fd ps ds)(hd:Wz dvs ds)
  (hx:WM CX X E) (I:Inv X pins B H s) (r:Wz vs us)
  (h:∀x dx,H x=Ww->H dx=Ww->dx≠x->sp (.ref x::(vs++dvs)) (upd (upd H dx (.own x)) x (.ins C dx [])) (λv H2=>v=.È/\Q (.ref x) H2) E) :
  wpAny (QG X.prog X.w) X.A (call (.ref C) us) (EP X pins B Q) X.xe s:=by
 have hq:=h (s.heap.objs.size+1) s.heap.objs.size (I.Æ.fresh (OZ _)) (I.Æ.fresh (NM _)) (Of (O5 _))
 have I2:=Inv.made (C:=C) I
 have r2:Wz (V.ref (s.heap.objs.size+1)::(vs++dvs)) (QJ (s.heap.objs.size+1)::(us++ds)):=.cons rfl (r.append hd)
 have hl:(QJ (s.heap.objs.size+1)::us++ds).length=ps.length:=by
  have e:=r2.length;rw[F.len _ _ _ _ hq]at e;exact e.symm
 refine VU (EM (f:=f) I.ċ M.makes M.init (beq_iff_eq.mp M.fn) (So (F.run _ X.stack _ _ {QJ (s.heap.objs.size+1)::us,[]} (QJ (s.heap.objs.size+1)::(us++ds)) _ _ E (hr.make C us [])
  (I2.Ij.make C us []) (hb _ (QJ (s.heap.objs.size+1)::us) I2.ċ hl) r2 hq) λr s' ś=>?_))
 cases r with
 |error e=>exact hx pins B _ _ e s' I2 ś
 |ok fl=>
  cases fl with
  |ret u=>
   obtain⟨v,H',I3,rv,ev,q3⟩:=I2.after ś
   subst ev
   exact{rv,{V.ref (s.heap.objs.size+1),H',I3,rfl,q3}}
  |next=>exact Rt ś
  |brk=>exact Rt ś
  |cont=>exact Rt ś
theorem Hh(M:Mk X.K C f)(F:mC X.prog X.w X.K X.mg X.base CX k f fd ps sp)(hr:gp (k+1) X.A)(hg:Gl X x)(hm:X.mg x=Wv (.ref C))(hb:WE X.K fd ps ds)(hd:Wz dvs ds)(hx:WM CX X E)
  (ha:PA X (e::es) t) (ģ:(x==("__debug__":Str))=false:=by decide) (he:QA (e::es) X.env=(false,QV e X.env)::QA es X.env:=by rfl) (ą:(Q7 pos (QA es X.env)).any (·.1)=false:=by rfl) :
  PE X (.Call (.Name x p) (e::es) [] pos) (ID C sp dvs E t):=by
 intro pins s B H Q I h
 refine Rx (tE I hg hm ?_ ģ)
 refine W.callWith_K (h₀:=X.base) I.ok.mod.kin M.kp (Ï (ha pos pins s B H _ I h) λus s1 ⟨vs,H1,I1,r,q⟩=>{I1.ċ,?_}) he ą
 exact Fl M F hr hb hd hx I1 r q
end
section
variable{X:Cx}{CX:Ş}{k:Nat}{f C:Qs}{fd:RJ}{ps ks:List Str}{sp:Sp}{E:XK}{x m:Str}{p pos apos kpos:Pos}{e o:Expr}{es:List Expr}{kws:List Sb}{te ta:TE}{t tk:TA}{nm:Option Str}
structure KS(K:Qx)(fd:RJ)(ps ks:List Str)(g:List Qt->List Qt->List Qt)(gV:List V->List V->List V):Prop where
 to:∀(s:Qw)(us ws:List Qt),K.In s.heap->(g us ws).length=ps.length->Uo s fd ⟨us,ks.zip ws⟩ (ps.zip (g us ws))
 rel:∀{vs:List V}{us:List Qt}{zs:List V}{ws:List Qt},Wz vs us->Wz zs ws->Wz (gV vs zs) (g us ws)
variable{g:List Qt->List Qt->List Qt}{gV:List V->List V->List V}
end
structure aH(N P:List Str)(sc:S3):Prop where
 kind:sc.kind=.function
 co:sc.isCoroutine=false
 gen:sc.isGenerator=false
 nd:N.Nodup
 pre:N.take P.length=P
 par:∀x∈P,sc.names.lookup x=Wv .local\/sc.names.lookup x=Wv .cell
 IS:∀y∈sc.names,y.2≠ .free
theorem w8{kindOf:Str->Option RK}:∀{binds:List (Str×Qt)}{m:Str->Option Qt},(∀v,(x,v)∉binds)->VW kindOf binds m x=m x
 | [],_,_=>rfl
 | (n,v)::r,m,h=>by
  unfold VW;rw[w8 λw hw=>h w (NK _ hw)];split
  ·have:x≠n:=by rintro rfl;exact h v NL
   simp[this]
  rfl
theorem wN{kindOf:Str->Option RK}:∀{binds:List (Str×Qt)}{m:Str->Option Qt},(∀v,(x,v)∉binds)->VX kindOf binds m x=m x
 | [],_,_=>rfl
 | (n,v)::r,m,h=>by
  unfold VX;rw[wN λw hw=>h w (NK _ hw)];split
  ·rfl
  have:x≠n:=by rintro rfl;exact h v NL
  simp[this]
theorem xa{kindOf:Str->Option RK}:∀{P:List Str}{vs:List Qt}{i:Nat}{m:Str->Option Qt},P.Nodup->P[i]?=Wv x->vs[i]?=Wv v->kindOf x=Wv .local->
  VW kindOf (P.zip vs) m x=Wv v
 | [],_,_,_,_,h,_,_=>by simp at h
 |_::_,[],_,_,_,_,h,_=>by simp at h
 |p::P,w::vs,0,m,nd,h1,h2,hk=>by
  simp at h1 h2;subst h1;subst h2;show VW kindOf ((p,w)::P.zip vs) m p=_;unfold VW;rw[w8 λv hv=>(Oq.mp nd).1 (OX hv).1,if_pos hk];simp
 |p::P,w::vs,i+1,m,nd,h1,h2,hk=>by
  show VW kindOf ((p,w)::P.zip vs) m x=_;unfold VW;exact xa (i:=i) (Oq.mp nd).2 (by simpa using h1) (by simpa using h2) hk
theorem w9{kindOf:Str->Option RK}:∀{P:List Str}{vs:List Qt}{i:Nat}{m:Str->Option Qt},P.Nodup->P[i]?=Wv x->vs[i]?=Wv v->kindOf x≠Wv .local->
  VX kindOf (P.zip vs) m x=Wv v
 | [],_,_,_,_,h,_,_=>by simp at h
 |_::_,[],_,_,_,_,h,_=>by simp at h
 |p::P,w::vs,0,m,nd,h1,h2,hk=>by
  simp at h1 h2;subst h1;subst h2;show VX kindOf ((p,w)::P.zip vs) m p=_;unfold VX;rw[wN λv hv=>(Oq.mp nd).1 (OX hv).1,if_neg hk];simp
 |p::P,w::vs,i+1,m,nd,h1,h2,hk=>by
  show VX kindOf ((p,w)::P.zip vs) m x=_;unfold VX;exact w9 (i:=i) (Oq.mp nd).2 (by simpa using h1) (by simpa using h2) hk
def WK(N:List Str)(vs:List V):St:=vs.map Wv++QH (N.length-vs.length) Ww
def xh(CX:Ş)(P:Program)(w:QD)(K:Qx)(mg:Str->Option Qt)(base:QN)(N:List Str)(qual:Str)(scope:S3)(f:Qs)(cd:Qt)(A:QU)(outer:List Env)(s:Qw)(H:Hp)(E:XK):Cx where
 prog:=P
 w:=w
 K:=K
 mg:=mg
 base:=base
 A:=A.deeper (Sq qual scope s.heap.objs.size f cd)
 N:=N
 s₀:=s
 H₀:=H
 env:=Sq qual scope s.heap.objs.size f cd
 outer:=outer
 stack:=Sq qual scope s.heap.objs.size f cd::outer
 ex:=[]
 calm:=true
 fn:=λ_=>true
 pn:=[]
 xe:=λe s'=>wpAny (QG P w) (A.deeper (Sq qual scope s.heap.objs.size f cd)) (leaving (Sq qual scope s.heap.objs.size f cd) e) (λ_ s''=>CX outer H s E e s'') (λe' s''=>CX outer H s E e' s'') s'
theorem Am{sc:S3}{n:Nat}{x:Str}(h:sc.names.lookup x=Wv .cell):∃c,(Q5 n sc.names []).lookup x=Wv c:=by
 have q:=SD sc.names n [] (.inl h);exact OO.mp q
theorem DU{CX:Ş}{P:Program}{w:QD}{K:Qx}{mg:Str->Option Qt}{base:QN}{N ps:List Str}{qual:Str}{scope:S3}{f:Qs}{cd:Qt}{A:QU}{outer:List Env}{s s1:Qw}{H:Hp}{E:XK}{us:List Qt}{vs:List V}
  (S:aH N ps scope) (hd:A.handled=Ww) (e0:Bf P w K mg base A outer s H) (hl:vs.length=ps.length) (r:Wz vs us)
  (x:InCallC s s.heap.objs.size (VW (Sq qual scope s.heap.objs.size f cd).kindOf (ps.zip us) λ_=>Ww) (Q5 (s.heap.objs.size+1) scope.names []) (VX (Sq qual scope s.heap.objs.size f cd).kindOf (ps.zip us) λ_=>Ww) s1) :
  Inv (xh CX P w K mg base N qual scope f cd A outer s H E) [] (WK N vs) H s1:=by
 have ą:ps.length<=N.length:=by have:=congrArg SH S.pre;rw[Oh]at this;lia
 obtain⟨h1,tk,rfl,hk⟩:=x.done
 have noA:∀b:Qs,b∉(xh CX P w K mg base N qual scope f cd A outer s H E).ex:=λb z=>absurd (show b∈([]:List Qs)from z) (by simp)
 refine⟨{e0.mod,S.kind,rfl,rfl,NM _,λy z c h1 h2=>?_,λy hy=>?_,λy c _ h=>?_,λ_=>hd,Around.frames_deeper e0.frames,.inr ⟨rfl,rfl⟩,λb z=>absurd z (noA b),e0.bs,e0.Ζ,λb _ _=>noA b,λb z=>absurd z (noA b),e0.sO,e0.frf},
  rfl,e0.bare,Un.kept hk,{_,x.toInCall.ns,λi y v h1 h2 h3=>?_},λy c h=>{_,x.cell y c h},e0.Æ.fresh (NM _),λy c h=>?_,λp hp=>absurd (show p∈([]:List (Qs×Obj))from hp) (by simp),e0.Æ.kept hk,?_⟩
 ·exact name_of_addr x.apart (QM h1) (QM h2)
 ·have hy:scope.names.lookup y=Wv .cell\/scope.names.lookup y=Wv .free:=hy;rcases hy with hy|hy
  ·exact Am hy
  exact absurd rfl (S.IS _ (QM hy))
 ·exact Pm (x.above y c (QM h))
 ·have hi:i<vs.length:=by
   unfold WK at h2;by_cases hi:i<vs.length
   ·exact hi
   rw[OJ (by simpa using hi)]at h2;rw[Tu]at h2;split at h2<;>cases h2
  have ha:vs[i]?=Wv v:=by
   unfold WK at h2;rw[ON (by simpa using hi),NX]at h2;cases e:vs[i]? with
   |none=>rw[e]at h2;cases h2
   |some a=>rw[e]at h2;cases h2;rfl
  obtain⟨u,hu,rv⟩:=r.get ha;have hp:ps[i]?=Wv y:=by
   rw[<-S.pre,Tj ()];exact h1
  have ndP:ps.Nodup:=by rw[<-S.pre];exact S.nd.sublist (PD _ _)
  refine{u,rv,?_};rcases S.par y (NO hp)with k|k
  ·exact .inl ⟨k,xa ndP hp hu k⟩
  obtain⟨c,e⟩:=Am (n:=s.heap.objs.size+1) k;refine .inr {.inl k,c,e,?_};have q:=x.cell y c e;rw[w9 ndP hp hu (by show scope.names.lookup y≠_;rw[k];decide)]at q;exact q
 ·exact e0.Æ.fresh (Pm (x.above y c (QM h)))
 unfold WK
 show _=N.length
 rw[NG,NH,OB]
 lia
theorem IC{CX:Ş}{P:Program}{w:QD}{K:Qx}{mg:Str->Option Qt}{base:QN}{k:Nat}{f:Qs}{name qual:Str}{params:Arguments}{body:List QL}{scope:S3}{dV kV doc pm Ä ct oc:Qt}{an od:Option Qs}
  {ă:Array (Option Qt)}{N ps:List Str}{sp:Sp} (lk:K.lookup f=Wv {oc,od,.func (Rp name qual params body scope dV kV doc pm an Ä ct),ă}) (ņ:SI K Ä qual=true) (S:aH N ps scope)
  (len:∀vs H Q E,sp vs H Q E->vs.length=ps.length)
  (Ā:∀(A:QU)(outer:List Env)(s:Qw)(H:Hp)(vs:List V)(Q:VK)(E:XK),gp k (A.deeper (Sq qual scope s.heap.objs.size f Ä))->sp vs H Q E->
   ∃t,č (xh CX P w K mg base N qual scope f Ä A outer s H E) body t/\t { nx:=λ_ H'=>Q .È H',rt:=Q } (WK N vs) H) :
  mC P w K mg base CX (k+1) f (Rp name qual params body scope dV kV doc pm an Ä ct) ps sp:=by
 refine{len,λA outer s H args us vs Q E hr e0 hb r ϖ=>?_}
 have hl:=len _ _ _ _ ϖ
 have KX:K.In s.heap:=e0.mod.kin.keeps λb o e=>(e0.bs b o e).1
 have lim:s.heap.NoLimit:=e0.mod.nolimit.keeps λb o e=>(e0.bs b o e).1
 have hkind:∀y∈ps.zip us,scope.names.lookup y.1=Wv .local\/(scope.names.lookup y.1=Wv .cell/\((Q5 (s.heap.objs.size+1) scope.names []).lookup y.1).isSome=true):=λ⟨n,v⟩ hy=>by
  rcases S.par n (OX hy).1 with q|q
  ·exact .inl q
  exact .inr {q,SD _ _ _ (.inl q)}
 refine codeAny_call_function hr.depth (KX _ _ lk) rfl S.co S.gen rfl (W.codeRec_of KX ņ) (hb _ _ _ _ ?_)
 refine wpAny_newFunctionEnv_cells S.kind hkind λenv he s1 x=>?_
 subst he
 refine{lim.keeps x.toInCall.keep,codeAny_func ?_}
 obtain⟨t,ht,hq⟩:=Ā A outer s H vs Q E (hr.deeper _) ϖ
 have I:Inv (xh CX P w K mg base N qual scope f Ä A outer s H E) [] (WK N vs) H s1:=DU S hr.hd e0 hl r x
 refine RF (ht [] s1 (WK N vs) H _ I hq) (λfl s' hs=>?_) λe s' hs=>hs
 have fin:∀{B':St}{H':Hp}{v:V}{u:Qt},Inv (xh CX P w K mg base N qual scope f Ä A outer s H E) [] B' H' s'->WC v u->Q v H'->CE outer P w H s Q u s':=
  λ{B' H' v u} J rv q=>⟨v,H',J.os,J.bare,J.base,J.Æ,rv,q⟩
 cases fl with
 |ret u=>
  obtain⟨v,B',H',J,rv,q⟩:=hs
  exact fin J rv q
 |next=>
  obtain⟨B',H',J,q⟩:=hs
  exact fin (v:=V.È) (u:=Sy) J rfl q
 |brk=>
  obtain⟨_,_,_,q⟩:=hs
  exact Rt q
 |cont=>
  obtain⟨_,_,_,q⟩:=hs
  exact Rt q
section
variable{X:Cx}{x:Str}{p pos:Pos}{e:Expr}{es:List Expr}{t:TA}{id T:String}{r:List V->Hp->VK->Prop}
def tCB(r:List V->Hp->VK->Prop)(t:TA):TE:=λB H Q=>t B H λvs H1=>r vs H1 Q
theorem Gu(hc:fG X (.builtin id) r)(hg:Gl X x)(hm:X.mg x=Ww)(hv:RA x=Wv (.builtin id))(ha:PA X (e::es) t)(hn:x≠"__name__":=by decide)(ģ:(x==("__debug__":Str))=false:=by decide)
  (he:QA (e::es) X.env=(false,QV e X.env)::QA es X.env:=by rfl) (ą:(Q7 pos (QA es X.env)).any (·.1)=false:=by rfl):PE X (.Call (.Name x p) (e::es) [] pos) (tCB r t):=by
 intro pins s B H Q I h
 refine Rx (mE I hg hm hv ?_ hn ģ)
 exact SE (Ï (ha pos pins s B H _ I h) λus s1 ⟨vs,H1,I1,r1,q1⟩=>hc pins s1 B H1 vs us Q I1 r1 q1) he ą
theorem Ef(hc:fG X (.type T) r)(hg:Gl X x)(hm:X.mg x=Ww)(hv:RA x=Wv (.type T))(ha:PA X (e::es) t)(hn:x≠"__name__":=by decide)(ģ:(x==("__debug__":Str))=false:=by decide)
  (he:QA (e::es) X.env=(false,QV e X.env)::QA es X.env:=by rfl) (ą:(Q7 pos (QA es X.env)).any (·.1)=false:=by rfl):PE X (.Call (.Name x p) (e::es) [] pos) (tCB r t):=by
 intro pins s B H Q I h
 refine Rx (mE I hg hm hv ?_ hn ģ)
 exact Rc (Ï (ha pos pins s B H _ I h) λus s1 ⟨vs,H1,I1,r1,q1⟩=>hc pins s1 B H1 vs us Q I1 r1 q1) he ą
end
end L2
namespace HT
open PySem PyProof.Rows
section
open PySem.SeqAt
open PySem.AutoSeq1 (wpAny_loadPart')
open PySem.MeetsSeq PySem.MeetsSeq2 PySem.MeetsSeq3
end
section
variable{prog:Program}{w:QD}{A:QU}{E:Qt->Qw->Prop}{s:Qw}
def Ù(n d:Nat):Option Int->Nat
 |none=>d
 |some v=>if v<0 then(v+(n:Int)).toNat else min v.toNat n
theorem Cm(n d k:Nat):Ù n d (Wv (k:Int))=min k n:=by
 show(if(k:Int)<0 then((k:Int)+(n:Int)).toNat else min (k:Int).toNat n)=min k n;rw[if_neg (),PH]
theorem JE(n d:Nat)(hd:d<=n)(o:Option Int):Ù n d o<=n:=by
 cases o with
 |none=>exact hd
 |some v=>
  show(if v<0 then(v+(n:Int)).toNat else min v.toNat n)<=n;by_cases hv:v<0
  ·rw[if_pos hv];lia
  rw[if_neg hv];exact Nat.min_le_right _ _
theorem De(v:Int)(n d:Nat):(if v<0 then max (v+(n:Int)) 0 else min v (n:Int))=((Ù n d (Wv v):Nat):Int):=by
 show(if v<0 then max (v+(n:Int)) 0 else min v (n:Int))=(((if v<0 then(v+(n:Int)).toNat else min v.toNat n):Nat):Int);by_cases hv:v<0
 ·simp only[if_pos hv];lia
 simp only[if_neg hv];lia
theorem A3(lo hi:Option Int)(n:Nat):RX lo hi 1 (n:Int)=(((Ù n 0 lo:Nat):Int),((Ù n n hi:Nat):Int)):=by
 have h1:¬ ((1:Int)<0):=()
 unfold RX;simp only[h1,if_false];refine S1 ?_ ?_
 ·cases lo with
  |none=>rfl
  |some v=>exact De v n 0
 cases hi with
 |none=>rfl
 |some v=>exact De v n n
theorem AR(i j:Nat):QT (i:Int) (j:Int) 1=j-i:=by
 unfold QT;have h1:(1:Int)>0:=()
 simp only[h1,if_true,Int.ediv_one];split<;>lia
theorem u6(p:UN v o)(h:Q o s):wpAny (QG prog w) A (Builtin.Slice.slicePartIndex v) Q E s:=by
 cases p with
 |none=>exact S6 h
 |int i t=>exact slicePart_int h
theorem rH{sl:Qs}{vl vu:Qt}{lo hi:Option Int}{n:Nat}{Q:Int×Int×Nat->Qw->Prop}(hs:s.heap.IsSliceOf sl vl vu .none)(pl:UN vl lo)(pu:UN vu hi)
  (h:Q (((Ù n 0 lo:Nat):Int),1,Ù n n hi-Ù n 0 lo) s):wpAny (QG prog w) A (Ry (.ref sl) (pure (n:Int))) Q E s:=by
 obtain⟨os,ő,hcs,ϴ⟩:=id hs
 unfold Ry Tc
 refine Qr (Qr (SJ ő ϴ (x:=vl) rfl (Qr (SJ ő ϴ (x:=vu) rfl (Qr (SJ ő ϴ (x:=.none) rfl (Qu ?_)))))))
 refine Qr (S6 ?_)
 show wpAny _ _ (if((1:Int)==0)=true then _ else _) _ _ s
 rw[if_neg ∅]
 refine Qr (u6 pl (Qr (u6 pu (Qr (Qu ?_)))))
 show wpAny _ _ (match RX lo hi 1 (n:Int)with|(lo,hi)=>pure (lo,(1:Int),QT lo hi 1)) _ _ s
 rw[A3 lo hi n]
 show wpAny _ _ (pure (((Ù n 0 lo:Nat):Int),(1:Int),QT ((Ù n 0 lo:Nat):Int) ((Ù n n hi:Nat):Int) 1)) _ _ s
 rw[AR]
 exact Qu h
theorem Gp(xs:Array Qt)(i k:Nat):((Q1 k).filterMap λ(m:Nat)=>xs[((i:Int)+(m:Int)*1).toNat]?).toArray=((xs.toList.drop i).take k).toArray:=by
 have e:(λ(m:Nat)=>xs[((i:Int)+(m:Int)*1).toNat]?)=λm=>xs[i+m]?:=by
  funext m
  have:((i:Int)+(m:Int)*1).toNat=i+m:=()
  rw[this]
 rw[e];have:=pick_run xs i k;rw[List.filterMap_map]at this;have e2:((λx=>xs[x]?)∘λx=>i+x)=λm=>xs[i+m]?:=rfl;rw[e2]at this;rw[this]
theorem qy{t sl:Qs}{items:Array Qt}{vl vu:Qt}{lo hi:Option Int}{Q:Qt->Qw->Prop}(ht:IsTup s.heap t items)(hs:s.heap.IsSliceOf sl vl vu .none)(pl:UN vl lo)(pu:UN vu hi)
  (hw:¬ (Ù items.size 0 lo=0/\Ù items.size items.size hi=items.size))
  (h:Q (.ref s.heap.objs.size) { s with heap:=s.heap.push { cls:=.type "tuple",data:=.seq ((items.toList.drop (Ù items.size 0 lo)).take (Ù items.size items.size hi-Ù items.size 0 lo)).toArray } })
  (hsz:items.size<=sizeLine):wpAny (QG prog w) A (Tf (.ref t) (.ref sl)) Q E s:=by
 have þ:sizeOk (.seq ((items.toList.drop (Ù items.size 0 lo)).take (Ù items.size items.size hi-Ù items.size 0 lo)).toArray):=by
  show((items.toList.drop (Ù items.size 0 lo)).take (Ù items.size items.size hi-Ù items.size 0 lo)).toArray.size<=sizeLine;rw[NV,Oh,Vq,OI];lia
 have hj:Ù items.size items.size hi<=items.size:=JE _ _ (NM _) hi
 obtain⟨os,ő,hcs,ϴ⟩:=id hs
 have hTs:s.TypeIs (.ref sl) "slice":=⟨os,ő,hcs⟩
 unfold Tf
 try with_reducible refine wpAny_holding ?_
 first|refine Qr (Qu ?_)|skip
 refine Qr (U8 ht.typeIs ∅ ?_)
 refine Qr (RL (name:=Rh "__getitem__") ht.typeIs Rj
  (Rn Rj ht.typeIs Ut ?_ (UO _ _)))
 show wpAny _ _ (S7 (.ref t)>>=_) _ _ s
 refine Qr (tupleItemsOf_ ht ?_)
 refine Qr (Sr hTs ?_)
 rw[if_pos ∅]
 refine Qr (rH hs pl pu ?_)
 have Œ:¬ ((((Ù items.size 0 lo:Nat):Int)==0&&(1:Int)==1&&(Ù items.size items.size hi-Ù items.size 0 lo)==items.size)=true):=by
  intro q;rw[O6,O6]at q;have q1:((Ù items.size 0 lo:Nat):Int)=0:=eq_of_beq q.1.1;have q2:Ù items.size items.size hi-Ù items.size 0 lo=items.size:=eq_of_beq q.2;exact hw {(),()}
 show wpAny _ _ (if(((Ù items.size 0 lo:Nat):Int)==0&&(1:Int)==1&&(Ù items.size items.size hi-Ù items.size 0 lo)==items.size)=true then _ else _) _ _ s
 rw[if_neg Œ,Gp]
 first
  |exact Qr (m:=QQ _) (QP (Qu {_,rfl,Qu h}) þ)
  |exact Qr (m:=QQ _) (QP (Qr (Qu (Qu {_,rfl,Qu h}))) þ)
  |exact Qr (Qr (m:=QQ _) (QP (Qu (Qu {_,rfl,Qu h})) þ))
  |exact Qr (Qr (m:=QQ _) (QP (Qu {_,rfl,Qu h}) þ))
end
end HT
namespace L2
open PySem PySem.Spec PyProof.Rows
abbrev TO:=St->Hp->(Option Int->Hp->Prop)->Prop
def PO(X:Cx)(e:Option Expr)(t:TO):Prop:=
 ∀(pins:List (Qs×Obj))(s:Qw)(B:St)(H:Hp)(Q:Option Int->Hp->Prop),Inv X pins B H s->t B H Q->
  wpAny (QG X.prog X.w) X.A (evalPart e X.env) (λu s'=>∃o H',Inv X pins B H' s'/\UN u o/\Q o H') X.xe s
def HJ:TO:=λ_ H Q=>Q Ww H
inductive Lm(x:V)(H:Hp)(Q:Option Int->Hp->Prop):Prop
 |mk(i:Int)(h:x=.int i)(q:Q (Wv i) H):Lm x H Q
def Mc(t:TE):TO:=λB H Q=>t B H λx H1=>Lm x H1 Q
theorem intsAre_of:∀{us:List Qt},Wz (ns.map V.int) us->SV us ns:=by
 induction ns with
 |nil=>intro us r;rw[PR]at r;cases r;exact .nil
 |cons n ns ih=>
  intro us r;rw[N9]at r;cases r with
  |cons r1 r2=>
   obtain⟨t,e⟩:=r1;subst e;exact .cons n t (ih r2)
section
variable{X:Cx}{e:Expr}{te:TE}{lo hi:Option Expr}{tl th:TO}{pos p2:Pos}
theorem CI:PO X Ww HJ:=by
 intro pins s B H Q I h;rw[Tn];exact Qu ⟨Ww,H,I,.none,h⟩
theorem dz(h:PE X e te):PO X (Wv e) (Mc te):=by
 intro pins s B H Q I hw;rw[UD];refine Ï (h pins s B H _ I hw) λu s1 z9=>?_;obtain⟨x,H1,I1,r1,q1⟩:=z9;obtain⟨i,rfl,q⟩:=q1;obtain⟨t,rfl⟩:=r1;exact⟨Wv i,H1,I1,.int i t,q⟩
def ϟ(X:Cx)(r:V->Option Int->Option Int->Hp->VK->Prop):Prop:=
 ∀(pins:List (Qs×Obj))(s:Qw)(B:St)(H:Hp)(x:V)(v vl vu:Qt)(lo hi:Option Int)(sl:Qs)(Q:VK),Inv X pins B H s->WC x v->s.heap.IsSliceOf sl vl vu .none->UN vl lo->UN vu hi->r x lo hi H Q->
  ∃T id,typeLookup (.type T) "__getitem__"=pure (Wv (.builtin id))/\s.TypeIs v T/\wpAny (QG X.prog X.w) X.A (Tf v (.ref sl)) (EP X pins B Q) X.xe s
theorem ϟ.or(h:ϟ X r)(h':ϟ X r'):ϟ X (λx lo hi H Q=>r x lo hi H Q\/r' x lo hi H Q):=by
 intro pins s B H x v vl vu lo hi sl Q I rx hs pl pu q;rcases q with q|q
 ·exact h pins s B H x v vl vu lo hi sl Q I rx hs pl pu q
 exact h' pins s B H x v vl vu lo hi sl Q I rx hs pl pu q
def tSl(r:V->Option Int->Option Int->Hp->VK->Prop)(te:TE)(tl th:TO):TE:=λB H Q=>te B H λx H1=>tl B H1 λl H2=>th B H2 λu H3=>r x l u H3 Q
theorem fU(hr:ϟ X r)(he:PE X e te)(hl:PO X lo tl)(hu:PO X hi th):PE X (.Subscript e (.Slice lo hi Ww p2) pos) (tSl r te tl th):=by
 intro pins s B H Q I h;refine UP (Ï (he pins s B H _ I h) λv s1 z9=>?_);obtain⟨x,H1,I1,r1,q1⟩:=z9;refine VA (Ï (hl pins s1 B H1 _ I1 q1) λvl s2 ⟨l,H2,I2,pl,q2⟩=>Ï (hu pins s2 B H2 _ I2 q2) λvu s3 z9=>?_);obtain⟨u,H3,I3,pu,q3⟩:=z9;rw[Tn];refine Qu ?_;have I4:Inv X pins B H3 { s3 with heap:=s3.heap.push { cls:=.type "slice",data:=.fields #[vl,vu,.none] } }:=I3.kept (t':=s3.toks) λb ob q=>Qv _ q;obtain⟨T,id,hT,ht,hg⟩:=hr pins { s3 with heap:=s3.heap.push { cls:=.type "slice",data:=.fields #[vl,vu,.none] } } B H3 x v vl vu l u s3.heap.objs.size Q I4 r1 (S8 ..) pl pu q3;show wpAny (QG X.prog X.w) X.A (UE e (.Slice lo hi Ww p2) v (.ref s3.heap.objs.size)) (EP X pins B Q) X.xe { s3 with heap:=s3.heap.push { cls:=.type "slice",data:=.fields #[vl,vu,.none] } };exact VY (ops:=[.ref s3.heap.objs.size,v]) ht hT hg (by with_unfolding_all rfl)
def kY(xs:List V)(lo hi:Option Int):List V:=(xs.drop (HT.Ù xs.length 0 lo)).take (HT.Ù xs.length xs.length hi-HT.Ù xs.length 0 lo)
theorem so(xs:List V)(lo hi:Option Int):(kY xs lo hi).length<=xs.length:=by
 unfold kY;rw[Oh,Vq];lia
def Jy(K:Qx):V->Option Int->Option Int->Hp->VK->Prop:=λx lo hi H Q=>∃a xs,x=.ref a/\Ò K H a xs/\
 ¬ (HT.Ù xs.length 0 lo=0/\HT.Ù xs.length xs.length hi=xs.length)/\∀p,H p=Ww->Q (.ref p) (upd H p (.tup (kY xs lo hi)))
theorem Jf:ϟ X (Jy X.K):=by
 intro pins s B H x v vl vu lo hi sl Q I rx hs pl pu h;obtain⟨a,xs,rfl,hx,hw,q⟩:=h;cases rx;obtain⟨Â,r,ht,hz⟩:=I.tuple hx;have hlen:Â.toArray.size=xs.length:=by rw[NV];exact r.length.symm
 refine{"tuple",_,PyProof.Rows.slot_tuple_getitem.lookup,ht.typeIs,?_};refine HT.qy ht hs pl pu (by rw[hlen];exact hw) ?_ (by rw[hlen];exact hz);rw[hlen];refine{.ref s.heap.objs.size,_,I.laid (t':=s.toks) (o:=.tup (kY xs lo hi)) (λb ob q=>Qv _ q) (NM _) ?_,rfl,q _ (I.Æ.fresh (NM _))};exact{NU (so xs lo hi) hz,_,(r.drop (HT.Ù xs.length 0 lo)).take (HT.Ù xs.length xs.length hi-HT.Ù xs.length 0 lo),IsTup.new _ _}
end
def Λ(n:Nat)(i:Int):Option Nat:=if 0<=i then(if i<n then Wv i.toNat else Ww)else if -(n:Int)<=i then Wv (i+n).toNat else Ww
def Č{α:Type}(xs:List α)(i:Int):Option α:=(Λ xs.length i).bind λj=>xs[j]?
theorem BH(h:Λ n i=Wv j):seqIndex? i n=Wv j/\j<n/\-(n:Int)<=i/\i<n:=by
 unfold Λ at h;by_cases h0:0<=i
 ·rw[if_pos h0]at h;by_cases h1:i<n
  ·rw[if_pos h1]at h;have e:i.toNat=j:=QB h;exact{by rw[VB h0 h1,e],(),(),h1}
  rw[if_neg h1]at h;cases h
 rw[if_neg h0]at h;by_cases h1:-(n:Int)<=i
 ·rw[if_pos h1]at h;have e:(i+n).toNat=j:=QB h;exact{by rw[U9 () h1,e],(),h1,()}
 rw[if_neg h1]at h;cases h
theorem xH(h:Č xs i=Wv v):∃j,seqIndex? i xs.length=Wv j/\xs[j]?=Wv v/\j<xs.length/\-(xs.length:Int)<=i/\i<xs.length:=by
 unfold Č at h;cases e:Λ xs.length i with
 |none=>rw[e]at h;cases h
 |some j=>
  rw[e]at h;obtain⟨h1,h2,h3,h4⟩:=BH e;exact⟨j,h1,h,h2,h3,h4⟩
theorem gG{α:Type}{xs:List α}{j:Nat}{v:α}(h:xs[j]?=Wv v):Č xs (j:Int)=Wv v:=by
 have hj:j<xs.length:=(NW.mp h).1;have e:Λ xs.length (j:Int)=Wv j:=by
  unfold Λ;rw[if_pos (),if_pos ()];simp
 unfold Č;rw[e];exact h
def B9(b:Expr):Prop:=∀o i,subscripted b false o i=operate [o,i] (Tf o i)
def IxR(X:Cx)(r:R2):Prop:=
 ∀(value slice:Expr)(pins:List (Qs×Obj))(s:Qw)(B:St)(H:Hp)(x y:V)(v u:Qt)(Q:VK),Inv X pins B H s->WC x v->WC y u->r x y H Q->
  subscripted slice false v u=operate [v,u] (Tf v u)->wpAny (QG X.prog X.w) X.A (UE value slice v u) (EP X pins B Q) X.xe s
def MtR(X:Cx)(id:String)(r:V->List V->Hp->VK->Prop):Prop:=
 ∀(pins:List (Qs×Obj))(s:Qw)(B:St)(H:Hp)(x:V)(xs:List V)(v:Qt)(us:List Qt)(Q:VK),Inv X pins B H s->WC x v->Wz xs us->r x xs H Q->
  wpAny (QG X.prog X.w) X.A (call (.builtin id) (v::us)) (EP X pins B Q) X.xe s
section
variable{X:Cx}{a b:Expr}{ta tb:TE}{pos:Pos}
theorem LB(hr:IxR X r)(ha:PE X a ta)(hb:PE X b tb)(hs:B9 b):PE X (.Subscript a b pos) (tOp r ta tb):=by
 intro pins s B H Q I h;exact UP (J5 ha hb I h λv u s2 x y H2 I2 rx ry q=>hr a b pins s2 B H2 x y v u Q I2 rx ry q (hs _ _))
def MU(K:Qx):R2:=λx y H Q=>∃p xs i v,x=.ref p/\y=.int i/\À K H p xs/\Č xs i=Wv v/\Q v H
def MO(K:Qx):R2:=λx y H Q=>∃p xs i v,x=.ref p/\y=.int i/\Ò K H p xs/\Č xs i=Wv v/\Q v H
def Nt:R2:=λx y H Q=>∃z i c,x=.str z/\y=.int i/\z.length<=sizeLine/\Č z.cps.toList i=Wv c/\Q (.str ⟨#[c]⟩) H
theorem HI:IxR X (MU X.K):=by
 intro value slice pins s B H x y v u Q I rx ry h hs;obtain⟨p,xs,i,z,rfl,rfl,hq,he,q⟩:=h;cases rx;obtain⟨t,rfl⟩:=ry;obtain⟨Â,r,pl,hz⟩:=I.list hq;obtain⟨j,h1,h2,h3,h4,h5⟩:=xH he;obtain⟨w,ew,Ϧ⟩:=r.get h2;have hl:=r.length;have hn:=rF;have fin:EP X pins B Q w s:=⟨z,H,I,Ϧ,q⟩;by_cases h0:0<=i
 ·have hj:i.toNat=j:=by
   rw[VB h0 h5]at h1;exact QB h1
  exact item_listR pl.isList h0 () (by rw[hj];simpa using ew) fin hs
 have hj:(i+(Â.toArray.size:Int)).toNat=j:=by
  rw[U9 () h4]at h1;rw[NV,<-hl];exact QB h1
 exact TL (x:=w) pl.isList.typeIs slot_list_getitem.lookup
  (wpAny_getItem_list_neg (Q:=λr s'=>r=w/\EP X pins B Q r s') pl.isList () (by rw[NV]<;>lia) () (by rw[hj];simpa using ew) ⟨rfl,fin⟩) hs
theorem KJ:IxR X (MO X.K):=by
 intro value slice pins s B H x y v u Q I rx ry h hs;obtain⟨p,xs,i,z,rfl,rfl,hq,he,q⟩:=h;cases rx;obtain⟨t,rfl⟩:=ry;obtain⟨Â,r,pl,hz⟩:=I.tuple hq;obtain⟨j,h1,h2,h3,h4,h5⟩:=xH he;obtain⟨w,ew,Ϧ⟩:=r.get h2;have hl:=r.length;have hn:=rF;have fin:EP X pins B Q w s:=⟨z,H,I,Ϧ,q⟩;exact TL (x:=w) pl.typeIs slot_tuple_getitem.lookup
  (getItem_tuple (j:=j) (Q:=λr s'=>r=w/\EP X pins B Q r s') pl () () (by rw[NV,<-hl];exact h1) (by simpa using ew) ⟨rfl,fin⟩) hs
theorem Kf:IxR X Nt:=by
 intro value slice pins s B H x y v u Q I rx ry h hs;obtain⟨z,i,c,rfl,rfl,hz,he,q⟩:=h;obtain⟨t,rfl⟩:=rx;obtain⟨t',rfl⟩:=ry;obtain⟨j,h1,h2,h3,h4,h5⟩:=xH he;have hl:z.cps.toList.length=z.length:=by simp[Str.length]
 rw[hl]at h1 h4 h5;have hn:=rF;exact VY (UQ s z t) slot_str_getitem.lookup (getItem_str (c:=c) (by
  have e1:decide (i< -(2^63:Int))=false:=decide_eq_false ();have e2:decide (i ≥ 2^63)=false:=decide_eq_false ();rw[e1,e2,Bool.or_false]) (by rw[h1];simpa using h2) {.str ⟨#[c]⟩,H,I.tok _,{_,rfl},q}) hs
theorem Bv(Â:List Qt)(n j:Nat)(u:Qt):RV (·.setIfInBounds j u) { cls:=.type "list",data:=.seq Â.toArray n }={ cls:=.type "list",data:=.seq (Â.set j u).toArray n }:=by
 simp[RV]
theorem Inv.lst(I:Inv X pins B H s)(h:H p=Wv (.lst xs)) :
  ∃(Â:List Qt)(n:Nat),Wz xs Â/\s.heap.get? p=Wv { cls:=.type "list",data:=.seq Â.toArray n }/\xs.length<=sizeLine:=by
 obtain⟨z,Â,n,r,e⟩:=I.Æ p _ h
 exact⟨Â,n,r,e,z⟩
theorem Inv.Ju{pins:List (Qs×Obj)}{B:St}{H:Hp}{s:Qw}{p:Qs}{xs ys:List V}{Â its':List Qt}{n n':Nat}{f:Obj->Obj}(I:Inv X pins B H s)(h:H p=Wv (.lst xs))
  (ho:s.heap.get? p=Wv { cls:=.type "list",data:=.seq Â.toArray n }) (hf:f { cls:=.type "list",data:=.seq Â.toArray n }={ cls:=.type "list",data:=.seq its'.toArray n' }) (r:Wz ys its') (hz:ys.length<=sizeLine) (t:Nat) :
  Inv X pins B (upd H p (.lst ys)) { s with heap:=s.heap.update p f,toks:=t }:=by
 have e:(s.heap.update p f).get? p=Wv { cls:=.type "list",data:=.seq its'.toArray n' }:=by
  rw[Rm f ho (by rw[hf]<;>rfl),hf]
 refine I.write (x:=p) (e:=p) (by rw[h];trivial) (.inl rfl) (λb u hb q=>(Ri _ _ (OU hb)).trans q) {_,e} ?_
 exact⟨hz,its',n',r,e⟩
def Iw:V->V->V->Hp->(Hp->Prop)->Prop:=λo i v H Q=>∃p xs k j,o=.ref p/\i=.int k/\H p=Wv (.lst xs)/\Λ xs.length k=Wv j/\Q (upd H p (.lst (xs.set j v)))
theorem Wy:F1 X Iw:=by
 intro pins s B H o i v ov iv u Q I ro ri rv h;obtain⟨p,xs,k,j,rfl,rfl,hp,hj,q⟩:=h;cases ro;obtain⟨t,rfl⟩:=ri;obtain⟨Â,n,r,ho,hz⟩:=I.lst hp;obtain⟨h1,h2,h3,h4⟩:=BH hj;have hl:=r.length;have hn:=rF;have I':Inv X pins B (upd H p (.lst (xs.set j v))) { s with heap:=s.heap.update p (RV (·.setIfInBounds j u)) }:=
  I.Ju hp ho (Bv Â n j u) (r.set rv j) (by rw[List.length_set];exact hz) s.toks
 by_cases h0:0<=k
 ·have hk:k.toNat=j:=by
   rw[VB h0 h4]at h1;exact QB h1
  exact W.ki_setAt ho h0 () (by rw[NV,<-hl];exact h4) (by rw[hk];exact{_,I',q})
 have hk:(k+(Â.toArray.size:Int)).toNat=j:=by
  rw[U9 () h3]at h1;rw[NV,<-hl];exact QB h1
 exact W.ki_setBack ho () (by rw[NV,<-hl];exact h3) () (by rw[hk];exact{_,I',q})
theorem xP(lo hi:Option Int)(n:Nat):(Si lo hi Ww n).1=((HT.Ù n 0 lo:Nat):Int)/\(Si lo hi Ww n).2.1=((HT.Ù n n hi:Nat):Int)/\(Si lo hi Ww n).2.2=1:=by
 refine{?_,?_,rfl}
 ·cases lo with
  |none=>simp[Si,HT.Ù]
  |some i=>
   simp only[Si,HT.Ù,Vr,show(1:Int)>0 by decide,if_true];by_cases h:i<0
   ·simp only[h,if_true]<;>lia
   simp only[h,if_false]<;>lia
 cases hi with
 |none=>simp[Si,HT.Ù]
 |some i=>
  simp only[Si,HT.Ù,Vr,show(1:Int)>0 by decide,if_true];by_cases h:i<0
  ·simp only[h,if_true]<;>lia
  simp only[h,if_false]<;>lia
theorem vF(Â:List Qt)(lo hi:Option Int):slicePick Â.toArray lo hi Ww=((Â.drop (HT.Ù Â.length 0 lo)).take (HT.Ù Â.length Â.length hi-HT.Ù Â.length 0 lo)).toArray:=by
 obtain⟨h1,h2,h3⟩:=xP lo hi Â.toArray.size;unfold slicePick;rw[h1,h2,h3];simp only[sliceRange_one,pick_run,NV]<;>rfl
def JD(K:Qx):V->Option Int->Option Int->Hp->VK->Prop:=λx lo hi H Q=>∃a xs,x=.ref a/\À K H a xs/\∀p,H p=Ww->Q (.ref p) (upd H p (.lst (kY xs lo hi)))
theorem GI:ϟ X (JD X.K):=by
 intro pins s B H x v vl vu lo hi sl Q I rx hs pl pu h;obtain⟨a,xs,rfl,hx,q⟩:=h;cases rx;obtain⟨Â,r,ht,hz⟩:=I.list hx;have hlen:=r.length;refine{"list",_,slot_list_getitem.lookup,ht.isList.typeIs,?_};refine To ht.isList hs pl pu .none (by simp) ?_ (by rw[NV]<;>lia);rw[vF,<-hlen];refine{.ref s.heap.objs.size,_,I.laid (t':=s.toks) (o:=.lst (kY xs lo hi)) (λb ob q=>Qv _ q) (NM _) ?_,rfl,q _ (I.Æ.fresh (NM _))};exact{NU (so xs lo hi) hz,_,0,(r.drop (HT.Ù xs.length 0 lo)).take (HT.Ù xs.length xs.length hi-HT.Ù xs.length 0 lo),QE _ rfl}
def mH:V->Bool
 | .È=>true
 | .bl _=>true
 | .int _=>true
 | .str _=>true
 |_=>false
def Υ:V->V->Bool
 | .È,.È=>true
 | .bl a,.bl b=>a==b
 | .bl a,.int b=>(if a then 1 else 0)==b
 | .int a,.bl b=>a==(if b then 1 else 0)
 | .int a,.int b=>a==b
 | .str a,.str b=>a==b
 |_,_=>false
theorem Kp(ry:WC y u)(rx:WC x v)(fy:mH y=true)(fx:mH x=true):TM A s u v (Υ y x):=by
 cases y with
 |È=>
  cases ry;cases x with
  |È=>cases rx;exact SeqAt.EqAt.same _
  |bl b=>cases rx;exact SeqAt.EqAt.none_bool b
  |int b=>obtain⟨t,rfl⟩:=rx;exact SeqAt.EqAt.none_int b t
  |str b=>obtain⟨t,rfl⟩:=rx;exact SeqAt.EqAt.none_str b t
  |_=>exact absurd (show false=true from fx) NT
 |bl a=>
  cases ry;cases x with
  |È=>cases rx;exact SeqAt.EqAt.bool_none a
  |bl b=>cases rx;exact SeqAt.EqAt.bool_bool a b
  |int b=>obtain⟨t,rfl⟩:=rx;exact SeqAt.EqAt.bool_int a b t
  |str b=>obtain⟨t,rfl⟩:=rx;exact SeqAt.EqAt.bool_str a b t
  |_=>exact absurd (show false=true from fx) NT
 |int a=>
  obtain⟨t',rfl⟩:=ry;cases x with
  |È=>cases rx;exact SeqAt.EqAt.int_none a t'
  |bl b=>cases rx;exact SeqAt.EqAt.int_bool a t' b
  |int b=>obtain⟨t,rfl⟩:=rx;exact UR a t' b t
  |str b=>obtain⟨t,rfl⟩:=rx;exact UH a t' b t
  |_=>exact absurd (show false=true from fx) NT
 |str a=>
  obtain⟨t',rfl⟩:=ry;cases x with
  |È=>cases rx;exact SeqAt.EqAt.str_none a t'
  |bl b=>cases rx;exact SeqAt.EqAt.str_bool a t' b
  |int b=>obtain⟨t,rfl⟩:=rx;exact UI a t' b t
  |str b=>obtain⟨t,rfl⟩:=rx;exact US a t' b t
  |_=>exact absurd (show false=true from fx) NT
 |_=>exact absurd (show false=true from fy) NT
def Ł(x:V)(u:Qt):Bool:=match u with
 | .none=>Υ .È x
 | .bool b=>Υ (.bl b) x
 | .int i _=>Υ (.int i) x
 | .str z _=>Υ (.str z) x
 |_=>false
theorem FG(r:WC y u)(f:mH y=true):Ł x u=Υ y x:=by
 cases y with
 |È=>cases r;rfl
 |bl b=>cases r;rfl
 |int i=>obtain⟨t,rfl⟩:=r;rfl
 |str z=>obtain⟨t,rfl⟩:=r;rfl
 |_=>exact absurd (show false=true from f) NT
theorem tI:∀{xs:List V}{us:List Qt},Wz xs us->xs.all mH=true->us.any (Ł x)=xs.any λy=>Υ y x:=by
 intro xs us h;induction h with
 |nil=>intro _;rfl
 |cons r _ ih=>
  intro f;rw[List.all_cons,O6]at f;rw[Pr,Pr,FG r f.1,ih f.2]
theorem qo(rx:WC x v)(fx:mH x=true):∀{xs:List V}{us:List Qt},Wz xs us->xs.all mH=true->∀u∈us,TM A s u v (Ł x u):=by
 intro xs us h;induction h with
 |nil=>intro _ u hu;cases hu
 |cons r _ ih=>
  intro f u' hu;rw[List.all_cons,O6]at f;rcases NJ.mp hu with rfl|hu
  ·rw[FG r f.1];exact Kp r rx f.1 fx
  exact ih f.2 u' hu
def ϔ(x:V)(xs:List V):Bool:=xs.any λy=>Υ y x
def rIn(K:Qx)(neg:Bool):R2:=λx y H Q=>∃p xs,y=.ref p/\(À K H p xs\/Ò K H p xs)/\mH x=true/\xs.all mH=true/\Q (.bl (if neg then !ϔ x xs else ϔ x xs)) H
theorem D3:Ô X (QK .In) (rIn X.K false):=by
 intro pins s B H x y v u Q I rx ry h;obtain⟨p,xs,rfl,hq,fx,fs,q⟩:=h;cases ry;rcases hq with hq|hq
 ·obtain⟨Â,r,pl,hz⟩:=I.list hq;refine SeqAt.in_listAt (Ł x) pl.isList (λw hw=>qo rx fx r fs w (by simpa using hw)) {.bl _,H,I,rfl,?_};rw[show Â.toArray.any (Ł x)=Â.any (Ł x) by simp,tI r fs];exact q
 obtain⟨Â,r,pl,hz⟩:=I.tuple hq;refine SeqAt.in_tupleAt (Ł x) pl (λw hw=>qo rx fx r fs w (by simpa using hw)) {.bl _,H,I,rfl,?_};rw[show Â.toArray.any (Ł x)=Â.any (Ł x) by simp,tI r fs];exact q
theorem yu:Ô X (QK .NotIn) (rIn X.K true):=by
 intro pins s B H x y v u Q I rx ry h;obtain⟨p,xs,rfl,hq,fx,fs,q⟩:=h;cases ry;rcases hq with hq|hq
 ·obtain⟨Â,r,pl,hz⟩:=I.list hq;refine SeqAt.notIn_listAt (Ł x) pl.isList (λw hw=>qo rx fx r fs w (by simpa using hw)) {.bl _,H,I,rfl,?_};rw[show Â.toArray.any (Ł x)=Â.any (Ł x) by simp,tI r fs];exact q
 obtain⟨Â,r,pl,hz⟩:=I.tuple hq;refine SeqAt.notIn_tupleAt (Ł x) pl (λw hw=>qo rx fx r fs w (by simpa using hw)) {.bl _,H,I,rfl,?_};rw[show Â.toArray.any (Ł x)=Â.any (Ł x) by simp,tI r fs];exact q
theorem xr:Ô X (QK .NotIn) (λx y H Q=>∃i j,x=.str i/\y=.str j/\Q (.bl (!(!(Q8 j i 0 j.length 1).isEmpty))) H):=by
 intro pins s B H x y v u Q I rx ry h;obtain⟨i,j,rfl,rfl,q⟩:=h;obtain⟨t,rfl⟩:=rx;obtain⟨t',rfl⟩:=ry;exact notIn_str {.bl _,H,I,rfl,q}
theorem fG.or(h:fG X f r)(h':fG X f r'):fG X f (λxs H Q=>r xs H Q\/r' xs H Q):=by
 intro pins s B H xs us Q I rs q;rcases q with q|q
 ·exact h pins s B H xs us Q I rs q
 exact h' pins s B H xs us Q I rs q
theorem xG:fG X (.type "list") (λxs H Q=>∃p ys,xs=[.ref p]/\(À X.K H p ys\/Ò X.K H p ys)/\∀l,H l=Ww->Q (.ref l) (upd H l (.lst ys))):=by
 intro pins s B H xs us Q I r h;obtain⟨p,ys,rfl,hq,q⟩:=h;obtain⟨u,rfl,rx⟩:=WL r;cases rx;have fin:∀(Â:List Qt),Wz ys Â->ys.length<=sizeLine->∀(h':QN)(c':Nat),(∀b o',s.heap.get? b=Wv o'->h'.get? b=Wv o')->
   h'.get? s.heap.objs.size=Wv { cls:=.type "list",dict:=Ww,data:=.seq Â.toArray c',slots:=#[] }->EP X pins B Q (.ref s.heap.objs.size) { s with heap:=h' }:=λÂ r' hz h' c' kp e=>
  {.ref s.heap.objs.size,_,I.laid (t':=s.toks) kp (NM _) (show dN X.prog X.w _ h' _ (.lst ys)from⟨hz,Â,c',r',e⟩),rfl,q _ (I.Æ.fresh (NM _))}
 rcases hq with hq|hq
 ·obtain⟨Â,r',pl,hz⟩:=I.list hq;have hlen:=r'.length;obtain⟨o,ho,hc,n,hd⟩:=pl.isList;exact call_list_seq p (.inl rfl) ho hc hd (λh' c' kp e=>fin Â r' hz h' c' kp e) (by simp only[NV]<;>lia)
 obtain⟨Â,r',pl,hz⟩:=I.tuple hq;have hlen:=r'.length;obtain⟨o,ho,hc,n,hd⟩:=pl;exact call_list_seq p (.inr rfl) ho hc hd (λh' c' kp e=>fin Â r' hz h' c' kp e) (by simp only[NV]<;>lia)
def tyV(K:Qx)(T:String)(x:V)(H:Hp):Prop:=match x with
 | .str _=>T="str"
 | .int _=>T="int"
 | .ref p=>(T="list"/\∃xs,À K H p xs)\/(T="tuple"/\∃o,K.lookup p=Wv o/\o.cls=.type "tuple"/\o.dict=Ww)\/
   (T="dict"/\((∃kvs,H p=Wv (.dK kvs))\/∃kvs,H p=Wv (.dT kvs)))\/(T="set"/\∃S n,H p=Wv (.set S n))
 |_=>False
theorem ET(I:Inv X pins B H s)(r:WC x v)(ty:tyV X.K T x H) :
  s.TypeIs v T/\∀a,v=.ref a->∃ob,s.heap.get? a=Wv ob/\ob.dict=Ww:=by
 cases x with
 |str z=>
  obtain⟨t,rfl⟩:=r
  cases (show T="str" from ty)
  exact{UQ s z t,λ_ e=>nomatch e}
 |int i=>
  obtain⟨t,rfl⟩:=r
  cases (show T="int" from ty)
  exact{VZ s i t,λ_ e=>nomatch e}
 |ref p=>
  cases r
  rcases ty with⟨rfl,xs,hq⟩|⟨rfl,o,hk,hc,hd⟩|⟨rfl,hk⟩|⟨rfl,S,n,hk⟩
  ·obtain⟨Â,_,pl,_⟩:=I.list hq;refine{pl.isList.typeIs,λa e=>?_};cases e;obtain⟨o,n,e,c,hd,_⟩:=pl;exact⟨o,e,hd⟩
  ·refine{⟨o,I.ċ p o hk,hc⟩,λa e=>?_};cases e;exact{o,I.ċ _ o hk,hd}
  ·have z:∃o,s.heap.get? p=Wv o/\o.ExactDict:=by
    rcases hk with⟨kvs,hk⟩|⟨kvs,hk⟩
    ·obtain⟨_,_,_,_,o,_,_,e,ex,_⟩:=I.Æ p _ hk;exact⟨o,e,ex⟩
    obtain⟨_,_,_,_,o,_,_,e,ex,_⟩:=I.Æ p _ hk;exact⟨o,e,ex⟩
   obtain⟨o,e,ex⟩:=z;refine{⟨o,e,ex.1⟩,λa e2=>?_};cases e2;exact⟨o,e,ex.2.1⟩
  obtain⟨o,_,_,_,e,ex,_⟩:=I.Æ p _ hk
  refine{⟨o,e,ex.1⟩,λa e2=>?_}
  cases e2
  exact⟨o,e,ex.2.1⟩
 |_=>exact Rt ty
def Ie(K:Qx)(T:String)(r:V->List V->Hp->VK->Prop)(to:TE):TE:=λB H Q=>to B H λx H1=>tyV K T x H1/\r x [] H1 Q
def tBM(K:Qx)(T:String)(r:V->List V->Hp->VK->Prop)(to:TE)(t:TA):TE:=λB H Q=>to B H λx H1=>tyV K T x H1/\t B H1 λxs H2=>r x xs H2 Q
variable{o e:Expr}{es:List Expr}{to:TE}{t:TA}{name:Str}{apos Ð:Pos}{T id:String}{r:V->List V->Hp->VK->Prop}
theorem Bg(pa:PlainAttrs T)(slot:Slot T name id)(hty:typeOf (.builtin id)=pure (.type "method_descriptor"))(hm:MtR X id r)(ho:PE X o to)
  (ç:Q6 o name X.env (QV o X.env)=QV o X.env:=by rfl) (æ:(apos.endLine==Ð.line)=true:=by rfl):PE X (.Call (.Attribute o name apos) [] [] Ð) (Ie X.K T r to):=by
 intro pins s B H Q I h
 refine wpAny_Call_method0_late ç æ (Ï (ho pins s B H _ I h) λv s1 z9=>?_);obtain⟨x,H1,I1,r1,ty,q1⟩:=z9
 obtain⟨h1,h2⟩:=ET I1 r1 ty
 exact{T,id,pa,slot,hty,h1,h2,TN rfl (PySem.evalArgs_none (hm pins s1 B H1 x [] v [] Q I1 r1 .nil q1))}
theorem Fz(pa:PlainAttrs T)(slot:Slot T name id)(hty:typeOf (.builtin id)=pure (.type "method_descriptor"))(hm:MtR X id r)(ho:PE X o to)(ha:PA X (e::es) t)
  (ç:Q6 o name X.env (QV o X.env)=QV o X.env:=by rfl)
  (Ľ:((Q7 Ð (QA (e::es) X.env)).all (λx=>!x.1)&&(Ta Ð (RW [] X.env)).all (λx=>x.1.isSome)
   &&decide ((e::es).length+([]:List Sb).length+(if([]:List Sb).isEmpty then 0 else 1)<30))=true:=by rfl)
  (æ:(apos.endLine==Ð.line)=true:=by rfl) (hs:QA (e::es) X.env=(false,QV e X.env)::QA es X.env:=by rfl) (ù:(Q7 Ð (QA es X.env)).any (·.1)=false:=by rfl) :
  PE X (.Call (.Attribute o name apos) (e::es) [] Ð) (tBM X.K T r to t):=by
 intro pins s B H Q I h
 refine wpAny_Call_method_late ç Ľ æ rfl (Ï (ho pins s B H _ I h) λv s1 z9=>?_);obtain⟨x,H1,I1,r1,ty,q1⟩:=z9
 obtain⟨h1,h2⟩:=ET I1 r1 ty
 refine{T,id,pa,slot,hty,h1,h2,?_}
 have hA:=ha Ð pins s1 B H1 _ I1 q1
 rw[hs]at hA⊢
 refine TN (by show(false||(Q7 Ð (QA es X.env)).any (·.1))=false;rw[ù]<;>rfl) (Calls.evalArgs_plain ?_)
 exact Ï hA λus s2 ⟨vs,H2,I2,r2,q2⟩=>hm pins s2 B H2 x vs v us Q I2 r1 r2 q2
end
def MtM(X:Cx)(id:String)(r:V->List V->Hp->VK->Prop):Prop:=
 ∀(pins:List (Qs×Obj))(s:Qw)(B:St)(H:Hp)(x:V)(xs:List V)(v:Qt)(us:List Qt)(Q:VK),Inv X pins B H s->WC x v->Wz xs us->r x xs H Q->
  wpAny (QG X.prog X.w) X.A (call (.builtin id) (v::us)) (EP X pins B Q) X.xe s
theorem Wz.one(h:Wz [x] us):∃u,us=[u]/\WC x u:=by
 cases h with
 |cons r t=>cases t;exact{_,rfl,r}
theorem Wz.zero:∀{us:List Qt},Wz [] us->us=[]
 |_,.nil=>rfl
theorem Wz.dropLast(h:Wz xs us):Wz xs.dropLast us.dropLast:=by
 induction h with
 |nil=>exact .nil
 |cons r t ih=>
  cases t with
  |nil=>exact .nil
  |cons q t'=>exact .cons r ih
theorem Wz.reverse(h:Wz xs us):Wz xs.reverse us.reverse:=by
 induction h with
 |nil=>exact .nil
 |cons r t ih=>rw[Va,Va];exact Wz.append ih (.cons r .nil)
theorem Wz.rep(h:Wz xs us):∀k:Nat,Wz (QH k xs).flatten (QH k us).flatten
 |0=>.nil
 |k+1=>by
  rw[Ot,Ot,Pq,Pq];exact Wz.append h (Wz.rep h k)
theorem AH{α:Type}(l:List α):l.eraseIdx (l.length-1)=l.dropLast:=by
 induction l with
 |nil=>rfl
 |cons a r ih=>
  cases r with
  |nil=>rfl
  |cons b r=>
   have e:(a::b::r).length-1=((b::r).length-1)+1:=by
    have h1:(a::b::r).length=r.length+2:=rfl;have h2:(b::r).length=r.length+1:=rfl;lia
   rw[e,List.eraseIdx_cons_succ,ih];all_goals rfl
theorem WN(Â:List Qt):∀(k:Nat)(acc:List Qt),
  V0 (λx1 x2=>x1++x2) acc.toArray (QH k Â.toArray)=(acc++(QH k Â).flatten).toArray
 |0,acc=>by simp
 |k+1,acc=>by
  have e:acc.toArray++Â.toArray=(acc++Â).toArray:=by simp
  have e2:(acc++Â)++(QH k Â).flatten=acc++(QH (k+1) Â).flatten:=by
   rw[Ot,Pq,Oz]
  rw[<-e2,<-WN Â k (acc++Â),<-e,Ot,OG]
section
variable{X:Cx}{pins:List (Qs×Obj)}{B:St}{H:Hp}{s:Qw}{l b:Qs}{xs ys zs:List V}
theorem Inv.HQ{Â its':List Qt}{n:Nat}{f:Array Qt->Array Qt}{t':Nat}(I:Inv X pins B H s)(hH:H l=Wv (.lst xs))
  (e:s.heap.get? l=Wv { cls:=.type "list",data:=.seq Â.toArray n }) (hf:f Â.toArray=its'.toArray) (hv:Wz ys its') (hz:ys.length<=sizeLine) :
  Inv X pins B (upd H l (.lst ys)) { s with heap:=s.heap.update l (RV f),toks:=t' }:=by
 have q:=PySem.IsL.update e f
 rw[hf]at q
 refine I.write (x:=l) (e:=l) (by rw[hH];exact trivial) (.inl rfl) (λb' u hb hu=>(Ri s.heap (RV f) (OU hb)).trans hu) {_,q} ?_
 exact{hz,its',_,hv,q}
theorem Inv.Jm(I:Inv X pins B H s)(hv:Wz ys Â)(hz:ys.length<=sizeLine) :
  Inv X pins B (upd H s.heap.objs.size (.lst ys)) { s with heap:=s.heap.push { cls:=.type "list",data:=.seq Â.toArray },toks:=t' }:=
 I.laid (λ_ _ q=>Qv _ q) (NM _) {hz,Â,0,hv,QE _ rfl}
theorem Inv.fresh(I:Inv X pins B H s):H s.heap.objs.size=Ww:=I.Æ.fresh (NM _)
theorem Inv.zt(I:Inv X pins B H s)(hH:H l=Wv (.lst xs)):xs.length<=sizeLine/\∃(Â:List Qt)(n:Nat),Wz xs Â/\xs.length=Â.length/\s.heap.get? l=Wv { cls:=.type "list",data:=.seq Â.toArray n }:=by
 obtain⟨z,Â,n,r,e⟩:=I.Æ l _ hH;exact⟨z,Â,n,r,r.length,e⟩
theorem zx(h:n<=sizeLine):RG n=false:=by
 unfold RG;exact decide_eq_false ()
end
section
variable{X:Cx}
inductive xJ(x:V)(vs:List V)(H:Hp)(Q:VK):Prop
 |mk(l:Qs)(xs:List V)(y:V)(h0:x=.ref l)(h1:vs=[y])(h2:H l=Wv (.lst xs))(h3:xs.length<sizeLine)(q:Q .È (upd H l (.lst (xs++[y])))):xJ x vs H Q
theorem wJ:MtM X "list.append" xJ:=by
 intro pins s B H x vs v us Q I rx rv h;obtain⟨l,xs,y,rfl,rfl,hH,hz,q⟩:=h;cases rx;obtain⟨u,rfl,ru⟩:=rv.one;obtain⟨z,Â,n,r,hl,e⟩:=I.zt hH;refine Se F.slot_list_append {_,e,rfl} F.entry_list_append (F.args_list_append_2 _ _) (PySem.list_append l Â.toArray n u (by rw[NV];lia)) {e,?_};refine{.È,_,I.HQ (its':=Â++[u]) hH e (by simp) (r.append (.cons ru .nil)) ?_,rfl,q};rw[NG,N6];lia
def BM:V->List V->Hp->VK->Prop:=λx vs H Q=>∃l b xs zs,x=.ref l/\vs=[.ref b]/\H l=Wv (.lst xs)/\H b=Wv (.lst zs)/\xs.length+zs.length<=sizeLine/\Q .È (upd H l (.lst (xs++zs)))
theorem DC:MtM X "list.extend" BM:=by
 intro pins s B H x vs v us Q I rx rv h;obtain⟨l,b,xs,zs,rfl,rfl,hH,hB,hz,q⟩:=h;cases rx;obtain⟨u,rfl,ru⟩:=rv.one;cases ru;obtain⟨z,Â,n,r,hl,e⟩:=I.zt hH;obtain⟨z2,ĳ,n2,r2,hl2,e2⟩:=I.zt hB;have hsz:Â.toArray.size+ĳ.toArray.size<=sizeLine:=by rw[NV,NV];lia
 have ū:¬ (!Â.toArray.isEmpty&&RG (Â.toArray.size+ĳ.toArray.size))=true:=by
  rw[zx hsz,V1];exact NT
 refine Se F.slot_list_extend {_,e,rfl} F.entry_list_extend (F.args_list_extend_2 _ _)
  (AutoSeq1.list_extend_list_list_0 l Â.toArray n b ĳ.toArray n2 ū (by rw[NV];lia) ()) {e,e2,?_}
 refine{.È,_,I.HQ (its':=Â++ĳ) hH e (by simp) (r.append r2) ?_,rfl,q};rw[NG];lia
inductive Jr(x:V)(vs:List V)(H:Hp)(Q:VK):Prop
 |mk(l:Qs)(xs:List V)(y:V)(h0:x=.ref l)(h1:vs=[])(h2:H l=Wv (.lst xs))(h3:xs[xs.length-1]?=Wv y)(q:Q y (upd H l (.lst xs.dropLast))):Jr x vs H Q
theorem KG:MtM X "list.pop" Jr:=by
 intro pins s B H x vs v us Q I rx rv h;obtain⟨l,xs,y,rfl,rfl,hH,hy,q⟩:=h;cases rx;have hus:=rv.zero;subst hus;obtain⟨z,Â,n,r,hl,e⟩:=I.zt hH;obtain⟨u,hu,ru⟩:=r.get hy;have hy':Â.toArray[Â.toArray.size-1]?=Wv u:=by
  show Â.toArray[Â.length-1]?=Wv u;rw[<-OL,<-hl];exact hu
 refine Se F.slot_list_pop {_,e,rfl} F.entry_list_pop (F.args_list_pop_1 _) (MeetsSeq.list_pop_last l Â.toArray n u hy' (by rw[NV];lia)) {e,?_};refine{y,_,I.HQ (its':=Â.dropLast) hH e ?_ r.dropLast ?_,ru,q}
 ·show Â.toArray.eraseIdxIfInBounds (Â.toArray.size-1)=Â.dropLast.toArray;rw[NV,List.eraseIdxIfInBounds_toArray,AH]
 rw[List.length_dropLast];lia
def zY:V->List V->Hp->VK->Prop:=λx vs H Q=>∃l xs,x=.ref l/\vs=[]/\H l=Wv (.lst xs)/\Q .È (upd H l (.lst xs.reverse))
theorem Bd:MtM X "list.reverse" zY:=by
 intro pins s B H x vs v us Q I rx rv h;obtain⟨l,xs,rfl,rfl,hH,q⟩:=h;cases rx;have hus:=rv.zero;subst hus;obtain⟨z,Â,n,r,hl,e⟩:=I.zt hH;refine Se F.slot_list_reverse {_,e,rfl} F.entry_list_reverse (F.args_list_reverse_1 _) (AutoSeq1.list_reverse_list_0 l Â.toArray n (by rw[NV];lia)) {e,?_};refine{.È,_,I.HQ (its':=Â.reverse) hH e (by simp) r.reverse ?_,rfl,q};rw[O9];lia
def LL:R2:=λx y H Q=>∃l b xs zs,x=.ref l/\y=.ref b/\H l=Wv (.lst xs)/\H b=Wv (.lst zs)/\xs.length+zs.length<=sizeLine/\∀p,H p=Ww->Q (.ref p) (upd H p (.lst (xs++zs)))
theorem IY:Ô X (Rg .Add) LL:=by
 intro pins s B H x y v u Q I rx ry h;obtain⟨l,b,xs,zs,rfl,rfl,hH,hB,hz,q⟩:=h;cases rx;cases ry;obtain⟨z,Â,n,r,hl,e⟩:=I.zt hH;obtain⟨z2,ĳ,n2,r2,hl2,e2⟩:=I.zt hB;refine PySem.P.add_list e e2 ?_ (by rw[NV,NV];lia);have ea:Â.toArray++ĳ.toArray=(Â++ĳ).toArray:=by simp
 rw[ea];exact{.ref _,_,I.Jm (t':=s.toks) (r.append r2) (by rw[NG];lia),rfl,q _ I.fresh}
def M8:R2:=λx y H Q=>∃l k xs,x=.ref l/\y=.int k/\H l=Wv (.lst xs)/\-(2^63)<=k/\k<2^63/\xs.length*k.toNat<=sizeLine/\
 ∀p,H p=Ww->Q (.ref p) (upd H p (.lst (QH k.toNat xs).flatten))
theorem len_rep{α:Type}(xs:List α)(k:Nat):(QH k xs).flatten.length=k*xs.length:=by
 induction k with
 |zero=>simp
 |succ k ih=>rw[Ot,Pq,NG,ih,Nat.succ_mul,PZ]
theorem Jn:Ô X (Rg .Mult) M8:=by
 intro pins s B H x y v u Q I rx ry h;obtain⟨l,k,xs,rfl,rfl,hH,h1,h2,hz,q⟩:=h;cases rx;obtain⟨t,rfl⟩:=ry;obtain⟨z,Â,n,r,hl,e⟩:=I.zt hH;have hlen:Â.toArray.size*k.toNat<=sizeLine:=by rw[NV,<-hl];exact hz
 have hcap:¬ Â.toArray.size*k.toNat>(2^63-1)/8:=by
  have:(sizeLine:Nat)<=(2^63-1)/8:=∅
  lia
 have hfit:¬ (!Builtin.List.listFitsIndex k)=true:=by
  rw[fitsIndex_both h1 h2];exact NT
 have ū:¬ RG (Â.toArray.size*k.toNat)=true:=by
  rw[zx hlen];exact NT
 have ϯ:V0 (λx1 x2=>x1++x2) #[] (QH (if Â.toArray.isEmpty=true then 0 else k.toNat) Â.toArray)=(QH k.toNat Â).flatten.toArray:=by
  have f0:∀m:Nat,V0 (λx1 x2=>x1++x2) #[] (QH m Â.toArray)=(QH m Â).flatten.toArray:=λm=>by
   have:=WN Â m [];rw[OA]at this;exact this
  rw[f0];cases Â with
  |nil=>simp
  |cons a r'=>rw[if_neg (by simp)]
 refine wpAny_binaryOp_repeat_ref (T:="list") (U:="int") ∅ {_,e,rfl} (λs'=>VZ s' k t) noFill_list_mul F.fills_int_mul VE repeat_list F.slot_int_index.lookup
  (Se VE (VZ s k t) F.entry_int_rmul (F.args_int_rmul_2 _ _) (int___rmul___int_list k t l Â.toArray n)
   {e,rfl,{_,e,rfl},Se F.slot_list_mul {_,e,rfl} F.entry_list_mul (F.args_list_mul_2 _ _) (AutoListH.list___mul___list_int_3 l Â.toArray n k t hfit hcap ū) {e,?_}})
 rw[ϯ];exact{.ref _,_,I.Jm (t':=s.toks) (r.rep k.toNat) (by rw[len_rep,Nat.mul_comm];exact hz),rfl,q _ I.fresh}
end
section
variable{prog:Program}{w:QD}{A:QU}{E:Qt->Qw->Prop}{s:Qw}
end
section
variable{X:Cx}
end
end L2
namespace Att
open PySem PySem.W PySem.Calls PyProof.Rows
theorem sW:∀(ns:List Int)(vs:List Qt),WellAll P h vs (ns.map WData.int)->SV vs ns:=by
 intro ns;induction ns with
 |nil=>
  intro vs w;rw[PR]at w;cases w;exact .nil
 |cons n ns ih=>
  intro vs w;rw[N9]at w;cases w with
  |cons a b=>
   cases a;exact .cons _ _ (ih _ b)
theorem DR{l:OpenLaw}{n:Nat}(hn:l.most=Wv n){P:RE}{h:QN}{args:List WData}{vals:List Qt}
  (Ϭ:l.row.toRowW.claim.pre args=true) (hwl:WellAll P h vals args) :
  ∃a vs ns,vals=[QJ a]/\args=[WData.list (ns.map WData.int)]/\h.get? a=Wv { cls:=.type "list",data:=.seq vs.toArray }/\SV vs ns/\ns.length<=n:=by
 have hsh:WShape.hasAll [] args [.list .int]=true:=(pre_splitW Ϭ).1
 have hc:l.pre.holds [] { args:=args }=true:=(pre_splitW Ϭ).2
 obtain⟨d,r,rfl,h1,h2⟩:=hasAllW_cons hsh
 obtain rfl:=hasAllW_nil h2
 obtain⟨xs,rfl,h3⟩:=hasW_list h1
 obtain⟨ns,rfl⟩:=items_int h3
 have hlen:ns.length<=n:=by
  unfold OpenLaw.pre at hc;have h4:(WTm.not (.lt (.lit (.int (n:Int))) (.len (.arg 0)))).holds [] { args:=[.list (ns.map .int)] }=true:=by
   have h4:=(holds_andW hc).1;rw[hn]at h4;exact h4
  have h5:=condW_of h4 (w_not (w_lt w_lit (w_len_list (w_arg rfl))));rw[NH]at h5;refine Nat.le_of_not_lt λq=>?_;have q':(n:Int)<((ns.length:Nat):Int):=()
  first
   | (rw[decide_eq_true q']at h5;exact absurd h5 ∅)
   | (simp at h5;lia)
 cases hwl with
 |cons w1 w2=>
  cases w2
  cases w1 with
  |list ho hall=>exact{_,_,ns,rfl,rfl,ho,sW ns _ hall,hlen}
theorem Dp(l:OpenLaw)(args:List WData):l.row.toRowW.claim.post args (.bool true) args=true:=
 postW_of (r:=l.row.toRowW) (X:=(true==true))
  (show WShape.has [] (.bool true) .bool=true by first|rfl|decide|simp[WShape.has,WShape.arms,WShape.armsAll])
  (show(WTm.eq .res (.lit (.bool true))).value [] { args:=args,res:=Wv (.bool true),after:=args }=Wv (.bool (true==true))from w_eq_bool (w_res rfl) w_lit) rfl
theorem zA{l:OpenLaw}{n:Nat}{q:Program}{loose:List Str}{XP:(Str->Option Qt)->QN->Prop}{YP:QD->QN->Prop}{d:DefRec}
  (hn:l.most=Wv n) (hdf:d.params.defaults=[])
  (call:∀(w:QD)(s₀ s₁:Qw)(mg mb:Str->Option Qt)(fa:Qs)(o:Obj)(pm cd doc:Qt)(a:Qs)(vs:List Qt)(ns:List Int),
   Ground q loose [] XP w s₀ mg mb s₁.heap->YP w s₁.heap->
   s₁.heap.get? fa=Wv o->o.data=.func (docDef d.name d.params d.body d.scope pm cd doc)->s₁.heap.CodeRec cd d.name->mg d.name=Wv (.ref fa)->
   s₁.heap.get? a=Wv { cls:=.type "list",data:=.seq vs.toArray }->SV vs ns->ns.length<=n->s₁.gens=#[]->
   codeAny (QG l.prog w) Uq (.call (.ref fa) {[.ref a],[]}) (λr s'=>r=.ok (.ret (.bool true))/\OldK s₁.heap s'.heap/\s'.os=s₁.os/\Te s'.gens) s₁) :
  WalkO q loose XP YP l.row.toRowW d [] (λf vs=>V2 f vs):=by
 intro w s₀ s₁ mg mb G Y fa o pm cd doc dV kV ho hd ņ hD hmg hg args vals as Ϭ hlay hrd hwl ϰ
 obtain rfl:dV=.none:=Dflts.none hD hdf
 obtain rfl:kV=.none:=Dflts.noKw hD
 obtain⟨a,vs,ns,rfl,rfl,hobj,hints,hlen⟩:=DR hn Ϭ hwl
 refine enter_call (So (call w s₀ s₁ mg mb fa o pm cd doc a vs ns G Y ho (fd_plain hd) ņ hmg hobj hints hlen hg) λr s' hq=>?_)
 obtain⟨rfl,h2,h3,h4⟩:=hq
 exact{.inl {.bool true,.bool true,[],rfl,λ_=>rfl,.bool true,Dp l _,λ_=>{List.Pairwise.nil,λ_ hm=>(nomatch hm)}},h2,h3,h4}
section
variable{prog:Program}{w:QD}{A:QU}{E:Qt->Qw->Prop}{s:Qw}{K:Frag}
end
end Att
namespace L2
open PySem PySem.Spec PyProof.Rows
theorem wk:∀{vs:List Qt}{ns:List Int},SV vs ns->Wz (ns.map V.int) vs:=by
 intro vs ns h;induction h with
 |nil=>exact .nil
 |cons n t _ ih=>exact .cons ⟨t,rfl⟩ ih
def IT(H:Hp):Prop:=∀b,H b=Ww\/∃o xs,H b=Wv (.ā o (.lst xs))
theorem EV{P:Program}{w:QD}{K:Qx}{mg mb:Str->Option Qt}{CX:Ş}{k:Nat}{fa a:Qs}{fd:RJ}{x:Str}{sp:Sp}{s₁:Qw}{vs:List Qt}{ns:List Int}
  (KX:K.In s₁.heap) (hns:s₁.heap.Ns QI mg) (hb:s₁.heap.Ns TC mb) (hbb:∀x:Str,x≠"__name__"->mb x=RA x) (hlim:s₁.heap.NoLimit) (hg:s₁.gens=#[])
  (ha:s₁.heap.get? a=Wv { cls:=.type "list",data:=.seq vs.toArray }) (hi:SV vs ns) (hl:ns.length<=sizeLine) (hr:gp k Uq)
  (F:∀base:QN,K.In base->base.Ns QI mg->mC P w K mg base CX k fa fd [x] sp) (hbind:∀(s:Qw)(u:Qt),Uo s fd {[u],[]} [(x,u)])
  (ϖ:∀H:Hp,IT H->À K H a (ns.map V.int)->sp [.ref a] H (λv _=>v=.bl true) λ_ _ _=>False)
  (hCX:∀H e s',CX [] H s₁ (λ_ _ _=>False) e s'->False) :
  codeAny (QG P w) Uq (.call (.ref fa) {[.ref a],[]}) (λr s'=>r=.ok (.ret (.bool true))/\OldK s₁.heap s'.heap/\s'.os=s₁.os/\Te s'.gens) s₁:=by
 have rv:=wk hi
 have lenV:=hi.length
 have core:∀H:Hp,IT H->À K H a (ns.map V.int)->ý P w H s₁.heap->(∀b,H b≠Ww->b=a)->(H a≠Ww->K.lookup a=Ww)->
   codeAny (QG P w) Uq (.call (.ref fa) {[.ref a],[]}) (λr s'=>r=.ok (.ret (.bool true))/\OldK s₁.heap s'.heap/\s'.os=s₁.os/\Te s'.gens) s₁:=by
  intro H hO hS Æ hA hK
  have base_of:∀{b:Qs}{o:Obj},s₁.heap.get? b=Wv o->H b=Ww->(xD s₁.heap H).get? b=Wv o:=λe n=>Fb e n
  have noA:∀{b:Qs}{o:Obj}{es:Array Wh}{ep:Nat},s₁.heap.get? b=Wv o->o.data=.dict es ep->H b=Ww:=λ{b o es ep} e d=>by
   cases q:H b with
   |none=>rfl
   |some u=>
    have e':b=a:=hA b (by rw[q];simp);subst e';rw[ha]at e;cases e;have d':Data.seq vs.toArray _=Data.dict es ep:=d;cases d'
  have nsK:∀{b:Qs}{m:Str->Option Qt},s₁.heap.Ns b m->(xD s₁.heap H).Ns b m:=λ{b m} ⟨o,es,ep,e,d,r⟩=>{o,es,ep,base_of e (noA e d),d,r}
  have hKb:K.In (xD s₁.heap H):=λb o e=>base_of (KX b o e) (by
   cases q:H b with
   |none=>rfl
   |some u=>
    have e':b=a:=hA b (by rw[q];simp);subst e';rw[hK (by rw[q];simp)]at e;cases e)
  have hM:Mod K mg (xD s₁.heap H):={hKb,nsK hns,⟨mb,nsK hb,hbb⟩,let ⟨mc,h1,h2⟩:=hlim;⟨mc,nsK h1,h2⟩}
  have e0:Bf P w K mg (xD s₁.heap H) Uq [] s₁ H:={rfl,hM,λb o e=>HB e,Nat.le_of_eq (DY _ _),trivial,λb hb=>absurd (show b∈([]:List Qs)from hb) (by simp),Æ,.of_eq hg}
  refine So ((F _ hKb (nsK hns)).run Uq [] s₁ H {[.ref a],[]} [.ref a] [.ref a] _ _ hr e0 (hbind s₁ (.ref a)) (.cons rfl .nil) (ϖ H hO hS)) λr s' h=>?_
  cases r with
  |error e=>exact(hCX H e s' h).elim
  |ok fl=>
   cases fl with
   |next=>exact Rt h
   |brk=>exact Rt h
   |cont=>exact Rt h
   |ret u=>
    obtain⟨v,H',os,bare,un,hok',r',q⟩:=h
    have q':v=.bl true:=q
    subst q'
    obtain rfl:u=UJ true:=r'
    refine{rfl,OldK.of_keep λb o e=>?_,os,bare}
    cases q:H b with
    |none=>exact un.keep b o e q (by intro z;exact absurd (show b∈([]:List Qs)from z) (by simp)) (by simp)
    |some u=>
     rcases hO b with z|⟨ob,xs,z⟩
     ·rw[q]at z;cases z
     have z2:=un.sD b ob _ z
     obtain⟨e1,_⟩:=Æ b _ z
     obtain⟨e2,_⟩:=hok' b _ z2
     rw[e]at e1;cases e1
     exact e2
 cases hk:K.lookup a with
 |some o=>
  have e:=KX a o hk
  rw[ha]at e
  cases e
  refine core (λ_=>Ww) (λ_=>.inl rfl) (.inr {_,vs.toArray,_,hk,rfl,rfl,rfl,by rw[NV,lenV];exact hl,by simpa using rv}) (λb u z=>by have z':(Ww:Option HO)=Wv u:=z;cases z') (λb z=>absurd rfl z) λz=>absurd rfl z
 |none=>
  refine core (λb=>if b=a then Wv (.ā { cls:=.type "list",data:=.seq vs.toArray } (.lst (ns.map V.int)))else Ww) (λb=>?_) (.inl (.inr {{ cls:=.type "list",data:=.seq vs.toArray },if_pos rfl})) (λb u z=>?_) (λb z=>?_) λ_=>hk
  ·by_cases hb:b=a
   ·exact .inr {_,_,if_pos hb}
   exact .inl (if_neg hb)
  ·by_cases hb:b=a
   ·have z':=(if_pos hb).symm.trans z;cases z';subst hb;exact{ha,by rw[NH];exact hl,vs,_,rv,ha}
   have z':=(if_neg hb).symm.trans z;cases z'
  by_cases hb:b=a
  ·exact hb
  exact absurd (if_neg hb) z
theorem GG{l:Vj}{n k:Nat}{q:Program}{loose:List Str}{XP:(Str->Option Qt)->QN->Prop}{YP:QD->QN->Prop}{d:DefRec}{K:RE->Qx}{CX:QD->Ş}{sp:QD->Sp}{x:Str}
  (hn:l.most=Wv n) (Ν:n<=sizeLine) (hdf:d.params.defaults=[]) (hr:gp k Uq)
  (hY:∀(w:QD)(h:QN),YP w h->(K w.params).In h)
  (F:∀(w:QD)(mg:Str->Option Qt)(fa:Qs)(h:QN),(K w.params).In h->h.Ns QI mg->mg d.name=Wv (.ref fa)->
   ∃fd:RJ,(∀(s:Qw)(u:Qt),Uo s fd {[u],[]} [(x,u)])/\
    ∀base:QN,(K w.params).In base->base.Ns QI mg->mC l.prog w (K w.params) mg base (CX w) k fa fd [x] (sp w))
  (ϖ:∀(w:QD)(H:Hp)(a:Qs)(ns:List Int),ns.length<=n->IT H->À (K w.params) H a (ns.map V.int)->sp w [.ref a] H (λv _=>v=.bl true) λ_ _ _=>False)
  (hCX:∀(w:QD)(H:Hp)(s:Qw)(e:Qt)(s':Qw),CX w [] H s (λ_ _ _=>False) e s'->False) :
  W.WalkO q loose XP YP l.row.toRowW d [] (λf vs=>V2 f vs):=by
 refine Att.zA hn hdf λw s₀ s₁ mg mb fa o pm cd doc a vs ns G Y ho hd ņ hmg hobj hints hlen hg=>?_
 have KX:=hY w _ Y
 obtain⟨fd,hb,hF⟩:=F w mg fa _ KX G.T.g hmg
 exact EV KX G.T.g G.T.b G.T.builtins G.T.nolimit hg hobj hints (NU hlen Ν) hr hF hb (λH hO hS=>ϖ w H a ns hlen hO hS) λH e s'=>hCX w H s₁ e s'
abbrev Ō:Ş:=λ_ _ _ _ _ _=>False
abbrev E0:XK:=λ_ _ _=>False
theorem zp:WM Ō X E0:=λ_ _ _ _ _ _ _ h=>h.elim
structure Fun(K:Qx)(x qual:Str)(st:QL)(f:Qs)(fd:RJ):Prop where
 ex:∃(oc:Qt)(od:Option Qs)(kV doc pm:Qt)(an:Option Qs)(Ä ct:Qt)(ă:Array (Option Qt)),
  fd=Rp x qual (b9 st) (bK st) (aA st) .none kV doc pm an Ä ct/\K.lookup f=Wv ⟨oc,od,.func fd,ă⟩/\SI K Ä qual=true
 kp:RB K (.ref f)=true
section
variable{P:Program}{w:QD}{K:Qx}{mg:Str->Option Qt}{base:QN}
theorem Fun.ok{x qual:Str}{st:QL}{f:Qs}{fd:RJ}{N ps:List Str}{k:Nat}{sp:Sp}(F:Fun K x qual st f fd)(S:aH N ps (aA st))(len:∀vs H Q E,sp vs H Q E->vs.length=ps.length)
  (Ā:∀(Ä:Qt)(A:QU)(outer:List Env)(s:Qw)(H:Hp)(vs:List V)(Q:VK)(E:XK),gp k (A.deeper (Sq qual (aA st) s.heap.objs.size f Ä))->sp vs H Q E->
   ∃t,č (xh Ō P w K mg base N qual (aA st) f Ä A outer s H E).Ι (bK st) t/\t { nx:=λ_ H'=>Q .È H',rt:=Q } (WK N vs) H):mC P w K mg base Ō (k+1) f fd ps sp:=by
 obtain⟨oc,od,kV,doc,pm,an,Ä,ct,ă,rfl,lk,ņ⟩:=F.ex
 refine IC lk ņ S len λA outer s H vs Q E hr ϖ=>?_
 obtain⟨t,h,q⟩:=Ā Ä A outer s H vs Q E hr ϖ
 exact⟨t,h.Ι,q⟩
theorem Fun.binds{x qual:Str}{st:QL}{f:Qs}{fd:RJ}{ps:List Str}(F:Fun K x qual st f fd)
  (h:∀(kV doc pm:Qt)(an:Option Qs)(Ä ct:Qt)(us:List Qt),us.length=ps.length->bindArgs (Rp x qual (b9 st) (bK st) (aA st) .none kV doc pm an Ä ct) {us,[]}=pure (ps.zip us)):WE K fd ps []:=by
 obtain⟨oc,od,kV,doc,pm,an,Ä,ct,ă,rfl,lk,ņ⟩:=F.ex
 exact .all (h kV doc pm an Ä ct)
theorem xK{x qual:Str}{st:QL}{f:Qs}{oc:Qt}{od an:Option Qs}{ă:Array (Option Qt)}{kV doc pm Ä ct:Qt}(l:K.lookup f=Wv {oc,od,.func (Rp x qual (b9 st) (bK st) (aA st) .none kV doc pm an Ä ct),ă})
  (c:SI K Ä qual=true) (k:RB K (.ref f)=true):Fun K x qual st f (Rp x qual (b9 st) (bK st) (aA st) .none kV doc pm an Ä ct):={⟨oc,od,kV,doc,pm,an,Ä,ct,ă,rfl,l,c⟩,k}
end
theorem aL(h:n<=1000):n<sizeLine:=Pa h ∅
section
variable{X:Cx}
end
theorem aT{A á:Prop}(h:á):if false=true then A else á:=by
 rw[if_neg NT];exact h
theorem bo{A á:Prop}(h:A):if true=true then A else á:=by
 rw[if_pos rfl];exact h
theorem bg{c A á:Prop}[Decidable c](h1:c->A)(h2:¬ c->á):if c then A else á:=by
 by_cases h:c
 ·rw[if_pos h];exact h1 h
 rw[if_neg h];exact h2 h
def ai(H H':Hp):Prop:=∀b o,H b=Wv o->H' b=Wv o
theorem ai.refl(H:Hp):ai H H:=λ_ _ h=>h
theorem ai.trans(a:ai H H1)(b:ai H1 H2):ai H H2:=λc o h=>b c o (a c o h)
theorem ai.free(e:ai H H')(h:H' l=RC):H l=RC:=by
 cases q:H l with
 |none=>rfl
 |some o=>
  rw[e l o q]at h;cases h
theorem ai.seq{K:Qx}{H H':Hp}{a:Qs}{xs:List V}(e:ai H H')(h:À K H a xs):À K H' a xs:=by
 rcases h with(h|⟨o,h⟩)|h
 ·exact .inl (.inl (e _ _ h))
 ·exact .inl (.inr {o,e _ _ h})
 exact .inr h
theorem rX{α β:Type}{l:List α}{f:α->β->Sem (ForInStep β)}(g:β->α->β)(c:β)(h:∀x∈l,∀c,f x c=pure (.yield (g c x))) :
  forIn l c f=pure (l.foldl g c):=by
 induction l generalizing c with
 |nil=>rfl
 |cons x l ih=>
  rw[List.forIn_cons,h x NL,pure_bind]
  exact ih _ λy hy=>h y (NK _ hy)
def gP(env:Env)(cs:List (Str×Qs))(x:Str×RK):List (Str×Qs):=
 if x.2== .free then(x.1,(env.cells.lookup x.1).getD 0)::cs else cs
def uh(env:Env)(names:List (Str×RK)):List (Str×Qs):=names.foldl (gP env) []
theorem sM(h:∀x∈scope.names,x.2=.free->∃c,env.cells.lookup x.1=Wv c):closureFor scope env=pure (uh env scope.names):=by
 simp only[closureFor];rw[rX (gP env) [] (λx hx c=>by
  obtain⟨n,kind⟩:=x;cases hk:kind==Rf with
  |false=>simp only[gP,hk,Ox,if_false]
  |true=>
   obtain⟨a,ha⟩:=h (n,kind) hx (by simpa using hk);have ha':env.cells.lookup n=Wv a:=ha;simp only[gP,hk,if_true,cellOf,ha',Option.getD_some,pure_bind])]
 rfl
theorem vn:∀{names:List (Str×RK)}{cs:List (Str×Qs)}{n:Str}{c:Qs},(n,c)∈names.foldl (gP env) cs->(n,c)∈cs\/((n,Rf)∈names/\c=(env.cells.lookup n).getD 0)
 | [],_,_,_,h=>.inl h
 | (m,k)::r,cs,n,c,h=>by
  rcases vn (names:=r) (cs:=gP env cs (m,k)) h with h|⟨h,e⟩
  ·unfold gP at h;by_cases hk:(k==Rf)=true
   ·rw[if_pos hk]at h;rcases NJ.mp h with e|h
    ·cases e;have ϳ:k=.free:=by simpa using hk
     subst ϳ;exact .inr ⟨NL,rfl⟩
    exact .inl h
   rw[if_neg hk]at h;exact .inl h
  exact .inr {NK _ h,e}
theorem vZ:∀{names:List (Str×RK)}{cs:List (Str×Qs)},p∈cs->p∈names.foldl (gP env) cs
 | [],_,h=>h
 |x::r,cs,h=>vZ (names:=r) (cs:=gP env cs x) (by
  unfold gP;split
  ·exact NK _ h
  exact h)
theorem x9:∀{names:List (Str×RK)}{cs:List (Str×Qs)},(n,Rf)∈names->(n,(env.cells.lookup n).getD 0)∈names.foldl (gP env) cs
 |x::r,cs,h=>by
  rcases NJ.mp h with e|h
  ·subst e;refine vZ (names:=r) (cs:=gP env cs (n,.free)) ?_;unfold gP;rw[if_pos (by rfl)];exact NL
  exact x9 (names:=r) h
theorem ku{α:Type}:∀{l:List (Str×α)}{n:Str}{c:α},(n,c)∈l->∃c',l.lookup n=Wv c'
 | (k,v)::r,n,c,h=>by
  rw[OV];cases hb:n==k with
  |true=>exact⟨v,rfl⟩
  |false=>
   rcases NJ.mp h with e|h
   ·cases e;simp at hb
   exact ku h
theorem hZ:∀{names:List (Str×RK)}{k:Nat}{acc:List (Str×Qs)}{n:Str}{c:Qs},(n,c)∈Q5 k names acc->(n,c)∈acc\/(k<=c/\(n,QX)∈names)
 | [],_,_,_,_,h=>.inl h
 | (m,kd)::r,k,acc,n,c,h=>by
  unfold Q5 at h;by_cases hk:(kd==QX)=true
  ·rw[if_pos hk]at h;have ϳ:kd=.cell:=by simpa using hk
   subst ϳ;rcases hZ (names:=r) h with h|⟨h1,h2⟩
   ·rcases NJ.mp h with e|h
    ·cases e;exact .inr {NM _,NL}
    exact .inl h
   exact .inr {(),NK _ h2}
  rw[if_neg hk]at h;rcases hZ (names:=r) h with h|⟨h1,h2⟩
  ·exact .inl h
  exact .inr {h1,NK _ h2}
theorem j9:∀{names:List (Str×RK)}{k:Nat}{acc:List (Str×Qs)},(∀n c,(n,c)∈acc->c<k)->(∀n n' c,(n,c)∈acc->(n',c)∈acc->n=n')->
  ∀{n n':Str}{c:Qs},(n,c)∈Q5 k names acc->(n',c)∈Q5 k names acc->n=n'
 | [],_,_,_,hi,_,_,_,h,h'=>hi _ _ _ h h'
 | (m,kd)::r,k,acc,hl,hi,n,n',c,h,h'=>by
  unfold Q5 at h h';by_cases hk:(kd==QX)=true
  ·rw[if_pos hk]at h h';refine j9 (names:=r) (acc:=(m,k)::acc) (λa b Ρ=>?_) (λa a' b ha ha'=>?_) h h'
   ·rcases NJ.mp Ρ with e|e
    ·cases e;exact O5 _
    exact OS (hl _ _ e)
   rcases NJ.mp ha with e|e<;>rcases NJ.mp ha' with e'|e'
   ·cases e;cases e';rfl
   ·cases e;exact absurd (hl _ _ e') (Ol _)
   ·cases e';exact absurd (hl _ _ e) (Ol _)
   exact hi _ _ _ e e'
  rw[if_neg hk]at h h';exact j9 (names:=r) hl hi h h'
theorem je:∀{names:List (Str×RK)}{h:QN}{acc:List (Str×Qs)}{n:Str}{c:Qs},(n,c)∈Q5 h.objs.size names acc->(n,c)∈acc\/(SF h names).IsCell c Ww
 | [],_,_,_,_,q=>.inl q
 | (m,kd)::r,h,acc,n,c,q=>by
  unfold Q5 at q;unfold SF;by_cases hk:(kd==QX)=true
  ·rw[if_pos hk]at q;rw[if_pos hk];have e:h.objs.size+1=(h.push { cls:=.type "cell",data:=.cell Ww }).objs.size:=(Ro ..).symm;rw[e]at q;rcases je (names:=r) q with q|q
   ·rcases NJ.mp q with e'|q
    ·cases e';exact .inr {_,Sd r _ _ _ (QE _ rfl),rfl}
    exact .inl q
   exact .inr q
  rw[if_neg hk]at q;rw[if_neg hk];exact je (names:=r) q
theorem j2:∀{names:List (Str×RK)}{k:Nat}{acc:List (Str×Qs)},(x,QX)∉names->(Q5 k names acc).lookup x=acc.lookup x
 | [],_,_,_=>rfl
 | (m,kd)::r,k,acc,h=>by
  unfold Q5;have hr:(x,QX)∉r:=λz=>h (NK _ z);by_cases hk:(kd==QX)=true
  ·have ϳ:kd=.cell:=by simpa using hk
   subst ϳ;rw[if_pos hk,j2 hr,OV];have ne:(x==m)=false:=by
    cases hb:x==m with
    |false=>rfl
    |true=>exact absurd (by rw[beq_iff_eq.mp hb];exact NL) h
   rw[ne]
  rw[if_neg hk];exact j2 hr
section
variable{M:Model}{A:QU}{E:Qt->Qw->Prop}{s:Qw}
theorem yH
  (h:Q (newEnv scope s.heap.objs.size globals (Q5 (s.heap.objs.size+1) scope.names cl) qual Ww .none (Wv Ij) TC) { s with heap:=SF (s.heap.push { cls:=.type "dict",data:=.dict #[] }) scope.names }) :
  wpAny M A (V3 scope globals cl [] qual Ww .none (Wv Ij)) Q E s:=by
 simp only[V3,UT,if_true]
 refine Qr (wpAny_alloc ?_)
 refine Qr (wpAny_layCells _ (λname kind cells=>by cases hkc:kind==QX<;>simp[hkc]) _ _ _ _ ?_)
 rw[show({ s with heap:=s.heap.push { cls:=.type "dict",data:=.dict #[] } }:Qw).heap.objs.size=s.heap.objs.size+1 from Ro ..]
 refine Qr ?_
 rw[List.forIn_nil]
 exact Qu (Qu h)
end
structure CB where
 C:Qs
 ex:List Qs
 s:Qw
 H:Hp
def Ę(X:Cx)(N:List Str)(scope:S3)(b:CB):Cx:={ X with
 N:=N
 s₀:=b.s
 H₀:=b.H
 env:=compEnvC scope (Q5 (b.C+1) scope.names (uh X.env scope.names)) b.C X.env
 outer:=X.stack
 ex:=b.ex
 fn:=λx=>scope.names.lookup x==Wv .cell
 pn:=[]
 xe:=λ_ _=>False }
theorem mT{env:Env}{x:Str}:∀{names:List (Str×RK)},
  (names.map λ(n,k)=>if(k==Rf&&env.scope.kind== .function&&env.kindOf n==Wv .cell)then(n,QX)else(n,k)).lookup x=
   (names.lookup x).map λk=>if(k==Rf&&env.scope.kind== .function&&env.kindOf x==Wv .cell)then QX else k
 | []=>rfl
 | (n,k)::r=>by
  have ih:=@mT env x r;show RU x ((if(k==Rf&&env.scope.kind== .function&&env.kindOf n==Wv .cell)=true then(n,QX)else(n,k))::_)=_;cases hx:x==n with
  |true=>
   have e:x=n:=beq_iff_eq.mp hx;subst e;by_cases hc:(k==Rf&&env.scope.kind== .function&&env.kindOf x==Wv .cell)=true
   ·rw[if_pos hc];simp only[OV,hx,OH,hc,if_true]
   rw[if_neg hc];simp only[OV,hx,OH];rw[if_neg hc]
  |false=>
   by_cases hc:(k==Rf&&env.scope.kind== .function&&env.kindOf n==Wv .cell)=true
   ·rw[if_pos hc];simp only[OV,hx];exact ih
   rw[if_neg hc];simp only[OV,hx];exact ih
structure cN(psc:S3)(PN N:List Str)(own:Nat)(fr:List Nat)(scope:S3):Prop where
 kind:scope.kind=.function
 nd:(scope.names.map (·.1)).Nodup
 free:∀x∈scope.names,x.2=.free->psc.names.lookup x.1=Wv .cell\/psc.names.lookup x.1=Wv .free
 len:N.length=own+fr.length
 frn:∀i,i<fr.length->N[own+i]?=(fr[i]?).bind λj=>PN[j]?
 frk:∀i,i<fr.length->∀y,N[own+i]?=Wv y->scope.names.lookup y=Wv .free
def CN(psc:S3)(PN N:List Str)(own:Nat)(fr:List Nat)(scope:S3):Bool:=
 scope.kind== .function&&decide (scope.names.map (·.1)).Nodup&&scope.names.all (λx=>x.2 != .free||(psc.names.lookup x.1==Wv .cell||psc.names.lookup x.1==Wv .free))&&
  (N.length==own+fr.length)&&((fr.map λj=>PN[j]?)==(N.drop own).map Wv)&&(N.drop own).all (λy=>scope.names.lookup y==Wv .free)
theorem cN.of(h:CN psc PN N own fr scope=true):cN psc PN N own fr scope:=by
 unfold CN at h;simp only[O6]at h;obtain⟨⟨⟨⟨⟨h1,h2⟩,h3⟩,h4⟩,h5⟩,h6⟩:=h;have h4':N.length=own+fr.length:=eq_of_beq h4;have h5':(fr.map λj=>PN[j]?)=(N.drop own).map Wv:=eq_of_beq h5;have dr:∀i,N[own+i]?=(N.drop own)[i]?:=λi=>by rw[List.getElem?_drop]
 refine{eq_of_beq h1,of_decide_eq_true h2,λx hx hk=>?_,h4',λi hi=>?_,λi hi y hy=>?_}
 ·have q:=O7.mp h3 x hx;rw[hk]at q;simpa using q
 ·have q:=congrArg (λl=>l[i]?) h5';simp only[NX]at q;rw[dr];have ej:fr[i]?=Wv fr[i]:=NN hi;rw[ej]at q⊢;cases e:(N.drop own)[i]? with
  |none=>rw[e]at q;cases q
  |some y=>
   rw[e]at q;exact(QB q).symm
 rw[dr]at hy;have q:=O7.mp h6 y (NO hy);simpa using q
def Χ(own:Nat)(fr:List Nat)(B:St):St:=QH own Ww++fr.map λj=>(B[j]?).getD Ww
theorem iK{α:Type}:∀{l:List (Str×α)}{n:Str}{k:α},(l.map (·.1)).Nodup->(n,k)∈l->l.lookup n=Wv k
 | (m,v)::r,n,k,nd,h=>by
  rw[N9,Oq]at nd;rw[OV];rcases NJ.mp h with e|h
  ·cases e;simp
  have ne:(n==m)=false:=by
   cases hb:n==m with
   |false=>rfl
   |true=>exact absurd (N4.mpr {(n,k),h,beq_iff_eq.mp hb}) nd.1
  rw[ne];exact iK nd.2 h
section
variable{X:Cx}{pins:List (Qs×Obj)}{B:St}{H:Hp}{s:Qw}{N:List Str}{own:Nat}{fr:List Nat}{scope:S3}
theorem cN.cells(S:cN X.env.scope X.N N own fr scope)(ok:X.Ok):∀x∈scope.names,x.2=.free->∃c,X.env.cells.lookup x.1=Wv c:=λx hx hk=>
 ok.has x.1 (S.free x hx hk)
theorem cN.cl(S:cN X.env.scope X.N N own fr scope)(ok:X.Ok)(h:(n,c)∈uh X.env scope.names):X.env.cells.lookup n=Wv c:=by
 rcases vn h with h|⟨h,e⟩
 ·cases h
 obtain⟨c',e'⟩:=S.cells ok (n,.free) h rfl;have e2:X.env.cells.lookup n=Wv c':=e';rw[e2]at e;rw[e,e2];rfl
theorem Ff(S:cN X.env.scope X.N N own fr scope)(I:Inv X pins B H s)(hD:D=s.heap.objs.size)(hC:C=s.heap.objs.size+1)
  (hh:h'=SF ((s.heap.push { cls:=.type "list",data:=.seq #[] }).push { cls:=.type "dict",data:=.dict #[] }) scope.names) (hfp:∀b∈fp,vb X pins H b) (í:∀b∈fp,b<s.heap.objs.size) :
  Inv (Ę X N scope ⟨C,fp,s,H⟩) [] (Χ own fr B) (upd H D (.lst [])) { s with heap:=h' }:=by
 subst hD hC
 have eD:(s.heap.push { cls:=.type "list",data:=.seq #[] }).objs.size=s.heap.objs.size+1:=Ro ..
 have eC:((s.heap.push { cls:=.type "list",data:=.seq #[] }).push { cls:=.type "dict",data:=.dict #[] }).objs.size=s.heap.objs.size+2:=by rw[Ro,eD]
 have keep:∀b o,s.heap.get? b=Wv o->h'.get? b=Wv o:=λb o e=>by
  rw[hh];exact Sd _ _ _ _ (Qv _ (Qv _ e))
 have lst:h'.get? s.heap.objs.size=Wv { cls:=.type "list",data:=.seq #[] }:=by
  rw[hh];exact Sd _ _ _ _ (Qv _ (QE _ rfl))
 have dct:h'.get? (s.heap.objs.size+1)=Wv { cls:=.type "dict",data:=.dict #[] }:=by
  rw[hh];refine Sd _ _ _ _ ?_;have:=QE (s.heap.push { cls:=.type "list",data:=.seq #[] }) (o:={ cls:=.type "dict",data:=.dict #[] }) rfl;rw[eD]at this;exact this
 have hnD:H s.heap.objs.size=Ww:=I.Æ.fresh (NM _)
 have hnC:H (s.heap.objs.size+1)=Ww:=I.Æ.fresh (OZ _)
 have ŏ:∀{n:Str}{c:Qs},(n,c)∈uh X.env scope.names->X.env.cells.lookup n=Wv c:=λh=>S.cl I.ok h
 have clt:∀{n:Str}{c:Qs},X.env.cells.lookup n=Wv c->c<s.heap.objs.size:=λh=>by
  obtain⟨v,z⟩:=I.cell _ _ h;exact z.lt
 have cases_:∀{n:Str}{c:Qs},(Q5 (s.heap.objs.size+1+1) scope.names (uh X.env scope.names)).lookup n=Wv c->X.env.cells.lookup n=Wv c\/(s.heap.objs.size+2<=c/\(n,QX)∈scope.names/\h'.IsCell c Ww):=λ{n c} h=>by
  have hm:=QM h;have ÿ:=hm;rw[show s.heap.objs.size+1+1=((s.heap.push { cls:=.type "list",data:=.seq #[] }).push { cls:=.type "dict",data:=.dict #[] }).objs.size from eC.symm]at ÿ;rcases hZ hm with h1|⟨h1,h2⟩
  ·exact .inl (ŏ h1)
  rcases je ÿ with h3|h3
  ·exact .inl (ŏ h3)
  exact .inr {h1,h2,by rw[hh];exact h3}
 have kindOf:∀x,(Ę X N scope {s.heap.objs.size+1,fp,s,H}).env.kindOf x=(scope.names.lookup x).map λk=>if(k==Rf&&X.env.scope.kind== .function&&X.env.kindOf x==Wv .cell)then QX else k:=λx=>mT
 have ϶:∀x,((Ę X N scope {s.heap.objs.size+1,fp,s,H}).env.kindOf x=Wv .cell\/(Ę X N scope {s.heap.objs.size+1,fp,s,H}).env.kindOf x=Wv .free)->∃c,(Q5 (s.heap.objs.size+1+1) scope.names (uh X.env scope.names)).lookup x=Wv c:=λx hx=>by
  rw[kindOf]at hx;have h2:scope.names.lookup x=Wv .cell\/scope.names.lookup x=Wv .free:=by
   cases e:scope.names.lookup x with
   |none=>rw[e]at hx;rcases hx with z|z<;>cases z
   |some k=>
    rw[e]at hx;by_cases hk:k=.free
    ·exact .inr (by rw[hk])
    have ϳ:(k==Rf)=false:=by simpa using hk
    simp only[OH,ϳ,VR,Ox,if_false]at hx;rcases hx with z|z
    ·exact .inl z
    exact .inr z
  rcases h2 with h2|h2
  ·exact OO.mp (SD scope.names _ _ (.inl h2))
  obtain⟨c,hc⟩:=ku (x9 (env:=X.env) (cs:=[]) (QM h2));exact OO.mp (SD scope.names _ _ (.inr (by rw[show(uh X.env scope.names).lookup x=Wv c from hc];rfl)))
 have cellAt:∀x c,(Q5 (s.heap.objs.size+1+1) scope.names (uh X.env scope.names)).lookup x=Wv c->∃v,h'.IsCell c v:=λx c e=>by
  rcases cases_ e with q|⟨_,_,q⟩
  ·obtain⟨v,o,ho,hd⟩:=I.cell x c q;exact⟨v,o,keep c o ho,hd⟩
  exact⟨Ww,q⟩
 refine⟨{I.ok.mod,S.kind,I.ok.glob,I.ok.blt,OZ _,λy z c h1 h2=>?_,϶,λy c hy h=>?_,I.ok.hd,I.ok.frames,.inl rfl,λb hb=>{?_,λx c e z=>?_},λb o e=>I.bs b o e,NU I.ok.Ζ I.sz,λb o e hb=>?_,λb hb hf=>?_,I.stack,I.Cf},
  rfl,I.bare,?_,{λ_=>Ww,{_,#[],_,dct,rfl,λe he=>absurd he (by simp),λ_=>rfl},λi x v h1 h2 h3=>?_},cellAt,?_,λx c e=>?_,λp hp=>absurd (show p∈([]:List (Qs×Obj))from hp) (by simp),?_,?_⟩
 ·
  refine j9 (λn c hm=>?_) (λn n' c hm hm'=>I.ok.inj n n' c (ŏ hm) (ŏ hm')) (QM h1) (QM h2);exact OS (OS (clt (ŏ hm)))
 ·
  have hy':scope.names.lookup y=Wv .cell:=by simpa using (show(scope.names.lookup y==Wv .cell)=true from hy)
  rcases cases_ h with q|⟨q,_⟩
  ·rcases hZ (QM h)with q2|⟨q2,_⟩
   ·rcases vn q2 with z|⟨z,_⟩
    ·cases z
    have:=iK S.nd z;rw[hy']at this;cases this
   exact NU (OK _ 2) q2
  exact NU (OK _ 2) q
 ·exact Of (OS (í b hb))
 ·rcases cases_ e with q|⟨q,_⟩
  ·exact(hfp b hb).2.2.2.2.1 x c q z
  have hb':=í b hb;rw[<-z]at hb';exact absurd (Oa hb' (NU (OK _ 2) q)) (Ol _)
 ·rcases(hfp b hb).2.2.2.1 with z|z
  ·exact I.ok.Ei b o e z
  exact Ol _ (Oa (QF e) (NU I.ok.Ζ z))
 ·rcases NJ.mp (I.BF b hf)with z|z
  ·exact(hfp b hb).2.1 z
  exact(hfp b hb).2.2.1 z
 ·exact Un.laid keep (NM _) hnD
 ·
  have h1:N[i]?=Wv x:=h1;have hlen:i<N.length:=(NW.mp h1).1;by_cases hi:i<own
  ·exfalso;have h2':(Χ own fr B)[i]?=Wv Ww:=by
    unfold Χ;rw[ON (by simpa using hi),Tu,if_pos hi]
   rw[h2']at h2;cases h2
  have hfi:i-own<fr.length:=by have:=S.len;lia
  have ei:own+(i-own)=i:=()
  have hk:=S.frk (i-own) hfi x (by rw[ei];exact h1);have hn:=S.frn (i-own) hfi;rw[ei,h1]at hn;have ej:fr[i-own]?=Wv fr[i-own]:=NN hfi;rw[ej]at hn;have hn':X.N[fr[i-own]]?=Wv x:=hn.symm;have h2':(Χ own fr B)[i]?=Wv ((B[fr[i-own]]?).getD Ww):=by
   unfold Χ;rw[OJ (by simpa using Nat.not_lt.mp hi),OB,NX,ej];rfl
  rw[h2']at h2;have ϸ:(B[fr[i-own]]?).getD Ww=Wv v:=QB h2;have hσ:B[fr[i-own]]?=Wv (Wv v):=by
   cases e:B[fr[i-own]]? with
   |none=>rw[e]at ϸ;cases ϸ
   |some w=>rw[e]at ϸ;exact congrArg Wv ϸ
  obtain⟨m,hm,hl⟩:=I.loc;have Ĵ:=S.free (x,.free) (QM hk) rfl;obtain⟨u,r,l⟩:=hl _ x v hn' hσ (Ĵ.elim (λz=>.inr (.inl z)) λz=>.inr (.inr z));refine{u,r,.inr ?_};have ÿ:∃c,X.env.cells.lookup x=Wv c/\s.heap.IsCell c (Wv u):=by
   rcases l with⟨l,_⟩|⟨_,c,e,z⟩
   ·exfalso;rcases Ĵ with z|z
    ·have l':X.env.scope.names.lookup x=Wv .local:=l
     have z':X.env.scope.names.lookup x=Wv .cell:=z;rw[l']at z';cases z'
    have l':X.env.scope.names.lookup x=Wv .local:=l
    have z':X.env.scope.names.lookup x=Wv .free:=z;rw[l']at z';cases z'
   exact⟨c,e,z⟩
  obtain⟨c,e,o,ho,hd⟩:=ÿ;refine{?_,c,?_,o,keep c o ho,hd}
  ·rw[kindOf,hk];by_cases z:(X.env.scope.kind== .function&&X.env.kindOf x==Wv .cell)=true
   ·left
    simp only[OH,beq_self_eq_true,Bool.true_and,z,if_true]
   right
   simp only[OH,beq_self_eq_true,Bool.true_and];rw[if_neg z]
  show(Q5 (s.heap.objs.size+1+1) scope.names (uh X.env scope.names)).lookup x=Wv c;rw[j2 λz=>by
   have:=iK S.nd z;rw[hk]at this;cases this]
  obtain⟨c',hc'⟩:=ku (x9 (env:=X.env) (cs:=[]) (QM hk));have ϵ:(uh X.env scope.names).lookup x=Wv c':=hc';rw[ϵ];have:=ŏ (QM ϵ);rw[e]at this;exact this.symm
 ·show upd H s.heap.objs.size (.lst []) (s.heap.objs.size+1)=Ww;rw[aR (O4 (O5 _))];exact hnC
 ·rcases cases_ e with q|⟨q,_⟩
  ·have:=clt q;rw[aR (Of this)];exact I.kW x c q
  rw[aR (O4 (Oa (Nat.lt_add_of_pos_right ∅) q))];exact I.Æ.fresh (NU (OK _ 2) q)
 ·exact I.Æ.laid keep (NM _) {NS _,[],0,.nil,lst}
 show(Χ own fr B).length=N.length
 unfold Χ
 rw[NG,OB,NH,S.len]
end
def PF(X:Cx)(ifs:List Expr)(t:TT):Prop:=
 ∀(pins:List (Qs×Obj))(s:Qw)(B:St)(H:Hp)(Q:Bool->Hp->Prop),Inv X pins B H s->t B H Q->
  wpAny (QG X.prog X.w) X.A (forIn ifs true λc r=>if r=true then do let ok<-isTrue c X.env (QV c X.env);pure (SN ok)else pure (SN r)) (TP X pins B Q) X.xe s
def Ml:TT:=λ_ H Q=>Q true H
theorem gW:PF X [] Ml:=λ_ _ _ H _ I h=>wpAny_tests_nil ⟨H,I,h⟩
theorem Bm(h:PT X c t):PF X [c] t:=λpins s B H Q I hw=>wpAny_tests_one (h pins s B H Q I hw)
theorem yb(I:Nat->Qw->Prop)
  (turn:∀n s,I n s->wpAny (QG prog w) A (T9 it) (λr s₁=>match r with
   |none=>R (.ok .next) s₁
   |some v=>wpAny (QG prog w) A (SM target it v) (λ_ s₁'=>wpAny (QG prog w) A (assign target env v) (λ_ s₂=>
     wpAny (QG prog w) A (forIn ifs true λc r=>if r=true then do let ok<-isTrue c env (QV c env);pure (SN ok)else pure (SN r)) (λok s₃=>
      if ok=true then wpAny (QG prog w) A (QV elt env) (λx s₄=>
       wpAny (QG prog w) A (call (.builtin "list.append") [acc,x]) (λ_ s₅=>∃m,m<n/\I m s₅) (λ_ _=>False) s₄) (λ_ _=>False) s₃
      else ∃m,m<n/\I m s₃) (λ_ _=>False) s₂) (λ_ _=>False) s₁') (λ_ _=>False) s₁) (λ_ _=>False) s)
  (n:Nat) (h:I n s) :
  codeAny (QG prog w) A (.compLoop (.ListComp elt [⟨target,iter,ifs,0⟩] scope pos) 0 it acc env) R s:=by
 refine codeAny_loop rfl I (λn s hI=>?_) n h
 show wpAny _ A ((compTurn (.ListComp elt [⟨target,iter,ifs,0⟩] scope pos) 0 it acc env).onRaise (λx=>do noteFrame x env;theTreesLotGoes x)) _ _ s
 refine wpAny_noted ?_
 rw[compTurn_list]
 have no:∀{α:Type}{t:Sem α}{Q:α->Qw->Prop}{E':Qt->Qw->Prop}{s':Qw},wpAny (QG prog w) A t Q (λ_ _=>False) s'->wpAny (QG prog w) A t Q E' s':=λh=>RF h (λ_ _ q=>q) λ_ _ z=>z.elim
 refine Qr (UB (Qr (no (RF (turn n s hI) (λr s₁ h₁=>?_) λ_ _ h'=>h'))))
 cases r with
 |none=>exact Qu h₁
 |some v=>
  refine Qr (no (RF h₁ (λ_ s₁' h₁'=>?_) λ_ _ h'=>h'))
  refine Qr (no (RF h₁' (λ_ s₂ h₂=>Qr (no (RF h₂ (λok s₃ h₃=>?_) λ_ _ h'=>h'))) λ_ _ h'=>h'))
  cases ok with
  |false=>exact Qu ⟨rfl,h₃⟩
  |true=>
   exact Qr (Qr (no (RF h₃ (λx s₄ h₄=>Qr (no (RF h₄ (λ_ s₅ h₅=>Qu (Qu ⟨rfl,h₅⟩)) λ_ _ h'=>h'))) λ_ _ h'=>h')))
structure x6(J:It)(own:Nat)(fr:List Nat)(g:CB->TG)(tf:CB->TT)(te:CB->TE)(Q:VK)(B:St)(H1:Hp):Prop where
 go:∀(b:CB)(D:Qs),H1 D=Ww->∃W:Nat->Nat->St->Hp->Prop,(∃m,W 0 m (Χ own fr B) (upd H1 D (.lst [])))/\∀i m B' H',W i m B' H'->
  (J.stop i H'/\Q (.ref D) H')\/(J.go i H'/\∃M:St->Hp->Prop,(∀σ2 H2,M σ2 H2->∃m',m'<m/\W (i+1) m' σ2 H2)/\∀x H2,J.ύ i H' x H2->g b x B' H2 λσ3 H3=>tf b σ3 H3 λk H4=>
   if k=true then te b σ3 H4 λy H5=>∃ys,H5 D=Wv (.lst ys)/\ys.length<sizeLine/\M σ3 (upd H5 D (.lst (ys++[y])))else M σ3 H4)
def FX(wi:TI)(own:Nat)(fr:List Nat)(g:CB->TG)(tf:CB->TT)(te:CB->TE):TE:=λB H Q=>wi B H λJ H1=>x6 J own fr g tf te Q B H1
section
variable{X:Cx}{tg iter elt:Expr}{ifs:List Expr}{scope:S3}{pos:Pos}{N:List Str}{own:Nat}{fr:List Nat}{wi:TI}{g:CB->TG}{tf:CB->TT}{te:CB->TE}
theorem yV(S:cN X.env.scope X.N N own fr scope)(hc:X.calm=true)(hi:PI X tg iter wi)
  (hg:∀b,PG (Ę X N scope b) tg (g b)) (hf:∀b,PF (Ę X N scope b) ifs (tf b)) (he:∀b,PE (Ę X N scope b) elt (te b)) (hs:∀x,foldedSetIterable iter X.env x=pure x) (I:Inv X pins B H s) (h:FX wi own fr g tf te B H Q)
  (fin:∀(D C:Qs)(oC:Obj)(m:Str->Option Qt)(H':Hp)(s':Qw),Inv X (pins++[(C,oC)]) B H' s'->X.s₀.heap.objs.size<=C->(∀p∈X.pn++pins,p.1≠C)->(∀h':QN,h'.get? C=Wv oC->h'.Ns C m)->Q (.ref D) H'->V4 (QG X.prog X.w) X.A X.xe use R (.ref D) C (.ok .next) s') :
  wpAny (QG X.prog X.w) X.A (comprehension (.ListComp elt [⟨tg,iter,ifs,0⟩] scope pos) scope X.env (firstIterPos [⟨tg,iter,ifs,0⟩] pos) (newList []) false (QV iter X.env) use) R X.xe s:=by
 refine wpAny_comprehension_free rfl hs (sM (S.cells I.ok)) S.kind (λx hx hk=>?_) (Ï (hi pins s B H _ I h) λv s1 h1=>Ï h1 λitv s2 h2=>?_)
 ·have:=iK S.nd (show(x.1,x.2)∈scope.names from hx);rw[this,hk]
 obtain⟨it,fp,tn,J,H2,e,I2,T,st2,f2,q⟩:=h2
 subst e
 refine QP ?_
 refine yH ?_
 have eD:(s2.heap.push { cls:=.type "list",data:=.seq #[] }).objs.size=s2.heap.objs.size+1:=Ro ..
 have hD:H2 s2.heap.objs.size=Ww:=I2.Æ.fresh (NM _)
 have í:∀b∈fp,b<s2.heap.objs.size:=λb hb=>by
  obtain⟨o,ho,_⟩:=T.obj 0 _ st2 b hb;exact QF ho
 obtain⟨W,⟨m0,w0⟩,turn⟩:=q.go {s2.heap.objs.size+1,fp,s2,H2} s2.heap.objs.size hD
 have IX:=Ff (fp:=fp) S I2 rfl rfl rfl f2 í
 have st4:tn 0 (SF ((s2.heap.push { cls:=.type "list",data:=.seq #[] }).push { cls:=.type "dict",data:=.dict #[] }) scope.names):=
  T.keep 0 _ _ st2 λb _ o e=>Sd _ _ _ _ (Qv _ (Qv _ e))
 have fr0:∀b∈fp,upd H2 s2.heap.objs.size (.lst []) b=Ww:=λb hb=>by
  rw[aR (Of (í b hb))];exact(f2 b hb).1
 have Γ:∀b∈fp,∀x c,(Ę X N scope {s2.heap.objs.size+1,fp,s2,H2}).env.cells.lookup x=Wv c->c≠b:=λb hb=>((IX.ok.exf b hb).2)
 have Ļ:∀{H':Hp},(∀b∈fp,H' b=Ww)->∀b∈fp,vb (Ę X N scope {s2.heap.objs.size+1,fp,s2,H2}) [] H' b:=λhn b hb=>
  {hn b hb,(IX.ok.exf b hb).1,IX.ok.Eo b hb,.inl hb,Γ b hb,λp hp=>absurd (show p∈([]:List (Qs×Obj))from hp) (by simp)}
 have e4:∀Ε:Env,Ε=newEnv scope (s2.heap.push { cls:=.type "list",data:=.seq #[] }).objs.size X.env.globals (Q5 ((s2.heap.push { cls:=.type "list",data:=.seq #[] }).objs.size+1) scope.names (uh X.env scope.names)) X.env.qual Ww .none (Wv X.env) TC->
   ({ Ε with scope:=relabel scope X.env }:Env)=(Ę X N scope ⟨s2.heap.objs.size+1,fp,s2,H2⟩).env/\Ε.locals=s2.heap.objs.size+1:=λΕ e=>by
  subst e
  rw[eD]
  exact⟨rfl,rfl⟩
 obtain⟨e5,e6⟩:=e4 _ rfl
 have loop:codeAny (QG X.prog X.w) X.A (.compLoop (.ListComp elt [⟨tg,iter,ifs,0⟩] scope pos) 0 (.ref it) (.ref s2.heap.objs.size) (Ę X N scope {s2.heap.objs.size+1,fp,s2,H2}).env)
   (V4 (QG X.prog X.w) X.A X.xe use R (.ref s2.heap.objs.size) (s2.heap.objs.size+1)) { s2 with heap:=SF ((s2.heap.push { cls:=.type "list",data:=.seq #[] }).push { cls:=.type "dict",data:=.dict #[] }) scope.names }:=by
  refine yb (λn s'=>∃i B' H',Inv (Ę X N scope {s2.heap.objs.size+1,fp,s2,H2}) [] B' H' s'/\tn i s'.heap/\(∀b∈fp,H' b=Ww)/\W i n B' H') ?_ m0 {0,_,_,IX,st4,fr0,w0}
  rintro n s5 ⟨i,σ5,H5,I5,ď,fr5,w5⟩
  rcases turn i n σ5 H5 w5 with⟨stop,qn⟩|⟨go,M,hM,step⟩
  ·refine Ï (T.done (Ę X N scope {s2.heap.objs.size+1,fp,s2,H2}) rfl rfl rfl hc i [] s5 σ5 H5 (λ_ _=>False) I5 (Ļ fr5) ď stop) λr s6 z9=>?_;obtain⟨hr,I6⟩:=z9;subst hr;obtain⟨m,hn,_⟩:=I6.loc;obtain⟨oC,es,ep,hoC,hd,hk,hm⟩:=id hn;have IB:Inv X pins B H5 s6:=I2.Ms (ch:=fp) I6.os I6.base I6.Æ I6.bare λb hb=>{(f2 b hb).2.2.2.1,(f2 b hb).2.1,(f2 b hb).2.2.2.2.1,(f2 b hb).2.2.2.2.2};have young:s2.heap.objs.size<=s2.heap.objs.size+1:=OZ _;refine fin s2.heap.objs.size (s2.heap.objs.size+1) oC m H5 s6 (IB.yk λp hp=>?_) (NU I2.sz young) (λp hp=>Of (Oa (QF (I2.pin p hp).1) young)) (λh' e=>⟨oC,es,ep,e,hd,hk,hm⟩) qn;rcases NQ.mp hp with z|z
   ·exact IB.pin p (NR _ z)
   have ů:p=(s2.heap.objs.size+1,oC):=by simpa using z
   subst ů;exact{hoC,I6.free,O4 (Oa I2.lt young),I2.Mh young,λv z=>by rw[hd]at z;cases z}
  refine Ï (T.item (Ę X N scope {s2.heap.objs.size+1,fp,s2,H2}) rfl rfl rfl hc i [] s5 σ5 H5 (λ_ _=>False) I5 (Ļ fr5) ď go) λr s6 z9=>?_;obtain⟨u,hr,h6⟩:=z9
  subst hr
  refine Ï h6 λ_ s7 z9=>?_;obtain⟨x,H7,I7,r7,y7,Ø,fr7⟩:=z9
  have I7':=I7.pinned (Ļ fr7) (T.obj _ _ Ø)
  refine Ï (hg _ _ s7 σ5 H7 x u _ I7' r7 (step x H7 y7)) λ_ s8 z9=>?_;obtain⟨σ8,H8,I8,q8⟩:=z9
  refine Ï (hf _ _ s8 σ8 H8 _ I8 q8) λk s9 z9=>?_;obtain⟨H9,I9,q9⟩:=z9
  have again:∀{ŋ:Hp}{ē:Qw},Inv (Ę X N scope {s2.heap.objs.size+1,fp,s2,H2}) ([]++u7 fp s7.heap) σ8 ŋ ē->M σ8 ŋ->
    ∃m,m<n/\∃i B' H',Inv (Ę X N scope {s2.heap.objs.size+1,fp,s2,H2}) [] B' H' ē/\tn i ē.heap/\(∀b∈fp,H' b=Ww)/\W i m B' H':=λ{ŋ ē} I10 q10=>by
   obtain⟨m',hm,w10⟩:=hM σ8 ŋ q10
   refine{m',hm,i+1,σ8,ŋ,I10.nF,T.keep _ _ _ Ø λb hb o e=>(I10.pin (b,o) (NR _ (NR _ (lJ hb e)))).1,λb hb=>?_,w10}
   obtain⟨o,e,d⟩:=T.obj _ _ Ø b hb
   exact(I10.pin (b,o) (NR _ (NR _ (lJ hb e)))).2.1
  cases k with
  |false=>exact again I9 q9
  |true=>
   refine Ï (he _ _ s9 σ8 H9 _ I9 q9) λw10 ē z9=>?_;obtain⟨y,ŋ,I10,r10,ys,hys,hz,q10⟩:=z9
   refine Ï (wJ _ ē σ8 ŋ (.ref s2.heap.objs.size) [y] (.ref s2.heap.objs.size) [w10] (λ_ H'=>M σ8 H') I10 rfl (.cons r10 .nil) {_,ys,y,rfl,rfl,hys,hz,q10}) λ_ Ī z9=>?_;obtain⟨_,ϋ,I11,_,q11⟩:=z9
   exact again I11 q11
 have go:codeAny (QG X.prog X.w) X.A (.compStart (.ListComp elt [⟨tg,iter,ifs,0⟩] scope pos) 0 (.ref it) (.ref s2.heap.objs.size) (Ę X N scope {s2.heap.objs.size+1,fp,s2,H2}).env)
   (V4 (QG X.prog X.w) X.A X.xe use R (.ref s2.heap.objs.size) (s2.heap.objs.size+1)) { s2 with heap:=SF ((s2.heap.push { cls:=.type "list",data:=.seq #[] }).push { cls:=.type "dict",data:=.dict #[] }) scope.names }:=
  codeAny_compStart_list loop (T.self _ 0 _ _ _ st4 loop)
 have ϻ:∀(env':Env)(L:Qs),env'=(Ę X N scope {s2.heap.objs.size+1,fp,s2,H2}).env->L=s2.heap.objs.size+1->
   codeAny (QG X.prog X.w) X.A (.compStart (.ListComp elt [⟨tg,iter,ifs,0⟩] scope pos) 0 (.ref it) (.ref s2.heap.objs.size) env') (V4 (QG X.prog X.w) X.A X.xe use R (.ref s2.heap.objs.size) L)
    { s2 with heap:=SF ((s2.heap.push { cls:=.type "list",data:=.seq #[] }).push { cls:=.type "dict",data:=.dict #[] }) scope.names }:=by
  intro env' L h1 h2
  subst h1 h2
  exact go
 exact ϻ _ _ e5 e6
theorem wU(I:Inv X (pins++[(C,oC)]) B' H' s')(hy:X.s₀.heap.objs.size<=C)(hp:∀p∈X.pn++pins,p.1≠C)(sb:RQ C s'.heap h') :
  Inv X pins B' H' { s' with heap:=h' }:=by
 have pC:=I.pin (C,oC) (NR _ (NR _ (by simp)))
 have I2:Inv X pins B' H' s':=I.nF
 refine I2.turned (it:=C) (t':=s'.toks) (λb o hb e=>(sb.2 b hb).trans e) pC.2.1 pC.2.2.1 (.inr hy) (λx c e z=>?_) hp
 obtain⟨v,o,ho,hd⟩:=I2.cell x c e
 rw[z,pC.1]at ho
 cases ho
 exact pC.2.2.2.2 v hd
theorem fN(S:cN X.env.scope X.N N own fr scope)(hc:X.calm=true)(hi:PI X tg iter wi)(hg:∀b,PG (Ę X N scope b) tg (g b))(hf:∀b,PF (Ę X N scope b) ifs (tf b))(he:∀b,PE (Ę X N scope b) elt (te b))
  (hs:∀x,foldedSetIterable iter X.env x=pure x:=by intro _;rfl):PE X (.ListComp elt [⟨tg,iter,ifs,0⟩] scope pos) (FX wi own fr g tf te):=by
 intro pins s B H Q I h
 rw[eval_ListComp]
 refine yV (use:=Ww) S hc hi hg hf he hs I h λD C oC m H' s' I' hy hp hm q=>?_
 have pC:=I'.pin (C,oC) (NR _ (NR _ (by simp)))
 exact{m,hm _ pC.1,λh' sb=>⟨.ref D,H',wU I' hy hp sb,rfl,q⟩}
theorem qg(S:cN X.env.scope X.N N own fr scope)(hc:X.calm=true)(hN:X.N.Nodup)(hj:X.N[j]?=Wv y)(hy:Loc X.env.scope y)(hi:PI X tg iter wi)(hg:∀b,PG (Ę X N scope b) tg (g b))(hf:∀b,PF (Ę X N scope b) ifs (tf b))
  (he:∀b,PE (Ę X N scope b) elt (te b)) (hfn:X.fn y=true\/X.env.scope.names.lookup y=Wv .local:=by first|exact .inl rfl|exact .inr rfl|assumption) (hs:∀x,foldedSetIterable iter X.env x=pure x:=by intro _;rfl)
  (hsw:Um (.ListComp elt [⟨tg,iter,ifs,0⟩] scope pos) (Wv (.Name y py)) spos.line X.env=pure true:=by rfl) :
  PS X (.Assign [.Name y py] (.ListComp elt [⟨tg,iter,ifs,0⟩] scope pos) spos) (Il (FX wi own fr g tf te) (wq j)):=by
 intro pins s B H D I h
 rw[exec_Assign_Name_used _ _ _ _ hsw]
 refine Qr (UB (Qr ?_))
 show wpAny _ _ (do let _<-comprehension (.ListComp elt [⟨tg,iter,ifs,0⟩] scope pos) scope X.env _ (newList []) false (QV iter X.env) (Wv (assign (.Name y py) X.env))) _ _ s
 refine Qr (Ï (yV (use:=Wv (assign (.Name y py) X.env)) (R:=λ_ s'=>SP X pins D .next s') S hc hi hg hf he hs I h λD' C oC m H' s' I' hy' hp hm q=>?_) λ_ s' q=>Qu (Qu q))
 show wpAny _ _ (assign (.Name y py) X.env (.ref D')) _ _ s'
 refine Ï (CK hN hj hy hfn _ s' B H' (.ref D') (.ref D') _ I' rfl q) λ_ s'' z9=>?_;obtain⟨σ2,H2,I2,q2⟩:=z9
 have pC:=I2.pin (C,oC) (NR _ (NR _ (by simp)))
 exact{m,hm _ pC.1,λh' sb=>⟨σ2,H2,wU I2 hy' hp sb,q2⟩}
end
theorem PE.imp(h:PE X e t)(k:∀B H Q,t' B H Q->t B H Q):PE X e t':=λpins s B H Q I q=>h pins s B H Q I (k B H Q q)
theorem Ô.imp(h:Ô X f r)(k:∀x y H Q,r' x y H Q->r x y H Q):Ô X f r':=λpins s B H x y v u Q I rx ry q=>h pins s B H x y v u Q I rx ry (k x y H Q q)
def EE(i:Nat):TE:=λB H Q=>match B[i]? with
 |some (Wv v)=>Q v H
 |_=>False
section
variable{X:Cx}
theorem fv (i) (hN:X.N[i]?=Wv x:=by rfl) (hv:Vis X.env.scope x:=by first|exact NI rfl|exact Ob (NI rfl)|exact Ob (Ob rfl)) (hd:(x==("__debug__":Str))=false:=by decide)
  (ņ:(x==("__classdict__":Str))=false:=by decide):PE X (.Name x pos) (EE i):=(JJ hN hv hd ņ).imp λB H Q q=>by
 unfold EE at q
 cases e:B[i]? with
 |none=>rw[e]at q;exact q.elim
 |some o=>
  cases o with
  |none=>rw[e]at q;exact q.elim
  |some v=>rw[e]at q;exact⟨v,e,q⟩
def GV:R2:=λx y H Q=>match x,y with
 | .int i,.int j=>Q (.int (i+j)) H
 | .str a,.str b=>a.length+b.length<=sizeLine/\Q (.str (a++b)) H
 | .ref p,.ref q=>LL (.ref p) (.ref q) H Q
 |_,_=>False
theorem aW:Ô X (Rg .Add) GV:=by
 intro pins s B H x y v u Q I rx ry h;cases x with
 |int i=>
  cases y with
  |int j=>exact JQ pins s B H _ _ v u Q I rx ry ⟨i,j,rfl,rfl,h⟩
  |_=>exact(show False from h).elim
 |str a=>
  cases y with
  |str b=>exact Bh pins s B H _ _ v u Q I rx ry ⟨a,b,rfl,rfl,h.1,h.2⟩
  |_=>exact(show False from h).elim
 |ref p=>
  cases y with
  |ref q=>exact IY pins s B H _ _ v u Q I rx ry h
  |_=>exact(show False from h).elim
 |_=>cases y<;>exact(show False from h).elim
def sT(C:Int->Int->Prop)(g:Int->Int->V):R2:=λx y H Q=>match x,y with
 | .int i,.int j=>C i j/\Q (g i j) H
 |_,_=>False
def jU(g:Int->Int->V):R2:=λx y H Q=>match x,y with
 | .int i,.int j=>Q (g i j) H
 |_,_=>False
theorem Ô.sT(h:Ô X f (rI C g)):Ô X f (sT C g):=h.imp λx y H Q q=>by
 cases x with
 |int i=>
  cases y with
  |int j=>exact⟨i,j,rfl,rfl,q.1,q.2⟩
  |_=>exact(show False from q).elim
 |_=>cases y<;>exact(show False from q).elim
theorem Ô.jU(h:Ô X f (ϑ g)):Ô X f (jU g):=h.imp λx y H Q q=>by
 cases x with
 |int i=>
  cases y with
  |int j=>exact⟨i,j,rfl,rfl,q⟩
  |_=>exact(show False from q).elim
 |_=>cases y<;>exact(show False from q).elim
theorem pE:Ô X (Rg .Sub) (jU λi j=>.int (i-j)):=Kq.jU
theorem LI:Ô X (Rg .Mult) (sT Ed λi j=>.int (i*j)):=Kr.sT
def Iy(_ j:Int):Prop:=0<j/\j<2^64
theorem GL(h:Iy 0 j):j.natAbs.log2<9000:=by
 have h1:j.natAbs<2^64:=by
  have h2:j<2^64:=h.2;have h3:0<j:=h.1;lia
 have h0:j.natAbs≠0:=by have h3:0<j:=h.1;lia
 have:=(Nat.log2_lt h0).mpr h1;lia
theorem cf:Ô X (Rg .FloorDiv) (sT Iy λi j=>.int (i/j)):=(opI λi j _ _ _ _ _ hc q=>by
 have h1:(0:Int)<j:=hc.1;exact floordiv_int () (by rw[Int.fdiv_eq_ediv_of_nonneg i ()];exact q) (.inl (PyProof.noPylong_of_log2 (GL hc)))).sT
theorem bU:Ô X (Rg .Mod) (sT (λ_ j=>0<j) λi j=>.int (i%j)):=JV.sT
theorem zf:Ô X (Rg .Pow) (sT FR λi j=>.int (i^j.toNat)):=IQ.sT
theorem K0:Ô X (Rg .LShift) (sT FR λi j=>.int (i*2^j.toNat)):=Jz.sT
theorem Nj:Ô X (Rg .BitOr) (jU λi j=>.int (QW i j)):=Lz.jU
theorem Me:Ô X (QK .Lt) (jU λi j=>.bl (decide (i<j))):=Mf.jU
theorem MY:Ô X (QK .LtE) (jU λi j=>.bl (decide (i<=j))):=LC.jU
theorem Dj:Ô X (QK .Gt) (jU λi j=>.bl (decide (j<i))):=Ln.jU
theorem ME:Ô X (QK .GtE) (jU λi j=>.bl (decide (j<=i))):=Mq.jU
mutual
inductive oW(K:Qx)(H:Hp):V->Ub->Prop where
 |È:oW K H .È .none
 |bl (b:Bool):oW K H (.bl b) (.bool b)
 |int (i:Int):oW K H (.int i) (.int i)
 |str (x:Str):oW K H (.str x) (.str x)
 |lst {a:Qs}{xs:List V}{ds:List Ub} (h:À K H a xs) (r:gh K H xs ds):oW K H (.ref a) (.list ds)
 |tup {a:Qs}{xs:List V}{ds:List Ub} (h:Ò K H a xs) (r:gh K H xs ds):oW K H (.ref a) (.tuple ds)
inductive gh(K:Qx)(H:Hp):List V->List Ub->Prop where
 |nil:gh K H [] []
 |cons {x:V}{xs:List V}{d:Ub}{ds:List Ub} (h:oW K H x d) (r:gh K H xs ds):gh K H (x::xs) (d::ds)
end
mutual
theorem Inv.reads(I:Inv X pins B H s):∀{x:V}{d:Ub}{u:Qt},oW X.K H x d->WC x u->∃as,Reads s.heap u d as
 |_,_,_,.È,r=>by cases r;exact{_,.none}
 |_,_,_,.bl b,r=>by cases r;exact{_,.bool b}
 |_,_,_,.int i,r=>by obtain⟨t,rfl⟩:=r;exact{_,.int i t}
 |_,_,_,.str x,r=>by obtain⟨t,rfl⟩:=r;exact{_,.str x t}
 |_,_,_,.lst h q,r=>by
  cases r;obtain⟨Â,rv,⟨o,n,e,hc,_,hd⟩,_⟩:=I.list h;obtain⟨as,z⟩:=I.readsAll q rv;exact{_,.list e hc hd (by simpa using z)}
 |_,_,_,.tup h q,r=>by
  cases r;obtain⟨Â,rv,⟨o,e,hc,n,hd⟩,_⟩:=I.tuple h;obtain⟨as,z⟩:=I.readsAll q rv;exact{_,.tuple e hc hd (by simpa using z)}
theorem Inv.readsAll(I:Inv X pins B H s):∀{xs:List V}{ds:List Ub}{us:List Qt},gh X.K H xs ds->Wz xs us->∃as,ReadsAll s.heap us ds as
 |_,_,_,.nil,r=>by cases r;exact{_,.nil}
 |_,_,_,.cons h q,r=>by
  cases r with
  |cons r1 r2=>
   obtain⟨as,z⟩:=I.reads h r1;obtain⟨bs,z2⟩:=I.readsAll q r2;exact{_,.cons z z2}
end
def fEq(K:Qx):R2:=λx y H Q=>match x,y with
 | .ref p,.ref q=>∃d e,oW K H (.ref p) d/\oW K H (.ref q) e/\QY d=true/\QY e=true/\Q (.bl (V5 d e)) H
 |x,y=>DG x y=true/\Q (.bl (decide (x=y))) H
def fNe(K:Qx):R2:=λx y H Q=>match x,y with
 | .ref p,.ref q=>∃d e,oW K H (.ref p) d/\oW K H (.ref q) e/\QY d=true/\QY e=true/\Q (.bl (!PyData.eqv d e)) H
 |x,y=>DG x y=true/\Q (.bl (!decide (x=y))) H
theorem Ni(hu:X.A.units+64<RR):Ô X (QK .Eq) (fEq X.K):=by
 intro pins s B H x y v u Q I rx ry h;by_cases hr:∃p q,x=V.ref p/\y=V.ref q
 ·obtain⟨p,q,rfl,rfl⟩:=hr;obtain⟨d,e,hd,he,sd,se,hq⟩:=h;obtain⟨as,z1⟩:=I.reads hd rx;obtain⟨bs,z2⟩:=I.reads he ry;exact eq_dataH z1 z2 sd se hu {.bl _,H,I,rfl,hq}
 refine LY pins s B H x y v u Q I rx ry ?_;cases x<;>cases y<;>first|exact h|exact absurd {_,_,rfl,rfl} hr
theorem yB(hu:X.A.units+64<RR):Ô X (QK .NotEq) (fNe X.K):=by
 intro pins s B H x y v u Q I rx ry h;by_cases hr:∃p q,x=V.ref p/\y=V.ref q
 ·obtain⟨p,q,rfl,rfl⟩:=hr;obtain⟨d,e,hd,he,sd,se,hq⟩:=h;obtain⟨as,z1⟩:=I.reads hd rx;obtain⟨bs,z2⟩:=I.reads he ry;exact ne_dataH z1 z2 sd se hu {.bl _,H,I,rfl,hq}
 refine LJ pins s B H x y v u Q I rx ry ?_;cases x<;>cases y<;>first|exact h|exact absurd {_,_,rfl,rfl} hr
def fIn(K:Qx)(neg:Bool):R2:=λx y H Q=>match y with
 | .str j=>∃i,x=.str i/\Q (.bl (if neg then !(!(Q8 j i 0 j.length 1).isEmpty)else !(Q8 j i 0 j.length 1).isEmpty)) H
 | .ref p=>∃xs,(À K H p xs\/Ò K H p xs)/\mH x=true/\xs.all mH=true/\Q (.bl (if neg then !ϔ x xs else ϔ x xs)) H
 |_=>False
theorem Nq:Ô X (QK .In) (fIn X.K false):=by
 intro pins s B H x y v u Q I rx ry h;cases y with
 |str j=>
  obtain⟨i,rfl,q⟩:=h;exact Df pins s B H _ _ v u Q I rx ry ⟨i,j,rfl,rfl,q⟩
 |ref p=>
  obtain⟨xs,h1,h2,h3,q⟩:=h;exact D3 pins s B H _ _ v u Q I rx ry ⟨p,xs,rfl,h1,h2,h3,q⟩
 |_=>exact(show False from h).elim
theorem G9:Ô X (QK .NotIn) (fIn X.K true):=by
 intro pins s B H x y v u Q I rx ry h;cases y with
 |str j=>
  obtain⟨i,rfl,q⟩:=h;exact xr pins s B H _ _ v u Q I rx ry ⟨i,j,rfl,rfl,q⟩
 |ref p=>
  obtain⟨xs,h1,h2,h3,q⟩:=h;exact yu pins s B H _ _ v u Q I rx ry ⟨p,xs,rfl,h1,h2,h3,q⟩
 |_=>exact(show False from h).elim
theorem Ba:Ô X (QK .Is) (λx y H Q=>y=.È/\Q (.bl (decide (x=.È))) H):=JW
theorem B8:Ô X (QK .IsNot) (λx y H Q=>y=.È/\Q (.bl (!decide (x=.È))) H):=Im
inductive ixS(K:Qx)(p:Qs)(i:Int)(H:Hp)(Q:VK):Prop
 |mk (xs v) (h0:À K H p xs\/Ò K H p xs) (h1:Č xs i=Wv v) (q:Q v H):ixS K p i H Q
def fIx(K:Qx):R2:=λx y H Q=>match x,y with
 | .ref p,.int i=>ixS K p i H Q
 | .str z,.int i=>∃c,z.length<=sizeLine/\Č z.cps.toList i=Wv c/\Q (.str ⟨#[c]⟩) H
 |_,_=>False
theorem Gh:IxR X (fIx X.K):=by
 intro value slice pins s B H x y v u Q I rx ry h hs;cases x with
 |ref p=>
  cases y with
  |int i=>
   obtain⟨xs,w,h1|h1,h2,q⟩:=h
   ·exact HI value slice pins s B H _ _ v u Q I rx ry ⟨p,xs,i,w,rfl,rfl,h1,h2,q⟩ hs
   exact KJ value slice pins s B H _ _ v u Q I rx ry ⟨p,xs,i,w,rfl,rfl,h1,h2,q⟩ hs
  |_=>exact(show False from h).elim
 |str z=>
  cases y with
  |int i=>
   obtain⟨c,h1,h2,q⟩:=h;exact Kf value slice pins s B H _ _ v u Q I rx ry ⟨z,i,c,rfl,rfl,h1,h2,q⟩ hs
  |_=>exact(show False from h).elim
 |_=>cases y<;>exact(show False from h).elim
def Nd:V->Option Int->Option Int->Hp->VK->Prop:=λx lo hi H Q=>∃z,x=.str z/\z.length<=sizeLine/\Q (.str (Txt.slice z lo hi)) H
def Its(x:Str):It:={λi _=>i<x.cps.size,λi H v H'=>H'=H/\∃c,x.cps[i]?=Wv c/\v=.str ⟨#[c]⟩,λi _=>x.cps.size<=i}
theorem E3{P:Program}{w:QD}{K:Sl}{tg:Expr}{T:String}(hT:T="str_ascii_iterator"\/T="str_iterator")(it:Qs)(x:Str)(t:Tok):WW P w K tg (Its x) [it] it (λi h=>i<=x.cps.size/\h.IsStrIter it T x t i) where
 mem:=by simp
 obj:=λi h st b hb=>by
  have e:b=it:=by simpa using hb
  subst e;obtain⟨_,o,e,c,d⟩:=st;exact{o,e,λv z=>by rw[d]at z;cases z}
 keep:=λi h h' st k=>by
  obtain⟨hi,o,e,r⟩:=st;exact{hi,o,k it (by simp) o e,r}
 item:=by
  intro X hP hw hK hc i pins s B H E I hf st hg;subst hP hw hK;obtain⟨f0,f1,f2,f3,f4,f5⟩:=hf it (by simp);have W:Walks X.prog X.w X.A it [it] [it] x.cps.size (SignAt x) (λi h=>h.IsStrIter it T x t i):=by
   rcases hT with rfl|rfl
   ·exact V6 (I.ok.hd hc) it x t
   exact Walks.strWide (I.ok.hd hc) it x t
  refine W.item i s _ _ hg st.2 λv h' tk hv ĥ kk=>?_;obtain⟨c,u,hcp,rfl⟩:=hv;have I1:Inv X pins B H { s with heap:=h',toks:=tk }:=I.turned (λb o hb e=>kk b o (by simpa using hb) e) f0 f1 f3 f4 f5;obtain⟨o,e,c',d⟩:=id ĥ;refine{_,rfl,y8 (s:={ s with heap:=h',toks:=tk }) e c' d (by rcases hT with rfl|rfl<;>decide) ⟨.str ⟨#[c]⟩,H,I1,⟨u,rfl⟩,⟨rfl,c,hcp,rfl⟩,⟨hg,ĥ⟩,λb hb=>(hf b hb).1⟩}
 done:=by
  intro X hP hw hK hc i pins s B H E I hf st hg;subst hP hw hK;obtain⟨f0,f1,f2,f3,f4,f5⟩:=hf it (by simp);have W:Walks X.prog X.w X.A it [it] [it] x.cps.size (SignAt x) (λi h=>h.IsStrIter it T x t i):=by
   rcases hT with rfl|rfl
   ·exact V6 (I.ok.hd hc) it x t
   exact Walks.strWide (I.ok.hd hc) it x t
  have e:i=x.cps.size:=Nat.le_antisymm st.1 hg;subst e;exact W.done s _ _ st.2 λh' tk kk=>{rfl,I.turned (λb o hb e=>kk b o (by simpa using hb) e) f0 f1 f3 f4 f5}
 self:=λA i s Q E st h=>by
  rcases hT with rfl|rfl
  ·exact wpAny_pyIter_striter_ascii st.2 h
  exact wpAny_pyIter_striter_wide st.2 h
def MQ(K:Qx)(tl:TE):TI:=λB H R=>tl B H λx H1=>match x with
 | .ref a=>((∃xs,À K H1 a xs)/\R (Itl K a) H1)\/((∃xs,Ò K H1 a xs)/\R (Itt K a) H1)
 | .str z=>R (Its z) H1
 |_=>False
theorem bu(hl:PE X l tl):PI X tg l (MQ X.K tl):=by
 intro pins s B H R I h;refine Ï (hl pins s B H _ I h) λv s1 z9=>?_;obtain⟨x,H1,I1,r1,q1⟩:=z9;cases x with
 |ref a=>
  cases r1;rcases q1 with⟨⟨xs,hq⟩,q⟩|⟨⟨xs,hq⟩,q⟩
  ·obtain⟨Â,rv,p,hz⟩:=I1.list hq;refine Tg p.isList ?_;refine{s1.heap.objs.size,[s1.heap.objs.size],_,_,H1,rfl,I1.kept (t':=s1.toks) λb o e=>Qv _ e,Dw a _,{_,QE _ rfl,rfl,rfl},λb hb=>?_,q};have e:b=s1.heap.objs.size:=by simpa using hb
   subst e;exact I1.zE (NM _) (I1.Æ.fresh (NM _))
  obtain⟨Â,rv,p,hz⟩:=I1.tuple hq;refine wpAny_pyIter_tuple (show s1.heap.IsTuple a Â.toArray from p) ?_;refine{s1.heap.objs.size,[s1.heap.objs.size],_,_,H1,rfl,I1.kept (t':=s1.toks) λb o e=>Qv _ e,AQ a _,{_,QE _ rfl,rfl,rfl},λb hb=>?_,q};have e:b=s1.heap.objs.size:=by simpa using hb
  subst e;exact I1.zE (NM _) (I1.Æ.fresh (NM _))
 |str z=>
  obtain⟨t,rfl⟩:=r1;refine wpAny_pyIter_strU ?_;refine{s1.heap.objs.size,[s1.heap.objs.size],_,_,H1,rfl,I1.kept (t':=s1.toks) λb o e=>Qv _ e,E3 (T:=strIterType z) ?_ _ z t,{NS _,_,QE _ rfl,rfl,rfl},λb hb=>?_,q1}
  ·unfold strIterType;split
   ·exact .inl rfl
   exact .inr rfl
  have e:b=s1.heap.objs.size:=by simpa using hb
  subst e;exact I1.zE (NM _) (I1.Æ.fresh (NM _))
 |_=>exact(show False from q1).elim
theorem aQ(ha:PE X a ta)(he:∀whole,isTrue a X.env whole=(do let v<-whole;VN a.pos;SU [v] (truthy v))) :
  PT X a (λB H Q=>ta B H λx H'=>An X.K x H' Q):=Gs ha he
theorem Gw(ha:PE X a ta):PE X (.UnaryOp .Not a pos) (λB H Q=>ta B H λx H1=>∃k,Lx X.K x H1 k/\Q (.bl (!k)) H1):=by
 intro pins s B H Q I h;refine UnaryOp_ (Ï (ha pins s B H _ I h) λv s1 z9=>?_);obtain⟨x,H1,I1,r1,q1⟩:=z9;obtain⟨k,ht,q⟩:=q1;exact not_of (Ï (Fh pins s1 B H1 x v (λb H2=>Q (.bl (!b)) H2) I1 r1 ⟨k,ht,q⟩) λb s2 ⟨H2,I2,q2⟩=>{.bl (!b),H2,I2,rfl,q2})
inductive xT(K:Qx)(xs:List V)(H:Hp)(Q:VK):Prop
 |mk (x n) (h0:xs=[x]) (h1:LP K x H n) (q:Q (.int n) H):xT K xs H Q
theorem Li:fG X (.builtin "len") (xT X.K):=λpins s B H xs us Q I r ⟨x,n,h0,h1,q⟩=>EC pins s B H xs us Q I r ⟨x,n,h0,h1,q⟩
theorem kE:fG X (.type "list") (λxs H Q=>∃p ys,xs=[.ref p]/\(À X.K H p ys\/Ò X.K H p ys)/\∀l,H l=Ww->Q (.ref l) (upd H l (.lst ys))):=xG
def Gz:V->Qt
 | .ty n=>.type n
 | .ref a=>.ref a
 |_=>.none
theorem FK(r:WC y u)(h:Gz y≠ .none):u=Gz y:=by
 cases y with
 |ty n=>exact r
 |ref a=>exact r
 |_=>exact absurd rfl h
inductive Az(K:Qx)(xs:List V)(H:Hp)(Q:VK):Prop
 |mk (x y t b) (h0:xs=[x,y]) (h1:Gz y≠ .none) (h2:pS K H x t) (h3:Q9 K t (Gz y)=Wv b) (q:Q (.bl b) H):Az K xs H Q
theorem aI:fG X (.builtin "isinstance") (Az X.K):=by
 intro pins s B H xs us Q I r h;obtain⟨x,y,t,b,rfl,hy,ty,e,q⟩:=h;obtain⟨u,w',rfl,rx,ry⟩:=WX r;rw[FK ry hy];exact Dv I rx ty e λtk=>{.bl b,H,I.tok _,rfl,q}
theorem bx(ho:PE X o to)(ha:PA X [e] t)(ç:Q6 o "append" X.env (QV o X.env)=QV o X.env:=by rfl)
  (Ľ:((Q7 Ð (QA [e] X.env)).all (λx=>!x.1)&&(Ta Ð (RW [] X.env)).all (λx=>x.1.isSome)
   &&decide ([e].length+([]:List Sb).length+(if([]:List Sb).isEmpty then 0 else 1)<30))=true:=by rfl)
  (æ:(apos.endLine==Ð.line)=true:=by rfl) (hs:QA [e] X.env=(false,QV e X.env)::QA [] X.env:=by rfl) (ù:(Q7 Ð (QA [] X.env)).any (·.1)=false:=by rfl) :
  PE X (.Call (.Attribute o "append" apos) [e] [] Ð) (tBM X.K "list" xJ to t):=Fz RM PySem.F.slot_list_append PySem.F.type_list_append wJ ho ha ç Ľ æ hs ù
theorem GO:MtR X "int.bit_length" (λx xs H Q=>∃i,x=.int i/\xs=[]/\Q (.int (RY i)) H):=by
 intro pins s B H x xs v us Q I rx rs h;obtain⟨i,rfl,rfl,q⟩:=h;obtain⟨t,rfl⟩:=rx;cases rs;exact call_int_bit_length {.int _,H,I.tok _,{_,rfl},q}
theorem xW(ho:PE X o to)(ç:Q6 o "bit_length" X.env (QV o X.env)=QV o X.env:=by rfl)(æ:(apos.endLine==Ð.line)=true:=by rfl) :
  PE X (.Call (.Attribute o "bit_length" apos) [] [] Ð) (Ie X.K "int" (λx xs H Q=>∃i,x=.int i/\xs=[]/\Q (.int (RY i)) H) to):=
 Bg PySem.F.plainAttrs_int PySem.F.slot_int_bit_length PySem.F.type_int_bit_length GO ho ç æ
end
def ħ(P:Program)(w:QD)(K:Qx)(mg:Str->Option Qt)(base:QN)(k:Nat)(x:Str)(ps:List Str)(sp:Sp):Prop:=
 ∃f fd,mC P w K mg base Ō k f fd ps sp/\WE K fd ps []/\RB K (.ref f)=true/\mg x=Wv (.ref f)/\∃oc od ă,K.lookup f=Wv ⟨oc,od,.func fd,ă⟩
structure aY(K:Qx)(mg:Str->Option Qt)(x:Str)(st:QL)(ps:List Str):Prop where
 ex:∃f fd,Fun K x x st f fd/\WE K fd ps []/\mg x=Wv (.ref f)
theorem ao(D:ħ X.prog X.w X.K X.mg X.base j x ps sp)(hr:gp k X.A)(ha:PA X (e::es) t)(hj:j<=k:=by decide)(hg:Gl X x:=by rfl)
  (ģ:(x==("__debug__":Str))=false:=by decide) (he:QA (e::es) X.env=(false,QV e X.env)::QA es X.env:=by rfl) (ą:(Q7 pos (QA es X.env)).any (·.1)=false:=by rfl) :
  PE X (.Call (.Name x p) (e::es) [] pos) (wY sp [] E0 t):=by
 obtain⟨f,fd,F,b,kp,m,_⟩:=D
 exact Cb F (hr.mono hj) hg m kp b .nil zp ha ģ he ą
abbrev aY.Hz{K:Qx}{mg:Str->Option Qt}{x:Str}{st:QL}{ps:List Str}(_:aY K mg x st ps)(P:Program)(w:QD)(base:QN)(k:Nat)(sp:Sp):Prop:=L2.ħ P w K mg base k x ps sp
theorem aY.hs{P w K mg base x st N ps k sp}(F:aY K mg x st ps)(S:aH N ps (aA st))
  (Ā:∀f Ä A outer s H vs Q E,gp k (A.deeper (Sq x (aA st) s.heap.objs.size f Ä))->(A.deeper (Sq x (aA st) s.heap.objs.size f Ä)).units+64<RR->sp vs H Q E->
   ∃t,č (xh Ō P w K mg base N x (aA st) f Ä A outer s H E).Ι (bK st) t/\t { nx:=λ_ H'=>Q .È H',rt:=Q } (WK N vs) H) (len:∀vs H Q E,sp vs H Q E->vs.length=ps.length:=by intro _ _ _ _ h;cases h;subst_vars;rfl):ħ P w K mg base (k+1) x ps sp:=by
 obtain⟨f,fd,F,b,m⟩:=F.ex
 obtain⟨oc,od,kV,doc,pm,an,Ä,ct,ă,e,lk,ņ⟩:=F.ex
 exact{f,fd,F.ok S len λÄ A outer s H vs Q E hr h=>Ā f Ä A outer s H vs Q E hr hr.units h,b,F.kp,m,oc,od,ă,lk}
theorem ai.upd(h:H p=Ww) (o):ai H (upd H p o):=λb u q=>by rw[aR (gX q h)];exact q
theorem ai.tup{K H H' a xs}(e:ai H H')(h:Ò K H a xs):Ò K H' a xs:=by
 rcases h with(h|⟨o,h⟩)|h
 ·exact .inl (.inl (e _ _ h))
 ·exact .inl (.inr {o,e _ _ h})
 exact .inr h
def ŕ(fr:List Nat)(B:St):St:=fr.map λj=>(B[j]?).getD Ww
theorem gh.ints{K H}:∀ns:List Int,gh K H (ns.map V.int) (ns.map TQ)
 | []=>.nil
 |n::r=>.cons (.int n) (gh.ints r)
theorem shaped_ints(ns:List Int):QY (.list (ns.map TQ))=true:=by
 unfold QY;rw[O6];constructor
 ·exact W.ke_canLayAll0 ns
 have e:TR (.list (ns.map TQ))=SO (ns.map TQ)+1:=rfl;rw[e,W.ke_depthAll];rfl
section
variable{X:Cx}
def IV(K:Qx):V->Option Int->Option Int->Hp->VK->Prop:=λx lo hi H Q=>JD K x lo hi H Q\/Jy K x lo hi H Q
theorem Jc:ϟ X (IV X.K):=GI.or Jf
end
theorem FA{α:Type} (f) (xs:List α) (lo hi):kY (xs.map f) lo hi=((xs.drop (HT.Ù xs.length 0 lo)).take (HT.Ù xs.length xs.length hi-HT.Ù xs.length 0 lo)).map f:=by
 unfold kY;rw[NH,List.map_take,List.map_drop]
theorem Fv{K:Qx}{mg:Str->Option Qt}{h:QN}{x:Str}{st:QL}{ps:List Str}{f:Qs}{oc:Qt}{od an:Option Qs}{ă:Array (Option Qt)}{kV doc pm Ä ct:Qt}(X:K.In h)(G:h.Ns QI mg)
  (a:V7 K QI x=Wv (Wv (.ref f))) (l:K.lookup f=Wv {oc,od,.func (Rp x x (b9 st) (bK st) (aA st) .none kV doc pm an Ä ct),ă}) (c:SI K Ä x=true) (k:RB K (.ref f)=true)
  (hb:∀(kV doc pm:Qt)(an:Option Qs)(Ä ct:Qt)(us:List Qt),us.length=ps.length->bindArgs (Rp x x (b9 st) (bK st) (aA st) .none kV doc pm an Ä ct) {us,[]}=pure (ps.zip us)):aY K mg x st ps:=
 {f,_,xK l c k,(xK l c k).binds hb,Vb X G a}
theorem Kd{P w K mg base k x ps sp f oc od ă fd}(D:ħ P w K mg base k x ps sp)(m:mg x=Wv (.ref f))
  (l:K.lookup f=Wv ⟨oc,od,.func fd,ă⟩):mC P w K mg base Ō k f fd ps sp:=by
 obtain⟨g,gd,F,b,kp,mg',_,_,_,l'⟩:=id D
 rw[m]at mg'
 cases mg'
 rw[l]at l'
 cases l'
 exact F
section
variable{prog:Program}{w:QD}{A:QU}{R:Result->Qw->Prop}{I l:Qs}{Â:Array Qt}{ns:List Int}{St:Nat->QN->Prop}{fp wr:List Qs}{d:Qt}
end
section
variable{X:Cx}
theorem Kt:ϟ X Nd:=by
 intro pins s B H x v vl vu lo hi sl Q I rx hs pl pu h;obtain⟨z,rfl,hz,q⟩:=h;obtain⟨t,rfl⟩:=rx;have fin:∀t' k,EP X pins B Q (.str (Txt.slice z lo hi) t') { s with toks:=k }:=λt' k=>⟨.str _,H,I.tok _,⟨_,rfl⟩,q⟩;have len:=NU (Txt.slice_le z lo hi) hz;obtain⟨o,ho,hc,hd⟩:=hs;refine{"str",_,PySem.F.slot_str_getitem.lookup,UQ _ _ _,?_};cases pl with
 |none=>
  cases pu with
  |none=>exact RN (l:=RC) (u:=RC) (st:=RC) ⟨o,ho,hc,hd⟩ rfl (SQ {len,λt' k=>fin t' k})
  |int j uj=>exact RN (l:=RC) (u:=Wv (j,uj)) (st:=RC) ⟨o,ho,hc,hd⟩ rfl (SQ {len,λt' k=>fin t' k})
 |int i ui=>
  cases pu with
  |none=>exact RN (l:=Wv (i,ui)) (u:=RC) (st:=RC) ⟨o,ho,hc,hd⟩ rfl (SQ {len,λt' k=>fin t' k})
  |int j uj=>exact RN (l:=Wv (i,ui)) (u:=Wv (j,uj)) (st:=RC) ⟨o,ho,hc,hd⟩ rfl (SQ {len,λt' k=>fin t' k})
def fSl(K:Qx):V->Option Int->Option Int->Hp->VK->Prop:=λx lo hi H Q=>match x with
 | .str z=>z.length<=sizeLine/\Q (.str (Txt.slice z lo hi)) H
 |x=>JD K x lo hi H Q\/Jy K x lo hi H Q
theorem j4:ϟ X (fSl X.K):=by
 intro pins s B H x v vl vu lo hi sl Q I rx hs pl pu h;by_cases hx:∃z,x=.str z
 ·obtain⟨z,rfl⟩:=hx;exact Kt pins s B H _ v vl vu lo hi sl Q I rx hs pl pu ⟨z,rfl,h.1,h.2⟩
 refine Jc pins s B H x v vl vu lo hi sl Q I rx hs pl pu ?_;cases x<;>first|exact h|exact absurd {_,rfl} hx
theorem wW(hc:X.calm=true:=by rfl):fG X (.builtin "max") (λxs H Q=>∃i j,xs=[.int i,.int j]/\Q (.int (if j>i then j else i)) H):=Dx hc
theorem yc(h:∃t,X.mg x=Wv (.str z t))(hg:Gl X x:=by rfl)(hd:(x==("__debug__":Str))=false:=by decide):PE X (.Name x pos) (tC (.str z)):=by
 obtain⟨t,e⟩:=h;exact Ca hg e ⟨t,rfl⟩ hd
end
section
variable{X:Cx}{tg:Expr}
def iF{α:Type}(xs:List α):List α:=(Q1 ((xs.length+1)/2)).filterMap λm=>xs[m*2]?
theorem yT{α:Type}(xs:List α):(iF xs).length<=xs.length:=by
 unfold iF;refine NU (Tp _ _) ?_;rw[PK];lia
theorem Wz.iF(r:Wz xs us):Wz (iF xs) (iF us):=by
 have hl:=r.length;unfold L2.iF;rw[hl];have gen:∀l:List Nat,Wz (l.filterMap λm=>xs[m*2]?) (l.filterMap λm=>us[m*2]?):=by
  intro l;induction l with
  |nil=>exact .nil
  |cons m l ih=>
   rw[OT,OT];cases e:xs[m*2]? with
   |none=>rw[r.none_of e];exact ih
   |some x=>
    obtain⟨u,hu,ru⟩:=r.get e;rw[hu];exact .cons ru ih
 exact gen _
theorem Ho(n:Nat):QT 0 (n:Int) 2=(n+1)/2:=by
 unfold QT;have h1:(2:Int)>0:=()
 simp only[h1,if_true];split<;>lia
theorem Mu(xs:Array Qt):((Q1 ((xs.size+1)/2)).filterMap λ(m:Nat)=>xs[((0:Int)+(m:Int)*2).toNat]?).toArray=(iF xs.toList).toArray:=by
 unfold iF;have e:(λ(m:Nat)=>xs[((0:Int)+(m:Int)*2).toNat]?)=λm=>xs.toList[m*2]?:=by
  funext m
  have:((0:Int)+(m:Int)*2).toNat=m*2:=()
  rw[this,OL]
 rw[e,OI]
theorem Fp{prog w E}{Q:Int×Int×Nat->Qw->Prop}(hs:s.heap.IsSliceOf sl .none .none (.int 2 t2))(h:Q (0,2,(n+1)/2) s) :
  wpAny (QG prog w) A (Ry (.ref sl) (pure (n:Int))) Q E s:=by
 obtain⟨os,ő,hcs,ϴ⟩:=id hs
 unfold Ry Tc
 refine Qr (Qr (SJ ő ϴ (x:=.none) rfl (Qr (SJ ő ϴ (x:=.none) rfl (Qr (SJ ő ϴ (x:=.int 2 t2) rfl (Qu ?_)))))))
 refine Qr (slicePart_int ?_)
 show wpAny _ _ (if((2:Int)==0)=true then _ else _) _ _ s
 rw[if_neg ∅]
 refine Qr (S6 (Qr (S6 (Qr (Qu ?_)))))
 show wpAny _ _ (pure ((0:Int),(2:Int),QT 0 (n:Int) 2)) _ _ s
 rw[Ho]
 exact Qu h
theorem qE(ht:IsTup s.heap t items)(hs:s.heap.IsSliceOf sl .none .none (.int 2 t2))
  (h:Q (.ref s.heap.objs.size) { s with heap:=s.heap.push { cls:=.type "tuple",data:=.seq (iF items.toList).toArray } }) (hsz:items.size<=sizeLine):wpAny (QG prog w) A (Tf (.ref t) (.ref sl)) Q E s:=by
 have þ:sizeOk (.seq (iF items.toList).toArray):=by
  show(iF items.toList).toArray.size<=sizeLine;rw[NV];exact NU (yT _) (by rw[OI];exact hsz)
 obtain⟨os,ő,hcs,ϴ⟩:=id hs
 have hTs:s.TypeIs (.ref sl) "slice":=⟨os,ő,hcs⟩
 unfold Tf
 try with_reducible refine wpAny_holding ?_
 first|refine Qr (Qu ?_)|skip
 refine Qr (U8 ht.typeIs ∅ ?_)
 refine Qr (RL (name:=Rh "__getitem__") ht.typeIs Rj
  (Rn Rj ht.typeIs Ut ?_ (UO _ _)))
 show wpAny _ _ (S7 (.ref t)>>=_) _ _ s
 refine Qr (tupleItemsOf_ ht ?_)
 refine Qr (Sr hTs ?_)
 rw[if_pos ∅]
 refine Qr (Fp hs ?_)
 show wpAny _ _ (if((0:Int)==0&&(2:Int)==1&&((items.size+1)/2)==items.size)=true then _ else _) _ _ s
 rw[if_neg (by simp),Mu]
 first
  |exact Qr (m:=QQ _) (QP (Qu {_,rfl,Qu h}) þ)
  |exact Qr (m:=QQ _) (QP (Qr (Qu (Qu {_,rfl,Qu h}))) þ)
  |exact Qr (Qr (m:=QQ _) (QP (Qu (Qu {_,rfl,Qu h})) þ))
  |exact Qr (Qr (m:=QQ _) (QP (Qu {_,rfl,Qu h}) þ))
def Kb(K:Qx)(te:TE):TE:=λB H Q=>te B H λx H1=>∃a xs,x=.ref a/\Ò K H1 a xs/\∀p,H1 p=Ww->Q (.ref p) (upd H1 p (.tup (iF xs)))
theorem EO(he:PE X e te):PE X (.Subscript e (.Slice Ww Ww (Wv (.Constant (.int 2) j p3)) p2) pos) (Kb X.K te):=by
 intro pins s B H Q I h;refine UP (Ï (he pins s B H _ I h) λv s1 z9=>?_);obtain⟨x,H1,I1,r1,a,xs,ex,hx,q⟩:=z9;subst ex;cases r1;refine VA ?_;rw[Tn];refine Qu ?_;refine Qu ?_;rw[UD];refine UK ?_;obtain⟨Â,r,ht,hz⟩:=I1.tuple hx;have hlen:Â.toArray.size=xs.length:=by rw[NV];exact r.length.symm
 have I4:Inv X pins B H1 { s1 with heap:=s1.heap.push { cls:=.type "slice",data:=.fields #[.none,.none,.int 2 s1.toks] },toks:=s1.toks+1 }:=I1.kept λb ob q=>Qv _ q;have ht4:IsTup (s1.heap.push { cls:=.type "slice",data:=.fields #[.none,.none,.int 2 s1.toks] }) a Â.toArray:=by
  obtain⟨o,e,r⟩:=ht;exact{o,Qv _ e,r}
 refine VY (ops:=[.ref a,.ref s1.heap.objs.size]) (s:={ s1 with heap:=s1.heap.push { cls:=.type "slice",data:=.fields #[.none,.none,.int 2 s1.toks] },toks:=s1.toks+1 }) ht4.typeIs PyProof.Rows.slot_tuple_getitem.lookup (qE ht4 (S8 ..) ?_ (by rw[hlen];exact hz)) (by with_unfolding_all rfl);refine{.ref _,_,I4.laid (t':=s1.toks+1) (o:=.tup (iF xs)) (λb ob q=>Qv _ q) (NM _) ?_,rfl,q _ (I4.Æ.fresh (NM _))};exact{NU (yT xs) hz,_,r.iF,IsTup.new _ _}
theorem J2:fG X (.type "str") (λxs H Q=>(∃i,xs=[.int i]/\i.natAbs.log2<1920/\Q (.str (toString i)) H)\/∃x,xs=[.str x]/\Q (.str x) H):=by
 intro pins s B H xs us Q I r h;rcases h with h|⟨x,rfl,q⟩
 ·exact xY pins s B H xs us Q I r h
 obtain⟨u,rfl,t,rfl⟩:=WL r;exact PySem.P.str_of_str {.str x,H,I,{_,rfl},q}
theorem aO(h:X.mg x=Wv (.ref a))(hg:Gl X x:=by rfl)(hd:(x==("__debug__":Str))=false:=by decide):PE X (.Name x pos) (tC (.ref a)):=Ca hg h rfl hd
end
theorem gh.strs{K H}:∀ys:List Str,gh K H (ys.map V.str) (ys.map TU)
 | []=>.nil
 |y::r=>.cons (.str y) (gh.strs r)
theorem zw:∀ys:List Str,(∀y∈ys,QZ y=true)->Ti (ys.map TU)=true
 | [],_=>rfl
 |y::r,h=>by simp[Ti,Uc,zw r λz hz=>h z (NK _ hz),h y NL]
theorem tO:∀ys:List Str,SO (ys.map TU)=0
 | []=>rfl
 |_::r=>by simp[SO,TR,tO r]
theorem yF{ys:List Str}(h:∀y∈ys,QZ y=true):QY (.list (ys.map TU))=true:=by
 simp[QY,Uc,TR,zw ys h,tO]
theorem zk{J:It}{n:Nat}{x:Nat->V}{fr:List Nat}{te:CB->TE}{Q:VK}{B:St}{H1:Hp}(R:Nat->V->Hp->Prop)(hn:n<sizeLine)
  (stop:∀H,ai H1 H->J.stop n H) (go:∀i H,i<n->ai H1 H->J.go i H) (ύ:∀i H v H',i<n->ai H1 H->J.ύ i H v H'->H'=H/\v=x i)
  (he:∀b i H (G:VK),i<n->ai H1 H->(∀y H',ai H H'->R i y H'->G y H')->te b (Wv (x i)::ŕ fr B) H G)
  (mono:∀i y H H',ai H H'->R i y H->R i y H') (st:∀i y H D ys zs,H D=Wv (.lst ys)->R i y H->R i y (upd H D (.lst zs)))
  (fin:∀D H ys,H1 D=Ww->ai H1 H->H D=Wv (.lst ys)->ys.length=n->(∀(i:Nat) y,ys[i]?=Wv y->R i y H)->Q (.ref D) H):x6 J 1 fr (λ_=>wq 0) (λ_=>Ml) te Q B H1:=by
 refine⟨λb D hD=>?_⟩
 refine{λi m B' H'=>m=n-i/\i<=n/\(∃v0,B'=v0::ŕ fr B)/\ai H1 H'/\∃ys,H' D=Wv (.lst ys)/\ys.length=i/\∀(j:Nat) y,ys[j]?=Wv y->R j y H',{n,rfl,NS _,⟨Ww,rfl⟩,ai.upd hD _,[],av,rfl,λj y h=>by cases h},?_}
 rintro i m B' H' ⟨rfl,hi,⟨v0,rfl⟩,sm,ys,hl,hy,hR⟩
 by_cases í:i<n
 ·refine .inr {go i H' í sm,λσ2 H2=>(∃v0,σ2=v0::ŕ fr B)/\ai H1 H2/\∃ys,H2 D=Wv (.lst ys)/\ys.length=i+1/\∀(j:Nat) y,ys[j]?=Wv y->R j y H2,λσ2 H2 q=>{n-(i+1),(),rfl,í,q},λv H2 y=>?_};obtain⟨rfl,rfl⟩:=ύ i H' v H2 í sm y;refine he b i _ _ í sm λz H4 s4 rz=>{ys,s4 _ _ hl,(),{_,rfl},?_,ys++[z],av,by simp[hy],λj y' hj=>?_}
  ·intro c o q;by_cases hc:c=D
   ·rw[hc,hD]at q;cases q
   rw[aR hc];exact(sm.trans s4) c o q
  have Ϸ:=s4 _ _ hl;by_cases hji:j<ys.length
  ·rw[ON hji]at hj;exact st _ _ _ _ _ _ Ϸ (mono _ _ _ _ s4 (hR j y' hj))
  by_cases e:j=ys.length
  ·subst e;rw[OJ (NM _)]at hj;simp at hj;subst hj;rw[hy];exact st _ _ _ _ _ _ Ϸ rz
  rw[Pf (by simp;lia)]at hj;cases hj
 have e:i=n:=()
 subst e
 exact .inl ⟨stop H' sm,fin D H' ys hD sm hl hy hR⟩
section
variable{P:Program}{w:QD}{K:Qx}{mg:Str->Option Qt}{base:QN}
structure Ď(K:Qx)(C:Qs)(m qual:Str)(st:QL)(ps:List Str):Prop where
 ex:∃f fd,Fun K m qual st f fd/\WE K fd ps []/\WZ K C m f
def Aq(P:Program)(w:QD)(K:Qx)(mg:Str->Option Qt)(base:QN)(k:Nat)(C:Qs)(m:Str)(ps:List Str)(sp:Sp):Prop:=
 ∃f fd,mC P w K mg base Ō k f fd ps sp/\WE K fd ps []/\WZ K C m f
abbrev Ď.Hz{C:Qs}{m qual:Str}{st:QL}{ps:List Str}(_:Ď K C m qual st ps)(P:Program)(w:QD)(mg:Str->Option Qt)(base:QN)(k:Nat)(sp:Sp):Prop:=Aq P w K mg base k C m ps sp
theorem Ď.hs{C m qual st N ps k sp}(F:Ď K C m qual st ps)(S:aH N ps (aA st))
  (Ā:∀f Ä A outer s H vs Q E,gp k (A.deeper (Sq qual (aA st) s.heap.objs.size f Ä))->(A.deeper (Sq qual (aA st) s.heap.objs.size f Ä)).units+64<RR->sp vs H Q E->
   ∃t,č (xh Ō P w K mg base N qual (aA st) f Ä A outer s H E).Ι (bK st) t/\t { nx:=λ_ H'=>Q .È H',rt:=Q } (WK N vs) H) (len:∀vs H Q E,sp vs H Q E->vs.length=ps.length:=by intro _ _ _ _ h;cases h;subst_vars;rfl):Aq P w K mg base (k+1) C m ps sp:=by
 obtain⟨f,fd,F,b,m⟩:=F.ex
 exact{f,fd,F.ok S len λÄ A outer s H vs Q E hr h=>Ā f Ä A outer s H vs Q E hr hr.units h,b,m}
theorem ħ.mono(D:ħ P w K mg base j x ps sp)(h:j<=k):ħ P w K mg base k x ps sp:=by
 obtain⟨f,fd,F,b⟩:=D;exact⟨f,fd,F.mono h,b⟩
structure gH(K:Qx)(mg:Str->Option Qt)(C:Qs)(x:Str)(up:List Qs):Prop where
 mg:mg x=Wv (.ref C)
 cl:ĺ K C
 mro:∃cd,W.clsIn K C=Wv cd/\cd.mro=up.map QJ++[Rq "object"]
 ty:W.typeIn K (.ref C)=Wv (.type "type")
 kc:Rl K (.ref C) "__class__"=Wv (Wv (.builtin "object.__class__"))
 cg:Sg K (.builtin "object.__class__") "__get__"=Wv (Wv (.builtin "getset_descriptor.__get__"))
 ct:Vp K (.builtin "object.__class__")=Wv true
 mks:Vo K C=true
 kp:RB K (.ref C)=true
variable{C D:Qs}{x y:Str}{up vp:List Qs}
theorem gH.sub(O:gH K mg C x up) (b):Wt K C b=Wv ((up.map QJ++[Rq "object"]).contains b):=by
 obtain⟨cd,h1,h2⟩:=O.mro;unfold Wt;rw[h1];show(if cd.mro.isEmpty=true then Ww else Wv (cd.mro.contains b))=_;rw[h2,if_neg (by cases up<;>simp)]
theorem vG(up:List Qs)(D:Qs):(up.map QJ++[Rq "object"]).contains (QJ D)=decide (D∈up):=by
 induction up with
 |nil=>rfl
 |cons a r ih=>
  show((QJ D==QJ a)||(r.map QJ++[Rq "object"]).contains (QJ D))=_;rw[ih];by_cases h:D=a
  ·subst h;simp
  have:(QJ D==QJ a)=false:=by
   rw[Pe];intro z;exact h (Value.ref.inj (beq_iff_eq.mp z))
  rw[this,Bool.false_or];simp[h]
theorem gH.kit(O:gH K mg C x up)(U0z:gH K mg D y vp)(hs:C∈up):Q9 K (.ref C) (.ref D)=Wv (decide (D∈up)):=by
 unfold Q9;split
 ·rename_i q;have:C=D:=Value.ref.inj (beq_iff_eq.mp q);rw[<-this,decide_eq_true hs]
 obtain⟨cd,h1,_⟩:=U0z.mro;unfold W.kitCls;dsimp only;rw[h1,U0z.ty];rw[if_pos (by rfl)];show Wt K C (.ref D)=_;rw[O.sub,vG]
theorem gH.KP(O:gH K mg C x up)(e:H a=Wv (.ins C dx fs)):pS K H (.ref a) (.ref C):=
 .ins e O.cl O.kc O.cg O.ct ((O.sub _).trans (by simp))
end
section
variable{X:Cx}{k j:Nat}{C:Qs}{x m:Str}{ps:List Str}{sp:Sp}{o e:Expr}{es:List Expr}{ta:TE}{t:TA}{p apos pos:Pos}{up:List Qs}
theorem bb(O:gH X.K X.mg C x up)(D:Aq X.prog X.w X.K X.mg X.base j C "__init__" ps sp)(hr:gp k X.A)(ha:PA X (e::es) t)(hj:j+1<=k:=by decide)(hg:Gl X x:=by rfl)(ģ:(x==("__debug__":Str))=false:=by decide)
  (he:QA (e::es) X.env=(false,QV e X.env)::QA es X.env:=by rfl) (ą:(Q7 pos (QA es X.env)).any (·.1)=false:=by rfl):PE X (.Call (.Name x p) (e::es) [] pos) (ID C sp [] E0 t):=by
 obtain⟨f,fd,F,b,m⟩:=D
 exact Hh ⟨O.mks,m.at_,m.fn,O.kp⟩ F (hr.mono hj) hg O.mg b .nil zp ha ģ he ą
def JX(M:Qs->Sp->Prop)(m:Str)(ta:TE)(t:TA):TE:=λB H Q=>ta B H λx H1=>∃a C dx fs sp,x=.ref a/\H1 a=Wv (.ins C dx fs)/\fs.lookup m=Ww/\M C sp/\t B H1 λvs H2=>sp (x::vs) H2 Q E0
theorem rB(he:PE X o ta)(hM:∀C sp,M C sp->ĺ X.K C/\∃ps,Aq X.prog X.w X.K X.mg X.base j C m ps sp)(hr:gp k X.A)(hj:j<=k:=by decide)
  (ht:QV (.Call (.Attribute o m apos) [] [] pos) X.env=(do
   let ov<-QV o X.env
   VN apos.atName
   let (f,first)<-SU [ov] (Vn ov m pl)
   callWith pos f first (Q7 pos (QA [] X.env)) (Ta pos (RW [] X.env))):=by rfl) :
  PE X (.Call (.Attribute o m apos) [] [] pos) (JX M m ta Hr):=by
 intro pins s B H Q I h
 refine W.methodCall_KW (pl:=pl) (Ï (he pins s B H _ I h) λu s1 ⟨x,H1,I1,rx,a,C,dx,fs,sp,ex,ea,l,hm,q⟩=>?_) ht
 obtain⟨c,ps,f,fd,F,b,hm⟩:=hM C sp hm
 subst ex
 obtain rfl:u=QJ a:=rx
 refine AY I1 ea c hm l ?_
 exact W.callWith_K0 (first:=[.ref a]) I1.ċ hm.kp (A8 (us:=[.ref a]) (vs:=[.ref a]) (dvs:=[]) F (hr.mono hj) b .nil zp I1 (.cons rfl .nil) q)
structure OfC(K:Qx)(C:Qs)(m:Str):Prop where
 ga:Sg K (.ref C) "__getattribute__"=Wv (Wv (.builtin "type.__getattribute__"))
 rd:W.readsIn K C (.type "type")=true
 fc:∃f,Rl K (.ref C) m=Wv (Wv (.ref f))/\W.findCls K (.ref C) (.type "type") m=Wv (.val (.ref f))
theorem dF(O:gH X.K X.mg C x up)(W:OfC X.K C m)(D:Aq X.prog X.w X.K X.mg X.base j C m ps sp)(hr:gp k X.A)(ha:PA X (e::es) t)(hj:j<=k:=by decide)(hg:Gl X x:=by rfl)(ģ:(x==("__debug__":Str))=false:=by decide)
  (hst:QA (e::es) X.env=(false,QV e X.env)::QA es X.env:=by rfl) (ą:(Q7 pos (QA es X.env)).any (·.1)=false:=by rfl)
  (ht:QV (.Call (.Attribute (.Name x p) m apos) (e::es) [] pos) X.env=(do
   let ov<-QV (.Name x p) X.env
   VN apos.atName
   let (f,first)<-SU [ov] (Vn ov m pl)
   callWith pos f first (Q7 pos (QA (e::es) X.env)) (Ta pos (RW [] X.env))):=by rfl) :
  PE X (.Call (.Attribute (.Name x p) m apos) (e::es) [] pos) (wY sp [] E0 t):=by
 obtain⟨f,fd,F,b,hm⟩:=D
 intro pins s B H Q I h
 refine PySem.W.methodCall_KW (pl:=pl) (tE I hg O.mg ?_ ģ) ht
 obtain⟨f',h1,h2⟩:=W.fc
 have ef:f=f':=by
  have:=hm.at_.symm.trans h1;cases this;rfl
 subst ef
 refine PySem.W.method_cls I.ċ W.ga (PySem.W.cls_value I.ċ W.rd h2 rfl ?_)
 refine PySem.W.callWith_K (h₀:=X.base) I.ok.mod.kin hm.kp (Ï (ha pos pins _ B H _ (I.tok _) h) λus s2 ⟨vs,H2,I2,r,q2⟩=>{I2.ċ,?_}) hst ą
 exact A8 (us:=us) (vs:=vs) F (hr.mono hj) b .nil zp I2 r q2
end
theorem Kg{K:Qx}{C:Qs}{m qual:Str}{st:QL}{ps:List Str}{f:Qs}{oc:Qt}{od an:Option Qs}{ă:Array (Option Qt)}{kV doc pm Ä ct:Qt}
  (a:Rl K (.ref C) m=Wv (Wv (.ref f))) (fn:Ws K (.ref f)=true) (l:K.lookup f=Wv {oc,od,.func (Rp m qual (b9 st) (bK st) (aA st) .none kV doc pm an Ä ct),ă}) (c:SI K Ä qual=true) (k:RB K (.ref f)=true)
  (hb:∀(kV doc pm:Qt)(an:Option Qs)(Ä ct:Qt)(us:List Qt),us.length=ps.length->bindArgs (Rp m qual (b9 st) (bK st) (aA st) .none kV doc pm an Ä ct) {us,[]}=pure (ps.zip us)):Ď K C m qual st ps:=
 {f,_,xK l c k,(xK l c k).binds hb,⟨a,fn,k⟩}
end L2
namespace L2
open PySem
end L2
namespace L2
open PySem PySem.Spec PyProof.Rows
section
variable{X:Cx}
def wC:V->Bool
 | .Ϻ _=>false
 | .Į _=>false
 |_=>true
theorem rR(hx:wC x=true)(ru:WC x u)(rv:WC x v) (A s):TM A s u v true:=by
 cases x with
 |È=>cases ru;cases rv;exact .same _
 |bl b=>cases ru;cases rv;exact .same _
 |int i=>
  obtain⟨t,rfl⟩:=ru;obtain⟨t',rfl⟩:=rv;have:=UR (A:=A) (s:=s) i t i t';rwa [beq_self_eq_true]at this
 |str y=>
  obtain⟨t,rfl⟩:=ru;obtain⟨t',rfl⟩:=rv;have:=US (A:=A) (s:=s) y t y t';rwa [beq_self_eq_true]at this
 |Į _=>cases hx
 |Ϻ _=>cases hx
 |ref a=>cases ru;cases rv;exact .same _
 |ty n=>cases ru;cases rv;exact .same _
theorem KZ(hu:X.A.units+64<RR):Ô X (QK .Eq) (λx y H Q=>∃p q xs,x=.ref p/\y=.ref q/\À X.K H p xs/\À X.K H q xs/\xs.all wC=true/\Q (.bl true) H):=by
 intro pins s B H x y v u Q I rx ry h;obtain⟨p,q,xs,rfl,rfl,hp,hq,hf,k⟩:=h;cases rx;cases ry;obtain⟨Â,r1,⟨o,n,e1,c1,_,d1⟩,_⟩:=I.list hp;obtain⟨jts,r2,⟨o2,n2,e2,c2,_,d2⟩,_⟩:=I.list hq;have l1:=r1.length;have l2:=r2.length;refine SeqAt.eq_listAt (e:=λ_=>true) ⟨o,e1,c1,n,d1⟩ ⟨o2,e2,c2,n2,d2⟩ (by simp;lia) () (λj h1 h2=>?_) ?_
 ·simp at h1 h2;obtain⟨x,hx⟩:∃x,xs[j]?=Wv x:={xs[j]'(()),NN ()};obtain⟨u1,g1,w1⟩:=r1.get hx;obtain⟨u2,g2,w2⟩:=r2.get hx;have z1:Â.toArray[j]'(by simpa using h1)=u1:=by
   have:=NN h1;rw[g1]at this;simpa using (QB this).symm
  have z2:jts.toArray[j]'(by simpa using h2)=u2:=by
   have:=NN h2;rw[g2]at this;simpa using (QB this).symm
  rw[z1,z2];exact rR (O7.mp hf x (NO hx)) w1 w2 _ _
 have:((Q1 Â.toArray.size).all λ_=>true)=true:=by simp
 rw[this];exact⟨.bl true,H,I,rfl,k⟩
def MN(K:Qx):R2:=λx y H Q=>match x,y with
 | .ref p,.ref q=>(∃d e,oW K H (.ref p) d/\oW K H (.ref q) e/\QY d=true/\QY e=true/\Q (.bl (V5 d e)) H)\/(∃xs,À K H p xs/\À K H q xs/\xs.all wC=true/\Q (.bl true) H)
 |x,y=>DG x y=true/\Q (.bl (decide (x=y))) H
theorem Mg(hu:X.A.units+64<RR):Ô X (QK .Eq) (MN X.K):=((Ni hu).or (KZ hu)).imp λx y H Q q=>by
 by_cases hr:∃p q,x=V.ref p/\y=V.ref q
 ·obtain⟨p,q',rfl,rfl⟩:=hr;rcases q with q|⟨xs,h1,h2,h3,h4⟩
  ·exact .inl q
  exact .inr ⟨p,q',xs,rfl,rfl,h1,h2,h3,h4⟩
 refine .inl ?_;cases x<;>cases y<;>first|exact q|exact absurd {_,_,rfl,rfl} hr
end
section
variable{κ:Type}[DecidableEq κ]
def cc(kvs:List (κ×V))(k:κ):Option V:=(kvs.find? λkv=>decide (kv.1=k)).map (·.2)
def WD(kvs:List (κ×V))(k:κ)(v:V):List (κ×V):=
 if(kvs.any λkv=>decide (kv.1=k))=true then kvs.map (λkv=>if kv.1=k then(kv.1,v)else kv)else kvs++[(k,v)]
theorem eA{p:κ×V}{r:List (κ×V)}{k:κ}(e:p.1=k):cc (p::r) k=Wv p.2:=by simp[cc,Ov,e]
theorem dI{p:κ×V}{r:List (κ×V)}{k:κ}(e:¬ p.1=k):cc (p::r) k=cc r k:=by simp[cc,Ov,e]
theorem i7(k:κ):∀kvs:List (κ×V),(kvs.any λkv=>decide (kv.1=k))=(cc kvs k).isSome
 | []=>rfl
 |p::r=>by
  rw[Pr];by_cases e:p.1=k
  ·simp only[eA e,decide_eq_true e,Bool.true_or,UT]
  rw[dI e,decide_eq_false e,Bool.false_or];exact i7 k r
theorem yW(k j:κ)(y:V):∀kvs:List (κ×V),cc (kvs.map λkv=>if kv.1=k then(kv.1,y)else kv) j=(cc kvs j).map λx=>if j=k then y else x
 | []=>rfl
 |p::r=>by
  have ih:=yW k j y r;rw[N9];by_cases h:p.1=k
  ·rw[if_pos h];by_cases e:p.1=j
   ·rw[eA (p:=(p.1,y)) e,eA e,OH,if_pos (e.symm.trans h)]
   rw[dI (p:=(p.1,y)) e,dI e,ih]
  rw[if_neg h];by_cases e:p.1=j
  ·rw[eA (p:=p) e,eA e,OH,if_neg (λz=>h (e.trans z))]
  rw[dI (p:=p) e,dI e,ih]
theorem wc(k j:κ)(y:V):∀kvs:List (κ×V),cc kvs k=Ww->cc (kvs++[(k,y)]) j=if j=k then Wv y else cc kvs j
 | [],_=>by
  by_cases e:k=j
  ·rw[if_pos e.symm];exact eA (p:=(k,y)) e
  rw[if_neg (λz=>e z.symm)];exact dI (p:=(k,y)) e
 |p::r,hn=>by
  rw[Pg];have hk:¬ p.1=k:=λz=>by rw[eA z]at hn;cases hn
  rw[dI hk]at hn;have ih:=wc k j y r hn;by_cases e:p.1=j
  ·rw[eA e,eA e,if_neg (λz=>hk (e.trans z))]
  rw[dI e,dI e,ih]
theorem ub(kvs:List (κ×V))(k j:κ)(y:V):cc (WD kvs k y) j=if j=k then Wv y else cc kvs j:=by
 unfold WD;by_cases a:(kvs.any λkv=>decide (kv.1=k))=true
 ·rw[if_pos a,yW];rw[i7]at a;by_cases e:j=k
  ·obtain⟨x,hx⟩:=OO.mp a;rw[if_pos e,e,hx,OH,if_pos rfl]
  rw[if_neg e];cases cc kvs j with
  |none=>rfl
  |some x=>rw[OH,if_neg e]
 rw[if_neg a];refine wc k j y kvs ?_;rw[i7]at a;cases q:cc kvs k with
 |none=>rfl
 |some x=>rw[q]at a;exact(a rfl).elim
theorem jR(kvs:List (κ×V))(k:κ)(v:V):(WD kvs k v).length<=kvs.length+1:=by
 unfold WD;split
 ·rw[NH];lia
 rw[NG,N7,OP];lia
theorem Ag{kvs:List (κ×V)}{k:κ}(v:V)(h:cc kvs k=Ww):WD kvs k v=kvs++[(k,v)]:=by
 unfold WD;rw[i7,h];exact if_neg ∅
theorem oU.kJ(r:oU o u):o.isSome=u.isSome:=by
 cases o with
 |none=>cases u with
  |none=>rfl
  |some _=>exact(show False from r).elim
 |some _=>cases u with
  |none=>exact(show False from r).elim
  |some _=>rfl
theorem KV.val(r:KV kvs vs)(k:κ):oU (cc kvs k) (valueAt vs k):=by
 unfold KV at r;induction r with
 |nil=>exact NY
 |@cons p q ps qs h t ih=>
  obtain⟨h1,h2⟩:=h;by_cases e:p.1=k
  ·have e':q.1=k:=h1.symm.trans e;have b:valueAt (q::qs) k=Wv q.2:=by simp[valueAt,Ov,e']
   rw[eA e,b];exact h2
  have e':¬ q.1=k:=λz=>e (h1.trans z);have b:valueAt (q::qs) k=valueAt qs k:=by simp[valueAt,Ov,e']
  rw[dI e,b];exact ih
theorem KV.any(r:KV kvs vs)(k:κ):(kvs.any λkv=>decide (kv.1=k))=vs.any λkv=>decide (kv.1=k):=by
 unfold KV at r;induction r with
 |nil=>rfl
 |cons h t ih=>rw[Pr,Pr,ih,h.1]
theorem KV.Kh(r:KV kvs vs)(k:κ)(ry:WC y u) :
  KV (kvs.map λkv=>if kv.1=k then(kv.1,y)else kv) (vs.map λkv=>if kv.1=k then(kv.1,u)else kv):=by
 unfold KV at r⊢
 induction r with
 |nil=>exact .nil
 |@cons p q ps qs h t ih=>
  rw[N9,N9]
  refine .cons ?_ ih
  obtain⟨h1,h2⟩:=h
  by_cases e:p.1=k
  ·rw[if_pos e,if_pos (h1.symm.trans e)];exact⟨h1,ry⟩
  rw[if_neg e,if_neg (λz=>e (h1.trans z))];exact⟨h1,h2⟩
theorem KV.put(r:KV kvs vs)(k:κ)(ry:WC y u):KV (WD kvs k y) (stored vs k u):=by
 unfold WD stored;rw[r.any k];by_cases e:(vs.any λkv=>decide (kv.1=k))=true
 ·rw[if_pos e,if_pos e];exact r.Kh k ry
 rw[if_neg e,if_neg e];exact Sj r ⟨rfl,ry⟩
theorem KV.keys{kvs:List (κ×V)}{vs:List (κ×Qt)}(r:KV kvs vs):kvs.map (·.1)=vs.map (·.1):=by
 unfold KV at r;induction r with
 |nil=>rfl
 |cons h t ih=>rw[N9,N9,ih,h.1]
theorem KV.length(r:KV kvs vs):kvs.length=vs.length:=Qy r
end
theorem tP(r:WC (kV k) u):(cA P w).is k u=true:=by
 cases k with
 |inl i=>obtain⟨t,e⟩:=(show ∃t,u=RI i t from r);subst e;exact zU P w i t
 |inr x=>obtain⟨t,e⟩:=(show ∃t,u=Uk x t from r);subst e;exact zd P w x t
theorem we:∀{ks:List Key}{us:List Qt},Wz (ks.map kV) us->ItemsAre (cA P w) ks us
 | [],_,r=>by rw[PR]at r;cases r;exact .nil
 |k::ks,_,r=>by
  rw[N9]at r;cases r with
  |cons h t=>exact .cons (tP h) (we t)
abbrev KT(H:Hp):List (List Key×V)->List (List Key×Qs×Qt)->Prop:=Paired λp q=>p.1=q.1/\H q.2.1=Wv (.tup (p.1.map kV))/\WC p.2 q.2.2
theorem KT.val(r:KT H kvs xs)(k:List Key):oU (cc kvs k) ((VC xs k).map (·.2)):=by
 induction r with
 |nil=>exact NY
 |@cons p q ps qs h t ih=>
  obtain⟨h1,_,h2⟩:=h;by_cases e:p.1=k
  ·have e':q.1=k:=h1.symm.trans e;have b:VC (q::qs) k=Wv q.2:=by simp[VC,Ov,e']
   rw[eA e,b];exact h2
  have e':¬ q.1=k:=λz=>e (h1.trans z);have b:VC (q::qs) k=VC qs k:=by simp[VC,Ov,e']
  rw[dI e,b];exact ih
theorem KT.Kh(r:KT H kvs xs)(k:List Key)(ry:WC y u) :
  KT H (kvs.map λkv=>if kv.1=k then(kv.1,y)else kv) (xs.map (putAt k u)):=by
 induction r with
 |nil=>exact .nil
 |@cons p q ps qs h t ih=>
  rw[N9,N9]
  refine .cons ?_ ih
  obtain⟨h1,h2,h3⟩:=h
  unfold putAt
  by_cases e:p.1=k
  ·rw[if_pos e,if_pos (h1.symm.trans e)];exact⟨h1,h2,ry⟩
  rw[if_neg e,if_neg (λz=>e (h1.trans z))];exact⟨h1,h2,h3⟩
theorem KT.put(r:KT H kvs xs)(k:List Key)(hb:H b=Wv (.tup (k.map kV)))(ry:WC y u) :
  KT H (WD kvs k y) (storedH xs k b u):=by
 have e:(kvs.any λkv=>decide (kv.1=k))=(VC xs k).isSome:=by
  rw[i7,(r.val k).kJ,PL]
 unfold WD storedH
 rw[e]
 by_cases q:(VC xs k).isSome=true
 ·rw[if_pos q,if_pos q];exact r.Kh k ry
 rw[if_neg q,if_neg q];exact Sj r ⟨rfl,hb,ry⟩
theorem KT.keeps(r:KT H kvs xs)(ht:∀b ys,H b=Wv (.tup ys)->H' b=Wv (.tup ys)):KT H' kvs xs:=
 Paired.fg r λ_ _ z=>{z.1,ht _ _ z.2.1,z.2.2}
section
variable{P:Program}{w:QD}{H:Hp}{h:QN}{a:Qs}
theorem IG(ok:ý P w H h)(e:Rd H a u):dN P w H h a u:=e.ok ok
theorem ql(ok:ý P w H h)(e:Rd H a (.dK kvs)):kvs.length<=sizeLine/\(a==Rr)=false/\∃vs,KV kvs vs/\h.DictOf (cA P w) a vs:=
 show dN P w H h a (.dK kvs)from IG ok e
theorem CS(ok:ý P w H h)(e:H a=Wv (.dK kvs)):kvs.length<=sizeLine/\(a==Rr)=false/\∃vs,KV kvs vs/\h.DictOf (cA P w) a vs:=ql ok (.inl e)
theorem ud(ok:ý P w H h)(e:H a=Wv (.tup (ks.map kV))):(Ul (cA P w)).is h ks a:=by
 obtain⟨_,Â,r,o,h1,h2,n,h3⟩:=(show dN P w H h a (.tup (ks.map kV))from ok a _ e);exact⟨o,Â.toArray,n,h1,h2,h3,by simpa using we r⟩
theorem zC(ok:ý P w H h)(e:Rd H a (.dT kvs)):kvs.length<=sizeLine/\(a==Rr)=false/\
  ∃xs,KT H kvs xs/\h.DictOfH (Ul (cA P w)) a xs:=by
 obtain⟨z,y,xs,r,o,es,ep,h1,h2,h3,h4,h5⟩:=(show dN P w H h a (.dT kvs)from IG ok e)
 refine{z,y,xs,r,o,es,ep,h1,h2,h3,h4,λx hx=>?_,h5}
 have all:∀{l:List (List Key×V)}{m:List (List Key×Qs×Qt)},KT H l m->∀x∈m,(Ul (cA P w)).is h x.1 x.2.1:=by
  intro l m q;induction q with
  |nil=>intro x hx;exact nomatch hx
  |@cons p q ps qs hq t ih=>
   intro x hx;rcases NJ.mp hx with e|hx
   ·subst e;exact ud ok (by rw[<-hq.1];exact hq.2.1)
   exact ih x hx
 exact all r x hx
theorem Mw(ok:ý P w H h)(e:H a=Wv (.dT kvs)):kvs.length<=sizeLine/\(a==Rr)=false/\
  ∃xs,KT H kvs xs/\h.DictOfH (Ul (cA P w)) a xs:=zC ok (.inl e)
end
def nG(H:Hp)(a:Qs)(y:V)(r:Option V):Prop:=
 (∃kvs k,Rd H a (.dK kvs)/\y=kV k/\r=cc kvs k)\/∃kvs k b,Rd H a (.dT kvs)/\y=.ref b/\H b=Wv (.tup (k.map kV))/\r=cc kvs k
def gI(H:Hp)(a:Qs)(y v:V)(H':Hp):Prop:=
 (∃kvs k,H a=Wv (.dK kvs)/\y=kV k/\kvs.length<sizeLine/\H'=upd H a (.dK (WD kvs k v)))\/
 ∃kvs k b,H a=Wv (.dT kvs)/\y=.ref b/\H b=Wv (.tup (k.map kV))/\kvs.length<sizeLine/\H'=upd H a (.dT (WD kvs k v))
theorem nG.k{H:Hp}{a:Qs}{kvs:List (Key×V)}{k:Key}(e:H a=Wv (.dK kvs)):nG H a (kV k) (cc kvs k):=.inl ⟨kvs,k,.inl e,rfl,rfl⟩
theorem gI.k{H:Hp}{a:Qs}{kvs:List (Key×V)}{k:Key}{v:V}(e:H a=Wv (.dK kvs))(hl:kvs.length<sizeLine):gI H a (kV k) v (upd H a (.dK (WD kvs k v))):=.inl ⟨kvs,k,e,rfl,hl,rfl⟩
section
variable{X:Cx}{pins:List (Qs×Obj)}{B:St}{H:Hp}{s:Qw}{a:Qs}{y v:V}{u r:Qt}{o:Option V}{A:QU}{E:Qt->Qw->Prop}
theorem Inv.big(I:Inv X pins B H s):Rr<s.heap.objs.size:=by
 have h:QI<s.heap.objs.size:=(I.mod.glob.keeps I.bk).lt;exact Nat.lt_trans ∅ h
theorem Dh(hu:A.units+1<RR)(I:Inv X pins B H s)(g:nG H a y (Wv v))(ry:WC y u)(h:∀w' s',Inv X pins B H s'->WC v w'->Q w' s') :
  wpAny (QG X.prog X.w) A (Tf (.ref a) u) Q E s:=by
 rcases g with⟨kvs,k,e,ey,l⟩|⟨kvs,k,b,e,ey,eb,l⟩
 ·subst ey;obtain⟨z,hd,vs,rel,dd⟩:=ql I.Æ e;obtain⟨w',hw,Ϧ⟩:=oU.some_of (v:=v) (o:=valueAt vs k) (by rw[l];exact rel.val k);exact wpAny_getItem_of (tP ry) dd.mapOf hw (h w' _ (I.tok _) Ϧ)
 subst ey
 cases (show u=QJ b from ry)
 obtain⟨z,hd,xs,rel,dd⟩:=zC I.Æ e
 obtain⟨w',hw,Ϧ⟩:=oU.some_of (v:=v) (o:=(VC xs k).map (·.2)) (by rw[l];exact rel.val k)
 obtain⟨p,hp,ϭ⟩:=Pc.mp hw
 refine wpAny_getItem_heap (Sf hu) (ud I.Æ eb) dd hp ?_
 rw[ϭ]
 exact h w' _ (I.tok _) Ϧ
theorem Nw(hu:A.units+1<RR)(I:Inv X pins B H s)(g:nG H a y o)(ry:WC y u)(h:∀s',Inv X pins B H s'->Q (.bool o.isSome) s') :
  wpAny (QG X.prog X.w) A (QK .In u (.ref a)) Q E s:=by
 rcases g with⟨kvs,k,e,ey,l⟩|⟨kvs,k,b,e,ey,eb,l⟩
 ·subst ey;obtain⟨z,hd,vs,rel,dd⟩:=ql I.Æ e;refine wpAny_in_of (tP ry) hd dd.mapOf ?_;rw[<-(rel.val k).kJ,<-l];exact h _ (I.tok _)
 subst ey
 cases (show u=QJ b from ry)
 obtain⟨z,hd,xs,rel,dd⟩:=zC I.Æ e
 refine wpAny_in_heap (Sf hu) (ud I.Æ eb) hd dd ?_
 have q:=(rel.val k).kJ
 rw[PL]at q
 rw[<-q,<-l]
 exact h _ (I.tok _)
theorem HR(hu:A.units+1<RR)(I:Inv X pins B H s)(g:nG H a y o)(ry:WC y u)(h:∀s',Inv X pins B H s'->Q (.bool (!o.isSome)) s') :
  wpAny (QG X.prog X.w) A (QK .NotIn u (.ref a)) Q E s:=by
 rcases g with⟨kvs,k,e,ey,l⟩|⟨kvs,k,b,e,ey,eb,l⟩
 ·subst ey;obtain⟨z,hd,vs,rel,dd⟩:=ql I.Æ e;refine wpAny_notIn_of (tP ry) hd dd.mapOf ?_;rw[<-(rel.val k).kJ,<-l];exact h _ (I.tok _)
 subst ey
 cases (show u=QJ b from ry)
 obtain⟨z,hd,xs,rel,dd⟩:=zC I.Æ e
 refine wpAny_notIn_heap (Sf hu) (ud I.Æ eb) hd dd ?_
 have q:=(rel.val k).kJ
 rw[PL]at q
 rw[<-q,<-l]
 exact h _ (I.tok _)
theorem qP(I:Inv X pins B H s)(mu:Mut (H a))(hs:RQ a s.heap h')(he:∃q,h'.get? a=Wv q)(new:dN X.prog X.w (upd H a ob) h' a ob) :
  Inv X pins B (upd H a ob) { s with heap:=h',toks:=t' }:=
 I.write (x:=a) (e:=a) mu (.inl rfl) (λb q hb z=>(hs.2 b hb).trans z) he new
theorem Bz(z:kvs.length<=sizeLine)(hd:(a==Rr)=false)(rel:KV kvs vs)(dd:h'.DictOf (cA P w) a vs) :
  dN P w H' h' a (.dK kvs):=⟨z,hd,vs,rel,dd⟩
theorem Ec(hu:A.units+1<RR)(I:Inv X pins B H s)(g:gI H a y v H')(ry:WC y u)(rv:WC v r)(h:∀s',Inv X pins B H' s'->Q Unit.unit s') :
  wpAny (QG X.prog X.w) A (setItem (.ref a) u r) Q E s:=by
 rcases g with⟨kvs,k,e,ey,l,eH⟩|⟨kvs,k,b,e,ey,eb,l,eH⟩
 ·subst ey eH;obtain⟨z,hd,vs,rel,dd⟩:=CS I.Æ e;have hz:vs.length<=sizeLine:=by rw[<-rel.length];exact z
  have hl:(WD kvs k v).length<=sizeLine:=by have:=jR kvs k v;lia
  refine wpAny_setItem_pairs (hsz:=hz) (tP ry) dd λh' ϛ hs=>h _ ?_;have he:∃q,h'.get? a=Wv q:=let ⟨q,_,_,hq,_⟩:=ϛ;⟨q,hq⟩
  exact qP I (by rw[e];exact NY) hs he (Bz hl hd (rel.put k rv) ϛ)
 subst ey eH
 cases (show u=QJ b from ry)
 obtain⟨z,hd,xs,rel,dd⟩:=Mw I.Æ e
 have hz:xs.length<=sizeLine:=by rw[<-Qy rel];exact z
 have hl:(WD kvs k v).length<=sizeLine:=by have:=jR kvs k v;lia
 refine wpAny_setItem_heap (hsz:=hz) (Sf hu) (ud I.Æ eb) dd λh' ϛ hs=>h _ ?_
 obtain⟨q,es,ep,hq,h2,h3,h4,_,h5⟩:=ϛ
 refine qP I (by rw[e];exact NY) hs ⟨q,hq⟩ {hl,hd,_,(rel.put k eb rv).keeps λc ys ec=>?_,q,es,ep,hq,h2,h3,h4,h5}
 rw[aR (LU ec e (λz=>nomatch z))]
 exact ec
end
section
variable{X:Cx}{pins:List (Qs×Obj)}{B:St}{H:Hp}{s:Qw}{a:Qs}{kvs:List (Key×V)}{k:Key}{u:Qt}{A:QU}{E:Qt->Qw->Prop}
theorem Mn(I:Inv X pins B H s)(e:Rd H a (.dK kvs))(h:∀t s',Inv X pins B H s'->Q (.int kvs.length t) s'):wpAny (QG X.prog X.w) A (call (.builtin "len") [.ref a]) Q E s:=by
 obtain⟨z,hd,vs,rel,dd⟩:=ql I.Æ e;refine call_len_dict hd dd (by rw[<-rel.length];rw[RT]at z;lia) ?_;rw[<-rel.length];exact h _ _ (I.tok _)
end
theorem Al(I:Inv X pins B H s)(g:nG H a y o):s.TypeIs (.ref a) "dict":=by
 rcases g with⟨kvs,k,e,_,_⟩|⟨kvs,k,b,e,_,_,_⟩
 ·obtain⟨_,_,vs,_,dd⟩:=ql I.Æ e;exact dd.typeIs
 obtain⟨_,_,xs,_,dd⟩:=zC I.Æ e;exact dd.typeIs
section
variable{X:Cx}{o i e value:Expr}{pos pos' tpos:Pos}{td ty tv:TE}
end
theorem tM(h:QN)(hb:Rr<h.objs.size):dN P w H (h.push { cls:=.type "dict",data:=.dict #[] }) h.objs.size (.dK []):=
 {NS _,beq_eq_false_iff_ne.mpr (OU (Of hb)),[],.nil,VF h}
def Jb:TE:=λ_ H Q=>∀p,H p=Ww->Q (.ref p) (upd H p (.dK []))
section
variable{X:Cx}{pos:Pos}
theorem nH:PE X (.Dict [] [] pos) Jb:=λpins s B H Q I h=>
 wpAny_Dict_empty {.ref s.heap.objs.size,_,I.laid (a:=s.heap.objs.size) (o:=.dK []) (t':=s.toks) (λ_ _ q=>Qv _ q) (NM _) (tM s.heap I.big),rfl,h _ (I.Æ.fresh (NM _))}
end
def Bw:List (TE×TE)->St->Hp->(List (V×V)->Hp->Prop)->Prop
 | [],_,H,Q=>Q [] H
 | (tk,tv)::r,B,H,Q=>tk B H λx H1=>tv B H1 λy H2=>Bw r B H2 λps H3=>Q ((x,y)::ps) H3
abbrev VV:List (V×V)->List (Qt×Qt)->Prop:=Paired λp q=>WC p.1 q.1/\WC p.2 q.2
def PPs(X:Cx)(pos:Pos)(keys:List (Option Expr))(values:List Expr)(trs:List (TE×TE)):Prop:=
 ∀(pins:List (Qs×Obj))(s:Qw)(B:St)(H:Hp)(Q:List (V×V)->Hp->Prop),Inv X pins B H s->Bw trs B H Q->
  wpAny (QG X.prog X.w) X.A (evalPairs (pairTrees keys values X.env pos)) (λvs s'=>∃ps H',Inv X pins B H' s'/\VV ps vs/\Q ps H') X.xe s
theorem HE:PPs X pos [] [] []:=λpins s B H Q I h=>pairTrees_nil_walk {[],H,I,.nil,h}
theorem nW(hk:PE X k tk)(hv:PE X v tv)(hr:PPs X pos ks vs trs) :
  PPs X pos (Wv k::ks) (v::vs) ((tk,tv)::trs):=λpins s B H Q I h=>
 pairTrees_cons_walk (Ï (hk pins s B H _ I h) λu s1 ⟨x,H1,I1,rx,q1⟩=>Ï (hv pins s1 B H1 _ I1 q1) λw2 s2 ⟨y,H2,I2,ry,q2⟩=>
  Ï (hr pins s2 B H2 _ I2 q2) λws s3 ⟨ps,H3,I3,rel,q3⟩=>{(x,y)::ps,H3,I3,.cons ⟨rx,ry⟩ rel,q3})
def bT(kvs more:List (Key×V)):List (Key×V):=more.foldl (λacc kv=>WD acc kv.1 kv.2) kvs
theorem KV.merge:∀{more:List (Key×V)}{rs:List (Key×Qt)}{kvs:List (Key×V)}{vs:List (Key×Qt)},KV more rs->KV kvs vs->KV (bT kvs more) (merged vs rs):=by
 intro more rs kvs vs r;unfold KV at r;induction r generalizing kvs vs with
 |nil=>intro q;exact q
 |@cons p q ps qs h t ih=>
  intro r0;have e:KV (WD kvs p.1 p.2) (stored vs q.1 q.2):=by
   have:=r0.put p.1 h.2;rw[<-h.1];exact this
  exact ih e
theorem jX:∀(more kvs:List (Key×V)),(bT kvs more).length<=kvs.length+more.length
 | [],kvs=>by show kvs.length<=kvs.length+0;lia
 |p::r,kvs=>by
  have h1:=jX r (WD kvs p.1 p.2);have h2:=jR kvs p.1 p.2;show(bT (WD kvs p.1 p.2) r).length<=_;rw[N7];lia
theorem vv:∀{kvs:List (Key×V)}{ws:List (Qt×Qt)},VV (kvs.map λkv=>(kV kv.1,kv.2)) ws->∃rs,Carries (cA P w) ws rs/\KV kvs rs
 | [],_,r=>by rw[PR]at r;cases r;exact{[],NY,.nil}
 |p::kvs,_,r=>by
  rw[N9]at r;cases r with
  |@cons a b as bs h t=>
   obtain⟨rs,c,q⟩:=vv (P:=P) (w:=w) t;obtain⟨b1,b2⟩:=b;exact{(p.1,b2)::rs,⟨tP h.1,rfl,c⟩,.cons ⟨rfl,h.2⟩ q}
def Lc(trs:List (TE×TE)):TE:=λB H Q=>∀p,H p=Ww->Bw trs B (upd H p (.dK [])) λps H2=>H2 p=Wv (.dK [])/\∃kvs:List (Key×V),ps=kvs.map (λkv=>(kV kv.1,kv.2))/\kvs.length<=15/\Q (.ref p) (upd H2 p (.dK (bT [] kvs)))
theorem HC(h:PPs X pos keys values trs)(hall:keys.all (·.isSome)=true)(hl:keys.length=values.length)(h0:keys≠[])
  (h15:keys.length<=15):PE X (.Dict keys values pos) (Lc trs):=by
 intro pins s B H Q I q
 have hn:=I.Æ.fresh (NM s.heap.objs.size)
 have I1:=I.laid (a:=s.heap.objs.size) (o:=.dK []) (h':=s.heap.push { cls:=.type "dict",data:=.dict #[] }) (t':=s.toks) (λ_ _ q=>Qv _ q) (NM _) (tM s.heap I.big)
 refine wpAny_Dict_walk (knd:=cA X.prog X.w) hall hl h0 h15 (Ï (h pins _ B _ _ I1 (q _ hn)) λws s2 z9=>?_);obtain⟨ps,H2,I2,rel,e,kvs,ep,lk,q2⟩:=z9
 subst ep
 obtain⟨rs,c,rk⟩:=vv (P:=X.prog) (w:=X.w) rel
 obtain⟨z,hd,vs0,r0,dd⟩:=CS I2.Æ e
 cases r0
 refine{rs,c,dd,λh' ϛ hs=>{.ref s.heap.objs.size,_,?_,rfl,q2}}
 have hz:(bT [] kvs).length<=sizeLine:=by
  have h1:=jX kvs [];rw[OP]at h1;rw[RT];lia
 have he:∃q,h'.get? s.heap.objs.size=Wv q:=let ⟨q,_,_,hq,_⟩:=ϛ;⟨q,hq⟩
 exact qP I2 (by rw[e];exact NY) hs he (Bz hz hd (rk.merge .nil) ϛ)
structure M1(X:Cx)(o:Expr)(m:Str)(apos:Pos)(e:Expr)(Ð:Pos):Prop where
 base:Q6 o m X.env (QV o X.env)=QV o X.env
 few:((Q7 Ð (QA [e] X.env)).all (λx=>!x.1)&&(Ta Ð (RW [] X.env)).all (λx=>x.1.isSome)
  &&decide (([e]:List Expr).length+([]:List Sb).length+(if([]:List Sb).isEmpty then 0 else 1)<30))=true
 line:(apos.endLine==Ð.line)=true
 trees:Q7 Ð (QA [e] X.env)=[(false,QV e X.env)]
structure M2(X:Cx)(o:Expr)(m:Str)(apos:Pos)(e f:Expr)(Ð:Pos):Prop where
 base:Q6 o m X.env (QV o X.env)=QV o X.env
 few:((Q7 Ð (QA [e,f] X.env)).all (λx=>!x.1)&&(Ta Ð (RW [] X.env)).all (λx=>x.1.isSome)
  &&decide (([e,f]:List Expr).length+([]:List Sb).length+(if([]:List Sb).isEmpty then 0 else 1)<30))=true
 line:(apos.endLine==Ð.line)=true
 trees:Q7 Ð (QA [e,f] X.env)=[(false,QV e X.env),(false,QV f X.env)]
section
variable{X:Cx}{pins:List (Qs×Obj)}{B:St}{H:Hp}{s:Qw}{a:Qs}{y d:V}{u r:Qt}{o:Option V}{A:QU}{E:Qt->Qw->Prop}
end
section
variable{X:Cx}{o e f:Expr}{apos Ð:Pos}{td ty tx:TE}
end
section
variable{X:Cx}{pins:List (Qs×Obj)}{B:St}{H:Hp}{s:Qw}{a:Qs}{kvs:List (Key×V)}{A:QU}{E:Qt->Qw->Prop}
end
section
variable{X:Cx}{pins:List (Qs×Obj)}{B:St}{H:Hp}{s:Qw}{a:Qs}{y:V}{u:Qt}{A:QU}{E:Qt->Qw->Prop}
end
section
variable{X:Cx}
theorem zZ(hu:X.A.units+64<RR):IxR X (λx y H Q=>∃a v,x=.ref a/\nG H a y (Wv v)/\Q v H):=by
 intro value slice pins s B H x y v u Q I rx ry h hs;obtain⟨a,z,rfl,g,q⟩:=h;cases rx;have hT:=Al I g;unfold UE;refine Qr ?_;rw[getitemInPython_of_ne hT.not_modules];refine Qr (VG hT PySem.F.slot_dict_getitem.lookup ?_);have h₂:wpAny (QG X.prog X.w) X.A (Tf (.ref a) u) (EP X pins B Q) X.xe s:=Dh () I g ry λw' s3 I3 Ϧ=>⟨z,H,I3,Ϧ,q⟩;have fin:wpAny (QG X.prog X.w) X.A (subscripted slice false (.ref a) u) (λr s₃=>wpAny (QG X.prog X.w) X.A (letTemporaryGo value (.ref a) r>>=λ_=>pure r) (EP X pins B Q) X.xe s₃) X.xe s:=by
  rw[hs];exact wpAny_operating (RF h₂ (λr s₃ h₃=>Qr (wpAny_letTemporaryGo (Qu h₃))) λ_ _ x=>x)
 first
  |exact Qu (Qr fin)
  |exact Qr (Qu (Qr fin))
  |exact Qr fin
inductive dgI(p:Qs)(y:V)(H:Hp)(Q:VK):Prop
 |mk (v) (h:nG H p y (Wv v)) (q:Q v H):dgI p y H Q
def Mt(K:Qx):R2:=λx y H Q=>match x,y with
 | .ref p,.int i=>ixS K p i H Q\/dgI p (.int i) H Q
 | .ref p,.str k=>dgI p (.str k) H Q
 | .str z,.int i=>∃c,z.length<=sizeLine/\Č z.cps.toList i=Wv c/\Q (.str ⟨#[c]⟩) H
 |_,_=>False
theorem KQ(hu:X.A.units+64<RR):IxR X (Mt X.K):=by
 intro value slice pins s B H x y v u Q I rx ry h hs;cases x with
 |ref p=>
  cases y with
  |int i=>
   rcases h with h|⟨w,g,q⟩
   ·exact Gh value slice pins s B H _ _ v u Q I rx ry h hs
   exact zZ hu value slice pins s B H _ _ v u Q I rx ry ⟨p,w,rfl,g,q⟩ hs
  |str k=>
   obtain⟨w,g,q⟩:=h;exact zZ hu value slice pins s B H _ _ v u Q I rx ry ⟨p,w,rfl,g,q⟩ hs
  |_=>exact(show False from h).elim
 |str z=>
  cases y with
  |int i=>exact Gh value slice pins s B H _ _ v u Q I rx ry h hs
  |_=>exact(show False from h).elim
 |_=>cases y<;>exact(show False from h).elim
theorem mR(hu:X.A.units+64<RR):F1 X (λo i v H Q=>∃a H',o=.ref a/\gI H a i v H'/\Q H'):=by
 intro pins s B H o i v ov iv u Q I ro ri rv h;obtain⟨a,H',rfl,g,q⟩:=h;cases ro;exact Ec () I g ri rv λs4 I4=>⟨H',I4,q⟩
inductive dpI(p:Qs)(y v:V)(H:Hp)(Q:Hp->Prop):Prop
 |mk (H') (h:gI H p y v H') (q:Q H'):dpI p y v H Q
inductive stL(p:Qs)(k:Int)(v:V)(H:Hp)(Q:Hp->Prop):Prop
 |mk (xs j) (h0:H p=Wv (.lst xs)) (h1:Λ xs.length k=Wv j) (q:Q (upd H p (.lst (xs.set j v)))):stL p k v H Q
def My:JL:=λo i v H Q=>match o,i with
 | .ref p,.int k=>stL p k v H Q\/dpI p (.int k) v H Q
 | .ref p,.str k=>dpI p (.str k) v H Q
 |_,_=>False
theorem dU(hu:X.A.units+64<RR)(hl:F1 X Iw):F1 X My:=by
 intro pins s B H o i v ov iv u Q I ro ri rv h;cases o with
 |ref p=>
  cases i with
  |int k=>
   rcases h with⟨xs,j,h1,h2,q⟩|⟨H',g,q⟩
   ·exact hl pins s B H _ _ v ov iv u Q I ro ri rv ⟨p,xs,k,j,rfl,rfl,h1,h2,q⟩
   exact mR hu pins s B H _ _ v ov iv u Q I ro ri rv ⟨p,H',rfl,g,q⟩
  |str k=>
   obtain⟨H',g,q⟩:=h;exact mR hu pins s B H _ _ v ov iv u Q I ro ri rv ⟨p,H',rfl,g,q⟩
  |_=>exact(show False from h).elim
 |_=>cases i<;>exact(show False from h).elim
theorem Mj(hu:X.A.units+64<RR):Ô X (QK .In) (λx y H Q=>∃a o,y=.ref a/\nG H a x o/\Q (.bl o.isSome) H):=by
 intro pins s B H x y v u Q I rx ry h;obtain⟨a,o,rfl,g,q⟩:=h;cases ry;exact Nw () I g rx λs3 I3=>⟨.bl o.isSome,H,I3,rfl,q⟩
theorem Ep(hu:X.A.units+64<RR):Ô X (QK .NotIn) (λx y H Q=>∃a o,y=.ref a/\nG H a x o/\Q (.bl (!o.isSome)) H):=by
 intro pins s B H x y v u Q I rx ry h;obtain⟨a,o,rfl,g,q⟩:=h;cases ry;exact HR () I g rx λs3 I3=>{.bl (!o.isSome),H,I3,rfl,q}
theorem IM(hu:X.A.units+64<RR):Ô X (QK .In) (λx y H Q=>fIn X.K false x y H Q\/∃a o,y=.ref a/\nG H a x o/\Q (.bl o.isSome) H):=Nq.or (Mj hu)
theorem tX(hu:X.A.units+64<RR):Ô X (QK .NotIn) (λx y H Q=>fIn X.K true x y H Q\/∃a o,y=.ref a/\nG H a x o/\Q (.bl (!o.isSome)) H):=G9.or (Ep hu)
theorem Jd:fG X (.builtin "len") (λxs H Q=>∃a kvs,xs=[.ref a]/\Rd H a (.dK kvs)/\Q (.int (kvs.length:Nat)) H):=by
 intro pins s B H xs us Q I r h;obtain⟨a,kvs,rfl,e,q⟩:=h;obtain⟨u,rfl,rfl⟩:=WL r;exact Mn I e λt s' I'=>{.int _,H,I',{_,rfl},q}
end
end L2
namespace PySem
open Sem (wp)
section
variable{prog:Program}{w:QD}{A:QU}{E:Qt->Qw->Prop}{s:Qw}
theorem xE:typeLookup (.type "list") "keys"=pure Ww:=am_miss_of_fast (by kernel_rfl)
theorem xn(hx:s.heap.get? a=Wv o)(hc:o.cls=.type "list")(hdat:o.data=.seq xs k)(hd:o.dict=Ww)(hA:A.handled=Ww)
  (h:∀h' tk,(∀b ob,s.heap.get? b=Wv ob->h'.get? b=Wv ob)->Q Ww { s with heap:=h',toks:=tk }):wpAny (QG prog w) A (getAttr? (.ref a) "keys") Q E s:=by
 obtain⟨c,dct,dat,sl⟩:=o
 simp only at hc hdat hd
 subst hc hdat hd
 obtain⟨hp,g,d,tk,os⟩:=s
 have hT:∀tk',(⟨hp,g,d,tk',os⟩:Qw).TypeIs (.ref a) "list":=λ_=>{_,hx,rfl}
 have f1:=sub_AttributeError
 have f3:=F.slot_list_getattribute.lookup
 have f4:=F.slot_list_getattribute.bind (.ref a)
 have f5:=am_list_getattr_none
 have hmiss:=xE
 have hname:(["__module__","__name__","__qualname__","__doc__","__annotations__"]:List Str).contains "keys"=false:=by decide+kernel
 unfold getAttr? getAttrBy? getAttrBy
 repeat (any_goals (first|assumption|exact hT _|((with_reducible show wpAny _ _ (call (Value.builtin "list.__getattribute__") _ _) _ _ _);refine Se F.slot_list_getattribute (hT _) am_entry_list_getattribute (F.args_list_getattribute_2 _ _) (meets_getattribute_miss_list a xs k sl "keys" _ hmiss hname ∅) ⟨hx,hA,λh' tk' e ϕ=>?_⟩)|wp_step))
 obtain⟨t',u',he⟩:=ϕ.there
 have hTe:(⟨h',g,d,tk',os⟩:Qw).TypeIs (.ref e) "AttributeError":={_,he,rfl}
 show wpAny _ _ (UU _ _ _ _ _ _ _) _ _ _
 unfold UU
 repeat (any_goals (first|assumption|wp_step))
 exact h _ _ ϕ.keeps
end
end PySem
namespace L2
open PySem PySem.Spec PyProof.Rows
theorem mZ:V8 table "dict.update.loop"=Wv R9.«dict.update.loop»:=Vs (by kernel_rfl)
theorem gE:plainId "dict.update.loop"=true:=by decide+kernel
section
variable{X:Cx}{pins:List (Qs×Obj)}{B:St}{H0:Hp}{A:QU}
theorem pair_items(h:s.heap.IsTuple t Â)(q:Q Â.toList s):wpAny (QG prog w) A (TV (.ref t)) Q E s:=by
 obtain⟨o,ho,hc,n,hd⟩:=h;unfold TV;refine Qr (Sr ⟨o,ho,hc⟩ ?_);rw[if_pos ∅];refine Qr ?_;obtain⟨c,dct,dat,sl⟩:=o;simp only at hc hd;subst hc hd;obtain⟨hp,g,d,tk,os⟩:=s;repeat (any_goals (first|assumption|wp_step))
theorem Bo(kvs:List (Key×V))(i:Nat)(h:kvs[i]?=Wv (k,v)):bT [] (kvs.take (i+1))=WD (bT [] (kvs.take i)) k v:=by
 unfold bT;rw[Od,h,Vc];rfl
theorem EK(hc:X.calm=true){l p it:Qs}{ps:List Qs}{kvs:List (Key×V)}{R:Result->Qw->Prop}(hA:A.handled=Ww)(hl:À X.K H0 l (ps.map V.ref))(hlen:ps.length=kvs.length)(hn:kvs.length<=1000)
  (hps:∀(i:Nat) t k v,ps[i]?=Wv t->kvs[i]?=Wv (k,v)->Ò X.K H0 t [kV k,v]) (hp:H0 p=Ww)
  (fin:∀s',Inv X pins B (upd H0 p (.dK (bT [] kvs))) s'->R (.ok (.ret .none)) s') :
  ∀n i s,n+i=ps.length->Inv X pins B (upd H0 p (.dK (bT [] (kvs.take i)))) s->vb X pins (upd H0 p (.dK (bT [] (kvs.take i)))) it->s.heap.IsListIter it l i->
   codeAny (QG X.prog X.w) A (.builtin "dict.update.loop" {[.ref p,.ref it,TH i,.none],[]}) R s:=by
 intro n
 induction n with
 |zero=>
  intro i s hi I hf st
  refine Ru mZ ?_
  rw[Ra gE _]
  have sm:=ai.upd hp (.dK (bT [] (kvs.take i)))
  obtain⟨Â,rv,pl,hz⟩:=I.list (sm.seq hl)
  have Ϙ:=rv.length
  rw[NH]at Ϙ
  obtain⟨f0,f1,f2,f3,f4,f5⟩:=hf
  unfold R9.«dict.update.loop»
  refine Qr (T1 hA st pl.isList (by simp;lia) λh' eb=>?_)
  have I':Inv X pins B (upd H0 p (.dK (bT [] (kvs.take i)))) { s with heap:=h' }:=I.turned (t':=s.toks) (λb o hb e=>eb b o hb e) f0 f1 f3 f4 f5
  rw[Pd ()]at I'
  exact Qr (Qu (Qu (fin _ I')))
 |succ n ih=>
  intro i s hi I hf st
  refine Ru mZ ?_
  rw[Ra gE _]
  have sm:=ai.upd hp (.dK (bT [] (kvs.take i)))
  obtain⟨Â,rv,pl,hz⟩:=I.list (sm.seq hl)
  have Ϙ:=rv.length
  rw[NH]at Ϙ
  obtain⟨t,ht⟩:∃t,ps[i]?=Wv t:={ps[i]'(()),NN ()}
  obtain⟨⟨k,v⟩,hk⟩:∃kv,kvs[i]?=Wv kv:={kvs[i]'(()),NN ()}
  obtain⟨u,hu1,hu2⟩:=rv.get (x:=.ref t) (i:=i) (by rw[NX,ht];rfl)
  cases hu2
  obtain⟨f0,f1,f2,f3,f4,f5⟩:=hf
  unfold R9.«dict.update.loop»
  refine Qr (TJ st pl.isList (x:=.ref t) (by simpa using hu1) λh' ĥ sb=>?_)
  have I1:Inv X pins B (upd H0 p (.dK (bT [] (kvs.take i)))) { s with heap:=h' }:=I.turned (t':=s.toks) (λb o hb e=>(sb.2 b hb).trans e) f0 f1 f3 f4 f5
  obtain⟨jts,rj,pt,_⟩:=I1.tuple (sm.tup (hps i t k v ht hk))
  obtain⟨u1,u2,e12,r1,r2⟩:∃u1 u2,jts=[u1,u2]/\WC (kV k) u1/\WC v u2:=by
   cases rj with
   |cons r1 q=>cases q with
    |cons r2 q=>cases q;exact{_,_,rfl,r1,r2}
  subst e12
  refine Qr (wpAny_holding (Qr (wpAny_tryCatch (pair_items pt ?_))))
  show wpAny _ _ (SU [u1,u2] (dictSet p u1 u2)) _ _ _
  refine wpAny_holding ?_
  obtain⟨z,hd,vs,rel,dd⟩:=CS I1.Æ (av (H:=H0) (a:=p) (o:=.dK (bT [] (kvs.take i))))
  have hz':vs.length<=sizeLine:=by rw[<-rel.length];exact z
  have hlk:(bT [] (kvs.take i)).length<=1000:=by
   have:=jX (kvs.take i) [];rw[Oh,OP]at this;lia
  have hlp:(WD (bT [] (kvs.take i)) k v).length<=sizeLine:=by
   have h1:=jR (bT [] (kvs.take i)) k v;have h2:=aL hlk;lia
  refine wpAny_dictSet_pairs (hsz:=hz') (tP r1) dd λh2 ϛ hs=>?_
  have he:∃q,h2.get? p=Wv q:=let ⟨q,_,_,hq,_⟩:=ϛ;⟨q,hq⟩
  have I2:=qP (t':=s.toks+1) (ob:=.dK (WD (bT [] (kvs.take i)) k v)) I1 (by rw[av];exact NY) hs he (Bz hlp hd (rel.put k r2) ϛ)
  rw[Hs,<-Bo kvs i hk]at I2
  have hne:it≠p:=λz=>by rw[z,av]at f0;cases f0
  have f0':upd H0 p (.dK (bT [] (kvs.take (i+1)))) it=Ww:=by
   rw[aR hne]at f0⊢;exact f0
  refine Qu {R8 gE _,?_}
  have ec:((i:Int)+1)=((i+1:Nat):Int):=by push_cast;rfl
  rw[ec]
  exact ih (i+1) _ () I2 ⟨f0',f1,f2,f3,f4,f5⟩ (ĥ.at λo e=>(hs.2 it hne).trans e)
theorem qu(hc:X.calm=true:=by rfl):fG X (.type "dict") (λxs H Q=>∃(l:Qs)(ps:List Qs)(kvs:List (Key×V)),xs=[.ref l]/\À X.K H l (ps.map V.ref)/\ps.length=kvs.length/\kvs.length<=1000/\
  (∀(i:Nat) t k v,ps[i]?=Wv t->kvs[i]?=Wv (k,v)->Ò X.K H t [kV k,v])/\∀p,H p=Ww->Q (.ref p) (upd H p (.dK (bT [] kvs)))):=by
 intro pins s B H xs us Q I r h
 obtain⟨l,ps,kvs,rfl,hl,hlen,hn,hps,q⟩:=h
 obtain⟨u,rfl,rfl⟩:=WL r
 have hA:=I.ok.hd hc
 have hp:=I.Æ.fresh (NM s.heap.objs.size)
 have I1:=I.laid (a:=s.heap.objs.size) (o:=.dK []) (t':=s.toks) (h':=s.heap.push { cls:=.type "dict",data:=.dict #[] }) (λ_ _ q=>Qv _ q) (NM _) (tM s.heap I.big)
 refine callType_codes (Q₁:=λobj s₁=>obj=.ref s.heap.objs.size/\s₁={ s with heap:=s.heap.push { cls:=.type "dict",data:=.dict #[] } }) F.kt_called_dict (F.kt_typeCall_dict_1 _) F.entry_dict_init (kt_code_dict_new _ ⟨rfl,rfl⟩) ?_
 rintro obj s₁ ⟨rfl,rfl⟩
 have ϯ:(s.heap.push { cls:=.type "dict",data:=.dict #[] }).DictOf (cA X.prog X.w) s.heap.objs.size []:=VF s.heap
 have sm:=ai.upd hp (.dK [])
 obtain⟨Â,rv,pl,hz⟩:=I1.list (sm.seq hl)
 obtain⟨o,n,ho,hoc,hod,ő⟩:=id pl
 refine{ϯ.typeIs,F.args_dict_init_2 _ _,?_}
 unfold R9.«dict.__init__»
 refine Qr ?_
 unfold Builtin.Dict.selfAndRest
 refine Qr (T2 ϯ.typeIs ?_)
 show wpAny _ _ (pure (s.heap.objs.size,[QJ l])) _ _ _
 refine Qu ?_
 show wpAny _ _ (Tv "dict.__init__" s.heap.objs.size (.ref l) [] .none) _ _ _
 unfold Tv
 refine Qr (Sr ⟨o,ho,hoc⟩ ?_)
 rw[if_pos ∅]
 refine Qr (xn ho hoc ő hod hA λh2 tk2 k2=>?_)
 have I2:Inv X pins B (upd H s.heap.objs.size (.dK [])) { s with heap:=h2,toks:=tk2 }:=I1.kept (t':=tk2) k2
 rw[if_pos (show(Ww:Option Qt).isNone=true from rfl)]
 obtain⟨ĳ,rv2,pl2,_⟩:=I2.list (sm.seq hl)
 refine Qr (UW (Qr (Tg pl2.isList ?_)))
 refine Qu {R8 gE _,?_}
 have I3:=I2.kept (h':=h2.push { cls:=.type "list_iterator",data:=.fields #[.ref l,.int 0 0] }) (t':=tk2) λb o e=>Qv _ e
 have fp:=I2.zE (H':=upd H s.heap.objs.size (.dK [])) (NM _) (I2.Æ.fresh (NM _))
 refine EK (X:=X) (H0:=H) (A:=X.A.in1) (p:=s.heap.objs.size) (kvs:=kvs) hc hA hl hlen hn hps hp (λs' I'=>?_) ps.length 0 _ rfl I3 fp {_,QE _ rfl,rfl,rfl}
 exact{rfl,.ref s.heap.objs.size,_,I',rfl,q _ hp}
end
section
variable{X:Cx}{pins:List (Qs×Obj)}{B:St}{H:Hp}{s:Qw}
theorem Inv.C3{h':QN}{t':Nat}{ch:List Qs}(I:Inv X pins B H s)(hf:∀b∈ch,vb X pins H b)(k:∀b o,b∉ch->s.heap.get? b=Wv o->h'.get? b=Wv o):Inv X pins B H { s with heap:=h',toks:=t' }:=by
 have nit:∀b u,H b=Wv u->b∉ch:=λb u e z=>by rw[(hf b z).1]at e;cases e
 refine I.step (g':=s.gens) (d':=s.drawn) (ch:=ch) (λb hb=>{(hf b hb).2.2.2.1,(hf b hb).2.1,(hf b hb).2.2.2.2.1,(hf b hb).2.2.2.2.2}) (λb o _ _ hc e _=>k b o hc e) (λb o _ _ hc e _=>⟨o.slots,k b o hc e⟩) (λ_ _ _ _ n=>n)
  (λb o hc e=>⟨o,k b o hc e⟩) (λ_ _ e=>e) (λ_ _ _ e=>e) (λb ps e=>{#[],by rw[e];simp}) (λm hm=>?_) (λb u e=>?_) I.bare
 ·obtain⟨o,es,ep,ho,r⟩:=hm;exact{o,es,ep,k _ o (λz=>(hf _ z).2.1 rfl) ho,r}
 refine(I.Æ b u e).vJ (λc v hc q=>k c v ?_ q) (λ_ q=>q) λ_ _ q=>q;rcases hc with rfl|hc
 ·exact nit _ _ e
 exact nit _ _ hc
theorem Inv.Mp(I:Inv X pins B H s)(hf:vb X pins H T)(hz:X.s₀.heap.objs.size<=T)(new:dN X.prog X.w (upd H T u) s.heap T u):Inv X pins B (upd H T u) s:=by
 obtain⟨f0,f1,f2,f3,f4,f5⟩:=hf;have ne0:∀b o,X.s₀.heap.get? b=Wv o->b≠T:=λb o e=>Of (Oa (QF e) hz);have ϩ:∀b v,H b=Wv v->b≠T:=λb v e z=>by rw[z,f0]at e;cases e
 refine⟨I.ok,I.os,I.bare,⟨I.base.keep,I.base.slot,λb o e n hx=>by rw[aR (ne0 b o e)];exact I.base.free b o e n hx,I.base.there,λb xs e=>by
   have:=I.base.vO b xs e;rw[aR (ϩ b _ this)];exact this,λb o v e=>by
   have:=I.base.sD b o v e;rw[aR (ϩ b _ this)];exact this,λb ps e=>by
   obtain⟨more,q⟩:=I.base.vI b ps e;exact{more,by rw[aR (ϩ b _ q)];exact q}⟩,I.loc,I.cell,by rw[aR (OU f1)];exact I.free,λx c e=>by rw[aR (f4 x c e)];exact I.kW x c e,
  λp hp=>by rw[aR (f5 p hp)];exact I.pin p hp,λb v e=>?_,I.len⟩
 by_cases hb:b=T
 ·subst hb;rw[av]at e;cases e;exact new
 rw[aR hb]at e;exact(I.Æ b v e).vJ (λ_ _ _ q=>q) (λc q=>by rw[aR (ϩ c _ q)];exact q) λc xs q=>by rw[aR (ϩ c _ q)];exact q
theorem Inv.Nu(I:Inv X pins B H s)(e:H a=Wv (.ā o u))(hn:∀o u,X.H₀ a≠Wv (.ā o u)):Inv X pins B (upd H a u) s:=by
 have nn:∀b,H b=Ww->b≠a:=λb q z=>by rw[z,e]at q;cases q
 have nt:∀b xs,H b=Wv (.tup xs)->b≠a:=λb xs q z=>by rw[z,e]at q;cases q
 have nw:∀b x,H b=Wv (.own x)->b≠a:=λb x q z=>by rw[z,e]at q;cases q
 have nb:∀b ps,H b=Wv (.Θ ps)->b≠a:=λb x q z=>by rw[z,e]at q;cases q
 refine⟨I.ok,I.os,I.bare,⟨I.base.keep,I.base.slot,λb o q n hx=>by
   have:=I.base.free b o q n hx;rw[aR (nn b this)];exact this,I.base.there,λb xs q=>by
   have:=I.base.vO b xs q;rw[aR (nt b xs this)];exact this,λb o v q=>by
   have hb:b≠a:=λz=>hn o v (by rw[<-z];exact q);rw[aR hb];exact I.base.sD b o v q,λb ps q=>by
   obtain⟨more,r⟩:=I.base.vI b ps q;exact{more,by rw[aR (nb b _ r)];exact r}⟩,I.loc,I.cell,by rw[aR (nn _ I.free)];exact I.free,λx c q=>by rw[aR (nn _ (I.kW x c q))];exact I.kW x c q,
  λp hp=>by rw[aR (nn _ (I.pin p hp).2.1)];exact I.pin p hp,λb v q=>?_,I.len⟩
 by_cases hb:b=a
 ·subst hb;rw[av]at q;cases q;exact(I.Æ b _ e).2.vJ (λ_ _ _ q=>q) (λc q=>by rw[aR (nw c _ q)];exact q) λc xs q=>by rw[aR (nt c _ q)];exact q
 rw[aR hb]at q;exact(I.Æ b v q).vJ (λ_ _ _ q=>q) (λc q=>by rw[aR (nw c _ q)];exact q) λc xs q=>by rw[aR (nt c _ q)];exact q
theorem Inv.freeze(I:Inv X pins B H s)(e:H a=Wv u)(mu:Mut (H a))(ho:s.heap.get? a=Wv o):Inv X pins B (upd H a (.ā o u)) s:=by
 have hk:=I.Æ a u e;have:=qP (a:=a) (h':=s.heap) (t':=s.toks) (ob:=.ā o u) I mu {rfl,λ_ _=>rfl} ⟨o,ho⟩ {ho,?_}
 ·exact this
 have nw:∀b x,H b=Wv (.own x)->b≠a:=λb x q z=>by rw[z]at q;rw[q]at mu;exact mu
 have nt:∀b xs,H b=Wv (.tup xs)->b≠a:=λb xs q z=>by rw[z]at q;rw[q]at mu;exact mu
 exact hk.vJ (λ_ _ _ q=>q) (λc q=>by rw[aR (nw c _ q)];exact q) λc xs q=>by rw[aR (nt c _ q)];exact q
end
def Itd(d:Qs)(o:Obj)(kvs:List (Key×V)):It:=
 {λi H=>H d=Wv (.ā o (.dK kvs))/\i<kvs.length,λi H x H'=>H'=H/\∃k v,kvs[i]?=Wv (k,v)/\x=kV k,λi H=>H d=Wv (.ā o (.dK kvs))/\kvs.length<=i}
theorem IP(h:(cA P w).is k u=true):WC (kV k) u:=by
 cases k with
 |inl i=>obtain⟨t,e⟩:=U3 (show Vw i u=true from h);exact⟨t,e⟩
 |inr x=>obtain⟨t,e⟩:=Ur (show UA x u=true from h);exact⟨t,e⟩
theorem DF{P:Program}{w:QD}{H:Hp}{h:QN}{d:Qs}{o:Obj}{kvs:List (Key×V)}{vs:List (Key×Qt)}{ep:Nat}(dd:h.DictAt (cA P w) d vs ep)(ho:h.get? d=Wv o){h':QN}(Ϯ:h'.get? d=Wv o):h'.DictAt (cA P w) d vs ep:=by
 obtain⟨o2,es,e,r⟩:=dd;rw[ho]at e;cases e;exact⟨o,es,Ϯ,r⟩
section
variable{X:Cx}
theorem DN{P:Program}{w:QD}{K:Qx}{tg:Expr}(d it:Qs)(o:Obj)(kvs:List (Key×V))(vs:List (Key×Qt))(ep:Nat)(rel:KV kvs vs)(hat:∀h:QN,h.get? d=Wv o->h.DictAt (cA P w) d vs ep) :
  WW P w K tg (Itd d o kvs) [it] it (λi h=>h.IsKeyIter it d i vs.length ep) where
 mem:=by simp
 obj:=λi h st b hb=>by
  have e:b=it:=by simpa using hb
  subst e;obtain⟨o,e,c,d⟩:=st;exact{o,e,λv z=>by rw[d]at z;cases z}
 keep:=λi h h' st k=>by
  obtain⟨o,e,r⟩:=st;exact{o,k it (by simp) o e,r}
 item:=by
  intro X hP hw hK hc i pins s B H E I hf st hg;subst hP hw hK;obtain⟨e,í⟩:=hg;have hd:=(show dN X.prog X.w H s.heap d (.ā o (.dK kvs))from I.Æ d _ e).1;have hl:=rel.length;obtain⟨f0,f1,f2,f3,f4,f5⟩:=hf it (by simp);obtain⟨⟨k,v⟩,hx⟩:∃kv,vs[i]?=Wv kv:={vs[i]'(()),NN ()};obtain⟨⟨k',v'⟩,ϕ⟩:∃kv,kvs[i]?=Wv kv:={kvs[i]'(()),NN ()};have hkk:k'=k:=by
   have:=congrArg (λl=>l[i]?) rel.keys;simp only[NX,hx,ϕ]at this;simpa using this
  subst hkk;refine wpAny_pyNext_dict_item st (hat _ hd) hx λkey h' œ ĥ sb=>?_;have I1:Inv X pins B H { s with heap:=h' }:=I.turned (t':=s.toks) (λb o hb e=>(sb.2 b hb).trans e) f0 f1 f3 f4 f5;obtain⟨oi,ei,ci,di⟩:=id ĥ;exact⟨key,rfl,y8 (s:={ s with heap:=h' }) ei ci di ∅ ⟨kV k',H,I1,IP œ,⟨rfl,k',v',ϕ,rfl⟩,ĥ,λb hb=>(hf b hb).1⟩⟩
 done:=by
  intro X hP hw hK hc i pins s B H E I hf st hg;subst hP hw hK;obtain⟨e,í⟩:=hg;have hd:=(show dN X.prog X.w H s.heap d (.ā o (.dK kvs))from I.Æ d _ e).1;have hl:=rel.length;obtain⟨f0,f1,f2,f3,f4,f5⟩:=hf it (by simp);exact wpAny_pyNext_dict_end (I.ok.hd hc) st (hat _ hd) (by simp;lia) λh' eb=>{rfl,I.turned (t':=s.toks) (λb o hb e=>eb b o hb e) f0 f1 f3 f4 f5}
 self:=λ_ _ _ _ _ st h=>wpAny_pyIter_keyiter st h
end
theorem o8{α β:Type}{F}:∀{l₁:List α}{l₂:List β},l₁.length=l₂.length->(∀(i:Nat) a b,l₁[i]?=Wv a->l₂[i]?=Wv b->F a b)->Paired F l₁ l₂
 | [],[],_,_=>.nil
 | [],_::_,h,_=>by simp at h
 |_::_,[],h,_=>by simp at h
 |x::xs,y::ys,h,f=>.cons (f 0 x y rfl rfl) (o8 (by simpa using h) λi a b ha hb=>f (i+1) a b (by simpa using ha) (by simpa using hb))
theorem Du{α β:Type}{F}{l₁:List α}{l₂:List β}(h:Paired F l₁ l₂):∀{i:Nat}{a:α}{b:β},l₁[i]?=Wv a->l₂[i]?=Wv b->F a b:=by
 induction h with
 |nil=>intro i a b h;simp at h
 |cons r t ih=>
  intro i a b ha hb;cases i with
  |zero=>simp only[Tw,Vd]at ha hb;subst ha hb;exact r
  |succ j=>exact ih (by simpa using ha) (by simpa using hb)
section
variable{X:Cx}{tg:Expr}
def C0(X:Cx)(d:Qs):Prop:=∀o u,X.H₀ d≠Wv (.ā o u)
def LO(X:Cx)(tl:TE):TI:=λB H R=>tl B H λx H1=>∃d kvs,x=.ref d/\H1 d=Wv (.dK kvs)/\∀o,C0 X d->(kvs.map (·.1)).Nodup->R (Itd d o kvs) (upd H1 d (.ā o (.dK kvs)))
theorem GC(hl:PE X l tl):PI X tg l (LO X tl):=by
 intro pins s B H R I h;refine Ï (hl pins s B H _ I h) λv s1 z9=>?_;obtain⟨x,H1,I1,r1,q1⟩:=z9;obtain⟨d,kvs,e,hd,q⟩:=q1;subst e;cases r1;obtain⟨z,hs,vs,rel,dd⟩:=CS I1.Æ hd;obtain⟨ep,dat⟩:=dd.dictAt;obtain⟨o,es,ho,r⟩:=id dat;have hn:C0 X d:=λo u z=>by
  have:=I1.base.sD d o u z;rw[hd]at this;cases this
 refine wpAny_pyIter_dict hs dat ?_;have I2:=I1.freeze hd (by rw[hd];exact NY) ho;have hfr:upd H1 d (.ā o (.dK kvs)) s1.heap.objs.size=Ww:=by
  rw[aR (O4 (QF ho))];exact I1.Æ.fresh (NM _)
 refine⟨s1.heap.objs.size,[s1.heap.objs.size],_,_,_,rfl,I2.kept (t':=s1.toks) λb o e=>Qv _ e,
  DN d _ o kvs vs ep rel (λh' h2=>DF (H:=H1) (kvs:=kvs) dat ho h2),{_,QE _ rfl,rfl,rfl},λb hb=>?_,q o hn (by rw[rel.keys];exact dat.nodup)⟩
 have e:b=s1.heap.objs.size:=by simpa using hb
 subst e;exact I1.zE (NM _) hfr
def II(X:Cx)(D:WV):St->Hp->Prop:=λB H=>∃d o kvs,C0 X d/\H d=Wv (.ā o (.dK kvs))/\D.nx B (upd H d (.dK kvs))
def Mo(X:Cx)(tl:TE)(g:TG)(tb:TS):TS:=λD B H=>tl B H λx H1=>∃d kvs,x=.ref d/\H1 d=Wv (.dK kvs)/\∀o,C0 X d->(kvs.map (·.1)).Nodup->∃Pv:Nat->St->Hp->Prop,Pv 0 B (upd H1 d (.ā o (.dK kvs)))/\
 (∀i B H,i<=kvs.length->Pv i B H->H d=Wv (.ā o (.dK kvs)))/\
 (∀i k v B H,kvs[i]?=Wv (k,v)->Pv i B H->g (kV k) B H λσ2 H2=>tb { D with nx:=Pv (i+1),ct:=Pv (i+1),bk:=II X D } σ2 H2)/\∀B H,Pv kvs.length B H->D.nx B (upd H d (.dK kvs))
theorem HG(hp:Wj (QG X.prog X.w) X.A X.env X.xe)(hc:X.calm=true)(hl:PE X l tl)(mono:∀B H (Q Q':V->Hp->Prop),(∀v H,Q v H->Q' v H)->tl B H Q->tl B H Q')
  (hg:PG X tg g) (hb:č X body tb) (hs:∀x,foldedSetIterable l X.env x=pure x:=by intro _;rfl):PS X (.For tg l body [] pos) (Mo X tl g tb):=by
 intro pins s B H D I h
 refine Ï (bG hp hc (GC hl) hg hb hs pins s B H { D with nx:=II X D } I ?_) λf s1 q=>?_
 ·refine mono B H _ _ (λx H1 q=>?_) h;obtain⟨d,kvs,e,hd,q⟩:=q;refine{d,kvs,e,hd,λo hn hnd=>?_};obtain⟨Pv,h0,hk,st,fin⟩:=q o hn hnd;refine{λi m B H=>m=kvs.length-i/\i<=kvs.length/\Pv i B H,{kvs.length,by simp,NS _,h0},?_};rintro i m B H ⟨rfl,hi,p⟩;by_cases í:i<kvs.length
  ·refine .inr {⟨hk i B H hi p,í⟩,Pv (i+1),λB' H' p'=>{kvs.length-(i+1),(),rfl,í,p'},λx H' y=>?_};obtain⟨e,k,v,hx,y⟩:=y;subst e y;exact st i k v B _ hx p
  have e:i=kvs.length:=()
  subst e;exact .inl {{hk _ B H hi p,NM _},d,o,kvs,hn,hk _ B H hi p,fin B H p}
 cases f with
 |next=>
  obtain⟨σ1,H1,I1,d,o,kvs,hn,e,q⟩:=q
  exact{σ1,_,I1.Nu e hn,q}
 |cont=>exact q
 |brk=>exact q
 |ret v=>exact q
theorem HF(hc:X.calm=true:=by rfl):fG X (.type "list") (λxs H Q=>∃d kvs,xs=[.ref d]/\Rd H d (.dK kvs)/\∀l,H l=Ww->Q (.ref l) (upd H l (.lst (kvs.map λkv=>kV kv.1)))):=by
 intro pins s B H xs us Q I r h;obtain⟨d,kvs,rfl,e,q⟩:=h;obtain⟨u,rfl,rfl⟩:=WL r;obtain⟨z,hs,vs,rel,dd⟩:=ql I.Æ e;obtain⟨ep,dat⟩:=dd.dictAt;have hl:=rel.length;refine W.kdl_call (W.kdl_dict (knd:=cA X.prog X.w) (kvs:=vs) (ep:=ep) hs) (I.ok.hd hc) dat () λh' tk acc c hk hS ľ=>?_;have hp:=I.Æ.fresh (NM s.heap.objs.size);refine{.ref s.heap.objs.size,_,I.laid (a:=s.heap.objs.size) (o:=.lst (kvs.map λkv=>kV kv.1)) (t':=tk) hk (NM _) {by rw[NH];exact z,acc.toList,c,?_,by simpa using hS},rfl,q _ hp};have hsz:acc.size=vs.length:=ľ.1;refine o8 (by simp[hsz,hl]) λi x y hx hy=>?_;rw[NX]at hx;obtain⟨k,v,hv,hk⟩:=ľ.2 i y (by rw[<-OL];exact hy);cases Ķ:kvs[i]? with
 |none=>rw[Ķ]at hx;cases hx
 |some kv=>
  rw[Ķ]at hx;have ϕ:kV kv.1=x:=QB hx;have:=congrArg (λl=>l[i]?) rel.keys;simp only[NX,Ķ,hv]at this;have hkk:kv.1=k:=by simpa using this
  rw[<-ϕ,hkk];exact IP hk
end
section
variable{prog:Program}{w:QD}{K:Type}[DecidableEq K]{knd:KeyKind prog w K}{A:QU}{E:Qt->Qw->Prop}{s:Qw}
theorem wK(hd:(d==Rr)=false)(q:Q Unit.unit s):wpAny (QG prog w) A (T3 d) Q E s:=by
 unfold T3;rw[if_neg (by rw[hd];exact NT)];exact Qu q
theorem A9(h:Pairs knd es Ģ):valueAt Ģ k=Wv v->∃j e,(es.findIdx? λe=>knd.is k e.key)=Wv j/\es[j]?=Wv e/\e.val=v:=by
 induction h with
 |nil=>intro z;cases z
 |@cons e kv es Ģ h1 h2 t ih=>
  intro z;by_cases hk:kv.1=k
  ·subst hk;have:valueAt (kv::Ģ) kv.1=Wv kv.2:=by simp[valueAt,Ov]
   rw[this]at z;exact{0,e,by rw[UX,if_pos h1],rfl,by rw[h2];exact QB z}
  have:valueAt (kv::Ģ) k=valueAt Ģ k:=by simp[valueAt,Ov,hk]
  rw[this]at z;obtain⟨j,f,hj,hf,hv⟩:=ih z;have hn:¬ knd.is k e.key=true:=λq=>hk (knd.inj _ _ _ h1 q);exact{j+1,f,by rw[UX,if_neg hn,hj];rfl,hf,hv}
theorem AM{id a b kvs Ģ Q}(hda:(a==Rr)=false)(ģ:(b==Rr)=false)(ha:s.heap.DictOf knd a kvs)(hb:s.heap.DictOf knd b Ģ)(hl:kvs.length=Ģ.length)
  (hv:∀(i:Nat) k v,kvs[i]?=Wv (k,v)->∃v',valueAt Ģ k=Wv v'/\TM A s v v' true) (q:Q true s):wpAny (QG prog w) A (Ss id a b) Q E s:=by
 obtain⟨o,es,ep,ho,hx,hd,hk,hp,hn⟩:=ha
 obtain⟨o2,es2,ep2,ho2,hx2,hd2,hk2,ϭ,Ν⟩:=hb
 have hz:es.size=kvs.length:=by rw[<-hp.length];simp
 have hz2:es2.size=Ģ.length:=by rw[<-ϭ.length];simp
 unfold Ss
 refine Qr (wK hda ?_)
 refine Qr (wK ģ ?_)
 refine Qr (Su ho hd ?_)
 refine Qr (Su ho2 hd2 ?_)
 rw[if_neg (by simp;lia)]
 refine Qr (VH ho hd ?_)
 refine Qr ?_
 rw[Std.Legacy.Range.forIn_eq_forIn_range']
 simp only[Std.Legacy.Range.size,Nat.sub_zero,Nat.add_sub_cancel,Nat.div_one]
 refine wpAny_forIn_list _ (λrest b s'=>b=(Ww,Unit.unit)/\s'=s/\∀i∈rest,i<es.size) _ ?_ ?_ _ _ {rfl,rfl,λi hi=>?_}
 ·rintro i rest c s' ⟨rfl,rfl,hr⟩;have hi:i<es.size:=hr i (by simp);refine Qr (Su ho hd ?_);rw[Pl hi];obtain⟨⟨k,v⟩,Ķ⟩:∃kv,kvs[i]?=Wv kv:={kvs[i]'(()),NN ()};obtain⟨œ,Ĩ⟩:=hp.get? (e:=es[i]) (by simp[hi]) Ķ;obtain⟨k',ϳ,hh⟩:=hk es[i] (Array.getElem_mem hi);obtain⟨v',hv',he⟩:=hv i k v Ķ;have hkk:k'=k:=knd.inj _ _ _ ϳ œ;subst hkk;show wpAny _ _ (SU [es[i].key,es[i].val] _>>=_) _ _ _;refine Qr (wpAny_holding ?_);rw[hh,Ĩ];refine Qr (wpAny_dictFind_of œ ho2 hd2 hk2 ?_);obtain⟨j,f,hj,hf,hfv⟩:=A9 ϭ hv';rw[<-List.findIdx?_toArray,Ud]at hj;rw[OL]at hf;rw[hj];refine Qr (Su ho2 hd2 ?_);rw[hf];show wpAny _ _ (SU [f.val] (eqBool v f.val)) _ _ _;rw[hfv];refine wpAny_holding (he _ _ _ _ ?_);rw[if_neg ∅];refine Qr (VH ho hd ?_);rw[if_neg (by simp)];exact Qu {rfl,rfl,λz hz=>hr z (NK _ hz)}
 ·rintro c s' ⟨rfl,rfl,_⟩;exact Qu q
 have:=(List.mem_range'_1.mp hi).2
 lia
end
theorem xx{κ:Type}[DecidableEq κ]:∀{kvs:List (κ×V)}{i:Nat}{k:κ}{v:V},(kvs.map (·.1)).Nodup->kvs[i]?=Wv (k,v)->cc kvs k=Wv v
 | [],i,k,v,_,h=>by simp at h
 |p::r,0,k,v,_,h=>by
  simp only[Tw,Vd]at h;subst h;exact eA (p:=(k,v)) rfl
 |p::r,i+1,k,v,hn,h=>by
  rw[N9]at hn;have hr:=Oq.mp hn;have hi:r[i]?=Wv (k,v):=by simpa using h
  have hne:¬ p.1=k:=λz=>hr.1 (by rw[z];exact Oe (f:=(·.1)) (NO hi));rw[dI hne];exact xx hr.2 hi
section
variable{X:Cx}
def FN(K:Qx)(H:Hp)(v v':V):Prop:=(v=v'/\wC v=true)\/∃p q xs,v=.ref p/\v'=.ref q/\À K H p xs/\À K H q xs/\xs.all wC=true
theorem HU(I:Inv X pins B H s)(hu:A.units<RR)(h:FN X.K H v v')(r:WC v u)(r':WC v' u'):TM A s u u' true:=by
 rcases h with⟨rfl,hf⟩|⟨p,q,xs,rfl,rfl,hp,hq,hf⟩
 ·exact rR hf r r' A s
 cases r;cases r';by_cases hpq:p=q
 ·subst hpq;exact .same _
 obtain⟨Â,r1,⟨o,n,e1,c1,_,d1⟩,_⟩:=I.list hp;obtain⟨jts,r2,⟨o2,n2,e2,c2,_,d2⟩,_⟩:=I.list hq;have l1:=r1.length;have l2:=r2.length;have hR:=SeqAt.RcAt.lists (A:=A) (s:=s) (e:=λ_=>true) (l:=p) (b:=q) (items:=Â.toArray) (items2:=jts.toArray) ⟨o,e1,c1,n,d1⟩ ⟨o2,e2,c2,n2,d2⟩ (by simp;lia) hu (λj h1 h2=>by
  simp at h1 h2;obtain⟨x,hx⟩:∃x,xs[j]?=Wv x:={xs[j]'(()),NN ()};obtain⟨u1,g1,w1⟩:=r1.get hx;obtain⟨u2,g2,w2⟩:=r2.get hx;have z1:Â.toArray[j]'(by simpa using h1)=u1:=by
   have:=NN h1;rw[g1]at this;simpa using (QB this).symm
  have z2:jts.toArray[j]'(by simpa using h2)=u2:=by
   have:=NN h2;rw[g2]at this;simpa using (QB this).symm
  rw[z1,z2];exact rR (O7.mp hf x (NO hx)) w1 w2 _ _)
 have:((Q1 Â.toArray.size).all λ_=>true)=true:=by simp
 rw[this]at hR;exact .of_refs hpq hR
theorem Lv(hu:X.A.units+64<RR):Ô X (QK .Eq) (λx y H Q=>∃a b kvs Ģ,x=.ref a/\y=.ref b/\Rd H a (.dK kvs)/\Rd H b (.dK Ģ)/\kvs.length=Ģ.length/\
  (∀k v,cc kvs k=Wv v->∃v',cc Ģ k=Wv v'/\FN X.K H v v')/\Q (.bl true) H):=by
 intro pins s B H x y v u Q I rx ry h
 obtain⟨a,b,kvs,Ģ,rfl,rfl,ha,hb,hl,hv,q⟩:=h
 cases rx
 cases ry
 obtain⟨z,hs,vs,rel,dd⟩:=ql I.Æ ha
 obtain⟨z2,Ő,vs2,rel2,dd2⟩:=ql I.Æ hb
 have e1:=rel.length
 have e2:=rel2.length
 refine wpAny_richCompare_same_room (op:=.Eq) dd.typeIs dd2.typeIs Ue (Rn Ue dd.typeIs PySem.F.entry_dict_eq ?_ (PySem.F.args_dict_eq_2 _ _)) ()
 show wpAny _ _ (Td "__eq__" {[.ref a,.ref b],[]}>>=_) _ _ _
 refine Qr ?_
 unfold Td
 refine Qr (T2 dd.typeIs ?_)
 show wpAny _ _ (pure (QJ a,QJ b)) _ _ _
 refine Qu ?_
 refine Qr (Tx (T:="dict") (b:=true) dd2.typeIs (by rw[Tb];kernel_rfl) ?_)
 show wpAny _ _ (Ss "dict.__eq__" a b>>=_) _ _ _
 refine Qr (AM hs Ő dd dd2 () (λi k v hi=>?_) ?_)
 ·obtain⟨⟨k',v'⟩,Ķ⟩:∃kv,kvs[i]?=Wv kv:={kvs[i]'(by have:=(NW.mp hi).1;lia),NN _};have hr:k'=k/\WC v' v:=Du rel Ķ hi;obtain⟨rfl,hrv⟩:=hr;obtain⟨w',hw,hq⟩:=hv k' v' (xx (by rw[rel.keys];exact(dd.dictAt.choose_spec).nodup) Ķ);have Ĩ:=rel2.val k';rw[hw]at Ĩ;cases hvv:valueAt vs2 k' with
  |none=>rw[hvv]at Ĩ;exact(show False from Ĩ).elim
  |some u'=>
   rw[hvv]at Ĩ;exact{u',rfl,HU I (show X.A.units+1<RR by lia) hq hrv Ĩ}
 show wpAny _ _ (ret (.bool true)) _ _ _
 exact Qu {.bool true,rfl,(λz=>nomatch z),.bl true,H,I,rfl,q}
structure tK(z y:Str)(ws:List Str):Prop where
 h1:(decide (z.length<y.length)||decide (Uu z<Uu y))=false
 hy:(y.length==0)=false
 hf:(Q8 z y 0 z.length (z.length+1)).isEmpty=false
 hx:z.length<=sizeLine
 hn:ws.length<=sizeLine
 e:Builtin.Str.partsBetween z (Q8 z y 0 z.length (z.length+1)) y.length=ws
theorem wR:∀tk ws,Wz (ws.map V.str) (strsFrom tk ws)
 |_,[]=>.nil
 |tk,x::r=>.cons {_,rfl} (wR (tk+1) r)
theorem FF:MtR X "str.split" (λx xs H Q=>∃z y ws,x=.str z/\xs=[.str y]/\tK z y ws/\∀l,H l=Ww->Q (.ref l) (upd H l (.lst (ws.map V.str)))):=by
 intro pins s B H x xs v us Q I rx rs h;obtain⟨z,y,ws,rfl,rfl,ok,q⟩:=h;obtain⟨t,rfl⟩:=rx;obtain⟨u,rfl,ru⟩:=rs.one;obtain⟨t2,rfl⟩:=ru;obtain⟨h1,hy,hf,hx,hn,e⟩:=ok;subst e;refine Se F.slot_str_split (UQ _ _ _) F.entry_str_split (F.args_str_split_2 _ _) (meets_str_split_sep z y t t2 h1 hy hf hx hn) ?_;exact{.ref _,_,I.Jm (wR _ _) (by rw[NH];exact hn),rfl,q _ I.fresh}
theorem WQ(ho:PE X o to)(ha:PA X [e] t)(ç:Q6 o "split" X.env (QV o X.env)=QV o X.env:=by rfl)
  (Ľ:((Q7 Ð (QA [e] X.env)).all (λx=>!x.1)&&(Ta Ð (RW [] X.env)).all (λx=>x.1.isSome)
   &&decide ([e].length+([]:List Sb).length+(if([]:List Sb).isEmpty then 0 else 1)<30))=true:=by rfl)
  (æ:(apos.endLine==Ð.line)=true:=by rfl) (hs:QA [e] X.env=(false,QV e X.env)::QA [] X.env:=by rfl) (ù:(Q7 Ð (QA [] X.env)).any (·.1)=false:=by rfl) :
  PE X (.Call (.Attribute o "split" apos) [e] [] Ð) (tBM X.K "str" (λx xs H Q=>∃z y ws,x=.str z/\xs=[.str y]/\tK z y ws/\∀l,H l=Ww->Q (.ref l) (upd H l (.lst (ws.map V.str)))) to t):=
 Fz PySem.F.plainAttrs_str PySem.F.slot_str_split PySem.F.type_str_split FF ho ha ç Ľ æ hs ù
def oV(z:Str)(n:Int):Str:=if n<1 then Q4 else if(n==1||z.length==0)=true then z else⟨(QH n.toNat z.cps).foldl (· ++ ·) #[]⟩
def MA:R2:=λx y H Q=>match x,y with
 | .int i,.int j=>Ed i j/\Q (.int (i*j)) H
 | .str z,.int n=>n<1000/\-1000<n/\z.length<=1000/\Q (.str (oV z n)) H
 | .ref p,.int k=>∃xs,H p=Wv (.lst xs)/\-(2^63)<=k/\k<2^63/\xs.length*k.toNat<=sizeLine/\∀l,H l=Ww->Q (.ref l) (upd H l (.lst (QH k.toNat xs).flatten))
 |_,_=>False
theorem Dr(xs:List (Array Nat)):∀acc,(xs.foldl (· ++ ·) acc).size=acc.size+(xs.map (·.size)).sum:=by
 induction xs with
 |nil=>intro acc;simp
 |cons x r ih=>intro acc;rw[OG,ih,Ve,N9,PY];lia
theorem yZ(z:Str)(n:Nat):(⟨(QH n z.cps).foldl (· ++ ·) #[]⟩:Str).length=n*z.length:=by
 show((QH n z.cps).foldl (· ++ ·) #[]).size=_;rw[Dr,List.map_replicate];have:∀m k:Nat,(QH m k).sum=m*k:=λm k=>by
  induction m with
  |zero=>simp
  |succ m ih=>rw[Ot,PY,ih,Nat.succ_mul];lia
 rw[this];simp[Str.length]
theorem lO:Ô X (Rg .Mult) MA:=by
 intro pins s B H x y v u Q I rx ry h;cases x with
 |int i=>
  cases y with
  |int j=>exact LI pins s B H _ _ v u Q I rx ry h
  |_=>exact(show False from h).elim
 |str z=>
  cases y with
  |int n=>
   obtain⟨h1,h2,h3,q⟩:=h;obtain⟨t,rfl⟩:=rx;obtain⟨t2,rfl⟩:=ry;have hb:¬ n<1->n.toNat*z.length<=1000000:=λhn=>by
    have e1:n.toNat<=1000:=()
    exact NU (Nat.mul_le_mul e1 h3) ∅
   refine P.mul_str (by rw[decide_eq_false (),decide_eq_false ()];rfl) (λhn _=>?_) (λhn _=>?_) ?_
   ·intro z1;have h0:(0:Int)<n:=()
    have:=Int.lt_mul_of_ediv_lt h0 z1;have e2:((z.length:Int))*n<=1000*1000:=Int.mul_le_mul () () () ∅;lia
   ·unfold Builtin.Str.tooLong;have:=hb hn;rw[Nat.mul_comm]at this;refine decide_eq_false ?_;rw[RT];lia
   unfold oV at q;by_cases c1:n<1
   ·rw[if_pos c1]at q⊢;exact{∅,.str _,H,I.tok _,{_,rfl},q}
   rw[if_neg c1]at q⊢;by_cases c2:(n==1||z.length==0)=true
   ·rw[if_pos c2]at q⊢;exact{.str _,H,I,{_,rfl},q}
   rw[if_neg c2]at q⊢;refine{?_,.str _,H,I.tok _,{_,rfl},q};rw[yZ];have:=hb c1;rw[RT];lia
  |_=>exact(show False from h).elim
 |ref p=>
  cases y with
  |int k=>
   obtain⟨xs,h1,h2,h3,h4,q⟩:=h;exact Jn pins s B H _ _ v u Q I rx ry ⟨p,k,xs,rfl,rfl,h1,h2,h3,h4,q⟩
  |_=>exact(show False from h).elim
 |_=>cases y<;>exact(show False from h).elim
def JI(K:Qx)(H:Hp)(a b:Qs):Prop:=∃kvs Ģ,Rd H a (.dK kvs)/\Rd H b (.dK Ģ)/\kvs.length=Ģ.length/\∀k v,cc kvs k=Wv v->∃v',cc Ģ k=Wv v'/\FN K H v v'
def Nh(K:Qx):R2:=λx y H Q=>match x,y with
 | .ref p,.ref q=>((∃d e,oW K H (.ref p) d/\oW K H (.ref q) e/\QY d=true/\QY e=true/\Q (.bl (V5 d e)) H)\/(∃xs,À K H p xs/\À K H q xs/\xs.all wC=true/\Q (.bl true) H))\/(JI K H p q/\Q (.bl true) H)
 |x,y=>DG x y=true/\Q (.bl (decide (x=y))) H
theorem cK(hu:X.A.units+64<RR):Ô X (QK .Eq) (Nh X.K):=((Mg hu).or (Lv hu)).imp λx y H Q q=>by
 by_cases hr:∃p q,x=V.ref p/\y=V.ref q
 ·obtain⟨p,q',rfl,rfl⟩:=hr;rcases q with q|⟨⟨kvs,Ģ,h1,h2,h3,h4⟩,h5⟩
  ·exact .inl q
  exact .inr ⟨p,q',kvs,Ģ,rfl,rfl,h1,h2,h3,h4,h5⟩
 refine .inl ?_;cases x<;>cases y<;>first|exact q|exact absurd {_,_,rfl,rfl} hr
inductive Ke(xs:List V)(H:Hp)(Q:VK):Prop
 |mk (a kvs) (h0:xs=[.ref a]) (h1:Rd H a (.dK kvs)) (q:Q (.int (kvs.length:Nat)) H):Ke xs H Q
theorem k8:fG X (.builtin "len") (λxs H Q=>xT X.K xs H Q\/Ke xs H Q):=Li.or λpins s B H xs us Q I r ⟨a,kvs,h0,h1,q⟩=>Jd pins s B H xs us Q I r ⟨a,kvs,h0,h1,q⟩
theorem Cn(hc:X.calm=true:=by rfl):fG X (.type "list") (λxs H Q=>(∃p ys,xs=[.ref p]/\(À X.K H p ys\/Ò X.K H p ys)/\∀l,H l=Ww->Q (.ref l) (upd H l (.lst ys)))\/∃d kvs,xs=[.ref d]/\Rd H d (.dK kvs)/\∀l,H l=Ww->Q (.ref l) (upd H l (.lst (kvs.map λkv=>kV kv.1)))):=kE.or (HF hc)
end
section
variable{X:Cx}{pins:List (Qs×Obj)}{B:St}{H:Hp}{s:Qw}
def Itz(K:Qx)(a b:Qs):It:=
  ⟨λi H=>∃xs ys x y,À K H a xs/\À K H b ys/\xs[i]?=Wv x/\ys[i]?=Wv y,
   λi H v H'=>∃T x y,v=.ref T/\H T=Ww/\H'=upd H T (.tup [x,y])/\∀xs ys,À K H a xs->À K H b ys->xs[i]?=Wv x/\ys[i]?=Wv y,
   λi H=>∃xs ys,À K H a xs/\À K H b ys/\(xs.length<=i\/ys.length<=i)⟩
def Ld(z TI TO i1 i2 a b:Qs)(i:Nat)(h:QN):Prop:=IsZip h z TI TO .none/\IsPair h TI (.ref i1) (.ref i2)/\(∃u v,IsPair h TO u v)/\h.IsListIter i1 a i/\h.IsListIter i2 b i
theorem Fs{P:Program}{w:QD}{K:Qx}{elts:List Expr}{x1}{pos:Pos}{a b z TI TO i1 i2:Qs}(D:ZipApart z TI TO i1 i2 a b) :
  WW P w K (.Tuple elts x1 pos) (Itz K a b) [z,TI,TO,i1,i2] z (Ld z TI TO i1 i2 a b) where
 mem:=by simp
 obj:=λi h st c hc=>by
  obtain⟨hz,hI,⟨u,v,hO⟩,⟨o1,e1,_,d1⟩,⟨o2,e2,_,d2⟩⟩:=st;simp only[NJ,NZ,or_false]at hc;rcases hc with rfl|rfl|rfl|rfl|rfl
  ·exact{_,hz,λv q=>by cases (show Data.fields _=Vm v from q)}
  ·exact{_,hI,λv q=>by cases (show Data.seq _ _=Vm v from q)}
  ·exact{_,hO,λv q=>by cases (show Data.seq _ _=Vm v from q)}
  ·exact{o1,e1,λv q=>by rw[d1]at q;cases q}
  exact{o2,e2,λv q=>by rw[d2]at q;cases q}
 keep:=λi h h' st k=>by
  obtain⟨hz,hI,⟨u,v,hO⟩,h1,h2⟩:=st;exact{k z (by simp) _ hz,k TI (by simp) _ hI,{u,v,k TO (by simp) _ hO},h1.at λo e=>k i1 (by simp) o e,h2.at λo e=>k i2 (by simp) o e}
 item:=by
  intro X hP hw hK hc i pins s B H E I hf st hg;subst hP hw hK;obtain⟨xs,ys,x,y,hq,ś,hx,hy⟩:=hg;obtain⟨Â,rv,p,hz'⟩:=I.list hq;obtain⟨its',rv',p',hz''⟩:=I.list ś;obtain⟨u,hu,ru⟩:=rv.get hx;obtain⟨v,hv,rv2⟩:=rv'.get hy;obtain⟨hz,hI,⟨u0,v0,hO⟩,h1,h2⟩:=st;have hT:=I.zE (H':=H) (NM s.heap.objs.size) (I.Æ.fresh (NM _));have lt:∀{c:Qs}{o:Obj},s.heap.get? c=Wv o->s.heap.objs.size≠c:=λe=>O4 (QF e);refine wpAny_pyNext_zip_item D hz hI hO h1 h2 p.isList p'.isList (x:=u) (y:=v) (by simpa using hu) (by simpa using hv) λh' a1 a2 a3 a4 a5 a6 a7=>?_;have I1:Inv X pins B H { s with heap:=h',toks:=s.toks }:=I.C3 (ch:=[z,TI,TO,i1,i2]) hf λc o hc q=>a7 c o (λe=>hc (by simp[e])) (λe=>hc (by simp[e])) (λe=>hc (by simp[e])) (λe=>hc (by simp[e])) q;have I2:=I1.Mp (u:=.tup [x,y]) hT I.sz {by show 2<=sizeLine;decide,[u,v],.cons ru (.cons rv2 .nil),{_,a5,rfl,_,rfl}};refine⟨_,rfl,wpAny_letOwnedTupleGo_zip (s:={ s with heap:=h' }) a1 λh2' hz2 Ő=>?_⟩;have f0:=hf z (by simp);have hI':h'.get? TI=_:=a7 TI _ D.TIz D.TITO D.TIi1 D.TIi2 hI;have zT:z≠s.heap.objs.size:=OU (lt hz);refine⟨.ref s.heap.objs.size,_,I2.turned (t':=s.toks) (it:=z) (λc o hc q=>(Ő.2 c hc).trans q) (by rw[aR zT];exact f0.1) f0.2.1 f0.2.2.2.1 f0.2.2.2.2.1 f0.2.2.2.2.2,rfl,
   {_,x,y,rfl,hT.1,rfl,λxs' ys' q q'=>by rw[I.vf q hq,I.vf q' ś];exact⟨hx,hy⟩},{hz2,(Ő.2 TI D.TIz).trans hI',{u,v,(Ő.2 TO D.TOz).trans a2},a3.at λo q=>(Ő.2 i1 D.i1z).trans q,a4.at λo q=>(Ő.2 i2 D.i2z).trans q},λc hc=>?_⟩
  have cT:c≠s.heap.objs.size:=by
   simp only[NJ,NZ,or_false]at hc;rcases hc with rfl|rfl|rfl|rfl|rfl
   ·exact zT
   ·exact OU (lt hI)
   ·exact OU (lt hO)
   ·obtain⟨o,e,_⟩:=h1;exact OU (lt e)
   obtain⟨o,e,_⟩:=h2;exact OU (lt e)
  rw[aR cT];exact(hf c hc).1
 done:=by
  intro X hP hw hK hc i pins s B H E I hf st hg;subst hP hw hK;obtain⟨xs,ys,hq,ś,hx⟩:=hg;obtain⟨Â,rv,p,hz'⟩:=I.list hq;obtain⟨its',rv',p',hz''⟩:=I.list ś;obtain⟨hz,hI,⟨u0,v0,hO⟩,h1,h2⟩:=st;have hl:=rv.length;have hl':=rv'.length;refine wpAny_pyNext_zip_end (I.ok.hd hc) D hz hI hO h1 h2 p.isList p'.isList (by simp;lia) λh' eb=>{rfl,?_};exact I.C3 (ch:=[z,TI,TO,i1,i2]) hf λc o hc q=>eb c o (λe=>hc (by simp[e])) (λe=>hc (by simp[e])) (λe=>hc (by simp[e])) (λe=>hc (by simp[e])) q
 self:=λ_ _ _ _ _ st h=>Vt st.1 h
def NA(K:Qx)(ta:TA):TI:=λB H R=>ta B H λvs H1=>∃a b,vs=[.ref a,.ref b]/\(∃xs,À K H1 a xs)/\(∃ys,À K H1 b ys)/\R (Itz K a b) H1
theorem DV:RA "zip"=Wv (.type "zip"):=by decide+kernel
theorem IU{x1}(hg:Gl X "zip")(hm:X.mg "zip"=Ww)(ha:PA X [a,b] ta)(he:QA [a,b] X.env=(false,QV a X.env)::QA [b] X.env:=by rfl)
  (ą:(Q7 pos (QA [b] X.env)).any (·.1)=false:=by rfl):PI X (.Tuple elts x1 pos2) (.Call (.Name "zip" p) [a,b] [] pos) (NA X.K ta):=by
 intro pins s B H R I h
 refine Call_ (mE I hg hm DV (Rc (Ï (ha pos pins s B H _ I h) λus s1 ⟨vs,H1,I1,r1,q1⟩=>?_) he ą))
 obtain⟨a,b,e,⟨xs,hq⟩,⟨ys,ś⟩,q⟩:=q1
 subst e
 obtain⟨u,v,rfl,ru,rv⟩:=WX r1
 cases ru
 cases rv
 obtain⟨Â,rv1,p1,hz1⟩:=I1.list hq
 obtain⟨its',rv2,p2,hz2⟩:=I1.list ś
 have lt:∀{c:Qs}{zs:Array Qt},s1.heap.IsList c zs->c<s1.heap.objs.size:=λh=>by obtain⟨o,e,_⟩:=h;exact QF e
 refine call_zip_2 p1.isList p2.isList λh' hz hI hO h1 h2 hsz hk=>?_
 refine Vt hz ?_
 refine{s1.heap.objs.size+4,[s1.heap.objs.size+4,s1.heap.objs.size+2,s1.heap.objs.size+3,s1.heap.objs.size,s1.heap.objs.size+1],_,_,H1,rfl,I1.kept (t':=s1.toks) hk,Fs (zipApart_new (lt p1.isList) (lt p2.isList)),{hz,hI,{_,_,hO},h1,h2},λc hc=>?_,q}
 have le:s1.heap.objs.size<=c:=by
  simp only[NJ,NZ,or_false]at hc;rcases hc with h|h|h|h|h
  ·rw[h];exact OK _ _
  ·rw[h];exact OK _ _
  ·rw[h];exact OK _ _
  ·rw[h];exact NM _
  rw[h];exact OK _ _
 exact I1.zE le (I1.Æ.fresh le)
end
theorem Ic{K:Sl}{a b:Qs}{xs ys:List V}{g:TG}{tb:TS}{D:WV}{B:St}{H:Hp}(Pv:Nat->St->Hp->Prop)(h0:Pv 0 B H)(hl:∀i B H,i<=xs.length->Pv i B H->À K H a xs/\À K H b ys)(hle:xs.length=ys.length)
  (hs:∀i x y B H T,xs[i]?=Wv x->ys[i]?=Wv y->Pv i B H->H T=Ww->g (.ref T) B (upd H T (.tup [x,y])) λσ2 H2=>tb { D with nx:=Pv (i+1),ct:=Pv (i+1),bk:=D.nx } σ2 H2) (hd:∀B H,Pv xs.length B H->D.nx B H) :
  ∃W:Nat->Nat->St->Hp->Prop,(∃m,W 0 m B H)/\∀i m B H,W i m B H->
   ((Itz K a b).stop i H/\D.nx B H)\/((Itz K a b).go i H/\∃N,(∀B' H',N B' H'->∃m',m'<m/\W (i+1) m' B' H')/\∀x H',(Itz K a b).ύ i H x H'->g x B H' λσ2 H2=>tb { D with nx:=N,ct:=N,bk:=D.nx } σ2 H2):=by
 refine{λi m B H=>m=xs.length-i/\i<=xs.length/\Pv i B H,{xs.length,by simp,NS _,h0},?_}
 rintro i m B H ⟨rfl,hi,p⟩
 obtain⟨q,q'⟩:=hl i B H hi p
 by_cases í:i<xs.length
 ·have hlt':i<ys.length:=()
  refine .inr {{xs,ys,xs[i],ys[i],q,q',by simp[í],by simp[hlt']},Pv (i+1),λB' H' p'=>{xs.length-(i+1),(),rfl,í,p'},λv H' y=>?_};obtain⟨T,x,y,rfl,hT,rfl,h⟩:=y;obtain⟨e1,e2⟩:=h xs ys q q';exact hs i x y B _ T e1 e2 p hT
 have e:i=xs.length:=()
 subst e
 exact .inl {{xs,ys,q,q',NI (NM _)},hd B H p}
set_option maxHeartbeats 4000000
section
variable{X:Cx}
theorem IK(ho:PE X o to)(ç:Q6 o "pop" X.env (QV o X.env)=QV o X.env:=by rfl)(æ:(apos.endLine==Ð.line)=true:=by rfl) :
  PE X (.Call (.Attribute o "pop" apos) [] [] Ð) (Ie X.K "list" Jr to):=
 Bg RM PySem.F.slot_list_pop PySem.F.type_list_pop KG ho ç æ
theorem Ls(hc:X.calm=true:=by rfl):fG X (.builtin "sum") (λxs H Q=>∃(p:Qs)(ns:List Int),xs=[.ref p]/\À X.K H p (ns.map V.int)/\Q (.int ns.sum) H):=by
 intro pins s B H xs us Q I r h;obtain⟨p,ns,rfl,hq,q⟩:=h;obtain⟨u,rfl,rx⟩:=WL r;cases rx;obtain⟨Â,rv,pl,hz⟩:=I.list hq;have hl:=pl.isList;have ia:=intsAre_of rv;obtain⟨xs,hx⟩:=ia.allInts.items;have hn:xs.toList.map (·.1)=ns:=by
  rw[<-nums_intItems,<-hx];exact ia.numsOf
 rw[hx]at hl;refine sum_intListG (I.ok.hd hc) hl λh' tk t' hk=>{.int _,H,I.kept (t':=tk) hk,{_,rfl},?_};rw[preSum_eq,Pd (by simp),hn];exact q
theorem Wz.rev{xs us}(h:Wz xs us):Wz xs.reverse us.reverse:=Wz.reverse h
def Nl(K:Qx)(te:TE):TE:=λB H Q=>te B H λx H1=>∃a xs,x=.ref a/\À K H1 a xs/\∀p,H1 p=Ww->Q (.ref p) (upd H1 p (.lst xs.reverse))
theorem AW(he:PE X e te):PE X (.Subscript e (.Slice Ww Ww (Wv (.UnaryOp .USub (.Constant (.int 1) j p3) p4)) p2) pos) (Nl X.K te):=by
 intro pins s B H Q I h;refine UP (Ï (he pins s B H _ I h) λv s1 z9=>?_);obtain⟨x,H1,I1,r1,a,xs,ex,hx,q⟩:=z9;subst ex;cases r1;refine VA ?_;rw[Tn];refine Qu ?_;refine Qu ?_;rw[UD];refine Ï ((MC Ka (aj (X:=X))) pins s1 B H1 (λy H2=>H2=H1/\y=.int (-1)) I1 {_,rfl,rfl,rfl}) λv2 s2 z9=>?_;obtain⟨y,H2,I2,r2,e2,e3⟩:=z9;subst e2 e3;obtain⟨t2,rfl⟩:=r2;obtain⟨Â,r,ht,hz⟩:=I2.list hx;have hlen:Â.toArray.size=xs.length:=by rw[NV];exact r.length.symm
 have I4:Inv X pins B H2 { s2 with heap:=s2.heap.push { cls:=.type "slice",data:=.fields #[.none,.none,.int (-1) t2] } }:=I2.kept λb ob q=>Qv _ q;obtain⟨its4,r4,ht4,hz4⟩:=I4.list hx;have hlen4:its4.toArray.size=xs.length:=by rw[NV];exact r4.length.symm
 refine VY (ops:=[.ref a,.ref s2.heap.objs.size]) (s:={ s2 with heap:=s2.heap.push { cls:=.type "slice",data:=.fields #[.none,.none,.int (-1) t2] } }) ht4.isList.typeIs slot_list_getitem.lookup (To ht4.isList (S8 ..) .none .none (.int (-1) t2) (by simp) ?_ (by rw[hlen4];exact hz4)) (by with_unfolding_all rfl);rw[W.krv_pick];refine{.ref _,_,I4.laid (t':=s2.toks) (o:=.lst xs.reverse) (λb ob q=>Qv _ q) (NM _) ?_,rfl,q _ (I4.Æ.fresh (NM _))};exact{by rw[O9];exact hz4,_,0,r4.rev,QE _ rfl}
end
section
variable{X:Cx}{e:Expr}{te:TE}{es:List Expr}{t:Str->TE}{pos:Pos}
def PJ(X:Cx)(es:List Expr)(t:Str->TE):Prop:=
 ∀(acc:Str)(pins:List (Qs×Obj))(s:Qw)(B:St)(H:Hp)(Q:VK),Inv X pins B H s->t acc B H Q->wpAny (QG X.prog X.w) X.A (Wl acc (evalEach es X.env)) (EP X pins B Q) X.xe s
theorem JU:PJ X [] (λacc _ H Q=>acc.length<=sizeLine/\Q (.str acc) H):=λacc pins s B H Q I h=>by
 show wpAny _ _ (Wl acc []) _ _ _;exact joinParts_nil (Q:=EP X pins B Q) {.str acc,H,I.tok _,{_,rfl},h.2} h.1
theorem CZ(he:PE X e te)(ht:PJ X es t):PJ X (e::es) (λacc B H Q=>te B H λv H'=>∃x,v=.str x/\(acc++x).length<=sizeLine/\t (acc++x) B H' Q):=λacc pins s B H Q I h=>by
 show wpAny _ _ (Wl acc (QV e X.env::evalEach es X.env)) _ _ _;refine joinParts_cons (Ï (he pins s B H _ I h) λv s1 z9=>?_);obtain⟨x,H1,I1,r1,y,e1,l1,q1⟩:=z9;subst e1;obtain⟨tk,rfl⟩:=r1;exact{l1,ht _ pins s1 B H1 Q I1 q1}
theorem GF(h:PJ X (a::b::es) t):PE X (.JoinedStr (a::b::es) pos) (λB H Q=>t Q4 B H Q):=λpins s B H Q I q=>JoinedStr_many (h Q4 pins s B H Q I q)
theorem JR(he:PE X e te):PE X (.FormattedValue e (-1) Ww pos) (λB H Q=>te B H λv H'=>(∃i,v=.int i/\i.natAbs.log2<1920/\Q (.str (toString i:String)) H')\/∃x,v=.str x/\x.length<=sizeLine/\Q (.str x) H'):=λpins s B H Q I h=>by
 refine FormattedValue_plain (Ï (he pins s B H _ I h) λv s1 z9=>?_);obtain⟨x,H1,I1,r1,q1⟩:=z9;rcases q1 with⟨i,rfl,hi,q1⟩|⟨y,rfl,hy,q1⟩
 ·obtain⟨tk,rfl⟩:=r1;exact formatField_int_small hi {.str (toString i:String),H1,I1.tok _,{_,rfl},q1}
 obtain⟨tk,rfl⟩:=r1;exact formatField_str (λt' tk=>{.str y,H1,I1.tok _,{_,rfl},q1}) hy
end
section
variable{X:Cx}
theorem ij(ho:PE X o to)(ha:PA X [e] t)(ç:Q6 o "extend" X.env (QV o X.env)=QV o X.env:=by rfl)
  (Ľ:((Q7 Ð (QA [e] X.env)).all (λx=>!x.1)&&(Ta Ð (RW [] X.env)).all (λx=>x.1.isSome)
   &&decide ([e].length+([]:List Sb).length+(if([]:List Sb).isEmpty then 0 else 1)<30))=true:=by rfl)
  (æ:(apos.endLine==Ð.line)=true:=by rfl) (hs:QA [e] X.env=(false,QV e X.env)::QA [] X.env:=by rfl) (ù:(Q7 Ð (QA [] X.env)).any (·.1)=false:=by rfl) :
  PE X (.Call (.Attribute o "extend" apos) [e] [] Ð) (tBM X.K "list" BM to t):=
 Fz RM PySem.F.slot_list_extend PySem.F.type_list_extend DC ho ha ç Ľ æ hs ù
end
section
variable{prog:Program}{w:QD}{K:Type}[DecidableEq K]{knd:KeyKind prog w K}{A:QU}{E:Qt->Qw->Prop}{s:Qw}
end
section
variable{X:Cx}
end
section
variable{prog:Program}{w:QD}{A:QU}{E:Qt->Qw->Prop}{s:Qw}
end
section
variable{X:Cx}
end
section
variable{K:Qx}{H:Hp}{Q:VK}
theorem tix{p:Qs}{xs:List V}{v:V}{j:Nat}(h:Ò K H p xs)(e:xs[j]?=Wv v)(q:Q v H):ixS K p (j:Int) H Q\/dgI p (.int (j:Int)) H Q:=.inl ⟨xs,v,.inr h,gG e,q⟩
theorem ê(h:À K H p xs)(e:Č xs i=Wv v)(q:Q v H):ixS K p i H Q\/dgI p (.int i) H Q:=.inl ⟨xs,v,.inl h,e,q⟩
theorem î(h:H d=Wv (.dK kvs))(e:cc kvs (.inr x)=Wv v)(q:Q v H):dgI d (.str x) H Q:={v,e▸nG.k (k:=.inr x) h,q}
theorem Á(h:H a=Wv (.ins C dx fs))(c:ĺ K C)(n:aV K C f)(e:fs.lookup f=Wv v)(q:Q v H):nQ K f (.ref a) H Q:=⟨a,C,dx,fs,v,rfl,h,c,n,e,q⟩
theorem lnl(h:H p=Wv (.lst xs))(q:Q (.int (xs.length:Nat)) H):xT K [.ref p] H Q\/Ke [.ref p] H Q:=.inl {_,_,rfl,.inl {_,À.of h,rfl},q}
theorem isB(ty:pS K H x t)(k:Q9 K t (.ref D)=Wv b)(q:R b H):Az K [x,.ref D] H λv H1=>An K v H1 R:={x,.ref D,t,b,rfl,(λz=>by cases z),ty,k,b,rfl,q}
end
section
variable{X:Cx}
end
def Ax(P:Program)(w:QD)(K:Qx)(mg:Str->Option Qt)(base:QN)(k:Nat)(x:Str)(ps:List Str)(dvs:List V)(sp:Sp):Prop:=
 ∃f fd ds,mC P w K mg base Ō k f fd ps sp/\WE K fd ps []/\WE K fd ps ds/\Wz dvs ds/\RB K (.ref f)=true/\mg x=Wv (.ref f)/\∃oc od ă,K.lookup f=Wv ⟨oc,od,.func fd,ă⟩
section
variable{P:Program}{w:QD}{K:Qx}{mg:Str->Option Qt}{base:QN}{k:Nat}{x:Str}{ps:List Str}{dvs:List V}{sp:Sp}
theorem Ax.has(D:Ax P w K mg base k x ps dvs sp):ħ P w K mg base k x ps sp:=by
 obtain⟨f,fd,ds,F,b,_,_,kp,m,l⟩:=D;exact⟨f,fd,F,b,kp,m,l⟩
structure mX(K:Qx)(mg:Str->Option Qt)(x:Str)(st:QL)(ps:List Str)(dvs:List V):Prop where
 ex:∃(f:Qs)(oc:Qt)(od:Option Qs)(dV kV doc pm:Qt)(an:Option Qs)(Ä ct:Qt)(ă:Array (Option Qt))(ds:List Qt),K.lookup f=Wv {oc,od,.func (Rp x x (b9 st) (bK st) (aA st) dV kV doc pm an Ä ct),ă}/\SI K Ä x=true/\RB K (.ref f)=true/\mg x=Wv (.ref f)/\Wz dvs ds/\
  WE K (Rp x x (b9 st) (bK st) (aA st) dV kV doc pm an Ä ct) ps []/\WE K (Rp x x (b9 st) (bK st) (aA st) dV kV doc pm an Ä ct) ps ds
abbrev mX.Hz{st:QL}(_:mX K mg x st ps dvs)(P:Program)(w:QD)(base:QN)(k:Nat)(sp:Sp):Prop:=Ax P w K mg base k x ps dvs sp
theorem mX.hs{st N}(F:mX K mg x st ps dvs)(S:aH N ps (aA st))
  (Ā:∀f Ä A outer s H vs Q E,gp k (A.deeper (Sq x (aA st) s.heap.objs.size f Ä))->(A.deeper (Sq x (aA st) s.heap.objs.size f Ä)).units+64<RR->sp vs H Q E->
   ∃t,č (xh Ō P w K mg base N x (aA st) f Ä A outer s H E).Ι (bK st) t/\t { nx:=λ_ H'=>Q .È H',rt:=Q } (WK N vs) H) (len:∀vs H Q E,sp vs H Q E->vs.length=ps.length:=by intro _ _ _ _ h;cases h;subst_vars;rfl):Ax P w K mg base (k+1) x ps dvs sp:=by
 obtain⟨f,oc,od,dV,kV,doc,pm,an,Ä,ct,ă,ds,lk,ņ,kp,m,hv,b1,b2⟩:=F.ex
 refine{f,_,ds,IC lk ņ S len λA outer s H vs Q E hr ϖ=>?_,b1,b2,hv,kp,m,oc,od,ă,lk}
 obtain⟨t,h,q⟩:=Ā f Ä A outer s H vs Q E hr hr.units ϖ
 exact⟨t,h.Ι,q⟩
end
theorem zi(D:Ax X.prog X.w X.K X.mg X.base j x ps dvs sp)(hr:gp k X.A)(ha:PA X (e::es) t)(hj:j<=k:=by decide)(hg:Gl X x:=by rfl)
  (ģ:(x==("__debug__":Str))=false:=by decide) (he:QA (e::es) X.env=(false,QV e X.env)::QA es X.env:=by rfl) (ą:(Q7 pos (QA es X.env)).any (·.1)=false:=by rfl) :
  PE X (.Call (.Name x p) (e::es) [] pos) (wY sp dvs E0 t):=by
 obtain⟨f,fd,ds,F,_,b,hv,kp,m,_⟩:=D
 exact Cb F (hr.mono hj) hg m kp b hv zp ha ģ he ą
def dv(a b c:Option Tok):Array (Int×Qt):=((a.map λt=>((0:Int),RI 0 t)).toList++((b.map λt=>((1:Int),RI 1 t)).toList++(c.map λt=>((2:Int),RI 2 t)).toList)).toArray
def yY(a b c:Option Tok):Array Nat:=((a.map λ_=>0).toList++((b.map λ_=>1).toList++(c.map λ_=>2).toList)).toArray
def Ř(a b c:Option Tok)(led:Bool):SetTable:={ mask:=7,place:=yY a b c,dummies:=#[],finger:=0,led:=led,moves:=0,plain:=true }
abbrev ĕ(a b c:Option Tok)(ep:Nat)(led:Bool):Obj:={ cls:=.type "set",dict:=Ww,data:=.set (dv a b c) ep (Ř a b c led) }
theorem lay0(b c:Option Tok)(led:Bool)(t:Tok):layNew (Ř Ww b c led) (dv Ww b c) 0 (.int 0 t)=(dv (Wv t) b c,Ř (Wv t) b c led,false,false):=by cases b<;>cases c<;>kernel_rfl
theorem M0(a c:Option Tok)(led:Bool)(t:Tok):layNew (Ř a Ww c led) (dv a Ww c) 1 (.int 1 t)=(dv a (Wv t) c,Ř a (Wv t) c led,false,false):=by cases a<;>cases c<;>kernel_rfl
theorem Nk(a b:Option Tok)(led:Bool)(t:Tok):layNew (Ř a b Ww led) (dv a b Ww) 2 (.int 2 t)=(dv a b (Wv t),Ř a b (Wv t) led,false,false):=by cases a<;>cases b<;>kernel_rfl
theorem yv (a b c led):(Ř a b c led).tooFull=false:=by cases a<;>cases b<;>cases c<;>kernel_rfl
theorem gw (a b c led):(Ř a b c led).fits (dv a b c).size=true:=by cases a<;>cases b<;>cases c<;>kernel_rfl
theorem jP (a b c):(dv a b c).size<=3:=by cases a<;>cases b<;>cases c<;>simp[dv]
section
variable{prog:Program}{w:QD}{A:QU}{E:Qt->Qw->Prop}{s:Qw}{S:Qs}{a b c:Option Tok}{ep:Nat}{led:Bool}
theorem qr:ElemsOf (Sa prog w) (dv a b c).toList:=λe he=>by
 have:e.2=.int e.1 (match e.2 with| .int _ t=>t|_=>0):=by
  cases a<;>cases b<;>cases c<;>simp[dv]at he<;>rcases he with rfl|rfl|rfl<;>rfl
 rw[this];exact{{e.1,UY _ _ _ _,by cases a<;>cases b<;>cases c<;>simp[dv]at he<;>rcases he with rfl|rfl|rfl<;>rfl},rfl}
theorem BE(ho:s.heap.get? S=Wv (ĕ a b c ep led))(lay:layNew (Ř a b c led) (dv a b c) ((Sa prog w).hash r) (.int r t)=(es',t',false,false))(pl:t'.plain=true)(tf:t'.tooFull=false)(sz:es'.size<=3)
  (nf:(dv a b c).toList.findIdx? (λe=>(Sa prog w).is r e.2)=Ww) (q:Q true { s with heap:=s.heap.update S (V9 es' t') }):wpAny (QG prog w) A (Sv S (.int r t) ((Sa prog w).hash r)) Q E s:=by
 have h4:=jP a b c
 unfold Sv Wa
 refine wpAny_holding (Qr (RD ho rfl (gw a b c led) ?_))
 dsimp only
 rw[byScan_of (knd:=Sa prog w) rfl (by unfold scanBound;lia) qr]
 simp only[if_true]
 unfold setAddByScan
 refine Qr (Qr (UW (Qr (Vu (UY prog w r t) ho rfl (gw a b c led) qr ?_))))
 rw[nf]
 dsimp only
 rw[lay]
 refine Qr (Qu ?_)
 dsimp only
 rw[if_pos pl]
 refine Qr (Qu (a:=true) ?_)
 simp only[if_true]
 refine Qr (wpAny_storeSet_of ho rfl ?_ (NU sz ∅))
 rw[tf]
 exact Qu (Qu q)
theorem KI(ho:s.heap.get? S=Wv (ĕ a b c ep led))(nf:(dv a b c).toList.findIdx? (λe=>(Sa prog w).is r e.2)=Wv j)(q:Q false s):wpAny (QG prog w) A (Sv S (.int r t) ((Sa prog w).hash r)) Q E s:=by
 have h4:=jP a b c;unfold Sv Wa;refine wpAny_holding (Qr (RD ho rfl (gw a b c led) ?_));dsimp only;rw[byScan_of (knd:=Sa prog w) rfl (by unfold scanBound;lia) qr];simp only[if_true];unfold setAddByScan;refine Qr (Qr (UW (Qr (Vu (UY prog w r t) ho rfl (gw a b c led) qr ?_))));rw[nf];exact Qu (Qu q)
theorem rg(ho:s.heap.get? S=Wv (ĕ a b c ep led)):RQ S s.heap (s.heap.update S (V9 (dv x y z) (Ř x y z led)))/\(s.heap.update S (V9 (dv x y z) (Ř x y z led))).get? S=Wv (ĕ x y z (ep+1) led):={RZ ..,Rm _ ho rfl}
theorem Js(hr:r=0\/r=1\/r=2)(ho:s.heap.get? S=Wv (ĕ a b c ep led))
  (q:∀bl h' ů x y z,RQ S s.heap h'->h'.get? S=Wv (ĕ x y z ů led)->x.isSome=(a.isSome||decide (r=0))->y.isSome=(b.isSome||decide (r=1))->z.isSome=(c.isSome||decide (r=2))->Q bl { s with heap:=h' }):wpAny (QG prog w) A (Sv S (.int r t) ((Sa prog w).hash r)) Q E s:=by
 have old:∀j,(dv a b c).toList.findIdx? (λe=>(Sa prog w).is r e.2)=Wv j->a.isSome=(a.isSome||decide (r=0))->b.isSome=(b.isSome||decide (r=1))->c.isSome=(c.isSome||decide (r=2))->wpAny (QG prog w) A (Sv S (.int r t) ((Sa prog w).hash r)) Q E s:=λj nf h1 h2 h3=>KI ho nf (q false s.heap ep a b c (Heap.SameBut.refl S s.heap) ho h1 h2 h3)
 rcases hr with rfl|rfl|rfl
 ·cases a with
  |some u=>exact old 0 rfl rfl (by simp) (by simp)
  |none=>exact BE ho (lay0 b c led t) rfl (yv ..) (jP ..) (by cases b<;>cases c<;>rfl) (q true _ _ _ _ _ (rg ho).1 (rg ho).2 rfl (by simp) (by simp))
 ·cases b with
  |some u=>cases a with
   |none=>exact old 0 rfl (by simp) rfl (by simp)
   |some v=>exact old 1 rfl (by simp) rfl (by simp)
  |none=>exact BE ho (M0 a c led t) rfl (yv ..) (jP ..) (by cases a<;>cases c<;>rfl) (q true _ _ _ _ _ (rg ho).1 (rg ho).2 (by simp) rfl (by simp))
 cases c with
 |some u=>cases a with
  |none=>cases b with
   |none=>exact old 0 rfl (by simp) (by simp) rfl
   |some v=>exact old 1 rfl (by simp) (by simp) rfl
  |some v=>cases b with
   |none=>exact old 1 rfl (by simp) (by simp) rfl
   |some v=>exact old 2 rfl (by simp) (by simp) rfl
 |none=>exact BE ho (Nk a b led t) rfl (yv ..) (jP ..) (by cases a<;>cases b<;>rfl) (q true _ _ _ _ _ (rg ho).1 (rg ho).2 (by simp) (by simp) rfl)
end
structure EH(val:Nat->Int)(i:Nat)(a b c:Option Tok):Prop where
 a:a.isSome=(Q1 i).any λj=>decide (val j=0)
 b:b.isSome=(Q1 i).any λj=>decide (val j=1)
 c:c.isSome=(Q1 i).any λj=>decide (val j=2)
theorem tS (f i):(Q1 (i+1)).any f=((Q1 i).any f||f i):=by
 rw[VI,List.any_append];simp
section
variable{prog:Program}{w:QD}{A:QU}{R:Result->Qw->Prop}{I:Qs}{fp wr:List Qs}{G:Array Ts->Array Ts->Prop}{n:Nat}{P:Nat->Qt->Prop}{St:Nat->Qw->Prop}{led:Bool}
theorem Ig(W:WalksS prog w A.in1 I fp wr G n P St) (S) (hSf:S∉fp) (val) (Ĩ:∀i v,P i v->∃t,v=.int (val i) t) (h3:∀i v,P i v->val i=0\/val i=1\/val i=2) :
  ∀k i s a b c ep,n-i=k->i<=n->St i s->s.heap.get? S=Wv (ĕ a b c ep led)->EH val i a b c->
   (∀s' x y z ů,Moved (S::wr) G s s'->s'.heap.get? S=Wv (ĕ x y z ů led)->EH val n x y z->R (.ok (.ret .none)) s')->codeAny (QG prog w) A (.builtin "set.update.loop" {[.ref S,.ref I],[]}) R s:=by
 have sw:S∉wr:=λh=>hSf (W.sub _ h)
 have sub:∀b∈wr,b∈S::wr:=λb hb=>NK _ hb
 intro k
 induction k with
 |zero=>
  intro i s a b c ep hk hi st hS hm q
  obtain rfl:i=n:=()
  refine Ru R0 ?_
  rw[Ra Rv _]
  refine Qr (m:=T9 (.ref I)) (W.done s _ _ st λs' mv=>?_)
  exact Qu (q s' a b c ep (mv.mono sub) (mv.heap S _ sw hS) hm)
 |succ k ih=>
  intro i s a b c ep hk hi st hS hm q
  have lt:i<n:=()
  refine Ru R0 ?_
  rw[Ra Rv _]
  refine Qr (m:=T9 (.ref I)) (W.item i s _ _ lt st λv s' hP ĥ mv=>?_)
  obtain⟨t,rfl⟩:=Ĩ i v hP
  refine Qr (wpAny_holding (m:=setAdd S (.int (val i) t)) ?_)
  unfold setAdd
  refine wpAny_holding (Qr ((Sa prog w).pyHash (k:=val i) (UY _ _ _ _) ?_))
  refine Js (s:={ s' with toks:=s'.toks+1 }) (h3 i _ hP) (mv.heap S _ sw hS) λbl h' ů x y z sb hS' e1 e2 e3=>?_
  refine Qu {R8 Rv _,ih (i+1) _ x y z ů () lt (W.frame _ s' _ _ ĥ (OZ _) λb hb o e=>?_) hS' {by rw[e1,hm.a,tS],by rw[e2,hm.b,tS],by rw[e3,hm.c,tS]} λs'' x y z ep'' mv' hS'' hm'=>?_}
  ·rw[sb.2 b (λh=>hSf (by rw[<-h];exact hb))];exact e
  refine q s'' x y z ep'' (Moved.trans W.gtrans ((mv.mono sub).then_heap (OZ _) λb o hb e=>?_) mv') hS'' hm'
  rw[sb.2 b (λh=>hb (by rw[h];exact NL))]
  exact e
end
section
variable{prog:Program}{w:QD}{A:QU}{E:Qt->Qw->Prop}{s:Qw}
theorem pI(q:Q (w.params.followText "set-order") s):wpAny (QG prog w) A setsByText Q E s:=Qr (Tz (Qu q))
theorem Gy (u) (q:Q (.ref s.heap.objs.size) { s with heap:=s.heap.push (ĕ Ww Ww Ww 0 (!w.params.followText "set-order")) }) :
  codeAny (QG prog w) A (.call (.builtin "set.__new__") {[.type "set",u],[]}) (wants Q E) s:=by
 refine VJ (Qr (wpAny_of_eq (PySem.F.newCall_set_1 u) (Qu {R8 T4 _,Ru PySem.F.entry_set_new ?_})))
 rw[Ra T4 _]
 unfold R9.«set.__new__» Builtin.Frozenset.newClass
 have hsub:=PySem.sub_set_self
 obtain⟨hp,g,d,tk,os⟩:=s
 dsimp only
 wp_walk
 refine Tz (Qu ?_)
 dsimp only
 simp only[newObj]
 exact Qr (wpAny_alloc (Qu (Qu q)))
set_option maxHeartbeats 3200000 in
theorem yU(hh:A.handled=Ww)(hl:s.heap.IsList l items)(hv:∀i v,items[i]?=Wv v->∃t,v=RI (val i) t)(h3:∀i v,items[i]?=Wv v->val i=0\/val i=1\/val i=2)
  (q:∀h' tk x y z ep,h'.get? s.heap.objs.size=Wv (ĕ x y z ep (!w.params.followText "set-order"))->EH val items.size x y z->(∀b o,b<s.heap.objs.size->s.heap.get? b=Wv o->h'.get? b=Wv o)->Q (.ref s.heap.objs.size) { s with heap:=h',toks:=tk }) :
  wpAny (QG prog w) A (call (.type "set") [.ref l]) Q E s:=by
 obtain⟨c,tl,hmro⟩:=PySem.F.called_set.mro
 have m1:=PySem.F.called_set.made
 have m2:=PySem.F.called_set.sub
 refine VU (VJ ?_)
 show wpAny _ _ (callAny (.type "set") _) _ _ _
 refine Qu {Code.quiet_builtin _ (by decide+kernel),Ru PySem.F.entry_type_call ?_}
 rw[Around.under_plain (weight_type_call_type "set" [.ref l] []) rfl]
 have m3:=PySem.F.called_set.notType
 have m4:=PySem.F.called_set.canCreate
 have m5:=PySem.F.typeCall_set_1 (.ref l)
 repeat (any_goals (first|assumption|wp_step))
 refine So (Gy (.ref l) (E:=E) (Q:=λobj s₁=>obj=.ref s.heap.objs.size/\s₁={ s with heap:=s.heap.push (ĕ Ww Ww Ww 0 (!w.params.followText "set-order")) }) ⟨rfl,rfl⟩) λr s₁ hr=>?_
 cases r with
 |error e=>exact hr
 |ok fl=>
  cases fl with
  |ret obj=>
   obtain⟨rfl,rfl⟩:=hr
   have hS:(s.heap.push (ĕ Ww Ww Ww 0 (!w.params.followText "set-order"))).get? s.heap.objs.size=Wv (ĕ Ww Ww Ww 0 (!w.params.followText "set-order")):=QE _ rfl
   have hT:UG { s with heap:=s.heap.push (ĕ Ww Ww Ww 0 (!w.params.followText "set-order")) } (.ref s.heap.objs.size) "set":=⟨_,hS,rfl⟩
   have n1:=PySem.F.called_set.init.lookup
   have n2:=PySem.F.called_set.init.bind (.ref s.heap.objs.size)
   repeat (any_goals (first|assumption|wp_step))
   refine So (codeAny_call_builtin (R:=wants (λr s₂=>r=.none/\∃h' tk x y z ep,s₂={ s with heap:=h',toks:=tk }/\h'.get? s.heap.objs.size=Wv (ĕ x y z ep (!w.params.followText "set-order"))/\EH val items.size x y z/\∀b o,b<s.heap.objs.size->s.heap.get? b=Wv o->h'.get? b=Wv o) E) PySem.F.called_set.init.plain PySem.F.entry_set_init (PySem.check_set_init_1 hT ?_)) λr₂ s₂ hr₂=>?_
   ·obtain⟨ol,hol,hcl,nl,hdl⟩:=hl;obtain⟨ocls,odict,odata,oslots⟩:=ol;simp only at hcl hdl;subst hcl;subst hdl;have hol':(s.heap.push (ĕ Ww Ww Ww 0 (!w.params.followText "set-order"))).get? l=Wv { cls:=.type "list",dict:=odict,data:=.seq items nl,slots:=oslots }:=Qv _ hol;have k1:=PySem.F.sub_list_set;have k2:=PySem.F.sub_list_frozenset;have k3:(Rq "list"==Rq "dict")=false:=∅
    have hl1:(s.heap.push (ĕ Ww Ww Ww 0 (!w.params.followText "set-order"))).IsList l items:={_,hol',rfl,nl,rfl};unfold R9.«set.__init__» noKeywords Builtin.Frozenset.updateFrom;generalize hPI:Wr=PI;wp_walk
    subst hPI;refine Tg hl1 (Qr (Wb ?_));have lS:l<s.heap.objs.size:=QF hol;have zs:(s.heap.push (ĕ Ww Ww Ww 0 (!w.params.followText "set-order"))).objs.size=s.heap.objs.size+1:=Ro ..;refine Ig ((Walks.list (A:=A.in1.in1.in1) (by simp[hh]) _ l (by rw[zs];exact Of (OS lS)) items).toS) s.heap.objs.size (by rw[zs];simp only[NJ,NZ,or_false,not_or];exact{Of (O5 _),O4 lS}) val hv h3 items.size 0 _ Ww Ww Ww 0 () (NS _) {{_,QE _ rfl,rfl,rfl},hl1.push _} (Qv _ hS) ⟨rfl,rfl,rfl⟩ ?_;intro s' x y z ep mv hS' hm;obtain⟨h',g',d',tk',os'⟩:=s';have e1:g'=s.gens:=mv.gens;have e2:d'=s.drawn:=mv.drawn;have e3:os'=s.os:=mv.os;subst e1;subst e2;subst e3;refine Qu (Qu {rfl,h',tk',x,y,z,ep,rfl,hS',hm,λb o hb e=>?_});refine mv.heap b o (by rw[zs];simp only[NJ,NZ,or_false,not_or];exact{Of hb,Of (OS hb)}) (Qv _ (Qv _ e))
   cases r₂ with
   |error e=>exact hr₂
   |ok fl₂=>
    cases fl₂ with
    |ret r=>
     obtain⟨rfl,h',tk,x,y,z,ep,rfl,g1,g2,g3⟩:=hr₂
     repeat (any_goals (first|assumption|wp_step))
     exact q h' tk x y z ep g1 g2 g3
    |_=>exact hr₂.elim
  |_=>exact hr.elim
end
theorem kO:Slot "set_iterator" "__next__" "set_iterator.__next__":=.of (owner:="set_iterator") (n:="__next__") (by rw[TZ,Sw];kernel_rfl) (by decide+kernel) (by decide+kernel) (by decide+kernel) (by first|exact .inl (by decide+kernel)|exact .inr (by decide+kernel)) (by rw[Tb];kernel_rfl)
theorem zH:Slot "set_iterator" "__iter__" "set_iterator.__iter__":=.of (owner:="set_iterator") (n:="__iter__") (by rw[TZ,Sw];kernel_rfl) (by decide+kernel) (by decide+kernel) (by decide+kernel) (by first|exact .inl (by decide+kernel)|exact .inr (by decide+kernel)) (by rw[Tb];kernel_rfl)
theorem wg:V8 table "set_iterator.__next__"=Wv R9.«set_iterator.__next__»:=Vs (by kernel_rfl)
theorem zF (a):argsOk "set_iterator.__next__" {[a],[]}:=by unfold argsOk;kernel_rfl
theorem A6:V8 table "set.__iter__"=Wv R9.«frozenset.__iter__»:=Wc (id':="frozenset.__iter__") (by kernel_rfl) rfl (by decide+kernel) (by kernel_rfl)
def Ŏ(tx:Bool)(ord:Nat->Nat)(a b c:Option Tok):Array (Int×Qt):=if tx=true then Wm ord (dv a b c)else dv a b c
def km(tx:Bool)(a b c:Option Tok)(i:Nat):Nat:=if tx=true then 0 else match i with
 |0=>0
 |j+1=>(yY a b c).getD j 0+1
abbrev Ϫ(slot i:Nat)(S:Qs)(n ep:Nat):Obj:={ cls:=.type "set_iterator",data:=.fields #[TH slot,TH i,.ref S,TH n,TH ep] }
section
variable{prog:Program}{w:QD}{A:QU}{E:Qt->Qw->Prop}{s:Qw}{S:Qs}{a b c:Option Tok}{ep:Nat}
theorem EA(h:i<=(dv a b c).size):Ug (yY a b c) (km false a b c i)=i/\(yY a b c)[i]?=(dv a b c)[i]?.map λ_=>(yY a b c).getD i 0:=by
 have h3:=jP a b c;have i3:i=0\/i=1\/i=2\/i=3:=()
 rcases i3 with rfl|rfl|rfl|rfl<;>cases a<;>cases b<;>cases c<;>first|(simp[dv]at h;done)|(refine{?_,?_}<;>kernel_rfl)
theorem Cs(ho:s.heap.get? S=Wv (ĕ a b c ep (!w.params.followText "set-order")))(h:i<=(dv a b c).size)
  (q:Q ((Ŏ (w.params.followText "set-order") (w.params.setOrder S ep) a b c)[i]?.map λe=>(e.2,km (w.params.followText "set-order") a b c (i+1))) s):wpAny (QG prog w) A (setNext S (km (w.params.followText "set-order") a b c i) i ep) Q E s:=by
 unfold setNext
 refine Qr (RD ho rfl (gw ..) ?_)
 refine Qr (pI ?_)
 cases hx:w.params.followText "set-order" with
 |true=>
  rw[hx]at ho q
  simp only[if_true,bne_self_eq_false,Ox,if_false]
  unfold setWalk
  refine Qr (Qr (RD ho rfl (gw ..) (Qr (pI ?_))))
  rw[hx]
  simp only[if_true]
  refine Qr (Tz (Qu (Qu ?_)))
  exact q
 |false=>
  rw[hx]at ho q
  simp only[Ox,if_false]
  show wpAny _ _ (if false=true then _ else _) _ _ _
  simp only[Ox,if_false]
  refine Qr (show wpAny _ _ (pure Unit.unit) _ _ _ from Qu ?_)
  obtain⟨e1,e2⟩:=EA h
  refine Qu ?_
  show Q (match (dv a b c)[Ug (yY a b c) (km false a b c i)]?,(yY a b c)[Ug (yY a b c) (km false a b c i)]? with|some (_,x),Wv j=>Wv (x,j+1)|_,_=>Ww) s
  rw[e1,e2]
  rw[show Ŏ false (w.params.setOrder S ep) a b c=dv a b c from rfl]at q
  cases he:(dv a b c)[i]? with
  |none=>rw[he]at q;exact q
  |some e=>rw[he]at q;exact q
def Bl(w:QD)(I S:Qs)(a b c:Option Tok)(ep i:Nat)(h:QN):Prop:=h.get? I=Wv (Ϫ (km (w.params.followText "set-order") a b c i) i S (dv a b c).size ep)/\h.get? S=Wv (ĕ a b c ep (!w.params.followText "set-order"))
theorem Iv(ne:S≠I)(st:Bl w I S a b c ep i s.heap)(h:i<=(dv a b c).size)(he:(Ŏ (w.params.followText "set-order") (w.params.setOrder S ep) a b c)[i]?=Wv e)
  (q:∀h',Bl w I S a b c ep (i+1) h'->RQ I s.heap h'->Q (Wv e.2) { s with heap:=h' }):wpAny (QG prog w) A (T9 (.ref I)) Q E s:=by
 obtain⟨hI,hS⟩:=st
 have ty:s.TypeIs (.ref I) "set_iterator":={_,hI,rfl}
 unfold T9
 refine Qr (wpAny_attempt (RL (name:=Rh "__next__") ty kO (Rn kO ty wg ?_ (zF _))))
 show wpAny _ _ (fieldsOf (.ref I)>>=_) _ _ s
 refine Qr (Qr (UL hI (Qu ?_)))
 dsimp only[TH]
 refine Qr (SS hS rfl (gw ..) ?_)
 simp only[bne_self_eq_false,Ox,if_false,PH]
 refine Qr (Cs hS h ?_)
 rw[he]
 dsimp only[Option.map]
 refine Qr (Uh hI rfl (by simp) ?_)
 have h1:(s.heap.update I (Obj.mapFields (·.setIfInBounds 0 (TH (km (w.params.followText "set-order") a b c (i+1):Nat))))).get? I=Wv (Ϫ (km (w.params.followText "set-order") a b c (i+1)) i S (dv a b c).size ep):=Rm _ hI rfl
 refine Qr (Uh h1 rfl (by simp) ?_)
 have h2:=Rm (Obj.mapFields (·.setIfInBounds 1 (TH ((i:Int)+1)))) h1 rfl
 refine Qu {_,rfl,Qu (q _ {h2,?_} ?_)}
 ·exact(Ri _ _ ne.symm).trans ((Ri _ _ ne.symm).trans hS)
 exact(RZ ..).trans (RZ ..)
theorem JY(hh:A.handled=Ww)(st:Bl w I S a b c ep (dv a b c).size s.heap)(he:(Ŏ (w.params.followText "set-order") (w.params.setOrder S ep) a b c)[(dv a b c).size]?=Ww)
  (q:∀h',Heap.ExtBut I s.heap h'->Q Ww { s with heap:=h' }):wpAny (QG prog w) A (T9 (.ref I)) Q E s:=by
 obtain⟨hI,hS⟩:=st
 have ty:s.TypeIs (.ref I) "set_iterator":={_,hI,rfl}
 unfold T9
 refine Qr (wpAny_attempt (RL (name:=Rh "__next__") ty kO (Rn kO ty wg ?_ (zF _))))
 show wpAny _ _ (fieldsOf (.ref I)>>=_) _ _ s
 refine Qr (Qr (UL hI (Qu ?_)))
 dsimp only[TH]
 refine Qr (SS hS rfl (gw ..) ?_)
 simp only[bne_self_eq_false,Ox,if_false,PH]
 refine Qr (Cs hS (NM _) ?_)
 rw[he]
 dsimp only[Option.map]
 refine Qr (Uh hI rfl (by simp) (Qr ?_))
 simp only[newExc,newTuple]
 refine Qr (QP (Qr (m:=We _ _) (wpAny_of_eq (a:=Sy) (by first|rfl|(simp only[We];rfl)) (QP ?_ (by size_fits)))) (by size_fits))
 simp only[raiseNew]
 refine Qr (wpAny_handled ?_)
 rw[show A.in1.handled=Ww from hh]
 refine Qr (Qu (wpAny_throw ?_))
 refine Qr (Tx (T:="StopIteration") (b:=true) {_,QE _ rfl,rfl} isSubtype_stop ?_)
 exact Qu (q _ (((RZ ..).extBut.push _).push _))
end
theorem uc{α:Type}:∀{l:List α}{i:Nat}(h:i<l.length),(l[i]::l.eraseIdx i).Perm l
 |x::l,0,_=>Wf _
 |x::l,i+1,h=>((List.Perm.swap _ _ _).trans ((uc (l:=l) (i:=i) (by simpa using h)).cons x))
theorem Cr{α:Type} (next):∀(n k:Nat)(left:List α)(out:Array α),left.length=n->(Vf next n k left out).toList.Perm (out.toList++left)
 |0,k,left,out,h=>by
  rw[List.length_eq_zero_iff.mp h];unfold Vf;simp
 |n+1,k,left,out,h=>by
  have lt:next k%left.length<left.length:=Nat.mod_lt _ ()
  unfold Vf;rw[NN lt];dsimp only;refine(Cr next n (k+1) _ _ (by rw[List.length_eraseIdx_of_lt lt];lia)).trans ?_;rw[Array.toList_push,Oz];exact List.Perm.append_left _ (uc lt)
theorem DX{α:Type} (next) (xs:Array α):(Wm next xs).toList.Perm xs.toList:=by
 have:=Cr next xs.size 0 xs.toList #[] (OI ..)
 simpa [Wm] using this
theorem Dk:V8 table "set_iterator.__iter__"=Wv R9.«dict_keyiterator.__iter__»:=Wc (id':="dict_keyiterator.__iter__") (by kernel_rfl) rfl (by decide+kernel) (by kernel_rfl)
theorem F2 (a):argsOk "set_iterator.__iter__" {[a],[]}:=by unfold argsOk;kernel_rfl
section
variable{prog:Program}{w:QD}{A:QU}{E:Qt->Qw->Prop}{s:Qw}{S:Qs}{a b c:Option Tok}{ep:Nat}
theorem vc (tx ord):(Ŏ tx ord a b c).toList.Perm (dv a b c).toList:=by
 cases tx
 ·exact Wf _
 exact DX _ _
theorem qR (tx ord):(Ŏ tx ord a b c).size=(dv a b c).size:=by
 have:=(vc (a:=a) (b:=b) (c:=c) tx ord).length_eq;simpa using this
theorem Bl.at(x:Bl w I S a b c ep i h)(e:∀b∈[I,S],∀o,h.get? b=Wv o->h'.get? b=Wv o):Bl w I S a b c ep i h':={e I (by simp) _ x.1,e S (by simp) _ x.2}
theorem FQ(hh:A.handled=Ww)(I:Qs)(ne:S≠I):Walks prog w A I [I,S] [I] (dv a b c).size (λi v=>(Ŏ (w.params.followText "set-order") (w.params.setOrder S ep) a b c)[i]?.map (·.2)=Wv v) (λi h=>Bl w I S a b c ep i h) where
 sub:=λb hb=>by simp at hb;simp[hb]
 frame:=λi h h' st k=>st.at k
 item:=λi s Q E hi st q=>by
  have lt:i<(Ŏ (w.params.followText "set-order") (w.params.setOrder S ep) a b c).size:=by rw[qR];exact hi
  refine Iv ne st (Pm hi) (Pl lt) λh' ĥ sb=>?_;exact q _ h' s.toks (by rw[Pl lt];rfl) ĥ λb o hb e=>by rw[sb.2 b (λz=>hb (by rw[z];simp))];exact e
 done:=λs Q E st q=>JY hh st (TX (by rw[qR];exact NM _)) λh' x=>q h' s.toks λb o hb e=>x b o (λz=>hb (by rw[z];simp)) e
 self:=λi s Q E st q=>by
  have ty:s.TypeIs (.ref I) "set_iterator":={_,st.1,rfl};refine Vg ty zH (Rn zH ty Dk ?_ (F2 _));exact Qu {_,rfl,"set_iterator",_,ty,kO.lookup,q}
theorem Bx:typeLookup (.type "set") "__len__"=pure (Wv (.builtin "set.__len__")):=by rw[TZ,Sw];kernel_rfl
theorem G7(ho:s.heap.get? S=Wv (ĕ a b c ep (!w.params.followText "set-order")))(q:Q (.ref s.heap.objs.size) { s with heap:=s.heap.push (Ϫ 0 0 S (dv a b c).size ep) }):wpAny (QG prog w) A (Wr (.ref S)) Q E s:=by
 have ty:s.TypeIs (.ref S) "set":={_,ho,rfl};refine Vg ty T5 (Rn T5 ty A6 ?_ (PySem.F.args_set_iter_1 _));unfold R9.«frozenset.__iter__»;refine Qr (show wpAny _ _ (pure S) _ _ _ from Qu ?_);refine Qr (Qr (SS ho rfl (gw ..) (Qu ?_)));refine Qr (Qr (RD ho rfl (gw ..) (Qr (pI ?_))));refine Qu ?_;have e:(!w.params.followText "set-order"&&false)=false:=V1 _;show wpAny _ _ (if(!w.params.followText "set-order"&&false)=true then _ else _) _ _ _;rw[e];simp only[Ox,if_false];refine Qr (Qu (Qr (Qr (RD ho rfl (gw ..) (Qu ?_)))));refine Qr (QP (Qu {_,rfl,"set_iterator",_,{_,QE _ rfl,rfl},kO.lookup,q}))
theorem Ar(hh:A.handled=Ww)(ho:s.heap.get? S=Wv (ĕ a b c ep (!w.params.followText "set-order")))
  (q:∀(s':Qw)(acc:Array Qt),s'.gens=s.gens->s'.drawn=s.drawn->s'.os=s.os->(∀b o,s.heap.get? b=Wv o->s'.heap.get? b=Wv o)->s.heap.objs.size<=s'.heap.objs.size->acc.toList=(Ŏ (w.params.followText "set-order") (w.params.setOrder S ep) a b c).toList.map (·.2)->Q acc.toList s'):wpAny (QG prog w) A (collect (.ref S)) Q E s:=by
 have lS:S<s.heap.objs.size:=QF ho
 unfold collect
 refine Qr (Wb (Ru PySem.F.entry_proto_collect ?_))
 rw[Ra PySem.F.plain_proto_collect _]
 refine Qr (m:=newList []) (QP ?_)
 refine Qu {R8 TB _,Ru PySem.F.entry_list_iadd ?_}
 rw[Ra TB _]
 show wpAny _ A.in1 (SX (.ref s.heap.objs.size) (.ref S) (.ref s.heap.objs.size)) _ _ _
 have h1:(s.heap.push { cls:=.type "list",data:=.seq ([]:List Qt).toArray }).get? S=Wv (ĕ a b c ep (!w.params.followText "set-order")):=Qv _ ho
 have h0:(s.heap.push { cls:=.type "list",data:=.seq ([]:List Qt).toArray }).get? s.heap.objs.size=Wv { cls:=.type "list",data:=.seq ([]:List Qt).toArray }:=QE _ rfl
 have z1:(s.heap.push { cls:=.type "list",data:=.seq ([]:List Qt).toArray }).objs.size=s.heap.objs.size+1:=Ro ..
 generalize hH:s.heap.push { cls:=.type "list",data:=.seq ([]:List Qt).toArray }=H at h1 h0 z1⊢
 have ty:UG { s with heap:=H } (.ref S) "set":=⟨_,h1,rfl⟩
 unfold SX
 refine Qr (Sr ty ?_)
 have k1:Tq (.ref s.heap.objs.size) (.ref S)=false:=by simp[Tq,O4 lS]
 have k2:(Rq "set"==Rq "list")=false:=∅
 have k3:(Rq "set"==Rq "tuple")=false:=∅
 simp only[k1,k2,k3,Bool.or_false,Ox,if_false]
 refine Qr (G7 h1 ?_)
 have Ϲ:=Qv (Ϫ 0 0 S (dv a b c).size ep) h1
 have ty':UG { s with heap:=H.push (Ϫ 0 0 S (dv a b c).size ep) } (.ref S) "set":=⟨_,Ϲ,rfl⟩
 refine Qr (wpAny_holding ?_)
 unfold Builtin.List.listLengthHint
 refine Qr (VG ty' Bx ?_)
 wp_delta
 refine Qr (Tx (b:=true) ty' (by rw[Tb];kernel_rfl) ?_)
 show wpAny _ A.in1 (typeOf (QJ S)>>=_) _ _ _
 refine Qr (Sr ty' (Qu ?_))
 show wpAny _ A.in1 (rule "list.extend.makes-room">>=λ_=>Builtin.List.listTouch (.ref s.heap.objs.size)>>=λ_=>again (.builtin "list.extend.loop" {[.ref s.heap.objs.size,.ref H.objs.size,.ref s.heap.objs.size],[]})) _ _ _
 refine Qr (UW (Qr ?_))
 have h0':=Qv (Ϫ 0 0 S (dv a b c).size ep) h0
 have hI:(H.push (Ϫ 0 0 S (dv a b c).size ep)).get? H.objs.size=Wv (Ϫ 0 0 S (dv a b c).size ep):=QE _ rfl
 generalize hH2:H.push (Ϫ 0 0 S (dv a b c).size ep)=H2 at h0' hI Ϲ⊢
 show wpAny _ A.in1 (updateSeq s.heap.objs.size (·.push .none)>>=λ_=>updateSeq s.heap.objs.size (·.pop)) _ _ _
 refine Qr (VL h0' rfl ?_)
 have g2:=Rm (RV (·.push Sy)) h0' rfl
 refine VL (hz:=by seq_fits) g2 rfl ?_
 have g3:=Rm (RV (·.pop)) g2 rfl
 have oth:∀b o,b≠s.heap.objs.size->H2.get? b=Wv o->((H2.update s.heap.objs.size (RV (·.push Sy))).update s.heap.objs.size (RV (·.pop))).get? b=Wv o:=λb o hb e=>(Ri _ _ (OU hb)).trans ((Ri _ _ (OU hb)).trans e)
 have nS:S≠s.heap.objs.size:=Of lS
 have nI:H.objs.size≠s.heap.objs.size:=by rw[z1];exact Nat.succ_ne_self _
 have nSI:S≠H.objs.size:=by rw[z1];exact Of (OS lS)
 have e0:km (w.params.followText "set-order") a b c 0=0:=by unfold km;split<;>rfl
 have W:=FQ (prog:=prog) (w:=w) (A:=A.in1) (a:=a) (b:=b) (c:=c) (ep:=ep) (by simp[hh]) H.objs.size nSI
 refine Qu {R8 PySem.F.plain_extend_loop _,codeAny_extend_loopS W.toS (NU (jP a b c) ∅) _ ?_ _ (dv a b c).size 0 _ _ _ rfl (NS _) {?_,oth _ _ nS Ϲ} g3 (ItemsOf.nil _) λs' acc' c' mv hL ľ=>?_}
 ·simp only[NJ,NZ,or_false,not_or];exact⟨nI.symm,nS.symm⟩
 ·rw[e0];exact oth _ _ nI hI
 show wpAny _ A (load s.heap.objs.size>>=_) _ _ s'
 refine Qr (UL hL (Qu ?_))
 have old:∀b o,s.heap.get? b=Wv o->s'.heap.get? b=Wv o:=λb o e=>by
  have lt:=QF e;refine mv.heap b o (λm=>?_) (oth b o (Of lt) (by rw[<-hH2,<-hH];exact Qv _ (Qv _ e)));simp only[NJ,NZ,or_false]at m;rcases m with m|m
  ·exact absurd lt (by rw[m];exact Ol _)
  rw[m,z1]at lt;exact absurd lt (Nat.not_lt.mpr (OZ _))
 refine q s' acc' mv.gens mv.drawn mv.os old ?_ ?_
 ·exact Pm (QF hL)
 refine Vh λi=>?_
 rw[NX,OL,OL]
 cases e:acc'[i]? with
 |some v=>exact(ľ.2 i v e).symm
 |none=>
  have:=Array.getElem?_eq_none_iff.mp e
  rw[TX (by rw[qR,<-ľ.1];exact this)]
  rfl
theorem DS(hh:A.handled=Ww)(ho:s.heap.get? S=Wv (ĕ a b c ep (!w.params.followText "set-order")))(hn:SV ((Ŏ (w.params.followText "set-order") (w.params.setOrder S ep) a b c).toList.map (·.2)) ns)
  (q:∀h' tk L e out ns',(∀b o,s.heap.get? b=Wv o->h'.get? b=Wv o)->s.heap.objs.size<=L->h'.get? L=Wv (Wu "list" out e)->SV out.toList ns'->ns'.Perm ns->ns'.Pairwise (· <= ·)->Q (.ref L) { s with heap:=h',toks:=tk }) :
  wpAny (QG prog w) A (call (.builtin "sorted") [.ref S]) Q E s:=by
 refine Calls.call_function_entry kind_sorted plain_sorted entry_sorted (args_sorted1 _) ?_
 unfold R9.«sorted»
 refine Qr (m:=checkCount "sorted" 1 1 _) (Qu ?_)
 refine Qr (Ar (by simp[hh]) ho λs1 acc g1 g2 g3 old sz ľ=>?_)
 obtain⟨h1,gn,dr,tk,os⟩:=s1
 obtain rfl:gn=s.gens:=g1
 obtain rfl:dr=s.drawn:=g2
 obtain rfl:os=s.os:=g3
 rw[ľ]
 have l4:((Ŏ (w.params.followText "set-order") (w.params.setOrder S ep) a b c).toList.map (·.2)).length<64:=by
  have h3:=jP a b c;rw[NH,OI,qR];lia
 generalize (Ŏ (w.params.followText "set-order") (w.params.setOrder S ep) a b c).toList.map (·.2)=vs at hn l4
 refine Qr (wpAny_newList ?_)
 have hL:(h1.push (Wu "list" vs.toArray 0)).get? h1.objs.size=Wv (Wu "list" vs.toArray 0):=QE _ rfl
 refine Qr (wpAny_holding (Rn slot_list_sort {_,hL,rfl} entry_list_sort (list_sort_tree hL hn l4 λout ns' a1 a2 a3=>{_,rfl,?_}) (args_list_sort _)))
 have lt:h1.objs.size<(h1.push (Wu "list" vs.toArray 0)).objs.size:=QF hL
 obtain⟨e,he⟩:=sortedHeap_at (out:=out) hL
 refine Qu {_,rfl,q (sortedHeap (h1.push (Wu "list" vs.toArray 0)) h1.objs.size vs out) tk h1.objs.size e out ns' (λb o hb=>?_) sz he a1 a2 a3}
 have hb1:=old b o hb
 have lb:=QF hb1
 exact(sortedHeap_old (Of lb) (Nat.lt_trans lb lt)).trans (Qv _ hb1)
end
theorem Paired.Nz{α β:Type}{F}{x:α}{y:β}(h:F x y){a:List α}{b:List β}(r:Paired F a b):Paired F (a++[x]) (b++[y]):=r.snoc h
theorem gz{α:Type}{K a xs own fr g tf te Q B H1}(src:List α) (p) (R:α->V->Hp->Prop) (hx:À K H1 a xs) (hl:xs.length=src.length) (hn:xs.length<sizeLine)
  (he:∀(b:CB)(i:Nat)(x:V)(e:α)(v0:St)(H:Hp)(N:St->Hp->Prop)(Y:St->V->Hp->Prop),xs[i]?=Wv x->src[i]?=Wv e->v0.length=own->ai H1 H->
   (p e=false->∀v1 H',v1.length=own->ai H H'->N (v1++ŕ fr B) H')->(p e=true->∀v1 y H',v1.length=own->ai H H'->R e y H'->Y (v1++ŕ fr B) y H')->
   g b x (v0++ŕ fr B) H λσ3 H3=>tf b σ3 H3 λk H4=>if k=true then te b σ3 H4 λy H5=>Y σ3 y H5 else N σ3 H4)
  (mono:∀e y H H',ai H H'->R e y H->R e y H') (st:∀e y H D ys zs,H D=Wv (.lst ys)->R e y H->R e y (upd H D (.lst zs)))
  (fin:∀D H ys,H1 D=Ww->ai H1 H->H D=Wv (.lst ys)->Paired (λe y=>R e y H) (src.filter p) ys->Q (.ref D) H):x6 (Itl K a) own fr g tf te Q B H1:=by
 refine⟨λb D hD=>?_⟩
 refine{λi m B' H'=>m=xs.length-i/\i<=xs.length/\(∃v0,B'=v0++ŕ fr B/\v0.length=own)/\ai H1 H'/\∃ys,H' D=Wv (.lst ys)/\ys.length<=i/\Paired (λe y=>R e y H') ((src.take i).filter p) ys,{xs.length,rfl,NS _,⟨QH own Ww,rfl,OB ..⟩,ai.upd hD _,[],av,NM _,.nil},?_}
 rintro i m B' H' ⟨rfl,hi,⟨v0,rfl,hv⟩,sm,ys,hL,hy,hR⟩
 by_cases í:i<xs.length
 ·have hs:i<src.length:=()
  refine .inr {{xs,xs[i],sm.seq hx,NN í},λσ2 H2=>(∃v0,σ2=v0++ŕ fr B/\v0.length=own)/\ai H1 H2/\∃ys,H2 D=Wv (.lst ys)/\ys.length<=i+1/\Paired (λe y=>R e y H2) ((src.take (i+1)).filter p) ys,λσ2 H2 q=>{xs.length-(i+1),(),rfl,í,q},λv H2 y=>?_};obtain⟨rfl,y2⟩:=y;have e:=y2 xs (sm.seq hx);have tk:src.take (i+1)=src.take i++[src[i]]:=by rw[Od,NN hs];rfl
  refine he b i v src[i] v0 _ _ _ e (NN hs) hv sm (λpf v1 H3 h1 s3=>?_) (λpt v1 y H3 h1 s3 r3=>?_)
  ·refine{⟨v1,rfl,h1⟩,sm.trans s3,ys,s3 _ _ hL,(),?_};rw[tk,OC,Po (by rw[pf];exact NT),OQ,Oi];exact Paired.fg hR λe y z=>mono _ _ _ _ s3 z
  have Ϸ:=s3 _ _ hL;refine{ys,Ϸ,(),⟨v1,rfl,h1⟩,?_,ys++[y],av,by simp;lia,?_}
  ·intro c o q;by_cases hc:c=D
   ·rw[hc,hD]at q;cases q
   rw[aR hc];exact(sm.trans s3) c o q
  rw[tk,OC,Pp pt,OQ];exact Paired.Nz (F:=λe y'=>R e y' (upd H3 D (.lst (ys++[y])))) (st _ _ _ _ _ _ Ϸ r3) (Paired.fg hR λe y z=>st _ _ _ _ _ _ Ϸ (mono _ _ _ _ s3 z))
 have e:i=xs.length:=()
 subst e
 rw[hl,N0]at hR
 exact .inl {{xs,sm.seq hx,NM _},fin D H' ys hD sm hL hR}
theorem mG{K a xs own fr g tf te Q B H1}(Pv:Qs->Nat->List V->Hp->Prop)(hx:À K H1 a xs)(hn:xs.length<sizeLine)(h0:∀D,H1 D=Ww->Pv D 0 [] (upd H1 D (.lst [])))
  (he:∀(b:CB)(D:Qs)(i:Nat)(x:V)(v0:St)(H:Hp)(ys:List V)(N:St->Hp->Prop)(Y:St->V->Hp->Prop),xs[i]?=Wv x->v0.length=own->H1 D=Ww->ai H1 H->H D=Wv (.lst ys)->Pv D i ys H->
   (∀v1 H',v1.length=own->ai H H'->Pv D (i+1) ys H'->N (v1++ŕ fr B) H')->(∀v1 y H',v1.length=own->ai H H'->Pv D (i+1) (ys++[y]) (upd H' D (.lst (ys++[y])))->Y (v1++ŕ fr B) y H')->
   g b x (v0++ŕ fr B) H λσ3 H3=>tf b σ3 H3 λk H4=>if k=true then te b σ3 H4 λy H5=>Y σ3 y H5 else N σ3 H4)
  (fin:∀D H ys,H1 D=Ww->ai H1 H->H D=Wv (.lst ys)->Pv D xs.length ys H->Q (.ref D) H):x6 (Itl K a) own fr g tf te Q B H1:=by
 refine⟨λb D hD=>?_⟩
 refine{λi m B' H'=>m=xs.length-i/\i<=xs.length/\(∃v0,B'=v0++ŕ fr B/\v0.length=own)/\ai H1 H'/\∃ys,H' D=Wv (.lst ys)/\ys.length<=i/\Pv D i ys H',{xs.length,rfl,NS _,⟨QH own Ww,rfl,OB ..⟩,ai.upd hD _,[],av,NM _,h0 D hD},?_}
 rintro i m B' H' ⟨rfl,hi,⟨v0,rfl,hv⟩,sm,ys,hL,hy,hR⟩
 by_cases í:i<xs.length
 ·refine .inr {{xs,xs[i],sm.seq hx,NN í},λσ2 H2=>(∃v0,σ2=v0++ŕ fr B/\v0.length=own)/\ai H1 H2/\∃ys,H2 D=Wv (.lst ys)/\ys.length<=i+1/\Pv D (i+1) ys H2,λσ2 H2 q=>{xs.length-(i+1),(),rfl,í,q},λv H2 y=>?_};obtain⟨rfl,y2⟩:=y;have e:=y2 xs (sm.seq hx);refine he b D i v v0 _ ys _ _ e hv hD sm hL hR (λv1 H3 h1 s3 p3=>?_) (λv1 y H3 h1 s3 p3=>?_)
  ·exact{⟨v1,rfl,h1⟩,sm.trans s3,ys,s3 _ _ hL,(),p3}
  refine{ys,s3 _ _ hL,(),⟨v1,rfl,h1⟩,?_,ys++[y],av,by simp;lia,p3};intro c o q;by_cases hc:c=D
  ·rw[hc,hD]at q;cases q
  rw[aR hc];exact(sm.trans s3) c o q
 have e:i=xs.length:=()
 subst e
 exact .inl {{xs,sm.seq hx,NM _},fin D H' ys hD sm hL hR}
def ř(ns:List Int):List Int:=[0,1,2].filter λr=>decide (r∈ns)
theorem pD:∀{l:List (Int×Qt)},(∀e∈l,∃t,e.2=RI e.1 t)->SV (l.map (·.2)) (l.map (·.1))
 | [],_=>.nil
 | (n,v)::l,h=>by
  obtain⟨t,e⟩:=h (n,v) NL;have e:v=.int n t:=e;subst e;exact .cons _ _ (pD λe he=>h e (NK _ he))
theorem Ky (a b c):(∀e∈(dv a b c).toList,∃t,e.2=RI e.1 t):=by
 intro e he;cases a<;>cases b<;>cases c<;>simp[dv]at he<;>rcases he with rfl|rfl|rfl<;>exact{_,rfl}
theorem G4(ns:List Int)(r:Int):((Q1 ns.length).any λj=>decide (ns.getD j 0=r))=decide (r∈ns):=by
 rw[OW,Pw,decide_eq_true_iff];constructor
 ·rintro⟨j,hj,e⟩;have hj:=PX.mp hj;have e:=of_decide_eq_true e;rw[Oj,NN hj]at e;exact e▸Vv hj
 intro m;obtain⟨j,hj,e⟩:=Uv m;refine{j,PX.mpr hj,decide_eq_true ?_};rw[Oj,NN hj];exact e
theorem Lo(h:EH (λi=>ns.getD i 0) ns.length a b c):(dv a b c).toList.map (·.1)=ř ns:=by
 obtain⟨h0,h1,h2⟩:=h;rw[G4]at h0 h1 h2;unfold ř;simp only[PU,OQ,<-h0,<-h1,<-h2];cases a<;>cases b<;>cases c<;>rfl
theorem AI (ns):(ř ns).Pairwise (· <= ·):=List.Pairwise.filter _ ∅
theorem HL{a b:List Int}(p:a.Perm b)(h:a.Pairwise (· <= ·))(h':b.Pairwise (· <= ·)):a=b:=p.eq_of_pairwise (λ_ _ _ _ x y=>Int.le_antisymm x y) h h'
theorem vR:∀{ns:List Int}{us:List Qt},Wz (ns.map V.int) us->SV us ns
 | [],_,h=>by cases h;exact .nil
 |n::ns,_,h=>by
  cases h with
  |cons h r=>
   obtain⟨t,rfl⟩:=h;exact .cons _ _ (vR r)
section
variable{X:Cx}
def BG(K:Qx)(t:TA):TE:=λB H Q=>t B H λxs H1=>∃(p:Qs)(ns:List Int),xs=[.ref p]/\À K H1 p (ns.map V.int)/\(∀n∈ns,n=0\/n=1\/n=2)/\∀l,H1 l=Ww->Q (.ref l) (upd H1 l (.lst ((ř ns).map V.int)))
theorem xw(hm:X.mg "sorted"=Ww)(hm':X.mg "set"=Ww)(ha:PA X [e] t)(hc:X.calm=true:=by rfl)(hg:Gl X "sorted":=by rfl)(hg':Gl X "set":=by rfl)
  (he:QA [.Call (.Name "set" p') [e] [] pos'] X.env=(false,QV (.Call (.Name "set" p') [e] [] pos') X.env)::QA [] X.env:=by rfl) (ą:(Q7 pos (QA [] X.env)).any (·.1)=false:=by rfl)
  (he':QA [e] X.env=(false,QV e X.env)::QA [] X.env:=by rfl) (hpl':(Q7 pos' (QA [] X.env)).any (·.1)=false:=by rfl):PE X (.Call (.Name "sorted" p) [.Call (.Name "set" p') [e] [] pos'] [] pos) (BG X.K t):=by
 intro pins s B H Q I h
 refine Rx (mE I hg hm (by boot_by_name) ?_)
 refine SE ?_ he ą
 rw[he]
 show wpAny _ _ (Wq ((false,QV (.Call (.Name "set" p') [e] [] pos') X.env)::Q7 pos (QA [] X.env))) _ _ s
 refine UM ?_
 refine Rx (mE I hg' hm' (by boot_by_name) ?_)
 refine Rc (Ï (ha pos' pins s B H _ I h) λus s1 ⟨vs,H1,I1,r1,q1⟩=>?_) he' hpl'
 obtain⟨l,ns,rfl,hl,h3,q⟩:=q1
 obtain⟨u,rfl,rx⟩:=WL r1
 cases rx
 obtain⟨Â,rv,pl,hz⟩:=I1.list hl
 have el:=rv.length
 rw[NH]at el
 have hA:=I.ok.hd hc
 have iv:=vR rv
 refine yU (val:=λi=>ns.getD i 0) hA pl.isList (λi v hi=>?_) (λi v hi=>?_) λh' tk x y z ep hS rk old=>?_
 ·rw[T6]at hi;obtain⟨n,t,e,en⟩:=iv.at i v hi;refine{t,?_};rw[e];show _=RI (ns.getD i 0) t;rw[Oj,en];rfl
 ·rw[T6]at hi;obtain⟨n,t,e,en⟩:=iv.at i v hi;have:=h3 n (NO en);rw[Oj,en];exact this
 have I2:Inv X pins B H1 { s1 with heap:=h',toks:=tk }:=I1.kept λb o e=>old b o (QF e) e
 show wpAny _ _ (Wq (Q7 pos (QA [] X.env))) _ _ _
 refine U7 ?_
 have sz:Â.toArray.size=ns.length:=by simp[el]
 rw[sz]at rk
 have hn:=pD (l:=(Ŏ (X.w.params.followText "set-order") (X.w.params.setOrder s1.heap.objs.size ep) x y z).toList) (λe he=>Ky x y z e ((List.Perm.mem_iff (vc _ _)).mp he))
 refine DS hA hS hn λh2 tk2 L e2 out ns' old2 sL hL ia pm pw=>?_
 have en:ns'=ř ns:=by
  refine HL ?_ pw (AI ns);rw[<-Lo rk];exact pm.trans (List.Perm.map _ (vc _ _))
 subst en
 have hf:H1 L=Ww:=I2.Æ.fresh sL
 refine{.ref L,upd H1 L (.lst ((ř ns).map V.int)),I2.laid (t':=tk2) old2 sL ?_,rfl,q L hf}
 have l3:(ř ns).length<=3:=Ou _ _
 exact{by rw[NH];exact NU l3 ∅,out.toList,e2,wk ia,by rw[Ud];exact hL}
end
section
variable{prog:Program}{w:QD}{A:QU}{E:Qt->Qw->Prop}{s:Qw}
end
section
variable{X:Cx}{pins:List (Qs×Obj)}{B:St}{H:Hp}{s:Qw}
end
section
variable{X:Cx}{tg:Expr}
end
section
variable{P:Program}{w:QD}{K:Qx}{mg:Str->Option Qt}{base:QN}{k:Nat}{x:Str}{ps:List Str}{dvs:List V}{sp:Sp}
structure TopFnE(K:Qx)(mg:Str->Option Qt)(x:Str)(st:QL)(ps:List Str)(dvs:List V):Prop where
 ex:∃(f:Qs)(oc:Qt)(od:Option Qs)(dV kV doc pm:Qt)(an:Option Qs)(Ä ct:Qt)(ă:Array (Option Qt))(ds:List Qt),K.lookup f=Wv {oc,od,.func (Rp x x (b9 st) (bK st) (aA st) dV kV doc pm an Ä ct),ă}/\SI K Ä x=true/\RB K (.ref f)=true/\mg x=Wv (.ref f)/\Wz dvs ds/\
  WE K (Rp x x (b9 st) (bK st) (aA st) dV kV doc pm an Ä ct) ps []/\WE K (Rp x x (b9 st) (bK st) (aA st) dV kV doc pm an Ä ct) ps ds/\KS K (Rp x x (b9 st) (bK st) (aA st) dV kV doc pm an Ä ct) ps [ps.getLastD Q4] gK gKV
end
end L2
namespace L2
open PySem
section
variable{X:Cx}
theorem wV(ho:PE X o to)(ç:Q6 o "reverse" X.env (QV o X.env)=QV o X.env:=by rfl)(æ:(apos.endLine==Ð.line)=true:=by rfl) :
  PE X (.Call (.Attribute o "reverse" apos) [] [] Ð) (Ie X.K "list" zY to):=
 Bg RM PySem.F.slot_list_reverse PySem.F.type_list_reverse Bd ho ç æ
end
end L2
namespace K51
open PySem L2
local macro_rules|`($a^ae)=>`(aa $a ae)
local macro_rules|`($a^$b^$c)=>`(aa $a ($b^$c))
theorem É{N P:List Str}{sc:S3}(k:sc.kind=.function:=by rfl)(c:sc.isCoroutine=false:=by rfl)(g:sc.isGenerator=false:=by rfl)(n:N.Nodup:=by decide+kernel)(p:N.take P.length=P:=by rfl)(q:∀x∈P,sc.names.lookup x=Wv .local\/sc.names.lookup x=Wv .cell:=by decide+kernel)(f:∀y∈sc.names,y.2≠ .free:=by decide+kernel):aH N P sc:=⟨k,c,g,n,p,q,f⟩
theorem px{X:Cx}{a b:Expr}{ta tb:TE}{pos:Pos}(hu:X.A.units+64<RR)(ha:PE X a ta)(hb:PE X b tb)(hs:B9 b:=by exact λ_ _=>rfl):PE X (.Subscript a b pos) (tOp (Mt X.K) ta tb):=LB (KQ hu) ha hb hs
theorem Ó{X:Cx}{pos:Pos}{i:Nat}{x:Str}(hN:X.N.Nodup)(hi:X.N[i]?=Wv x)(hx:Loc X.env.scope x:=by first|exact NI rfl|exact Ob rfl)(hf:X.fn x=true\/X.env.scope.names.lookup x=Wv .local:=by first|exact .inl rfl|exact .inr rfl|assumption):PG X (.Name x pos) (wq i):=CK hN hi hx hf
theorem Å{X:Cx}(i:Nat){x:Str}{e:Expr}{te:TE}{pos pos':Pos}(hN:X.N.Nodup)(he:PE X e te)(hi:X.N[i]?=Wv x:=by rfl)(hx:Loc X.env.scope x:=by first|exact NI rfl|exact Ob rfl)(hs:Um e (Wv (.Name x pos')) pos.line X.env=pure false:=by rfl)(hf:X.fn x=true\/X.env.scope.names.lookup x=Wv .local:=by first|exact .inl rfl|exact .inr rfl|assumption):PS X (.Assign [.Name x pos'] e pos) (Il te (wq i)):=Kc hN hi hx he hs hf
theorem Ê{X:Cx}{id:String}{r:List V->Hp->VK->Prop}{x:Str}{e:Expr}{es:List Expr}{t:TA}{p pos:Pos}(hc:fG X (.builtin id) r)(hm:X.mg x=Ww)(ha:PA X (e::es) t)(hg:Gl X x:=by rfl)(hv:RA x=Wv (.builtin id):=by boot_by_name)(hn:x≠"__name__":=by decide)(ģ:(x==("__debug__":Str))=false:=by decide)(he:QA (e::es) X.env=(false,QV e X.env)::QA es X.env:=by rfl)(ą:(Q7 pos (QA es X.env)).any (·.1)=false:=by rfl):PE X (.Call (.Name x p) (e::es) [] pos) (tCB r t):=Gu hc hg hm hv ha hn ģ he ą
theorem į{X:Cx}{T:String}{r:List V->Hp->VK->Prop}{x:Str}{e:Expr}{es:List Expr}{t:TA}{p pos:Pos}(hc:fG X (.type T) r)(hm:X.mg x=Ww)(ha:PA X (e::es) t)(hg:Gl X x:=by rfl)(hv:RA x=Wv (.type T):=by boot_by_name)(hn:x≠"__name__":=by decide)(ģ:(x==("__debug__":Str))=false:=by decide)(he:QA (e::es) X.env=(false,QV e X.env)::QA es X.env:=by rfl)(ą:(Q7 pos (QA es X.env)).any (·.1)=false:=by rfl):PE X (.Call (.Name x p) (e::es) [] pos) (tCB r t):=Ef hc hg hm hv ha hn ģ he ą
theorem Ö{X:Cx}{a b:Expr}{ta tb:TE}{pos:Pos}{op:CmpOp}{r:R2}(ho:Ô X (QK op) r)(ha:PE X a ta)(hb:PE X b tb)(hm:R7 op b=false:=by exact FH _):PT X (.Compare a [op] [b] pos) (IE (tOp r ta tb)):=GJ ho ha hb hm
theorem pec{X:Cx}{a b:Expr}{ta tb:TE}{pos:Pos}{op:CmpOp}{r:R2}(ho:Ô X (QK op) r)(ha:PE X a ta)(hb:PE X b tb)(hm:R7 op b=false:=by exact FH _):PE X (.Compare a [op] [b] pos) (tOp r ta tb):=Ht ho ha hb hm
abbrev AL:QL:=top 2
theorem G8:aH ["rank"] ["rank"] (aA AL):=É
abbrev uW:QL:=top 3
theorem D1:aH ["one","other"] ["one","other"] (aA uW):=É
abbrev FV:QL:=top 4
theorem Kz:aH ["bits"] ["bits"] (aA FV):=É
abbrev AN:QL:=top 5
theorem Hg:aH ["bits","rank"] ["bits","rank"] (aA AN):=É
abbrev qb:QL:=top 7
theorem nq:aH ["value","names","thing"] ["value"] (aA qb):=É
abbrev nO:QL:=top 9
theorem lM:aH ["names","found","name"] ["names"] (aA nO):=É
abbrev qZ:QL:=top 26
theorem uO:aH ["rows","known"] ["rows","known"] (aA qZ):=É
abbrev kx:QL:=top 27
theorem jD:aH ["row","known","one","other"] ["row","known"] (aA kx):=É
abbrev pN:QL:=top 28
theorem eX:aH ["rows","known","steps","row","more"] ["rows","known"] (aA pN):=É
abbrev jm:QL:=top 29
theorem sP:aH ["row","known"] ["row","known"] (aA jm):=É
abbrev pZ:QL:=top 30
theorem Ao:aH ["steps"] ["steps"] (aA pZ):=É
abbrev kC:QL:=top 31
theorem jk:aH ["row","known","one","other"] ["row","known"] (aA kC):=É
abbrev iz:QL:=top 32
theorem kQ:aH ["row","known","steps"] ["row","known"] (aA iz):=É
abbrev qa:QL:=top 33
theorem Ac:aH ["row","known"] ["row","known"] (aA qa):=É
abbrev xi:QL:=top 34
theorem uM:aH ["program","known","deed"] ["program"] (aA xi):=É
abbrev tZ:QL:=top 35
theorem qY:aH ["program","known","deed"] ["program"] (aA tZ):=É
abbrev nC:QL:=top 38
theorem xR:aH ["number"] ["number"] (aA nC):=É
abbrev ot:QL:=top 39
theorem iH:aH ["rows","place","loop","found","row"] ["rows","place","loop"] (aA ot):=É
abbrev kg:QL:=top 40
theorem og:aH ["row","loop","here"] ["row","loop"] (aA kg):=É
abbrev jy:QL:=top 41
theorem iy:aH ["program","found","deed"] ["program"] (aA jy):=É
abbrev qd:QL:=top 42
theorem yK:aH ["row"] ["row"] (aA qd):=É
abbrev jY:QL:=top 43
theorem iX:aH ["heads","found","head"] ["heads"] (aA jY):=É
abbrev uo:QL:=top 44
theorem iN:aH ["program","found","deed","row","place","loop"] ["program"] (aA uo):=É
abbrev xU:QL:=top 46
theorem Ek:aH ["froms","into","kind","number"] ["froms","into","kind","number"] (aA xU):=É
abbrev mK:QL:=top 47
theorem qJ:aH ["row","place","loop","parts_of","here"] ["row","place","loop","parts_of"] (aA mK):=É
abbrev lP:QL:=top 48
theorem oZ:aH ["row","place","found"] ["row","place"] (aA lP):=É
abbrev i9:QL:=top 49
theorem fb:aH ["row","place","parts","found","thing","part","into"] ["row","place","parts"] (aA i9):=É
abbrev lZ:QL:=top 50
theorem pv:aH ["row","known","here"] ["row","known"] (aA lZ):=É
abbrev xj:QL:=top 51
theorem iW:aH ["program","steps","parts_of","known","found","row","place","loop"] ["program","steps"] (aA xj):=É
abbrev rA:QL:=top 53
theorem Bc:aH ["program"] ["program"] (aA rA):=É
abbrev lX:QL:=top 54
theorem vK:aH ["program","rank"] ["program","rank"] (aA lX):=É
abbrev rq:QL:=top 55
theorem pQ:aH ["program","steps","ways","link"] ["program","steps"] (aA rq):=É
abbrev pX:QL:=top 56
theorem fE:aH ["ways","starts","came","waiting","at","here","link"] ["ways","starts"] (aA pX):=É
abbrev xg:QL:=top 57
theorem mP:aH ["program","steps","ways","bits","rank","place"] ["program","steps"] (aA xg):=É
abbrev lj:QL:=top 59
theorem fq:aH ["program","floor","bits","found","row","place","loop"] ["program","floor"] (aA lj):=É
abbrev ue:QL:=top 60
theorem kX:aH ["program","floor","above","known","heads","deeds"] ["program","floor"] (aA ue):=É
abbrev om:QL:=top 61
theorem yo:aH ["head"] ["head"] (aA om):=É
abbrev mM:QL:=top 62
theorem ye:aH ["deed","above","known"] ["deed","above","known"] (aA mM):=É
abbrev kz:QL:=top 63
theorem jC:aH ["rows","above","known"] ["rows","above","known"] (aA kz):=É
abbrev lg:QL:=top 64
theorem vB:aH ["row","above","known"] ["row","above","known"] (aA lg):=É
abbrev lF:QL:=top 65
theorem vE:aH ["row"] ["row"] (aA lF):=É
abbrev oq:QL:=top 66
theorem cV:aH ["row","above","known","left","right","one","other","greater","first"] ["row","above","known"] (aA oq):=É
abbrev kA:QL:=top 67
theorem er:aH ["row","above","known","left","right","steps"] ["row","above","known"] (aA kA):=É
abbrev j8:QL:=top 69
theorem vd:aH ["_law_script","_law_k"] ["_law_script","_law_k"] (aA j8):=É
abbrev rJ:QL:=top 70
theorem gY:aH ["_law_cell","_law_k","_law_rest","_law_j","_law_prime"] ["_law_cell","_law_k"] (aA rJ):=É
abbrev pU:QL:=top 71
theorem eV:aH ["_law_cell","_law_k","_law_letters","_law_way","_law_words","_law_size","_law_at","_law_stem"] ["_law_cell","_law_k"] (aA pU):=É
abbrev lY:QL:=top 72
theorem vN:aH ["_law_cell"] ["_law_cell"] (aA lY):=É
abbrev mI:QL:=top 73
theorem yp:aH ["_law_number_here","_law_things"] ["_law_number_here","_law_things"] (aA mI):=É
abbrev nA:QL:=top 74
theorem lB:aH ["_law_number_here","_law_things","_law_lists_here","_law_one","_law_other"] ["_law_number_here","_law_things","_law_lists_here"] (aA nA):=É
abbrev pY:QL:=top 75
theorem mS:aH ["_law_state","_law_cell","_law_deep","_law_loops","_law_kinds","_law_kind_here"] ["_law_state","_law_cell","_law_deep","_law_loops"] (aA pY):=É
abbrev oh:QL:=top 76
theorem eY:aH ["_law_state","_law_cell","_law_kind_here","_law_names","_law_at","_law_value_here","_law_own","_law_name_here","_law_many"] ["_law_state","_law_cell","_law_kind_here"] (aA oh):=É
abbrev nM:QL:=top 77
theorem qH:aH ["_law_cell","_law_number_here"] ["_law_cell"] (aA nM):=É
abbrev oe:QL:=top 78
theorem cI:aH ["_law_state","_law_cell","_law_kind_here","_law_deep","_law_loops","_law_at","_law_body","_law_idles_here","_law_rounds","_law_value_here","_law_first","_law_other"] ["_law_state","_law_cell","_law_kind_here","_law_deep","_law_loops"] (aA oe):=É
abbrev nJ:QL:=top 79
theorem iJ:aH ["_law_state","_law_deep","_law_loops","_law_nodes_here","_law_cell","_law_kind_here"] ["_law_state","_law_deep","_law_loops"] (aA nJ):=É
abbrev pP:QL:=top 80
theorem ic:aH ["_law_nodes_here","_law_rows","_law_node","_law_kind_here"] ["_law_nodes_here"] (aA pP):=É
abbrev mU:QL:=top 81
theorem gr:aH ["_law_names","_law_cell","_law_heads_here","_law_k"] ["_law_names","_law_cell"] (aA mU):=É
abbrev nZ:QL:=top 82
theorem dP:aH ["_law_script","_law_names","_law_things","_law_state","_law_one","_law_at","_law_other","_law_main"] ["_law_script"] (aA nZ):=É
abbrev kF:QL:=top 83
theorem fI:aH ["_law_drawn_here","_law_cell","_law_names","_law_bodies","_law_at","_law_deeds"] ["_law_drawn_here","_law_cell"] (aA kF):=É
abbrev pW:QL:=top 84
theorem nY:aH ["_law_found","_law_due","_law_k"] ["_law_found","_law_due"] (aA pW):=É
abbrev mN:QL:=top 85
theorem yl:aH ["_law_row"] ["_law_row"] (aA mN):=É
abbrev lh:QL:=top 86
theorem pj:aH ["_law_rows"] ["_law_rows"] (aA lh):=É
abbrev gC:QL:=top 87
theorem pV:aH ["_law_program_here"] ["_law_program_here"] (aA gC):=É
abbrev lK:QL:=top 88
theorem ft:aH ["_law_rows","_law_found","_law_row"] ["_law_rows"] (aA lK):=É
abbrev gR:QL:=top 89
theorem fC:aH ["_law_program_here","_law_found","_law_deed"] ["_law_program_here"] (aA gR):=É
abbrev pG:QL:=top 90
theorem zO:aH ["_law_row","_law_known_here"] ["_law_row","_law_known_here"] (aA pG):=É
abbrev pO:QL:=top 91
theorem cM:aH ["_law_rows","_law_known_here","_law_long_here","_law_row","_law_one","_law_other","_law_times"] ["_law_rows","_law_known_here"] (aA pO):=É
abbrev nT:QL:=top 92
theorem lL:aH ["_law_program_here","_law_known_here","_law_deed"] ["_law_program_here"] (aA nT):=É
abbrev pR:QL:=top 93
theorem eT:aH ["_law_program_here","_law_floor","_law_known_here","_law_sets","_law_due","_law_row","_law_one","_law_other","_law_both"] ["_law_program_here","_law_floor"] (aA pR):=É
abbrev pK:QL:=top 94
theorem si:aH ["_law_made_here","_law_shape_here","_law_due","_law_row"] ["_law_made_here","_law_shape_here","_law_due"] (aA pK):=É
abbrev ny:QL:=top 95
theorem fO:aH ["_law_rows","_law_found","_law_row"] ["_law_rows"] (aA ny):=É
abbrev nX:QL:=top 96
theorem cW:aH ["_law_program_here","_law_some","_law_words","_law_deed","_law_rows","_law_row","_law_found"] ["_law_program_here"] (aA nX):=É
abbrev uy:QL:=top 97
theorem jF:aH ["_law_script","_law_drawn_here","_law_program_here","_law_kept","_law_shape_here","_law_floor","_law_due","_law_made_here","_law_was","_law_row","_law_again"] ["_law_script"] (aA uy):=É
abbrev gO:QL:=WA (top 10) 0
theorem zy:aH ["self","number"] ["self","number"] (aA gO):=É
abbrev jA:QL:=WA (top 11) 0
theorem sQ:aH ["self","number","name","rank"] ["self","number","name","rank"] (aA jA):=É
abbrev iA:QL:=WA (top 12) 0
theorem rb:aH ["self","number","name","rank","size"] ["self","number","name","rank","size"] (aA iA):=É
abbrev kh:QL:=WA (top 13) 0
theorem vy:aH ["self","number","name","size"] ["self","number","name","size"] (aA kh):=É
abbrev jW:QL:=WA (top 14) 0
theorem vt:aH ["self","number","name","rank"] ["self","number","name","rank"] (aA jW):=É
abbrev jZ:QL:=WA (top 15) 0
theorem uJ:aH ["self","number","name","value"] ["self","number","name","value"] (aA jZ):=É
abbrev jb:QL:=WA (top 15) 2
theorem sF:aH ["self"] ["self"] (aA jb):=É
abbrev ky:QL:=WA (top 16) 0
theorem uN:aH ["self","number","name","place","value"] ["self","number","name","place","value"] (aA ky):=É
abbrev i5:QL:=WA (top 16) 2
theorem sU:aH ["self"] ["self"] (aA i5):=É
abbrev jg:QL:=WA (top 17) 0
theorem sA:aH ["self","number","name","value"] ["self","number","name","value"] (aA jg):=É
abbrev iu:QL:=WA (top 17) 2
theorem rW:aH ["self"] ["self"] (aA iu):=É
abbrev ko:QL:=WA (top 18) 0
theorem uG:aH ["self","number","name","value","mark"] ["self","number","name","value","mark"] (aA ko):=É
abbrev iZ:QL:=WA (top 19) 0
theorem sI:aH ["self","number","name","things"] ["self","number","name","things"] (aA iZ):=É
abbrev lG:QL:=WA (top 21) 0
theorem vL:aH ["self","number","value","first","other","left","right"] ["self","number","value","first","other","left","right"] (aA lG):=É
abbrev ka:QL:=WA (top 21) 2
theorem ve:aH ["self"] ["self"] (aA ka):=É
abbrev jw:QL:=WA (top 22) 0
theorem sR:aH ["self","number","thing","most","body","left","right"] ["self","number","thing","most","body","left","right"] (aA jw):=É
abbrev iD:QL:=WA (top 22) 2
theorem rZ:aH ["self"] ["self"] (aA iD):=É
abbrev jj:QL:=WA (top 23) 0
theorem sV:aH ["self","number","name","parts","body"] ["self","number","name","parts","body"] (aA jj):=É
abbrev iY:QL:=WA (top 24) 0
theorem sG:aH ["self","heads","deeds","main"] ["self","heads","deeds","main"] (aA iY):=É
structure Ì where
 Row:Qs
 dA:Qs
 b8:Qs
 fB:Qs
 fA:Qs
 dB:Qs
 cX:Qs
 cz:Qs
 dD:Qs
 cJ:Qs
 dZ:Qs
 dX:Qs
 bL:Qs
 cy:Qs
 Program:Qs
structure Txt(K:Qx)(mg:Str->Option Qt)(A:Ì):Prop where
 only:aY K mg "only" AL ["rank"]
 joined:aY K mg "joined" uW ["one","other"]
 top:aY K mg "top" FV ["bits"]
 fits:aY K mg "fits" AN ["bits","rank"]
 vo:aY K mg "names_in" qb ["value"]
 q0:aY K mg "each_once" nO ["names"]
 oP:aY K mg "most_of" qZ ["rows","known"]
 jK:aY K mg "most_of_row" kx ["row","known"]
 fS:aY K mg "exact_of" pN ["rows","known"]
 gD:aY K mg "exact_of_row" jm ["row","known"]
 uV:aY K mg "one_more" pZ ["steps"]
 jM:aY K mg "exact_of_if" kC ["row","known"]
 hJ:aY K mg "exact_of_loop" iz ["row","known"]
 balanced:aY K mg "balanced" qa ["row","known"]
 gk:aY K mg "mosts" xi ["program"]
 Bq:aY K mg "exacts" tZ ["program"]
 rK:aY K mg "row_place" nC ["number"]
 iP:aY K mg "laid_rows" ot ["rows","place","loop"]
 jS:aY K mg "laid_inside" kg ["row","loop"]
 lN:aY K mg "laid_program" jy ["program"]
 um:aY K mg "is_place" qd ["row"]
 mO:aY K mg "head_places" jY ["heads"]
 places:aY K mg "places" uo ["program"]
 drawn:aY K mg "drawn" xU ["froms","into","kind","number"]
 r9:aY K mg "row_links" mK ["row","place","loop","parts_of"]
 pT:aY K mg "said_links" lP ["row","place"]
 lC:aY K mg "called_links" i9 ["row","place","parts"]
 qc:aY K mg "step_links" lZ ["row","known"]
 links:mX K mg "links" xj ["program","steps"] [.bl false]
 sources:aY K mg "sources" rA ["program"]
 pF:aY K mg "sources_of" lX ["program","rank"]
 x4:aY K mg "ways_of" rq ["program","steps"]
 tT:aY K mg "arrivals" pX ["ways","starts"]
 table:mX K mg "table" xg ["program","steps"] [.bl false]
 qe:aY K mg "rows_above" lj ["program","floor"]
 AV:mX K mg "evened" ue ["program","floor"] [.int 0]
 rO:aY K mg "head_copy" om ["head"]
 qX:aY K mg "deed_copy" mM ["deed","above","known"]
 eP:aY K mg "rows_evened" kz ["rows","above","known"]
 lU:aY K mg "row_evened" lg ["row","above","known"]
 pJ:aY K mg "plain_copy" lF ["row"]
 oK:aY K mg "if_evened" oq ["row","above","known"]
 jN:aY K mg "loop_evened" kA ["row","above","known"]
 ou:aY K mg "_law_cell_at" j8 ["_law_script","_law_k"]
 xO:aY K mg "_law_mix" rJ ["_law_cell","_law_k"]
 uB:aY K mg "_law_name" pU ["_law_cell","_law_k"]
 pH:aY K mg "_law_number" lY ["_law_cell"]
 rC:aY K mg "_law_thing" mI ["_law_number_here","_law_things"]
 rP:aY K mg "_law_value" nA ["_law_number_here","_law_things","_law_lists_here"]
 vi:aY K mg "_law_kind" pY ["_law_state","_law_cell","_law_deep","_law_loops"]
 rD:aY K mg "_law_plain" oh ["_law_state","_law_cell","_law_kind_here"]
 qU:aY K mg "_law_idles" nM ["_law_cell"]
 kT:aY K mg "_law_block" oe ["_law_state","_law_cell","_law_kind_here","_law_deep","_law_loops"]
 rV:aY K mg "_law_nodes" nJ ["_law_state","_law_deep","_law_loops"]
 qG:aY K mg "_law_made" pP ["_law_nodes_here"]
 rS:aY K mg "_law_heads" mU ["_law_names","_law_cell"]
 rM:aY K mg "_law_drawn" nZ ["_law_script"]
 nP:aY K mg "_law_program" kF ["_law_drawn_here","_law_cell"]
 kK:aY K mg "_law_same" pW ["_law_found","_law_due"]
 oG:aY K mg "_law_shape" mN ["_law_row"]
 gN:aY K mg "_law_shapes" lh ["_law_rows"]
 iw:aY K mg "_law_whole_shape" gC ["_law_program_here"]
 gQ:aY K mg "_law_blocks" lK ["_law_rows"]
 iU:aY K mg "_law_all_blocks" gR ["_law_program_here"]
 nh:aY K mg "_law_ways" pG ["_law_row","_law_known_here"]
 jv:aY K mg "_law_long" pO ["_law_rows","_law_known_here"]
 rT:aY K mg "_law_known" nT ["_law_program_here"]
 uu:aY K mg "_law_dues" pR ["_law_program_here","_law_floor"]
 uP:aY K mg "_law_good" pK ["_law_made_here","_law_shape_here","_law_due"]
 iS:aY K mg "_law_lists" ny ["_law_rows"]
 rf:aY K mg "_law_spoil" nX ["_law_program_here"]
 xV:mg "bool"=Ww
 ni:mg "dict"=Ww
 zo:mg "int"=Ww
 ax:mg "isinstance"=Ww
 md:mg "len"=Ww
 fF:mg "list"=Ww
 qB:mg "max"=Ww
 hU:mg "range"=Ww
 CC:mg "set"=Ww
 qz:mg "sorted"=Ww
 sg:mg "str"=Ww
 Cw:mg "sum"=Ww
 qO:mg "tuple"=Ww
 C6:mg "zip"=Ww
 tF:∃t,mg "CLOCK"=Wv (.str "the clock" t)
 kI:gH K mg A.Row "Row" [A.Row]
 vg:Ď K A.Row "__init__" "Row.__init__" gO ["self","number"]
 cF:gH K mg A.dA "HandRow" [A.dA,A.Row]
 jB:Ď K A.dA "__init__" "HandRow.__init__" jA ["self","number","name","rank"]
 gx:aV K A.dA "name"
 gF:aV K A.dA "rank"
 eh:aV K A.dA "number"
 bq:gH K mg A.b8 "GivenRow" [A.b8,A.Row]
 iC:Ď K A.b8 "__init__" "GivenRow.__init__" iA ["self","number","name","rank","size"]
 dE:aV K A.b8 "name"
 fj:aV K A.b8 "rank"
 gf:aV K A.b8 "size"
 dH:aV K A.b8 "number"
 cL:gH K mg A.fB "OwnRow" [A.fB,A.Row]
 kj:Ď K A.fB "__init__" "OwnRow.__init__" kh ["self","number","name","size"]
 fV:aV K A.fB "name"
 gZ:aV K A.fB "size"
 fe:aV K A.fB "number"
 cC:gH K mg A.fA "LetRow" [A.fA,A.Row]
 j5:Ď K A.fA "__init__" "LetRow.__init__" jW ["self","number","name","rank"]
 fu:aV K A.fA "name"
 fY:aV K A.fA "rank"
 fm:aV K A.fA "number"
 cD:gH K mg A.dB "SetRow" [A.dB,A.Row]
 j6:Ď K A.dB "__init__" "SetRow.__init__" jZ ["self","number","name","value"]
 i8:Ď K A.dB "reads" "SetRow.reads" jb ["self"]
 fW:aV K A.dB "name"
 fH:aV K A.dB "value"
 fh:aV K A.dB "number"
 bY:gH K mg A.cX "PutRow" [A.cX,A.Row]
 kD:Ď K A.cX "__init__" "PutRow.__init__" ky ["self","number","name","place","value"]
 jz:Ď K A.cX "reads" "PutRow.reads" i5 ["self"]
 fT:aV K A.cX "name"
 fL:aV K A.cX "place"
 fK:aV K A.cX "value"
 fi:aV K A.cX "number"
 bR:gH K mg A.cz "SendRow" [A.cz,A.Row]
 jx:Ď K A.cz "__init__" "SendRow.__init__" jg ["self","number","name","value"]
 iE:Ď K A.cz "reads" "SendRow.reads" iu ["self"]
 gy:aV K A.cz "name"
 ff:aV K A.cz "value"
 eI:aV K A.cz "number"
 bD:gH K mg A.dD "SayRow" [A.dD,A.Row]
 kB:Ď K A.dD "__init__" "SayRow.__init__" ko ["self","number","name","value","mark"]
 fw:aV K A.dD "name"
 gu:aV K A.dD "value"
 fR:aV K A.dD "mark"
 b5:aV K A.dD "number"
 bh:gH K mg A.cJ "CallRow" [A.cJ,A.Row]
 jG:Ď K A.cJ "__init__" "CallRow.__init__" iZ ["self","number","name","things"]
 cn:aV K A.cJ "name"
 df:aV K A.cJ "things"
 cE:aV K A.cJ "number"
 dG:gH K mg A.dZ "LastRow" [A.dZ,A.Row]
 gq:Ď K A.dZ "__init__" "Row.__init__" gO ["self","number"]
 cZ:aV K A.dZ "number"
 aS:gH K mg A.dX "IfRow" [A.dX,A.Row]
 lQ:Ď K A.dX "__init__" "IfRow.__init__" lG ["self","number","value","first","other","left","right"]
 kq:Ď K A.dX "reads" "IfRow.reads" ka ["self"]
 fX:aV K A.dX "value"
 bX:aV K A.dX "first"
 bZ:aV K A.dX "other"
 dJ:aV K A.dX "left"
 dS:aV K A.dX "right"
 eg:aV K A.dX "number"
 aM:gH K mg A.bL "LoopRow" [A.bL,A.Row]
 jd:Ď K A.bL "__init__" "LoopRow.__init__" jw ["self","number","thing","most","body","left","right"]
 ir:Ď K A.bL "reads" "LoopRow.reads" iD ["self"]
 fo:aV K A.bL "thing"
 dq:aV K A.bL "most"
 bM:aV K A.bL "body"
 dj:aV K A.bL "left"
 cu:aV K A.bL "right"
 dg:aV K A.bL "number"
 a8:gH K mg A.cy "DeedRow" [A.cy,A.Row]
 i6:Ď K A.cy "__init__" "DeedRow.__init__" jj ["self","number","name","parts","body"]
 b4:aV K A.cy "name"
 cP:aV K A.cy "parts"
 bW:aV K A.cy "body"
 eE:aV K A.cy "number"
 bc:gH K mg A.Program "Program" [A.Program]
 iV:Ď K A.Program "__init__" "Program.__init__" iY ["self","heads","deeds","main"]
 cO:aV K A.Program "heads"
 br:aV K A.Program "deeds"
 dh:aV K A.Program "main"
 b6:OfC K A.Row "__init__"
 nd:[A.Row,A.dA,A.b8,A.fB,A.fA,A.dB,A.cX,A.cz,A.dD,A.cJ,A.dZ,A.dX,A.bL,A.cy,A.Program].Nodup
section
variable{P:Program}{w:QD}{K:Qx}{mg:Str->Option Qt}{base:QN}{A:Ì}
theorem Ñ{H:Hp}{p:Qs}(h:H p=Ww)(o:HO):ai H (upd H p o)/\upd H p o p=Wv o:=⟨ai.upd h o,av⟩
theorem Gk:Q9 K (.type "int") (.type "int")=Wv true:=by kernel_rfl!
theorem J0:Q9 K (.type "int") (.type "bool")=Wv false:=by kernel_rfl!
theorem Fd:Q9 K (.type "tuple") (.type "tuple")=Wv true:=by kernel_rfl!
theorem AJ:Q9 K (.type "list") (.type "list")=Wv true:=by kernel_rfl!
theorem KO:Q9 K (.type "str") (.type "int")=Wv false:=by kernel_rfl!
theorem Kx:Q9 K (.type "list") (.type "int")=Wv false:=by kernel_rfl!
theorem Jx:Q9 K (.type "tuple") (.type "int")=Wv false:=by kernel_rfl!
theorem Et:Q9 K (.type "tuple") (.type "list")=Wv false:=by kernel_rfl!
theorem sz{n:Nat}(h:n<=1000):n<=sizeLine:=Pm (aL h)
theorem bH(x:Int){m:Int}(hm:0<m):0<=x%m/\x%m<m:={VM x (show m≠0 by lia),UZ x hm}
theorem Ce{α:Type}{xs:List α}{k:Int}(h0:0<=k)(h1:k<(xs.length:Int)):∃x,xs[k.toNat]?=Wv x/\Č xs k=Wv x:=by
 have hk:k.toNat<xs.length:=()
 have e:=gG (xs:=xs) (j:=k.toNat) (NN hk);rw[show((k.toNat:Nat):Int)=k by lia]at e;exact{_,NN hk,e}
theorem xQ{α:Type}(f:α->V){xs:List α}{k:Int}(h0:0<=k)(h1:k<(xs.length:Int)):∃x,x∈xs/\xs[k.toNat]?=Wv x/\Č (xs.map f) k=Wv (f x):=by
 obtain⟨x,e1,e2⟩:=Ce (xs:=xs.map f) h0 (by rw[NH];exact h1);rw[NX]at e1;cases h:xs[k.toNat]? with
 |none=>rw[h]at e1;cases e1
 |some y=>
  rw[h]at e1;have:f y=x:=QB e1;exact{y,NO h,rfl,by rw[this];exact e2}
theorem DZ(i j:Int):decide (V.int i=V.int j)=decide (i=j):=decide_eq_decide.mpr {λh=>V.int.inj h,λh=>by rw[h]}
theorem MZ(i j:Str):decide (V.str i=V.str j)=decide (i=j):=decide_eq_decide.mpr {λh=>V.str.inj h,λh=>by rw[h]}
theorem gj{α:Type}(xs:List α):xs.filter (λ_=>true)=xs:=List.filter_eq_self.mpr λ_ _=>rfl
theorem oH{a b:Int}(h0:-(2^64)<a)(h1:a<2^64):Ed a b:=NI ⟨h0,h1⟩
theorem ai.out{H0 H:Hp}(s:ai H0 H){x:Qs}(h:H0 x=Ww)(u:HO):ai H0 (upd H x u):=λa o q=>by
 rw[aR (λz=>by rw[z,h]at q;cases q)];exact s a o q
theorem aK{H:Hp}{x a:Qs}{u o:HO}(n:a≠x)(e:H a=Wv o):upd H x u a=Wv o:=by rw[aR n];exact e
theorem Wx{H:Hp}{x y:Qs}{o:HO}(h:H x=Ww)(e:H y=Wv o):x≠y:=λz=>by rw[z,e]at h;cases h
def Ks(H0:Hp)(x:Qs)(H:Hp):List (Qs×HO)->Prop
 | []=>True
 |p::ks=>(H p.1=Wv p.2/\p.1≠x/\H0 p.1=Ww)/\Ks H0 x H ks
theorem Ks.imp{H0 H H':Hp}{x:Qs}(f:∀a o,a≠x->H a=Wv o->H' a=Wv o):∀{ks:List (Qs×HO)},Ks H0 x H ks->Ks H0 x H' ks
 | [],_=>trivial
 |_::_,⟨⟨h1,h2,h3⟩,t⟩=>{{f _ _ h2 h1,h2,h3},Ks.imp f t}
structure IA(K:Qx)(H0:Hp)(x C dx:Qs)(fs:List (Str×V))(m:Nat)(ks:List (Qs×HO))(H:Hp):Prop where
 s:ai H0 H
 i:H x=Wv (.ins C dx fs)
 k:Ks H0 x H ks
 x:H0 x=Ww
 c:ĺ K C
 l:fs.length<=m
theorem IA.one{H:Hp}{x C dx:Qs}(hx:H x=Ww)(hd:H dx=Ww)(c:ĺ K C):IA K H x C dx [] 0 [] (upd (upd H dx (.own x)) x (.ins C dx [])):={ai.out (ai.upd hd _) hx _,av,trivial,hx,c,NM _}
section
variable{H0 H:Hp}{x C dx:Qs}{fs:List (Str×V)}{m:Nat}{ks:List (Qs×HO)}
theorem C4(f:Str)(v:V):∀fs:List (Str×V),(jf f v fs).length<=fs.length+1
 | []=>NM _
 | (g,x)::r=>by
  unfold jf;split
  ·exact OZ _
  exact PV (C4 f v r)
theorem IA.put(a:IA K H0 x C dx fs m ks H)(f:Str)(v:V):IA K H0 x C dx (jf f v fs) (m+1) ks (upd H x (.ins C dx (jf f v fs))):={ai.out a.s a.x _,av,a.k.imp λ_ _ h e=>aK h e,a.x,a.c,NU (C4 f v fs) (PV a.l)}
theorem IA.fld{f:Str}{v:V}{Q:Hp->Prop}(a:IA K H0 x C dx fs m ks H)(n:aV K C f)(k:∀H',IA K H0 x C dx (jf f v fs) (m+1) ks H'->Q H')(l:m<1000:=by decide):Jo K f v (.ref x) H Q:={x,C,dx,fs,rfl,a.i,a.c,n,Pa a.l l,k _ (a.put _ _)}
theorem IA.nw{n:Qs}(a:IA K H0 x C dx fs m ks H)(hn:H n=Ww)(o:HO):IA K H0 x C dx fs m ((n,o)::ks) (upd H n o):=
 have e:n≠x:=λz=>by rw[z,a.i]at hn;cases hn
 {a.s.trans (ai.upd hn _),aK e.symm a.i,{⟨av,e,ai.free a.s hn⟩,a.k.imp λ_ _ _ h=>ai.upd hn _ _ _ h},a.x,a.c,a.l}
end
inductive ik(K:Qx)(A:Ì)(vs:List V)(H:Hp)(Q:VK)(Ã:XK):Prop
 |mk(x C dx:Qs)(fs:List (Str×V))(n:V):vs=[.ref x,n]->H x=Wv (.ins C dx fs)->ĺ K C->aV K C "number"->fs.length<1000->Q .È (upd H x (.ins C dx (jf "number" n fs)))->ik K A vs H Q Ã
theorem ib{C:Qs}(F:Ď K C "__init__" "Row.__init__" gO ["self","number"]):Aq P w K mg base 2 C "__init__" ["self","number"] (ik K A):=by
 refine F.hs (k:=1) zy (λf Ä A' outer s H vs Q E hr hu h=>?_);obtain⟨x,C,dx,fs,n,rfl,hx,c,na,hl,q⟩:=h;exact{_,(ag (bF (fv 0) (fv 1) rfl)),⟨x,C,dx,fs,rfl,hx,c,na,hl,q⟩}
theorem cR(T:Txt K mg A):Aq P w K mg base 2 A.Row "__init__" ["self","number"] (ik K A):=ib T.vg
theorem IA.row{H0 H:Hp}{x C dx:Qs}{ks:List (Qs×HO)}{v:V}{Q:VK}(a:IA K H0 x C dx [] 0 ks H)(n:aV K C "number")(k:∀H',IA K H0 x C dx (jf "number" v []) 1 ks H'->Q .È H'):ik K A [.ref x,v] H Q E0:={x,C,dx,[],v,rfl,a.i,a.c,n,∅,k _ (a.put _ _)}
inductive mh(K:Qx)(A:Ì)(vs:List V)(G:Hp)(R:VK)(Ã:XK):Prop
 |mk(x dx:Qs)(v0 v1 v2:V)(H:Hp):vs=[.ref x,v0,v1,v2]->G=upd (upd H dx (.own x)) x (.ins A.dA dx [])->H x=Ww->H dx=Ww->(∀(H':Hp),ai H H'->H' x=Wv (.ins A.dA dx [("number",v0),("name",v1),("rank",v2)])->R .È H')->mh K A vs G R Ã
theorem jH(T:Txt K mg A):T.jB.Hz P w mg base 3 (mh K A):=by
 refine T.jB.hs (k:=2) sQ (λf Ä A' outer s G vs R E hr hu h=>?_);obtain⟨x,dx,v0,v1,v2,H,rfl,rfl,hx,hd,q⟩:=h;refine⟨_,(af (aU (dF T.kI T.b6 (cR T) hr (fv 0^fv 1^ae)))
 (af (bF (fv 0) (fv 2) rfl)
 (ag (bF (fv 0) (fv 3) rfl)))),?_⟩
 exact(IA.one (C:=A.dA) hx hd T.cF.cl).row T.eh λH a=>a.fld T.gx λH a=>a.fld T.gF λH a=>q _ a.s a.i
inductive kH(K:Qx)(A:Ì)(vs:List V)(G:Hp)(R:VK)(Ã:XK):Prop
 |mk(x dx:Qs)(v0 v1 v2 v3:V)(H:Hp):vs=[.ref x,v0,v1,v2,v3]->G=upd (upd H dx (.own x)) x (.ins A.b8 dx [])->H x=Ww->H dx=Ww->(∀(H':Hp),ai H H'->H' x=Wv (.ins A.b8 dx [("number",v0),("name",v1),("rank",v2),("size",v3)])->R .È H')->kH K A vs G R Ã
theorem ix(T:Txt K mg A):T.iC.Hz P w mg base 3 (kH K A):=by
 refine T.iC.hs (k:=2) rb (λf Ä A' outer s G vs R E hr hu h=>?_);obtain⟨x,dx,v0,v1,v2,v3,H,rfl,rfl,hx,hd,q⟩:=h;refine⟨_,(af (aU (dF T.kI T.b6 (cR T) hr (fv 0^fv 1^ae)))
 (af (bF (fv 0) (fv 2) rfl)
 (af (bF (fv 0) (fv 3) rfl)
 (ag (bF (fv 0) (fv 4) rfl))))),?_⟩
 exact(IA.one (C:=A.b8) hx hd T.bq.cl).row T.dH λH a=>a.fld T.dE λH a=>a.fld T.fj λH a=>a.fld T.gf λH a=>q _ a.s a.i
inductive oj(K:Qx)(A:Ì)(vs:List V)(G:Hp)(R:VK)(Ã:XK):Prop
 |mk(x dx:Qs)(v0 v1 v2:V)(H:Hp):vs=[.ref x,v0,v1,v2]->G=upd (upd H dx (.own x)) x (.ins A.fB dx [])->H x=Ww->H dx=Ww->(∀(H':Hp),ai H H'->H' x=Wv (.ins A.fB dx [("number",v0),("name",v1),("size",v2)])->R .È H')->oj K A vs G R Ã
theorem j7(T:Txt K mg A):T.kj.Hz P w mg base 3 (oj K A):=by
 refine T.kj.hs (k:=2) vy (λf Ä A' outer s G vs R E hr hu h=>?_);obtain⟨x,dx,v0,v1,v2,H,rfl,rfl,hx,hd,q⟩:=h;refine⟨_,(af (aU (dF T.kI T.b6 (cR T) hr (fv 0^fv 1^ae)))
 (af (bF (fv 0) (fv 2) rfl)
 (ag (bF (fv 0) (fv 3) rfl)))),?_⟩
 exact(IA.one (C:=A.fB) hx hd T.cL.cl).row T.fe λH a=>a.fld T.fV λH a=>a.fld T.gZ λH a=>q _ a.s a.i
inductive nE(K:Qx)(A:Ì)(vs:List V)(G:Hp)(R:VK)(Ã:XK):Prop
 |mk(x dx:Qs)(v0 v1 v2:V)(H:Hp):vs=[.ref x,v0,v1,v2]->G=upd (upd H dx (.own x)) x (.ins A.fA dx [])->H x=Ww->H dx=Ww->(∀(H':Hp),ai H H'->H' x=Wv (.ins A.fA dx [("number",v0),("name",v1),("rank",v2)])->R .È H')->nE K A vs G R Ã
theorem oX(T:Txt K mg A):T.j5.Hz P w mg base 3 (nE K A):=by
 refine T.j5.hs (k:=2) vt (λf Ä A' outer s G vs R E hr hu h=>?_);obtain⟨x,dx,v0,v1,v2,H,rfl,rfl,hx,hd,q⟩:=h;refine⟨_,(af (aU (dF T.kI T.b6 (cR T) hr (fv 0^fv 1^ae)))
 (af (bF (fv 0) (fv 2) rfl)
 (ag (bF (fv 0) (fv 3) rfl)))),?_⟩
 exact(IA.one (C:=A.fA) hx hd T.cC.cl).row T.fm λH a=>a.fld T.fu λH a=>a.fld T.fY λH a=>q _ a.s a.i
inductive nj(K:Qx)(A:Ì)(vs:List V)(G:Hp)(R:VK)(Ã:XK):Prop
 |mk(x dx:Qs)(v0 v1 v2:V)(H:Hp):vs=[.ref x,v0,v1,v2]->G=upd (upd H dx (.own x)) x (.ins A.dB dx [])->H x=Ww->H dx=Ww->(∀(H':Hp),ai H H'->H' x=Wv (.ins A.dB dx [("number",v0),("name",v1),("value",v2)])->R .È H')->nj K A vs G R Ã
theorem pB(T:Txt K mg A):T.j6.Hz P w mg base 3 (nj K A):=by
 refine T.j6.hs (k:=2) uJ (λf Ä A' outer s G vs R E hr hu h=>?_);obtain⟨x,dx,v0,v1,v2,H,rfl,rfl,hx,hd,q⟩:=h;refine⟨_,(af (aU (dF T.kI T.b6 (cR T) hr (fv 0^fv 1^ae)))
 (af (bF (fv 0) (fv 2) rfl)
 (ag (bF (fv 0) (fv 3) rfl)))),?_⟩
 exact(IA.one (C:=A.dB) hx hd T.cD.cl).row T.fh λH a=>a.fld T.fW λH a=>a.fld T.fH λH a=>q _ a.s a.i
inductive mV(K:Qx)(A:Ì)(vs:List V)(G:Hp)(R:VK)(Ã:XK):Prop
 |mk(x dx:Qs)(v0 v1 v2 v3:V)(H:Hp):vs=[.ref x,v0,v1,v2,v3]->G=upd (upd H dx (.own x)) x (.ins A.cX dx [])->H x=Ww->H dx=Ww->(∀(H':Hp),ai H H'->H' x=Wv (.ins A.cX dx [("number",v0),("name",v1),("place",v2),("value",v3)])->R .È H')->mV K A vs G R Ã
theorem pe(T:Txt K mg A):T.kD.Hz P w mg base 3 (mV K A):=by
 refine T.kD.hs (k:=2) uN (λf Ä A' outer s G vs R E hr hu h=>?_);obtain⟨x,dx,v0,v1,v2,v3,H,rfl,rfl,hx,hd,q⟩:=h;refine⟨_,(af (aU (dF T.kI T.b6 (cR T) hr (fv 0^fv 1^ae)))
 (af (bF (fv 0) (fv 2) rfl)
 (af (bF (fv 0) (fv 3) rfl)
 (ag (bF (fv 0) (fv 4) rfl))))),?_⟩
 exact(IA.one (C:=A.cX) hx hd T.bY.cl).row T.fi λH a=>a.fld T.fT λH a=>a.fld T.fL λH a=>a.fld T.fK λH a=>q _ a.s a.i
inductive mn(K:Qx)(A:Ì)(vs:List V)(G:Hp)(R:VK)(Ã:XK):Prop
 |mk(x dx:Qs)(v0 v1 v2:V)(H:Hp):vs=[.ref x,v0,v1,v2]->G=upd (upd H dx (.own x)) x (.ins A.cz dx [])->H x=Ww->H dx=Ww->(∀(H':Hp),ai H H'->H' x=Wv (.ins A.cz dx [("number",v0),("name",v1),("value",v2)])->R .È H')->mn K A vs G R Ã
theorem mQ(T:Txt K mg A):T.jx.Hz P w mg base 3 (mn K A):=by
 refine T.jx.hs (k:=2) sA (λf Ä A' outer s G vs R E hr hu h=>?_);obtain⟨x,dx,v0,v1,v2,H,rfl,rfl,hx,hd,q⟩:=h;refine⟨_,(af (aU (dF T.kI T.b6 (cR T) hr (fv 0^fv 1^ae)))
 (af (bF (fv 0) (fv 2) rfl)
 (ag (bF (fv 0) (fv 3) rfl)))),?_⟩
 exact(IA.one (C:=A.cz) hx hd T.bR.cl).row T.eI λH a=>a.fld T.gy λH a=>a.fld T.ff λH a=>q _ a.s a.i
inductive ng(K:Qx)(A:Ì)(vs:List V)(G:Hp)(R:VK)(Ã:XK):Prop
 |mk(x dx:Qs)(v0 v1 v2 v3:V)(H:Hp):vs=[.ref x,v0,v1,v2,v3]->G=upd (upd H dx (.own x)) x (.ins A.dD dx [])->H x=Ww->H dx=Ww->(∀(H':Hp),ai H H'->H' x=Wv (.ins A.dD dx [("number",v0),("name",v1),("value",v2),("mark",v3)])->R .È H')->ng K A vs G R Ã
theorem oY(T:Txt K mg A):T.kB.Hz P w mg base 3 (ng K A):=by
 refine T.kB.hs (k:=2) uG (λf Ä A' outer s G vs R E hr hu h=>?_);obtain⟨x,dx,v0,v1,v2,v3,H,rfl,rfl,hx,hd,q⟩:=h;refine⟨_,(af (aU (dF T.kI T.b6 (cR T) hr (fv 0^fv 1^ae)))
 (af (bF (fv 0) (fv 2) rfl)
 (af (bF (fv 0) (fv 3) rfl)
 (ag (bF (fv 0) (fv 4) rfl))))),?_⟩
 exact(IA.one (C:=A.dD) hx hd T.bD.cl).row T.b5 λH a=>a.fld T.fw λH a=>a.fld T.gu λH a=>a.fld T.fR λH a=>q _ a.s a.i
inductive mw(K:Qx)(A:Ì)(vs:List V)(G:Hp)(R:VK)(Ã:XK):Prop
 |mk(x dx:Qs)(v0 v1:V)(t0:Qs)(l0:List V)(H:Hp):vs=[.ref x,v0,v1,.ref t0]->G=upd (upd H dx (.own x)) x (.ins A.cJ dx [])->H x=Ww->H dx=Ww->À K H t0 l0->(∀(n0:Qs)(H':Hp),H n0=Ww->ai H H'->H' n0=Wv (.lst l0)->H' x=Wv (.ins A.cJ dx [("number",v0),("name",v1),("things",.ref n0)])->R .È H')->mw K A vs G R Ã
theorem nK(T:Txt K mg A):T.jG.Hz P w mg base 3 (mw K A):=by
 refine T.jG.hs (k:=2) sI (λf Ä A' outer s G vs R E hr hu h=>?_);obtain⟨x,dx,v0,v1,t0,l0,H,rfl,rfl,hx,hd,s0,q⟩:=h;refine⟨_,(af (aU (dF T.kI T.b6 (cR T) hr (fv 0^fv 1^ae)))
 (af (bF (fv 0) (fv 2) rfl)
 (ag (bF (fv 0) (į kE T.fF (fv 3^ae)) rfl)))),?_⟩
 refine(IA.one (C:=A.cJ) hx hd T.bh.cl).row T.cE λH a=>a.fld T.cn λH a=>{_,l0,rfl,.inl (a.s.seq s0),λn0 f=>?_};replace a:=a.nw f (.lst l0);exact a.fld T.df λH a=>q n0 _ a.k.1.2.2 a.s a.k.1.1 a.i
inductive pA(K:Qx)(A:Ì)(vs:List V)(G:Hp)(R:VK)(Ã:XK):Prop
 |mk(x dx:Qs)(v0 v1 v2 v3:V)(t0 t1:Qs)(l0 l1:List V)(H:Hp):vs=[.ref x,v0,v1,.ref t0,.ref t1,v2,v3]->G=upd (upd H dx (.own x)) x (.ins A.dX dx [])->H x=Ww->H dx=Ww->À K H t0 l0->À K H t1 l1->(∀(n0 n1:Qs)(H':Hp),H n0=Ww->H n1=Ww->ai H H'->H' n0=Wv (.lst l0)->H' n1=Wv (.lst l1)->H' x=Wv (.ins A.dX dx [("number",v0),("value",v1),("first",.ref n0),("other",.ref n1),("left",v2),("right",v3)])->R .È H')->pA K A vs G R Ã
theorem qC(T:Txt K mg A):T.lQ.Hz P w mg base 3 (pA K A):=by
 refine T.lQ.hs (k:=2) vL (λf Ä A' outer s G vs R E hr hu h=>?_);obtain⟨x,dx,v0,v1,v2,v3,t0,t1,l0,l1,H,rfl,rfl,hx,hd,s0,s1,q⟩:=h;refine⟨_,(af (aU (dF T.kI T.b6 (cR T) hr (fv 0^fv 1^ae)))
 (af (bF (fv 0) (fv 2) rfl)
 (af (bF (fv 0) (į kE T.fF (fv 3^ae)) rfl)
 (af (bF (fv 0) (į kE T.fF (fv 4^ae)) rfl)
 (af (bF (fv 0) (fv 5) rfl)
 (ag (bF (fv 0) (fv 6) rfl))))))),?_⟩
 refine(IA.one (C:=A.dX) hx hd T.aS.cl).row T.eg λH a=>a.fld T.fX λH a=>{_,l0,rfl,.inl (a.s.seq s0),λn0 f=>?_};replace a:=a.nw f (.lst l0);refine a.fld T.bX λH a=>{_,l1,rfl,.inl (a.s.seq s1),λn1 f=>?_};replace a:=a.nw f (.lst l1);exact a.fld T.bZ λH a=>a.fld T.dJ λH a=>a.fld T.dS λH a=>q n0 n1 _ a.k.2.1.2.2 a.k.1.2.2 a.s a.k.2.1.1 a.k.1.1 a.i
inductive mr(K:Qx)(A:Ì)(vs:List V)(G:Hp)(R:VK)(Ã:XK):Prop
 |mk(x dx:Qs)(v0 v1 v2 v3 v4:V)(t0:Qs)(l0:List V)(H:Hp):vs=[.ref x,v0,v1,v2,.ref t0,v3,v4]->G=upd (upd H dx (.own x)) x (.ins A.bL dx [])->H x=Ww->H dx=Ww->À K H t0 l0->(∀(n0:Qs)(H':Hp),H n0=Ww->ai H H'->H' n0=Wv (.lst l0)->H' x=Wv (.ins A.bL dx [("number",v0),("thing",v1),("most",v2),("body",.ref n0),("left",v3),("right",v4)])->R .È H')->mr K A vs G R Ã
theorem oa(T:Txt K mg A):T.jd.Hz P w mg base 3 (mr K A):=by
 refine T.jd.hs (k:=2) sR (λf Ä A' outer s G vs R E hr hu h=>?_);obtain⟨x,dx,v0,v1,v2,v3,v4,t0,l0,H,rfl,rfl,hx,hd,s0,q⟩:=h;refine⟨_,(af (aU (dF T.kI T.b6 (cR T) hr (fv 0^fv 1^ae)))
 (af (bF (fv 0) (fv 2) rfl)
 (af (bF (fv 0) (fv 3) rfl)
 (af (bF (fv 0) (į kE T.fF (fv 4^ae)) rfl)
 (af (bF (fv 0) (fv 5) rfl)
 (ag (bF (fv 0) (fv 6) rfl))))))),?_⟩
 refine(IA.one (C:=A.bL) hx hd T.aM.cl).row T.dg λH a=>a.fld T.fo λH a=>a.fld T.dq λH a=>{_,l0,rfl,.inl (a.s.seq s0),λn0 f=>?_};replace a:=a.nw f (.lst l0);exact a.fld T.bM λH a=>a.fld T.dj λH a=>a.fld T.cu λH a=>q n0 _ a.k.1.2.2 a.s a.k.1.1 a.i
inductive l8(K:Qx)(A:Ì)(vs:List V)(G:Hp)(R:VK)(Ã:XK):Prop
 |mk(x dx:Qs)(v0 v1:V)(t0 t1:Qs)(l0 l1:List V)(H:Hp):vs=[.ref x,v0,v1,.ref t0,.ref t1]->G=upd (upd H dx (.own x)) x (.ins A.cy dx [])->H x=Ww->H dx=Ww->À K H t0 l0->À K H t1 l1->(∀(n0 n1:Qs)(H':Hp),H n0=Ww->H n1=Ww->ai H H'->H' n0=Wv (.lst l0)->H' n1=Wv (.lst l1)->H' x=Wv (.ins A.cy dx [("number",v0),("name",v1),("parts",.ref n0),("body",.ref n1)])->R .È H')->l8 K A vs G R Ã
theorem jt(T:Txt K mg A):T.i6.Hz P w mg base 3 (l8 K A):=by
 refine T.i6.hs (k:=2) sV (λf Ä A' outer s G vs R E hr hu h=>?_);obtain⟨x,dx,v0,v1,t0,t1,l0,l1,H,rfl,rfl,hx,hd,s0,s1,q⟩:=h;refine⟨_,(af (aU (dF T.kI T.b6 (cR T) hr (fv 0^fv 1^ae)))
 (af (bF (fv 0) (fv 2) rfl)
 (af (bF (fv 0) (į kE T.fF (fv 3^ae)) rfl)
 (ag (bF (fv 0) (į kE T.fF (fv 4^ae)) rfl))))),?_⟩
 refine(IA.one (C:=A.cy) hx hd T.a8.cl).row T.eE λH a=>a.fld T.b4 λH a=>{_,l0,rfl,.inl (a.s.seq s0),λn0 f=>?_};replace a:=a.nw f (.lst l0);refine a.fld T.cP λH a=>{_,l1,rfl,.inl (a.s.seq s1),λn1 f=>?_};replace a:=a.nw f (.lst l1);exact a.fld T.bW λH a=>q n0 n1 _ a.k.2.1.2.2 a.k.1.2.2 a.s a.k.2.1.1 a.k.1.1 a.i
inductive mf(K:Qx)(A:Ì)(vs:List V)(G:Hp)(R:VK)(Ã:XK):Prop
 |mk(x dx:Qs)(t0 t1 t2:Qs)(l0 l1 l2:List V)(H:Hp):vs=[.ref x,.ref t0,.ref t1,.ref t2]->G=upd (upd H dx (.own x)) x (.ins A.Program dx [])->H x=Ww->H dx=Ww->À K H t0 l0->À K H t1 l1->À K H t2 l2->(∀(n0 n1 n2:Qs)(H':Hp),H n0=Ww->H n1=Ww->H n2=Ww->ai H H'->H' n0=Wv (.lst l0)->H' n1=Wv (.lst l1)->H' n2=Wv (.lst l2)->H' x=Wv (.ins A.Program dx [("heads",.ref n0),("deeds",.ref n1),("main",.ref n2)])->R .È H')->mf K A vs G R Ã
theorem nN(T:Txt K mg A):T.iV.Hz P w mg base 3 (mf K A):=by
 refine T.iV.hs (k:=2) sG (λf Ä A' outer s G vs R E hr hu h=>?_);obtain⟨x,dx,t0,t1,t2,l0,l1,l2,H,rfl,rfl,hx,hd,s0,s1,s2,q⟩:=h;refine⟨_,(af (bF (fv 0) (į kE T.fF (fv 1^ae)) rfl)
 (af (bF (fv 0) (į kE T.fF (fv 2^ae)) rfl)
 (ag (bF (fv 0) (į kE T.fF (fv 3^ae)) rfl)))),?_⟩
 have a:=IA.one (C:=A.Program) hx hd T.bc.cl;refine{_,l0,rfl,.inl (a.s.seq s0),λn0 f=>?_};replace a:=a.nw f (.lst l0);refine a.fld T.cO λH a=>{_,l1,rfl,.inl (a.s.seq s1),λn1 f=>?_};replace a:=a.nw f (.lst l1);refine a.fld T.br λH a=>{_,l2,rfl,.inl (a.s.seq s2),λn2 f=>?_};replace a:=a.nw f (.lst l2);exact a.fld T.dh λH a=>q n0 n1 n2 _ a.k.2.2.1.2.2 a.k.2.1.2.2 a.k.1.2.2 a.s a.k.2.2.1.1 a.k.2.1.1 a.k.1.1 a.i
end
section
variable{P:Program}{w:QD}{K:Qx}{mg:Str->Option Qt}{base:QN}{A:Ì}{N:Nat->Str}
theorem ah{t u:TS}{D:WV}{B:St}{H:Hp}(h:∀N:St->Hp->Prop,(∀B H,u D B H->N B H)->t { D with nx:=N } B H):Jg t u D B H:=h (u D) λ_ _ z=>z
theorem gi{α β:Type}{F:α->β->Prop}:∀{l₁:List α}{l₂:List β}{i:Nat}{a:α},Paired F l₁ l₂->l₁[i]?=Wv a->∃b,l₂[i]?=Wv b/\F a b
 |_,_,_,_,.nil,h=>by cases h
 |_,_,0,_,.cons h _,e=>by cases e;exact{_,rfl,h}
 |_,_,i+1,_,.cons _ r,e=>by
  have:∃b,_:=gi (i:=i) r e;exact this
theorem cv{α β:Type}{F:α->β->Prop}:∀{l₁:List α}{l₂:List β}{i:Nat}{b:β},Paired F l₁ l₂->l₂[i]?=Wv b->∃a,l₁[i]?=Wv a/\F a b
 |_,_,_,_,.nil,h=>by cases h
 |_,_,0,_,.cons h _,e=>by cases e;exact{_,rfl,h}
 |_,_,i+1,_,.cons _ r,e=>by
  have:∃a,_:=cv (i:=i) r e;exact this
theorem iQ{α β:Type}(f:β->α->β)(b:β){xs:List α}{i:Nat}{x:α}(h:xs[i]?=Wv x):(xs.take (i+1)).foldl f b=f ((xs.take i).foldl f b) x:=by
 rw[Od,h,Vc];rfl
abbrev cls(A:Ì):List Qs:=[A.Row,A.dA,A.b8,A.fB,A.fA,A.dB,A.cX,A.cz,A.dD,A.cJ,A.dZ,A.dX,A.bL,A.cy,A.Program]
theorem JF(T:Txt K mg A)(i j:Nat)(hi:i<15:=by decide)(hj:j<15:=by decide)(h:i≠j:=by decide):(cls A)[i]'hi≠(cls A)[j]'hj:=λe=>h ((PQ T.nd).mp e)
theorem MB{C:Qs}{x:Str}{up:List Qs}(O:gH K mg C x up)(hs:C∈up:=by exact NL):Q9 K (.ref C) (.ref C)=Wv true:=by
 rw[O.kit O hs,decide_eq_true hs]
theorem MV{C D R:Qs}{x y:Str}{vp:List Qs}(O:gH K mg C x [C,R])(U0z:gH K mg D y vp)(h1:D≠C)(h2:D≠R):Q9 K (.ref C) (.ref D)=Wv false:=by
 rw[O.kit U0z NL,decide_eq_false];intro m;rcases NJ.mp m with e|m
 ·exact h1 e
 rcases NJ.mp m with e|m
 ·exact h2 e
 cases m
def sk(ks:List Key)(f:Key->V):List (Key×V):=ks.map λk=>(k,f k)
theorem tQ{f:Key->V}{k:Key}:∀{ks:List Key},k∈ks->L2.cc (sk ks f) k=Wv (f k)
 |j::r,m=>by
  by_cases e:j=k
  ·subst e;exact eA rfl
  refine(dI (r:=sk r f) e).trans (tQ ?_);rcases NJ.mp m with z|z
  ·exact absurd z.symm e
  exact z
theorem IJ{f:Key->V}{k:Key}:∀{ks:List Key},k∉ks->L2.cc (sk ks f) k=Ww
 | [],_=>rfl
 |j::r,m=>by
  have e:¬ j=k:=λe=>m (by rw[e];exact NL);exact(dI (p:=(j,f j)) (r:=sk r f) e).trans (IJ λz=>m (NK _ z))
instance memK(k:Key)(ks:List Key):Decidable (k∈ks):=decidable_of_iff ((ks.any λj=>decide (j=k))=true) (by
 rw[Pw];exact{λ⟨j,m,e⟩=>of_decide_eq_true e▸m,λm=>⟨k,m,decide_eq_true rfl⟩})
theorem IL{f:Key->V}(k:Key)(ks:List Key):(L2.cc (sk ks f) k).isSome=decide (k∈ks):=by
 by_cases m:k∈ks
 ·rw[tQ m,decide_eq_true m];rfl
 rw[IJ m,decide_eq_false m];rfl
def vH(f:Key->V)(k:Key)(v:V):Key->V:=λj=>if j=k then v else f j
def vC(ks:List Key)(k:Key):List Key:=if k∈ks then ks else ks++[k]
theorem F8{f g:Key->V}{ks:List Key}(h:∀k∈ks,f k=g k):sk ks f=sk ks g:=Ph λk hk=>by rw[h k hk]
theorem EW{f:Key->V}{k:Key}{v:V}{ks:List Key}:WD (sk ks f) k v=sk (vC ks k) (vH f k v):=by
 unfold WD vC;rw[i7,IL];by_cases m:k∈ks
 ·rw[if_pos (decide_eq_true m),if_pos m];unfold sk;rw[OD];refine Ph λj _=>?_;show(if j=k then(j,v)else(j,f j))=(j,vH f k v j);unfold vH;split<;>rfl
 rw[if_neg (by rw[decide_eq_false m];exact NT),if_neg m];unfold sk;rw[Oc];show _=_++[(k,vH f k v k)];rw[show vH f k v k=v from if_pos rfl];congr 1;refine Ph λj hj=>?_;show(j,f j)=(j,vH f k v j);rw[show vH f k v j=f j from if_neg λ(e:j=k)=>m (e▸hj)]
theorem Ip{f:Key->V}{k:Key}{ks:List Key}:WD (sk ks f) k (f k)=sk (vC ks k) f:=by
 rw[EW];refine F8 λj _=>?_;unfold vH;split
 ·next e=>rw[e]
 rfl
def EZ(ks:List Key):List Key:=ks.foldl vC []
theorem yO(f:Key->V):∀(ks acc:List Key),bT (sk acc f) (sk ks f)=sk (ks.foldl vC acc) f
 | [],acc=>rfl
 |k::ks,acc=>by
  show bT (WD (sk acc f) k (f k)) (sk ks f)=_;rw[Ip];exact yO f ks (vC acc k)
theorem Bs(f:Key->V)(ks:List Key):(sk ks f).length=ks.length:=NH _
theorem Ii{ks:List Key}{k j:Key}:j∈vC ks k↔j=k\/j∈ks:=by
 unfold vC;split
 ·next m=>exact{.inr,λh=>h.elim (λe=>e▸m) id}
 rw[NQ,NF];exact or_comm
theorem zP{j:Key}:∀(ks acc:List Key),j∈ks.foldl vC acc↔j∈ks\/j∈acc
 | [],acc=>by simp
 |k::ks,acc=>by
  rw[OG,zP ks,Ii,NJ];constructor
  ·rintro(h|h|h)
   ·exact .inl (.inr h)
   ·exact .inl (.inl h)
   exact .inr h
  rintro((h|h)|h)
  ·exact .inr (.inl h)
  ·exact .inl h
  exact .inr (.inr h)
theorem Eg{j:Key}{ks:List Key}:j∈EZ ks↔j∈ks:=by
 unfold EZ;rw[zP];simp
theorem kL(kvs:List (Key×V))(k:Key)(v:V):(WD kvs k v).length<=kvs.length+1:=by
 unfold WD;split
 ·rw[NH];lia
 simp
def Ħ(A:Ì)(i:Nat):Qs:=(cls A).getD i 0
theorem Gf(T:Txt K mg A){i j:Nat}(hi:i<15)(hj:j<15)(h:i≠j):Ħ A i≠Ħ A j:=by
 unfold Ħ;rw[Oj,Oj,NN (show i<(cls A).length from hi),NN (show j<(cls A).length from hj)];exact JF T i j hi hj h
theorem xA(T:Txt K mg A)(i:Nat)(h:i<14)(h0:0<i):∃x,gH K mg (Ħ A i) x [Ħ A i,A.Row]:=by
 match i,h,h0 with
 |1,_,_=>exact{_,T.cF}
 |2,_,_=>exact{_,T.bq}
 |3,_,_=>exact{_,T.cL}
 |4,_,_=>exact{_,T.cC}
 |5,_,_=>exact{_,T.cD}
 |6,_,_=>exact{_,T.bY}
 |7,_,_=>exact{_,T.bR}
 |8,_,_=>exact{_,T.bD}
 |9,_,_=>exact{_,T.bh}
 |10,_,_=>exact{_,T.dG}
 |11,_,_=>exact{_,T.aS}
 |12,_,_=>exact{_,T.aM}
 |13,_,_=>exact{_,T.a8}
theorem Fo(T:Txt K mg A)(i j:Nat)(hi:i<14)(hj:j<14)(i0:0<i)(j0:0<j):Q9 K (.ref (Ħ A i)) (.ref (Ħ A j))=Wv (decide (i=j)):=by
 obtain⟨x,O⟩:=xA T i hi i0;obtain⟨y,U0z⟩:=xA T j hj j0;by_cases e:i=j
 ·subst e;rw[decide_eq_true rfl];exact MB O
 rw[decide_eq_false e];exact MV O U0z (Gf T () () (λz=>e z.symm)) (Gf T (j:=0) () () ())
seal PE PA PS č PT PW
inductive Th where
 |i (n:Int)|x (a:Nat)
inductive Val where
 |one (a:Th)|op (a:Th) (w:Str) (b:Th)
def Th.v(N:Nat->Str):Th->V
 | .i n=>.int n
 | .x a=>.str (N a)
def vV(N:Nat->Str):Val->List V
 | .one a=>[a.v N]
 | .op a w b=>[a.v N,.str w,b.v N]
inductive Lr where
 |hand (i:Nat) (r:Int)|Ĭ (i:Nat) (r z:Int)|own (i:Nat) (z:Int)|lt (i:Nat) (r:Int)
 |set (x:Nat) (v:Val)|put (x:Nat) (p:Th) (v:Val)|snd (h:Nat) (v:Val)|say (x:Nat) (v:Val) (m:Nat)
 |call (i:Nat) (ts:List Th)|last
def Lr.ci:Lr->Nat
 | .hand _ _=>1| .Ĭ _ _ _=>2| .own _ _=>3| .lt _ _=>4| .set _ _=>5| .put _ _ _=>6| .snd _ _=>7| .say _ _ _=>8
 | .call _ _=>9| .last=>10
abbrev nV(N:Nat->Str)(ns:List Nat):List V:=ns.map λi=>V.str (N i)
def Lr.fs(N:Nat->Str)(p:Qs):Lr->List (Str×V)
 | .hand i r=>[("name",.str (N i)),("rank",.int r)]
 | .Ĭ i r z=>[("name",.str (N i)),("rank",.int r),("size",.int z)]
 | .own i z=>[("name",.str (N i)),("size",.int z)]
 | .lt i r=>[("name",.str (N i)),("rank",.int r)]
 | .set x _=>[("name",.str (N x)),("value",.ref p)]
 | .put x t _=>[("name",.str (N x)),("place",t.v N),("value",.ref p)]
 | .snd h _=>[("name",.str (N h)),("value",.ref p)]
 | .say x _ m=>[("name",.str (N x)),("value",.ref p),("mark",.str (N m))]
 | .call i _=>[("name",.str (N i)),("things",.ref p)]
 | .last=>[]
def Lr.ob(N:Nat->Str):Lr->Option HO
 | .set _ v=>Wv (.tup (vV N v))
 | .put _ _ v=>Wv (.tup (vV N v))
 | .snd _ v=>Wv (.tup (vV N v))
 | .say _ v _=>Wv (.tup (vV N v))
 | .call _ ts=>Wv (.lst (ts.map (Th.v N)))
 |_=>Ww
inductive Pt where
 |leaf (n:Int) (r:Lr)
 |iff (n:Int) (v:Val) (l r:Int) (f o:List Pt)
 |loop (n:Int) (t:Th) (m l r:Int) (b:List Pt)
 |bf (n:Int) (i:Nat) (ps:List Nat) (b:List Pt)
def Pt.no:Pt->Int
 | .leaf n _=>n
 | .iff n _ _ _ _ _=>n
 | .loop n _ _ _ _ _=>n
 | .bf n _ _ _=>n
def Pt.ci:Pt->Nat
 | .leaf _ r=>r.ci
 | .iff _ _ _ _ _ _=>11
 | .loop _ _ _ _ _ _=>12
 | .bf _ _ _ _=>13
def MR(A:Ì)(N:Nat->Str)(X:Hp)(v:V)(n:Int)(r:Lr):Prop:=∃a dx p,v=.ref a/\X a=Wv (.ins (Ħ A r.ci) dx (("number",.int n)::r.fs N p))/\∀o,r.ob N=Wv o->X p=Wv o
mutual
noncomputable def aN(A:Ì)(N:Nat->Str)(X:Hp):V->Pt->Prop
 |v,.leaf n r=>MR A N X v n r
 |v,.iff n val l r f o=>∃a dx p pf po xf xo,v=.ref a/\X a=Wv (.ins A.dX dx [("number",.int n),("value",.ref p),("first",.ref pf),("other",.ref po),("left",.int l),("right",.int r)])/\X p=Wv (.tup (vV N val))/\X pf=Wv (.lst xf)/\X po=Wv (.lst xo)/\ba A N X xf f/\ba A N X xo o
 |v,.loop n t m l r b=>∃a dx pb xb,v=.ref a/\X a=Wv (.ins A.bL dx [("number",.int n),("thing",t.v N),("most",.int m),("body",.ref pb),("left",.int l),("right",.int r)])/\X pb=Wv (.lst xb)/\ba A N X xb b
 |v,.bf n i ps b=>∃a dx pp pb xb,v=.ref a/\X a=Wv (.ins A.cy dx [("number",.int n),("name",.str (N i)),("parts",.ref pp),("body",.ref pb)])/\X pp=Wv (.lst (nV N ps))/\X pb=Wv (.lst xb)/\ba A N X xb b
noncomputable def ba(A:Ì)(N:Nat->Str)(X:Hp):List V->List Pt->Prop
 |vs,[]=>vs=[]
 |vs,t::ts=>∃x xs,vs=x::xs/\aN A N X x t/\ba A N X xs ts
end
mutual
theorem aN.same{X X':Hp}(s:ai X X'):∀(t:Pt)(v:V),aN A N X v t->aN A N X' v t
 | .leaf n r,v,h=>by
  unfold aN at h⊢;obtain⟨a,dx,p,e,h1,h2⟩:=h;exact{a,dx,p,e,s _ _ h1,λo ho=>s _ _ (h2 o ho)}
 | .iff n val l r f o,v,h=>by
  unfold aN at h⊢;obtain⟨a,dx,p,pf,po,xf,xo,e,h1,h2,h3,h4,h5,h6⟩:=h;exact{a,dx,p,pf,po,xf,xo,e,s _ _ h1,s _ _ h2,s _ _ h3,s _ _ h4,ba.same s f _ h5,ba.same s o _ h6}
 | .loop n t m l r b,v,h=>by
  unfold aN at h⊢;obtain⟨a,dx,pb,xb,e,h1,h2,h3⟩:=h;exact{a,dx,pb,xb,e,s _ _ h1,s _ _ h2,ba.same s b _ h3}
 | .bf n i ps b,v,h=>by
  unfold aN at h⊢;obtain⟨a,dx,pp,pb,xb,e,h1,h2,h3,h4⟩:=h;exact{a,dx,pp,pb,xb,e,s _ _ h1,s _ _ h2,s _ _ h3,ba.same s b _ h4}
theorem ba.same{X X':Hp}(s:ai X X'):∀(ts:List Pt)(vs:List V),ba A N X vs ts->ba A N X' vs ts
 | [],vs,h=>by
  unfold ba at h⊢;exact h
 |t::ts,vs,h=>by
  unfold ba at h⊢;obtain⟨x,xs,e,h1,h2⟩:=h;exact{x,xs,e,aN.same s t _ h1,ba.same s ts _ h2}
end
theorem ba.nil{X:Hp}:ba A N X [] []:=by
 unfold ba;rfl
theorem ba.cons{X:Hp}{x:V}{t:Pt}{ts:List Pt}{vs:List V}(h:aN A N X x t)(h':ba A N X vs ts):ba A N X (x::vs) (t::ts):=by
 unfold ba;exact⟨x,vs,rfl,h,h'⟩
theorem ba.len{X:Hp}:∀{ts:List Pt}{vs:List V},ba A N X vs ts->vs.length=ts.length
 | [],vs,h=>by
  unfold ba at h;rw[h];rfl
 |t::ts,vs,h=>by
  unfold ba at h;obtain⟨y,ys,e,h1,h2⟩:=h;subst e;simp[ba.len h2]
theorem ba.get{X:Hp}:∀{ts:List Pt}{vs:List V}{i:Nat}{v:V},ba A N X vs ts->vs[i]?=Wv v->∃t,ts[i]?=Wv t/\aN A N X v t
 | [],vs,i,v,h,e=>by
  unfold ba at h;rw[h]at e;cases e
 |t::ts,vs,i,v,h,e=>by
  unfold ba at h;obtain⟨y,ys,e',h1,h2⟩:=h;subst e';cases i with
  |zero=>cases e;exact⟨t,rfl,h1⟩
  |succ i=>exact ba.get (i:=i) h2 e
theorem ba.of{X:Hp}:∀{ts:List Pt}{vs:List V},Paired (λt v=>aN A N X v t) ts vs->ba A N X vs ts
 |_,_,.nil=>ba.nil
 |_,_,.cons h r=>ba.cons h (ba.of r)
theorem nU(p:Pt):0<p.ci/\p.ci<14:=by
 cases p with
 |leaf n r=>cases r<;>simp[Pt.ci,Lr.ci]
 |_=>simp[Pt.ci]
theorem Lw(T:Txt K mg A)(p:Pt):ĺ K (Ħ A p.ci)/\aV K (Ħ A p.ci) "number":=by
 cases p with
 |leaf n r=>
  cases r with
  |hand _ _=>exact⟨T.cF.cl,T.eh⟩
  |Ĭ _ _ _=>exact⟨T.bq.cl,T.dH⟩
  |own _ _=>exact⟨T.cL.cl,T.fe⟩
  |lt _ _=>exact⟨T.cC.cl,T.fm⟩
  |set _ _=>exact⟨T.cD.cl,T.fh⟩
  |put _ _ _=>exact⟨T.bY.cl,T.fi⟩
  |snd _ _=>exact⟨T.bR.cl,T.eI⟩
  |say _ _ _=>exact⟨T.bD.cl,T.b5⟩
  |call _ _=>exact⟨T.bh.cl,T.cE⟩
  |_=>exact⟨T.dG.cl,T.cZ⟩
 |iff _ _ _ _ _ _=>exact⟨T.aS.cl,T.eg⟩
 |loop _ _ _ _ _ _=>exact⟨T.aM.cl,T.dg⟩
 |bf _ _ _ _=>exact⟨T.a8.cl,T.eE⟩
theorem FW{X:Hp}{v:V}{p:Pt}(h:aN A N X v p):∃a dx fs,v=.ref a/\X a=Wv (.ins (Ħ A p.ci) dx (("number",.int p.no)::fs)):=by
 cases p with
 |leaf n r=>
  unfold aN at h;obtain⟨a,dx,p,e,h1,h2⟩:=h;exact{a,dx,_,e,h1}
 |iff n val l r f o=>
  unfold aN at h;obtain⟨a,dx,p,pf,po,xf,xo,e,h1,_⟩:=h;exact{a,dx,_,e,h1}
 |loop n t m l r b=>
  unfold aN at h;obtain⟨a,dx,pb,xb,e,h1,_⟩:=h;exact{a,dx,_,e,h1}
 |bf n i ps b=>
  unfold aN at h;obtain⟨a,dx,pp,pb,xb,e,h1,_⟩:=h;exact{a,dx,_,e,h1}
theorem wL(T:Txt K mg A){X H:Hp}(s:ai X H){v:V}{p:Pt}(h:aN A N X v p)(j:Nat)(j0:0<j)(hj:j<14){R:Bool->Hp->Prop}(q:R (decide (p.ci=j)) H):Az K [v,.ref (Ħ A j)] H λv H1=>An K v H1 R:=by
 obtain⟨a,dx,fs,rfl,ha⟩:=FW h;obtain⟨x,O⟩:=xA T p.ci (nU p).2 (nU p).1;exact isB (O.KP (s _ _ ha)) (Fo T p.ci j (nU p).2 hj (nU p).1 j0) q
theorem cq(T:Txt K mg A){X H:Hp}(s:ai X H){v:V}{p:Pt}(h:aN A N X v p){j:Nat}(e:p.ci=j){R:Bool->Hp->Prop}(q:R true H):Az K [v,.ref (Ħ A j)] H λv H1=>An K v H1 R:=wL T s h j (e▸(nU p).1) (e▸(nU p).2) (by rw[decide_eq_true e];exact q)
theorem bz(T:Txt K mg A){X H:Hp}(s:ai X H){v:V}{p:Pt}(h:aN A N X v p){j:Nat}(e:p.ci≠j){R:Bool->Hp->Prop}(q:R false H)(j0:0<j:=by decide)(hj:j<14:=by decide):Az K [v,.ref (Ħ A j)] H λv H1=>An K v H1 R:=wL T s h j j0 hj (by rw[decide_eq_false e];exact q)
theorem yi(T:Txt K mg A){X H:Hp}(s:ai X H){v:V}{p:Pt}(h:aN A N X v p)(j:Nat)(j0:0<j)(hj:j<14){Q:VK}(q:Q (.bl (decide (p.ci=j))) H):Az K [v,.ref (Ħ A j)] H Q:=by
 obtain⟨a,dx,fs,rfl,ha⟩:=FW h;obtain⟨x,O⟩:=xA T p.ci (nU p).2 (nU p).1;exact{_,_,_,_,rfl,(λz=>by cases z),O.KP (s _ _ ha),Fo T p.ci j (nU p).2 hj (nU p).1 j0,q}
theorem cQ(T:Txt K mg A){X H:Hp}(s:ai X H){v:V}{p:Pt}(h:aN A N X v p){Q:VK}(q:Q (.int p.no) H):nQ K "number" v H Q:=by
 obtain⟨a,dx,fs,rfl,ha⟩:=FW h;obtain⟨c1,c2⟩:=Lw T p;exact Á (s _ _ ha) c1 c2 rfl q
def bp(n:Int):Str:=Q4++("row ":Str)++Rh (toString n)
def Je(s:Str):Nat:=(s.cps.toList.drop 4).foldl (λa c=>10*a+(c-48)) 0
theorem iR:∀n:Fin 1001,((n.val:Int).natAbs.log2<1920)/\(Rh (toString (n.val:Int))).length<=20/\Je (bp (n.val:Int))=n.val/\(bp (n.val:Int)).cps[0]?=Wv 114:=by decide+kernel
theorem HX{a b:Int}(a0:0<=a)(a1:a<=1000)(b0:0<=b)(b1:b<=1000)(h:bp a=bp b):a=b:=by
 obtain⟨a,rfl⟩:∃k:Nat,a=(k:Int):={a.toNat,()};obtain⟨b,rfl⟩:∃k:Nat,b=(k:Int):={b.toNat,()};have h1:=(iR {a,()}).2.2.1;have h2:=(iR {b,()}).2.2.1;rw[show Je (bp (a:Int))=Je (bp (b:Int)) by rw[h]]at h1;have:b=a:=h2.symm.trans h1;rw[this]
theorem Hv{a:Int}(a0:0<=a)(a1:a<=1000){x:Str}(hx:x.cps[0]?≠Wv 114):bp a≠x:=by
 obtain⟨a,rfl⟩:∃k:Nat,a=(k:Int):={a.toNat,()};intro e;exact hx (e▸(iR {a,()}).2.2.2)
theorem sj(a b:Str):(a++b).length=a.length+b.length:=Ve
inductive zQ(vs:List V)(H:Hp)(Q:VK)(Ã:XK):Prop
 |mk(n:Int):vs=[.int n]->0<=n->n<=1000->Q (.str (bp n)) H->zQ vs H Q Ã
theorem oE(T:Txt K mg A):T.rK.Hz P w base 1 zQ:=by
 refine T.rK.hs xR (λf Ä A' outer s H vs Q E' hr hu h=>?_);obtain⟨n,rfl,h0,h1,q⟩:=h;obtain⟨n,rfl⟩:∃k:Nat,n=(k:Int):={n.toNat,()};obtain⟨k1,k2,_⟩:=iR {n,()};refine{_,(ag (aE (GF (CZ aF (CZ (JR (fv 0)) JU))))),{_,rfl,∅,NI {_,rfl,k1,_,rfl,?_}}};have l:(bp (n:Int)).length<=sizeLine:=by
  unfold bp;rw[sj];exact NU (Uw k2 _) ∅
 exact⟨l,l,q⟩
theorem Paired.two{α β:Type}{F:α->β->Prop}:∀{xs zs:List α}{ys ws:List β},Paired F xs ys->Paired F zs ws->Paired F (xs++zs) (ys++ws)
 |_,_,_,_,.nil,h=>h
 |_,_,_,_,.cons g r,h=>.cons g (Paired.two r h)
abbrev Le:=Pt×Option Str×Option Str
def oS:Option Str->V
 |none=>.È
 |some x=>.str x
mutual
noncomputable def bA(lp:Option Str):Pt->List Le
 | .leaf _ _=>[]
 | .iff n _ _ _ f o=>bB (Wv (bp n)) lp f++bB (Wv (bp n)) lp o
 | .loop n _ _ _ _ b=>bB (Wv (bp n)) (Wv (bp n)) b
 | .bf _ _ _ _=>[]
noncomputable def bB(pl lp:Option Str):List Pt->List Le
 | []=>[]
 |t::ts=>(t,pl,lp)::(bA lp t++bB pl lp ts)
end
mutual
noncomputable def dep:Pt->Nat
 | .leaf _ _=>0
 | .iff _ _ _ _ f o=>max (ig f) (ig o)+1
 | .loop _ _ _ _ _ b=>ig b+1
 | .bf _ _ _ b=>0
noncomputable def ig:List Pt->Nat
 | []=>0
 |t::ts=>max (dep t) (ig ts)
end
theorem jr{t:Pt}:∀{ts:List Pt},t∈ts->dep t<=ig ts
 |t'::ts,m=>by
  unfold ig;rcases NJ.mp m with rfl|m
  ·exact Nat.le_max_left _ _
  exact NU (jr m) (Nat.le_max_right _ _)
theorem uL{pl lp:Option Str}:∀(a b:List Pt),bB pl lp (a++b)=bB pl lp a++bB pl lp b
 | [],b=>by simp[bB]
 |t::a,b=>by
  have h1:bB pl lp (t::(a++b))=(t,pl,lp)::(bA lp t++bB pl lp (a++b)):=by rw[bB]
  have h2:bB pl lp (t::a)=(t,pl,lp)::(bA lp t++bB pl lp a):=by rw[bB]
  show bB pl lp (t::(a++b))=_;rw[h1,h2,uL a b];simp
theorem vX{pl lp:Option Str}{ts:List Pt}{t:Pt}{i:Nat}(h:ts[i]?=Wv t):bB pl lp (ts.take (i+1))=bB pl lp (ts.take i)++(t,pl,lp)::bA lp t:=by
 rw[Od,h,uL];show bB pl lp (ts.take i)++bB pl lp [t]=_;rw[show bB pl lp [t]=(t,pl,lp)::bA lp t by simp[bB]]
theorem Ex{pl lp:Option Str}{ts:List Pt}{t:Pt}{i:Nat}(h:ts[i]?=Wv t):bB pl lp ts=bB pl lp (ts.take i)++((t,pl,lp)::bA lp t)++bB pl lp (ts.drop (i+1)):=by
 rw[<-vX h,<-uL,Ow]
def Nb(es:List Le):Prop:=∀e∈es,0<=e.1.no/\e.1.no<=1000
def LyE(A:Ì)(N:Nat->Str)(X:Hp)(e:Le)(y:V)(H:Hp):Prop:=∃tp v,y=V.ref tp/\H tp=Wv (.tup [v,oS e.2.1,oS e.2.2])/\aN A N X v e.1
def Ly(A:Ì)(N:Nat->Str)(X H:Hp)(es:List Le)(ys:List V):Prop:=Paired (λe y=>LyE A N X e y H) es ys
theorem Ly.same{X H H':Hp}(s:∀x w,H x=Wv (.tup w)->H' x=Wv (.tup w)){es:List Le}{ys:List V}(h:Ly A N X H es ys):Ly A N X H' es ys:=Paired.fg h λ_ _ ⟨tp,v,e,h1,h2⟩=>{tp,v,e,s _ _ h1,h2}
inductive sZ(A:Ì)(d:Nat)(vs:List V)(H:Hp)(Q:VK)(Ã:XK):Prop
 |mk(N:Nat->Str)(X:Hp)(L:Qs)(xs:List V)(pl lp:Option Str)(ts:List Pt)(z0:vs=[.ref L,oS pl,oS lp])(z1:ai X H)(z2:X L=Wv (.lst xs))(z3:ba A N X xs ts)(z4:ig ts<=d)(z5:Nb (bB pl lp ts))(z6:(bB pl lp ts).length<=900)
  (z7:∀(R:Qs)(ys:List V)(H':Hp),ai H H'->H R=Ww->H' R=Wv (.lst ys)->Ly A N X H' (bB pl lp ts) ys->Q (.ref R) H'):sZ A d vs H Q Ã
inductive rG(A:Ì)(d:Nat)(vs:List V)(H:Hp)(Q:VK)(Ã:XK):Prop
 |mk(N:Nat->Str)(X:Hp)(v:V)(lp:Option Str)(t:Pt)(z0:vs=[v,oS lp])(z1:ai X H)(z2:aN A N X v t)(z3:dep t<=d)(z4:0<=t.no/\t.no<=1000)(z5:Nb (bA lp t))(z6:(bA lp t).length<=900)
  (z7:∀(R:Qs)(ys:List V)(H':Hp),ai H H'->H R=Ww->H' R=Wv (.lst ys)->Ly A N X H' (bA lp t) ys->Q (.ref R) H'):rG A d vs H Q Ã
def F6(A:Ì):Nat->Sp
 |0=>λ_ _ _ _=>False
 |d+1=>sZ A d
theorem BU(T:Txt K mg A)(d j:Nat)(Qf:T.jS.Hz P w base j (rG A d)):T.iP.Hz P w base (j+1) (sZ A d):=by
 refine T.iP.hs (k:=j) iH (λf Ä A' outer s H vs Q E' hr hu h=>?_);obtain⟨N,X,L,xs,pl,lp,ts,rfl,s0,hL,pt,dp,nb,ln,q⟩:=h;refine⟨_,(af (Å 3 iH.nd (aZ ae))
  (af (bG Qz rfl (bu (fv 0)) (Ó (i:=4) iH.nd rfl)
   (af (aU (bx (fv 3) (bj (fv 4^fv 1^fv 2^ae)^ae)))
   (ag (aU (ij (fv 3) ((ao (hj:=by lia) Qf hr (fv 4^fv 2^ae))^ae))))))
  (ag (aE (fv 3))))),?_⟩
 refine ah λM1 K1=>{NS _,λR hR=>?_};obtain⟨s1,e1⟩:=Ñ hR (HO.lst []);generalize upd H R _=H1 at s1 e1⊢;refine K1 _ _ ?_;clear K1 M1;rfl'
 refine ah λM1 K1=>NI {{_,À.of ((s0.trans s1) _ _ hL)},bw (K:=K) (xs:=xs) (λi B Hc=>∃(ys:List V)(v4:Option V),B=[Wv (.ref L),Wv (oS pl),Wv (oS lp),Wv (.ref R),v4]/\ai H Hc/\Hc R=Wv (.lst ys)/\Ly A N X Hc (bB pl lp (ts.take i)) ys) {[],Ww,rfl,s1,e1,by rw[show bB pl lp (ts.take 0)=[] by show bB pl lp []=[];rw[bB]];exact .nil} (λi B Hc _ ⟨_,_,_,z,_⟩=>À.of ((s0.trans z) _ _ hL)) ?_ ?_}
 ·rintro i v B Hc hv ⟨ys,v4,rfl,sc,Ú,ly⟩;obtain⟨t,ht,pa⟩:=pt.get hv;have mt:t∈ts:=NO ht;have e:=Ex (pl:=pl) (lp:=lp) ht;have le:(bB pl lp (ts.take i)).length+(1+(bA lp t).length)<=900:=by
   rw[e]at ln;simp at ln;lia
  have n1:∀z∈((t,pl,lp)::bA lp t),0<=z.1.no/\z.1.no<=1000:=λz hz=>nb z (by rw[e];exact N3 _ (NR _ hz));have ũ:=Qy ly;rfl'
  refine ah λN1 J1=>{NI {rfl,_,À.of Ú},by show 3<=sizeLine;decide,λtp đ=>?_};have tpR:tp≠R:=Wx đ Ú;refine{_,_,_,rfl,rfl,aK tpR.symm Ú,aL (),?_};have s2:ai H (upd (upd Hc tp (.tup [v,oS pl,oS lp])) R (.lst (ys++[.ref tp]))):=ai.out (sc.trans (ai.upd đ _)) hR _;have e2:upd (upd Hc tp (.tup [v,oS pl,oS lp])) R (.lst (ys++[.ref tp])) R=Wv (.lst (ys++[.ref tp])):=av;have l2:Ly A N X (upd (upd Hc tp (.tup [v,oS pl,oS lp])) R (.lst (ys++[.ref tp]))) (bB pl lp (ts.take i)++[(t,pl,lp)]) (ys++[.ref tp]):=by
   refine Paired.two (ly.same λx w e=>?_) (.cons ⟨tp,v,rfl,aK tpR av,pa⟩ .nil);exact aK (λy=>by rw[y,Ú]at e;cases e) (aK (λy=>by rw[y,đ]at e;cases e) e)
  generalize upd (upd Hc tp (.tup [v,oS pl,oS lp])) R (.lst (ys++[.ref tp]))=Hd at s2 e2 l2⊢;refine J1 _ _ ?_;clear J1 N1;rfl'
  refine{NI {rfl,_,À.of e2},N,X,v,lp,t,rfl,s0.trans s2,pa,NU (jr mt) dp,n1 _ NL,λz hz=>n1 z (NK _ hz),(),λR2 zs He s3 Τ Ĺ l3=>?_};have lz:=Qy l3;refine{_,_,_,_,rfl,rfl,s3 _ _ e2,Ĺ,sz (by rw[NG,<-lz,<-ũ];simp;lia),{_,_,rfl,ai.out (s2.trans s3) hR _,av,?_}};rw[vX ht,show bB pl lp (ts.take i)++(t,pl,lp)::bA lp t=bB pl lp (ts.take i)++[(t,pl,lp)]++bA lp t by simp];have dR:∀x w,He x=Wv (.tup w)->upd He R (.lst (ys++[.ref tp]++zs)) x=Wv (.tup w):=λx w e=>aK (λy=>by rw[y,s3 _ _ e2]at e;cases e) e;exact Paired.two (l2.same λx w e=>dR x w (s3 _ _ e)) (l3.same dR)
 rintro B Hc ⟨ys,v4,rfl,sc,Ú,ly⟩;rw[show ts.take xs.length=ts by rw[pt.len];exact N0]at ly;exact K1 _ _ (q R ys Hc sc hR Ú ly)
theorem wd(T:Txt K mg A)(d j:Nat)(P5:T.iP.Hz P w base (j+1) (F6 A d)):T.jS.Hz P w base (j+2) (rG A d):=by
 refine T.jS.hs (k:=j+1) og (λf Ä A' outer s H vs Q E' hr hu h=>?_);obtain⟨N,X,v,lp,t,rfl,s0,pa,dp,nt,nb,ln,q⟩:=h;refine⟨_,(af (Å 2 og.nd (ao (hj:=by lia) (oE T) hr (aq (fv 0) rfl^ae)))
  (af (aP (aQ (Ê aI T.ax (fv 0^aO T.aS.mg^ae)) (λ_=>rfl))
   (ag (aE (aG aW (ao (hj:=by lia) P5 hr (aq (fv 0) rfl^fv 2^fv 1^ae)) (ao (hj:=by lia) P5 hr (aq (fv 0) rfl^fv 2^fv 1^ae)))))
   aJ)
  (af (aP (aQ (Ê aI T.ax (fv 0^aO T.aM.mg^ae)) (λ_=>rfl))
   (ag (aE (ao (hj:=by lia) P5 hr (aq (fv 0) rfl^fv 2^fv 2^ae))))
   aJ)
  (ag (aE (aZ ae)))))),?_⟩
 refine ah λM1 K1=>cQ T s0 pa {_,rfl,nt.1,nt.2,K1 _ _ ?_};clear K1 M1;rfl'
 refine ah λM1 K1=>wL T s0 pa 11 ∅ ∅ ?_;cases t with
 |iff n val l r f o=>
  refine bo ?_;unfold aN at pa;obtain⟨a,dx,p,pf,po,xf,xo,rfl,h1,h2,h3,h4,h5,h6⟩:=pa;unfold dep at dp;cases d with
  |zero=>lia
  |succ d=>
  unfold bA at nb ln q;have nf:Nb (bB (Wv (bp n)) lp f):=λy hy=>nb y (N3 _ hy);have no:Nb (bB (Wv (bp n)) lp o):=λy hy=>nb y (NR _ hy);rw[NG]at ln;refine Á (s0 _ _ h1) T.aS.cl T.bX rfl {N,X,pf,xf,Wv (bp n),lp,f,rfl,s0,h3,h5,(),nf,(),λR1 y1 H1 s1 n1 e1 l1=>Á ((s0.trans s1) _ _ h1) T.aS.cl T.bZ rfl {N,X,po,xo,Wv (bp n),lp,o,rfl,s0.trans s1,h4,h6,(),no,(),λR2 y2 H2 s2 n2 e2 l2=>?_}};have z1:=Qy l1;have z2:=Qy l2;refine{R1,R2,_,_,rfl,rfl,s2 _ _ e1,e2,sz (),λR hR=>?_};have s3:ai H2 (upd H2 R (.lst (y1++y2))):=ai.upd hR _;exact q R _ _ ((s1.trans s2).trans s3) (ai.free (s1.trans s2) hR) av (Paired.two (l1.same λx w e=>s3 _ _ (s2 _ _ e)) (l2.same λx w e=>s3 _ _ e))
 |loop n t m l r b=>
  refine aT (K1 _ _ ?_);clear K1 M1;rfl'
  refine ah λM1 K1=>wL T s0 pa 12 ∅ ∅ (bo ?_);unfold aN at pa;obtain⟨a,dx,pb,xb,rfl,h1,h2,h3⟩:=pa;unfold dep at dp;cases d with
  |zero=>lia
  |succ d=>
  unfold bA at nb ln q;exact Á (s0 _ _ h1) T.aM.cl T.bM rfl {N,X,pb,xb,Wv (bp n),Wv (bp n),b,rfl,s0,h2,h3,(),nb,ln,λR1 y1 H1 s1 n1 e1 l1=>q R1 y1 H1 s1 n1 e1 l1}
 |leaf n r=>
  have Ϛ:decide ((Pt.leaf n r).ci=11)=false:=by cases r<;>rfl
  have e12:decide ((Pt.leaf n r).ci=12)=false:=by cases r<;>rfl
  rw[Ϛ];refine aT (K1 _ _ ?_);clear K1 M1;rfl'
  refine ah λM1 K1=>wL T s0 pa 12 ∅ ∅ ?_;rw[e12];refine aT (K1 _ _ ?_);clear K1 M1;refine{NS _,λR hR=>q R [] _ (ai.upd hR _) hR av ?_};unfold bA;exact .nil
 |bf n i ps b=>
  refine aT (K1 _ _ ?_);clear K1 M1;rfl'
  refine ah λM1 K1=>wL T s0 pa 12 ∅ ∅ (aT (K1 _ _ ?_));clear K1 M1;refine{NS _,λR hR=>q R [] _ (ai.upd hR _) hR av ?_};unfold bA;exact .nil
theorem AS(T:Txt K mg A):∀d,T.iP.Hz P w base (2*d+3) (sZ A d)
 |0=>BU T 0 2 (wd T 0 0 (T.iP.hs (k:=0) iH (λ_ _ _ _ _ _ _ _ _ _ _ h=>h.elim) (λ_ _ _ _ h=>h.elim)))
 |d+1=>BU T (d+1) (2*d+4) (wd T (d+1) (2*d+2) (AS T d))
def d7:Pt->List Pt
 | .bf _ _ _ b=>b
 |_=>[]
def ó(N:Nat->Str):Pt->Str
 | .bf _ i _ _=>N i
 |_=>Q4
def Ĥ(N:Nat->Str):Pt->List Str
 | .bf _ _ ps _=>ps.map N
 |_=>[]
def uD:Pt->Prop
 | .bf _ _ _ _=>True
 |_=>False
def jq(N:Nat->Str)(ds:List Pt):List Le:=ds.flatMap λp=>bB (Wv (ó N p)) Ww (d7 p)
theorem u4{ts:List Pt}{t:Pt}{i:Nat}(h:ts[i]?=Wv t):jq N (ts.take (i+1))=jq N (ts.take i)++bB (Wv (ó N t)) Ww (d7 t):=by
 unfold jq;rw[Od,h];simp
theorem Eb{ts:List Pt}{t:Pt}{i:Nat}(h:ts[i]?=Wv t):jq N ts=jq N (ts.take i)++bB (Wv (ó N t)) Ww (d7 t)++jq N (ts.drop (i+1)):=by
 rw[<-u4 h];unfold jq;rw[<-Pj,Ow]
def mB(A:Ì)(N:Nat->Str)(X:Hp)(v:V)(hs ds ms:List Pt):Prop:=∃a dx n0 n1 n2 x0 x1 x2,v=.ref a/\X a=Wv (.ins A.Program dx [("heads",.ref n0),("deeds",.ref n1),("main",.ref n2)])/\X n0=Wv (.lst x0)/\X n1=Wv (.lst x1)/\X n2=Wv (.lst x2)/\ba A N X x0 hs/\ba A N X x1 ds/\ba A N X x2 ms
def bC(N:Nat->Str)(ds ms:List Pt):List Le:=jq N ds++bB Ww Ww ms
def Ŀ(N:Nat->Str):Pt->Option Str
 | .leaf _ (.Ĭ i _ _)=>Wv (N i)
 | .leaf _ (.own i _)=>Wv (N i)
 | .leaf _ (.lt i _)=>Wv (N i)
 |_=>Ww
def oQ(p:Pt):Bool:=decide (p.ci=11)||(decide (p.ci=12)||(decide (p.ci=7)||decide (p.ci=8)))
def gM(es:List Le):List Str:=(es.filter λe=>oQ e.1).map λe=>bp e.1.no
def a9(N:Nat->Str)(hs ds ms:List Pt):List Str:=hs.filterMap (Ŀ N)++(ds.flatMap λp=>ó N p::Ĥ N p)++gM (bC N ds ms)++[("the clock":Str)]
structure Ok(N:Nat->Str)(d:Nat)(hs ds ms:List Pt):Prop where
 bf:∀p∈ds,uD p/\ig (d7 p)<=d
 main:ig ms<=d
 nb:Nb (bC N ds ms)
 ln:(bC N ds ms).length<=300
 hl:hs.length<=300
 pl:(a9 N hs ds ms).length<=900
 nd:(a9 N hs ds ms).Nodup
abbrev sS(xs:List Str):List V:=xs.map V.str
inductive y9(A:Ì)(d:Nat)(vs:List V)(H:Hp)(Q:VK)(Ã:XK):Prop
 |mk(N:Nat->Str)(X:Hp)(v:V)(hs ds ms:List Pt)(z0:vs=[v])(z1:ai X H)(z2:mB A N X v hs ds ms)(z3:Ok N d hs ds ms)
  (z7:∀(R:Qs)(ys:List V)(H':Hp),ai H H'->H R=Ww->H' R=Wv (.lst ys)->Ly A N X H' (bC N ds ms) ys->Q (.ref R) H'):y9 A d vs H Q Ã
theorem xp(T:Txt K mg A)(d:Nat):T.lN.Hz P w base (2*d+4) (y9 A d):=by
 refine T.lN.hs (k:=2*d+3) iy (λf Ä A' outer s H vs Q E' hr hu h=>?_);obtain⟨N,X,v,hs,ds,ms,rfl,s0,⟨a,dx,n0,n1,n2,x0,x1,x2,rfl,ha,e0,e1,e2,p0,p1,p2⟩,ok,q⟩:=h;have ln:=ok.ln;have nb:=ok.nb;unfold bC at ln nb;rw[NG]at ln;refine⟨_,(af (Å 1 iy.nd (aZ ae))
  (af (bG Qz rfl (bu (aq (fv 0) rfl)) (Ó (i:=2) iy.nd rfl)
   (ag (aU (ij (fv 1) ((ao (hj:=by lia) (AS T d) hr (aq (fv 2) rfl^aq (fv 2) rfl^fz^ae))^ae)))))
  (ag (aE (aG aW (fv 1) (ao (hj:=by lia) (AS T d) hr (aq (fv 0) rfl^fz^fz^ae))))))),?_⟩
 refine ah λM1 K1=>{NS _,λR hR=>?_};obtain⟨s1,eR⟩:=Ñ hR (HO.lst []);generalize upd H R _=H1 at s1 eR⊢;refine K1 _ _ ?_;clear K1 M1;rfl'
 refine ah λM1 K1=>Á ((s0.trans s1) _ _ ha) T.bc.cl T.br rfl (NI {{_,À.of ((s0.trans s1) _ _ e1)},bw (K:=K) (xs:=x1) (λi B Hc=>∃(ys:List V)(v2:Option V),B=[Wv (.ref a),Wv (.ref R),v2]/\ai H Hc/\Hc R=Wv (.lst ys)/\Ly A N X Hc (jq N (ds.take i)) ys) {[],Ww,rfl,s1,eR,.nil} (λi B Hc _ ⟨_,_,_,z,_⟩=>À.of ((s0.trans z) _ _ e1)) ?_ ?_})
 ·rintro i v B Hc hv ⟨ys,v2,rfl,sc,Ú,ly⟩;obtain⟨t,ht,pa⟩:=p1.get hv;have mt:t∈ds:=NO ht;obtain⟨dt,dd⟩:=ok.bf t mt;cases t with
  |bf n i' ps b=>
   unfold aN at pa;obtain⟨a',Ų,pp,pb,xb,rfl,h1,h2,h3,h4⟩:=pa;have e:=Eb (N:=N) ht;have le:(jq N (ds.take i)).length+(bB (Wv (N i')) Ww b).length<=300:=by
    have:=congrArg SH e;simp only[NG]at this;have z:bB (Wv (ó N (.bf n i' ps b))) Ww (d7 (.bf n i' ps b))=bB (Wv (N i')) Ww b:=rfl;rw[z]at this;lia
   have nbb:Nb (bB (Wv (N i')) Ww b):=λy hy=>nb y (N3 _ (by rw[e];exact N3 _ (NR _ hy)));have ũ:=Qy ly;refine{NI {rfl,_,À.of Ú},Á ((s0.trans sc) _ _ h1) T.a8.cl T.bW rfl (Á ((s0.trans sc) _ _ h1) T.a8.cl T.b4 rfl {N,X,pb,xb,Wv (N i'),Ww,b,rfl,s0.trans sc,h3,h4,dd,nbb,(),λR2 zs He s3 Τ Ĺ l3=>?_})};have lz:=Qy l3;refine{_,_,_,_,rfl,rfl,s3 _ _ Ú,Ĺ,sz (),{_,_,rfl,ai.out (sc.trans s3) hR _,av,?_}};rw[u4 ht];have dR:∀x w,He x=Wv (.tup w)->upd He R (.lst (ys++zs)) x=Wv (.tup w):=λx w e=>aK (λy=>by rw[y,s3 _ _ Ú]at e;cases e) e;exact Paired.two (ly.same λx w e=>dR x w (s3 _ _ e)) (l3.same dR)
  |_=>exact dt.elim
 rintro B Hc ⟨ys,v2,rfl,sc,Ú,ly⟩;rw[show ds.take x1.length=ds by rw[p1.len];exact N0]at ly;refine K1 _ _ ?_;have ũ:=Qy ly;rfl'
 refine Á ((s0.trans sc) _ _ ha) T.bc.cl T.dh rfl {N,X,n2,x2,Ww,Ww,ms,rfl,s0.trans sc,e2,p2,ok.main,λy hy=>nb y (NR _ hy),(),λR2 zs He s3 Τ Ĺ l3=>?_};have lz:=Qy l3;refine{R,R2,_,_,rfl,rfl,s3 _ _ Ú,Ĺ,sz (),λR3 hR3=>?_};have s4:ai He (upd He R3 (.lst (ys++zs))):=ai.upd hR3 _;exact q R3 _ _ ((sc.trans s3).trans s4) (ai.free (sc.trans s3) hR3) av (Paired.two (ly.same λx w e=>s4 _ _ (s3 _ _ e)) (l3.same λx w e=>s4 _ _ e))
inductive uv(A:Ì)(vs:List V)(H:Hp)(Q:VK)(Ã:XK):Prop
 |mk(N:Nat->Str)(X:Hp)(v:V)(t:Pt):vs=[v]->ai X H->aN A N X v t->Q (.bl (oQ t)) H->uv A vs H Q Ã
theorem DQ(T:Txt K mg A):T.um.Hz P w base 1 (uv A):=by
 refine T.um.hs yK (λf Ä A' outer s H vs Q E' hr hu h=>?_);obtain⟨N,X,v,t,rfl,s0,pa,q⟩:=h;refine{_,(ag (aE (ED (Ê aI T.ax (fv 0^aO T.aS.mg^ae)) (ED (Ê aI T.ax (fv 0^aO T.aM.mg^ae)) (ED (Ê aI T.ax (fv 0^aO T.bR.mg^ae)) (Bi (Ê aI T.ax (fv 0^aO T.bD.mg^ae)))))))),?_};unfold oQ at q;refine yi T s0 pa 11 ∅ ∅ {_,rfl,?_};cases e1:decide (t.ci=11)with
 |true=>rw[e1]at q;exact bo q
 |false=>
 rw[e1]at q;refine aT (yi T s0 pa 12 ∅ ∅ {_,rfl,?_});cases e2:decide (t.ci=12)with
 |true=>rw[e2]at q;exact bo q
 |false=>
 rw[e2]at q;refine aT (yi T s0 pa 7 ∅ ∅ {_,rfl,?_});cases e3:decide (t.ci=7)with
 |true=>rw[e3]at q;exact bo q
 |false=>
 rw[e3]at q;exact aT (yi T s0 pa 8 ∅ ∅ q)
def Sm(M:List Qs)(H H':Hp):Prop:=∀a o,a∉M->H a=Wv o->H' a=Wv o
theorem Sm.refl(M:List Qs)(H:Hp):Sm M H H:=λ_ _ _ h=>h
theorem Sm.trans{M:List Qs}{H H' ό:Hp}(h:Sm M H H')(h':Sm M H' ό):Sm M H ό:=λa o m e=>h' a o m (h a o m e)
theorem Sm.new{M:List Qs}{H H':Hp}(s:ai H H'):Sm M H H':=λa o _ e=>s a o e
theorem Sm.at{M:List Qs}{H:Hp}{a:Qs}(m:a∈M)(o:HO):Sm M H (upd H a o):=λb u hb e=>aK (λz=>hb (z▸m)) e
theorem Sm.same{M:List Qs}{X H H':Hp}(h:Sm M H H')(s:ai X H)(n:∀m∈M,X m=Ww):ai X H':=λa o e=>h a o (λm=>by rw[n a m]at e;cases e) (s a o e)
theorem Kk(N:Nat->Str)(t:Pt):(Ŀ N t).isSome=(decide (t.ci=2)||(decide (t.ci=3)||decide (t.ci=4))):=by
 cases t with
 |leaf n r=>cases r<;>rfl
 |_=>rfl
theorem AX(T:Txt K mg A){X H:Hp}(s:ai X H){v:V}{t:Pt}(h:aN A N X v t){x:Str}(e:Ŀ N t=Wv x){Q:VK}(q:Q (.str x) H):nQ K "name" v H Q:=by
 cases t with
 |leaf n r=>
  unfold aN at h;obtain⟨a,dx,p,rfl,h1,h2⟩:=h;cases r with
  |Ĭ i _ _=>cases e;exact Á (s _ _ h1) T.bq.cl T.dE rfl q
  |own i _=>cases e;exact Á (s _ _ h1) T.cL.cl T.fV rfl q
  |lt i _=>cases e;exact Á (s _ _ h1) T.cC.cl T.fu rfl q
  |_=>cases e
 |_=>cases e
theorem GY{α β:Type}(f:α->Option β){xs:List α}{i:Nat}{x:α}(h:xs[i]?=Wv x):(xs.take (i+1)).filterMap f=(xs.take i).filterMap f++(f x).toList:=by
 rw[Od,h,List.filterMap_append];show _++List.filterMap f [x]=_;rw[OT];cases f x<;>rfl
inductive wM(A:Ì)(vs:List V)(H:Hp)(Q:VK)(Ã:XK):Prop
 |mk(N:Nat->Str)(X:Hp)(L:Qs)(xs:List V)(hs:List Pt)(z0:vs=[.ref L])(z1:ai X H)(z2:X L=Wv (.lst xs))(z3:ba A N X xs hs)(z4:hs.length<=900)
  (z5:∀(R:Qs)(H':Hp),ai H H'->H R=Ww->H' R=Wv (.lst (sS (hs.filterMap (Ŀ N))))->Q (.ref R) H'):wM A vs H Q Ã
theorem FI(T:Txt K mg A):T.mO.Hz P w base 1 (wM A):=by
 refine T.mO.hs iX (λf Ä A' outer s H vs Q E' hr hu h=>?_);obtain⟨N,X,L,xs,hs,rfl,s0,hL,pt,ln,q⟩:=h;refine⟨_,(af (Å 1 iX.nd (aZ ae))
  (af (bG Qz rfl (bu (fv 0)) (Ó (i:=2) iX.nd rfl)
   (ag (aP (PW.pt (pw_or (aQ (Ê aI T.ax (fv 2^aO T.bq.mg^ae)) (λ_=>rfl)) (pw_or (aQ (Ê aI T.ax (fv 2^aO T.cL.mg^ae)) (λ_=>rfl)) (pw_or1 (aQ (Ê aI T.ax (fv 2^aO T.cC.mg^ae)) (λ_=>rfl))))))
    (ag (aU (bx (fv 1) (aq (fv 2) rfl^ae))))
    aJ)))
  (ag (aE (fv 1))))),?_⟩
 refine ah λM1 K1=>{NS _,λR hR=>?_};obtain⟨s1,e1⟩:=Ñ hR (HO.lst []);generalize upd H R _=H1 at s1 e1⊢;refine K1 _ _ ?_;clear K1 M1;rfl'
 refine ah λM1 K1=>NI {{_,À.of ((s0.trans s1) _ _ hL)},bw (K:=K) (xs:=xs) (λi B Hc=>∃(v2:Option V),B=[Wv (.ref L),Wv (.ref R),v2]/\ai H Hc/\Hc R=Wv (.lst (sS ((hs.take i).filterMap (Ŀ N))))) ⟨Ww,rfl,s1,e1⟩ (λi B Hc _ ⟨_,_,z,_⟩=>À.of ((s0.trans z) _ _ hL)) ?_ ?_}
 ·rintro i v B Hc hv ⟨v2,rfl,sc,Ú⟩;obtain⟨t,ht,pa⟩:=pt.get hv;have hi:=Kk N t;have st:=GY (Ŀ N) ht;have il:i<hs.length:=(NW.mp ht).1;have l1:=Tp (Ŀ N) (hs.take i);rw[Oh]at l1;have yes:∀x,Ŀ N t=Wv x->upd Hc R (.lst (sS ((hs.take i).filterMap (Ŀ N))++[.str x])) R=Wv (.lst (sS ((hs.take (i+1)).filterMap (Ŀ N)))):=λx e=>by
   rw[av,st,e];simp[sS]
  have no:Ŀ N t=Ww->Hc R=Wv (.lst (sS ((hs.take (i+1)).filterMap (Ŀ N)))):=λe=>by
   rw[st,e];simpa using Ú
  rfl'
  have s2:=s0.trans sc;cases e:Ŀ N t with
  |none=>
   rw[e]at hi;have c2:t.ci≠2:=λz=>by rw[z]at hi;cases hi
   have c3:t.ci≠3:=λz=>by rw[z]at hi;cases hi
   have c4:t.ci≠4:=λz=>by rw[z]at hi;cases hi
   exact bz T s2 pa c2 (aT (bz T s2 pa c3 (aT (bz T s2 pa c4 (aT {_,rfl,sc,no e})))))
  |some x=>
   rw[e]at hi;have lz:(sS ((hs.take i).filterMap (Ŀ N))).length<sizeLine:=aL (by rw[NH];lia);by_cases c2:t.ci=2
   ·exact cq T s2 pa c2 (bo {NI {rfl,_,À.of Ú},AX T s2 pa e {_,_,_,rfl,rfl,Ú,lz,_,rfl,ai.out sc hR _,yes x e}})
   by_cases c3:t.ci=3
   ·exact bz T s2 pa c2 (aT (cq T s2 pa c3 (bo {NI {rfl,_,À.of Ú},AX T s2 pa e {_,_,_,rfl,rfl,Ú,lz,_,rfl,ai.out sc hR _,yes x e}})))
   by_cases c4:t.ci=4
   ·exact bz T s2 pa c2 (aT (bz T s2 pa c3 (aT (cq T s2 pa c4 (bo {NI {rfl,_,À.of Ú},AX T s2 pa e {_,_,_,rfl,rfl,Ú,lz,_,rfl,ai.out sc hR _,yes x e}})))))
   rw[decide_eq_false c2,decide_eq_false c3,decide_eq_false c4]at hi;cases hi
 rintro B Hc ⟨v2,rfl,sc,Ú⟩;rw[show hs.take xs.length=hs by rw[pt.len];exact N0]at Ú;exact K1 _ _ (q R Hc sc hR Ú)
theorem qD{α β:Type}(f:α->List β){xs:List α}{i:Nat}{x:α}(h:xs[i]?=Wv x):(xs.take (i+1)).flatMap f=(xs.take i).flatMap f++f x:=by
 rw[Od,h];simp
theorem F5{α β:Type}(f:α->List β){xs:List α}{i:Nat}{x:α}(h:xs[i]?=Wv x):((xs.take i).flatMap f).length+(f x).length<=(xs.flatMap f).length:=by
 have e:xs.flatMap f=(xs.take (i+1)).flatMap f++(xs.drop (i+1)).flatMap f:=by rw[<-Pj,Ow]
 rw[e,qD f h];simp only[NG];lia
theorem AK{es:List Le}{i:Nat}{e:Le}(h:es[i]?=Wv e):gM (es.take (i+1))=gM (es.take i)++(if oQ e.1=true then[bp e.1.no]else[]):=by
 unfold gM;rw[Od,h,OC,Oc];congr 1;show List.map _ (VD _ [e])=_;rw[PU,OQ];split<;>rfl
theorem DH(es:List Le):(gM es).length<=es.length:=by
 unfold gM;rw[NH];exact Ou _ _
inductive vY(A:Ì)(d:Nat)(vs:List V)(H:Hp)(Q:VK)(Ã:XK):Prop
 |mk(N:Nat->Str)(X:Hp)(v:V)(hs ds ms:List Pt)(z0:vs=[v])(z1:ai X H)(z2:mB A N X v hs ds ms)(z3:Ok N d hs ds ms)
  (z7:∀(R:Qs)(H':Hp),ai H H'->H R=Ww->H' R=Wv (.lst (sS (a9 N hs ds ms)))->Q (.ref R) H'):vY A d vs H Q Ã
theorem yz(T:Txt K mg A)(d:Nat):T.places.Hz P w base (2*d+5) (vY A d):=by
 refine T.places.hs (k:=2*d+4) iN (λf Ä A' outer s H vs Q E' hr hu h=>?_);obtain⟨N,X,v,hs,ds,ms,rfl,s0,pg,ok,q⟩:=h;obtain⟨a,dx,n0,n1,n2,x0,x1,x2,rfl,ha,e0,e1,e2,p0,p1,p2⟩:=id pg;refine⟨_,(af (Å 1 iN.nd (ao (hj:=by lia) (FI T) hr (aq (fv 0) rfl^ae)))
  (af (bG Qz rfl (bu (aq (fv 0) rfl)) (Ó (i:=2) iN.nd rfl)
   (ag (aU (ij (fv 1) (aG aW (aZ (aq (fv 2) rfl^ae)) (aq (fv 2) rfl)^ae)))))
  (af (bG Qz rfl (bu (ao (hj:=by lia) (xp T d) hr (fv 0^ae))) (j3 rfl (bI (Ó (i:=3) iN.nd rfl) (bI (Ó (i:=4) iN.nd rfl) (bI (Ó (i:=5) iN.nd rfl) hV))))
   (ag (aP (aQ (ao (hj:=by lia) (DQ T) hr (fv 3^ae)) (λ_=>rfl))
    (ag (aU (bx (fv 1) ((ao (hj:=by lia) (oE T) hr (aq (fv 3) rfl^ae))^ae))))
    aJ)))
  (ag (aE (aG aW (fv 1) (aZ (yc T.tF^ae)))))))),?_⟩
 have pl:=ok.pl;unfold a9 at pl q;simp only[NG,N6]at pl;have hl:=ok.hl;refine ah λM1 K1=>Á (s0 _ _ ha) T.bc.cl T.cO rfl {N,X,n0,x0,hs,rfl,s0,e0,p0,(),λR H1 s1 hR eR=>K1 _ _ ?_};clear K1 M1;rfl'
 generalize hs.filterMap (Ŀ N)=B0 at eR pl q;refine ah λM1 K1=>Á ((s0.trans s1) _ _ ha) T.bc.cl T.br rfl (NI {{_,À.of ((s0.trans s1) _ _ e1)},bw (K:=K) (xs:=x1) (λi B Hc=>∃(v2:Option V),B=[Wv (.ref a),Wv (.ref R),v2,Ww,Ww,Ww]/\ai H Hc/\Hc R=Wv (.lst (sS (B0++(ds.take i).flatMap λp=>ó N p::Ĥ N p)))) {Ww,rfl,s1,by rw[O0,List.flatMap_nil,Oi];exact eR} (λi B Hc _ ⟨_,_,z,_⟩=>À.of ((s0.trans z) _ _ e1)) ?_ ?_})
 ·rintro i v B Hc hv ⟨v2,rfl,sc,Ú⟩;obtain⟨t,ht,pa⟩:=p1.get hv;have mt:t∈ds:=NO ht;obtain⟨dt,dd⟩:=ok.bf t mt;have st:=qD (λp=>ó N p::Ĥ N p) ht;have sl:=F5 (λp=>ó N p::Ĥ N p) ht;cases t with
  |bf n i' ps b=>
   unfold aN at pa;obtain⟨a',Ų,pp,pb,xb,rfl,h1,h2,h3,h4⟩:=pa;have sX:=s0.trans sc;have lp:B0.length+((ds.take i).flatMap λp=>ó N p::Ĥ N p).length+(1+ps.length)<=900:=by
    have z:(ó N (Pt.bf n i' ps b)::Ĥ N (Pt.bf n i' ps b)).length=ps.length+1:=by simp[Ĥ]
    rw[z]at sl;lia
   refine{NI {rfl,_,À.of Ú},Á (sX _ _ h1) T.a8.cl T.b4 rfl {by show 1<=sizeLine;decide,λq1 ϗ=>?_}};have n1:q1≠R:=Wx ϗ Ú;have sq:ai Hc (upd Hc q1 (.lst [.str (N i')])):=ai.upd ϗ _;refine Á ((sX.trans sq) _ _ h1) T.a8.cl T.cP rfl {q1,pp,_,_,rfl,rfl,av,(sX.trans sq) _ _ h2,sz (by rw[NH,N6];lia),λq2 Μ=>?_};have sq2:=ai.upd Μ (.lst ([V.str (N i')]++nV N ps));have n2:q2≠R:=Wx Μ (sq _ _ Ú);refine{_,_,_,_,rfl,rfl,sq2 _ _ (sq _ _ Ú),av,sz (by simp only[NG,NH,N6];lia),{_,rfl,ai.out ((sc.trans sq).trans sq2) hR _,?_}};rw[av,st];simp[sS,ó,Ĥ,nV,Vi]
  |_=>exact dt.elim
 rintro B Hc ⟨v2,rfl,sc,Ú⟩;rw[show ds.take x1.length=ds by rw[p1.len];exact N0]at Ú;refine K1 _ _ ?_;clear K1 M1;rfl'
 rw[<-NG]at pl;generalize B0++(ds.flatMap λp=>ó N p::Ĥ N p)=B1 at Ú pl q;refine ah λM1 K1=>{N,X,.ref a,hs,ds,ms,rfl,s0.trans sc,pg,ok,λL ys H2 s2 hL eL ly=>?_};have nL:L≠R:=Wx hL Ú;have nb:=ok.nb;generalize bC N ds ms=es at ly nb pl q;have ũ:=Qy ly;refine NI {{_,À.of eL},bw (K:=K) (xs:=ys) (λi B Hd=>∃(v3 v4 v5:Option V),B=[Wv (.ref a),Wv (.ref R),v2,v3,v4,v5]/\Sm [R] H2 Hd/\Hd R=Wv (.lst (sS (B1++gM (es.take i))))) {Ww,Ww,Ww,rfl,Sm.refl _ _,by rw[O0];show _=Wv (HO.lst (sS (B1++[])));rw[Oi];exact s2 _ _ Ú} (λi B Hd _ ⟨_,_,_,_,z,_⟩=>À.of (z _ _ (λm=>nL (NF.mp m)) eL)) ?_ ?_}
 ·rintro i y B Hd hy ⟨v3,v4,v5,rfl,sd,Ğ⟩;obtain⟨e,he,tp,v,rfl,ŀ,pa⟩:=cv ly hy;have Ů:=sd _ _ (λm=>by rw[NF.mp m,s2 _ _ Ú]at ŀ;cases ŀ) ŀ;have sX:ai X Hd:=sd.same ((s0.trans sc).trans s2) (λm hm=>by
   rw[NF.mp hm];exact ai.free s0 hR)
  have ne:=nb e (NO he);have st:=AK he;have rl:=DH (es.take i);have rl2:(gM (es.take i)).length<=(gM es).length:=by
   have:gM es=gM (es.take i)++gM (es.drop i):=by
    unfold gM;rw[<-Oc,<-OC,Ow]
   rw[this];simp
  rfl'
  refine{tp,_,rfl,Ò.of Ů,rfl,_,_,rfl,_,_,rfl,_,_,rfl,rfl,{N,X,v,e.1,rfl,sX,pa,_,rfl,?_}};cases c:oQ e.1 with
  |true=>
   rw[c,if_pos rfl]at st;refine bo {NI {rfl,_,À.of Ğ},cQ T sX pa {_,rfl,ne.1,ne.2,{_,_,_,rfl,rfl,Ğ,aL (by simp only[sS,NH,NG];lia),{_,_,_,rfl,sd.trans (Sm.at (NF.mpr rfl) _),?_}}}};rw[av,st];simp[sS]
  |false=>
   rw[c,if_neg NT,Oi]at st;exact aT {_,_,_,rfl,sd,by rw[st];exact Ğ}
 rintro B Hd ⟨v3,v4,v5,rfl,sd,Ğ⟩;rw[show es.take ys.length=es by rw[<-ũ];exact N0]at Ğ;refine K1 _ _ ?_;have s3:ai H Hd:=sd.same (sc.trans s2) (λm hm=>by rw[NF.mp hm];exact hR);refine{by show 1<=sizeLine;decide,λq1 ϗ=>?_};have sq:ai Hd (upd Hd q1 (.lst [.str "the clock"])):=ai.upd ϗ _;refine{R,q1,_,_,rfl,rfl,sq _ _ Ğ,av,sz (by simp only[sS,NH,NG,N6];lia),λq2 Μ=>q q2 _ ((s3.trans sq).trans (ai.upd Μ _)) (ai.free (s3.trans sq) Μ) ?_};rw[av];simp[sS]
theorem xq:Q9 K (.type "str") (.type "str")=Wv true:=by kernel_rfl!
theorem Fy:Q9 K (.type "int") (.type "str")=Wv false:=by kernel_rfl!
def Ě(N:Nat->Str)(acc:List Str):Th->List Str
 | .i _=>acc
 | .x a=>if N a∈acc then acc else acc++[N a]
def Ý(N:Nat->Str)(ts:List Th):List Str:=ts.foldl (Ě N) []
theorem oB(N:Nat->Str):∀(ts:List Th)(acc:List Str),(ts.foldl (Ě N) acc).length<=ts.length+acc.length
 | [],acc=>by simp
 |t::ts,acc=>by
  have h:=oB N ts (Ě N acc t);have h2:(Ě N acc t).length<=acc.length+1:=by
   cases t with
   |i n=>exact OZ _
   |x a=>unfold Ě;dsimp only;split<;>simp
  rw[OG,N7];lia
theorem tH(x:Str)(acc:List Str):ϔ (.str x) (sS acc)=decide (x∈acc):=by
 unfold ϔ sS;rw[List.any_map,OW,Pw,decide_eq_true_iff];constructor
 ·rintro⟨y,m,e⟩;have e:decide (y=x)=true:=e;exact of_decide_eq_true e▸m
 intro m;exact⟨x,m,decide_eq_true rfl⟩
theorem vS(acc:List Str):(sS acc).all mH=true:=by
 unfold sS;rw[List.all_map,O7];exact λ_ _=>rfl
def ò:Val->List Th
 | .one a=>[a]
 | .op a _ b=>[a,b]
theorem qW(N:Nat->Str)(v:Val):iF (vV N v)=(ò v).map (Th.v N):=by
 cases v<;>kernel_rfl
inductive Ak(K:Qx)(vs:List V)(H:Hp)(Q:VK)(Ã:XK):Prop
 |mk(N:Nat->Str)(t:Qs)(xs:List V)(ts:List Th)(z0:vs=[.ref t])(z1:Ò K H t xs)(z2:iF xs=ts.map (Th.v N))(z3:ts.length<=100)
  (z4:∀(p:Qs)(H':Hp),H p=Ww->ai H H'->H' p=Wv (.lst (sS (Ý N ts)))->Q (.ref p) H'):Ak K vs H Q Ã
theorem oJ(T:Txt K mg A):T.vo.Hz P w base 1 (Ak K):=by
 refine T.vo.hs nq (λf Ä A' outer s H vs Q E' hr hu h=>?_);obtain⟨N,t,xs,ts,rfl,hT,ev,hl,q⟩:=h;refine⟨_,(af (Å 1 nq.nd (aZ ae))
  (af (bG Qz rfl (bu (EO (fv 0))) (Ó (i:=2) nq.nd rfl)
   (ag (aP (PW.pt (pw_and (aQ (Ê aI T.ax (fv 2^(f9 (v:=.ty "str") rfl T.sg (by boot_by_name) rfl)^ae)) (λ_=>rfl)) (pw_and1 (Ö (tX hu) (fv 2) (fv 1) ((by with_unfolding_all rfl))))))
    (ag (aU (bx (fv 1) (fv 2^ae))))
    aJ)))
  (ag (aE (fv 1))))),?_⟩
 refine{(by decide:0<=sizeLine),λp hp=>{t,xs,rfl,(ai.upd hp _).tup hT,λe he=>Ob {{_,Ò.of av},?_}}};have hpe:p≠e:=λz=>by
  rw[<-z,av]at he;cases he
 rw[ev];refine HH (K:=K) (xs:=ts.map (Th.v N)) (λi B H3=>ai H H3/\H3 e=Wv (.tup (ts.map (Th.v N)))/\H3 p=Wv (.lst (sS (Ý N (ts.take i))))/\∃v,B=[Wv (.ref t),Wv (.ref p),v]) {(ai.upd hp _).trans (ai.upd he _),av,?_,Ww,rfl} (λi B H3 _ h=>Ò.of h.2.1) ?_ ?_
 ·rw[aR hpe,av];rfl
 ·rintro i x B H3 hi ⟨s3,h3e,ķ,v,rfl⟩;rw[NX]at hi;cases ht:ts[i]? with
  |none=>rw[ht]at hi;cases hi
  |some th=>
  rw[ht]at hi;cases hi;have nx:Ý N (ts.take (i+1))=Ě N (Ý N (ts.take i)) th:=iQ (Ě N) [] ht;have ll:=oB N (ts.take i) [];rw[Oh,OP]at ll;cases th with
  |i n=>
   exact{_,_,_,false,rfl,(λz=>by cases z),.int n,Fy,false,rfl,aT (aT {s3,h3e,by rw[ķ,nx];rfl,_,rfl})}
  |x a=>
   refine{_,_,_,true,rfl,(λz=>by cases z),.str _,xq,true,rfl,bo (NI {_,NI (À.of ķ),rfl,vS _,_,rfl,?_})};have nx:Ý N (ts.take (i+1))=if N a∈Ý N (ts.take i)then Ý N (ts.take i)else Ý N (ts.take i)++[N a]:=nx
   by_cases m:N a∈Ý N (ts.take i)
   ·rw[if_pos m]at nx;exact bg (λc=>absurd c (by show ¬ (!ϔ (V.str (N a)) (sS (Ý N (ts.take i))))=true;rw[tH,decide_eq_true m];decide)) (λ_=>{s3,h3e,by rw[ķ,nx],_,rfl})
   rw[if_neg m]at nx;refine bg (λ_=>?_) (λc=>absurd (by show(!ϔ (V.str (N a)) (sS (Ý N (ts.take i))))=true;rw[tH,decide_eq_false m];rfl) c);refine{NI {rfl,_,À.of ķ},_,_,_,rfl,rfl,ķ,aL (by rw[NH];unfold Ý;lia),{ai.out s3 hp _,aK hpe.symm h3e,?_,_,rfl}};rw[av,nx];simp[sS,Th.v]
 rintro B H3 ⟨s3,h3e,ķ,v,rfl⟩;rw[show ts.take (ts.map (Th.v N)).length=ts by rw[NH];exact N0]at ķ;exact q p H3 hp s3 ķ
def Ĝ:Pt->List Th
 | .leaf _ (.set _ v)=>ò v
 | .leaf _ (.snd _ v)=>ò v
 | .leaf _ (.put _ t v)=>t::ò v
 | .iff _ v _ _ _ _=>ò v
 | .loop _ t _ _ _ _=>[t]
 |_=>[]
theorem iG(v:Val):(ò v).length<=2:=by cases v<;>simp[ò]
theorem Cp(t:Pt):(Ĝ t).length<=3:=by
 cases t with
 |leaf n r=>
  cases r with
  |set _ v=>exact PM (iG v)
  |snd _ v=>exact PM (iG v)
  |put _ _ v=>exact PV (iG v)
  |_=>simp[Ĝ]
 |iff n v _ _ _ _=>exact PM (iG v)
 |_=>simp[Ĝ]
def jI(acc:List Str)(x:Str):List Str:=if x∈acc then acc else acc++[x]
def eU(acc xs:List Str):List Str:=xs.foldl jI acc
theorem wy:∀(xs acc:List Str),(eU acc xs).length<=xs.length+acc.length
 | [],acc=>by simp[eU]
 |x::xs,acc=>by
  have h:=wy xs (jI acc x);have h2:(jI acc x).length<=acc.length+1:=by
   unfold jI;split<;>simp
  show(eU (jI acc x) xs).length<=_;rw[N7];lia
theorem Gg(N:Nat->Str)(t:Th)(v:Val):eU [] (Ý N [t]++Ý N (ò v))=Ý N (t::ò v):=by
 cases t with
 |i n=>
  show eU [] ([]++Ý N (ò v))=Ý N (ò v);rw[OA];cases v with
  |one b=>cases b<;>simp[ò,Ý,Ě,eU,jI]
  |op b x c=>
   cases b with
   |i m=>cases c<;>simp[ò,Ý,Ě,eU,jI]
   |x b=>
    cases c with
    |i m=>simp[ò,Ý,Ě,eU,jI]
    |x c=>
     by_cases e:N c=N b
     ·simp[ò,Ý,Ě,eU,jI,e]
     simp[ò,Ý,Ě,eU,jI,e]
 |x a=>
  cases v with
  |one b=>
   cases b with
   |i m=>simp[ò,Ý,Ě,eU,jI]
   |x b=>simp[ò,Ý,Ě,eU,jI]
  |op b y c=>
   cases b with
   |i m=>cases c<;>simp[ò,Ý,Ě,eU,jI]
   |x b=>
    cases c with
    |i m=>simp[ò,Ý,Ě,eU,jI]
    |x c=>
     by_cases e:N c=N b
     ·by_cases e2:N b=N a
      ·simp[ò,Ý,Ě,eU,jI,e,e2]
      simp[ò,Ý,Ě,eU,jI,e,e2]
     by_cases e2:N b=N a
     ·have e3:¬ N c=N a:=λz=>e (z.trans e2.symm);simp[ò,Ý,Ě,eU,jI,e2,e3]
     by_cases e3:N c=N a
     ·have e4:¬ N a=N b:=λz=>e2 z.symm;simp[ò,Ý,Ě,eU,jI,e2,e3,e4]
     simp[ò,Ý,Ě,eU,jI,e,e2,e3]
inductive fk(A:Ì)(i:Nat)(vs:List V)(H:Hp)(Q:VK)(Ã:XK):Prop
 |mk(N:Nat->Str)(X:Hp)(v:V)(t:Pt)(z0:vs=[v])(z1:ai X H)(z2:aN A N X v t)(z3:t.ci=i)
  (z4:∀(p:Qs)(H':Hp),H p=Ww->ai H H'->H' p=Wv (.lst (sS (Ý N (Ĝ t))))->Q (.ref p) H'):fk A i vs H Q Ã
inductive CF(K:Qx)(vs:List V)(H:Hp)(Q:VK)(Ã:XK):Prop
 |mk(t:Qs)(xs:List Str)(z0:vs=[.ref t])(z1:À K H t (sS xs))(z3:xs.length<=100)
  (z4:∀(p:Qs)(H':Hp),H p=Ww->ai H H'->H' p=Wv (.lst (sS (eU [] xs)))->Q (.ref p) H'):CF K vs H Q Ã
theorem KN(T:Txt K mg A):T.q0.Hz P w base 1 (CF K):=by
 refine T.q0.hs lM (λf Ä A' outer s H vs Q E' hr hu h=>?_);obtain⟨t,xs,rfl,hT,hl,q⟩:=h;refine⟨_,(af (Å 1 lM.nd (aZ ae))
  (af (bG Qz rfl (bu (fv 0)) (Ó (i:=2) lM.nd rfl)
   (ag (aP (Ö (tX hu) (fv 2) (fv 1) ((by with_unfolding_all rfl)))
    (ag (aU (bx (fv 1) (fv 2^ae))))
    aJ)))
  (ag (aE (fv 1))))),?_⟩
 refine ah λM1 K1=>{NS _,λp hp=>?_};obtain⟨s1,e1⟩:=Ñ hp (HO.lst []);generalize upd H p _=H1 at s1 e1⊢;refine K1 _ _ ?_;clear K1 M1;rfl'
 refine ah λM1 K1=>NI {{_,s1.seq hT},bw (K:=K) (xs:=sS xs) (λi B H3=>ai H H3/\H3 p=Wv (.lst (sS (eU [] (xs.take i))))/\∃v,B=[Wv (.ref t),Wv (.ref p),v]) ⟨s1,e1,Ww,rfl⟩ (λi B H3 _ h=>h.1.seq hT) ?_ ?_}
 ·rintro i x B H3 hi ⟨s3,ķ,v,rfl⟩;rw[NX]at hi;cases ht:xs[i]? with
  |none=>rw[ht]at hi;cases hi
  |some y=>
  rw[ht]at hi;cases hi;have nx:eU [] (xs.take (i+1))=jI (eU [] (xs.take i)) y:=iQ jI [] ht;have ll:=wy (xs.take i) [];rw[Oh,OP]at ll;rfl'
  refine NI {_,NI (À.of ķ),rfl,vS _,_,rfl,?_};unfold jI at nx;by_cases m:y∈eU [] (xs.take i)
  ·rw[if_pos m]at nx;exact bg (λc=>absurd c (by show ¬ (!ϔ (V.str y) (sS (eU [] (xs.take i))))=true;rw[tH,decide_eq_true m];decide)) (λ_=>{s3,by rw[ķ,nx],_,rfl})
  rw[if_neg m]at nx;refine bg (λ_=>?_) (λc=>absurd (by show(!ϔ (V.str y) (sS (eU [] (xs.take i))))=true;rw[tH,decide_eq_false m];rfl) c);refine{NI {rfl,_,À.of ķ},_,_,_,rfl,rfl,ķ,aL (by rw[NH];lia),{ai.out s3 hp _,?_,_,rfl}};rw[av,nx];simp[sS]
 rintro B H3 ⟨s3,ķ,v,rfl⟩;rw[show xs.take (sS xs).length=xs by rw[NH];exact N0]at ķ;exact K1 _ _ (q p H3 hp s3 ķ)
theorem tN(T:Txt K mg A):T.i8.Hz P w mg base 2 (fk A 5):=by
 refine T.i8.hs (k:=1) sF (λf Ä A' outer s H vs Q E' hr hu h=>?_);obtain⟨N,X,v,t,rfl,s0,pa,ec,q⟩:=h;refine{_,(ag (aE (ao (oJ T) hr (aq (fv 0) rfl^ae)))),?_};cases t with
 |leaf n r=>
  unfold aN at pa;obtain⟨a,dx,p,rfl,h1,h2⟩:=pa;cases r with
  |set h val=>exact Á (s0 _ _ h1) T.cD.cl T.fH rfl {N,p,_,ò val,rfl,Ò.of (s0 _ _ (h2 _ rfl)),qW N val,NU (iG val) ∅,q}
  |_=>cases ec
 |_=>cases ec
theorem uT(T:Txt K mg A):T.jz.Hz P w mg base 2 (fk A 6):=by
 refine T.jz.hs (k:=1) sU (λf Ä A' outer s H vs Q E' hr hu h=>?_);obtain⟨N,X,v,t,rfl,s0,pa,ec,q⟩:=h;refine{_,(ag (aE (ao (KN T) hr (aG aW (ao (oJ T) hr (bj (aq (fv 0) rfl^ae)^ae)) (ao (oJ T) hr (aq (fv 0) rfl^ae))^ae)))),?_};cases t with
 |leaf n r=>
  unfold aN at pa;obtain⟨a,dx,p,rfl,h1,h2⟩:=pa;cases r with
  |put h pl val=>
   refine Á (s0 _ _ h1) T.bY.cl T.fL rfl {by show 1<=sizeLine;decide,λtp đ=>?_};obtain⟨s1,e1⟩:=Ñ đ (HO.tup [pl.v N]);generalize upd H tp _=H1 at s1 e1⊢;refine{N,tp,_,[pl],rfl,Ò.of e1,qW N (.one pl),by simp,λL1 H2 f2 s2 e2=>?_};have ϐ:=s1.trans s2;refine Á ((s0.trans ϐ) _ _ h1) T.bY.cl T.fK rfl {N,p,_,ò val,rfl,Ò.of ((s0.trans ϐ) _ _ (h2 _ rfl)),qW N val,NU (iG val) ∅,λL2 H3 f3 s3 e3=>?_};have l1:=oB N [pl] [];have l2:=oB N (ò val) [];have l3:=iG val;simp only[N6,OP]at l1 l2;refine{L1,L2,_,_,rfl,rfl,s3 _ _ e2,e3,sz (by rw[NH,NH];unfold Ý;lia),λL3 hL3=>?_};obtain⟨s4,e4⟩:=Ñ hL3 (HO.lst (sS (Ý N [pl])++sS (Ý N (ò val))));generalize upd H3 L3 _=H4 at s4 e4⊢;have t4:=ϐ.trans (s3.trans s4);refine{L3,Ý N [pl]++Ý N (ò val),rfl,À.of (by rw[e4];simp[sS]),by rw[NG];unfold Ý;lia,λR H5 f5 s5 e5=>q R H5 (ai.free t4 f5) (t4.trans s5) (by rw[e5,Gg];rfl)}
  |_=>cases ec
 |_=>cases ec
theorem sC(T:Txt K mg A):T.iE.Hz P w mg base 2 (fk A 7):=by
 refine T.iE.hs (k:=1) rW (λf Ä A' outer s H vs Q E' hr hu h=>?_);obtain⟨N,X,v,t,rfl,s0,pa,ec,q⟩:=h;refine{_,(ag (aE (ao (oJ T) hr (aq (fv 0) rfl^ae)))),?_};cases t with
 |leaf n r=>
  unfold aN at pa;obtain⟨a,dx,p,rfl,h1,h2⟩:=pa;cases r with
  |snd h val=>exact Á (s0 _ _ h1) T.bR.cl T.ff rfl {N,p,_,ò val,rfl,Ò.of (s0 _ _ (h2 _ rfl)),qW N val,NU (iG val) ∅,q}
  |_=>cases ec
 |_=>cases ec
theorem vz(T:Txt K mg A):T.kq.Hz P w mg base 2 (fk A 11):=by
 refine T.kq.hs (k:=1) ve (λf Ä A' outer s H vs Q E' hr hu h=>?_);obtain⟨N,X,v,t,rfl,s0,pa,ec,q⟩:=h;refine{_,(ag (aE (ao (oJ T) hr (aq (fv 0) rfl^ae)))),?_};cases t with
 |iff n val l r f o=>
  unfold aN at pa;obtain⟨a,dx,p,pf,po,xf,xo,rfl,h1,h2,_⟩:=pa;exact Á (s0 _ _ h1) T.aS.cl T.fX rfl {N,p,_,ò val,rfl,Ò.of (s0 _ _ h2),qW N val,NU (iG val) ∅,q}
 |leaf n r=>cases r<;>cases ec
 |_=>cases ec
theorem sE(T:Txt K mg A):T.ir.Hz P w mg base 2 (fk A 12):=by
 refine T.ir.hs (k:=1) rZ (λf Ä A' outer s H vs Q E' hr hu h=>?_);obtain⟨N,X,v,t,rfl,s0,pa,ec,q⟩:=h;refine{_,(ag (aE (ao (oJ T) hr (bj (aq (fv 0) rfl^ae)^ae)))),?_};cases t with
 |loop n t m l r b=>
  unfold aN at pa;obtain⟨a,dx,pb,xb,rfl,h1,_⟩:=pa;exact Á (s0 _ _ h1) T.aM.cl T.fo rfl {by show 1<=sizeLine;decide,λtp đ=>{N,tp,_,[t],rfl,Ò.of av,qW N (.one t),by simp,λp H' hp s1 e1=>q p H' (ai.free (ai.upd đ _) hp) ((ai.upd đ _).trans s1) e1}}
 |leaf n r=>cases r<;>cases ec
 |_=>cases ec
def Kv(A:Ì)(C:Qs)(sp:Sp):Prop:=∃i,(i=5\/i=6\/i=7\/i=11\/i=12)/\C=Ħ A i/\sp=fk A i
theorem Hi(T:Txt K mg A):∀C sp,Kv A C sp->ĺ K C/\∃ps,Aq P w K mg base 2 C "reads" ps sp:=by
 rintro C sp ⟨i,rfl|rfl|rfl|rfl|rfl,rfl,rfl⟩
 ·exact{T.cD.cl,_,tN T}
 ·exact{T.bY.cl,_,uT T}
 ·exact{T.bR.cl,_,sC T}
 ·exact{T.aS.cl,_,vz T}
 exact{T.aM.cl,_,sE T}
structure Lk where
 fr:Str
 to:Str
 kd:Str
 no:Int
def Lk.vs(l:Lk):List V:=[.str l.fr,.str l.to,.str l.kd,.int l.no]
def LkR(l:Lk)(y:V)(H:Hp):Prop:=∃t,y=V.ref t/\H t=Wv (.tup l.vs)
def ę(H:Hp)(ls:List Lk)(ys:List V):Prop:=Paired (λl y=>LkR l y H) ls ys
theorem ę.same{H H':Hp}(s:∀x w,H x=Wv (.tup w)->H' x=Wv (.tup w)){ls:List Lk}{ys:List V}(h:ę H ls ys):ę H' ls ys:=Paired.fg h λ_ _ ⟨t,e,h1⟩=>{t,e,s _ _ h1}
theorem fJ{α β γ:Type}{F:α->β->Prop}(g:γ->α):∀{l:List γ}{m:List β},Paired (λx y=>F (g x) y) l m->Paired F (l.map g) m
 |_,_,.nil=>.nil
 |_,_,.cons h r=>.cons h (fJ g r)
def drP(into:Str):Option Str->Bool
 |none=>false
 |some x=>!decide (x=into)
def Ġ(fs:List (Option Str))(into kd:Str)(n:Int):List Lk:=(fs.filter (drP into)).map λf=>⟨f.getD Q4,into,kd,n⟩
theorem h9(fs:List (Option Str))(into kd:Str)(n:Int):(Ġ fs into kd n).length<=fs.length:=by
 unfold Ġ;rw[NH];exact Ou _ _
inductive kS(K:Qx)(vs:List V)(H:Hp)(Q:VK)(Ã:XK):Prop
 |mk(L:Qs)(fs:List (Option Str))(into kd:Str)(n:Int)(z0:vs=[.ref L,.str into,.str kd,.int n])(z1:À K H L (fs.map oS))(z2:fs.length<=100)
  (z3:∀(R:Qs)(ys:List V)(H':Hp),ai H H'->H R=Ww->H' R=Wv (.lst ys)->ę H' (Ġ fs into kd n) ys->Q (.ref R) H'):kS K vs H Q Ã
theorem tm(T:Txt K mg A):T.drawn.Hz P w base 1 (kS K):=by
 refine T.drawn.hs Ek (λf Ä A' outer s H vs Q E' hr hu h=>?_);obtain⟨L,fs,into,kd,n,rfl,hL,hl,q⟩:=h;refine{_,(ag (aE (fN (N:=["one","into","kind","number"]) (own:=1) (fr:=[1,2,3]) (cN.of (by kernel_rfl!)) rfl (bu (fv 0)) (λb=>Ó (i:=0) (show QR (["one","into","kind","number"]:List Rb) by decide+kernel) rfl) (λb=>Bm (PW.pt (pw_and (Ö B8 (fv 0) fz) (pw_and1 (Ö (yB hu) (fv 0) (fv 1)))))) (λb=>bj (fv 0^fv 1^fv 2^fv 3^ae))))),NI {{_,hL},gz (K:=K) (own:=1) fs (drP into) (λf y H=>LkR ⟨f.getD Q4,into,kd,n⟩ y H) hL (NH _) (by rw[NH];exact aL ()) ?_ ?_ ?_ ?_}}
 ·intro b i x e v0 H1 Nn Y hx he hv s1 no yes;obtain⟨u0,rfl⟩:∃u0,v0=[u0]:=by
   match v0,hv with
   | [u],_=>exact⟨u,rfl⟩
  rw[NX,he]at hx;cases hx;cases e with
  |none=>exact{rfl,_,rfl,aT (aT (no rfl [Wv .È] _ rfl (ai.refl _)))}
  |some x=>
   refine{rfl,_,rfl,bo {rfl,_,rfl,?_}};by_cases c:x=into
   ·subst c;exact bg (λz=>absurd z (by show ¬ (!decide (V.str x=V.str x))=true;rw[decide_eq_true rfl];decide)) (λ_=>no (by show(!decide (x=x))=false;rw[decide_eq_true rfl];rfl) [Wv (.str x)] _ rfl (ai.refl _))
   refine bg (λ_=>?_) (λz=>absurd (by show(!decide (V.str x=V.str into))=true;rw[MZ,decide_eq_false c];rfl) z);exact{by show 4<=sizeLine;decide,λtp đ=>yes (by show(!decide (x=into))=true;rw[decide_eq_false c];rfl) [Wv (.str x)] _ _ rfl (ai.upd đ _) ⟨tp,rfl,av⟩}
 ·rintro e y H1 H2 s1 ⟨t,e1,h1⟩;exact{t,e1,s1 _ _ h1}
 ·rintro e y H1 D ys zs hD ⟨t,e1,h1⟩;exact{t,e1,aK (λz=>by rw[z,hD]at h1;cases h1) h1}
 intro D H1 ys hD s1 e1 pr;exact q D ys H1 s1 hD e1 (fJ _ pr)
def xv(N:Nat->Str)(n:Int)(tp:Th×Str):List Lk:=match tp.1 with
 | .i _=>[]
 | .x a=>Ġ [Wv (N a)] tp.2 "value" n
def Ϝ(N:Nat->Str)(n:Int)(l:List (Th×Str)):List Lk:=l.flatMap (xv N n)
def Φ(pl:Option Str)(n:Int)(l:List Str):List Lk:=l.flatMap λinto=>Ġ [pl] into "under" n
theorem wG{α β:Type}(f:α->List β)(h:∀x,(f x).length<=1):∀l:List α,(l.flatMap f).length<=l.length
 | []=>NM _
 |x::l=>by
  have h1:=wG f h l;have h2:=h x;rw[OE,NG,N7];lia
theorem CP(n:Int)(tp:Th×Str):(xv N n tp).length<=1:=by
 unfold xv;split
 ·simp
 exact h9 _ _ _ _
theorem qj{H Hc He:Hp}{R R2:Qs}{ls ms:List Lk}{ys zs:List V}(s3:ai Hc He)(Ú:Hc R=Wv (.lst ys))(ly:ę Hc ls ys)(l3:ę He ms zs):ę (upd He R (.lst (ys++zs))) (ls++ms) (ys++zs):=by
 have dR:∀x w,He x=Wv (.tup w)->upd He R (.lst (ys++zs)) x=Wv (.tup w):=λx w e=>aK (λy=>by rw[y,s3 _ _ Ú]at e;cases e) e;exact Paired.two (ly.same λx w e=>dR x w (s3 _ _ e)) (l3.same dR)
inductive wD(A:Ì)(vs:List V)(H:Hp)(Q:VK)(Ã:XK):Prop
 |mk(N:Nat->Str)(X:Hp)(v:V)(n:Int)(i:Nat)(ts:List Th)(pl:Option Str)(pp:Qs)(ps:List Str)(z0:vs=[v,oS pl,.ref pp])(z1:ai X H)(z2:aN A N X v (.leaf n (.call i ts)))(z3:X pp=Wv (.lst (sS ps)))(z4:ts.length=ps.length)(z5:ps.length<=100)
  (z6:∀(R:Qs)(ys:List V)(H':Hp),ai H H'->H R=Ww->H' R=Wv (.lst ys)->ę H' (Ϝ N n (ts.zip ps)++Φ pl n (ps++[N i])) ys->Q (.ref R) H'):wD A vs H Q Ã
theorem FE(T:Txt K mg A):T.lC.Hz P w base 2 (wD A):=by
 refine T.lC.hs (k:=1) fb (λf Ä A' outer s H vs Q E' hr hu h=>?_);obtain⟨N,X,v,n,i,ts,pl,pp,ps,rfl,s0,pa,hpp,tl,pl1,q⟩:=h;unfold aN at pa;obtain⟨a,dx,p,rfl,h1,h2⟩:=pa;have h2:=h2 _ rfl;refine⟨_,(af (Å 3 fb.nd (aZ ae))
  (af (bG Qz rfl (IU rfl T.C6 (aq (fv 0) rfl^fv 2^ae)) (j3 rfl (bI (Ó (i:=4) fb.nd rfl) (bI (Ó (i:=5) fb.nd rfl) hV)))
   (ag (aP (aQ (Ê aI T.ax (fv 4^(f9 (v:=.ty "str") rfl T.sg (by boot_by_name) rfl)^ae)) (λ_=>rfl))
    (ag (aU (ij (fv 3) (ao (tm T) hr (aZ (fv 4^ae)^fv 5^aF^aq (fv 0) rfl^ae)^ae))))
    aJ)))
  (af (bG Qz rfl (bu (aG aW (fv 2) (aZ (aq (fv 0) rfl^ae)))) (Ó (i:=6) fb.nd rfl)
   (ag (aU (ij (fv 3) (ao (tm T) hr (aZ (fv 1^ae)^fv 6^aF^aq (fv 0) rfl^ae)^ae)))))
  (ag (aE (fv 3)))))),?_⟩
 refine ah λM1 K1=>{NS _,λR hR=>?_};obtain⟨s1,e1⟩:=Ñ hR (HO.lst []);generalize upd H R _=H1 at s1 e1⊢;refine K1 _ _ ?_;clear K1 M1;rfl'
 refine ah λM1 K1=>?_;have š:=s0.trans s1;refine Á (š _ _ h1) T.bh.cl T.df rfl {_,_,rfl,{_,À.of (š _ _ h2)},{_,À.of (š _ _ hpp)},Ic (K:=K) (xs:=ts.map (Th.v N)) (ys:=sS ps) (λj B Hc=>∃(ys:List V)(v4 v5:Option V),B=[Wv (.ref a),Wv (oS pl),Wv (.ref pp),Wv (.ref R),v4,v5,Ww]/\ai H Hc/\Hc R=Wv (.lst ys)/\ę Hc (Ϝ N n ((ts.zip ps).take j)) ys) {[],Ww,Ww,rfl,s1,e1,.nil} (λj B Hc _ ⟨_,_,_,_,z,_⟩=>{À.of ((s0.trans z) _ _ h2),À.of ((s0.trans z) _ _ hpp)}) (by rw[NH,NH];exact tl) ?_ ?_}
 ·rintro j x y B Hc tp hx hy ⟨ys,v4,v5,rfl,sc,Ú,ly⟩ đ;rw[NX]at hx hy;cases ht:ts[j]? with
  |none=>rw[ht]at hx;cases hx
  |some th=>
  cases hp:ps[j]? with
  |none=>rw[hp]at hy;cases hy
  |some pn=>
  rw[ht]at hx;rw[hp]at hy;cases hx;cases hy;have hz:(ts.zip ps)[j]?=Wv (th,pn):=List.getElem?_zip_eq_some.mpr ⟨ht,hp⟩;have st:Ϝ N n ((ts.zip ps).take (j+1))=Ϝ N n ((ts.zip ps).take j)++xv N n (th,pn):=qD (xv N n) hz;have sl:=wG (xv N n) (CP n) ((ts.zip ps).take j);rw[Oh,Pb]at sl;have ũ:=Qy ly;unfold Ϝ at ũ;have sp:=ai.upd đ (.tup [th.v N,.str pn]);have tR:tp≠R:=Wx đ Ú;rfl'
  refine{tp,_,rfl,Ò.of av,rfl,_,_,rfl,_,_,rfl,rfl,?_};cases th with
  |i m=>
   refine{_,_,_,false,rfl,(λz=>by cases z),.int m,Fy,false,rfl,aT {ys,_,_,rfl,sc.trans sp,sp _ _ Ú,?_}};rw[st];show ę _ (_++[]) ys;rw[Oi];exact ly.same λx w e=>sp _ _ e
  |x b=>
   refine{_,_,_,true,rfl,(λz=>by cases z),.str _,xq,true,rfl,bo {NI {rfl,_,À.of (sp _ _ Ú)},by show 1<=sizeLine;decide,λq1 ϗ=>?_}};have sq:=ai.upd ϗ (.lst [Th.v N (.x b)]);refine Á ((((s0.trans sc).trans sp).trans sq) _ _ h1) T.bh.cl T.cE rfl {q1,[Wv (N b)],pn,"value",n,rfl,À.of av,by simp,λR2 zs He s3 Τ Ĺ l3=>?_};have lz:=Qy l3;have dl:=h9 [Wv (N b)] pn "value" n;have s4:=(sp.trans sq).trans s3;refine{_,_,_,_,rfl,rfl,s4 _ _ Ú,Ĺ,sz (by simp only[N6]at dl;lia),{_,_,_,rfl,ai.out (sc.trans s4) hR _,av,?_}};rw[st];exact qj (H:=H) (R2:=R2) s4 Ú ly l3
 rintro B Hc ⟨ys,v4,v5,rfl,sc,Ú,ly⟩;rw[show(ts.zip ps).take (ts.map (Th.v N)).length=ts.zip ps by rw[NH];exact Pd (by rw[Pb];lia)]at ly;have l1:(Ϝ N n (ts.zip ps)).length<=100:=NU (wG (xv N n) (CP n) _) (by rw[Pb];lia);refine K1 _ _ ?_;clear K1 M1;generalize Ϝ N n (ts.zip ps)=LA at ly l1 q;rfl'
 refine ah λM1 K1=>?_;have sX:=s0.trans sc;refine Á (sX _ _ h1) T.bh.cl T.cn rfl {by show 1<=sizeLine;decide,λq1 ϗ=>?_};have sq:=ai.upd ϗ (.lst [.str (N i)]);refine{pp,q1,_,_,rfl,rfl,(sX.trans sq) _ _ hpp,av,sz (by rw[NH,N6];lia),λq2 Μ=>?_};have sq2:=ai.upd Μ (.lst (sS ps++[.str (N i)]));have es:sS ps++[V.str (N i)]=sS (ps++[N i]):=by simp[sS]
 rw[es]at sq2⊢;have eq2:upd (upd Hc q1 (.lst [.str (N i)])) q2 (.lst (sS (ps++[N i]))) q2=Wv (.lst (sS (ps++[N i]))):=av;have sc2:=sq.trans sq2;have q2R:q2≠R:=Wx Μ (sq _ _ Ú);generalize upd (upd Hc q1 (.lst [.str (N i)])) q2 (.lst (sS (ps++[N i])))=H2 at sc2 eq2⊢;have is1:(ps++[N i]).length<=101:=by simp;lia
 generalize ps++[N i]=is at eq2 is1 q;refine NI {{_,À.of eq2},bw (K:=K) (xs:=sS is) (λj B Hd=>∃(zs:List V)(v6:Option V),B=[Wv (.ref a),Wv (oS pl),Wv (.ref pp),Wv (.ref R),v4,v5,v6]/\Sm [R] H2 Hd/\Hd R=Wv (.lst zs)/\ę Hd (LA++Φ pl n (is.take j)) zs) {ys,Ww,rfl,Sm.refl _ _,sc2 _ _ Ú,by show ę _ (_++[]) _;rw[Oi];exact ly.same λx w e=>sc2 _ _ e} (λj B Hd _ ⟨_,_,_,z,_⟩=>À.of (z _ _ (λm=>q2R (NF.mp m)) eq2)) ?_ ?_}
 ·rintro j x B Hd hx ⟨zs,v6,rfl,sd,Ğ,lz⟩;rw[NX]at hx;cases hi:is[j]? with
  |none=>rw[hi]at hx;cases hx
  |some into=>
  rw[hi]at hx;cases hx;have st:Φ pl n (is.take (j+1))=Φ pl n (is.take j)++Ġ [pl] into "under" n:=qD _ hi;have sl:=wG (λinto=>Ġ [pl] into "under" n) (λx=>h9 _ _ _ _) (is.take j);rw[Oh]at sl;have llz:=Qy lz;unfold Φ at llz;rw[NG]at llz;have sX2:ai H Hd:=sd.same (sc.trans sc2) (λm hm=>by rw[NF.mp hm];exact hR);rfl'
  refine{NI {rfl,_,À.of Ğ},by show 1<=sizeLine;decide,λq3 ϫ=>?_};have ŗ:=ai.upd ϫ (.lst [oS pl]);refine Á (((s0.trans sX2).trans ŗ) _ _ h1) T.bh.cl T.cE rfl {q3,[pl],into,"under",n,rfl,À.of av,by simp,λR2 ws He s3 Τ Ĺ l3=>?_};have lw:=Qy l3;have dl:=h9 [pl] into "under" n;have s4:=ŗ.trans s3;refine{_,_,_,_,rfl,rfl,s4 _ _ Ğ,Ĺ,sz (by simp only[N6]at dl;lia),{_,_,rfl,(sd.trans (Sm.new s4)).trans (Sm.at (NF.mpr rfl) _),av,?_}};rw[st,<-Oz];exact qj (H:=H) (R2:=R2) s4 Ğ lz l3
 rintro B Hd ⟨zs,v6,rfl,sd,Ğ,lz⟩;rw[show is.take (sS is).length=is by rw[NH];exact N0]at lz;exact K1 _ _ (q R zs Hd (sd.same (sc.trans sc2) (λm hm=>by rw[NF.mp hm];exact hR)) hR Ğ lz)
def k5:Pt->Bool
 | .leaf _ (.set _ _)=>true
 | .leaf _ (.put _ _ _)=>true
 | .leaf _ (.snd _ _)=>true
 | .leaf _ (.say _ _ _)=>true
 | .leaf _ (.call _ _)=>true
 | .leaf _ .last=>true
 | .iff _ _ _ _ _ _=>true
 | .loop _ _ _ _ _ _=>true
 |_=>false
def Ŕ(N:Nat->Str)(t:Pt)(into kd:Str)(pl:Option Str):List Lk:=Ġ ((Ý N (Ĝ t)).map Wv) into kd t.no++Ġ [pl] into "under" t.no
def saL(pl:Option Str)(x m:Str)(n:Int):List Lk:=Ġ [Wv m] x "value" n++Ġ [pl] x "under" n++Ġ [pl] (bp n) "under" n
def uF(N:Nat->Str)(po:Str->List Str)(t:Pt)(pl lp:Option Str):List Lk:=match t with
 | .leaf n (.set x v)=>Ŕ N (.leaf n (.set x v)) (N x) "value" pl
 | .leaf n (.put x p v)=>Ŕ N (.leaf n (.put x p v)) (N x) "value" pl
 | .leaf n (.call i ts)=>Ϝ N n (ts.zip (po (N i)))++Φ pl n (po (N i)++[N i])
 | .leaf n (.snd h v)=>Ŕ N (.leaf n (.snd h v)) (bp n) "value" pl
 | .leaf n (.say x _ m)=>saL pl (N x) (N m) n
 | .leaf n .last=>Ġ [pl] (lp.getD Q4) "under" n
 | .iff n v l r f o=>Ŕ N (.iff n v l r f o) (bp n) "test" pl
 | .loop n t m l r b=>Ŕ N (.loop n t m l r b) (bp n) "test" pl
 |_=>[]
theorem C9(t:Pt)(into kd:Str)(pl:Option Str):(Ŕ N t into kd pl).length<=4:=by
 unfold Ŕ;have h1:=h9 ((Ý N (Ĝ t)).map Wv) into kd t.no;have h2:=h9 [pl] into "under" t.no;have h3:=oB N (Ĝ t) [];have h4:=Cp t;rw[NH]at h1;rw[NG];simp only[N6,OP]at h2 h3;unfold Ý at h1⊢;lia
def lOk(t:Pt)(lp:Option Str):Prop:=t.ci=10->lp.isSome=true
def FY(X H:Hp)(D:Qs)(po:Str->List Str)(nm:List Str):Prop:=∃kvs,H D=Wv (.dK kvs)/\∀x∈nm,(po x).length<=100/\∃pp,L2.cc kvs (.inr x)=Wv (.ref pp)/\X pp=Wv (.lst (sS (po x)))
theorem FY.same{X H H':Hp}{D:Qs}{po:Str->List Str}{nm:List Str}(h:FY X H D po nm)(e:∀kvs,H D=Wv (.dK kvs)->H' D=Wv (.dK kvs)):FY X H' D po nm:=by
 obtain⟨kvs,h1,h2⟩:=h;exact{kvs,e _ h1,h2}
def vP(N:Nat->Str)(po:Str->List Str)(nm:List Str):Pt->Prop
 | .leaf _ (.call i ts)=>N i∈nm/\ts.length=(po (N i)).length
 |_=>True
inductive BO(A:Ì)(vs:List V)(H:Hp)(Q:VK)(Ã:XK):Prop
 |mk(N:Nat->Str)(X:Hp)(v:V)(t:Pt)(pl lp:Option Str)(D:Qs)(po:Str->List Str)(nm:List Str)(z0:vs=[v,oS pl,oS lp,.ref D])(z1:ai X H)(z2:aN A N X v t)(z3:k5 t=true)(z4:0<=t.no/\t.no<=1000)(z8:lOk t lp)(z5:FY X H D po nm)(z6:vP N po nm t)
  (z7:∀(R:Qs)(ys:List V)(H':Hp),ai H H'->H R=Ww->H' R=Wv (.lst ys)->ę H' (uF N po t pl lp) ys->Q (.ref R) H'):BO A vs H Q Ã
inductive BK(A:Ì)(vs:List V)(H:Hp)(Q:VK)(Ã:XK):Prop
 |mk(N:Nat->Str)(X:Hp)(v:V)(n:Int)(x m:Nat)(val:Val)(pl:Option Str)(z0:vs=[v,oS pl])(z1:ai X H)(z2:aN A N X v (.leaf n (.say x val m)))(z4:0<=n/\n<=1000)
  (z7:∀(R:Qs)(ys:List V)(H':Hp),ai H H'->H R=Ww->H' R=Wv (.lst ys)->ę H' (saL pl (N x) (N m) n) ys->Q (.ref R) H'):BK A vs H Q Ã
theorem J4(T:Txt K mg A):T.pT.Hz P w base 2 (BK A):=by
 have M6:=@tm P w _ _ base _ T;refine T.pT.hs (k:=1) oZ (λf Ä A' outer s H vs Q E' hr hu h=>?_);obtain⟨N,X,v,n,x,m,val,pl,rfl,s0,pa,nt,q⟩:=h;unfold aN at pa;obtain⟨a,dx,p,rfl,h1,_⟩:=pa;refine⟨_,(af (Å 2 oZ.nd (ao M6 hr (aZ (aq (fv 0) rfl^ae)^aq (fv 0) rfl^aF^aq (fv 0) rfl^ae)))
  (af (aU (ij (fv 2) (ao M6 hr (aZ (fv 1^ae)^aq (fv 0) rfl^aF^aq (fv 0) rfl^ae)^ae)))
  (ag (aE (aG aW (fv 2) (ao M6 hr (aZ (fv 1^ae)^ao (oE T) hr (aq (fv 0) rfl^ae)^aF^aq (fv 0) rfl^ae))))))),?_⟩
 refine ah λM1 K1=>Á (s0 _ _ h1) T.bD.cl T.fR rfl {by show 1<=sizeLine;decide,λq1 ϗ=>?_};have s1:=ai.upd ϗ (.lst [V.str (N m)]);have š:=s0.trans s1;refine Á (š _ _ h1) T.bD.cl T.fw rfl (Á (š _ _ h1) T.bD.cl T.b5 rfl {q1,[Wv (N m)],N x,"value",n,rfl,À.of av,by simp,λR y1 H2 s2 n2 e2 l2=>K1 _ _ ?_});clear K1 M1;have t2:=s1.trans s2;have hR:H R=Ww:=ai.free s1 n2;have a1:=Qy l2;have b1:=h9 [Wv (N m)] (N x) "value" n;rfl'
 refine ah λM1 K1=>{NI {rfl,_,À.of e2},by show 1<=sizeLine;decide,λq3 ϫ=>?_};have s3:=ai.upd ϫ (.lst [oS pl]);have sX3:=s0.trans (t2.trans s3);refine Á (sX3 _ _ h1) T.bD.cl T.fw rfl (Á (sX3 _ _ h1) T.bD.cl T.b5 rfl {q3,[pl],N x,"under",n,rfl,À.of av,by simp,λR2 y2 H4 s4 n4 e4 l4=>?_});have ϥ:=s3.trans s4;have a2:=Qy l4;have b2:=h9 [pl] (N x) "under" n;simp only[N6]at b1 b2;refine{_,_,_,_,rfl,rfl,ϥ _ _ e2,e4,sz (),?_};have l5:=qj (H:=H) (R2:=R2) ϥ e2 l2 l4;have s5:ai H (upd H4 R (.lst (y1++y2))):=ai.out (t2.trans ϥ) hR _;have e5:upd H4 R (.lst (y1++y2)) R=Wv (.lst (y1++y2)):=av;generalize upd H4 R (.lst (y1++y2))=H5 at l5 s5 e5⊢;refine K1 _ _ ?_;clear K1 M1;rfl'
 refine{by show 1<=sizeLine;decide,λq6 hq6=>?_};have s6:=ai.upd hq6 (.lst [oS pl]);have ō:=s0.trans (s5.trans s6);refine Á (ō _ _ h1) T.bD.cl T.b5 rfl {_,rfl,nt.1,nt.2,Á (ō _ _ h1) T.bD.cl T.b5 rfl {q6,[pl],bp n,"under",n,rfl,À.of av,by simp,λR3 y3 H7 s7 n7 e7 l7=>?_}};have s57:=s6.trans s7;have a3:=Qy l7;have b3:=h9 [pl] (bp n) "under" n;simp only[N6]at b3;refine{R,R3,_,_,rfl,rfl,s57 _ _ e5,e7,sz (by rw[NG];lia),λR4 hR4=>?_};have s8:=ai.upd hR4 (.lst (y1++y2++y3));exact q R4 _ _ (s5.trans (s57.trans s8)) (ai.free (s5.trans s57) hR4) av (Paired.two (l5.same λz w e=>(s57.trans s8) _ _ e) (l7.same λz w e=>s8 _ _ e))
theorem MF{X:Hp}{v:V}{p:Pt}(h:aN A N X v p):∃a dx fs,v=.ref a/\X a=Wv (.ins (Ħ A p.ci) dx fs)/\fs.lookup ("reads":Str)=Ww:=by
 cases p with
 |leaf n r=>
  unfold aN at h;obtain⟨a,dx,p,e,h1,h2⟩:=h;exact{a,dx,_,e,h1,by cases r<;>rfl}
 |iff n val l r f o=>
  unfold aN at h;obtain⟨a,dx,p,pf,po,xf,xo,e,h1,_⟩:=h;exact{a,dx,_,e,h1,rfl}
 |loop n t m l r b=>
  unfold aN at h;obtain⟨a,dx,pb,xb,e,h1,_⟩:=h;exact{a,dx,_,e,h1,rfl}
 |bf n i ps b=>
  unfold aN at h;obtain⟨a,dx,pp,pb,xb,e,h1,_⟩:=h;exact{a,dx,_,e,h1,rfl}
theorem JG(T:Txt K mg A):T.r9.Hz P w base 3 (BO A):=by
 have M6:=@tm P w _ _ base _ T;have M_reads:=Hi (P:=P) (w:=w) (mg:=mg) (base:=base) T;refine T.r9.hs (k:=2) qJ (λf Ä A' outer s H vs Q E' hr hu h=>?_);obtain⟨N,X,v,t,pl,lp,D,po,nm,rfl,s0,pa,hk,nt,hlp,hD,hc,q⟩:=h;refine⟨_,(af (Å 4 qJ.nd (ao (oE T) hr (aq (fv 0) rfl^ae)))
  (af (aP (PW.pt (pw_or (aQ (Ê aI T.ax (fv 0^aO T.cD.mg^ae)) (λ_=>rfl)) (pw_or1 (aQ (Ê aI T.ax (fv 0^aO T.bY.mg^ae)) (λ_=>rfl)))))
   (ag (aE (aG aW (ao M6 hr (rB (fv 0) M_reads hr^aq (fv 0) rfl^aF^aq (fv 0) rfl^ae)) (ao M6 hr (aZ (fv 1^ae)^aq (fv 0) rfl^aF^aq (fv 0) rfl^ae)))))
   aJ)
  (af (aP (aQ (Ê aI T.ax (fv 0^aO T.bR.mg^ae)) (λ_=>rfl))
   (ag (aE (aG aW (ao M6 hr (rB (fv 0) M_reads hr^fv 4^aF^aq (fv 0) rfl^ae)) (ao M6 hr (aZ (fv 1^ae)^fv 4^aF^aq (fv 0) rfl^ae)))))
   aJ)
  (af (aP (aQ (Ê aI T.ax (fv 0^aO T.bD.mg^ae)) (λ_=>rfl))
   (ag (aE (ao (J4 T) hr (fv 0^fv 1^ae))))
   aJ)
  (af (aP (PW.pt (pw_or (aQ (Ê aI T.ax (fv 0^aO T.aS.mg^ae)) (λ_=>rfl)) (pw_or1 (aQ (Ê aI T.ax (fv 0^aO T.aM.mg^ae)) (λ_=>rfl)))))
   (ag (aE (aG aW (ao M6 hr (rB (fv 0) M_reads hr^fv 4^aF^aq (fv 0) rfl^ae)) (ao M6 hr (aZ (fv 1^ae)^fv 4^aF^aq (fv 0) rfl^ae)))))
   aJ)
  (af (aP (aQ (Ê aI T.ax (fv 0^aO T.dG.mg^ae)) (λ_=>rfl))
   (ag (aE (ao M6 hr (aZ (fv 1^ae)^fv 2^aF^aq (fv 0) rfl^ae))))
   aJ)
  (ag (aE (ao (FE T) hr (fv 0^fv 1^px hu (fv 3) (aq (fv 0) rfl)^ae)))))))))),?_⟩
 refine ah λM1 K1=>cQ T s0 pa {_,rfl,nt.1,nt.2,K1 _ _ ?_};clear K1 M1;rfl'
 have ob:=MF pa;have jn:∀(kd into:Str)(R:VK),(∀(R':Qs)(ys:List V)(H':Hp),ai H H'->H R'=Ww->H' R'=Wv (.lst ys)->ę H' (Ŕ N t into kd pl) ys->R (.ref R') H')->
   ∀(R1 R2:Qs)(y1 y2:List V)(H2 H3:Hp),ai H H2->H2 R1=Wv (.lst y1)->ę H2 (Ġ ((Ý N (Ĝ t)).map Wv) into kd t.no) y1->ai H2 H3->H3 R2=Wv (.lst y2)->ę H3 (Ġ [pl] into "under" t.no) y2->GV (.ref R1) (.ref R2) H3 R:=by
  intro kd into R qq R1 R2 y1 y2 H2 H3 s2 e2 l2 s3 e3 l3
  have d:=C9 (N:=N) t into kd pl
  have a1:=Qy l2
  have a2:=Qy l3
  unfold Ŕ at d
  rw[NG]at d
  refine{R1,R2,_,_,rfl,rfl,s3 _ _ e2,e3,sz (),λR hR=>?_}
  have s5:=ai.upd hR (.lst (y1++y2))
  exact qq R _ _ ((s2.trans s3).trans s5) (ai.free (s2.trans s3) hR) av (Paired.two (l2.same λx w e=>s5 _ _ (s3 _ _ e)) (l3.same λx w e=>s5 _ _ e))
 have rl:∀{p:Qs}{H1:Hp},H1 p=Wv (.lst (sS (Ý N (Ĝ t))))->À K H1 p (((Ý N (Ĝ t)).map Wv).map oS)/\((Ý N (Ĝ t)).map Wv).length<=100:=λe1=>by
  have h3:=oB N (Ĝ t) [];have h4:=Cp t;simp only[OP]at h3;exact{À.of (by rw[e1,OD];rfl),by rw[NH];unfold Ý;lia}
 have two:∀(kd:Str)(R:VK),(∀(R':Qs)(ys:List V)(H':Hp),ai H H'->H R'=Ww->H' R'=Wv (.lst ys)->ę H' (Ŕ N t (bp t.no) kd pl) ys->R (.ref R') H')->∀(p:Qs)(H1:Hp),H p=Ww->ai H H1->H1 p=Wv (.lst (sS (Ý N (Ĝ t))))->
   kS K [.ref p,.str (bp t.no),.str kd,.int t.no] H1 (λx H2=>1<=sizeLine/\∀q3,H2 q3=Ww->nQ K "number" v (upd H2 q3 (.lst [oS pl])) λu H3=>kS K [.ref q3,.str (bp t.no),.str "under",u] H3 (λy H4=>GV x y H4 R) E0) E0:=by
  intro kd R qq p H1 hp s1 e1
  refine{p,(Ý N (Ĝ t)).map Wv,bp t.no,kd,t.no,rfl,(rl e1).1,(rl e1).2,λR1 y1 H2 s2 n2 e2 l2=>{∅,λq3 ϫ=>?_}}
  have ŗ:=ai.upd ϫ (.lst [oS pl])
  exact cQ T (((s0.trans s1).trans s2).trans ŗ) pa {q3,[pl],bp t.no,"under",t.no,rfl,À.of av,by simp,λR2 y2 H3 s3 n3 e3 l3=>jn kd _ R qq R1 R2 y1 y2 H2 H3 (s1.trans s2) e2 l2 (ŗ.trans s3) e3 l3}
 have twoN:∀(into:Str)(R:VK),(∀(H':Hp){Q:VK},ai X H'->Q (.str into) H'->nQ K "name" v H' Q)->(∀(R':Qs)(ys:List V)(H':Hp),ai H H'->H R'=Ww->H' R'=Wv (.lst ys)->ę H' (Ŕ N t into "value" pl) ys->R (.ref R') H')->∀(p:Qs)(H1:Hp),H p=Ww->ai H H1->H1 p=Wv (.lst (sS (Ý N (Ĝ t))))->
   nQ K "name" v H1 λi1 H1'=>nQ K "number" v H1' λm1 H1''=>kS K [.ref p,i1,.str "value",m1] H1'' (λx H2=>1<=sizeLine/\∀q3,H2 q3=Ww->nQ K "name" v (upd H2 q3 (.lst [oS pl])) λi2 H3'=>nQ K "number" v H3' λu H3=>kS K [.ref q3,i2,.str "under",u] H3 (λy H4=>GV x y H4 R) E0) E0:=by
  intro into R nf qq p H1 hp s1 e1
  refine nf H1 (s0.trans s1) (cQ T (s0.trans s1) pa {p,(Ý N (Ĝ t)).map Wv,into,"value",t.no,rfl,(rl e1).1,(rl e1).2,λR1 y1 H2 s2 n2 e2 l2=>{∅,λq3 ϫ=>?_}})
  have ŗ:=ai.upd ϫ (.lst [oS pl])
  have sX3:=((s0.trans s1).trans s2).trans ŗ
  exact nf _ sX3 (cQ T sX3 pa {q3,[pl],into,"under",t.no,rfl,À.of av,by simp,λR2 y2 H3 s3 n3 e3 l3=>jn "value" _ R qq R1 R2 y1 y2 H2 H3 (s1.trans s2) e2 l2 (ŗ.trans s3) e3 l3})
 obtain⟨a,dx,fs,rfl,h1,Œ⟩:=ob;refine ah λM1 K1=>?_;by_cases c5:t.ci=5
 ·refine cq T s0 pa c5 (bo ?_);have rr:∀{Q:VK},(∀(p:Qs)(H':Hp),H p=Ww->ai H H'->H' p=Wv (.lst (sS (Ý N (Ĝ t))))->Q (.ref p) H')->fk A 5 [.ref a] H Q E0:=λk=>{N,X,_,_,rfl,s0,pa,c5,k};refine{a,_,dx,_,_,rfl,s0 _ _ h1,Œ,{5,∅,by rw[c5],rfl},rr ?_};clear two jn rl rr;cases t with
  |leaf n r=>
   cases r with
   |set x val=>
    have û:=pa;unfold aN at û;obtain⟨a',Ų,p',e',Ϲ,_⟩:=û;cases e';exact twoN (N x) _ (λH' Q sx k=>Á (sx _ _ Ϲ) T.cD.cl T.fW rfl k) q
   |_=>cases c5
  |_=>cases c5
 refine bz T s0 pa c5 (aT ?_);by_cases c6:t.ci=6
 ·refine cq T s0 pa c6 (bo ?_);have rr:∀{Q:VK},(∀(p:Qs)(H':Hp),H p=Ww->ai H H'->H' p=Wv (.lst (sS (Ý N (Ĝ t))))->Q (.ref p) H')->fk A 6 [.ref a] H Q E0:=λk=>{N,X,_,_,rfl,s0,pa,c6,k};refine{a,_,dx,_,_,rfl,s0 _ _ h1,Œ,{6,∅,by rw[c6],rfl},rr ?_};clear two jn rl rr;cases t with
  |leaf n r=>
   cases r with
   |put x pt val=>
    have û:=pa;unfold aN at û;obtain⟨a',Ų,p',e',Ϲ,_⟩:=û;cases e';exact twoN (N x) _ (λH' Q sx k=>Á (sx _ _ Ϲ) T.bY.cl T.fT rfl k) q
   |_=>cases c6
  |_=>cases c6
 refine bz T s0 pa c6 (aT (K1 _ _ ?_));clear K1 M1 twoN;refine ah λM1 K1=>?_;by_cases c7:t.ci=7
 ·refine cq T s0 pa c7 (bo ?_);have rr:∀{Q:VK},(∀(p:Qs)(H':Hp),H p=Ww->ai H H'->H' p=Wv (.lst (sS (Ý N (Ĝ t))))->Q (.ref p) H')->fk A 7 [.ref a] H Q E0:=λk=>{N,X,_,_,rfl,s0,pa,c7,k};refine{a,_,dx,_,_,rfl,s0 _ _ h1,Œ,{7,∅,by rw[c7],rfl},rr λp H1 hp s1 e1=>cQ T (s0.trans s1) pa (two "value" _ ?_ p H1 hp s1 e1)};clear two jn rl rr;cases t with
  |leaf n r=>
   cases r with
   |snd x val=>exact q
   |_=>cases c7
  |_=>cases c7
 refine bz T s0 pa c7 (aT (K1 _ _ ?_));clear K1 M1;refine ah λM1 K1=>?_;by_cases c8:t.ci=8
 ·refine cq T s0 pa c8 (bo ?_);clear two jn rl;cases t with
  |leaf n r=>
   cases r with
   |say x val m=>exact{N,X,_,n,x,m,val,pl,rfl,s0,pa,nt,q}
   |_=>cases c8
  |_=>cases c8
 refine bz T s0 pa c8 (aT (K1 _ _ ?_));clear K1 M1;refine ah λM1 K1=>?_;by_cases ß:t.ci=11
 ·refine cq T s0 pa ß (bo ?_);have rr:∀{Q:VK},(∀(p:Qs)(H':Hp),H p=Ww->ai H H'->H' p=Wv (.lst (sS (Ý N (Ĝ t))))->Q (.ref p) H')->fk A 11 [.ref a] H Q E0:=λk=>{N,X,_,_,rfl,s0,pa,ß,k};refine{a,_,dx,_,_,rfl,s0 _ _ h1,Œ,{11,∅,by rw[ß],rfl},rr λp H1 hp s1 e1=>cQ T (s0.trans s1) pa (two "test" _ ?_ p H1 hp s1 e1)};clear two jn rl rr;cases t with
  |leaf n r=>cases r<;>cases ß
  |iff n val l r fs os=>exact q
  |_=>cases ß
 refine bz T s0 pa ß (aT ?_);by_cases ä:t.ci=12
 ·refine cq T s0 pa ä (bo ?_);have rr:∀{Q:VK},(∀(p:Qs)(H':Hp),H p=Ww->ai H H'->H' p=Wv (.lst (sS (Ý N (Ĝ t))))->Q (.ref p) H')->fk A 12 [.ref a] H Q E0:=λk=>{N,X,_,_,rfl,s0,pa,ä,k};refine{a,_,dx,_,_,rfl,s0 _ _ h1,Œ,{12,∅,by rw[ä],rfl},rr λp H1 hp s1 e1=>cQ T (s0.trans s1) pa (two "test" _ ?_ p H1 hp s1 e1)};clear two jn rl rr;cases t with
  |leaf n r=>cases r<;>cases ä
  |loop n th m l r b=>exact q
  |_=>cases ä
 refine bz T s0 pa ä (aT (K1 _ _ ?_));clear K1 M1 two jn rl;refine ah λM1 K1=>?_;by_cases Ŵ:t.ci=10
 ·refine cq T s0 pa Ŵ (bo ?_);cases lp with
  |none=>exact absurd (hlp Ŵ) ∅
  |some lq=>
  refine{by show 1<=sizeLine;decide,λq3 ϫ=>?_};have ŗ:=ai.upd ϫ (.lst [oS pl]);refine cQ T (s0.trans ŗ) pa {q3,[pl],lq,"under",t.no,rfl,À.of av,by simp,λR2 y2 H3 s3 n3 e3 l3=>q R2 y2 H3 (ŗ.trans s3) (ai.free ŗ n3) e3 ?_};cases t with
  |leaf n r=>
   cases r with
   |last=>exact l3
   |_=>cases Ŵ
  |_=>cases Ŵ
 refine bz T s0 pa Ŵ (aT (K1 _ _ ?_));clear K1 M1;cases t with
 |leaf n r=>
  cases r with
  |call i ts=>
   have û:=pa;unfold aN at û;obtain⟨a',Ų,p,e',Ϲ,_⟩:=û;cases e';obtain⟨kvs,eD,hd⟩:=hD;obtain⟨c1,c2⟩:=hc;obtain⟨l1,pp,e1,e2⟩:=hd _ c1;exact Á (s0 _ _ Ϲ) T.bh.cl T.cn rfl (î eD e1 {N,X,_,n,i,ts,pl,pp,po (N i),rfl,s0,pa,e2,c2,l1,q})
  |set _ _=>exact absurd rfl c5
  |put _ _ _=>exact absurd rfl c6
  |snd _ _=>exact absurd rfl c7
  |say _ _ _=>exact absurd rfl c8
  |last=>exact absurd rfl Ŵ
  |_=>cases hk
 |iff _ _ _ _ _ _=>exact absurd rfl ß
 |loop _ _ _ _ _ _=>exact absurd rfl ä
 |bf n i ps b=>cases hk
def oI:Option Int->V
 |none=>.È
 |some n=>.int n
def MX(l r:Int):Option Int->Option Int->Option Int
 |some a,Wv b=>if l+a=r+b then Wv (1+l+a)else Ww
 |_,_=>Ww
def MM(m l r:Int):Option Int->Option Int
 |some a=>if l+a=r then Wv (1+m*r)else Ww
 |none=>Ww
def JZ(a:Int):Option Int->Option Int
 |some b=>Wv (a+b)
 |none=>Ww
def qt:Option Int->Option Int->Option Int
 |some a,x=>JZ a x
 |none,_=>Ww
mutual
noncomputable def ğ(kn:Nat->Option Int):Pt->Option Int
 | .leaf _ (.call i _)=>JZ 1 (kn i)
 | .leaf _ _=>Wv 1
 | .iff _ _ l r f o=>MX l r (eJ kn f) (eJ kn o)
 | .loop _ _ m l r b=>MM m l r (eJ kn b)
 | .bf _ _ _ _=>Wv 1
noncomputable def eJ(kn:Nat->Option Int):List Pt->Option Int
 | []=>Wv 0
 |t::ts=>qt (ğ kn t) (eJ kn ts)
end
theorem zm(a b c:Option Int):qt (qt a b) c=qt a (qt b c):=by
 cases a with
 |none=>rfl
 |some a=>cases b with
  |none=>rfl
  |some b=>cases c with
   |none=>rfl
   |some c=>show Wv (a+b+c)=Wv (a+(b+c));rw[Int.add_assoc]
theorem AU(a:Option Int):qt (Wv 0) a=a:=by
 cases a with
 |none=>rfl
 |some a=>show Wv (0+a)=Wv a;rw[O8]
theorem uC(kn:Nat->Option Int):∀(a b:List Pt),eJ kn (a++b)=qt (eJ kn a) (eJ kn b)
 | [],b=>by rw[OA,show eJ kn []=Wv 0 by rw[eJ],AU]
 |t::a,b=>by
  rw[Pg,eJ,eJ,uC kn a b,zm]
theorem Fi(kn:Nat->Option Int)(t:Pt):eJ kn [t]=ğ kn t:=by
 rw[eJ,eJ];cases ğ kn t with
 |none=>rfl
 |some a=>show Wv (a+0)=Wv a;rw[Int.add_zero]
theorem vQ(kn:Nat->Option Int){ts:List Pt}{i:Nat}{t:Pt}(h:ts[i]?=Wv t):eJ kn (ts.take (i+1))=qt (eJ kn (ts.take i)) (ğ kn t):=by
 rw[Od,h,uC];show qt _ (eJ kn [t])=_;rw[Fi]
theorem Fg(kn:Nat->Option Int){ts:List Pt}{i:Nat}{t:Pt}(h:ts[i]?=Wv t)(e:ğ kn t=Ww):eJ kn ts=Ww:=by
 have:=uC kn (ts.take (i+1)) (ts.drop (i+1));rw[Ow,vQ kn h,e]at this;rw[this];cases eJ kn (ts.take i)<;>rfl
mutual
noncomputable def è(idx:List Nat):Pt->Prop
 | .leaf _ (.call i _)=>i∈idx
 | .leaf _ _=>True
 | .iff _ _ _ _ f o=>iB idx f/\iB idx o
 | .loop _ _ m _ _ b=>0<=m/\m<=1000/\iB idx b
 | .bf _ _ _ _=>True
noncomputable def iB(idx:List Nat):List Pt->Prop
 | []=>True
 |t::ts=>è idx t/\iB idx ts
end
theorem mY{idx:List Nat}{t:Pt}:∀{ts:List Pt},iB idx ts->t∈ts->è idx t
 |t'::ts,h,m=>by
  unfold iB at h;rcases NJ.mp m with rfl|m
  ·exact h.1
  exact mY h.2 m
def lR(N:Nat->Str)(H:Hp)(D:Qs)(idx:List Nat)(kn:Nat->V):Prop:=∃kvs,H D=Wv (.dK kvs)/\∀i∈idx,L2.cc kvs (.inr (N i))=Wv (kn i)
inductive CJ(vs:List V)(H:Hp)(Q:VK)(Ã:XK):Prop
 |mk(x:Option Int):vs=[oI x]->Q (oI (JZ 1 x)) H->CJ vs H Q Ã
theorem Jw(T:Txt K mg A):T.uV.Hz P w base 1 CJ:=by
 refine T.uV.hs Ao (λf Ä A' outer s H vs Q E' hr hu h=>?_);obtain⟨x,rfl,q⟩:=h;refine{_,(ag (aE (Aa (Ö Ba (fv 0) fz) fz (aG aW aj (fv 0))))),?_};cases x with
 |none=>exact{rfl,_,rfl,bo q}
 |some n=>exact{rfl,_,rfl,aT q}
inductive kR(A:Ì)(d:Nat)(vs:List V)(H:Hp)(Q:VK)(Ã:XK):Prop
 |mk(N:Nat->Str)(X:Hp)(L D:Qs)(xs:List V)(ts:List Pt)(idx:List Nat)(kn:Nat->Option Int):vs=[.ref L,.ref D]->ai X H->X L=Wv (.lst xs)->ba A N X xs ts->ig ts<=d->iB idx ts->(lR N H D idx λi=>oI (kn i))->Q (oI (eJ kn ts)) H->kR A d vs H Q Ã
inductive oy(A:Ì)(d:Nat)(vs:List V)(H:Hp)(Q:VK)(Ã:XK):Prop
 |mk(N:Nat->Str)(X:Hp)(v:V)(D:Qs)(t:Pt)(idx:List Nat)(kn:Nat->Option Int):vs=[v,.ref D]->ai X H->aN A N X v t->dep t<=d->è idx t->(lR N H D idx λi=>oI (kn i))->Q (oI (ğ kn t)) H->oy A d vs H Q Ã
def Š(sp:Nat->Sp):Nat->Sp
 |0=>λ_ _ _ _=>False
 |d+1=>sp d
inductive kU(A:Ì)(d c:Nat)(vs:List V)(H:Hp)(Q:VK)(Ã:XK):Prop
 |mk(N:Nat->Str)(X:Hp)(v:V)(D:Qs)(t:Pt)(idx:List Nat)(kn:Nat->Option Int):vs=[v,.ref D]->ai X H->aN A N X v t->dep t<=d->è idx t->(lR N H D idx λi=>oI (kn i))->t.ci=c->Q (oI (ğ kn t)) H->kU A d c vs H Q Ã
theorem zg(T:Txt K mg A)(d j:Nat)(Qe:T.gD.Hz P w base j (oy A d)):T.fS.Hz P w base (j+1) (kR A d):=by
 refine T.fS.hs (k:=j) eX (λf Ä A' outer s H vs Q E' hr hu h=>?_);obtain⟨N,X,L,D,xs,ts,idx,kn,rfl,s0,hL,pt,dp,ck,hD,q⟩:=h;refine⟨_,(af (Å 2 eX.nd aj)
  (af (bG Qz rfl (bu (fv 0)) (Ó (i:=3) eX.nd rfl)
   (af (Å 4 eX.nd (ao (hj:=by lia) Qe hr (fv 3^fv 1^ae)))
   (af (aP (Ö Ba (fv 4) fz)
    (ag (aE fz))
    aJ)
   (ag (Es (i:=2) eX.nd rfl (by first|exact NI rfl|exact Ob rfl) (fv 4) EU)))))
  (ag (aE (fv 2))))),?_⟩
 refine ah λM1 K1=>K1 _ _ ?_;clear K1 M1;rfl'
 refine ah λM1 K1=>NI {{_,À.of (s0 _ _ hL)},bw (K:=K) (xs:=xs) (λi B Hc=>∃(a:Int)(v3 v4:Option V),B=[Wv (.ref L),Wv (.ref D),Wv (.int a),v3,v4]/\Hc=H/\eJ kn (ts.take i)=Wv a) {0,Ww,Ww,rfl,rfl,by rw[O0,eJ]} (λi B Hc _ ⟨_,_,_,_,z,_⟩=>z▸À.of (s0 _ _ hL)) ?_ ?_}
 ·rintro i v B Hc hv ⟨a,v3,v4,rfl,rfl,ea⟩;obtain⟨t,ht,pa⟩:=pt.get hv;have mt:t∈ts:=NO ht;rfl'
  refine ah λN1 J1=>{N,X,v,D,t,idx,kn,rfl,s0,pa,NU (jr mt) dp,mY ck mt,hD,?_};have st:=vQ kn ht;rw[ea]at st;refine J1 _ _ ?_;clear J1 N1;rfl'
  refine ah λN1 J1=>?_;cases e:ğ kn t with
  |none=>
   rw[Fg kn ht e]at q;exact{rfl,_,rfl,bo q}
  |some b=>
   rw[e]at st;exact{rfl,_,rfl,aT (J1 _ _ {_,rfl,a,b,rfl,rfl,a+b,_,_,rfl,rfl,st})}
 rintro B Hc ⟨a,v3,v4,rfl,rfl,ea⟩;rw[show ts.take xs.length=ts by rw[pt.len];exact N0]at ea;rw[ea]at q;exact K1 _ _ q
theorem yg(T:Txt K mg A)(d j:Nat)(P2:T.fS.Hz P w base j (Š (kR A) d)):T.jM.Hz P w base (j+1) (kU A d 11):=by
 refine T.jM.hs (k:=j) jk (λf Ä A' outer s H vs Q E' hr hu h=>?_);obtain⟨N,X,v,D,t,idx,kn,rfl,s0,pa,dp,ck,hD,ec,q⟩:=h;refine⟨_,(af (Å 2 jk.nd (ao (hj:=by lia) P2 hr (aq (fv 0) rfl^fv 1^ae)))
  (af (Å 3 jk.nd (ao (hj:=by lia) P2 hr (aq (fv 0) rfl^fv 1^ae)))
  (af (aP (PW.pt (pw_or (Ö Ba (fv 2) fz) (pw_or (Ö Ba (fv 3) fz) (pw_or1 (Ö (yB hu) (aG aW (aq (fv 0) rfl) (fv 2)) (aG aW (aq (fv 0) rfl) (fv 3)))))))
   (ag (aE fz))
   aJ)
  (ag (aE (aG aW (aG aW aj (aq (fv 0) rfl)) (fv 2))))))),?_⟩
 cases t with
 |leaf n r=>cases r<;>cases ec
 |loop _ _ _ _ _ _=>cases ec
 |bf _ _ _ _=>cases ec
 |iff n val l r fs os=>
 unfold aN at pa;obtain⟨a,dx,p,pf,po,xf,xo,rfl,h1,h2,h3,h4,h5,h6⟩:=pa;unfold dep at dp;unfold è at ck;unfold ğ at q;cases d with
 |zero=>lia
 |succ d=>
 refine ah λM1 K1=>Á (s0 _ _ h1) T.aS.cl T.bX rfl {N,X,pf,D,xf,fs,idx,kn,rfl,s0,h3,h5,(),ck.1,hD,K1 _ _ ?_};clear K1 M1;rfl'
 refine ah λM1 K1=>Á (s0 _ _ h1) T.aS.cl T.bZ rfl {N,X,po,D,xo,os,idx,kn,rfl,s0,h4,h6,(),ck.2,hD,?_};generalize eJ kn fs=ef at q;generalize eJ kn os=eo at q;refine K1 _ _ ?_;clear K1 M1;rfl'
 refine ah λM1 K1=>?_;cases ef with
 |none=>exact{rfl,_,rfl,bo q}
 |some b=>
 refine{rfl,_,rfl,aT ?_};cases eo with
 |none=>exact{rfl,_,rfl,bo q}
 |some c=>
 refine{rfl,_,rfl,aT (Á (s0 _ _ h1) T.aS.cl T.dJ rfl (Á (s0 _ _ h1) T.aS.cl T.dS rfl {rfl,_,rfl,?_}))};by_cases e:l+b=r+c
 ·refine bg (λz=>absurd z (by show ¬ (!decide (V.int (l+b)=V.int (r+c)))=true;rw[DZ,decide_eq_true e];decide)) (λ_=>K1 _ _ ?_);have q:Q (oI (if l+b=r+c then Wv (1+l+b)else Ww)) H:=q;rw[if_pos e]at q;exact Á (s0 _ _ h1) T.aS.cl T.dJ rfl q
 refine bg (λ_=>?_) (λz=>absurd (by show(!decide (V.int (l+b)=V.int (r+c)))=true;rw[DZ,decide_eq_false e];rfl) z);have q:Q (oI (if l+b=r+c then Wv (1+l+b)else Ww)) H:=q;rw[if_neg e]at q;exact q
theorem yq(T:Txt K mg A)(d j:Nat)(P2:T.fS.Hz P w base j (Š (kR A) d)):T.hJ.Hz P w base (j+1) (kU A d 12):=by
 refine T.hJ.hs (k:=j) kQ (λf Ä A' outer s H vs Q E' hr hu h=>?_);obtain⟨N,X,v,D,t,idx,kn,rfl,s0,pa,dp,ck,hD,ec,q⟩:=h;refine⟨_,(af (Å 2 kQ.nd (ao (hj:=by lia) P2 hr (aq (fv 0) rfl^fv 1^ae)))
  (af (aP (PW.pt (pw_or (Ö Ba (fv 2) fz) (pw_or1 (Ö (yB hu) (aG aW (aq (fv 0) rfl) (fv 2)) (aq (fv 0) rfl)))))
   (ag (aE fz))
   aJ)
  (ag (aE (aG aW aj (aG lO (aq (fv 0) rfl) (aq (fv 0) rfl))))))),?_⟩
 cases t with
 |leaf n r=>cases r<;>cases ec
 |iff _ _ _ _ _ _=>cases ec
 |bf _ _ _ _=>cases ec
 |loop n th m l r b=>
 unfold aN at pa;obtain⟨a,dx,pb,xb,rfl,h1,h2,h3⟩:=pa;unfold dep at dp;unfold è at ck;unfold ğ at q;cases d with
 |zero=>lia
 |succ d=>
 refine ah λM1 K1=>Á (s0 _ _ h1) T.aM.cl T.bM rfl {N,X,pb,D,xb,b,idx,kn,rfl,s0,h2,h3,(),ck.2.2,hD,?_};generalize eJ kn b=ef at q;refine K1 _ _ ?_;clear K1 M1;rfl'
 refine ah λM1 K1=>?_;cases ef with
 |none=>exact{rfl,_,rfl,bo q}
 |some b=>
 refine{rfl,_,rfl,aT (Á (s0 _ _ h1) T.aM.cl T.dj rfl (Á (s0 _ _ h1) T.aM.cl T.cu rfl {rfl,_,rfl,?_}))};have q:Q (oI (if l+b=r then Wv (1+m*r)else Ww)) H:=q;by_cases e:l+b=r
 ·refine bg (λz=>absurd z (by show ¬ (!decide (V.int (l+b)=V.int r))=true;rw[DZ,decide_eq_true e];decide)) (λ_=>K1 _ _ ?_);rw[if_pos e]at q;exact Á (s0 _ _ h1) T.aM.cl T.dq rfl (Á (s0 _ _ h1) T.aM.cl T.cu rfl {oH () (),q})
 refine bg (λ_=>?_) (λz=>absurd (by show(!decide (V.int (l+b)=V.int r))=true;rw[DZ,decide_eq_false e];rfl) z);rw[if_neg e]at q;exact q
theorem Av(T:Txt K mg A)(d j:Nat)(Qg:T.jM.Hz P w base (j+1) (kU A d 11))(Qd:T.hJ.Hz P w base (j+1) (kU A d 12)):T.gD.Hz P w base (j+2) (oy A d):=by
 refine T.gD.hs (k:=j+1) sP (λf Ä A' outer s H vs Q E' hr hu h=>?_);obtain⟨N,X,v,D,t,idx,kn,rfl,s0,pa,dp,ck,hD,q⟩:=h;refine⟨_,(af (aP (aQ (Ê aI T.ax (fv 0^aO T.bh.mg^ae)) (λ_=>rfl))
   (ag (aE (ao (hj:=by lia) (Jw T) hr (px hu (fv 1) (aq (fv 0) rfl)^ae))))
   aJ)
  (af (aP (aQ (Ê aI T.ax (fv 0^aO T.aS.mg^ae)) (λ_=>rfl))
   (ag (aE (ao (hj:=by lia) Qg hr (fv 0^fv 1^ae))))
   aJ)
  (af (aP (aQ (Ê aI T.ax (fv 0^aO T.aM.mg^ae)) (λ_=>rfl))
   (ag (aE (ao (hj:=by lia) Qd hr (fv 0^fv 1^ae))))
   aJ)
  (ag (aE aj))))),?_⟩
 by_cases c9:t.ci=9
 ·refine ah λM1 K1=>cq T s0 pa c9 (bo ?_);cases t with
  |leaf n r=>
   cases r with
   |call i ts=>
    unfold aN at pa;obtain⟨a,dx,p,rfl,h1,_⟩:=pa;unfold è at ck;unfold ğ at q;obtain⟨kvs,e1,e2⟩:=hD;exact Á (s0 _ _ h1) T.bh.cl T.cn rfl (î e1 (e2 i ck) ⟨kn i,rfl,q⟩)
   |_=>cases c9
  |_=>cases c9
 refine ah λM1 K1=>bz T s0 pa c9 (aT (K1 _ _ ?_));clear K1 M1;by_cases ß:t.ci=11
 ·exact ah λM1 K1=>cq T s0 pa ß (bo ⟨N,X,v,D,t,idx,kn,rfl,s0,pa,dp,ck,hD,ß,q⟩)
 refine ah λM1 K1=>bz T s0 pa ß (aT (K1 _ _ ?_));clear K1 M1;by_cases ä:t.ci=12
 ·exact ah λM1 K1=>cq T s0 pa ä (bo ⟨N,X,v,D,t,idx,kn,rfl,s0,pa,dp,ck,hD,ä,q⟩)
 refine ah λM1 K1=>bz T s0 pa ä (aT (?_));have e:ğ kn t=Wv 1:=by
  cases t with
  |leaf n r=>
   cases r with
   |call i ts=>exact absurd rfl c9
   |_=>simp[ğ]
  |iff _ _ _ _ _ _=>exact absurd rfl ß
  |loop _ _ _ _ _ _=>exact absurd rfl ä
  |bf _ _ _ _=>rw[ğ]
 rw[e]at q;exact K1 _ _ q
theorem tB(T:Txt K mg A):∀d,T.fS.Hz P w base (3*d+4) (kR A d)
 |0=>zg T 0 3 (Av T 0 1 (yg T 0 1 (T.fS.hs (k:=0) eX (λ_ _ _ _ _ _ _ _ _ _ _ h=>h.elim) (λ_ _ _ _ h=>h.elim))) (yq T 0 1 (T.fS.hs (k:=0) eX (λ_ _ _ _ _ _ _ _ _ _ _ h=>h.elim) (λ_ _ _ _ h=>h.elim))))
 |d+1=>zg T (d+1) (3*d+6) (Av T (d+1) (3*d+4) (yg T (d+1) (3*d+4) (tB T d)) (yq T (d+1) (3*d+4) (tB T d)))
theorem IF(T:Txt K mg A):∀d,T.fS.Hz P w base (3*d+4) (Š (kR A) d)
 |0=>T.fS.hs (k:=3) eX (λ_ _ _ _ _ _ _ _ _ _ _ h=>h.elim) (λ_ _ _ _ h=>h.elim)
 |d+1=>(tB T d).mono ()
theorem FT(T:Txt K mg A)(d:Nat):T.gD.Hz P w base (3*d+6) (oy A d):=
 Av T d (3*d+4) (yg T d (3*d+4) (IF T d)) (yq T d (3*d+4) (IF T d))
inductive Fn(A:Ì)(d:Nat)(vs:List V)(H:Hp)(Q:VK)(Ã:XK):Prop
 |mk(N:Nat->Str)(X:Hp)(v:V)(D:Qs)(t:Pt)(idx:List Nat)(kn:Nat->Option Int):vs=[v,.ref D]->ai X H->aN A N X v t->dep t<=d->è idx t->(lR N H D idx λi=>oI (kn i))->Q (.bl (ğ kn t).isSome) H->Fn A d vs H Q Ã
theorem Mz(T:Txt K mg A)(d:Nat):T.balanced.Hz P w base (3*d+7) (Fn A d):=by
 refine T.balanced.hs (k:=3*d+6) Ac (λf Ä A' outer s H vs Q E' hr hu h=>?_);obtain⟨N,X,v,D,t,idx,kn,rfl,s0,pa,dp,ck,hD,q⟩:=h;refine{_,(ag (aE (pec B8 (ao (hj:=by lia) (FT T d) hr (fv 0^fv 1^ae)) fz))),{N,X,v,D,t,idx,kn,rfl,s0,pa,dp,ck,hD,rfl,?_}};cases e:ğ kn t with
 |none=>rw[e]at q;exact q
 |some n=>rw[e]at q;exact q
def ð:Pt->Nat
 | .bf _ i _ _=>i
 |_=>0
def knF{α:Type}(g:(Nat->α)->List Pt->α)(kn:Nat->α)(p:Pt):Nat->α:=λj=>if j=ð p then g kn (d7 p)else kn j
def õ{α:Type}(g:(Nat->α)->List Pt->α)(z:α)(ds:List Pt):Nat->α:=ds.foldl (knF g) λ_=>z
structure vM(N:Nat->Str)(d:Nat)(ds:List Pt):Prop where
 bf:∀p∈ds,uD p
 dp:∀p∈ds,ig (d7 p)<=d
 ck:∀(i:Nat)(p:Pt),ds[i]?=Wv p->iB ((ds.take i).map ð) (d7 p)
 nm:∀(i j:Nat)(p q:Pt),ds[i]?=Wv p->ds[j]?=Wv q->N (ð p)=N (ð q)->i=j
 ln:ds.length<=900
theorem xF{α:Type}(g:(Nat->α)->List Pt->α)(z:α)(vl:α->V){ds:List Pt}{d i:Nat}{p:Pt}(O:vM N d ds)(hp:ds[i]?=Wv p){kvs:List (Key×V)}(h:∀k∈(ds.take i).map ð,L2.cc kvs (.inr (N k))=Wv (vl (õ g z (ds.take i) k))) :
  ∀k∈(ds.take (i+1)).map ð,L2.cc (WD kvs (.inr (N (ð p))) (vl (g (õ g z (ds.take i)) (d7 p)))) (.inr (N k))=Wv (vl (õ g z (ds.take (i+1)) k)):=by
 intro k hk
 have st:õ g z (ds.take (i+1))=knF g (õ g z (ds.take i)) p:=iQ (knF g) (λ_=>z) hp
 rw[ub,st]
 rw[Od,hp,Oc]at hk
 show(if(N8 (N k):Key)=N8 (N (ð p))then _ else _)=Wv (vl (if k=ð p then _ else _))
 by_cases e:k=ð p
 ·rw[if_pos (by rw[e]),if_pos e]
 have m:k∈(ds.take i).map ð:=by
  rcases NQ.mp hk with m|m
  ·exact m
  exact absurd (NF.mp m) e
 rw[if_neg e,if_neg,h k m]
 intro z
 obtain⟨q,mq,rfl⟩:=N4.mp m
 obtain⟨j,hj⟩:=Py mq
 have jl:j<i:=by
  have:=(NW.mp hj).1;rw[Oh]at this;lia
 rw[Tj jl]at hj
 have:=O.nm j i q p hj hp (N8.inj z)
 lia
inductive wb(A:Ì)(d:Nat)(vs:List V)(H:Hp)(Q:VK)(Ã:XK):Prop
 |mk(N:Nat->Str)(X:Hp)(v:V)(hs ds ms:List Pt)(z0:vs=[v])(z1:ai X H)(z2:mB A N X v hs ds ms)(z3:vM N d ds)
  (z4:∀(D:Qs)(H':Hp),ai H H'->H D=Ww->lR N H' D (ds.map ð) (λi=>oI (õ eJ Ww ds i))->Q (.ref D) H'):wb A d vs H Q Ã
theorem E6(T:Txt K mg A)(d:Nat):T.Bq.Hz P w base (3*d+5) (wb A d):=by
 refine T.Bq.hs (k:=3*d+4) qY (λf Ä A' outer s H vs Q E' hr hu h=>?_);obtain⟨N,X,v,hs,ds,ms,rfl,s0,⟨a,dx,n0,n1,n2,x0,x1,x2,rfl,ha,e0,e1,e2,p0,p1,p2⟩,O,q⟩:=h;refine⟨_,(af (Å 1 qY.nd (nH))
  (af (bG Qz rfl (bu (aq (fv 0) rfl)) (Ó (i:=2) qY.nd rfl)
   (ag (cx (ao (hj:=by lia) (tB T d) hr (aq (fv 2) rfl^fv 1^ae)) (cY (fv 1) (aq (fv 2) rfl) (dU hu Wy)))))
  (ag (aE (fv 1))))),?_⟩
 refine ah λM1 K1 D hD=>?_;obtain⟨s1,eD⟩:=Ñ hD (HO.dK []);generalize upd H D _=H1 at s1 eD⊢;refine K1 _ _ ?_;clear K1 M1;rfl'
 refine ah λM1 K1=>Á ((s0.trans s1) _ _ ha) T.bc.cl T.br rfl (NI {{_,À.of ((s0.trans s1) _ _ e1)},bw (K:=K) (xs:=x1) (λi B Hc=>∃(v2:Option V)(kvs:List (Key×V)),B=[Wv (.ref a),Wv (.ref D),v2]/\ai H Hc/\Hc D=Wv (.dK kvs)/\kvs.length<=i/\∀k∈(ds.take i).map ð,L2.cc kvs (.inr (N k))=Wv (oI (õ eJ Ww (ds.take i) k))) {Ww,[],rfl,s1,eD,NM _,by simp} (λi B Hc _ ⟨_,_,_,z,_⟩=>À.of ((s0.trans z) _ _ e1)) ?_ ?_})
 ·rintro i v B Hc hv ⟨v2,kvs,rfl,sc,ĭ,kl,hk⟩;obtain⟨t,ht,pa⟩:=p1.get hv;have mt:t∈ds:=NO ht;have il:i<ds.length:=(NW.mp ht).1;have dt:=O.bf t mt;have st:=xF eJ Ww oI O ht hk;have ln:=O.ln;cases t with
  |bf n i' ps b=>
   have û:=pa;unfold aN at û;obtain⟨a',Ų,pp,pb,xb,rfl,h1,h2,h3,h4⟩:=û;have sX:=s0.trans sc;refine Á (sX _ _ h1) T.a8.cl T.bW rfl {N,X,pb,D,xb,b,(ds.take i).map ð,õ eJ Ww (ds.take i),rfl,sX,h3,h4,O.dp _ mt,O.ck i _ ht,⟨kvs,ĭ,hk⟩,Á (sX _ _ h1) T.a8.cl T.b4 rfl {_,gI.k (k:=.inr (N i')) ĭ (aL ()),{_,_,rfl,ai.out sc hD _,av,?_,st}}};have:(WD kvs (.inr (N i')) (oI (eJ (õ eJ Ww (ds.take i)) b))).length<=kvs.length+1:=kL _ _ _;lia
  |_=>exact dt.elim
 rintro B Hc ⟨v2,kvs,rfl,sc,ĭ,kl,hk⟩;rw[show ds.take x1.length=ds by rw[p1.len];exact N0]at hk;exact K1 _ _ (q D Hc sc hD ⟨kvs,ĭ,hk⟩)
def mx(i j:Int):Int:=if j>i then j else i
mutual
noncomputable def Ą(kn:Nat->Int):Pt->Int
 | .leaf _ (.call i _)=>1+kn i
 | .leaf _ _=>1
 | .iff _ _ l r f o=>1+mx (l+cB kn f) (r+cB kn o)
 | .loop _ _ m l r b=>1+m*mx (l+cB kn b) r
 | .bf _ _ _ _=>1
noncomputable def cB(kn:Nat->Int):List Pt->Int
 | []=>0
 |t::ts=>Ą kn t+cB kn ts
end
theorem vq(kn:Nat->Int):∀ts:List Pt,cB kn ts=(ts.map (Ą kn)).sum
 | []=>by rw[cB];rfl
 |t::ts=>by rw[cB,vq kn ts,N9,PY]
mutual
noncomputable def ĉ:Pt->Prop
 | .leaf _ _=>True
 | .iff _ _ _ _ f o=>f.length<=900/\o.length<=900/\lI f/\lI o
 | .loop _ _ _ _ _ b=>b.length<=900/\lI b
 | .bf _ _ _ _=>True
noncomputable def lI:List Pt->Prop
 | []=>True
 |t::ts=>ĉ t/\lI ts
end
theorem qv{t:Pt}:∀{ts:List Pt},lI ts->t∈ts->ĉ t
 |t'::ts,h,m=>by
  unfold lI at h;rcases NJ.mp m with rfl|m
  ·exact h.1
  exact qv h.2 m
inductive ja(A:Ì)(d:Nat)(vs:List V)(H:Hp)(Q:VK)(Ã:XK):Prop
 |mk(N:Nat->Str)(X:Hp)(L D:Qs)(xs:List V)(ts:List Pt)(idx:List Nat)(kn:Nat->Int):vs=[.ref L,.ref D]->ai X H->X L=Wv (.lst xs)->ba A N X xs ts->ig ts<=d->iB idx ts->ts.length<=900->lI ts->(lR N H D idx λi=>.int (kn i))->(∀H',ai H H'->Q (.int (cB kn ts)) H')->ja A d vs H Q Ã
inductive qi(A:Ì)(d:Nat)(vs:List V)(H:Hp)(Q:VK)(Ã:XK):Prop
 |mk(N:Nat->Str)(X:Hp)(v:V)(D:Qs)(t:Pt)(idx:List Nat)(kn:Nat->Int):vs=[v,.ref D]->ai X H->aN A N X v t->dep t<=d->è idx t->ĉ t->(lR N H D idx λi=>.int (kn i))->(∀H',ai H H'->Q (.int (Ą kn t)) H')->qi A d vs H Q Ã
theorem lR.same{H H':Hp}{D:Qs}{idx:List Nat}{kn:Nat->V}(s:ai H H')(h:lR N H D idx kn):lR N H' D idx kn:=by
 obtain⟨kvs,e,h⟩:=h;exact{kvs,s _ _ e,h}
theorem Ct{α:Type}{f:α->Int}{src:List α}:∀{ys:List V},Paired (λt y=>y=V.int (f t)) src ys->ys=(src.map f).map V.int
 |_,.nil=>rfl
 |_,.cons h r=>by rw[h,Ct r];rfl
theorem CH(T:Txt K mg A)(d j:Nat)(Qh:T.jK.Hz P w base j (qi A d)):T.oP.Hz P w base (j+1) (ja A d):=by
 refine T.oP.hs (k:=j) uO (λf Ä A' outer s H vs Q E' hr hu h=>?_);obtain⟨N,X,L,D,xs,ts,idx,kn,rfl,s0,hL,pt,dp,ck,ln,lo,hD,q⟩:=h;refine{_,(ag (aE (Ê Ls T.Cw ((fN (N:=["row","known"]) (own:=1) (fr:=[1]) (cN.of (by kernel_rfl!)) rfl (bu (fv 0)) (λb=>Ó (i:=0) (show QR (["row","known"]:List Rb) by decide+kernel) rfl) (λb=>gW) (λb=>ao (hj:=by lia) Qh hr (fv 0^fv 1^ae)))^ae)))),NI {{_,À.of (s0 _ _ hL)},gz (K:=K) (own:=1) ts (λ_=>true) (λt y _=>y=.int (Ą kn t)) (À.of (s0 _ _ hL)) pt.len (aL (by rw[pt.len];lia)) ?_ (λ_ _ _ _ _ h=>h) (λ_ _ _ _ _ _ _ h=>h) ?_}}
 ·intro b i x e v0 H1 Nn Y hx he hv s1 no yes;obtain⟨u0,rfl⟩:∃u0,v0=[u0]:=by
   match v0,hv with
   | [u],_=>exact⟨u,rfl⟩
  obtain⟨t,ht,pa⟩:=pt.get hx;rw[he]at ht;cases ht;have mt:e∈ts:=NO he;exact qi.mk N X x D e idx kn rfl (s0.trans s1) pa (NU (jr mt) dp) (mY ck mt) (qv lo mt) (hD.same s1) (λH' s2=>yes rfl [Wv x] _ _ rfl s2 rfl)
 intro R H1 ys hR s1 e1 pr;rw[gj]at pr;have:=Ct pr;refine{R,ts.map (Ą kn),rfl,À.of (by rw[e1,this]),?_};rw[<-vq];exact q _ s1
theorem y0(T:Txt K mg A)(d j:Nat)(Qc:T.oP.Hz P w base j (Š (ja A) d)):T.jK.Hz P w base (j+1) (qi A d):=by
 refine T.jK.hs (k:=j) jD (λf Ä A' outer s H vs Q E' hr hu h=>?_);obtain⟨N,X,v,D,t,idx,kn,rfl,s0,pa,dp,ck,lo,hD,q⟩:=h;refine⟨_,(af (aP (aQ (Ê aI T.ax (fv 0^aO T.bh.mg^ae)) (λ_=>rfl))
   (ag (aE (aG aW aj (px hu (fv 1) (aq (fv 0) rfl)))))
   aJ)
  (af (aP (aQ (Ê aI T.ax (fv 0^aO T.aS.mg^ae)) (λ_=>rfl))
   (af (Å 2 jD.nd (aG aW (aq (fv 0) rfl) (ao (hj:=by lia) Qc hr (aq (fv 0) rfl^fv 1^ae))))
   (af (Å 3 jD.nd (aG aW (aq (fv 0) rfl) (ao (hj:=by lia) Qc hr (aq (fv 0) rfl^fv 1^ae))))
   (ag (aE (aG aW aj (Ê wW T.qB (fv 2^fv 3^ae)))))))
   aJ)
  (af (aP (aQ (Ê aI T.ax (fv 0^aO T.aM.mg^ae)) (λ_=>rfl))
   (ag (aE (aG aW aj (aG lO (aq (fv 0) rfl) (Ê wW T.qB ((aG aW (aq (fv 0) rfl) (ao (hj:=by lia) Qc hr (aq (fv 0) rfl^fv 1^ae)))^aq (fv 0) rfl^ae))))))
   aJ)
  (ag (aE aj))))),?_⟩
 by_cases c9:t.ci=9
 ·refine ah λM1 K1=>cq T s0 pa c9 (bo ?_);cases t with
  |leaf n r=>
   cases r with
   |call i ts=>
    unfold aN at pa;obtain⟨a,dx,p,rfl,h1,_⟩:=pa;unfold è at ck;unfold Ą at q;obtain⟨kvs,e1,e2⟩:=hD;exact Á (s0 _ _ h1) T.bh.cl T.cn rfl (î e1 (e2 i ck) (q _ (ai.refl _)))
   |_=>cases c9
  |_=>cases c9
 refine ah λM1 K1=>bz T s0 pa c9 (aT (K1 _ _ ?_));clear K1 M1;by_cases ß:t.ci=11
 ·refine ah λM1 K1=>cq T s0 pa ß (bo ?_);cases t with
  |leaf n r=>cases r<;>cases ß
  |loop _ _ _ _ _ _=>cases ß
  |bf _ _ _ _=>cases ß
  |iff n val l r fs os=>
  unfold aN at pa;obtain⟨a,dx,p,pf,po,xf,xo,rfl,h1,h2,h3,h4,h5,h6⟩:=pa;unfold dep at dp;unfold è at ck;unfold ĉ at lo;unfold Ą at q;cases d with
  |zero=>lia
  |succ d=>
  refine ah λM2 K2=>Á (s0 _ _ h1) T.aS.cl T.dJ rfl (Á (s0 _ _ h1) T.aS.cl T.bX rfl {N,X,pf,D,xf,fs,idx,kn,rfl,s0,h3,h5,(),ck.1,lo.1,lo.2.2.1,hD,λH1 s1=>K2 _ _ ?_});clear K2 M2;have sX:=s0.trans s1;rfl'
  exact ah λM2 K2=>Á (sX _ _ h1) T.aS.cl T.dS rfl (Á (sX _ _ h1) T.aS.cl T.bZ rfl {N,X,po,D,xo,os,idx,kn,rfl,sX,h4,h6,(),ck.2,lo.2.1,lo.2.2.2,hD.same s1,λH2 s2=>K2 _ _ {_,_,rfl,q _ (s1.trans s2)}})
 refine ah λM1 K1=>bz T s0 pa ß (aT (K1 _ _ ?_));clear K1 M1;by_cases ä:t.ci=12
 ·refine ah λM1 K1=>cq T s0 pa ä (bo ?_);cases t with
  |leaf n r=>cases r<;>cases ä
  |iff _ _ _ _ _ _=>cases ä
  |bf _ _ _ _=>cases ä
  |loop n th m l r b=>
  unfold aN at pa;obtain⟨a,dx,pb,xb,rfl,h1,h2,h3⟩:=pa;unfold dep at dp;unfold è at ck;unfold ĉ at lo;unfold Ą at q;cases d with
  |zero=>lia
  |succ d=>
  exact Á (s0 _ _ h1) T.aM.cl T.dq rfl (Á (s0 _ _ h1) T.aM.cl T.dj rfl (Á (s0 _ _ h1) T.aM.cl T.bM rfl {N,X,pb,D,xb,b,idx,kn,rfl,s0,h2,h3,(),ck.2.2,lo.1,lo.2,hD,λH1 s1=>Á ((s0.trans s1) _ _ h1) T.aM.cl T.cu rfl {_,_,rfl,oH () (),q _ s1}}))
 refine ah λM1 K1=>bz T s0 pa ä (aT (?_));have e:Ą kn t=1:=by
  cases t with
  |leaf n r=>
   cases r with
   |call i ts=>exact absurd rfl c9
   |_=>simp[Ą]
  |iff _ _ _ _ _ _=>exact absurd rfl ß
  |loop _ _ _ _ _ _=>exact absurd rfl ä
  |bf _ _ _ _=>rw[Ą]
 rw[e]at q;exact K1 _ _ (q _ (ai.refl _))
theorem u9(T:Txt K mg A):∀d,T.oP.Hz P w base (2*d+3) (ja A d)
 |0=>CH T 0 2 (y0 T 0 1 (T.oP.hs (k:=0) uO (λ_ _ _ _ _ _ _ _ _ _ _ h=>h.elim) (λ_ _ _ _ h=>h.elim)))
 |d+1=>CH T (d+1) (2*d+4) (y0 T (d+1) (2*d+3) (u9 T d))
inductive uf(A:Ì)(d:Nat)(vs:List V)(H:Hp)(Q:VK)(Ã:XK):Prop
 |mk(N:Nat->Str)(X:Hp)(v:V)(hs ds ms:List Pt)(z0:vs=[v])(z1:ai X H)(z2:mB A N X v hs ds ms)(z3:vM N d ds)(z5:∀p∈ds,(d7 p).length<=900/\lI (d7 p))
  (z4:∀(D:Qs)(H':Hp),ai H H'->H D=Ww->lR N H' D (ds.map ð) (λi=>.int (õ cB 0 ds i))->Q (.ref D) H'):uf A d vs H Q Ã
theorem G6(T:Txt K mg A)(d:Nat):T.gk.Hz P w base (2*d+4) (uf A d):=by
 refine T.gk.hs (k:=2*d+3) uM (λf Ä A' outer s H vs Q E' hr hu h=>?_);obtain⟨N,X,v,hs,ds,ms,rfl,s0,⟨a,dx,n0,n1,n2,x0,x1,x2,rfl,ha,e0,e1,e2,p0,p1,p2⟩,O,lo,q⟩:=h;refine⟨_,(af (Å 1 uM.nd (nH))
  (af (bG Qz rfl (bu (aq (fv 0) rfl)) (Ó (i:=2) uM.nd rfl)
   (ag (cx (ao (hj:=by lia) (u9 T d) hr (aq (fv 2) rfl^fv 1^ae)) (cY (fv 1) (aq (fv 2) rfl) (dU hu Wy)))))
  (ag (aE (fv 1))))),?_⟩
 refine ah λM1 K1 D hD=>?_;obtain⟨s1,eD⟩:=Ñ hD (HO.dK []);generalize upd H D _=H1 at s1 eD⊢;refine K1 _ _ ?_;clear K1 M1;rfl'
 refine ah λM1 K1=>Á ((s0.trans s1) _ _ ha) T.bc.cl T.br rfl (NI {{_,À.of ((s0.trans s1) _ _ e1)},bw (K:=K) (xs:=x1) (λi B Hc=>∃(v2:Option V)(kvs:List (Key×V)),B=[Wv (.ref a),Wv (.ref D),v2]/\ai H Hc/\Hc D=Wv (.dK kvs)/\kvs.length<=i/\∀k∈(ds.take i).map ð,L2.cc kvs (.inr (N k))=Wv (.int (õ cB 0 (ds.take i) k))) {Ww,[],rfl,s1,eD,NM _,by simp} (λi B Hc _ ⟨_,_,_,z,_⟩=>À.of ((s0.trans z) _ _ e1)) ?_ ?_})
 ·rintro i v B Hc hv ⟨v2,kvs,rfl,sc,ĭ,kl,hk⟩;obtain⟨t,ht,pa⟩:=p1.get hv;have mt:t∈ds:=NO ht;have il:i<ds.length:=(NW.mp ht).1;have dt:=O.bf t mt;have st:=xF cB 0 V.int O ht hk;have ln:=O.ln;cases t with
  |bf n i' ps b=>
   have û:=pa;unfold aN at û;obtain⟨a',Ų,pp,pb,xb,rfl,h1,h2,h3,h4⟩:=û;have sX:=s0.trans sc;refine Á (sX _ _ h1) T.a8.cl T.bW rfl {N,X,pb,D,xb,b,(ds.take i).map ð,õ cB 0 (ds.take i),rfl,sX,h3,h4,O.dp _ mt,O.ck i _ ht,(lo _ mt).1,(lo _ mt).2,⟨kvs,ĭ,hk⟩,λHe se=>Á ((sX.trans se) _ _ h1) T.a8.cl T.b4 rfl {_,gI.k (k:=.inr (N i')) (se _ _ ĭ) (aL ()),{_,_,rfl,ai.out (sc.trans se) hD _,av,?_,st}}};have:(WD kvs (.inr (N i')) (.int (cB (õ cB 0 (ds.take i)) b))).length<=kvs.length+1:=kL _ _ _;lia
  |_=>exact dt.elim
 rintro B Hc ⟨v2,kvs,rfl,sc,ĭ,kl,hk⟩;rw[show ds.take x1.length=ds by rw[p1.len];exact N0]at hk;exact K1 _ _ (q D Hc sc hD ⟨kvs,ĭ,hk⟩)
theorem F3{kvs:List (Key×V)}{k:Key}(h:k∉kvs.map (·.1)):L2.cc kvs k=Ww:=by
 unfold L2.cc;rw[List.find?_eq_none.mpr λkv m=>by
  rw[decide_eq_true_iff];exact λe=>h (e▸Oe m)]
 rfl
theorem nv:∀(kvs acc:List (Key×V)),((acc++kvs).map (·.1)).Nodup->bT acc kvs=acc++kvs
 | [],acc,_=>by rw[Oi];rfl
 | (k,v)::kvs,acc,h=>by
  have nk:k∉acc.map (·.1):=λm=>by
   rw[Oc,N9]at h;exact(OF.mp h).2.2 k m k NL rfl
  show bT (WD acc k v) kvs=_;rw[Ag v (F3 nk),nv kvs (acc++[(k,v)]) (by simpa using h)];simp
def ć(N:Nat->Str)(ds:List Pt)(x:Str):List Str:=match ds.find? (λp=>decide (ó N p=x))with
 |some p=>Ĥ N p
 |none=>[]
def Bu(t:Pt):Bool:=decide (t.ci=7)||decide (t.ci=8)
def Ai(t:Pt):Bool:=decide (t.ci=11)||decide (t.ci=12)
def tY(kn:Nat->Option Int)(t:Pt):List Lk:=if Bu t=true then[{"the clock",bp t.no,"steps",t.no}]else if Ai t=true/\(ğ kn t).isSome=false then[{bp t.no,"the clock","steps",t.no}]else[]
theorem EF(kn:Nat->Option Int)(t:Pt):(tY kn t).length<=1:=by
 unfold tY;split
 ·exact NM _
 split<;>simp
def GD(b:Bool)(kn:Nat->Option Int)(t:Pt):List Lk:=if b=true then tY kn t else[]
def rN(N:Nat->Str)(b:Bool)(ds:List Pt)(e:Le):List Lk:=uF N (ć N ds) e.1 e.2.1 e.2.2++GD b (õ eJ Ww ds) e.1
def dQ(N:Nat->Str)(b:Bool)(ds ms:List Pt):List Lk:=(bC N ds ms).flatMap (rN N b ds)
structure OkL(N:Nat->Str)(d:Nat)(hs ds ms:List Pt):Prop where
 ok:Ok N d hs ds ms
 dk:vM N d ds
 nn:(ds.map (ó N)).Nodup
 pn:∀p∈ds,(Ĥ N p).length<=100
 k5:∀e∈bC N ds ms,k5 e.1=true
 lo:∀e∈bC N ds ms,lOk e.1 e.2.2
 cal:∀e∈bC N ds ms,vP N (ć N ds) (ds.map (ó N)) e.1
 ll:∀b,(dQ N b ds ms).length<=900
 ck:∀e∈bC N ds ms,è (ds.map ð) e.1/\dep e.1<=d
def PoE(N:Nat->Str)(X:Hp)(p:Pt)(y:V)(H:Hp):Prop:=∃t pp,y=V.ref t/\H t=Wv (.tup [.str (ó N p),.ref pp])/\X pp=Wv (.lst (sS (Ĥ N p)))
theorem Em{X H:Hp}:∀{ds:List Pt}{ys:List V},Paired (λp y=>PoE N X p y H) ds ys->∃(ps:List Qs)(kvs:List (Key×V)),ys=ps.map V.ref/\ps.length=kvs.length/\kvs.map (·.1)=ds.map (λp=>N8 (ó N p))/\(∀(i:Nat) t k v,ps[i]?=Wv t->kvs[i]?=Wv (k,v)->H t=Wv (.tup [kV k,v]))/\∀p∈ds,∃pp,(N8 (ó N p),V.ref pp)∈kvs/\X pp=Wv (.lst (sS (Ĥ N p)))
 |_,_,.nil=>{[],[],rfl,rfl,rfl,(λi t k v h=>by simp at h),(λp m=>by cases m)}
 |_,_,.cons (b:=y) (a:=p) h r=>by
  obtain⟨t,pp,rfl,h1,h2⟩:=h;obtain⟨ps,kvs,e1,e2,e3,e4,e5⟩:=Em r;refine{t::ps,(N8 (ó N p),V.ref pp)::kvs,by rw[e1];rfl,by simp[e2],by rw[N9,N9,e3],λi t' k v ht hk=>?_,λq hq=>?_}
  ·cases i with
   |zero=>cases ht;cases hk;exact h1
   |succ i=>exact e4 i t' k v ht hk
  rcases NJ.mp hq with rfl|hq
  ·exact⟨pp,NL,h2⟩
  obtain⟨pp',m,z⟩:=e5 q hq;exact{pp',NK _ m,z}
theorem Cu{kvs:List (Key×V)}{k:Key}{v:V}(nd:(kvs.map (·.1)).Nodup)(m:(k,v)∈kvs):L2.cc kvs k=Wv v:=by
 obtain⟨i,hi⟩:=Py m;exact xx nd hi
theorem G1{ds:List Pt}(nn:(ds.map (ó N)).Nodup){p:Pt}(m:p∈ds):ć N ds (ó N p)=Ĥ N p:=by
 have:ds.find? (λq=>decide (ó N q=ó N p))=Wv p:=by
  induction ds with
  |nil=>cases m
  |cons q r ih=>
   rw[N9,Oq]at nn;rw[Ov];by_cases e:ó N q=ó N p
   ·rw[decide_eq_true e];rcases NJ.mp m with z|z
    ·rw[z]
    exact absurd (e▸Oe z) nn.1
   rw[decide_eq_false e];rcases NJ.mp m with z|z
   ·exact absurd (by rw[z]) e
   exact ih nn.2 z
 unfold ć;rw[this]
inductive B6(A:Ì)(d:Nat)(vs:List V)(H:Hp)(Q:VK)(Ã:XK):Prop
 |mk(N:Nat->Str)(X:Hp)(v:V)(D:Qs)(t:Pt)(idx:List Nat)(kn:Nat->Option Int)(z0:vs=[v,.ref D])(z1:ai X H)(z2:aN A N X v t)(z3:0<=t.no/\t.no<=1000)(z4:dep t<=d)(z5:è idx t)(z6:lR N H D idx λi=>oI (kn i))
  (z7:∀(R:Qs)(ys:List V)(H':Hp),ai H H'->H R=Ww->H' R=Wv (.lst ys)->ę H' (tY kn t) ys->Q (.ref R) H'):B6 A d vs H Q Ã
theorem Kj(T:Txt K mg A)(d:Nat):T.qc.Hz P w base (3*d+8) (B6 A d):=by
 refine T.qc.hs (k:=3*d+7) pv (λf Ä A' outer s H vs Q E' hr hu h=>?_);obtain⟨N,X,v,D,t,idx,kn,rfl,s0,pa,nt,dp,ck,hD,q⟩:=h;refine⟨_,(af (Å 2 pv.nd (ao (hj:=by lia) (oE T) hr (aq (fv 0) rfl^ae)))
  (af (aP (PW.pt (pw_or (aQ (Ê aI T.ax (fv 0^aO T.bR.mg^ae)) (λ_=>rfl)) (pw_or1 (aQ (Ê aI T.ax (fv 0^aO T.bD.mg^ae)) (λ_=>rfl)))))
   (ag (aE (aZ (bj (yc T.tF^fv 2^aF^aq (fv 0) rfl^ae)^ae))))
   aJ)
  (af (aP (PW.pt (pw_and (PW.pt (pw_or (aQ (Ê aI T.ax (fv 0^aO T.aS.mg^ae)) (λ_=>rfl)) (pw_or1 (aQ (Ê aI T.ax (fv 0^aO T.aM.mg^ae)) (λ_=>rfl))))) (pw_and1 (lr (aQ (ao (hj:=by lia) (Mz T d) hr (fv 0^fv 1^ae)) (λ_=>rfl))))))
   (ag (aE (aZ (bj (fv 2^yc T.tF^aF^aq (fv 0) rfl^ae)^ae))))
   aJ)
  (ag (aE (aZ ae)))))),?_⟩
 refine ah λM1 K1=>cQ T s0 pa {_,rfl,nt.1,nt.2,K1 _ _ ?_};clear K1 M1;rfl'
 refine ah λM1 K1=>?_;have sd:Bu t=true->4<=sizeLine/\∀p,H p=Ww->1<=sizeLine/\∀l,upd H p (.tup [V.str "the clock",V.str (bp t.no),V.str "steps",V.int t.no]) l=Ww->Q (.ref l) (upd (upd H p (.tup [V.str "the clock",V.str (bp t.no),V.str "steps",V.int t.no])) l (.lst [V.ref p])):=λz=>by
  refine{∅,λp hp=>{∅,λl hl=>?_}};have s1:=ai.upd hp (HO.tup [V.str "the clock",V.str (bp t.no),V.str "steps",V.int t.no]);have s2:=ai.upd hl (HO.lst [V.ref p]);refine q l [V.ref p] _ (s1.trans s2) (ai.free s1 hl) av ?_;unfold tY;rw[if_pos z];exact .cons {p,rfl,s2 _ _ av} .nil
 have no:Bu t=false->M1 [Wv v,Wv (.ref D),Wv (.str (bp t.no))] H:=λz=>K1 _ _ (by
  clear K1 M1 sd;rfl'
  refine ah λM1 K1=>?_;have un:Ai t=true->(ğ kn t).isSome=false->4<=sizeLine/\∀p,H p=Ww->1<=sizeLine/\∀l,upd H p (.tup [V.str (bp t.no),V.str "the clock",V.str "steps",V.int t.no]) l=Ww->Q (.ref l) (upd (upd H p (.tup [V.str (bp t.no),V.str "the clock",V.str "steps",V.int t.no])) l (.lst [V.ref p])):=λy ex=>by
   refine{∅,λp hp=>{∅,λl hl=>?_}};have s1:=ai.upd hp (HO.tup [V.str (bp t.no),V.str "the clock",V.str "steps",V.int t.no]);have s2:=ai.upd hl (HO.lst [V.ref p]);refine q l [V.ref p] _ (s1.trans s2) (ai.free s1 hl) av ?_;unfold tY;rw[z,if_neg NT,if_pos ⟨y,ex⟩];exact .cons {p,rfl,s2 _ _ av} .nil
  have nil:¬ (Ai t=true/\(ğ kn t).isSome=false)->M1 [Wv v,Wv (.ref D),Wv (.str (bp t.no))] H:=λy=>K1 _ _ (by
   refine{NS _,λR hR=>q R [] _ (ai.upd hR _) hR av ?_};unfold tY;rw[z,if_neg NT,if_neg y];exact .nil)
  have bal:∀b,b=(ğ kn t).isSome->Ai t=true->(b=true->M1 [Wv v,Wv (.ref D),Wv (.str (bp t.no))] H)/\(b=false->4<=sizeLine/\∀p,H p=Ww->1<=sizeLine/\∀l,upd H p (.tup [V.str (bp t.no),V.str "the clock",V.str "steps",V.int t.no]) l=Ww->Q (.ref l) (upd (upd H p (.tup [V.str (bp t.no),V.str "the clock",V.str "steps",V.int t.no])) l (.lst [V.ref p]))):=λb eb y=>{λz=>nil λw=>(by rw[<-eb,z]at w;cases w.2),λz=>un y (by rw[<-eb,z])};clear K1;by_cases ß:t.ci=11
  ·have b:=bal _ rfl (by unfold Ai;rw[decide_eq_true ß];rfl);refine cq T s0 pa ß (bo {N,X,v,D,t,idx,kn,rfl,s0,pa,dp,ck,hD,_,rfl,?_});cases e:(ğ kn t).isSome with
   |true=>exact aT (b.1 e)
   |false=>exact bo (cQ T s0 pa (b.2 e))
  by_cases ä:t.ci=12
  ·have b:=bal _ rfl (by unfold Ai;rw[decide_eq_true ä,decide_eq_false ß];rfl);refine bz T s0 pa ß (aT (cq T s0 pa ä (bo {N,X,v,D,t,idx,kn,rfl,s0,pa,dp,ck,hD,_,rfl,?_})));cases e:(ğ kn t).isSome with
   |true=>exact aT (b.1 e)
   |false=>exact bo (cQ T s0 pa (b.2 e))
  exact bz T s0 pa ß (aT (bz T s0 pa ä (aT (nil λw=>by
   have w:=w.1;unfold Ai at w;rw[decide_eq_false ß,decide_eq_false ä]at w;cases w)))))
 clear K1;by_cases c7:t.ci=7
 ·exact cq T s0 pa c7 (bo (cQ T s0 pa (sd (by unfold Bu;rw[decide_eq_true c7];rfl))))
 by_cases c8:t.ci=8
 ·exact bz T s0 pa c7 (aT (cq T s0 pa c8 (bo (cQ T s0 pa (sd (by unfold Bu;rw[decide_eq_true c8,decide_eq_false c7];rfl))))))
 exact bz T s0 pa c7 (aT (bz T s0 pa c8 (aT (no (by unfold Bu;rw[decide_eq_false c7,decide_eq_false c8];rfl)))))
inductive yG(A:Ì)(d:Nat)(vs:List V)(H:Hp)(Q:VK)(Ã:XK):Prop
 |mk(N:Nat->Str)(X:Hp)(v:V)(b:Bool)(hs ds ms:List Pt)(z0:vs=[v,.bl b])(z1:ai X H)(z2:mB A N X v hs ds ms)(z3:OkL N d hs ds ms)
  (z4:∀(R:Qs)(ys:List V)(H':Hp),ai H H'->H R=Ww->H' R=Wv (.lst ys)->ę H' (dQ N b ds ms) ys->Q (.ref R) H'):yG A d vs H Q Ã
theorem Hy(T:Txt K mg A)(d:Nat):T.links.Hz P w base (3*d+9) (yG A d):=by
 refine T.links.hs (k:=3*d+8) iW (λf Ä A' outer s H vs Q E' hr hu h=>?_);obtain⟨N,X,v,b,hs,ds,ms,rfl,s0,pg,O,q⟩:=h;obtain⟨a,dx,n0,n1,n2,x0,x1,x2,rfl,ha,e0,e1,e2,p0,p1,p2⟩:=id pg;have pn:∀i p,ds[i]?=Wv p->∀v,x1[i]?=Wv v->aN A N X v p:=λi p hp v hv=>by
  obtain⟨t,ht,pa⟩:=p1.get hv;rw[hp]at ht;cases ht;exact pa
 refine⟨_,(af (Å 2 iW.nd (į qu T.ni ((fN (N:=["deed"]) (own:=1) (fr:=[]) (cN.of (by kernel_rfl!)) rfl (bu (aq (fv 0) rfl)) (λb=>Ó (i:=0) (show QR (["deed"]:List Rb) by decide+kernel) rfl) (λb=>gW) (λb=>bj (aq (fv 0) rfl^aq (fv 0) rfl^ae)))^ae)))
  (af (Å 3 iW.nd (ao (hj:=by lia) (E6 T d) hr (fv 0^ae)))
  (af (Å 4 iW.nd (aZ ae))
  (af (bG Qz rfl (bu (ao (hj:=by lia) (xp T d) hr (fv 0^ae))) (j3 rfl (bI (Ó (i:=5) iW.nd rfl) (bI (Ó (i:=6) iW.nd rfl) (bI (Ó (i:=7) iW.nd rfl) hV))))
   (af (aU (ij (fv 4) ((ao (hj:=by lia) (JG T) hr (fv 5^fv 6^fv 7^fv 2^ae))^ae)))
   (ag (aP (aQ (fv 1) (λ_=>rfl))
    (ag (aU (ij (fv 4) ((ao (hj:=by lia) (Kj T d) hr (fv 5^fv 3^ae))^ae))))
    aJ))))
  (ag (aE (fv 4))))))),?_⟩
 have lx:=p1.len;have dln:=O.dk.ln;refine ah λM1 K1=>Á (s0 _ _ ha) T.bc.cl T.br rfl (NI {{_,À.of (s0 _ _ e1)},gz (K:=K) (own:=1) ds (λ_=>true) (PoE N X) (À.of (s0 _ _ e1)) lx (aL ()) ?_ ?_ ?_ ?_})
 ·intro b i x p v0 H1 Nn Y hx he hv s1 no yes;obtain⟨u0,rfl⟩:∃u0,v0=[u0]:=by
   match v0,hv with
   | [u],_=>exact⟨u,rfl⟩
  have pa:=pn i p he x hx;have dt:=O.dk.bf p (NO he);cases p with
  |bf n i' ps b'=>
   unfold aN at pa;obtain⟨a',Ų,pp,pb,xb,rfl,h1,h2,h3,h4⟩:=pa;have sX:=s0.trans s1;exact Á (sX _ _ h1) T.a8.cl T.b4 rfl (Á (sX _ _ h1) T.a8.cl T.cP rfl {by show 2<=sizeLine;decide,λtp đ=>yes rfl [Wv (.ref a')] _ _ rfl (ai.upd đ _) {tp,pp,rfl,av,by rw[h2];simp[sS,Ĥ,nV,Vi]}})
  |_=>exact dt.elim
 ·rintro e y H1 H2 s1 ⟨t,pp,e1,h1,h2⟩;exact{t,pp,e1,s1 _ _ h1,h2}
 ·rintro e y H1 D ys zs hD ⟨t,pp,e1,h1,h2⟩;exact{t,pp,e1,aK (λz=>by rw[z,hD]at h1;cases h1) h1,h2}
 intro L1 H1 ys Ŝ s1 Ű pr;rw[gj]at pr;obtain⟨ps,kvs,rfl,k2,k3,k4,k5'⟩:=Em pr;have kl:kvs.length=ds.length:=by
  have:=congrArg SH k3;simpa using this
 have knd:(kvs.map (·.1)).Nodup:=by
  rw[k3];have h:=O.nn;unfold QR at h⊢;rw[OY]at h⊢;exact h.imp λn e=>n (N8.inj e)
 refine{L1,ps,kvs,rfl,À.of Ű,k2,(),λi t k v ht hk=>Ò.of (k4 i t k v ht hk),λD hD=>?_};obtain⟨s2,eD⟩:=Ñ hD (HO.dK (bT [] kvs));generalize upd H1 D _=H2 at s2 eD⊢;rw[nv kvs [] (by simpa using knd),OA]at eD;have PO:FY X H2 D (ć N ds) (ds.map (ó N)):=by
  refine{kvs,eD,λx hx=>?_};obtain⟨p,mp,rfl⟩:=N4.mp hx;rw[G1 O.nn mp];obtain⟨pp,m,z⟩:=k5' p mp;exact⟨O.pn p mp,pp,Cu knd m,z⟩
 have t2:=s1.trans s2;refine K1 _ _ ?_;clear K1 M1;rfl'
 refine ah λM1 K1=>{N,X,.ref a,hs,ds,ms,rfl,s0.trans t2,pg,O.dk,λD2 H3 s3 hD2 kD2=>K1 _ _ ?_};clear K1 M1;rfl'
 refine ah λM1 K1=>{NS _,λF hF=>?_};obtain⟨s4,eF⟩:=Ñ hF (HO.lst []);generalize upd H3 F _=H4 at s4 eF⊢;have t4:=(t2.trans s3).trans s4;have hF0:H F=Ww:=ai.free (t2.trans s3) hF;have eD4:=s4 _ _ (s3 _ _ eD);have FD:F≠D:=Wx hF (s3 _ _ eD);refine K1 _ _ ?_;clear K1 M1;rfl'
 refine ah λM1 K1=>{N,X,.ref a,hs,ds,ms,rfl,s0.trans t4,pg,O.ok,λL zs H5 s5 hL eL ly=>?_};have LF:L≠F:=Wx hL eF;have nb:=O.ok.nb;have ok5:=O.k5;have okc:=O.cal;have okl:=O.lo;have oll:=O.ll b;have ock:=O.ck;unfold dQ at oll q;generalize bC N ds ms=es at ly nb ok5 okc okl oll ock q;have ũ:=Qy ly;refine NI {{_,À.of eL},bw (K:=K) (xs:=zs) (λi B Hd=>∃(ws:List V)(v5 v6 v7:Option V),B=[Wv (.ref a),Wv (.bl b),Wv (.ref D),Wv (.ref D2),Wv (.ref F),v5,v6,v7]/\Sm [F] H5 Hd/\Hd F=Wv (.lst ws)/\ę Hd ((es.take i).flatMap (rN N b ds)) ws) {[],Ww,Ww,Ww,rfl,Sm.refl _ _,s5 _ _ eF,.nil} (λi B Hd _ ⟨_,_,_,_,_,z,_⟩=>À.of (z _ _ (λm=>LF (NF.mp m)) eL)) ?_ ?_}
 ·rintro i y B Hd hy ⟨ws,v5,v6,v7,rfl,sd,hFd,lw⟩;obtain⟨e,he,tp,v,rfl,ŀ,pa⟩:=cv ly hy;have Ů:=sd _ _ (λm=>by rw[NF.mp m,s5 _ _ eF]at ŀ;cases ŀ) ŀ;have sX:ai X Hd:=sd.same ((s0.trans t4).trans s5) (λm hm=>by
   rw[NF.mp hm];exact ai.free s0 hF0)
  have me:=NO he;have ne:=nb e me;have eDd:Hd D=Wv (.dK kvs):=sd _ _ (λm=>FD (NF.mp m).symm) (s5 _ _ eD4);have st:=qD (rN N b ds) he;have sl:=F5 (rN N b ds) he;have llw:=Qy lw;have kDd:lR N Hd D2 (ds.map ð) λi=>oI (õ eJ Ww ds i):=by
   obtain⟨kw,k1,k2⟩:=kD2;exact{kw,sd _ _ (λm=>by rw[NF.mp m]at k1;rw[k1]at hF;cases hF) ((s4.trans s5) _ _ k1),k2}
  have slB:(rN N b ds e).length=(uF N (ć N ds) e.1 e.2.1 e.2.2).length+(GD b (õ eJ Ww ds) e.1).length:=NG;rfl'
  refine{tp,_,rfl,Ò.of Ů,rfl,_,_,rfl,_,_,rfl,_,_,rfl,rfl,ah λN1 J1=>{NI {rfl,_,À.of hFd},N,X,v,e.1,e.2.1,e.2.2,D,ć N ds,ds.map (ó N),rfl,sX,pa,ok5 e me,ne,okl e me,PO.same (λě h=>by rw[eD]at h;cases h;exact eDd),okc e me,λR2 us He s6 Τ Ĺ l6=>?_}};have lu:=Qy l6;refine{_,_,_,_,rfl,rfl,s6 _ _ hFd,Ĺ,sz (),J1 _ _ ?_};clear J1 N1;have sd1:=(sd.trans (Sm.new s6)).trans (Sm.at (H:=He) (NF.mpr rfl) (.lst (ws++us)));have hF1:upd He F (.lst (ws++us)) F=Wv (.lst (ws++us)):=av;have lw1:=qj (H:=H) (R2:=R2) s6 hFd lw l6;have kD1:lR N (upd He F (.lst (ws++us))) D2 (ds.map ð) λi=>oI (õ eJ Ww ds i):=by
   obtain⟨kw,k1,k2⟩:=kDd;exact{kw,aK (λz=>by rw[z,hFd]at k1;cases k1) (s6 _ _ k1),k2}
  generalize upd He F (.lst (ws++us))=H6 at sd1 hF1 lw1 kD1⊢;have š:ai X H6:=sd1.same ((s0.trans t4).trans s5) (λm hm=>by
   rw[NF.mp hm];exact ai.free s0 hF0)
  obtain⟨oc1,oc2⟩:=ock e me;cases b with
  |false=>
   refine{_,rfl,aT {_,_,_,_,rfl,sd1,hF1,?_}};rw[st,show rN N false ds e=uF N (ć N ds) e.1 e.2.1 e.2.2 from Oi _];exact lw1
  |true=>
   refine{_,rfl,bo {NI {rfl,_,À.of hF1},N,X,v,D2,e.1,ds.map ð,õ eJ Ww ds,rfl,š,pa,ne,oc2,oc1,kD1,λR3 u3 H7 s7 hR3 eR3 l7=>?_}};have lu3:=Qy l7;have slB':(GD true (õ eJ Ww ds) e.1).length=(tY (õ eJ Ww ds) e.1).length:=rfl;refine{_,_,_,_,rfl,rfl,s7 _ _ hF1,eR3,sz (by rw[NG];lia),{_,_,_,_,rfl,(sd1.trans (Sm.new s7)).trans (Sm.at (NF.mpr rfl) _),av,?_}};rw[st,show rN N true ds e=uF N (ć N ds) e.1 e.2.1 e.2.2++tY (õ eJ Ww ds) e.1 from rfl,<-Oz];exact qj (H:=H) (R2:=R3) s7 hF1 lw1 l7
 rintro B Hd ⟨ws,v5,v6,v7,rfl,sd,hFd,lw⟩;rw[show es.take zs.length=es by rw[<-ũ];exact N0]at lw;exact K1 _ _ (q F ws Hd (sd.same (t4.trans s5) (λm hm=>by rw[NF.mp hm];exact hF0)) hF0 hFd lw)
def uX(t:Pt):Bool:=decide (t.ci=2)||decide (t.ci=4)
def sOf(N:Nat->Str):Pt->Str×Int
 | .leaf _ (.Ĭ i r _)=>(N i,r)
 | .leaf _ (.lt i r)=>(N i,r)
 |_=>(Q4,0)
def jc(N:Nat->Str)(hs:List Pt):List (Str×Int):=(hs.filter uX).map (sOf N)
def SrE(s:Str×Int)(y:V)(H:Hp):Prop:=∃t,y=V.ref t/\H t=Wv (.tup [.str s.1,.int s.2])
theorem JN(T:Txt K mg A){X H:Hp}(s:ai X H){v:V}{t:Pt}(h:aN A N X v t)(e:uX t=true){Q Q2:VK}(q:(∀{R:VK},R (.int (sOf N t).2) H->nQ K "rank" v H R)->Q (.str (sOf N t).1) H):nQ K "name" v H Q:=by
 cases t with
 |leaf n r=>
  unfold aN at h;obtain⟨a,dx,p,rfl,h1,h2⟩:=h;cases r with
  |Ĭ i _ _=>exact Á (s _ _ h1) T.bq.cl T.dE rfl (q λr=>Á (s _ _ h1) T.bq.cl T.fj rfl r)
  |lt i _=>exact Á (s _ _ h1) T.cC.cl T.fu rfl (q λr=>Á (s _ _ h1) T.cC.cl T.fY rfl r)
  |_=>cases e
 |_=>cases e
inductive tU(A:Ì)(vs:List V)(H:Hp)(Q:VK)(Ã:XK):Prop
 |mk(N:Nat->Str)(X:Hp)(v:V)(hs ds ms:List Pt)(z0:vs=[v])(z1:ai X H)(z2:mB A N X v hs ds ms)(z3:hs.length<=300)
  (z4:∀(R:Qs)(ys:List V)(H':Hp),ai H H'->H R=Ww->H' R=Wv (.lst ys)->Paired (λs y=>SrE s y H') (jc N hs) ys->Q (.ref R) H'):tU A vs H Q Ã
theorem wO(T:Txt K mg A):T.sources.Hz P w base 1 (tU A):=by
 refine T.sources.hs Bc (λf Ä A' outer s H vs Q E' hr hu h=>?_);obtain⟨N,X,v,hs,ds,ms,rfl,s0,⟨a,dx,n0,n1,n2,x0,x1,x2,rfl,ha,e0,e1,e2,p0,p1,p2⟩,hl,q⟩:=h;refine{_,(ag (aE (fN (N:=["head"]) (own:=1) (fr:=[]) (cN.of (by kernel_rfl!)) rfl (bu (aq (fv 0) rfl)) (λb=>Ó (i:=0) (show QR (["head"]:List Rb) by decide+kernel) rfl) (λb=>Bm (PW.pt (pw_or (aQ (Ê aI T.ax (fv 0^aO T.bq.mg^ae)) (λ_=>rfl)) (pw_or1 (aQ (Ê aI T.ax (fv 0^aO T.cC.mg^ae)) (λ_=>rfl)))))) (λb=>bj (aq (fv 0) rfl^aq (fv 0) rfl^ae))))),Á (s0 _ _ ha) T.bc.cl T.cO rfl (NI {{_,À.of (s0 _ _ e0)},gz (K:=K) (own:=1) hs uX (λt y H=>SrE (sOf N t) y H) (À.of (s0 _ _ e0)) p0.len (aL (by rw[p0.len];lia)) ?_ ?_ ?_ ?_})}
 ·intro b i x t v0 H1 Nn Y hx he hv s1 no yes;obtain⟨u0,rfl⟩:∃u0,v0=[u0]:=by
   match v0,hv with
   | [u],_=>exact⟨u,rfl⟩
  obtain⟨t',ht,pa⟩:=p0.get hx;rw[he]at ht;cases ht;have sX:=s0.trans s1;have go:uX t=true->nQ K "name" x H1 λv1 H2=>nQ K "rank" x H2 λv2 H3=>2<=sizeLine/\∀p,H3 p=Ww->Y [Wv x] (.ref p) (upd H3 p (.tup [v1,v2])):=λe=>by
   exact JN T sX pa e (Q2:=Q) λrk=>rk {∅,λtp đ=>yes e [Wv x] _ _ rfl (ai.upd đ _) ⟨tp,rfl,av⟩}
  by_cases c2:t.ci=2
  ·exact cq T sX pa c2 (bo (bo (go (by unfold uX;rw[decide_eq_true c2];rfl))))
  by_cases c4:t.ci=4
  ·exact bz T sX pa c2 (aT (cq T sX pa c4 (bo (go (by unfold uX;rw[decide_eq_true c4,Bool.or_true])))))
  exact bz T sX pa c2 (aT (bz T sX pa c4 (aT (no (by unfold uX;rw[decide_eq_false c2,decide_eq_false c4];rfl) [Wv x] _ rfl (ai.refl _)))))
 ·rintro e y H1 H2 s1 ⟨t,e1,h1⟩;exact{t,e1,s1 _ _ h1}
 ·rintro e y H1 D ys zs hD ⟨t,e1,h1⟩;exact{t,e1,aK (λz=>by rw[z,hD]at h1;cases h1) h1}
 intro R H1 ys hR s1 e1 pr;exact q R ys H1 s1 hR e1 (fJ _ pr)
def WH(N:Nat->Str)(hs:List Pt)(rk:Int):List Str:=((jc N hs).filter λs=>decide (s.2=rk)).map (·.1)
theorem CU{α:Type}{f:α->Str}{src:List α}:∀{ys:List V},Paired (λt y=>y=V.str (f t)) src ys->ys=sS (src.map f)
 |_,.nil=>rfl
 |_,.cons h r=>by rw[h,CU r];rfl
inductive iL(A:Ì)(vs:List V)(H:Hp)(Q:VK)(Ã:XK):Prop
 |mk(N:Nat->Str)(X:Hp)(v:V)(rk:Int)(hs ds ms:List Pt)(z0:vs=[v,.int rk])(z1:ai X H)(z2:mB A N X v hs ds ms)(z3:hs.length<=300)
  (z4:∀(R:Qs)(H':Hp),ai H H'->H R=Ww->H' R=Wv (.lst (sS (WH N hs rk)))->Q (.ref R) H'):iL A vs H Q Ã
theorem zV(T:Txt K mg A):T.pF.Hz P w base 2 (iL A):=by
 refine T.pF.hs (k:=1) vK (λf Ä A' outer s H vs Q E' hr hu h=>?_);obtain⟨N,X,v,rk,hs,ds,ms,rfl,s0,pg,hl,q⟩:=h;refine{_,(ag (aE (fN (N:=["place","its_rank","rank"]) (own:=2) (fr:=[1]) (cN.of (by kernel_rfl!)) rfl (bu (ao (wO T) hr (fv 0^ae))) (λb=>j3 rfl (bI (Ó (i:=0) (show QR (["place","its_rank","rank"]:List Rb) by decide+kernel) rfl) (bI (Ó (i:=1) (show QR (["place","its_rank","rank"]:List Rb) by decide+kernel) rfl) hV))) (λb=>Bm (Ö (cK hu) (fv 1) (fv 2))) (λb=>fv 0)))),{N,X,v,hs,ds,ms,rfl,s0,pg,hl,λL ys H1 s1 hL eL pr=>?_}};have ln:=Qy pr;have l2:(jc N hs).length<=hs.length:=by
  unfold jc;rw[NH];exact Ou _ _
 refine NI {{_,À.of eL},gz (K:=K) (own:=2) (jc N hs) (λs=>decide (s.2=rk)) (λs y _=>y=.str s.1) (À.of eL) ln.symm (aL ()) ?_ (λ_ _ _ _ _ h=>h) (λ_ _ _ _ _ _ _ h=>h) ?_}
 ·intro b i x t v0 H2 Nn Y hx he hv s2 no yes;obtain⟨u0,u1,rfl⟩:∃u0 u1,v0=[u0,u1]:=by
   match v0,hv with
   | [u,u'],_=>exact⟨u,u',rfl⟩
  obtain⟨t',ht,tp,rfl,ŀ⟩:=cv pr hx;rw[he]at ht;cases ht;refine{tp,_,rfl,Ò.of (s2 _ _ ŀ),rfl,_,_,rfl,_,_,rfl,rfl,{rfl,_,rfl,bg (λc=>?_) (λc=>?_)}}
  ·have e:t.2=rk:=V.int.inj (of_decide_eq_true c);exact yes (decide_eq_true e) [Wv (.str t.1),Wv (.int t.2)] _ _ rfl (ai.refl _) rfl
  have e:¬ t.2=rk:=λz=>c (decide_eq_true (by rw[z]));exact no (decide_eq_false e) [Wv (.str t.1),Wv (.int t.2)] _ rfl (ai.refl _)
 intro R H2 zs hR s2 e2 pz;refine q R H2 (s1.trans s2) (ai.free s1 hR) ?_;rw[e2,CU pz];rfl
def kP(ls:List Lk)(x:Str):List Lk:=ls.filter λl=>decide (l.fr=x)
structure gU(H:Hp)(W:Qs)(kvs:List (Key×V))(pls:List Str)(wa:Str->Qs)(ls:List Lk):Prop where
 d:H W=Wv (.dK kvs)
 v:∀x∈pls,L2.cc kvs (.inr x)=Wv (.ref (wa x))
 i:∀x∈pls,∀y∈pls,wa x=wa y->x=y
 l:∀x∈pls,∃ys,H (wa x)=Wv (.lst ys)/\ę H (kP ls x) ys
theorem gU.same{H H':Hp}{W:Qs}{kvs:List (Key×V)}{pls:List Str}{wa:Str->Qs}{ls:List Lk}(h:gU H W kvs pls wa ls)(s:ai H H'):gU H' W kvs pls wa ls:=
 ⟨s _ _ h.d,h.v,h.i,λx hx=>by
  obtain⟨ys,e,l⟩:=h.l x hx;exact{ys,s _ _ e,l.same λ_ _ z=>s _ _ z}⟩
theorem gU.push{H:Hp}{W:Qs}{kvs:List (Key×V)}{pls:List Str}{wa:Str->Qs}{ls:List Lk}(h:gU H W kvs pls wa ls){l:Lk}{t:Qs}(ht:H t=Wv (.tup l.vs))(hl:l.fr∈pls){ys:List V}(e:H (wa l.fr)=Wv (.lst ys))(pr:ę H (kP ls l.fr) ys) :
  gU (upd H (wa l.fr) (.lst (ys++[.ref t]))) W kvs pls wa (ls++[l]):=by
 have kp:∀x w,H x=Wv (.tup w)->upd H (wa l.fr) (.lst (ys++[.ref t])) x=Wv (.tup w):=λx w z=>aK (λy=>by rw[y,e]at z;cases z) z
 refine{aK (λz=>by have:=h.d;rw[z,e]at this;cases this) h.d,h.v,h.i,λx hx=>?_}
 by_cases c:x=l.fr
 ·subst c;refine{_,av,?_};have:kP (ls++[l]) l.fr=kP ls l.fr++[l]:=by
   unfold kP;rw[OC,Pp (by exact decide_eq_true rfl),OQ]
  rw[this];exact Paired.two (pr.same kp) (.cons {t,rfl,kp _ _ ht} .nil)
 obtain⟨zs,e2,p2⟩:=h.l x hx
 have:kP (ls++[l]) x=kP ls x:=by
  unfold kP;rw[OC,Po (by simp;exact λz=>c z.symm),OQ,Oi]
 rw[this]
 exact{zs,aK (λz=>c (h.i x hx _ hl z)) e2,p2.same kp}
structure WyP(G:Hp)(pls:List Str)(D:Qs)(i:Nat)(ys:List V)(H:Hp)(ls:List Qs):Prop where
 n:ls.length=i
 m:ys.length=i
 nd:ls.Nodup
 nD:D∉ls
 e:∀l∈ls,H l=Wv (.lst [])
 f:∀l∈ls,G l=Ww
 t:∀(j:Nat) y x l,ys[j]?=Wv y->pls[j]?=Wv x->ls[j]?=Wv l->∃t,y=V.ref t/\H t=Wv (.tup [.str x,.ref l])
theorem Ft{H:Hp}:∀{pls:List Str}{ls:List Qs}{ys:List V},ls.length=pls.length->ys.length=pls.length->(∀(j:Nat) y x l,ys[j]?=Wv y->pls[j]?=Wv x->ls[j]?=Wv l->∃t,y=V.ref t/\H t=Wv (.tup [.str x,.ref l]))->
  ∃ps:List Qs,ys=ps.map V.ref/\ps.length=pls.length/\∀(i:Nat) t k v,ps[i]?=Wv t->((pls.zip ls).map λxl=>((N8 xl.1:Key),V.ref xl.2))[i]?=Wv (k,v)->H t=Wv (.tup [kV k,v])
 | [],ls,ys,h1,h2,h3=>by
  cases ys with
  |nil=>exact{[],rfl,rfl,λi t k v h=>by simp at h}
  |cons y r=>cases h2
 |x::pls,l::ls,y::ys,h1,h2,h3=>by
  obtain⟨t,e,ht⟩:=h3 0 y x l rfl rfl rfl;obtain⟨ps,e1,e2,e3⟩:=Ft (pls:=pls) (ls:=ls) (ys:=ys) (by simpa using h1) (by simpa using h2) (λj y' x' l' a b c=>h3 (j+1) y' x' l' a b c);refine{t::ps,by rw[e,e1];rfl,by simp[e2],λi t' k v a b=>?_};cases i with
  |zero=>cases a;cases b;exact ht
  |succ i=>exact e3 i t' k v a b
 |x::pls,[],ys,h1,_,_=>by cases h1
 |x::pls,l::ls,[],_,h2,_=>by cases h2
theorem WS{x y:Str}{l:Qs}:∀{pls:List Str}{ls:List Qs},ls.Nodup->(x,l)∈pls.zip ls->(y,l)∈pls.zip ls->x=y
 |p::pls,q::ls,nd,h1,h2=>by
  rw[Oq]at nd;rw[List.zip_cons_cons,NJ]at h1 h2;rcases h1 with h1|h1<;>rcases h2 with h2|h2
  ·cases h1;cases h2;rfl
  ·cases h1;exact absurd (OX h2).2 nd.1
  ·cases h2;exact absurd (OX h1).2 nd.1
  exact WS nd.2 h1 h2
 | [],_,_,h1,_=>by simp at h1
 |_::_,[],_,h1,_=>by simp at h1
def waO(kvs:List (Key×V))(x:Str):Qs:=match L2.cc kvs (.inr x)with
 |some (.ref l)=>l
 |_=>0
inductive CM(A:Ì)(d:Nat)(vs:List V)(H:Hp)(Q:VK)(Ã:XK):Prop
 |mk(N:Nat->Str)(X:Hp)(v:V)(b:Bool)(hs ds ms:List Pt)(z0:vs=[v,.bl b])(z1:ai X H)(z2:mB A N X v hs ds ms)(z3:OkL N d hs ds ms)(z5:∀l∈dQ N b ds ms,l.fr∈a9 N hs ds ms)
  (z4:∀(W:Qs)(kvs:List (Key×V))(wa:Str->Qs)(H':Hp),ai H H'->gU H' W kvs (a9 N hs ds ms) wa (dQ N b ds ms)->Q (.ref W) H'):CM A d vs H Q Ã
theorem Jk(T:Txt K mg A)(d:Nat):T.x4.Hz P w base (3*d+10) (CM A d):=by
 refine T.x4.hs (k:=3*d+9) pQ (λf Ä A' outer s H vs Q E' hr hu h=>?_);obtain⟨N,X,v,b,hs,ds,ms,rfl,s0,pg,O,frp,q⟩:=h;refine⟨_,(af (Å 2 pQ.nd (į qu T.ni ((fN (N:=["place"]) (own:=1) (fr:=[]) (cN.of (by kernel_rfl!)) rfl (bu (ao (hj:=by lia) (yz T d) hr (fv 0^ae))) (λb=>Ó (i:=0) (show QR (["place"]:List Rb) by decide+kernel) rfl) (λb=>gW) (λb=>bj (fv 0^aZ ae^ae)))^ae)))
  (af (bG Qz rfl (bu (ao (hj:=by lia) (Ax.has (Hy T d)) hr (fv 0^fv 1^ae))) (Ó (i:=3) pQ.nd rfl)
   (ag (aU (bx (px hu (fv 2) (px hu (fv 3) aj)) (fv 3^ae)))))
  (ag (aE (fv 2))))),?_⟩
 have pln:=O.ok.pl;have pnd:=O.ok.nd;refine ah λM1 K1=>{N,X,v,hs,ds,ms,rfl,s0,pg,O.ok,λL1 H1 s1 Ŝ Ű=>?_};generalize a9 N hs ds ms=pls at Ű pln pnd frp q;refine NI {{_,À.of Ű},mG (K:=K) (own:=1) (λD i ys H=>∃ls,WyP H1 pls D i ys H ls) (À.of Ű) (aL (by rw[NH];lia)) (λD hD=>{[],rfl,rfl,PB,by simp,by simp,by simp,λj y x l h=>by simp at h}) ?_ ?_}
 ·rintro b D i x v0 Hc ys Nn Y hx hv hD sc eD ⟨ls,w⟩ no yes;obtain⟨u0,rfl⟩:∃u0,v0=[u0]:=by
   match v0,hv with
   | [u],_=>exact⟨u,rfl⟩
  refine show _/\∀p,Hc p=Ww->_ from{by show 0<=sizeLine;decide,λl hl=>?_};obtain⟨s2,el⟩:=Ñ hl (HO.lst []);refine{by show 2<=sizeLine;decide,λtp đ=>?_};obtain⟨s3,et⟩:=Ñ đ (HO.tup [x,.ref l]);refine yes [Wv x] _ _ rfl (s2.trans s3) {ls++[l],?_};have lD:l≠D:=Wx hl eD;have tD:tp≠D:=Wx đ (s2 _ _ eD);have ë:l∉ls:=λm=>by rw[w.e l m]at hl;cases hl
  rw[NX]at hx;have tk:∀z u,Hc z=Wv u->z≠D->upd (upd (upd Hc l (.lst [])) tp (.tup [x,.ref l])) D (.lst (ys++[.ref tp])) z=Wv u:=λz u h n=>aK n (s3 _ _ (s2 _ _ h));refine{by simp[w.n],by simp[w.m],OF.mpr {w.nd,by simp,λa ma b mb e=>by rw[NF]at mb;exact ë (mb▸e▸ma)},λm=>?_,λa ma=>?_,λa ma=>?_,λj y x' l' hy ϕ hl'=>?_}
  ·rcases NQ.mp m with m|m
   ·exact w.nD m
   exact lD (NF.mp m).symm
  ·rcases NQ.mp ma with m|m
   ·exact tk _ _ (w.e a m) (λz=>w.nD (z▸m))
   rw[NF.mp m];exact aK lD (s3 _ _ el)
  ·rcases NQ.mp ma with m|m
   ·exact w.f a m
   rw[NF.mp m];exact ai.free sc hl
  by_cases jl:j<i
  ·rw[ON (by rw[w.m];exact jl)]at hy;rw[ON (by rw[w.n];exact jl)]at hl';obtain⟨t,e,ht⟩:=w.t j y x' l' hy ϕ hl';exact{t,e,tk _ _ ht (λz=>by rw[z,eD]at ht;cases ht)}
  have ji:j=i:=by
   have:=(NW.mp hy).1;rw[NG,w.m,N6]at this;lia
  subst ji;rw[OJ (by rw[w.m];exact NM _),w.m,Nat.sub_self]at hy;rw[OJ (by rw[w.n];exact NM _),w.n,Nat.sub_self]at hl';cases hy;cases hl';rw[ϕ]at hx;cases hx;exact⟨tp,rfl,aK tD et⟩
 rintro D H2 ys hD s2 eD ⟨ls,w⟩;have wn:=w.n;have wm:=w.m;rw[NH]at wn wm;obtain⟨ps,rfl,k1,k2⟩:=Ft wn wm w.t;generalize Ķ:((pls.zip ls).map λxl=>((N8 xl.1:Key),V.ref xl.2))=kvs at k2;have kl:kvs.length=pls.length:=by rw[<-Ķ,NH,Pb,wn,Nat.min_self]
 have kf:kvs.map (·.1)=pls.map N8:=by
  rw[<-Ķ,OD];show(pls.zip ls).map (λxl=>(N8 xl.1:Key))=_;rw[show(λxl:Str×Qs=>(N8 xl.1:Key))=N8∘Prod.fst from rfl,<-OD,List.map_fst_zip ()]
 have knd:(kvs.map (·.1)).Nodup:=by
  rw[kf];unfold QR at pnd⊢;rw[OY];exact pnd.imp λn e=>n (N8.inj e)
 refine{D,ps,kvs,rfl,À.of eD,(),(),λi t k v ht hk=>Ò.of (k2 i t k v ht hk),λW hW=>?_};obtain⟨s3,eW⟩:=Ñ hW (HO.dK (bT [] kvs));generalize upd H2 W _=H3 at s3 eW⊢;rw[nv kvs [] (by simpa using knd),OA]at eW;have inj:∀x∈pls,∃l∈ls,L2.cc kvs (.inr x)=Wv (.ref l)/\(x,l)∈pls.zip ls:=λx hx=>by
  obtain⟨j,hj,e⟩:=Uv hx;have hl:j<ls.length:=()
  have m:(x,ls[j])∈pls.zip ls:=List.mem_iff_getElem.mpr {j,by rw[Pb];lia,by rw[List.getElem_zip,e]};exact{ls[j],Vv hl,Cu knd (by rw[<-Ķ];exact N4.mpr {(x,ls[j]),m,rfl}),m}
 have wv:∀x∈pls,L2.cc kvs (.inr x)=Wv (.ref (waO kvs x))/\(x,waO kvs x)∈pls.zip ls:=λx hx=>by
  obtain⟨l,ml,e,m⟩:=inj x hx;have:waO kvs x=l:=by unfold waO;rw[e]
  rw[this];exact⟨e,m⟩
 have wl:∀x∈pls,waO kvs x∈ls:=λx hx=>(OX (wv x hx).2).2;have t3:=(s1.trans s2).trans s3;have W0:gU H3 W kvs pls (waO kvs) []:={eW,λx hx=>(wv x hx).1,λx hx y hy e=>WS w.nd (wv x hx).2 (e▸(wv y hy).2),λx hx=>{[],s3 _ _ (w.e _ (wl x hx)),.nil}};generalize waO kvs=wa at wl W0;have wf:∀m∈pls.map wa,H m=Ww:=λm hm=>by
  obtain⟨x,hx,rfl⟩:=N4.mp hm;exact ai.free s1 (w.f _ (wl x hx))
 refine K1 _ _ ?_;clear K1 M1;rfl'
 refine ah λM1 K1=>{N,X,v,b,hs,ds,ms,rfl,s0.trans t3,pg,O,λR zs H4 s4 hR eR lk=>?_};have W4:=W0.same s4;have nR:R∉pls.map wa:=λm=>by
  obtain⟨x,hx,rfl⟩:=N4.mp m;obtain⟨ys,e,_⟩:=W0.l x hx;rw[hR]at e;cases e
 have nt:∀t u,H4 t=Wv (.tup u)->t∉pls.map wa:=λt u e m=>by
  obtain⟨x,hx,rfl⟩:=N4.mp m;obtain⟨ys,e2,_⟩:=W4.l x hx;rw[e]at e2;cases e2
 have ll:=O.ll b;generalize dQ N b ds ms=ks at lk frp ll q;have lln:=Qy lk;refine NI {{_,À.of eR},bw (K:=K) (xs:=zs) (λi B Hd=>∃(v3:Option V),B=[Wv v,Wv (.bl b),Wv (.ref W),v3]/\Sm (pls.map wa) H4 Hd/\gU Hd W kvs pls wa (ks.take i)) {Ww,rfl,Sm.refl _ _,W4} (λi B Hd _ ⟨_,_,z,_⟩=>À.of (z _ _ nR eR)) ?_ ?_}
 ·rintro i y B Hd hy ⟨v3,rfl,sd,Wd⟩;obtain⟨l,hl,t,rfl,et⟩:=cv lk hy;have ml:=NO hl;have et':=sd _ _ (nt _ _ et) et;obtain⟨us,eu,pu⟩:=Wd.l _ (frp l ml);have lu:=Qy pu;have lw:(kP (ks.take i) l.fr).length<=900:=by
   have:=Ou (λm:Lk=>decide (m.fr=l.fr)) (ks.take i);rw[Oh]at this;unfold kP;lia
  rfl'
  refine tix (j:=0) (Ò.of et') rfl (î Wd.d (Wd.v _ (frp l ml)) {NI {rfl,_,À.of eu},{_,_,_,rfl,rfl,eu,aL (),{_,rfl,sd.trans (Sm.at (Oe (frp l ml)) _),?_}}});rw[Od,hl];exact Wd.push et' (frp l ml) eu pu
 rintro B Hd ⟨v3,rfl,sd,Wd⟩;rw[show ks.take zs.length=ks by rw[<-lln];exact N0]at Wd;exact K1 _ _ (q W kvs wa Hd (sd.same (t3.trans s4) wf) Wd)
def Ă(cs:List Str)(l:Lk):List Str:=if l.to∈cs then cs else cs++[l.to]
def ke(ls:List Lk):Nat->Nat->List Str->List Str
 |0,_,cs=>cs
 |n+1,i,cs=>match cs[i]? with
  |none=>cs
  |some x=>ke ls n (i+1) ((kP ls x).foldl Ă cs)
theorem GS(ls:List Lk)(n i:Nat)(cs:List Str)(h:cs.length<=i):ke ls n i cs=cs:=by
 cases n with
 |zero=>rfl
 |succ n=>
  unfold ke;rw[Pf h]
theorem vw:∀{cs pls:List Str},cs.Nodup->(∀x∈cs,x∈pls)->cs.length<=pls.length
 | [],_,_,_=>NS _
 |x::r,pls,nd,h=>by
  rw[Oq]at nd;have m:=h x NL;have:=vw (cs:=r) (pls:=pls.erase x) nd.2 λy hy=>by
   rw[List.mem_erase_of_ne λ(e:y=x)=>nd.1 (e▸hy)];exact h y (NK _ hy)
  rw[List.length_erase_of_mem m]at this;have:=List.length_pos_of_mem m;rw[N7];lia
theorem CV:∀(l:List Lk)(cs:List Str),cs.length<=(l.foldl Ă cs).length
 | [],cs=>NM _
 |k::l,cs=>by
  refine NU ?_ (CV l (Ă cs k));unfold Ă;split
  ·exact NM _
  simp
structure vh(H:Hp)(C Q:Qs)(pls cs:List Str)(kvs:List (Key×V)):Prop where
 c:H C=Wv (.dK kvs)
 k:kvs.map (·.1)=cs.map N8
 q:H Q=Wv (.lst (sS cs))
 nd:cs.Nodup
 s:∀x∈cs,x∈pls
theorem vh.has{H:Hp}{C Q:Qs}{pls cs:List Str}{kvs:List (Key×V)}(h:vh H C Q pls cs kvs)(x:Str):(L2.cc kvs (.inr x)).isSome=decide (x∈cs):=by
 rw[<-i7,OW,Pw,decide_eq_true_iff];constructor
 ·rintro⟨kv,m,e⟩;have:kv.1∈cs.map N8:=h.k▸Oe m;rw[of_decide_eq_true e]at this;obtain⟨y,my,ey⟩:=N4.mp this;exact N8.inj ey▸my
 intro m;have:(N8 x:Key)∈kvs.map (·.1):=by rw[h.k];exact Oe m
 obtain⟨kv,mk,e⟩:=N4.mp this;exact⟨kv,mk,decide_eq_true e⟩
theorem vh.len{H:Hp}{C Q:Qs}{pls cs:List Str}{kvs:List (Key×V)}(h:vh H C Q pls cs kvs):kvs.length=cs.length/\cs.length<=pls.length:=by
 have:=congrArg SH h.k;simp only[NH]at this;exact⟨this,vw h.nd h.s⟩
theorem vh.put{H:Hp}{C Q:Qs}{pls cs:List Str}{kvs:List (Key×V)}(h:vh H C Q pls cs kvs){x:Str}{v:V}(n:x∉cs)(hp:x∈pls):vh (upd (upd H C (.dK (WD kvs (.inr x) v))) Q (.lst (sS cs++[.str x]))) C Q pls (cs++[x]) (kvs++[((N8 x:Key),v)]):=by
 have CQ:C≠Q:=λe=>by have:=h.c;rw[e,h.q]at this;cases this
 have hv:L2.cc kvs (.inr x)=Ww:=by
  have:=h.has x;rw[decide_eq_false n]at this;exact Option.isSome_eq_false_iff.mp this |> Oo.mp
 refine{?_,by rw[Oc,h.k,Oc];rfl,?_,?_,λy hy=>?_}
 ·rw[aR CQ,av,Ag v hv]
 ·rw[av];simp[sS]
 ·exact OF.mpr {h.nd,by simp,λa ma b mb e=>by rw[NF]at mb;exact n (mb▸e▸ma)}
 rcases NQ.mp hy with m|m
 ·exact h.s y m
 rw[NF.mp m];exact hp
inductive xC(A:Ì)(vs:List V)(H:Hp)(Q:VK)(Ã:XK):Prop
 |mk(W S:Qs)(kw:List (Key×V))(pls:List Str)(wa:Str->Qs)(ls:List Lk)(st:List Str)(z0:vs=[.ref W,.ref S])(z1:gU H W kw pls wa ls)(z2:H S=Wv (.lst (sS st)))(z3:st.Nodup)(z4:∀x∈st,x∈pls)(z5:∀l∈ls,l.to∈pls)(z6:pls.length<=900)
  (z7:∀(C:Qs)(kvs:List (Key×V))(H':Hp),ai H H'->H C=Ww->H' C=Wv (.dK kvs)->kvs.map (·.1)=(ke ls pls.length 0 st).map N8->Q (.ref C) H'):xC A vs H Q Ã
theorem C8{H:Hp}:∀{st:List Str}{ys:List V},Paired (λx y=>∃t,y=V.ref t/\H t=Wv (.tup [.str x,.È])) st ys->∃ps:List Qs,ys=ps.map V.ref/\ps.length=st.length/\∀(i:Nat) t k v,ps[i]?=Wv t->(st.map λx=>((N8 x:Key),V.È))[i]?=Wv (k,v)->H t=Wv (.tup [kV k,v])
 |_,_,.nil=>{[],rfl,rfl,(λi t k v h=>by simp at h)}
 |_,_,.cons h r=>by
  obtain⟨t,rfl,h1⟩:=h;obtain⟨ps,e1,e2,e3⟩:=C8 r;refine{t::ps,by rw[e1];rfl,by simp[e2],λi t' k v ht hk=>?_};cases i with
  |zero=>cases ht;cases hk;exact h1
  |succ i=>exact e3 i t' k v ht hk
inductive C7(pls:List Str)(W:Qs)(S:Qs)(C:Qs)(Qa:Qs)(H3:Hp)(ls:List Lk)(st:List Str)(m:Nat)(B:St)(Hd:Hp):Prop
 |mk(i:Nat)(cs:List Str)(kvs:List (Key×V))(v5 v6:Option V):m=pls.length-i->B=[Wv (.ref W),Wv (.ref S),Wv (.ref C),Wv (.ref Qa),Wv (.int i),v5,v6]->Sm [C,Qa] H3 Hd->vh Hd C Qa pls cs kvs->i<=cs.length->ke ls (pls.length-i) i cs=ke ls pls.length 0 st->C7 pls W S C Qa H3 ls st m B Hd
inductive C1(W:Qs)(S:Qs)(C:Qs)(Qa:Qs)(i:Nat)(H3:Hp)(pls:List Str)(ls:List Lk)(st:List Str)(B':St)(H':Hp):Prop
 |mk(ų:List Str)(ě:List (Key×V))(v5 v6:Option V):B'=[Wv (.ref W),Wv (.ref S),Wv (.ref C),Wv (.ref Qa),Wv (.int ((i:Int)+1)),v5,v6]->Sm [C,Qa] H3 H'->vh H' C Qa pls ų ě->i+1<=ų.length->ke ls (pls.length-(i+1)) (i+1) ų=ke ls pls.length 0 st->C1 W S C Qa i H3 pls ls st B' H'
inductive Cv(W:Qs)(S:Qs)(C:Qs)(Qa:Qs)(i:Nat)(x:Str)(H3:Hp)(pls:List Str)(ls:List Lk)(cs:List Str)(j:Nat)(B:St)(He:Hp):Prop
 |mk(ų:List Str)(ě:List (Key×V))(v6:Option V):B=[Wv (.ref W),Wv (.ref S),Wv (.ref C),Wv (.ref Qa),Wv (.int (i:Int)),Wv (.str x),v6]->Sm [C,Qa] H3 He->vh He C Qa pls ų ě->ų=((kP ls x).take j).foldl Ă cs->Cv W S C Qa i x H3 pls ls cs j B He
theorem K8(T:Txt K mg A):T.tT.Hz P w base 1 (xC A):=by
 refine T.tT.hs fE (λf Ä A' outer s H vs Q E' hr hu h=>?_);obtain⟨W,S,kw,pls,wa,ls,st,rfl,hW,hS,snd,ş,tos,pln,q⟩:=h;have stl:=vw snd ş;refine⟨_,(af (Å 2 fE.nd (į qu T.ni ((fN (N:=["place"]) (own:=1) (fr:=[]) (cN.of (by kernel_rfl!)) rfl (bu (fv 1)) (λb=>Ó (i:=0) (show QR (["place"]:List Rb) by decide+kernel) rfl) (λb=>gW) (λb=>bj (fv 0^fz^ae)))^ae)))
  (af (Å 3 fE.nd (į Cn T.fF (fv 1^ae)))
  (af (Å 4 fE.nd aj)
  (af (zR Qz (Ö Me (fv 4) (Ê k8 T.md (fv 3^ae)))
   (af (Å 5 fE.nd (px hu (fv 3) (fv 4)))
   (af (bG Qz rfl (bu (px hu (fv 0) (fv 5))) (Ó (i:=6) fE.nd rfl)
    (ag (aP (Ö (tX hu) (px hu (fv 6) aj) (fv 2) ((by with_unfolding_all rfl)))
     (af (cx (fv 6) (cY (fv 2) (px hu (fv 6) aj) (dU hu Wy)))
     (ag (aU (bx (fv 3) (px hu (fv 6) aj^ae)))))
     aJ)))
   (ag (Es (i:=4) fE.nd rfl (by first|exact NI rfl|exact Ob rfl) aj EU)))))
  (ag (aE (fv 2))))))),?_⟩
 refine ah λM1 K1=>NI {{_,À.of hS},gz (K:=K) (own:=1) st (λ_=>true) (λx y H=>∃t,y=V.ref t/\H t=Wv (.tup [.str x,.È])) (À.of hS) (NH _) (aL (by rw[NH];lia)) ?_ ?_ ?_ ?_}
 ·intro b i x e v0 H1 Nn Y hx he hv s1 no yes;obtain⟨u0,rfl⟩:∃u0,v0=[u0]:=by
   match v0,hv with
   | [u],_=>exact⟨u,rfl⟩
  rw[NX,he]at hx;cases hx;refine show _/\∀p,H1 p=Ww->_ from{by show 2<=sizeLine;decide,λtp đ=>?_};exact yes rfl [Wv (.str e)] _ _ rfl (ai.upd đ _) ⟨tp,rfl,av⟩
 ·rintro e y H1 H2 s1 ⟨t,e1,h1⟩;exact{t,e1,s1 _ _ h1}
 ·rintro e y H1 D ys zs hD ⟨t,e1,h1⟩;exact{t,e1,aK (λz=>by rw[z,hD]at h1;cases h1) h1}
 intro L1 H1 ys Ŝ s1 Ű pr;rw[gj]at pr;obtain⟨ps,rfl,k1,k2⟩:=C8 pr;generalize Ķ:(st.map λx=>((N8 x:Key),V.È))=ϓ at k2;have kf:ϓ.map (·.1)=st.map N8:=by rw[<-Ķ,OD];rfl
 have kl:ϓ.length=st.length:=by rw[<-Ķ,NH]
 have knd:(ϓ.map (·.1)).Nodup:=by
  rw[kf];have h:=snd;unfold QR at h⊢;rw[OY];exact h.imp λn e=>n (N8.inj e)
 refine{L1,ps,ϓ,rfl,À.of Ű,(),(),λi t k v ht hk=>Ò.of (k2 i t k v ht hk),λC hC=>?_};obtain⟨s2,eC⟩:=Ñ hC (HO.dK (bT [] ϓ));generalize upd H1 C _=H2 at s2 eC⊢;rw[nv ϓ [] (by simpa using knd),OA]at eC;have t2:=s1.trans s2;have hC0:H C=Ww:=ai.free s1 hC;refine K1 _ _ ?_;clear K1 M1;rfl'
 refine ah λM1 K1=>NI {S,_,rfl,NI (À.of (t2 _ _ hS)),λQa hQ=>?_};obtain⟨s3,eQ⟩:=Ñ hQ (HO.lst (sS st));generalize upd H2 Qa _=H3 at s3 eQ⊢;have t3:=t2.trans s3;have hQ0:H Qa=Ww:=ai.free t2 hQ;have nf:∀m∈[C,Qa],H m=Ww:=λm hm=>by
  rcases NJ.mp hm with e|hm
  ·rw[e];exact hC0
  rw[NF.mp hm];exact hQ0
 have hm:C∈[C,Qa]/\Qa∈[C,Qa]:={NL,NK _ NL};have cm3:vh H3 C Qa pls st ϓ:={s3 _ _ eC,kf,eQ,snd,ş};refine K1 _ _ ?_;clear K1 M1;rfl'
 refine ah λM1 K1=>K1 _ _ ?_;clear K1 M1;rfl'
 refine ah λM1 K1=>{C7 pls W S C Qa H3 ls st,{_,0,st,ϓ,Ww,Ww,rfl,rfl,Sm.refl _ _,cm3,NS _,rfl},?_};rintro m B Hd ⟨i,cs,kvs,v5,v6,rfl,rfl,sd,cm,il,ar⟩;have cl:=cm.len;refine lnl cm.q ?_;rw[NH];refine{_,rfl,bg (λc=>?_) (λc=>?_)}
 ·have il2:i<cs.length:=by have:=of_decide_eq_true c;lia
  obtain⟨x,hx⟩:∃x,cs[i]?=Wv x:={_,NN il2};have mx:x∈pls:=cm.s x (NO hx);refine{C1 W S C Qa i H3 pls ls st,?_,?_}
  ·rintro B' H' ⟨ų,ě,v5,v6,rfl,a1,a2,a3,a4⟩;exact{pls.length-(i+1),(),i+1,ų,ě,v5,v6,rfl,rfl,a1,a2,a3,a4}
  have ú:ke ls (pls.length-(i+1)) (i+1) ((kP ls x).foldl Ă cs)=ke ls pls.length 0 st:=by
   rw[<-ar,show pls.length-i=pls.length-(i+1)+1 by lia];conv=>rhs;unfold ke
   rw[hx]
  rfl'
  refine ah λN1 J1=>ê (À.of cm.q) (gG (by rw[NX,hx];rfl)) (?_);have sH:ai H Hd:=sd.same t3 nf;have hWd:=hW.same sH;obtain⟨us,eu,pu⟩:=hW.l x mx;have lus:=Qy pu;refine J1 _ _ ?_;clear J1 N1;rfl'
  refine ah λN1 J1=>î hWd.d (hWd.v x mx) (NI {{_,À.of (sH _ _ eu)},bw (K:=K) (xs:=us) (Cv W S C Qa i x H3 pls ls cs) ⟨cs,kvs,v6,rfl,sd,cm,rfl⟩ (λj B He _ ⟨_,_,_,_,z,_,_⟩=>À.of ((z.same t3 nf) _ _ eu)) ?_ ?_})
  ·rintro j y B He hy ⟨ų,ě,v6,rfl,se,ce,rfl⟩;obtain⟨l,hl,t,rfl,et⟩:=cv pu hy;have ml:l∈ls:=(Og.mp (NO hl)).1;have sHe:=se.same t3 nf;have et':=Ò.of (K:=K) (sHe _ _ et);have ώ:((kP ls x).take (j+1)).foldl Ă cs=Ă (((kP ls x).take j).foldl Ă cs) l:=iQ Ă cs hl;generalize ((kP ls x).take j).foldl Ă cs=cj at ce ώ;have cl2:=ce.len;rfl'
   refine tix (j:=1) et' rfl (Ob {C,_,rfl,nG.k (k:=.inr l.to) ce.c,_,rfl,?_});rw[ce.has];unfold Ă at ώ;by_cases m:l.to∈cj
   ·rw[if_pos m]at ώ;rw[decide_eq_true m];exact aT {_,_,_,rfl,se,ce,ώ.symm}
   rw[if_neg m]at ώ;rw[decide_eq_false m];refine bo (ah λO1 I1=>tix (j:=1) et' rfl {_,gI.k (k:=.inr l.to) ce.c (aL ()),I1 _ _ ?_});clear I1 O1;have tC:t≠C:=λz=>by have:=sHe _ _ et;rw[z,ce.c]at this;cases this
   have QC:Qa≠C:=λz=>by have:=ce.q;rw[z,ce.c]at this;cases this
   have eq2:upd He C (.dK (WD ě (.inr l.to) (.ref t))) Qa=Wv (.lst (sS cj)):=aK QC ce.q;have et2:Ò K (upd He C (.dK (WD ě (.inr l.to) (.ref t)))) t l.vs:=Ò.of (aK tC (sHe _ _ et));rfl'
   exact{NI {rfl,_,À.of eq2},tix (j:=1) et2 rfl {_,_,_,rfl,rfl,eq2,aL (by rw[NH];lia),{_,_,_,rfl,(se.trans (Sm.at hm.1 _)).trans (Sm.at hm.2 _),ce.put m (tos l ml),ώ.symm}}}
  rintro B He ⟨ų,ě,v6,rfl,se,ce,ecs⟩;rw[show(kP ls x).take us.length=kP ls x by rw[<-lus];exact N0]at ecs;refine J1 _ _ ?_;have sl:=CV (kP ls x) cs;rw[<-ecs]at sl ú;exact{_,rfl,i,1,rfl,rfl,ų,ě,_,_,rfl,se,ce,(),ú}
 have ie:i=cs.length:=by
  have:¬ ((i:Int)<(cs.length:Int)):=λz=>c (decide_eq_true z);lia
 rw[GS ls _ i cs ()]at ar;exact K1 _ _ (q C kvs Hd (sd.same t3 nf) hC0 cm.c (by rw[cm.k,ar]))
inductive CY(vs:List V)(H:Hp)(Q:VK)(Ã:XK):Prop
 |mk(r:Int):vs=[.int r]->0<=r/\r<=2->Q (.int (1*2^r.toNat)) H->CY vs H Q Ã
theorem JM(T:Txt K mg A):T.only.Hz P w base 1 CY:=by
 refine T.only.hs G8 (λf Ä A' outer s H vs Q E' hr hu h=>?_);obtain⟨r,rfl,Ė,q⟩:=h;exact{_,(ag (aE (aG K0 aj (fv 0)))),{by unfold FR;lia,q}}
inductive wz(vs:List V)(H:Hp)(Q:VK)(Ã:XK):Prop
 |mk(a b:Int):vs=[.int a,.int b]->Q (.int (QW a b)) H->wz vs H Q Ã
theorem FC(T:Txt K mg A):T.joined.Hz P w base 1 wz:=by
 refine T.joined.hs D1 (λf Ä A' outer s H vs Q E' hr hu h=>?_);obtain⟨a,b,rfl,q⟩:=h;exact{_,(ag (aE (aG Nj (fv 0) (fv 1)))),q}
theorem wI{sp:Sp}{dvs:List V}{E:XK}{t:TA}(hs:∀vs H (Q Q':VK),(∀v H,Q v H->Q' v H)->sp vs H Q E->sp vs H Q' E)(ht:∀B H (R R':List V->Hp->Prop),(∀vs H,R vs H->R' vs H)->t B H R->t B H R'):∀B H (Q Q':VK),(∀v H,Q v H->Q' v H)->wY sp dvs E t B H Q->wY sp dvs E t B H Q':=λB H Q Q' h hh=>ht B H _ _ (λvs H1 z=>hs _ _ _ _ h z) hh
theorem ow{te:TE}{t:TA}(he:∀B H (Q Q':VK),(∀v H,Q v H->Q' v H)->te B H Q->te B H Q')(ht:∀B H (R R':List V->Hp->Prop),(∀vs H,R vs H->R' vs H)->t B H R->t B H R'):∀B H (R R':List V->Hp->Prop),(∀vs H,R vs H->R' vs H)->EI te t B H R->EI te t B H R':=λB H R R' h hh=>he B H _ _ (λv H1 z=>ht B H1 _ _ (λvs H2 y=>h _ _ y) z) hh
theorem zr:∀B H (R R':List V->Hp->Prop),(∀vs H,R vs H->R' vs H)->Hr B H R->Hr B H R':=λB H R R' h hh=>h _ _ hh
theorem Ez:∀vs H (Q Q':VK),(∀v H,Q v H->Q' v H)->xC A vs H Q E0->xC A vs H Q' E0:=by
 rintro vs H Q Q' h ⟨W,S,kw,pls,wa,ls,st,z0,z1,z2,z3,z4,z5,z6,z7⟩;exact{W,S,kw,pls,wa,ls,st,z0,z1,z2,z3,z4,z5,z6,λC kvs H' a b c d=>h _ _ (z7 C kvs H' a b c d)}
theorem E7:∀vs H (Q Q':VK),(∀v H,Q v H->Q' v H)->iL A vs H Q E0->iL A vs H Q' E0:=by
 rintro vs H Q Q' h ⟨N,X,v,rk,hs,ds,ms,z0,z1,z2,z3,z4⟩;exact{N,X,v,rk,hs,ds,ms,z0,z1,z2,z3,λR H' a b c=>h _ _ (z4 R H' a b c)}
def bV(g:Str->Int):Key->V
 | .inr x=>.int (g x)
 | .inl _=>.È
def ň(r:Int)(g:Str->Int)(x:Str):Str->Int:=λy=>if y=x then QW (g x) (1*2^r.toNat)else g y
theorem J3(g:Str->Int)(x:Str)(v:Int):vH (bV g) (.inr x) (.int v)=bV λy=>if y=x then v else g y:=by
 funext k
 unfold vH;cases k with
 |inl i=>rw[if_neg (by intro e;cases e)];rfl
 |inr y=>
  by_cases e:y=x
  ·rw[if_pos (by rw[e])];show V.int v=V.int (if y=x then v else g y);rw[if_pos e]
  rw[if_neg λz=>e (N8.inj z)];show V.int (g y)=V.int (if y=x then v else g y);rw[if_neg e]
theorem JK{pls:List Str}{g:Str->Int}{x:Str}{r:Int}(m:x∈pls):WD (sk (pls.map N8) (bV g)) (.inr x) (.int (QW (g x) (1*2^r.toNat)))=sk (pls.map N8) (bV (ň r g x)):=by
 rw[EW,J3,show vC (pls.map N8) (N8 x)=pls.map N8 from if_pos (Oe m)];rfl
def oT(N:Nat->Str)(b:Bool)(hs ds ms:List Pt)(r:Int):List Str:=ke (dQ N b ds ms) (a9 N hs ds ms).length 0 (WH N hs r)
def mD(N:Nat->Str)(b:Bool)(hs ds ms:List Pt):Str->Int:=(ř ((jc N hs).map (·.2))).foldl (λg r=>(oT N b hs ds ms r).foldl (ň r) g) λ_=>0
structure Ψ(N:Nat->Str)(d:Nat)(hs ds ms:List Pt):Prop where
 l:OkL N d hs ds ms
 fr:∀b,∀l∈dQ N b ds ms,l.fr∈a9 N hs ds ms
 to:∀b,∀l∈dQ N b ds ms,l.to∈a9 N hs ds ms
 rk:∀s∈jc N hs,s.2=0\/s.2=1\/s.2=2
 sn:((jc N hs).map (·.1)).Nodup
 ss:∀s∈jc N hs,s.1∈a9 N hs ds ms
theorem gU.sm{H H':Hp}{W á:Qs}{kvs kb:List (Key×V)}{pls:List Str}{wa:Str->Qs}{ls:List Lk}(h:gU H W kvs pls wa ls)(s:Sm [á] H H')(eB:H á=Wv (.dK kb))(n:W≠á):gU H' W kvs pls wa ls:=by
 have t:∀a o,a≠á->H a=Wv o->H' a=Wv o:=λa o m e=>s a o (λz=>m (NF.mp z)) e;refine{t _ _ n h.d,h.v,h.i,λx hx=>?_};obtain⟨ys,e,l⟩:=h.l x hx;exact{ys,t _ _ (λz=>by rw[z,eB]at e;cases e) e,l.same λa u z=>t _ _ (λy=>by rw[y,eB]at z;cases z) z}
theorem Ap{H:Hp}:∀{st:List Str}{ys:List V},Paired (λx y=>∃t,y=V.ref t/\H t=Wv (.tup [.str x,.int 0])) st ys->∃ps:List Qs,ys=ps.map V.ref/\ps.length=st.length/\∀(i:Nat) t k v,ps[i]?=Wv t->(sk (st.map N8) (bV λ_=>0))[i]?=Wv (k,v)->H t=Wv (.tup [kV k,v])
 |_,_,.nil=>{[],rfl,rfl,(λi t k v h=>by simp at h)}
 |_,_,.cons h r=>by
  obtain⟨t,rfl,h1⟩:=h;obtain⟨ps,e1,e2,e3⟩:=Ap r;refine{t::ps,by rw[e1];rfl,by simp[e2],λi t' k v ht hk=>?_};cases i with
  |zero=>cases ht;cases hk;exact h1
  |succ i=>exact e3 i t' k v ht hk
theorem Cc{ls:List Lk}{pls:List Str}(to:∀l∈ls,l.to∈pls):∀(n i:Nat)(cs:List Str),(∀x∈cs,x∈pls)->∀x∈ke ls n i cs,x∈pls
 |0,_,cs,h=>h
 |n+1,i,cs,h=>by
  unfold ke;split
  ·exact h
  next x hx=>
  refine Cc to n (i+1) _ ?_;have:∀(l:List Lk),(∀k∈l,k∈ls)->∀cs:List Str,(∀x∈cs,x∈pls)->∀x∈l.foldl Ă cs,x∈pls:=by
   intro l;induction l with
   |nil=>exact λ_ cs h=>h
   |cons k l ih=>
    intro hl cs h;refine ih (λk' m=>hl k' (NK _ m)) _ λx hx=>?_;unfold Ă at hx;split at hx
    ·exact h x hx
    rcases NQ.mp hx with m|m
    ·exact h x m
    rw[NF.mp m];exact to k (hl k NL)
  exact this _ (λk m=>(Og.mp m).1) cs h
inductive zl(A:Ì)(d:Nat)(vs:List V)(H:Hp)(Q:VK)(Ã:XK):Prop
 |mk(N:Nat->Str)(X:Hp)(v:V)(b:Bool)(hs ds ms:List Pt)(z0:vs=[v,.bl b])(z1:ai X H)(z2:mB A N X v hs ds ms)(z3:Ψ N d hs ds ms)
  (z4:∀(á:Qs)(H':Hp),ai H H'->H á=Ww->H' á=Wv (.dK (sk ((a9 N hs ds ms).map N8) (bV (mD N b hs ds ms))))->Q (.ref á) H'):zl A d vs H Q Ã
theorem By(i:Nat):∀B H (Q Q':VK),(∀v H,Q v H->Q' v H)->EE i B H Q->EE i B H Q':=λB H Q Q' h hh=>by
 unfold EE at hh⊢;split at hh
 ·exact h _ _ hh
 exact hh
theorem zJ{α:Type}{f:α->Int}{src:List α}:∀{ys:List V},Paired (λt y=>y=V.int (f t)) src ys->ys=(src.map f).map V.int
 |_,.nil=>rfl
 |_,.cons h r=>by rw[h,zJ r];rfl
theorem BS(T:Txt K mg A)(d:Nat):T.table.Hz P w base (3*d+11) (zl A d):=by
 refine T.table.hs (k:=3*d+10) mP (λf Ä A' outer s H vs Q E' hr hu h=>?_);obtain⟨N,X,v,b,hs,ds,ms,rfl,s0,pg,O,q⟩:=h;refine⟨_,(af (Å 2 mP.nd (ao (hj:=by lia) (Jk T d) hr (fv 0^fv 1^ae)))
  (af (Å 3 mP.nd (į qu T.ni ((fN (N:=["place"]) (own:=1) (fr:=[]) (cN.of (by kernel_rfl!)) rfl (bu (ao (hj:=by lia) (yz T d) hr (fv 0^ae))) (λb=>Ó (i:=0) (show QR (["place"]:List Rb) by decide+kernel) rfl) (λb=>gW) (λb=>bj (fv 0^aj^ae)))^ae)))
  (af (bG Qz rfl (bu (xw T.qz T.CC ((fN (N:=["place","rank"]) (own:=2) (fr:=[]) (cN.of (by kernel_rfl!)) rfl (bu (ao (hj:=by lia) (wO T) hr (fv 0^ae))) (λb=>j3 rfl (bI (Ó (i:=0) (show QR (["place","rank"]:List Rb) by decide+kernel) rfl) (bI (Ó (i:=1) (show QR (["place","rank"]:List Rb) by decide+kernel) rfl) hV))) (λb=>gW) (λb=>fv 1))^ae))) (Ó (i:=4) mP.nd rfl)
   (ag (HG Qz rfl (ao (hj:=by lia) (K8 T) hr (fv 2^(ao (hj:=by lia) (zV T) hr (fv 0^fv 4^ae))^ae)) (wI Ez (ow (By 2) (ow (wI E7 (ow (By 0) (ow (By 4) zr))) zr))) (Ó (i:=5) mP.nd rfl)
    (ag (cx (ao (hj:=by lia) (FC T) hr (px hu (fv 3) (fv 5)^(ao (hj:=by lia) (JM T) hr (fv 4^ae))^ae)) (cY (fv 3) (fv 5) (dU hu Wy)))))))
  (ag (aE (fv 3)))))),?_⟩
 have pln:=O.l.ok.pl;have pnd:=O.l.ok.nd;refine ah λM1 K1=>{N,X,v,b,hs,ds,ms,rfl,s0,pg,O.l,O.fr b,λW kw wa H1 s1 hW=>K1 _ _ ?_};clear K1 M1;rfl'
 refine ah λM1 K1=>{N,X,v,hs,ds,ms,rfl,s0.trans s1,pg,O.l.ok,λL1 H2 s2 Ŝ Ű=>?_};have Oto:=O.to b;have Oss:=O.ss;unfold mD oT at q;generalize dQ N b ds ms=ls at hW Oto q;generalize ą:a9 N hs ds ms=pls at hW Oto Ű pln pnd Oss q;refine NI {{_,À.of Ű},gz (K:=K) (own:=1) pls (λ_=>true) (λx y H=>∃t,y=V.ref t/\H t=Wv (.tup [.str x,.int 0])) (À.of Ű) (NH _) (aL (by rw[NH];lia)) ?_ ?_ ?_ ?_}
 ·intro b i x e v0 H1 Nn Y hx he hv s1 no yes;obtain⟨u0,rfl⟩:∃u0,v0=[u0]:=by
   match v0,hv with
   | [u],_=>exact⟨u,rfl⟩
  rw[NX,he]at hx;cases hx;refine show _/\∀p,H1 p=Ww->_ from{by show 2<=sizeLine;decide,λtp đ=>?_};exact yes rfl [Wv (.str e)] _ _ rfl (ai.upd đ _) ⟨tp,rfl,av⟩
 ·rintro e y H1 H2 s1 ⟨t,e1,h1⟩;exact{t,e1,s1 _ _ h1}
 ·rintro e y H1 D ys zs hD ⟨t,e1,h1⟩;exact{t,e1,aK (λz=>by rw[z,hD]at h1;cases h1) h1}
 intro L2' H3 ys hL2 s3 eL2 pr;rw[gj]at pr;obtain⟨ps,rfl,k1,k2⟩:=Ap pr;have kl:(sk (pls.map N8) (bV λ_=>0)).length=pls.length:=by rw[Bs,NH]
 have knd:((sk (pls.map N8) (bV λ_=>0)).map (·.1)).Nodup:=by
  rw[show(sk (pls.map N8) (bV λ_=>0)).map (·.1)=pls.map N8 by unfold sk;rw[OD];exact List.map_id' _];have h:=pnd;unfold QR at h⊢;rw[OY];exact h.imp λn e=>n (N8.inj e)
 refine{L2',ps,_,rfl,À.of eL2,(),(),λi t k v ht hk=>Ò.of (k2 i t k v ht hk),λá hB=>?_};obtain⟨s4,eB⟩:=Ñ hB (HO.dK (bT [] (sk (pls.map N8) (bV λ_=>0))));generalize upd H3 á _=H4 at s4 eB⊢;rw[nv _ [] (by simpa using knd),OA]at eB;have t3:=(s1.trans s2).trans s3;have t4:=t3.trans s4;have hB0:H á=Ww:=ai.free t3 hB;have WB:W≠á:=(Wx hB ((s2.trans s3) _ _ hW.d)).symm;have hW4:=hW.same ((s2.trans s3).trans s4);refine K1 _ _ ?_;clear K1 M1;rfl'
 refine ah λM1 K1=>{N,X,v,hs,ds,ms,rfl,s0.trans t4,pg,O.l.ok.hl,λL3 ss H5 s5 hL3 eL3 pr3=>?_};have hl3:=O.l.ok.hl;have ln3:=Qy pr3;have l3:(jc N hs).length<=hs.length:=by
  unfold jc;rw[NH];exact Ou _ _
 refine NI {{_,À.of eL3},gz (K:=K) (own:=2) (jc N hs) (λ_=>true) (λs y _=>y=.int s.2) (À.of eL3) ln3.symm (aL ()) ?_ (λ_ _ _ _ _ h=>h) (λ_ _ _ _ _ _ _ h=>h) ?_}
 ·intro b i x t v0 H2 Nn Y hx he hv s2 no yes;obtain⟨u0,u1,rfl⟩:∃u0 u1,v0=[u0,u1]:=by
   match v0,hv with
   | [u,u'],_=>exact⟨u,u',rfl⟩
  obtain⟨t',ht,tp,rfl,ŀ⟩:=cv pr3 hx;rw[he]at ht;cases ht;exact{tp,_,rfl,Ò.of (s2 _ _ ŀ),rfl,_,_,rfl,_,_,rfl,rfl,yes rfl [Wv (.str t.1),Wv (.int t.2)] _ _ rfl (ai.refl _) rfl}
 intro L4 H6 zs hL4 s6 eL4 pz;rw[gj]at pz;have ez:=zJ pz;refine{L4,(jc N hs).map (·.2),rfl,À.of (by rw[eL4,ez]),λn hn=>?_,λLr hLr=>?_}
 ·obtain⟨s,m,rfl⟩:=N4.mp hn;exact O.rk s m
 obtain⟨s7,eLr⟩:=Ñ hLr (HO.lst ((ř ((jc N hs).map (·.2))).map V.int));generalize upd H6 Lr _=H7 at s7 eLr⊢;have t57:=(s5.trans s6).trans s7;have t7:=t4.trans t57;have eB7:=t57 _ _ eB;have LrB:Lr≠á:=Wx hLr ((s5.trans s6) _ _ eB);have hW7:=hW4.same t57;have rk3m:∀r∈ř ((jc N hs).map (·.2)),0<=r/\r<=2:=λr hr=>by
  have:=(Og.mp hr).1;simp only[NJ,NZ,or_false]at this;rcases this with h|h|h<;>rw[h]<;>decide
 generalize ř ((jc N hs).map (·.2))=rks at eLr rk3m q;refine NI {{_,À.of eLr},bw (K:=K) (xs:=rks.map V.int) (λj B Hd=>∃(v4 v5:Option V),B=[Wv v,Wv (.bl b),Wv (.ref W),Wv (.ref á),v4,v5]/\Sm [á] H7 Hd/\Hd á=Wv (.dK (sk (pls.map N8) (bV ((rks.take j).foldl (λg r=>(ke ls pls.length 0 (WH N hs r)).foldl (ň r) g) λ_=>0))))) {Ww,Ww,rfl,Sm.refl _ _,eB7} (λj B Hd _ ⟨_,_,_,z,_⟩=>À.of (z _ _ (λm=>LrB (NF.mp m)) eLr)) ?_ ?_}
 ·rintro j y B Hd hy ⟨v4,v5,rfl,sd,ű⟩;rw[NX]at hy;cases Ė:rks[j]? with
  |none=>rw[Ė]at hy;cases hy
  |some r=>
  rw[Ė]at hy;cases hy;have r02:=rk3m r (NO Ė);have ώ:=iQ (λg r=>(ke ls pls.length 0 (WH N hs r)).foldl (ň r) g) (λ_:Str=>(0:Int)) Ė;generalize (rks.take j).foldl (λg r=>(ke ls pls.length 0 (WH N hs r)).foldl (ň r) g) (λ_=>0)=g0 at ű ώ;have sX:ai H Hd:=sd.same t7 (λm hm=>by rw[NF.mp hm];exact hB0);have hWd:=hW7.sm sd eB7 WB;rfl'
  refine{N,X,v,r,hs,ds,ms,rfl,s0.trans sX,pg,O.l.ok.hl,λS H8 s8 hS eS=>?_};have snd:(WH N hs r).Nodup:=by
   unfold WH;exact U0 (SG _ Pz) O.sn
  have ş:∀x∈WH N hs r,x∈pls:=λx hx=>by
   obtain⟨s,m,rfl⟩:=N4.mp hx;exact Oss s (Og.mp m).1
  refine{W,S,kw,pls,wa,ls,WH N hs r,rfl,hWd.same s8,eS,snd,ş,Oto,(),λC kc H9 s9 hC eC kk=>?_};have asub:=Cc Oto pls.length 0 _ ş;generalize ke ls pls.length 0 (WH N hs r)=ar at kk ώ asub;have t9:=s8.trans s9;have eB9:=t9 _ _ ű;have CB:C≠á:=Wx hC (s8 _ _ ű);have hC0:Hd C=Ww:=ai.free s8 hC;have kcl:kc.length=ar.length:=by
   have:=congrArg SH kk;simpa using this
  refine{C,kc,rfl,eC,λo nfz knd=>{λi B Hf=>∃v5,B=[Wv v,Wv (.bl b),Wv (.ref W),Wv (.ref á),Wv (.int r),v5]/\Sm [á,C] H9 Hf/\Hf C=Wv (.ā o (.dK kc))/\Hf á=Wv (.dK (sk (pls.map N8) (bV ((ar.take i).foldl (ň r) g0)))),{v5,rfl,Sm.at (NK _ NL) _,av,aK CB.symm eB9},λi B Hf _ ⟨_,_,_,z,_⟩=>z,?_,?_}}
  ·rintro i k u B Hf hk ⟨v5,rfl,sf,eCf,eBf⟩;have hx:(ar.map (N8:Str->Key))[i]?=Wv k:=by rw[<-kk,NX,hk];rfl
   rw[NX]at hx;cases ha:ar[i]? with
   |none=>rw[ha]at hx;cases hx
   |some x=>
   rw[ha]at hx;cases hx;have mx:x∈pls:=asub x (NO ha);have st2:=iQ (ň r) g0 ha;rfl'
   refine î eBf (tQ (Oe mx)) {r,rfl,r02,_,_,rfl,{_,gI.k (k:=.inr x) eBf (aL (by rw[Bs,NH];lia)),{_,rfl,sf.trans (Sm.at NL _),aK CB eCf,?_}}};rw[av,st2];exact congrArg (λz=>Wv (HO.dK z)) (JK mx)
  rintro B Hf ⟨v5,rfl,sf,eCf,eBf⟩;rw[kcl,N0]at eBf;refine{_,_,rfl,λa u na e=>?_,aK CB.symm (by rw[ώ];exact eBf)};have ed:=sd a u na e;have aC:a≠C:=λz=>by rw[z,hC0]at ed;cases ed
  have aB:a≠á:=λz=>na (NF.mpr z);refine aK aC (sf a u (λm=>?_) (t9 _ _ ed));rcases NJ.mp m with z|m
  ·exact aB z
  exact aC (NF.mp m)
 rintro B Hd ⟨v4,v5,rfl,sd,ű⟩;rw[NH,N0]at ű;exact K1 _ _ (q á Hd (sd.same t7 (λm hm=>by rw[NF.mp hm];exact hB0)) hB0 ű)
inductive Gb(vs:List V)(H:Hp)(Q:VK)(Ã:XK):Prop
 |mk(a:Int):vs=[.int a]->Q (.int ((RY a:Int)-1)) H->Gb vs H Q Ã
theorem Mm(T:Txt K mg A):T.top.Hz P w base 1 Gb:=by
 refine T.top.hs Kz (λf Ä A' outer s H vs Q E' hr hu h=>?_);obtain⟨a,rfl,q⟩:=h;exact{_,(ag (aE (aG pE (xW (fv 0)) aj))),⟨rfl,a,rfl,rfl,q⟩}
def Ee(b r:Int):Bool:=decide ((RY b:Int)-1<=r)
inductive BY(vs:List V)(H:Hp)(Q:VK)(Ã:XK):Prop
 |mk(a b:Int):vs=[.int a,.int b]->Q (.bl (Ee a b)) H->BY vs H Q Ã
theorem Jt(T:Txt K mg A):T.fits.Hz P w base 2 BY:=by
 refine T.fits.hs (k:=1) Hg (λf Ä A' outer s H vs Q E' hr hu h=>?_);obtain⟨a,b,rfl,q⟩:=h;exact{_,(ag (aE (pec MY (ao (Mm T) hr (fv 0^ae)) (fv 1)))),⟨a,rfl,q⟩}
def jo(t:Pt):Bool:=decide (t.ci=11)||decide (t.ci=12)
def pL(N:Nat->Str)(hs ds ms:List Pt)(fl:Int)(e:Le):Bool:=jo e.1&& !Ee (mD N false hs ds ms (bp e.1.no)) fl
def ug(N:Nat->Str)(hs ds ms:List Pt)(fl:Int):List Le:=(bC N ds ms).filter (pL N hs ds ms fl)
theorem CG{hs ds ms:List Pt}{e:Le}(m:e∈bC N ds ms)(h:jo e.1=true):bp e.1.no∈a9 N hs ds ms:=by
 unfold a9;refine N3 _ (NR _ ?_);unfold gM;refine N4.mpr {e,Og.mpr {m,?_},rfl};unfold oQ;unfold jo at h;rcases Om.mp h with h|h<;>rw[h]<;>simp
inductive yQ(A:Ì)(d:Nat)(vs:List V)(H:Hp)(Q:VK)(Ã:XK):Prop
 |mk(N:Nat->Str)(X:Hp)(v:V)(fl:Int)(hs ds ms:List Pt)(z0:vs=[v,.int fl])(z1:ai X H)(z2:mB A N X v hs ds ms)(z3:Ψ N d hs ds ms)
  (z4:∀(R:Qs)(ys:List V)(H':Hp),ai H H'->H R=Ww->H' R=Wv (.lst ys)->Paired (λe y=>aN A N X y e.1) (ug N hs ds ms fl) ys->Q (.ref R) H'):yQ A d vs H Q Ã
theorem GZ(T:Txt K mg A)(d:Nat):T.qe.Hz P w base (3*d+12) (yQ A d):=by
 refine T.qe.hs (k:=3*d+11) fq (λf Ä A' outer s H vs Q E' hr hu h=>?_);obtain⟨N,X,v,fl,hs,ds,ms,rfl,s0,pg,O,q⟩:=h;refine⟨_,(af (Å 2 fq.nd (zi (hj:=by lia) (BS T d) hr (fv 0^ae)))
  (af (Å 3 fq.nd (aZ ae))
  (af (bG Qz rfl (bu (ao (hj:=by lia) (xp T d) hr (fv 0^ae))) (j3 rfl (bI (Ó (i:=4) fq.nd rfl) (bI (Ó (i:=5) fq.nd rfl) (bI (Ó (i:=6) fq.nd rfl) hV))))
   (ag (aP (PW.pt (pw_or (aQ (Ê aI T.ax (fv 4^aO T.aS.mg^ae)) (λ_=>rfl)) (pw_or1 (aQ (Ê aI T.ax (fv 4^aO T.aM.mg^ae)) (λ_=>rfl)))))
    (ag (aP (lr (aQ (ao (hj:=by lia) (Jt T) hr ((px hu (fv 2) (ao (hj:=by lia) (oE T) hr (aq (fv 4) rfl^ae)))^fv 1^ae)) (λ_=>rfl)))
     (ag (aU (bx (fv 3) (fv 4^ae))))
     aJ))
    aJ)))
  (ag (aE (fv 3)))))),?_⟩
 refine ah λM1 K1=>{N,X,v,false,hs,ds,ms,rfl,s0,pg,O,λá H1 s1 hB eB=>K1 _ _ ?_};clear K1 M1;rfl'
 refine ah λM1 K1=>{NS _,λR hR=>?_};obtain⟨s2,eR⟩:=Ñ hR (HO.lst []);generalize upd H1 R _=H2 at s2 eR⊢;have t2:=s1.trans s2;have hR0:H R=Ww:=ai.free s1 hR;have BR:á≠R:=(Wx hR eB).symm;refine K1 _ _ ?_;clear K1 M1;rfl'
 refine ah λM1 K1=>{N,X,v,hs,ds,ms,rfl,s0.trans t2,pg,O.l.ok,λL zs H3 s3 hL eL ly=>?_};have LR:L≠R:=Wx hL eR;have nb:=O.l.ok.nb;have oln:=O.l.ok.ln;have npl:∀e∈bC N ds ms,jo e.1=true->bp e.1.no∈a9 N hs ds ms:=λe m h=>CG m h;unfold ug at q;generalize bC N ds ms=es at ly nb oln npl q;have ũ:=Qy ly;refine NI {{_,À.of eL},bw (K:=K) (xs:=zs) (λi B Hd=>∃(ws:List V)(v4 v5 v6:Option V),B=[Wv v,Wv (.int fl),Wv (.ref á),Wv (.ref R),v4,v5,v6]/\Sm [R] H3 Hd/\Hd R=Wv (.lst ws)/\Paired (λ(e:Le) y=>aN A N X y e.1) ((es.take i).filter (pL N hs ds ms fl)) ws) {[],Ww,Ww,Ww,rfl,Sm.refl _ _,s3 _ _ eR,.nil} (λi B Hd _ ⟨_,_,_,_,_,z,_⟩=>À.of (z _ _ (λm=>LR (NF.mp m)) eL)) ?_ ?_}
 ·rintro i y B Hd hy ⟨ws,v4,v5,v6,rfl,sd,Ğ,lw⟩;obtain⟨e,he,tp,u,rfl,ŀ,pa⟩:=cv ly hy;have Ů:=sd _ _ (λm=>by rw[NF.mp m,s3 _ _ eR]at ŀ;cases ŀ) ŀ;have sX:ai X Hd:=sd.same ((s0.trans t2).trans s3) (λm hm=>by
   rw[NF.mp hm];exact ai.free s0 hR0)
  have me:=NO he;have ne:=nb e me;have il:i<es.length:=(NW.mp he).1;have ű:Hd á=Wv (.dK (sk ((a9 N hs ds ms).map N8) (bV (mD N false hs ds ms)))):=sd _ _ (λm=>BR (NF.mp m)) (s3 _ _ (s2 _ _ eB));have tk:es.take (i+1)=es.take i++[e]:=by rw[Od,he];rfl
  have llw:=Qy lw;have fl1:=Ou (pL N hs ds ms fl) (es.take i);rw[Oh]at fl1;have no:pL N hs ds ms fl e=false->Paired (λ(e:Le) y=>aN A N X y e.1) ((es.take (i+1)).filter (pL N hs ds ms fl)) ws:=λh=>by
   rw[tk,OC,Po (by rw[h];exact NT),OQ,Oi];exact lw
  have yes:pL N hs ds ms fl e=true->Paired (λ(e:Le) y=>aN A N X y e.1) ((es.take (i+1)).filter (pL N hs ds ms fl)) (ws++[u]):=λh=>by
   rw[tk,OC,Pp h,OQ];exact Paired.two lw (.cons pa .nil)
  rfl'
  refine{tp,_,rfl,Ò.of Ů,rfl,_,_,rfl,_,_,rfl,_,_,rfl,rfl,?_};by_cases n:jo e.1=true
  ·have gv:=tQ (f:=bV (mD N false hs ds ms)) (Oe (f:=N8) (npl e me n));cases c:Ee (mD N false hs ds ms (bp e.1.no)) fl with
   |true=>
    have na:pL N hs ds ms fl e=false:=by unfold pL;rw[n,c];rfl
    by_cases ß:e.1.ci=11
    ·exact cq T sX pa ß (bo (cQ T sX pa {_,rfl,ne.1,ne.2,î ű gv {mD N false hs ds ms (bp e.1.no),fl,rfl,_,rfl,bg (λz=>absurd z (by rw[c];decide)) (λ_=>{_,_,_,_,rfl,sd,Ğ,no na})}}))
    have ä:e.1.ci=12:=by
     unfold jo at n;rw[decide_eq_false ß]at n;exact of_decide_eq_true n
    exact bz T sX pa ß (aT (cq T sX pa ä (bo (cQ T sX pa {_,rfl,ne.1,ne.2,î ű gv {mD N false hs ds ms (bp e.1.no),fl,rfl,_,rfl,bg (λz=>absurd z (by rw[c];decide)) (λ_=>{_,_,_,_,rfl,sd,Ğ,no na})}}))))
   |false=>
    have ya:pL N hs ds ms fl e=true:=by unfold pL;rw[n,c];rfl
    have sm:=sd.trans (Sm.at (NF.mpr rfl) (.lst (ws++[u])));have sz1:ws.length<sizeLine:=aL ();by_cases ß:e.1.ci=11
    ·exact cq T sX pa ß (bo (cQ T sX pa {_,rfl,ne.1,ne.2,î ű gv {mD N false hs ds ms (bp e.1.no),fl,rfl,_,rfl,bg (λ_=>{NI {rfl,_,À.of Ğ},_,_,_,rfl,rfl,Ğ,sz1,_,_,_,_,rfl,sm,av,yes ya}) (λz=>absurd (by rw[c];rfl) z)}}))
    have ä:e.1.ci=12:=by
     unfold jo at n;rw[decide_eq_false ß]at n;exact of_decide_eq_true n
    exact bz T sX pa ß (aT (cq T sX pa ä (bo (cQ T sX pa {_,rfl,ne.1,ne.2,î ű gv {mD N false hs ds ms (bp e.1.no),fl,rfl,_,rfl,bg (λ_=>{NI {rfl,_,À.of Ğ},_,_,_,rfl,rfl,Ğ,sz1,_,_,_,_,rfl,sm,av,yes ya}) (λz=>absurd (by rw[c];rfl) z)}}))))
  have na:pL N hs ds ms fl e=false:=by unfold pL;rw[Pe.mpr n];rfl
  unfold jo at n;have ß:e.1.ci≠11:=λz=>n (by rw[decide_eq_true z];rfl);have ä:e.1.ci≠12:=λz=>n (by rw[decide_eq_true z,Bool.or_true]);exact bz T sX pa ß (aT (bz T sX pa ä (aT {_,_,_,_,rfl,sd,Ğ,no na})))
 rintro B Hd ⟨ws,v4,v5,v6,rfl,sd,Ğ,lw⟩;rw[show es.take zs.length=es by rw[<-ũ];exact N0]at lw;exact K1 _ _ (q R ws Hd (sd.same (t2.trans s3) (λm hm=>by rw[NF.mp hm];exact hR0)) hR0 Ğ lw)
def WY:Option HO->Bool
 |some (.tup _)=>true
 |_=>false
def Í(X H H':Hp):Hp:=λb=>if(WY (X b)||(H b).isNone)=true then H' b else Ww
theorem ip{X H H':Hp}{b:Qs}{o:HO}(h:Í X H H' b=Wv o):(WY (X b)||(H b).isNone)=true/\H' b=Wv o:=by
 unfold Í at h;split at h
 ·exact⟨by assumption,h⟩
 cases h
theorem sh{X H H':Hp}{b:Qs}{o:HO}(c:(WY (X b)||(H b).isNone)=true)(h:H' b=Wv o):Í X H H' b=Wv o:=by
 unfold Í;rw[if_pos c];exact h
theorem jL{X H H':Hp}:ai (Í X H H') H':=λb o h=>(ip h).2
theorem dY{X H H' ό:Hp}(s:ai H' ό):ai (Í X H H') (Í X H ό):=λb o h=>sh (ip h).1 (s _ _ (ip h).2)
theorem gc{X H H1 H':Hp}(d:∀b,H1 b=Ww->H b=Ww):ai (Í X H1 H') (Í X H H'):=λb o h=>by
 obtain⟨c,e⟩:=ip h;refine sh ?_ e;rcases Om.mp c with c|c
 ·rw[c];rfl
 rw[d b (Oo.mp c)];simp
theorem va{X H H':Hp}(s:ai X H'){b:Qs}{ws:List V}(h:X b=Wv (.tup ws)):Í X H H' b=Wv (.tup ws):=sh (by rw[h];rfl) (s _ _ h)
theorem bQ{X H H':Hp}{b:Qs}{o:HO}(n:H b=Ww)(h:H' b=Wv o):Í X H H' b=Wv o:=sh (by rw[n];simp) h
theorem As{X H H':Hp}{D:Qs}{o:HO}(n:X D=Ww)(e:H D≠Ww):ai (Í X H H') (Í X H (upd H' D o)):=λb u h=>by
 obtain⟨c,z⟩:=ip h;refine sh c (aK (λy=>?_) z);rw[y,n]at c;rcases Om.mp c with c|c
 ·exact absurd c NT
 exact e (Oo.mp c)
theorem WJ{H H':Hp}(s:ai H H'):∀b,H' b=Ww->H b=Ww:=λb h=>ai.free s h
def evI(ab:Int->Bool)(n l r one other:Int):Int×Int:=if ab n=true then(mx (l+one) (r+other)-one,mx (l+one) (r+other)-other)else(l,r)
def evL(ab:Int->Bool)(n l r st:Int):Int×Int:=if ab n=true then(mx (l+st) r-st,mx (l+st) r)else(l,r)
mutual
noncomputable def Î(ab:Int->Bool)(kn:Nat->Int):Pt->Pt
 | .leaf n r=>.leaf n r
 | .iff n v l r f o=>.iff n v (evI ab n l r (cB kn f) (cB kn o)).1 (evI ab n l r (cB kn f) (cB kn o)).2 (eK ab kn f) (eK ab kn o)
 | .loop n t m l r b=>.loop n t m (evL ab n l r (cB kn b)).1 (evL ab n l r (cB kn b)).2 (eK ab kn b)
 | .bf n i ps b=>.bf n i ps (eK ab kn b)
noncomputable def eK(ab:Int->Bool)(kn:Nat->Int):List Pt->List Pt
 | []=>[]
 |t::ts=>Î ab kn t::eK ab kn ts
end
theorem qh(ab:Int->Bool)(kn:Nat->Int):∀ts:List Pt,eK ab kn ts=ts.map (Î ab kn)
 | []=>by rw[eK];rfl
 |t::ts=>by rw[eK,qh ab kn ts];rfl
mutual
noncomputable def ĝ:Pt->Prop
 | .leaf n r=>k5 (.leaf n r)=true
 | .iff _ _ _ _ f o=>mJ f/\mJ o
 | .loop _ _ _ _ _ b=>mJ b
 | .bf _ _ _ _=>False
noncomputable def mJ:List Pt->Prop
 | []=>True
 |t::ts=>ĝ t/\mJ ts
end
theorem zK{t:Pt}:∀{ts:List Pt},mJ ts->t∈ts->ĝ t
 |t'::ts,h,m=>by
  unfold mJ at h;rcases NJ.mp m with rfl|m
  ·exact h.1
  exact zK h.2 m
def yn(H:Hp)(D:Qs)(ab:Int->Bool):Prop:=∃kvs,H D=Wv (.dK kvs)/\∀n,(L2.cc kvs (.inl n)).isSome=ab n
theorem yn.same{H H':Hp}{D:Qs}{ab:Int->Bool}(s:ai H H')(h:yn H D ab):yn H' D ab:=by
 obtain⟨kvs,e,h⟩:=h;exact{kvs,s _ _ e,h}
inductive ze(A:Ì)(vs:List V)(H:Hp)(Q:VK)(Ã:XK):Prop
 |mk(N:Nat->Str)(X:Hp)(v:V)(n:Int)(r:Lr)(z0:vs=[v])(z1:ai X H)(z2:aN A N X v (.leaf n r))(z3:k5 (.leaf n r)=true)
  (z4:∀(a:Qs)(H':Hp),ai H H'->H a=Ww->aN A N (Í X H H') (.ref a) (.leaf n r)->Q (.ref a) H'):ze A vs H Q Ã
theorem Hl(T:Txt K mg A):T.pJ.Hz P w base 5 (ze A):=by
 have M7:=ib (P:=P) (w:=w) (mg:=mg) (base:=base) (A:=A) T.gq;refine T.pJ.hs (k:=4) vE (λf Ä A' outer s H vs Q E' hr hu h=>?_);obtain⟨N,X,v,n,r,rfl,s0,pa,hk,q⟩:=h;refine⟨_,(af (aP (aQ (Ê aI T.ax (fv 0^aO T.cD.mg^ae)) (λ_=>rfl))
   (ag (aE (bb T.cD (pB T) hr (aq (fv 0) rfl^aq (fv 0) rfl^aq (fv 0) rfl^ae))))
   aJ)
  (af (aP (aQ (Ê aI T.ax (fv 0^aO T.bY.mg^ae)) (λ_=>rfl))
   (ag (aE (bb T.bY (pe T) hr (aq (fv 0) rfl^aq (fv 0) rfl^aq (fv 0) rfl^aq (fv 0) rfl^ae))))
   aJ)
  (af (aP (aQ (Ê aI T.ax (fv 0^aO T.bR.mg^ae)) (λ_=>rfl))
   (ag (aE (bb T.bR (mQ T) hr (aq (fv 0) rfl^aq (fv 0) rfl^aq (fv 0) rfl^ae))))
   aJ)
  (af (aP (aQ (Ê aI T.ax (fv 0^aO T.bD.mg^ae)) (λ_=>rfl))
   (ag (aE (bb T.bD (oY T) hr (aq (fv 0) rfl^aq (fv 0) rfl^aq (fv 0) rfl^aq (fv 0) rfl^ae))))
   aJ)
  (af (aP (aQ (Ê aI T.ax (fv 0^aO T.bh.mg^ae)) (λ_=>rfl))
   (ag (aE (bb T.bh (nK T) hr (aq (fv 0) rfl^aq (fv 0) rfl^aq (fv 0) rfl^ae))))
   aJ)
  (ag (aE (bb T.dG M7 hr (aq (fv 0) rfl^ae))))))))),?_⟩
 have û:=pa;unfold aN at û;obtain⟨a,dx,p,rfl,h1,h2⟩:=û;cases r with
 |set x val=>
  refine ah λM1 K1=>cq T s0 pa (j:=5) rfl (bo (Á (s0 _ _ h1) T.cD.cl T.fh rfl (Á (s0 _ _ h1) T.cD.cl T.fW rfl (Á (s0 _ _ h1) T.cD.cl T.fH rfl (λr6 Ć Ë hd_ hne_=>{_,_,_,_,_,_,rfl,rfl,Ë,hd_,λH6 s6 hx=>{rfl,q r6 H6 s6 Ë ?_}})))));unfold aN;exact{r6,Ć,p,rfl,bQ Ë hx,λo ho=>by cases ho;exact va (s0.trans s6) (h2 _ rfl)}
 |put x pl val=>
  refine ah λM1 K1=>bz T s0 pa (j:=5) (by simp[Pt.ci,Lr.ci]) (aT (K1 _ _ ?_));clear K1 M1;refine ah λM1 K1=>cq T s0 pa (j:=6) rfl (bo (Á (s0 _ _ h1) T.bY.cl T.fi rfl (Á (s0 _ _ h1) T.bY.cl T.fT rfl (Á (s0 _ _ h1) T.bY.cl T.fL rfl (Á (s0 _ _ h1) T.bY.cl T.fK rfl (λr6 Ć Ë hd_ hne_=>{_,_,_,_,_,_,_,rfl,rfl,Ë,hd_,λH6 s6 hx=>{rfl,q r6 H6 s6 Ë ?_}}))))));unfold aN;exact{r6,Ć,p,rfl,bQ Ë hx,λo ho=>by cases ho;exact va (s0.trans s6) (h2 _ rfl)}
 |snd h val=>
  refine ah λM1 K1=>bz T s0 pa (j:=5) (by simp[Pt.ci,Lr.ci]) (aT (K1 _ _ ?_));clear K1 M1;refine ah λM1 K1=>bz T s0 pa (j:=6) (by simp[Pt.ci,Lr.ci]) (aT (K1 _ _ ?_));clear K1 M1;refine ah λM1 K1=>cq T s0 pa (j:=7) rfl (bo (Á (s0 _ _ h1) T.bR.cl T.eI rfl (Á (s0 _ _ h1) T.bR.cl T.gy rfl (Á (s0 _ _ h1) T.bR.cl T.ff rfl (λr6 Ć Ë hd_ hne_=>{_,_,_,_,_,_,rfl,rfl,Ë,hd_,λH6 s6 hx=>{rfl,q r6 H6 s6 Ë ?_}})))));unfold aN;exact{r6,Ć,p,rfl,bQ Ë hx,λo ho=>by cases ho;exact va (s0.trans s6) (h2 _ rfl)}
 |say x val m=>
  refine ah λM1 K1=>bz T s0 pa (j:=5) (by simp[Pt.ci,Lr.ci]) (aT (K1 _ _ ?_));clear K1 M1;refine ah λM1 K1=>bz T s0 pa (j:=6) (by simp[Pt.ci,Lr.ci]) (aT (K1 _ _ ?_));clear K1 M1;refine ah λM1 K1=>bz T s0 pa (j:=7) (by simp[Pt.ci,Lr.ci]) (aT (K1 _ _ ?_));clear K1 M1;refine ah λM1 K1=>cq T s0 pa (j:=8) rfl (bo (Á (s0 _ _ h1) T.bD.cl T.b5 rfl (Á (s0 _ _ h1) T.bD.cl T.fw rfl (Á (s0 _ _ h1) T.bD.cl T.gu rfl (Á (s0 _ _ h1) T.bD.cl T.fR rfl (λr6 Ć Ë hd_ hne_=>{_,_,_,_,_,_,_,rfl,rfl,Ë,hd_,λH6 s6 hx=>{rfl,q r6 H6 s6 Ë ?_}}))))));unfold aN;exact{r6,Ć,p,rfl,bQ Ë hx,λo ho=>by cases ho;exact va (s0.trans s6) (h2 _ rfl)}
 |call i ts=>
  refine ah λM1 K1=>bz T s0 pa (j:=5) (by simp[Pt.ci,Lr.ci]) (aT (K1 _ _ ?_));clear K1 M1;refine ah λM1 K1=>bz T s0 pa (j:=6) (by simp[Pt.ci,Lr.ci]) (aT (K1 _ _ ?_));clear K1 M1;refine ah λM1 K1=>bz T s0 pa (j:=7) (by simp[Pt.ci,Lr.ci]) (aT (K1 _ _ ?_));clear K1 M1;refine ah λM1 K1=>bz T s0 pa (j:=8) (by simp[Pt.ci,Lr.ci]) (aT (K1 _ _ ?_));clear K1 M1;refine ah λM1 K1=>cq T s0 pa (j:=9) rfl (bo (Á (s0 _ _ h1) T.bh.cl T.cE rfl (Á (s0 _ _ h1) T.bh.cl T.cn rfl (Á (s0 _ _ h1) T.bh.cl T.df rfl (λr6 Ć Ë hd_ hne_=>{_,_,_,_,_,_,_,rfl,rfl,Ë,hd_,À.of (s0 _ _ (h2 _ rfl)),λn6 H6 f6 s6 h6 hx=>{rfl,q r6 H6 s6 Ë ?_}})))));unfold aN;exact{r6,Ć,n6,rfl,bQ Ë hx,λo ho=>by cases ho;exact bQ f6 h6}
 |last=>
  refine ah λM1 K1=>bz T s0 pa (j:=5) (by simp[Pt.ci,Lr.ci]) (aT (K1 _ _ ?_));clear K1 M1;refine ah λM1 K1=>bz T s0 pa (j:=6) (by simp[Pt.ci,Lr.ci]) (aT (K1 _ _ ?_));clear K1 M1;refine ah λM1 K1=>bz T s0 pa (j:=7) (by simp[Pt.ci,Lr.ci]) (aT (K1 _ _ ?_));clear K1 M1;refine ah λM1 K1=>bz T s0 pa (j:=8) (by simp[Pt.ci,Lr.ci]) (aT (K1 _ _ ?_));clear K1 M1;refine ah λM1 K1=>bz T s0 pa (j:=9) (by simp[Pt.ci,Lr.ci]) (aT (K1 _ _ ?_));clear K1 M1;refine Á (s0 _ _ h1) T.dG.cl T.cZ rfl (λr6 Ć Ë hd_ hne_=>{_,_,_,_,_,rfl,av,T.dG.cl,T.cZ,∅,{rfl,q r6 _ (ai.out (ai.out (ai.upd hd_ _) Ë _) Ë _) Ë ?_}});unfold aN;exact{r6,Ć,p,rfl,bQ Ë av,λo ho=>by cases ho}
 |_=>cases hk
inductive tJ(A:Ì)(d:Nat)(vs:List V)(H:Hp)(Q:VK)(Ã:XK):Prop
 |mk(N:Nat->Str)(X:Hp)(v:V)(DA DK:Qs)(t:Pt)(idx:List Nat)(kn:Nat->Int)(ab:Int->Bool)(z0:vs=[v,.ref DA,.ref DK])(z1:ai X H)(z3:aN A N X v t)(z4:dep t<=d)(z5:è idx t)(z9:ĉ t)(z10:ĝ t)(z6:lR N H DK idx λi=>.int (kn i))(z7:yn H DA ab)
  (z8:∀(a:Qs)(H':Hp),ai H H'->H a=Ww->aN A N (Í X H H') (.ref a) (Î ab kn t)->Q (.ref a) H'):tJ A d vs H Q Ã
inductive qK(A:Ì)(d c:Nat)(vs:List V)(H:Hp)(Q:VK)(Ã:XK):Prop
 |mk(N:Nat->Str)(X:Hp)(v:V)(DA DK:Qs)(t:Pt)(idx:List Nat)(kn:Nat->Int)(ab:Int->Bool)(z0:vs=[v,.ref DA,.ref DK])(z1:ai X H)(z3:aN A N X v t)(z4:dep t<=d)(z5:è idx t)(z9:ĉ t)(z10:ĝ t)(z6:lR N H DK idx λi=>.int (kn i))(z7:yn H DA ab)(z11:t.ci=c)
  (z8:∀(a:Qs)(H':Hp),ai H H'->H a=Ww->aN A N (Í X H H') (.ref a) (Î ab kn t)->Q (.ref a) H'):qK A d c vs H Q Ã
inductive nc(A:Ì)(d:Nat)(vs:List V)(H:Hp)(Q:VK)(Ã:XK):Prop
 |mk(N:Nat->Str)(X:Hp)(L DA DK:Qs)(xs:List V)(ts:List Pt)(idx:List Nat)(kn:Nat->Int)(ab:Int->Bool)(z0:vs=[.ref L,.ref DA,.ref DK])(z1:ai X H)(z2:X L=Wv (.lst xs))(z3:ba A N X xs ts)(z4:ig ts<=d)(z5:iB idx ts)(z12:ts.length<=900)(z9:lI ts)(z10:mJ ts)(z6:lR N H DK idx λi=>.int (kn i))(z7:yn H DA ab)
  (z8:∀(R:Qs)(ys:List V)(H':Hp),ai H H'->H R=Ww->H' R=Wv (.lst ys)->ba A N (Í X H H') ys (eK ab kn ts)->Q (.ref R) H'):nc A d vs H Q Ã
theorem Aj(T:Txt K mg A)(d j:Nat)(Qj:T.lU.Hz P w base j (tJ A d)):T.eP.Hz P w base (j+1) (nc A d):=by
 refine T.eP.hs (k:=j) jC (λf Ä A' outer s H vs Q E' hr hu h=>?_);obtain⟨N,X,L,DA,DK,xs,ts,idx,kn,ab,rfl,s0,hL,pt,dp,ck,ln,lo,kr,hK,hA,q⟩:=h;refine{_,(ag (aE (fN (N:=["row","above","known"]) (own:=1) (fr:=[1,2]) (cN.of (by kernel_rfl!)) rfl (bu (fv 0)) (λb=>Ó (i:=0) (show QR (["row","above","known"]:List Rb) by decide+kernel) rfl) (λb=>gW) (λb=>ao (hj:=by lia) Qj hr (fv 0^fv 1^fv 2^ae))))),?_};have lx:=pt.len;refine NI {{_,À.of (s0 _ _ hL)},mG (K:=K) (own:=1) (λD i ys H'=>Paired (λt y=>aN A N (Í X (upd H D (.lst [])) H') y (Î ab kn t)) (ts.take i) ys) (À.of (s0 _ _ hL)) (aL ()) (λD hD=>.nil) ?_ ?_}
 ·rintro b D i x v0 Hc ys Nn Y hx hv hD sc eD pr no yes;obtain⟨u0,rfl⟩:∃u0,v0=[u0]:=by
   match v0,hv with
   | [u],_=>exact⟨u,rfl⟩
  obtain⟨t,ht,pa⟩:=pt.get hx;have mt:t∈ts:=NO ht;refine tJ.mk N X x DA DK t idx kn ab rfl (s0.trans sc) pa (NU (jr mt) dp) (mY ck mt) (qv lo mt) (zK kr mt) (hK.same sc) (hA.same sc) (λa H' s1 ha p1=>yes [Wv x] _ _ rfl s1 ?_);rw[Od,ht];have XD:X D=Ww:=ai.free s0 hD;have up:∀o,ai (Í X (upd H D (.lst [])) H') (Í X (upd H D (.lst [])) (upd H' D o)):=λo=>As XD (by rw[av];simp);have dn:∀z,Hc z=Ww->upd H D (.lst []) z=Ww:=λz h=>by
   by_cases e:z=D
   ·rw[e,eD]at h;cases h
   rw[aR e];exact ai.free sc h
  refine Paired.two (Paired.fg pr λt y h=>aN.same (up _) _ _ (aN.same (dY s1) _ _ h)) (.cons ?_ .nil);exact aN.same (up _) _ _ (aN.same (gc dn) _ _ p1)
 intro D H' ys hD s1 e1 pr;rw[show ts.take xs.length=ts by rw[lx];exact N0]at pr;refine q D ys H' s1 hD e1 ?_;rw[qh];refine ba.of (fJ _ (Paired.fg pr λt y h=>aN.same (gc λz hz=>?_) _ _ h));by_cases e:z=D
 ·rw[e];exact hD
 rw[aR e]at hz;exact hz
theorem Iz{H:Hp}{D:Qs}{ab:Int->Bool}{n:Int}{R:Bool->Hp->Prop}(h:yn H D ab)(q:R (ab n) H):fIn K false (.int n) (.ref D) H (λx H'=>blI x H' R)\/∃a o,V.ref D=.ref a/\nG H a (.int n) o/\blI (.bl o.isSome) H R:=by
 obtain⟨kvs,e,k⟩:=h;refine Ob {D,_,rfl,nG.k (k:=.inl n) e,_,rfl,?_};rw[k n];exact q
theorem FJ(T:Txt K mg A)(d j:Nat)(hj4:2*d+3<=j)(h5:5<=j)(P0:T.eP.Hz P w base j (Š (nc A) d)):T.oK.Hz P w base (j+1) (qK A d 11):=by
 refine T.oK.hs (k:=j) cV (λf Ä A' outer s H vs Q E' hr hu h=>?_);obtain⟨N,X,v,DA,DK,t,idx,kn,ab,rfl,s0,pa,dp,ck,lo,kr,hK,hA,ec,q⟩:=h;refine⟨_,(af (Å 3 cV.nd (aq (fv 0) rfl))
  (af (Å 4 cV.nd (aq (fv 0) rfl))
  (af (aP (Ö (IM hu) (aq (fv 0) rfl) (fv 1) ((by with_unfolding_all rfl)))
   (af (Å 5 cV.nd (ao (hj:=by lia) (u9 T d) hr (aq (fv 0) rfl^fv 2^ae)))
   (af (Å 6 cV.nd (ao (hj:=by lia) (u9 T d) hr (aq (fv 0) rfl^fv 2^ae)))
   (af (Å 7 cV.nd (Ê wW T.qB (aG aW (fv 3) (fv 5)^aG aW (fv 4) (fv 6)^ae)))
   (af (Å 3 cV.nd (aG pE (fv 7) (fv 5)))
   (ag (Å 4 cV.nd (aG pE (fv 7) (fv 6))))))))
   aJ)
  (af (Å 8 cV.nd (ao (hj:=by lia) P0 hr (aq (fv 0) rfl^fv 1^fv 2^ae)))
  (ag (aE (bb (hj:=by lia) T.aS (qC T) hr (aq (fv 0) rfl^aq (fv 0) rfl^fv 8^(ao (hj:=by lia) P0 hr (aq (fv 0) rfl^fv 1^fv 2^ae))^fv 3^fv 4^ae)))))))),?_⟩
 cases t with
 |leaf n r=>cases r<;>cases ec
 |loop _ _ _ _ _ _=>cases ec
 |bf _ _ _ _=>cases ec
 |iff n val l r fs os=>
 unfold aN at pa;obtain⟨a,dx,p,pf,po,xf,xo,rfl,h1,h2,h3,h4,h5',h6⟩:=pa;unfold dep at dp;unfold è at ck;unfold ĉ at lo;unfold ĝ at kr;unfold Î at q;cases d with
 |zero=>lia
 |succ d=>
 refine ah λM1 K1=>Á (s0 _ _ h1) T.aS.cl T.dJ rfl (K1 _ _ ?_);clear K1 M1;rfl'
 refine ah λM1 K1=>Á (s0 _ _ h1) T.aS.cl T.dS rfl (K1 _ _ ?_);clear K1 M1;rfl'
 refine ah λM1 K1=>?_;have tail:∀(H1:Hp)(l' r':Int)(v5 v6 v7:Option V),ai H H1->evI ab n l r (cB kn fs) (cB kn os)=(l',r')->M1 [Wv (.ref a),Wv (.ref DA),Wv (.ref DK),Wv (.int l'),Wv (.int r'),v5,v6,v7,Ww] H1:=by
  intro H1 l' r' v5 v6 v7 s1 ee;refine K1 _ _ ?_;have sX:=s0.trans s1;rw[ee]at q;rfl'
  refine ah λM2 K2=>Á (sX _ _ h1) T.aS.cl T.bX rfl {N,X,pf,DA,DK,xf,fs,idx,kn,ab,rfl,sX,h3,h5',(),ck.1,lo.1,lo.2.2.1,kr.1,hK.same s1,hA.same s1,λR1 y1 H2 s2 n2 e2 p2=>K2 _ _ ?_};clear K2 M2;have sX2:=sX.trans s2;rfl'
  refine Á (sX2 _ _ h1) T.aS.cl T.eg rfl (Á (sX2 _ _ h1) T.aS.cl T.fX rfl (Á (sX2 _ _ h1) T.aS.cl T.bZ rfl {N,X,po,DA,DK,xo,os,idx,kn,ab,rfl,sX2,h4,h6,(),ck.2,lo.2.1,lo.2.2.2,kr.2,hK.same (s1.trans s2),hA.same (s1.trans s2),λR2 y2 H3 s3 n3 e3 p3 r6 Ć Ë hd_ hne_=>{_,_,_,_,_,_,_,_,_,_,_,rfl,rfl,Ë,hd_,À.of (s3 _ _ e2),À.of e3,λn6 n7 H6 f6 f7 s6 h6' h7' hx=>{rfl,q r6 H6 (((s1.trans s2).trans s3).trans s6) (ai.free ((s1.trans s2).trans s3) Ë) ?_}}}));have t3:=(s1.trans s2).trans s3;unfold aN;refine{r6,Ć,p,n6,n7,y1,y2,rfl,bQ (ai.free t3 Ë) hx,va ((s0.trans t3).trans s6) h2,bQ (ai.free t3 f6) h6',bQ (ai.free t3 f7) h7',ba.same ((gc (WJ s1)).trans (dY (s3.trans s6))) _ _ p2,?_};exact ba.same ((gc (WJ (s1.trans s2))).trans (dY s6)) _ _ p3
 refine Á (s0 _ _ h1) T.aS.cl T.eg rfl (Iz hA ?_);cases c:ab n with
 |false=>
  refine aT (tail H l r _ _ _ (ai.refl _) ?_);unfold evI;rw[c];rfl
 |true=>
  refine bo (ah λM2 K2=>Á (s0 _ _ h1) T.aS.cl T.bX rfl {N,X,pf,DK,xf,fs,idx,kn,rfl,s0,h3,h5',(),ck.1,lo.1,lo.2.2.1,hK,λH1 s1=>K2 _ _ ?_});clear K2 M2;rfl'
  refine ah λM2 K2=>Á ((s0.trans s1) _ _ h1) T.aS.cl T.bZ rfl {N,X,po,DK,xo,os,idx,kn,rfl,s0.trans s1,h4,h6,(),ck.2,lo.2.1,lo.2.2.2,hK.same s1,λH2 s2=>K2 _ _ ?_};clear K2 M2;rfl'
  refine ah λM2 K2=>{_,_,rfl,K2 _ _ ?_};clear K2 M2;rfl'
  refine ah λM2 K2=>K2 _ _ ?_;clear K2 M2;rfl'
  refine tail H2 _ _ _ _ _ (s1.trans s2) ?_;unfold evI mx;rw[c];rfl
theorem zX(T:Txt K mg A)(d j:Nat)(hj4:2*d+3<=j)(h5:5<=j)(P0:T.eP.Hz P w base j (Š (nc A) d)):T.jN.Hz P w base (j+1) (qK A d 12):=by
 refine T.jN.hs (k:=j) er (λf Ä A' outer s H vs Q E' hr hu h=>?_);obtain⟨N,X,v,DA,DK,t,idx,kn,ab,rfl,s0,pa,dp,ck,lo,kr,hK,hA,ec,q⟩:=h;refine⟨_,(af (Å 3 er.nd (aq (fv 0) rfl))
  (af (Å 4 er.nd (aq (fv 0) rfl))
  (af (aP (Ö (IM hu) (aq (fv 0) rfl) (fv 1) ((by with_unfolding_all rfl)))
   (af (Å 5 er.nd (ao (hj:=by lia) (u9 T d) hr (aq (fv 0) rfl^fv 2^ae)))
   (af (Å 4 er.nd (Ê wW T.qB (aG aW (fv 3) (fv 5)^fv 4^ae)))
   (ag (Å 3 er.nd (aG pE (fv 4) (fv 5))))))
   aJ)
  (ag (aE (bb (hj:=by lia) T.aM (oa T) hr (aq (fv 0) rfl^aq (fv 0) rfl^aq (fv 0) rfl^(ao (hj:=by lia) P0 hr (aq (fv 0) rfl^fv 1^fv 2^ae))^fv 3^fv 4^ae))))))),?_⟩
 cases t with
 |leaf n r=>cases r<;>cases ec
 |iff _ _ _ _ _ _=>cases ec
 |bf _ _ _ _=>cases ec
 |loop n th m l r b=>
 unfold aN at pa;obtain⟨a,dx,pb,xb,rfl,h1,h2,h3⟩:=pa;unfold dep at dp;unfold è at ck;unfold ĉ at lo;unfold ĝ at kr;unfold Î at q;cases d with
 |zero=>lia
 |succ d=>
 refine ah λM1 K1=>Á (s0 _ _ h1) T.aM.cl T.dj rfl (K1 _ _ ?_);clear K1 M1;rfl'
 refine ah λM1 K1=>Á (s0 _ _ h1) T.aM.cl T.cu rfl (K1 _ _ ?_);clear K1 M1;rfl'
 refine ah λM1 K1=>?_;have tail:∀(H1:Hp)(l' r':Int)(v5:Option V),ai H H1->evL ab n l r (cB kn b)=(l',r')->M1 [Wv (.ref a),Wv (.ref DA),Wv (.ref DK),Wv (.int l'),Wv (.int r'),v5] H1:=by
  intro H1 l' r' v5 s1 ee;refine K1 _ _ ?_;have sX:=s0.trans s1;rw[ee]at q;rfl'
  refine Á (sX _ _ h1) T.aM.cl T.dg rfl (Á (sX _ _ h1) T.aM.cl T.fo rfl (Á (sX _ _ h1) T.aM.cl T.dq rfl (Á (sX _ _ h1) T.aM.cl T.bM rfl {N,X,pb,DA,DK,xb,b,idx,kn,ab,rfl,sX,h2,h3,(),ck.2.2,lo.1,lo.2,kr,hK.same s1,hA.same s1,λR2 y2 H3 s3 n3 e3 p3 r6 Ć Ë hd_ hne_=>{_,_,_,_,_,_,_,_,_,_,rfl,rfl,Ë,hd_,À.of e3,λn6 H6 f6 s6 h6' hx=>{rfl,q r6 H6 ((s1.trans s3).trans s6) (ai.free (s1.trans s3) Ë) ?_}}})));unfold aN;exact{r6,Ć,n6,y2,rfl,bQ (ai.free (s1.trans s3) Ë) hx,bQ (ai.free (s1.trans s3) f6) h6',ba.same ((gc (WJ s1)).trans (dY s6)) _ _ p3}
 refine Á (s0 _ _ h1) T.aM.cl T.dg rfl (Iz hA ?_);cases c:ab n with
 |false=>
  refine aT (tail H l r _ (ai.refl _) ?_);unfold evL;rw[c];rfl
 |true=>
  refine bo (ah λM2 K2=>Á (s0 _ _ h1) T.aM.cl T.bM rfl {N,X,pb,DK,xb,b,idx,kn,rfl,s0,h2,h3,(),ck.2.2,lo.1,lo.2,hK,λH1 s1=>K2 _ _ ?_});clear K2 M2;rfl'
  refine ah λM2 K2=>{_,_,rfl,K2 _ _ ?_};clear K2 M2;rfl'
  refine tail H1 _ _ _ s1 ?_;unfold evL mx;rw[c];rfl
theorem C2(T:Txt K mg A)(d j:Nat)(h5:5<=j)(Qk:T.oK.Hz P w base j (qK A d 11))(Qi:T.jN.Hz P w base j (qK A d 12)):T.lU.Hz P w base (j+1) (tJ A d):=by
 refine T.lU.hs (k:=j) vB (λf Ä A' outer s H vs Q E' hr hu h=>?_);obtain⟨N,X,v,DA,DK,t,idx,kn,ab,rfl,s0,pa,dp,ck,lo,kr,hK,hA,q⟩:=h;refine⟨_,(af (aP (aQ (Ê aI T.ax (fv 0^aO T.aS.mg^ae)) (λ_=>rfl))
   (ag (aE (ao (hj:=by lia) Qk hr (fv 0^fv 1^fv 2^ae))))
   aJ)
  (af (aP (aQ (Ê aI T.ax (fv 0^aO T.aM.mg^ae)) (λ_=>rfl))
   (ag (aE (ao (hj:=by lia) Qi hr (fv 0^fv 1^fv 2^ae))))
   aJ)
  (ag (aE (ao (hj:=by lia) (Hl T) hr (fv 0^ae)))))),?_⟩
 by_cases ß:t.ci=11
 ·exact ah λM1 K1=>cq T s0 pa ß (bo ⟨N,X,v,DA,DK,t,idx,kn,ab,rfl,s0,pa,dp,ck,lo,kr,hK,hA,ß,q⟩)
 refine ah λM1 K1=>bz T s0 pa ß (aT (K1 _ _ ?_));clear K1 M1;by_cases ä:t.ci=12
 ·exact ah λM1 K1=>cq T s0 pa ä (bo ⟨N,X,v,DA,DK,t,idx,kn,ab,rfl,s0,pa,dp,ck,lo,kr,hK,hA,ä,q⟩)
 refine ah λM1 K1=>bz T s0 pa ä (aT (K1 _ _ ?_));cases t with
 |leaf n r=>
  unfold ĝ at kr;unfold Î at q;exact⟨N,X,v,n,r,rfl,s0,pa,kr,q⟩
 |iff _ _ _ _ _ _=>exact absurd rfl ß
 |loop _ _ _ _ _ _=>exact absurd rfl ä
 |bf _ _ _ _=>unfold ĝ at kr;exact kr.elim
theorem tw(T:Txt K mg A):∀d,T.eP.Hz P w base (3*d+8) (nc A d)
 |0=>Aj T 0 7 (C2 T 0 6 () (FJ T 0 5 () () (T.eP.hs (k:=4) jC (λ_ _ _ _ _ _ _ _ _ _ _ h=>h.elim) (λ_ _ _ _ h=>h.elim))) (zX T 0 5 () () (T.eP.hs (k:=4) jC (λ_ _ _ _ _ _ _ _ _ _ _ h=>h.elim) (λ_ _ _ _ h=>h.elim))))
 |d+1=>Aj T (d+1) (3*d+10) (C2 T (d+1) (3*d+9) () (FJ T (d+1) (3*d+8) () () (tw T d)) (zX T (d+1) (3*d+8) () () (tw T d)))
def Ja:Pt->Bool
 | .leaf _ (.hand _ _)=>true
 | .leaf _ (.Ĭ _ _ _)=>true
 | .leaf _ (.own _ _)=>true
 | .leaf _ (.lt _ _)=>true
 |_=>false
inductive uS(A:Ì)(vs:List V)(H:Hp)(Q:VK)(Ã:XK):Prop
 |mk(N:Nat->Str)(X:Hp)(v:V)(t:Pt)(z0:vs=[v])(z1:ai X H)(z2:aN A N X v t)(z3:Ja t=true)
  (z4:∀(a:Qs)(H':Hp),ai H H'->H a=Ww->aN A N (Í X H H') (.ref a) t->Q (.ref a) H'):uS A vs H Q Ã
theorem Io(T:Txt K mg A):T.rO.Hz P w base 5 (uS A):=by
 refine T.rO.hs (k:=4) yo (λf Ä A' outer s H vs Q E' hr hu h=>?_);obtain⟨N,X,v,t,rfl,s0,pa,hk,q⟩:=h;refine⟨_,(af (aP (aQ (Ê aI T.ax (fv 0^aO T.cF.mg^ae)) (λ_=>rfl))
   (ag (aE (bb T.cF (jH T) hr (aq (fv 0) rfl^aq (fv 0) rfl^aq (fv 0) rfl^ae))))
   aJ)
  (af (aP (aQ (Ê aI T.ax (fv 0^aO T.bq.mg^ae)) (λ_=>rfl))
   (ag (aE (bb T.bq (ix T) hr (aq (fv 0) rfl^aq (fv 0) rfl^aq (fv 0) rfl^aq (fv 0) rfl^ae))))
   aJ)
  (af (aP (aQ (Ê aI T.ax (fv 0^aO T.cL.mg^ae)) (λ_=>rfl))
   (ag (aE (bb T.cL (j7 T) hr (aq (fv 0) rfl^aq (fv 0) rfl^aq (fv 0) rfl^ae))))
   aJ)
  (ag (aE (bb T.cC (oX T) hr (aq (fv 0) rfl^aq (fv 0) rfl^aq (fv 0) rfl^ae))))))),?_⟩
 cases t with
 |leaf n r=>
  have û:=pa;unfold aN at û;obtain⟨a,dx,p,rfl,h1,h2⟩:=û;cases r with
  |hand i rk=>
   refine ah λM1 K1=>cq T s0 pa (j:=1) rfl (bo (Á (s0 _ _ h1) T.cF.cl T.eh rfl (Á (s0 _ _ h1) T.cF.cl T.gx rfl (Á (s0 _ _ h1) T.cF.cl T.gF rfl (λr6 Ć Ë hd_ hne_=>{_,_,_,_,_,_,rfl,rfl,Ë,hd_,λH6 s6 hx=>{rfl,q r6 H6 s6 Ë ?_}})))));unfold aN;exact{r6,Ć,p,rfl,bQ Ë hx,λo ho=>by cases ho}
  |Ĭ i rk z=>
   refine ah λM1 K1=>bz T s0 pa (j:=1) (by simp[Pt.ci,Lr.ci]) (aT (K1 _ _ ?_));clear K1 M1;refine ah λM1 K1=>cq T s0 pa (j:=2) rfl (bo (Á (s0 _ _ h1) T.bq.cl T.dH rfl (Á (s0 _ _ h1) T.bq.cl T.dE rfl (Á (s0 _ _ h1) T.bq.cl T.fj rfl (Á (s0 _ _ h1) T.bq.cl T.gf rfl (λr6 Ć Ë hd_ hne_=>{_,_,_,_,_,_,_,rfl,rfl,Ë,hd_,λH6 s6 hx=>{rfl,q r6 H6 s6 Ë ?_}}))))));unfold aN;exact{r6,Ć,p,rfl,bQ Ë hx,λo ho=>by cases ho}
  |own i z=>
   refine ah λM1 K1=>bz T s0 pa (j:=1) (by simp[Pt.ci,Lr.ci]) (aT (K1 _ _ ?_));clear K1 M1;refine ah λM1 K1=>bz T s0 pa (j:=2) (by simp[Pt.ci,Lr.ci]) (aT (K1 _ _ ?_));clear K1 M1;refine ah λM1 K1=>cq T s0 pa (j:=3) rfl (bo (Á (s0 _ _ h1) T.cL.cl T.fe rfl (Á (s0 _ _ h1) T.cL.cl T.fV rfl (Á (s0 _ _ h1) T.cL.cl T.gZ rfl (λr6 Ć Ë hd_ hne_=>{_,_,_,_,_,_,rfl,rfl,Ë,hd_,λH6 s6 hx=>{rfl,q r6 H6 s6 Ë ?_}})))));unfold aN;exact{r6,Ć,p,rfl,bQ Ë hx,λo ho=>by cases ho}
  |lt i rk=>
   refine ah λM1 K1=>bz T s0 pa (j:=1) (by simp[Pt.ci,Lr.ci]) (aT (K1 _ _ ?_));clear K1 M1;refine ah λM1 K1=>bz T s0 pa (j:=2) (by simp[Pt.ci,Lr.ci]) (aT (K1 _ _ ?_));clear K1 M1;refine ah λM1 K1=>bz T s0 pa (j:=3) (by simp[Pt.ci,Lr.ci]) (aT (K1 _ _ ?_));clear K1 M1;refine Á (s0 _ _ h1) T.cC.cl T.fm rfl (Á (s0 _ _ h1) T.cC.cl T.fu rfl (Á (s0 _ _ h1) T.cC.cl T.fY rfl (λr6 Ć Ë hd_ hne_=>{_,_,_,_,_,_,rfl,rfl,Ë,hd_,λH6 s6 hx=>{rfl,q r6 H6 s6 Ë ?_}})));unfold aN;exact{r6,Ć,p,rfl,bQ Ë hx,λo ho=>by cases ho}
  |_=>cases hk
 |_=>cases hk
inductive uI(A:Ì)(d:Nat)(vs:List V)(H:Hp)(Q:VK)(Ã:XK):Prop
 |mk(N:Nat->Str)(X:Hp)(v:V)(DA DK:Qs)(n:Int)(i:Nat)(ps:List Nat)(b:List Pt)(idx:List Nat)(kn:Nat->Int)(ab:Int->Bool)(z0:vs=[v,.ref DA,.ref DK])(z1:ai X H)(z3:aN A N X v (.bf n i ps b))(z4:ig b<=d)(z5:iB idx b)(z12:b.length<=900)(z9:lI b)(z10:mJ b)(z6:lR N H DK idx λi=>.int (kn i))(z7:yn H DA ab)
  (z8:∀(a:Qs)(H':Hp),ai H H'->H a=Ww->aN A N (Í X H H') (.ref a) (.bf n i ps (eK ab kn b))->Q (.ref a) H'):uI A d vs H Q Ã
theorem Hq(T:Txt K mg A)(d:Nat):T.qX.Hz P w base (3*d+9) (uI A d):=by
 refine T.qX.hs (k:=3*d+8) ye (λf Ä A' outer s H vs Q E' hr hu h=>?_);obtain⟨N,X,v,DA,DK,n,i,ps,b,idx,kn,ab,rfl,s0,pa,dp,ck,ln,lo,kr,hK,hA,q⟩:=h;refine{_,(ag (aE (bb (hj:=by lia) T.a8 (jt T) hr (aq (fv 0) rfl^aq (fv 0) rfl^aq (fv 0) rfl^(ao (hj:=by lia) (tw T d) hr (aq (fv 0) rfl^fv 1^fv 2^ae))^ae)))),?_};unfold aN at pa;obtain⟨a,dx,pp,pb,xb,rfl,h1,h2,h3,h4⟩:=pa;refine Á (s0 _ _ h1) T.a8.cl T.eE rfl (Á (s0 _ _ h1) T.a8.cl T.b4 rfl (Á (s0 _ _ h1) T.a8.cl T.cP rfl (Á (s0 _ _ h1) T.a8.cl T.bW rfl {N,X,pb,DA,DK,xb,b,idx,kn,ab,rfl,s0,h3,h4,dp,ck,ln,lo,kr,hK,hA,λR2 y2 H3 s3 n3 e3 p3 r6 Ć Ë hd_ hne_=>{_,_,_,_,_,_,_,_,_,rfl,rfl,Ë,hd_,À.of ((s0.trans s3) _ _ h2),À.of e3,λn6 n7 H6 f6 f7 s6 h6 h7 hx=>{rfl,q r6 H6 (s3.trans s6) (ai.free s3 Ë) ?_}}})));unfold aN;exact{r6,Ć,n6,n7,y2,rfl,bQ (ai.free s3 Ë) hx,bQ (ai.free s3 f6) h6,bQ (ai.free s3 f7) h7,ba.same (dY s6) _ _ p3}
structure OkU(N:Nat->Str)(d:Nat)(hs ds ms:List Pt):Prop where
 t:Ψ N d hs ds ms
 ck:∀e∈bC N ds ms,è (ds.map ð) e.1/\dep e.1<=d
 ab:∀fl,(ug N hs ds ms fl).length<64
structure OkE(N:Nat->Str)(d:Nat)(hs ds ms:List Pt):Prop where
 u:OkU N d hs ds ms
 hd:∀p∈hs,Ja p=true
 db:∀p∈ds,(d7 p).length<=900/\lI (d7 p)/\mJ (d7 p)/\iB (ds.map ð) (d7 p)
 ml:ms.length<=900
 mlo:lI ms
 mk5:mJ ms
 mck:iB (ds.map ð) ms
def Ϟ(N:Nat->Str)(hs ds ms:List Pt)(fl:Int)(n:Int):Bool:=decide (n∈(ug N hs ds ms fl).map λe=>e.1.no)
theorem E4{H:Hp}:∀{es:List Le}{ys:List V},Paired (λ(e:Le) y=>∃t,y=V.ref t/\H t=Wv (.tup [.int e.1.no,.bl true])) es ys->∃ps:List Qs,ys=ps.map V.ref/\ps.length=es.length/\∀(i:Nat) t k v,ps[i]?=Wv t->(sk ((es.map λe=>e.1.no).map OR) λ_=>.bl true)[i]?=Wv (k,v)->H t=Wv (.tup [kV k,v])
 |_,_,.nil=>{[],rfl,rfl,(λi t k v h=>by simp at h)}
 |_,_,.cons h r=>by
  obtain⟨t,rfl,h1⟩:=h;obtain⟨ps,e1,e2,e3⟩:=E4 r;refine{t::ps,by rw[e1];rfl,by simp[e2],λi t' k v ht hk=>?_};cases i with
  |zero=>cases ht;cases hk;exact h1
  |succ i=>exact e3 i t' k v ht hk
theorem GN{n:Int}{ns:List Int}:(OR n:Key)∈ns.map OR↔n∈ns:=by
 constructor
 ·intro h;obtain⟨m,a,e⟩:=N4.mp h;exact OR.inj e▸a
 exact λh=>Oe h
inductive wA(A:Ì)(d:Nat)(vs:List V)(H:Hp)(Q:VK)(Ã:XK):Prop
 |mk(N:Nat->Str)(X:Hp)(v:V)(fl:Int)(hs ds ms:List Pt)(z0:vs=[v,.int fl])(z1:ai X H)(z2:mB A N X v hs ds ms)(z3:OkE N d hs ds ms)
  (z4:∀(a:Qs)(H':Hp),ai H H'->mB A N (Í X H H') (.ref a) hs (ds.map (Î (Ϟ N hs ds ms fl) (õ cB 0 ds))) (eK (Ϟ N hs ds ms fl) (õ cB 0 ds) ms)->Q (.ref a) H'):wA A d vs H Q Ã
theorem F7(T:Txt K mg A)(d:Nat):T.AV.Hz P w base (3*d+13) (wA A d):=by
 refine T.AV.hs (k:=3*d+12) kX (λf Ä A' outer s H vs Q E' hr hu h=>?_);obtain⟨N,X,v,fl,hs,ds,ms,rfl,s0,pg,O,q⟩:=h;obtain⟨a,dx,n0,n1,n2,x0,x1,x2,rfl,ha,e0,e1,e2,p0,p1,p2⟩:=id pg;refine⟨_,(af (Å 2 kX.nd (į qu T.ni ((fN (N:=["row"]) (own:=1) (fr:=[]) (cN.of (by kernel_rfl!)) rfl (bu (ao (hj:=by lia) (GZ T d) hr (fv 0^fv 1^ae))) (λb=>Ó (i:=0) (show QR (["row"]:List Rb) by decide+kernel) rfl) (λb=>gW) (λb=>bj (aq (fv 0) rfl^pq^ae)))^ae)))
  (af (Å 3 kX.nd (ao (hj:=by lia) (G6 T d) hr (fv 0^ae)))
  (af (qg (j:=4) (N:=["head"]) (own:=1) (fr:=[]) (cN.of (by kernel_rfl!)) rfl kX.nd rfl (NI rfl) (bu (aq (fv 0) rfl)) (λb=>Ó (i:=0) (show QR (["head"]:List Rb) by decide+kernel) rfl) (λb=>gW) (λb=>ao (hj:=by lia) (Io T) hr (fv 0^ae)))
  (af (qg (j:=5) (N:=["deed","above","known"]) (own:=1) (fr:=[2,3]) (cN.of (by kernel_rfl!)) rfl kX.nd rfl (NI rfl) (bu (aq (fv 0) rfl)) (λb=>Ó (i:=0) (show QR (["deed","above","known"]:List Rb) by decide+kernel) rfl) (λb=>gW) (λb=>ao (hj:=by lia) (Hq T d) hr (fv 0^fv 1^fv 2^ae)))
  (ag (aE (bb (hj:=by lia) T.bc (nN T) hr (fv 4^fv 5^(ao (hj:=by lia) (tw T d) hr (aq (fv 0) rfl^fv 2^fv 3^ae))^ae)))))))),?_⟩
 have ab:=O.u.ab fl;refine ah λM1 K1=>{N,X,.ref a,fl,hs,ds,ms,rfl,s0,pg,O.u.t,λL ys H1 s1 hL eL pr=>?_};have ln:=Qy pr;refine NI {{_,À.of eL},gz (K:=K) (own:=1) (ug N hs ds ms fl) (λ_=>true) (λe y H=>∃t,y=V.ref t/\H t=Wv (.tup [.int e.1.no,.bl true])) (À.of eL) ln.symm (aL ()) ?_ ?_ ?_ ?_}
 ·intro b i x e v0 H3 Nn Y hx he hv s3 no yes;obtain⟨u0,rfl⟩:∃u0,v0=[u0]:=by
   match v0,hv with
   | [u],_=>exact⟨u,rfl⟩
  obtain⟨e',he',pa⟩:=cv pr hx;rw[he]at he';cases he';exact cQ T ((s0.trans s1).trans s3) pa (show _/\∀p,H3 p=Ww->_ from{by show 2<=sizeLine;decide,λtp đ=>yes rfl [Wv x] _ _ rfl (ai.upd đ _) ⟨tp,rfl,av⟩})
 ·rintro e y H1 H2 s1 ⟨t,e1,h1⟩;exact{t,e1,s1 _ _ h1}
 ·rintro e y H1 D ys zs hD ⟨t,e1,h1⟩;exact{t,e1,aK (λz=>by rw[z,hD]at h1;cases h1) h1}
 intro L2' H2 zs hL2 s2 eL2 pz;rw[gj]at pz;obtain⟨ps,rfl,k1,k2⟩:=E4 pz;have kl:(sk (((ug N hs ds ms fl).map λe=>e.1.no).map OR) λ_=>.bl true).length=(ug N hs ds ms fl).length:=by rw[Bs,NH,NH]
 refine{L2',ps,_,rfl,À.of eL2,(),(),λi t k v ht hk=>Ò.of (k2 i t k v ht hk),λDA hDA=>?_};obtain⟨s3,eDA⟩:=Ñ hDA (HO.dK (bT [] (sk (((ug N hs ds ms fl).map λe=>e.1.no).map OR) λ_=>.bl true)));generalize upd H2 DA _=H3 at s3 eDA⊢;rw[show bT [] (sk (((ug N hs ds ms fl).map λe=>e.1.no).map OR) λ_=>.bl true)=sk (EZ (((ug N hs ds ms fl).map λe=>e.1.no).map OR)) λ_=>.bl true from yO _ _ []]at eDA;have hA3:yn H3 DA (Ϟ N hs ds ms fl):=⟨_,eDA,λn=>by
  rw[IL];unfold Ϟ;exact decide_eq_decide.mpr (Eg.trans GN)⟩
 generalize Ϟ N hs ds ms fl=abf at hA3 q;have t3:=(s1.trans s2).trans s3;refine K1 _ _ ?_;clear K1 M1;rfl'
 refine ah λM1 K1=>{N,X,.ref a,hs,ds,ms,rfl,s0.trans t3,pg,O.u.t.l.dk,λp m=>{(O.db p m).1,(O.db p m).2.1},λDK H4 s4 hDK hK=>?_};generalize õ cB 0 ds=kn at hK q;have t4:=t3.trans s4;have sX4:=s0.trans t4;have hA4:=hA3.same s4;have hl:=O.u.t.l.ok.hl;have dln:=O.u.t.l.dk.ln;have l0:=p0.len;have l1:=p1.len;refine K1 _ _ ?_;clear K1 M1;rfl'
 refine ah λM1 K1=>Á (sX4 _ _ ha) T.bc.cl T.cO rfl (NI {{_,À.of (sX4 _ _ e0)},mG (K:=K) (own:=1) (λD i ys H'=>Paired (λt y=>aN A N (Í X (upd H4 D (.lst [])) H') y t) (hs.take i) ys) (À.of (sX4 _ _ e0)) (aL ()) (λD hD=>.nil) ?_ ?_})
 ·rintro b D i x v0 Hc ys Nn Y hx hv hD sc eD pr no yes;obtain⟨u0,rfl⟩:∃u0,v0=[u0]:=by
   match v0,hv with
   | [u],_=>exact⟨u,rfl⟩
  obtain⟨t,ht,pa⟩:=p0.get hx;refine uS.mk N X x t rfl (sX4.trans sc) pa (O.hd t (NO ht)) (λa H' s1 ha p1=>yes [Wv x] _ _ rfl s1 ?_);rw[Od,ht];have XD:X D=Ww:=ai.free sX4 hD;have up:∀o,ai (Í X (upd H4 D (.lst [])) H') (Í X (upd H4 D (.lst [])) (upd H' D o)):=λo=>As XD (by rw[av];simp);have dn:∀z,Hc z=Ww->upd H4 D (.lst []) z=Ww:=λz h=>by
   by_cases e:z=D
   ·rw[e,eD]at h;cases h
   rw[aR e];exact ai.free sc h
  refine Paired.two (Paired.fg pr λt y h=>aN.same (up _) _ _ (aN.same (dY s1) _ _ h)) (.cons ?_ .nil);exact aN.same (up _) _ _ (aN.same (gc dn) _ _ p1)
 intro LH H5 yh hLH s5 eLH ph;rw[show hs.take x0.length=hs by rw[l0];exact N0]at ph;refine K1 _ _ ?_;clear K1 M1;have ph':ba A N (Í X H H5) yh hs:=ba.of (by simpa using fJ (F:=λt y=>aN A N (Í X H H5) y t) id (Paired.fg ph λt y h=>aN.same (gc λz hz=>ai.free t4 (by rw[<-hz];exact(aR λe=>by rw[e,av]at hz;cases hz).symm)) _ _ h));have t5:=t4.trans s5;have Ϗ:=s0.trans t5;rfl'
 refine ah λM1 K1=>Á (Ϗ _ _ ha) T.bc.cl T.br rfl (NI {{_,À.of (Ϗ _ _ e1)},mG (K:=K) (own:=1) (λD i ys H'=>Paired (λt y=>aN A N (Í X (upd H5 D (.lst [])) H') y (Î abf kn t)) (ds.take i) ys) (À.of (Ϗ _ _ e1)) (aL ()) (λD hD=>.nil) ?_ ?_})
 ·rintro b D i x v0 Hc ys Nn Y hx hv hD sc eD pr no yes;obtain⟨u0,rfl⟩:∃u0,v0=[u0]:=by
   match v0,hv with
   | [u],_=>exact⟨u,rfl⟩
  obtain⟨t,ht,pa⟩:=p1.get hx;have mt:=NO ht;have dt:=O.u.t.l.dk.bf t mt;have db:=O.db t mt;have ddp:=O.u.t.l.dk.dp t mt;cases t with
  |bf n i' ps' b'=>
   refine uI.mk N X x DA DK n i' ps' b' (ds.map ð) kn abf rfl (Ϗ.trans sc) pa ddp db.2.2.2 db.1 db.2.1 db.2.2.1 (hK.same (s5.trans sc)) (hA4.same (s5.trans sc)) (λa H' s1 ha p1=>yes [Wv x] _ _ rfl s1 ?_);rw[Od,ht];have XD:X D=Ww:=ai.free Ϗ hD;have up:∀o,ai (Í X (upd H5 D (.lst [])) H') (Í X (upd H5 D (.lst [])) (upd H' D o)):=λo=>As XD (by rw[av];simp);have dn:∀z,Hc z=Ww->upd H5 D (.lst []) z=Ww:=λz h=>by
    by_cases e:z=D
    ·rw[e,eD]at h;cases h
    rw[aR e];exact ai.free sc h
   refine Paired.two (Paired.fg pr λt y h=>aN.same (up _) _ _ (aN.same (dY s1) _ _ h)) (.cons ?_ .nil);rw[show Î abf kn (.bf n i' ps' b')=.bf n i' ps' (eK abf kn b') by rw[Î]];exact aN.same (up _) _ _ (aN.same (gc dn) _ _ p1)
  |_=>exact dt.elim
 intro LD H6 yd hLD s6 eLD pd;rw[show ds.take x1.length=ds by rw[l1];exact N0]at pd;refine K1 _ _ ?_;clear K1 M1;have pd':ba A N (Í X H H6) yd (ds.map (Î abf kn)):=ba.of (fJ (F:=λt y=>aN A N (Í X H H6) y t) (Î abf kn) (Paired.fg pd λt y h=>aN.same (gc λz hz=>ai.free t5 (by rw[<-hz];exact(aR λe=>by rw[e,av]at hz;cases hz).symm)) _ _ h));have t6:=t5.trans s6;have ō:=s0.trans t6;rfl'
 refine Á (ō _ _ ha) T.bc.cl T.dh rfl {N,X,n2,DA,DK,x2,ms,ds.map ð,kn,abf,rfl,ō,e2,p2,O.u.t.l.ok.main,O.mck,O.ml,O.mlo,O.mk5,hK.same (s5.trans s6),hA4.same (s5.trans s6),λLM ym H7 s7 hLM eLM pm r6 Ć Ë hd_ hne_=>{_,_,_,_,_,_,_,_,_,rfl,rfl,Ë,hd_,À.of ((s6.trans s7) _ _ eLH),À.of (s7 _ _ eLD),À.of eLM,λn6 n7 n8 H8 f6 f7 f8 s8 h6 h7 h8 hx=>{rfl,q r6 H8 (t6.trans (s7.trans s8)) ?_}}};have t7:=t6.trans s7;exact{r6,Ć,n6,n7,n8,yh,yd,ym,rfl,bQ (ai.free t7 Ë) hx,bQ (ai.free t7 f6) h6,bQ (ai.free t7 f7) h7,bQ (ai.free t7 f8) h8,ba.same (dY ((s6.trans s7).trans s8)) _ _ ph',ba.same (dY (s7.trans s8)) _ _ pd',ba.same ((gc λz hz=>ai.free t6 hz).trans (dY s8)) _ _ pm}
def DJ(N:Nat->Str):Prop:=∀i j,i<18->j<18->N i=N j->i=j
def In(n:Int):Prop:=0<=n/\n<1000000000000
abbrev opW:List Str:=["+","-","*","over","rest","<","="]
end
def del(X:List Qs)(H:Hp):Hp:=λa=>if a∈X then Ww else H a
theorem aX{X:List Qs}{H:Hp}:ai (del X H) H:=λa o h=>by
 unfold del at h;split at h
 ·cases h
 exact h
theorem bN{X:List Qs}{H:Hp}{a:Qs}{o:HO}(h:a∉X)(e:H a=Wv o):del X H a=Wv o:=by
 unfold del;rw[if_neg h];exact e
theorem fM{X:List Qs}{H:Hp}{a:Qs}{o:HO}(h:del X H a=Wv o):a∉X/\H a=Wv o:=by
 unfold del at h;split at h
 ·cases h
 exact⟨by assumption,h⟩
structure Go(M:List Qs)(H:Hp)(M':List Qs)(H':Hp):Prop where
 o:∀a o,a∉M->H a=Wv o->H' a=Wv o
 m:∀a∈M',a∈M\/H a=Ww
theorem Go.trans{M M1 M2:List Qs}{H H1 H2:Hp}(g:Go M H M1 H1)(g':Go M1 H1 M2 H2):Go M H M2 H2:=by
 refine{λa o h e=>g'.o a o (λm=>?_) (g.o a o h e),λa m=>?_}
 ·rcases g.m a m with z|z
  ·exact h z
  rw[z]at e;cases e
 rcases g'.m a m with z|z
 ·exact g.m a z
 by_cases h:a∈M
 ·exact .inl h
 refine .inr ?_;cases e:H a with
 |none=>rfl
 |some o=>rw[g.o a o h e]at z;cases z
theorem Go.same{M M':List Qs}{H H':Hp}(g:Go M H M' H'):ai (del M H) (del M' H'):=λa o h=>by
 obtain⟨h1,h2⟩:=fM h;refine bN (λm=>?_) (g.o a o h1 h2);rcases g.m a m with z|z
 ·exact h1 z
 rw[z]at h2;cases h2
theorem Go.new{M:List Qs}{H H':Hp}(s:ai H H'):Go M H M H':={λa o _ h=>s a o h,λ_ h=>.inl h}
theorem Go.at{M:List Qs}{H:Hp}{x:Qs}(h:x∈M)(u:HO):Go M H M (upd H x u):={λa o m e=>(aR (λz:a=x=>m (by rw[z];exact h))).trans e,λ_ h=>.inl h}
theorem WG{α:Type}{ks:List α}{i:Nat}{j:α}(h:ks[i]?=Wv j):ks.take (i+1)=ks.take i++[j]:=by rw[Od,h];rfl
inductive Rw where
 |set (n:Int) (x:Nat) (v:Val)
 |put (n:Int) (x:Nat) (p:Th) (v:Val)
 |snd (n:Int) (h:Nat) (v:Val)
 |say (n:Int) (x:Nat) (v:Val) (m:Nat)
 |last (n:Int)
 |call (n:Int) (i:Nat) (ts:List Th)
 |iff (n:Int) (v:Val) (f o:List Rw) (l r:Int)
 |loop (n:Int) (t:Th) (m:Int) (b:List Rw) (l r:Int)
mutual
noncomputable def Rw.cnt:Rw->Nat
 | .iff _ _ f o _ _=>1+(eN f+eN o)
 | .loop _ _ _ b _ _=>1+eN b
 |_=>1
noncomputable def eN:List Rw->Nat
 | []=>0
 |r::rs=>r.cnt+eN rs
end
theorem B7(r:Rw):1<=r.cnt:=by
 cases r with
 |iff=>rw[Rw.cnt];lia
 |loop=>rw[Rw.cnt];lia
 |_=>exact NM 1
theorem b7:∀rs,rs.length<=eN rs
 | []=>NS _
 |r::rs=>by
  have h1:=B7 r;have h2:=b7 rs;rw[eN,N7];lia
theorem za:∀as bs,eN (as++bs)=eN as+eN bs
 | [],bs=>by rw[OA,eN,Nat.zero_add]
 |a::as,bs=>by rw[Pg,eN,eN,za as bs,Nat.add_assoc]
theorem FP(r:Rw):eN [r]=r.cnt:=by rw[eN,eN];rfl
mutual
inductive Nr:Nat->Int->Rw->Int->Prop
 |set {k n x v}:Nr k n (.set n x v) (n+1)
 |put {k n x p v}:Nr k n (.put n x p v) (n+1)
 |snd {k n x v}:Nr k n (.snd n x v) (n+1)
 |say {k n x v m} (h:10<=m/\m<13):Nr k n (.say n x v m) (n+1)
 |last {k n} (h:0<k):Nr k n (.last n) (n+1)
 |call {k n i ts}:Nr k n (.call n i ts) (n+1)
 |iff {k n a b v f o l r} (h1:Ns k (n+1) f a) (h2:Ns k (a+1) o b):Nr k n (.iff n v f o l r) (b+1)
 |loop {k n a t m b l r} (h:Ns (k+1) (n+1) b a):Nr k n (.loop n t m b l r) (a+1)
inductive Ns:Nat->Int->List Rw->Int->Prop
 |nil {k a}:Ns k a [] a
 |cons {k a b c r rs} (h:Nr k a r b) (t:Ns k b rs c):Ns k a (r::rs) c
end
theorem Ns.snoc{k:Nat}{r:Rw}{b c:Int}(h:Nr k b r c):∀{rs:List Rw}{a:Int},Ns k a rs b->Ns k a (rs++[r]) c
 | [],_,g=>by cases g;exact .cons h .nil
 |q::rs,_,g=>by
  cases g with
  |cons g1 g2=>exact .cons g1 (Ns.snoc h g2)
structure En where
 N:Nat->Str
 idx:List Nat
 sz:Nat->Nat
def En.ls(E:En):List Nat:=E.idx.filter λi=>decide (0<E.sz i)
def Th.ok(E:En):Th->Prop
 | .i n=>In n
 | .x a=>a∈E.idx/\E.sz a=0
def Val.ok(E:En):Val->Prop
 | .one a=>a.ok E
 | .op a w b=>b.ok E/\(a.ok E/\w∈opW\/∃x∈E.ls,a=.x x/\w="at")
section
variable{P:Program}{w:QD}{K:Qx}{mg:Str->Option Qt}{base:QN}{A:Ì}{E:En}
abbrev LET:Str:="abcdefghijklmnopqrstuvwxyz"
def jJ(k:Int):Nat:=(97+k).toNat
theorem A7{k:Int}(h0:0<=k)(h1:k<26):Č LET.cps.toList k=Wv (jJ k):=by
 obtain⟨n,rfl⟩:∃n:Nat,k=(n:Int):={k.toNat,()};have h:∀m:Fin 26,Č LET.cps.toList ((m.val:Nat):Int)=Wv (jJ ((m.val:Nat):Int)):=by decide+kernel
 exact h {n,()}
theorem GW{z:Str}{n:Int}(hz:z.length<=1)(h1:n<1000):(oV z n).length<=1000:=by
 unfold oV;split
 ·decide
 split
 ·lia
 rw[yZ];have:n.toNat*z.length<=n.toNat*1:=Nat.mul_le_mul_left _ hz;lia
abbrev Jj:Str:="set put send say by if else end loop most idle last call deed main"
abbrev JS:Str:="at over rest hand given own let open house closed"
def ua:List Str:=["set","put","send","say","by","if","else","end","loop","most","idle","last","call","deed","main"]
def uY:List Str:=["at","over","rest","hand","given","own","let","open","house","closed"]
theorem Di:tK Jj " " ua:={by decide+kernel,by decide+kernel,by decide+kernel,by decide+kernel,∅,by decide+kernel}
theorem Ds:tK JS " " uY:={by decide+kernel,by decide+kernel,by decide+kernel,by decide+kernel,∅,by decide+kernel}
def WI:List Str:=ua++uY
theorem yS:WI.Nodup:=by decide+kernel
theorem rE:WI.length=25:=rfl
def Ś(c:Int)(k:Nat):Str:=
 if decide (V.int (c%4)=V.int 0)=true then WI.getD ((c/4+k)%25).toNat Q4
 else if decide (V.int (c%4)=V.int 1)=true then oV ⟨#[jJ ((c/4+(k:Int)/8)%26)]⟩ ((k:Int)%8+1)
 else Txt.slice (oV ⟨#[jJ (c/288%26)]⟩ (c/4%8)) Ww (Wv (c/32%(c/4%8+1)))++⟨#[jJ ((k+c/7488)%26)]⟩++Txt.slice (oV ⟨#[jJ (c/288%26)]⟩ (c/4%8)) (Wv (c/32%(c/4%8+1))) Ww
theorem qI(c:Nat){n:Int}(hn:1<=n):(oV ⟨#[c]⟩ n).cps.toList=QH n.toNat c:=by
 unfold oV;rw[if_neg ()];by_cases e:n=1
 ·subst e;rfl
 have h1:¬ (n==1||(⟨#[c]⟩:Str).length==0)=true:=by
  rw[Bool.or_eq_true];rintro(h|h)
  ·exact e (eq_of_beq h)
  exact absurd h (show ¬ ((1:Nat)==0)=true by decide)
 rw[if_neg h1];have f:∀(m:Nat)(acc:Array Nat),((QH m #[c]).foldl (· ++ ·) acc).toList=acc.toList++QH m c:=by
  intro m;induction m with
  |zero=>intro acc;simp
  |succ m ih=>
   intro acc;rw[Ot,OG,ih,Ot];simp
 have:=f n.toNat #[];simpa using this
theorem zu{a b:Int}(ha:0<=a)(hb:0<=b)(h:jJ a=jJ b):a=b:=by
 unfold jJ at h;lia
theorem HD{a b:Str}{x y:Nat}(h:a++⟨#[x]⟩++b=a++⟨#[y]⟩++b):x=y:=by
 have h1:((a.cps++ #[x])++b.cps).toList=((a.cps++ #[y])++b.cps).toList:=congrArg (λz:Str=>z.cps.toList) h;simp only[Pk]at h1;have h2:=List.append_inj_left' h1 rfl;have h3:=List.append_inj_right h2 rfl;simpa using h3
theorem GX(c:Int):DJ (Ś c):=by
 intro i j hi hj e;unfold Ś at e;split at e
 ·have m1:=bH (c/4+i) (show(0:Int)<25 by decide);have m2:=bH (c/4+j) (show(0:Int)<25 by decide);have b1:((c/4+i)%25).toNat<WI.length:=by rw[rE];lia
  have b2:((c/4+j)%25).toNat<WI.length:=by rw[rE];lia
  rw[Oj,Oj,NN b1,NN b2]at e;have:=(PQ yS).mp (show WI[((c/4+i)%25).toNat]=WI[((c/4+j)%25).toNat]from e);lia
 split at e
 ·have m1:=bH (c/4+(i:Int)/8) (show(0:Int)<26 by decide);have m2:=bH (c/4+(j:Int)/8) (show(0:Int)<26 by decide);have h1:=congrArg (λz:Str=>z.cps.toList) e;rw[qI _ (),qI _ ()]at h1;have h2:=congrArg SH h1;rw[OB,OB]at h2;obtain⟨n,hn⟩:∃n,((i:Int)%8+1).toNat=n+1:={((i:Int)%8).toNat,()};rw[<-h2,hn,Ot,Ot]at h1;have h3:=zu m1.1 m2.1 (List.cons.inj h1).1;lia
 have m1:=bH ((i:Int)+c/7488) (show(0:Int)<26 by decide);have m2:=bH ((j:Int)+c/7488) (show(0:Int)<26 by decide);have h3:=zu m1.1 m2.1 (HD e);lia
theorem wu{x:Str}{lo hi:Option Int}{c:Nat}(h:c∈(Txt.slice x lo hi).cps.toList):c∈x.cps.toList:=by
 unfold Txt.slice at h;split at h
 ·exact h
 obtain⟨i,_,q⟩:=PC.mp (by simpa using h);exact Array.mem_toList_iff.mpr (Array.mem_of_getElem? q)
theorem gS{x:Str}:QZ x=true↔∀c∈x.cps.toList,c<0x110000:=by
 unfold QZ;rw[<-Array.all_toList,O7];exact{λh c hc=>of_decide_eq_true (h c hc),λh c hc=>decide_eq_true (h c hc)}
theorem wF{x:Str}(h:QZ x=true)(lo hi:Option Int):QZ (Txt.slice x lo hi)=true:=gS.mpr λc hc=>gS.mp h c (wu hc)
theorem vT{x y:Str}(h:QZ x=true)(h2:QZ y=true):QZ (x++y)=true:=gS.mpr λc hc=>by
 have e:(x++y).cps=x.cps++y.cps:=rfl;rw[e,Pk]at hc;rcases NQ.mp hc with q|q
 ·exact gS.mp h c q
 exact gS.mp h2 c q
theorem Hk{k:Int}(h:k<26):QZ ⟨#[jJ k]⟩=true:=gS.mpr λc hc=>by
 have e:c=jJ k:=by simpa using hc
 rw[e];unfold jJ;lia
theorem Bb{k n:Int}(h:k<26):QZ (oV ⟨#[jJ k]⟩ n)=true:=by
 by_cases hn:1<=n
 ·refine gS.mpr λc hc=>?_;rw[qI _ hn]at hc;rw[Tr hc];unfold jJ;lia
 unfold oV;rw[if_pos ()];decide+kernel
theorem Lu(c:Int)(k:Nat):QZ (Ś c k)=true:=by
 unfold Ś;split
 ·have h:∀i:Fin 25,QZ (WI.getD i.val Q4)=true:=by decide+kernel
  have:=bH (c/4+k) (show(0:Int)<25 by decide);exact h {((c/4+k)%25).toNat,()}
 have h1:=bH (c/288) (show(0:Int)<26 by decide);have h2:=bH ((k:Int)+c/7488) (show(0:Int)<26 by decide);have h3:=bH (c/4+(k:Int)/8) (show(0:Int)<26 by decide);split
 ·exact Bb h3.2
 exact vT (vT (wF (Bb h1.2) _ _) (Hk h2.2)) (wF (Bb h1.2) _ _)
inductive Cg(vs:List V)(H:Hp)(Q:VK)(Ã:XK):Prop
 |mk(c:Int)(k:Nat):vs=[.int c,.int k]->k<=100->(∀(H':Hp),ai H H'->Q (.str (Ś c k)) H')->Cg vs H Q Ã
theorem Jv(T:Txt K mg A):T.uB.Hz P w base 1 Cg:=by
 refine T.uB.hs eV (λf Ä A' outer s H vs Q E hr hu h=>?_);obtain⟨c,k,rfl,h1,q⟩:=h;unfold Ś at q;refine⟨_,(af (Å 2 eV.nd aF)
 (af (Å 3 eV.nd (aG bU (fv 0) aj))
 (af (aP (Ö (cK hu) (fv 3) aj)
  (af (Å 4 eV.nd (WQ aF (aF^ae)))
  (af (Å 4 eV.nd (aG aW (fv 4) (WQ aF (aF^ae))))
  (ag (aE (px hu (fv 4) (aG bU (aG aW (aG cf (fv 0) aj) (fv 1)) aj))))))
  aJ)
 (af (aP (Ö (cK hu) (fv 3) aj)
  (ag (aE (aG lO (px hu (fv 2) (aG bU (aG aW (aG cf (fv 0) aj) (aG cf (fv 1) aj)) aj)) (aG aW (aG bU (fv 1) aj) aj))))
  aJ)
 (af (Å 5 eV.nd (aG bU (aG cf (fv 0) aj) aj))
 (af (Å 6 eV.nd (aG bU (aG cf (fv 0) aj) (aG aW (fv 5) aj)))
 (af (Å 7 eV.nd (aG lO (px hu (fv 2) (aG bU (aG cf (fv 0) aj) aj)) (fv 5)))
 (ag (aE (aG aW (aG aW (fU j4 (fv 7) CI (dz (fv 6))) (px hu (fv 2) (aG bU (aG aW (fv 1) (aG cf (fv 0) aj)) aj))) (fU j4 (fv 7) (dz (fv 6)) CI))))))))))),?_⟩
 refine{(by show(0:Int)<4;decide),rfl,_,rfl,bg (λb1=>?_) (λb1=>?_)}
 ·rw[if_pos b1]at q;refine{rfl,_,_,ua,rfl,rfl,Di,λl hl=>?_};obtain⟨s1,e1⟩:=Ñ hl (HO.lst (ua.map V.str));generalize upd H l _=H1 at s1 e1⊢;refine{rfl,_,_,uY,rfl,rfl,Ds,λl2 hl2=>?_};obtain⟨s2,e2⟩:=Ñ hl2 (HO.lst (uY.map V.str));generalize upd H1 l2 _=H2 at s2 e2⊢;refine{l,l2,_,_,rfl,rfl,s2 _ _ e1,e2,(by decide:25<=sizeLine),λl3 hl3=>?_};obtain⟨j0,j1⟩:=bH (c/4+k) (show(0:Int)<25 by decide);have hk:((c/4+k)%25).toNat<WI.length:=by rw[rE];lia
  have e:Č (ua.map V.str++uY.map V.str) ((c/4+k)%25)=Wv (.str (WI.getD ((c/4+k)%25).toNat Q4)):=by
   rw[<-Oc];have e:=gG (xs:=WI.map V.str) (j:=((c/4+k)%25).toNat) (v:=.str (WI.getD ((c/4+k)%25).toNat Q4)) (by rw[NX,NN hk,Oj,NN hk];rfl);rw[show((((c/4+k)%25).toNat:Nat):Int)=(c/4+k)%25 by lia]at e;exact e
  exact{{∅,∅},(by show(0:Int)<25;decide),(ê (À.of av) e (q _ ((s1.trans s2).trans (ai.upd hl3 _))))}
 rw[if_neg b1]at q;refine{rfl,_,rfl,bg (λb2=>?_) (λb2=>?_)}
 ·rw[if_pos b2]at q;obtain⟨j0,j1⟩:=bH (c/4+(k:Int)/8) (show(0:Int)<26 by decide);obtain⟨m0,m1⟩:=bH (k:Int) (show(0:Int)<8 by decide);exact{{∅,∅},{∅,∅},(by show(0:Int)<26;decide),_,by decide+kernel,A7 j0 j1,(by show(0:Int)<8;decide),(),(),by show 1<=1000;decide,q _ (ai.refl _)}
 rw[if_neg b2]at q;obtain⟨m0,m1⟩:=bH (c/4) (show(0:Int)<8 by decide);obtain⟨j0,j1⟩:=bH (c/288) (show(0:Int)<26 by decide);obtain⟨i0,i1⟩:=bH (k+c/7488) (show(0:Int)<26 by decide);have rl:(oV ⟨#[jJ (c/288%26)]⟩ (c/4%8)).length<=1000:=GW (NM _) ();refine{{∅,∅},(by show(0:Int)<8;decide),{∅,∅},(by show(0:Int)<c/4%8+1;lia),{∅,∅},(by show(0:Int)<26;decide),_,by decide+kernel,A7 j0 j1,(),(),by show 1<=1000;decide,?_};have s1:=U1 (oV ⟨#[jJ (c/288%26)]⟩ (c/4%8)) Ww (Wv (c/32%(c/4%8+1)));have s2:=U1 (oV ⟨#[jJ (c/288%26)]⟩ (c/4%8)) (Wv (c/32%(c/4%8+1))) Ww;refine{_,rfl,sz rl,{∅,∅},(by show(0:Int)<26;decide),_,by decide+kernel,A7 i0 i1,{NU (m:=1000+1) (Ui (NU s1 rl) 1) ∅,_,rfl,sz rl,{?_,q _ (ai.refl _)}}};rw[sj];exact NU (m:=1000+1+1000) (Nat.add_le_add (Ui (NU s1 rl) 1) (NU s2 rl)) ∅
def cellAt(ns:List Int)(k:Int):Int:=if k<(ns.length:Int)then ns.getD k.toNat 0 else 0
theorem KA{ns:List Int}{k:Int}(h0:0<=k)(h1:k<(ns.length:Int)):Č (ns.map V.int) k=Wv (.int (ns.getD k.toNat 0)):=by
 have hk:k.toNat<ns.length:=()
 have e:=gG (xs:=ns.map V.int) (j:=k.toNat) (v:=.int (ns.getD k.toNat 0)) (by rw[NX,NN hk,Oj,NN hk];rfl);rw[show((k.toNat:Nat):Int)=k by lia]at e;exact e
inductive B4(K:Qx)(vs:List V)(H:Hp)(Q:VK)(Ã:XK):Prop
 |mk(a:Qs)(ns:List Int)(k:Int):vs=[.ref a,.int k]->À K H a (ns.map V.int)->0<=k->Q (.int (cellAt ns k)) H->B4 K vs H Q Ã
theorem Eh(T:Txt K mg A):T.ou.Hz P w base 1 (B4 K):=by
 refine T.ou.hs vd (λf Ä A' outer s H vs Q E hr hu h=>?_);obtain⟨a,ns,k,rfl,hS,h0,q⟩:=h;unfold cellAt at q;have el:(((ns.map V.int).length:Nat):Int)=(ns.length:Int):=by rw[NH]
 refine⟨_,(af (aP (Ö Me (fv 1) (Ê k8 T.md (fv 0^ae)))
  (ag (aE (px hu (fv 0) (fv 1))))
  aJ)
 (ag (aE aj))),?_⟩
 refine NI {_,_,rfl,NI {_,hS,rfl},_,rfl,bg (λc=>?_) (λc=>?_)}
 ·have c':k<(((ns.map V.int).length:Nat):Int):=of_decide_eq_true c;rw[el]at c';rw[if_pos c']at q;exact ê hS (KA h0 c') q
 have c':¬ k<(((ns.map V.int).length:Nat):Int):=of_decide_eq_false (Pe.mpr c);rw[el]at c';rw[if_neg c']at q;exact q
theorem MG:((10:Int)^(12:Int).toNat)=1000000000000:=∅
inductive Ej(vs:List V)(H:Hp)(Q:VK)(Ã:XK):Prop
 |mk(c:Int)(k:Nat):vs=[.int c,.int k]->k<=100->(∀(m:Int)(H':Hp),In m->ai H H'->Q (.int m) H')->Ej vs H Q Ã
theorem EG(T:Txt K mg A):T.xO.Hz P w base 1 Ej:=by
 refine T.xO.hs gY (λf Ä A' outer s H vs Q E hr hu h=>?_);obtain⟨c,k,rfl,hk,q⟩:=h;refine⟨_,(af (Å 2 gY.nd (aG cf (fv 0) aj))
 (af (aP (PW.pt (pw_and (Ö Dj (fv 2) (aG zf aj aj)) (pw_and1 (Ö (cK hu) (aG bU (fv 2) aj) aj))))
  (af (Å 2 gY.nd (aG cf (fv 2) aj))
  (af (bG Qz rfl (oN rfl T.hU (fv 1^ae)) (Ó (i:=3) gY.nd rfl)
   (ag (Å 2 gY.nd (aG cf (fv 2) (aG zf aj aj)))))
  (ag (aP (Ö Dj (fv 2) aj)
   (ag (aE (aG bU (fv 2) (aG zf aj aj))))
   aJ))))
  aJ)
 (af (Å 4 gY.nd (px hu (aZ (aj^aj^aj^aj^ae)) (aG bU (fv 1) aj)))
 (ag (aE (aG bU (aG lO (aG aW (aG aW (aG bU (fv 0) (fv 4)) aj) (aG lO (fv 1) (fv 1))) aj) (fv 4))))))),?_⟩
 refine ah λM1 K1=>{{∅,∅},K1 _ _ (ah λM2 K2=>?_)};have rest:∀B:St,(∃z z3,B=[Wv (.int c),Wv (.int k),Wv (.int z),z3,Ww])->M2 B H:=by
  rintro B ⟨z,z3,rfl⟩;refine K2 _ _ (ah λM3 K3=>{(show 4<=sizeLine by decide),λl hl=>?_});obtain⟨s1,e1⟩:=Ñ hl (HO.lst [V.int 2147483647,.int 998244353,.int 1000000007,.int 999999937]);generalize upd H l _=H1 at s1 e1⊢;obtain⟨p,hp,p0,p1⟩:∃p:Int,Č [V.int 2147483647,.int 998244353,.int 1000000007,.int 999999937] ((k:Int)%4)=Wv (.int p)/\0<p/\p<2147483648:=by
   have m:=bH (k:Int) (show(0:Int)<4 by decide);generalize (k:Int)%4=u at m⊢;have:u=0\/u=1\/u=2\/u=3:=()
   rcases this with rfl|rfl|rfl|rfl
   ·exact{2147483647,rfl,∅,∅}
   ·exact{998244353,rfl,∅,∅}
   ·exact{1000000007,rfl,∅,∅}
   exact{999999937,rfl,∅,∅}
  exact{(by show(0:Int)<4;decide),(ê (À.of e1) hp (K3 _ _ {p0,.inl {(),()},.inr {∅,∅},p0,q _ _ (by have:=bH ((c%p+7+(k:Int)*(k:Int))*48271) p0;exact{this.1,()}) s1}))}
 refine{{∅,∅,∅},_,rfl,bg (λb=>?_) (λb=>rest _ {_,_,rfl})};refine{(by show(0:Int)<2;decide),rfl,_,rfl,bg (λb=>?_) (λb=>rest _ {_,_,rfl})};refine ah λA1 B1=>{{∅,∅},B1 _ _ (ah λA2 B2=>{(k:Int),rfl,(),(),iT (λi B H2=>H2=H/\∃z z3,B=[Wv (.int c),Wv (.int k),Wv (.int z),z3,Ww]) {rfl,_,_,rfl} ?_ ?_})}
 ·rintro i B H2 hi ⟨rfl,z,z3,rfl⟩;exact{{∅,∅,∅},{∅,∅},rfl,_,_,rfl}
 rintro B H2 ⟨rfl,z,z3,rfl⟩;refine B2 _ _ {_,rfl,bg (λb=>?_) (λb=>rest _ {_,_,rfl})};exact{{∅,∅,∅},(by show(0:Int)<10^(12:Int).toNat;decide),q _ _ (bH _ ∅) (ai.refl _)}
inductive xc(vs:List V)(H:Hp)(Q:VK)(Ã:XK):Prop
 |mk(c:Int):vs=[.int c]->-(2^64)<c->c<2^64->(∀n,In n->Q (.int n) H)->xc vs H Q Ã
theorem Ge(T:Txt K mg A):T.pH.Hz P w base 1 xc:=by
 refine T.pH.hs vN (λf Ä A' outer s H vs Q E hr hu h=>?_);obtain⟨c,rfl,c0,c1,q⟩:=h;have h5:=bH (c/3) (show(0:Int)<5 by decide);refine⟨_,(af (aP (Ö (cK hu) (aG bU (fv 0) aj) aj)
  (ag (aE (aG bU (aG cf (fv 0) aj) aj)))
  aJ)
 (af (aP (Ö (cK hu) (aG bU (fv 0) aj) aj)
  (ag (aE (aG pE (aG pE (aG zf aj aj) aj) (aG bU (aG cf (fv 0) aj) aj))))
  aJ)
 (ag (aE (aG bU (aG lO (fv 0) (fv 0)) (aG zf aj aj)))))),?_⟩
 refine{(by show(0:Int)<3;decide),rfl,_,rfl,bg (λb=>{{∅,∅},(by show(0:Int)<5;decide),q _ {h5.1,()}}) (λb=>{(by show(0:Int)<3;decide),rfl,_,rfl,bg (λb=>{{∅,∅,∅},{∅,∅},(by show(0:Int)<5;decide),q _ (by rw[MG];exact{(),()})}) (λb=>?_)})};exact{.inl ⟨c0,c1⟩,{∅,∅,∅},(by show(0:Int)<10^(12:Int).toNat;decide),q _ (bH _ ∅)}
def AA(E:En)(th:List Nat):Prop:=th≠[]/\∀i∈th,i∈E.idx/\E.sz i=0
abbrev ã(E:En)(th:List Nat):List V:=th.map λi=>V.str (E.N i)
inductive yX(K:Qx)(E:En)(vs:List V)(H:Hp)(Q:VK)(Ã:XK):Prop
 |mk(n:Int)(l:Qs)(th:List Nat):vs=[.int n,.ref l]->In n->À K H l (ã E th)->AA E th->(∀t:Th,t.ok E->Q (t.v E.N) H)->yX K E vs H Q Ã
theorem xk(T:Txt K mg A):T.rC.Hz P w base 2 (yX K E):=by
 refine T.rC.hs (k:=1) yp (λf Ä A' outer s H vs Q E' hr hu h=>?_);obtain⟨n,l,th,rfl,⟨n0,n1⟩,hl,⟨h0,hth⟩,q⟩:=h;have h0':0<th.length:=List.length_pos_iff.mpr h0;refine⟨_,(af (aP (Ö Dj (aG bU (fv 0) aj) aj)
  (ag (aE (px hu (fv 1) (aG bU (aG cf (fv 0) aj) (Ê k8 T.md (fv 1^ae))))))
  aJ)
 (af (aP (Ö (cK hu) (aG bU (aG cf (fv 0) aj) aj) aj)
  (ag (aE (ao (hj:=by lia) (Ge T) hr (aG cf (fv 0) aj^ae))))
  aJ)
 (ag (aE (aG bU (aG cf (fv 0) aj) aj))))),?_⟩
 refine{(by show(0:Int)<3;decide),_,rfl,bg (λb=>?_) (λb=>?_)}
 ·have e:(((ã E th).length:Nat):Int)=(th.length:Int):=by rw[NH]
  have m:=bH (n/3) (show(0:Int)<(th.length:Int) by lia);obtain⟨x,hx,_,ha⟩:=xQ (λi=>V.str (E.N i)) m.1 m.2;exact{{∅,∅},NI {_,_,rfl,NI {_,hl,rfl},(by rw[e];lia),(ê hl (by rw[e];exact ha) (q (.x x) (hth x hx)))}}
 refine{{∅,∅},(by show(0:Int)<4;decide),rfl,_,rfl,bg (λb=>{{∅,∅},_,rfl,(),(),λm hm=>q (.i m) hm}) (λb=>?_)};exact{{∅,∅},(by show(0:Int)<4;decide),q (.i _) (by have:=bH (n/12) (show(0:Int)<4 by decide);exact{this.1,()})}
inductive yR(K:Qx)(E:En)(vs:List V)(H:Hp)(Q:VK)(Ã:XK):Prop
 |mk(n:Int)(l ll:Qs)(th:List Nat)(x y:Nat):vs=[.int n,.ref l,.ref ll]->In n->À K H l (ã E th)->AA E th->H ll=Wv (.lst [.str (E.N x),.str (E.N y)])->x∈E.ls->y∈E.ls->(∀(p:Qs)(val:Val)(H':Hp),val.ok E->ai H H'->H p=Ww->H' p=Wv (.tup (vV E.N val))->Q (.ref p) H')->yR K E vs H Q Ã
theorem BW(T:Txt K mg A):T.rP.Hz P w base 3 (yR K E):=by
 have E9:=xk (P:=P) (w:=w) (base:=base) (E:=E) T;refine T.rP.hs (k:=2) lB (λf Ä A' outer s H vs Q E' hr hu h=>?_);obtain⟨n,l,ll,th,x,y,rfl,⟨n0,n1⟩,hl,hth,Ϙ,hx,hy,q⟩:=h;have lm:∀i∈E.ls,i∈E.idx/\0<E.sz i:=λi hi=>by
  obtain⟨h1,h2⟩:=Og.mp hi;exact⟨h1,of_decide_eq_true h2⟩
 refine⟨_,(af (Å 3 lB.nd (ao (hj:=by lia) E9 hr (aG cf (fv 0) aj^fv 1^ae)))
 (af (Å 4 lB.nd (ao (hj:=by lia) E9 hr (aG cf (fv 0) aj^fv 1^ae)))
 (af (aP (Ö (cK hu) (aG bU (fv 0) aj) aj)
  (ag (aE (bj (fv 3^ae))))
  aJ)
 (af (aP (Ö (cK hu) (aG bU (fv 0) aj) aj)
  (ag (aE (bj (px hu (fv 2) (aG bU (aG cf (fv 0) aj) aj)^aF^fv 4^ae))))
  aJ)
 (ag (aE (bj (fv 3^px hu (aZ (aF^aF^aF^aF^aF^aF^aF^ae)) (aG bU (aG cf (fv 0) aj) aj)^fv 4^ae)))))))),?_⟩
 refine{{∅,∅},_,l,th,rfl,{(),()},hl,hth,λa ha=>{{∅,∅},_,l,th,rfl,{(),()},hl,hth,λb hb=>{(by show(0:Int)<4;decide),rfl,_,rfl,bg (λ_=>{by show 1<=sizeLine;decide,λp hp=>q p (.one a) _ ha (ai.upd hp _) hp av}) (λ_=>{(by show(0:Int)<4;decide),rfl,_,rfl,bg (λ_=>?_) (λ_=>?_)})}}}
 ·have m:=bH (n/4) (show(0:Int)<2 by decide);obtain⟨z,ez,hz⟩:∃z,Č [V.str (E.N x),.str (E.N y)] (n/4%2)=Wv (.str (E.N z))/\z∈E.ls:=by
   have:n/4%2=0\/n/4%2=1:=()
   rcases this with e|e<;>rw[e]
   ·exact⟨x,rfl,hx⟩
   exact⟨y,rfl,hy⟩
  exact{{∅,∅},(by show(0:Int)<2;decide),(ê (À.of Ϙ) ez {by show 3<=sizeLine;decide,λp hp=>q p (.op (.x z) "at" b) _ {hb,.inr ⟨z,hz,rfl,rfl⟩} (ai.upd hp _) hp av})}
 refine{by show 7<=sizeLine;decide,λlo ϰ=>?_};obtain⟨s1,e1⟩:=Ñ ϰ (HO.lst [V.str "+",.str "-",.str "*",.str "over",.str "rest",.str "<",.str "="]);generalize upd H lo _=H1 at s1 e1⊢;have m:=bH (n/4) (show(0:Int)<7 by decide);obtain⟨z,hz,_,ez⟩:=xQ V.str (xs:=opW) m.1 m.2;exact{{∅,∅},(by show(0:Int)<7;decide),(ê (À.of e1) ez {by show 3<=sizeLine;decide,λp hp=>q p (.op a z b) _ {hb,.inl ⟨ha,hz⟩} (s1.trans (ai.upd hp _)) (ai.free s1 hp) av})}
def Õ(H H':Hp):Hp:=λa=>match H a with
 |none=>H' a
 |some _=>Ww
theorem Õ.of{H H':Hp}{a:Qs}{o:HO}(h:H a=Ww)(e:H' a=Wv o):Õ H H' a=Wv o:=by
 unfold Õ;rw[h];exact e
theorem Õ.get{H H':Hp}{a:Qs}{o:HO}(h:Õ H H' a=Wv o):H a=Ww/\H' a=Wv o:=by
 unfold Õ at h;split at h
 ·exact⟨by assumption,h⟩
 cases h
theorem Õ.same{H H':Hp}:ai (Õ H H') H':=λa o h=>(Õ.get h).2
def Dm(H H':Hp):Prop:=∀a,H' a=Ww->H a=Ww
theorem Dm.new{H H':Hp}(s:ai H H'):Dm H H':=λa e=>by
 cases h:H a with
 |none=>rfl
 |some o=>rw[s a o h]at e;cases e
theorem Õ.up{H H1 H':Hp}(h:Dm H H1):ai (Õ H1 H') (Õ H H'):=λa o e=>by
 obtain⟨e1,e2⟩:=Õ.get e;exact Õ.of (h a e1) e2
theorem Õ.on{H H1 H2:Hp}(s:ai H1 H2):ai (Õ H H1) (Õ H H2):=λa o e=>by
 obtain⟨e1,e2⟩:=Õ.get e;exact Õ.of e1 (s a o e2)
theorem Õ.go{M:List Qs}{H H1 H2:Hp}(g:Go M H1 M H2)(m:∀a∈M,H a≠Ww):ai (Õ H H1) (Õ H H2):=λa o e=>by
 obtain⟨e1,e2⟩:=Õ.get e;exact Õ.of e1 (g.o a o (λz=>m a z e1) e2)
theorem Go.out{M:List Qs}{H H1:Hp}(g:Go M H M H1){x:Qs}(h:H x=Ww)(u:HO):Go M H M (upd H1 x u):=⟨λa o m e=>by
 rw[aR (λz=>by rw[z,h]at e;cases e)];exact g.o a o m e,g.m⟩
def ñ(i:Nat):Nat:=13+2*i
def cG(N:Nat->Str)(X:Hp):Nat->V->Rw->Prop
 |_,v,.set n x val=>∃a p,v=.ref a/\X a=Wv (.tup [.int n,.str "set",.str (N x),.ref p])/\X p=Wv (.tup (vV N val))
 |_,v,.put n x pl val=>∃a p,v=.ref a/\X a=Wv (.tup [.int n,.str "put",.str (N x),pl.v N,.ref p])/\X p=Wv (.tup (vV N val))
 |_,v,.snd n h val=>∃a p,v=.ref a/\X a=Wv (.tup [.int n,.str "send",.str (N h),.ref p])/\X p=Wv (.tup (vV N val))
 |_,v,.say n x val m=>∃a p,v=.ref a/\X a=Wv (.tup [.int n,.str "say",.str (N x),.ref p,.str (N m)])/\X p=Wv (.tup (vV N val))
 |_,v,.last n=>∃a,v=.ref a/\X a=Wv (.tup [.int n,.str "last"])
 |_,v,.call n i ts=>∃a p,v=.ref a/\X a=Wv (.tup [.int n,.str "call",.str (N (ñ i)),.ref p])/\X p=Wv (.lst (ts.map (Th.v N)))
 |d+1,v,.iff n val f o l r=>∃a p pf po xf xo,v=.ref a/\X a=Wv (.tup [.int n,.str "if",.ref p,.ref pf,.ref po,.int l,.int r])/\X p=Wv (.tup (vV N val))/\X pf=Wv (.lst xf)/\X po=Wv (.lst xo)/\Paired (cG N X d) xf f/\Paired (cG N X d) xo o
 |d+1,v,.loop n t m b l r=>∃a pb xb,v=.ref a/\X a=Wv (.tup [.int n,.str "loop",t.v N,.int m,.ref pb,.int l,.int r])/\X pb=Wv (.lst xb)/\Paired (cG N X d) xb b
 |0,_,.iff _ _ _ _ _ _=>False
 |0,_,.loop _ _ _ _ _ _=>False
theorem cG.same{N:Nat->Str}{X X':Hp}(s:ai X X'):∀{d:Nat}{v:V}{r:Rw},cG N X d v r->cG N X' d v r:=by
 have Ĳ:∀{d:Nat}{v:V}{r:Rw},(∀n v f o l q,r≠ .iff n v f o l q)->(∀n t m b l q,r≠ .loop n t m b l q)->cG N X d v r->cG N X' d v r:=by
  intro d v r i1 i2 h;cases r with
  |iff n v f o l r=>exact absurd rfl (i1 _ _ _ _ _ _)
  |loop n t m b l r=>exact absurd rfl (i2 _ _ _ _ _ _)
  |last n=>cases d<;>(obtain⟨a,e,h1⟩:=h;exact{a,e,s _ _ h1})
  |_=>cases d<;>(obtain⟨a,p,e,h1,h2⟩:=h;exact{a,p,e,s _ _ h1,s _ _ h2})
 intro d;induction d with
 |zero=>
  intro v r h;cases r with
  |iff n v f o l r=>exact h.elim
  |loop n t m b l r=>exact h.elim
  |_=>exact Ĳ (λ_ _ _ _ _ _ z=>by cases z) (λ_ _ _ _ _ _ z=>by cases z) h
 |succ d ih=>
  intro v r h;cases r with
  |iff n v f o l r=>
   obtain⟨a,p,pf,po,xf,xo,e,h1,h2,h3,h4,h5,h6⟩:=h;exact{a,p,pf,po,xf,xo,e,s _ _ h1,s _ _ h2,s _ _ h3,s _ _ h4,Paired.fg h5 λ_ _=>ih,Paired.fg h6 λ_ _=>ih}
  |loop n t m b l r=>
   obtain⟨a,pb,xb,e,h1,h2,h3⟩:=h;exact{a,pb,xb,e,s _ _ h1,s _ _ h2,Paired.fg h3 λ_ _=>ih}
  |_=>exact Ĳ (λ_ _ _ _ _ _ z=>by cases z) (λ_ _ _ _ _ _ z=>by cases z) h
def Ē(E:En)(kn:Nat):Nat->Rw->Prop
 |_,.set _ x v=>x∈E.idx/\E.sz x=0/\v.ok E
 |_,.put _ x p v=>x∈E.idx/\0<E.sz x/\p.ok E/\v.ok E
 |_,.snd _ _ v=>v.ok E
 |_,.say _ x v _=>x∈E.idx/\E.sz x=0/\v.ok E
 |_,.last _=>True
 |_,.call _ i ts=>i<kn/\ts.length=i+1/\∀t∈ts,t.ok E
 |d+1,.iff _ v f o l r=>v.ok E/\0<=l/\0<=r/\f.length<=1000/\o.length<=1000/\(∀q∈f,Ē E kn d q)/\∀q∈o,Ē E kn d q
 |d+1,.loop _ t m b l r=>t.ok E/\0<=m/\m<=1000/\0<=l/\0<=r/\b.length<=1000/\∀q∈b,Ē E kn d q
 |0,.iff _ _ _ _ _ _=>False
 |0,.loop _ _ _ _ _ _=>False
structure La where
 S:Qs
 ln:Qs
 lm:Qs
 lo:Qs
 lk:Qs
 lt:Qs
 ll:Qs
 gk:List Int
 kn:Nat
 th:List Nat
structure Dy where
 row:Int
 marks:List Nat
 cells:List Int
def La.M(s:La):List Qs:=[s.S,s.lm,s.ll]
def stK(s:La)(row:Int):List (Key×V):=[(.inr "names",.ref s.ln),(.inr "row",.int row),(.inr "marks",.ref s.lm),(.inr "mosts",.ref s.lo),(.inr "known",.ref s.lk),(.inr "things",.ref s.lt),(.inr "cells",.ref s.ll)]
def KnV(N:Nat->Str)(X:Hp)(v:V)(i:Nat):Prop:=∃p,v=.ref p/\X p=Wv (.tup [.str (N (ñ i)),.int ((i+1:Nat):Int)])
abbrev Ņ(N:Nat->Str):List V:=(Q1 18).map λi=>V.str (N i)
structure Ia(E:En)(X:Hp)(s:La):Prop where
 hn:X s.ln=Wv (.lst (Ņ E.N))
 ho:X s.lo=Wv (.lst (s.gk.map V.int))
 hk:∃kv,X s.lk=Wv (.lst kv)/\Paired (KnV E.N X) kv (Q1 s.kn)
 ht:X s.lt=Wv (.lst (ã E s.th))
theorem Ia.same{X X':Hp}{s:La}(z:ai X X')(h:Ia E X s):Ia E X' s:=by
 obtain⟨kv,k1,k2⟩:=h.hk;exact{z _ _ h.hn,z _ _ h.ho,{kv,z _ _ k1,Paired.fg k2 λ_ _ ⟨p,e,q⟩=>{p,e,z _ _ q}},z _ _ h.ht}
structure Dyn(E:En)(H:Hp)(s:La)(y:Dy):Prop where
 hS:H s.S=Wv (.dK (stK s y.row))
 hm:H s.lm=Wv (.lst (ã E y.marks))
 mb:∀m∈y.marks,10<=m/\m<13
 hc:H s.ll=Wv (.lst (y.cells.map V.int))
theorem Dyn.same{H H':Hp}{s:La}{y:Dy}(z:ai H H')(h:Dyn E H s y):Dyn E H' s y:={z _ _ h.hS,z _ _ h.hm,h.mb,z _ _ h.hc}
structure rh(E:En)(s:La):Prop where
 n1:s.S≠s.lm
 n2:s.S≠s.ll
 n3:s.lm≠s.ll
 D:DJ E.N
 ok:∀i,QZ (E.N i)=true
 th:AA E s.th
 t3:3<s.th.length
 kn:s.kn<=2
 l5:5∈E.ls
 l9:9∈E.ls
 ms:∀m∈s.gk,1<=m/\m<=4
 ml:s.gk.length<=2
structure eO(E:En)(H:Hp)(s:La)(y:Dy):Prop where
 st:Ia E (del s.M H) s
 dy:Dyn E H s y
variable{H H':Hp}{s:La}{y:Dy}
theorem eO.same(z:ai H H')(h:eO E H s y):eO E H' s y:={h.st.same (Go.new (M:=s.M) z).same,h.dy.same z}
theorem eO.go{y':Dy}(h:eO E H s y)(g:Go s.M H s.M H')(d:Dyn E H' s y'):eO E H' s y':=⟨h.st.same g.same,d⟩
theorem eO.al(h:eO E H s y):∀a∈s.M,H a≠Ww:=λa m e=>by
 rcases NJ.mp m with rfl|m
 ·rw[h.dy.hS]at e;cases e
 rcases NJ.mp m with rfl|m
 ·rw[h.dy.hm]at e;cases e
 rcases NJ.mp m with rfl|m
 ·rw[h.dy.hc]at e;cases e
 cases m
theorem inS(s:La):s.S∈s.M:=NL
theorem inm(s:La):s.lm∈s.M:=NK _ NL
theorem Kw(s:La):s.ll∈s.M:=NK _ (NK _ NL)
theorem eO.row(O:rh E s)(h:eO E H s y)(n:Int):eO E (upd H s.S (.dK (stK s n))) s { y with row:=n }:=h.go (Go.at (inS s) _) ⟨av,aK O.n1.symm h.dy.hm,h.dy.mb,aK O.n2.symm h.dy.hc⟩
theorem eO.mark(O:rh E s)(h:eO E H s y)(ms:List Nat)(hms:∀m∈ms,m∈y.marks):eO E (upd H s.lm (.lst (ã E ms))) s { y with marks:=ms }:=h.go (Go.at (inm s) _) ⟨aK O.n1 h.dy.hS,av,λm x=>h.dy.mb m (hms m x),aK O.n3.symm h.dy.hc⟩
theorem eO.cell(O:rh E s)(h:eO E H s y)(cs:List Int):eO E (upd H s.ll (.lst (cs.map V.int))) s { y with cells:=cs }:=h.go (Go.at (Kw s) _) ⟨aK O.n2 h.dy.hS,aK O.n3 h.dy.hm,h.dy.mb,av⟩
theorem eO.dm(h:eO E H s y)(g:Go s.M H s.M H'){y':Dy}(h':eO E H' s y'):Dm H H':=λa e=>by
 cases q:H a with
 |none=>rfl
 |some o=>
  by_cases m:a∈s.M
  ·exact absurd e (h'.al a m)
  rw[g.o a o m q]at e;cases e
def knD(N:Nat->Str)(i:Nat):Ub:=.tuple [.str (N (ñ i)),.int ((i+1:Nat):Int)]
theorem EY{X:Hp}(z:ai X H){N:Nat->Str}:∀{kv:List V}{ki:List Nat},Paired (KnV N X) kv ki->gh K H kv (ki.map (knD N))
 |_,_,.nil=>.nil
 |_,_,.cons ⟨t,e,h⟩ r=>by
  subst e;exact .cons (.tup (Ò.of (z _ _ h)) (.cons (.str _) (.cons (.int _) .nil))) (EY z r)
theorem DP(O:rh E s):QY (.list ((Q1 s.kn).map (knD E.N)))=true:=by
 have:s.kn=0\/s.kn=1\/s.kn=2:=by have:=O.kn;lia
 rcases this with e|e|e<;>rw[e]<;>simp[VI,knD,QY,Uc,Ti,TR,SO,O.ok]
end
section
variable{P:Program}{w:QD}{K:Qx}{mg:Str->Option Qt}{base:QN}{A:Ì}{E:En}
seal PE PA PS č PT PW
def WO:List Str:=["set","set","put","send","send","say","if","if","loop","loop","last","call","close","close"]
theorem bE{x y:Str}(h:decide (V.str x=V.str y)=true):x=y:=by
 have:=of_decide_eq_true h;cases this;rfl
theorem gB{x y:Str}(h:¬ decide (V.str x=V.str y)=true):x≠y:=λe=>h (by rw[e];exact decide_eq_true rfl)
inductive BJ(E:En)(vs:List V)(H:Hp)(Q:VK)(Ã:XK):Prop
 |mk(s:La)(y:Dy)(c:Int)(dp lp:Nat):vs=[.ref s.S,.int c,.int dp,.int lp]->rh E s->eO E H s y->(∀(x:Str) H',ai H H'->(x="if"->dp<=3)->(x="loop"->dp<=3/\lp<s.gk.length)->(x="call"->0<s.kn)->(x="last"->0<lp)->Q (.str x) H')->BJ E vs H Q Ã
theorem JT(T:Txt K mg A):T.vi.Hz P w base 1 (BJ E):=by
 refine T.vi.hs mS (λf Ä A' outer s H vs Q E' hr hu h=>?_);obtain⟨s,y,c,dp,lp,rfl,O,L,q⟩:=h;refine⟨_,(af (Å 4 mS.nd (aZ (aF^aF^aF^aF^aF^aF^aF^aF^aF^aF^aF^aF^aF^aF^ae)))
 (af (Å 5 mS.nd (px hu (fv 4) (aG bU (fv 1) aj)))
 (af (aP (PW.pt (pw_or (PW.pt (pw_and (Ö (cK hu) (fv 5) aF) (pw_and1 (Ö (cK hu) (fv 2) aj)))) (pw_or (PW.pt (pw_and (Ö (cK hu) (fv 5) aF) (pw_and1 (Ö Dj (fv 2) aj)))) (pw_or1 (PW.pt (pw_and (Ö (cK hu) (fv 5) aF) (pw_and1 (Ö (cK hu) (fv 3) aj))))))))
  (ag (aE aF))
  aJ)
 (af (aP (PW.pt (pw_and (Ö (cK hu) (fv 5) aF) (pw_and1 (PW.pt (pw_or (Ö Dj (fv 2) aj) (pw_or1 (Ö ME (fv 3) (Ê k8 T.md (px hu (fv 0) aF^ae)))))))))
  (ag (aE aF))
  aJ)
 (af (aP (PW.pt (pw_and (Ö (cK hu) (fv 5) aF) (pw_and1 (PW.pt (pw_or (Ö (cK hu) (px hu (fv 0) aF) (aZ ae)) (pw_or1 (Ö Dj (fv 3) aj)))))))
  (ag (aE aF))
  aJ)
 (ag (aE (fv 5)))))))),?_⟩
 refine{by show 14<=sizeLine;decide,λlo ϰ=>?_};have s1:=ai.upd ϰ (HO.lst (WO.map V.str));have e1:(upd H lo (HO.lst (WO.map V.str))) lo=Wv (.lst (WO.map V.str)):=av;change Jg _ _ _ _ (upd H lo (HO.lst (WO.map V.str)));generalize upd H lo (HO.lst (WO.map V.str))=H1 at s1 e1⊢;have L1:=L.same s1;have m:=bH c (show(0:Int)<14 by decide);obtain⟨x,hx,_,ex'⟩:=xQ V.str (xs:=WO) m.1 m.2;refine{(by show(0:Int)<14;decide),(ê (À.of e1) ex' ?_)};dsimp only;refine ah λM1 K1=>?_;have set:∀H2,ai H H2->Q (.str "set") H2:=λH2 s2=>q _ _ s2 (λz=>absurd z ∅) (λz=>absurd z ∅) (λz=>absurd z ∅) (λz=>absurd z ∅);have fin:(x="if"->dp<=3)->(x="last"->0<lp)->M1 [Wv (.ref s.S),Wv (.int c),Wv (.int dp),Wv (.int lp),Wv (.ref lo),Wv (.str x)] H1:=λz1 z4=>K1 _ _ (by
  refine ah λM2 K2=>?_;have ϻ:(x="loop"->dp<=3/\lp<s.gk.length)->M2 [Wv (.ref s.S),Wv (.int c),Wv (.int dp),Wv (.int lp),Wv (.ref lo),Wv (.str x)] H1:=λz2=>K2 _ _ (by
   refine ah λM3 K3=>?_;have fin3:(x="call"->0<s.kn)->∀H2,ai H H2->M3 [Wv (.ref s.S),Wv (.int c),Wv (.int dp),Wv (.int lp),Wv (.ref lo),Wv (.str x)] H2:=λz3 H2 s2=>K3 _ _ (q x H2 s2 z1 z2 z3 z4);refine{rfl,_,rfl,bg (λa=>?_) (λa=>aT (fin3 (λz=>absurd z (gB a)) _ s1))};refine î L1.dy.hS rfl {NS _,λl hl=>?_};obtain⟨s2,e2⟩:=Ñ hl (HO.lst []);generalize upd H1 l _=H2 at s2 e2⊢;obtain⟨kv,k1,k2⟩:=L1.st.hk;refine NI (NI {_,_,.lst (À.of (s2 _ _ (aX _ _ k1))) (EY (aX.trans s2) k2),.lst (À.of e2) .nil,DP O,rfl,_,rfl,?_});cases e:s.kn with
   |zero=>exact bo (bo (q "send" _ (s1.trans s2) (λz=>absurd z ∅) (λz=>absurd z ∅) (λz=>absurd z ∅) (λz=>absurd z ∅)))
   |succ n=>
    rw[List.range_succ_eq_map];exact aT {_,rfl,bg (λb=>q "send" _ (s1.trans s2) (λz=>absurd z ∅) (λz=>absurd z ∅) (λz=>absurd z ∅) (λz=>absurd z ∅)) (λb=>fin3 (λ_=>()) _ (s1.trans s2))})
  refine{rfl,_,rfl,bg (λa=>?_) (λa=>aT (ϻ (λz=>absurd z (gB a))))};have put:∀H2,ai H H2->Q (.str "put") H2:=λH2 s2=>q _ _ s2 (λz=>absurd z ∅) (λz=>absurd z ∅) (λz=>absurd z ∅) (λz=>absurd z ∅);refine{_,rfl,bg (λb=>bo (put _ s1)) (λb=>?_)};have hb:¬ (3:Int)<dp:=λz=>b (decide_eq_true z);refine î L1.dy.hS rfl (lnl (aX _ _ L1.st.ho) {_,rfl,bg (λb2=>put _ s1) (λb2=>?_)});have hb2:¬ (((s.gk.map V.int).length:Nat):Int)<=lp:=λz=>b2 (decide_eq_true z);rw[NH]at hb2;exact ϻ λ_=>{(),()})
 refine{rfl,_,rfl,bg (λa=>?_) (λa=>aT ?_)}
 ·have e:=bE a;have go:∀z:Str,x=z->z≠"close"->False:=λz e2 n=>n (e2.symm.trans e);exact{rfl,_,rfl,bg (λb=>bo (set _ s1)) (λb=>{rfl,_,rfl,bg (λa=>(go _ (bE a) ∅).elim) (λa=>aT {rfl,_,rfl,bg (λa=>(go _ (bE a) ∅).elim) (λa=>aT (fin (λz=>(go _ z ∅).elim) (λz=>(go _ z ∅).elim)))})})}
 refine{rfl,_,rfl,bg (λa=>?_) (λa=>aT ?_)}
 ·have e:=bE a;refine{_,rfl,bg (λb=>bo (set _ s1)) (λb=>?_)};have hb:¬ (3:Int)<dp:=λz=>b (decide_eq_true z);exact{rfl,_,rfl,bg (λa=>absurd (e.symm.trans (bE a)) ∅) (λa=>aT (fin (λz=>()) (λz=>absurd (e.symm.trans z) ∅)))}
 have n:=gB a;exact{rfl,_,rfl,bg (λa=>{rfl,_,rfl,bg (λb=>set _ s1) (λb=>fin (λz=>absurd z n) (λ_=>by have:¬ (lp:Int)=0:=λy=>b (decide_eq_true (congrArg V.int y));lia))}) (λa=>aT (fin (λz=>absurd z n) (λz=>absurd z (gB a))))}
theorem A5{n i j:Nat}(h:(Q1 n)[i]?=Wv j):i<n/\j=i:=by
 obtain⟨h1,h2⟩:=NW.mp h;rw[List.getElem_range]at h2;rw[PK]at h1;exact⟨h1,h2.symm⟩
theorem fQ(N:Nat->Str){i:Nat}(h:i<18):Č (Ņ N) (i:Int)=Wv (.str (N i)):=gG (by rw[NX,Ux h];rfl)
theorem Gj:∀ys:List V,(∀y∈ys,∃t:Th,t.ok E/\y=t.v E.N)->∃ts:List Th,ys=ts.map (Th.v E.N)/\∀t∈ts,t.ok E
 | [],_=>{[],rfl,λ_ h=>by cases h}
 |y::r,h=>by
  obtain⟨t,ht,rfl⟩:=h y NL;obtain⟨ts,rfl,hts⟩:=Gj r λz hz=>h z (NK _ hz);exact⟨t::ts,rfl,λz hz=>by
   rcases NJ.mp hz with rfl|hz
   ·exact ht
   exact hts z hz⟩
def E1(E:En)(kn:Nat)(r:Rw):Prop:=∀d,Ē E kn d r
inductive wZ(E:En)(vs:List V)(H:Hp)(Q:VK)(Ã:XK):Prop
 |mk(s:La)(y:Dy)(c:Int)(x:Str)(k:Nat):vs=[.ref s.S,.int c,.str x]->rh E s->eO E H s y->(x="call"->0<s.kn)->(x="last"->0<k)->(∀v r y' H',Go s.M H s.M H'->eO E H' s y'->y'.cells=y.cells->(∀d,cG E.N (Õ H H') d v r)->E1 E s.kn r->Nr k y.row r y'.row->Q v H')->wZ E vs H Q Ã
theorem Ew(T:Txt K mg A):T.rD.Hz P w base 4 (wZ E):=by
 have A2:=@EG P w _ _ base _ T;have E9:=xk (P:=P) (w:=w) (base:=base) (E:=E) T;have P6:=BW (P:=P) (w:=w) (base:=base) (E:=E) T;refine T.rD.hs (k:=3) eY (λf Ä A' outer s H vs Q E' hr hu h=>?_);obtain⟨s,y,c,x,k,rfl,O,L,hk,hlast,q⟩:=h;refine⟨_,(af (Å 3 eY.nd (px hu (fv 0) aF))
 (af (Å 4 eY.nd (px hu (fv 0) aF))
 (af (cx (aG aW (fv 4) aj) (cY (fv 0) aF (dU hu Wy)))
 (af (Å 5 eY.nd (ao (hj:=by lia) P6 hr ((ao (hj:=by lia) A2 hr (fv 1^aj^ae))^px hu (fv 0) aF^aZ (px hu (fv 3) aj^px hu (fv 3) aj^ae)^ae)))
 (af (Å 6 eY.nd (px hu (px hu (fv 0) aF) (aG aW aj (aG bU (ao (hj:=by lia) A2 hr (fv 1^aj^ae)) (aG pE (Ê k8 T.md (px hu (fv 0) aF^ae)) aj)))))
 (af (aP (Ö (cK hu) (fv 2) aF)
  (ag (aE (bj (fv 4^aF^px hu (fv 3) aj^(ao (hj:=by lia) E9 hr ((ao (hj:=by lia) A2 hr (fv 1^aj^ae))^px hu (fv 0) aF^ae))^fv 5^ae))))
  aJ)
 (af (aP (Ö (cK hu) (fv 2) aF)
  (ag (aE (bj (fv 4^aF^(px hu (fv 3) (aG bU (ao (hj:=by lia) A2 hr (fv 1^aj^ae)) aj))^fv 5^ae))))
  aJ)
 (af (aP (PW.pt (pw_and (Ö (cK hu) (fv 2) aF) (pw_and1 (Ö (yB hu) (px hu (fv 0) aF) (aZ ae)))))
  (ag (aE (bj (fv 4^aF^fv 6^fv 5^IK (px hu (fv 0) aF)^ae))))
  aJ)
 (af (aP (Ö (cK hu) (fv 2) aF)
  (ag (aE (bj (fv 4^aF^ae))))
  aJ)
 (af (aP (Ö (cK hu) (fv 2) aF)
  (af (cx (px hu (px hu (fv 0) aF) (aG bU (ao (hj:=by lia) A2 hr (fv 1^aj^ae)) (Ê k8 T.md (px hu (fv 0) aF^ae)))) (j3 rfl (bI (Ó (i:=7) eY.nd rfl) (bI (Ó (i:=8) eY.nd rfl) hV))))
  (ag (aE (bj (fv 4^aF^fv 7^(fN (N:=["_law_j","_law_state","_law_cell"]) (own:=1) (fr:=[0,1]) (cN.of (by kernel_rfl!)) rfl (oN rfl T.hU (fv 8^ae)) (λb=>Ó (i:=0) (show QR (["_law_j","_law_state","_law_cell"]:List Rb) by decide+kernel) rfl) (λb=>gW) (λb=>ao (hj:=by lia) E9 hr ((aG cf (ao (hj:=by lia) A2 hr (fv 2^aj^ae)) (aG aW (aG lO (fv 0) aj) aj))^px hu (fv 1) aF^ae)))^ae)))))
  aJ)
 (ag (aE (bj (fv 4^aF^fv 6^fv 5^ae)))))))))))))),?_⟩
 refine î L.dy.hS rfl (î L.dy.hS rfl {_,gI.k (k:=.inr "row") L.dy.hS (show 7<sizeLine by decide),?_});rw[show WD (stK s y.row) (.inr "row") (.int (y.row+1))=stK s (y.row+1)from rfl];have L1:=L.row O (y.row+1);have g1:Go s.M H s.M (upd H s.S (.dK (stK s (y.row+1)))):=Go.at (inS s) _;generalize upd H s.S (.dK (stK s (y.row+1)))=H1 at L1 g1⊢;refine{c,0,rfl,∅,λm0 H2 hm0 s2=>?_};have L2:=L1.same s2;refine î L2.dy.hS rfl (ê (À.of (aX _ _ L2.st.hn)) (fQ E.N (i:=5) ∅) (ê (À.of (aX _ _ L2.st.hn)) (fQ E.N (i:=9) ∅) {by show 2<=sizeLine;decide,λl3 hl3=>?_}));obtain⟨s3,e3⟩:=Ñ hl3 (HO.lst [V.str (E.N 5),.str (E.N 9)]);generalize upd H2 l3 _=H3 at s3 e3⊢;have L3:=L2.same s3;refine{m0,s.lt,l3,s.th,5,9,rfl,hm0,À.of (aX _ _ L3.st.ht),O.th,e3,O.l5,O.l9,λp val H4 hv s4 hp ep=>?_};have L4:=L3.same s4;have d1:Dm H H1:=L.dm g1 L1;have p0:H p=Ww:=d1 p (Dm.new (s2.trans s3) p hp);have g4:Go s.M H s.M H4:=g1.trans (Go.new ((s2.trans s3).trans s4));have d4:Dm H H4:=L.dm g4 L4;clear hp e3 hl3 s2 s3 s4 L1 L2 L3 g1 d1;refine î L4.dy.hS rfl {c,1,rfl,∅,λm1 H5 hm1 s5=>?_};have L5:=L4.same s5;have ht5:=aX _ _ L5.st.ht;have lt:(((ã E s.th).length:Nat):Int)=(s.th.length:Int):=by rw[NH]
 have t3:=O.t3;have mm:=bH m1 (show(0:Int)<(s.th.length:Int)-3 by lia);obtain⟨o,ho,_,ea⟩:=xQ (λi=>V.str (E.N i)) (xs:=s.th) (k:=3+m1%((s.th.length:Int)-3)) () ();refine î L5.dy.hS rfl (lnl ht5 {(by show(0:Int)<(((ã E s.th).length:Nat):Int)-3;lia),(ê (À.of ht5) (by rw[lt];exact ea) ?_)});have ok:=O.th.2 o ho;have g5:Go s.M H s.M H5:=g4.trans (Go.new s5);have d5:Dm H H5:=L.dm g5 L5;have Α:=s5 _ _ ep;have fin:∀(H6:Hp)(y':Dy)(a:Qs)(ws:List V)(r:Rw),Go s.M H s.M H6->eO E H6 s y'->y'.cells=y.cells->H6 p=Wv (.tup (vV E.N val))->H6 a=Ww->Nr k y.row r y'.row->(∀X:Hp,X a=Wv (.tup ws)->(∀z o,H z=Ww->H6 z=Wv o->X z=Wv o)->∀d,cG E.N X d (.ref a) r)->E1 E s.kn r->Q (.ref a) (upd H6 a (.tup ws)):=λH6 y' a ws r g6 L6 ec e6 ha nr hx pr=>by
  have s7:=ai.upd ha (HO.tup ws);have d6:Dm H H6:=L.dm g6 L6;refine q _ r y' _ (g6.trans (Go.new s7)) (L6.same s7) ec (hx _ (Õ.of (d6 a ha) av) λz o z0 ez=>Õ.of z0 (s7 _ _ ez)) pr nr
 dsimp only;refine ah λM1 K1=>?_;have hn5:=aX _ _ L5.st.hn;have r1:M1 [Wv (.ref s.S),Wv (.int c),Wv (.str x),Wv (.ref s.ln),Wv (.int y.row),Wv (.ref p),Wv (.str (E.N o)),Ww,Ww] H5:=K1 _ _ (by
  refine ah λM2 K2=>?_;have r2:M2 [Wv (.ref s.S),Wv (.int c),Wv (.str x),Wv (.ref s.ln),Wv (.int y.row),Wv (.ref p),Wv (.str (E.N o)),Ww,Ww] H5:=K2 _ _ (by
   refine ah λM3 K3=>?_;have r3:∀H6,ai H5 H6->M3 [Wv (.ref s.S),Wv (.int c),Wv (.str x),Wv (.ref s.ln),Wv (.int y.row),Wv (.ref p),Wv (.str (E.N o)),Ww,Ww] H6:=λH6 s6=>K3 _ _ (by
    have L6:=L5.same s6;have g6:Go s.M H s.M H6:=g5.trans (Go.new s6);refine ah λM4 K4=>?_;have r4:M4 [Wv (.ref s.S),Wv (.int c),Wv (.str x),Wv (.ref s.ln),Wv (.int y.row),Wv (.ref p),Wv (.str (E.N o)),Ww,Ww] H6:=K4 _ _ (by
     refine ah λM5 K5=>?_;have r5:M5 [Wv (.ref s.S),Wv (.int c),Wv (.str x),Wv (.ref s.ln),Wv (.int y.row),Wv (.ref p),Wv (.str (E.N o)),Ww,Ww] H6:=K5 _ _ (by
      refine{by show 4<=sizeLine;decide,λa ha=>fin H6 _ a _ (.set y.row o val) g6 L6 rfl (s6 _ _ Α) ha .set (λX e1 e2 d=>?_) (λd=>?_)}
      ·have:∃a' p',V.ref a=.ref a'/\X a'=Wv (.tup [.int y.row,.str "set",.str (E.N o),.ref p'])/\X p'=Wv (.tup (vV E.N val)):={a,p,rfl,e1,e2 _ _ p0 (s6 _ _ Α)};cases d<;>exact this
      have:o∈E.idx/\E.sz o=0/\val.ok E:=⟨ok.1,ok.2,hv⟩;cases d<;>exact this)
     refine{rfl,_,rfl,bg (λa=>?_) (λ_=>r5)};have k0:=hk (bE a);obtain⟨kv,k1,k2⟩:=L6.st.hk;have lk:(kv.length:Int)=(s.kn:Int):=by rw[Qy k2,PK]
     refine î L6.dy.hS rfl {c,1,rfl,∅,λm2 H7 hm2 s7=>?_};have L7:=L6.same s7;have mk:=bH m2 (show(0:Int)<(kv.length:Int) by lia);obtain⟨u,u1,u2⟩:=Ce (xs:=kv) mk.1 mk.2;obtain⟨i,hi,⟨t,rfl,et⟩⟩:=gi k2 u1;obtain⟨ki,ei⟩:=A5 hi;have k1':=s7 _ _ (aX _ _ k1);refine î L7.dy.hS rfl (lnl k1' {(by show(0:Int)<(kv.length:Int);lia),(ê (À.of k1') u2 ?_)});have n2:=O.kn;refine{t,_,rfl,Ò.of (s7 _ _ (aX _ _ et)),rfl,_,_,rfl,_,_,rfl,rfl,{_,rfl,(),(),zk (J:=Η 0 (i+1)) (n:=i+1) (x:=λj=>.int (0+j)) (λ_ y _=>∃t:Th,t.ok E/\y=t.v E.N) (aL ()) (λ_ _=>NM _) (λ_ _ h _=>h) (λ_ _ _ _ _ _ y=>y) (λb j H8 G hj s8 kk=>?_) (λ_ _ _ _ _ h=>h) (λ_ _ _ _ _ _ _ h=>h) (λD H8 ys hD s8 eD ly hy=>?_)}}
     ·have L8:=L7.same s8;refine{c,2,rfl,∅,λm3 H9 hm3 s9=>?_};have L9:=L8.same s9;have j1:j=0\/j=1:=()
      have hm4:In (m3/((0+(j:Int))*48+1)):=by
       obtain⟨a1,a2⟩:=hm3;rcases j1 with rfl|rfl
       ·exact{(),()}
       exact{(),()}
      exact{.inl {(),()},{(),()},î L9.dy.hS rfl {_,s.lt,s.th,rfl,hm4,À.of (aX _ _ L9.st.ht),O.th,λt ht=>kk _ _ s9 ⟨t,ht,rfl⟩}}
     obtain⟨ts,rfl,hts⟩:=Gj (E:=E) ys (λz hz=>by
      obtain⟨j,hj⟩:=Py hz;exact hy j z hj)
     have L8:=L7.same s8;have s68:=s7.trans s8;have p8:=s68 _ _ (s6 _ _ Α);have g8:=(g6.trans (Go.new s7)).trans (Go.new s8);have D0:H D=Ww:=L.dm (g6.trans (Go.new s7)) L7 D hD;refine{by show 4<=sizeLine;decide,λa ha=>fin H8 _ a _ (.call y.row i ts) g8 L8 rfl p8 ha .call (λX e1 e2 d=>?_) (λd=>?_)}
     ·have:∃a' p',V.ref a=.ref a'/\X a'=Wv (.tup [.int y.row,.str "call",.str (E.N (ñ i)),.ref p'])/\X p'=Wv (.lst (ts.map (Th.v E.N))):={a,D,rfl,e1,e2 _ _ D0 eD};cases d<;>exact this
     have:i<s.kn/\ts.length=i+1/\∀t∈ts,t.ok E:={(),by rw[NH]at ly;exact ly,hts};cases d<;>exact this)
    refine{rfl,_,rfl,bg (λzlast=>?_) (λ_=>r4)};refine{by show 2<=sizeLine;decide,λa ha=>fin H6 _ a _ (.last y.row) g6 L6 rfl (s6 _ _ Α) ha (.last (hlast (bE zlast))) (λX e1 e2 d=>?_) (λd=>?_)}
    ·have:∃a',V.ref a=.ref a'/\X a'=Wv (.tup [.int y.row,.str "last"]):=⟨a,rfl,e1⟩;cases d<;>exact this
    cases d<;>exact NY)
   refine{rfl,_,rfl,bg (λ_=>?_) (λ_=>aT (r3 _ (ai.refl _)))};refine î L5.dy.hS rfl {NS _,λl6 hl6=>?_};obtain⟨s6,e6⟩:=Ñ hl6 (HO.lst []);generalize upd H5 l6 _=H6 at s6 e6⊢;have L6:=L5.same s6;have hm6:=L6.dy.hm;have em:ã E y.marks=(y.marks.map E.N).map V.str:=by rw[OD];rfl
   refine{_,_,.lst (À.of (by rw[em]at hm6;exact hm6)) (gh.strs _),.lst (À.of e6) .nil,yF (λz hz=>?_),rfl,_,rfl,?_}
   ·obtain⟨i,_,rfl⟩:=N4.mp hz;exact O.ok i
   have g6:Go s.M H s.M H6:=g5.trans (Go.new s6);by_cases Β:y.marks=[]
   ·rw[Β];exact aT (r3 _ s6)
   obtain⟨ms,mk,ek⟩:∃ms mk,y.marks=ms++[mk]:={y.marks.dropLast,y.marks.getLast Β,(SR Β).symm};have ev:((Uj ((y.marks.map E.N).map TU)).eqv (Uj []))=false:=by
    cases hm:y.marks with
    |nil=>exact absurd hm Β
    |cons a r=>rfl
   rw[ev];refine bo (î L6.dy.hS rfl {NI {rfl,_,À.of hm6},_,_,.str (E.N mk),rfl,rfl,hm6,(by rw[show y.marks=ms++[mk]from ek];simp),?_});rw[show(ã E y.marks).dropLast=ã E ms by rw[ek];simp];have L7:=L6.mark O ms (λm hm=>by show m∈y.marks;rw[ek];exact N3 _ hm);have g7:Go s.M H s.M (upd H6 s.lm (.lst (ã E ms))):=g6.trans (Go.at (inm s) _);have e7:(upd H6 s.lm (.lst (ã E ms))) p=Wv (.tup (vV E.N val)):=aK (λz=>L.al s.lm (inm s) (by rw[<-z];exact p0)) (s6 _ _ Α);generalize upd H6 s.lm (.lst (ã E ms))=H7 at L7 g7 e7⊢;refine{by show 5<=sizeLine;decide,λa ha=>fin H7 _ a _ (.say y.row o val mk) g7 L7 rfl e7 ha (.say (L.dy.mb mk (by rw[ek];exact NR _ NL))) (λX e1 e2 d=>?_) (λd=>?_)}
   ·have:∃a' p',V.ref a=.ref a'/\X a'=Wv (.tup [.int y.row,.str "say",.str (E.N o),.ref p',.str (E.N mk)])/\X p'=Wv (.tup (vV E.N val)):={a,p,rfl,e1,e2 _ _ p0 e7};cases d<;>exact this
   have:o∈E.idx/\E.sz o=0/\val.ok E:=⟨ok.1,ok.2,hv⟩;cases d<;>exact this)
  refine{rfl,_,rfl,bg (λ_=>?_) (λ_=>r2)};refine{c,1,rfl,∅,λm2 H6 hm2 s6=>?_};have L6:=L5.same s6;have hn6:=aX _ _ L6.st.hn;have mk:=bH m2 (show(0:Int)<2 by decide);have ei:((m2%2).toNat:Int)=m2%2:=()
  refine{(by show(0:Int)<2;decide),(ê (À.of hn6) (by rw[<-ei];exact fQ E.N ()) {by show 4<=sizeLine;decide,λa ha=>fin H6 _ a _ (.snd y.row (m2%2).toNat val) (g5.trans (Go.new s6)) L6 rfl (s6 _ _ Α) ha .snd (λX e1 e2 d=>?_) (λd=>?_)})}
  ·have:∃a' p',V.ref a=.ref a'/\X a'=Wv (.tup [.int y.row,.str "send",.str (E.N (m2%2).toNat),.ref p'])/\X p'=Wv (.tup (vV E.N val)):={a,p,rfl,e1,e2 _ _ p0 (s6 _ _ Α)};cases d<;>exact this
  have:val.ok E:=hv;cases d<;>exact this)
 refine{rfl,_,rfl,bg (λ_=>?_) (λ_=>r1)};refine ê (À.of hn5) (fQ E.N (i:=9) ∅) {c,2,rfl,∅,λm2 H6 hm2 s6=>?_};have L6:=L5.same s6;refine î L6.dy.hS rfl {m2,s.lt,s.th,rfl,hm2,À.of (aX _ _ L6.st.ht),O.th,λt ht=>?_};have l9:=Og.mp O.l9;refine{by show 5<=sizeLine;decide,λa ha=>fin H6 _ a _ (.put y.row 9 t val) (g5.trans (Go.new s6)) L6 rfl (s6 _ _ Α) ha .put (λX e1 e2 d=>?_) (λd=>?_)}
 ·have:∃a' p',V.ref a=.ref a'/\X a'=Wv (.tup [.int y.row,.str "put",.str (E.N 9),t.v E.N,.ref p'])/\X p'=Wv (.tup (vV E.N val)):={a,p,rfl,e1,e2 _ _ p0 (s6 _ _ Α)};cases d<;>exact this
 have:9∈E.idx/\0<E.sz 9/\t.ok E/\val.ok E:=⟨l9.1,of_decide_eq_true l9.2,ht,hv⟩;cases d<;>exact this
end
section
variable{P:Program}{w:QD}{K:Qx}{mg:Str->Option Qt}{base:QN}{A:Ì}{E:En}{kn:Nat}
seal PE PA PS č PT PW
def eG(E:En)(kn d:Nat)(X:Hp)(á:Qs)(rs:List Rw):Prop:=∃xs,X á=Wv (.lst xs)/\Paired (cG E.N X d) xs rs/\∀r∈rs,Ē E kn d r
theorem eG.same{d:Nat}{X X':Hp}{á:Qs}{rs:List Rw}(z:ai X X')(h:eG E kn d X á rs):eG E kn d X' á rs:=by
 obtain⟨xs,h1,h2,h3⟩:=h;exact{xs,z _ _ h1,Paired.fg h2 (λ_ _=>cG.same z),h3}
inductive yC(vs:List V)(H:Hp)(Q:VK)(Ã:XK):Prop
 |mk(c:Int):vs=[.int c]->(∀p l r H',ai H H'->H' p=Wv (.lst [.int l,.int r])->0<=l->0<=r->Q (.ref p) H')->yC vs H Q Ã
theorem C5(T:Txt K mg A):T.qU.Hz P w base 3 yC:=by
 refine T.qU.hs (k:=2) qH (λf Ä A' outer s H vs Q E' hr hu h=>?_);obtain⟨c,rfl,q⟩:=h;refine⟨_,(af (Å 1 qH.nd (ao (hj:=by lia) (EG T) hr (fv 0^aj^ae)))
 (ag (aE (px hu (aZ (aZ (aj^aj^ae)^aZ (aG bU (aG cf (fv 1) aj) aj^aG bU (aG cf (fv 1) aj) aj^ae)^ae)) (aG bU (fv 1) aj))))),?_⟩
 refine{c,3,rfl,∅,λm H1 hm s1=>?_};obtain⟨m0,m1⟩:=hm;dsimp only;refine{by show 2<=sizeLine;decide,λp1 hp1=>?_};obtain⟨s2,e2⟩:=Ñ hp1 (HO.lst [V.int 0,.int 0]);generalize upd H1 p1 _=H2 at s2 e2⊢;refine{{∅,∅},(by show(0:Int)<4;decide),{∅,∅},(by show(0:Int)<4;decide),by show 2<=sizeLine;decide,λp2 ϭ=>?_};obtain⟨s3,e3⟩:=Ñ ϭ (HO.lst [V.int (m/2%4),.int (m/8%4)]);generalize upd H2 p2 _=H3 at s3 e3⊢;refine{by show 2<=sizeLine;decide,λp3 hp3=>?_};obtain⟨s4,e4⟩:=Ñ hp3 (HO.lst [V.ref p1,.ref p2]);generalize upd H3 p3 _=H4 at s4 e4⊢;have m2:=bH m (show(0:Int)<2 by decide);have m4:=bH (m/2) (show(0:Int)<4 by decide);have m5:=bH (m/8) (show(0:Int)<4 by decide);refine{(by show(0:Int)<2;decide),NI ?_};have:m%2=0\/m%2=1:=()
 rcases this with e|e<;>rw[e]
 ·exact{_,_,NI (À.of e4),rfl,q p1 _ _ _ (((s1.trans s2).trans s3).trans s4) ((s3.trans s4) _ _ e2) ∅ ∅}
 exact{_,_,NI (À.of e4),rfl,q p2 _ _ _ (((s1.trans s2).trans s3).trans s4) (s4 _ _ e3) m4.1 m5.1}
inductive nz(E:En)(kn:Nat)(d:Nat)(vs:List V)(H:Hp)(Q:VK)(Ã:XK):Prop
 |mk(s:La)(y:Dy)(dp k:Nat):vs=[.ref s.S,.int dp,.int k]->dp+d=4->rh E s->eO E H s y->s.kn=kn->y.cells.length<=100->(∀(D:Qs)(rs:List Rw)(y':Dy)(H':Hp),Go s.M H s.M H'->eO E H' s y'->eG E kn d (Õ H H') D rs->eN rs+y'.cells.length<=y.cells.length->Ns k y.row rs y'.row->Q (.ref D) H')->nz E kn d vs H Q Ã
inductive qx(E:En)(kn:Nat)(d:Nat)(vs:List V)(H:Hp)(Q:VK)(Ã:XK):Prop
 |mk(s:La)(y:Dy)(c:Int)(x:Str)(dp k:Nat):vs=[.ref s.S,.int c,.str x,.int dp,.int k]->dp+d=4->0<d->(x="loop"->k<s.gk.length)->rh E s->eO E H s y->s.kn=kn->y.cells.length<=100->(∀(v:V)(r:Rw)(y':Dy)(H':Hp),Go s.M H s.M H'->eO E H' s y'->cG E.N (Õ H H') d v r->Ē E kn d r->r.cnt+y'.cells.length<=1+y.cells.length->Nr k y.row r y'.row->Q v H')->qx E kn d vs H Q Ã
theorem eG.on{d:Nat}{M:List Qs}{H Ha Hb Hc:Hp}{á:Qs}{rs:List Rw}(b:eG E kn d (Õ Ha Hb) á rs)(dm:Dm H Ha)(g:Go M Hb M Hc)(al:∀a∈M,Ha a≠Ww):eG E kn d (Õ H Hc) á rs:=(b.same (Õ.go g al)).same (Õ.up dm)
theorem cG.Jh{X:Hp}{d:Nat}{a p B1 B2:Qs}{n l r:Int}{val:Val}{f o:List Rw}(ha:X a=Wv (.tup [.int n,.str "if",.ref p,.ref B1,.ref B2,.int l,.int r]))(hp:X p=Wv (.tup (vV E.N val)))(h1:eG E kn d X B1 f)(h2:eG E kn d X B2 o):cG E.N X (d+1) (.ref a) (.iff n val f o l r):=by
 obtain⟨xf,e1,e2,_⟩:=h1;obtain⟨xo,f1,f2,_⟩:=h2;exact⟨a,p,B1,B2,xf,xo,rfl,ha,hp,e1,f1,e2,f2⟩
theorem cG.GP{X:Hp}{d:Nat}{a B1:Qs}{n m l r:Int}{t:Th}{f:List Rw}(ha:X a=Wv (.tup [.int n,.str "loop",t.v E.N,.int m,.ref B1,.int l,.int r]))(h1:eG E kn d X B1 f):cG E.N X (d+1) (.ref a) (.loop n t m f l r):=by
 obtain⟨xf,e1,e2,_⟩:=h1;exact⟨a,B1,xf,rfl,ha,e1,e2⟩
theorem F4(T:Txt K mg A)(d:Nat)(LM:ħ P w K mg base (2*d+8) "_law_nodes" ["_law_state","_law_deep","_law_loops"] (nz E kn d)):T.kT.Hz P w base (2*d+9) (qx E kn (d+1)):=by
 have A2:=@EG P w _ _ base _ T;have E9:=xk (P:=P) (w:=w) (base:=base) (E:=E) T;have P6:=BW (P:=P) (w:=w) (base:=base) (E:=E) T;refine T.kT.hs (k:=2*d+8) cI (λf Ä A' outer s H vs Q E' hr hu h=>?_);obtain⟨s,y,c,x,dp,k,rfl,hd,_,hx,O,L,ek,hl,q⟩:=h;refine⟨_,(af (Å 5 cI.nd (px hu (fv 0) aF))
 (af (cx (aG aW (fv 5) aj) (cY (fv 0) aF (dU hu Wy)))
 (af (aP (Ö (cK hu) (fv 2) aF)
  (af (Å 6 cI.nd (ao (hj:=by lia) LM hr (fv 0^aG aW (fv 3) aj^aG aW (fv 4) aj^ae)))
  (af (cx (aG aW (px hu (fv 0) aF) aj) (cY (fv 0) aF (dU hu Wy)))
  (af (Å 7 cI.nd (ao (hj:=by lia) (C5 T) hr (fv 1^ae)))
  (af (Å 8 cI.nd (aG aW aj (aG bU (ao (hj:=by lia) A2 hr (fv 1^aj^ae)) (px hu (px hu (fv 0) aF) (fv 4)))))
  (ag (aE (bj (fv 5^aF^(ao (hj:=by lia) E9 hr ((ao (hj:=by lia) A2 hr (fv 1^aj^ae))^px hu (fv 0) aF^ae))^fv 8^fv 6^px hu (fv 7) aj^px hu (fv 7) aj^ae))))))))
  aJ)
 (af (Å 9 cI.nd (ao (hj:=by lia) P6 hr ((ao (hj:=by lia) A2 hr (fv 1^aj^ae))^px hu (fv 0) aF^aZ (px hu (px hu (fv 0) aF) aj^px hu (px hu (fv 0) aF) aj^ae)^ae)))
 (af (Å 10 cI.nd (ao (hj:=by lia) LM hr (fv 0^aG aW (fv 3) aj^fv 4^ae)))
 (af (cx (aG aW (px hu (fv 0) aF) aj) (cY (fv 0) aF (dU hu Wy)))
 (af (Å 11 cI.nd (ao (hj:=by lia) LM hr (fv 0^aG aW (fv 3) aj^fv 4^ae)))
 (af (cx (aG aW (px hu (fv 0) aF) aj) (cY (fv 0) aF (dU hu Wy)))
 (af (Å 7 cI.nd (ao (hj:=by lia) (C5 T) hr (fv 1^ae)))
 (ag (aE (bj (fv 5^aF^fv 9^fv 10^fv 11^px hu (fv 7) aj^px hu (fv 7) aj^ae))))))))))))),?_⟩
 refine î L.dy.hS rfl {_,gI.k (k:=.inr "row") L.dy.hS (show 7<sizeLine by decide),?_};rw[show WD (stK s y.row) (.inr "row") (.int (y.row+1))=stK s (y.row+1)from rfl];have L1:=L.row O (y.row+1);have g1:Go s.M H s.M (upd H s.S (.dK (stK s (y.row+1)))):=Go.at (inS s) _;generalize upd H s.S (.dK (stK s (y.row+1)))=H1 at L1 g1⊢;have d1:Dm H H1:=L.dm g1 L1;dsimp only;refine ah λM1 K1=>?_;have r1:M1 [Wv (.ref s.S),Wv (.int c),Wv (.str x),Wv (.int dp),Wv (.int k),Wv (.int y.row),Ww,Ww,Ww,Ww,Ww,Ww] H1:=K1 _ _ (by
  refine{c,0,rfl,∅,λm0 H2 hm0 s2=>?_};have L2:=L1.same s2;have Ν:=À.of (K:=K) (aX _ _ L2.st.hn);refine î L2.dy.hS rfl (î L2.dy.hS rfl (ê Ν (fQ E.N (i:=5) ∅) (î L2.dy.hS rfl (ê Ν (fQ E.N (i:=9) ∅) {by show 2<=sizeLine;decide,λl3 hl3=>?_}))));obtain⟨s3,e3⟩:=Ñ hl3 (HO.lst [V.str (E.N 5),.str (E.N 9)]);generalize upd H2 l3 _=H3 at s3 e3⊢;have L3:=L2.same s3;refine{m0,s.lt,l3,s.th,5,9,rfl,hm0,À.of (aX _ _ L3.st.ht),O.th,e3,O.l5,O.l9,λp val H4 hv s4 hp ep=>?_};have L4:=L3.same s4;have p0:H p=Ww:=d1 p (Dm.new (s2.trans s3) p hp);have pM:p∉s.M:=λm=>L.al p m p0;have g4:Go s.M H s.M H4:=g1.trans (Go.new ((s2.trans s3).trans s4));have d4:Dm H H4:=L.dm g4 L4;refine{s,_,dp+1,k,rfl,(),O,L4,ek,hl,λB1 ϧ y5 H5 g5 L5 b1 n5 m5=>î L5.dy.hS rfl {_,gI.k (k:=.inr "row") L5.dy.hS (show 7<sizeLine by decide),?_}};rw[show WD (stK s y5.row) (.inr "row") (.int (y5.row+1))=stK s (y5.row+1)from rfl];have L6:=L5.row O (y5.row+1);have g6:Go s.M H5 s.M (upd H5 s.S (.dK (stK s (y5.row+1)))):=Go.at (inS s) _;generalize upd H5 s.S (.dK (stK s (y5.row+1)))=H6 at L6 g6⊢;have d6:Dm H H6:=L.dm ((g4.trans g5).trans g6) L6;refine{s,_,dp+1,k,rfl,(),O,L6,ek,(by show y5.cells.length<=100;have h:=hl;dsimp only at n5;lia),λB2 rs2 y7 H7 g7 L7 b2 n7 m7=>î L7.dy.hS rfl {_,gI.k (k:=.inr "row") L7.dy.hS (show 7<sizeLine by decide),?_}};rw[show WD (stK s y7.row) (.inr "row") (.int (y7.row+1))=stK s (y7.row+1)from rfl];have L8:=L7.row O (y7.row+1);have g8:Go s.M H7 s.M (upd H7 s.S (.dK (stK s (y7.row+1)))):=Go.at (inS s) _;generalize upd H7 s.S (.dK (stK s (y7.row+1)))=H8 at L8 g8⊢;have b1':eG E kn d (Õ H H8) B1 ϧ:=b1.on d4 ((g6.trans g7).trans g8) L4.al;have b2':eG E kn d (Õ H H8) B2 rs2:=b2.on d6 g8 L6.al;have w1:∀r∈ϧ,Ē E kn d r:=by obtain⟨_,_,_,z⟩:=b1;exact z
  have w2:∀r∈rs2,Ē E kn d r:=by obtain⟨_,_,_,z⟩:=b2;exact z
  refine{c,rfl,λpi l r H9 s9 e9 l0 r0=>?_};have L9:=L8.same s9;have g9:Go s.M H s.M H9:=(((g4.trans g5).trans g6).trans (g7.trans g8)).trans (Go.new s9);have d9:Dm H H9:=L.dm g9 L9;refine ê (À.of e9) rfl (ê (À.of e9) rfl {by show 7<=sizeLine;decide,λa ha=>?_});have sa:=ai.upd ha (HO.tup [V.int y.row,.str "if",.ref p,.ref B1,.ref B2,.int l,.int r]);have ep9:H9 p=Wv (.tup (vV E.N val)):=(((g5.trans g6).trans (g7.trans g8)).trans (Go.new s9)).o p _ pM ep;have sN:ai (Õ H H8) (Õ H (upd H9 a (HO.tup [V.int y.row,.str "if",.ref p,.ref B1,.ref B2,.int l,.int r]))):=Õ.on (s9.trans sa);dsimp only at n5 n7;have kl1:=b7 ϧ;have kl2:=b7 rs2;refine q _ (.iff y.row val ϧ rs2 l r) _ _ (g9.trans (Go.new sa)) (L9.same sa) (cG.Jh (Õ.of (d9 a ha) av) (Õ.of p0 (sa _ _ ep9)) (b1'.same sN) (b2'.same sN)) {hv,l0,r0,(),(),w1,w2} (by rw[Rw.cnt];dsimp only;lia) (.iff m5 m7))
 refine{rfl,_,rfl,bg (λa=>?_) (λ_=>r1)};have kl:=hx (bE a);refine{s,_,dp+1,k+1,rfl,(),O,L1,ek,hl,λB1 ϧ y5 H5 g5 L5 b1 n5 m5=>î L5.dy.hS rfl {_,gI.k (k:=.inr "row") L5.dy.hS (show 7<sizeLine by decide),?_}};rw[show WD (stK s y5.row) (.inr "row") (.int (y5.row+1))=stK s (y5.row+1)from rfl];have L6:=L5.row O (y5.row+1);have g6:Go s.M H5 s.M (upd H5 s.S (.dK (stK s (y5.row+1)))):=Go.at (inS s) _;generalize upd H5 s.S (.dK (stK s (y5.row+1)))=H6 at L6 g6⊢;have b1':eG E kn d (Õ H H6) B1 ϧ:=b1.on d1 g6 L1.al;have w1:∀r∈ϧ,Ē E kn d r:=by obtain⟨_,_,_,z⟩:=b1;exact z
 refine{c,rfl,λpi l r H9 s9 e9 l0 r0=>?_};have L9:=L6.same s9;refine{c,1,rfl,∅,λm2 Ha hm2 sa=>?_};have La:=L9.same sa;obtain⟨mk,hmk⟩:∃m,s.gk[k]?=Wv m:={_,NN kl};have mb:=O.ms mk (NO hmk);have ak:Č (s.gk.map V.int) (k:Int)=Wv (.int mk):=gG (by rw[NX,hmk];rfl);refine î La.dy.hS rfl (ê (À.of (aX _ _ La.st.ho)) ak {(by show(0:Int)<mk;lia),?_});have mm:=bH m2 (show(0:Int)<mk by lia);refine{c,2,rfl,∅,λm3 Hb hm3 sb=>?_};have Lb:=La.same sb;refine î Lb.dy.hS rfl {m3,s.lt,s.th,rfl,hm3,À.of (aX _ _ Lb.st.ht),O.th,λt ht=>?_};have eb:=(sa.trans sb) _ _ e9;refine ê (À.of eb) rfl (ê (À.of eb) rfl {by show 7<=sizeLine;decide,λa ha=>?_});have gb:Go s.M H s.M Hb:=((g1.trans g5).trans g6).trans (Go.new (s9.trans (sa.trans sb)));have db:Dm H Hb:=L.dm gb Lb;have sc:=ai.upd ha (HO.tup [V.int y.row,.str "loop",t.v E.N,.int (1+m2%mk),.ref B1,.int l,.int r]);have sN:ai (Õ H H6) (Õ H (upd Hb a (HO.tup [V.int y.row,.str "loop",t.v E.N,.int (1+m2%mk),.ref B1,.int l,.int r]))):=Õ.on ((s9.trans (sa.trans sb)).trans sc);dsimp only at n5;have kl1:=b7 ϧ;refine q _ (.loop y.row t (1+m2%mk) ϧ l r) _ _ (gb.trans (Go.new sc)) (Lb.same sc) (cG.GP (Õ.of (db a ha) av) (b1'.same sN)) {ht,(),(),l0,r0,(),w1} (by rw[Rw.cnt];dsimp only;lia) (.loop m5)
theorem Sj{α β:Type}{F:α->β->Prop}{x:α}{y:β}(h:F x y):∀{xs:List α}{ys:List β},Paired F xs ys->Paired F (xs++[x]) (ys++[y])
 |_,_,.nil=>.cons h .nil
 |_,_,.cons g r=>.cons g (Sj h r)
theorem DM{r:Rw}(h:∀d,Ē E kn d r):r.cnt=1:=by
 have h0:=h 0;cases r with
 |iff=>exact(show False from h0).elim
 |loop=>exact(show False from h0).elim
 |_=>rfl
structure Ŗ(E:En)(kn d k:Nat)(H:Hp)(s:La)(y:Dy)(D:Qs)(Hc:Hp)(y':Dy)(xs:List V)(rs:List Rw):Prop where
 g:Go s.M H s.M Hc
 L:eO E Hc s y'
 hD:Hc D=Wv (.lst xs)
 p:Paired (cG E.N (del [D] (Õ H Hc)) d) xs rs
 w:∀r∈rs,Ē E kn d r
 n:eN rs+y'.cells.length<=y.cells.length
 r:Ns k y.row rs y'.row
theorem Ŗ.same{d k:Nat}{H Hc H2:Hp}{s:La}{y y':Dy}{D:Qs}{xs:List V}{rs:List Rw}(h:Ŗ E kn d k H s y D Hc y' xs rs)(z:ai Hc H2):Ŗ E kn d k H s y D H2 y' xs rs:=⟨h.g.trans (Go.new z),h.L.same z,z _ _ h.hD,Paired.fg h.p (λ_ _=>cG.same (λa o e=>by
 obtain⟨e1,e2⟩:=fM e;exact bN e1 (Õ.on z a o e2))),h.w,h.n,h.r⟩
theorem Ŗ.add{d k:Nat}{H Hc H2:Hp}{s:La}{y y' y2:Dy}{D:Qs}{xs:List V}{rs:List Rw}{v:V}{r:Rw}{cs:List Int}{c0:Int}(h:Ŗ E kn d k H s y D Hc y' xs rs)(L0:eO E H s y)(d0:H D=Ww)(e:y'.cells=cs++[c0]){H3:Hp}(g3:Go s.M Hc s.M H3)(L3:eO E H3 s { y' with cells:=cs })(g:Go s.M H3 s.M H2)(L2:eO E H2 s y2)(na:cG E.N (Õ H3 H2) d v r)(wf:Ē E kn d r)(n2:r.cnt+y2.cells.length<=1+cs.length)(nr:Nr k y'.row r y2.row):H2 D=Wv (.lst xs)/\Ŗ E kn d k H s y D (upd H2 D (.lst (xs++[v]))) y2 (xs++[v]) (rs++[r]):=by
 have dM:D∉s.M:=λm=>L0.al D m d0;have g2:Go s.M Hc s.M H2:=g3.trans g;have hD2:=g2.o D _ dM h.hD;have ϩ:∀a∈s.M,a≠D:=λa m z=>dM (z▸m);have hD3:=g3.o D _ dM h.hD;have dm3:Dm H H3:=L0.dm (h.g.trans g3) L3;have el:y'.cells.length=cs.length+1:=by rw[e,NG];rfl
 refine{hD2,{(h.g.trans g2).out d0 _,{L0.st.same (Go.same ((h.g.trans g2).out d0 _)),{aK (ϩ _ (inS s)) L2.dy.hS,aK (ϩ _ (inm s)) L2.dy.hm,L2.dy.mb,aK (ϩ _ (Kw s)) L2.dy.hc}},av,?_,?_,?_,h.r.snoc nr}}
 ·refine Sj (cG.same (λa o ea=>?_) na) (Paired.fg h.p λ_ _=>cG.same λa o ea=>?_)
  ·obtain⟨e3,e4⟩:=Õ.get ea;have aD:a≠D:=λz=>by rw[z,hD3]at e3;cases e3
   exact bN (λm=>aD (by simpa using m)) (Õ.of (dm3 a e3) (aK aD e4))
  obtain⟨e1,e2⟩:=fM ea;obtain⟨e3,e4⟩:=Õ.get e2;have aD:a≠D:=λz=>e1 (by rw[z];exact NL);exact bN e1 (Õ.of e3 (aK aD (g2.o a o (λm=>L0.al a m e3) e4)))
 ·intro q hq;rcases NQ.mp hq with m|m
  ·exact h.w q m
  rw[NF.mp m];exact wf
 have:=h.n;rw[za,FP];lia
theorem Ŗ.drop{d k:Nat}{H Hc H2:Hp}{s:La}{y y':Dy}{D:Qs}{xs:List V}{rs:List Rw}{cs:List Int}{c0:Int}(h:Ŗ E kn d k H s y D Hc y' xs rs)(L0:eO E H s y)(d0:H D=Ww)(e:y'.cells=cs++[c0])(g:Go s.M Hc s.M H2)(L2:eO E H2 s { y' with cells:=cs }):Ŗ E kn d k H s y D H2 { y' with cells:=cs } xs rs:=by
 have dM:D∉s.M:=λm=>L0.al D m d0;have el:y'.cells.length=cs.length+1:=by rw[e,NG];rfl
 have hn:=h.n;refine{h.g.trans g,L2,g.o D _ dM h.hD,Paired.fg h.p λ_ _=>cG.same λa o ea=>?_,h.w,by dsimp only;lia,h.r};obtain⟨e1,e2⟩:=fM ea;exact bN e1 (Õ.go g L0.al a o e2)
theorem zW(T:Txt K mg A)(d:Nat)(Ql:ħ P w K mg base (2*d+7) "_law_block" ["_law_state","_law_cell","_law_kind_here","_law_deep","_law_loops"] (qx E kn d)):T.rV.Hz P w base (2*d+8) (nz E kn d):=by
 have Qp:=JT (P:=P) (w:=w) (base:=base) (E:=E) T;have Qm:=Ew (P:=P) (w:=w) (base:=base) (E:=E) T;refine T.rV.hs (k:=2*d+7) iJ (λf Ä A' outer s H vs Q E' hr hu h=>?_);obtain⟨s,y,dp,k,rfl,hd,O,L,ek,hl,q⟩:=h;refine⟨_,(af (Å 3 iJ.nd (aZ ae))
 (af (zR Qz (Ö (yB hu) (px hu (fv 0) aF) (aZ ae))
  (af (Å 4 iJ.nd (IK (px hu (fv 0) aF)))
  (af (Å 5 iJ.nd (ao (hj:=by lia) Qp hr (fv 0^fv 4^fv 1^fv 2^ae)))
  (af (aP (Ö (cK hu) (fv 5) aF)
   (ag (Er))
   aJ)
  (ag (aP (PW.pt (pw_or (Ö (cK hu) (fv 5) aF) (pw_or1 (Ö (cK hu) (fv 5) aF))))
   (ag (aU (bx (fv 3) ((ao (hj:=by lia) Ql hr (fv 0^fv 4^fv 5^fv 1^fv 2^ae))^ae))))
   (ag (aU (bx (fv 3) ((ao (hj:=by lia) Qm hr (fv 0^fv 4^fv 5^ae))^ae))))))))))
 (ag (aE (fv 3))))),?_⟩
 refine{NS _,λD hD=>?_};obtain⟨s1,e1⟩:=Ñ hD (HO.lst []);generalize upd H D _=H1 at s1 e1⊢;have N1:Ŗ E kn d k H s y D H1 y [] []:={Go.new s1,L.same s1,e1,.nil,(λ_ z=>by cases z),(by rw[eN,Nat.zero_add];exact NM _),.nil};dsimp only;refine ah λM1 K1=>?_;have fin:∀(Hc:Hp)(y':Dy)(xs:List V)(rs:List Rw)(v4 v5:Option V),Ŗ E kn d k H s y D Hc y' xs rs->M1 [Wv (.ref s.S),Wv (.int dp),Wv (.int k),Wv (.ref D),v4,v5] Hc:=λHc y' xs rs v4 v5 N=>K1 _ _ (q D rs y' Hc N.g N.L {xs,Õ.of hD N.hD,Paired.fg N.p (λ_ _=>cG.same aX),N.w} N.n N.r);refine{λm B Hc=>∃(y':Dy)(xs:List V)(rs:List Rw)(v4 v5:Option V),m=y'.cells.length/\B=[Wv (.ref s.S),Wv (.int dp),Wv (.int k),Wv (.ref D),v4,v5]/\Ŗ E kn d k H s y D Hc y' xs rs,{_,y,[],[],Ww,Ww,rfl,rfl,N1},?_};rintro m B Hc ⟨y',xs,rs,v4,v5,rfl,rfl,N⟩;refine î N.L.dy.hS rfl {NS _,λl2 hl2=>?_};obtain⟨s2,e2⟩:=Ñ hl2 (HO.lst []);generalize upd Hc l2 _=H2 at s2 e2⊢;have N2:=N.same s2;refine{_,_,.lst (À.of N2.L.dy.hc) (gh.ints _),.lst (À.of e2) .nil,shaped_ints _,rfl,_,rfl,?_};by_cases Β:y'.cells=[]
 ·rw[Β];exact aT (fin _ _ _ _ _ _ N2)
 obtain⟨cs,c0,ec⟩:∃cs c0,y'.cells=cs++[c0]:={y'.cells.dropLast,y'.cells.getLast Β,(SR Β).symm};have ev:((Uj (y'.cells.map TQ)).eqv (Uj []))=false:=by
  cases hm:y'.cells with
  |nil=>exact absurd hm Β
  |cons a r=>rfl
 rw[ev];refine bo ?_;have el:y'.cells.length=cs.length+1:=by rw[ec,NG];rfl
 have nn:=N.n;have cl:=b7 rs;have xl:xs.length=rs.length:=Qy N.p;refine{λB' H'=>∃(y3:Dy)(xs:List V)(rs:List Rw)(v4 v5:Option V),y3.cells.length<y'.cells.length/\B'=[Wv (.ref s.S),Wv (.int dp),Wv (.int k),Wv (.ref D),v4,v5]/\Ŗ E kn d k H s y D H' y3 xs rs,λB' H' ⟨y3,xs,rs,v4,v5,h1,h2,h3⟩=>{_,h1,y3,xs,rs,v4,v5,rfl,h2,h3},?_};have ϵ:=N2.L.dy.hc;refine î N2.L.dy.hS rfl {NI {rfl,_,À.of ϵ},_,_,.int c0,rfl,rfl,ϵ,(by rw[ec];simp),?_};rw[show(y'.cells.map V.int).dropLast=cs.map V.int by rw[ec];simp];have L3:=N2.L.cell O cs;have g3:Go s.M H2 s.M (upd H2 s.ll (.lst (cs.map V.int))):=Go.at (Kw s) _;generalize upd H2 s.ll (.lst (cs.map V.int))=H3 at L3 g3⊢;refine{s,_,c0,dp,k,rfl,O,L3,λx H4 s4 h1 h2 h3 h4=>?_};have L4:=L3.same s4;have g4:Go s.M H2 s.M H4:=g3.trans (Go.new s4);have dM:D∉s.M:=λm=>L.al D m hD;have Ϸ:=g4.o D _ dM N2.hD;have add:=λ{H5:Hp}{y5:Dy}{v:V}{r:Rw}(g5:Go s.M H4 s.M H5)(L5:eO E H5 s y5)(na:cG E.N (Õ H4 H5) d v r)(wf:Ē E kn d r)(n2:r.cnt+y5.cells.length<=1+cs.length)(nr:Nr k y'.row r y5.row)=>N2.add L hD ec g4 L4 g5 L5 na wf n2 nr;dsimp only;refine ah λM2 K2=>{rfl,_,rfl,bg (λ_=>fin _ _ _ _ _ _ (N2.drop L hD ec g4 L4)) (λ_=>K2 _ _ ?_)};have d0:(x="if"\/x="loop")->0<d:=λz=>by
  rcases z with z|z
  ·have:=h1 z;lia
  have:=(h2 z).1;lia
 have lx:xs.length<=1000:=()
 refine{rfl,_,rfl,bg (λa=>bo ?b1) (λa=>{rfl,_,rfl,bg (λb=>?b2) (λb=>?pl)})};case pl=>
  refine{NI {rfl,_,À.of Ϸ},s,_,c0,x,k,rfl,O,L4,h3,h4,λv r y5 H5 g5 L5 ec5 na pr nr=>?_};obtain⟨h5,N5⟩:=add g5 L5 (na d) (by rw[<-ek];exact pr d) (by rw[ec5,DM pr];exact NM _) nr;exact{_,_,_,rfl,rfl,h5,aL (),y5,_,_,_,_,(by rw[ec5,el];exact O5 _),rfl,N5}
 all_goals
  have d1:0<d:=d0 (by first|exact .inl (bE (by assumption))|exact .inr (bE (by assumption)))
  refine{NI {rfl,_,À.of Ϸ},s,_,c0,x,dp,k,rfl,hd,d1,λz=>(h2 z).2,O,L4,ek,(by dsimp only;lia),λv r y5 H5 g5 L5 na wf n5 nr=>?_}
  have cp:=B7 r
  obtain⟨h5,N5⟩:=add g5 L5 na wf n5 nr
  exact{_,_,_,rfl,rfl,h5,aL (),y5,_,_,_,_,(by dsimp only at n5;lia),rfl,N5}
theorem EN(T:Txt K mg A):T.kT.Hz P w base (2*0+7) (qx E kn 0):=by
 refine T.kT.hs (k:=6) cI (λf Ä A' outer s H vs Q E' hr hu h=>?_) (λvs H Q E h=>?_)
 ·obtain⟨s,y,c,x,dp,k,rfl,hd,z,_⟩:=h;exact absurd z (Ol _)
 obtain⟨s,y,c,x,dp,k,rfl,hd,z,_⟩:=h;exact absurd z (Ol _)
theorem BN(T:Txt K mg A):∀d,ħ P w K mg base (2*d+8) "_law_nodes" ["_law_state","_law_deep","_law_loops"] (nz E kn d)
 |0=>zW T 0 (EN T)
 |d+1=>zW T (d+1) (F4 T d (BN T d))
def fP(A:Ì)(N:Nat->Str)(X:Hp):Nat->V->Rw->Prop
 |_,v,.set n x val=>∃a dx p,v=.ref a/\X a=Wv (.ins A.dB dx [("number",.int n),("name",.str (N x)),("value",.ref p)])/\X p=Wv (.tup (vV N val))
 |_,v,.put n x pl val=>∃a dx p,v=.ref a/\X a=Wv (.ins A.cX dx [("number",.int n),("name",.str (N x)),("place",pl.v N),("value",.ref p)])/\X p=Wv (.tup (vV N val))
 |_,v,.snd n h val=>∃a dx p,v=.ref a/\X a=Wv (.ins A.cz dx [("number",.int n),("name",.str (N h)),("value",.ref p)])/\X p=Wv (.tup (vV N val))
 |_,v,.say n x val m=>∃a dx p,v=.ref a/\X a=Wv (.ins A.dD dx [("number",.int n),("name",.str (N x)),("value",.ref p),("mark",.str (N m))])/\X p=Wv (.tup (vV N val))
 |_,v,.last n=>∃a dx,v=.ref a/\X a=Wv (.ins A.dZ dx [("number",.int n)])
 |_,v,.call n i ts=>∃a dx p,v=.ref a/\X a=Wv (.ins A.cJ dx [("number",.int n),("name",.str (N (ñ i))),("things",.ref p)])/\X p=Wv (.lst (ts.map (Th.v N)))
 |d+1,v,.iff n val f o l r=>∃a dx p pf po xf xo,v=.ref a/\X a=Wv (.ins A.dX dx [("number",.int n),("value",.ref p),("first",.ref pf),("other",.ref po),("left",.int l),("right",.int r)])/\X p=Wv (.tup (vV N val))/\X pf=Wv (.lst xf)/\X po=Wv (.lst xo)/\Paired (fP A N X d) xf f/\Paired (fP A N X d) xo o
 |d+1,v,.loop n t m b l r=>∃a dx pb xb,v=.ref a/\X a=Wv (.ins A.bL dx [("number",.int n),("thing",t.v N),("most",.int m),("body",.ref pb),("left",.int l),("right",.int r)])/\X pb=Wv (.lst xb)/\Paired (fP A N X d) xb b
 |0,_,.iff _ _ _ _ _ _=>False
 |0,_,.loop _ _ _ _ _ _=>False
theorem fP.same{N:Nat->Str}{X X':Hp}(s:ai X X'):∀{d:Nat}{v:V}{r:Rw},fP A N X d v r->fP A N X' d v r:=by
 have Ĳ:∀{d:Nat}{v:V}{r:Rw},(∀n v f o l q,r≠ .iff n v f o l q)->(∀n t m b l q,r≠ .loop n t m b l q)->fP A N X d v r->fP A N X' d v r:=by
  intro d v r i1 i2 h;cases r with
  |iff n v f o l r=>exact absurd rfl (i1 _ _ _ _ _ _)
  |loop n t m b l r=>exact absurd rfl (i2 _ _ _ _ _ _)
  |last n=>cases d<;>(obtain⟨a,dx,e,h1⟩:=h;exact{a,dx,e,s _ _ h1})
  |_=>cases d<;>(obtain⟨a,dx,p,e,h1,h2⟩:=h;exact{a,dx,p,e,s _ _ h1,s _ _ h2})
 intro d;induction d with
 |zero=>
  intro v r h;cases r with
  |iff n v f o l r=>exact h.elim
  |loop n t m b l r=>exact h.elim
  |_=>exact Ĳ (λ_ _ _ _ _ _ z=>by cases z) (λ_ _ _ _ _ _ z=>by cases z) h
 |succ d ih=>
  intro v r h;cases r with
  |iff n v f o l r=>
   obtain⟨a,dx,p,pf,po,xf,xo,e,h1,h2,h3,h4,h5,h6⟩:=h;exact{a,dx,p,pf,po,xf,xo,e,s _ _ h1,s _ _ h2,s _ _ h3,s _ _ h4,Paired.fg h5 λ_ _=>ih,Paired.fg h6 λ_ _=>ih}
  |loop n t m b l r=>
   obtain⟨a,dx,pb,xb,e,h1,h2,h3⟩:=h;exact{a,dx,pb,xb,e,s _ _ h1,s _ _ h2,Paired.fg h3 λ_ _=>ih}
  |_=>exact Ĳ (λ_ _ _ _ _ _ z=>by cases z) (λ_ _ _ _ _ _ z=>by cases z) h
theorem uQ{H:Hp}{x dx:Qs}{R:VK}{v_number:V}(T:Txt K mg A)(hx:H x=Ww)(hd:H dx=Ww)(q:∀(H':Hp),ai H H'->H' x=Wv (.ins A.dZ dx [("number",v_number)])->R .È H'):ik K A (.ref x::([v_number]++[])) (upd (upd H dx (.own x)) x (.ins A.dZ dx [])) R E0:=
 {x,A.dZ,dx,[],_,rfl,av,T.dG.cl,T.cZ,∅,q _ (ai.out (ai.out (ai.upd hd _) hx _) hx _) av}
theorem Ϡ.get{X H H':Hp}{a:Qs}{o:HO}(h:Í X H H' a=Wv o):(WY (X a)=true\/H a=Ww)/\H' a=Wv o:=by
 obtain⟨h1,h2⟩:=ip h;rcases Om.mp h1 with h1|h1
 ·exact⟨.inl h1,h2⟩
 exact{.inr (by simpa using h1),h2}
theorem Ϡ.of{X H H':Hp}{a:Qs}{o:HO}(h:WY (X a)=true\/H a=Ww)(e:H' a=Wv o):Í X H H' a=Wv o:=sh (Om.mpr (h.imp id λh=>by rw[h];rfl)) e
theorem mL{x:Option HO}(h:WY x=true):∃ws,x=Wv (.tup ws):=by
 cases x with
 |none=>cases h
 |some o=>
  cases o with
  |tup ws=>exact⟨ws,rfl⟩
  |_=>cases h
inductive qM(A:Ì)(E:En)(kn d:Nat)(vs:List V)(H:Hp)(Q:VK)(Ã:XK):Prop
 |mk(á:Qs)(rs:List Rw)(X:Hp):vs=[.ref á]->ai X H->eG E kn d X á rs->rs.length<=1000->(∀(R:Qs)(ys:List V)(H':Hp),ai H H'->H R=Ww->H' R=Wv (.lst ys)->Paired (fP A E.N (del [R] (Í X H H')) d) ys rs->Q (.ref R) H')->qM A E kn d vs H Q Ã
def EX(A:Ì)(E:En)(kn:Nat):Nat->Sp
 |0=>λ_ _ _ _=>False
 |d+1=>qM A E kn d
theorem BL(T:Txt K mg A)(d:Nat)(M9:ħ P w K mg base (d+4) "_law_made" ["_law_nodes_here"] (EX A E kn d)):T.qG.Hz P w base (d+5) (qM A E kn d):=by
 have M7:=ib (P:=P) (w:=w) (mg:=mg) (base:=base) (A:=A) T.gq;refine T.qG.hs (k:=d+4) ic (λf Ä A' outer s H vs Q E' hr hu h=>?_);obtain⟨á,rs,X,rfl,s0,⟨xs,hB0,pr,wf⟩,hl,q⟩:=h;have hB:=s0 _ _ hB0;refine⟨_,(af (Å 1 ic.nd (aZ ae))
 (af (bG Qz rfl (bu (fv 0)) (Ó (i:=2) ic.nd rfl)
  (af (Å 3 ic.nd (px hu (fv 2) aj))
  (ag (aP (Ö (cK hu) (fv 3) aF)
   (ag (aU (bx (fv 1) ((bb (hj:=by lia) T.cD (pB T) hr (px hu (fv 2) aj^px hu (fv 2) aj^px hu (fv 2) aj^ae))^ae))))
   (ag (aP (Ö (cK hu) (fv 3) aF)
    (ag (aU (bx (fv 1) ((bb (hj:=by lia) T.bY (pe T) hr (px hu (fv 2) aj^px hu (fv 2) aj^px hu (fv 2) aj^px hu (fv 2) aj^ae))^ae))))
    (ag (aP (Ö (cK hu) (fv 3) aF)
     (ag (aU (bx (fv 1) ((bb (hj:=by lia) T.bR (mQ T) hr (px hu (fv 2) aj^px hu (fv 2) aj^px hu (fv 2) aj^ae))^ae))))
     (ag (aP (Ö (cK hu) (fv 3) aF)
      (ag (aU (bx (fv 1) ((bb (hj:=by lia) T.bD (oY T) hr (px hu (fv 2) aj^px hu (fv 2) aj^px hu (fv 2) aj^px hu (fv 2) aj^ae))^ae))))
      (ag (aP (Ö (cK hu) (fv 3) aF)
       (ag (aU (bx (fv 1) ((bb (hj:=by lia) T.dG M7 hr (px hu (fv 2) aj^ae))^ae))))
       (ag (aP (Ö (cK hu) (fv 3) aF)
        (ag (aU (bx (fv 1) ((bb (hj:=by lia) T.bh (nK T) hr (px hu (fv 2) aj^px hu (fv 2) aj^į Cn T.fF (px hu (fv 2) aj^ae)^ae))^ae))))
        (ag (aP (Ö (cK hu) (fv 3) aF)
         (ag (aU (bx (fv 1) ((bb (hj:=by lia) T.aS (qC T) hr (px hu (fv 2) aj^px hu (fv 2) aj^(ao (hj:=by lia) M9 hr (px hu (fv 2) aj^ae))^(ao (hj:=by lia) M9 hr (px hu (fv 2) aj^ae))^px hu (fv 2) aj^px hu (fv 2) aj^ae))^ae))))
         (ag (aU (bx (fv 1) ((bb (hj:=by lia) T.aM (oa T) hr (px hu (fv 2) aj^px hu (fv 2) aj^px hu (fv 2) aj^(ao (hj:=by lia) M9 hr (px hu (fv 2) aj^ae))^px hu (fv 2) aj^px hu (fv 2) aj^ae))^ae))))))))))))))))))))
 (ag (aE (fv 1))))),?_⟩
 refine{NS _,λR hR=>?_};obtain⟨s1,e1⟩:=Ñ hR (HO.lst []);generalize upd H R _=H1 at s1 e1⊢;have pl:=Qy pr;refine NI {{_,À.of (s1 _ _ hB)},bw (K:=K) (xs:=xs) (λi B Hc=>∃(ys:List V)(v2 v3:Option V),B=[Wv (.ref á),Wv (.ref R),v2,v3]/\ai H Hc/\Hc R=Wv (.lst ys)/\Paired (fP A E.N (del [R] (Í X H Hc)) d) ys (rs.take i)) {[],Ww,Ww,rfl,s1,e1,.nil} (λi B Hc _ ⟨_,_,_,_,z,_⟩=>À.of (z _ _ hB)) ?_ ?_}
 ·rintro i v B Hc hv ⟨ys,v2,v3,rfl,sc,Ú,pc⟩;obtain⟨r,Ė,na⟩:=gi pr hv;have wr:=wf r (NO Ė);have sx:ai X Hc:=s0.trans sc;have ly:ys.length<=1000:=by rw[Qy pc,Oh];lia
  have od:∀{a:Qs}{o:HO}{ws:List V}{H6:Hp},X a=Wv (.tup ws)->H6 a=Wv o->del [R] (Í X H H6) a=Wv o:=λ{a o ws H6} e e6=>bN (λm=>by
   have z:=s0 _ _ e;rw[NF.mp m,hR]at z;cases z) (Ϡ.of (.inl (by rw[e];rfl)) e6)
  have nw:∀{a:Qs}{o:HO}{Hn H6:Hp},ai Hc Hn->Hn a=Ww->H6 a=Wv o->del [R] (Í X H H6) a=Wv o:=λ{a o Hn H6} z e e6=>bN (λm=>by rw[NF.mp m,z _ _ Ú]at e;cases e) (Ϡ.of (.inr (Dm.new (sc.trans z) a e)) e6);have nest:∀{R1:Qs}{Hm H4 H6:Hp}{ϣ:List V}{fs:List Rw}{d':Nat},ai Hc Hm->ai H4 H6->Paired (fP A E.N (del [R1] (Í X Hm H4)) d') ϣ fs->Paired (fP A E.N (del [R] (Í X H H6)) d') ϣ fs:=λ{R1 Hm H4 H6 ϣ fs d'} z1 z2 p1=>Paired.fg p1 λ_ _=>fP.same λa o e=>by
   obtain⟨_,e2⟩:=fM e;obtain⟨e3,e4⟩:=Ϡ.get e2;rcases e3 with e3|e3
   ·obtain⟨ws,ex⟩:=mL e3;exact od ex (z2 _ _ e4)
   exact nw z1 e3 (z2 _ _ e4)
  have add:∀(Hn:Hp)(y:V)(v2 v3:Option V),ai Hc Hn->fP A E.N (del [R] (Í X H Hn)) d y r->Hn R=Wv (.lst ys)/\∃(zs:List V)(u2 u3:Option V),[Wv (V.ref á),Wv (.ref R),v2,v3]=[Wv (.ref á),Wv (.ref R),u2,u3]/\ai H (upd Hn R (.lst (ys++[y])))/\(upd Hn R (.lst (ys++[y]))) R=Wv (.lst zs)/\Paired (fP A E.N (del [R] (Í X H (upd Hn R (.lst (ys++[y]))))) d) zs (rs.take (i+1)):=λHn y v2 v3 z ra=>by
   have zz:∀{G:Hp},ai G Hn->ai (del [R] (Í X H G)) (del [R] (Í X H (upd Hn R (.lst (ys++[y]))))):=λg2 a o e=>by
    obtain⟨h1,h2⟩:=fM e;obtain⟨h3,h4⟩:=Ϡ.get h2;exact bN h1 (Ϡ.of h3 (aK (λz=>h1 (by rw[z];exact NL)) (g2 _ _ h4)))
   refine{z _ _ Ú,_,v2,v3,rfl,ai.out (sc.trans z) hR _,av,?_};rw[WG Ė];exact Sj (ra.same (zz (ai.refl _))) (Paired.fg pc λ_ _=>fP.same (zz z))
  cases r with
  |set n x vl=>
   obtain⟨a,p,rfl,ea,ep⟩:∃a p,v=.ref a/\X a=Wv (.tup [.int n,.str "set",.str (E.N x),.ref p])/\X p=Wv (.tup (vV E.N vl)):=by cases d<;>exact na
   have ì:=Ò.of (K:=K) (sx _ _ ea);refine NI {_,_,Ob ì,rfl,{rfl,_,rfl,bg (λ_=>?_) (λz=>absurd rfl (gB z))}};refine{NI {rfl,_,À.of Ú},NI {_,_,Ob ì,rfl,NI {_,_,Ob ì,rfl,NI {_,_,Ob ì,rfl,λr6 dx Ë hd_ hne_=>{_,_,_,_,_,_,rfl,rfl,Ë,hd_,λH6 s6 hx=>{rfl,?_}}}}}};have row:fP A E.N (del [R] (Í X H H6)) d (.ref r6) (.set n x vl):=by
    have:∃a dx p,V.ref r6=.ref a/\del [R] (Í X H H6) a=Wv (.ins A.dB dx [("number",.int n),("name",.str (E.N x)),("value",.ref p)])/\del [R] (Í X H H6) p=Wv (.tup (vV E.N vl)):={r6,dx,p,rfl,nw (ai.refl _) Ë hx,od ep (s6 _ _ (sx _ _ ep))};cases d<;>exact this
   obtain⟨h5,h6⟩:=add H6 (.ref r6) _ _ s6 row;exact{_,_,_,rfl,rfl,h5,aL (),h6}
  |put n x pl vl=>
   obtain⟨a,p,rfl,ea,ep⟩:∃a p,v=.ref a/\X a=Wv (.tup [.int n,.str "put",.str (E.N x),pl.v E.N,.ref p])/\X p=Wv (.tup (vV E.N vl)):=by cases d<;>exact na
   have ì:=Ò.of (K:=K) (sx _ _ ea);refine NI {_,_,Ob ì,rfl,{rfl,_,rfl,bg (λz=>absurd (bE z) ∅) (λ_=>{rfl,_,rfl,bg (λ_=>?_) (λz=>absurd rfl (gB z))})}};refine{NI {rfl,_,À.of Ú},NI {_,_,Ob ì,rfl,NI {_,_,Ob ì,rfl,NI {_,_,Ob ì,rfl,NI {_,_,Ob ì,rfl,λr6 dx Ë hd_ hne_=>{_,_,_,_,_,_,_,rfl,rfl,Ë,hd_,λH6 s6 hx=>{rfl,?_}}}}}}};have row:fP A E.N (del [R] (Í X H H6)) d (.ref r6) (.put n x pl vl):=by
    have:∃a dx p,V.ref r6=.ref a/\del [R] (Í X H H6) a=Wv (.ins A.cX dx [("number",.int n),("name",.str (E.N x)),("place",pl.v E.N),("value",.ref p)])/\del [R] (Í X H H6) p=Wv (.tup (vV E.N vl)):={r6,dx,p,rfl,nw (ai.refl _) Ë hx,od ep (s6 _ _ (sx _ _ ep))};cases d<;>exact this
   obtain⟨h5,h6⟩:=add H6 (.ref r6) _ _ s6 row;exact{_,_,_,rfl,rfl,h5,aL (),h6}
  |snd n x vl=>
   obtain⟨a,p,rfl,ea,ep⟩:∃a p,v=.ref a/\X a=Wv (.tup [.int n,.str "send",.str (E.N x),.ref p])/\X p=Wv (.tup (vV E.N vl)):=by cases d<;>exact na
   have ì:=Ò.of (K:=K) (sx _ _ ea);refine NI {_,_,Ob ì,rfl,{rfl,_,rfl,bg (λz=>absurd (bE z) ∅) (λ_=>{rfl,_,rfl,bg (λz=>absurd (bE z) ∅) (λ_=>{rfl,_,rfl,bg (λ_=>?_) (λz=>absurd rfl (gB z))})})}};refine{NI {rfl,_,À.of Ú},NI {_,_,Ob ì,rfl,NI {_,_,Ob ì,rfl,NI {_,_,Ob ì,rfl,λr6 dx Ë hd_ hne_=>{_,_,_,_,_,_,rfl,rfl,Ë,hd_,λH6 s6 hx=>{rfl,?_}}}}}};have row:fP A E.N (del [R] (Í X H H6)) d (.ref r6) (.snd n x vl):=by
    have:∃a dx p,V.ref r6=.ref a/\del [R] (Í X H H6) a=Wv (.ins A.cz dx [("number",.int n),("name",.str (E.N x)),("value",.ref p)])/\del [R] (Í X H H6) p=Wv (.tup (vV E.N vl)):={r6,dx,p,rfl,nw (ai.refl _) Ë hx,od ep (s6 _ _ (sx _ _ ep))};cases d<;>exact this
   obtain⟨h5,h6⟩:=add H6 (.ref r6) _ _ s6 row;exact{_,_,_,rfl,rfl,h5,aL (),h6}
  |say n x vl m=>
   obtain⟨a,p,rfl,ea,ep⟩:∃a p,v=.ref a/\X a=Wv (.tup [.int n,.str "say",.str (E.N x),.ref p,.str (E.N m)])/\X p=Wv (.tup (vV E.N vl)):=by cases d<;>exact na
   have ì:=Ò.of (K:=K) (sx _ _ ea);refine NI {_,_,Ob ì,rfl,{rfl,_,rfl,bg (λz=>absurd (bE z) ∅) (λ_=>{rfl,_,rfl,bg (λz=>absurd (bE z) ∅) (λ_=>{rfl,_,rfl,bg (λz=>absurd (bE z) ∅) (λ_=>{rfl,_,rfl,bg (λ_=>?_) (λz=>absurd rfl (gB z))})})})}};refine{NI {rfl,_,À.of Ú},NI {_,_,Ob ì,rfl,NI {_,_,Ob ì,rfl,NI {_,_,Ob ì,rfl,NI {_,_,Ob ì,rfl,λr6 dx Ë hd_ hne_=>{_,_,_,_,_,_,_,rfl,rfl,Ë,hd_,λH6 s6 hx=>{rfl,?_}}}}}}};have row:fP A E.N (del [R] (Í X H H6)) d (.ref r6) (.say n x vl m):=by
    have:∃a dx p,V.ref r6=.ref a/\del [R] (Í X H H6) a=Wv (.ins A.dD dx [("number",.int n),("name",.str (E.N x)),("value",.ref p),("mark",.str (E.N m))])/\del [R] (Í X H H6) p=Wv (.tup (vV E.N vl)):={r6,dx,p,rfl,nw (ai.refl _) Ë hx,od ep (s6 _ _ (sx _ _ ep))};cases d<;>exact this
   obtain⟨h5,h6⟩:=add H6 (.ref r6) _ _ s6 row;exact{_,_,_,rfl,rfl,h5,aL (),h6}
  |last n=>
   obtain⟨a,rfl,ea⟩:∃a,v=.ref a/\X a=Wv (.tup [.int n,.str "last"]):=by cases d<;>exact na
   have ì:=Ò.of (K:=K) (sx _ _ ea);refine NI {_,_,Ob ì,rfl,{rfl,_,rfl,bg (λz=>absurd (bE z) ∅) (λ_=>{rfl,_,rfl,bg (λz=>absurd (bE z) ∅) (λ_=>{rfl,_,rfl,bg (λz=>absurd (bE z) ∅) (λ_=>{rfl,_,rfl,bg (λz=>absurd (bE z) ∅) (λ_=>{rfl,_,rfl,bg (λ_=>?_) (λz=>absurd rfl (gB z))})})})})}};refine{NI {rfl,_,À.of Ú},NI {_,_,Ob ì,rfl,λr6 dx Ë hd_ hne_=>uQ T Ë hd_ λH6 s6 hx=>{rfl,?_}}};have row:fP A E.N (del [R] (Í X H H6)) d (.ref r6) (.last n):=by
    have:∃a dx,V.ref r6=.ref a/\del [R] (Í X H H6) a=Wv (.ins A.dZ dx [("number",.int n)]):={r6,dx,rfl,nw (ai.refl _) Ë hx};cases d<;>exact this
   obtain⟨h5,h6⟩:=add H6 (.ref r6) _ _ s6 row;exact{_,_,_,rfl,rfl,h5,aL (),h6}
  |call n ci ts=>
   obtain⟨a,p,rfl,ea,ep⟩:∃a p,v=.ref a/\X a=Wv (.tup [.int n,.str "call",.str (E.N (ñ ci)),.ref p])/\X p=Wv (.lst (ts.map (Th.v E.N))):=by cases d<;>exact na
   have ì:=Ò.of (K:=K) (sx _ _ ea);refine NI {_,_,Ob ì,rfl,{rfl,_,rfl,bg (λz=>absurd (bE z) ∅) (λ_=>{rfl,_,rfl,bg (λz=>absurd (bE z) ∅) (λ_=>{rfl,_,rfl,bg (λz=>absurd (bE z) ∅) (λ_=>{rfl,_,rfl,bg (λz=>absurd (bE z) ∅) (λ_=>{rfl,_,rfl,bg (λz=>absurd (bE z) ∅) (λ_=>{rfl,_,rfl,bg (λ_=>?_) (λz=>absurd rfl (gB z))})})})})})}};refine{NI {rfl,_,À.of Ú},NI {_,_,Ob ì,rfl,NI {_,_,Ob ì,rfl,NI {_,_,Ob ì,rfl,NI {p,_,rfl,NI (À.of (sx _ _ ep)),λl5 hl5=>?_}}}}};obtain⟨s5,e5⟩:=Ñ hl5 (HO.lst (ts.map (Th.v E.N)));generalize upd Hc l5 _=H5 at s5 e5⊢;refine λr6 dx Ë hd_ hne_=>{_,_,_,_,_,_,_,rfl,rfl,Ë,hd_,(À.of e5),λn6 H6 f6 s6 h6 hx=>{rfl,?_}};have row:fP A E.N (del [R] (Í X H H6)) d (.ref r6) (.call n ci ts):=by
    have:∃a dx p,V.ref r6=.ref a/\del [R] (Í X H H6) a=Wv (.ins A.cJ dx [("number",.int n),("name",.str (E.N (ñ ci))),("things",.ref p)])/\del [R] (Í X H H6) p=Wv (.lst (ts.map (Th.v E.N))):=⟨r6,dx,n6,rfl,nw s5 Ë hx,nw s5 f6 h6⟩;cases d<;>exact this
   obtain⟨h5,h6⟩:=add H6 (.ref r6) _ _ (s5.trans s6) row;exact{_,_,_,rfl,rfl,h5,aL (),h6}
  |iff n vl fs os l r0=>
   cases d with
   |zero=>exact(show False from na).elim
   |succ d=>
    obtain⟨a,p,pf,po,xf,xo,rfl,ea,ep,hf,ho,pf',po'⟩:=na;obtain⟨_,l0,r1,l1,l2,w1,w2⟩:=wr;have ì:=Ò.of (K:=K) (sx _ _ ea);refine NI {_,_,Ob ì,rfl,{rfl,_,rfl,bg (λz=>absurd (bE z) ∅) (λ_=>{rfl,_,rfl,bg (λz=>absurd (bE z) ∅) (λ_=>{rfl,_,rfl,bg (λz=>absurd (bE z) ∅) (λ_=>{rfl,_,rfl,bg (λz=>absurd (bE z) ∅) (λ_=>{rfl,_,rfl,bg (λz=>absurd (bE z) ∅) (λ_=>{rfl,_,rfl,bg (λz=>absurd (bE z) ∅) (λ_=>{rfl,_,rfl,bg (λ_=>?_) (λz=>absurd rfl (gB z))})})})})})})}};refine{NI {rfl,_,À.of Ú},NI {_,_,Ob ì,rfl,NI {_,_,Ob ì,rfl,NI {_,_,Ob ì,rfl,{pf,fs,X,rfl,sx,⟨xf,hf,pf',w1⟩,l1,λR1 ϣ H4 s4 hR1 eR1 p1=>NI {_,_,Ob (Ò.of ((sx.trans s4) _ _ ea)),rfl,{po,os,X,rfl,sx.trans s4,⟨xo,ho,po',w2⟩,l2,λR2 ys2 H5 s5 Τ Ĺ p2=>?_}}}}}}};have s45:=s4.trans s5;have ea5:=Ò.of (K:=K) ((sx.trans s45) _ _ ea);refine NI {_,_,Ob ea5,rfl,NI {_,_,Ob ea5,rfl,λr6 dx Ë hd_ hne_=>{_,_,_,_,_,_,_,_,_,_,_,rfl,rfl,Ë,hd_,(À.of (s5 _ _ eR1)),(À.of Ĺ),λn1 n2 H6 f1 f2 s6 h1 h2 hx=>{rfl,?_}}}};have row:fP A E.N (del [R] (Í X H H6)) (d+1) (.ref r6) (.iff n vl fs os l r0):={r6,dx,p,n1,n2,ϣ,ys2,rfl,nw s45 Ë hx,od ep ((sx.trans (s45.trans s6)) _ _ ep),nw s45 f1 h1,nw s45 f2 h2,nest (ai.refl _) (s5.trans s6) p1,nest s4 s6 p2};obtain⟨h5,h6⟩:=add H6 (.ref r6) _ _ (s45.trans s6) row;exact{_,_,_,rfl,rfl,h5,aL (),h6}
  |loop n th m bs l r0=>
   cases d with
   |zero=>exact(show False from na).elim
   |succ d=>
    obtain⟨a,pb,xb,rfl,ea,hb,pb'⟩:=na;obtain⟨_,m0,m1,l0,r1,l1,w1⟩:=wr;have ì:=Ò.of (K:=K) (sx _ _ ea);refine NI {_,_,Ob ì,rfl,{rfl,_,rfl,bg (λz=>absurd (bE z) ∅) (λ_=>{rfl,_,rfl,bg (λz=>absurd (bE z) ∅) (λ_=>{rfl,_,rfl,bg (λz=>absurd (bE z) ∅) (λ_=>{rfl,_,rfl,bg (λz=>absurd (bE z) ∅) (λ_=>{rfl,_,rfl,bg (λz=>absurd (bE z) ∅) (λ_=>{rfl,_,rfl,bg (λz=>absurd (bE z) ∅) (λ_=>{rfl,_,rfl,bg (λz=>absurd (bE z) ∅) (λ_=>{NI {rfl,_,À.of Ú},NI {_,_,Ob ì,rfl,NI {_,_,Ob ì,rfl,NI {_,_,Ob ì,rfl,NI {_,_,Ob ì,rfl,{pb,bs,X,rfl,sx,⟨xb,hb,pb',w1⟩,l1,λR1 ϣ H4 s4 hR1 eR1 p1=>?_}}}}}})})})})})})})}};have ea5:=Ò.of (K:=K) ((sx.trans s4) _ _ ea);refine NI {_,_,Ob ea5,rfl,NI {_,_,Ob ea5,rfl,λr6 dx Ë hd_ hne_=>{_,_,_,_,_,_,_,_,_,_,rfl,rfl,Ë,hd_,(À.of eR1),λn1 H6 f1 s6 h1 hx=>{rfl,?_}}}};have row:fP A E.N (del [R] (Í X H H6)) (d+1) (.ref r6) (.loop n th m bs l r0):={r6,dx,n1,ϣ,rfl,nw s4 Ë hx,nw s4 f1 h1,nest (ai.refl _) s6 p1};obtain⟨h5,h6⟩:=add H6 (.ref r6) _ _ (s4.trans s6) row;exact{_,_,_,rfl,rfl,h5,aL (),h6}
 rintro B Hc ⟨ys,v2,v3,rfl,sc,Ú,pc⟩;rw[Pd ()]at pc;exact q R ys Hc sc hR Ú pc
theorem Gn(T:Txt K mg A):∀d,ħ P w K mg base (d+5) "_law_made" ["_law_nodes_here"] (qM A E kn d)
 |0=>BL T 0 (T.qG.hs (k:=3) ic (λ_ _ _ _ _ _ _ _ _ _ _ h=>h.elim) (λ_ _ _ _ h=>h.elim))
 |d+1=>BL T (d+1) (Gn T d)
end
section
variable{P:Program}{w:QD}{K:Qx}{mg:Str->Option Qt}{base:QN}{A:Ì}{N:Nat->Str}
seal PE PA PS č PT PW
def eM(c:Int):List Pt:=[.leaf 1 (.hand 0 (c%3)),.leaf 2 (.hand 1 (c/3%3)),.leaf 3 (.Ĭ 2 (c/9%3%3) 0),.leaf 4 (.Ĭ 3 (c/9%4%3) 0),.leaf 5 (.Ĭ 4 (c/9%5%3) 0),.leaf 6 (.Ĭ 5 (c/7%3) (1+c/11%20)),.leaf 7 (.own 6 0),.leaf 8 (.own 7 0),.leaf 9 (.own 8 0),.leaf 10 (.own 9 (1+c/220%20)),.leaf 11 (.lt 10 (c/5%10%3)),.leaf 12 (.lt 11 (c/5%11%3)),.leaf 13 (.lt 12 (c/5%12%3))]
theorem uZ{X:Hp}{r dx:Qs}{n:Int}{l:Lr}(o:l.ob N=Ww)(h:X r=Wv (.ins (Ħ A l.ci) dx (("number",.int n)::l.fs N dx))):aN A N X (.ref r) (.leaf n l):=by
 unfold aN;exact{r,dx,dx,rfl,h,λo' e=>by rw[o]at e;cases e}
structure ϊ(A:Ì)(N:Nat->Str)(H:Hp)(L:Qs)(Hc:Hp)(xs:List V)(hs:List Pt):Prop where
 s:ai H Hc
 e:Hc L=Wv (.lst xs)
 p:Paired (aN A N (del [L] (Í H H Hc))) xs hs
theorem ϊ.add{H Hc H6:Hp}{L r:Qs}{xs:List V}{hs:List Pt}{h:Pt}(D:ϊ A N H L Hc xs hs)(L0:H L=Ww)(s:ai Hc H6)(hr:Hc r=Ww)(hx:∀X:Hp,(∀o,H6 r=Wv o->X r=Wv o)->aN A N X (.ref r) h):H6 L=Wv (.lst xs)/\ϊ A N H L (upd H6 L (.lst (xs++[.ref r]))) (xs++[.ref r]) (hs++[h]):=by
 have rL:r≠L:=λz=>by rw[z,D.e]at hr;cases hr
 have z:ai (del [L] (Í H H Hc)) (del [L] (Í H H (upd H6 L (.lst (xs++[.ref r]))))):=λa o e=>by
  obtain⟨h1,h2⟩:=fM e;obtain⟨h3,h4⟩:=ip h2;exact bN h1 (sh h3 (aK (λz=>h1 (by rw[z];exact NL)) (s _ _ h4)))
 refine{s _ _ D.e,ai.out (D.s.trans s) L0 _,av,Sj (hx _ λo e=>?_) (Paired.fg D.p λ_ _=>aN.same z _ _)};exact bN (λm=>rL (NF.mp m)) (bQ (ai.free D.s hr) (aK rL e))
theorem ϊ.len{H Hc:Hp}{L:Qs}{xs:List V}{hs:List Pt}(D:ϊ A N H L Hc xs hs):xs.length=hs.length:=Qy D.p
inductive uE(A:Ì)(N:Nat->Str)(vs:List V)(H:Hp)(Q:VK)(Ã:XK):Prop
 |mk(ln:Qs)(c:Int):vs=[.ref ln,.int c]->H ln=Wv (.lst (Ņ N))->(∀(L:Qs)(xs:List V)(H':Hp),ai H H'->H L=Ww->H' L=Wv (.lst xs)->Paired (aN A N (Í H H H')) xs (eM c)->Q (.ref L) H')->uE A N vs H Q Ã
theorem GQ(T:Txt K mg A):T.rS.Hz P w base 5 (uE A N):=by
 refine T.rS.hs (k:=4) gr (λf Ä A' outer s H vs Q E' hr hu h=>?_);obtain⟨ln,c,rfl,hn,q⟩:=h;have at':∀(Hc:Hp),ai H Hc->∀j:Nat,j<18->À K Hc ln (Ņ N)/\Č (Ņ N) (j:Int)=Wv (.str (N j)):=λHc z j hj=>{À.of (z _ _ hn),fQ N hj};refine⟨_,(af (Å 2 gr.nd (aZ ((bb (hj:=by lia) T.cF (jH T) hr (aj^px hu (fv 0) aj^aG bU (fv 1) aj^ae))^(bb (hj:=by lia) T.cF (jH T) hr (aj^px hu (fv 0) aj^aG bU (aG cf (fv 1) aj) aj^ae))^ae)))
 (af (bG Qz rfl (rn rfl T.hU (aj^aj^ae)) (Ó (i:=3) gr.nd rfl)
  (ag (aU (bx (fv 2) ((bb (hj:=by lia) T.bq (ix T) hr (aG aW (fv 3) aj^px hu (fv 0) (fv 3)^aG bU (aG bU (aG cf (fv 1) aj) (aG aW (fv 3) aj)) aj^aj^ae))^ae)))))
 (af (aU (bx (fv 2) ((bb (hj:=by lia) T.bq (ix T) hr (aj^px hu (fv 0) aj^aG bU (aG cf (fv 1) aj) aj^aG aW aj (aG bU (aG cf (fv 1) aj) aj)^ae))^ae)))
 (af (bG Qz rfl (rn rfl T.hU (aj^aj^ae)) (Ó (i:=3) gr.nd rfl)
  (ag (aU (bx (fv 2) ((bb (hj:=by lia) T.cL (j7 T) hr (aG aW (fv 3) aj^px hu (fv 0) (fv 3)^aj^ae))^ae)))))
 (af (aU (bx (fv 2) ((bb (hj:=by lia) T.cL (j7 T) hr (aj^px hu (fv 0) aj^aG aW aj (aG bU (aG cf (fv 1) aj) aj)^ae))^ae)))
 (af (bG Qz rfl (rn rfl T.hU (aj^aj^ae)) (Ó (i:=3) gr.nd rfl)
  (ag (aU (bx (fv 2) ((bb (hj:=by lia) T.cC (oX T) hr (aG aW (fv 3) aj^px hu (fv 0) (fv 3)^aG bU (aG bU (aG cf (fv 1) aj) (fv 3)) aj^ae))^ae)))))
 (ag (aE (fv 2))))))))),?_⟩
 refine ê (À.of hn) (fQ N (i:=0) ∅) {(by show(0:Int)<3;decide),λr1 dx1 hr1 hd_ hne_=>{_,_,_,_,_,_,rfl,rfl,hr1,hd_,λH1 s1 x1=>{rfl,ê (À.of (s1 _ _ hn)) (fQ N (i:=1) ∅) {{∅,∅},(by show(0:Int)<3;decide),λr2 dx2 hr2 hd_ hne_=>{_,_,_,_,_,_,rfl,rfl,hr2,hd_,λH2 s2 x2=>{rfl,{by show 2<=sizeLine;decide,λL hL=>?_}}}}}}};have ϐ:=s1.trans s2;have L0:H L=Ww:=ai.free ϐ hL;have D2:ϊ A N H L (upd H2 L (.lst [.ref r1,.ref r2])) [.ref r1,.ref r2] ((eM c).take 2):=by
  have y1:=s2 _ _ x1;have n1:r1≠L:=λz=>by rw[z,hL]at y1;cases y1
  have n2:r2≠L:=λz=>by rw[z,hL]at x2;cases x2
  refine{ϐ.trans (ai.upd hL _),av,.cons (uZ rfl (bN (λm=>n1 (NF.mp m)) (bQ hr1 (aK n1 y1)))) (.cons ?_ .nil)};exact uZ rfl (bN (λm=>n2 (NF.mp m)) (bQ (ai.free s1 hr2) (aK n2 x2)))
 generalize upd H2 L (.lst [.ref r1,.ref r2])=H3 at D2⊢;clear ϐ x1 x2 s1 s2 hr1 hr2 hL;dsimp only;refine ah λM1 K1=>{2,5,rfl,{∅,∅,∅,∅},iT (lo:=2) (λi B Hc=>∃(xs:List V)(v3:Option V),B=[Wv (.ref ln),Wv (.int c),Wv (.ref L),v3]/\ϊ A N H L Hc xs ((eM c).take (2+i))) {_,Ww,rfl,D2} ?_ ?_}
 ·rintro i B Hc hi ⟨xs,v3,rfl,D⟩;have hi3:i<3:=hi;have lx:xs.length<=13:=by rw[D.len,Oh];show min _ 13<=13;lia
  have e2:(2+(i:Int))=((2+i:Nat):Int):=()
  refine{NI {rfl,_,À.of D.e},(ê (À.of (D.s _ _ hn)) (by rw[e2];exact fQ N ()) {{∅,∅},(by show(0:Int)<2+(i:Int)+1;lia),(by show(0:Int)<3;decide),λr6 dx Ë hd_ hne_=>{_,_,_,_,_,_,_,rfl,rfl,Ë,hd_,λH6 s6 hx=>{rfl,?_}}})};obtain⟨h5,h6⟩:=D.add (h:=.leaf (2+(i:Int)+1) (.Ĭ (2+i) (c/9%(2+(i:Int)+1)%3) 0)) L0 s6 Ë (λX hX=>uZ rfl (hX _ hx));refine{_,_,_,rfl,rfl,h5,aL (),xs++[.ref r6],_,rfl,?_};have:(eM c).take (2+(i+1))=(eM c).take (2+i)++[.leaf (2+(i:Int)+1) (.Ĭ (2+i) (c/9%(2+(i:Int)+1)%3) 0)]:=by
   have:i=0\/i=1\/i=2:=()
   rcases this with rfl|rfl|rfl<;>rfl
  rw[this];exact h6
 rintro B H4 ⟨xs4,v3,rfl,D4⟩;refine K1 _ _ ?_;have l4:xs4.length=5:=by rw[D4.len];rfl
 refine ah λM2 K2=>{NI {rfl,_,À.of D4.e},(ê (À.of (D4.s _ _ hn)) (fQ N (i:=5) ∅) {{∅,∅},(by show(0:Int)<3;decide),{∅,∅},(by show(0:Int)<20;decide),λr5 dx5 hr5 hd_ hne_=>{_,_,_,_,_,_,_,rfl,rfl,hr5,hd_,λH5 s5 hx5=>{rfl,?_}}})};obtain⟨h5,D5⟩:=D4.add (h:=.leaf 6 (.Ĭ 5 (c/7%3) (1+c/11%20))) L0 s5 hr5 (λX hX=>uZ rfl (hX _ hx5));refine{_,_,_,rfl,rfl,h5,aL (),?_};have D5':ϊ A N H L _ _ ((eM c).take 6):=D5;generalize upd H5 L (.lst (xs4++[.ref r5]))=H6 at D5'⊢;clear D5 h5 hx5 s5 hr5 D4;refine K2 _ _ (ah λM3 K3=>{6,9,rfl,{∅,∅,∅,∅},iT (lo:=6) (λi B Hc=>∃(xs:List V)(v3:Option V),B=[Wv (.ref ln),Wv (.int c),Wv (.ref L),v3]/\ϊ A N H L Hc xs ((eM c).take (6+i))) {_,_,rfl,D5'} ?_ ?_})
 ·rintro i B Hc hi ⟨xs,v3,rfl,D⟩;have hi3:i<3:=hi;have lx:xs.length<=13:=by rw[D.len,Oh];show min _ 13<=13;lia
  have e2:(6+(i:Int))=((6+i:Nat):Int):=()
  refine{NI {rfl,_,À.of D.e},(ê (À.of (D.s _ _ hn)) (by rw[e2];exact fQ N ()) (λr6 dx Ë hd_ hne_=>{_,_,_,_,_,_,rfl,rfl,Ë,hd_,λH6 s6 hx=>{rfl,?_}}))};obtain⟨h5,h6⟩:=D.add (h:=.leaf (6+(i:Int)+1) (.own (6+i) 0)) L0 s6 Ë (λX hX=>uZ rfl (hX _ hx));refine{_,_,_,rfl,rfl,h5,aL (),xs++[.ref r6],_,rfl,?_};have:(eM c).take (6+(i+1))=(eM c).take (6+i)++[.leaf (6+(i:Int)+1) (.own (6+i) 0)]:=by
   have:i=0\/i=1\/i=2:=()
   rcases this with rfl|rfl|rfl<;>rfl
  rw[this];exact h6
 rintro B H7 ⟨xs7,v7,rfl,D7⟩;refine K3 _ _ ?_;have l7:xs7.length=9:=by rw[D7.len];rfl
 refine ah λM4 K4=>{NI {rfl,_,À.of D7.e},(ê (À.of (D7.s _ _ hn)) (fQ N (i:=9) ∅) {{∅,∅},(by show(0:Int)<20;decide),λr8 dx8 hr8 hd_ hne_=>{_,_,_,_,_,_,rfl,rfl,hr8,hd_,λH8 s8 hx8=>{rfl,?_}}})};obtain⟨h8,D8⟩:=D7.add (h:=.leaf 10 (.own 9 (1+c/220%20))) L0 s8 hr8 (λX hX=>uZ rfl (hX _ hx8));refine{_,_,_,rfl,rfl,h8,aL (),?_};have D8':ϊ A N H L _ _ ((eM c).take 10):=D8;generalize upd H8 L (.lst (xs7++[.ref r8]))=H9 at D8'⊢;clear D8 h8 hx8 s8 hr8 D7;refine K4 _ _ (ah λM5 K5=>{10,13,rfl,{∅,∅,∅,∅},iT (lo:=10) (λi B Hc=>∃(xs:List V)(v3:Option V),B=[Wv (.ref ln),Wv (.int c),Wv (.ref L),v3]/\ϊ A N H L Hc xs ((eM c).take (10+i))) {_,_,rfl,D8'} ?_ ?_})
 ·rintro i B Hc hi ⟨xs,v3,rfl,D⟩;have hi3:i<3:=hi;have lx:xs.length<=13:=by rw[D.len,Oh];show min _ 13<=13;lia
  have e2:(10+(i:Int))=((10+i:Nat):Int):=()
  refine{NI {rfl,_,À.of D.e},(ê (À.of (D.s _ _ hn)) (by rw[e2];exact fQ N ()) {{∅,∅},(by show(0:Int)<10+(i:Int);lia),(by show(0:Int)<3;decide),λr6 dx Ë hd_ hne_=>{_,_,_,_,_,_,rfl,rfl,Ë,hd_,λH6 s6 hx=>{rfl,?_}}})};obtain⟨h5,h6⟩:=D.add (h:=.leaf (10+(i:Int)+1) (.lt (10+i) (c/5%(10+(i:Int))%3))) L0 s6 Ë (λX hX=>uZ rfl (hX _ hx));refine{_,_,_,rfl,rfl,h5,aL (),xs++[.ref r6],_,rfl,?_};have:(eM c).take (10+(i+1))=(eM c).take (10+i)++[.leaf (10+(i:Int)+1) (.lt (10+i) (c/5%(10+(i:Int))%3))]:=by
   have:i=0\/i=1\/i=2:=()
   rcases this with rfl|rfl|rfl<;>rfl
  rw[this];exact h6
 rintro B ŋ ⟨xs,v10,rfl,D⟩;exact K5 _ _ (q L xs ŋ D.s L0 D.e (Paired.fg D.p λ_ _=>aN.same aX _ _))
end
section
variable{P:Program}{w:QD}{K:Qx}{mg:Str->Option Qt}{base:QN}{A:Ì}{E:En}
structure Ad(E:En)(c:Int):Prop where
 N:E.N=Ś c
 th:∀i∈[2,3,4,6,7,8,14,16,17],i∈E.idx/\E.sz i=0
 l5:5∈E.ls
 l9:9∈E.ls
theorem Ad.D{c:Int}(Ã:Ad E c):DJ E.N:=by rw[Ã.N];exact GX c
theorem Ad.la{c:Int}(Ã:Ad E c){s:La}(n1:s.S≠s.lm)(n2:s.S≠s.ll)(n3:s.lm≠s.ll)(th:∀i∈s.th,i∈[2,3,4,6,7,8,14,16,17])(t3:3<s.th.length)(kn:s.kn<=2)(ms:∀m∈s.gk,1<=m/\m<=4)(ml:s.gk.length<=2):rh E s:=
 {n1,n2,n3,Ã.D,λi=>by rw[Ã.N];exact Lu c i,{λz=>absurd t3 (by rw[z];decide),λi hi=>Ã.th i (th i hi)},t3,kn,Ã.l5,Ã.l9,ms,ml}
structure Bk(H:Hp)(S lm:Qs)(kv:List (Key×V))(ms:List V):Prop where
 hS:H S=Wv (.dK kv)
 hm:H lm=Wv (.lst ms)
variable{H H' H2 Hx:Hp}{S lm:Qs}{kv:List (Key×V)}{ms:List V}
theorem Bk.n1(b:Bk H S lm kv ms):S≠lm:=λz=>by have:=b.hS;rw[z,b.hm]at this;cases this
theorem Bk.al(b:Bk H S lm kv ms):∀a∈[S,lm],H a≠Ww:=λa m e=>by
 simp only[NJ,NZ,or_false]at m;rcases m with rfl|rfl
 ·rw[b.hS]at e;cases e
 rw[b.hm]at e;cases e
theorem Bk.same(b:Bk H S lm kv ms)(z:ai H H'):Bk H' S lm kv ms:={z _ _ b.hS,z _ _ b.hm}
theorem Bk.atS(b:Bk H S lm kv ms)(kv':List (Key×V)):Bk (upd H S (.dK kv')) S lm kv' ms:=⟨av,aK b.n1.symm b.hm⟩
theorem Bk.dl(b:Bk H S lm kv ms){p:Qs}{o:HO}(hp:H p=Ww)(e:H' p=Wv o):del [S,lm] H' p=Wv o:=bN (λm=>b.al p m hp) e
theorem Bk.zS(b:Bk H S lm kv ms)(o:HO):ai (del [S,lm] H) (del [S,lm] (upd H S o)):=(Go.at NL o).same
theorem zN(z:ai H H')(M:List Qs):ai (del M H) (del M H'):=(Go.new z).same
structure Fx(E:En)(H X:Hp)(ln ø:Qs):Prop where
 z:ai H X
 hn:X ln=Wv (.lst (Ņ E.N))
 ht:X ø=Wv (.lst (ã E [2,3,4,6,7,8]))
theorem Fx.same{X X':Hp}{ln ø:Qs}(f:Fx E H X ln ø)(z:ai X X'):Fx E H X' ln ø:={f.z.trans z,z _ _ f.hn,z _ _ f.ht}
theorem EB{s:La}{y:Dy}{kv2:List V}(b:Bk H' s.S s.lm (stK s y.row) (ã E y.marks))(mb:∀m∈y.marks,10<=m/\m<13)(zs:ai (del [s.S,s.lm] Hx) (del [s.S,s.lm] H'))(l0:Hx s.ll=Ww)(hl:H' s.ll=Wv (.lst (y.cells.map V.int))){ln ø:Qs}(f:Fx E H (del [s.S,s.lm] Hx) s.ln ø)(ho:del [s.S,s.lm] Hx s.lo=Wv (.lst (s.gk.map V.int)))(hk:del [s.S,s.lm] Hx s.lk=Wv (.lst kv2))(pk:Paired (KnV E.N (del [s.S,s.lm] Hx)) kv2 (Q1 s.kn))(ht:del [s.S,s.lm] Hx s.lt=Wv (.lst (ã E s.th))):eO E H' s y:=by
 have z:ai (del [s.S,s.lm] Hx) (del s.M H'):=λa o e=>by
  obtain⟨h1,h2⟩:=fM e;obtain⟨_,h3⟩:=fM (zs a o e);refine bN (λm=>?_) h3;unfold La.M at m;simp only[NJ,NZ,or_false,not_or]at m h1;rcases m with m|m|m
  ·exact h1.1 m
  ·exact h1.2 m
  rw[m,l0]at h2;cases h2
 exact{{z _ _ f.hn,z _ _ ho,{kv2,z _ _ hk,Paired.fg pk λ_ _ ⟨p,e,q⟩=>{p,e,z _ _ q}},z _ _ ht},b.hS,b.hm,mb,hl}
theorem AZ{s:La}{y y2:Dy}(b:Bk H' s.S s.lm (stK s y.row) (ã E y.marks))(zs:ai (del [s.S,s.lm] Hx) (del [s.S,s.lm] H'))(l0:Hx s.ll=Ww)(hl:H' s.ll=Wv (.lst (y.cells.map V.int)))(g:Go s.M H' s.M H2)(L:eO E H2 s y2):Bk H2 s.S s.lm (stK s y2.row) (ã E y2.marks)/\ai (del [s.S,s.lm] Hx) (del [s.S,s.lm] H2)/\ai (Õ H' H2) (del [s.S,s.lm] H2):=by
 refine{⟨L.dy.hS,L.dy.hm⟩,λa o e=>?_,λa o e=>?_}
 ·obtain⟨h1,h2⟩:=fM e;obtain⟨_,h3⟩:=fM (zs a o e);refine bN h1 (g.o a o (λm=>?_) h3);unfold La.M at m;simp only[NJ,NZ,or_false,not_or]at m h1;rcases m with m|m|m
  ·exact h1.1 m
  ·exact h1.2 m
  rw[m,l0]at h2;cases h2
 obtain⟨e1,e2⟩:=Õ.get e;exact b.dl e1 e2
def gL(ns:List Int)(i j:Nat):List Int:=((ns.drop (HT.Ù ns.length 0 (Wv (i:Int)))).take (HT.Ù ns.length ns.length (Wv (j:Int))-HT.Ù ns.length 0 (Wv (i:Int)))).reverse
theorem u5(ns:List Int){i j:Nat}(h:i<=j):(gL ns i j).length<=j-i:=by
 unfold gL;rw[O9,Oh,HT.Cm,HT.Cm];lia
theorem Bn(ns:List Int)(i j:Nat):(kY (ns.map V.int) (Wv (i:Int)) (Wv (j:Int))).reverse=(gL ns i j).map V.int:=by
 unfold gL;rw[FA,List.map_reverse]
end
section
variable{P:Program}{w:QD}{K:Qx}{mg:Str->Option Qt}{base:QN}{A:Ì}{E:En}
seal PE PA PS č PT PW
theorem ħ.ex{ι:Type}{k:Nat}{x:Str}{ps:List Str}{sp:ι->Sp}{p:ι->Prop}(i0:ι)(h0:p i0)(h:∀i,p i->ħ P w K mg base k x ps (sp i)):ħ P w K mg base k x ps (λvs H Q E=>∃i,p i/\sp i vs H Q E):=by
 obtain⟨f,fd,F,b,kp,m,oc,od,ă,lk⟩:=h i0 h0;have same:∀i,p i->mC P w K mg base Ō k f fd ps (sp i):=λi hi=>by
  obtain⟨f',fd',F',b',kp',m',oc',od',osl',lk'⟩:=h i hi;have e:f'=f:=by rw[m]at m';cases m';rfl
  subst e;rw[lk]at lk';cases lk';exact F'
 exact{f,fd,{λvs H Q E ⟨i,hi,q⟩=>(same i hi).len vs H Q E q,λA outer s H args us vs Q E hr he hb hv ⟨i,hi,q⟩=>(same i hi).run A outer s H args us vs Q E hr he hb hv q},b,kp,m,oc,od,ă,lk}
structure xI(E:En)(H:Hp)(t ln lb B1 B2 B3:Qs)(n:Int)(r1 r2 r3:List Rw):Prop where
 t:H t=Wv (.tup [.ref ln,.ref lb,.int n])
 ln:H ln=Wv (.lst (Ņ E.N))
 lb:H lb=Wv (.lst [.ref B1,.ref B2,.ref B3])
 b1:eG E 0 4 H B1 r1
 b2:eG E 1 4 H B2 r2
 b3:eG E 2 4 H B3 r3
 l1:eN r1<=3
 l2:eN r2<=3
 l3:eN r3<=36
 nu:∃k e,Ns 0 15 r1 (n-1)/\Ns 0 (n+1) r2 k/\Ns 0 (k+2) r3 e
structure Ix where
 E:En
 kn:Nat
def ix0:Ix:={{Ś 0,[],λ_=>0},0}
def ď(ln lm lo lk:Qs):List (Key×V):=[(.inr "names",.ref ln),(.inr "row",.int 15),(.inr "marks",.ref lm),(.inr "mosts",.ref lo),(.inr "known",.ref lk)]
def Ø(ln:Qs)(row:Int)(lm lo lk lt ll:Qs):List (Key×V):=[(.inr "names",.ref ln),(.inr "row",.int row),(.inr "marks",.ref lm),(.inr "mosts",.ref lo),(.inr "known",.ref lk),(.inr "things",.ref lt),(.inr "cells",.ref ll)]
inductive wt(K:Qx)(vs:List V)(H:Hp)(Q:VK)(Ã:XK):Prop
 |mk(E:En)(a:Qs)(ns:List Int):vs=[.ref a]->À K H a (ns.map V.int)->Ad E (cellAt ns 0)->(∀(t ln lb B1 B2 B3:Qs)(n:Int)(r1 r2 r3:List Rw)(H':Hp),ai H H'->xI E H' t ln lb B1 B2 B3 n r1 r2 r3->Q (.ref t) H')->wt K vs H Q Ã
theorem Hu{E:En}{ys:List V}(ly:ys.length=18)(hy:∀(i:Nat) y,ys[i]?=Wv y->y=.str (E.N i)):ys=Ņ E.N:=by
 refine Vh λi=>?_;by_cases h:i<18
 ·have lt:i<ys.length:=()
  rw[NX,Ux h,NN lt,hy i _ (NN lt)];rfl
 rw[Pf (),Pf (by simp;lia)]
theorem G5{a b x:Qs}(h1:x≠a)(h2:x≠b):x∉[a,b]:=λm=>by
 simp only[NJ,NZ,or_false]at m;rcases m with m|m
 ·exact h1 m
 exact h2 m
theorem Ad.la'{c:Int}(Ã:Ad E c){S ln lm lo lk lt ll:Qs}{gk:List Int}{kn:Nat}{th:List Nat}(n1:S≠lm)(n2:S≠ll)(n3:lm≠ll)(h:∀i∈th,i∈[2,3,4,6,7,8,14,16,17])(t3:3<th.length)(k2:kn<=2)(ms:∀m∈gk,1<=m/\m<=4)(ml:gk.length<=2):rh E ⟨S,ln,lm,lo,lk,lt,ll,gk,kn,th⟩:=Ã.la n1 n2 n3 h t3 k2 ms ml
theorem ES(T:Txt K mg A):T.rM.Hz P w base 17 (wt K):=by
 have LM:=ħ.ex (P:=P) (w:=w) (base:=base) (sp:=λi:Ix=>nz i.E i.kn 4) (p:=λ_=>True) ix0 trivial λi _=>BN T 4;refine T.rM.hs (k:=16) dP (λf Ä A' outer s H vs Q E' hr hu h=>?_);obtain⟨E,a,ns,rfl,hA,Ã,q⟩:=h;have D:=Ã.D;refine⟨_,(af (qg (j:=1) (N:=["_law_k","_law_script"]) (own:=1) (fr:=[0]) (cN.of (by kernel_rfl!)) rfl dP.nd rfl (NI rfl) (oN rfl T.hU (aj^ae)) (λb=>Ó (i:=0) (show QR (["_law_k","_law_script"]:List Rb) by decide+kernel) rfl) (λb=>gW) (λb=>ao (hj:=by lia) (Jv T) hr ((ao (hj:=by lia) (Eh T) hr (fv 1^aj^ae))^fv 0^ae)))
 (af (Å 2 dP.nd (aG aW (fU j4 (fv 1) (dz aj) (dz aj)) (fU j4 (fv 1) (dz aj) (dz aj))))
 (af (Å 3 dP.nd (HC (nW aF (fv 1) (nW aF aj (nW aF (fU j4 (fv 1) (dz aj) (dz aj)) (nW aF (aZ ae) (nW aF (aZ ae) (HE)))))) rfl rfl (by intro z;cases z) ∅))
 (af (cx (aG aW (fv 2) (fU j4 (fv 1) (dz aj) (dz aj))) (cY (fv 3) aF (dU hu Wy)))
 (af (cx (AW (fU j4 (fv 0) (dz aj) (dz aj))) (cY (fv 3) aF (dU hu Wy)))
 (af (Å 4 dP.nd (ao (hj:=by lia) LM hr (fv 3^aj^aj^ae)))
 (af (cx (aG aW (px hu (fv 3) aF) aj) (cY (fv 3) aF (dU hu Wy)))
 (af (cx (aZ (bj (px hu (fv 1) aj^aj^ae)^ae)) (cY (fv 3) aF (dU hu Wy)))
 (af (cx (aG aW (fv 2) (fU j4 (fv 1) (dz aj) (dz aj))) (cY (fv 3) aF (dU hu Wy)))
 (af (cx (AW (fU j4 (fv 0) (dz aj) (dz aj))) (cY (fv 3) aF (dU hu Wy)))
 (af (Å 5 dP.nd (aG pE (px hu (fv 3) aF) aj))
 (af (Å 6 dP.nd (ao (hj:=by lia) LM hr (fv 3^aj^aj^ae)))
 (af (cx (aG aW (px hu (fv 3) aF) aj) (cY (fv 3) aF (dU hu Wy)))
 (af (cx (aZ (bj (px hu (fv 1) aj^aj^ae)^bj (px hu (fv 1) aj^aj^ae)^ae)) (cY (fv 3) aF (dU hu Wy)))
 (af (cx (fv 2) (cY (fv 3) aF (dU hu Wy)))
 (af (cx (aZ (aj^aj^ae)) (cY (fv 3) aF (dU hu Wy)))
 (af (cx (AW (fU j4 (fv 0) (dz aj) (dz aj))) (cY (fv 3) aF (dU hu Wy)))
 (af (Å 7 dP.nd (ao (hj:=by lia) LM hr (fv 3^aj^aj^ae)))
 (ag (aE (bj (fv 1^aZ (fv 4^fv 6^fv 7^ae)^fv 5^ae)))))))))))))))))))))),?_⟩
 refine{_,rfl,∅,∅,zk (J:=Η 0 18) (n:=18) (x:=λj=>.int (0+j)) (λj y _=>y=.str (E.N j)) (aL ∅) (λ_ _=>NM _) (λ_ _ h _=>h) (λ_ _ _ _ _ _ y=>y) (λb j H1 G hj s1 kk=>{a,ns,0,rfl,s1.seq hA,∅,cellAt ns 0,j,(by rw[O8];rfl),(),λH2 s2=>kk _ _ s2 (by rw[Ã.N])}) (λ_ _ _ _ _ h=>h) (λ_ _ _ _ _ _ _ h=>h) (λln H1 ys ln0 s1 eln ly hy=>?_)};rw[Hu ly hy]at eln;clear hy ly;rfl'
 refine ah λM1 K1=>{_,rfl,_,rfl,NI {ln,_,rfl,À.of eln,λp1 hp1=>?_}};rw[show kY (Ņ E.N) (Wv 2) (Wv 5)=ã E [2,3,4]from rfl];obtain⟨s2,e2⟩:=Ñ hp1 (HO.lst (ã E [2,3,4]));generalize upd H1 p1 _=H2 at s2 e2⊢;refine{_,rfl,_,rfl,NI {ln,_,rfl,À.of (s2 _ _ eln),λp2 ϭ=>?_}};rw[show kY (Ņ E.N) (Wv 6) (Wv 9)=ã E [6,7,8]from rfl];obtain⟨s3,e3⟩:=Ñ ϭ (HO.lst (ã E [6,7,8]));generalize upd H2 p2 _=H3 at s3 e3⊢;refine{p1,p2,_,_,rfl,rfl,s3 _ _ e2,e3,(show 6<=sizeLine by decide),λø hth=>K1 _ _ ?_};rw[show ã E [2,3,4]++ã E [6,7,8]=ã E [2,3,4,6,7,8]from rfl];obtain⟨s4,e4⟩:=Ñ hth (HO.lst (ã E [2,3,4,6,7,8]));generalize upd H3 ø _=H4 at s4 e4⊢;have n4:H4 ln=Wv (.lst (Ņ E.N)):=((s2.trans s3).trans s4) _ _ eln;have t4:ai H H4:=s1.trans ((s2.trans s3).trans s4);clear s2 s3 s4 e2 e3 hp1 ϭ hth eln s1 ln0;rfl'
 refine ah λM2 K2 S hS0=>?_;obtain⟨s5,e5⟩:=Ñ hS0 (HO.dK []);generalize upd H4 S _=H5 at s5 e5⊢;refine{_,rfl,_,rfl,NI {ln,_,rfl,À.of (s5 _ _ n4),λlm hlm=>?_}};rw[show kY (Ņ E.N) (Wv 10) (Wv 13)=ã E [10,11,12]from rfl];obtain⟨s6,e6⟩:=Ñ hlm (HO.lst (ã E [10,11,12]));generalize upd H5 lm _=H6 at s6 e6⊢;refine{NS _,λlo ϰ=>?_};obtain⟨s7,e7⟩:=Ñ ϰ (HO.lst []);generalize upd H6 lo _=H7 at s7 e7⊢;refine{NS _,λlk hlk=>?_};obtain⟨s8,e8⟩:=Ñ hlk (HO.lst []);generalize upd H7 lk _=H8 at s8 e8⊢;have s58:=(s6.trans s7).trans s8;refine{s58 _ _ e5,[((.inr "names":Key),.ref ln),(.inr "row",.int 15),(.inr "marks",.ref lm),(.inr "mosts",.ref lo),(.inr "known",.ref lk)],rfl,(show 5<=15 by decide),K2 _ _ ?_};rw[show bT [] [((.inr "names":Key),V.ref ln),(.inr "row",.int 15),(.inr "marks",.ref lm),(.inr "mosts",.ref lo),(.inr "known",.ref lk)]=ď ln lm lo lk from rfl];have lm4:H4 lm=Ww:=ai.free s5 hlm;have loS:lo≠S:=Wx ϰ (s6 _ _ e5);have lom:lo≠lm:=Wx ϰ e6;have lkS:lk≠S:=Wx hlk ((s6.trans s7) _ _ e5);have lkm:lk≠lm:=Wx hlk (s7 _ _ e6);have lmS:lm≠S:=Wx hlm e5;have s48:=s5.trans s58;have F9:Fx E H (del [S,lm] (upd H8 S (.dK (ď ln lm lo lk)))) ln ø:=by
  have zz:ai H4 (del [S,lm] (upd H8 S (.dK (ď ln lm lo lk)))):=λx o e=>by
   have xS:x≠S:=λz=>by rw[z,hS0]at e;cases e
   have xm:x≠lm:=λz=>by rw[z,lm4]at e;cases e
   exact bN (G5 xS xm) (aK xS (s48 _ _ e))
  exact{t4.trans zz,zz _ _ n4,zz _ _ e4}
 have o9:del [S,lm] (upd H8 S (.dK (ď ln lm lo lk))) lo=Wv (.lst []):=bN (G5 loS lom) (aK loS (s8 _ _ e7));have k9:del [S,lm] (upd H8 S (.dK (ď ln lm lo lk))) lk=Wv (.lst []):=bN (G5 lkS lkm) (aK lkS e8);have S9:(upd H8 S (.dK (ď ln lm lo lk))) S=Wv (.dK (ď ln lm lo lk)):=av;have m9:(upd H8 S (.dK (ď ln lm lo lk))) lm=Wv (.lst (ã E [10,11,12])):=aK lmS ((s7.trans s8) _ _ e6);have hS1:H S=Ww:=ai.free t4 hS0;have hm1:H lm=Ww:=ai.free t4 lm4;generalize upd H8 S (.dK (ď ln lm lo lk))=H9 at F9 o9 k9 S9 m9⊢;clear s48 s58 s8 s7 s6 s5 e5 e6 e7 e8 ϰ hlk hlm hS0 n4 e4 t4 lm4 loS lom lkS lkm;rfl'
 refine ah λM3 K3=>{_,rfl,_,rfl,NI {ln,_,rfl,À.of (aX _ _ F9.hn),λp3 hp3=>?_}};rw[show kY (Ņ E.N) (Wv 14) (Wv 15)=ã E [14]from rfl];obtain⟨ē,e10⟩:=Ñ hp3 (HO.lst (ã E [14]));generalize upd H9 p3 _=ŋ at ē e10⊢;refine{ø,p3,_,_,rfl,rfl,ē _ _ (aX _ _ F9.ht),e10,(show 7<=sizeLine by decide),λlt í=>?_};rw[show ã E [2,3,4,6,7,8]++ã E [14]=ã E [2,3,4,6,7,8,14]from rfl];obtain⟨Ī,Ϛ⟩:=Ñ í (HO.lst (ã E [2,3,4,6,7,8,14]));generalize upd ŋ lt _=ϋ at Ī Ϛ⊢;have Ϥ:=ē.trans Ī;refine{_,gI.k (k:=.inr "things") (Ϥ _ _ S9) (show 5<sizeLine by decide),K3 _ _ ?_};rw[show WD (ď ln lm lo lk) (.inr "things") (.ref lt)=ď ln lm lo lk++[(.inr "things",.ref lt)]from rfl];have ltS:lt≠S:=Wx í (ē _ _ S9);have ltm:lt≠lm:=Wx í (ē _ _ m9);have z12:ai (del [S,lm] H9) (del [S,lm] (upd ϋ S (.dK (ď ln lm lo lk++[(.inr "things",.ref lt)])))):=(zN Ϥ _).trans (Go.at NL _).same;have t12:del [S,lm] (upd ϋ S (.dK (ď ln lm lo lk++[(.inr "things",.ref lt)]))) lt=Wv (.lst (ã E [2,3,4,6,7,8,14])):=bN (G5 ltS ltm) (aK ltS Ϛ);have S12:(upd ϋ S (.dK (ď ln lm lo lk++[(.inr "things",.ref lt)]))) S=Wv (.dK (ď ln lm lo lk++[(.inr "things",.ref lt)])):=av;have m12:(upd ϋ S (.dK (ď ln lm lo lk++[(.inr "things",.ref lt)]))) lm=Wv (.lst (ã E [10,11,12])):=aK lmS (Ϥ _ _ m9);have F12:=F9.same z12;have o12:=z12 _ _ o9;have k12:=z12 _ _ k9;generalize upd ϋ S (.dK (ď ln lm lo lk++[(.inr "things",.ref lt)]))=H12 at F12 o12 k12 t12 S12 m12⊢;clear z12 Ϥ ē Ī e10 Ϛ hp3 í F9 o9 k9 S9 m9 ltS ltm;rfl'
 have b15:Bk H12 S lm (ď ln lm lo lk++[(.inr "things",.ref lt)]) (ã E [10,11,12]):=⟨S12,m12⟩;have F15:=F12;have o15:=o12;have k15:=k12;have t15:=t12;clear F12 o12 k12 t12 S12 m12 lmS;generalize H12=H15 at F15 o15 k15 t15 b15⊢;refine ah λM6 K6=>{_,rfl,_,rfl,NI {a,_,rfl,(F15.z.trans aX).seq hA,λp4 hp4=>?_}};obtain⟨s16,e16⟩:=Ñ hp4 (HO.lst (kY (ns.map V.int) (Wv 3) (Wv 6)));generalize upd H15 p4 _=H16 at s16 e16⊢;refine{p4,_,rfl,À.of e16,λll Ϙ=>?_};rw[show(kY (ns.map V.int) (Wv 3) (Wv 6)).reverse=(gL ns 3 6).map V.int from Bn ns 3 6];obtain⟨s17,e17⟩:=Ñ Ϙ (HO.lst ((gL ns 3 6).map V.int));generalize upd H16 ll _=H17 at s17 e17⊢;have l15:H15 ll=Ww:=ai.free s16 Ϙ;have b17:=b15.same (s16.trans s17);refine{_,gI.k (k:=.inr "cells") b17.hS (show 6<sizeLine by decide),K6 _ _ ?_};rw[show WD (ď ln lm lo lk++[(.inr "things",.ref lt)]) (.inr "cells") (.ref ll)=Ø ln 15 lm lo lk lt ll from rfl];have b18:=b17.atS (Ø ln 15 lm lo lk lt ll);have z18:=(zN (s16.trans s17) [S,lm]).trans (b17.zS (.dK (Ø ln 15 lm lo lk lt ll)));have Ū:S≠ll:=λz=>by have:=b17.hS;rw[z,e17]at this;cases this
 have Κ:lm≠ll:=(Wx Ϙ (s16 _ _ b15.hm)).symm;have e18:(upd H17 S (.dK (Ø ln 15 lm lo lk lt ll))) ll=Wv (.lst ((gL ns 3 6).map V.int)):=aK Ū.symm e17;generalize upd H17 S (.dK (Ø ln 15 lm lo lk lt ll))=H18 at b18 z18 e18⊢;clear s16 s17 e16 e17 hp4 Ϙ b17;rfl'
 have O1:rh E {S,ln,lm,lo,lk,lt,ll,[],0,[2,3,4,6,7,8,14]}:=Ã.la' b18.n1 Ū Κ ∅ ∅ ∅ ∅ ∅;have L1:eO E H18 {S,ln,lm,lo,lk,lt,ll,[],0,[2,3,4,6,7,8,14]} {15,[10,11,12],gL ns 3 6}:=EB (mb:=by show ∀m∈([10,11,12]:List Nat),10<=m/\m<13;decide) (kv2:=[]) b18 z18 l15 e18 (ln:=ln) F15 o15 k15 .nil t15;have q1:=u5 ns (i:=3) (j:=6) ∅;refine ah λM7 K7=>{⟨E,0⟩,trivial,{S,ln,lm,lo,lk,lt,ll,[],0,[2,3,4,6,7,8,14]},{15,[10,11,12],gL ns 3 6},0,0,rfl,rfl,O1,L1,rfl,(by show(gL ns 3 6).length<=100;lia),λB1 r1 y1 H19 g19 L19 bd1 n1 m1=>?_};have m1:Ns 0 15 r1 y1.row:=m1;have mb1:∀m∈y1.marks,10<=m/\m<13:=L19.dy.mb;obtain⟨b19,z19,w19⟩:=AZ (y:={15,[10,11,12],gL ns 3 6}) b18 z18 l15 e18 g19 L19;have b19:Bk H19 S lm (Ø ln y1.row lm lo lk lt ll) (ã E y1.marks):=b19;have z19:ai (del [S,lm] H15) (del [S,lm] H19):=z19;have bd1:eG E 0 4 (del [S,lm] H19) B1 r1:=bd1.same w19;have n1:eN r1<=3:=by have n1:eN r1+y1.cells.length<=(gL ns 3 6).length:=n1;lia
 have F19:=F15.same z19;have o19:=z19 _ _ o15;clear L1 O1 g19 L19 w19 b18 z18 e18 l15 b15 Ū Κ F15 o15 k15 t15 q1 z19;refine K7 _ _ ?_;rfl'
 have b21:=b19;have F21:=F19;have o21:=o19;have bd21:=bd1;clear b19 F19 o19 bd1 hS1 hm1;generalize H19=H21 at b21 F21 o21 bd21⊢;refine ah λM9 K9=>î b21.hS rfl {_,gI.k (k:=.inr "row") b21.hS (show 7<sizeLine by decide),K9 _ _ ?_};rw[show WD (Ø ln y1.row lm lo lk lt ll) (.inr "row") (.int (y1.row+2))=Ø ln (y1.row+2) lm lo lk lt ll from rfl];generalize hr1:y1.row+2=Ü;have b22:=b21.atS (Ø ln Ü lm lo lk lt ll);have z22:=b21.zS (.dK (Ø ln Ü lm lo lk lt ll));have F22:=F21.same z22;have o22:=z22 _ _ o21;have bd22:=bd21.same z22;generalize upd H21 S (.dK (Ø ln Ü lm lo lk lt ll))=H22 at b22 F22 bd22 o22⊢;clear b21 z22 F21 bd21;rfl'
 refine ah λM10 K10=>ê (À.of (aX _ _ F22.hn)) (fQ E.N (i:=13) ∅) {by show 2<=sizeLine;decide,λk1 Ο=>?_};obtain⟨s23,e23⟩:=Ñ Ο (HO.tup [V.str (E.N 13),.int 1]);generalize upd H22 k1 _=H23 at s23 e23⊢;refine{by show 1<=sizeLine;decide,λĊ hlk1=>?_};obtain⟨ϥ,e24⟩:=Ñ hlk1 (HO.lst [V.ref k1]);generalize upd H23 Ċ _=H24 at ϥ e24⊢;have b24:=b22.same (s23.trans ϥ);refine{_,gI.k (k:=.inr "known") b24.hS (show 7<sizeLine by decide),K10 _ _ ?_};rw[show WD (Ø ln Ü lm lo lk lt ll) (.inr "known") (.ref Ċ)=Ø ln Ü lm lo Ċ lt ll from rfl];have b25:=b24.atS (Ø ln Ü lm lo Ċ lt ll);have zb:=b24.zS (.dK (Ø ln Ü lm lo Ċ lt ll));have z25:=(zN (s23.trans ϥ) [S,lm]).trans zb;have F25:=F22.same z25;have o25:=z25 _ _ o22;have bd25:=bd22.same z25;have ek25:=zb _ _ ((b22.same s23).dl hlk1 e24);have et25:=zb _ _ ((zN ϥ [S,lm]) _ _ (b22.dl Ο e23));generalize upd H24 S (.dK (Ø ln Ü lm lo Ċ lt ll))=H25 at b25 F25 bd25 ek25 et25 o25⊢;clear b22 zb z25 F22 bd22 s23 ϥ e23 e24 b24 Ο hlk1;rfl'
 refine ah λM11 K11=>{_,rfl,_,rfl,NI {ln,_,rfl,À.of (aX _ _ F25.hn),λp5 hp5=>?_}};rw[show kY (Ņ E.N) (Wv 16) (Wv 18)=ã E [16,17]from rfl];obtain⟨s26,e26⟩:=Ñ hp5 (HO.lst (ã E [16,17]));generalize upd H25 p5 _=H26 at s26 e26⊢;refine{ø,p5,_,_,rfl,rfl,s26 _ _ (aX _ _ F25.ht),e26,(show 8<=sizeLine by decide),λĈ hlt1=>?_};rw[show ã E [2,3,4,6,7,8]++ã E [16,17]=ã E [2,3,4,6,7,8,16,17]from rfl];obtain⟨s27,e27⟩:=Ñ hlt1 (HO.lst (ã E [2,3,4,6,7,8,16,17]));generalize upd H26 Ĉ _=H27 at s27 e27⊢;have b27:=b25.same (s26.trans s27);refine{_,gI.k (k:=.inr "things") b27.hS (show 7<sizeLine by decide),K11 _ _ ?_};rw[show WD (Ø ln Ü lm lo Ċ lt ll) (.inr "things") (.ref Ĉ)=Ø ln Ü lm lo Ċ Ĉ ll from rfl];have b28:=b27.atS (Ø ln Ü lm lo Ċ Ĉ ll);have zb:=b27.zS (.dK (Ø ln Ü lm lo Ċ Ĉ ll));have z28:=(zN (s26.trans s27) [S,lm]).trans zb;have F28:=F25.same z28;have bd28:=bd25.same z28;have ek28:=z28 _ _ ek25;have et28:=z28 _ _ et25;have o28:=z28 _ _ o25;have lt28:=zb _ _ ((b25.same s26).dl hlt1 e27);generalize upd H27 S (.dK (Ø ln Ü lm lo Ċ Ĉ ll))=H28 at b28 F28 bd28 ek28 et28 o28 lt28⊢;clear b25 b27 zb z28 F25 bd25 ek25 et25 o25 s26 s27 e26 e27 hp5 hlt1;rfl'
 refine ah λM12 K12=>{_,rfl,_,rfl,NI {a,_,rfl,(F28.z.trans aX).seq hA,λp6 hp6=>?_}};obtain⟨s29,e29⟩:=Ñ hp6 (HO.lst (kY (ns.map V.int) (Wv 6) (Wv 9)));generalize upd H28 p6 _=H29 at s29 e29⊢;refine{p6,_,rfl,À.of e29,λï ϲ=>?_};rw[show(kY (ns.map V.int) (Wv 6) (Wv 9)).reverse=(gL ns 6 9).map V.int from Bn ns 6 9];obtain⟨s30,e30⟩:=Ñ ϲ (HO.lst ((gL ns 6 9).map V.int));generalize upd H29 ï _=H30 at s30 e30⊢;have l28:H28 ï=Ww:=ai.free s29 ϲ;have b30:=b28.same (s29.trans s30);refine{_,gI.k (k:=.inr "cells") b30.hS (show 7<sizeLine by decide),K12 _ _ ?_};rw[show WD (Ø ln Ü lm lo Ċ Ĉ ll) (.inr "cells") (.ref ï)=Ø ln Ü lm lo Ċ Ĉ ï from rfl];have b31:=b30.atS (Ø ln Ü lm lo Ċ Ĉ ï);have z31:=(zN (s29.trans s30) [S,lm]).trans (b30.zS (.dK (Ø ln Ü lm lo Ċ Ĉ ï)));have Ū:S≠ï:=λz=>by have:=b30.hS;rw[z,e30]at this;cases this
 have Κ:lm≠ï:=(Wx ϲ (s29 _ _ b28.hm)).symm;have e31:(upd H30 S (.dK (Ø ln Ü lm lo Ċ Ĉ ï))) ï=Wv (.lst ((gL ns 6 9).map V.int)):=aK Ū.symm e30;generalize upd H30 S (.dK (Ø ln Ü lm lo Ċ Ĉ ï))=H31 at b31 z31 e31⊢;clear s29 s30 e29 e30 hp6 ϲ b30;rfl'
 refine ah λM13 K13=>î b31.hS rfl (K13 _ _ ?_);rfl'
 have O2:rh E {S,ln,lm,lo,Ċ,Ĉ,ï,[],1,[2,3,4,6,7,8,16,17]}:=Ã.la' b31.n1 Ū Κ ∅ ∅ ∅ ∅ ∅;have L2:eO E H31 {S,ln,lm,lo,Ċ,Ĉ,ï,[],1,[2,3,4,6,7,8,16,17]} ⟨Ü,y1.marks,gL ns 6 9⟩:=EB (mb:=mb1) (kv2:=[.ref k1]) b31 z31 l28 e31 (ln:=ln) F28 o28 ek28 (.cons ⟨k1,rfl,et28⟩ .nil) lt28;have q2:=u5 ns (i:=6) (j:=9) ∅;refine ah λM14 K14=>{⟨E,1⟩,trivial,{S,ln,lm,lo,Ċ,Ĉ,ï,[],1,[2,3,4,6,7,8,16,17]},⟨Ü,y1.marks,gL ns 6 9⟩,0,0,rfl,rfl,O2,L2,rfl,(by show(gL ns 6 9).length<=100;lia),λB2 r2 y2 H32 g32 L32 bd2 n2 m2=>?_};have m2:Ns 0 Ü r2 y2.row:=m2;have mb2:∀m∈y2.marks,10<=m/\m<13:=L32.dy.mb;obtain⟨b32,z32,w32⟩:=AZ (y:=⟨Ü,y1.marks,gL ns 6 9⟩) b31 z31 l28 e31 g32 L32;have b32:Bk H32 S lm (Ø ln y2.row lm lo Ċ Ĉ ï) (ã E y2.marks):=b32;have z32:ai (del [S,lm] H28) (del [S,lm] H32):=z32;have bd2:eG E 1 4 (del [S,lm] H32) B2 r2:=bd2.same w32;have n2:eN r2<=3:=by have n2:eN r2+y2.cells.length<=(gL ns 6 9).length:=n2;lia
 have F32:=F28.same z32;have bd32:=bd28.same z32;clear L2 O2 g32 L32 w32 b31 z31 e31 l28 b28 Ū Κ F28 o28 ek28 et28 lt28 bd28 q2 z32;refine K14 _ _ ?_;rfl'
 have b34:=b32;have F34:=F32;have ž:=bd32;have Ź:=bd2;clear b32 F32 bd32 bd2;generalize H32=H34 at b34 F34 ž Ź⊢;refine ah λM16 K16=>î b34.hS rfl {_,gI.k (k:=.inr "row") b34.hS (show 7<sizeLine by decide),K16 _ _ ?_};rw[show WD (Ø ln y2.row lm lo Ċ Ĉ ï) (.inr "row") (.int (y2.row+2))=Ø ln (y2.row+2) lm lo Ċ Ĉ ï from rfl];generalize hr2:y2.row+2=Û;have b35:=b34.atS (Ø ln Û lm lo Ċ Ĉ ï);have z35:=b34.zS (.dK (Ø ln Û lm lo Ċ Ĉ ï));have F35:=F34.same z35;have Ž:=ž.same z35;have Ÿ:=Ź.same z35;generalize upd H34 S (.dK (Ø ln Û lm lo Ċ Ĉ ï))=H35 at b35 F35 Ž Ÿ⊢;clear b34 z35 F34 ž Ź;rfl'
 refine ah λM17 K17=>ê (À.of (aX _ _ F35.hn)) (fQ E.N (i:=13) ∅) {by show 2<=sizeLine;decide,λk2 hk2=>?_};obtain⟨s36,e36⟩:=Ñ hk2 (HO.tup [V.str (E.N 13),.int 1]);generalize upd H35 k2 _=H36 at s36 e36⊢;refine ê (À.of (s36 _ _ (aX _ _ F35.hn))) (fQ E.N (i:=15) ∅) {by show 2<=sizeLine;decide,λk3 hk3=>?_};obtain⟨s37,e37⟩:=Ñ hk3 (HO.tup [V.str (E.N 15),.int 2]);generalize upd H36 k3 _=H37 at s37 e37⊢;refine{by show 2<=sizeLine;decide,λĐ hlk2=>?_};obtain⟨s38,e38⟩:=Ñ hlk2 (HO.lst [V.ref k2,.ref k3]);generalize upd H37 Đ _=H38 at s38 e38⊢;have b38:=b35.same ((s36.trans s37).trans s38);refine{_,gI.k (k:=.inr "known") b38.hS (show 7<sizeLine by decide),K17 _ _ ?_};rw[show WD (Ø ln Û lm lo Ċ Ĉ ï) (.inr "known") (.ref Đ)=Ø ln Û lm lo Đ Ĉ ï from rfl];have b39:=b38.atS (Ø ln Û lm lo Đ Ĉ ï);have zb:=b38.zS (.dK (Ø ln Û lm lo Đ Ĉ ï));have z39:=(zN ((s36.trans s37).trans s38) [S,lm]).trans zb;have F39:=F35.same z39;have ż:=Ž.same z39;have ŷ:=Ÿ.same z39;have ek39:=zb _ _ ((b35.same (s36.trans s37)).dl hlk2 e38);have eu39:=zb _ _ ((zN (s37.trans s38) [S,lm]) _ _ (b35.dl hk2 e36));have ev39:=zb _ _ ((zN s38 [S,lm]) _ _ ((b35.same s36).dl hk3 e37));generalize upd H38 S (.dK (Ø ln Û lm lo Đ Ĉ ï))=H39 at b39 F39 ż ŷ ek39 eu39 ev39⊢;clear b35 zb z39 F35 Ž Ÿ s36 s37 s38 e36 e37 e38 b38 hk2 hk3 hlk2;rfl'
 refine ah λM18 K18=>{_,gI.k (k:=.inr "things") b39.hS (show 7<sizeLine by decide),K18 _ _ ?_};rw[show WD (Ø ln Û lm lo Đ Ĉ ï) (.inr "things") (.ref ø)=Ø ln Û lm lo Đ ø ï from rfl];have b40:=b39.atS (Ø ln Û lm lo Đ ø ï);have z40:=b39.zS (.dK (Ø ln Û lm lo Đ ø ï));have F40:=F39.same z40;have Ż:=ż.same z40;have Ŷ:=ŷ.same z40;have ek40:=z40 _ _ ek39;have eu40:=z40 _ _ eu39;have ev40:=z40 _ _ ev39;generalize upd H39 S (.dK (Ø ln Û lm lo Đ ø ï))=H40 at b40 F40 Ż Ŷ ek40 eu40 ev40⊢;clear b39 z40 F39 ż ŷ ek39 eu39 ev39;rfl'
 refine ah λM19 K19=>{by show 2<=sizeLine;decide,λĵ hlo2=>?_};obtain⟨s41,e41⟩:=Ñ hlo2 (HO.lst [V.int 4,.int 3]);generalize upd H40 ĵ _=H41 at s41 e41⊢;have b41:=b40.same s41;refine{_,gI.k (k:=.inr "mosts") b41.hS (show 7<sizeLine by decide),K19 _ _ ?_};rw[show WD (Ø ln Û lm lo Đ ø ï) (.inr "mosts") (.ref ĵ)=Ø ln Û lm ĵ Đ ø ï from rfl];have b42:=b41.atS (Ø ln Û lm ĵ Đ ø ï);have zb:=b41.zS (.dK (Ø ln Û lm ĵ Đ ø ï));have z42:=(zN s41 [S,lm]).trans zb;have F42:=F40.same z42;have ź:=Ż.same z42;have ŵ:=Ŷ.same z42;have ek42:=z42 _ _ ek40;have eu42:=z42 _ _ eu40;have ev42:=z42 _ _ ev40;have o42:=zb _ _ (b40.dl hlo2 e41);generalize upd H41 S (.dK (Ø ln Û lm ĵ Đ ø ï))=H42 at b42 F42 ź ŵ ek42 eu42 ev42 o42⊢;clear b40 b41 zb z42 F40 Ż Ŷ ek40 eu40 ev40 s41 e41 hlo2;rfl'
 refine ah λM20 K20=>{_,rfl,_,rfl,NI {a,_,rfl,(F42.z.trans aX).seq hA,λp7 hp7=>?_}};obtain⟨s43,e43⟩:=Ñ hp7 (HO.lst (kY (ns.map V.int) (Wv 9) (Wv 45)));generalize upd H42 p7 _=H43 at s43 e43⊢;refine{p7,_,rfl,À.of e43,λļ ϱ=>?_};rw[show(kY (ns.map V.int) (Wv 9) (Wv 45)).reverse=(gL ns 9 45).map V.int from Bn ns 9 45];obtain⟨s44,e44⟩:=Ñ ϱ (HO.lst ((gL ns 9 45).map V.int));generalize upd H43 ļ _=H44 at s44 e44⊢;have l42:H42 ļ=Ww:=ai.free s43 ϱ;have b44:=b42.same (s43.trans s44);refine{_,gI.k (k:=.inr "cells") b44.hS (show 7<sizeLine by decide),K20 _ _ ?_};rw[show WD (Ø ln Û lm ĵ Đ ø ï) (.inr "cells") (.ref ļ)=Ø ln Û lm ĵ Đ ø ļ from rfl];have b45:=b44.atS (Ø ln Û lm ĵ Đ ø ļ);have z45:=(zN (s43.trans s44) [S,lm]).trans (b44.zS (.dK (Ø ln Û lm ĵ Đ ø ļ)));have Ū:S≠ļ:=λz=>by have:=b44.hS;rw[z,e44]at this;cases this
 have Κ:lm≠ļ:=(Wx ϱ (s43 _ _ b42.hm)).symm;have e45:(upd H44 S (.dK (Ø ln Û lm ĵ Đ ø ļ))) ļ=Wv (.lst ((gL ns 9 45).map V.int)):=aK Ū.symm e44;generalize upd H44 S (.dK (Ø ln Û lm ĵ Đ ø ļ))=H45 at b45 z45 e45⊢;clear s43 s44 e43 e44 hp7 ϱ b44;rfl'
 have O3:rh E {S,ln,lm,ĵ,Đ,ø,ļ,[4,3],2,[2,3,4,6,7,8]}:=Ã.la' b45.n1 Ū Κ ∅ ∅ ∅ ∅ ∅;have L3:eO E H45 {S,ln,lm,ĵ,Đ,ø,ļ,[4,3],2,[2,3,4,6,7,8]} ⟨Û,y2.marks,gL ns 9 45⟩:=EB (mb:=mb2) (kv2:=[.ref k2,.ref k3]) b45 z45 l42 e45 (ln:=ln) F42 o42 ek42 (.cons ⟨k2,rfl,eu42⟩ (.cons ⟨k3,rfl,ev42⟩ .nil)) F42.ht;have q3:=u5 ns (i:=9) (j:=45) ∅;refine ah λM21 K21=>{⟨E,2⟩,trivial,{S,ln,lm,ĵ,Đ,ø,ļ,[4,3],2,[2,3,4,6,7,8]},⟨Û,y2.marks,gL ns 9 45⟩,0,0,rfl,rfl,O3,L3,rfl,(by show(gL ns 9 45).length<=100;lia),λB3 r3 y3 H46 g46 L46 bd3 n3 m3=>?_};have m3:Ns 0 Û r3 y3.row:=m3;obtain⟨b46,z46,w46⟩:=AZ (y:=⟨Û,y2.marks,gL ns 9 45⟩) b45 z45 l42 e45 g46 L46;have b46:Bk H46 S lm (Ø ln y3.row lm ĵ Đ ø ļ) (ã E y3.marks):=b46;have z46:ai (del [S,lm] H42) (del [S,lm] H46):=z46;have bd3:eG E 2 4 H46 B3 r3:=(bd3.same w46).same aX;have n3:eN r3<=36:=by have n3:eN r3+y3.cells.length<=(gL ns 9 45).length:=n3;lia
 have F46:=F42.same z46;have bd146:=(ź.same z46).same aX;have bd246:=(ŵ.same z46).same aX;have t46:=F46.z.trans aX;have hn46:=aX _ _ F46.hn;clear L3 O3 g46 L46 w46 b45 z45 e45 l42 b42 Ū Κ F42 o42 ek42 eu42 ev42 ź ŵ q3 z46;refine K21 _ _ ?_;rfl'
 refine{by show 3<=sizeLine;decide,λlb hlb=>?_};obtain⟨s47,e47⟩:=Ñ hlb (HO.lst [V.ref B1,.ref B2,.ref B3]);generalize upd H46 lb _=H47 at s47 e47⊢;refine{by show 3<=sizeLine;decide,λt ht=>?_};have s49:=ai.upd ht (HO.tup [V.ref ln,.ref lb,(.int (Ü-1))]);have z:=s47.trans s49;exact q t ln lb B1 B2 B3 (Ü-1) r1 r2 r3 _ (t46.trans z) {av,z _ _ hn46,s49 _ _ e47,bd146.same z,bd246.same z,bd3.same z,n1,n2,n3,y2.row,y3.row,by rw[show Ü-1-1=y1.row by lia];exact m1,by rw[show Ü-1+1=Ü by lia];exact m2,by rw[hr2];exact m3}
mutual
noncomputable def Rw.pt:Rw->Pt
 | .set n x v=>.leaf n (.set x v)
 | .put n x p v=>.leaf n (.put x p v)
 | .snd n h v=>.leaf n (.snd h v)
 | .say n x v m=>.leaf n (.say x v m)
 | .last n=>.leaf n .last
 | .call n i ts=>.leaf n (.call (ñ i) ts)
 | .iff n v f o l r=>.iff n v l r (Ç f) (Ç o)
 | .loop n t m b l r=>.loop n t m l r (Ç b)
noncomputable def Ç:List Rw->List Pt
 | []=>[]
 |r::rs=>r.pt::Ç rs
end
theorem tq:∀rs,Ç rs=rs.map Rw.pt
 | []=>by rw[Ç];rfl
 |r::rs=>by rw[Ç,tq rs];rfl
theorem mW{α β:Type}{F:α->β->Prop}{xs:List α}{ys:List β}(h:Paired F xs ys):Paired (λy x=>F x y) ys xs:=by
 induction h with
 |nil=>exact .nil
 |cons h _ ih=>exact .cons h ih
theorem Ck{X:Hp}{a dx p:Qs}{n:Int}{l:Lr}(h:X a=Wv (.ins (Ħ A l.ci) dx (("number",.int n)::l.fs N p)))(q:∀o,l.ob N=Wv o->X p=Wv o):aN A N X (.ref a) (.leaf n l):=by
 unfold aN;exact⟨a,dx,p,rfl,h,q⟩
theorem fP.pt{N:Nat->Str}{X:Hp}:∀(d:Nat)(v:V)(r:Rw),fP A N X d v r->aN A N X v r.pt:=by
 have call:∀v n i ts,(∃a dx p,v=.ref a/\X a=Wv (.ins A.cJ dx [("number",.int n),("name",.str (N (ñ i))),("things",.ref p)])/\X p=Wv (.lst (ts.map (Th.v N))))->aN A N X v (.leaf n (.call (ñ i) ts)):=λv n i ts ⟨a,dx,p,e,h1,h2⟩=>by
  subst e;exact Ck h1 λo z=>by cases z;exact h2
 have one:∀{a dx p:Qs}{n:Int}{l:Lr}{vs:List V},X a=Wv (.ins (Ħ A l.ci) dx (("number",.int n)::l.fs N p))->X p=Wv (.tup vs)->l.ob N=Wv (.tup vs)->aN A N X (.ref a) (.leaf n l):=λh1 h2 h3=>Ck h1 λo z=>by rw[h3]at z;cases z;exact h2
 intro d;induction d with
 |zero=>
  intro v r h;cases r with
  |call n i ts=>exact call v n i ts h
  |iff=>exact(show False from h).elim
  |loop=>exact(show False from h).elim
  |last n=>obtain⟨a,dx,rfl,h1⟩:=h;exact Ck (p:=a) h1 λo z=>by cases z
  |_=>obtain⟨a,dx,p,rfl,h1,h2⟩:=h;exact one h1 h2 rfl
 |succ d ih=>
  intro v r h;have pl:∀{xs:List V}{rs:List Rw},Paired (fP A N X d) xs rs->ba A N X xs (Ç rs):=λp=>by
   rw[tq];exact ba.of (fJ _ (mW (Paired.fg p λ_ _ z=>ih _ _ z)))
  cases r with
  |call n i ts=>exact call v n i ts h
  |last n=>obtain⟨a,dx,rfl,h1⟩:=h;exact Ck (p:=a) h1 λo z=>by cases z
  |iff n vl f o l q=>
   obtain⟨a,dx,p,pf,po,xf,xo,e,h1,h2,h3,h4,h5,h6⟩:=h;rw[Rw.pt];unfold aN;exact⟨a,dx,p,pf,po,xf,xo,e,h1,h2,h3,h4,pl h5,pl h6⟩
  |loop n t m b l q=>
   obtain⟨a,dx,pb,xb,e,h1,h2,h3⟩:=h;rw[Rw.pt];unfold aN;exact⟨a,dx,pb,xb,e,h1,h2,pl h3⟩
  |_=>obtain⟨a,dx,p,rfl,h1,h2⟩:=h;exact one h1 h2 rfl
theorem Dc{N:Nat->Str}{X:Hp}{d:Nat}{xs:List V}{rs:List Rw}(p:Paired (fP A N X d) xs rs):ba A N X xs (Ç rs):=by
 rw[tq];exact ba.of (fJ _ (mW (Paired.fg p λ_ _ z=>fP.pt d _ _ z)))
def mF(A:Ì)(E:En)(H:Hp)(d:Qs)(k:Int)(nm:Nat)(ps:List Nat)(rs:List Rw):Prop:=aN A E.N H (.ref d) (.bf k nm ps (Ç rs))
theorem mF.same{H H':Hp}(z:ai H H'){d:Qs}{k:Int}{nm:Nat}{ps:List Nat}{rs:List Rw}(h:mF A E H d k nm ps rs):mF A E H' d k nm ps rs:=aN.same z _ _ h
theorem CD{H:Hp}{d dx pp pb:Qs}{ys:List V}{k:Int}{nm:Nat}{ps:List Nat}{rs:List Rw}(h1:H d=Wv (.ins A.cy dx [("number",.int k),("name",.str (E.N nm)),("parts",.ref pp),("body",.ref pb)]))(h2:H pp=Wv (.lst (ã E ps)))(h3:H pb=Wv (.lst ys))(p:Paired (fP A E.N H 4) ys rs):mF A E H d k nm ps rs:=by
 unfold mF aN;exact⟨d,dx,pp,pb,ys,rfl,h1,h2,h3,Dc p⟩
def Þ(n:Int)(r1 r2:List Rw):List Pt:=[.bf 14 13 [14] (Ç r1),.bf n 15 [16,17] (Ç r2)]
inductive uq(A:Ì)(vs:List V)(H:Hp)(Q:VK)(Ã:XK):Prop
 |mk(E:En)(t ln lb B1 B2 B3:Qs)(n c:Int)(r1 r2 r3:List Rw):vs=[.ref t,.int c]->xI E H t ln lb B1 B2 B3 n r1 r2 r3->(∀(v:V)(H':Hp),ai H H'->mB A E.N (Í H H H') v (eM c) (Þ n r1 r2) (Ç r3)->Q v H')->uq A vs H Q Ã
theorem wH(T:Txt K mg A):T.nP.Hz P w base 10 (uq A):=by
 have Qn:=ħ.ex (P:=P) (w:=w) (base:=base) (sp:=λN:Nat->Str=>uE A N) (p:=λ_=>True) (Ś 0) trivial λN _=>GQ T;have M9:=ħ.ex (P:=P) (w:=w) (base:=base) (sp:=λi:En×Nat=>qM A i.1 i.2 4) (p:=λ_=>True) (ix0.E,0) trivial λi _=>Gn T 4;refine T.nP.hs (k:=9) fI (λf Ä A' outer s H vs Q E' hr hu h=>?_);obtain⟨E,t,ln,lb,B1,B2,B3,n,c,r1,r2,r3,rfl,R,q⟩:=h;refine⟨_,(af (cx (fv 0) (j3 rfl (bI (Ó (i:=2) fI.nd rfl) (bI (Ó (i:=3) fI.nd rfl) (bI (Ó (i:=4) fI.nd rfl) hV)))))
 (af (Å 5 fI.nd (aZ ((bb (hj:=by lia) T.a8 (jt T) hr (aj^px hu (fv 2) aj^aZ (px hu (fv 2) aj^ae)^(ao (hj:=by lia) M9 hr (px hu (fv 3) aj^ae))^ae))^ae)))
 (af (aU (bx (fv 5) ((bb (hj:=by lia) T.a8 (jt T) hr (fv 4^px hu (fv 2) aj^aZ (px hu (fv 2) aj^px hu (fv 2) aj^ae)^(ao (hj:=by lia) M9 hr (px hu (fv 3) aj^ae))^ae))^ae)))
 (ag (aE (bb (hj:=by lia) T.bc (nN T) hr ((ao (hj:=by lia) Qn hr (fv 2^fv 1^ae))^fv 5^(ao (hj:=by lia) M9 hr (px hu (fv 3) aj^ae))^ae))))))),?_⟩
 refine{t,_,rfl,Ò.of R.t,rfl,_,_,rfl,_,_,rfl,_,_,rfl,rfl,?_};rfl'
 refine ah λM1 K1=>ê (À.of R.ln) (fQ E.N (i:=13) ∅) (ê (À.of R.ln) (fQ E.N (i:=14) ∅) {by show 1<=sizeLine;decide,λp1 hp1=>?_});obtain⟨s1,e1⟩:=Ñ hp1 (HO.lst [V.str (E.N 14)]);generalize upd H p1 _=H1 at s1 e1⊢;refine ê (À.of (s1 _ _ R.lb)) rfl {(E,0),trivial,B1,r1,H,rfl,s1,R.b1,(by have:=R.l1;have:=b7 r1;lia),λR1 ϣ H2 s2 hR1 eR1 p2 ra dx3 hr3 hd_ hne_=>{_,_,_,_,_,_,_,_,_,rfl,rfl,hr3,hd_,(À.of (s2 _ _ e1)),(À.of eR1),λn1 n2 H3 f1 f2 s3 h1 h2 hx3=>{rfl,?_}}};have q3:Paired (fP A E.N (Í H H H3) 4) ϣ r1:=Paired.fg p2 λ_ _=>fP.same (aX.trans ((gc λb h=>ai.free s1 h).trans (dY s3)));have t2:=s1.trans s2;have d3:mF A E (Í H H H3) ra 14 13 [14] r1:=CD (bQ (ai.free t2 hr3) hx3) (bQ (ai.free t2 f1) h1) (bQ (ai.free t2 f2) h2) q3;refine{by show 1<=sizeLine;decide,λL hL=>?_};have s4:=ai.upd hL (HO.lst [V.ref ra]);have e4:(upd H3 L (HO.lst [V.ref ra])) L=Wv (.lst [.ref ra]):=av;have d4:mF A E (del [L] (Í H H (upd H3 L (HO.lst [V.ref ra])))) ra 14 13 [14] r1:=d3.same λx o e=>bN (λm=>by have e:=(ip e).2;rw[NF.mp m,hL]at e;cases e) (dY s4 _ _ e);generalize upd H3 L (HO.lst [V.ref ra])=H4 at s4 e4 d4⊢;have t3:=(s1.trans s2).trans s3;have L0:H L=Ww:=ai.free t3 hL;have t4:=t3.trans s4;clear t2 s1 s2 s3 s4 e1 p2 hR1 eR1 hx3 h1 h2 q3 d3 hr3 f1 f2 hL hp1 t3;refine K1 _ _ ?_;rfl'
 refine ah λM2 K2=>{NI {rfl,_,À.of e4},(ê (À.of (t4 _ _ R.ln)) (fQ E.N (i:=15) ∅) (ê (À.of (t4 _ _ R.ln)) (fQ E.N (i:=16) ∅) (ê (À.of (t4 _ _ R.ln)) (fQ E.N (i:=17) ∅) {by show 2<=sizeLine;decide,λp5 hp5=>?_})))};obtain⟨s5,e5⟩:=Ñ hp5 (HO.lst [V.str (E.N 16),.str (E.N 17)]);generalize upd H4 p5 _=H5 at s5 e5⊢;have t5:=t4.trans s5;refine ê (À.of (t5 _ _ R.lb)) rfl {(E,1),trivial,B2,r2,H,rfl,t5,R.b2,(by have:=R.l2;have:=b7 r2;lia),λR2 ys2 H6 s6 Τ Ĺ p6 r7 dx7 hr7 hd_ hne_=>{_,_,_,_,_,_,_,_,_,rfl,rfl,hr7,hd_,(À.of (s6 _ _ e5)),(À.of Ĺ),λn1 n2 H7 f1 f2 s7 h1 h2 hx7=>{rfl,?_}}};have L6:H6 L=Wv (.lst [.ref ra]):=(s5.trans s6) _ _ e4;have L7:=s7 _ _ L6;have nL:∀{x:Qs},H6 x=Ww->x≠L:=λh=>Wx h L6;have t6:=t5.trans s6;have d8:mF A E (del [L] (Í H H (upd H7 L (.lst [.ref ra,.ref r7])))) r7 n 15 [16,17] r2:=by
  have z:ai (del [R2] (Í H H5 H6)) (del [L] (Í H H (upd H7 L (.lst [.ref ra,.ref r7])))):=λx o e=>by
   obtain⟨_,e1⟩:=fM e;obtain⟨e2,e3⟩:=Ϡ.get e1;have xL:x≠L:=λz=>by
    rw[z]at e2;rcases e2 with e2|e2
    ·rw[L0]at e2;exact absurd e2 NT
    rw[s5 _ _ e4]at e2;cases e2
   exact bN (λm=>xL (NF.mp m)) (Ϡ.of (e2.imp id λz=>ai.free t5 z) (aK xL (s7 _ _ e3)))
  have k:∀{x:Qs}{o:HO},H6 x=Ww->H7 x=Wv o->del [L] (Í H H (upd H7 L (.lst [.ref ra,.ref r7]))) x=Wv o:=λh e=>bN (λm=>nL h (NF.mp m)) (bQ (ai.free t6 h) (aK (nL h) e));exact CD (k hr7 hx7) (k f1 h1) (k f2 h2) (Paired.fg p6 λ_ _=>fP.same z)
 have z8:ai (del [L] (Í H H H4)) (del [L] (Í H H (upd H7 L (.lst [.ref ra,.ref r7])))):=λx o e=>by
  obtain⟨e1,e2⟩:=fM e;obtain⟨e3,e4⟩:=ip e2;have xL:x≠L:=λz=>e1 (by rw[z];simp);exact bN e1 (sh e3 (aK xL (((s5.trans s6).trans s7) _ _ e4)))
 refine{_,_,_,rfl,rfl,L7,aL (show 1<=1000 by decide),K2 _ _ ?_};have e8:(upd H7 L (.lst [.ref ra,.ref r7])) L=Wv (.lst [.ref ra,.ref r7]):=av;have t8:ai H (upd H7 L (.lst [.ref ra,.ref r7])):=ai.out (t5.trans (s6.trans s7)) L0 _;have d18:=(d4.same z8).same aX;have d28:=d8.same aX;have e9:upd H7 L (.lst ([.ref ra]++[.ref r7]))=upd H7 L (.lst [.ref ra,.ref r7]):=rfl;rw[e9];generalize upd H7 L (.lst [.ref ra,.ref r7])=H8 at e8 t8 d18 d28⊢;clear t6 e9 d4 d8 z8 nL L6 L7 s5 s6 s7 e5 p6 Τ Ĺ hx7 h1 h2 hr7 f1 f2 hp5 t5 e4 t4;rfl'
 refine{E.N,trivial,ln,c,rfl,t8 _ _ R.ln,λhl hv H9 s9 _ ehl ph=>?_};have t9:=t8.trans s9;have ph:Paired (aN A E.N (Í H H H9)) hv (eM c):=Paired.fg ph λ_ _=>aN.same (λx o e=>by
  obtain⟨e1,e2⟩:=Ϡ.get e;refine Ϡ.of ?_ e2;rcases e1 with e1|e1
  ·obtain⟨ws,e1⟩:=mL e1;cases hx:H x with
   |none=>exact .inr rfl
   |some o2=>
    have:=t8 _ _ hx;rw[e1]at this;cases this;exact .inl rfl
  exact .inr (ai.free t8 e1)) _ _
 refine ê (À.of (t9 _ _ R.lb)) rfl {(E,2),trivial,B3,r3,H,rfl,t9,R.b3,(by have:=R.l3;have:=b7 r3;lia),λR3 ys3 ŋ ē hR3 eR3 p10 rp dxp hrp hd_ hne_=>{_,_,_,_,_,_,_,_,_,rfl,rfl,hrp,hd_,(À.of (ē _ _ ehl)),(À.of ((s9.trans ē) _ _ e8)),(À.of eR3),λn1 n2 n3 ϋ f1 f2 f3 Ī h1 h2 h3 hxp=>{rfl,?_}}};have s9':=s9.trans (ē.trans Ī);have t10:=t9.trans ē;refine q (.ref rp) ϋ (t10.trans Ī) {rp,dxp,n1,n2,n3,_,_,_,rfl,bQ (ai.free t10 hrp) hxp,bQ (ai.free t10 f1) h1,bQ (ai.free t10 f2) h2,bQ (ai.free t10 f3) h3,ba.of (mW (Paired.fg ph λ_ _=>aN.same (dY (ē.trans Ī)) _ _)),?_,Dc (Paired.fg p10 λ_ _=>fP.same (aX.trans ((gc λb h=>ai.free t9 h).trans (dY Ī))))};exact ba.of (.cons (d18.same (dY s9')) (.cons (d28.same (dY s9')) .nil))
end
section
variable{P:Program}{w:QD}{K:Qx}{mg:Str->Option Qt}{base:QN}{A:Ì}{N:Nat->Str}
seal PE PA PS č PT PW
def Ĕ(kn:Nat->Int):Pt->Int×Int
 | .iff _ _ _ _ f o=>(cB kn f,cB kn o)
 | .loop _ _ _ _ _ b=>(cB kn b,0)
 |_=>(0,0)
inductive qQ(A:Ì)(d:Nat)(vs:List V)(H:Hp)(Q:VK)(Ã:XK):Prop
 |mk(N:Nat->Str)(X:Hp)(v:V)(D:Qs)(t:Pt)(idx:List Nat)(kn:Nat->Int):vs=[v,.ref D]->ai X H->aN A N X v t->dep t<=d->è idx t->ĉ t->(lR N H D idx λi=>.int (kn i))->t.ci=11\/t.ci=12->(∀(a:Qs)(H':Hp),ai H H'->H' a=Wv (.tup [.int (Ĕ kn t).1,.int (Ĕ kn t).2])->Q (.ref a) H')->qQ A d vs H Q Ã
theorem sY(T:Txt K mg A)(d j:Nat)(P8:T.jv.Hz P w base j (Š (ja A) d)):T.nh.Hz P w base (j+1) (qQ A d):=by
 refine T.nh.hs (k:=j) zO (λf Ä A' outer s H vs Q E' hr hu h=>?_);obtain⟨N,X,v,D,t,idx,kn,rfl,s0,pa,dp,ck,lo,hD,hc,q⟩:=h;refine⟨_,(af (aP (aQ (Ê aI T.ax (fv 0^aO T.aS.mg^ae)) (λ_=>rfl))
   (ag (aE (bj ((ao (hj:=by lia) P8 hr (aq (fv 0) rfl^fv 1^ae))^(ao (hj:=by lia) P8 hr (aq (fv 0) rfl^fv 1^ae))^ae))))
   aJ)
  (ag (aE (bj ((ao (hj:=by lia) P8 hr (aq (fv 0) rfl^fv 1^ae))^aj^ae))))),?_⟩
 refine ah λM1 K1=>?_;cases t with
 |leaf n r=>exact absurd hc (by cases r<;>simp[Pt.ci,Lr.ci])
 |bf _ _ _ _=>exact absurd hc (by simp[Pt.ci])
 |iff n val l r fs os=>
  refine cq T s0 pa (j:=11) rfl (bo ?_);unfold aN at pa;obtain⟨a,dx,p,pf,po,xf,xo,rfl,h1,h2,h3,h4,h5,h6⟩:=pa;unfold dep at dp;unfold è at ck;unfold ĉ at lo;cases d with
  |zero=>lia
  |succ d=>
  refine Á (s0 _ _ h1) T.aS.cl T.bX rfl {N,X,pf,D,xf,fs,idx,kn,rfl,s0,h3,h5,(),ck.1,lo.1,lo.2.2.1,hD,λH1 s1=>?_};have sX:=s0.trans s1;exact Á (sX _ _ h1) T.aS.cl T.bZ rfl {N,X,po,D,xo,os,idx,kn,rfl,sX,h4,h6,(),ck.2,lo.2.1,lo.2.2.2,hD.same s1,λH2 s2=>{by show 2<=sizeLine;decide,λt ht=>q t _ ((s1.trans s2).trans (ai.upd ht _)) av}}
 |loop n th m l r b=>
  refine bz T s0 pa (j:=11) (by simp[Pt.ci]) (aT (K1 _ _ ?_));clear K1 M1;unfold aN at pa;obtain⟨a,dx,pb,xb,rfl,h1,h2,h3⟩:=pa;unfold dep at dp;unfold è at ck;unfold ĉ at lo;cases d with
  |zero=>lia
  |succ d=>
  exact Á (s0 _ _ h1) T.aM.cl T.bM rfl {N,X,pb,D,xb,b,idx,kn,rfl,s0,h2,h3,(),ck.2.2,lo.1,lo.2,hD,λH1 s1=>{by show 2<=sizeLine;decide,λt ht=>q t _ (s1.trans (ai.upd ht _)) av}}
theorem Cj(T:Txt K mg A)(d j:Nat)(P9:T.nh.Hz P w base j (qQ A d)):T.jv.Hz P w base (j+1) (ja A d):=by
 refine T.jv.hs (k:=j) cM (λf Ä A' outer s H vs Q E' hr hu h=>?_);obtain⟨N,X,L,D,xs,ts,idx,kn,rfl,s0,hL,pt,dp,ck,ln,lo,hD,q⟩:=h;refine⟨_,(af (Å 2 cM.nd aj)
  (af (bG Qz rfl (bu (fv 0)) (Ó (i:=3) cM.nd rfl)
   (af (Å 2 cM.nd (aG aW (fv 2) aj))
   (af (aP (aQ (Ê aI T.ax (fv 3^aO T.bh.mg^ae)) (λ_=>rfl))
    (ag (Å 2 cM.nd (aG aW (fv 2) (px hu (fv 1) (aq (fv 3) rfl)))))
    aJ)
   (ag (aP (PW.pt (pw_or (aQ (Ê aI T.ax (fv 3^aO T.aS.mg^ae)) (λ_=>rfl)) (pw_or1 (aQ (Ê aI T.ax (fv 3^aO T.aM.mg^ae)) (λ_=>rfl)))))
    (af (cx (ao (hj:=by lia) P9 hr (fv 3^fv 1^ae)) (j3 rfl (bI (Ó (i:=4) cM.nd rfl) (bI (Ó (i:=5) cM.nd rfl) hV))))
    (af (Å 6 cM.nd (Aa (aQ (Ê aI T.ax (fv 3^aO T.aM.mg^ae)) (λ_=>rfl)) (aq (fv 3) rfl) aj))
    (ag (Å 2 cM.nd (aG aW (fv 2) (aG lO (fv 6) (Ê wW T.qB (aG aW (fv 4) (aq (fv 3) rfl)^aG aW (fv 5) (aq (fv 3) rfl)^ae))))))))
    aJ)))))
  (ag (aE (fv 2))))),?_⟩
 refine NI {{_,À.of (s0 _ _ hL)},bw (K:=K) (xs:=xs) (λi B Hc=>ai H Hc/\∃v3 v4 v5 v6:Option V,B=[Wv (.ref L),Wv (.ref D),Wv (.int ((ts.map (Ą kn)).take i).sum),v3,v4,v5,v6]) {ai.refl _,Ww,Ww,Ww,Ww,rfl} (λi B Hc _ h=>À.of ((s0.trans h.1) _ _ hL)) ?_ ?_}
 ·rintro i v B Hc hv ⟨sc,v3,v4,v5,v6,rfl⟩;obtain⟨t,ht,pa⟩:=pt.get hv;have mt:t∈ts:=NO ht;have sX:=s0.trans sc;have hm:(ts.map (Ą kn))[i]?=Wv (Ą kn t):=by rw[NX,ht];rfl
  have es:((ts.map (Ą kn)).take (i+1)).sum=((ts.map (Ą kn)).take i).sum+Ą kn t:=by rw[WG hm,List.sum_append];simp
  rw[es];generalize ((ts.map (Ą kn)).take i).sum=S;have fin:∀(z:Int)(He:Hp)(w4 w5 w6:Option V),ai Hc He->z=S+Ą kn t->(ai H He/\∃v3 v4 v5 v6:Option V,[Wv (V.ref L),Wv (.ref D),Wv (.int z),Wv v,w4,w5,w6]=[Wv (.ref L),Wv (.ref D),Wv (.int (S+Ą kn t)),v3,v4,v5,v6]):=λz He w4 w5 w6 se e=>{sc.trans se,Wv v,w4,w5,w6,by subst e;rfl};have Δ:=mY ck mt;have lot:=qv lo mt;have ŝ:=NU (jr mt) dp;have hD1:=hD.same sc;clear es hm hv ht q hL pt ln lo ck dp;rfl'
  refine ah λM1 K1=>K1 _ _ ?_;clear K1 M1;rfl'
  refine ah λM1 K1=>?_;by_cases c9:t.ci=9
  ·refine cq T sX pa c9 (bo ?_);cases t with
   |leaf n r=>
    cases r with
    |call ci ts'=>
     have û:=pa;unfold aN at û;obtain⟨a,dx,p,rfl,h1,_⟩:=û;unfold è at Δ;obtain⟨kvs,e1,e2⟩:=hD1;exact Á (sX _ _ h1) T.bh.cl T.cn rfl (î e1 (e2 ci Δ) (K1 _ _ (bz T sX pa (j:=11) (by simp[Pt.ci,Lr.ci]) (aT (bz T sX pa (j:=12) (by simp[Pt.ci,Lr.ci]) (aT (fin _ _ _ _ _ (ai.refl _) (by unfold Ą;lia))))))))
    |_=>cases c9
   |_=>cases c9
  refine bz T sX pa c9 (aT (K1 _ _ ?_));clear K1 M1;by_cases ß:t.ci=11
  ·refine cq T sX pa ß (bo (bo (ah λM1 K1=>{N,X,v,D,t,idx,kn,rfl,sX,pa,ŝ,Δ,lot,hD1,.inl ß,λu H1 s1 eu=>{u,_,rfl,Ò.of eu,rfl,_,_,rfl,_,_,rfl,rfl,K1 _ _ ?_}})));clear K1 M1;have s2:=sX.trans s1;rfl'
   refine ah λM1 K1=>bz T s2 pa (j:=12) () (aT (K1 _ _ ?_));clear K1 M1;cases t with
   |leaf n r=>cases r<;>cases ß
   |loop _ _ _ _ _ _=>cases ß
   |bf _ _ _ _=>cases ß
   |iff n val l r fs os=>
   unfold aN at pa;obtain⟨a,dx,p,pf,po,xf,xo,rfl,h1,h2,h3,h4,h5,h6⟩:=pa;refine Á (s2 _ _ h1) T.aS.cl T.dJ rfl (Á (s2 _ _ h1) T.aS.cl T.dS rfl {_,_,rfl,{oH () (),fin _ _ _ _ _ s1 ?_}});unfold Ą;show S+1+1*mx (cB kn fs+l) (cB kn os+r)=S+(1+mx (l+cB kn fs) (r+cB kn os));rw[Pn l,Pn r];lia
  refine bz T sX pa ß (aT ?_);by_cases ä:t.ci=12
  ·refine cq T sX pa ä (bo (ah λM1 K1=>{N,X,v,D,t,idx,kn,rfl,sX,pa,ŝ,Δ,lot,hD1,.inr ä,λu H1 s1 eu=>{u,_,rfl,Ò.of eu,rfl,_,_,rfl,_,_,rfl,rfl,K1 _ _ ?_}}));clear K1 M1;have s2:=sX.trans s1;rfl'
   refine ah λM1 K1=>?_;cases t with
   |leaf n r=>cases r<;>cases ä
   |iff _ _ _ _ _ _=>cases ä
   |bf _ _ _ _=>cases ä
   |loop n th m l r b=>
   refine cq T s2 pa (j:=12) rfl (bo ?_);unfold aN at pa;obtain⟨a,dx,pb,xb,rfl,h1,h2,h3⟩:=pa;refine Á (s2 _ _ h1) T.aM.cl T.dq rfl (K1 _ _ ?_);clear K1 M1;unfold è at Δ;refine Á (s2 _ _ h1) T.aM.cl T.dj rfl (Á (s2 _ _ h1) T.aM.cl T.cu rfl {_,_,rfl,{oH () (),fin _ _ _ _ _ s1 ?_}});unfold Ą;show S+1+m*mx (cB kn b+l) (0+r)=S+(1+m*mx (l+cB kn b) r);rw[Pn l,O8];lia
  refine bz T sX pa ä (aT (fin _ _ _ _ _ (ai.refl _) ?_));have e:Ą kn t=1:=by
   cases t with
   |leaf n r=>
    cases r with
    |call i ts=>exact absurd rfl c9
    |_=>simp[Ą]
   |iff _ _ _ _ _ _=>exact absurd rfl ß
   |loop _ _ _ _ _ _=>exact absurd rfl ä
   |bf _ _ _ _=>rw[Ą]
  lia
 rintro B Hc ⟨sc,v3,v4,v5,v6,rfl⟩;have e:((ts.map (Ą kn)).take xs.length).sum=cB kn ts:=by rw[vq,pt.len,<-NH (f:=Ą kn),N0]
 rw[e];exact q _ sc
theorem Gm(T:Txt K mg A):∀d,T.jv.Hz P w base (2*d+3) (ja A d)
 |0=>Cj T 0 2 (sY T 0 1 (T.jv.hs (k:=0) cM (λ_ _ _ _ _ _ _ _ _ _ _ h=>h.elim) (λ_ _ _ _ h=>h.elim)))
 |d+1=>Cj T (d+1) (2*d+4) (sY T (d+1) (2*d+3) (Gm T d))
theorem GH(T:Txt K mg A)(d:Nat):T.rT.Hz P w base (2*d+4) (uf A d):=by
 refine T.rT.hs (k:=2*d+3) lL (λf Ä A' outer s H vs Q E' hr hu h=>?_);obtain⟨N,X,v,hs,ds,ms,rfl,s0,⟨a,dx,n0,n1,n2,x0,x1,x2,rfl,ha,e0,e1,e2,p0,p1,p2⟩,O,lo,q⟩:=h;refine⟨_,(af (Å 1 lL.nd (nH))
  (af (bG Qz rfl (bu (aq (fv 0) rfl)) (Ó (i:=2) lL.nd rfl)
   (ag (cx (ao (hj:=by lia) (Gm T d) hr (aq (fv 2) rfl^fv 1^ae)) (cY (fv 1) (aq (fv 2) rfl) (dU hu Wy)))))
  (ag (aE (fv 1))))),?_⟩
 refine ah λM1 K1 D hD=>?_;obtain⟨s1,eD⟩:=Ñ hD (HO.dK []);generalize upd H D _=H1 at s1 eD⊢;refine K1 _ _ ?_;clear K1 M1;rfl'
 refine ah λM1 K1=>Á ((s0.trans s1) _ _ ha) T.bc.cl T.br rfl (NI {{_,À.of ((s0.trans s1) _ _ e1)},bw (K:=K) (xs:=x1) (λi B Hc=>∃(v2:Option V)(kvs:List (Key×V)),B=[Wv (.ref a),Wv (.ref D),v2]/\ai H Hc/\Hc D=Wv (.dK kvs)/\kvs.length<=i/\∀k∈(ds.take i).map ð,L2.cc kvs (.inr (N k))=Wv (.int (õ cB 0 (ds.take i) k))) {Ww,[],rfl,s1,eD,NM _,by simp} (λi B Hc _ ⟨_,_,_,z,_⟩=>À.of ((s0.trans z) _ _ e1)) ?_ ?_})
 ·rintro i v B Hc hv ⟨v2,kvs,rfl,sc,ĭ,kl,hk⟩;obtain⟨t,ht,pa⟩:=p1.get hv;have mt:t∈ds:=NO ht;have il:i<ds.length:=(NW.mp ht).1;have dt:=O.bf t mt;have st:=xF cB 0 V.int O ht hk;have ln:=O.ln;cases t with
  |bf n i' ps b=>
   have û:=pa;unfold aN at û;obtain⟨a',Ų,pp,pb,xb,rfl,h1,h2,h3,h4⟩:=û;have sX:=s0.trans sc;refine Á (sX _ _ h1) T.a8.cl T.bW rfl {N,X,pb,D,xb,b,(ds.take i).map ð,õ cB 0 (ds.take i),rfl,sX,h3,h4,O.dp _ mt,O.ck i _ ht,(lo _ mt).1,(lo _ mt).2,⟨kvs,ĭ,hk⟩,λHe se=>Á ((sX.trans se) _ _ h1) T.a8.cl T.b4 rfl {_,gI.k (k:=.inr (N i')) (se _ _ ĭ) (aL ()),{_,_,rfl,ai.out (sc.trans se) hD _,av,?_,st}}};have:(WD kvs (.inr (N i')) (.int (cB (õ cB 0 (ds.take i)) b))).length<=kvs.length+1:=kL _ _ _;lia
  |_=>exact dt.elim
 rintro B Hc ⟨v2,kvs,rfl,sc,ĭ,kl,hk⟩;rw[show ds.take x1.length=ds by rw[p1.len];exact N0]at hk;exact K1 _ _ (q D Hc sc hD ⟨kvs,ĭ,hk⟩)
mutual
noncomputable def ü:Pt->List Pt
 | .iff n v l r f o=>.iff n v l r f o::(bJ f++bJ o)
 | .loop n t m l r b=>.loop n t m l r b::bJ b
 |_=>[]
noncomputable def bJ:List Pt->List Pt
 | []=>[]
 |t::ts=>ü t++bJ ts
end
theorem ux:∀as bs:List Pt,bJ (as++bs)=bJ as++bJ bs
 | [],bs=>by rw[OA,bJ];rfl
 |t::as,bs=>by rw[Pg,bJ,bJ,ux as bs,Oz]
theorem vU{ts:List Pt}{i:Nat}{t:Pt}(h:ts[i]?=Wv t):bJ (ts.take (i+1))=bJ (ts.take i)++ü t:=by
 rw[WG h,ux,bJ,bJ,Oi]
theorem Fj{ts:List Pt}{i:Nat}{t:Pt}(h:ts[i]?=Wv t):(bJ (ts.take i)).length+(ü t).length<=(bJ ts).length:=by
 rw[<-NG,<-vU h];have:=congrArg (λl=>(bJ l).length) (Ow (i+1) ts);rw[ux,NG]at this;lia
inductive ox(A:Ì)(d:Nat)(vs:List V)(H:Hp)(Q:VK)(Ã:XK):Prop
 |mk(N:Nat->Str)(X:Hp)(L:Qs)(xs:List V)(ts:List Pt):vs=[.ref L]->ai X H->X L=Wv (.lst xs)->ba A N X xs ts->ig ts<=d->(bJ ts).length<=900->(∀(R:Qs)(ys:List V)(H':Hp),ai H H'->H R=Ww->H' R=Wv (.lst ys)->Paired (λt y=>aN A N X y t) (bJ ts) ys->Q (.ref R) H')->ox A d vs H Q Ã
theorem wo(T:Txt K mg A)(d j:Nat)(P4:T.gQ.Hz P w base j (Š (ox A) d)):T.gQ.Hz P w base (j+1) (ox A d):=by
 refine T.gQ.hs (k:=j) ft (λf Ä A' outer s H vs Q E' hr hu h=>?_);obtain⟨N,X,L,xs,ts,rfl,s0,hL,pt,dp,ln,q⟩:=h;refine⟨_,(af (Å 1 ft.nd (aZ ae))
  (af (bG Qz rfl (bu (fv 0)) (Ó (i:=2) ft.nd rfl)
   (ag (aP (aQ (Ê aI T.ax (fv 2^aO T.aS.mg^ae)) (λ_=>rfl))
    (ag (Å 1 ft.nd (aG aW (aG aW (aG aW (fv 1) (aZ (fv 2^ae))) (ao (hj:=by lia) P4 hr (aq (fv 2) rfl^ae))) (ao (hj:=by lia) P4 hr (aq (fv 2) rfl^ae)))))
    (ag (aP (aQ (Ê aI T.ax (fv 2^aO T.aM.mg^ae)) (λ_=>rfl))
     (ag (Å 1 ft.nd (aG aW (aG aW (fv 1) (aZ (fv 2^ae))) (ao (hj:=by lia) P4 hr (aq (fv 2) rfl^ae)))))
     aJ)))))
  (ag (aE (fv 1))))),?_⟩
 refine ah λM1 K1=>{NS _,λR hR=>?_};obtain⟨s1,eR⟩:=Ñ hR (HO.lst []);generalize upd H R _=H1 at s1 eR⊢;refine K1 _ _ ?_;clear K1 M1;rfl'
 refine ah λM1 K1=>NI {{_,À.of ((s0.trans s1) _ _ hL)},bw (K:=K) (xs:=xs) (λi B Hc=>∃(F:Qs)(ys:List V)(v2:Option V),B=[Wv (.ref L),Wv (.ref F),v2]/\ai H Hc/\H F=Ww/\Hc F=Wv (.lst ys)/\Paired (λt y=>aN A N X y t) (bJ (ts.take i)) ys) {R,[],Ww,rfl,s1,hR,eR,by rw[O0,bJ];exact .nil} (λi B Hc _ ⟨_,_,_,_,z,_⟩=>À.of ((s0.trans z) _ _ hL)) ?_ ?_}
 ·rintro i v B Hc hv ⟨F,ys,v2,rfl,sc,hF,eF,py⟩;obtain⟨t,ht,pa⟩:=pt.get hv;have sX:=s0.trans sc;have mt:t∈ts:=NO ht;have ŝ:=NU (jr mt) dp;have ly:=Qy py;have lt:=Fj ht;rw[vU ht];clear hv ht mt hL eR q dp K1;have no:ü t=[]->∃(G:Qs)(ys:List V)(v2':Option V),[Wv (V.ref L),Wv (.ref F),Wv v]=[Wv (V.ref L),Wv (.ref G),v2']/\ai H Hc/\H G=Ww/\Hc G=Wv (.lst ys)/\Paired (λt y=>aN A N X y t) (bJ (ts.take i)++ü t) ys:=λe=>{F,ys,_,rfl,sc,hF,eF,by rw[e,Oi];exact py};cases t with
  |leaf n r=>
   exact bz T sX pa (j:=11) (by cases r<;>simp[Pt.ci,Lr.ci]) (aT (bz T sX pa (j:=12) (by cases r<;>simp[Pt.ci,Lr.ci]) (aT (no rfl))))
  |bf n i' ps b=>
   exact bz T sX pa (j:=11) (by simp[Pt.ci]) (aT (bz T sX pa (j:=12) (by simp[Pt.ci]) (aT (no rfl))))
  |iff n val l r fs os=>
   refine cq T sX pa (j:=11) rfl (bo {by show 1<=sizeLine;decide,λL1 Ŝ=>?_});obtain⟨s2,e2⟩:=Ñ Ŝ (HO.lst [v]);generalize upd Hc L1 _=H2 at s2 e2⊢;refine{F,L1,_,_,rfl,rfl,s2 _ _ eF,e2,sz (by simp;lia),λL2 hL2=>?_};obtain⟨s3,e3⟩:=Ñ hL2 (HO.lst (ys++[v]));generalize upd H2 L2 _=H3 at s3 e3⊢;have t3:=s2.trans s3;have h0:Hc L2=Ww:=ai.free s2 hL2;clear e2 Ŝ eF;have û:=pa;unfold aN at pa;unfold dep at ŝ;obtain⟨a,dx,p,pf,po,xf,xo,rfl,h1,h2,h3,h4,h5,h6⟩:=pa;have eb:ü (.iff n val l r fs os)=.iff n val l r fs os::(bJ fs++bJ os):=by rw[ü]
   rw[eb]at lt⊢;rw[N7,NG]at lt;cases d with
   |zero=>lia
   |succ d=>
   refine Á ((sX.trans t3) _ _ h1) T.aS.cl T.bX rfl {N,X,pf,xf,fs,rfl,sX.trans t3,h3,h5,(),(),λR4 y4 H4 s4 n4 e4 p4=>?_};have l4:=Qy p4;refine{L2,R4,_,_,rfl,rfl,s4 _ _ e3,e4,sz (by simp;lia),λL5 ĩ=>?_};obtain⟨s5,e5⟩:=Ñ ĩ (HO.lst (ys++[V.ref a]++y4));generalize upd H4 L5 _=H5 at s5 e5⊢;have t5:=(t3.trans s4).trans s5;have h5':Hc L5=Ww:=ai.free (t3.trans s4) ĩ;clear e3 e4 ĩ;refine Á ((sX.trans t5) _ _ h1) T.aS.cl T.bZ rfl {N,X,po,xo,os,rfl,sX.trans t5,h4,h6,(),(),λR6 y6 H6 s6 n6 e6 p6=>?_};have l6:=Qy p6;refine{L5,R6,_,_,rfl,rfl,s6 _ _ e5,e6,sz (by simp;lia),λL7 hL7=>{L7,_,_,rfl,(sc.trans (t5.trans s6)).trans (ai.upd hL7 _),ai.free (sc.trans (t5.trans s6)) hL7,av,?_}};have fin:=Paired.two py (.cons û (Paired.two p4 p6));rw[Oz,Oz];exact fin
  |loop n th m l r b=>
   refine bz T sX pa (j:=11) (by simp[Pt.ci]) (aT (cq T sX pa (j:=12) rfl (bo {by show 1<=sizeLine;decide,λL1 Ŝ=>?_})));obtain⟨s2,e2⟩:=Ñ Ŝ (HO.lst [v]);generalize upd Hc L1 _=H2 at s2 e2⊢;refine{F,L1,_,_,rfl,rfl,s2 _ _ eF,e2,sz (by simp;lia),λL2 hL2=>?_};obtain⟨s3,e3⟩:=Ñ hL2 (HO.lst (ys++[v]));generalize upd H2 L2 _=H3 at s3 e3⊢;have t3:=s2.trans s3;have h0:Hc L2=Ww:=ai.free s2 hL2;clear e2 Ŝ eF;have û:=pa;unfold aN at pa;unfold dep at ŝ;obtain⟨a,dx,pb,xb,rfl,h1,h2,h3⟩:=pa;have eb:ü (.loop n th m l r b)=.loop n th m l r b::bJ b:=by rw[ü]
   rw[eb]at lt⊢;rw[N7]at lt;cases d with
   |zero=>lia
   |succ d=>
   refine Á ((sX.trans t3) _ _ h1) T.aM.cl T.bM rfl {N,X,pb,xb,b,rfl,sX.trans t3,h2,h3,(),(),λR4 y4 H4 s4 n4 e4 p4=>?_};have l4:=Qy p4;refine{L2,R4,_,_,rfl,rfl,s4 _ _ e3,e4,sz (by simp;lia),λL5 ĩ=>{L5,_,_,rfl,(sc.trans (t3.trans s4)).trans (ai.upd ĩ _),ai.free (sc.trans (t3.trans s4)) ĩ,av,?_}};have fin:=Paired.two py (.cons û p4);rw[Oz];exact fin
 rintro B Hc ⟨F,ys,v2,rfl,sc,hF,eF,py⟩;rw[show ts.take xs.length=ts by rw[pt.len];exact N0]at py;exact K1 _ _ (q F ys Hc sc hF eF py)
theorem vx(T:Txt K mg A):∀d,T.gQ.Hz P w base (d+2) (ox A d)
 |0=>wo T 0 1 (T.gQ.hs (k:=0) ft (λ_ _ _ _ _ _ _ _ _ _ _ h=>h.elim) (λ_ _ _ _ h=>h.elim))
 |d+1=>wo T (d+1) (d+2) (vx T d)
def eZ(ds:List Pt):List Pt:=ds.flatMap λt=>bJ (d7 t)
inductive BZ(A:Ì)(d:Nat)(vs:List V)(H:Hp)(Q:VK)(Ã:XK):Prop
 |mk(N:Nat->Str)(X:Hp)(v:V)(hs ds ms:List Pt)(z0:vs=[v])(z1:ai X H)(z2:mB A N X v hs ds ms)(z3:vM N d ds)(z6:ig ms<=d)(z5:(eZ ds++bJ ms).length<=900)
  (z7:∀(R:Qs)(ys:List V)(H':Hp),ai H H'->H R=Ww->H' R=Wv (.lst ys)->Paired (λt y=>aN A N X y t) (eZ ds++bJ ms) ys->Q (.ref R) H'):BZ A d vs H Q Ã
theorem AD(T:Txt K mg A)(d:Nat):T.iU.Hz P w base (d+3) (BZ A d):=by
 refine T.iU.hs (k:=d+2) fC (λf Ä A' outer s H vs Q E' hr hu h=>?_);obtain⟨N,X,v,hs,ds,ms,rfl,s0,⟨a,dx,n0,n1,n2,x0,x1,x2,rfl,ha,e0,e1,e2,p0,p1,p2⟩,O,dm,ln,q⟩:=h;refine⟨_,(af (Å 1 fC.nd (aZ ae))
  (af (bG Qz rfl (bu (aq (fv 0) rfl)) (Ó (i:=2) fC.nd rfl)
   (ag (Å 1 fC.nd (aG aW (fv 1) (ao (hj:=by lia) (vx T d) hr (aq (fv 2) rfl^ae))))))
  (ag (aE (aG aW (fv 1) (ao (hj:=by lia) (vx T d) hr (aq (fv 0) rfl^ae))))))),?_⟩
 refine ah λM1 K1=>{NS _,λR hR=>?_};obtain⟨s1,eR⟩:=Ñ hR (HO.lst []);generalize upd H R _=H1 at s1 eR⊢;refine K1 _ _ ?_;clear K1 M1;rfl'
 refine ah λM1 K1=>Á ((s0.trans s1) _ _ ha) T.bc.cl T.br rfl (NI {{_,À.of ((s0.trans s1) _ _ e1)},bw (K:=K) (xs:=x1) (λi B Hc=>∃(F:Qs)(ys:List V)(v2:Option V),B=[Wv (.ref a),Wv (.ref F),v2]/\ai H Hc/\H F=Ww/\Hc F=Wv (.lst ys)/\Paired (λt y=>aN A N X y t) (eZ (ds.take i)) ys) {R,[],Ww,rfl,s1,hR,eR,.nil} (λi B Hc _ ⟨_,_,_,_,z,_⟩=>À.of ((s0.trans z) _ _ e1)) ?_ ?_})
 ·rintro i v B Hc hv ⟨F,ys,v2,rfl,sc,hF,eF,py⟩;obtain⟨t,ht,pa⟩:=p1.get hv;have mt:t∈ds:=NO ht;have dt:=O.bf t mt;have ly:=Qy py;have tk:eZ (ds.take (i+1))=eZ (ds.take i)++bJ (d7 t):=by
   rw[WG ht];unfold eZ;rw[Pj,List.flatMap_singleton]
  have lt:(eZ (ds.take (i+1))).length<=(eZ ds).length:=by
   have:=congrArg (λl=>(eZ l).length) (Ow (i+1) ds);unfold eZ at this⊢;rw[Pj,NG]at this;lia
  rw[tk,NG]at lt;rw[NG]at ln;rw[tk];have ŝ:=O.dp t mt;clear tk q K1 hv ht eR hR;cases t with
  |bf n i' ps b=>
   unfold aN at pa;obtain⟨a',Ų,pp,pb,xb,rfl,h1,h2,h3,h4⟩:=pa;have sX:=s0.trans sc;change (eZ (ds.take i)).length+(bJ b).length<=_ at lt;refine Á (sX _ _ h1) T.a8.cl T.bW rfl {N,X,pb,xb,b,rfl,sX,h3,h4,ŝ,(),λR4 y4 H4 s4 n4 e4 p4=>?_};have l4:=Qy p4;exact{F,R4,_,_,rfl,rfl,s4 _ _ eF,e4,sz (),λL5 ĩ=>{L5,_,_,rfl,(sc.trans s4).trans (ai.upd ĩ _),ai.free (sc.trans s4) ĩ,av,Paired.two py p4}}
  |_=>exact dt.elim
 rintro B Hc ⟨F,ys,v2,rfl,sc,hF,eF,py⟩;rw[show ds.take x1.length=ds by rw[p1.len];exact N0]at py;refine K1 _ _ ?_;clear K1 M1;have ly:=Qy py;rw[NG]at ln;have sX:=s0.trans sc;refine Á (sX _ _ ha) T.bc.cl T.dh rfl {N,X,n2,x2,ms,rfl,sX,e2,p2,dm,(),λR4 y4 H4 s4 n4 e4 p4=>?_};have l4:=Qy p4;exact{F,R4,_,_,rfl,rfl,s4 _ _ eF,e4,sz (),λL5 ĩ=>q L5 _ _ ((sc.trans s4).trans (ai.upd ĩ _)) (ai.free (sc.trans s4) ĩ) av (Paired.two py p4)}
end
section
variable{N:Nat->Str}
structure OkG(N:Nat->Str)(d:Nat)(hs ds ms:List Pt):Prop where
 ok:Ok N d hs ds ms
 dk:vM N d ds
 nn:(ds.map (ó N)).Nodup
 pn:∀p∈ds,(Ĥ N p).length<=100
 k5:∀e∈bC N ds ms,k5 e.1=true
 lo:∀e∈bC N ds ms,lOk e.1 e.2.2
 cal:∀e∈bC N ds ms,vP N (ć N ds) (ds.map (ó N)) e.1
 ck:∀e∈bC N ds ms,è (ds.map ð) e.1/\dep e.1<=d
 ll:(dQ N false ds ms).length<=800
 fr:∀l∈dQ N false ds ms,l.fr∈a9 N hs ds ms
 to:∀l∈dQ N false ds ms,l.to∈a9 N hs ds ms
 rk:∀s∈jc N hs,s.2=0\/s.2=1\/s.2=2
 sn:((jc N hs).map (·.1)).Nodup
 ss:∀s∈jc N hs,s.1∈a9 N hs ds ms
 ab:(bC N ds ms).length<64
 hd:∀p∈hs,Ja p=true
 db:∀p∈ds,(d7 p).length<=900/\lI (d7 p)/\mJ (d7 p)/\iB (ds.map ð) (d7 p)
 ml:ms.length<=900
 mlo:lI ms
 mk5:mJ ms
 mck:iB (ds.map ð) ms
theorem vW(N:Nat->Str)(ds:List Pt):∀es:List Le,(es.flatMap (rN N true ds)).length<=(es.flatMap (rN N false ds)).length+es.length
 | []=>NM _
 |e::es=>by
  have h1:=vW N ds es;have h2:=EF (õ eJ Ww ds) e.1;rw[OE,OE,NG,NG,N7];have e1:(rN N true ds e).length=(uF N (ć N ds) e.1 e.2.1 e.2.2).length+(tY (õ eJ Ww ds) e.1).length:=NG;have e2:(rN N false ds e).length=(uF N (ć N ds) e.1 e.2.1 e.2.2).length+0:=NG;lia
theorem yN{hs ds ms:List Pt}:("the clock":Str)∈a9 N hs ds ms:=NR _ NL
theorem AF{hs ds ms:List Pt}{e:Le}(h:e∈bC N ds ms)(p:oQ e.1=true):bp e.1.no∈a9 N hs ds ms:=
 N3 _ (NR _ (N4.mpr {e,Og.mpr ⟨h,p⟩,rfl}))
theorem AG{hs ds ms:List Pt}(f:∀l∈dQ N false ds ms,l.fr∈a9 N hs ds ms/\l.to∈a9 N hs ds ms):∀b,∀l∈dQ N b ds ms,l.fr∈a9 N hs ds ms/\l.to∈a9 N hs ds ms:=λb l h=>by
 obtain⟨e,m,h⟩:=Oy.mp h;rcases NQ.mp h with h|h
 ·exact f l (Oy.mpr {e,m,N3 _ h})
 unfold GD at h;split at h
 ·unfold tY at h;split at h
  ·next c=>
   rw[NF.mp h];refine{yN,AF m ?_};unfold Bu at c;unfold oQ;rw[c];simp
  split at h
  ·next c=>
   rw[NF.mp h];refine{AF m ?_,yN};have c:=c.1;unfold Ai at c;unfold oQ;rcases Om.mp c with c|c<;>rw[c]<;>simp
  cases h
 cases h
theorem OkG.e{d:Nat}{hs ds ms:List Pt}(G:OkG N d hs ds ms):OkE N d hs ds ms:=by
 have en:=AG (hs:=hs) λl h=>⟨G.fr l h,G.to l h⟩;have ll:∀b,(dQ N b ds ms).length<=900:=λb=>by
  have h1:=G.ll;have h2:=G.ab;have h3:=vW N ds (bC N ds ms);unfold dQ at h1⊢;cases b with
  |false=>lia
  |true=>lia
 have l:OkL N d hs ds ms:=⟨G.ok,G.dk,G.nn,G.pn,G.k5,G.lo,G.cal,ll,G.ck⟩;refine{{{l,λb l h=>(en b l h).1,λb l h=>(en b l h).2,G.rk,G.sn,G.ss},G.ck,λfl=>?_},G.hd,G.db,G.ml,G.mlo,G.mk5,G.mck};have h1:(ug N hs ds ms fl).length<=(bC N ds ms).length:=Ou _ _;have h2:=G.ab;lia
mutual
theorem Km(ab:Int->Bool)(kn:Nat->Int):∀t,dep (Î ab kn t)=dep t
 | .leaf _ _=>by rw[Î]
 | .bf _ _ _ _=>by rw[Î,dep,dep]
 | .iff n v l r f o=>by rw[Î,dep,dep,oM ab kn f,oM ab kn o]
 | .loop n t m l r b=>by rw[Î,dep,dep,oM ab kn b]
theorem oM(ab:Int->Bool)(kn:Nat->Int):∀ts,ig (eK ab kn ts)=ig ts
 | []=>by rw[eK]
 |t::ts=>by rw[eK,ig,ig,Km ab kn t,oM ab kn ts]
end
mutual
theorem JH{idx:List Nat}(ab:Int->Bool)(kn:Nat->Int):∀t,è idx t->è idx (Î ab kn t)
 | .leaf _ _,h=>by rw[Î];exact h
 | .bf _ _ _ _,h=>by rw[Î];unfold è;exact NY
 | .iff n v l r f o,h=>by
  unfold è at h;rw[Î];unfold è;exact⟨qm ab kn f h.1,qm ab kn o h.2⟩
 | .loop n t m l r b,h=>by
  unfold è at h;rw[Î];unfold è;exact⟨h.1,h.2.1,qm ab kn b h.2.2⟩
theorem qm{idx:List Nat}(ab:Int->Bool)(kn:Nat->Int):∀ts,iB idx ts->iB idx (eK ab kn ts)
 | [],_=>by rw[eK];unfold iB;exact NY
 |t::ts,h=>by
  unfold iB at h;rw[eK];unfold iB;exact⟨JH ab kn t h.1,qm ab kn ts h.2⟩
end
theorem Md(ab:Int->Bool)(kn:Nat->Int):∀t,(Î ab kn t).no=t.no
 | .leaf _ _=>by rw[Î]
 | .bf _ _ _ _=>by rw[Î];rfl
 | .iff _ _ _ _ _ _=>by rw[Î];rfl
 | .loop _ _ _ _ _ _=>by rw[Î];rfl
theorem qk(ab:Int->Bool)(kn:Nat->Int):∀t,d7 (Î ab kn t)=eK ab kn (d7 t)
 | .leaf _ _=>by rw[Î];show[]=eK ab kn [];rw[eK]
 | .bf _ _ _ _=>by rw[Î];rfl
 | .iff _ _ _ _ _ _=>by rw[Î];show[]=eK ab kn [];rw[eK]
 | .loop _ _ _ _ _ _=>by rw[Î];show[]=eK ab kn [];rw[eK]
theorem DL(ab:Int->Bool)(kn:Nat->Int):∀t,uD t->uD (Î ab kn t)
 | .bf _ _ _ _,_=>by rw[Î];exact NY
 | .leaf _ _,h=>h.elim
 | .iff _ _ _ _ _ _,h=>h.elim
 | .loop _ _ _ _ _ _,h=>h.elim
mutual
theorem Ki(ab:Int->Bool)(kn:Nat->Int):∀t,ü (Î ab kn t)=(ü t).map (Î ab kn)
 | .leaf _ _=>by rw[Î];rfl
 | .bf _ _ _ _=>by rw[Î];rfl
 | .iff n v l r f o=>by
  rw[Î,ü,ü,oA ab kn f,oA ab kn o,N9,Oc,Î]
 | .loop n t m l r b=>by
  rw[Î,ü,ü,oA ab kn b,N9,Î]
theorem oA(ab:Int->Bool)(kn:Nat->Int):∀ts,bJ (eK ab kn ts)=(bJ ts).map (Î ab kn)
 | []=>by rw[eK,bJ];rfl
 |t::ts=>by rw[eK,bJ,bJ,Ki ab kn t,oA ab kn ts,Oc]
end
end
section
variable{N:Nat->Str}{E:En}{kn:Nat}
mutual
theorem rw_k5r:∀r:Rw,ĝ r.pt
 | .set _ _ _=>by rw[Rw.pt];unfold ĝ;rfl
 | .put _ _ _ _=>by rw[Rw.pt];unfold ĝ;rfl
 | .snd _ _ _=>by rw[Rw.pt];unfold ĝ;rfl
 | .say _ _ _ _=>by rw[Rw.pt];unfold ĝ;rfl
 | .last _=>by rw[Rw.pt];unfold ĝ;rfl
 | .call _ _ _=>by rw[Rw.pt];unfold ĝ;rfl
 | .iff _ _ f o _ _=>by rw[Rw.pt];unfold ĝ;exact⟨hG f,hG o⟩
 | .loop _ _ _ b _ _=>by rw[Rw.pt];unfold ĝ;exact hG b
theorem hG:∀rs:List Rw,mJ (Ç rs)
 | []=>by rw[Ç];unfold mJ;exact NY
 |r::rs=>by rw[Ç];unfold mJ;exact⟨rw_k5r r,hG rs⟩
end
mutual
theorem I0:∀(t:Pt)(lp:Option Str),ĝ t->∀e∈bA lp t,k5 e.1=true
 | .leaf _ _,_,_,e,m=>by rw[bA]at m;cases m
 | .bf _ _ _ _,_,_,e,m=>by rw[bA]at m;cases m
 | .iff n v l r f o,lp,h,e,m=>by
  unfold ĝ at h;rw[bA]at m;rcases NQ.mp m with m|m
  ·exact lE f _ _ h.1 e m
  exact lE o _ _ h.2 e m
 | .loop n t m' l r b,lp,h,e,m=>by
  unfold ĝ at h;rw[bA]at m;exact lE b _ _ h e m
theorem lE:∀(ts:List Pt)(pl lp:Option Str),mJ ts->∀e∈bB pl lp ts,k5 e.1=true
 | [],_,_,_,e,m=>by rw[bB]at m;cases m
 |t::ts,pl,lp,h,e,m=>by
  unfold mJ at h;rw[bB]at m;rcases NJ.mp m with rfl|m
  ·have h1:=h.1;cases t with
   |leaf n r=>unfold ĝ at h1;exact h1
   |bf=>unfold ĝ at h1;exact h1.elim
   |iff=>rfl
   |loop=>rfl
  rcases NQ.mp m with m|m
  ·exact I0 t lp h.1 e m
  exact lE ts pl lp h.2 e m
end
mutual
theorem HW:∀(r:Rw)(lp:Option Str),(bA lp r.pt).length+1=r.cnt
 | .set _ _ _,_=>by rw[Rw.pt,bA];rfl
 | .put _ _ _ _,_=>by rw[Rw.pt,bA];rfl
 | .snd _ _ _,_=>by rw[Rw.pt,bA];rfl
 | .say _ _ _ _,_=>by rw[Rw.pt,bA];rfl
 | .last _,_=>by rw[Rw.pt,bA];rfl
 | .call _ _ _,_=>by rw[Rw.pt,bA];rfl
 | .iff n _ f o _ _,lp=>by
  rw[Rw.pt,bA,NG,jQ f,jQ o,Rw.cnt,PZ]
 | .loop n _ _ b _ _,lp=>by
  rw[Rw.pt,bA,jQ b,Rw.cnt,PZ]
theorem jQ:∀(rs:List Rw)(pl lp:Option Str),(bB pl lp (Ç rs)).length=eN rs
 | [],_,_=>by rw[Ç,bB,eN];rfl
 |r::rs,pl,lp=>by
  have h1:=HW r lp;have h2:=jQ rs pl lp;rw[Ç,bB,eN,N7,NG,h2];lia
end
theorem BQ{r:Rw}{k:Nat}{a b:Int}{lp:Option Str}(h:Nr k a r b)(hl:0<k->lp.isSome=true):lOk r.pt lp:=by
 cases h with
 |last h=>exact λ_=>hl h
 |_=>rw[Rw.pt];exact λz=>absurd z (by simp[Pt.ci,Lr.ci])
mutual
theorem KU:∀(r:Rw)(k:Nat)(a b:Int)(lp:Option Str),Nr k a r b->(0<k->lp.isSome=true)->∀e∈bA lp r.pt,lOk e.1 e.2.2
 | .set _ _ _,_,_,_,_,_,_,e,m=>by rw[Rw.pt,bA]at m;cases m
 | .put _ _ _ _,_,_,_,_,_,_,e,m=>by rw[Rw.pt,bA]at m;cases m
 | .snd _ _ _,_,_,_,_,_,_,e,m=>by rw[Rw.pt,bA]at m;cases m
 | .say _ _ _ _,_,_,_,_,_,_,e,m=>by rw[Rw.pt,bA]at m;cases m
 | .last _,_,_,_,_,_,_,e,m=>by rw[Rw.pt,bA]at m;cases m
 | .call _ _ _,_,_,_,_,_,_,e,m=>by rw[Rw.pt,bA]at m;cases m
 | .iff n _ f o _ _,k,a,b,lp,h,hl,e,m=>by
  rw[Rw.pt,bA]at m;cases h with
  |iff h1 h2=>
  rcases NQ.mp m with m|m
  ·exact lT f k _ _ _ _ h1 hl e m
  exact lT o k _ _ _ _ h2 hl e m
 | .loop n _ _ b' _ _,k,a,b,lp,h,hl,e,m=>by
  rw[Rw.pt,bA]at m;cases h with
  |loop h=>exact lT b' (k+1) _ _ _ _ h (λ_=>rfl) e m
theorem lT:∀(rs:List Rw)(k:Nat)(a b:Int)(pl lp:Option Str),Ns k a rs b->(0<k->lp.isSome=true)->∀e∈bB pl lp (Ç rs),lOk e.1 e.2.2
 | [],_,_,_,_,_,_,_,e,m=>by rw[Ç,bB]at m;cases m
 |r::rs,k,a,b,pl,lp,h,hl,e,m=>by
  rw[Ç,bB]at m;cases h with
  |cons h1 h2=>
  rcases NJ.mp m with rfl|m
  ·exact BQ h1 hl
  rcases NQ.mp m with m|m
  ·exact KU r k _ _ lp h1 hl e m
  exact lT rs k _ _ pl lp h2 hl e m
end
theorem LQ{r:Rw}{k:Nat}{a b:Int}(h:Nr k a r b):r.pt.no=a:=by cases h<;>(rw[Rw.pt];rfl)
def Up(a b:Int)(ns:List Int):Prop:=ns.Pairwise (· < ·)/\∀x∈ns,a<=x/\x<b
theorem Up.cat{a b c:Int}{xs ys:List Int}(h1:Up a b xs)(h2:Up b c ys)(h:a<=b)(h':b<=c):Up a c (xs++ys):=
 ⟨List.pairwise_append.mpr {h1.1,h2.1,λx hx y hy=>by have:=(h1.2 x hx).2;have:=(h2.2 y hy).1;lia},λx hx=>by
  rcases NQ.mp hx with m|m
  ·have:=h1.2 x m;lia
  have:=h2.2 x m;lia⟩
theorem Up.wide{a b a' b':Int}{xs:List Int}(h:Up a b xs)(h1:a'<=a)(h2:b<=b'):Up a' b' xs:={h.1,λx hx=>by have:=h.2 x hx;lia}
theorem Up.nil{a b:Int}:Up a b []:={.nil,λ_ h=>absurd h NZ}
theorem Up.cons{a b:Int}{xs:List Int}(h:Up (a+1) b xs)(h':a<b):Up a b (a::xs):=⟨List.pairwise_cons.mpr {λx hx=>by have:=(h.2 x hx).1;lia,h.1},λx hx=>by
 rcases NJ.mp hx with rfl|m
 ·lia
 have:=h.2 x m;lia⟩
mutual
theorem MD:∀(r:Rw)(k:Nat)(a b:Int)(lp:Option Str),Nr k a r b->a<b/\b<=a+3*r.cnt/\Up (a+1) b ((bA lp r.pt).map λe=>e.1.no)
 | .set _ _ _,k,a,b,lp,h=>by cases h;rw[Rw.pt,bA];exact{(),by show _<=_+3*((1:Nat):Int);lia,.nil}
 | .put _ _ _ _,k,a,b,lp,h=>by cases h;rw[Rw.pt,bA];exact{(),by show _<=_+3*((1:Nat):Int);lia,.nil}
 | .snd _ _ _,k,a,b,lp,h=>by cases h;rw[Rw.pt,bA];exact{(),by show _<=_+3*((1:Nat):Int);lia,.nil}
 | .say _ _ _ _,k,a,b,lp,h=>by cases h;rw[Rw.pt,bA];exact{(),by show _<=_+3*((1:Nat):Int);lia,.nil}
 | .last _,k,a,b,lp,h=>by cases h;rw[Rw.pt,bA];exact{(),by show _<=_+3*((1:Nat):Int);lia,.nil}
 | .call _ _ _,k,a,b,lp,h=>by cases h;rw[Rw.pt,bA];exact{(),by show _<=_+3*((1:Nat):Int);lia,.nil}
 | .iff n _ f o _ _,k,a,b,lp,h=>by
  cases h with
  |iff h1 h2=>
  rw[Rw.pt,bA,Oc,Rw.cnt];obtain⟨a1,a2,a3⟩:=tW f k _ _ (Wv (bp n)) lp h1;obtain⟨b1,b2,b3⟩:=tW o k _ _ (Wv (bp n)) lp h2;exact{(),(),a3.cat (b3.wide () ()) () ()}
 | .loop n _ _ b' _ _,k,a,b,lp,h=>by
  cases h with
  |loop h=>
  rw[Rw.pt,bA,Rw.cnt];obtain⟨a1,a2,a3⟩:=tW b' (k+1) _ _ (Wv (bp n)) (Wv (bp n)) h;exact{(),(),a3.wide () ()}
theorem tW:∀(rs:List Rw)(k:Nat)(a b:Int)(pl lp:Option Str),Ns k a rs b->a<=b/\b<=a+3*eN rs/\Up a b ((bB pl lp (Ç rs)).map λe=>e.1.no)
 | [],k,a,b,pl,lp,h=>by cases h;rw[Ç,bB];exact{Int.le_refl _,(),.nil}
 |r::rs,k,a,b,pl,lp,h=>by
  cases h with
  |cons h1 h2=>
  rw[Ç,bB,eN,N9,Oc];obtain⟨a1,a2,a3⟩:=MD r k _ _ lp h1;obtain⟨b1,b2,b3⟩:=tW rs k _ _ pl lp h2;refine{(),(),?_};show Up a b (r.pt.no::_);rw[LQ h1];exact(a3.cat b3 () ()).cons ()
end
mutual
theorem Jp{idx:List Nat}(hi:∀i<kn,ñ i∈idx):∀(r:Rw)(d:Nat),Ē E kn d r->è idx r.pt/\dep r.pt<=d
 | .set _ _ _,d,_=>by rw[Rw.pt];unfold è dep;exact{NY,NS _}
 | .put _ _ _ _,d,_=>by rw[Rw.pt];unfold è dep;exact{NY,NS _}
 | .snd _ _ _,d,_=>by rw[Rw.pt];unfold è dep;exact{NY,NS _}
 | .say _ _ _ _,d,_=>by rw[Rw.pt];unfold è dep;exact{NY,NS _}
 | .last _,d,_=>by rw[Rw.pt];unfold è dep;exact{NY,NS _}
 | .call _ i ts,d,h=>by
  have h:i<kn/\ts.length=i+1/\∀t∈ts,t.ok E:=by cases d<;>exact h
  rw[Rw.pt];unfold è dep;exact{hi i h.1,NS _}
 | .iff n v f o l r,d,h=>by
  cases d with
  |zero=>exact(show False from h).elim
  |succ d=>
   obtain⟨_,_,_,_,_,w1,w2⟩:=h;obtain⟨a1,a2⟩:=iI hi f d w1;obtain⟨b1,b2⟩:=iI hi o d w2;rw[Rw.pt];unfold è dep;exact{⟨a1,b1⟩,()}
 | .loop n t m b l r,d,h=>by
  cases d with
  |zero=>exact(show False from h).elim
  |succ d=>
   obtain⟨_,m0,m1,_,_,_,w1⟩:=h;obtain⟨a1,a2⟩:=iI hi b d w1;rw[Rw.pt];unfold è dep;exact{⟨m0,m1,a1⟩,()}
theorem iI{idx:List Nat}(hi:∀i<kn,ñ i∈idx):∀(rs:List Rw)(d:Nat),(∀r∈rs,Ē E kn d r)->iB idx (Ç rs)/\ig (Ç rs)<=d
 | [],d,_=>by rw[Ç];unfold iB ig;exact{NY,NS _}
 |r::rs,d,h=>by
  obtain⟨a1,a2⟩:=Jp hi r d (h r NL);obtain⟨b1,b2⟩:=iI hi rs d λq m=>h q (NK _ m);rw[Ç];unfold iB ig;exact{⟨a1,b1⟩,()}
end
theorem fZ(rs:List Rw):(Ç rs).length=rs.length:=by rw[tq,NH]
mutual
theorem GB:∀r:Rw,r.cnt<=900->ĉ r.pt
 | .set _ _ _,_=>by rw[Rw.pt];unfold ĉ;exact NY
 | .put _ _ _ _,_=>by rw[Rw.pt];unfold ĉ;exact NY
 | .snd _ _ _,_=>by rw[Rw.pt];unfold ĉ;exact NY
 | .say _ _ _ _,_=>by rw[Rw.pt];unfold ĉ;exact NY
 | .last _,_=>by rw[Rw.pt];unfold ĉ;exact NY
 | .call _ _ _,_=>by rw[Rw.pt];unfold ĉ;exact NY
 | .iff _ _ f o _ _,h=>by
  rw[Rw.cnt]at h;have h1:=b7 f;have h2:=b7 o;rw[Rw.pt];unfold ĉ;rw[fZ,fZ];exact{(),(),js f (),js o ()}
 | .loop _ _ _ b _ _,h=>by
  rw[Rw.cnt]at h;have h1:=b7 b;rw[Rw.pt];unfold ĉ;rw[fZ];exact{(),js b ()}
theorem js:∀rs:List Rw,eN rs<=900->lI (Ç rs)
 | [],_=>by rw[Ç];unfold lI;exact NY
 |r::rs,h=>by
  rw[eN]at h;rw[Ç];unfold lI;exact{GB r (),js rs ()}
end
end
section
variable{N:Nat->Str}
def ϡ(x:Str):Prop:=∀c∈x.cps.toList,97<=c/\c<=122
theorem Cd{x:Str}(h:ϡ x)(lo hi:Option Int):ϡ (Txt.slice x lo hi):=λc hc=>h c (wu hc)
theorem CT{x y:Str}(h:ϡ x)(h2:ϡ y):ϡ (x++y):=λc hc=>by
 have e:(x++y).cps=x.cps++y.cps:=rfl;rw[e,Pk]at hc;rcases NQ.mp hc with q|q
 ·exact h c q
 exact h2 c q
theorem Iq{k:Int}(h0:0<=k)(h:k<26):ϡ ⟨#[jJ k]⟩:=λc hc=>by
 have e:c=jJ k:=by simpa using hc
 rw[e];unfold jJ;lia
theorem xt{k n:Int}(h0:0<=k)(h:k<26):ϡ (oV ⟨#[jJ k]⟩ n):=by
 by_cases hn:1<=n
 ·intro c hc;rw[qI _ hn]at hc;rw[Tr hc];unfold jJ;lia
 unfold oV;rw[if_pos ()];exact λc hc=>by cases hc
theorem E8(c:Int)(k:Nat):ϡ (Ś c k):=by
 unfold Ś;split
 ·have h:∀i:Fin 25,∀c∈(WI.getD i.val Q4).cps.toList,97<=c/\c<=122:=by decide+kernel
  have:=bH (c/4+k) (show(0:Int)<25 by decide);exact h {((c/4+k)%25).toNat,()}
 have h1:=bH (c/288) (show(0:Int)<26 by decide);have h2:=bH ((k:Int)+c/7488) (show(0:Int)<26 by decide);have h3:=bH (c/4+(k:Int)/8) (show(0:Int)<26 by decide);split
 ·exact xt h3.1 h3.2
 exact CT (CT (Cd (xt h1.1 h1.2) _ _) (Iq h2.1 h2.2)) (Cd (xt h1.1 h1.2) _ _)
theorem Co{x y:Str}(h:ϡ x)(m:32∈y.cps.toList):x≠y:=λe=>by
 have:=h 32 (e▸m);lia
theorem J7(n:Int):32∈(bp n).cps.toList:=by
 unfold bp;show 32∈(((Q4++("row ":Str)).cps++(Rh (toString n)).cps)).toList;rw[Pk];exact N3 _ ∅
theorem E5:32∈("the clock":Str).cps.toList:=∅
theorem xu(D:DJ N):∀{idx:List Nat},idx.Nodup->(∀i∈idx,i<18)->(idx.map N).Nodup
 | [],_,_=>PB
 |i::idx,h,b=>by
  rw[Oq]at h;rw[N9,Oq];refine{λm=>?_,xu D h.2 λj m=>b j (NK _ m)};obtain⟨j,mj,e⟩:=N4.mp m;exact h.1 (D j i (b j (NK _ mj)) (b i NL) e▸mj)
structure Dn(N:Nat->Str)(n:Int)(r1 r2 r3:List Rw):Prop where
 D:DJ N
 L:∀i,ϡ (N i)
 nu:∃k e,Ns 0 15 r1 (n-1)/\Ns 0 (n+1) r2 k/\Ns 0 (k+2) r3 e
 c1:eN r1<=3
 c2:eN r2<=3
 c3:eN r3<=36
variable{n c:Int}{r1 r2 r3:List Rw}
theorem yr(N:Nat->Str)(n:Int)(r1 r2 r3:List Rw):bC N (Þ n r1 r2) (Ç r3)=(bB (Wv (N 13)) Ww (Ç r1)++(bB (Wv (N 15)) Ww (Ç r2)++[]))++bB Ww Ww (Ç r3):=rfl
theorem Dn.up(h:Dn N n r1 r2 r3):Up 15 200 ((bC N (Þ n r1 r2) (Ç r3)).map λe=>e.1.no):=by
 obtain⟨k,e,n1,n2,n3⟩:=h.nu;have c1:=h.c1;have c2:=h.c2;have c3:=h.c3;obtain⟨a1,a2,a3⟩:=tW r1 0 _ _ (Wv (N 13)) Ww n1;obtain⟨b1,b2,b3⟩:=tW r2 0 _ _ (Wv (N 15)) Ww n2;obtain⟨d1,d2,d3⟩:=tW r3 0 _ _ Ww Ww n3;rw[yr,Oi,Oc,Oc];exact((a3.cat (b3.wide (a':=n-1) (b':=k) () ()) () ()).cat (d3.wide (a':=k) (b':=e) () ()) () ()).wide () ()
theorem Dn.len(h:Dn N n r1 r2 r3):(bC N (Þ n r1 r2) (Ç r3)).length<=42:=by
 have c1:=h.c1;have c2:=h.c2;have c3:=h.c3;rw[yr,Oi,NG,NG,jQ,jQ,jQ];lia
theorem Dn.nb(h:Dn N n r1 r2 r3):Nb (bC N (Þ n r1 r2) (Ç r3)):=λe m=>by
 have:=h.up.2 _ (Oe (f:=λe:Le=>e.1.no) m);lia
def plN:List Nat:=[2,3,4,5,6,7,8,9,10,11,12,13,14,15,16,17]
theorem rQ(N:Nat->Str)(n c:Int)(r1 r2 r3:List Rw):a9 N (eM c) (Þ n r1 r2) (Ç r3)=plN.map N++gM (bC N (Þ n r1 r2) (Ç r3))++[("the clock":Str)]:=rfl
theorem Dn.pl(h:Dn N n r1 r2 r3):(a9 N (eM c) (Þ n r1 r2) (Ç r3)).length<=900:=by
 have h1:=h.len;have h2:(gM (bC N (Þ n r1 r2) (Ç r3))).length<=(bC N (Þ n r1 r2) (Ç r3)).length:=by
  unfold gM;rw[NH];exact Ou _ _
 rw[rQ,NG,NG,NH];show 16+_+1<=900;lia
theorem Dn.nm(h:Dn N n r1 r2 r3){i:Nat}(hi:i∈plN):N i∈a9 N (eM c) (Þ n r1 r2) (Ç r3):=by
 rw[rQ];exact N3 _ (N3 _ (Oe hi))
theorem Dn.nd(h:Dn N n r1 r2 r3):(a9 N (eM c) (Þ n r1 r2) (Ç r3)).Nodup:=by
 have hn:=xu h.D (idx:=plN) ∅ ∅;have up:=h.up;have nb:=h.nb;rw[rQ];unfold gM;generalize bC N (Þ n r1 r2) (Ç r3)=es at up nb;have p1:((es.filter λe=>oQ e.1).map λe=>e.1.no).Pairwise (· < ·):=List.Pairwise.sublist (Pz.map _) up.1;have rw1:((es.filter λe=>oQ e.1).map λe=>bp e.1.no).Nodup:=by
  rw[OY]at p1;show List.Pairwise _ _;rw[OY];refine List.Pairwise.imp_of_mem (λ{a b} ha hb lt=>?_) p1;have na:=nb a (Og.mp ha).1;have nb':=nb b (Og.mp hb).1;intro z;have:=HX na.1 na.2 nb'.1 nb'.2 z;lia
 refine OF.mpr {OF.mpr {hn,rw1,λa ma b mb z=>?_},Oq.mpr ⟨NZ,PB⟩,λa ma b mb z=>?_}
 ·obtain⟨i,_,rfl⟩:=N4.mp ma;obtain⟨e,_,rfl⟩:=N4.mp mb;exact Co (h.L i) (J7 _) z
 rw[NF]at mb;rw[mb]at z;rcases NQ.mp ma with m|m
 ·obtain⟨i,_,rfl⟩:=N4.mp m;exact Co (h.L i) E5 z
 obtain⟨e,me,rfl⟩:=N4.mp m;have ne:=nb e (Og.mp me).1;exact Hv ne.1 ne.2 ∅ z
theorem FZ(N:Nat->Str)(c:Int):(jc N (eM c)).map (·.1)=[2,3,4,5,10,11,12].map N:=rfl
theorem Lf(N:Nat->Str)(c:Int):∀s∈jc N (eM c),s.2=0\/s.2=1\/s.2=2:=by
 have k:∀m:Int,m%3=0\/m%3=1\/m%3=2:=λm=>()
 have e:jc N (eM c)=[(N 2,c/9%3%3),(N 3,c/9%4%3),(N 4,c/9%5%3),(N 5,c/7%3),(N 10,c/5%10%3),(N 11,c/5%11%3),(N 12,c/5%12%3)]:=rfl;rw[e];intro s m;simp only[NJ,NZ,or_false]at m;rcases m with rfl|rfl|rfl|rfl|rfl|rfl|rfl<;>exact k _
end
section
variable{N:Nat->Str}{E:En}{kn:Nat}
theorem Gx{l:Lk}{fs:List (Option Str)}{into kd:Str}{n:Int}:l∈Ġ fs into kd n↔∃x,Wv x∈fs/\x≠into/\l=⟨x,into,kd,n⟩:=by
 unfold Ġ;rw[N4];constructor
 ·rintro⟨f,hf,rfl⟩;obtain⟨h1,h2⟩:=Og.mp hf;cases f with
  |none=>cases h2
  |some x=>exact{x,h1,(λe=>(by rw[show drP into (Wv x)=!decide (x=into)from rfl,decide_eq_true e]at h2;cases h2)),rfl}
 rintro⟨x,h1,h2,rfl⟩;exact{Wv x,Og.mpr {h1,by show(!decide (x=into))=true;rw[decide_eq_false h2];rfl},rfl}
theorem FO{x:Str}:∀(ts:List Th)(acc:List Str),x∈ts.foldl (Ě N) acc↔x∈acc\/∃a,Th.x a∈ts/\N a=x
 | [],acc=>by
  show x∈acc↔_;simp
 |t::ts,acc=>by
  rw[OG,FO ts];cases t with
  |i n=>
   show x∈acc\/_↔_;constructor
   ·rintro(h|⟨a,h,e⟩)
    ·exact .inl h
    exact .inr {a,NK _ h,e}
   rintro(h|⟨a,h,e⟩)
   ·exact .inl h
   rcases NJ.mp h with h|h
   ·cases h
   exact .inr ⟨a,h,e⟩
  |x b=>
   have m:x∈Ě N acc (.x b)↔x∈acc\/N b=x:=by
    show x∈(if N b∈acc then acc else acc++[N b])↔_;split
    ·next h=>exact{.inl,λz=>z.elim id λe=>e▸h}
    rw[NQ,NF];exact or_congr_right eq_comm
   rw[m];constructor
   ·rintro((h|h)|⟨a,h,e⟩)
    ·exact .inl h
    ·exact .inr ⟨b,NL,h⟩
    exact .inr {a,NK _ h,e}
   rintro(h|⟨a,h,e⟩)
   ·exact .inl (.inl h)
   rcases NJ.mp h with h|h
   ·cases h;exact .inl (.inr e)
   exact .inr ⟨a,h,e⟩
theorem G3{x:Str}{ts:List Th}:x∈Ý N ts↔∃a,Th.x a∈ts/\N a=x:=by
 unfold Ý;rw[FO];simp
theorem jO{P:Str->Prop}{fs:List (Option Str)}{into kd:Str}{n:Int}(h:∀x,Wv x∈fs->P x)(t:P into):∀l∈Ġ fs into kd n,P l.fr/\P l.to:=λl m=>by
 obtain⟨x,mx,_,rfl⟩:=Gx.mp m;exact⟨h x mx,t⟩
theorem tL{P:Lk->Prop}{as bs:List Lk}(h1:∀l∈as,P l)(h2:∀l∈bs,P l):∀l∈as++bs,P l:=λl m=>(NQ.mp m).elim (h1 l) (h2 l)
theorem qp{P:Str->Prop}{t:Pt}{into kd:Str}{pl:Option Str}(h:∀a,Th.x a∈Ĝ t->P (N a))(hp:∀q,pl=Wv q->P q)(hi:P into):∀l∈Ŕ N t into kd pl,P l.fr/\P l.to:=
 tL (jO (λx m=>by
  obtain⟨y,my,e⟩:=N4.mp m;obtain⟨a,ma,rfl⟩:=G3.mp my;exact QB e▸h a ma) hi) (jO (λx m=>hp x (NF.mp m).symm) hi)
theorem CL{P:Nat->Prop}(hE:∀i∈E.idx,P i){v:Val}(h:v.ok E):∀a,Th.x a∈ò v->P a:=λa m=>by
 have th:∀t:Th,t.ok E->Th.x a=t->P a:=λt o e=>by
  subst e;exact hE a o.1
 cases v with
 |one t=>exact th t h (NF.mp m)
 |op t w' u=>
  obtain⟨hu,ht⟩:=h;simp only[ò,NJ,NZ,or_false]at m;rcases m with m|m
  ·rcases ht with ht|⟨x,hx,rfl,_⟩
   ·exact th t ht.1 m
   cases m;exact hE _ (Og.mp hx).1
  exact th u hu m
theorem HZ{P:Str->Prop}{po:Str->List Str}(hE:∀i∈E.idx,P (N i))(hm:∀m,10<=m/\m<13->P (N m))(hc:∀i<kn,P (N (ñ i))/\∀x∈po (N (ñ i)),P x){r:Rw}{d k:Nat}{a b:Int}(w:Ē E kn d r)(nr:Nr k a r b){pl lp:Option Str}(hp:∀q,pl=Wv q->P q)(hl:∀q,lp=Wv q->P q)(lo:lOk r.pt lp)(hr:oQ r.pt=true->P (bp r.pt.no)):∀l∈uF N po r.pt pl lp,P l.fr/\P l.to:=by
 have one:∀{t:Th},t.ok E->∀a,Th.x a=t->P (N a):=λo a e=>by
  subst e;exact hE a o.1
 have Ϩ:∀x,Wv x∈[pl]->P x:=λx m=>hp x (NF.mp m).symm;cases r with
 |set n x v=>
  have w:x∈E.idx/\E.sz x=0/\v.ok E:=by cases d<;>exact w
  rw[Rw.pt];exact qp (CL (P:=λi=>P (N i)) hE w.2.2) hp (hE x w.1)
 |put n x p v=>
  have w:x∈E.idx/\0<E.sz x/\p.ok E/\v.ok E:=by cases d<;>exact w
  rw[Rw.pt];refine qp (λa m=>?_) hp (hE x w.1);rcases NJ.mp m with m|m
  ·exact one w.2.2.1 a m
  exact CL (P:=λi=>P (N i)) hE w.2.2.2 a m
 |snd n h v=>
  have w:v.ok E:=by cases d<;>exact w
  rw[Rw.pt]at hr⊢;exact qp (CL (P:=λi=>P (N i)) hE w) hp (hr rfl)
 |say n x v m=>
  have w:x∈E.idx/\E.sz x=0/\v.ok E:=by cases d<;>exact w
  rw[Rw.pt]at hr⊢;have wx:=hE x w.1;have hmm:10<=m/\m<13:=by cases nr with|say h=>exact h
  exact tL (tL (jO (λy my=>QB (NF.mp my)▸hm m hmm) wx) (jO Ϩ wx)) (jO Ϩ (hr rfl))
 |last n=>
  rw[Rw.pt]at lo⊢;have:=lo rfl;cases lp with
  |none=>cases this
  |some q=>exact jO Ϩ (hl q rfl)
 |call n i ts=>
  have w:i<kn/\ts.length=i+1/\∀t∈ts,t.ok E:=by cases d<;>exact w
  obtain⟨h1,h2⟩:=hc i w.1;rw[Rw.pt];refine tL (λl m=>?_) (λl m=>?_)
  ·obtain⟨tp,mt,m⟩:=Oy.mp m;have mz:=OX mt;obtain⟨t,y⟩:=tp;unfold xv at m;cases t with
   |i z=>cases m
   |x z=>exact jO (λy' my=>QB (NF.mp my)▸one (w.2.2 _ mz.1) z rfl) (h2 y mz.2) l m
  obtain⟨into,mi,m⟩:=Oy.mp m;refine jO Ϩ ?_ l m;rcases NQ.mp mi with mi|mi
  ·exact h2 into mi
  rw[NF.mp mi];exact h1
 |iff n v f o l r=>
  cases d with
  |zero=>exact(show False from w).elim
  |succ d=>
   rw[Rw.pt]at hr⊢;exact qp (CL (P:=λi=>P (N i)) hE w.1) hp (hr rfl)
 |loop n t m b l r=>
  cases d with
  |zero=>exact(show False from w).elim
  |succ d=>
   rw[Rw.pt]at hr⊢;refine qp (λa ma=>one w.1 a (NF.mp ma)) hp (hr rfl)
def IW(N:Nat->Str)(P:Str->Prop)(po:Str->List Str)(e:Le):Prop:=∀l∈uF N po e.1 e.2.1 e.2.2,P l.fr/\P l.to
mutual
theorem rw_end{P:Str->Prop}{po:Str->List Str}(hE:∀i∈E.idx,P (N i))(hm:∀m,10<=m/\m<13->P (N m))(hc:∀i<kn,P (N (ñ i))/\∀x∈po (N (ñ i)),P x):∀(r:Rw)(d k:Nat)(a b:Int)(lp:Option Str),Ē E kn d r->Nr k a r b->(0<k->lp.isSome=true)->(∀q,lp=Wv q->P q)->(oQ r.pt=true->P (bp r.pt.no))->(∀e∈bA lp r.pt,oQ e.1=true->P (bp e.1.no))->∀e∈bA lp r.pt,IW N P po e
 | .set _ _ _,_,_,_,_,_,_,_,_,_,_,_,e,m=>by rw[Rw.pt,bA]at m;cases m
 | .put _ _ _ _,_,_,_,_,_,_,_,_,_,_,_,e,m=>by rw[Rw.pt,bA]at m;cases m
 | .snd _ _ _,_,_,_,_,_,_,_,_,_,_,_,e,m=>by rw[Rw.pt,bA]at m;cases m
 | .say _ _ _ _,_,_,_,_,_,_,_,_,_,_,_,e,m=>by rw[Rw.pt,bA]at m;cases m
 | .last _,_,_,_,_,_,_,_,_,_,_,_,e,m=>by rw[Rw.pt,bA]at m;cases m
 | .call _ _ _,_,_,_,_,_,_,_,_,_,_,_,e,m=>by rw[Rw.pt,bA]at m;cases m
 | .iff n v f o l r,d,k,a,b,lp,w,nr,hk,hl,hr,Ŭ,e,m=>by
  cases d with
  |zero=>exact(show False from w).elim
  |succ d=>
   obtain⟨_,_,_,_,_,w1,w2⟩:=w;rw[Rw.pt]at hr;rw[Rw.pt,bA]at m Ŭ;cases nr with
   |iff h1 h2=>
   have hp:∀q,Wv (bp n)=Wv q->P q:=λq z=>QB z▸hr rfl;rcases NQ.mp m with m|m
   ·exact lH hE hm hc f d k _ _ _ lp w1 h1 hk hl hp (λe m=>Ŭ e (N3 _ m)) e m
   exact lH hE hm hc o d k _ _ _ lp w2 h2 hk hl hp (λe m=>Ŭ e (NR _ m)) e m
 | .loop n t m' b' l r,d,k,a,b,lp,w,nr,hk,hl,hr,Ŭ,e,m=>by
  cases d with
  |zero=>exact(show False from w).elim
  |succ d=>
   obtain⟨_,_,_,_,_,_,w1⟩:=w;rw[Rw.pt]at hr;rw[Rw.pt,bA]at m Ŭ;cases nr with
   |loop h=>
   have hp:∀q,Wv (bp n)=Wv q->P q:=λq z=>QB z▸hr rfl;exact lH hE hm hc b' d (k+1) _ _ _ _ w1 h (λ_=>rfl) hp hp Ŭ e m
theorem lH{P:Str->Prop}{po:Str->List Str}(hE:∀i∈E.idx,P (N i))(hm:∀m,10<=m/\m<13->P (N m))(hc:∀i<kn,P (N (ñ i))/\∀x∈po (N (ñ i)),P x):∀(rs:List Rw)(d k:Nat)(a b:Int)(pl lp:Option Str),(∀r∈rs,Ē E kn d r)->Ns k a rs b->(0<k->lp.isSome=true)->(∀q,lp=Wv q->P q)->(∀q,pl=Wv q->P q)->(∀e∈bB pl lp (Ç rs),oQ e.1=true->P (bp e.1.no))->∀e∈bB pl lp (Ç rs),IW N P po e
 | [],_,_,_,_,_,_,_,_,_,_,_,_,e,m=>by rw[Ç,bB]at m;cases m
 |r::rs,d,k,a,b,pl,lp,w,ns,hk,hl,hp,Ŭ,e,m=>by
  rw[Ç,bB]at m Ŭ;cases ns with
  |cons h1 h2=>
  have hr:=Ŭ _ NL;have wr:=w r NL;rcases NJ.mp m with rfl|m
  ·exact HZ hE hm hc wr h1 hp hl (BQ h1 hk) hr
  rcases NQ.mp m with m|m
  ·exact rw_end hE hm hc r d k _ _ lp wr h1 hk hl hr (λe m=>Ŭ e (NK _ (N3 _ m))) e m
  exact lH hE hm hc rs d k _ _ pl lp (λq mq=>w q (NK _ mq)) h2 hk hl hp (λe m=>Ŭ e (NK _ (NR _ m))) e m
end
mutual
theorem Ko{idx:List Nat}{d:Nat}:∀(t:Pt)(lp:Option Str),è idx t->dep t<=d->∀e∈bA lp t,è idx e.1/\dep e.1<=d
 | .leaf _ _,_,_,_,e,m=>by rw[bA]at m;cases m
 | .bf _ _ _ _,_,_,_,e,m=>by rw[bA]at m;cases m
 | .iff n v l r f o,lp,c,h,e,m=>by
  unfold è at c;unfold dep at h;rw[bA]at m;rcases NQ.mp m with m|m
  ·exact lV f _ _ c.1 () e m
  exact lV o _ _ c.2 () e m
 | .loop n t m' l r b,lp,c,h,e,m=>by
  unfold è at c;unfold dep at h;rw[bA]at m;exact lV b _ _ c.2.2 () e m
theorem lV{idx:List Nat}{d:Nat}:∀(ts:List Pt)(pl lp:Option Str),iB idx ts->ig ts<=d->∀e∈bB pl lp ts,è idx e.1/\dep e.1<=d
 | [],_,_,_,_,e,m=>by rw[bB]at m;cases m
 |t::ts,pl,lp,c,h,e,m=>by
  unfold iB at c;unfold ig at h;rw[bB]at m;rcases NJ.mp m with rfl|m
  ·exact{c.1,by show dep t<=d;lia}
  rcases NQ.mp m with m|m
  ·exact Ko t lp c.1 () e m
  exact lV ts pl lp c.2 () e m
end
theorem Fm{po:Str->List Str}{nm:List Str}(hc:∀i<kn,N (ñ i)∈nm/\(po (N (ñ i))).length=i+1){r:Rw}{d:Nat}(w:Ē E kn d r):vP N po nm r.pt:=by
 cases r with
 |call n i ts=>
  have w:i<kn/\ts.length=i+1/\∀t∈ts,t.ok E:=by cases d<;>exact w
  rw[Rw.pt];exact{(hc i w.1).1,w.2.1.trans (hc i w.1).2.symm}
 |_=>rw[Rw.pt];exact NY
mutual
theorem HK{po:Str->List Str}{nm:List Str}(hc:∀i<kn,N (ñ i)∈nm/\(po (N (ñ i))).length=i+1):∀(r:Rw)(d:Nat)(lp:Option Str),Ē E kn d r->∀e∈bA lp r.pt,vP N po nm e.1
 | .set _ _ _,_,_,_,e,m=>by rw[Rw.pt,bA]at m;cases m
 | .put _ _ _ _,_,_,_,e,m=>by rw[Rw.pt,bA]at m;cases m
 | .snd _ _ _,_,_,_,e,m=>by rw[Rw.pt,bA]at m;cases m
 | .say _ _ _ _,_,_,_,e,m=>by rw[Rw.pt,bA]at m;cases m
 | .last _,_,_,_,e,m=>by rw[Rw.pt,bA]at m;cases m
 | .call _ _ _,_,_,_,e,m=>by rw[Rw.pt,bA]at m;cases m
 | .iff n v f o l r,d,lp,w,e,m=>by
  cases d with
  |zero=>exact(show False from w).elim
  |succ d=>
   obtain⟨_,_,_,_,_,w1,w2⟩:=w;rw[Rw.pt,bA]at m;rcases NQ.mp m with m|m
   ·exact jE hc f d _ _ w1 e m
   exact jE hc o d _ _ w2 e m
 | .loop n t m' b' l r,d,lp,w,e,m=>by
  cases d with
  |zero=>exact(show False from w).elim
  |succ d=>
   obtain⟨_,_,_,_,_,_,w1⟩:=w;rw[Rw.pt,bA]at m;exact jE hc b' d _ _ w1 e m
theorem jE{po:Str->List Str}{nm:List Str}(hc:∀i<kn,N (ñ i)∈nm/\(po (N (ñ i))).length=i+1):∀(rs:List Rw)(d:Nat)(pl lp:Option Str),(∀r∈rs,Ē E kn d r)->∀e∈bB pl lp (Ç rs),vP N po nm e.1
 | [],_,_,_,_,e,m=>by rw[Ç,bB]at m;cases m
 |r::rs,d,pl,lp,w,e,m=>by
  rw[Ç,bB]at m;have wr:=w r NL;rcases NJ.mp m with rfl|m
  ·exact Fm hc wr
  rcases NQ.mp m with m|m
  ·exact HK hc r d lp wr e m
  exact jE hc rs d pl lp (λq mq=>w q (NK _ mq)) e m
end
theorem oF(pl:Option Str)(into kd:Str)(n:Int):(Ġ [pl] into kd n).length<=1:=h9 [pl] into kd n
theorem Fq{po:Str->List Str}(hp:∀x,(po x).length<=2)(t:Pt)(pl lp:Option Str):(uF N po t pl lp).length<=5:=by
 have di:∀(t:Pt)(into kd:Str),(Ŕ N t into kd pl).length<=5:=λt into kd=>NU (C9 t into kd pl) ∅;cases t with
 |bf=>exact NS _
 |iff=>exact di _ _ _
 |loop=>exact di _ _ _
 |leaf n r=>
  cases r with
  |set=>exact di _ _ _
  |put=>exact di _ _ _
  |snd=>exact di _ _ _
  |last=>exact NU (oF pl _ _ _) ∅
  |say x v m=>
   show(Ġ [Wv (N m)] (N x) "value" n++Ġ [pl] (N x) "under" n++Ġ [pl] (bp n) "under" n).length<=5;have h1:=oF (Wv (N m)) (N x) "value" n;have h2:=oF pl (N x) "under" n;have h3:=oF pl (bp n) "under" n;rw[NG,NG];lia
  |call i ts=>
   show(Ϝ N n (ts.zip (po (N i)))++Φ pl n (po (N i)++[N i])).length<=5;have h0:=hp (N i);have h1:(Ϝ N n (ts.zip (po (N i)))).length<=(ts.zip (po (N i))).length:=wG _ (λtp=>by
    unfold xv;split
    ·exact NS _
    exact oF _ _ _ _) _
   have h2:(Φ pl n (po (N i)++[N i])).length<=(po (N i)++[N i]).length:=wG _ (λx=>oF pl x _ _) _;rw[Pb]at h1;rw[NG,N6]at h2;rw[NG];lia
  |_=>exact NS _
theorem uk{ds:List Pt}(hp:∀x,(ć N ds x).length<=2):∀es:List Le,(es.flatMap (rN N false ds)).length<=5*es.length
 | []=>NM _
 |e::es=>by
  have h1:=uk hp es;have h2:=Fq (N:=N) hp e.1 e.2.1 e.2.2;have h3:(rN N false ds e).length=(uF N (ć N ds) e.1 e.2.1 e.2.2).length+0:=NG;rw[OE,NG,N7];lia
variable{n c:Int}{r1 r2 r3:List Rw}
theorem KC(x:Str):(ć N (Þ n r1 r2) x).length<=2:=by
 unfold ć;split
 ·next p h=>
  have:=List.mem_of_find?_eq_some h;simp only[Þ,NJ,NZ,or_false]at this;rcases this with rfl|rfl<;>simp[Ĥ]
 exact NS _
theorem Lq:ć N (Þ n r1 r2) (N 13)=[N 14]:=by
 unfold ć Þ;rw[Ov];show(match (match decide (N 13=N 13)with|true=>_|false=>_:Option Pt)with|some p=>Ĥ N p|none=>[])=_;rw[decide_eq_true rfl];rfl
theorem Lh(D:DJ N):ć N (Þ n r1 r2) (N 15)=[N 16,N 17]:=by
 have h:¬ N 13=N 15:=λe=>absurd (D 13 15 ∅ ∅ e) ∅;unfold ć Þ;rw[Ov];show(match (match decide (N 13=N 15)with|true=>_|false=>_:Option Pt)with|some p=>Ĥ N p|none=>[])=_;rw[decide_eq_false h];show(match (List.find? (λp=>decide (ó N p=N 15)) [.bf n 15 [16,17] (Ç r2)])with|some p=>Ĥ N p|none=>[])=_;rw[Ov];show(match (match decide (N 15=N 15)with|true=>_|false=>_:Option Pt)with|some p=>Ĥ N p|none=>[])=_;rw[decide_eq_true rfl];rfl
theorem LG(h:Dn E.N n r1 r2 r3)(hE:∀i∈E.idx,i∈plN)(w1:∀r∈r1,Ē E 0 4 r)(w2:∀r∈r2,Ē E 1 4 r)(w3:∀r∈r3,Ē E 2 4 r):OkG E.N 4 (eM c) (Þ n r1 r2) (Ç r3):=by
 obtain⟨k,e,n1,n2,n3⟩:=h.nu;have i0:∀{idx:List Nat},∀i<0,ñ i∈idx:=λi z=>absurd z (Nat.not_lt_zero i);have i1:∀{idx:List Nat},13∈idx->∀i<1,ñ i∈idx:=λm i z=>by
  have:i=0:=()
  subst this;exact m
 have i2:∀i<2,ñ i∈[13,15]:=λi z=>by
  have:i=0\/i=1:=()
  rcases this with rfl|rfl<;>decide
 have len:=h.len;have c1:=h.c1;have c2:=h.c2;have c3:=h.c3;have l1:=b7 r1;have l2:=b7 r2;have l3:=b7 r3;have cut:∀{p:Le->Prop},(∀x∈bB (Wv (E.N 13)) Ww (Ç r1),p x)->(∀x∈bB (Wv (E.N 15)) Ww (Ç r2),p x)->(∀x∈bB Ww Ww (Ç r3),p x)->∀x∈bC E.N (Þ n r1 r2) (Ç r3),p x:=λa b d x m=>by
  rw[yr,Oi]at m;rcases NQ.mp m with m|m
  ·exact(NQ.mp m).elim (a x) (b x)
  exact d x m
 have two:∀{p:Pt->Prop},p (.bf 14 13 [14] (Ç r1))->p (.bf n 15 [16,17] (Ç r2))->∀t∈Þ n r1 r2,p t:=λa b t m=>by
  simp only[Þ,NJ,NZ,or_false]at m;rcases m with rfl|rfl
  ·exact a
  exact b
 have p13:=Lq (N:=E.N) (n:=n) (r1:=r1) (r2:=r2);have p15:=Lh (n:=n) (r1:=r1) (r2:=r2) h.D;have ϒ:∀i∈plN,E.N i∈a9 E.N (eM c) (Þ n r1 r2) (Ç r3):=λi m=>h.nm m;have ϵ:∀i<2,E.N (ñ i)∈a9 E.N (eM c) (Þ n r1 r2) (Ç r3)/\∀x∈ć E.N (Þ n r1 r2) (E.N (ñ i)),x∈a9 E.N (eM c) (Þ n r1 r2) (Ç r3):=λi z=>by
  have:i=0\/i=1:=()
  rcases this with rfl|rfl
  ·refine{ϒ 13 ∅,λx m=>?_};rw[show ć E.N (Þ n r1 r2) (E.N (ñ 0))=[E.N 14]from p13]at m;rw[NF.mp m];exact ϒ 14 ∅
  refine{ϒ 15 ∅,λx m=>?_};rw[show ć E.N (Þ n r1 r2) (E.N (ñ 1))=[E.N 16,E.N 17]from p15]at m;simp only[NJ,NZ,or_false]at m;rcases m with rfl|rfl
  ·exact ϒ 16 ∅
  exact ϒ 17 ∅
 have cal2:∀i<2,E.N (ñ i)∈(Þ n r1 r2).map (ó E.N)/\(ć E.N (Þ n r1 r2) (E.N (ñ i))).length=i+1:=λi z=>by
  have:i=0\/i=1:=()
  rcases this with rfl|rfl
  ·exact{NL,by rw[show ć E.N (Þ n r1 r2) (E.N (ñ 0))=[E.N 14]from p13];rfl}
  exact{NK _ NL,by rw[show ć E.N (Þ n r1 r2) (E.N (ñ 1))=[E.N 16,E.N 17]from p15];rfl}
 have hEp:∀i∈E.idx,E.N i∈a9 E.N (eM c) (Þ n r1 r2) (Ç r3):=λi m=>ϒ i (hE i m);have hmp:∀m,10<=m/\m<13->E.N m∈a9 E.N (eM c) (Þ n r1 r2) (Ç r3):=λm z=>ϒ m (by
  have:m=10\/m=11\/m=12:=()
  rcases this with rfl|rfl|rfl<;>decide)
 have rin:∀x∈bC E.N (Þ n r1 r2) (Ç r3),oQ x.1=true->bp x.1.no∈a9 E.N (eM c) (Þ n r1 r2) (Ç r3):=λx m p=>AF m p;have in1:∀x∈bB (Wv (E.N 13)) Ww (Ç r1),x∈bC E.N (Þ n r1 r2) (Ç r3):=λx m=>N3 _ (N3 _ m);have in2:∀x∈bB (Wv (E.N 15)) Ww (Ç r2),x∈bC E.N (Þ n r1 r2) (Ç r3):=λx m=>N3 _ (NR _ (N3 _ m));have in3:∀x∈bB Ww Ww (Ç r3),x∈bC E.N (Þ n r1 r2) (Ç r3):=λx m=>NR _ m;have ends:∀l∈dQ E.N false (Þ n r1 r2) (Ç r3),l.fr∈a9 E.N (eM c) (Þ n r1 r2) (Ç r3)/\l.to∈a9 E.N (eM c) (Þ n r1 r2) (Ç r3):=λl m=>by
  obtain⟨x,mx,m⟩:=Oy.mp m;have all:∀x∈bC E.N (Þ n r1 r2) (Ç r3),IW E.N (· ∈a9 E.N (eM c) (Þ n r1 r2) (Ç r3)) (ć E.N (Þ n r1 r2)) x:=cut
   (lH hEp hmp (λi z=>ϵ i ()) r1 4 0 _ _ _ Ww w1 n1 (λz=>absurd z (Ol 0)) (λq z=>nomatch z) (λq z=>QB z▸ϒ 13 ∅) (λx m=>rin x (in1 x m)))
   (lH hEp hmp (λi z=>ϵ i ()) r2 4 0 _ _ _ Ww w2 n2 (λz=>absurd z (Ol 0)) (λq z=>nomatch z) (λq z=>QB z▸ϒ 15 ∅) (λx m=>rin x (in2 x m)))
   (lH hEp hmp ϵ r3 4 0 _ _ Ww Ww w3 n3 (λz=>absurd z (Ol 0)) (λq z=>nomatch z) (λq z=>nomatch z) (λx m=>rin x (in3 x m)))
  rcases NQ.mp m with m|m
  ·exact all x mx l m
  cases m
 have a1:=iI (E:=E) (kn:=0) (idx:=[13,15]) i0 r1 4 w1;have a2:=iI (E:=E) (kn:=1) (idx:=[13,15]) (i1 ∅) r2 4 w2;have a3:=iI (E:=E) (kn:=2) i2 r3 4 w3;refine{{two ⟨NY,a1.2⟩ ⟨NY,a2.2⟩,a3.2,h.nb,(),(by show 13<=300;decide),h.pl,h.nd},{two NY NY,two a1.2 a2.2,?_,?_,(by show 2<=900;decide)},?_,two (by show 1<=100;decide) (by show 2<=100;decide),?_,?_,?_,?_,?_,λl m=>(ends l m).1,λl m=>(ends l m).2,Lf E.N c,?_,?_,(),?_,?_,by rw[fZ];lia,js r3 (),hG r3,a3.1}
 ·intro i p hp;match i,hp with
  |0,hp=>cases hp;exact(iI (E:=E) (kn:=0) (idx:=[]) i0 r1 4 w1).1
  |1,hp=>cases hp;exact(iI (E:=E) (kn:=1) (idx:=[13]) (i1 ∅) r2 4 w2).1
  |i+2,hp=>cases hp
 ·intro i j p q hp hq z;match i,j,hp,hq with
  |0,0,_,_=>rfl
  |1,1,_,_=>rfl
  |0,1,hp,hq=>cases hp;cases hq;exact absurd (h.D 13 15 ∅ ∅ z) ∅
  |1,0,hp,hq=>cases hp;cases hq;exact absurd (h.D 15 13 ∅ ∅ z) ∅
  |i+2,_,hp,_=>cases hp
  |_,j+2,_,hq=>cases hq
 ·exact xu h.D (idx:=[13,15]) ∅ ∅
 ·exact cut (lE _ _ _ (hG r1)) (lE _ _ _ (hG r2)) (lE _ _ _ (hG r3))
 ·exact cut (lT r1 0 _ _ _ _ n1 λz=>absurd z (Ol 0)) (lT r2 0 _ _ _ _ n2 λz=>absurd z (Ol 0)) (lT r3 0 _ _ _ _ n3 λz=>absurd z (Ol 0))
 ·exact cut (jE (λi z=>cal2 i ()) r1 4 _ _ w1) (jE (λi z=>cal2 i ()) r2 4 _ _ w2) (jE cal2 r3 4 _ _ w3)
 ·exact cut (lV _ _ _ a1.1 a1.2) (lV _ _ _ a2.1 a2.2) (lV _ _ _ a3.1 a3.2)
 ·have:=uk (N:=E.N) (ds:=Þ n r1 r2) KC (bC E.N (Þ n r1 r2) (Ç r3));unfold dQ;lia
 ·rw[FZ];exact xu h.D ∅ ∅
 ·intro s m;have:s.1∈[2,3,4,5,10,11,12].map E.N:=FZ E.N c▸Oe m;obtain⟨i,mi,z⟩:=N4.mp this;rw[<-z];have q:∀i∈[2,3,4,5,10,11,12],i∈plN:=∅
  exact ϒ i (q i mi)
 ·intro p m;simp only[eM,NJ,NZ,or_false]at m;rcases m with rfl|rfl|rfl|rfl|rfl|rfl|rfl|rfl|rfl|rfl|rfl|rfl|rfl<;>rfl
 exact two {by show(Ç r1).length<=900;rw[fZ];lia,js r1 (),hG r1,a1.1} {by show(Ç r2).length<=900;rw[fZ];lia,js r2 (),hG r2,a2.1}
end
section
variable{P:Program}{w:QD}{K:Qx}{mg:Str->Option Qt}{base:QN}{A:Ì}
seal PE PA PS č PT PW
theorem Jq:Q9 K (.type "tuple") (.type "str")=Wv false:=by kernel_rfl!
theorem Jl:Q9 K (.type "list") (.type "str")=Wv false:=by kernel_rfl!
theorem El:Q9 K (.type "list") (.type "tuple")=Wv false:=by kernel_rfl!
def WT:V->Prop
 | .È=>True
 | .int _=>True
 | .str _=>True
 |_=>False
def yM(H:Hp):Nat->V->V->Prop
 |0,v,u=>v=u/\WT v
 |d+1,v,u=>(v=u/\WT v)\/∃p q xs ys,v=.ref p/\u=.ref q/\((H p=Wv (.tup xs)/\H q=Wv (.tup ys))\/(H p=Wv (.lst xs)/\H q=Wv (.lst ys)))/\xs.length<=1000000/\Paired (yM H d) xs ys
inductive tG(d:Nat)(vs:List V)(H:Hp)(Q:VK)(Ã:XK):Prop
 |mk(v:_)(u:_):vs=[v,u]->yM H d v u->Q (.bl true) H->tG d vs H Q Ã
theorem CW(T:Txt K mg A)(d:Nat)(Qq:T.kK.Hz P w base (d+1) (Š tG d)):T.kK.Hz P w base (d+2) (tG d):=by
 refine T.kK.hs (k:=d+1) nY (λf Ä A' outer s' H vs Q E hr hu h=>?_);obtain⟨v,u,rfl,S,q⟩:=h;have S':(v=u/\WT v)\/∃e p r xs ys,d=e+1/\v=.ref p/\u=.ref r/\((H p=Wv (.tup xs)/\H r=Wv (.tup ys))\/(H p=Wv (.lst xs)/\H r=Wv (.lst ys)))/\xs.length<=1000000/\Paired (yM H e) xs ys:=by
  cases d with
  |zero=>exact NI S
  |succ d=>
   rcases S with S|⟨p,r,xs,ys,S⟩
   ·exact NI S
   exact Ob ⟨d,p,r,xs,ys,rfl,S⟩
 refine⟨_,(af (aP (Ö Ba (fv 1) fz)
   (ag (aE (pec Ba (fv 0) fz)))
   aJ)
  (af (aP (aQ (Ê aI T.ax (fv 1^(f9 (v:=.ty "int") rfl T.zo (by boot_by_name) rfl)^ae)) (λ_=>rfl))
   (ag (aE (A4 (Ê aI T.ax (fv 0^(f9 (v:=.ty "int") rfl T.zo (by boot_by_name) rfl)^ae)) (A4 (Gw (Ê aI T.ax (fv 0^(f9 (v:=.ty "bool") rfl T.xV (by boot_by_name) rfl)^ae))) (Bi (pec (cK hu) (fv 0) (fv 1)))))))
   aJ)
  (af (aP (aQ (Ê aI T.ax (fv 1^(f9 (v:=.ty "str") rfl T.sg (by boot_by_name) rfl)^ae)) (λ_=>rfl))
   (ag (aE (A4 (Ê aI T.ax (fv 0^(f9 (v:=.ty "str") rfl T.sg (by boot_by_name) rfl)^ae)) (Bi (pec (cK hu) (fv 0) (fv 1))))))
   aJ)
  (af (aP (PW.pt (pw_or (Ö (yB hu) (Ê aI T.ax (fv 1^(f9 (v:=.ty "list") rfl T.fF (by boot_by_name) rfl)^ae)) (Ê aI T.ax (fv 0^(f9 (v:=.ty "list") rfl T.fF (by boot_by_name) rfl)^ae))) (pw_or1 (Ö (yB hu) (Ê aI T.ax (fv 1^(f9 (v:=.ty "tuple") rfl T.qO (by boot_by_name) rfl)^ae)) (Ê aI T.ax (fv 0^(f9 (v:=.ty "tuple") rfl T.qO (by boot_by_name) rfl)^ae))))))
   (ag (aE pq))
   aJ)
  (af (aP (Ö (yB hu) (Ê k8 T.md (fv 0^ae)) (Ê k8 T.md (fv 1^ae)))
   (ag (aE pq))
   aJ)
  (af (bG Qz rfl (oN rfl T.hU (Ê k8 T.md (fv 1^ae)^ae)) (Ó (i:=2) nY.nd rfl)
   (ag (aP (lr (aQ (ao (hj:=by lia) Qq hr (px hu (fv 0) (fv 2)^px hu (fv 1) (fv 2)^ae)) (λ_=>rfl)))
    (ag (aE pq))
    aJ)))
  (ag (aE pq)))))))),?_⟩
 rcases S' with⟨rfl,fl⟩|⟨e,p,r,xs,ys,rfl,rfl,rfl,hpq,hl,pr⟩
 ·cases v with
  |È=>exact{rfl,_,rfl,bg (λ_=>⟨rfl,q⟩) (λc=>absurd rfl c)}
  |int i=>
   refine{rfl,_,rfl,bg (λc=>absurd (of_decide_eq_true c) (by intro z;cases z)) (λ_=>{_,_,_,true,rfl,(λz=>by cases z),.int i,Gk,true,rfl,bo {_,_,_,true,rfl,(λz=>by cases z),.int i,Gk,_,rfl,bo {_,_,_,false,rfl,(λz=>by cases z),.int i,J0,false,rfl,_,rfl,bo {rfl,?_}}}})};rw[decide_eq_true rfl];exact q
  |str y=>
   refine{rfl,_,rfl,bg (λc=>absurd (of_decide_eq_true c) (by intro z;cases z)) (λ_=>{_,_,_,false,rfl,(λz=>by cases z),.str y,KO,false,rfl,aT {_,_,_,true,rfl,(λz=>by cases z),.str y,xq,true,rfl,bo {_,_,_,true,rfl,(λz=>by cases z),.str y,xq,_,rfl,bo {rfl,?_}}}})};rw[decide_eq_true rfl];exact q
  |_=>exact fl.elim
 rcases hpq with⟨hp,Ė⟩|⟨hp,Ė⟩
 ·
  have n1:¬ decide (V.ref r=V.È)=true:=λc=>absurd (of_decide_eq_true c) (by intro z;cases z);have le:xs.length=ys.length:=Qy pr;refine{rfl,_,rfl,bg (λc=>absurd c n1) (λ_=>{_,_,_,false,rfl,(λz=>by cases z),.tup Ė,Jx,false,rfl,aT {_,_,_,false,rfl,(λz=>by cases z),.tup Ė,Jq,false,rfl,aT {_,_,_,false,rfl,(λz=>by cases z),.tup Ė,Et,_,_,_,false,rfl,(λz=>by cases z),.tup hp,Et,rfl,_,rfl,bg (λc=>absurd c ∅) (λ_=>{_,_,_,true,rfl,(λz=>by cases z),.tup Ė,Fd,_,_,_,true,rfl,(λz=>by cases z),.tup hp,Fd,rfl,_,rfl,bg (λc=>absurd c ∅) (λ_=>NI {_,_,rfl,Ob {_,Ò.of hp,rfl},NI {_,_,rfl,Ob {_,Ò.of Ė,rfl},rfl,_,rfl,bg (λc=>absurd c ?_) (λ_=>?_)}})})}}})}
  ·rw[DZ,le];simp
  refine NI {_,_,rfl,Ob {_,Ò.of Ė,rfl},(ys.length:Int),rfl,(),(),iT (λi B H2=>H2=H/\∃z,B=[Wv (.ref p),Wv (.ref r),z]) ⟨rfl,Ww,rfl⟩ ?_ ?_}
  ·rintro i B H2 hi ⟨rfl,z,rfl⟩;have hi':i<ys.length:=()
   have e1:=NN (l:=xs) (i:=i) ();obtain⟨u,e2,su⟩:=gi pr e1;have a1:Č xs (0+(i:Int))=Wv xs[i]:=by rw[O8];exact gG e1
   have a2:Č ys (0+(i:Int))=Wv u:=by rw[O8];exact gG e2
   exact NI {_,_,Ob (Ò.of hp),a1,NI {_,_,Ob (Ò.of Ė),a2,_,_,rfl,su,true,rfl,aT {rfl,_,rfl}}}
  rintro B H2 ⟨rfl,z,rfl⟩;exact q
 have n1:¬ decide (V.ref r=V.È)=true:=λc=>absurd (of_decide_eq_true c) (by intro z;cases z);have le:xs.length=ys.length:=Qy pr;refine{rfl,_,rfl,bg (λc=>absurd c n1) (λ_=>{_,_,_,false,rfl,(λz=>by cases z),.lst Ė,Kx,false,rfl,aT {_,_,_,false,rfl,(λz=>by cases z),.lst Ė,Jl,false,rfl,aT {_,_,_,true,rfl,(λz=>by cases z),.lst Ė,AJ,_,_,_,true,rfl,(λz=>by cases z),.lst hp,AJ,rfl,_,rfl,bg (λc=>absurd c ∅) (λ_=>{_,_,_,false,rfl,(λz=>by cases z),.lst Ė,El,_,_,_,false,rfl,(λz=>by cases z),.lst hp,El,rfl,_,rfl,bg (λc=>absurd c ∅) (λ_=>lnl hp (lnl Ė {rfl,_,rfl,bg (λc=>absurd c ?_) (λ_=>?_)}))})}}})}
 ·rw[DZ,le];simp
 refine lnl Ė {(ys.length:Int),rfl,(),(),iT (λi B H2=>H2=H/\∃z,B=[Wv (.ref p),Wv (.ref r),z]) ⟨rfl,Ww,rfl⟩ ?_ ?_}
 ·rintro i B H2 hi ⟨rfl,z,rfl⟩;have hi':i<ys.length:=()
  have e1:=NN (l:=xs) (i:=i) ();obtain⟨u,e2,su⟩:=gi pr e1;have a1:Č xs (0+(i:Int))=Wv xs[i]:=by rw[O8];exact gG e1
  have a2:Č ys (0+(i:Int))=Wv u:=by rw[O8];exact gG e2
  exact ê (À.of hp) a1 (ê (À.of Ė) a2 {_,_,rfl,su,true,rfl,aT {rfl,_,rfl}})
 rintro B H2 ⟨rfl,z,rfl⟩;exact q
theorem Bj(T:Txt K mg A):∀d,T.kK.Hz P w base (d+2) (tG d)
 |0=>CW T 0 (T.kK.hs (k:=0) nY (λ_ _ _ _ _ _ _ _ _ _ _ h=>h.elim) (λ_ _ _ _ h=>h.elim))
 |d+1=>CW T (d+1) (Bj T d)
end
section
variable{P:Program}{w:QD}{K:Qx}{mg:Str->Option Qt}{base:QN}{A:Ì}{N:Nat->Str}
seal PE PA PS č PT PW
def uH(X H H':Hp):Hp:=λb=>if((X b).isSome||(H b).isNone)=true then H' b else Ww
theorem uH.get{X H H':Hp}{b:Qs}{o:HO}(h:uH X H H' b=Wv o):((X b).isSome||(H b).isNone)=true/\H' b=Wv o:=by
 unfold uH at h;split at h
 ·exact⟨by assumption,h⟩
 cases h
theorem uH.of{X H H':Hp}{b:Qs}{o:HO}(c:((X b).isSome||(H b).isNone)=true)(h:H' b=Wv o):uH X H H' b=Wv o:=by
 unfold uH;rw[if_pos c];exact h
theorem uH.same{X H H':Hp}:ai (uH X H H') H':=λb o h=>(uH.get h).2
theorem uH.mono{X H H' ό:Hp}(s:ai H' ό):ai (uH X H H') (uH X H ό):=λb o h=>uH.of (uH.get h).1 (s _ _ (uH.get h).2)
theorem uH.weak{X H H1 H':Hp}(d:∀b,H1 b=Ww->H b=Ww):ai (uH X H1 H') (uH X H H'):=λb o h=>by
 obtain⟨c,e⟩:=uH.get h;refine uH.of ?_ e;rcases Om.mp c with c|c
 ·rw[c];rfl
 rw[d b (Oo.mp c)];simp
theorem uH.old{X H H':Hp}(s:ai X H'){b:Qs}{o:HO}(h:X b=Wv o):uH X H H' b=Wv o:=uH.of (by rw[h];rfl) (s _ _ h)
theorem uH.new{X H H':Hp}{b:Qs}{o:HO}(n:H b=Ww)(h:H' b=Wv o):uH X H H' b=Wv o:=uH.of (by rw[n];simp) h
theorem uH.upd{X H H':Hp}{D:Qs}{o:HO}(n:X D=Ww)(e:H D≠Ww):ai (uH X H H') (uH X H (upd H' D o)):=λb u h=>by
 obtain⟨c,z⟩:=uH.get h;refine uH.of c (aK (λy=>?_) z);rw[y,n]at c;rcases Om.mp c with c|c
 ·exact absurd c NT
 exact e (Oo.mp c)
inductive Dt where
 |f (v:V)
 |t (ds:List Dt)
 |l (ds:List Dt)
mutual
noncomputable def cw(H:Hp):Dt->V->Prop
 | .f x,v=>v=x/\WT x
 | .t ds,v=>∃p vs,v=.ref p/\H p=Wv (.tup vs)/\cH H ds vs
 | .l ds,v=>∃p vs,v=.ref p/\H p=Wv (.lst vs)/\cH H ds vs
noncomputable def cH(H:Hp):List Dt->List V->Prop
 | [],vs=>vs=[]
 |d::ds,vs=>∃v ws,vs=v::ws/\cw H d v/\cH H ds ws
end
mutual
noncomputable def sJ:Dt->Nat
 | .f _=>0
 | .t ds=>ju ds+1
 | .l ds=>ju ds+1
noncomputable def ju:List Dt->Nat
 | []=>0
 |d::ds=>max (sJ d) (ju ds)
end
mutual
noncomputable def é:Dt->Prop
 | .f _=>True
 | .t ds=>ds.length<=900/\cb ds
 | .l ds=>ds.length<=900/\cb ds
noncomputable def cb:List Dt->Prop
 | []=>True
 |d::ds=>é d/\cb ds
end
mutual
theorem cw.same{H H':Hp}(s:ai H H'):∀(d:Dt)(v:V),cw H d v->cw H' d v
 | .f _,_,h=>by
  unfold cw at h⊢;exact h
 | .t ds,_,h=>by
  unfold cw at h⊢;obtain⟨p,vs,e,h1,h2⟩:=h;exact{p,vs,e,s _ _ h1,cH.same s ds vs h2}
 | .l ds,_,h=>by
  unfold cw at h⊢;obtain⟨p,vs,e,h1,h2⟩:=h;exact{p,vs,e,s _ _ h1,cH.same s ds vs h2}
theorem cH.same{H H':Hp}(s:ai H H'):∀(ds:List Dt)(vs:List V),cH H ds vs->cH H' ds vs
 | [],_,h=>by
  unfold cH at h⊢;exact h
 |d::ds,_,h=>by
  unfold cH at h⊢;obtain⟨v,ws,e,h1,h2⟩:=h;exact⟨v,ws,e,cw.same s d v h1,cH.same s ds ws h2⟩
end
theorem cH.nil{H:Hp}:cH H [] []:=by
 unfold cH;rfl
theorem cH.cons{H:Hp}{d:Dt}{v:V}{ds:List Dt}{vs:List V}(h:cw H d v)(r:cH H ds vs):cH H (d::ds) (v::vs):=by
 unfold cH;exact⟨v,vs,rfl,h,r⟩
theorem cw.fl{H:Hp}{v:V}(h:WT v):cw H (.f v) v:=by
 unfold cw;exact⟨rfl,h⟩
theorem cw.s{H:Hp}{s:Str}:cw H (.f (.str s)) (.str s):=cw.fl NY
theorem cw.i{H:Hp}{n:Int}:cw H (.f (.int n)) (.int n):=cw.fl NY
theorem qT(a:Th):WT (a.v N):=by cases a<;>exact NY
theorem cw.h{H:Hp}{a:Th}:cw H (.f (a.v N)) (a.v N):=cw.fl (qT a)
theorem tV{H:Hp}:∀{vs:List V},(∀v∈vs,WT v)->cH H (vs.map Dt.f) vs
 | [],_=>cH.nil
 |v::vs,h=>cH.cons (cw.fl (h v NL)) (tV λu m=>h u (NK _ m))
theorem cH.len{H:Hp}:∀{ds:List Dt}{vs:List V},cH H ds vs->vs.length=ds.length
 | [],vs,h=>by
  unfold cH at h;rw[h];rfl
 |d::ds,vs,h=>by
  unfold cH at h;obtain⟨v,ws,rfl,_,h2⟩:=h;rw[N7,N7,cH.len h2]
mutual
theorem BX{H:Hp}:∀(d:Dt)(n:Nat){v u:V},sJ d<=n->é d->cw H d v->cw H d u->yM H n v u
 | .f x,n,v,u,_,_,h,h'=>by
  unfold cw at h h';obtain⟨rfl,f⟩:=h;obtain⟨rfl,_⟩:=h';cases n with
  |zero=>exact⟨rfl,f⟩
  |succ n=>exact NI ⟨rfl,f⟩
 | .t ds,n,v,u,e,o,h,h'=>by
  unfold cw at h h';unfold sJ at e;unfold é at o;obtain⟨p,vs,rfl,h1,h2⟩:=h;obtain⟨q,us,rfl,h3,h4⟩:=h';cases n with
  |zero=>lia
  |succ n=>exact Ob {p,q,vs,us,rfl,rfl,NI ⟨h1,h3⟩,by rw[cH.len h2];lia,uz ds n () o.2 h2 h4}
 | .l ds,n,v,u,e,o,h,h'=>by
  unfold cw at h h';unfold sJ at e;unfold é at o;obtain⟨p,vs,rfl,h1,h2⟩:=h;obtain⟨q,us,rfl,h3,h4⟩:=h';cases n with
  |zero=>lia
  |succ n=>exact Ob {p,q,vs,us,rfl,rfl,Ob ⟨h1,h3⟩,by rw[cH.len h2];lia,uz ds n () o.2 h2 h4}
theorem uz{H:Hp}:∀(ds:List Dt)(n:Nat){vs us:List V},ju ds<=n->cb ds->cH H ds vs->cH H ds us->Paired (yM H n) vs us
 | [],n,vs,us,_,_,h,h'=>by
  unfold cH at h h';rw[h,h'];exact .nil
 |d::ds,n,vs,us,e,o,h,h'=>by
  unfold cH at h h';unfold ju at e;unfold cb at o;obtain⟨v,ws,rfl,h1,h2⟩:=h;obtain⟨u,xs,rfl,h3,h4⟩:=h';exact .cons (BX d n () o.1 h1 h3) (uz ds n () o.2 h2 h4)
end
def vD(N:Nat->Str)(v:Val):Dt:=.t ((vV N v).map Dt.f)
def lfD(N:Nat->Str)(n:Int):Lr->List Dt
 | .set x v=>[.f (.str "set"),.f (.int n),.f (.str (N x)),vD N v]
 | .put x p v=>[.f (.str "put"),.f (.int n),.f (.str (N x)),.f (p.v N),vD N v]
 | .snd x v=>[.f (.str "send"),.f (.int n),.f (.str (N x)),vD N v]
 | .say x v m=>[.f (.str "say"),.f (.int n),.f (.str (N x)),vD N v,.f (.str (N m))]
 | .call x ts=>[.f (.str "call"),.f (.int n),.f (.str (N x)),.l ((ts.map (Th.v N)).map Dt.f)]
 | .last=>[.f (.str "last"),.f (.int n)]
 | .hand x r=>[.f (.str "hand"),.f (.int n),.f (.str (N x)),.f (.int r)]
 | .Ĭ x r z=>[.f (.str "given"),.f (.int n),.f (.str (N x)),.f (.int r),.f (.int z)]
 | .own x z=>[.f (.str "own"),.f (.int n),.f (.str (N x)),.f (.int z)]
 | .lt x r=>[.f (.str "let"),.f (.int n),.f (.str (N x)),.f (.int r)]
mutual
noncomputable def à(N:Nat->Str):Pt->Dt
 | .leaf n r=>.t (lfD N n r)
 | .iff n v _ _ f o=>.t [.f (.str "if"),.f (.int n),vD N v,.l (fD N f),.l (fD N o)]
 | .loop n t m _ _ b=>.t [.f (.str "loop"),.f (.int n),.f (t.v N),.f (.int m),.l (fD N b)]
 | .bf n i ps b=>.t [.f (.str "deed"),.f (.int n),.f (.str (N i)),.l ((nV N ps).map Dt.f),.l (fD N b)]
noncomputable def fD(N:Nat->Str):List Pt->List Dt
 | []=>[]
 |t::ts=>à N t::fD N ts
end
mutual
noncomputable def gT:Pt->Nat
 | .leaf _ _=>0
 | .iff _ _ _ _ f o=>max (cU f) (cU o)+1
 | .loop _ _ _ _ _ b=>cU b+1
 | .bf _ _ _ b=>cU b+1
noncomputable def cU:List Pt->Nat
 | []=>0
 |t::ts=>max (gT t) (cU ts)
end
theorem oz{t:Pt}:∀{ts:List Pt},t∈ts->gT t<=cU ts
 |t'::ts,m=>by
  unfold cU;rcases NJ.mp m with rfl|m
  ·lia
  have:=oz m;lia
theorem jh:∀ts:List Pt,fD N ts=ts.map (à N)
 | []=>by rw[fD];rfl
 |t::ts=>by rw[fD,jh ts];rfl
theorem zc{d:Dt}:∀{ds:List Dt},cb ds->d∈ds->é d
 |d'::ds,h,m=>by
  unfold cb at h;rcases NJ.mp m with rfl|m
  ·exact h.1
  exact zc h.2 m
theorem yf{t:Pt}{ts:List Pt}(h:cb (fD N ts))(m:t∈ts):é (à N t):=zc h (by rw[jh];exact Oe m)
theorem DW(v:Val):∀x∈vV N v,WT x:=λx m=>by
 cases v with
 |one a=>
  rw[NF.mp m];exact qT a
 |op a w b=>
  rcases NJ.mp m with rfl|m
  ·exact qT a
  rcases NJ.mp m with rfl|m
  ·exact NY
  rw[NF.mp m];exact qT b
theorem zD{H:Hp}{p:Qs}{v:Val}(h:H p=Wv (.tup (vV N v))):cw H (vD N v) (.ref p):=by
 unfold vD cw;exact{p,_,rfl,h,tV (DW v)}
theorem IH{H:Hp}{p:Qs}{vs:List V}(h:H p=Wv (.lst vs))(f:∀v∈vs,WT v):cw H (.l (vs.map Dt.f)) (.ref p):=by
 unfold cw;exact{p,_,rfl,h,tV f}
theorem Fc(ts:List Th):∀v∈ts.map (Th.v N),WT v:=λv m=>by
 obtain⟨a,_,rfl⟩:=N4.mp m;exact qT a
theorem Gd(ps:List Nat):∀v∈nV N ps,WT v:=λv m=>by
 obtain⟨a,_,rfl⟩:=N4.mp m;exact NY
theorem Gr{H:Hp}:∀{ts:List Pt}{ys:List V},Paired (λt y=>cw H (à N t) y) ts ys->cH H (fD N ts) ys
 |_,_,.nil=>by rw[fD];exact cH.nil
 |_,_,.cons h r=>by rw[fD];exact cH.cons h (Gr r)
theorem gJ{X H H':Hp}{u:Qs}{ds:List Dt}{vs:List V}(s:ai H H')(hu:H' u=Ww)(h:cH (uH X H (upd H' u (.tup vs))) ds vs):cw (uH X H (upd H' u (.tup vs))) (.t ds) (.ref u):=by
 unfold cw;exact{u,vs,rfl,uH.new (ai.free s hu) av,h}
mutual
theorem Ll(ab:Int->Bool)(kn:Nat->Int):∀t:Pt,à N (Î ab kn t)=à N t/\gT (Î ab kn t)=gT t
 | .leaf _ _=>by rw[Î];exact⟨rfl,rfl⟩
 | .iff n v l r f o=>by
  have h1:=kZ ab kn f;have h2:=kZ ab kn o;rw[Î,à,à,gT,gT,h1.1,h1.2,h2.1,h2.2];exact⟨rfl,rfl⟩
 | .loop n t m l r b=>by
  have h1:=kZ ab kn b;rw[Î,à,à,gT,gT,h1.1,h1.2];exact⟨rfl,rfl⟩
 | .bf n i ps b=>by
  have h1:=kZ ab kn b;rw[Î,à,à,gT,gT,h1.1,h1.2];exact⟨rfl,rfl⟩
theorem kZ(ab:Int->Bool)(kn:Nat->Int):∀ts:List Pt,fD N (eK ab kn ts)=fD N ts/\cU (eK ab kn ts)=cU ts
 | []=>by rw[eK];exact⟨rfl,rfl⟩
 |t::ts=>by
  have h1:=Ll ab kn t;have h2:=kZ ab kn ts;rw[eK,fD,fD,cU,cU,h1.1,h1.2,h2.1,h2.2];exact⟨rfl,rfl⟩
end
inductive qF(A:Ì)(d:Nat)(vs:List V)(H:Hp)(Q:VK)(Ã:XK):Prop
 |mk(N:Nat->Str)(X:Hp)(v:V)(t:Pt):vs=[v]->ai X H->aN A N X v t->gT t<=d->é (à N t)->(∀(u:V)(H':Hp),ai H H'->cw (uH X H H') (à N t) u->Q u H')->qF A d vs H Q Ã
inductive oO(A:Ì)(d:Nat)(vs:List V)(H:Hp)(Q:VK)(Ã:XK):Prop
 |mk(N:Nat->Str)(X:Hp)(L:Qs)(xs:List V)(ts:List Pt):vs=[.ref L]->ai X H->X L=Wv (.lst xs)->ba A N X xs ts->cU ts<=d->é (.l (fD N ts))->(∀(u:V)(H':Hp),ai H H'->cw (uH X H H') (.l (fD N ts)) u->Q u H')->oO A d vs H Q Ã
theorem yJ(T:Txt K mg A)(d j:Nat)(A1:T.gN.Hz P w base j (Š (oO A) d)):T.oG.Hz P w base (j+1) (qF A d):=by
 refine T.oG.hs (k:=j) yl (λf Ä A' outer s H vs Q E' hr hu h=>?_);obtain⟨N,X,v,t,rfl,s0,pa,dp,ok,q⟩:=h;refine⟨_,(af (aP (aQ (Ê aI T.ax (fv 0^aO T.aS.mg^ae)) (λ_=>rfl))
   (ag (aE (bj (aF^aq (fv 0) rfl^aq (fv 0) rfl^(ao (hj:=by lia) A1 hr (aq (fv 0) rfl^ae))^(ao (hj:=by lia) A1 hr (aq (fv 0) rfl^ae))^ae))))
   aJ)
  (af (aP (aQ (Ê aI T.ax (fv 0^aO T.aM.mg^ae)) (λ_=>rfl))
   (ag (aE (bj (aF^aq (fv 0) rfl^aq (fv 0) rfl^aq (fv 0) rfl^(ao (hj:=by lia) A1 hr (aq (fv 0) rfl^ae))^ae))))
   aJ)
  (af (aP (aQ (Ê aI T.ax (fv 0^aO T.cD.mg^ae)) (λ_=>rfl))
   (ag (aE (bj (aF^aq (fv 0) rfl^aq (fv 0) rfl^aq (fv 0) rfl^ae))))
   aJ)
  (af (aP (aQ (Ê aI T.ax (fv 0^aO T.bY.mg^ae)) (λ_=>rfl))
   (ag (aE (bj (aF^aq (fv 0) rfl^aq (fv 0) rfl^aq (fv 0) rfl^aq (fv 0) rfl^ae))))
   aJ)
  (af (aP (aQ (Ê aI T.ax (fv 0^aO T.bR.mg^ae)) (λ_=>rfl))
   (ag (aE (bj (aF^aq (fv 0) rfl^aq (fv 0) rfl^aq (fv 0) rfl^ae))))
   aJ)
  (af (aP (aQ (Ê aI T.ax (fv 0^aO T.bD.mg^ae)) (λ_=>rfl))
   (ag (aE (bj (aF^aq (fv 0) rfl^aq (fv 0) rfl^aq (fv 0) rfl^aq (fv 0) rfl^ae))))
   aJ)
  (af (aP (aQ (Ê aI T.ax (fv 0^aO T.bh.mg^ae)) (λ_=>rfl))
   (ag (aE (bj (aF^aq (fv 0) rfl^aq (fv 0) rfl^aq (fv 0) rfl^ae))))
   aJ)
  (af (aP (aQ (Ê aI T.ax (fv 0^aO T.dG.mg^ae)) (λ_=>rfl))
   (ag (aE (bj (aF^aq (fv 0) rfl^ae))))
   aJ)
  (af (aP (aQ (Ê aI T.ax (fv 0^aO T.cF.mg^ae)) (λ_=>rfl))
   (ag (aE (bj (aF^aq (fv 0) rfl^aq (fv 0) rfl^aq (fv 0) rfl^ae))))
   aJ)
  (af (aP (aQ (Ê aI T.ax (fv 0^aO T.bq.mg^ae)) (λ_=>rfl))
   (ag (aE (bj (aF^aq (fv 0) rfl^aq (fv 0) rfl^aq (fv 0) rfl^aq (fv 0) rfl^ae))))
   aJ)
  (af (aP (aQ (Ê aI T.ax (fv 0^aO T.cL.mg^ae)) (λ_=>rfl))
   (ag (aE (bj (aF^aq (fv 0) rfl^aq (fv 0) rfl^aq (fv 0) rfl^ae))))
   aJ)
  (af (aP (aQ (Ê aI T.ax (fv 0^aO T.cC.mg^ae)) (λ_=>rfl))
   (ag (aE (bj (aF^aq (fv 0) rfl^aq (fv 0) rfl^aq (fv 0) rfl^ae))))
   aJ)
  (ag (aE (bj (aF^aq (fv 0) rfl^aq (fv 0) rfl^aq (fv 0) rfl^(ao (hj:=by lia) A1 hr (aq (fv 0) rfl^ae))^ae)))))))))))))))),?_⟩
 by_cases ß:t.ci=11
 ·cases t with
  |iff n val l r f o=>
   refine ah λM1 K1=>cq T s0 pa (j:=11) rfl (bo ?_);clear K1;unfold aN at pa;obtain⟨a,dx,p,pf,po,xf,xo,rfl,h1,h2,h3,h4,h5,h6⟩:=pa;unfold gT at dp;rw[à]at ok;unfold é cb cb cb cb cb at ok;obtain⟨_,_,_,_,of,oo,_⟩:=ok;cases d with
   |zero=>lia
   |succ d=>
   refine Á (s0 _ _ h1) T.aS.cl T.eg rfl (Á (s0 _ _ h1) T.aS.cl T.fX rfl (Á (s0 _ _ h1) T.aS.cl T.bX rfl {N,X,pf,xf,f,rfl,s0,h3,h5,(),of,λu1 H1 s1 d1=>?_}));have sX:=s0.trans s1;refine Á (sX _ _ h1) T.aS.cl T.bZ rfl {N,X,po,xo,o,rfl,sX,h4,h6,(),oo,λu2 H2 s2 d2=>{by show 5<=sizeLine;decide,λu hu=>q (.ref u) _ ((s1.trans s2).trans (ai.upd hu _)) ?_}};rw[à];have s3:=ai.upd hu (.tup [.str "if",.int n,.ref p,u1,u2]);exact gJ (s1.trans s2) hu (.cons .s (.cons .i (.cons (zD (uH.old ((sX.trans s2).trans s3) h2)) (.cons (cw.same (uH.mono (s2.trans s3)) _ _ d1) (.cons (cw.same ((uH.weak λb e=>ai.free s1 e).trans (uH.mono s3)) _ _ d2) .nil)))))
  |leaf n r=>cases r<;>cases ß
  |_=>cases ß
 refine ah λM1 K1=>bz T s0 pa ß (aT (K1 _ _ ?_));clear K1 M1;by_cases ä:t.ci=12
 ·cases t with
  |loop n th m l r b=>
   refine ah λM1 K1=>cq T s0 pa (j:=12) rfl (bo ?_);clear K1;unfold aN at pa;obtain⟨a,dx,pb,xb,rfl,h1,h2,h3⟩:=pa;unfold gT at dp;rw[à]at ok;unfold é cb cb cb cb cb at ok;obtain⟨_,_,_,_,_,of,_⟩:=ok;cases d with
   |zero=>lia
   |succ d=>
   refine Á (s0 _ _ h1) T.aM.cl T.dg rfl (Á (s0 _ _ h1) T.aM.cl T.fo rfl (Á (s0 _ _ h1) T.aM.cl T.dq rfl (Á (s0 _ _ h1) T.aM.cl T.bM rfl {N,X,pb,xb,b,rfl,s0,h2,h3,(),of,λu1 H1 s1 d1=>{by show 5<=sizeLine;decide,λu hu=>q (.ref u) _ (s1.trans (ai.upd hu _)) ?_}})));rw[à];exact gJ s1 hu (.cons .s (.cons .i (.cons .h (.cons .i (.cons (cw.same (uH.mono (ai.upd hu _)) _ _ d1) .nil)))))
  |leaf n r=>cases r<;>cases ä
  |_=>cases ä
 refine ah λM1 K1=>bz T s0 pa ä (aT (K1 _ _ ?_));clear K1 M1;by_cases c5:t.ci=5
 ·cases t with
  |leaf n r0=>
   cases r0 with
   |set x val=>
    refine ah λM1 K1=>cq T s0 pa (j:=5) rfl (bo ?_);clear K1;unfold aN at pa;obtain⟨a,dx,p,rfl,h1,h2⟩:=pa;refine Á (s0 _ _ h1) T.cD.cl T.fh rfl (Á (s0 _ _ h1) T.cD.cl T.fW rfl (Á (s0 _ _ h1) T.cD.cl T.fH rfl {by show 4<=sizeLine;decide,λu hu=>q (.ref u) _ (ai.upd hu _) ?_}));rw[à];exact gJ (ai.refl _) hu (.cons .s (.cons .i (.cons .s (.cons (zD (uH.old (s0.trans (ai.upd hu _)) (h2 _ rfl))) .nil))))
   |_=>cases c5
  |_=>cases c5
 refine ah λM1 K1=>bz T s0 pa c5 (aT (K1 _ _ ?_));clear K1 M1;by_cases c6:t.ci=6
 ·cases t with
  |leaf n r0=>
   cases r0 with
   |put x pl val=>
    refine ah λM1 K1=>cq T s0 pa (j:=6) rfl (bo ?_);clear K1;unfold aN at pa;obtain⟨a,dx,p,rfl,h1,h2⟩:=pa;refine Á (s0 _ _ h1) T.bY.cl T.fi rfl (Á (s0 _ _ h1) T.bY.cl T.fT rfl (Á (s0 _ _ h1) T.bY.cl T.fL rfl (Á (s0 _ _ h1) T.bY.cl T.fK rfl {by show 5<=sizeLine;decide,λu hu=>q (.ref u) _ (ai.upd hu _) ?_})));rw[à];exact gJ (ai.refl _) hu (.cons .s (.cons .i (.cons .s (.cons .h (.cons (zD (uH.old (s0.trans (ai.upd hu _)) (h2 _ rfl))) .nil)))))
   |_=>cases c6
  |_=>cases c6
 refine ah λM1 K1=>bz T s0 pa c6 (aT (K1 _ _ ?_));clear K1 M1;by_cases c7:t.ci=7
 ·cases t with
  |leaf n r0=>
   cases r0 with
   |snd x val=>
    refine ah λM1 K1=>cq T s0 pa (j:=7) rfl (bo ?_);clear K1;unfold aN at pa;obtain⟨a,dx,p,rfl,h1,h2⟩:=pa;refine Á (s0 _ _ h1) T.bR.cl T.eI rfl (Á (s0 _ _ h1) T.bR.cl T.gy rfl (Á (s0 _ _ h1) T.bR.cl T.ff rfl {by show 4<=sizeLine;decide,λu hu=>q (.ref u) _ (ai.upd hu _) ?_}));rw[à];exact gJ (ai.refl _) hu (.cons .s (.cons .i (.cons .s (.cons (zD (uH.old (s0.trans (ai.upd hu _)) (h2 _ rfl))) .nil))))
   |_=>cases c7
  |_=>cases c7
 refine ah λM1 K1=>bz T s0 pa c7 (aT (K1 _ _ ?_));clear K1 M1;by_cases c8:t.ci=8
 ·cases t with
  |leaf n r0=>
   cases r0 with
   |say x val mk=>
    refine ah λM1 K1=>cq T s0 pa (j:=8) rfl (bo ?_);clear K1;unfold aN at pa;obtain⟨a,dx,p,rfl,h1,h2⟩:=pa;refine Á (s0 _ _ h1) T.bD.cl T.b5 rfl (Á (s0 _ _ h1) T.bD.cl T.fw rfl (Á (s0 _ _ h1) T.bD.cl T.gu rfl (Á (s0 _ _ h1) T.bD.cl T.fR rfl {by show 5<=sizeLine;decide,λu hu=>q (.ref u) _ (ai.upd hu _) ?_})));rw[à];exact gJ (ai.refl _) hu (.cons .s (.cons .i (.cons .s (.cons (zD (uH.old (s0.trans (ai.upd hu _)) (h2 _ rfl))) (.cons .s .nil)))))
   |_=>cases c8
  |_=>cases c8
 refine ah λM1 K1=>bz T s0 pa c8 (aT (K1 _ _ ?_));clear K1 M1;by_cases c9:t.ci=9
 ·cases t with
  |leaf n r0=>
   cases r0 with
   |call x ts=>
    refine ah λM1 K1=>cq T s0 pa (j:=9) rfl (bo ?_);clear K1;unfold aN at pa;obtain⟨a,dx,p,rfl,h1,h2⟩:=pa;refine Á (s0 _ _ h1) T.bh.cl T.cE rfl (Á (s0 _ _ h1) T.bh.cl T.cn rfl (Á (s0 _ _ h1) T.bh.cl T.df rfl {by show 4<=sizeLine;decide,λu hu=>q (.ref u) _ (ai.upd hu _) ?_}));rw[à];exact gJ (ai.refl _) hu (.cons .s (.cons .i (.cons .s (.cons (IH (uH.old (s0.trans (ai.upd hu _)) (h2 _ rfl)) (Fc _)) .nil))))
   |_=>cases c9
  |_=>cases c9
 refine ah λM1 K1=>bz T s0 pa c9 (aT (K1 _ _ ?_));clear K1 M1;by_cases Ŵ:t.ci=10
 ·cases t with
  |leaf n r0=>
   cases r0 with
   |last=>
    refine ah λM1 K1=>cq T s0 pa (j:=10) rfl (bo ?_);clear K1;unfold aN at pa;obtain⟨a,dx,p,rfl,h1,h2⟩:=pa;refine Á (s0 _ _ h1) T.dG.cl T.cZ rfl {by show 2<=sizeLine;decide,λu hu=>q (.ref u) _ (ai.upd hu _) ?_};rw[à];exact gJ (ai.refl _) hu (.cons .s (.cons .i .nil))
   |_=>cases Ŵ
  |_=>cases Ŵ
 refine ah λM1 K1=>bz T s0 pa Ŵ (aT (K1 _ _ ?_));clear K1 M1;by_cases c1:t.ci=1
 ·cases t with
  |leaf n r0=>
   cases r0 with
   |hand x r=>
    refine ah λM1 K1=>cq T s0 pa (j:=1) rfl (bo ?_);clear K1;unfold aN at pa;obtain⟨a,dx,p,rfl,h1,h2⟩:=pa;refine Á (s0 _ _ h1) T.cF.cl T.eh rfl (Á (s0 _ _ h1) T.cF.cl T.gx rfl (Á (s0 _ _ h1) T.cF.cl T.gF rfl {by show 4<=sizeLine;decide,λu hu=>q (.ref u) _ (ai.upd hu _) ?_}));rw[à];exact gJ (ai.refl _) hu (.cons .s (.cons .i (.cons .s (.cons .i .nil))))
   |_=>cases c1
  |_=>cases c1
 refine ah λM1 K1=>bz T s0 pa c1 (aT (K1 _ _ ?_));clear K1 M1;by_cases c2:t.ci=2
 ·cases t with
  |leaf n r0=>
   cases r0 with
   |Ĭ x r z=>
    refine ah λM1 K1=>cq T s0 pa (j:=2) rfl (bo ?_);clear K1;unfold aN at pa;obtain⟨a,dx,p,rfl,h1,h2⟩:=pa;refine Á (s0 _ _ h1) T.bq.cl T.dH rfl (Á (s0 _ _ h1) T.bq.cl T.dE rfl (Á (s0 _ _ h1) T.bq.cl T.fj rfl (Á (s0 _ _ h1) T.bq.cl T.gf rfl {by show 5<=sizeLine;decide,λu hu=>q (.ref u) _ (ai.upd hu _) ?_})));rw[à];exact gJ (ai.refl _) hu (.cons .s (.cons .i (.cons .s (.cons .i (.cons .i .nil)))))
   |_=>cases c2
  |_=>cases c2
 refine ah λM1 K1=>bz T s0 pa c2 (aT (K1 _ _ ?_));clear K1 M1;by_cases c3:t.ci=3
 ·cases t with
  |leaf n r0=>
   cases r0 with
   |own x z=>
    refine ah λM1 K1=>cq T s0 pa (j:=3) rfl (bo ?_);clear K1;unfold aN at pa;obtain⟨a,dx,p,rfl,h1,h2⟩:=pa;refine Á (s0 _ _ h1) T.cL.cl T.fe rfl (Á (s0 _ _ h1) T.cL.cl T.fV rfl (Á (s0 _ _ h1) T.cL.cl T.gZ rfl {by show 4<=sizeLine;decide,λu hu=>q (.ref u) _ (ai.upd hu _) ?_}));rw[à];exact gJ (ai.refl _) hu (.cons .s (.cons .i (.cons .s (.cons .i .nil))))
   |_=>cases c3
  |_=>cases c3
 refine ah λM1 K1=>bz T s0 pa c3 (aT (K1 _ _ ?_));clear K1 M1;by_cases c4:t.ci=4
 ·cases t with
  |leaf n r0=>
   cases r0 with
   |lt x r=>
    refine ah λM1 K1=>cq T s0 pa (j:=4) rfl (bo ?_);clear K1;unfold aN at pa;obtain⟨a,dx,p,rfl,h1,h2⟩:=pa;refine Á (s0 _ _ h1) T.cC.cl T.fm rfl (Á (s0 _ _ h1) T.cC.cl T.fu rfl (Á (s0 _ _ h1) T.cC.cl T.fY rfl {by show 4<=sizeLine;decide,λu hu=>q (.ref u) _ (ai.upd hu _) ?_}));rw[à];exact gJ (ai.refl _) hu (.cons .s (.cons .i (.cons .s (.cons .i .nil))))
   |_=>cases c4
  |_=>cases c4
 refine ah λM1 K1=>bz T s0 pa c4 (aT (K1 _ _ ?_));clear K1 M1;have c13:t.ci=13:=by have:=nU t;lia
 clear c1 c2 c3 c4 c5 c6 c7 c8 c9 Ŵ ß ä;cases t with
 |bf n i ps b=>
  unfold aN at pa;obtain⟨a,dx,pp,pb,xb,rfl,h1,h2,h3,h4⟩:=pa;unfold gT at dp;rw[à]at ok;unfold é cb cb cb cb cb at ok;obtain⟨_,_,_,_,_,of,_⟩:=ok;cases d with
  |zero=>lia
  |succ d=>
  refine Á (s0 _ _ h1) T.a8.cl T.eE rfl (Á (s0 _ _ h1) T.a8.cl T.b4 rfl (Á (s0 _ _ h1) T.a8.cl T.cP rfl (Á (s0 _ _ h1) T.a8.cl T.bW rfl {N,X,pb,xb,b,rfl,s0,h3,h4,(),of,λu1 H1 s1 d1=>{by show 5<=sizeLine;decide,λu hu=>q (.ref u) _ (s1.trans (ai.upd hu _)) ?_}})));rw[à];exact gJ s1 hu (.cons .s (.cons .i (.cons .s (.cons (IH (uH.old ((s0.trans s1).trans (ai.upd hu _)) h2) (Gd _)) (.cons (cw.same (uH.mono (ai.upd hu _)) _ _ d1) .nil)))))
 |leaf n r=>cases r<;>cases c13
 |_=>cases c13
theorem wB(T:Txt K mg A)(d j:Nat)(Qo:T.oG.Hz P w base j (qF A d)):T.gN.Hz P w base (j+1) (oO A d):=by
 refine T.gN.hs (k:=j) pj (λf Ä A' outer s H vs Q E' hr hu h=>?_);obtain⟨N,X,L,xs,ts,rfl,s0,hL,pt,dp,ok,q⟩:=h;refine⟨_,(af (aP (lr (aQ (Ê aI T.ax (fv 0^(f9 (v:=.ty "list") rfl T.fF (by boot_by_name) rfl)^ae)) (λ_=>rfl)))
   (ag (aE fz))
   aJ)
  (ag (aE (fN (N:=["_law_row"]) (own:=1) (fr:=[]) (cN.of (by kernel_rfl!)) rfl (bu (fv 0)) (λb=>Ó (i:=0) (show QR (["_law_row"]:List Rb) by decide+kernel) rfl) (λb=>gW) (λb=>ao (hj:=by lia) Qo hr (fv 0^ae)))))),?_⟩
 refine ah λM1 K1=>{_,_,_,true,rfl,(λz=>by cases z),.lst (s0 _ _ hL),AJ,true,rfl,aT (K1 _ _ ?_)};clear K1 M1;have lx:=pt.len;unfold é at ok;rw[jh,NH]at ok;have ok2:=ok.2;rw[<-jh]at ok2;refine NI {{_,À.of (s0 _ _ hL)},mG (K:=K) (own:=1) (λD i ys H'=>Paired (λt y=>cw (uH X (upd H D (.lst [])) H') (à N t) y) (ts.take i) ys) (À.of (s0 _ _ hL)) (aL ()) (λD hD=>.nil) ?_ ?_}
 ·rintro b D i x v0 Hc ys Nn Y hx hv hD sc eD pr no yes;obtain⟨u0,rfl⟩:∃u0,v0=[u0]:=by
   match v0,hv with
   | [u],_=>exact⟨u,rfl⟩
  obtain⟨t,ht,pa⟩:=pt.get hx;have mt:t∈ts:=NO ht;refine qF.mk N X x t rfl (s0.trans sc) pa (NU (oz mt) dp) (yf ok2 mt) (λa H' s1 p1=>yes [Wv x] _ _ rfl s1 ?_);rw[Od,ht];have XD:X D=Ww:=ai.free s0 hD;have up:∀o,ai (uH X (upd H D (.lst [])) H') (uH X (upd H D (.lst [])) (upd H' D o)):=λo=>uH.upd XD (by rw[av];simp);have dn:∀z,Hc z=Ww->upd H D (.lst []) z=Ww:=λz h=>by
   by_cases e:z=D
   ·rw[e,eD]at h;cases h
   rw[aR e];exact ai.free sc h
  refine Paired.two (Paired.fg pr λt y h=>cw.same (up _) _ _ (cw.same (uH.mono s1) _ _ h)) (.cons ?_ .nil);exact cw.same (up _) _ _ (cw.same (uH.weak dn) _ _ p1)
 intro D H' ys hD s1 e1 pr;rw[show ts.take xs.length=ts by rw[lx];exact N0]at pr;refine q (.ref D) H' s1 ?_;unfold cw;refine{D,ys,rfl,uH.new hD e1,Gr (Paired.fg pr λt y h=>cw.same (uH.weak λz hz=>?_) _ _ h)};by_cases e:z=D
 ·rw[e];exact hD
 rw[aR e]at hz;exact hz
theorem Ah(T:Txt K mg A):∀d,T.gN.Hz P w base (2*d+3) (oO A d)
 |0=>wB T 0 2 (yJ T 0 1 (T.gN.hs (k:=0) pj (λ_ _ _ _ _ _ _ _ _ _ _ h=>h.elim) (λ_ _ _ _ h=>h.elim)))
 |d+1=>wB T (d+1) (2*d+4) (yJ T (d+1) (2*d+3) (Ah T d))
def Ń(N:Nat->Str)(hs ds ms:List Pt):Dt:=.t [.l (fD N hs),.l (fD N ds),.l (fD N ms)]
inductive zM(A:Ì)(vs:List V)(H:Hp)(Q:VK)(Ã:XK):Prop
 |mk(N:Nat->Str)(X:Hp)(v:V)(hs ds ms:List Pt):vs=[v]->ai X H->mB A N X v hs ds ms->cU hs<=5/\cU ds<=5/\cU ms<=5->é (Ń N hs ds ms)->(∀(u:V)(H':Hp),ai H H'->cw (uH X H H') (Ń N hs ds ms) u->Q u H')->zM A vs H Q Ã
theorem BP(T:Txt K mg A):T.iw.Hz P w base 14 (zM A):=by
 have A1:=Ah (P:=P) (w:=w) (base:=base) T 5;refine T.iw.hs (k:=13) pV (λf Ä A' outer s H vs Q E' hr hu h=>?_);obtain⟨N,X,v,hs,ds,ms,rfl,s0,⟨a,dx,n0,n1,n2,x0,x1,x2,rfl,ha,e0,e1,e2,p0,p1,p2⟩,⟨l0,l1,l2⟩,ok,q⟩:=h;unfold Ń é cb cb cb cb at ok;obtain⟨_,o0,o1,o2,_⟩:=ok;refine{_,(ag (aE (bj ((ao (hj:=by lia) A1 hr (aq (fv 0) rfl^ae))^(ao (hj:=by lia) A1 hr (aq (fv 0) rfl^ae))^(ao (hj:=by lia) A1 hr (aq (fv 0) rfl^ae))^ae)))),Á (s0 _ _ ha) T.bc.cl T.cO rfl {N,X,n0,x0,hs,rfl,s0,e0,p0,l0,o0,λu0 H0 s1 d0=>?_}};have sX:=s0.trans s1;refine Á (sX _ _ ha) T.bc.cl T.br rfl {N,X,n1,x1,ds,rfl,sX,e1,p1,l1,o1,λu1 H1 s2 d1=>?_};have š:=sX.trans s2;refine Á (š _ _ ha) T.bc.cl T.dh rfl {N,X,n2,x2,ms,rfl,š,e2,p2,l2,o2,λu2 H2 s3 d2=>{by show 3<=sizeLine;decide,λu hu=>q (.ref u) _ (((s1.trans s2).trans s3).trans (ai.upd hu _)) ?_}};unfold Ń;have s4:=ai.upd hu (.tup [u0,u1,u2]);exact gJ ((s1.trans s2).trans s3) hu (.cons (cw.same (uH.mono ((s2.trans s3).trans s4)) _ _ d0) (.cons (cw.same ((uH.weak λb e=>ai.free s1 e).trans (uH.mono (s3.trans s4))) _ _ d1) (.cons (cw.same ((uH.weak λb e=>ai.free (s1.trans s2) e).trans (uH.mono s4)) _ _ d2) .nil)))
theorem BI(pls:List Str):∀(l:List Lk)(cs:List Str),cs.Nodup->(∀x∈cs,x∈pls)->(∀k∈l,k.to∈pls)->
  (l.foldl Ă cs).Nodup/\(∀x∈l.foldl Ă cs,x∈pls)/\(∀k∈l,k.to∈l.foldl Ă cs)/\∃t,l.foldl Ă cs=cs++t
 | [],cs,nd,s,_=>{nd,s,λ_ h=>absurd h NZ,[],(Oi _).symm}
 |k::l,cs,nd,s,h=>by
  have one:(Ă cs k).Nodup/\(∀x∈Ă cs k,x∈pls)/\k.to∈Ă cs k/\∃t,Ă cs k=cs++t:=by
   unfold Ă;by_cases c:k.to∈cs
   ·rw[if_pos c];exact{nd,s,c,[],(Oi _).symm}
   rw[if_neg c];refine{OF.mpr {nd,Oq.mpr ⟨NZ,PB⟩,λa ma b mb e=>c ?_},λx hx=>?_,NR _ NL,_,rfl}
   ·rw[NF]at mb;exact mb▸e▸ma
   rcases NQ.mp hx with m|m
   ·exact s x m
   rw[NF.mp m];exact h k NL
  obtain⟨a,b,c,t,e⟩:=one;obtain⟨a2,b2,c2,t2,e2⟩:=BI pls l (Ă cs k) a b λq m=>h q (NK _ m);refine{a2,b2,λq m=>?_,t++t2,?_}
  ·rcases NJ.mp m with rfl|m
   ·show _∈l.foldl Ă (Ă cs q);rw[e2];exact N3 _ c
   exact c2 q m
  show l.foldl Ă (Ă cs k)=_;rw[e2,e,Oz]
theorem Ji{hs:List Pt}(h:((jc N hs).map (·.1)).Nodup)(r:Int):(WH N hs r).Nodup:=by
 unfold WH;exact(Pz.map _).nodup h
theorem KL{d:Nat}{hs ds ms:List Pt}(O:Ψ N d hs ds ms)(r:Int):∀x∈WH N hs r,x∈a9 N hs ds ms:=λx h=>by
 obtain⟨s,m,rfl⟩:=N4.mp h;exact O.ss s (Og.mp m).1
theorem Ir{d:Nat}{hs ds ms:List Pt}(O:Ψ N d hs ds ms)(b:Bool)(r:Int):(oT N b hs ds ms r).Nodup:=by
 have:∀(n i:Nat)(cs:List Str),cs.Nodup->(∀x∈cs,x∈a9 N hs ds ms)->(ke (dQ N b ds ms) n i cs).Nodup:=by
  intro n;induction n with
  |zero=>exact λi cs nd _=>nd
  |succ n ih=>
   intro i cs nd s;unfold ke;cases hx:cs[i]? with
   |none=>exact nd
   |some x=>
    obtain⟨a,b',_⟩:=BI _ (kP (dQ N b ds ms) x) cs nd s λk m=>O.to b k (Og.mp m).1;exact ih _ _ a b'
 exact this _ _ _ (Ji O.sn r) (KL O r)
theorem xy{r:Int}:∀(cs:List Str)(g:Str->Int),cs.Nodup->∀x,(cs.foldl (ň r) g) x=if x∈cs then QW (g x) (1*2^r.toNat)else g x
 | [],g,_,x=>by simp
 |c::cs,g,nd,x=>by
  rw[Oq]at nd;rw[OG,xy cs _ nd.2 x];by_cases e:x=c
  ·subst e;rw[if_neg nd.1,if_pos NL];show(if x=x then _ else _)=_;rw[if_pos rfl]
  have h:ň r g c x=g x:=if_neg e;rw[h];by_cases m:x∈cs
  ·rw[if_pos m,if_pos (NK _ m)]
  rw[if_neg m,if_neg λz=>(NJ.mp z).elim e m]
theorem rm{α β:Type}{p}{F:β->α->β}:∀(l:List α)(g:β),(∀r∈l,p r=false->∀g,F g r=g)->(l.filter p).foldl F g=l.foldl F g
 | [],g,_=>rfl
 |r::l,g,h=>by
  rw[PU,OG];cases e:p r with
  |true=>rw[if_pos rfl,OG];exact rm l _ λx hx=>h x (NK _ hx)
  |false=>rw[if_neg NT,h r NL e];exact rm l _ λx hx=>h x (NK _ hx)
theorem GU (ls):∀n,ke ls n 0 []=[]
 |0=>rfl
 |n+1=>rfl
theorem F0:QW 0 1=1/\QW 0 2=2/\QW 1 2=3/\QW 0 4=4/\QW 1 4=5/\QW 2 4=6/\QW 3 4=7:=by decide+kernel
def bt(c:Bool):Int:=if c=true then 1 else 0
theorem EL{d:Nat}{hs ds ms:List Pt}{b:Bool}(O:Ψ N d hs ds ms)(x:Str):mD N b hs ds ms x=bt (decide (x∈oT N b hs ds ms 0))+2*bt (decide (x∈oT N b hs ds ms 1))+4*bt (decide (x∈oT N b hs ds ms 2)):=by
 have nd:∀r,(oT N b hs ds ms r).Nodup:=λr=>Ir O b r;unfold mD ř;rw[rm (F:=λg r=>(oT N b hs ds ms r).foldl (ň r) g) [0,1,2] _ (λr _ h g=>by
  have e:WH N hs r=[]:=by
   unfold WH;rw[List.filter_eq_nil_iff.mpr]
   ·rfl
   intro s ms' z;exact of_decide_eq_false h (N4.mpr ⟨s,ms',of_decide_eq_true z⟩)
  show(oT N b hs ds ms r).foldl (ň r) g=g;unfold oT;rw[e,GU];rfl)]
 show((oT N b hs ds ms 2).foldl (ň 2) ((oT N b hs ds ms 1).foldl (ň 1) ((oT N b hs ds ms 0).foldl (ň 0) λ_=>0))) x=_;rw[xy _ _ (nd 2),xy _ _ (nd 1),xy _ _ (nd 0)];obtain⟨o1,o2,o3,o4,o5,o6,o7⟩:=F0;have p0:(1:Int)*2^(0:Int).toNat=1:=∅
 have p1:(1:Int)*2^(1:Int).toNat=2:=∅
 have p2:(1:Int)*2^(2:Int).toNat=4:=∅
 rw[p0,p1,p2];unfold bt;by_cases h0:x∈oT N b hs ds ms 0<;>by_cases h1:x∈oT N b hs ds ms 1<;>by_cases h2:x∈oT N b hs ds ms 2<;>simp[h0,h1,h2,o1,o2,o3,o4,o5,o6,o7]
mutual
theorem HN{u:Pt}:∀(t:Pt)(pl lp:Option Str),u∈ü t->∃e∈(t,pl,lp)::bA lp t,e.1=u
 | .leaf _ _,_,_,h=>absurd h NZ
 | .bf _ _ _ _,_,_,h=>absurd h NZ
 | .iff n v l r f o,pl,lp,h=>by
  rw[ü]at h;rw[bA];rcases NJ.mp h with rfl|h
  ·exact{_,NL,rfl}
  rcases NQ.mp h with h|h
  ·obtain⟨e,m,z⟩:=iO f (Wv (bp n)) lp h;exact{e,NK _ (N3 _ m),z}
  obtain⟨e,m,z⟩:=iO o (Wv (bp n)) lp h;exact{e,NK _ (NR _ m),z}
 | .loop n t m l r b,pl,lp,h=>by
  rw[ü]at h;rw[bA];rcases NJ.mp h with rfl|h
  ·exact{_,NL,rfl}
  obtain⟨e,m,z⟩:=iO b (Wv (bp n)) (Wv (bp n)) h;exact{e,NK _ m,z}
theorem iO{u:Pt}:∀(ts:List Pt)(pl lp:Option Str),u∈bJ ts->∃e∈bB pl lp ts,e.1=u
 | [],_,_,h=>by rw[bJ]at h;cases h
 |t::ts,pl,lp,h=>by
  rw[bJ]at h;rw[bB];rcases NQ.mp h with h|h
  ·obtain⟨e,m,z⟩:=HN t pl lp h;rcases NJ.mp m with m|m
   ·exact{e,m▸NL,z}
   exact{e,NK _ (N3 _ m),z}
  obtain⟨e,m,z⟩:=iO ts pl lp h;exact{e,NK _ (NR _ m),z}
end
theorem ur{ds ms:List Pt}{u:Pt}(h:u∈eZ ds++bJ ms):∃e∈bC N ds ms,e.1=u:=by
 unfold bC jq;rcases NQ.mp h with h|h
 ·obtain⟨p,mp,h⟩:=Oy.mp h;obtain⟨e,m,z⟩:=iO (d7 p) (Wv (ó N p)) Ww h;exact{e,N3 _ (Oy.mpr ⟨p,mp,m⟩),z}
 obtain⟨e,m,z⟩:=iO ms Ww Ww h;exact{e,NR _ m,z}
mutual
theorem Gv:∀(t:Pt),∀u∈ü t,u.ci=11\/u.ci=12
 | .leaf _ _,u,h=>absurd h NZ
 | .bf _ _ _ _,u,h=>absurd h NZ
 | .iff n v l r f o,u,h=>by
  rw[ü]at h;rcases NJ.mp h with rfl|h
  ·exact .inl rfl
  rcases NQ.mp h with h|h
  ·exact gm f u h
  exact gm o u h
 | .loop n t m l r b,u,h=>by
  rw[ü]at h;rcases NJ.mp h with rfl|h
  ·exact .inr rfl
  exact gm b u h
theorem gm:∀(ts:List Pt),∀u∈bJ ts,u.ci=11\/u.ci=12
 | [],u,h=>by rw[bJ]at h;cases h
 |t::ts,u,h=>by
  rw[bJ]at h;rcases NQ.mp h with h|h
  ·exact Gv t u h
  exact gm ts u h
end
mutual
theorem Ik{pl lp:Option Str}:∀(t:Pt),(ü t).length<=(bA lp t).length+1
 | .leaf _ _=>NS _
 | .bf _ _ _ _=>NS _
 | .iff n v l r f o=>by
  have h1:=iM (pl:=Wv (bp n)) (lp:=lp) f;have h2:=iM (pl:=Wv (bp n)) (lp:=lp) o;rw[ü,bA,N7,NG,NG];lia
 | .loop n t m l r b=>by
  have h1:=iM (pl:=Wv (bp n)) (lp:=Wv (bp n)) b;rw[ü,bA,N7];lia
theorem iM{pl lp:Option Str}:∀(ts:List Pt),(bJ ts).length<=(bB pl lp ts).length
 | []=>by rw[bJ];exact NS _
 |t::ts=>by
  have h1:=Ik (pl:=pl) (lp:=lp) t;have h2:=iM (pl:=pl) (lp:=lp) ts;rw[bJ,bB,NG,N7,NG];lia
end
theorem yL(N:Nat->Str):∀ds:List Pt,(eZ ds).length<=(jq N ds).length
 | []=>NS _
 |p::ds=>by
  have h1:=iM (pl:=Wv (ó N p)) (lp:=Ww) (d7 p);have h2:=yL N ds;unfold eZ jq at h2⊢;rw[OE,OE,NG,NG];lia
theorem OkG.bl{d:Nat}{hs ds ms:List Pt}(G:OkG N d hs ds ms):(eZ ds++bJ ms).length<=900:=by
 have h1:=yL N ds;have h2:=iM (pl:=Ww) (lp:=Ww) ms;have h3:=G.ab;unfold bC at h3;rw[NG]at h3⊢;lia
mutual
theorem Ib{pl lp:Option Str}:∀(t:Pt),TY (ü t) (t::(bA lp t).map (·.1))
 | .leaf _ _=>Px _
 | .bf _ _ _ _=>Px _
 | .iff n v l r f o=>by
  rw[ü,bA,Oc];exact(RH (i4 (pl:=Wv (bp n)) (lp:=lp) f) (i4 (pl:=Wv (bp n)) (lp:=lp) o)).cons₂ _
 | .loop n t m l r b=>by
  rw[ü,bA];exact(i4 (pl:=Wv (bp n)) (lp:=Wv (bp n)) b).cons₂ _
theorem i4{pl lp:Option Str}:∀(ts:List Pt),TY (bJ ts) ((bB pl lp ts).map (·.1))
 | []=>by rw[bJ];exact Px _
 |t::ts=>by
  rw[bJ,bB,N9,Oc];exact RH (Ib (pl:=pl) (lp:=lp) t) (i4 (pl:=pl) (lp:=lp) ts)
end
theorem uA(N:Nat->Str):∀ds:List Pt,TY (eZ ds) ((jq N ds).map (·.1))
 | []=>Px _
 |p::ds=>by
  have h2:=uA N ds;unfold eZ jq at h2⊢;rw[OE,OE,Oc];exact RH (i4 _) h2
theorem Ci(N:Nat->Str){ds ms:List Pt}(h:((bC N ds ms).map λe=>e.1.no).Nodup):((eZ ds++bJ ms).map Pt.no).Nodup:=by
 have e:((bC N ds ms).map λe=>e.1.no)=((bC N ds ms).map (·.1)).map Pt.no:=by rw[OD];rfl
 rw[e]at h;refine U0 (SG _ ?_) h;unfold bC;rw[Oc];exact RH (uA N ds) (i4 ms)
def thr(fl:Int):Int:=if fl=0 then 2 else if fl=1 then 4 else 8
theorem JO:∀(p q r:Bool)(k:Fin 3),decide (bt p+2*bt q+4*bt r ≥ thr k.val)=!Ee (bt p+2*bt q+4*bt r) k.val:=by decide+kernel
theorem J8{d:Nat}{hs ds ms:List Pt}(O:Ψ N d hs ds ms)(x:Str){fl:Int}(h0:0<=fl)(h1:fl<3):decide (mD N false hs ds ms x ≥ thr fl)=!Ee (mD N false hs ds ms x) fl:=by
 obtain⟨k,rfl⟩:∃k:Nat,fl=(k:Int):={fl.toNat,()};rw[EL O x];exact JO _ _ _ {k,()}
theorem Hw(N:Nat->Str)(ds ms:List Pt):(eZ ds++bJ ms).length<=(bC N ds ms).length:=by
 have:TY (eZ ds++bJ ms) ((bC N ds ms).map (·.1)):=by
  unfold bC;rw[Oc];exact RH (uA N ds) (i4 ms)
 have:=this.length_le;rw[NH]at this;exact this
theorem Lg{d:Nat}{hs ds ms:List Pt}(O:Ψ N d hs ds ms){fl:Int}(h0:0<=fl)(h1:fl<3)(nd:((bC N ds ms).map λe=>e.1.no).Nodup){t:Pt}(m:t∈eZ ds++bJ ms)(c:t.ci=11\/t.ci=12):decide (mD N false hs ds ms (bp t.no) ≥ thr fl)=Ϟ N hs ds ms fl t.no:=by
 rw[J8 O _ h0 h1];obtain⟨e,me,rfl⟩:=ur (N:=N) m;have hn:jo e.1=true:=by
  unfold jo;rcases c with c|c<;>rw[c]<;>rfl
 unfold Ϟ;by_cases f:Ee (mD N false hs ds ms (bp e.1.no)) fl=true
 ·rw[f];refine(decide_eq_false λz=>?_).symm;obtain⟨e',m',z⟩:=N4.mp z;obtain⟨_,m2⟩:=Og.mp m';unfold pL at m2;rw[show e'.1.no=e.1.no from z,f]at m2;simp at m2
 rw[Pe.mpr f];refine(decide_eq_true ?_).symm;refine N4.mpr {e,Og.mpr {me,?_},rfl};unfold pL;rw[hn,Pe.mpr f];rfl
def å:Pt->Int×Int
 | .iff _ _ l r _ _=>(l,r)
 | .loop _ _ _ l r _=>(l,r)
 |_=>(0,0)
theorem tu(T:Txt K mg A){X H:Hp}(s:ai X H){v:V}{t:Pt}(h:aN A N X v t)(c:t.ci=11\/t.ci=12){Q:VK}(q:Q (.int (å t).1) H):nQ K "left" v H Q:=by
 cases t with
 |leaf n r=>cases r<;>rcases c with c|c<;>cases c
 |bf _ _ _ _=>rcases c with c|c<;>cases c
 |iff n val l r f o=>
  unfold aN at h;obtain⟨a,dx,p,pf,po,xf,xo,rfl,h1,_⟩:=h;exact Á (s _ _ h1) T.aS.cl T.dJ rfl q
 |loop n th m l r b=>
  unfold aN at h;obtain⟨a,dx,pb,xb,rfl,h1,_⟩:=h;exact Á (s _ _ h1) T.aM.cl T.dj rfl q
theorem qS(T:Txt K mg A){X H:Hp}(s:ai X H){v:V}{t:Pt}(h:aN A N X v t)(c:t.ci=11\/t.ci=12){Q:VK}(q:Q (.int (å t).2) H):nQ K "right" v H Q:=by
 cases t with
 |leaf n r=>cases r<;>rcases c with c|c<;>cases c
 |bf _ _ _ _=>rcases c with c|c<;>cases c
 |iff n val l r f o=>
  unfold aN at h;obtain⟨a,dx,p,pf,po,xf,xo,rfl,h1,_⟩:=h;exact Á (s _ _ h1) T.aS.cl T.dS rfl q
 |loop n th m l r b=>
  unfold aN at h;obtain⟨a,dx,pb,xb,rfl,h1,_⟩:=h;exact Á (s _ _ h1) T.aM.cl T.cu rfl q
theorem LZ(ab:Int->Bool)(kn:Nat->Int){t:Pt}(c:t.ci=11\/t.ci=12):å (Î ab kn t)=if ab t.no=true then(mx ((Ĕ kn t).1+(å t).1) ((Ĕ kn t).2+(å t).2)-(Ĕ kn t).1,mx ((Ĕ kn t).1+(å t).1) ((Ĕ kn t).2+(å t).2)-(Ĕ kn t).2)else å t:=by
 cases t with
 |leaf n r=>cases r<;>rcases c with c|c<;>cases c
 |bf _ _ _ _=>rcases c with c|c<;>cases c
 |iff n v l r f o=>
  rw[Î];show evI ab n l r (cB kn f) (cB kn o)=if ab n=true then(mx (cB kn f+l) (cB kn o+r)-cB kn f,mx (cB kn f+l) (cB kn o+r)-cB kn o)else(l,r)
  unfold evI;rw[Pn l,Pn r]
 |loop n th m l r b=>
  rw[Î];show evL ab n l r (cB kn b)=if ab n=true then(mx (cB kn b+l) (0+r)-cB kn b,mx (cB kn b+l) (0+r)-0)else(l,r)
  unfold evL;rw[Pn l,O8,Int.sub_zero]
theorem Ih(T:Txt K mg A):∀d,T.nh.Hz P w base (2*d+2) (qQ A d)
 |0=>sY T 0 1 (T.jv.hs (k:=0) cM (λ_ _ _ _ _ _ _ _ _ _ _ h=>h.elim) (λ_ _ _ _ h=>h.elim))
 |d+1=>sY T (d+1) (2*d+3) (Gm T d)
def qw(H:Hp)(D:Qs)(bs:List Pt)(g:Pt->Int×Int):Prop:=∃kvs,H D=Wv (.dK kvs)/\∀t∈bs,∃p,L2.cc kvs (.inl t.no)=Wv (.ref p)/\H p=Wv (.tup [.int (g t).1,.int (g t).2])
theorem qw.same{H H':Hp}{D:Qs}{bs:List Pt}{g:Pt->Int×Int}(s:ai H H')(h:qw H D bs g):qw H' D bs g:=by
 obtain⟨kvs,e,h⟩:=h;refine{kvs,s _ _ e,λt m=>?_};obtain⟨p,e1,e2⟩:=h t m;exact{p,e1,s _ _ e2}
theorem xZ{H Hc:Hp}{D:Qs}{bs:List Pt}{g:Pt->Int×Int}{kvs ϓ:List (Key×V)}{n:Int}{v:V}(eD:Hc D=Wv (.dK ϓ))(ne:∀t∈bs,t.no≠n)(h:∀t∈bs,∃p,L2.cc kvs (.inl t.no)=Wv (.ref p)/\H p=Ww/\Hc p=Wv (.tup [.int (g t).1,.int (g t).2])) :
  ∀t∈bs,∃p,L2.cc (WD kvs (.inl n) v) (.inl t.no)=Wv (.ref p)/\H p=Ww/\(upd Hc D (.dK (WD kvs (.inl n) v))) p=Wv (.tup [.int (g t).1,.int (g t).2]):=λt m=>by
 obtain⟨p,e1,e2,e3⟩:=h t m
 refine{p,?_,e2,aK (λz=>by rw[z,eD]at e3;cases e3) e3}
 rw[ub,if_neg (λz=>ne t m (OR.inj z))]
 exact e1
theorem x8{H Hc:Hp}{bs:List Pt}{u:Pt}{g:Pt->Int×Int}{kvs:List (Key×V)}(h:∀t∈bs,∃p,L2.cc kvs (.inl t.no)=Wv (.ref p)/\H p=Ww/\Hc p=Wv (.tup [.int (g t).1,.int (g t).2])){p:Qs}(e1:L2.cc kvs (.inl u.no)=Wv (.ref p))(e2:H p=Ww)(e3:Hc p=Wv (.tup [.int (g u).1,.int (g u).2])) :
  ∀t∈bs++[u],∃p,L2.cc kvs (.inl t.no)=Wv (.ref p)/\H p=Ww/\Hc p=Wv (.tup [.int (g t).1,.int (g t).2]):=λt m=>by
 rcases NQ.mp m with m|m
 ·exact h t m
 rw[NF.mp m]
 exact⟨p,e1,e2,e3⟩
theorem uU{H Hc Hd:Hp}{bs:List Pt}{g:Pt->Int×Int}{kvs:List (Key×V)}(s:ai Hc Hd)(h:∀t∈bs,∃p,L2.cc kvs (.inl t.no)=Wv (.ref p)/\H p=Ww/\Hc p=Wv (.tup [.int (g t).1,.int (g t).2])):∀t∈bs,∃p,L2.cc kvs (.inl t.no)=Wv (.ref p)/\H p=Ww/\Hd p=Wv (.tup [.int (g t).1,.int (g t).2]):=λt m=>by
 obtain⟨p,e1,e2,e3⟩:=h t m;exact{p,e1,e2,s _ _ e3}
theorem JP{fl:Int}(h0:0<=fl)(h1:fl<3):Č [V.int 2,.int 4,.int 8] fl=Wv (.int (thr fl)):=by
 have:fl=0\/fl=1\/fl=2:=()
 rcases this with rfl|rfl|rfl<;>rfl
mutual
theorem Hj:∀t:Pt,ĉ t->∀u∈ü t,ĉ u
 | .leaf _ _,_,u,m=>absurd m NZ
 | .bf _ _ _ _,_,u,m=>absurd m NZ
 | .iff n v l r f o,h,u,m=>by
  rw[ü]at m;rcases NJ.mp m with rfl|m
  ·exact h
  unfold ĉ at h;rcases NQ.mp m with m|m
  ·exact kM f h.2.2.1 u m
  exact kM o h.2.2.2 u m
 | .loop n t m l r b,h,u,m'=>by
  rw[ü]at m';rcases NJ.mp m' with rfl|m'
  ·exact h
  unfold ĉ at h;exact kM b h.2 u m'
theorem kM:∀ts:List Pt,lI ts->∀u∈bJ ts,ĉ u
 | [],_,u,m=>by rw[bJ]at m;cases m
 |t::ts,h,u,m=>by
  unfold lI at h;rw[bJ]at m;rcases NQ.mp m with m|m
  ·exact Hj t h.1 u m
  exact kM ts h.2 u m
end
theorem HP(n:Int):(Rh "row ")++Rh (toString n)=bp n:=by
 unfold bp;rw[show Q4++(Rh "row ")=Rh "row " from by decide]
theorem uK(kvs:List (Key×V))(k:Key)(v:V):L2.cc (WD kvs k v) k=Wv v:=by rw[ub,if_pos rfl]
inductive CA(A:Ì)(d:Nat)(vs:List V)(H:Hp)(Q:VK)(Ã:XK):Prop
 |mk(N:Nat->Str)(X:Hp)(v:V)(fl:Int)(hs ds ms:List Pt)(z0:vs=[v,.int fl])(z1:ai X H)(z2:mB A N X v hs ds ms)(z3:OkG N d hs ds ms)(z4:0<=fl)(z5:fl<3)(z6:((bC N ds ms).map λe=>e.1.no).Nodup)
  (z7:∀(D:Qs)(H':Hp),ai H H'->qw (Õ H H') D (eZ ds++bJ ms) (λt=>å (Î (Ϟ N hs ds ms fl) (õ cB 0 ds) t))->Q (.ref D) H'):CA A d vs H Q Ã
theorem KR(T:Txt K mg A)(d:Nat):T.uu.Hz P w base (3*d+12) (CA A d):=by
 have P9  :=Ih (P:=P) (w:=w) (base:=base) T d;refine T.uu.hs (k:=3*d+11) eT (λf Ä A' outer s H vs Q E' hr hu h=>?_);obtain⟨N,X,v,fl,hs,ds,ms,rfl,s0,pg,G,f0,f3,nd,q⟩:=h;refine⟨_,(af (Å 2 eT.nd (ao (hj:=by lia) (GH T d) hr (fv 0^ae)))
  (af (Å 3 eT.nd (zi (hj:=by lia) (BS T d) hr (fv 0^ae)))
  (af (Å 4 eT.nd (nH))
  (af (bG Qz rfl (bu (ao (hj:=by lia) (AD T d) hr (fv 0^ae))) (Ó (i:=5) eT.nd rfl)
   (af (cx (bj (aq (fv 5) rfl^aq (fv 5) rfl^ae)) (cY (fv 4) (aq (fv 5) rfl) (mR hu)))
   (ag (aP (Ö ME (px hu (fv 3) (aG aW aF (į J2 T.sg (aq (fv 5) rfl^ae)))) (px hu (aZ (aj^aj^aj^ae)) (fv 1)))
    (af (cx (ao (hj:=by lia) P9 hr (fv 5^fv 2^ae)) (j3 rfl (bI (Ó (i:=6) eT.nd rfl) (bI (Ó (i:=7) eT.nd rfl) hV))))
    (af (Å 8 eT.nd (Ê wW T.qB (aG aW (fv 6) (aq (fv 5) rfl)^aG aW (fv 7) (aq (fv 5) rfl)^ae)))
    (ag (cx (bj (aG pE (fv 8) (fv 6)^aG pE (fv 8) (fv 7)^ae)) (cY (fv 4) (aq (fv 5) rfl) (mR hu))))))
    aJ))))
  (ag (aE (fv 4))))))),?_⟩
 have bl:(eZ ds++bJ ms).length<=64:=by have h1:=Hw N ds ms;have h2:=G.ab;lia
 have O:=G.e.u.t;refine ah λM1 K1=>{N,X,v,hs,ds,ms,rfl,s0,pg,G.dk,λp m=>{(G.db p m).1,(G.db p m).2.1},λDK H1 s1 hDK hK=>K1 _ _ ?_};clear K1 M1;rfl'
 refine ah λM1 K1=>{N,X,v,false,hs,ds,ms,rfl,s0.trans s1,pg,O,λá H2 s2 hB eB=>K1 _ _ ?_};clear K1 M1;rfl'
 refine ah λM1 K1 DD hDD=>?_;obtain⟨s3,eDD⟩:=Ñ hDD (HO.dK []);generalize upd H2 DD _=H3 at s3 eDD⊢;have t3:=(s1.trans s2).trans s3;have hD0:H DD=Ww:=ai.free (s1.trans s2) hDD;have hK3:=hK.same (s2.trans s3);have eB3:=s3 _ _ eB;have BD:á≠DD:=λz=>by rw[z,hDD]at eB;cases eB
 have KD:DK≠DD:=λz=>by obtain⟨_,Ο,_⟩:=hK.same s2;rw[z,hDD]at Ο;cases Ο
 clear hK eB;refine K1 _ _ ?_;clear K1 M1;rfl'
 refine ah λM1 K1=>{N,X,v,hs,ds,ms,rfl,s0.trans t3,pg,G.dk,G.ok.main,(),λR ys H4 s4 hR eR py=>?_};have Ρ:∀t∈eZ ds++bJ ms,t.ci=11\/t.ci=12:=λt m=>by
  rcases NQ.mp m with m|m
  ·obtain⟨p,_,m⟩:=Oy.mp m;exact gm _ _ m
  exact gm _ _ m
 have hge:=λt m=>Lg (fl:=fl) O f0 f3 nd (t:=t) m (Ρ t m);have hln:∀t∈eZ ds++bJ ms,ĉ t:=λt m=>by
  rcases NQ.mp m with m|m
  ·obtain⟨p,mp,m⟩:=Oy.mp m;exact kM _ (G.db p mp).2.1 t m
  exact kM _ G.mlo t m
 have ą:∀t∈eZ ds++bJ ms,bp t.no∈a9 N hs ds ms:=λt m=>by
  obtain⟨e,me,rfl⟩:=ur (N:=N) m;exact CG me (by unfold jo;rcases Ρ _ m with c|c<;>rw[c]<;>rfl)
 have Ξ:=λt (m:t∈eZ ds++bJ ms)=>ur (N:=N) m;have Œ:=Ci N nd;generalize Ϟ N hs ds ms fl=ab at q hge;generalize õ cB 0 ds=kn at q hK3;generalize hbs:eZ ds++bJ ms=bs at py bl Ρ hge Ξ Œ q hln ą;have lb:=Qy py;refine NI {{_,À.of eR},bw (K:=K) (xs:=ys) (λi B Hc=>∃(v5 v6 v7 v8:Option V)(kvs:List (Key×V)),B=[Wv v,Wv (.int fl),Wv (.ref DK),Wv (.ref á),Wv (.ref DD),v5,v6,v7,v8]/\Sm [DD] H4 Hc/\Hc DD=Wv (.dK kvs)/\kvs.length<=2*i/\∀t∈bs.take i,∃p,L2.cc kvs (.inl t.no)=Wv (.ref p)/\H p=Ww/\Hc p=Wv (.tup [.int (å (Î ab kn t)).1,.int (å (Î ab kn t)).2])) {Ww,Ww,Ww,Ww,[],rfl,Sm.refl _ _,s4 _ _ eDD,NS _,λt m=>by rw[O0]at m;cases m} (λi B Hd _ ⟨_,_,_,_,_,_,z,_⟩=>À.of (z _ _ (λm=>by rw[<-NF.mp m]at eDD;rw[s4 _ _ eDD]at eR;cases eR) eR)) ?_ ?_}
 ·rintro i y B Hc hy ⟨v5,v6,v7,v8,kvs,rfl,sc,ĭ,kl,hk⟩;obtain⟨t,ht,pa⟩:=cv py hy;have mt:t∈bs:=NO ht;have il:i<bs.length:=(NW.mp ht).1;have tk:bs.take (i+1)=bs.take i++[t]:=by rw[Od,ht];rfl
  have c:=Ρ t mt;have ge:=hge t mt;have ev:=LZ ab kn c;obtain⟨e,me,ee⟩:=Ξ t mt;have nb:=G.ok.nb e me;have Δ:=G.ck e me;rw[ee]at nb Δ;have X0:X DD=Ww:=ai.free s0 hD0;have sX:ai X Hc:=sc.same (s0.trans (t3.trans s4)) (λm hm=>by rw[NF.mp hm];exact X0);have hc0:∀{x},Hc x=Ww->H x=Ww:=λ{x} h=>ai.free (sc.same (t3.trans s4) (λm hm=>by rw[NF.mp hm];exact hD0)) h;rw[tk];rfl'
  refine ah λM1 K1=>tu T sX pa c (qS T sX pa c {by show 2<=sizeLine;decide,λp hp=>?_});obtain⟨s5,e5⟩:=Ñ hp (HO.tup [.int (å t).1,.int (å t).2]);generalize upd Hc p _=H5 at s5 e5⊢;have eD5:=s5 _ _ ĭ;have ll:kvs.length<sizeLine:=aL ();refine cQ T (sX.trans s5) pa {DD,_,rfl,gI.k (k:=.inl t.no) eD5 ll,?_};have ne:∀t'∈bs.take i,t'.no≠t.no:=λt' m e=>by
   have h:=(SG Pt.no (PD (i+1) bs)).nodup Œ;rw[tk,Oc]at h;exact(OF.mp h).2.2 _ (Oe m) _ (NF.mpr rfl) e
  have hp0:H p=Ww:=hc0 hp;have k5:∀t∈bs.take i,∃p,L2.cc kvs (.inl t.no)=Wv (.ref p)/\H p=Ww/\H5 p=Wv (.tup [.int (å (Î ab kn t)).1,.int (å (Î ab kn t)).2]):=λt m=>by
   obtain⟨p,e1,e2,e3⟩:=hk t m;exact{p,e1,e2,s5 _ _ e3}
  have k6:=xZ (n:=t.no) (v:=.ref p) eD5 ne k5;have m6:Sm [DD] H4 (upd H5 DD (.dK (WD kvs (.inl t.no) (.ref p)))):=(sc.trans (Sm.new s5)).trans (Sm.at (NF.mpr rfl) _);have e6:(upd H5 DD (.dK (WD kvs (.inl t.no) (.ref p)))) p=Wv (.tup [.int (å t).1,.int (å t).2]):=aK (λz=>by rw[z,eD5]at e5;cases e5) e5;have D6:(upd H5 DD (.dK (WD kvs (.inl t.no) (.ref p)))) DD=Wv (.dK (WD kvs (.inl t.no) (.ref p))):=av;have v6:=uK kvs (.inl t.no) (.ref p);have l6:=kL kvs (.inl t.no) (.ref p);generalize upd H5 DD (.dK (WD kvs (.inl t.no) (.ref p)))=H6 at k6 m6 e6 D6⊢;generalize WD kvs (.inl t.no) (.ref p)=kv6 at k6 D6 v6 l6;clear k5 eD5 e5 s5 ll hk;have ō:ai X H6:=m6.same (s0.trans (t3.trans s4)) (λm hm=>by rw[NF.mp hm];exact X0);refine K1 _ _ ?_;clear K1 M1;rfl'
  obtain⟨k,hkn⟩:∃k:Nat,t.no=(k:Int):={t.no.toNat,()};have w1:t.no.natAbs.log2<1920:=by rw[hkn];exact(iR {k,()}).1
  have w2:(Rh (toString t.no)).length<=20:=by rw[hkn];exact(iR {k,()}).2.1
  have gv:=tQ (f:=bV (mD N false hs ds ms)) (Oe (f:=N8) (ą t mt));refine cQ T ō pa (NI {t.no,rfl,w1,NU (Uw w2 _) ∅,?_});rw[HP];refine î (m6 _ _ (λm=>BD (NF.mp m)) (s4 _ _ eB3)) gv {by show 3<=sizeLine;decide,λL hL=>?_};obtain⟨s7,e7⟩:=Ñ hL (HO.lst [V.int 2,.int 4,.int 8]);generalize upd H6 L _=H7 at s7 e7⊢;refine ê (À.of e7) (JP f0 f3) {_,rfl,?_};rw[show decide (thr fl<=mD N false hs ds ms (bp t.no))=ab t.no from ge];have m7:Sm [DD] H4 H7:=m6.trans (Sm.new s7);have D7:=s7 _ _ D6;have k7:=uU s7 k6;have e7':=s7 _ _ e6;have sX7:=ō.trans s7;clear e7 k6 e6 D6 hL gv;cases ha:ab t.no with
  |false=>
   rw[ha,if_neg NT]at ev;refine aT {_,_,_,_,kv6,rfl,m7,D7,(),x8 k7 v6 hp0 ?_};rw[ev];exact e7'
  |true=>
   rw[ha,if_pos rfl]at ev;refine bo (ah λM1 K1=>?_);obtain⟨kvk,Ο,hk2⟩:=hK3;refine{N,X,y,DK,t,ds.map ð,kn,rfl,sX7,pa,Δ.2,Δ.1,hln t mt,{kvk,m7 _ _ (λm=>KD (NF.mp m)) (s4 _ _ Ο),hk2},c,λu H8 s8 eu=>{u,_,rfl,Ò.of eu,rfl,_,_,rfl,_,_,rfl,rfl,K1 _ _ ?_}};clear K1 M1;have sX8:=sX7.trans s8;rfl'
   refine ah λM1 K1=>tu T sX8 pa c (qS T sX8 pa c {_,_,rfl,K1 _ _ ?_});clear K1 M1;rfl'
   refine{by show 2<=sizeLine;decide,λp9 hp9=>?_};have s9:=ai.upd hp9 (HO.tup [.int (å (Î ab kn t)).1,.int (å (Î ab kn t)).2]);have e9:(upd H8 p9 (HO.tup [.int (å (Î ab kn t)).1,.int (å (Î ab kn t)).2])) p9=_:=av;have en:(HO.tup [.int (å (Î ab kn t)).1,.int (å (Î ab kn t)).2])=HO.tup [.int (mx ((Ĕ kn t).1+(å t).1) ((Ĕ kn t).2+(å t).2)-(Ĕ kn t).1),.int (mx ((Ĕ kn t).1+(å t).1) ((Ĕ kn t).2+(å t).2)-(Ĕ kn t).2)]:=by rw[ev]
   rw[show(HO.tup [.int ((if(Ĕ kn t).2+(å t).2>(Ĕ kn t).1+(å t).1 then(Ĕ kn t).2+(å t).2 else(Ĕ kn t).1+(å t).1)-(Ĕ kn t).1),.int ((if(Ĕ kn t).2+(å t).2>(Ĕ kn t).1+(å t).1 then(Ĕ kn t).2+(å t).2 else(Ĕ kn t).1+(å t).1)-(Ĕ kn t).2)])=HO.tup [.int (å (Î ab kn t)).1,.int (å (Î ab kn t)).2]from en.symm];generalize upd H8 p9 _=H9 at s9 e9⊢;have D9:=s9 _ _ (s8 _ _ D7);refine cQ T (sX8.trans s9) pa {DD,_,rfl,gI.k (k:=.inl t.no) D9 (aL ()),?_};have l9:=kL kv6 (.inl t.no) (.ref p9);exact{_,_,_,_,_,rfl,(m7.trans (Sm.new (s8.trans s9))).trans (Sm.at (NF.mpr rfl) _),av,(),x8 (xZ D9 ne (uU (s8.trans s9) k7)) (uK _ _ _) (ai.free (m7.same (t3.trans s4) (λm hm=>by rw[NF.mp hm];exact hD0)) (ai.free s8 hp9)) (aK (λz=>by rw[z,D9]at e9;cases e9) e9)}
 rintro B Hc ⟨v5,v6,v7,v8,kvs,rfl,sc,ĭ,kl,hk⟩;rw[show bs.take ys.length=bs by rw[<-lb];exact N0]at hk;refine K1 _ _ (q DD Hc (sc.same (t3.trans s4) (λm hm=>by rw[NF.mp hm];exact hD0)) {kvs,Õ.of hD0 ĭ,λt m=>?_});obtain⟨p,e1,e2,e3⟩:=hk t m;exact⟨p,e1,Õ.of e2 e3⟩
mutual
noncomputable def ī:Pt->Nat
 | .iff _ _ _ _ f o=>ë f+ë o+2
 | .loop _ _ _ _ _ b=>ë b+1
 |_=>0
noncomputable def ë:List Pt->Nat
 | []=>0
 |t::ts=>ī t+ë ts
end
theorem xX:∀as bs:List Pt,ë (as++bs)=ë as+ë bs
 | [],bs=>by rw[OA,ë];lia
 |t::as,bs=>by rw[Pg,ë,ë,xX as bs];lia
theorem yP{ts:List Pt}{i:Nat}{t:Pt}(h:ts[i]?=Wv t):ë (ts.take (i+1))=ë (ts.take i)+ī t:=by
 rw[WG h,xX,ë,ë];lia
theorem Kn{ts:List Pt}{i:Nat}{t:Pt}(h:ts[i]?=Wv t):ë (ts.take i)+ī t<=ë ts:=by
 rw[<-yP h];have:=congrArg ë (Ow (i+1) ts);rw[xX]at this;lia
mutual
theorem HV{lp:Option Str}:∀t:Pt,ī t<=2*(bA lp t).length+2
 | .leaf _ _=>NS _
 | .bf _ _ _ _=>NS _
 | .iff n v l r f o=>by
  have h1:=qL (pl:=Wv (bp n)) (lp:=lp) f;have h2:=qL (pl:=Wv (bp n)) (lp:=lp) o;rw[ī,bA,NG];lia
 | .loop n t m l r b=>by
  have h1:=qL (pl:=Wv (bp n)) (lp:=Wv (bp n)) b;rw[ī,bA];lia
theorem qL{pl lp:Option Str}:∀ts:List Pt,ë ts<=2*(bB pl lp ts).length
 | []=>by rw[ë];exact NS _
 |t::ts=>by
  have h1:=HV (lp:=lp) t;have h2:=qL (pl:=pl) (lp:=lp) ts;rw[ë,bB,N7,NG];lia
end
def WU(A:Ì)(N:Nat->Str)(X:Hp)(y:V):Prop:=∃b xs ts,y=.ref b/\X b=Wv (.lst xs)/\ba A N X xs ts/\é (.l (fD N ts))
inductive qN(A:Ì)(d:Nat)(vs:List V)(H:Hp)(Q:VK)(Ã:XK):Prop
 |mk(N:Nat->Str)(X:Hp)(L:Qs)(xs:List V)(ts:List Pt)(z0:vs=[.ref L])(z1:ai X H)(z2:X L=Wv (.lst xs))(z3:ba A N X xs ts)(z4:cU ts<=d)(z5:é (.l (fD N ts)))(z6:ë ts<=900)
  (z7:∀(R:Qs)(ys:List V)(H':Hp),ai H H'->H R=Ww->H' R=Wv (.lst ys)->ys.length=ë ts+1->(∀y∈ys,WU A N X y)->Q (.ref R) H'):qN A d vs H Q Ã
theorem yI(T:Txt K mg A)(d j:Nat)(P7:T.iS.Hz P w base j (Š (qN A) d)):T.iS.Hz P w base (j+1) (qN A d):=by
 refine T.iS.hs (k:=j) fO (λf Ä A' outer s H vs Q E' hr hu h=>?_);obtain⟨N,X,L,xs,ts,rfl,s0,hL,pt,dp,ok,ln,q⟩:=h;refine⟨_,(af (Å 1 fO.nd (aZ (fv 0^ae)))
  (af (bG Qz rfl (bu (fv 0)) (Ó (i:=2) fO.nd rfl)
   (ag (aP (aQ (Ê aI T.ax (fv 2^aO T.aS.mg^ae)) (λ_=>rfl))
    (ag (Å 1 fO.nd (aG aW (aG aW (fv 1) (ao (hj:=by lia) P7 hr (aq (fv 2) rfl^ae))) (ao (hj:=by lia) P7 hr (aq (fv 2) rfl^ae)))))
    (ag (aP (aQ (Ê aI T.ax (fv 2^aO T.aM.mg^ae)) (λ_=>rfl))
     (ag (Å 1 fO.nd (aG aW (fv 1) (ao (hj:=by lia) P7 hr (aq (fv 2) rfl^ae)))))
     aJ)))))
  (ag (aE (fv 1))))),?_⟩
 have okl:=ok;unfold é at okl;refine ah λM1 K1=>{by show 1<=sizeLine;decide,λR hR=>?_};obtain⟨s1,eR⟩:=Ñ hR (HO.lst [V.ref L]);generalize upd H R _=H1 at s1 eR⊢;refine K1 _ _ ?_;clear K1 M1;rfl'
 refine ah λM1 K1=>NI {{_,À.of ((s0.trans s1) _ _ hL)},bw (K:=K) (xs:=xs) (λi B Hc=>∃(F:Qs)(ys:List V)(v2:Option V),B=[Wv (.ref L),Wv (.ref F),v2]/\ai H Hc/\H F=Ww/\Hc F=Wv (.lst ys)/\ys.length=ë (ts.take i)+1/\∀y∈ys,WU A N X y) {R,[.ref L],Ww,rfl,s1,hR,eR,by rw[O0,ë];rfl,λy m=>by rw[NF.mp m];exact⟨L,xs,ts,rfl,hL,pt,ok⟩} (λi B Hc _ ⟨_,_,_,_,z,_⟩=>À.of ((s0.trans z) _ _ hL)) ?_ ?_}
 ·rintro i v B Hc hv ⟨F,ys,v2,rfl,sc,hF,eF,ly,py⟩;obtain⟨t,ht,pa⟩:=pt.get hv;have sX:=s0.trans sc;have mt:t∈ts:=NO ht;have ŝ:=NU (oz mt) dp;have ń:=yf okl.2 mt;have lt:=Kn ht;rw[yP ht];clear hv ht mt hL eR q dp K1 ok okl;have no:ī t=0->∃(G:Qs)(ys:List V)(v2':Option V),[Wv (V.ref L),Wv (.ref F),Wv v]=[Wv (V.ref L),Wv (.ref G),v2']/\ai H Hc/\H G=Ww/\Hc G=Wv (.lst ys)/\ys.length=ë (ts.take i)+ī t+1/\∀y∈ys,WU A N X y:=λe=>{F,ys,_,rfl,sc,hF,eF,by rw[e];exact ly,py};cases t with
  |leaf n r=>
   exact bz T sX pa (j:=11) (by cases r<;>simp[Pt.ci,Lr.ci]) (aT (bz T sX pa (j:=12) (by cases r<;>simp[Pt.ci,Lr.ci]) (aT (no rfl))))
  |bf n i' ps b=>
   exact bz T sX pa (j:=11) (by simp[Pt.ci]) (aT (bz T sX pa (j:=12) (by simp[Pt.ci]) (aT (no rfl))))
  |iff n val l r fs os=>
   refine cq T sX pa (j:=11) rfl (bo ?_);unfold aN at pa;unfold gT at ŝ;obtain⟨a,dx,p,pf,po,xf,xo,rfl,h1,h2,h3,h4,h5,h6⟩:=pa;rw[à]at ń;unfold é cb cb cb cb cb at ń;obtain⟨_,_,_,_,of,oo,_⟩:=ń;have eb:ī (.iff n val l r fs os)=ë fs+ë os+2:=by rw[ī]
   rw[eb]at lt⊢;cases d with
   |zero=>lia
   |succ d=>
   refine Á (sX _ _ h1) T.aS.cl T.bX rfl {N,X,pf,xf,fs,rfl,sX,h3,h5,(),of,(),λR4 y4 H4 s4 n4 e4 l4 p4=>{F,R4,_,_,rfl,rfl,s4 _ _ eF,e4,sz (),λL5 ĩ=>?_}};obtain⟨s5,e5⟩:=Ñ ĩ (HO.lst (ys++y4));generalize upd H4 L5 _=H5 at s5 e5⊢;have t5:=s4.trans s5;have h5':Hc L5=Ww:=ai.free s4 ĩ;clear e4 ĩ;refine Á ((sX.trans t5) _ _ h1) T.aS.cl T.bZ rfl {N,X,po,xo,os,rfl,sX.trans t5,h4,h6,(),oo,(),λR6 y6 H6 s6 n6 e6 l6 p6=>{L5,R6,_,_,rfl,rfl,s6 _ _ e5,e6,sz (by rw[NG];lia),λL7 hL7=>{L7,_,_,rfl,(sc.trans (t5.trans s6)).trans (ai.upd hL7 _),ai.free (sc.trans (t5.trans s6)) hL7,av,?_,λy m=>?_}}}
   ·rw[NG,NG];lia
   rcases NQ.mp m with m|m
   ·exact(NQ.mp m).elim (py y) (p4 y)
   exact p6 y m
  |loop n th m l r b=>
   refine bz T sX pa (j:=11) (by simp[Pt.ci]) (aT (cq T sX pa (j:=12) rfl (bo ?_)));unfold aN at pa;unfold gT at ŝ;obtain⟨a,dx,pb,xb,rfl,h1,h2,h3⟩:=pa;rw[à]at ń;unfold é cb cb cb cb cb at ń;obtain⟨_,_,_,_,_,of,_⟩:=ń;have eb:ī (.loop n th m l r b)=ë b+1:=by rw[ī]
   rw[eb]at lt⊢;cases d with
   |zero=>lia
   |succ d=>
   refine Á (sX _ _ h1) T.aM.cl T.bM rfl {N,X,pb,xb,b,rfl,sX,h2,h3,(),of,(),λR4 y4 H4 s4 n4 e4 l4 p4=>{F,R4,_,_,rfl,rfl,s4 _ _ eF,e4,sz (),λL5 ĩ=>{L5,_,_,rfl,(sc.trans s4).trans (ai.upd ĩ _),ai.free (sc.trans s4) ĩ,av,?_,λy m=>?_}}}
   ·rw[NG];lia
   exact(NQ.mp m).elim (py y) (p4 y)
 rintro B Hc ⟨F,ys,v2,rfl,sc,hF,eF,ly,py⟩;rw[show ts.take xs.length=ts by rw[pt.len];exact N0]at ly;exact K1 _ _ (q F ys Hc sc hF eF ly py)
theorem xM(T:Txt K mg A):∀d,T.iS.Hz P w base (d+2) (qN A d)
 |0=>yI T 0 1 (T.iS.hs (k:=0) fO (λ_ _ _ _ _ _ _ _ _ _ _ h=>h.elim) (λ_ _ _ _ h=>h.elim))
 |d+1=>yI T (d+1) (d+2) (xM T d)
def LK(X H H':Hp):Prop:=∀a o,(∀zs,X a≠Wv (.lst zs))->H a=Wv o->H' a=Wv o
theorem LK.refl(X H:Hp):LK X H H:=λ_ _ _ h=>h
theorem LK.trans{X H H' ό:Hp}(h:LK X H H')(h':LK X H' ό):LK X H ό:=λa o n e=>h' a o n (h a o n e)
theorem LK.new{X H H':Hp}(s:ai H H'):LK X H H':=λa o _ e=>s a o e
theorem LK.at{X H:Hp}{b:Qs}{zs:List V}(h:X b=Wv (.lst zs))(o:HO):LK X H (upd H b o):=λa u n e=>aK (λz=>n zs (z▸h)) e
def Lsz(X H:Hp)(i:Nat):Prop:=∀a zs,X a=Wv (.lst zs)->∃ws,H a=Wv (.lst ws)/\ws.length<=zs.length+i
def Ku(X:Hp)(y:V):Prop:=∃b zs,y=.ref b/\X b=Wv (.lst zs)/\zs.length<=900
inductive Af(A:Ì)(vs:List V)(H:Hp)(Q:VK)(Ã:XK):Prop
 |mk(N:Nat->Str)(X:Hp)(v:V)(hs ds ms:List Pt)(z0:vs=[v])(z1:ai X H)(z2:mB A N X v hs ds ms)(z3:∀t∈ds,uD t)(z4:cU ds<=5)(z5:cU ms<=5)(z6:é (Ń N hs ds ms))(z7:ë ms<=200)(z8:∀t∈ds,ë (d7 t)<=200)(z9:ds.length<=2)
  (z10:∀H':Hp,LK X H H'->Q .È H'):Af A vs H Q Ã
theorem Cq(T:Txt K mg A):T.rf.Hz P w base 9 (Af A):=by
 have M7:=ib (P:=P) (w:=w) (mg:=mg) (base:=base) (A:=A) T.gq;refine T.rf.hs (k:=8) cW (λf Ä A' outer s H vs Q E' hr hu h=>?_);obtain⟨N,X,v,hs,ds,ms,rfl,s0,⟨a,dx,n0,n1,n2,x0,x1,x2,rfl,ha,e0,e1,e2,p0,p1,p2⟩,dd,dds,dms,ok,lm,ld,dl,q⟩:=h;unfold Ń é cb cb cb cb at ok;obtain⟨_,o0,o1,o2,_⟩:=ok;refine⟨_,(af (Å 1 cW.nd (aG aW (aZ (aq (fv 0) rfl^aq (fv 0) rfl^ae)) (ao (hj:=by lia) (xM T 5) hr (aq (fv 0) rfl^ae))))
  (af (Å 2 cW.nd (aZ ae))
  (af (bG Qz rfl (bu (aq (fv 0) rfl)) (Ó (i:=3) cW.nd rfl)
   (af (Å 1 cW.nd (aG aW (fv 1) (ao (hj:=by lia) (xM T 5) hr (aq (fv 3) rfl^ae))))
   (ag (aU (bx (fv 2) (aq (fv 3) rfl^ae))))))
  (af (bG Qz rfl (bu (fv 1)) (Ó (i:=4) cW.nd rfl)
   (ag (bG Qz rfl (bu (fv 4)) (Ó (i:=5) cW.nd rfl)
    (ag (aP (aQ (Ê aI T.ax (fv 5^aO T.bh.mg^ae)) (λ_=>rfl))
     (ag (aU (bx (fv 2) (aq (fv 5) rfl^ae))))
     aJ)))))
  (af (bG Qz rfl (bu (fv 1)) (Ó (i:=6) cW.nd rfl)
   (af (aU (bx (fv 6) ((bb (hj:=by lia) T.dG M7 hr (aj^ae))^ae)))
   (ag (aU (wV (fv 6))))))
  (ag (bG Qz rfl (bu (fv 2)) (Ó (i:=6) cW.nd rfl)
   (af (aU (bx (fv 6) (aF^ae)))
   (ag (aU (wV (fv 6)))))))))))),?_⟩
 refine ah λM1 K1=>Á (s0 _ _ ha) T.bc.cl T.cO rfl (Á (s0 _ _ ha) T.bc.cl T.br rfl {by show 2<=sizeLine;decide,λL1 Ŝ=>?_});obtain⟨s1,f1⟩:=Ñ Ŝ (HO.lst [V.ref n0,.ref n1]);generalize upd H L1 _=H1 at s1 f1⊢;refine Á ((s0.trans s1) _ _ ha) T.bc.cl T.dh rfl {N,X,n2,x2,ms,rfl,s0.trans s1,e2,p2,dms,o2,(),λR2 y2 H2 s2 n2' f2 l2 q2=>{L1,R2,_,_,rfl,rfl,s2 _ _ f1,f2,sz (by show 2+y2.length<=1000;lia),λS hS=>?_}};obtain⟨s3,f3⟩:=Ñ hS (HO.lst ([V.ref n0,.ref n1]++y2));generalize upd H2 S _=H3 at s3 f3⊢;have t3:=(s1.trans s2).trans s3;have S0:H S=Ww:=ai.free (s1.trans s2) hS;have q3:∀y∈[V.ref n0,.ref n1]++y2,WU A N X y:=λy m=>by
  rcases NQ.mp m with m|m
  ·rcases NJ.mp m with rfl|m
   ·exact⟨n0,x0,hs,rfl,e0,p0,o0⟩
   rw[NF.mp m];exact⟨n1,x1,ds,rfl,e1,p1,o1⟩
  exact q2 y m
 have l3:([V.ref n0,.ref n1]++y2).length<=300:=by rw[NG];show 2+y2.length<=300;lia
 generalize [V.ref n0,.ref n1]++y2=y3 at f3 q3 l3;clear f1 f2 hS Ŝ q2 l2 s1 s2 s3 n2';refine K1 _ _ ?_;clear K1 M1;rfl'
 refine ah λM1 K1=>{NS _,λW hW=>K1 _ _ ?_};clear K1 M1;obtain⟨s4,f4⟩:=Ñ hW (HO.lst []);have SW:S≠W:=(Wx hW f3).symm;generalize upd H3 W _=H4 at s4 f4⊢;have W0:H W=Ww:=ai.free t3 hW;have t4:=t3.trans s4;have XW:X W=Ww:=ai.free s0 W0;have wX:∀m∈[W],X m=Ww:=λm hm=>by rw[NF.mp hm];exact XW
 have f3':=s4 _ _ f3;clear f3 hW s4 t3;have okd:=o1;unfold é at okd;rfl'
 refine ah λM1 K1=>Á ((s0.trans t4) _ _ ha) T.bc.cl T.br rfl (NI {{_,À.of ((s0.trans t4) _ _ e1)},bw (K:=K) (xs:=x1) (λi B Hc=>∃(S:Qs)(ys ws:List V)(v3:Option V),B=[Wv (.ref a),Wv (.ref S),Wv (.ref W),v3,Ww,Ww,Ww]/\Sm [W] H4 Hc/\H S=Ww/\S≠W/\Hc S=Wv (.lst ys)/\Hc W=Wv (.lst ws)/\ys.length<=300+201*i/\ws.length<=i/\(∀y∈ys,WU A N X y)/\∀y∈ws,Ku X y) {S,y3,[],Ww,rfl,Sm.refl _ _,S0,SW,f3',f4,(),NM _,q3,λ_ m=>absurd m NZ} (λi B Hc _ ⟨_,_,_,_,_,z,_⟩=>À.of (z.same (s0.trans t4) wX _ _ e1)) ?_ ?_})
 ·rintro i y B Hc hy ⟨S,ys,ws,v3,rfl,sc,hS,nS,eS,eW,ly,lw,ay,aw⟩;obtain⟨t,ht,pa⟩:=p1.get hy;have mt:t∈ds:=NO ht;have il:i<ds.length:=(NW.mp ht).1;have dt:=dd t mt;have lt:=ld t mt;have ń:=yf okd.2 mt;have ŝ:=NU (oz mt) dds;have sX:=sc.same (s0.trans t4) wX;clear ht hy mt;cases t with
  |bf n i' ps b=>
   unfold aN at pa;obtain⟨a',Ų,pp,pb,xb,rfl,h1,h2,h3,h4⟩:=pa;unfold gT at ŝ;rw[à]at ń;unfold é cb cb cb cb cb é at ń;obtain⟨_,_,_,_,op,of,_⟩:=ń;rfl'
   refine ah λM1 K1=>Á (sX _ _ h1) T.a8.cl T.bW rfl {N,X,pb,xb,b,rfl,sX,h3,h4,(),(by unfold é;exact of),(by have:ë b<=200:=lt;lia),λR5 y5 H5 s5 n5 e5 l5 a5=>?_};have lb:ë b<=200:=lt;refine{S,R5,_,_,rfl,rfl,s5 _ _ eS,e5,sz (),λL6 hL6=>?_};obtain⟨s6,e6⟩:=Ñ hL6 (HO.lst (ys++y5));have t6:=s5.trans s6;have h6:Hc L6=Ww:=ai.free s5 hL6;have nW6:L6≠W:=λz=>by rw[z]at h6;rw[h6]at eW;cases eW
   have h60:H L6=Ww:=ai.free (sc.same t4 (λm hm=>by rw[NF.mp hm];exact W0)) h6;generalize upd H5 L6 _=H6 at s6 e6 t6⊢;clear e5 hL6;have eW6:=t6 _ _ eW;refine K1 _ _ ?_;clear K1 M1;rfl'
   refine{NI {rfl,_,À.of eW6},Á ((sX.trans t6) _ _ h1) T.a8.cl T.cP rfl {_,_,_,rfl,rfl,eW6,aL (),{L6,ys++y5,ws++[V.ref pp],_,rfl,(sc.trans (Sm.new t6)).trans (Sm.at (NF.mpr rfl) _),h60,nW6,aK nW6 e6,av,by rw[NG];lia,by rw[NG,N6];lia,λy m=>(NQ.mp m).elim (ay y) (a5 y),λy m=>?_}}};rcases NQ.mp m with m|m
   ·exact aw y m
   rw[NF.mp m];exact{pp,_,rfl,h2,by have:=op.1;rw[NH]at this;exact this}
  |_=>exact dt.elim
 rintro B Hc ⟨S,ys,ws,v3,rfl,sc,hS,nS,eS,eW,ly,lw,ay,aw⟩;refine K1 _ _ ?_;clear K1 M1;rw[p1.len]at ly lw;have t5:=sc.same t4 (λm hm=>by rw[NF.mp hm];exact W0);have XS:X S=Ww:=ai.free s0 hS;clear f3' f4 q3 l3 S0 SW t4 sc;have Ϗ:=s0.trans t5;rfl'
 refine ah λM1 K1=>NI {{_,À.of eS},bw (K:=K) (xs:=ys) (λi B Hd=>∃(ws:List V)(v4 v5:Option V),B=[Wv (.ref a),Wv (.ref S),Wv (.ref W),v3,v4,v5,Ww]/\Sm [W] Hc Hd/\Hd W=Wv (.lst ws)/\ws.length<=2+900*i/\∀y∈ws,Ku X y) {ws,Ww,Ww,rfl,Sm.refl _ _,eW,(),aw} (λi B Hd _ ⟨_,_,_,_,z,_⟩=>À.of (z _ _ (λm=>nS (NF.mp m)) eS)) ?_ ?_}
 ·rintro i y B Hd hy ⟨us,v4,v5,rfl,sd,dW,lu,au⟩;obtain⟨b,xs,ts,rfl,hb,pb,okb⟩:=ay y (NO hy);have il:i<ys.length:=(NW.mp hy).1;unfold é at okb;have lx:=pb.len;have lts:=okb.1;rw[jh,NH]at lts;have sXd:=sd.same Ϗ wX;clear hy;rfl'
  refine NI {{_,À.of (sXd _ _ hb)},bw (K:=K) (xs:=xs) (λj B He=>∃(ws:List V)(v5:Option V),B=[Wv (.ref a),Wv (.ref S),Wv (.ref W),v3,Wv (.ref b),v5,Ww]/\Sm [W] Hc He/\He W=Wv (.lst ws)/\ws.length<=2+900*i+j/\∀y∈ws,Ku X y) ⟨us,v5,rfl,sd,dW,lu,au⟩ (λj B He _ ⟨_,_,_,z,_⟩=>À.of (z.same Ϗ wX _ _ hb)) ?_ ?_}
  ·rintro j x B He hx ⟨zs,v5,rfl,se,eWe,lz,az⟩;obtain⟨t,ht,pa⟩:=pb.get hx;have mt:t∈ts:=NO ht;have jl:j<ts.length:=(NW.mp ht).1;have ń:=yf okb.2 mt;have sXe:=se.same Ϗ wX;clear ht hx mt;rfl'
   by_cases c9:t.ci=9
   ·refine cq T sXe pa c9 (bo ?_);cases t with
    |leaf n r=>
     cases r with
     |call ci ts'=>
      unfold aN at pa;obtain⟨a',Ų,p,rfl,h1,h2⟩:=pa;rw[à,lfD]at ń;unfold é cb cb cb cb é at ń;have lt':=ń.2.2.2.2.1.1;rw[NH]at lt';refine{NI {rfl,_,À.of eWe},Á (sXe _ _ h1) T.bh.cl T.df rfl {_,_,_,rfl,rfl,eWe,Pa (show zs.length<=1000000 by lia) ∅,{zs++[V.ref p],_,rfl,se.trans (Sm.at (NF.mpr rfl) _),av,by rw[NG,N6];lia,λy m=>?_}}};rcases NQ.mp m with m|m
      ·exact az y m
      rw[NF.mp m];exact{p,_,rfl,h2 _ rfl,lt'}
     |_=>cases c9
    |_=>cases c9
   exact bz T sXe pa c9 (aT {zs,_,rfl,se,eWe,(),az})
  rintro B He ⟨zs,v5,rfl,se,eWe,lz,az⟩;exact{zs,_,_,rfl,se,eWe,(),az}
 rintro B Hd ⟨us,v4,v5,rfl,sd,dW,lu,au⟩;refine K1 _ _ ?_;clear K1 M1;have t6:=sd.same t5 (λm hm=>by rw[NF.mp hm];exact W0);have ō:=s0.trans t6;have eS6:=sd _ _ (λm=>nS (NF.mp m)) eS;have lu2:us.length<=1000000:=()
 have XSn:∀zs,X S≠Wv (.lst zs):=λzs=>by rw[XS];exact λe=>by cases e
 have XWn:∀zs,X W≠Wv (.lst zs):=λzs=>by rw[XW];exact λe=>by cases e
 clear eS eW sd aw lw t5 Ϗ nS lu p0 p1 p2 e0 e1 e2 ha;rfl'
 refine ah λM1 K1=>NI {{_,À.of eS6},bw (K:=K) (xs:=ys) (λi B He=>∃(v6:Option V),B=[Wv (.ref a),Wv (.ref S),Wv (.ref W),v3,v4,v5,v6]/\LK X Hd He/\Lsz X He i) {Ww,rfl,LK.refl _ _,λb zs e=>{zs,ō _ _ e,()}} (λi B He _ ⟨_,_,z,_⟩=>À.of (z _ _ XSn eS6)) ?_ ?_}
 ·rintro i y B He hy ⟨v6,rfl,se,le⟩;obtain⟨b,xs,ts,rfl,hb,pb,okb⟩:=ay y (NO hy);have il:i<ys.length:=(NW.mp hy).1;unfold é at okb;have lx:=pb.len;have lts:=okb.1;rw[jh,NH]at lts;obtain⟨ws,ew,lws⟩:=le b xs hb;clear hy okb pb;rfl'
  refine ah λM1 K1=>{NI {rfl,_,À.of ew},λr6 Ć Ë hd_ hne_=>uQ T Ë hd_ λH6 s6 hx=>{rfl,_,_,_,rfl,rfl,s6 _ _ ew,Pa (show ws.length<=1000000 by lia) ∅,K1 _ _ ?_}};clear K1 M1;rfl'
  refine{NI {rfl,_,À.of av},b,_,rfl,rfl,av,{_,rfl,((se.trans (LK.new s6)).trans (LK.at hb _)).trans (LK.at hb _),?_}};have h1:(ws++[V.ref r6]).reverse.length<=xs.length+i+1:=by rw[O9,NG,N6];lia
  intro b' zs' e';by_cases z:b'=b
  ·subst z;rw[hb]at e';cases e';exact{_,av,()}
  obtain⟨us',e1,e2⟩:=le b' zs' e';exact{us',by rw[aR z,aR z];exact s6 _ _ e1,()}
 rintro B He ⟨v6,rfl,se,le⟩;refine K1 _ _ ?_;clear K1 M1;rfl'
 refine NI {{_,À.of (se _ _ XWn dW)},bw (K:=K) (xs:=us) (λi B Hf=>∃(v6:Option V),B=[Wv (.ref a),Wv (.ref S),Wv (.ref W),v3,v4,v5,v6]/\LK X Hd Hf/\Lsz X Hf (ys.length+i)) ⟨v6,rfl,se,le⟩ (λi B Hf _ ⟨_,_,z,_⟩=>À.of (z _ _ XWn dW)) ?_ ?_}
 ·rintro i y B Hf hy ⟨v6,rfl,sf,lf⟩;obtain⟨b,xs,rfl,hb,lx⟩:=au y (NO hy);have il:i<us.length:=(NW.mp hy).1;obtain⟨ws,ew,lws⟩:=lf b xs hb;clear hy;rfl'
  refine ah λM1 K1=>{NI {rfl,_,À.of ew},{_,_,_,rfl,rfl,ew,Pa (show ws.length<=2000000 by lia) ∅,K1 _ _ ?_}};clear K1 M1;rfl'
  refine{NI {rfl,_,À.of av},b,_,rfl,rfl,av,{_,rfl,(sf.trans (LK.at hb _)).trans (LK.at hb _),?_}};have h1:(ws++[V.str "z"]).reverse.length<=xs.length+(ys.length+i)+1:=by rw[O9,NG,N6];lia
  intro b' zs' e';by_cases z:b'=b
  ·subst z;rw[hb]at e';cases e';exact{_,av,()}
  obtain⟨us',e1,e2⟩:=lf b' zs' e';exact{us',by rw[aR z,aR z];exact e1,()}
 rintro B Hf ⟨v6,rfl,sf,lf⟩;exact q Hf ((LK.new t6).trans sf)
theorem dgn{H:Hp}{D:Qs}{kvs:List (Key×V)}{n:Int}{v:V}{Q:VK}(h:H D=Wv (.dK kvs))(e:L2.cc kvs (.inl n)=Wv v)(q:Q v H):dgI D (.int n) H Q:={v,e▸nG.k (k:=.inl n) h,q}
theorem qA:∀vs:List V,ju (vs.map Dt.f)=0
 | []=>rfl
 |v::vs=>by rw[N9,ju,qA vs,sJ];rfl
mutual
theorem JC:∀t:Pt,sJ (à N t)<=2*gT t+2
 | .leaf n r=>by
  rw[à];cases r<;>simp[lfD,sJ,ju,vD,qA,gT,-OD]
 | .iff n v l r f o=>by
  have h1:=jT f;have h2:=jT o;simp[à,sJ,ju,vD,qA,gT,-OD];lia
 | .loop n t m l r b=>by
  have h1:=jT b;simp[à,sJ,ju,gT];lia
 | .bf n i ps b=>by
  have h1:=jT b;simp[à,sJ,ju,qA,gT,-OD];lia
theorem jT:∀ts:List Pt,ju (fD N ts)<=2*cU ts+2
 | []=>by rw[fD,ju];lia
 |t::ts=>by
  have h1:=JC t;have h2:=jT ts;rw[fD,ju,cU];lia
end
theorem HA{hs ds ms:List Pt}(h0:cU hs<=5)(h1:cU ds<=5)(h2:cU ms<=5):sJ (Ń N hs ds ms)<=14:=by
 have a0:=jT (N:=N) hs;have a1:=jT (N:=N) ds;have a2:=jT (N:=N) ms;simp[Ń,sJ,ju];lia
structure Shp(N:Nat->Str)(d:Nat)(hs ds ms:List Pt):Prop where
 h0:cU hs<=5
 h1:cU ds<=5
 h2:cU ms<=5
 ok:é (Ń N hs ds ms)
 dk:vM N d ds
 dm:ig ms<=d
 bl:(eZ ds++bJ ms).length<=900
theorem Fw{ds ms:List Pt}:∀t∈eZ ds++bJ ms,t.ci=11\/t.ci=12:=λt m=>by
 rcases NQ.mp m with m|m
 ·obtain⟨p,_,m⟩:=Oy.mp m;exact gm _ _ m
 exact gm _ _ m
inductive Dd(A:Ì)(d:Nat)(vs:List V)(H:Hp)(Q:VK)(Ã:XK):Prop
 |mk(N:Nat->Str)(X:Hp)(v u:V)(D:Qs)(hs ds ms:List Pt)(z0:vs=[v,u,.ref D])(z1:ai X H)(z2:mB A N X v hs ds ms)(z3:Shp N d hs ds ms)(z4:cw H (Ń N hs ds ms) u)(z5:qw H D (eZ ds++bJ ms) å)
  (z6:∀H':Hp,ai H H'->Q (.bl true) H'):Dd A d vs H Q Ã
theorem J6(T:Txt K mg A)(d:Nat)(hd:d<=10):T.uP.Hz P w base 17 (Dd A d):=by
 refine T.uP.hs (k:=16) si (λf Ä A' outer s H vs Q E' hr hu h=>?_);obtain⟨N,X,v,u,D,hs,ds,ms,rfl,s0,pg,S,du,de,q⟩:=h;obtain⟨a,dx,n0,n1,n2,x0,x1,x2,rfl,ha,_⟩:=id pg;refine⟨_,(af (aP (PW.pt (pw_or (lr (aQ (Ê aI T.ax (fv 0^aO T.bc.mg^ae)) (λ_=>rfl))) (pw_or1 (lr (aQ (ao (hj:=by lia) (Bj T 14) hr ((ao (hj:=by lia) (BP T) hr (fv 0^ae))^fv 1^ae)) (λ_=>rfl))))))
   (ag (aE pq))
   aJ)
  (af (bG Qz rfl (bu (ao (hj:=by lia) (AD T d) hr (fv 0^ae))) (Ó (i:=3) si.nd rfl)
   (ag (aP (lr (aQ (ao (hj:=by lia) (Bj T 14) hr (bj (aq (fv 3) rfl^aq (fv 3) rfl^ae)^px hu (fv 2) (aq (fv 3) rfl)^ae)) (λ_=>rfl)))
    (ag (aE pq))
    aJ)))
  (ag (aE pq)))),?_⟩
 refine ah λM1 K1=>isB (T.bc.KP (s0 _ _ ha)) (MB T.bc) (aT {N,X,.ref a,hs,ds,ms,rfl,s0,pg,⟨S.h0,S.h1,S.h2⟩,S.ok,λu1 H1 s1 d1=>{u1,u,rfl,BX _ 14 (HA S.h0 S.h1 S.h2) S.ok (cw.same uH.same _ _ d1) (cw.same s1 _ _ du),{_,rfl,aT (K1 _ _ ?_)}}});clear K1 M1;have de1:=de.same s1;clear de d1 du;rfl'
 refine ah λM1 K1=>{N,X,.ref a,hs,ds,ms,rfl,s0.trans s1,pg,S.dk,S.dm,S.bl,λR ys H2 s2 hR eR py=>?_};obtain⟨kvs,eD,hk⟩:=de1;refine NI {{_,À.of eR},bw (K:=K) (xs:=ys) (λi B Hc=>∃v3:Option V,B=[Wv (.ref a),Wv u,Wv (.ref D),v3]/\ai H2 Hc) {Ww,rfl,ai.refl _} (λi B Hc _ ⟨_,_,z⟩=>À.of (z _ _ eR)) ?_ ?_}
 ·rintro i y B Hc hy ⟨v3,rfl,sc⟩;obtain⟨t,ht,pa⟩:=cv py hy;have mt:t∈eZ ds++bJ ms:=NO ht;have c:=Fw t mt;have sX:ai X Hc:=(s0.trans s1).trans (s2.trans sc);obtain⟨p',e1,e2⟩:=hk t mt;rfl'
  refine tu T sX pa c (qS T sX pa c {by show 2<=sizeLine;decide,λp hp=>?_});obtain⟨s3,e3⟩:=Ñ hp (HO.tup [.int (å t).1,.int (å t).2]);generalize upd Hc p _=H3 at s3 e3⊢;exact cQ T (sX.trans s3) pa (Ob (dgn ((s2.trans (sc.trans s3)) _ _ eD) e1 {.ref p,.ref p',rfl,Ob {p,p',_,_,rfl,rfl,NI {e3,(s2.trans (sc.trans s3)) _ _ e2},by show 2<=1000000;lia,.cons (NI ⟨rfl,NY⟩) (.cons (NI ⟨rfl,NY⟩) .nil)},{_,rfl,aT {_,rfl,sc.trans s3}}}))
 rintro B Hc ⟨v3,rfl,sc⟩;exact K1 _ _ (q Hc (s1.trans (s2.trans sc)))
end
section
variable{P:Program}{w:QD}{K:Qx}{mg:Str->Option Qt}{base:QN}{A:Ì}{N:Nat->Str}{E:En}{kn:Nat}
seal PE PA PS č PT PW
theorem AB(ab:Int->Bool)(kn:Nat->Int):∀t,ð (Î ab kn t)=ð t
 | .leaf _ _=>by rw[Î]
 | .bf _ _ _ _=>by rw[Î];rfl
 | .iff _ _ _ _ _ _=>by rw[Î];rfl
 | .loop _ _ _ _ _ _=>by rw[Î];rfl
theorem GK(ab:Int->Bool)(kn:Nat->Int)(ds:List Pt):(ds.map (Î ab kn)).map ð=ds.map ð:=by
 rw[OD];exact Ph λt _=>AB ab kn t
def xT:Nat->Nat:=λi=>if i=5\/i=9 then 1 else 0
def Ň(c:Int):En:={Ś c,[2,3,4,5,6,7,8,9,14,16,17],xT}
theorem Br(c:Int):Ad (Ň c) c:={rfl,by show ∀i∈[2,3,4,6,7,8,14,16,17],i∈[2,3,4,5,6,7,8,9,14,16,17]/\xT i=0;decide,by show 5∈VD (λi=>decide (0<xT i)) [2,3,4,5,6,7,8,9,14,16,17];decide,by show 9∈VD (λi=>decide (0<xT i)) [2,3,4,5,6,7,8,9,14,16,17];decide}
theorem xI.dn{c:Int}{H:Hp}{t ln lb B1 B2 B3:Qs}{n:Int}{r1 r2 r3:List Rw}(R:xI (Ň c) H t ln lb B1 B2 B3 n r1 r2 r3)(c2:Int):OkG (Ň c).N 4 (eM c2) (Þ n r1 r2) (Ç r3):=by
 obtain⟨_,_,_,w1⟩:=R.b1;obtain⟨_,_,_,w2⟩:=R.b2;obtain⟨_,_,_,w3⟩:=R.b3;exact LG {(Br c).D,λi=>E8 c i,R.nu,R.l1,R.l2,R.l3} (by show ∀i∈[2,3,4,5,6,7,8,9,14,16,17],i∈plN;decide) w1 w2 w3
theorem vm:∀vs:List V,cb (vs.map Dt.f)
 | []=>NY
 |v::vs=>by
  rw[N9];unfold cb é;exact⟨NY,vm vs⟩
theorem zL(v:Val):é (vD N v):=by
 unfold vD é;refine{?_,vm _};rw[NH];cases v<;>exact OM rfl
theorem yE{ts:List Pt}(h:ts.length<=900)(h2:cb (fD N ts)):é (.l (fD N ts)):=by
 unfold é;exact{by rw[jh,NH];exact h,h2}
theorem Fe(vs:List V)(h:vs.length<=900):é (.l (vs.map Dt.f)):=by
 unfold é;exact{by rw[NH];exact h,vm vs}
theorem gg(v:V):é (.f v):=by
 unfold é;exact NY
theorem rY:cb []:=by
 unfold cb;exact NY
theorem cS{d:Dt}{ds:List Dt}(h:é d)(h2:cb ds):cb (d::ds):=by
 unfold cb;exact⟨h,h2⟩
theorem uw{ds:List Dt}(h:cb ds)(l:ds.length<=900:=by exact OM rfl):é (.t ds):=by
 unfold é;exact⟨l,h⟩
mutual
theorem rw_dOk(hk:kn<=2):∀(r:Rw)(d:Nat),Ē E kn d r->r.cnt<=900->é (à N r.pt)/\gT r.pt<=d
 | .set _ _ _,d,_,_=>by rw[Rw.pt,à];exact{uw (cS (gg _) (cS (gg _) (cS (gg _) (cS (zL _) rY)))),NS _}
 | .put _ _ _ _,d,_,_=>by rw[Rw.pt,à];exact{uw (cS (gg _) (cS (gg _) (cS (gg _) (cS (gg _) (cS (zL _) rY))))),NS _}
 | .snd _ _ _,d,_,_=>by rw[Rw.pt,à];exact{uw (cS (gg _) (cS (gg _) (cS (gg _) (cS (zL _) rY)))),NS _}
 | .say _ _ _ _,d,_,_=>by rw[Rw.pt,à];exact{uw (cS (gg _) (cS (gg _) (cS (gg _) (cS (zL _) (cS (gg _) rY))))),NS _}
 | .last _,d,_,_=>by rw[Rw.pt,à];exact{uw (cS (gg _) (cS (gg _) rY)),NS _}
 | .call _ i ts,d,h,_=>by
  have h:i<kn/\ts.length=i+1/\∀t∈ts,t.ok E:=by cases d<;>exact h
  rw[Rw.pt,à];exact{uw (cS (gg _) (cS (gg _) (cS (gg _) (cS (Fe _ (by rw[NH];lia)) rY)))),NS _}
 | .iff n v f o l r,d,h,c=>by
  cases d with
  |zero=>exact(show False from h).elim
  |succ d=>
   obtain⟨_,_,_,_,_,w1,w2⟩:=h;rw[Rw.cnt]at c;obtain⟨a1,a2⟩:=lA hk f d w1 ();obtain⟨b1,b2⟩:=lA hk o d w2 ();have l1:=b7 f;have l2:=b7 o;rw[Rw.pt,à,gT];exact{uw (cS (gg _) (cS (gg _) (cS (zL _) (cS (yE (by rw[fZ];lia) a1) (cS (yE (by rw[fZ];lia) b1) rY))))),()}
 | .loop n t m b l r,d,h,c=>by
  cases d with
  |zero=>exact(show False from h).elim
  |succ d=>
   obtain⟨_,m0,m1,_,_,_,w1⟩:=h;rw[Rw.cnt]at c;obtain⟨a1,a2⟩:=lA hk b d w1 ();have l1:=b7 b;rw[Rw.pt,à,gT];exact{uw (cS (gg _) (cS (gg _) (cS (gg _) (cS (gg _) (cS (yE (by rw[fZ];lia) a1) rY))))),()}
theorem lA(hk:kn<=2):∀(rs:List Rw)(d:Nat),(∀r∈rs,Ē E kn d r)->eN rs<=900->cb (fD N (Ç rs))/\cU (Ç rs)<=d
 | [],d,_,_=>by rw[Ç,fD,cU];exact{rY,NS _}
 |r::rs,d,h,c=>by
  rw[eN]at c;obtain⟨a1,a2⟩:=rw_dOk hk r d (h r NL) ();obtain⟨b1,b2⟩:=lA hk rs d (λq m=>h q (NK _ m)) ();rw[Ç,fD,cU];exact{cS a1 b1,()}
end
theorem E2(ab:Int->Bool)(kn:Nat->Int)(ds ms:List Pt):eZ (ds.map (Î ab kn))++bJ (eK ab kn ms)=(eZ ds++bJ ms).map (Î ab kn):=by
 rw[oA,Oc];congr 1;unfold eZ;rw[List.flatMap_map,List.map_flatMap];congr 1;funext t
 rw[qk,oA]
theorem vM.ev{d:Nat}{ds:List Pt}(G:vM N d ds)(ab:Int->Bool)(kn:Nat->Int):vM N d (ds.map (Î ab kn)):=by
 have da:∀{p:Pt->Prop},(∀t∈ds,p (Î ab kn t))->∀t∈ds.map (Î ab kn),p t:=λh t m=>by
  obtain⟨t',m',rfl⟩:=N4.mp m;exact h t' m'
 refine{da λt m=>DL ab kn t (G.bf t m),da λt m=>by rw[qk,oM];exact G.dp t m,?_,?_,by rw[NH];exact G.ln}
 ·intro i p h;rw[NX]at h;cases e:ds[i]? with
  |none=>rw[e]at h;cases h
  |some t=>
   rw[e]at h;cases h;rw[<-List.map_take,GK,qk];exact qm ab kn _ (G.ck i t e)
 intro i j p q hp hq e;rw[NX]at hp hq;cases e1:ds[i]? with
 |none=>rw[e1]at hp;cases hp
 |some t=>
  cases e2:ds[j]? with
  |none=>rw[e2]at hq;cases hq
  |some u=>
   rw[e1]at hp;rw[e2]at hq;cases hp;cases hq;rw[AB,AB]at e;exact G.nm i j t u e1 e2 e
theorem Ay(ab:Int->Bool)(kn:Nat->Int)(hs ds ms:List Pt):Ń N hs (ds.map (Î ab kn)) (eK ab kn ms)=Ń N hs ds ms:=by
 unfold Ń;rw[<-qh,(kZ ab kn ds).1,(kZ ab kn ms).1]
theorem Shp.ev{d:Nat}{hs ds ms:List Pt}(S:Shp N d hs ds ms)(ab:Int->Bool)(kn:Nat->Int):Shp N d hs (ds.map (Î ab kn)) (eK ab kn ms):=
 {S.h0,by rw[<-qh,(kZ (N:=N) ab kn ds).2];exact S.h1,by rw[(kZ (N:=N) ab kn ms).2];exact S.h2,by rw[Ay];exact S.ok,S.dk.ev ab kn,by rw[oM];exact S.dm,by rw[E2,NH];exact S.bl}
mutual
theorem Ma(ab:Int->Bool)(kn:Nat->Int):∀t,ī (Î ab kn t)=ī t
 | .leaf _ _=>by rw[Î]
 | .bf _ _ _ _=>by rw[Î];rfl
 | .iff n v l r f o=>by rw[Î,ī,ī,qV ab kn f,qV ab kn o]
 | .loop n t m l r b=>by rw[Î,ī,ī,qV ab kn b]
theorem qV(ab:Int->Bool)(kn:Nat->Int):∀ts,ë (eK ab kn ts)=ë ts
 | []=>by rw[eK]
 |t::ts=>by rw[eK,ë,ë,Ma ab kn t,qV ab kn ts]
end
structure Spl(hs ds ms:List Pt):Prop where
 lm:ë ms<=200
 ld:∀t∈ds,ë (d7 t)<=200
 ln:ds.length<=2
theorem Spl.ev{hs ds ms:List Pt}(S:Spl hs ds ms)(ab:Int->Bool)(kn:Nat->Int):Spl hs (ds.map (Î ab kn)) (eK ab kn ms):=by
 refine{by rw[qV];exact S.lm,λt m=>?_,by rw[NH];exact S.ln};obtain⟨t',m',rfl⟩:=N4.mp m;rw[qk,qV];exact S.ld t' m'
theorem A0{rs:List Rw}:ë (Ç rs)<=2*eN rs:=by
 have:=qL (pl:=Ww) (lp:=Ww) (Ç rs);rw[jQ]at this;exact this
theorem xI.shp{c:Int}{H:Hp}{t ln lb B1 B2 B3:Qs}{n:Int}{r1 r2 r3:List Rw}(R:xI (Ň c) H t ln lb B1 B2 B3 n r1 r2 r3)(c2:Int):Shp (Ň c).N 4 (eM c2) (Þ n r1 r2) (Ç r3)/\Spl (eM c2) (Þ n r1 r2) (Ç r3)/\((bC (Ň c).N (Þ n r1 r2) (Ç r3)).map λe=>e.1.no).Nodup:=by
 have G:=R.dn c2;obtain⟨_,_,_,w1⟩:=R.b1;obtain⟨_,_,_,w2⟩:=R.b2;obtain⟨_,_,_,w3⟩:=R.b3;have l1:=R.l1;have l2:=R.l2;have l3:=R.l3;obtain⟨a1,b1⟩:=lA (N:=(Ň c).N) ∅ r1 4 w1 ();obtain⟨a2,b2⟩:=lA (N:=(Ň c).N) ∅ r2 4 w2 ();obtain⟨a3,b3⟩:=lA (N:=(Ň c).N) ∅ r3 4 w3 ();have k1:=b7 r1;have k2:=b7 r2;have k3:=b7 r3;have bl:=G.bl;have d1:Dn (Ň c).N n r1 r2 r3:={(Br c).D,λi=>E8 c i,R.nu,R.l1,R.l2,R.l3};have up:=(d1.up).1;refine{{?_,?_,(),?_,G.dk,G.ok.main,bl},{NU A0 (),?_,NM _},up.imp λh=>Int.ne_of_lt h}
 ·show cU (eM c2)<=5;simp[eM,cU,gT]
 ·show cU (Þ n r1 r2)<=5;simp[Þ,cU,gT];lia
 ·unfold Ń;refine uw (cS (yE (OM rfl) ?_) (cS (yE (OM rfl) ?_) (cS (yE (by rw[fZ];lia) a3) rY)))
  ·simp[eM,fD,à,lfD,cb,é]
  unfold Þ;rw[fD,fD,fD,à,à];exact cS (uw (cS (gg _) (cS (gg _) (cS (gg _) (cS (Fe _ (OM rfl)) (cS (yE (by rw[fZ];lia) a1) rY)))))) (cS (uw (cS (gg _) (cS (gg _) (cS (gg _) (cS (Fe _ (OM rfl)) (cS (yE (by rw[fZ];lia) a2) rY)))))) rY)
 intro t m;simp only[Þ,NJ,NZ,or_false]at m;rcases m with rfl|rfl
 ·exact NU A0 ()
 exact NU A0 ()
theorem xI.same{E:En}{H H':Hp}(s:ai H H'){t ln lb B1 B2 B3:Qs}{n:Int}{r1 r2 r3:List Rw}(R:xI E H t ln lb B1 B2 B3 n r1 r2 r3):xI E H' t ln lb B1 B2 B3 n r1 r2 r3:=
 {s _ _ R.t,s _ _ R.ln,s _ _ R.lb,R.b1.same s,R.b2.same s,R.b3.same s,R.l1,R.l2,R.l3,R.nu}
theorem G2{X H H':Hp}(s:ai X H'){b:Qs}{zs:List V}(h:Í X H H' b=Wv (.lst zs)):H b=Ww:=by
 obtain⟨c,e⟩:=ip h;rcases Om.mp c with c|c
 ·obtain⟨ws,z⟩:=mL c;rw[s _ _ z]at e;cases e
 exact Oo.mp c
theorem LK.old{X H H' H1 H2:Hp}(s:ai X H')(s1:ai H H1)(h:LK (Í X H H') H1 H2):ai H H2:=λb o e=>h b o (λzs z=>by rw[G2 s z]at e;cases e) (s1 _ _ e)
theorem LK.of{Y X H H':Hp}(h:LK X H H')(s:ai Y H)(n:∀b o,Y b=Wv o->∀zs,X b≠Wv (.lst zs)):ai Y H':=λb o e=>h b o (n b o e) (s b o e)
theorem qw.ev{H:Hp}{D:Qs}{ds ms:List Pt}{ab:Int->Bool}{kn:Nat->Int}(h:qw H D (eZ ds++bJ ms) (λt=>å (Î ab kn t))):qw H D (eZ (ds.map (Î ab kn))++bJ (eK ab kn ms)) å:=by
 obtain⟨kvs,e,h⟩:=h;refine{kvs,e,λt m=>?_};rw[E2]at m;obtain⟨u,mu,rfl⟩:=N4.mp m;rw[Md];exact h u mu
end
section
variable{P:Program}{w:QD}{K:Qx}{mg:Str->Option Qt}{base:QN}{A:Ì}{N:Nat->Str}
seal PE PA PS č PT PW
def x3(K:Qx):Sp:=λvs H Q _=>∃(a:Qs)(ns:List Int),vs=[.ref a]/\À K H a (ns.map V.int)/\ns.length<=63/\∀H',Q (.bl true) H'
theorem Mv(T:Txt K mg A)(F:aY K mg "law" uy ["_law_script"]):ħ P w K mg base 28 "law" ["_law_script"] (x3 K):=by
 have P1:=@Eh P w _ _ base _ T;have E_evened:=Ax.has (F7 (P:=P) (w:=w) (base:=base) T 4);have Qb:=J6 (P:=P) (w:=w) (base:=base) T 4 ∅;refine F.hs (k:=27) jF (λf Ä A' outer s0 H vs Q E hr hu h=>?_) (λvs H Q E h=>by obtain⟨a,ns,rfl,_⟩:=h;rfl);obtain⟨sc,ns,rfl,hS,_,q⟩:=h;refine⟨_,(af (Å 1 jF.nd (ao (hj:=by lia) (ES T) hr (fv 0^ae)))
  (af (Å 2 jF.nd (ao (hj:=by lia) (wH T) hr (fv 1^(ao (hj:=by lia) P1 hr (fv 0^aj^ae))^ae)))
  (af (Å 3 jF.nd (ao (hj:=by lia) (wH T) hr (fv 1^(ao (hj:=by lia) P1 hr (fv 0^aj^ae))^ae)))
  (af (Å 4 jF.nd (ao (hj:=by lia) (BP T) hr (fv 3^ae)))
  (af (Å 5 jF.nd (aG bU (ao (hj:=by lia) P1 hr (fv 0^aj^ae)) aj))
  (af (Å 6 jF.nd (ao (hj:=by lia) (KR T 4) hr (fv 2^fv 5^ae)))
  (af (Å 7 jF.nd (ao (hj:=by lia) E_evened hr (fv 2^fv 5^ae)))
  (af (aP (lr (aQ (ao (hj:=by lia) Qb hr (fv 7^fv 4^fv 6^ae)) (λ_=>rfl)))
   (ag (aE pq))
   aJ)
  (af (aU (ao (hj:=by lia) (Cq T) hr (fv 7^ae)))
  (af (Å 8 jF.nd (nH))
  (af (bG Qz rfl (bu (ao (hj:=by lia) (AD T 4) hr (fv 3^ae))) (Ó (i:=9) jF.nd rfl)
   (ag (cx (bj (aq (fv 9) rfl^aq (fv 9) rfl^ae)) (cY (fv 8) (aq (fv 9) rfl) (mR hu)))))
  (af (aP (lr (aQ (ao (hj:=by lia) Qb hr (fv 2^fv 4^fv 8^ae)) (λ_=>rfl)))
   (ag (aE pq))
   aJ)
  (af (Å 10 jF.nd (ao (hj:=by lia) E_evened hr (fv 2^fv 5^ae)))
  (af (aU (ao (hj:=by lia) (Cq T) hr (fv 2^ae)))
  (ag (aE (ao (hj:=by lia) Qb hr (fv 10^fv 4^fv 6^ae)))))))))))))))))),?_⟩
 refine ah λM1 K1=>{Ň (cellAt ns 0),sc,ns,rfl,hS,Br _,λt ln lb B1 B2 B3 n r1 r2 r3 H1 s1 R=>K1 _ _ ?_};clear K1 M1;rfl'
 refine ah λM1 K1=>{sc,ns,1,rfl,s1.seq hS,∅,Ň (cellAt ns 0),t,ln,lb,B1,B2,B3,n,cellAt ns 1,r1,r2,r3,rfl,R,λv H2 s2 pg=>K1 _ _ ?_};clear K1 M1;rfl'
 refine ah λM1 K1=>{sc,ns,1,rfl,(s1.trans s2).seq hS,∅,Ň (cellAt ns 0),t,ln,lb,B1,B2,B3,n,cellAt ns 1,r1,r2,r3,rfl,R.same s2,λvk H3 s3 pk=>?_};have G:=R.dn (cellAt ns 1);obtain⟨Sh,Sp,nd⟩:=R.shp (cellAt ns 1);clear R;generalize (Ň (cellAt ns 0)).N=N at pg pk G Sh nd;generalize eM (cellAt ns 1)=hs at pg pk G Sh Sp;generalize Þ n r1 r2=ds at pg pk G Sh Sp nd;generalize Ç r3=ms at pg pk G Sh Sp nd;have t3:=(s1.trans s2).trans s3;refine K1 _ _ ?_;clear K1 M1;rfl'
 refine ah λM1 K1=>{N,_,vk,hs,ds,ms,rfl,jL,pk,⟨Sh.h0,Sh.h1,Sh.h2⟩,Sh.ok,λu H4 s4 du=>K1 _ _ ?_};clear K1 M1;rfl'
 refine ah λM1 K1=>{sc,ns,2,rfl,(t3.trans s4).seq hS,∅,by show(0:Int)<3;decide,K1 _ _ ?_};clear K1 M1 hS;rfl'
 have f0:0<=cellAt ns 2%3:=VM _ ∅;have f3:cellAt ns 2%3<3:=UZ _ ∅;generalize cellAt ns 2%3=fl at f0 f3⊢;have sP4:ai (Í H1 H1 H2) H4:=jL.trans (s3.trans s4);rfl'
 refine ah λM1 K1=>{N,_,v,fl,hs,ds,ms,rfl,sP4,pg,G,f0,f3,nd,λD H5 s5 de=>K1 _ _ ?_};clear K1 M1;rfl'
 refine ah λM1 K1=>{N,_,v,fl,hs,ds,ms,rfl,sP4.trans s5,pg,G.e,λm H6 s6 pm=>?_};generalize Ρ:Ϟ N hs ds ms fl=ab at de pm;generalize hkn:õ cB 0 ds=kn at de pm;have ō:ai (Í H1 H1 H2) H6:=sP4.trans (s5.trans s6);refine K1 _ _ ?_;clear K1 M1;rfl'
 refine ah λM1 K1=>{N,_,.ref m,u,D,hs,_,_,rfl,jL,pm,Sh.ev ab kn,by rw[Ay];exact cw.same (uH.same.trans (s5.trans s6)) _ _ du,(de.same (Õ.same.trans s6)).ev,λH7 s7=>{_,rfl,aT (K1 _ _ ?_)}};clear K1 M1;have Sm2:=Sh.ev ab kn;have Sq2:=Sp.ev ab kn;rfl'
 refine ah λM1 K1=>{N,_,.ref m,hs,_,_,rfl,jL.trans s7,pm,Sm2.dk.bf,Sm2.h1,Sm2.h2,Sm2.ok,Sq2.lm,Sq2.ld,Sq2.ln,λH8 lk=>K1 _ _ ?_};clear K1 M1;have s8:ai H5 H8:=LK.old ō (s6.trans s7) lk;clear lk pm s6 s7 Sm2 Sq2 ō;rfl'
 refine ah λM1 K1 W hW=>?_;obtain⟨s9,eW⟩:=Ñ hW (HO.dK []);generalize upd H8 W _=H9 at s9 eW⊢;have sk9:ai (Í H2 H2 H3) H9:=jL.trans (s4.trans (s5.trans (s8.trans s9)));refine K1 _ _ ?_;clear K1 M1;rfl'
 refine ah λM1 K1=>{N,_,vk,hs,ds,ms,rfl,sk9,pk,Sh.dk,Sh.dm,Sh.bl,λR ys ŋ ē hR eR py=>?_};have Œ:=Ci N nd;have hbl:=Sh.bl;have hci:=λt m=>Fw (ds:=ds) (ms:=ms) t m;have lb:=Qy py;generalize hbs:eZ ds++bJ ms=bs at py Œ hbl hci lb;have wS:∀m∈[W],H8 m=Ww:=λm hm=>by rw[NF.mp hm];exact hW
 have nWR:R≠W:=λz=>by rw[z,ē _ _ eW]at eR;cases eR
 refine NI {{_,À.of eR},bw (K:=K) (xs:=ys) (λi B Hc=>∃(v9:Option V)(kvs:List (Key×V)),B=[Wv (.ref sc),Wv (.ref t),Wv v,Wv vk,Wv u,Wv (.int fl),Wv (.ref D),Wv (.ref m),Wv (.ref W),v9,Ww]/\Sm [W] ŋ Hc/\Hc W=Wv (.dK kvs)/\kvs.length<=i/\∀t∈bs.take i,∃p,L2.cc kvs (.inl t.no)=Wv (.ref p)/\H8 p=Ww/\Hc p=Wv (.tup [.int (å t).1,.int (å t).2])) {Ww,[],rfl,Sm.refl _ _,ē _ _ eW,NM _,λt m=>by rw[O0]at m;cases m} (λi B Hd _ ⟨_,_,_,z,_⟩=>À.of (z _ _ (λm=>nWR (NF.mp m)) eR)) ?_ ?_}
 ·rintro i y B Hc hy ⟨v9,kvs,rfl,sm,eWc,kl,hk⟩;obtain⟨r,ht,pa⟩:=cv py hy;have mt:r∈bs:=NO ht;have il:i<bs.length:=(NW.mp ht).1;have tk:bs.take (i+1)=bs.take i++[r]:=by rw[Od,ht];rfl
  have c:=hci r mt;have s8c:=sm.same (s9.trans ē) wS;have sX:ai (Í H2 H2 H3) Hc:=jL.trans (s4.trans (s5.trans (s8.trans s8c)));have ne:∀t'∈bs.take i,t'.no≠r.no:=λt' m e=>by
   have h:=(SG Pt.no (PD (i+1) bs)).nodup Œ;rw[tk,Oc]at h;exact(OF.mp h).2.2 _ (Oe m) _ (NF.mpr rfl) e
  rw[tk];rfl'
  refine tu T sX pa c (qS T sX pa c {by show 2<=sizeLine;decide,λp hp=>?_});obtain⟨Ī,Ϛ⟩:=Ñ hp (HO.tup [.int (å r).1,.int (å r).2]);generalize upd Hc p _=ϋ at Ī Ϛ⊢;have eD:=Ī _ _ eWc;refine cQ T (sX.trans Ī) pa {W,_,rfl,gI.k (k:=.inl r.no) eD (aL ()),?_};have l9:=kL kvs (.inl r.no) (.ref p);exact{_,_,rfl,(sm.trans (Sm.new Ī)).trans (Sm.at (NF.mpr rfl) _),av,(),x8 (xZ eD ne (uU Ī hk)) (uK _ _ _) (ai.free s8c hp) (aK (λz=>by rw[z,eD]at Ϛ;cases Ϛ) Ϛ)}
 rintro B Hc ⟨v9,kvs,rfl,sm,eWc,kl,hk⟩;refine K1 _ _ ?_;clear K1 M1;rw[show bs.take ys.length=bs by rw[<-lb];exact N0]at hk;subst hbs;have s8c:=sm.same (s9.trans ē) wS;have s5c:=s8.trans s8c;have dw:qw Hc W (eZ ds++bJ ms) å:=⟨kvs,eWc,λt m=>by
  obtain⟨p,e1,_,e3⟩:=hk t m;exact⟨p,e1,e3⟩⟩
 clear hk eWc sm eR eW s9 ē hW wS py pk nWR;have sPc:ai (Í H1 H1 H2) Hc:=sP4.trans (s5.trans s5c);rfl'
 refine ah λM1 K1=>{N,_,v,u,W,hs,ds,ms,rfl,sPc,pg,Sh,cw.same (uH.same.trans (s5.trans s5c)) _ _ du,dw,λϋ Ī=>{_,rfl,aT (K1 _ _ ?_)}};clear K1 M1;have sP11:=sPc.trans Ī;rfl'
 refine ah λM1 K1=>{N,_,v,fl,hs,ds,ms,rfl,sP11,pg,G.e,λm2 H12 ϐ pm2=>?_};rw[Ρ,hkn]at pm2;have sP12:=sP11.trans ϐ;refine K1 _ _ ?_;clear K1 M1;rfl'
 refine ah λM1 K1=>{N,_,v,hs,ds,ms,rfl,sP12,pg,Sh.dk.bf,Sh.h1,Sh.h2,Sh.ok,Sp.lm,Sp.ld,Sp.ln,λH13 lk=>K1 _ _ ?_};clear K1 M1;rfl'
 have s5_12:=s5c.trans (Ī.trans ϐ);have a1:ai (Í (Í H1 H1 H2) ϋ H12) H13:=LK.of lk jL λb o e zs z=>by
  rcases Om.mp (ip e).1 with c|c
  ·obtain⟨ws,c⟩:=mL c;rw[c]at z;cases z
  have:=sP11 _ _ z;rw[Oo.mp c]at this;cases this
 have a2:ai (uH (Í H2 H2 H3) H3 H4) H13:=LK.of lk (uH.same.trans (s5.trans s5_12)) λb o e zs z=>by
  have z2:=jL _ _ z;rcases Om.mp (uH.get e).1 with c|c
  ·obtain⟨o',c⟩:=OO.mp c;rcases Om.mp (ip c).1 with c|c
   ·obtain⟨ws,c⟩:=mL c;rw[c]at z2;cases z2
   rw[Oo.mp c]at z2;cases z2
  have:=s3 _ _ z2;rw[Oo.mp c]at this;cases this
 have a3:ai (Õ H4 H5) H13:=LK.of lk (Õ.same.trans s5_12) λb o e zs z=>by
  have:=sP4 _ _ z;rw[(Õ.get e).1]at this;cases this
 exact{N,_,.ref m2,u,D,hs,_,_,rfl,a1,pm2,Sh.ev ab kn,by rw[Ay];exact cw.same a2 _ _ du,(de.same a3).ev,λH14 s14=>q _}
end
inductive FnI(K:Qx)(f:Qs)(x y:Str)(s:QL):Prop
 |mk(oc:Qt)(od:Option Qs)(kV dc pm:Qt)(an:Option Qs)(cd ct:Qt)(sl:Array (Option Qt))(l:K.lookup f=Wv {oc,od,.func (Rp x y (b9 s) (bK s) (aA s) .none kV dc pm an cd ct),sl})(c:SI K cd y=true)(k:RB K (.ref f)=true):FnI K f x y s
abbrev bO(K:Qx)(x:Str)(s:QL):Prop:=∃f,V7 K QI x=Wv (Wv (.ref f))/\FnI K f x x s
abbrev jV(K:Qx)(C:Qs)(m q:Str)(s:QL):Prop:=∃f,Rl K (.ref C) m=Wv (Wv (.ref f))/\Ws K (.ref f)=true/\FnI K f m q s
abbrev oR(K:Qx)(C:Qs)(x:Str)(up:List Qs):Prop:=V7 K QI x=Wv (Wv (.ref C))/\(∃cd,W.clsIn K C=Wv cd/\cd.mro=up.map QJ++[Rq "object"])/\TK K C Q4=true/\Ua K C=true/\Vz K C=true/\Rl K (.ref C) "__setattr__"=Wv (Wv (.builtin "object.__setattr__"))/\W.typeIn K (.ref C)=Wv (.type "type")/\Rl K (.ref C) "__class__"=Wv (Wv (.builtin "object.__class__"))/\Vo K C=true/\RB K (.ref C)=true
abbrev Ŋ(K:Qx)(x:Str):Prop:=V7 K QI x=Wv Ww
abbrev â(K:Qx)(C:Qs)(x:Str):Prop:=Rl K (.ref C) x=Wv Ww
section
variable{K:Qx}{mg:Str->Option Qt}{h:QN}{x m q:Str}{s:QL}{ps:List Str}{C:Qs}{up:List Qs}
theorem bP(X:K.In h)(G:h.Ns QI mg)(t:bO K x s)(b:∀(kV doc pm:Qt)(an:Option Qs)(Ä ct:Qt)(us:List Qt),us.length=ps.length->bindArgs (Rp x x (b9 s) (bK s) (aA s) .none kV doc pm an Ä ct) {us,[]}=pure (ps.zip us)):aY K mg x s ps:=by
 obtain⟨f,a,_,_,_,_,_,_,_,_,_,l,c,k⟩:=t;exact Fv X G a l c k b
theorem kG(t:jV K C m q s)(b:∀(kV doc pm:Qt)(an:Option Qs)(Ä ct:Qt)(us:List Qt),us.length=ps.length->bindArgs (Rp m q (b9 s) (bK s) (aA s) .none kV doc pm an Ä ct) {us,[]}=pure (ps.zip us)):Ď K C m q s ps:=by
 obtain⟨f,a,i,_,_,_,_,_,_,_,_,_,l,c,k⟩:=t;exact Kg a i l c k b
theorem qf(X:K.In h)(G:h.Ns QI mg)(cg:Sg K (.builtin "object.__class__") "__get__"=Wv (Wv (.builtin "getset_descriptor.__get__")))(ct:Vp K (.builtin "object.__class__")=Wv true)(t:oR K C x up):gH K mg C x up:=by
 obtain⟨a,b,c,d,e,f,g,i,j,k⟩:=t;exact{Vb X G a,⟨c,d,e,f⟩,b,g,i,cg,ct,j,k}
end
theorem ar0{p:List Qt->Prop}(h:p []):∀us:List Qt,us.length=0->p us:=λus e=>by
 cases us with
 |nil=>exact h
 |cons b t=>cases e
theorem ġ{p:List Qt->Prop}{n:Nat}(h:∀a,∀us:List Qt,us.length=n->p (a::us)):∀us:List Qt,us.length=n+1->p us:=λus e=>by
 cases us with
 |nil=>cases e
 |cons b t=>exact h b t (Nat.succ.inj e)
abbrev BV(K:Qx)(x:Str)(s:QL)(d:V):Prop:=∃(f T:Qs)(v oc:Qt)(od:Option Qs)(kV dc pm:Qt)(an:Option Qs)(cd ct:Qt)(sl tl:Array (Option Qt))(n:Nat),V7 K QI x=Wv (Wv (.ref f))/\K.lookup f=Wv {oc,od,.func (Rp x x (b9 s) (bK s) (aA s) (.ref T) kV dc pm an cd ct),sl}/\SI K cd x=true/\RB K (.ref f)=true/\K.lookup T=Wv {.type "tuple",Ww,.seq #[v] n,tl}/\WC d v
theorem Gq{K:Qx}{mg:Str->Option Qt}{h:QN}{x a b:Str}{s:QL}{d:V}(X:K.In h)(G:h.Ns QI mg)(t:BV K x s d)
  (b1:∀(T:Qs)(v kV dc pm:Qt)(an:Option Qs)(cd ct u u':Qt),∃k,bindArgs (Rp x x (b9 s) (bK s) (aA s) (.ref T) kV dc pm an cd ct) {[u,u'],[]}=seqItems? (.ref T)>>=k/\k (Wv #[v])=pure [(a,u),(b,u')])
  (b2:∀(T:Qs)(v kV dc pm:Qt)(an:Option Qs)(cd ct u:Qt),∃k,bindArgs (Rp x x (b9 s) (bK s) (aA s) (.ref T) kV dc pm an cd ct) {[u],[]}=seqItems? (.ref T)>>=k/\k (Wv #[v])=pure [(a,u),(b,v)]):mX K mg x s [a,b] [d]:=by
 obtain⟨f,T,v,oc,od,kV,dc,pm,an,cd,ct,sl,tl,n,q,l,c,k,lt,r⟩:=t
 refine{f,oc,od,.ref T,kV,dc,pm,an,cd,ct,sl,[v],l,c,k,Vb X G q,.cons r .nil,λs' us hi hl=>?_,λs' us hi hl=>?_}
 ·rcases us with _|⟨u,_|⟨u',_|⟨_,_⟩⟩⟩
  ·cases hl
  ·cases hl
  ·obtain⟨g,e1,e2⟩:=b1 T v kV dc pm an cd ct u u';exact Uy rfl (hi T _ lt) rfl e1 e2
  simp at hl
 rcases us with _|⟨u,_|⟨_,_⟩⟩
 ·cases hl
 ·obtain⟨g,e1,e2⟩:=b2 T v kV dc pm an cd ct u;exact Uy rfl (hi T _ lt) rfl e1 e2
 simp at hl
theorem ô{p:List Qt->Prop}(h:∀a0,p [a0]):∀us:List Qt,us.length=1->p us:=ġ λa0=>ar0 (h a0)
theorem ú{p:List Qt->Prop}(h:∀a0 a1,p [a0,a1]):∀us:List Qt,us.length=2->p us:=ġ λa0=>ġ λa1=>ar0 (h a0 a1)
theorem ſ{p:List Qt->Prop}(h:∀a0 a1 a2,p [a0,a1,a2]):∀us:List Qt,us.length=3->p us:=ġ λa0=>ġ λa1=>ġ λa2=>ar0 (h a0 a1 a2)
theorem ϝ{p:List Qt->Prop}(h:∀a0 a1 a2 a3,p [a0,a1,a2,a3]):∀us:List Qt,us.length=4->p us:=ġ λa0=>ġ λa1=>ġ λa2=>ġ λa3=>ar0 (h a0 a1 a2 a3)
theorem ar5{p:List Qt->Prop}(h:∀a0 a1 a2 a3 a4,p [a0,a1,a2,a3,a4]):∀us:List Qt,us.length=5->p us:=ġ λa0=>ġ λa1=>ġ λa2=>ġ λa3=>ġ λa4=>ar0 (h a0 a1 a2 a3 a4)
theorem ar7{p:List Qt->Prop}(h:∀a0 a1 a2 a3 a4 a5 a6,p [a0,a1,a2,a3,a4,a5,a6]):∀us:List Qt,us.length=7->p us:=ġ λa0=>ġ λa1=>ġ λa2=>ġ λa3=>ġ λa4=>ġ λa5=>ġ λa6=>ar0 (h a0 a1 a2 a3 a4 a5 a6)
theorem all_mk{l:Vj}{w:QD}{K:Qx}{h:QN}{mg:Str->Option Qt}{fa:Qs}(A:Ì)(X:K.In h)(G:h.Ns QI mg)(hfa:mg "law"=Wv (.ref fa))
 (t1:bO K "only" AL) (t2:bO K "joined" uW) (t3:bO K "top" FV) (t4:bO K "fits" AN)
 (t5:bO K "names_in" qb) (t6:bO K "each_once" nO) (t7:bO K "most_of" qZ) (t8:bO K "most_of_row" kx)
 (t9:bO K "exact_of" pN) (t10:bO K "exact_of_row" jm) (t11:bO K "one_more" pZ) (t12:bO K "exact_of_if" kC)
 (t13:bO K "exact_of_loop" iz) (t14:bO K "balanced" qa) (t15:bO K "mosts" xi) (t16:bO K "exacts" tZ)
 (t17:bO K "row_place" nC) (t18:bO K "laid_rows" ot) (t19:bO K "laid_inside" kg) (t20:bO K "laid_program" jy)
 (t21:bO K "is_place" qd) (t22:bO K "head_places" jY) (t23:bO K "places" uo) (t24:bO K "drawn" xU)
 (t25:bO K "row_links" mK) (t26:bO K "said_links" lP) (t27:bO K "called_links" i9) (t28:bO K "step_links" lZ)
 (t29:BV K "links" xj (.bl false)) (t30:bO K "sources" rA) (t31:bO K "sources_of" lX) (t32:bO K "ways_of" rq)
 (t33:bO K "arrivals" pX) (t34:BV K "table" xg (.bl false)) (t35:bO K "rows_above" lj) (t36:BV K "evened" ue (.int 0))
 (t37:bO K "head_copy" om) (t38:bO K "deed_copy" mM) (t39:bO K "rows_evened" kz) (t40:bO K "row_evened" lg)
 (t41:bO K "plain_copy" lF) (t42:bO K "if_evened" oq) (t43:bO K "loop_evened" kA) (t44:bO K "_law_cell_at" j8)
 (t45:bO K "_law_mix" rJ) (t46:bO K "_law_name" pU) (t47:bO K "_law_number" lY) (t48:bO K "_law_thing" mI)
 (t49:bO K "_law_value" nA) (t50:bO K "_law_kind" pY) (t51:bO K "_law_plain" oh) (t52:bO K "_law_idles" nM)
 (t53:bO K "_law_block" oe) (t54:bO K "_law_nodes" nJ) (t55:bO K "_law_made" pP) (t56:bO K "_law_heads" mU)
 (t57:bO K "_law_drawn" nZ) (t58:bO K "_law_program" kF) (t59:bO K "_law_same" pW) (t60:bO K "_law_shape" mN)
 (t61:bO K "_law_shapes" lh) (t62:bO K "_law_whole_shape" gC) (t63:bO K "_law_blocks" lK) (t64:bO K "_law_all_blocks" gR)
 (t65:bO K "_law_ways" pG) (t66:bO K "_law_long" pO) (t67:bO K "_law_known" nT) (t68:bO K "_law_dues" pR)
 (t69:bO K "_law_good" pK) (t70:bO K "_law_lists" ny) (t71:bO K "_law_spoil" nX) (t72:bO K "law" uy)
 (xV:Ŋ K "bool") (ni:Ŋ K "dict") (zo:Ŋ K "int") (ax:Ŋ K "isinstance")
 (md:Ŋ K "len") (fF:Ŋ K "list") (qB:Ŋ K "max") (hU:Ŋ K "range")
 (CC:Ŋ K "set") (qz:Ŋ K "sorted") (sg:Ŋ K "str") (Cw:Ŋ K "sum")
 (qO:Ŋ K "tuple") (C6:Ŋ K "zip") (g_CLOCK:∃k:Tok,V7 K QI "CLOCK"=Wv (Wv (.str "the clock" k))) (cg:Sg K (.builtin "object.__class__") "__get__"=Wv (Wv (.builtin "getset_descriptor.__get__")))
 (ct:Vp K (.builtin "object.__class__")=Wv true) (x_Row:oR K A.Row "Row" [A.Row]) (x_HandRow:oR K A.dA "HandRow" [A.dA,A.Row]) (x_GivenRow:oR K A.b8 "GivenRow" [A.b8,A.Row])
 (x_OwnRow:oR K A.fB "OwnRow" [A.fB,A.Row]) (x_LetRow:oR K A.fA "LetRow" [A.fA,A.Row]) (x_SetRow:oR K A.dB "SetRow" [A.dB,A.Row]) (x_PutRow:oR K A.cX "PutRow" [A.cX,A.Row])
 (x_SendRow:oR K A.cz "SendRow" [A.cz,A.Row]) (x_SayRow:oR K A.dD "SayRow" [A.dD,A.Row]) (x_CallRow:oR K A.cJ "CallRow" [A.cJ,A.Row]) (x_LastRow:oR K A.dZ "LastRow" [A.dZ,A.Row])
 (x_IfRow:oR K A.dX "IfRow" [A.dX,A.Row]) (x_LoopRow:oR K A.bL "LoopRow" [A.bL,A.Row]) (x_DeedRow:oR K A.cy "DeedRow" [A.cy,A.Row]) (x_Program:oR K A.Program "Program" [A.Program])
 (m1:jV K A.Row "__init__" "Row.__init__" gO) (m2:jV K A.dA "__init__" "HandRow.__init__" jA) (m3:jV K A.b8 "__init__" "GivenRow.__init__" iA) (m4:jV K A.fB "__init__" "OwnRow.__init__" kh)
 (m5:jV K A.fA "__init__" "LetRow.__init__" jW) (m6:jV K A.dB "__init__" "SetRow.__init__" jZ) (m7:jV K A.dB "reads" "SetRow.reads" jb) (m8:jV K A.cX "__init__" "PutRow.__init__" ky)
 (m9:jV K A.cX "reads" "PutRow.reads" i5) (m10:jV K A.cz "__init__" "SendRow.__init__" jg) (m11:jV K A.cz "reads" "SendRow.reads" iu) (m12:jV K A.dD "__init__" "SayRow.__init__" ko)
 (m13:jV K A.cJ "__init__" "CallRow.__init__" iZ) (m14:jV K A.dZ "__init__" "Row.__init__" gO) (m15:jV K A.dX "__init__" "IfRow.__init__" lG) (m16:jV K A.dX "reads" "IfRow.reads" ka)
 (m17:jV K A.bL "__init__" "LoopRow.__init__" jw) (m18:jV K A.bL "reads" "LoopRow.reads" iD) (m19:jV K A.cy "__init__" "DeedRow.__init__" jj) (m20:jV K A.Program "__init__" "Program.__init__" iY)
 (n1:â K A.dA "name") (n2:â K A.dA "rank") (n3:â K A.dA "number") (n4:â K A.b8 "name")
 (n5:â K A.b8 "rank") (n6:â K A.b8 "size") (n7:â K A.b8 "number") (n8:â K A.fB "name")
 (n9:â K A.fB "size") (n10:â K A.fB "number") (n11:â K A.fA "name") (n12:â K A.fA "rank")
 (n13:â K A.fA "number") (n14:â K A.dB "name") (n15:â K A.dB "value") (n16:â K A.dB "number")
 (n17:â K A.cX "name") (n18:â K A.cX "place") (n19:â K A.cX "value") (n20:â K A.cX "number")
 (n21:â K A.cz "name") (n22:â K A.cz "value") (n23:â K A.cz "number") (n24:â K A.dD "name")
 (n25:â K A.dD "value") (n26:â K A.dD "mark") (n27:â K A.dD "number") (n28:â K A.cJ "name")
 (n29:â K A.cJ "things") (n30:â K A.cJ "number") (n31:â K A.dZ "number") (n32:â K A.dX "value")
 (n33:â K A.dX "first") (n34:â K A.dX "other") (n35:â K A.dX "left") (n36:â K A.dX "right")
 (n37:â K A.dX "number") (n38:â K A.bL "thing") (n39:â K A.bL "most") (n40:â K A.bL "body")
 (n41:â K A.bL "left") (n42:â K A.bL "right") (n43:â K A.bL "number") (n44:â K A.cy "name")
 (n45:â K A.cy "parts") (n46:â K A.cy "body") (n47:â K A.cy "number") (n48:â K A.Program "heads")
 (n49:â K A.Program "deeds") (n50:â K A.Program "main") (y_Row_init:Sg K (.ref A.Row) "__getattribute__"=Wv (Wv (.builtin "type.__getattribute__"))/\W.readsIn K A.Row (.type "type")=true/\∃f,Rl K (.ref A.Row) "__init__"=Wv (Wv (.ref f))/\W.findCls K (.ref A.Row) (.type "type") "__init__"=Wv (.val (.ref f))) (nod:[A.Row,A.dA,A.b8,A.fB,A.fA,A.dB,A.cX,A.cz,A.dD,A.cJ,A.dZ,A.dX,A.bL,A.cy,A.Program].Nodup)
:∃fd:RJ,(∀(s:Qw)(v:Qt),Uo s fd {[v],[]} [("_law_script",v)])/\∀base:QN,K.In base->base.Ns QI mg->mC l.prog w K mg base Ō 28 fa fd ["_law_script"] (x3 K):=by
 have T:Txt K mg A:={
  only:=bP X G t1 λ_ _ _ _ _ _=>ô λ_=>rfl,joined:=bP X G t2 λ_ _ _ _ _ _=>ú λ_ _=>rfl,top:=bP X G t3 λ_ _ _ _ _ _=>ô λ_=>rfl,
  fits:=bP X G t4 λ_ _ _ _ _ _=>ú λ_ _=>rfl,vo:=bP X G t5 λ_ _ _ _ _ _=>ô λ_=>rfl,q0:=bP X G t6 λ_ _ _ _ _ _=>ô λ_=>rfl,
  oP:=bP X G t7 λ_ _ _ _ _ _=>ú λ_ _=>rfl,jK:=bP X G t8 λ_ _ _ _ _ _=>ú λ_ _=>rfl,fS:=bP X G t9 λ_ _ _ _ _ _=>ú λ_ _=>rfl,
  gD:=bP X G t10 λ_ _ _ _ _ _=>ú λ_ _=>rfl,uV:=bP X G t11 λ_ _ _ _ _ _=>ô λ_=>rfl,jM:=bP X G t12 λ_ _ _ _ _ _=>ú λ_ _=>rfl,
  hJ:=bP X G t13 λ_ _ _ _ _ _=>ú λ_ _=>rfl,balanced:=bP X G t14 λ_ _ _ _ _ _=>ú λ_ _=>rfl,gk:=bP X G t15 λ_ _ _ _ _ _=>ô λ_=>rfl,
  Bq:=bP X G t16 λ_ _ _ _ _ _=>ô λ_=>rfl,rK:=bP X G t17 λ_ _ _ _ _ _=>ô λ_=>rfl,iP:=bP X G t18 λ_ _ _ _ _ _=>ſ λ_ _ _=>rfl,
  jS:=bP X G t19 λ_ _ _ _ _ _=>ú λ_ _=>rfl,lN:=bP X G t20 λ_ _ _ _ _ _=>ô λ_=>rfl,um:=bP X G t21 λ_ _ _ _ _ _=>ô λ_=>rfl,
  mO:=bP X G t22 λ_ _ _ _ _ _=>ô λ_=>rfl,places:=bP X G t23 λ_ _ _ _ _ _=>ô λ_=>rfl,drawn:=bP X G t24 λ_ _ _ _ _ _=>ϝ λ_ _ _ _=>rfl,
  r9:=bP X G t25 λ_ _ _ _ _ _=>ϝ λ_ _ _ _=>rfl,pT:=bP X G t26 λ_ _ _ _ _ _=>ú λ_ _=>rfl,lC:=bP X G t27 λ_ _ _ _ _ _=>ſ λ_ _ _=>rfl,
  qc:=bP X G t28 λ_ _ _ _ _ _=>ú λ_ _=>rfl,links:=Gq X G t29 (λ_ _ _ _ _ _ _ _ _ _=>{_,rfl,rfl}) (λ_ _ _ _ _ _ _ _ _=>{_,rfl,rfl}),sources:=bP X G t30 λ_ _ _ _ _ _=>ô λ_=>rfl,
  pF:=bP X G t31 λ_ _ _ _ _ _=>ú λ_ _=>rfl,x4:=bP X G t32 λ_ _ _ _ _ _=>ú λ_ _=>rfl,tT:=bP X G t33 λ_ _ _ _ _ _=>ú λ_ _=>rfl,
  table:=Gq X G t34 (λ_ _ _ _ _ _ _ _ _ _=>{_,rfl,rfl}) (λ_ _ _ _ _ _ _ _ _=>{_,rfl,rfl}),qe:=bP X G t35 λ_ _ _ _ _ _=>ú λ_ _=>rfl,AV:=Gq X G t36 (λ_ _ _ _ _ _ _ _ _ _=>{_,rfl,rfl}) (λ_ _ _ _ _ _ _ _ _=>{_,rfl,rfl}),
  rO:=bP X G t37 λ_ _ _ _ _ _=>ô λ_=>rfl,qX:=bP X G t38 λ_ _ _ _ _ _=>ſ λ_ _ _=>rfl,eP:=bP X G t39 λ_ _ _ _ _ _=>ſ λ_ _ _=>rfl,
  lU:=bP X G t40 λ_ _ _ _ _ _=>ſ λ_ _ _=>rfl,pJ:=bP X G t41 λ_ _ _ _ _ _=>ô λ_=>rfl,oK:=bP X G t42 λ_ _ _ _ _ _=>ſ λ_ _ _=>rfl,
  jN:=bP X G t43 λ_ _ _ _ _ _=>ſ λ_ _ _=>rfl,ou:=bP X G t44 λ_ _ _ _ _ _=>ú λ_ _=>rfl,xO:=bP X G t45 λ_ _ _ _ _ _=>ú λ_ _=>rfl,
  uB:=bP X G t46 λ_ _ _ _ _ _=>ú λ_ _=>rfl,pH:=bP X G t47 λ_ _ _ _ _ _=>ô λ_=>rfl,rC:=bP X G t48 λ_ _ _ _ _ _=>ú λ_ _=>rfl,
  rP:=bP X G t49 λ_ _ _ _ _ _=>ſ λ_ _ _=>rfl,vi:=bP X G t50 λ_ _ _ _ _ _=>ϝ λ_ _ _ _=>rfl,rD:=bP X G t51 λ_ _ _ _ _ _=>ſ λ_ _ _=>rfl,
  qU:=bP X G t52 λ_ _ _ _ _ _=>ô λ_=>rfl,kT:=bP X G t53 λ_ _ _ _ _ _=>ar5 λ_ _ _ _ _=>rfl,rV:=bP X G t54 λ_ _ _ _ _ _=>ſ λ_ _ _=>rfl,
  qG:=bP X G t55 λ_ _ _ _ _ _=>ô λ_=>rfl,rS:=bP X G t56 λ_ _ _ _ _ _=>ú λ_ _=>rfl,rM:=bP X G t57 λ_ _ _ _ _ _=>ô λ_=>rfl,
  nP:=bP X G t58 λ_ _ _ _ _ _=>ú λ_ _=>rfl,kK:=bP X G t59 λ_ _ _ _ _ _=>ú λ_ _=>rfl,oG:=bP X G t60 λ_ _ _ _ _ _=>ô λ_=>rfl,
  gN:=bP X G t61 λ_ _ _ _ _ _=>ô λ_=>rfl,iw:=bP X G t62 λ_ _ _ _ _ _=>ô λ_=>rfl,gQ:=bP X G t63 λ_ _ _ _ _ _=>ô λ_=>rfl,
  iU:=bP X G t64 λ_ _ _ _ _ _=>ô λ_=>rfl,nh:=bP X G t65 λ_ _ _ _ _ _=>ú λ_ _=>rfl,jv:=bP X G t66 λ_ _ _ _ _ _=>ú λ_ _=>rfl,
  rT:=bP X G t67 λ_ _ _ _ _ _=>ô λ_=>rfl,uu:=bP X G t68 λ_ _ _ _ _ _=>ú λ_ _=>rfl,uP:=bP X G t69 λ_ _ _ _ _ _=>ſ λ_ _ _=>rfl,
  iS:=bP X G t70 λ_ _ _ _ _ _=>ô λ_=>rfl,rf:=bP X G t71 λ_ _ _ _ _ _=>ô λ_=>rfl,xV:=Q0 X G xV,
  ni:=Q0 X G ni,zo:=Q0 X G zo,ax:=Q0 X G ax,
  md:=Q0 X G md,fF:=Q0 X G fF,qB:=Q0 X G qB,
  hU:=Q0 X G hU,CC:=Q0 X G CC,qz:=Q0 X G qz,
  sg:=Q0 X G sg,Cw:=Q0 X G Cw,qO:=Q0 X G qO,
  C6:=Q0 X G C6,tF:=g_CLOCK.imp λ_ e=>Vb X G e,kI:=qf X G cg ct x_Row,
  vg:=kG m1 λ_ _ _ _ _ _=>ú λ_ _=>rfl,cF:=qf X G cg ct x_HandRow,jB:=kG m2 λ_ _ _ _ _ _=>ϝ λ_ _ _ _=>rfl,
  gx:=n1,gF:=n2,eh:=n3,
  bq:=qf X G cg ct x_GivenRow,iC:=kG m3 λ_ _ _ _ _ _=>ar5 λ_ _ _ _ _=>rfl,dE:=n4,
  fj:=n5,gf:=n6,dH:=n7,
  cL:=qf X G cg ct x_OwnRow,kj:=kG m4 λ_ _ _ _ _ _=>ϝ λ_ _ _ _=>rfl,fV:=n8,
  gZ:=n9,fe:=n10,cC:=qf X G cg ct x_LetRow,
  j5:=kG m5 λ_ _ _ _ _ _=>ϝ λ_ _ _ _=>rfl,fu:=n11,fY:=n12,
  fm:=n13,cD:=qf X G cg ct x_SetRow,j6:=kG m6 λ_ _ _ _ _ _=>ϝ λ_ _ _ _=>rfl,
  i8:=kG m7 λ_ _ _ _ _ _=>ô λ_=>rfl,fW:=n14,fH:=n15,
  fh:=n16,bY:=qf X G cg ct x_PutRow,kD:=kG m8 λ_ _ _ _ _ _=>ar5 λ_ _ _ _ _=>rfl,
  jz:=kG m9 λ_ _ _ _ _ _=>ô λ_=>rfl,fT:=n17,fL:=n18,
  fK:=n19,fi:=n20,bR:=qf X G cg ct x_SendRow,
  jx:=kG m10 λ_ _ _ _ _ _=>ϝ λ_ _ _ _=>rfl,iE:=kG m11 λ_ _ _ _ _ _=>ô λ_=>rfl,gy:=n21,
  ff:=n22,eI:=n23,bD:=qf X G cg ct x_SayRow,
  kB:=kG m12 λ_ _ _ _ _ _=>ar5 λ_ _ _ _ _=>rfl,fw:=n24,gu:=n25,
  fR:=n26,b5:=n27,bh:=qf X G cg ct x_CallRow,
  jG:=kG m13 λ_ _ _ _ _ _=>ϝ λ_ _ _ _=>rfl,cn:=n28,df:=n29,
  cE:=n30,dG:=qf X G cg ct x_LastRow,gq:=kG m14 λ_ _ _ _ _ _=>ú λ_ _=>rfl,
  cZ:=n31,aS:=qf X G cg ct x_IfRow,lQ:=kG m15 λ_ _ _ _ _ _=>ar7 λ_ _ _ _ _ _ _=>rfl,
  kq:=kG m16 λ_ _ _ _ _ _=>ô λ_=>rfl,fX:=n32,bX:=n33,
  bZ:=n34,dJ:=n35,dS:=n36,
  eg:=n37,aM:=qf X G cg ct x_LoopRow,jd:=kG m17 λ_ _ _ _ _ _=>ar7 λ_ _ _ _ _ _ _=>rfl,
  ir:=kG m18 λ_ _ _ _ _ _=>ô λ_=>rfl,fo:=n38,dq:=n39,
  bM:=n40,dj:=n41,cu:=n42,
  dg:=n43,a8:=qf X G cg ct x_DeedRow,i6:=kG m19 λ_ _ _ _ _ _=>ar5 λ_ _ _ _ _=>rfl,
  b4:=n44,cP:=n45,bW:=n46,
  eE:=n47,bc:=qf X G cg ct x_Program,iV:=kG m20 λ_ _ _ _ _ _=>ϝ λ_ _ _ _=>rfl,
  cO:=n48,br:=n49,dh:=n50,
  b6:=⟨y_Row_init.1,y_Row_init.2.1,y_Row_init.2.2⟩,nd:=nod }
 have F:aY K mg "law" uy ["_law_script"]:=bP X G t72 λ_ _ _ _ _ _=>ô λ_=>rfl;obtain⟨f,a,oc,od,kV,dc,pm,an,cd,ct,sl,lk,_,_⟩:=t72;refine{Rp "law" "law" (b9 uy) (bK uy) (aA uy) .none kV dc pm an cd ct,λs v=>.of_eq rfl,λbase _ _=>?_};have e:=hfa.symm.trans (Vb X G a);cases e;exact Kd (Mv (P:=l.prog) (w:=w) (base:=base) T F) (Vb X G a) lk
theorem walk{l:Vj}{q:Program}{loose:List Str}{XP:(Str->Option Qt)->QN->Prop}{YP:QD->QN->Prop}{d:DefRec}{K:RE->Qx}(hn:l.most=Wv 63)(hdf:d.params.defaults=[])(hY:∀(w:QD)(h:QN),YP w h->(K w.params).In h)
  (F:∀(w:QD)(mg:Str->Option Qt)(fa:Qs)(h:QN),(K w.params).In h->h.Ns QI mg->mg d.name=Wv (.ref fa)->∃fd:RJ,(∀(s:Qw)(u:Qt),Uo s fd {[u],[]} [("_law_script",u)])/\∀base:QN,(K w.params).In base->base.Ns QI mg->mC l.prog w (K w.params) mg base Ō 28 fa fd ["_law_script"] (x3 (K w.params))) :
  W.WalkO q loose XP YP l.row.toRowW d [] (λf vs=>V2 f vs):=
 L2.GG (n:=63) (k:=28) (x:="_law_script") (CX:=λ_=>Ō) (sp:=λw=>x3 (K w.params)) hn ∅ hdf {rfl,∅,∅} hY F (λ_ _ a ns hl _ hS=>{a,ns,rfl,hS,hl,λ_=>rfl}) λ_ _ _ _ _ z=>z
end K51
open PySem PySem.W PyProof.Rows
set_option maxRecDepth 100000 in
set_option maxHeartbeats 0 in
theorem PySem.Challenge.cw_hushrow_k51_all_else_stays_holds : PySem.Challenge.rw_hushrow_k51_all_else_stays.Holds := by
 w_on;o_law
 refine W.holds_open (q:=K51.dC) (loose:=["links","table","evened"]) (Xt:=K51.test) (XP:=W.XL K51.dC []) (Yf:=(U2 K51.ö K51.sy K51.kN).obs) (Ya:=(U2 K51.ö K51.sy K51.kN).val) (YP:=(U2 K51.ö K51.sy K51.kN).says) (N:=13666) K51.left (U2 K51.ö K51.sy K51.kN).of (U2 K51.ö K51.sy K51.kN).keeps
  (λs e=>W.xl_of s (Bool.and_eq_true_iff.mp e).1) W.XL.keeps (by rfl) (by rfl) (by rfl) (λs e=>W.recFacts_of (Bool.and_eq_true_iff.mp e).2) ?h4 ?h5 ?h6 {rfl,rfl,rfl,rfl,rfl,by decide+kernel} ?hw ?hc
 (case h4=>rfl);(case h5=>first|assumption|decide+kernel);(case h6=>decide+kernel);(case hw=>w_witness2)
 k_fill
 refine K51.walk (l:=PySem.Challenge.rw_hushrow_k51_all_else_stays) rfl rfl (λw h Y=>W.kIn_of Y) ?F;case F=>
  intro w mg fa h KX G hmg;refine K51.all_mk ⟨94,122,148,174,200,240,280,313,353,384,403,436,469,495,514⟩ KX G hmg ?_ ?_ ?_ ?_ ?_ ?_ ?_ ?_ ?_ ?_ ?_ ?_ ?_ ?_ ?_ ?_ ?_ ?_ ?_ ?_ ?_ ?_ ?_ ?_ ?_ ?_ ?_ ?_ ?_ ?_ ?_ ?_ ?_ ?_ ?_ ?_ ?_ ?_ ?_ ?_ ?_ ?_ ?_ ?_ ?_ ?_ ?_ ?_ ?_ ?_ ?_ ?_ ?_ ?_ ?_ ?_ ?_ ?_ ?_ ?_ ?_ ?_ ?_ ?_ ?_ ?_ ?_ ?_ ?_ ?_ ?_ ?_ ?_ ?_ ?_ ?_ ?_ ?_ ?_ ?_ ?_ ?_ ?_ ?_ ?_ ?_ ?_ ?_ ?_ ?_ ?_ ?_ ?_ ?_ ?_ ?_ ?_ ?_ ?_ ?_ ?_ ?_ ?_ ?_ ?_ ?_ ?_ ?_ ?_ ?_ ?_ ?_ ?_ ?_ ?_ ?_ ?_ ?_ ?_ ?_ ?_ ?_ ?_ ?_ ?_ ?_ ?_ ?_ ?_ ?_ ?_ ?_ ?_ ?_ ?_ ?_ ?_ ?_ ?_ ?_ ?_ ?_ ?_ ?_ ?_ ?_ ?_ ?_ ?_ ?_ ?_ ?_ ?_ ?_ ?_ ?_ ?_ ?_ ?_ ?_ ?_ ?_ ?_ ?_ ?_ ?_ ?_ ?_ ?_ ?_ ?_ ?_ ?_ ?_ ?_ ?_;iterate 28 exact{_,by k_is,_,_,_,_,_,_,_,_,_,by k_is,by k_is,by k_is}
  iterate 1 exact{_,_,_,_,_,_,_,_,_,_,_,_,_,_,by k_is,by k_is,by k_is,by k_is,by k_is,by first|rfl|exact{_,rfl}}
  iterate 4 exact{_,by k_is,_,_,_,_,_,_,_,_,_,by k_is,by k_is,by k_is}
  iterate 1 exact{_,_,_,_,_,_,_,_,_,_,_,_,_,_,by k_is,by k_is,by k_is,by k_is,by k_is,by first|rfl|exact{_,rfl}}
  iterate 1 exact{_,by k_is,_,_,_,_,_,_,_,_,_,by k_is,by k_is,by k_is}
  iterate 1 exact{_,_,_,_,_,_,_,_,_,_,_,_,_,_,by k_is,by k_is,by k_is,by k_is,by k_is,by first|rfl|exact{_,rfl}}
  iterate 36 exact{_,by k_is,_,_,_,_,_,_,_,_,_,by k_is,by k_is,by k_is}
  iterate 14 (show _=_;k_is)
  iterate 1 exact{_,by k_is}
  iterate 2 (show _=_;k_is)
  iterate 15 exact{by k_is,{_,by k_is,rfl},by k_is,by k_is,by k_is,by k_is,by k_is,by k_is,by k_is,by k_is}
  iterate 20 exact{_,by k_is,by k_is,_,_,_,_,_,_,_,_,_,by k_is,by k_is,by k_is}
  iterate 50 (show _=_;k_is)
  iterate 1 exact{by k_is,by k_is,_,by k_is,by k_is}
  iterate 1 decide

import PyProof.Rows.All
import Wide.All
import OpenK.AllK
import PySem.Challenge.RW_hushrow_k32_links_by_steps
local macro_rules|`({$x:term,$xs,*})=>`(⟨$x,$xs,*⟩)
open PySem renaming Value->E9,wpAny_bind->N5,Addr->N6,Shared->N7,wpAny_pure->N9,World->Of,model->Oh,starEach->Oi,Around->Ou,compareOp->Oy,mainGlobals->Oz,Heap->OC,mem_of_lookup->OE,Stmt->OH,importedModules->OK,eval->OT,treeTable->OW,wpAny_newObj_type->OZ,cellsFrom->O1,keywordEach->O4,attributeBase->O5,backTo->O7,sysModules->Pd,OsState->Ph,wpAny_mono->Pn,binaryOp->Po,FuncData->Pp,wpAny_passesOwn->Pr,bootBuiltins->Pu,cLine->PB,backToKw->PD,NameKind->PH,wpAny_getItem_str_slice->PQ,Params->PV,wpAny_Call_Name_kw->PY,sizeLine_eq->P5,wpAny_rule->P7,Keyword->Qc,behindInMarks->Qi,pushCells_keeps->Qk,call_meets->Qn,tupleKind_room_in1->Qo,Scope->Qq,sliceBounds->Qs,wpAny_truthy_bool->Qt,wpAny_typeOf->Qv,wpAny_dictEntries->Qx,Spec->Qz,wpAny_call_entry->QE,typeIs_str->QF,pushCells->QG,wpAny_field->QL,wpAny_execs_nil->QM,letOwnedTupleGo->QN,PyData->QP,post_val_or_str->QQ,holding->QU,codeAny_mono->QV,Str->QY,assignEach->Q0,getItem->Rg,wpAny_standAt->Ri,GenState->Rj,wpAny_callSpecial?_slot->Rn,Builtin->Rr,builtinsNs->Rt,wpAny_pyNext_list_item->Ru,wpAny_pyNext_range_end->Rv,wpAny_pyIter_rangeiter->Rw,BindsTo->Ry,wpAny_pyNext_list_end->RF,wpAny_notOrdered_dict->RG,wpAny_loadName_local->RK,IsRangeIter->RL,tupleKind->RY,swapsWith->RZ,callerA->Se,wpAny_loadName_cell->Si,evalPart_none->Sv,wpAny_Constant_int->SF,wpAny_pyIter_range->SG,IsPart->SH,getattributeRaised->SN,Within->SW,standAt->SX,wpAny_sequenceKey->S8,seqIndex_neg->S9,wpAny_pyIter_list->Ta,DictEntry->Tn,wpAny_execs_cons->Tq,getMethod->Ts,wpAny_pyIter_zip->Tw,seqIndex_of->TM,atKey->TN,codeAny_builtin->TY,wpAny_dictEpoch->TZ,wpAny_Name->T5,Result->T7,recursionLimit->T8,wpAny_call->T9,bindL->Ua,bindC->Ub,typeIs_int->Ud,call->Ug,newFunctionEnv->Uh,compPost->Uj,storeName->Ux,joinParts->Uz,seqItems?->UA
open PyProof.Rows renaming arrOf->N8,wpS_bind->Oa,wpS_pure->Ob,Keyed->Og,pendingOf->Ol,SortSt->Ov,wpS_modify->ON,wpS_forRange->OO,wpS_mono->OX,mirror->OY,slot_tuple_getitem->O9,SortKind->Pg,callWith_type1->Pk,seqObj->P4,failedOf->P8,mirror_perm->Qa,wpS_get->Ql,envOfC->Qu,pairsOf->QH,KK_mirror_equal->QR,slicePart_none->Q1,wpS_lift->Q6,AllBare->Rf,subscriptTail_builtinR->Rz,listItems_at->RD,elem'->RU,gallopOf->RV,SortedToK->Sf,entry_tuple_getitem->Sj,subscriptTail->Sw,listUpdate_at->Sx,args_tuple_getitem->SI,setArr->SS,pairsOf_size->Tf,seqEpoch_at->TQ,IntsAre->T3,Subscript_->Uc,size_push'->Uo,KeyOrd->Uq,pairsOf_toList->Us,tuples'->UD
open PySem.W renaming Frag->Oc,findIn->Pa,mg_none_of->Pc,keepIn->Pf,fnOf->Pj,emptyDict->PU,topStub->PX,kitOne->P1,kia_one->P2,Frag->Qb,openSeen->Qh,specialIn->Qr,boot_drawn->QA,instObj->QC,cellsFrom_some->QD,codeIn->QK,boot_toks->QX,openGood->Rk,boot_heap->Rl,plainGet->Rx,hasDictIn->RN,plainGet_of->Su,kHook->SU,mg_of->Tb,OpenLaw->To,boot_o_0->Tp,makesIn->Tt,takesIn->Tu,methodObj->TJ,plainOver->TL,namesBound->T4,lookIn->T6,nsIn->Ul,staticsOk->Uw,takerIn->Uy,isFn->UB,mroIn->UC
open PySem.Heap renaming get?_push_of_some->Od,lt_size->Om,get?_push_size->Ox,get?_push_ne->Py,size_push->PC,get?_update_other->PZ,size_update->Qe,SameBut->QT
open PySem.Paired renaming length->Oe
open Option.some renaming inj->Oj,injEq->Tc
open PySem.Value renaming ref->Oo,type->Pm,str->QB,int->RX,isStrOf_shape->Sh,isStrOf->Ss,none->SD,bool->SE,isInt_shape->SV,isInt->TF,float->TH
open PySem.PassesOwn renaming never->Oq
open PySem.Str renaming empty->Ot,ofString->Qd
open PySem.PyData renaming strOk->Ow,canLayAll0->OJ,depthAll->OP,canLay0->OU,depth->Pl,eqv->P0,eqvAll->QI,int->Ut,str->Uu
open List renaming range->OA,replicate->OB,length->Pw,lookup->P6,Nodup->Qp,getElem?_replicate->Rm,getElem?_cons_zero->Rp,drop_of_length_le->RC,getElem?_set_ne->RJ,take_succ_cons->Sr,findIdx?_cons->SO,mapM_toArray->Tg,pairwise_map->Tj,zipIdx_cons->Tx,all_toArray->Tz,mem_reverse->TB,take_append->TC,forIn_cons->TU,range_succ->TV,filter_nil->T1,take_left'->T2,foldl->Ue,forIn_nil->Ui,mapM_cons->Ur
open PyProof.Rows.KeyOrd renaming kle_trans->OD,kle_of_klt->OF,kle_refl->OI,kle->P9,klt_of_kle_of_klt->Qj,kle_antisymm->Sl,klt->Um
open List.Perm renaming append_left->OG,append_right->O8,flatMap_right->Rq
open PySem.Builtin.Tuple renaming tupleExact->OM,tupleItemsOf->Q3
open PySem.Builtin.Slice renaming slicePlaces->OQ,sliceApplied->Pq,sliceAdjust->Qf,sliceFields->Q8
open PySem.SeqAt renaming shaped->OR,EqAt->Qm,notIn_listAt->SK
open PySem.Builtin.Range renaming rangeSize->OS,small->QS,rangeFitsLong->QW
open PySem.NameKind renaming cell->OV,free->O6
open False renaming elim->O2
open PySem.Builtin.Str renaming occurrences->O3,strKind->Sk
open PySem.Obj renaming mapSeq->Pb
open Option renaming none->Px,isSome_some->SM,getD_none->Tv,some->UE,none->UG
open PySem.Builtin.List renaming listTooLong->Pz,listItems->Qy
open PySem.F renaming plainAttrs_list->PM,slot_dict_eq->RT,slot_int_rmul->TR
open PySem.BindsTo renaming of_defaults->Qg
open PySem.Builtin.Dict renaming samePairs->Qw,dictSlotArgs->Q9,updateFrom->Ro,pairItems->RB,showsAll->RH
open Prod renaming ext->QJ
open ForInStep renaming yield->QO
open PySem.Calls renaming Name_function_global->QZ,callWith_builtin->RA
open PySem.SeqAt.EqAt renaming int_int->Q4,str_str->Q5,int_str->Sy,str_int->Sz
open Array renaming toList_setIfInBounds->Q7,reverse_reverse->RI,toArray_toList->RS,reverse_append->RW,toList_modify->So,size_extract->SR,getElem_mem->Td,size_append->Te,size_map->Up
open Decidable renaming byContradiction->Rb
open Prod.mk renaming inj->Rc
open List.Pairwise renaming nil->Rh
open Array.Perm renaming refl->RE
open PySem.Around renaming under_plainId->RO,under->SY
open PySem.Data renaming cell->Sd,fields->TK
open Nat renaming add_le_add_left->Sq
open PySem.Heap.IsSliceOf renaming new->SJ
open PyProof.Rows.SortSt renaming mk'->SQ
open PySem.Code renaming isFrame->S0
open Function renaming comp_def->Ti
open PySem.Heap.DictOf renaming new->TX
open PySem.Walks renaming strAscii->Uk
open Int renaming mul_nonneg->Uv
open List renaming length_append->Ll,length_map->Lm,length_singleton->Lo,mem_singleton->Lp,length_cons->Lq,mem_append->Ls,mem_cons->Lu,getElem?_eq_getElem->Lw,mem_cons_of_mem->Lx,append_assoc->Lz,mem_cons_self->LB,map_cons->LC,mem_append_right->LD,getElem?_eq_some_iff->LJ,size_toArray->LM,mem_map->LN,take_append_drop->LO,mem_append_left->LP,append_nil->LQ,not_mem_nil->LS,length_take->LV,mem_of_getElem?->LW,getElem?_of_mem->LX,getElem?_map->LY,nil_append->L6,getElem?_append_right->L7,cons_append->L8,take_of_length_le->Mb,length_drop->Mc,mem_flatMap->Md,getElem?_append_left->Me,getD_eq_getElem?_getD->Mf,length_nil->Mi,flatMap_cons->Mj,map_append->Ml,mem_of_mem_take->Mn,take_length->Mo,perm_append_comm->Mp,nodup_cons->Mq,flatMap_append->Mr,take_add_one->Ms,getElem?_take_of_lt->Mt,find?_cons->Mu,length_range->Mx,getElem?_eq_none->My,filterMap_cons->MG,replicate_succ->MH,lookup_cons->MI,all_eq_true->MJ,getElem?_drop->ML,map_map->MM,foldl_cons->MN,pairwise_append->MQ,mem_of_mem_drop->MR,drop_eq_getElem_cons->MS,pairwise_iff_getElem->MT,mem_map_of_mem->MU,map_congr_left->MV,getElem?_range->MW,mem_filter->MX,take_append_of_le_length->M5,length_replicate->M8,drop_drop->M9,dropLast_concat_getLast->Na,sum_cons->Nd,of_mem_zip->Ni,flatten_cons->Nl,getElem?_set_self->Nm,any_cons->Np,take_add->Nq,length_filter_le->Nt,set_append_right->Nu,length_zip->Nx,take_zero->Nz,nodup_nil->NA,mem_filterMap->NC,filter_append->NF,pairwise_cons->NG,all_cons->NH,map_take->NK,foldl_append->NM,ext_getElem?->NO,getElem_inj->NQ,drop_length->NS,any_eq_true->NV,map_nil->NY,map_id->N0
open Nat renaming le_refl->Ln,le_trans->LG,zero_le->LH,lt_of_lt_of_le->LZ,ne_of_lt->L9,add_sub_cancel_left->Mm,le_add_right->Mw,lt_succ_of_lt->MA,sub_self->MD,lt_irrefl->MF,add_assoc->MO,le_succ_of_le->M7,lt_succ_self->Nc,le_succ->Ng,le_of_lt->Nj,ne_of_gt->Nk,le_of_eq->Nw,lt_of_le_of_lt->ND,lt_or_ge->NT,succ_le_succ->NU,not_lt->N4
open Bool renaming false_ne_true->Lv,and_eq_true->Mv,false_eq_true->MK,eq_false_iff->M6,eq_iff_iff->Nh,true_and->NI,false_or->NJ
open Array renaming length_toList->LI,getElem?_toList->L5,toList_append->Ma,toList_push->MP,perm_iff_toList_perm->Nf,mk->Nr,mem_toList_iff->Nv,toList->NR
open Or renaming inl->LL,inr->MY
open Ne renaming symm->LU
open True renaming intro->Mz
open Option renaming map_some->MB,isSome_iff_exists->MC,map_eq_some_iff->MZ,isSome_map->NL
open Sum renaming inr->ME,inl->Ny
open Int renaming le_refl->NB,toNat_natCast->NN,mul_le_mul->NW,add_assoc->NX,zero_add->NZ
set_option Elab.async false
set_option linter.all false
set_option genSizeOf false
set_option bootstrap.genMatcherCode false
set_option compiler.extract_closed false
set_option maxRecDepth 100000
namespace Hd
open PySem PySem.W PySem.Calls PyProof.Rows
noncomputable def j6(tb:String->Option Rr)(p:Program)(w:Of)(n₀:Nat)(ann:Option E9):Nat->SharedT->Thread->Option SharedT
 |0,_,_=>UG
 |n+1,s,t=>match through t with
  |true=>UE s
  |false=>match stepOk n₀ ann t with
   |false=>UG
   |true=>match stepT (denote tb) p w s t with
    |some (s',t')=>j6 tb p w n₀ ann n s' t'
    |none=>UG
theorem CZ{tb:String->Option Rr}{p:Program}{w:Of}{n₀:Nat}{ann:Option E9}:∀{n:Nat}{s s':SharedT}{t:Thread},
  j6 tb p w n₀ ann n s t=UE s'->topRun tb p w n₀ ann n s.abs t=UE s'.abs
 |0,_,_,_,h=>by cases h
 |n+1,s,s',t,h=>by
  unfold j6 at h;unfold topRun;cases he:through t with
  |true=>rw[he]at h;cases h;rfl
  |false=>
   rw[he]at h;cases hk:stepOk n₀ ann t with
   |false=>rw[hk]at h;cases h
   |true=>
    rw[hk]at h;cases hs:stepT (denote tb) p w s t with
    |none=>rw[hs]at h;cases h
    |some r=>obtain⟨s₂,t₂⟩:=r;rw[hs]at h;rw[stepT_spec hs];exact CZ h
noncomputable def Jn(p q:Program)(loose:List Str)(Xt:N7->Bool){α:Type}(Yf:N7->α)(g0:Bool)(H:OC)(s:N7):=
 (Uw (OK p.main.body) H s.heap&&T4 p s.heap&&gensDone s&&laidKept H s.heap,Qh q loose (OK p.main.body) Xt g0 s,Yf s)
noncomputable def Ca(p:Program)(H:OC)(s:N7):=Uw (OK p.main.body) H s.heap&&T4 p s.heap&&gensDone s&&laidKept H s.heap
noncomputable def treeOf:List Obj->Nat->BT->BT
 | [],_,t=>t
 |o::r,i,t=>treeOf r (i+1) (t.ins i o)
theorem EG{p q:Program}{loose:List Str}{Xt:N7->Bool}{α:Type}{Yf:N7->α}{Ya:Of->α}{N:Nat}{g0:Bool}{H₀:PV->OC}{gs₀:Array Rj}{d₀:Drawn}{k₀ m₀ n₀:Nat}{ann:Option E9}{T₀:PV->BT}{life:Life}
  (opn:∀w:Of,(fencedOpening OW p w N).map (λs=>(s.heap,s.gens,s.drawn,s.toks))=UE (H₀ w.params,gs₀,d₀,k₀))
  (size:∀w:Of,((H₀ w.params).isNs Oz&&gs₀.size==0,(H₀ w.params).objs.size,(H₀ w.params).nsMap Oz "__annotations__")=(true,m₀,ann))
  (tree:∀P:PV,absHeap (T₀ P) n₀ life=H₀ P)
  (look:∀(w:Of)(os:Ph),(j6 OW p w m₀ ann N ⟨T₀ w.params,n₀,life,gs₀,d₀,k₀,os⟩ (PX p)).map (λs=>Jn p q loose Xt Yf g0 (H₀ w.params) s.abs)=UE (true,Rk q loose,Ya w)) :
  LeftO p q loose Xt Yf Ya N g0:=λw=>by
 obtain⟨⟨h,gs,d,k,os⟩,e,e'⟩:=MZ.mp (opn w)
 obtain⟨rfl,rfl,rfl,rfl⟩:h=H₀ w.params/\gs=gs₀/\d=d₀/\k=k₀:=by simpa using e'
 obtain⟨z1,z2,z3⟩:_/\_/\_:=by simpa only[Prod.mk.injEq] using size w
 obtain⟨s,hs,hl⟩:=MZ.mp (look w os)
 obtain⟨l1,l23⟩:=Rc hl
 obtain⟨l2,l3⟩:=Rc l23
 have r:=CZ hs
 have t:topFrom OW p w N ⟨H₀ w.params,gs,d,k,os⟩=UE s.abs:=by
  unfold topFrom;dsimp only;rw[z1,z2,z3];unfold SharedT.abs at r;dsimp only at r;rw[tree w.params]at r;show(topRun OW p w m₀ ann N ⟨H₀ w.params,gs,d,k,os⟩ (PX p)).bind _=_;rw[r];show(match Uw (OK p.main.body) (H₀ w.params) s.abs.heap&&T4 p s.abs.heap&&gensDone s.abs&&laidKept (H₀ w.params) s.abs.heap with|true=>_|false=>_)=_;rw[l1];rfl
 unfold openEnds
 rw[e]
 show(topFrom OW p w N _).map _=_
 rw[t]
 exact congrArg UE (QJ l2 l3)
theorem Cd{p q:Program}{loose:List Str}{Xt:N7->Bool}{α:Type}{Yf:N7->α}{Ya:Of->α}{N:Nat}{g0:Bool}{H₀:PV->OC}{gs₀:Array Rj}{d₀:Drawn}{k₀ m₀ n₀:Nat}{ann:Option E9}{T₀:PV->BT}{life:Life}
  (opn:∀w:Of,(fencedOpening OW p w N).map (λs=>(s.heap,s.gens,s.drawn,s.toks))=UE (H₀ w.params,gs₀,d₀,k₀))
  (size:∀w:Of,((H₀ w.params).isNs Oz&&gs₀.size==0,(H₀ w.params).objs.size,(H₀ w.params).nsMap Oz "__annotations__")=(true,m₀,ann))
  (tree:∀P:PV,absHeap (T₀ P) n₀ life=H₀ P)
  (look1:∀(w:Of)(os:Ph),(j6 OW p w m₀ ann N ⟨T₀ w.params,n₀,life,gs₀,d₀,k₀,os⟩ (PX p)).map (λs=>Ca p (H₀ w.params) s.abs)=UE true)
  (look3:∀(w:Of)(os:Ph),(j6 OW p w m₀ ann N ⟨T₀ w.params,n₀,life,gs₀,d₀,k₀,os⟩ (PX p)).map (λs=>(Qh q loose (OK p.main.body) Xt g0 s.abs).1)=UE (Rk q loose).1)
  (look7:∀(w:Of)(os:Ph),(j6 OW p w m₀ ann N ⟨T₀ w.params,n₀,life,gs₀,d₀,k₀,os⟩ (PX p)).map (λs=>(Qh q loose (OK p.main.body) Xt g0 s.abs).2.1)=UE (Rk q loose).2.1)
  (look5:∀(w:Of)(os:Ph),(j6 OW p w m₀ ann N ⟨T₀ w.params,n₀,life,gs₀,d₀,k₀,os⟩ (PX p)).map (λs=>(Qh q loose (OK p.main.body) Xt g0 s.abs).2.2.1)=UE true)
  (look6:∀(w:Of)(os:Ph),(j6 OW p w m₀ ann N ⟨T₀ w.params,n₀,life,gs₀,d₀,k₀,os⟩ (PX p)).map (λs=>(Qh q loose (OK p.main.body) Xt g0 s.abs).2.2.2.1)=UE true)
  (look4:∀(w:Of)(os:Ph),(j6 OW p w m₀ ann N ⟨T₀ w.params,n₀,life,gs₀,d₀,k₀,os⟩ (PX p)).map (λs=>(Qh q loose (OK p.main.body) Xt g0 s.abs).2.2.2.2)=UE (Rk q loose).2.2.2.2)
  (look2:∀(w:Of)(os:Ph),(j6 OW p w m₀ ann N ⟨T₀ w.params,n₀,life,gs₀,d₀,k₀,os⟩ (PX p)).map (λs=>Yf s.abs)=UE (Ya w)) :
  LeftO p q loose Xt Yf Ya N g0:=EG opn size tree λw os=>by
 obtain⟨s,hs,h1⟩:=MZ.mp (look1 w os)
 have h2:=look2 w os
 have h3:=look3 w os
 have h4:=look4 w os
 have h5:=look5 w os
 have h6:=look6 w os
 have h7:=look7 w os
 rw[hs]at h2 h3 h4 h5 h6 h7⊢
 exact congrArg UE (QJ h1 (QJ (QJ (Oj h3) (QJ (Oj h7) (QJ (Oj h5) (QJ (Oj h6) (Oj h4))))) (Oj h2)))
end Hd
namespace L2
open PySem PySem.Spec PyProof.Rows
noncomputable def UI(s:OH)(j:Nat):OH:=match s with
 | .ClassDef _ _ _ body _ _ _ _ _ _ _=>body.getD j (.Pass ⟨0,0,0,0⟩)
 |_=>.Pass ⟨0,0,0,0⟩
noncomputable def bG(s:OH):Arguments:=match s with
 | .FunctionDef _ a _ _ _ _ _ _ _ _=>a
 |_=>{ posonlyargs:=[],args:=[],vararg:=UG,kwonlyargs:=[],kw_defaults:=[],kwarg:=UG,defaults:=[] }
noncomputable def bh(s:OH):List OH:=match s with
 | .FunctionDef _ _ b _ _ _ _ _ _ _=>b
 |_=>[]
noncomputable def aq(s:OH):Qq:=match s with
 | .FunctionDef _ _ _ _ _ _ sc _ _ _=>sc
 |_=>{ kind:=.function,names:=[],isGenerator:=false,isCoroutine:=false }
end L2
namespace K32
open PySem
noncomputable def top(i:Nat):OH:=PySem.Challenge.pw_hushrow_k32_links_by_steps.main.body.getD i (.Pass ⟨0,0,0,0⟩)
end K32
set_option maxHeartbeats 0
namespace K32
open PySem L2 PySem.W
noncomputable abbrev Ey(P:PV)(x:Str)(t:Nat)(v:E9):Tn:=⟨PyData.keyHash P x,.str x t,v⟩
noncomputable abbrev FL(P:PV)(a:Nat)(l:Int)(b:Nat):=Ey P "__firstlineno__" a (.int l b)
noncomputable abbrev SA(P:PV)(a b:Nat):=Ey P "__static_attributes__" a (.ref b)
noncomputable abbrev DO(P:PV)(a:Nat):=Ey P "__doc__" a .none
noncomputable abbrev M3O(P:PV)(a:Nat):=Ey P "__module__" a (.str "hushrow.rows" 205)
noncomputable abbrev ER(P:PV)(x:Str)(a b:Nat):=Ey P x a (.ref b)
noncomputable abbrev DI(x:Array Tn)(n:Nat):Obj:={.type "dict",UG,.dict x n,#[]}
noncomputable abbrev WR(x:Str)(a b:Nat)(y:String):Obj:={.type "getset_descriptor",UG,.fields #[.str x a,.ref b,.builtin y,.none],#[]}
noncomputable abbrev CX(n:Str)(a c:Nat)(bs m s:List E9)(d:Option E9)(u v:Nat)(w:String):Obj:={.type "type",UG,.cls { name:=n,bases:=bs,mro:=.ref a::m,ns:=c,qualname:=n,hasDict:=true,slotNames:=[],subclasses:=s,abstract:=false,collection:=UG,hasDel:=false },#[d,UG,UE (.str n u),UE (.str n v),UE (.builtin w),UE (.bool true)]}
noncomputable abbrev CO(n q:Str)(t:Nat)(l a:Int)(r:Nat)(m:Nat):Obj:={.type "code",UG,.fields #[.str n t,.str q (t+1),.str "/claim/cut.py" (t+2),.int l 0,.int a 0,.int 0 0,.int 0 0,.int 3 0,.ref r,.bool true,.int 181 0,.ref (r+1),.none,.ref (r+2),.ref (r+3),.ref (r+4),.int m 0,.int l 0,.str "/claim/cut.py" (m+1)],#[]}
noncomputable abbrev FU(n q:Str)(s:OH)(m:Str)(t c:Nat):Obj:={.type "function",UG,.func (Pj n q (bG s) (bh s) (aq s) .none .none .none (.str m t) UG (.ref c) .none),#[]}
noncomputable abbrev FD(n q:Str)(s:OH)(d:Nat)(m:Str)(t c:Nat):Obj:={.type "function",UG,.func (Pj n q (bG s) (bh s) (aq s) (.ref d) .none .none (.str m t) UG (.ref c) .none),#[]}
noncomputable abbrev F7T(x:Str)(i c:Nat):=FU x x (top i) "hushrow.costs" 824 c
noncomputable abbrev F8T(x:Str)(i c:Nat):=FU x x (top i) "hushrow.places" 888 c
noncomputable abbrev F9T(x:Str)(i c:Nat):=FU x x (top i) "hushrow.links" 928 c
noncomputable abbrev hZ(x:Str)(i c:Nat):=FU x x (top i) "law_hushrow_k32_links_by_steps" 984 c
noncomputable abbrev jO(x y:Str)(i j c:Nat):=FU x y (UI (top i) j) "hushrow.rows" 205 c
noncomputable def heapK(P:PV):Oc:=
 (nat_lit 2,{.none,UG,.dict #[] 0,#[]})::
 (nat_lit 3,DI #[Ey P "__name__" 165 (.str "law_hushrow_k32_links_by_steps" 984),DO P 166,Ey P "__package__" 167 .none,Ey P "__loader__" 168 (.builtin "__main__.__loader__#opaque"),Ey P "__spec__" 169 .none,ER P "__annotations__" 170 6,ER P "__builtins__" 171 4,Ey P "__file__" 173 (.str "/claim/cut.py" 172),Ey P "__cached__" 174 .none,ER P "_wall" 193 21,ER P "names_in" 204 28,ER P "each_once" 215 35,ER P "Row" 258 66,ER P "HandRow" 293 94,ER P "GivenRow" 330 120,ER P "OwnRow" 365 146,ER P "LetRow" 400 172,ER P "SetRow" 449 212,ER P "PutRow" 500 252,ER P "SendRow" 542 285,ER P "SayRow" 593 325,ER P "CallRow" 634 356,ER P "LastRow" 657 375,ER P "IfRow" 705 408,ER P "LoopRow" 753 441,ER P "DeedRow" 790 467,ER P "Program" 823 486,ER P "exact_of" 836 497,ER P "exact_of_row" 844 504,ER P "one_more" 851 511,ER P "exact_of_if" 861 518,ER P "exact_of_loop" 870 525,ER P "balanced" 878 532,ER P "exacts" 887 539,Ey P "CLOCK" 891 (.str "the clock" 890),ER P "row_place" 898 546,ER P "laid_rows" 909 553,ER P "laid_inside" 918 560,ER P "laid_program" 927 567,ER P "drawn" 935 572,ER P "row_links" 946 579,ER P "said_links" 955 586,ER P "called_links" 968 593,ER P "step_links" 977 600,ER P "links" 983 606,ER P "_law_cell_at" 994 613,ER P "_law_more" 1000 618,ER P "_law_mix" 1011 625,ER P "_law_names" 1017 630,ER P "_law_pick" 1025 637,ER P "_law_heads" 1031 642,ER P "_law_scope" 1041 649,ER P "_law_thing" 1049 656,ER P "_law_value" 1060 663,ER P "_law_plain" 1073 670,ER P "_law_opened" 1087 677,ER P "_law_closed" 1094 684,ER P "_law_row" 1100 689,ER P "_law_body" 1112 696,ER P "_law_flat" 1130 703,ER P "_law_row_made" 1138 710,ER P "_law_rows_made" 1152 717,ER P "_law_program" 1166 724,ER P "_law_exact" 1180 731,ER P "_law_even_row" 1194 738,ER P "_law_evened_by" 1200 743,ER P "_law_due" 1215 750,ER P "law" 1231 757] 68)::
 (nat_lit 27,CO "names_in" "names_in" 196 5 1 22 202)::
 (nat_lit 28,FU "names_in" "names_in" (top 2) "hushrow.things" 194 27)::
 (nat_lit 34,CO "each_once" "each_once" 207 12 1 29 213)::
 (nat_lit 35,FU "each_once" "each_once" (top 4) "hushrow.rows" 205 34)::
 (nat_lit 48,CO "__init__" "Row.__init__" 228 20 2 43 233)::
 (nat_lit 49,jO "__init__" "Row.__init__" 5 0 48)::
 (nat_lit 65,DI #[M3O P 223,FL P 227 18 226,ER P "__init__" 235 49,ER P "reads" 242 56,ER P "target" 249 63,SA P 251 64,ER P "__dict__" 253 67,ER P "__weakref__" 255 68,DO P 256] 4)::
 (nat_lit 66,CX "Row" 66 65 [.type "object"] [.type "object"] [.ref 94,.ref 120,.ref 146,.ref 172,.ref 212,.ref 252,.ref 285,.ref 325,.ref 356,.ref 375,.ref 408,.ref 441,.ref 467] UG 216 224 "object.__new__")::
 (nat_lit 67,{(.type "getset_descriptor"),UG,.fields #[(.str "__dict__" 252),(.ref 66),(.builtin "function.__dict__"),(.builtin "function.__dict__#set")],#[]})::
 (nat_lit 68,WR "__weakref__" 254 66 "ExceptionGroup.__weakref__")::
 (nat_lit 83,CO "__init__" "HandRow.__init__" 271 30 4 78 278)::
 (nat_lit 84,jO "__init__" "HandRow.__init__" 6 0 83)::
 (nat_lit 93,DI #[M3O P 266,FL P 270 28 269,ER P "__init__" 280 84,ER P "shown" 287 91,SA P 290 92,DO P 291] 2)::
 (nat_lit 94,CX "HandRow" 94 93 [.ref 66] [.ref 66,.type "object"] [] (UE (.ref 71)) 259 267 "object.__new__")::
 (nat_lit 109,CO "__init__" "GivenRow.__init__" 306 39 5 104 314)::
 (nat_lit 110,jO "__init__" "GivenRow.__init__" 7 0 109)::
 (nat_lit 119,DI #[M3O P 301,FL P 305 37 304,ER P "__init__" 316 110,ER P "shown" 323 117,SA P 327 118,DO P 328] 2)::
 (nat_lit 120,CX "GivenRow" 120 119 [.ref 66] [.ref 66,.type "object"] [] (UE (.ref 97)) 294 302 "object.__new__")::
 (nat_lit 135,CO "__init__" "OwnRow.__init__" 343 49 4 130 350)::
 (nat_lit 136,jO "__init__" "OwnRow.__init__" 8 0 135)::
 (nat_lit 145,DI #[M3O P 338,FL P 342 47 341,ER P "__init__" 352 136,ER P "shown" 359 143,SA P 362 144,DO P 363] 2)::
 (nat_lit 146,CX "OwnRow" 146 145 [.ref 66] [.ref 66,.type "object"] [] (UE (.ref 123)) 331 339 "object.__new__")::
 (nat_lit 161,CO "__init__" "LetRow.__init__" 378 58 4 156 385)::
 (nat_lit 162,jO "__init__" "LetRow.__init__" 9 0 161)::
 (nat_lit 171,DI #[M3O P 373,FL P 377 56 376,ER P "__init__" 387 162,ER P "shown" 394 169,SA P 397 170,DO P 398] 2)::
 (nat_lit 172,CX "LetRow" 172 171 [.ref 66] [.ref 66,.type "object"] [] (UE (.ref 149)) 366 374 "object.__new__")::
 (nat_lit 187,CO "__init__" "SetRow.__init__" 413 67 4 182 420)::
 (nat_lit 188,jO "__init__" "SetRow.__init__" 10 0 187)::
 (nat_lit 201,CO "reads" "SetRow.reads" 430 75 1 196 434)::
 (nat_lit 202,jO "reads" "SetRow.reads" 10 2 201)::
 (nat_lit 211,DI #[M3O P 408,FL P 412 65 411,ER P "__init__" 422 188,ER P "shown" 429 195,ER P "reads" 436 202,ER P "target" 443 209,SA P 446 210,DO P 447] 2)::
 (nat_lit 212,CX "SetRow" 212 211 [.ref 66] [.ref 66,.type "object"] [] (UE (.ref 175)) 401 409 "object.__new__")::
 (nat_lit 227,CO "__init__" "PutRow.__init__" 462 82 5 222 470)::
 (nat_lit 228,jO "__init__" "PutRow.__init__" 11 0 227)::
 (nat_lit 241,CO "reads" "PutRow.reads" 480 91 1 236 484)::
 (nat_lit 242,jO "reads" "PutRow.reads" 11 2 241)::
 (nat_lit 251,DI #[M3O P 457,FL P 461 80 460,ER P "__init__" 472 228,ER P "shown" 479 235,ER P "reads" 486 242,ER P "target" 493 249,SA P 497 250,DO P 498] 2)::
 (nat_lit 252,CX "PutRow" 252 251 [.ref 66] [.ref 66,.type "object"] [] (UE (.ref 215)) 450 458 "object.__new__")::
 (nat_lit 267,CO "__init__" "SendRow.__init__" 513 98 4 262 520)::
 (nat_lit 268,jO "__init__" "SendRow.__init__" 12 0 267)::
 (nat_lit 281,CO "reads" "SendRow.reads" 530 106 1 276 534)::
 (nat_lit 282,jO "reads" "SendRow.reads" 12 2 281)::
 (nat_lit 284,DI #[M3O P 508,FL P 512 96 511,ER P "__init__" 522 268,ER P "shown" 529 275,ER P "reads" 536 282,SA P 539 283,DO P 540] 2)::
 (nat_lit 285,CX "SendRow" 285 284 [.ref 66] [.ref 66,.type "object"] [] (UE (.ref 255)) 501 509 "object.__new__")::
 (nat_lit 300,CO "__init__" "SayRow.__init__" 555 110 5 295 563)::
 (nat_lit 301,jO "__init__" "SayRow.__init__" 13 0 300)::
 (nat_lit 324,DI #[M3O P 550,FL P 554 108 553,ER P "__init__" 565 301,ER P "shown" 572 308,ER P "reads" 579 315,ER P "target" 586 322,SA P 590 323,DO P 591] 2)::
 (nat_lit 325,CX "SayRow" 325 324 [.ref 66] [.ref 66,.type "object"] [] (UE (.ref 288)) 543 551 "object.__new__")::
 (nat_lit 340,CO "__init__" "CallRow.__init__" 606 126 4 335 613)::
 (nat_lit 341,jO "__init__" "CallRow.__init__" 14 0 340)::
 (nat_lit 355,DI #[M3O P 601,FL P 605 124 604,ER P "__init__" 615 341,ER P "shown" 622 348,ER P "reads" 628 353,SA P 631 354,DO P 632] 2)::
 (nat_lit 356,CX "CallRow" 356 355 [.ref 66] [.ref 66,.type "object"] [] (UE (.ref 328)) 594 602 "object.__new__")::
 (nat_lit 374,DI #[M3O P 642,FL P 646 136 645,ER P "shown" 653 372,SA P 654 373,DO P 655] 2)::
 (nat_lit 375,CX "LastRow" 375 374 [.ref 66] [.ref 66,.type "object"] [] (UE (.ref 359)) 635 643 "object.__new__")::
 (nat_lit 390,CO "__init__" "IfRow.__init__" 670 142 7 385 680)::
 (nat_lit 391,jO "__init__" "IfRow.__init__" 16 0 390)::
 (nat_lit 404,CO "reads" "IfRow.reads" 690 153 1 399 694)::
 (nat_lit 405,jO "reads" "IfRow.reads" 16 2 404)::
 (nat_lit 407,DI #[M3O P 665,FL P 669 140 668,ER P "__init__" 682 391,ER P "shown" 689 398,ER P "reads" 696 405,SA P 702 406,DO P 703] 2)::
 (nat_lit 408,CX "IfRow" 408 407 [.ref 66] [.ref 66,.type "object"] [] (UE (.ref 378)) 658 666 "object.__new__")::
 (nat_lit 423,CO "__init__" "LoopRow.__init__" 718 157 7 418 728)::
 (nat_lit 424,jO "__init__" "LoopRow.__init__" 17 0 423)::
 (nat_lit 437,CO "reads" "LoopRow.reads" 738 168 1 432 742)::
 (nat_lit 438,jO "reads" "LoopRow.reads" 17 2 437)::
 (nat_lit 440,DI #[M3O P 713,FL P 717 155 716,ER P "__init__" 730 424,ER P "shown" 737 431,ER P "reads" 744 438,SA P 750 439,DO P 751] 2)::
 (nat_lit 441,CX "LoopRow" 441 440 [.ref 66] [.ref 66,.type "object"] [] (UE (.ref 411)) 706 714 "object.__new__")::
 (nat_lit 456,CO "__init__" "DeedRow.__init__" 766 172 5 451 774)::
 (nat_lit 457,jO "__init__" "DeedRow.__init__" 18 0 456)::
 (nat_lit 466,DI #[M3O P 761,FL P 765 170 764,ER P "__init__" 776 457,ER P "shown" 783 464,SA P 787 465,DO P 788] 2)::
 (nat_lit 467,CX "DeedRow" 467 466 [.ref 66] [.ref 66,.type "object"] [] (UE (.ref 444)) 754 762 "object.__new__")::
 (nat_lit 482,CO "__init__" "Program.__init__" 803 182 4 477 810)::
 (nat_lit 483,jO "__init__" "Program.__init__" 19 0 482)::
 (nat_lit 485,DI #[M3O P 798,FL P 802 180 801,ER P "__init__" 812 483,SA P 816 484,ER P "__dict__" 818 487,ER P "__weakref__" 820 488,DO P 821] 4)::
 (nat_lit 486,CX "Program" 486 485 [.type "object"] [.type "object"] [] UG 791 799 "object.__new__")::
 (nat_lit 487,{(.type "getset_descriptor"),UG,.fields #[(.str "__dict__" 817),(.ref 486),(.builtin "function.__dict__"),(.builtin "function.__dict__#set")],#[]})::
 (nat_lit 488,WR "__weakref__" 819 486 "ExceptionGroup.__weakref__")::
 (nat_lit 496,CO "exact_of" "exact_of" 826 187 2 491 834)::
 (nat_lit 497,F7T "exact_of" 21 496)::
 (nat_lit 503,CO "exact_of_row" "exact_of_row" 837 195 2 498 842)::
 (nat_lit 504,F7T "exact_of_row" 22 503)::
 (nat_lit 510,CO "one_more" "one_more" 845 203 1 505 849)::
 (nat_lit 511,F7T "one_more" 23 510)::
 (nat_lit 517,CO "exact_of_if" "exact_of_if" 852 205 2 512 859)::
 (nat_lit 518,F7T "exact_of_if" 24 517)::
 (nat_lit 524,CO "exact_of_loop" "exact_of_loop" 862 211 2 519 868)::
 (nat_lit 525,F7T "exact_of_loop" 25 524)::
 (nat_lit 531,CO "balanced" "balanced" 871 216 2 526 876)::
 (nat_lit 532,F7T "balanced" 26 531)::
 (nat_lit 538,CO "exacts" "exacts" 879 218 1 533 885)::
 (nat_lit 539,F7T "exacts" 27 538)::
 (nat_lit 545,CO "row_place" "row_place" 892 225 1 540 896)::
 (nat_lit 546,F8T "row_place" 30 545)::
 (nat_lit 552,CO "laid_rows" "laid_rows" 899 227 3 547 907)::
 (nat_lit 553,F8T "laid_rows" 31 552)::
 (nat_lit 559,CO "laid_inside" "laid_inside" 910 233 2 554 916)::
 (nat_lit 560,F8T "laid_inside" 32 559)::
 (nat_lit 566,CO "laid_program" "laid_program" 919 240 1 561 925)::
 (nat_lit 567,F8T "laid_program" 33 566)::
 (nat_lit 571,{(.type "code"),UG,.fields #[(.str "drawn" 930),(.str "drawn" 931),(.str "/claim/cut.py" 932),(.int (246) 0),(.int (4) 0),(.int (0) 0),(.int (0) 0),(.int (3) 0),(.ref 568),(.bool true),(.int (181) 0),(.ref 569),.none,.none,.none,(.ref 570),(.int (933) 0),(.int (246) 0),(.str "/claim/cut.py" 934)],#[]})::
 (nat_lit 572,F9T "drawn" 35 571)::
 (nat_lit 578,CO "row_links" "row_links" 936 248 4 573 944)::
 (nat_lit 579,F9T "row_links" 36 578)::
 (nat_lit 585,CO "said_links" "said_links" 947 261 2 580 953)::
 (nat_lit 586,F9T "said_links" 37 585)::
 (nat_lit 592,CO "called_links" "called_links" 956 265 3 587 966)::
 (nat_lit 593,F9T "called_links" 38 592)::
 (nat_lit 599,CO "step_links" "step_links" 969 273 2 594 975)::
 (nat_lit 600,F9T "step_links" 39 599)::
 (nat_lit 601,{(.type "tuple"),UG,.seq #[(.bool false)] 0,#[]})::
 (nat_lit 605,{(.type "code"),UG,.fields #[(.str "links" 978),(.str "links" 979),(.str "/claim/cut.py" 980),(.int (280) 0),(.int (2) 0),(.int (0) 0),(.int (0) 0),(.int (3) 0),(.ref 602),(.bool true),(.int (181) 0),(.ref 603),.none,.none,.none,(.ref 604),(.int (981) 0),(.int (280) 0),(.str "/claim/cut.py" 982)],#[]})::
 (nat_lit 606,FD "links" "links" (top 40) 601 "hushrow.links" 928 605)::
 (nat_lit 612,CO "_law_cell_at" "_law_cell_at" 986 290 2 607 992)::
 (nat_lit 613,hZ "_law_cell_at" 42 612)::
 (nat_lit 617,{(.type "code"),UG,.fields #[(.str "_law_more" 995),(.str "_law_more" 996),(.str "/claim/cut.py" 997),(.int (297) 0),(.int (3) 0),(.int (0) 0),(.int (0) 0),(.int (3) 0),(.ref 614),(.bool true),(.int (181) 0),(.ref 615),.none,.none,.none,(.ref 616),(.int (998) 0),(.int (297) 0),(.str "/claim/cut.py" 999)],#[]})::
 (nat_lit 618,hZ "_law_more" 43 617)::
 (nat_lit 624,CO "_law_mix" "_law_mix" 1001 299 2 619 1009)::
 (nat_lit 625,hZ "_law_mix" 44 624)::
 (nat_lit 629,{(.type "code"),UG,.fields #[(.str "_law_names" 1012),(.str "_law_names" 1013),(.str "/claim/cut.py" 1014),(.int (308) 0),(.int (3) 0),(.int (0) 0),(.int (0) 0),(.int (3) 0),(.ref 626),(.bool true),(.int (181) 0),(.ref 627),.none,.none,.none,(.ref 628),(.int (1015) 0),(.int (308) 0),(.str "/claim/cut.py" 1016)],#[]})::
 (nat_lit 630,hZ "_law_names" 45 629)::
 (nat_lit 636,CO "_law_pick" "_law_pick" 1018 324 2 631 1023)::
 (nat_lit 637,hZ "_law_pick" 46 636)::
 (nat_lit 641,{(.type "code"),UG,.fields #[(.str "_law_heads" 1026),(.str "_law_heads" 1027),(.str "/claim/cut.py" 1028),(.int (326) 0),(.int (2) 0),(.int (0) 0),(.int (0) 0),(.int (3) 0),(.ref 638),(.bool true),(.int (181) 0),(.ref 639),.none,.none,.none,(.ref 640),(.int (1029) 0),(.int (326) 0),(.str "/claim/cut.py" 1030)],#[]})::
 (nat_lit 642,hZ "_law_heads" 47 641)::
 (nat_lit 648,CO "_law_scope" "_law_scope" 1032 334 2 643 1039)::
 (nat_lit 649,hZ "_law_scope" 48 648)::
 (nat_lit 655,CO "_law_thing" "_law_thing" 1042 339 2 650 1047)::
 (nat_lit 656,hZ "_law_thing" 49 655)::
 (nat_lit 662,CO "_law_value" "_law_value" 1050 343 2 657 1058)::
 (nat_lit 663,hZ "_law_value" 50 662)::
 (nat_lit 669,CO "_law_plain" "_law_plain" 1061 352 3 664 1071)::
 (nat_lit 670,hZ "_law_plain" 51 669)::
 (nat_lit 676,CO "_law_opened" "_law_opened" 1074 364 4 671 1085)::
 (nat_lit 677,hZ "_law_opened" 52 676)::
 (nat_lit 683,CO "_law_closed" "_law_closed" 1088 379 1 678 1092)::
 (nat_lit 684,hZ "_law_closed" 53 683)::
 (nat_lit 688,{(.type "code"),UG,.fields #[(.str "_law_row" 1095),(.str "_law_row" 1096),(.str "/claim/cut.py" 1097),(.int (386) 0),(.int (3) 0),(.int (0) 0),(.int (0) 0),(.int (3) 0),(.ref 685),(.bool true),(.int (181) 0),(.ref 686),.none,.none,.none,(.ref 687),(.int (1098) 0),(.int (386) 0),(.str "/claim/cut.py" 1099)],#[]})::
 (nat_lit 689,hZ "_law_row" 54 688)::
 (nat_lit 695,CO "_law_body" "_law_body" 1101 401 4 690 1110)::
 (nat_lit 696,hZ "_law_body" 55 695)::
 (nat_lit 702,CO "_law_flat" "_law_flat" 1113 409 2 697 1128)::
 (nat_lit 703,hZ "_law_flat" 56 702)::
 (nat_lit 709,CO "_law_row_made" "_law_row_made" 1131 426 2 704 1136)::
 (nat_lit 710,hZ "_law_row_made" 57 709)::
 (nat_lit 716,CO "_law_rows_made" "_law_rows_made" 1139 446 2 711 1150)::
 (nat_lit 717,hZ "_law_rows_made" 58 716)::
 (nat_lit 723,CO "_law_program" "_law_program" 1153 462 1 718 1164)::
 (nat_lit 724,hZ "_law_program" 59 723)::
 (nat_lit 730,CO "_law_exact" "_law_exact" 1167 476 3 725 1178)::
 (nat_lit 731,hZ "_law_exact" 60 730)::
 (nat_lit 737,CO "_law_even_row" "_law_even_row" 1181 500 3 732 1192)::
 (nat_lit 738,hZ "_law_even_row" 61 737)::
 (nat_lit 742,{(.type "code"),UG,.fields #[(.str "_law_evened_by" 1195),(.str "_law_evened_by" 1196),(.str "/claim/cut.py" 1197),(.int (513) 0),(.int (2) 0),(.int (0) 0),(.int (0) 0),(.int (3) 0),(.ref 739),(.bool true),(.int (181) 0),(.ref 740),.none,.none,.none,(.ref 741),(.int (1198) 0),(.int (513) 0),(.str "/claim/cut.py" 1199)],#[]})::
 (nat_lit 743,hZ "_law_evened_by" 62 742)::
 (nat_lit 749,CO "_law_due" "_law_due" 1201 525 2 744 1213)::
 (nat_lit 750,hZ "_law_due" 63 749)::
 (nat_lit 756,CO "law" "law" 1216 542 1 751 1229)::
 (nat_lit 757,hZ "law" 64 756)::[]
noncomputable def pH:List N6:=[2,3,27,28,34,35,48,49,65,66,67,68,83,84,93,94,109,110,119,120,135,136,145,146,161,162,171,172,187,188,201,202,211,212,227,228,241,242,251,252,267,268,281,282,284,285,300,301,324,325,340,341,355,356,374,375,390,391,404,405,407,408,423,424,437,438,440,441,456,457,466,467,482,483,485,486,487,488,496,497,503,504,510,511,517,518,524,525,531,532,538,539,545,546,552,553,559,560,566,567,571,572,578,579,585,586,592,593,599,600,601,605,606,612,613,617,618,624,625,629,630,636,637,641,642,648,649,655,656,662,663,669,670,676,677,683,684,688,689,695,696,702,703,709,710,716,717,723,724,730,731,737,738,742,743,749,750,756,757]
theorem ju(P:PV):pH=(heapK P).map (·.1):=by kernel_rfl
noncomputable abbrev prog:Program:=PySem.Challenge.pw_hushrow_k32_links_by_steps
noncomputable abbrev law:To:=PySem.Challenge.rw_hushrow_k32_links_by_steps
noncomputable def fS:Program:={ prog with main:={ prog.main with body:=[top 0,top 2,top 4,top 5,top 6,top 7,top 8,top 9,top 10,top 11,top 12,top 13,top 14,top 15,top 16,top 17,top 18,top 19,top 21,top 22,top 23,top 24,top 25,top 26,top 27,top 29,top 30,top 31,top 32,top 33,top 35,top 36,top 37,top 38,top 39,top 42,top 43,top 44,top 45,top 46,top 47,top 48,top 49,top 50,top 51,top 52,top 53,top 54,top 55,top 56,top 57,top 58,top 59,top 60,top 61,top 62,top 63,top 64] } }
noncomputable abbrev hook:W.Hook:=SU heapK pH ju
noncomputable abbrev test:N7->Bool:=λs=>xlAt fS [] s&&recOk (RowW.records law.row.toRowW) s
noncomputable abbrev Ka:N7->List (Option Obj):=λs=>pH.map s.heap.get?
noncomputable abbrev KC:Of->List (Option Obj):=λw=>(heapK w.params).map λp=>UE p.2
noncomputable def T₀(P:PV):BT:=Hd.treeOf (Rl P).objs.toList 0 .nil
noncomputable def lookL(w:Of)(os:Ph):=(Hd.j6 OW prog w 11 (UE (.ref 6)) 11820 {T₀ w.params,11,{},Nr [],QA,QX,os} (PX prog)).map λs=>Hd.Ca prog (Rl w.params) s.abs
noncomputable def uK(w:Of)(os:Ph):=UE true
noncomputable def lookO(w:Of)(os:Ph):=(Hd.j6 OW prog w 11 (UE (.ref 6)) 11820 {T₀ w.params,11,{},Nr [],QA,QX,os} (PX prog)).map λs=>(Qh fS ["links"] (OK prog.main.body) test true s.abs).1
noncomputable def lookQ(w:Of)(os:Ph):=UE (Rk fS ["links"]).1
noncomputable def lookY(w:Of)(os:Ph):=(Hd.j6 OW prog w 11 (UE (.ref 6)) 11820 {T₀ w.params,11,{},Nr [],QA,QX,os} (PX prog)).map λs=>(Qh fS ["links"] (OK prog.main.body) test true s.abs).2.1
noncomputable def lookB(w:Of)(os:Ph):=UE (Rk fS ["links"]).2.1
noncomputable def lookW(w:Of)(os:Ph):=(Hd.j6 OW prog w 11 (UE (.ref 6)) 11820 {T₀ w.params,11,{},Nr [],QA,QX,os} (PX prog)).map λs=>(Qh fS ["links"] (OK prog.main.body) test true s.abs).2.2.1
noncomputable def lookX(w:Of)(os:Ph):=(Hd.j6 OW prog w 11 (UE (.ref 6)) 11820 {T₀ w.params,11,{},Nr [],QA,QX,os} (PX prog)).map λs=>(Qh fS ["links"] (OK prog.main.body) test true s.abs).2.2.2.1
noncomputable def lookU(w:Of)(os:Ph):=(Hd.j6 OW prog w 11 (UE (.ref 6)) 11820 {T₀ w.params,11,{},Nr [],QA,QX,os} (PX prog)).map λs=>(Qh fS ["links"] (OK prog.main.body) test true s.abs).2.2.2.2
noncomputable def lookV(w:Of)(os:Ph):=UE (Rk fS ["links"]).2.2.2.2
noncomputable def lookM(w:Of)(os:Ph):=(Hd.j6 OW prog w 11 (UE (.ref 6)) 11820 {T₀ w.params,11,{},Nr [],QA,QX,os} (PX prog)).map λs=>Ka s.abs
noncomputable def lookS(w:Of)(os:Ph):=UE (KC w)
theorem lookL_self:lookL=lookL:=rfl
theorem lookO_self:lookO=lookO:=rfl
theorem lookQ_self:lookQ=lookQ:=rfl
theorem lookY_self:lookY=lookY:=rfl
theorem lookB_self:lookB=lookB:=rfl
theorem lookW_self:lookW=lookW:=rfl
theorem lookX_self:lookX=lookX:=rfl
theorem lookU_self:lookU=lookU:=rfl
theorem lookV_self:lookV=lookV:=rfl
theorem lookM_self:lookM=lookM:=rfl
theorem lookS_self:lookS=lookS:=rfl
end K32
noncomputable def PySem.W.Fast.tw14598715356260435866:PySem.Params->PySem.Obj:=Tp
theorem PySem.W.Fast.te14598715356260435866:Tp=PySem.W.Fast.tw14598715356260435866:=rfl
noncomputable def PySem.W.Fast.tw131172816961385400:PySem.Program:=PySem.Challenge.pw_hushrow_k32_links_by_steps
theorem PySem.W.Fast.te131172816961385400:PySem.Challenge.pw_hushrow_k32_links_by_steps=PySem.W.Fast.tw131172816961385400:=rfl
noncomputable def PySem.W.Fast.tw249821795957726105:PySem.Params->Qb:=K32.heapK
theorem PySem.W.Fast.te249821795957726105:K32.heapK=PySem.W.Fast.tw249821795957726105:=rfl
lay_quick K32.lookL K32.lookO K32.lookQ K32.lookY K32.lookB K32.lookW K32.lookX K32.lookU K32.lookV K32.lookM K32.lookS
name_quick K32lookL for K32.lookL by K32.lookL_self
name_quick K32lookO for K32.lookO by K32.lookO_self
name_quick K32lookQ for K32.lookQ by K32.lookQ_self
name_quick K32lookY for K32.lookY by K32.lookY_self
name_quick K32lookB for K32.lookB by K32.lookB_self
name_quick K32lookW for K32.lookW by K32.lookW_self
name_quick K32lookX for K32.lookX by K32.lookX_self
name_quick K32lookU for K32.lookU by K32.lookU_self
name_quick K32lookV for K32.lookV by K32.lookV_self
name_quick K32lookM for K32.lookM by K32.lookM_self
name_quick K32lookS for K32.lookS by K32.lookS_self
namespace K32
open PySem L2 PySem.W
theorem uN:W.Fast.K32lookY=W.Fast.K32lookB:=by kernel_rfl
theorem vo:W.Fast.K32lookM=W.Fast.K32lookS:=by kernel_rfl
theorem vq:W.Fast.K32lookO=W.Fast.K32lookQ:=by kernel_rfl
theorem xW:W.Fast.K32lookL=uK:=by kernel_rfl
theorem xM:lookY=lookB:=W.Fast.K32lookY_eq.trans (uN.trans W.Fast.K32lookB_eq.symm)
theorem vk:W.Fast.K32lookW=uK:=by kernel_rfl
theorem xm:lookW=uK:=W.Fast.K32lookW_eq.trans vk
theorem vw:W.Fast.K32lookX=uK:=by kernel_rfl
theorem xQ:lookX=uK:=W.Fast.K32lookX_eq.trans vw
theorem vO:W.Fast.K32lookU=W.Fast.K32lookV:=by kernel_rfl
theorem wC:lookU=lookV:=W.Fast.K32lookU_eq.trans (vO.trans W.Fast.K32lookV_eq.symm)
theorem xG:lookO=lookQ:=W.Fast.K32lookO_eq.trans (vq.trans W.Fast.K32lookQ_eq.symm)
theorem yq:lookL=uK:=W.Fast.K32lookL_eq.trans xW
theorem wN:lookM=lookS:=W.Fast.K32lookM_eq.trans (vo.trans W.Fast.K32lookS_eq.symm)
theorem Fs(P:PV):absHeap (T₀ P) 11 {}=Rl P:=by kernel_rfl
theorem EF(w:Of):((Rl w.params).isNs Oz&&(Nr []:Array Rj).size==0,(Rl w.params).objs.size,(Rl w.params).nsMap Oz "__annotations__")=(true,11,UE (.ref 6)):=by kernel_rfl
theorem left:LeftO prog fS ["links"] test hook.obs hook.val 11820:=Hd.Cd (boot_open (p:=prog) (N:=11820) (by kernel_rfl) rfl (λ_=>rfl)) EF Fs (λw os=>congrFun (congrFun yq w) os) (λw os=>congrFun (congrFun xG w) os) (λw os=>congrFun (congrFun xM w) os) (λw os=>congrFun (congrFun xm w) os) (λw os=>congrFun (congrFun xQ w) os) (λw os=>congrFun (congrFun wC w) os) (λw os=>congrFun (congrFun wN w) os)
end K32
namespace L2
open PySem PySem.Spec PyProof.Rows
noncomputable abbrev Key:=Sum Int Str
noncomputable def uh:Key->E9->Bool
 | .inl k,v=>TF k v
 | .inr x,v=>Ss x v
noncomputable def K4(w:Of):Key->Int
 | .inl k=>hashInt k
 | .inr x=>hashStr w x
theorem cb:∀{k:Key}{v:E9},uh k v=true->(∃i t,k=Ny i/\v=RX i t)\/(∃x t,k=ME x/\v=QB x t)
 | .inl i,v,h=>by
  obtain⟨t,e⟩:=SV (k:=i) (v:=v) h;exact .inl ⟨i,t,rfl,e⟩
 | .inr x,v,h=>by
  obtain⟨t,e⟩:=Sh (x:=x) (v:=v) h;exact .inr ⟨x,t,rfl,e⟩
theorem Bd(i:Int)(t:Tok):uh (.inl i) (.int i t)=true:=by simp[uh,TF]
theorem AE(x:Str)(t:Tok):uh (.inr x) (.str x t)=true:=by simp[uh,Ss]
theorem Ia(a b:Int):decide ((Ny a:Key)=Ny b)=(a==b):=by
 by_cases e:a=b
 ·subst e;simp
 have h:¬ (Ny a:Key)=Ny b:=λq=>e (Ny.inj q);rw[decide_eq_false h];exact(beq_eq_false_iff_ne.mpr e).symm
theorem HJ(a b:Str):decide ((ME a:Key)=ME b)=decide (a=b):=by
 by_cases e:a=b
 ·subst e;simp
 have h:¬ (ME a:Key)=ME b:=λq=>e (ME.inj q);rw[decide_eq_false h,decide_eq_false e]
theorem Ho(a:Int)(b:Str):decide ((Ny a:Key)=ME b)=false:=decide_eq_false (λq=>nomatch q)
theorem Ic(a:Str)(b:Int):decide ((ME a:Key)=Ny b)=false:=decide_eq_false (λq=>nomatch q)
noncomputable def bT(prog:Program)(w:Of):PySem.KeyKind prog w Key where
 is:=uh
 hash:=K4 w
 inj:=λv a b ha hb=>by
  rcases cb ha with⟨i,t,rfl,rfl⟩|⟨x,t,rfl,rfl⟩
  ·rcases cb hb with⟨j,u,rfl,e⟩|⟨y,u,rfl,e⟩
   ·injection e with e1 _;rw[e1]
   exact nomatch e
  rcases cb hb with⟨j,u,rfl,e⟩|⟨y,u,rfl,e⟩
  ·exact nomatch e
  injection e with e1 _;rw[e1]
 byValue:=λk v h=>by
  rcases cb h with⟨i,t,rfl,rfl⟩|⟨x,t,rfl,rfl⟩<;>rfl
 pyHash:=λhv h=>by
  rcases cb hv with⟨i,t,rfl,rfl⟩|⟨x,t,rfl,rfl⟩
  ·exact wpAny_pyHash_int h
  exact wpAny_pyHash_str h
 eqBool:=λhu hv h=>by
  rcases cb hu with⟨i,t,rfl,rfl⟩|⟨x,t,rfl,rfl⟩
  ·rcases cb hv with⟨j,u,rfl,rfl⟩|⟨y,u,rfl,rfl⟩
   ·rw[Ia]at h;exact wpAny_eqBool_int h
   rw[Ho]at h;exact Sy i t y u _ _ _ _ h
  rcases cb hv with⟨j,u,rfl,rfl⟩|⟨y,u,rfl,rfl⟩
  ·rw[Ic]at h;exact Sz x t j u _ _ _ _ h
  rw[HJ]at h;exact wpAny_eqBool_str h
 «strs»:=λk x t v h=>by
  rcases cb h with⟨i,u,rfl,e⟩|⟨y,u,rfl,e⟩
  ·exact nomatch e
  injection e with e1 _;subst e1;cases v<;>rfl
theorem wu(prog:Program)(w:Of)(i:Int)(t:Tok):(bT prog w).is (.inl i) (.int i t)=true:=Bd i t
theorem xI(prog:Program)(w:Of)(x:Str)(t:Tok):(bT prog w).is (.inr x) (.str x t)=true:=AE x t
inductive V where
 |non|bl (b:Bool)|int (i:Int)|str (x:Str)|byt (b:Array UInt8)|flt (b:UInt64)|ref (a:N6)|ty (n:String)
 deriving DecidableEq
noncomputable def UJ:V->E9->Prop
 | .non,u=>u=SD
 | .bl b,u=>u=SE b
 | .int i,u=>∃t,u=RX i t
 | .str x,u=>∃t,u=QB x t
 | .byt b,u=>∃t,u=Value.bytes b t
 | .flt b,u=>∃t,u=TH b t
 | .ref a,u=>u=Oo a
 | .ty n,u=>u=Pm n
abbrev UH:List V->List E9->Prop:=Paired UJ
theorem UH.length{xs:List V}{us:List E9}(r:UH xs us):xs.length=us.length:=Oe r
theorem UH.get:∀{xs:List V}{us:List E9}{i:Nat}{x:V},UH xs us->xs[i]?=UE x->∃u,us[i]?=UE u/\UJ x u
 |_,_,_,_,.nil,e=>by simp at e
 |_,_,0,_,.cons r _,e=>by simp at e;subst e;exact{_,rfl,r}
 |_,_,i+1,x,.cons _ t,e=>by
  obtain⟨u,h1,h2⟩:=UH.get (i:=i) (x:=x) t (by simpa using e);exact⟨u,by simpa using h1,h2⟩
theorem UH.set{x:V}{u:E9}(r:UJ x u):∀{xs:List V}{us:List E9}(i:Nat),UH xs us->UH (xs.set i x) (us.set i u)
 |_,_,_,.nil=>.nil
 |_,_,0,.cons _ t=>.cons r t
 |_,_,i+1,.cons q t=>.cons q (UH.set r i t)
theorem UH.append:∀{xs ys:List V}{us ws:List E9},UH xs us->UH ys ws->UH (xs++ys) (us++ws)
 |_,_,_,_,.nil,s=>s
 |_,_,_,_,.cons r t,s=>.cons r (UH.append t s)
theorem UH.take:∀{xs:List V}{us:List E9}(n:Nat),UH xs us->UH (xs.take n) (us.take n)
 |_,_,0,_=>.nil
 |_,_,_+1,.nil=>.nil
 |_,_,n+1,.cons r t=>.cons r (UH.take n t)
theorem UH.drop:∀{xs:List V}{us:List E9}(n:Nat),UH xs us->UH (xs.drop n) (us.drop n)
 |_,_,0,r=>r
 |_,_,_+1,.nil=>.nil
 |_,_,n+1,.cons _ t=>UH.drop n t
theorem UH.none_of:∀{xs:List V}{us:List E9}{i:Nat},UH xs us->xs[i]?=UG->us[i]?=UG:=λ{xs us i} r e=>by
 have h1:=r.length;have h2:xs.length<=i:=List.getElem?_eq_none_iff.mp e;exact List.getElem?_eq_none_iff.mpr (by lia)
noncomputable def mf:Option V->Option E9->Prop
 |some v,UE u=>UJ v u
 |none,UG=>True
 |_,_=>False
def KV{κ:Type}:List (κ×V)->List (κ×E9)->Prop:=Paired λ(p:κ×V)(q:κ×E9)=>p.1=q.1/\UJ p.2 q.2
noncomputable def kV:Key->V
 | .inl i=>.int i
 | .inr x=>.str x
inductive HO where
 |lst (xs:List V)
 |tup (xs:List V)
 |dK (kvs:List (Key×V))|dT (kvs:List (List Key×V))
 |set (S:Int->Bool) (n:Nat)
 |ins (C dx:N6) (fs:List (Str×V))
 |own (x:N6)
 |xd (fs:List (Str×V))
 |met (f x:N6)
 |rng (lo hi:Int)
 |frz (o:Obj) (u:HO)
 |tbl (ps:Array E9)
 |ext (φ:OC->Prop)
noncomputable abbrev Hp:=N6->Option HO
noncomputable def upd(H:Hp)(a:N6)(o:HO):Hp:=λb=>if b=a then UE o else H b
theorem ao{H:Hp}{a:N6}{o:HO}:upd H a o a=UE o:=by unfold upd;rw[if_pos rfl]
theorem aW{H:Hp}{a b:N6}{o:HO}(h:b≠a):upd H a o b=H b:=by unfold upd;rw[if_neg h]
theorem Fj{H:Hp}{a:N6}{o u:HO}:upd (upd H a o) a u=upd H a u:=by
 funext b;unfold upd;split<;>rfl
theorem Jf{H:Hp}{a b:N6}{o u:HO}(h:H a=UE o)(h':H b=UE u)(d:o≠u):a≠b:=by
 intro e;subst e;rw[h]at h';exact d (Oj h')
theorem eW{H:Hp}{a b:N6}{o:HO}(h:H a=UE o)(h':H b=UG):a≠b:=by
 intro e;subst e;rw[h]at h';cases h'
section
variable(P:Program)(w:Of)
noncomputable def cy(H:Hp)(h:OC)(a:N6):HO->Prop
 | .lst xs=>xs.length<=sizeLine/\∃(its:List E9)(n:Nat),UH xs its/\h.get? a=UE { cls:=.type "list",data:=.seq its.toArray n }
 | .tup xs=>xs.length<=sizeLine/\∃its:List E9,UH xs its/\IsTup h a its.toArray
 | .dK kvs=>kvs.length<=sizeLine/\(a==Pd)=false/\∃vs,KV kvs vs/\h.DictOf (bT P w) a vs
 | .dT kvs=>kvs.length<=sizeLine/\(a==Pd)=false/\∃xs:List (List Key×N6×E9),
   Paired (λ(p:List Key×V)(q:List Key×N6×E9)=>p.1=q.1/\H q.2.1=UE (.tup (p.1.map kV))/\UJ p.2 q.2.2) kvs xs/\
   ∃o es ep,h.get? a=UE o/\o.ExactDict/\o.data=.dict es ep/\es.toList=xs.map (entryOfKey (RY (bT P w)))/\(xs.map (·.1)).Nodup
 | .set S n=>h.SetOf (intKind P w) a S n
 | .ins C dx fs=>H dx=UE (.own a)/\fs.length<=1000/\dx≠a/\h.get? a=UE (QC C dx)/\
   ∃mA,h.Ns1 dx mA/\(∀f,mf (fs.lookup f) (mA f))/\SW mA (fs.map (·.1))
 | .own _=>∃o,h.get? a=UE o
 | .xd fs=>∃mA,h.Ns1 a mA/\∀f,mf (fs.lookup f) (mA f)
 | .rng lo hi=>∃t u v,h.get? a=UE { cls:=.type "range",data:=.fields #[.int lo t,.int hi u,.int 1 v] }
 | .frz o u=>h.get? a=UE o/\cy H h a u
 | .tbl ps=>h.get? a=UE { cls:=.none,data:=.fields ps }
 | .met f x=>h.get? a=UE (TJ (.ref f) (.ref x))
 | .ext φ=>φ h/\(∃o,h.get? a=UE o)/\∀h1 h2:OC,φ h1->(∀o,h1.get? a=UE o->h2.get? a=UE o)->φ h2
def HOk(H:Hp)(h:OC):Prop:=∀a o,H a=UE o->cy P w H h a o
end
section
variable{P:Program}{w:Of}{H H':Hp}{h h':OC}{a:N6}{o:HO}
theorem cy.lt(x:cy P w H h a o):a<h.objs.size:=by
 cases o with
 |lst xs=>obtain⟨_,_,_,_,e⟩:=x;exact Om e
 |tup xs=>obtain⟨_,_,_,p⟩:=x;exact p.lt
 |dK kvs=>obtain⟨_,_,_,_,o,_,_,e,_⟩:=x;exact Om e
 |dT kvs=>obtain⟨_,_,_,_,o,_,_,e,_⟩:=x;exact Om e
 |set S n=>obtain⟨o,_,_,_,e,_⟩:=x;exact Om e
 |ins C dx fs=>obtain⟨_,_,_,e,_⟩:=x;exact Om e
 |own y=>obtain⟨_,e⟩:=x;exact Om e
 |xd fs=>obtain⟨_,⟨_,_,_,e,_⟩,_⟩:=x;exact Om e
 |rng lo hi=>obtain⟨_,_,_,e⟩:=x;exact Om e
 |frz ob u=>obtain⟨e,_⟩:=x;exact Om e
 |tbl ps=>exact Om (show h.get? a=UE _ from x)
 |met f y=>exact Om (show h.get? a=UE _ from x)
 |ext φ=>obtain⟨_,⟨_,e⟩,_⟩:=x;exact Om e
theorem Paired.rg{α β:Type}{F G:α->β->Prop}:∀{l₁:List α}{l₂:List β},Paired F l₁ l₂->(∀a b,F a b->G a b)->Paired G l₁ l₂
 |_,_,.nil,_=>.nil
 |_,_,.cons r t,f=>.cons (f _ _ r) (Paired.rg t f)
theorem cy.yL(x:cy P w H h a o)(k:∀b u,(b=a\/H b=UE (.own a))->h.get? b=UE u->h'.get? b=UE u)
  (ho:∀b,H b=UE (.own a)->H' b=UE (.own a)) (ht:∀b xs,H b=UE (.tup xs)->H' b=UE (.tup xs)):cy P w H' h' a o:=by
 induction o with
 |lst xs=>obtain⟨z,its,n,r,e⟩:=x;exact{z,its,n,r,k _ _ (.inl rfl) e}
 |tup xs=>obtain⟨z,its,r,ob,e,c⟩:=x;exact{z,its,r,ob,k _ _ (.inl rfl) e,c}
 |dK kvs=>obtain⟨z,y,vs,r,ob,es,ep,e,c⟩:=x;exact{z,y,vs,r,ob,es,ep,k _ _ (.inl rfl) e,c}
 |dT kvs=>
  obtain⟨z,y,xs,r,ob,es,ep,e,c⟩:=x
  exact{z,y,xs,Paired.rg r λp q z=>{z.1,ht _ _ z.2.1,z.2.2},ob,es,ep,k _ _ (.inl rfl) e,c}
 |set S n=>obtain⟨ob,es,ep,t,e,c⟩:=x;exact{ob,es,ep,t,k _ _ (.inl rfl) e,c}
 |ins C dx fs=>
  obtain⟨d,z,ne,e,mA,⟨od,es,ep,e2,c⟩,r⟩:=x
  exact{ho _ d,z,ne,k _ _ (.inl rfl) e,mA,{od,es,ep,k _ _ (.inr d) e2,c},r}
 |own y=>obtain⟨ob,e⟩:=x;exact{ob,k _ _ (.inl rfl) e}
 |xd fs=>obtain⟨mA,⟨od,es,ep,e,c⟩,r⟩:=x;exact{mA,{od,es,ep,k _ _ (.inl rfl) e,c},r}
 |rng lo hi=>obtain⟨t,u,v,e⟩:=x;exact{t,u,v,k _ _ (.inl rfl) e}
 |frz ob u ih=>obtain⟨e,q⟩:=x;exact{k _ _ (.inl rfl) e,ih q}
 |tbl ps=>
  have e:h.get? a=UE { cls:=.none,data:=.fields ps }:=x
  show h'.get? a=UE { cls:=.none,data:=.fields ps }
  exact k a _ (.inl rfl) e
 |met f y=>
  have e:h.get? a=UE (TJ (.ref f) (.ref y)):=x
  show h'.get? a=UE (TJ (.ref f) (.ref y))
  exact k a _ (.inl rfl) e
 |ext φ=>obtain⟨p,⟨o,e⟩,st⟩:=x;exact{st _ _ p λo q=>k _ _ (.inl rfl) q,{o,k _ _ (.inl rfl) e},st}
theorem HOk.lt(x:HOk P w H h)(e:H a=UE o):a<h.objs.size:=(x a o e).lt
theorem HOk.fresh(x:HOk P w H h)(e:h.objs.size<=a):H a=UG:=by
 cases q:H a with
 |none=>rfl
 |some u=>exact absurd (LZ (x.lt q) e) (MF _)
theorem HOk.kept(x:HOk P w H h)(k:∀b u,h.get? b=UE u->h'.get? b=UE u):HOk P w H h':=λa o e=>
 (x a o e).yL (λb u _ q=>k b u q) (λ_ q=>q) λ_ _ q=>q
theorem HOk.laid(x:HOk P w H h)(k:∀b u,h.get? b=UE u->h'.get? b=UE u)(hp:h.objs.size<=a)(new:cy P w (upd H a o) h' a o):HOk P w (upd H a o) h':=λb u e=>by
 have hn:=x.fresh hp;by_cases hb:b=a
 ·subst hb;rw[ao]at e;cases e;exact new
 rw[aW hb]at e;exact(x b u e).yL (λc v _ q=>k c v q) (λc q=>by rw[aW (eW q hn)];exact q) λc xs q=>by rw[aW (eW q hn)];exact q
end
def Rd(H:Hp)(a:N6)(u:HO):Prop:=H a=UE u\/∃o,H a=UE (.frz o u)
theorem Rd.ok{P:Program}{w:Of}{H:Hp}{h:OC}{a:N6}{u:HO}(r:Rd H a u)(x:HOk P w H h):cy P w H h a u:=by
 rcases r with r|⟨o,r⟩
 ·exact x a u r
 obtain⟨_,q⟩:=x a _ r;exact q
noncomputable def Mut:Option HO->Prop
 |some (.lst _)=>True
 |some (.dK _)=>True
 |some (.dT _)=>True
 |some (.set _ _)=>True
 |some (.ins _ _ _)=>True
 |some (.ext _)=>True
 |_=>False
section
variable{P:Program}{w:Of}{H:Hp}{h h':OC}{x e:N6}{o':HO}
theorem HOk.write(ok:HOk P w H h)(mu:Mut (H x))(he:e=x\/H e=UE (.own x))(k:∀b u,b≠e->h.get? b=UE u->h'.get? b=UE u)(heo:∃u,h'.get? e=UE u)
  (new:cy P w (upd H x o') h' x o'):HOk P w (upd H x o') h':=λb u q=>by
 have nown:∀c y,H c=UE (.own y)->c≠x:=λc y r z=>by subst z;rw[r]at mu;exact mu
 have ntup:∀c xs,H c=UE (.tup xs)->c≠x:=λc xs r z=>by subst z;rw[r]at mu;exact mu
 by_cases hb:b=x
 ·subst hb;rw[ao]at q;cases q;exact new
 rw[aW hb]at q
 by_cases hbe:b=e
 ·have q':H b=UE (.own x):=by
   rcases he with z|z
   ·exact absurd (hbe.trans z) hb
   rw[hbe];exact z
  rw[q]at q';cases q';obtain⟨v,hv⟩:=heo;exact{v,by rw[hbe];exact hv}
 refine(ok b u q).yL (λc v hc r=>k c v ?_ r) (λc r=>by rw[aW (nown c b r)];exact r) λc xs r=>by rw[aW (ntup c xs r)];exact r
 rcases hc with rfl|hc
 ·exact hbe
 rintro rfl
 rcases he with z|z
 ·exact nown c b hc z
 rw[hc]at z;cases z;exact hb rfl
end
structure Un(fs ex:List N6)(H H':Hp)(h h':OC):Prop where
 keep:∀b o,h.get? b=UE o->H b=UG->b∉fs->b∉ex->h'.get? b=UE o
 slot:∀b o,h.get? b=UE o->H b=UG->b∈fs->b∉ex->∃sl,h'.get? b=UE { o with slots:=sl }
 free:∀b o,h.get? b=UE o->H b=UG->b∉ex->H' b=UG
 there:∀b o,h.get? b=UE o->b∉ex->∃o',h'.get? b=UE o'
 uV:∀b xs,H b=UE (.tup xs)->H' b=UE (.tup xs)
 sY:∀b o u,H b=UE (.frz o u)->H' b=UE (.frz o u)
 uW:∀b ps,H b=UE (.tbl ps)->∃more,H' b=UE (.tbl (ps++more))
section
variable{fs fs' ex ex':List N6}{H H1 H2:Hp}{h h1 h2 h':OC}{a x e:N6}{o:HO}
theorem Un.any(u:Un fs ex H H1 h h1){b:N6}{ob:Obj}(q:h.get? b=UE ob)(n:H b=UG)(hx:b∉ex):∃sl,h1.get? b=UE { ob with slots:=sl }:=by
 by_cases hb:b∈fs
 ·exact u.slot b ob q n hb hx
 exact⟨ob.slots,u.keep b ob q n hb hx⟩
theorem Un.kept(k:∀b u,h.get? b=UE u->h'.get? b=UE u):Un fs ex H H h h':=
 {λb ob q _ _ _=>k b ob q,λb ob q _ _ _=>⟨ob.slots,k b ob q⟩,λ_ _ _ n _=>n,λb ob q _=>⟨ob,k b ob q⟩,λ_ _ q=>q,λ_ _ _ q=>q,λ_ ps q=>{#[],by rw[q];simp}}
theorem Un.refl:Un fs ex H H h h:=Un.kept λ_ _ q=>q
theorem Un.laid(k:∀b u,h.get? b=UE u->h'.get? b=UE u)(hp:h.objs.size<=a)(hn:H a=UG):Un fs ex H (upd H a o) h h' where
 keep:=λb u q _ _ _=>k b u q
 slot:=λb u q _ _ _=>⟨u.slots,k b u q⟩
 free:=λb u q n _=>by rw[aW (L9 (LZ (Om q) hp))];exact n
 there:=λb u q _=>⟨u,k b u q⟩
 uV:=λb xs q=>by rw[aW (eW q hn)];exact q
 sY:=λb u xs q=>by rw[aW (eW q hn)];exact q
 uW:=λb ps q=>{#[],by rw[aW (eW q hn),q];simp}
theorem Un.write(mu:Mut (H x))(he:e=x\/H e=UE (.own x))(k:∀b u,b≠e->h.get? b=UE u->h'.get? b=UE u)(heo:∃u,h'.get? e=UE u):Un fs ex H (upd H x o) h h':=by
 have hx:∀b,H b=UG->b≠x:=λb n z=>by subst z;rw[n]at mu;exact mu
 have hb:∀b,H b=UG->b≠e:=λb n z=>by
  subst z;rcases he with r|r
  ·exact hx b n r
  rw[n]at r;cases r
 have hm:∀b u,H b=UE u->¬ Mut (UE u)->b≠x:=λb u q nm z=>by subst z;rw[q]at mu;exact nm mu
 refine{λb u q n _ _=>k b u (hb b n) q,λb u q n _ _=>{u.slots,k b u (hb b n) q},λb u q n _=>by rw[aW (hx b n)];exact n,λb u q _=>?_,
  λb xs q=>by rw[aW (hm b _ q λz=>z)];exact q,λb u xs q=>by rw[aW (hm b _ q λz=>z)];exact q,λb ps q=>{#[],by rw[aW (hm b _ q λz=>z),q];simp}}
 by_cases hbe:b=e
 ·subst hbe;exact heo
 exact⟨u,k b u hbe q⟩
end
noncomputable def trk(h:OC)(H:Hp):List N6:=(OA h.objs.size).filter λa=>(H a).isSome
noncomputable def wj(h:OC)(H:Hp):OC:=W.hideAll h (trk h H)
theorem Bj(h:OC)(H:Hp):(wj h H).objs.size=h.objs.size:=W.hideAll_size _ _
theorem Dw{h:OC}{H:Hp}{b:N6}{o:Obj}(e:h.get? b=UE o)(n:H b=UG):(wj h H).get? b=UE o:=
 W.hideAll_get _ e λhm=>by
  have q:(H b).isSome=true:=(MX.mp hm).2;rw[n]at q;simp at q
theorem EW{h:OC}{H:Hp}{b:N6}{o:Obj}(e:(wj h H).get? b=UE o):h.get? b=UE o/\H b=UG:=by
 have e':h.get? b=UE o:=W.of_hideAll (trk h H) e;refine{e',?_};cases q:H b with
 |none=>rfl
 |some x=>
  have hm:b∈trk h H:=MX.mpr {List.mem_range.mpr (Om e'),by simp[q]};have z:(wj h H).get? b=UG:=W.hideAll_none (trk h H) hm;rw[z]at e;cases e
structure Mod(K:Oc)(mg:Str->Option E9)(base:OC):Prop where
 kin:K.In base
 glob:base.Ns Oz mg
 blt:∃mb,base.Ns Rt mb/\∀x:Str,x≠"__name__"->mb x=Pu x
 nolimit:base.NoLimit
structure Cx where
 prog:Program
 w:Of
 K:Oc
 mg:Str->Option E9
 base:OC
 A:Ou
 N:List Str
 s₀:N7
 H₀:Hp
 env:Env
 outer:List Env
 stack:List Env
 ex:List N6
 fn:Str->Bool
 calm:Bool
 pn:List (N6×Obj)
 xe:E9->N7->Prop
noncomputable def frs(l:List Env):List N6:=l.filterMap (·.frame)
noncomputable abbrev Cx.fs(X:Cx):List N6:=frs X.outer
def Vis(sc:Qq)(x:Str):Prop:=sc.names.lookup x=UE .local\/sc.names.lookup x=UE .cell\/sc.names.lookup x=UE .free
def Loc(sc:Qq)(x:Str):Prop:=sc.names.lookup x=UE .local\/sc.names.lookup x=UE .cell
def U1(env:Env)(h:OC)(m:Str->Option E9)(x:Str)(u:E9):Prop:=
 (env.kindOf x=UE .local/\m x=UE u)\/((env.kindOf x=UE .cell\/env.kindOf x=UE .free)/\∃c,env.cells.lookup x=UE c/\h.IsCell c (UE u))
structure Cx.Ok(X:Cx):Prop where
 mod:Mod X.K X.mg X.base
 kind:X.env.scope.kind=.function
 glob:X.env.globals=Oz
 blt:X.env.builtins=Rt
 above:X.s₀.heap.objs.size<=X.env.locals
 inj:∀x y c,X.env.cells.lookup x=UE c->X.env.cells.lookup y=UE c->x=y
 has:∀x,(X.env.kindOf x=UE .cell\/X.env.kindOf x=UE .free)->∃c,X.env.cells.lookup x=UE c
 cab:∀x c,X.fn x=true->X.env.cells.lookup x=UE c->X.s₀.heap.objs.size<=c
 hd:X.calm=true->X.A.handled=UG
 frames:X.A.frames=UE X.stack
 stk:X.stack=X.outer\/(X.stack=X.env::X.outer/\X.env.frame=UE X.env.locals)
 exf:∀b∈X.ex,b≠X.env.locals/\∀x c,X.env.cells.lookup x=UE c->c≠b
 bs:∀b o,X.base.get? b=UE o->X.s₀.heap.get? b=UE o/\X.H₀ b=UG
 bsz:X.base.objs.size<=X.s₀.heap.objs.size
 Dd:∀b o,X.base.get? b=UE o->b∉X.ex
 CM:∀b∈X.ex,b∉X.fs
 pP:X.s₀.heap.FunFrames X.base X.outer
 frf:∀b∈X.fs,X.H₀ b=UG
structure Inv(X:Cx)(pins:List (N6×Obj))(σ:List (Option V))(H:Hp)(s:N7):Prop where
 ok:X.Ok
 os:s.os=X.s₀.os
 bare:Rf s.gens
 base:Un X.fs X.ex X.H₀ H X.s₀.heap s.heap
 loc:∃m,s.heap.Ns X.env.locals m/\∀(i:Nat)(x:Str)(v:V),X.N[i]?=UE x->σ[i]?=UE (UE v)->Vis X.env.scope x->∃u,UJ v u/\U1 X.env s.heap m x u
 cell:∀x c,X.env.cells.lookup x=UE c->∃v,s.heap.IsCell c v
 free:H X.env.locals=UG
 kQ:∀x c,X.env.cells.lookup x=UE c->H c=UG
 pin:∀p∈X.pn++pins,s.heap.get? p.1=UE p.2/\H p.1=UG/\p.1≠X.env.locals/\p.1∉X.fs/\∀v,p.2.data≠ .cell v
 hok:HOk X.prog X.w H s.heap
 len:σ.length=X.N.length
section
variable{X:Cx}{pins:List (N6×Obj)}{σ:List (Option V)}{H H':Hp}{s:N7}{h':OC}
theorem Cx.Ok.Ld(ok:X.Ok){b:N6}{o:Obj}(e:X.base.get? b=UE o):b∉X.fs:=λhb=>by
 have:=(ok.pP.mem hb).1;rw[e]at this;cases this
theorem Inv.bs(I:Inv X pins σ H s):∀b o,X.base.get? b=UE o->s.heap.get? b=UE o/\H b=UG:=λb o e=>
 {I.base.keep b o (I.ok.bs b o e).1 (I.ok.bs b o e).2 (I.ok.Ld e) (I.ok.Dd b o e),I.base.free b o (I.ok.bs b o e).1 (I.ok.bs b o e).2 (I.ok.Dd b o e)}
theorem Inv.bk(I:Inv X pins σ H s):∀b o,X.base.get? b=UE o->s.heap.get? b=UE o:=λb o e=>(I.bs b o e).1
theorem Inv.mod(I:Inv X pins σ H s):Mod X.K X.mg X.base:=I.ok.mod
theorem Inv.kIn(I:Inv X pins σ H s):X.K.In s.heap:=I.ok.mod.kin.keeps I.bk
theorem Inv.lt(I:Inv X pins σ H s):X.env.locals<s.heap.objs.size:=let ⟨_,hn,_⟩:=I.loc;hn.lt
theorem Inv.sz(I:Inv X pins σ H s):X.s₀.heap.objs.size<=s.heap.objs.size:=LG I.ok.above (Nj I.lt)
theorem Inv.IJ(I:Inv X pins σ H s){a:N6}(h:s.heap.objs.size<=a):a∉X.fs:=λhb=>by
 obtain⟨_,o,ho,_⟩:=I.ok.pP.mem hb;exact absurd (LZ (Om ho) (LG I.sz h)) (MF _)
theorem Inv.cne(I:Inv X pins σ H s):∀x c,X.env.cells.lookup x=UE c->c≠X.env.locals:=λx c e z=>by
 obtain⟨v,o,ho,hd⟩:=I.cell x c e;obtain⟨m,⟨o',es,ep,ho',hd',_⟩,_⟩:=I.loc;rw[z,ho']at ho;cases ho;rw[hd']at hd;cases hd
theorem Inv.pP(I:Inv X pins σ H s):s.heap.FunFrames X.base X.outer:=by
 have all:∀(l:List Env),(∀b∈frs l,b∈X.fs)->X.s₀.heap.FunFrames X.base l->s.heap.FunFrames X.base l:=by
  intro l;induction l with
  |nil=>intro _ _;trivial
  |cons env r ih=>
   intro hs hl;obtain⟨hk,⟨L,o,hf,hn,ho,hd⟩,hr⟩:=hl;have hL:L∈X.fs:=hs L (by unfold frs;rw[MG,hf];exact LB);obtain⟨sl,e⟩:=I.base.slot L o ho (I.ok.frf L hL) hL λz=>I.ok.CM L z hL;exact{hk,{L,_,hf,hn,e,hd},ih (λb hb=>hs b (by unfold frs;rw[MG,hf];exact Lx _ hb)) hr}
 exact all X.outer (λ_ hb=>hb) I.ok.pP
theorem Inv.stack(I:Inv X pins σ H s):s.heap.FunFrames X.base X.stack:=by
 rcases I.ok.stk with e|⟨e,hf⟩
 ·rw[e];exact I.pP
 rw[e];obtain⟨m,hn,_⟩:=I.loc;refine .cons (by rw[I.ok.kind];decide) hf hn ?_ I.pP;exact Heap.get?_none_of_le (LG I.ok.bsz I.ok.above)
theorem Inv.yc(I:Inv X pins σ H s):∀b∈frs X.stack,b∈X.env.locals::X.fs:=λb hb=>by
 rcases I.ok.stk with e|⟨e,hf⟩
 ·rw[e]at hb;exact Lx _ hb
 rw[e]at hb;unfold frs at hb;rw[MG,hf]at hb;exact hb
theorem Inv.zS(I:Inv X pins σ H s):∀b∈frs X.stack,H b=UG:=λb hb=>by
 rcases Lu.mp (I.yc b hb)with e|hb
 ·rw[e];exact I.free
 obtain⟨_,o,ho,_⟩:=I.ok.pP.mem hb;exact I.base.free b o ho (I.ok.frf b hb) λz=>I.ok.CM b z hb
theorem Inv.step{g':Array Rj}{t':Nat}{d':Drawn}{ch:List N6}(I:Inv X pins σ H s)
  (hch:∀b∈ch,(b∈X.ex\/X.s₀.heap.objs.size<=b)/\b≠X.env.locals/\(∀x c,X.env.cells.lookup x=UE c->c≠b)/\∀p∈X.pn++pins,p.1≠b)
  (keep:∀b o,b≠X.env.locals->b∉X.fs->b∉ch->s.heap.get? b=UE o->H b=UG->h'.get? b=UE o)
  (slot:∀b o,b≠X.env.locals->b∈X.fs->b∉ch->s.heap.get? b=UE o->H b=UG->∃sl,h'.get? b=UE { o with slots:=sl }) (free:∀b o,b∉ch->s.heap.get? b=UE o->H b=UG->H' b=UG)
  (there:∀b o,b∉ch->s.heap.get? b=UE o->∃o',h'.get? b=UE o')
  (uV:∀b xs,H b=UE (.tup xs)->H' b=UE (.tup xs)) (sY:∀b o u,H b=UE (.frz o u)->H' b=UE (.frz o u)) (uW:∀b ps,H b=UE (.tbl ps)->∃more,H' b=UE (.tbl (ps++more)))
  (ns:∀m,s.heap.Ns X.env.locals m->h'.Ns X.env.locals m) (hok:HOk X.prog X.w H' h') (hg:Rf g') :
  Inv X pins σ H' { s with heap:=h',gens:=g',drawn:=d',toks:=t' }:=by
 have neL:∀b o,X.s₀.heap.get? b=UE o->b≠X.env.locals:=λb o e=>L9 (LZ (Om e) I.ok.above)
 have neC:∀b o,X.s₀.heap.get? b=UE o->b∉X.ex->b∉ch:=λb o e hx hb=>by
  rcases(hch b hb).1 with z|z
  ·exact hx z
  exact absurd (LZ (Om e) z) (MF _)
 have cellK:∀x c,X.env.cells.lookup x=UE c->∀v,s.heap.IsCell c v->h'.IsCell c v:=λx c e v ⟨o,ho,hd⟩=>by
  have nch:c∉ch:=λz=>(hch c z).2.2.1 x c e rfl;by_cases hc:c∈X.fs
  ·obtain⟨sl,q⟩:=slot c o (I.cne x c e) hc nch ho (I.kQ x c e);exact{_,q,hd}
  exact{o,keep c o (I.cne x c e) hc nch ho (I.kQ x c e),hd}
 refine{I.ok,I.os,hg,{λb o e n hb hx=>?_,λb o e n hb hx=>?_,λb o e n hx=>?_,λb o e hx=>?_,λb xs e=>uV b xs (I.base.uV b xs e),λb o xs e=>sY b o xs (I.base.sY b o xs e),λb ps e=>?_},?_,λx c e=>?_,?_,λx c e=>?_,λp hp=>?_,hok,I.len}
 ·exact keep b o (neL b o e) hb (neC b o e hx) (I.base.keep b o e n hb hx) (I.base.free b o e n hx)
 ·obtain⟨sl,e1⟩:=I.base.slot b o e n hb hx;obtain⟨sl',e2⟩:=slot b _ (neL b o e) hb (neC b o e hx) e1 (I.base.free b o e n hx);exact⟨sl',e2⟩
 ·obtain⟨o',e1⟩:=I.base.there b o e hx;exact free b o' (neC b o e hx) e1 (I.base.free b o e n hx)
 ·obtain⟨o',e1⟩:=I.base.there b o e hx;exact there b o' (neC b o e hx) e1
 ·obtain⟨m1,e1⟩:=I.base.uW b ps e;obtain⟨m2,e2⟩:=uW b _ e1;exact{m1++m2,by rw[e2,Array.append_assoc]}
 ·obtain⟨m,hn,hl⟩:=I.loc;refine{m,ns m hn,λi x v e1 e2 e3=>?_};obtain⟨u,r,l⟩:=hl i x v e1 e2 e3;refine{u,r,?_};rcases l with l|⟨k,c,e,z⟩
  ·exact .inl l
  exact .inr {k,c,e,cellK x c e _ z}
 ·obtain⟨v,z⟩:=I.cell x c e;exact⟨v,cellK x c e v z⟩
 ·obtain⟨m,⟨o,_,_,ho,_⟩,_⟩:=I.loc;exact free _ o (λz=>(hch _ z).2.1 rfl) ho I.free
 ·obtain⟨v,o,ho,hd⟩:=I.cell x c e;exact free c o (λz=>(hch c z).2.2.1 x c e rfl) ho (I.kQ x c e)
 obtain⟨e,n,ne,nf,d⟩:=I.pin p hp
 have nch:p.1∉ch:=λz=>(hch p.1 z).2.2.2 p hp rfl
 exact⟨keep p.1 p.2 ne nf nch e n,free p.1 p.2 nch e n,ne,nf,d⟩
theorem Inv.un{t':Nat}(I:Inv X pins σ H s)(u:Un X.fs [] H H' s.heap h')(hok:HOk X.prog X.w H' h'):Inv X pins σ H' { s with heap:=h',toks:=t' }:=by
 obtain⟨m,⟨o,es,ep,ho,r⟩,_⟩:=id I.loc;obtain⟨sl,hL⟩:=u.any ho I.free (by simp);exact I.step (g':=s.gens) (d':=s.drawn) (ch:=[]) (λ_ z=>nomatch z) (λb o _ hb _ e n=>u.keep b o e n hb (by simp)) (λb o _ hb _ e n=>u.slot b o e n hb (by simp)) (λb o _ e n=>u.free b o e n (by simp)) (λb o _ e=>u.there b o e (by simp)) u.uV u.sY u.uW (λm' hm=>by
  obtain⟨o',es',ep',ho',r'⟩:=hm;rw[ho]at ho';cases ho';exact{_,es',ep',hL,r'}) hok I.bare
theorem Inv.call{g':Array Rj}{t':Nat}{d':Drawn}{ch:List N6}(I:Inv X pins σ H s)(u:Un (frs X.stack) ch H H' s.heap h')(hok:HOk X.prog X.w H' h')(hg:Rf g')
  (hch:∀b∈ch,(b∈X.ex\/X.s₀.heap.objs.size<=b)/\b≠X.env.locals/\(∀x c,X.env.cells.lookup x=UE c->c≠b)/\∀p∈X.pn++pins,p.1≠b) :
  Inv X pins σ H' { s with heap:=h',gens:=g',drawn:=d',toks:=t' }:=by
 obtain⟨m,⟨o,es,ep,ho,r⟩,_⟩:=id I.loc
 obtain⟨sl,hL⟩:=u.any ho I.free λz=>(hch _ z).2.1 rfl
 exact I.step (ch:=ch) hch (λb o hL hb hc e n=>u.keep b o e n (λz=>(Lu.mp (I.yc b z)).elim hL hb) hc) (λb o _ _ hc e n=>u.any e n hc) (λb o hc e n=>u.free b o e n hc) (λb o hc e=>u.there b o e hc) u.uV u.sY u.uW (λm' hm=>by
  obtain⟨o',es',ep',ho',r'⟩:=hm;rw[ho]at ho';cases ho';exact{_,es',ep',hL,r'}) hok hg
theorem Inv.turned{t':Nat}{it:N6}(I:Inv X pins σ H s)(k:∀b o,b≠it->s.heap.get? b=UE o->h'.get? b=UE o)(hn:H it=UG)(hL:it≠X.env.locals)
  (h1:it∈X.ex\/X.s₀.heap.objs.size<=it) (h2:∀x c,X.env.cells.lookup x=UE c->c≠it) (h3:∀p∈X.pn++pins,p.1≠it):Inv X pins σ H { s with heap:=h',toks:=t' }:=by
 have nit:∀b u,H b=UE u->b≠it:=λb u e z=>by rw[z,hn]at e;cases e
 refine I.step (g':=s.gens) (d':=s.drawn) (ch:=[it]) (λb hb=>?_) (λb o _ _ hc e _=>k b o (λz=>hc (by simp[z])) e) (λb o _ _ hc e _=>{o.slots,k b o (λz=>hc (by simp[z])) e}) (λ_ _ _ _ n=>n)
  (λb o hc e=>{o,k b o (λz=>hc (by simp[z])) e}) (λ_ _ e=>e) (λ_ _ _ e=>e) (λb ps e=>{#[],by rw[e];simp}) (λm hm=>?_) (λb u e=>?_) I.bare
 ·have e:b=it:=by simpa using hb
  subst e;exact⟨h1,hL,h2,h3⟩
 ·obtain⟨o,es,ep,ho,r⟩:=hm;exact{o,es,ep,k _ o (LU hL) ho,r}
 refine(I.hok b u e).yL (λc v hc q=>k c v ?_ q) (λ_ q=>q) λ_ _ q=>q
 rcases hc with z|z
 ·rw[z];exact nit b u e
 exact nit c _ z
theorem Inv.tok(I:Inv X pins σ H s)(t:Nat):Inv X pins σ H { s with toks:=t }:=I.un (h':=s.heap) (t':=t) Un.refl I.hok
theorem Inv.kept{t':Nat}(I:Inv X pins σ H s)(k:∀b u,s.heap.get? b=UE u->h'.get? b=UE u):Inv X pins σ H { s with heap:=h',toks:=t' }:=I.un (Un.kept k) (I.hok.kept k)
theorem Inv.laid{a:N6}{o:HO}{t':Nat}(I:Inv X pins σ H s)(k:∀b u,s.heap.get? b=UE u->h'.get? b=UE u)(hp:s.heap.objs.size<=a)(new:cy X.prog X.w (upd H a o) h' a o) :
  Inv X pins σ (upd H a o) { s with heap:=h',toks:=t' }:=I.un (Un.laid k hp (I.hok.fresh hp)) (I.hok.laid k hp new)
theorem Inv.write{x e:N6}{o:HO}{t':Nat}(I:Inv X pins σ H s)(mu:Mut (H x))(he:e=x\/H e=UE (.own x))(k:∀b u,b≠e->s.heap.get? b=UE u->h'.get? b=UE u)(heo:∃u,h'.get? e=UE u)
  (new:cy X.prog X.w (upd H x o) h' x o):Inv X pins σ (upd H x o) { s with heap:=h',toks:=t' }:=I.un (Un.write mu he k heo) (I.hok.write mu he k heo new)
theorem Inv.wg{pins':List (N6×Obj)}(I:Inv X pins σ H s)(h:∀p∈pins',s.heap.get? p.1=UE p.2/\H p.1=UG/\p.1≠X.env.locals/\p.1∉X.fs/\∀v,p.2.data≠ .cell v):Inv X pins' σ H s:=
 {I.ok,I.os,I.bare,I.base,I.loc,I.cell,I.free,I.kQ,λp hp=>(Ls.mp hp).elim (λz=>I.pin p (LP _ z)) (h p),I.hok,I.len}
theorem wH{N:List Str}(hN:N.Nodup){i j:Nat}{x:Str}(a:N[i]?=UE x)(b:N[j]?=UE x):i=j:=by
 obtain⟨h1,e1⟩:=LJ.mp a;obtain⟨h2,e2⟩:=LJ.mp b;exact(NQ hN).mp (e1.trans e2.symm)
theorem AI{M:Model}{A:Ou}{E:E9->N7->Prop}{i:Nat}{x:Str}{v:V}{u:E9}{Q:Unit->N7->Prop}(I:Inv X pins σ H s)(hN:X.N.Nodup)(hi:X.N[i]?=UE x)(hx:Loc X.env.scope x)(r:UJ v u)
  (h:∀s',Inv X pins (σ.set i (UE v)) H s'->(∃a,QT a s.heap s'.heap/\(a=X.env.locals\/X.env.cells.lookup x=UE a))->Q () s') (hf:X.fn x=true\/X.env.scope.names.lookup x=UE .local:=by first|exact .inl rfl|exact .inr rfl|assumption):wpAny M A (Ux X.env x u) Q E s:=by
 obtain⟨m,hn,hl⟩:=id I.loc
 have hcls:(X.env.scope.kind== .class||(X.env.scope.kind== .module&&X.env.locals !=X.env.globals))=false:=by rw[I.ok.kind];rfl
 have hiσ:i<σ.length:=by rw[I.len];exact(LJ.mp hi).1
 have cne:=I.cne
 have tracked:∀{a:N6}{h':OC},(∃o,s.heap.get? a=UE o/\H a=UG)->QT a s.heap h'->HOk X.prog X.w H h':=λ{a h'} ha hs b ob e=>by
  obtain⟨_,_,hfree⟩:=ha;refine(I.hok b ob e).yL (λc w' hc q=>(hs.2 c ?_).trans q) (λ_ q=>q) λ_ _ q=>q;rintro rfl;rcases hc with rfl|hc
  ·rw[hfree]at e;cases e
  rw[hfree]at hc;cases hc
 rcases hx with hk|hk
 ·refine wpAny_storeName_local hk hn (λh' hn' hs=>?_) hcls;obtain⟨oL,_,_,hoL,_⟩:=id hn;refine h _ {I.ok,I.os,I.bare,{λb o e n hb hx=>?_,λb o e n hb hx=>?_,I.base.free,λb o e hx=>?_,I.base.uV,I.base.sY,I.base.uW},{_,hn',λj y v' e1 e2 e3=>?_},λy c e=>?_,I.free,I.kQ,λp hp=>?_,tracked ⟨oL,hoL,I.free⟩ hs,by simpa using I.len} {_,hs,.inl rfl}
  ·exact(hs.2 b (L9 (LZ (Om e) I.ok.above))).trans (I.base.keep b o e n hb hx)
  ·obtain⟨sl,e1⟩:=I.base.slot b o e n hb hx;exact{sl,(hs.2 b (L9 (LZ (Om e) I.ok.above))).trans e1}
  ·obtain⟨o',e1⟩:=I.base.there b o e hx;exact{o',(hs.2 b (L9 (LZ (Om e) I.ok.above))).trans e1}
  ·by_cases hj:j=i
   ·subst hj;rw[hi]at e1;cases e1;rw[Nm hiσ]at e2;cases e2;exact{u,r,.inl ⟨hk,by simp⟩}
   rw[RJ (LU hj)]at e2;obtain⟨u',r',q⟩:=hl j y v' e1 e2 e3;refine{u',r',?_};rcases q with⟨k,e⟩|⟨k,c,e,z⟩
   ·refine .inl {k,?_};have:y≠x:=λe=>hj (wH hN e1 (e▸hi));simp[this,e]
   exact .inr {k,c,e,z.sameBut hs (cne y c e)}
  ·obtain⟨w',z⟩:=I.cell y c e;exact{w',z.sameBut hs (cne y c e)}
  obtain⟨e,n,ne,nf,d⟩:=I.pin p hp;exact{(hs.2 p.1 ne).trans e,n,ne,nf,d}
 have hfn:X.fn x=true:=by
  rcases hf with z|z
  ·exact z
  rw[z]at hk;cases hk
 obtain⟨c,hc⟩:=I.ok.has x (.inl hk)
 obtain⟨w',z⟩:=I.cell x c hc
 refine wpAny_storeName_cell I.ok.kind hk hc z (λh' hc' hs=>?_)
 obtain⟨oc,hoc,hocd⟩:=id z
 refine h { s with heap:=h' } ⟨I.ok,I.os,I.bare,⟨λb o e n hb hx=>?_,λb o e n hb hx=>?_,I.base.free,λb o e hx=>?_,I.base.uV,I.base.sY,I.base.uW⟩,⟨m,hn.sameBut hs (LU (cne x c hc)),λj y v' e1 e2 e3=>?_⟩,λy c' e=>?_,I.free,I.kQ,λp hp=>?_,tracked ⟨oc,hoc,I.kQ x c hc⟩ hs,by simpa using I.len⟩ ⟨c,hs,.inr hc⟩
 ·exact(hs.2 b (L9 (LZ (Om e) (I.ok.cab x c hfn hc)))).trans (I.base.keep b o e n hb hx)
 ·obtain⟨sl,e1⟩:=I.base.slot b o e n hb hx;exact{sl,(hs.2 b (L9 (LZ (Om e) (I.ok.cab x c hfn hc)))).trans e1}
 ·obtain⟨o',e1⟩:=I.base.there b o e hx;exact{o',(hs.2 b (L9 (LZ (Om e) (I.ok.cab x c hfn hc)))).trans e1}
 ·by_cases hj:j=i
  ·subst hj;rw[hi]at e1;cases e1;rw[Nm hiσ]at e2;cases e2;exact{u,r,.inr ⟨.inl hk,c,hc,hc'⟩}
  rw[RJ (LU hj)]at e2;obtain⟨u',r',q⟩:=hl j y v' e1 e2 e3;refine{u',r',?_};rcases q with q|⟨k,c',e,z'⟩
  ·exact .inl q
  refine .inr {k,c',e,z'.sameBut hs ?_};rintro rfl;exact hj (wH hN e1 (I.ok.inj _ _ _ e hc▸hi))
 ·by_cases hcc:c'=c
  ·subst hcc;exact{_,hc'}
  obtain⟨w2,z2⟩:=I.cell y c' e;exact⟨w2,z2.sameBut hs hcc⟩
 obtain⟨e,n,ne,nf,d⟩:=I.pin p hp
 refine{(hs.2 p.1 ?_).trans e,n,ne,nf,d}
 intro q
 rw[q,hoc]at e
 have q':oc=p.2:=Oj e
 exact d w' (by rw[<-q'];exact hocd)
theorem sC{M:Model}{A:Ou}{E:E9->N7->Prop}{i:Nat}{x:Str}{v:V}{u:E9}{Q:Unit->N7->Prop}(I:Inv X pins σ H s)(hN:X.N.Nodup)(hi:X.N[i]?=UE x)(hx:Loc X.env.scope x)(r:UJ v u)
  (h:∀s',Inv X pins (σ.set i (UE v)) H s'->Q () s') (hf:X.fn x=true\/X.env.scope.names.lookup x=UE .local:=by first|exact .inl rfl|exact .inr rfl|assumption):wpAny M A (Ux X.env x u) Q E s:=
 AI I hN hi hx r (λs' I' _=>h s' I') hf
theorem Inv.Kb{s':N7}{ch:List N6}(I:Inv X pins σ H s)(ho:s'.os=s.os)(u:Un (frs X.stack) ch H H' s.heap s'.heap)(hok:HOk X.prog X.w H' s'.heap)(hg:Rf s'.gens)
  (hch:∀b∈ch,(b∈X.ex\/X.s₀.heap.objs.size<=b)/\b≠X.env.locals/\(∀x c,X.env.cells.lookup x=UE c->c≠b)/\∀p∈X.pn++pins,p.1≠b):Inv X pins σ H' s':=by
 obtain⟨h',g',d',t',o'⟩:=s'
 have e:o'=s.os:=ho
 subst e
 exact I.call (g':=g') (t':=t') (d':=d') u hok hg hch
end
noncomputable abbrev XK:=E9->Option N6->Hp->Prop
noncomputable abbrev St:=List (Option V)
noncomputable abbrev VK:=V->Hp->Prop
noncomputable abbrev TE:=St->Hp->VK->Prop
noncomputable abbrev TT:=St->Hp->(Bool->Hp->Prop)->Prop
noncomputable abbrev TA:=St->Hp->(List V->Hp->Prop)->Prop
structure UW where
 nx:St->Hp->Prop
 rt:VK
 bk:St->Hp->Prop:=λ_ _=>False
 ct:St->Hp->Prop:=λ_ _=>False
noncomputable abbrev TS:=UW->St->Hp->Prop
inductive EP(X:Cx)(pins:List (N6×Obj))(σ:St)(Q:VK)(u:E9)(s':N7):Prop
 |mk(v:V)(H':Hp)(h0:Inv X pins σ H' s')(h1:UJ v u)(h2:Q v H'):EP X pins σ Q u s'
inductive TP(X:Cx)(pins:List (N6×Obj))(σ:St)(Q:Bool->Hp->Prop)(b:Bool)(s':N7):Prop
 |mk(H':Hp)(h0:Inv X pins σ H' s')(h1:Q b H'):TP X pins σ Q b s'
inductive AP(X:Cx)(pins:List (N6×Obj))(σ:St)(Q:List V->Hp->Prop)(us:List E9)(s':N7):Prop
 |mk(vs:List V)(H':Hp)(h0:Inv X pins σ H' s')(h1:UH vs us)(h2:Q vs H'):AP X pins σ Q us s'
inductive NP(X:Cx)(pins:List (N6×Obj))(q:St->Hp->Prop)(s':N7):Prop
 |mk(σ':St)(H':Hp)(h0:Inv X pins σ' H' s')(h1:q σ' H'):NP X pins q s'
inductive RP(X:Cx)(pins:List (N6×Obj))(q:VK)(u:E9)(s':N7):Prop
 |mk(v:V)(σ':St)(H':Hp)(h0:Inv X pins σ' H' s')(h1:UJ v u)(h2:q v H'):RP X pins q u s'
def SP(X:Cx)(pins:List (N6×Obj))(D:UW)(f:Flow)(s':N7):Prop:=
 match f with
 | .next=>NP X pins D.nx s'
 | .brk=>NP X pins D.bk s'
 | .cont=>NP X pins D.ct s'
 | .ret u=>RP X pins D.rt u s'
def PE(X:Cx)(e:Expr)(t:TE):Prop:=
 ∀(pins:List (N6×Obj))(s:N7)(σ:St)(H:Hp)(Q:VK),Inv X pins σ H s->t σ H Q->wpAny (Oh X.prog X.w) X.A (OT e X.env) (EP X pins σ Q) X.xe s
def PT(X:Cx)(e:Expr)(t:TT):Prop:=
 ∀(pins:List (N6×Obj))(s:N7)(σ:St)(H:Hp)(Q:Bool->Hp->Prop),Inv X pins σ H s->t σ H Q->wpAny (Oh X.prog X.w) X.A (isTrue e X.env (OT e X.env)) (TP X pins σ Q) X.xe s
def PW(X:Cx)(e:Expr)(t:TT):Prop:=
 ∀(whole:Sem E9)(pins:List (N6×Obj))(s:N7)(σ:St)(H:Hp)(Q:Bool->Hp->Prop),Inv X pins σ H s->t σ H Q->wpAny (Oh X.prog X.w) X.A (isTrue e X.env whole) (TP X pins σ Q) X.xe s
theorem PW.pt{X:Cx}{e:Expr}{t:TT}(h:PW X e t):PT X e t:=h _
def PA(X:Cx)(es:List Expr)(t:TA):Prop:=
 ∀(pos:Pos)(pins:List (N6×Obj))(s:N7)(σ:St)(H:Hp)(Q:List V->Hp->Prop),Inv X pins σ H s->t σ H Q->wpAny (Oh X.prog X.w) X.A (spliced (O7 pos (Oi es X.env))) (AP X pins σ Q) X.xe s
def PS(X:Cx)(st:OH)(t:TS):Prop:=
 ∀(pins:List (N6×Obj))(s:N7)(σ:St)(H:Hp)(D:UW),Inv X pins σ H s->t D σ H->wpAny (Oh X.prog X.w) X.A (exec st X.env) (SP X pins D) X.xe s
def PSs(X:Cx)(st:List OH)(t:TS):Prop:=
 ∀(pins:List (N6×Obj))(s:N7)(σ:St)(H:Hp)(D:UW),Inv X pins σ H s->t D σ H->wpAny (Oh X.prog X.w) X.A (execs st X.env) (SP X pins D) X.xe s
theorem thn{α:Type}{t:Sem α}{Q Q':α->N7->Prop}{M:Model}{A:Ou}{E:E9->N7->Prop}{s:N7}(h:wpAny M A t Q E s)(hQ:∀a s,Q a s->Q' a s):wpAny M A t Q' E s:=Pn h hQ λ_ _ x=>x
section
variable{X:Cx}
noncomputable def Li(i:Nat):TE:=λσ H Q=>∃v,σ[i]?=UE (UE v)/\Q v H
noncomputable def tC(v:V):TE:=λ_ H Q=>Q v H
theorem HP{i:Nat}{x:Str}{pos:Pos}(hN:X.N[i]?=UE x)(hv:Vis X.env.scope x)(hd:(x==("__debug__":Str))=false:=by decide)(hcd:(x==("__classdict__":Str))=false:=by decide):PE X (.Name x pos) (Li i):=by
 intro pins s σ H Q I h;obtain⟨v,e,h⟩:=h;obtain⟨m,hn,hl⟩:=I.loc;obtain⟨u,r,l⟩:=hl i x v hN e hv;have fin:EP X pins σ Q u s:=⟨v,H,I,r,h⟩;rcases l with⟨hk,hm⟩|⟨hk,c,hc,hcell⟩
 ·exact T5 (RK I.ok.kind hk hn hm fin) hd
 rcases hk with hk|hk
 ·exact T5 (Si I.ok.kind hk hc hcell fin) hd
 exact T5 (wpAny_loadName_free I.ok.kind hk hc hcell fin hcd) hd
theorem af{i j pos}:PE X (.Constant (.int i) j pos) (tC (.int i)):=λ_ _ _ H _ I h=>SF {.int i,H,I.tok _,{_,rfl},h}
theorem r8{b j pos}:PE X (.Constant (.bool b) j pos) (tC (.bl b)):=λ_ _ _ H _ I h=>Constant_bool ⟨.bl b,H,I,rfl,h⟩
theorem bH{j pos}:PE X (.Constant .none j pos) (tC .non):=λ_ _ _ H _ I h=>Constant_none ⟨.non,H,I,rfl,h⟩
theorem ar{x j pos}:PE X (.Constant (.str x) j pos) (tC (.str x)):=λ_ _ _ H _ I h=>Calls.Constant_str {.str x,H,I.tok _,{_,rfl},h}
def Gl(X:Cx)(x:Str):Prop:=X.env.kindOf x=UE .globalImplicit
theorem nP{E:E9->N7->Prop}{pins:List (N6×Obj)}{s:N7}{σ:St}{H:Hp}{x:Str}{u:E9}{pos:Pos}{Q:E9->N7->Prop}(I:Inv X pins σ H s)(hg:Gl X x)(hm:X.mg x=UE u)(h:Q u s)
  (hd:(x==("__debug__":Str))=false:=by decide):wpAny (Oh X.prog X.w) X.A (OT (.Name x pos) X.env) Q E s:=
 QZ I.ok.kind hg (Calls.loadGlobal_global (by rw[I.ok.glob];exact I.mod.glob.keeps I.bk) hm h) hd
theorem oy{E:E9->N7->Prop}{pins:List (N6×Obj)}{s:N7}{σ:St}{H:Hp}{x:Str}{u:E9}{pos:Pos}{Q:E9->N7->Prop}(I:Inv X pins σ H s)(hg:Gl X x)(hm:X.mg x=UG)(hv:Pu x=UE u)(h:Q u s)
  (hn:x≠"__name__":=by decide) (hd:(x==("__debug__":Str))=false:=by decide):wpAny (Oh X.prog X.w) X.A (OT (.Name x pos) X.env) Q E s:=by
 obtain⟨mb,h1,h2⟩:=I.mod.blt
 exact QZ I.ok.kind hg (Calls.loadGlobal_builtin (by rw[I.ok.glob];exact I.mod.glob.keeps I.bk) hm (by rw[I.ok.blt];exact h1.keeps I.bk) ((h2 x hn).trans hv) h) hd
theorem Aj{x:Str}{v:V}{u:E9}{pos:Pos}(hg:Gl X x)(hm:X.mg x=UE u)(r:UJ v u)(hd:(x==("__debug__":Str))=false:=by decide):PE X (.Name x pos) (tC v):=
 λ_ _ _ H _ I h=>nP I hg hm ⟨v,H,I,r,h⟩ hd
theorem lU{x:Str}{v:V}{u:E9}{pos:Pos}(hg:Gl X x)(hm:X.mg x=UG)(hv:Pu x=UE u)(r:UJ v u)(hn:x≠"__name__":=by decide)(hd:(x==("__debug__":Str))=false:=by decide):PE X (.Name x pos) (tC v):=
 λ_ _ _ H _ I h=>oy I hg hm hv ⟨v,H,I,r,h⟩ hn hd
variable{a b:Expr}{ta tb:TE}{pos:Pos}
variable{tA tB':TT}{rest:List Expr}
noncomputable def Km(t u:TT):TT:=λσ H Q=>t σ H λc H1=>if c=true then u σ H1 Q else Q false H1
noncomputable def tOr(t u:TT):TT:=λσ H Q=>t σ H λc H1=>if c=true then Q true H1 else u σ H1 Q
noncomputable def Kg(t:TT):TT:=λσ H Q=>t σ H λc H1=>Q (!c) H1
theorem pw_and1(ha:PT X a tA):PW X (.BoolOp .And [a] pos) tA:=by
 intro wh pins s σ H Q I h;refine isTrue_and (thn (ha pins s σ H Q I h) λc s1 e=>?_);cases c with
 |true=>exact isTrue_and_nil e
 |false=>exact e
theorem pw_or1(ha:PT X a tA):PW X (.BoolOp .Or [a] pos) tA:=by
 intro wh pins s σ H Q I h;refine isTrue_or (thn (ha pins s σ H Q I h) λc s1 e=>?_);cases c with
 |false=>exact isTrue_or_nil e
 |true=>exact e
theorem pw_and(ha:PT X a tA)(hb:PW X (.BoolOp .And (b::rest) pos) tB'):PW X (.BoolOp .And (a::b::rest) pos) (Km tA tB'):=by
 intro wh pins s σ H Q I h;refine isTrue_and (thn (ha pins s σ H _ I h) λc s1 z9=>?_);obtain⟨H1,I1,q1⟩:=z9;cases c with
 |true=>exact hb wh pins s1 σ H1 Q I1 q1
 |false=>exact⟨H1,I1,q1⟩
theorem pw_or(ha:PT X a tA)(hb:PW X (.BoolOp .Or (b::rest) pos) tB'):PW X (.BoolOp .Or (a::b::rest) pos) (tOr tA tB'):=by
 intro wh pins s σ H Q I h;refine isTrue_or (thn (ha pins s σ H _ I h) λc s1 z9=>?_);obtain⟨H1,I1,q1⟩:=z9;cases c with
 |true=>exact⟨H1,I1,q1⟩
 |false=>exact hb wh pins s1 σ H1 Q I1 q1
theorem vH(ha:PT X a tA):PT X (.UnaryOp .Not a pos) (Kg tA):=by
 intro pins s σ H Q I h;exact isTrue_not (thn (ha pins s σ H (λc H1=>Q (!c) H1) I h) λc s1 ⟨H1,I1,q1⟩=>⟨H1,I1,q1⟩)
noncomputable def tIf(t:TT)(ta tb:TE):TE:=λσ H Q=>t σ H λc H1=>if c=true then ta σ H1 Q else tb σ H1 Q
theorem CC{c:Expr}(hc:PT X c tA)(ha:PE X a ta)(hb:PE X b tb):PE X (.IfExp c a b pos) (tIf tA ta tb):=by
 intro pins s σ H Q I h;refine wpAny_IfExp (thn (hc pins s σ H _ I h) λd s1 z9=>?_);obtain⟨H1,I1,q1⟩:=z9;cases d with
 |true=>exact ha pins s1 σ H1 Q I1 q1
 |false=>exact hb pins s1 σ H1 Q I1 q1
end
def SqL(K:Oc)(H:Hp)(a:N6)(xs:List V):Prop:=
 Rd H a (.lst xs)\/
  ∃(o:Obj)(its:Array E9)(n:Nat),K.lookup a=UE o/\o.cls=.type "list"/\o.dict=UG/\o.data=.seq its n/\its.size<=sizeLine/\UH xs its.toList
def SqT(K:Oc)(H:Hp)(a:N6)(xs:List V):Prop:=
 Rd H a (.tup xs)\/
  ∃(o:Obj)(its:Array E9)(n:Nat),K.lookup a=UE o/\o.cls=.type "tuple"/\o.data=.seq its n/\its.size<=sizeLine/\UH xs its.toList
noncomputable def KI:E9->Option V
 | .none=>UE .non
 | .bool b=>UE (.bl b)
 | .int i _=>UE (.int i)
 | .str x _=>UE (.str x)
 | .bytes b _=>UE (.byt b)
 | .float b _=>UE (.flt b)
 | .ref a=>UE (.ref a)
 | .type n=>UE (.ty n)
 |_=>UG
theorem UJ.abs{x:V}{u:E9}(r:UJ x u):KI u=UE x:=by
 cases x with
 |non=>cases r;rfl
 |bl _=>cases r;rfl
 |int _=>obtain⟨t,rfl⟩:=r;rfl
 |str _=>obtain⟨t,rfl⟩:=r;rfl
 |byt _=>obtain⟨t,rfl⟩:=r;rfl
 |flt _=>obtain⟨t,rfl⟩:=r;rfl
 |ref _=>cases r;rfl
 |ty _=>cases r;rfl
theorem UJ.inj{x y:V}{u:E9}(r:UJ x u)(q:UJ y u):x=y:=Oj (r.abs.symm.trans q.abs)
theorem UH.inj:∀{xs ys:List V}{us:List E9},UH xs us->UH ys us->xs=ys
 |_,_,_,.nil,.nil=>rfl
 |_,_,_,.cons r t,.cons r' t'=>by rw[r.inj r',UH.inj t t']
section
variable{X:Cx}{pins:List (N6×Obj)}{σ:St}{H:Hp}{s:N7}{a:N6}{xs ys:List V}
theorem SqL.of{K:Oc}(h:H a=UE (.lst xs)):SqL K H a xs:=.inl (.inl h)
theorem SqT.of{K:Oc}(h:H a=UE (.tup xs)):SqT K H a xs:=.inl (.inl h)
theorem Inv.list(I:Inv X pins σ H s)(h:SqL X.K H a xs):∃its:List E9,UH xs its/\PlainL s.heap a its.toArray/\xs.length<=sizeLine:=by
 rcases h with h|⟨o,its,n,hk,hc,hd,hs,hz,r⟩
 ·obtain⟨z,its,n,r,e⟩:=h.ok I.hok;exact{its,r,{_,n,e,rfl,rfl,rfl},z}
 refine{its.toList,r,⟨o,n,I.kIn a o hk,hc,hd,by simpa using hs⟩,?_};have e:=r.length;simp only[LI]at e;lia
theorem Inv.tuple(I:Inv X pins σ H s)(h:SqT X.K H a xs):∃its:List E9,UH xs its/\IsTup s.heap a its.toArray/\xs.length<=sizeLine:=by
 rcases h with h|⟨o,its,n,hk,hc,hs,hz,r⟩
 ·obtain⟨z,its,r,p⟩:=h.ok I.hok;exact⟨its,r,p,z⟩
 refine{its.toList,r,⟨o,I.kIn a o hk,hc,n,by simpa using hs⟩,?_};have e:=r.length;simp only[LI]at e;lia
theorem Inv.qM(I:Inv X pins σ H s)(h:SqL X.K H a xs)(h':SqL X.K H a ys):xs=ys:=by
 obtain⟨its,r,⟨o,n,e,_,_,d⟩,_⟩:=I.list h;obtain⟨its',r',⟨o',n',e',_,_,d'⟩,_⟩:=I.list h';rw[e]at e';cases e';rw[d]at d';injection d' with d1 _;have:its=its':=by simpa using congrArg NR d1
 subst this;exact r.inj r'
theorem Inv.AQ(I:Inv X pins σ H s)(h:SqT X.K H a xs)(h':SqT X.K H a ys):xs=ys:=by
 obtain⟨its,r,⟨o,e,_,n,d⟩,_⟩:=I.tuple h;obtain⟨its',r',⟨o',e',_,n',d'⟩,_⟩:=I.tuple h';rw[e]at e';cases e';rw[d]at d';injection d' with d1 _;have:its=its':=by simpa using congrArg NR d1
 subst this;exact r.inj r'
end
noncomputable abbrev Cx.tJ(X:Cx)(E:E9->N7->Prop):Cx:={ X with xe:=E }
noncomputable abbrev Cx.nox(X:Cx):Cx:=X.tJ λ_ _=>False
theorem Cx.Ok.tJ{X:Cx}(ok:X.Ok)(E:E9->N7->Prop):(X.tJ E).Ok:=
 ⟨ok.mod,ok.kind,ok.glob,ok.blt,ok.above,ok.inj,ok.has,ok.cab,ok.hd,ok.frames,ok.stk,ok.exf,ok.bs,ok.bsz,ok.Dd,ok.CM,ok.pP,ok.frf⟩
theorem Cx.Ok.lE{X:Cx}{E:E9->N7->Prop}(ok:(X.tJ E).Ok):X.Ok:=
 ⟨ok.mod,ok.kind,ok.glob,ok.blt,ok.above,ok.inj,ok.has,ok.cab,ok.hd,ok.frames,ok.stk,ok.exf,ok.bs,ok.bsz,ok.Dd,ok.CM,ok.pP,ok.frf⟩
section
variable{X:Cx}{pins:List (N6×Obj)}{σ:St}{H:Hp}{s:N7}{E:E9->N7->Prop}
theorem Inv.tJ(I:Inv X pins σ H s)(E:E9->N7->Prop):Inv (X.tJ E) pins σ H s:=⟨I.ok.tJ E,I.os,I.bare,I.base,I.loc,I.cell,I.free,I.kQ,I.pin,I.hok,I.len⟩
theorem Inv.lE(I:Inv (X.tJ E) pins σ H s):Inv X pins σ H s:=⟨I.ok.lE,I.os,I.bare,I.base,I.loc,I.cell,I.free,I.kQ,I.pin,I.hok,I.len⟩
theorem SP.lE{D:UW}{f:Flow}{s':N7}(h:SP (X.tJ E) pins D f s'):SP X pins D f s':=by
 cases f with
 |next=>obtain⟨σ',H',I,q⟩:=h;exact⟨σ',H',I.lE,q⟩
 |brk=>obtain⟨σ',H',I,q⟩:=h;exact⟨σ',H',I.lE,q⟩
 |cont=>obtain⟨σ',H',I,q⟩:=h;exact⟨σ',H',I.lE,q⟩
 |ret u=>obtain⟨v,σ',H',I,r,q⟩:=h;exact⟨v,σ',H',I.lE,r,q⟩
theorem PSs.nox{st:List OH}{t:TS}(h:PSs X.nox st t):PSs X st t:=λpins s σ H D I hw=>
 Pn (h pins s σ H D (I.tJ _) hw) (λ_ _ q=>q.lE) λ_ _ z=>O2 z
end
section
variable{X:Cx}{st:OH}{rest:List OH}{t u:TS}{e:Expr}{te:TE}{pos:Pos}
noncomputable def Ju:TS:=λD σ H=>D.nx σ H
noncomputable def JW(t u:TS):TS:=λD σ H=>t { D with nx:=u D } σ H
theorem aC:PSs X [] Ju:=λ_ _ σ H _ I h=>QM ⟨σ,H,I,h⟩
theorem ab(h1:PS X st t)(h2:PSs X rest u):PSs X (st::rest) (JW t u):=by
 intro pins s σ H D I h;refine Tq (thn (h1 pins s σ H { D with nx:=u D } I h) λf s1 q=>?_);cases f with
 |next=>
  obtain⟨σ',H',I',q⟩:=q;exact h2 pins s1 σ' H' D I' q
 |ret v=>exact q
 |brk=>exact q
 |cont=>exact q
theorem ai(h1:PS X st t):PSs X [st] t:=by
 intro pins s σ H D I h;refine Tq (thn (h1 pins s σ H D I h) λf s1 q=>?_);cases f with
 |next=>exact QM q
 |ret v=>exact q
 |brk=>exact q
 |cont=>exact q
theorem Inv.quiet{pins:List (N6×Obj)}{σ:St}{H:Hp}{s:N7}(I:Inv X pins σ H s):interactive X.env=false:=by simp[interactive,I.ok.kind]
noncomputable def Jh(te:TE):TS:=λD σ H=>te σ H λ_ H1=>D.nx σ H1
theorem aK(he:PE X e te)(hs:RZ e UG pos.line X.env=pure false:=by rfl):PS X (.Expr e pos) (Jh te):=by
 intro pins s σ H D I h;exact wpAny_Expr_any (thn (he pins s σ H _ I h) λv s1 ⟨x,H1,I1,r1,q1⟩=>⟨σ,H1,I1,q1⟩) I.quiet hs
noncomputable def KS(te:TE):TS:=λD σ H=>te σ H D.rt
theorem aA(he:PE X e te):PS X (.Return (UE e) pos) (KS te):=by
 intro pins s σ H D I h;exact wpAny_Return_some (thn (he pins s σ H _ I h) λv s1 ⟨x,H1,I1,r1,q1⟩=>⟨x,σ,H1,I1,r1,q1⟩)
noncomputable def Ky(c:TT)(t u:TS):TS:=λD σ H=>c σ H λb H1=>if b=true then t D σ H1 else u D σ H1
theorem aL{c:Expr}{a b:List OH}{tc:TT}(hc:PT X c tc)(ha:PSs X a t)(hb:PSs X b u):PS X (.If c a b pos) (Ky tc t u):=by
 intro pins s σ H D I h;refine wpAny_If (thn (hc pins s σ H _ I h) λd s1 z9=>?_);obtain⟨H1,I1,q1⟩:=z9;cases d with
 |true=>exact ha pins s1 σ H1 D I1 q1
 |false=>exact hb pins s1 σ H1 D I1 q1
end
noncomputable abbrev TG:=V->St->Hp->(St->Hp->Prop)->Prop
noncomputable abbrev TGs:=List V->St->Hp->(St->Hp->Prop)->Prop
def PG(X:Cx)(target:Expr)(t:TG):Prop:=
 ∀(pins:List (N6×Obj))(s:N7)(σ:St)(H:Hp)(v:V)(u:E9)(Q:St->Hp->Prop),Inv X pins σ H s->UJ v u->t v σ H Q->
  wpAny (Oh X.prog X.w) X.A (assign target X.env u) (λ_ s'=>NP X pins Q s') X.xe s
def PGs(X:Cx)(ts:List Expr)(t:TGs):Prop:=
 ∀(pins:List (N6×Obj))(s:N7)(σ:St)(H:Hp)(vs:List V)(us:List E9)(Q:St->Hp->Prop),Inv X pins σ H s->UH vs us->t vs σ H Q->
  wpAny (Oh X.prog X.w) X.A (assignInOrder ((Q0 ts X.env).map (·.2)) us) (λ_ s'=>NP X pins Q s') X.xe s
noncomputable abbrev Fh:=V->V->V->Hp->(Hp->Prop)->Prop
def Ct(X:Cx)(t:Fh):Prop:=
 ∀(pins:List (N6×Obj))(s:N7)(σ:St)(H:Hp)(o i v:V)(ov iv u:E9)(Q:Hp->Prop),Inv X pins σ H s->UJ o ov->UJ i iv->UJ v u->t o i v H Q->
  wpAny (Oh X.prog X.w) X.A (setItem ov iv u) (λ_ s'=>∃H',Inv X pins σ H' s'/\Q H') X.xe s
noncomputable abbrev TIp:=V->V->Hp->VK->Prop
def PIp(X:Cx)(op:Operator)(t:TIp):Prop:=
 ∀(pins:List (N6×Obj))(s:N7)(σ:St)(H:Hp)(x y:V)(v u:E9)(Q:VK),Inv X pins σ H s->UJ x v->UJ y u->t x y H Q->
  wpAny (Oh X.prog X.w) X.A (inplaceOp op v u) (EP X pins σ Q) X.xe s
section
variable{X:Cx}{pos:Pos}
noncomputable def ny(i:Nat):TG:=λv σ H Q=>Q (σ.set i (UE v)) H
theorem zh{i:Nat}{x:Str}(hN:X.N.Nodup)(hi:X.N[i]?=UE x)(hx:Loc X.env.scope x)(hf:X.fn x=true\/X.env.scope.names.lookup x=UE .local:=by first|exact .inl rfl|exact .inr rfl|assumption):PG X (.Name x pos) (ny i):=by
 intro pins s σ H v u Q I r h;exact wpAny_assign_Name (sC I hN hi hx r (λs' I'=>{_,H,I',h}) hf)
noncomputable def KY:TGs:=λvs σ H Q=>vs=[]/\Q σ H
noncomputable def J9(t:TG)(u:TGs):TGs:=λvs σ H Q=>∃v r,vs=v::r/\t v σ H λσ' H'=>u r σ' H' Q
theorem bU:PGs X [] KY:=by
 intro pins s σ H vs us Q I r h;obtain⟨e,h⟩:=h;subst e;cases r;exact assignInOrder_nil ⟨σ,H,I,h⟩
theorem aH{e:Expr}{es:List Expr}{t:TG}{u:TGs}(h1:PG X e t)(h2:PGs X es u)
  (hs:(Q0 (e::es) X.env).map (·.2)=assign e X.env::(Q0 es X.env).map (·.2):=by rfl):PGs X (e::es) (J9 t u):=by
 intro pins s σ H vs us Q I r h
 obtain⟨v,vr,e1,h⟩:=h
 subst e1
 cases r with
 |cons r rr=>
  rw[hs]
  refine assignInOrder_cons (thn (h1 pins s σ H _ _ _ I r h) λ_ s1 z9=>?_);obtain⟨σ1,H1,I1,q1⟩:=z9
  exact h2 pins s1 σ1 H1 _ _ Q I1 rr q1
inductive Ja(K:Oc)(n:Nat)(v:V)(H:Hp)(R:List V->Prop):Prop
 |mk(a:N6)(xs:List V)(h0:v=.ref a)(h1:SqT K H a xs)(h2:xs.length=n)(q:R xs):Ja K n v H R
noncomputable def KJ(K:Oc)(n:Nat)(t:TGs):TG:=λv σ H Q=>Ja K n v H (λxs=>t xs σ H Q)
theorem cL{es:List Expr}{k:Nat}{t:TGs}{n:Nat}(hc:X.calm=true)(h:PGs X es t)
  (hn:(Q0 es X.env).length=n:=by rfl) (hst:(Q0 es X.env).findIdx? (·.1)=UG:=by rfl):PG X (.Tuple es k pos) (KJ X.K n t):=by
 intro pins s σ H v u Q I r hw
 obtain⟨a,xs,e1,hq,hl,hw⟩:=hw
 subst e1
 cases r
 obtain⟨its,rv,ht,hz⟩:=I.tuple hq
 refine assign_Tuple_tuple (I.ok.hd hc) ht (by simp[hn,<-hl,rv.length]) hst λh' hx=>?_
 have I1:Inv X pins σ H { s with heap:=h' }:=I.kept (t':=s.toks) λb o e=>hx b o (L9 (Om e)) e
 exact h pins _ σ H xs _ Q I1 (by simpa using rv) hw
noncomputable def K9(to ti:TE)(t:Fh):TG:=λv σ H Q=>to σ H λo H1=>ti σ H1 λi H2=>t o i v H2 λH3=>Q σ H3
theorem jA{o i:Expr}{to ti:TE}{t:Fh}(ho:PE X o to)(hi:PE X i ti)(hs:Ct X t)
  (ha:∀v,assign (.Subscript o i pos) X.env v=(do
   let ov<-QU [v] (OT o X.env)
   let iv<-QU [v,ov] (OT i X.env)
   SX pos
   QU [v,ov,iv] (setItem ov iv v)
   release [v,ov,iv] []):=by intro _;rfl):PG X (.Subscript o i pos) (K9 to ti t):=by
 intro pins s σ H v u Q I r h
 rw[ha]
 refine N5 (wpAny_holding (thn (ho pins s σ H _ I h) λov s1 z9=>?_));obtain⟨x,H1,I1,r1,q1⟩:=z9
 refine N5 (wpAny_holding (thn (hi pins s1 σ H1 _ I1 q1) λiv s2 z9=>?_));obtain⟨y,H2,I2,r2,q2⟩:=z9
 refine N5 (Ri (N5 (wpAny_holding (thn (hs pins s2 σ H2 x y v ov iv u _ I2 r1 r2 r q2) λ_ s3 z9=>?_))));obtain⟨H3,I3,q3⟩:=z9
 exact wpAny_release ⟨σ,H3,I3,q3⟩
noncomputable def FH(te:TE)(g:TG):TS:=λD σ H=>te σ H λx H1=>g x σ H1 D.nx
theorem bM{tg e:Expr}{te:TE}{g:TG}(he:PE X e te)(hg:PG X tg g)(hs:swapsWithSole [tg] e pos.line X.env=pure false:=by rfl)(hw:swappedStores [tg] e X.env=pure UG:=by rfl)
  (h1:(Q0 [tg] X.env).map (·.2)=[assign tg X.env]:=by rfl):PS X (.Assign [tg] e pos) (FH te g):=by
 intro pins s σ H D I h
 refine wpAny_Assign_stores (thn (he pins s σ H _ I h) λv s1 ⟨x,H1,I1,r1,q1⟩=>?_) hs hw
 rw[h1]
 exact thn (hg pins s1 σ H1 x v _ I1 r1 q1) λ_ s2 q=>q
theorem Ii{i:Nat}{x:Str}{e:Expr}{te:TE}{pos':Pos}(hN:X.N.Nodup)(hi:X.N[i]?=UE x)(hx:Loc X.env.scope x)(he:PE X e te)(hs:RZ e (UE (.Name x pos')) pos.line X.env=pure false:=by rfl)(hf:X.fn x=true\/X.env.scope.names.lookup x=UE .local:=by first|exact .inl rfl|exact .inr rfl|assumption) :
  PS X (.Assign [.Name x pos'] e pos) (FH te (ny i)):=by
 intro pins s σ H D I h
 refine wpAny_Assign_Name (thn (he pins s σ H _ I h) λv s1 ⟨y,H1,I1,r1,q1⟩=>?_) hs
 exact sC I1 hN hi hx r1 (λs2 I2=>{_,H1,I2,q1}) hf
noncomputable def KW(i:Nat)(te:TE)(ti:TIp):TS:=λD σ H=>∃x,σ[i]?=UE (UE x)/\te σ H λy H1=>ti x y H1 λz H2=>D.nx (σ.set i (UE z)) H2
theorem Ie{i:Nat}{x:Str}{e:Expr}{te:TE}{op:Operator}{ti:TIp}{pos':Pos}(hN:X.N.Nodup)(hi:X.N[i]?=UE x)(hx:Loc X.env.scope x)(he:PE X e te)(ho:PIp X op ti)(hf:X.fn x=true\/X.env.scope.names.lookup x=UE .local:=by first|exact .inl rfl|exact .inr rfl|assumption) :
  PS X (.AugAssign (.Name x pos') op e pos) (KW i te ti):=by
 intro pins s σ H D I h
 obtain⟨v,e1,h⟩:=h
 obtain⟨m,hn,hl⟩:=I.loc
 have vis:Vis X.env.scope x:=by rcases hx with k|k;exact .inl k;exact .inr (.inl k)
 obtain⟨u,r,l⟩:=hl i x v hi e1 vis
 refine wpAny_AugAssign_Name ?_
 have go:wpAny (Oh X.prog X.w) X.A (OT e X.env) (λw s₂=>wpAny (Oh X.prog X.w) X.A (inplaceOp op u w) (λr s₃=>wpAny (Oh X.prog X.w) X.A (Ux X.env x r) (λ_=>SP X pins D .next) X.xe s₃) X.xe s₂) X.xe s:=by
  refine thn (he pins s σ H _ I h) λw s1 z9=>?_;obtain⟨y,H1,I1,r1,q1⟩:=z9;refine thn (ho pins s1 σ H1 v y u w _ I1 r r1 q1) λz s2 z9=>?_;obtain⟨zv,H2,I2,r2,q2⟩:=z9;exact sC I2 hN hi hx r2 (λs3 I3=>{_,H2,I3,q2}) hf
 rcases l with⟨hk,hm⟩|⟨hk,c,hc,hcell⟩
 ·exact RK I.ok.kind hk hn hm go
 rcases hk with hk|hk
 ·exact Si I.ok.kind hk hc hcell go
 rcases hx with k|k
 ·have:X.env.scope.names.lookup x=UE .free:=hk;rw[k]at this;cases this
 have:X.env.scope.names.lookup x=UE .free:=hk
 rw[k]at this;cases this
noncomputable def ipI(f:Int->Int->Int):TIp:=λx y H Q=>∃i j,x=.int i/\y=.int j/\Q (.int (f i j)) H
theorem HW:PIp X .Add (ipI λi j=>i+j):=by
 intro pins s σ H x y v u Q I r1 r2 h;obtain⟨i,j,e1,e2,q⟩:=h;subst e1;subst e2;obtain⟨t,rfl⟩:=r1;obtain⟨t',rfl⟩:=r2;exact iadd_int {.int _,H,I.tok _,{_,rfl},q}
noncomputable def G1(c:TT)(tb:TS):TS:=λD σ H=>∃W:Nat->St->Hp->Prop,(∃m,W m σ H)/\∀m σ H,W m σ H->
 c σ H λb H1=>if b=true then ∃N:St->Hp->Prop,(∀σ' H',N σ' H'->∃m',m'<m/\W m' σ' H')/\tb { D with nx:=N,ct:=N,bk:=D.nx } σ H1 else D.nx σ H1
theorem js{c:Expr}{body:List OH}{tc:TT}{tb:TS}(hp:PassesOwn (Oh X.prog X.w) X.A X.env X.xe)(hc:PT X c tc)(hb:PSs X body tb):PS X (.While c body [] pos) (G1 tc tb):=by
 intro pins s σ H D I h;obtain⟨W,⟨m0,w0⟩,turn⟩:=h;refine wpAny_While (codeAny_whileLoop (λn s'=>NP X pins (W n) s') ?_ m0 ⟨σ,H,I,w0⟩);rintro n s1 ⟨σ1,H1,I1,w1⟩;refine Pr hp (thn (hc pins s1 σ1 H1 _ I1 (turn n σ1 H1 w1)) λb s2 z9=>?_);obtain⟨H2,I2,q2⟩:=z9;cases b with
 |true=>
  obtain⟨N,hN,q2⟩:=q2;rw[if_pos rfl];refine Pr hp (thn (hb pins s2 σ1 H2 _ I2 q2) λf s3 q3=>?_);cases f with
  |next=>
   obtain⟨σ3,H3,I3,n3⟩:=q3;obtain⟨m',hm,w3⟩:=hN σ3 H3 n3;exact⟨m',hm,σ3,H3,I3,w3⟩
  |cont=>
   obtain⟨σ3,H3,I3,n3⟩:=q3;obtain⟨m',hm,w3⟩:=hN σ3 H3 n3;exact⟨m',hm,σ3,H3,I3,w3⟩
  |brk=>exact q3
  |ret v=>exact q3
 |false=>
  rw[if_neg Lv];exact QM ⟨σ1,H2,I2,q2⟩
end
structure It where
 go:Nat->Hp->Prop
 yld:Nat->Hp->V->Hp->Prop
 stop:Nat->Hp->Prop
def sF(X:Cx)(pins:List (N6×Obj))(H:Hp)(b:N6):Prop:=
 H b=UG/\b≠X.env.locals/\b∉X.fs/\(b∈X.ex\/X.s₀.heap.objs.size<=b)/\(∀x c,X.env.cells.lookup x=UE c->c≠b)/\∀p∈X.pn++pins,p.1≠b
theorem Inv.w6{X:Cx}{pins:List (N6×Obj)}{σ:St}{H H':Hp}{s:N7}{b:N6}(I:Inv X pins σ H s)(hb:s.heap.objs.size<=b)(hn:H' b=UG):sF X pins H' b:=by
 refine{hn,Nk (LZ I.lt hb),I.IJ hb,.inr (LG I.sz hb),λx c e z=>?_,λp hp z=>?_}
 ·obtain⟨v,q⟩:=I.cell x c e;exact absurd (LZ q.lt (by rw[z];exact hb)) (MF _)
 exact absurd (LZ (Om (I.pin p hp).1) (by rw[z];exact hb)) (MF _)
structure UY(P:Program)(w:Of)(K:Oc)(tg:Expr)(J:It)(fp:List N6)(it:N6)(tn:Nat->OC->Prop):Prop where
 mem:it∈fp
 obj:∀i h,tn i h->∀b∈fp,∃o,h.get? b=UE o/\∀v,o.data≠ .cell v
 keep:∀i h h',tn i h->(∀b∈fp,∀o,h.get? b=UE o->h'.get? b=UE o)->tn i h'
 item:∀(X:Cx),X.prog=P->X.w=w->X.K=K->X.calm=true->∀(i:Nat)(pins:List (N6×Obj))(s:N7)(σ:St)(H:Hp)(E:E9->N7->Prop),Inv X pins σ H s->(∀b∈fp,sF X pins H b)->tn i s.heap->J.go i H->
  wpAny (Oh P w) X.A (pyNext (.ref it)) (λr s1=>∃u,r=UE u/\
   wpAny (Oh P w) X.A (QN tg (.ref it) u) (λ_ s2=>∃x H',Inv X pins σ H' s2/\UJ x u/\J.yld i H x H'/\tn (i+1) s2.heap/\∀b∈fp,H' b=UG) E s1) E s
 done:∀(X:Cx),X.prog=P->X.w=w->X.K=K->X.calm=true->∀(i:Nat)(pins:List (N6×Obj))(s:N7)(σ:St)(H:Hp)(E:E9->N7->Prop),Inv X pins σ H s->(∀b∈fp,sF X pins H b)->tn i s.heap->J.stop i H->
  wpAny (Oh P w) X.A (pyNext (.ref it)) (λr s1=>r=UG/\Inv X pins σ H s1) E s
 self:∀(A:Ou)(i:Nat)(s:N7)(Q:E9->N7->Prop)(E:E9->N7->Prop),tn i s.heap->Q (.ref it) s->wpAny (Oh P w) A (pyIter (.ref it)) Q E s
noncomputable abbrev TI:=St->Hp->(It->Hp->Prop)->Prop
def PIE(X:Cx)(pins:List (N6×Obj))(σ:St)(tg:Expr)(R:It->Hp->Prop)(itv:E9)(s2:N7):Prop:=
 ∃(it:N6)(fp:List N6)(tn:Nat->OC->Prop)(J:It)(H':Hp),itv=.ref it/\Inv X pins σ H' s2/\UY X.prog X.w X.K tg J fp it tn/\tn 0 s2.heap/\(∀b∈fp,sF X pins H' b)/\R J H'
def PI(X:Cx)(tg iter:Expr)(wi:TI):Prop:=
 ∀(pins:List (N6×Obj))(s:N7)(σ:St)(H:Hp)(R:It->Hp->Prop),Inv X pins σ H s->wi σ H R->
  wpAny (Oh X.prog X.w) X.A (OT iter X.env) (λv s1=>wpAny (Oh X.prog X.w) X.A (pyIter v) (PIE X pins σ tg R) X.xe s1) X.xe s
theorem xO{M:Model}{A:Ou}{E:E9->N7->Prop}{s:N7}{tg:Expr}{it:N6}{u:E9}{o:Obj}{n:String}{vs:Array E9}{Q:Unit->N7->Prop}(ho:s.heap.get? it=UE o)(hc:o.cls=.type n)(hd:o.data=.fields vs)
    (hn:["enumerate","zip","dict_itemiterator","dict_reverseitemiterator","odict_iterator","itertools.zip_longest","itertools.pairwise"].contains n=false) (hQ:Q () s):wpAny M A (QN tg (.ref it) u) Q E s:=by
  unfold QN
  cases tg<;>first
    |exact N9 hQ
    | (cases u<;>first
        |exact N9 hQ
        | (refine N5 (wpAny_load ho ?_)
           rw[hc,hd]
           show wpAny M A (if(["enumerate","zip","dict_itemiterator","dict_reverseitemiterator","odict_iterator","itertools.zip_longest","itertools.pairwise"].contains n&&vs[0]?==UE (rawInt _))=true then _ else _) Q E s
           rw[if_neg (by intro h;rw[hn,Bool.false_and]at h;cases h)]
           exact N9 hQ))
noncomputable def Itl(K:Oc)(a:N6):It:=
 {λi H=>∃xs x,SqL K H a xs/\xs[i]?=UE x,λi H x H'=>H'=H/\∀xs,SqL K H a xs->xs[i]?=UE x,λi H=>∃xs,SqL K H a xs/\xs.length<=i}
noncomputable def Itt(K:Oc)(a:N6):It:=
 {λi H=>∃xs x,SqT K H a xs/\xs[i]?=UE x,λi H x H'=>H'=H/\∀xs,SqT K H a xs->xs[i]?=UE x,λi H=>∃xs,SqT K H a xs/\xs.length<=i}
noncomputable def Itr(lo:Int)(n:Nat):It:={λi _=>i<n,λi H x H'=>H'=H/\x=.int (lo+i),λi _=>n<=i}
theorem A5{P:Program}{w:Of}{K:Oc}{tg:Expr}(a it:N6):UY P w K tg (Itl K a) [it] it (λi h=>h.IsListIter it a i) where
 mem:=by simp
 obj:=λi h st b hb=>by
  have e:b=it:=by simpa using hb
  subst e;obtain⟨o,e,c,d⟩:=st;exact{o,e,λv z=>by rw[d]at z;cases z}
 keep:=λi h h' st k=>st.at λo e=>k it (by simp) o e
 item:=by
  intro X hP hw hK hc i pins s σ H E I hf st hg;subst hP hw hK;obtain⟨xs,x,hq,hx⟩:=hg;obtain⟨its,rv,p,hz⟩:=I.list hq;obtain⟨u,hu,ru⟩:=rv.get hx;obtain⟨f0,f1,f2,f3,f4,f5⟩:=hf it (by simp);refine Ru st p.isList (x:=u) (by simpa using hu) λh' st' sb=>?_;have I1:Inv X pins σ H { s with heap:=h' }:=I.turned (t':=s.toks) (λb o hb e=>(sb.2 b hb).trans e) f0 f1 f3 f4 f5;obtain⟨o,e,c,d⟩:=id st';exact{u,rfl,xO (s:={ s with heap:=h' }) e c d (by decide) ⟨x,H,I1,ru,⟨rfl,λys hy=>by rw[I.qM hy hq];exact hx⟩,st',λb hb=>(hf b hb).1⟩}
 done:=by
  intro X hP hw hK hc i pins s σ H E I hf st hg;subst hP hw hK;obtain⟨xs,hq,hx⟩:=hg;obtain⟨its,rv,p,hz⟩:=I.list hq;obtain⟨f0,f1,f2,f3,f4,f5⟩:=hf it (by simp);have hl:=rv.length;exact RF (I.ok.hd hc) st p.isList (by simp;lia) λh' eb=>{rfl,I.turned (t':=s.toks) (λb o hb e=>eb b o hb e) f0 f1 f3 f4 f5}
 self:=λ_ _ _ _ _ st h=>wpAny_pyIter_listiter st h
theorem yG{P:Program}{w:Of}{K:Oc}{tg:Expr}(a it:N6):UY P w K tg (Itt K a) [it] it (λi h=>h.IsTupleIter it a i) where
 mem:=by simp
 obj:=λi h st b hb=>by
  have e:b=it:=by simpa using hb
  subst e;obtain⟨o,e,c,d⟩:=st;exact{o,e,λv z=>by rw[d]at z;cases z}
 keep:=λi h h' st k=>st.at λo e=>k it (by simp) o e
 item:=by
  intro X hP hw hK hc i pins s σ H E I hf st hg;subst hP hw hK;obtain⟨xs,x,hq,hx⟩:=hg;obtain⟨its,rv,p,hz⟩:=I.tuple hq;obtain⟨u,hu,ru⟩:=rv.get hx;obtain⟨f0,f1,f2,f3,f4,f5⟩:=hf it (by simp);refine wpAny_pyNext_tuple_item st (show s.heap.IsTuple a its.toArray from p) (x:=u) (by simpa using hu) λh' st' sb=>?_;have I1:Inv X pins σ H { s with heap:=h' }:=I.turned (t':=s.toks) (λb o hb e=>(sb.2 b hb).trans e) f0 f1 f3 f4 f5;obtain⟨o,e,c,d⟩:=id st';exact{u,rfl,xO (s:={ s with heap:=h' }) e c d (by decide) ⟨x,H,I1,ru,⟨rfl,λys hy=>by rw[I.AQ hy hq];exact hx⟩,st',λb hb=>(hf b hb).1⟩}
 done:=by
  intro X hP hw hK hc i pins s σ H E I hf st hg;subst hP hw hK;obtain⟨xs,hq,hx⟩:=hg;obtain⟨its,rv,p,hz⟩:=I.tuple hq;obtain⟨f0,f1,f2,f3,f4,f5⟩:=hf it (by simp);have hl:=rv.length;exact wpAny_pyNext_tuple_end (I.ok.hd hc) st (show s.heap.IsTuple a its.toArray from p) (by simp;lia) λh' eb=>{rfl,I.turned (t':=s.toks) (λb o hb e=>eb b o hb e) f0 f1 f3 f4 f5}
 self:=λ_ _ _ _ _ st h=>wpAny_pyIter_tupleiter st h
theorem yo{P:Program}{w:Of}{K:Qb}{tg:Expr}(it:N6)(lo:Int)(n:Nat):UY P w K tg (Itr lo n) [it] it (λi h=>RL h it (lo+(i:Nat)*1) ((n:Int)-(i:Nat)) 1) where
 mem:=by simp
 obj:=λi h st b hb=>by
  have e:b=it:=by simpa using hb
  subst e;exact{_,st,λv z=>by
   have z':TK _=Sd v:=z;cases z'}
 keep:=λi h h' st k=>k it (by simp) _ st
 item:=by
  intro X hP hw hK hc i pins s σ H E I hf st hg;subst hP hw hK;obtain⟨f0,f1,f2,f3,f4,f5⟩:=hf it (by simp);have W:=Walks.range (prog:=X.prog) (w:=X.w) (I.ok.hd hc) it lo 1 n;refine W.item i s _ _ hg st λv h' tk hv st' kk=>?_;obtain⟨t,rfl⟩:=hv;have I1:Inv X pins σ H { s with heap:=h',toks:=tk }:=I.turned (λb o hb e=>kk b o (by simpa using hb) e) f0 f1 f3 f4 f5;refine⟨_,rfl,xO (s:={ s with heap:=h',toks:=tk }) (n:="range_iterator") st' rfl rfl (by decide) ⟨.int (lo+i),H,I1,⟨t,?_⟩,⟨rfl,rfl⟩,st',λb hb=>(hf b hb).1⟩⟩;rw[Int.mul_one]
 done:=by
  intro X hP hw hK hc i pins s σ H E I hf st hg;subst hP hw hK;obtain⟨f0,f1,f2,f3,f4,f5⟩:=hf it (by simp);exact Rv (I.ok.hd hc) st (by have:n<=i:=hg;lia) λh' eb=>{rfl,I.turned (t':=s.toks) (λb o hb e=>eb b o hb e) f0 f1 f3 f4 f5}
 self:=λ_ _ _ _ _ st h=>Rw st h
section
variable{X:Cx}{tg:Expr}
theorem BV{pins:List (N6×Obj)}{σ:St}{H:Hp}{s:N7}{R:It->Hp->Prop}{E:E9->N7->Prop}{lo hi:Int}{t u v:Tok}{tk:Nat}(I:Inv X pins σ H s)(h1:-(2^62)<=lo)(h2:lo<2^62)(h3:-(2^62)<=hi)(h4:hi<2^62)
  (q:R (Itr lo (hi-lo).toNat) H):wpAny (Oh X.prog X.w) X.A (pyIter (.ref s.heap.objs.size)) (PIE X pins σ tg R) E { s with heap:=s.heap.push { cls:=.type "range",data:=.fields #[.int lo t,.int hi u,.int 1 v] },toks:=tk }:=by
 refine SG (IsRange.new ..) (small_one h1 h2 h3 h4) ?_
 have I1:Inv X pins σ H { s with heap:=s.heap.push { cls:=.type "range",data:=.fields #[.int lo t,.int hi u,.int 1 v] },toks:=tk }:=I.kept λb o e=>Od _ e
 refine{(s.heap.push { cls:=.type "range",data:=.fields #[.int lo t,.int hi u,.int 1 v] }).objs.size,[(s.heap.push { cls:=.type "range",data:=.fields #[.int lo t,.int hi u,.int 1 v] }).objs.size],_,_,H,rfl,
  I1.kept (t':=tk) λb o e=>Od _ e,yo _ lo (hi-lo).toNat,?_,λb hb=>?_,q}
 ·have e1:lo+((0:Nat):Int)*1=lo:=by simp
  have e2:(((hi-lo).toNat:Nat):Int)-((0:Nat):Int)=OS lo hi 1:=by rw[rangeSize_one];split<;>lia
  show RL _ _ (lo+((0:Nat):Int)*1) ((((hi-lo).toNat:Nat):Int)-((0:Nat):Int)) 1;rw[e1,e2];exact Ox _ rfl
 have e:b=(s.heap.push { cls:=.type "range",data:=.fields #[.int lo t,.int hi u,.int 1 v] }).objs.size:=by simpa using hb
 subst e
 exact I1.w6 (Ln _) (I1.hok.fresh (Ln _))
inductive JO(vs:List V)(H:Hp)(R:It->Hp->Prop):Prop
 |mk(j:Int)(h0:vs=[.int j])(h1:-(2^62)<=j)(h2:j<2^62)(q:R (Itr 0 j.toNat) H):JO vs H R
noncomputable def JS(ta:TA):TI:=λσ H R=>ta σ H λvs H1=>JO vs H1 R
theorem cU{a:Expr}{ta:TA}{p pos:Pos}(hg:Gl X "range")(hm:X.mg "range"=UG)(ha:PA X [a] ta)(hs:Oi [a] X.env=[(false,OT a X.env)]:=by rfl):PI X tg (.Call (.Name "range" p) [a] [] pos) (JS ta):=by
 intro pins s σ H R I h;refine Call_ (oy I hg hm boot_range (Pk (thn (ha pos pins s σ H _ I h) λus s1 ⟨vs,H1,I1,r1,q1⟩=>?_) hs rfl));obtain⟨j,e,q1,q2,q⟩:=q1;subst e;cases r1 with
 |cons r rr=>
  cases rr;obtain⟨t,rfl⟩:=r;exact call_range_1 (BV I1 (by lia) (by lia) q1 q2 (by simpa using q))
noncomputable def KU(wi:TI)(g:TG)(tb:TS):TS:=λD σ H=>wi σ H λJ H1=>∃W:Nat->Nat->St->Hp->Prop,(∃m,W 0 m σ H1)/\∀i m σ H,W i m σ H->
 (J.stop i H/\D.nx σ H)\/(J.go i H/\∃N:St->Hp->Prop,(∀σ' H',N σ' H'->∃m',m'<m/\W (i+1) m' σ' H')/\∀x H',J.yld i H x H'->g x σ H' λσ2 H2=>tb { D with nx:=N,ct:=N,bk:=D.nx } σ2 H2)
noncomputable def rf(fp:List N6)(h:OC):List (N6×Obj):=fp.filterMap λb=>(h.get? b).map λo=>(b,o)
theorem jF{fp:List N6}{h:OC}{b:N6}{o:Obj}(hb:b∈fp)(e:h.get? b=UE o):(b,o)∈rf fp h:=NC.mpr {b,hb,by rw[e];rfl}
theorem AL{fp:List N6}{h:OC}{p:N6×Obj}(hp:p∈rf fp h):p.1∈fp/\h.get? p.1=UE p.2:=by
 obtain⟨b,hb,e⟩:=NC.mp hp;cases q:h.get? b with
 |none=>rw[q]at e;cases e
 |some o=>
  rw[q]at e;have e':(b,o)=p:=Oj e;subst e';exact⟨hb,q⟩
theorem Inv.pinned{pins:List (N6×Obj)}{σ:St}{H:Hp}{s:N7}{fp:List N6}(I:Inv X pins σ H s)(hf:∀b∈fp,sF X pins H b)(ho:∀b∈fp,∃o,s.heap.get? b=UE o/\∀v,o.data≠ .cell v):Inv X (pins++rf fp s.heap) σ H s:=
 I.wg λp hp=>(Ls.mp hp).elim (λz=>I.pin p (LD _ z)) λz=>by
  obtain⟨hb,e⟩:=AL z;obtain⟨f0,f1,f2,_⟩:=hf p.1 hb;obtain⟨o,e',d⟩:=ho p.1 hb;rw[e]at e';cases e';exact⟨e,f0,f1,f2,d⟩
theorem Inv.kX{pins pl:List (N6×Obj)}{σ:St}{H:Hp}{s:N7}(I:Inv X (pins++pl) σ H s):Inv X pins σ H s:=I.wg λp hp=>I.pin p (LD _ (LP _ hp))
theorem cZ{iter:Expr}{body:List OH}{wi:TI}{g:TG}{tb:TS}{pos:Pos}(hp:PassesOwn (Oh X.prog X.w) X.A X.env X.xe)(hc:X.calm=true)(hi:PI X tg iter wi)(hg:PG X tg g)(hb:PSs X body tb)
  (hs:∀x,foldedSetIterable iter X.env x=pure x:=by intro _;rfl):PS X (.For tg iter body [] pos) (KU wi g tb):=by
 intro pins s σ H D I h
 refine wpAny_For (thn (hi pins s σ H _ I h) λv s1 h1=>thn h1 λitv s2 h2=>?_) hs
 obtain⟨it,fp,tn,J,H2,e,I2,T,st2,f2,W,⟨m0,w0⟩,turn⟩:=h2
 subst e
 have stat:∀{H':Hp},(∀b∈fp,H' b=UG)->∀b∈fp,sF X pins H' b:=λhn b hb=>{hn b hb,(f2 b hb).2}
 refine codeAny_forLoop_any (λn s'=>∃i σ' H',Inv X pins σ' H' s'/\tn i s'.heap/\(∀b∈fp,H' b=UG)/\W i n σ' H') ?_ m0 {0,σ,H2,I2,st2,λb hb=>(f2 b hb).1,w0}
 rintro n s3 ⟨i,σ3,H3,I3,st3,fr3,w3⟩
 rcases turn i n σ3 H3 w3 with⟨stop,qn⟩|⟨go,N,hN,step⟩
 ·refine Pr hp (thn (T.done X rfl rfl rfl hc i pins s3 σ3 H3 X.xe I3 (stat fr3) st3 stop) λr s4 z9=>?_);obtain⟨hr,I4⟩:=z9;subst hr;exact QM ⟨σ3,H3,I4,qn⟩
 refine Pr hp (thn (T.item X rfl rfl rfl hc i pins s3 σ3 H3 X.xe I3 (stat fr3) st3 go) λr s4 z9=>?_);obtain⟨u,hr,h4⟩:=z9
 subst hr
 refine Pr hp (thn h4 λ_ s5 z9=>?_);obtain⟨x,H5,I5,r5,y5,st5,fr5⟩:=z9
 have I5':=I5.pinned (stat fr5) (T.obj _ _ st5)
 refine Pr hp (thn (hg _ s5 σ3 H5 x u _ I5' r5 (step x H5 y5)) λ_ s6 z9=>?_);obtain⟨σ6,H6,I6,q6⟩:=z9
 refine Pr hp (thn (hb _ s6 σ6 H6 _ I6 q6) λf s7 q7=>?_)
 have again:∀{σ7:St}{H7:Hp},Inv X (pins++rf fp s5.heap) σ7 H7 s7->N σ7 H7->∃m,m<n/\∃i σ' H',Inv X pins σ' H' s7/\tn i s7.heap/\(∀b∈fp,H' b=UG)/\W i m σ' H':=λ{σ7 H7} I7 n7=>by
  obtain⟨m',hm,w7⟩:=hN σ7 H7 n7;refine{m',hm,i+1,σ7,H7,I7.kX,T.keep _ _ _ st5 λb hb o e=>(I7.pin (b,o) (LD _ (LD _ (jF hb e)))).1,λb hb=>?_,w7};obtain⟨o,e,d⟩:=T.obj _ _ st5 b hb;exact(I7.pin (b,o) (LD _ (LD _ (jF hb e)))).2.1
 cases f with
 |next=>obtain⟨σ7,H7,I7,n7⟩:=q7;exact again I7 n7
 |cont=>obtain⟨σ7,H7,I7,n7⟩:=q7;exact again I7 n7
 |brk=>obtain⟨σ7,H7,I7,q7⟩:=q7;exact⟨σ7,H7,I7.kX,q7⟩
 |ret v=>obtain⟨x7,σ7,H7,I7,r7,q7⟩:=q7;exact⟨x7,σ7,H7,I7.kX,r7,q7⟩
end
theorem dH{K:Qb}{a:N6}{xs:List V}{g:TG}{tb:TS}{D:UW}{σ:St}{H:Hp}(Pv:Nat->St->Hp->Prop)(h0:Pv 0 σ H)(hl:∀i σ H,i<=xs.length->Pv i σ H->SqL K H a xs)
  (hs:∀i x σ H,xs[i]?=UE x->Pv i σ H->g x σ H λσ2 H2=>tb { D with nx:=Pv (i+1),ct:=Pv (i+1),bk:=D.nx } σ2 H2) (hd:∀σ H,Pv xs.length σ H->D.nx σ H) :
  ∃W:Nat->Nat->St->Hp->Prop,(∃m,W 0 m σ H)/\∀i m σ H,W i m σ H->
   ((Itl K a).stop i H/\D.nx σ H)\/((Itl K a).go i H/\∃N:St->Hp->Prop,(∀σ' H',N σ' H'->∃m',m'<m/\W (i+1) m' σ' H')/\∀x H',(Itl K a).yld i H x H'->g x σ H' λσ2 H2=>tb { D with nx:=N,ct:=N,bk:=D.nx } σ2 H2):=by
 refine{λi m σ H=>m=xs.length-i/\i<=xs.length/\Pv i σ H,{xs.length,by simp,LH _,h0},?_}
 rintro i m σ H ⟨rfl,hi,p⟩
 have q:=hl i σ H hi p
 by_cases hlt:i<xs.length
 ·refine .inr {{xs,xs[i],q,by simp[hlt]},Pv (i+1),λσ' H' p'=>{xs.length-(i+1),by lia,rfl,hlt,p'},λx H' y=>?_};obtain⟨e,y⟩:=y;subst e;exact hs i x σ _ (y xs q) p
 have e:i=xs.length:=by lia
 subst e
 exact .inl {{xs,q,Ln _},hd σ H p}
theorem EU{K:Qb}{a:N6}{xs:List V}{g:TG}{tb:TS}{D:UW}{σ:St}{H:Hp}(Pv:Nat->St->Hp->Prop)(h0:Pv 0 σ H)(hl:∀i σ H,i<=xs.length->Pv i σ H->SqT K H a xs)
  (hs:∀i x σ H,xs[i]?=UE x->Pv i σ H->g x σ H λσ2 H2=>tb { D with nx:=Pv (i+1),ct:=Pv (i+1),bk:=D.nx } σ2 H2) (hd:∀σ H,Pv xs.length σ H->D.nx σ H) :
  ∃W:Nat->Nat->St->Hp->Prop,(∃m,W 0 m σ H)/\∀i m σ H,W i m σ H->
   ((Itt K a).stop i H/\D.nx σ H)\/((Itt K a).go i H/\∃N:St->Hp->Prop,(∀σ' H',N σ' H'->∃m',m'<m/\W (i+1) m' σ' H')/\∀x H',(Itt K a).yld i H x H'->g x σ H' λσ2 H2=>tb { D with nx:=N,ct:=N,bk:=D.nx } σ2 H2):=by
 refine{λi m σ H=>m=xs.length-i/\i<=xs.length/\Pv i σ H,{xs.length,by simp,LH _,h0},?_}
 rintro i m σ H ⟨rfl,hi,p⟩
 have q:=hl i σ H hi p
 by_cases hlt:i<xs.length
 ·refine .inr {{xs,xs[i],q,by simp[hlt]},Pv (i+1),λσ' H' p'=>{xs.length-(i+1),by lia,rfl,hlt,p'},λx H' y=>?_};obtain⟨e,y⟩:=y;subst e;exact hs i x σ _ (y xs q) p
 have e:i=xs.length:=by lia
 subst e
 exact .inl {{xs,q,Ln _},hd σ H p}
theorem jr{lo:Int}{n:Nat}{g:TG}{tb:TS}{D:UW}{σ:St}{H:Hp}(Pv:Nat->St->Hp->Prop)(h0:Pv 0 σ H)
  (hs:∀i σ H,i<n->Pv i σ H->g (.int (lo+i)) σ H λσ2 H2=>tb { D with nx:=Pv (i+1),ct:=Pv (i+1),bk:=D.nx } σ2 H2) (hd:∀σ H,Pv n σ H->D.nx σ H) :
  ∃W:Nat->Nat->St->Hp->Prop,(∃m,W 0 m σ H)/\∀i m σ H,W i m σ H->
   ((Itr lo n).stop i H/\D.nx σ H)\/((Itr lo n).go i H/\∃N:St->Hp->Prop,(∀σ' H',N σ' H'->∃m',m'<m/\W (i+1) m' σ' H')/\∀x H',(Itr lo n).yld i H x H'->g x σ H' λσ2 H2=>tb { D with nx:=N,ct:=N,bk:=D.nx } σ2 H2):=by
 refine{λi m σ H=>m=n-i/\i<=n/\Pv i σ H,{n,by simp,LH _,h0},?_}
 rintro i m σ H ⟨rfl,hi,p⟩
 by_cases hlt:i<n
 ·refine .inr {hlt,Pv (i+1),λσ' H' p'=>{n-(i+1),by lia,rfl,hlt,p'},λx H' y=>?_};obtain⟨e,y⟩:=y;subst e y;exact hs i σ _ hlt p
 have e:i=n:=by lia
 subst e
 exact .inl {Ln _,hd σ H p}
noncomputable abbrev R2:=V->V->Hp->VK->Prop
def OpR(X:Cx)(f:E9->E9->Sem E9)(r:R2):Prop:=
 ∀(pins:List (N6×Obj))(s:N7)(σ:St)(H:Hp)(x y:V)(v u:E9)(Q:VK),Inv X pins σ H s->UJ x v->UJ y u->r x y H Q->
  wpAny (Oh X.prog X.w) X.A (f v u) (EP X pins σ Q) X.xe s
def UnR(X:Cx)(f:E9->Sem E9)(r:V->Hp->VK->Prop):Prop:=
 ∀(pins:List (N6×Obj))(s:N7)(σ:St)(H:Hp)(x:V)(v:E9)(Q:VK),Inv X pins σ H s->UJ x v->r x H Q->
  wpAny (Oh X.prog X.w) X.A (f v) (EP X pins σ Q) X.xe s
def dh(X:Cx)(f:E9)(r:List V->Hp->VK->Prop):Prop:=
 ∀(pins:List (N6×Obj))(s:N7)(σ:St)(H:Hp)(xs:List V)(us:List E9)(Q:VK),Inv X pins σ H s->UH xs us->r xs H Q->
  wpAny (Oh X.prog X.w) X.A (call f us) (EP X pins σ Q) X.xe s
def Kq(X:Cx)(r:V->Hp->(Bool->Hp->Prop)->Prop):Prop:=
 ∀(pins:List (N6×Obj))(s:N7)(σ:St)(H:Hp)(x:V)(v:E9)(Q:Bool->Hp->Prop),Inv X pins σ H s->UJ x v->r x H Q->
  wpAny (Oh X.prog X.w) X.A (truthy v) (TP X pins σ Q) X.xe s
noncomputable def tOp(r:R2)(ta tb:TE):TE:=λσ H Q=>ta σ H λx H1=>tb σ H1 λy H2=>r x y H2 Q
noncomputable def tUn(r:V->Hp->VK->Prop)(ta:TE):TE:=λσ H Q=>ta σ H λx H1=>r x H1 Q
noncomputable def rI(C:Int->Int->Prop)(g:Int->Int->V):R2:=λx y H Q=>∃i j,x=.int i/\y=.int j/\C i j/\Q (g i j) H
noncomputable def rI0(g:Int->Int->V):R2:=λx y H Q=>∃i j,x=.int i/\y=.int j/\Q (g i j) H
def rU(g:Int->V):V->Hp->VK->Prop:=λx H Q=>∃i,x=.int i/\Q (g i) H
section
variable{X:Cx}{a b c:Expr}{ta tb tc:TE}{pos:Pos}
theorem GV(ha:PE X a ta)(hb:PE X b tb){pins:List (N6×Obj)}{s:N7}{σ:St}{H:Hp}{R:V->V->Hp->Prop}(I:Inv X pins σ H s)
  (h:ta σ H λx H1=>tb σ H1 λy H2=>R x y H2) {Q:E9->N7->Prop}{f:E9->E9->Sem E9}
  (hf:∀v u s2 x y H2,Inv X pins σ H2 s2->UJ x v->UJ y u->R x y H2->wpAny (Oh X.prog X.w) X.A (f v u) Q X.xe s2) :
  wpAny (Oh X.prog X.w) X.A (OT a X.env) (λv s₁=>wpAny (Oh X.prog X.w) X.A (OT b X.env) (λu s₂=>wpAny (Oh X.prog X.w) X.A (f v u) Q X.xe s₂) X.xe s₁) X.xe s:=by
 refine thn (ha pins s σ H _ I h) λv s1 z9=>?_;obtain⟨x,H1,I1,r1,q1⟩:=z9
 refine thn (hb pins s1 σ H1 _ I1 q1) λu s2 z9=>?_;obtain⟨y,H2,I2,r2,q2⟩:=z9
 exact hf v u s2 x y H2 I2 r1 r2 q2
theorem aw{op:Operator}{r:R2}(ho:OpR X (Po op) r)(ha:PE X a ta)(hb:PE X b tb):PE X (.BinOp a op b pos) (tOp r ta tb):=by
 intro pins s σ H Q I h;exact wpAny_BinOp (GV ha hb I h λv u s2 x y H2 I2 rx ry q=>ho pins s2 σ H2 x y v u Q I2 rx ry q)
theorem mw{op:UnaryOp}{r:V->Hp->VK->Prop}(ho:UnR X (unaryOp op) r)(ha:PE X a ta):PE X (.UnaryOp op a pos) (tUn r ta):=by
 intro pins s σ H Q I h;exact UnaryOp_ (thn (ha pins s σ H _ I h) λv s1 ⟨x,H1,I1,r1,q1⟩=>ho pins s1 σ H1 x v Q I1 r1 q1)
theorem opI{f:E9->E9->Sem E9}{C:Int->Int->Prop}{g:Int->Int->Int}
  (rule:∀(i j:Int)(t u:Tok)(s:N7)(Q:E9->N7->Prop)(E:E9->N7->Prop),C i j->Q (.int (g i j) s.toks) { s with toks:=s.toks+1 }->wpAny (Oh X.prog X.w) X.A (f (.int i t) (.int j u)) Q E s) :
  OpR X f (rI C λi j=>.int (g i j)):=by
 intro pins s σ H x y v u Q I rx ry h
 obtain⟨i,j,rfl,rfl,hc,q⟩:=h
 obtain⟨t,rfl⟩:=rx
 obtain⟨t',rfl⟩:=ry
 exact rule i j t t' s _ _ hc {.int (g i j),H,I.tok _,{_,rfl},q}
theorem JF{f:E9->E9->Sem E9}{g:Int->Int->Int}
  (rule:∀(i j:Int)(t u:Tok)(s:N7)(Q:E9->N7->Prop)(E:E9->N7->Prop),Q (.int (g i j) s.toks) { s with toks:=s.toks+1 }->wpAny (Oh X.prog X.w) X.A (f (.int i t) (.int j u)) Q E s) :
  OpR X f (rI0 λi j=>.int (g i j)):=by
 intro pins s σ H x y v u Q I rx ry h
 obtain⟨i,j,rfl,rfl,q⟩:=h
 obtain⟨t,rfl⟩:=rx
 obtain⟨t',rfl⟩:=ry
 exact rule i j t t' s _ _ {.int (g i j),H,I.tok _,{_,rfl},q}
theorem Hm{f:E9->E9->Sem E9}{g:Int->Int->Bool}
  (rule:∀(i j:Int)(t u:Tok)(s:N7)(Q:E9->N7->Prop)(E:E9->N7->Prop),Q (.bool (g i j)) s->wpAny (Oh X.prog X.w) X.A (f (.int i t) (.int j u)) Q E s) :
  OpR X f (rI0 λi j=>.bl (g i j)):=by
 intro pins s σ H x y v u Q I rx ry h
 obtain⟨i,j,rfl,rfl,q⟩:=h
 obtain⟨t,rfl⟩:=rx
 obtain⟨t',rfl⟩:=ry
 exact rule i j t t' s _ _ {.bl (g i j),H,I,rfl,q}
def Kc(i j:Int):Prop:=0<=j/\j<=1000000/\i.natAbs<2^64
def AV(i j:Int):Prop:=(-(2^64)<i/\i<2^64)\/(-(2^64)<j/\j<2^64)
theorem AV.ok{i j:Int}(h:AV i j):IntMulOk i j:=by
 rcases h with⟨h1,h2⟩|⟨h1,h2⟩
 ·exact .of_left (intBits_le_64 h1 h2)
 exact .of_right (intBits_le_64 h1 h2)
theorem HK:OpR X (Po .Add) (rI0 λi j=>.int (i+j)):=JF λ_ _ _ _ _ _ _ q=>add_int q
theorem Hy:OpR X (Po .Sub) (rI0 λi j=>.int (i-j)):=JF λ_ _ _ _ _ _ _ q=>sub_int q
theorem G5:OpR X (Po .Mult) (rI AV λi j=>.int (i*j)):=opI λ_ _ _ _ _ _ _ hc q=>mul_int q hc.ok
theorem GW:OpR X (Po .Mod) (rI (λ_ j=>0<j) λi j=>.int (i%j)):=opI λi j _ _ _ _ _ hc q=>by
 have h1:(0:Int)<j:=hc;exact mod_int' (by lia) (by rw[Int.fmod_eq_emod_of_nonneg i (by lia)];exact q)
theorem HL:OpR X (Po .Pow) (rI Kc λi j=>.int (i^j.toNat)):=opI λ_ _ _ _ _ _ _ hc q=>pow_int_small hc.1 hc.2.1 hc.2.2 q
theorem unI{f:E9->Sem E9}{g:Int->Int}
  (rule:∀(i:Int)(t:Tok)(s:N7)(Q:E9->N7->Prop)(E:E9->N7->Prop),Q (.int (g i) s.toks) { s with toks:=s.toks+1 }->wpAny (Oh X.prog X.w) X.A (f (.int i t)) Q E s) :
  UnR X f (rU λi=>.int (g i)):=by
 intro pins s σ H x v Q I rx h
 obtain⟨i,rfl,q⟩:=h
 obtain⟨t,rfl⟩:=rx
 exact rule i t s _ _ {.int (g i),H,I.tok _,{_,rfl},q}
theorem iX:UnR X (unaryOp .USub) (rU λi=>.int (-i)):=unI λ_ _ _ _ _ q=>neg_int q
end
noncomputable def A7:V->V->Bool
 | .non,.non=>true| .non,.int _=>true| .int _,.non=>true| .non,.bl _=>true| .bl _,.non=>true| .non,.str _=>true| .str _,.non=>true
 | .int _,.int _=>true| .bl _,.bl _=>true| .str _,.str _=>true| .byt _,.byt _=>true
 | .int _,.str _=>true| .str _,.int _=>true| .bl _,.str _=>true| .str _,.bl _=>true
 |_,_=>false
noncomputable def rEq:R2:=λx y H Q=>A7 x y=true/\Q (.bl (decide (x=y))) H
noncomputable def rNe:R2:=λx y H Q=>A7 x y=true/\Q (.bl (!decide (x=y))) H
theorem As{i j:Int}:decide (V.int i=V.int j)=(i==j):=by
 rw[Nh];simp
theorem CS{i j:Bool}:decide (V.bl i=V.bl j)=(i==j):=by
 rw[Nh];simp
theorem Ax{i j:Str}:decide (V.str i=V.str j)=(i==j):=by
 rw[Nh];simp
theorem zy{i j:Array UInt8}:decide (V.byt i=V.byt j)=(i.toList==j.toList):=by
 rw[Nh];cases i;cases j;simp
section
variable{X:Cx}{a b c:Expr}{ta tb tc:TE}{pos:Pos}
theorem bt{pins:List (N6×Obj)}{σ:St}{H:Hp}{s:N7}{Q:VK}{k k':Bool}(I:Inv X pins σ H s)(q:Q (.bl k) H)(e:k=k'):EP X pins σ Q (.bool k') s:=by
 subst e;exact⟨.bl k,H,I,rfl,q⟩
theorem IM:OpR X (Oy .Eq) rEq:=by
 intro pins s σ H x y v u Q I rx ry h;obtain⟨hs,q⟩:=h;cases x with
 |non=>
  cases rx;cases y with
  |non=>cases ry;exact PySem.EqNone.eq_none_none (bt I q (by simp))
  |bl j=>cases ry;exact PySem.EqNone.eq_none_bool (bt I q (by simp))
  |int j=>obtain⟨t',rfl⟩:=ry;exact PySem.EqNone.eq_none_int (bt I q (by simp))
  |str j=>obtain⟨t',rfl⟩:=ry;exact PySem.EqNone.eq_none_str (bt I q (by simp))
  |_=>exact absurd (show false=true from hs) Lv
 |bl i=>
  cases rx;cases y with
  |non=>cases ry;exact PySem.EqNone.eq_bool_none (bt I q (by simp))
  |bl j=>cases ry;exact eq_bool (bt I q CS)
  |str j=>obtain⟨t',rfl⟩:=ry;exact PySem.EqMixed.eq_bool_str (bt I q (by simp))
  |_=>exact absurd (show false=true from hs) Lv
 |int i=>
  obtain⟨t,rfl⟩:=rx;cases y with
  |non=>cases ry;exact PySem.EqNone.eq_int_none (bt I q (by simp))
  |int j=>obtain⟨t',rfl⟩:=ry;exact eq_int (bt I q As)
  |str j=>obtain⟨t',rfl⟩:=ry;exact PySem.EqMixed.eq_int_str (bt I q (by simp))
  |_=>exact absurd (show false=true from hs) Lv
 |str i=>
  obtain⟨t,rfl⟩:=rx;cases y with
  |non=>cases ry;exact PySem.EqNone.eq_str_none (bt I q (by simp))
  |bl j=>cases ry;exact PySem.EqMixed.eq_str_bool (bt I q (by simp))
  |int j=>obtain⟨t',rfl⟩:=ry;exact PySem.EqMixed.eq_str_int (bt I q (by simp))
  |str j=>obtain⟨t',rfl⟩:=ry;exact eq_str (bt I q Ax)
  |_=>exact absurd (show false=true from hs) Lv
 |byt i=>
  obtain⟨t,rfl⟩:=rx;cases y with
  |byt j=>obtain⟨t',rfl⟩:=ry;exact W.eq_bytes (bt I q zy)
  |_=>exact absurd (show false=true from hs) Lv
 |_=>cases y<;>exact absurd (show false=true from hs) Lv
theorem IP:OpR X (Oy .NotEq) rNe:=by
 intro pins s σ H x y v u Q I rx ry h;obtain⟨hs,q⟩:=h;cases x with
 |non=>
  cases rx;cases y with
  |non=>cases ry;exact PySem.EqNone.ne_none_none (bt I q (by simp))
  |bl j=>cases ry;exact PySem.EqNone.ne_none_bool (bt I q (by simp))
  |int j=>obtain⟨t',rfl⟩:=ry;exact PySem.EqNone.ne_none_int (bt I q (by simp))
  |str j=>obtain⟨t',rfl⟩:=ry;exact PySem.EqNone.ne_none_str (bt I q (by simp))
  |_=>exact absurd (show false=true from hs) Lv
 |bl i=>
  cases rx;cases y with
  |non=>cases ry;exact PySem.EqNone.ne_bool_none (bt I q (by simp))
  |bl j=>cases ry;exact ne_bool (bt I q (congrArg not CS))
  |str j=>obtain⟨t',rfl⟩:=ry;exact PySem.EqMixed.ne_bool_str (bt I q (by simp))
  |_=>exact absurd (show false=true from hs) Lv
 |int i=>
  obtain⟨t,rfl⟩:=rx;cases y with
  |non=>cases ry;exact PySem.EqNone.ne_int_none (bt I q (by simp))
  |int j=>obtain⟨t',rfl⟩:=ry;exact ne_int (bt I q (congrArg not As))
  |str j=>obtain⟨t',rfl⟩:=ry;exact PySem.EqMixed.ne_int_str (bt I q (by simp))
  |_=>exact absurd (show false=true from hs) Lv
 |str i=>
  obtain⟨t,rfl⟩:=rx;cases y with
  |non=>cases ry;exact PySem.EqNone.ne_str_none (bt I q (by simp))
  |bl j=>cases ry;exact PySem.EqMixed.ne_str_bool (bt I q (by simp))
  |int j=>obtain⟨t',rfl⟩:=ry;exact PySem.EqMixed.ne_str_int (bt I q (by simp))
  |str j=>obtain⟨t',rfl⟩:=ry;exact ne_str (bt I q (congrArg not Ax))
  |_=>exact absurd (show false=true from hs) Lv
 |byt i=>
  obtain⟨t,rfl⟩:=rx;cases y with
  |byt j=>obtain⟨t',rfl⟩:=ry;exact W.ne_bytes (bt I q (congrArg not zy))
  |_=>exact absurd (show false=true from hs) Lv
 |_=>cases y<;>exact absurd (show false=true from hs) Lv
theorem J3:OpR X (Oy .Lt) (rI0 λi j=>.bl (decide (i<j))):=Hm λ_ _ _ _ _ _ _ q=>lt_int q
theorem J8:OpR X (Oy .Gt) (rI0 λi j=>.bl (decide (j<i))):=Hm λ_ _ _ _ _ _ _ q=>gt_int q
theorem IU:OpR X (Oy .GtE) (rI0 λi j=>.bl (decide (j<=i))):=Hm λ_ _ _ _ _ _ _ q=>ge_int q
theorem Be:OpR X (Oy .In) (λx y H Q=>∃i j,x=.str i/\y=.str j/\Q (.bl (!(O3 j i 0 j.length 1).isEmpty)) H):=by
 intro pins s σ H x y v u Q I rx ry h;obtain⟨i,j,rfl,rfl,q⟩:=h;obtain⟨t,rfl⟩:=rx;obtain⟨t',rfl⟩:=ry;exact in_str (bt I q rfl)
theorem GY:OpR X (Oy .Is) (λx y H Q=>y=.non/\Q (.bl (decide (x=.non))) H):=by
 intro pins s σ H x y v u Q I rx ry h;obtain⟨rfl,q⟩:=h;cases ry;refine is_none_gen (bt I q ?_);cases x<;>first
  | (cases rx;rfl)
  | (obtain⟨t,rfl⟩:=rx;rfl)
theorem Ew:OpR X (Oy .IsNot) (λx y H Q=>y=.non/\Q (.bl (!decide (x=.non))) H):=by
 intro pins s σ H x y v u Q I rx ry h;obtain⟨rfl,q⟩:=h;cases ry;refine isnot_none_gen (bt I q ?_);cases x<;>first
  | (cases rx;rfl)
  | (obtain⟨t,rfl⟩:=rx;rfl)
theorem OpR.or{f:E9->E9->Sem E9}{r r':R2}(h:OpR X f r)(h':OpR X f r'):OpR X f (λx y H Q=>r x y H Q\/r' x y H Q):=by
 intro pins s σ H x y v u Q I rx ry q;rcases q with q|q
 ·exact h pins s σ H x y v u Q I rx ry q
 exact h' pins s σ H x y v u Q I rx ry q
theorem Cf(b:Expr){op:CmpOp}(h:op≠ .In:=by decide)(h2:op≠ .NotIn:=by decide):Qi op b=false:=by
 have e1:(op==CmpOp.In)=false:=by cases op<;>first|rfl|exact absurd rfl h
 have e2:(op==CmpOp.NotIn)=false:=by cases op<;>first|rfl|exact absurd rfl h2
 cases b<;>simp[Qi,e1,e2]
theorem Ej{op:CmpOp}{r:R2}(ho:OpR X (Oy op) r)(ha:PE X a ta)(hb:PE X b tb)(hm:Qi op b=false):PE X (.Compare a [op] [b] pos) (tOp r ta tb):=by
 intro pins s σ H Q I h;exact wpAny_Compare1 (GV ha hb I h λv u s2 x y H2 I2 rx ry q=>ho pins s2 σ H2 x y v u Q I2 rx ry q) hm
inductive blI(x:V)(H:Hp)(Q:Bool->Hp->Prop):Prop
 |mk(k:Bool)(h:x=.bl k)(q:Q k H):blI x H Q
noncomputable def Ga(t:TE):TT:=λσ H Q=>t σ H λx H'=>blI x H' Q
theorem ES{op:CmpOp}{r:R2}(ho:OpR X (Oy op) r)(ha:PE X a ta)(hb:PE X b tb)(hm:Qi op b=false):PT X (.Compare a [op] [b] pos) (Ga (tOp r ta tb)):=by
 intro pins s σ H Q I h;refine wpAny_isTrue_Compare1 (thn (ha pins s σ H _ I h) λv s1 ⟨x,H1,I1,r1,q1⟩=>thn (hb pins s1 σ H1 _ I1 q1) λu s2 ⟨y,H2,I2,r2,q2⟩=>
  thn (ho pins s2 σ H2 x y v u _ I2 r1 r2 q2) λc s3 ⟨z,H3,I3,r3,k,e,q3⟩=>?_) hm
 subst e;cases r3;exact Qt ⟨H3,I3,q3⟩
def KA(K:Oc)(x:V)(H:Hp)(k:Bool):Prop:=
 match x with
 | .non=>k=false
 | .bl b=>k=b
 | .int i=>k=(i !=0)
 | .str y=>y.length<=sizeLine/\k=((y.length:Int)!=0)
 | .byt y=>y.size<=sizeLine/\k=((y.size:Int)!=0)
 | .ref p=>(∃xs,SqL K H p xs/\k=!xs.isEmpty)\/(∃xs,SqT K H p xs/\k=!xs.isEmpty)\/∃kvs,H p=UE (.dK kvs)/\k=!kvs.isEmpty
 |_=>False
theorem yA{κ:Type}{kvs:List (κ×V)}{vs:List (κ×E9)}(r:KV kvs vs):(!vs.isEmpty)=!kvs.isEmpty:=by
 cases r<;>rfl
theorem qO{xs:List V}{its:List E9}(r:UH xs its):(!its.toArray.isEmpty)=!xs.isEmpty:=by
 cases r<;>simp
theorem oa:(sizeLine:Nat)<2^63:=by rw[P5];decide
inductive x6(K:Oc)(x:V)(H:Hp)(Q:Bool->Hp->Prop):Prop
 |mk(k:Bool)(h:KA K x H k)(q:Q k H):x6 K x H Q
theorem GU:Kq X (x6 X.K):=by
 intro pins s σ H x v Q I rx h;obtain⟨k,e,q⟩:=h;have hl:=oa;have hs:sizeLine=16777216:=P5;cases x with
 |non=>
  cases rx;have e':k=false:=e;subst e';exact truthy_none ⟨H,I,q⟩
 |bl b=>
  cases rx;have e':k=b:=e;subst e';exact Qt ⟨H,I,q⟩
 |int i=>
  obtain⟨t,rfl⟩:=rx;have e':k=(i !=0):=e;subst e';exact PySem.P.truthy_int ⟨H,I,q⟩
 |str y=>
  obtain⟨t,rfl⟩:=rx;obtain⟨hy,e'⟩:y.length<=sizeLine/\k=((y.length:Int)!=0):=e;subst e';exact PySem.P.truthy_str (by lia) {H,I.tok _,q}
 |byt y=>
  obtain⟨t,rfl⟩:=rx;obtain⟨hy,e'⟩:y.size<=sizeLine/\k=((y.size:Int)!=0):=e;subst e';exact W.truthy_bytes (by lia) {H,I.tok _,q}
 |ref p=>
  cases rx;have e':(∃xs,SqL X.K H p xs/\k=!xs.isEmpty)\/(∃xs,SqT X.K H p xs/\k=!xs.isEmpty)\/∃kvs,H p=UE (.dK kvs)/\k=!kvs.isEmpty:=e;rcases e' with⟨xs,hx,e'⟩|⟨xs,hx,e'⟩|⟨kvs,hx,e'⟩
  ·subst e';obtain⟨its,r,pl,hz⟩:=I.list hx;have hlen:=r.length;exact wpAny_truthy_list pl.isList (by simp only[LM];lia) {H,I.tok _,by rw[qO r];exact q}
  ·subst e';obtain⟨its,r,pl,hz⟩:=I.tuple hx;have hlen:=r.length;exact truthy_tuple pl (by simp only[LM];lia) {H,I.tok _,by rw[qO r];exact q}
  subst e';obtain⟨hz,hS,vs,r,m⟩:kvs.length<=sizeLine/\(p==Pd)=false/\∃vs,KV kvs vs/\s.heap.DictOf (bT X.prog X.w) p vs:=I.hok p _ hx;have hlen:kvs.length=vs.length:=Oe r;exact wpAny_truthy_dict hS m (by lia) {H,I.tok _,by rw[yA r];exact q}
 |_=>exact(show False from e).elim
theorem BH(ha:PE X a ta)(he:∀whole,isTrue a X.env whole=(do let v<-whole;SX a.pos;QU [v] (truthy v))) :
  PT X a (λσ H Q=>ta σ H λx H'=>x6 X.K x H' Q):=by
 intro pins s σ H Q I h
 exact isTrue_plain (thn (ha pins s σ H _ I h) λv s1 ⟨x,H1,I1,r1,q1⟩=>GU pins s1 σ H1 x v Q I1 r1 q1) (he _)
theorem yn:OpR X (Po .Add) (λx y H Q=>∃i j,x=.str i/\y=.str j/\i.length+j.length<=sizeLine/\Q (.str (i++j)) H):=by
 intro pins s σ H x y v u Q I rx ry h;obtain⟨i,j,rfl,rfl,hz,q⟩:=h;obtain⟨t,rfl⟩:=rx;obtain⟨t',rfl⟩:=ry;exact add_str (λt' tk=>{.str (i++j),H,I.tok _,{_,rfl},q}) hz
theorem UR{x:V}{us:List E9}(r:UH [x] us):∃u,us=[u]/\UJ x u:=by
 cases r with
 |cons r1 r2=>cases r2;exact{_,rfl,r1}
theorem UZ{x y:V}{us:List E9}(r:UH [x,y] us):∃u w',us=[u,w']/\UJ x u/\UJ y w':=by
 cases r with
 |cons r1 r2=>
  cases r2 with
  |cons r3 r4=>cases r4;exact{_,_,rfl,r1,r3}
theorem A0(hc:X.calm=true):dh X (.builtin "max") (λxs H Q=>∃i j,xs=[.int i,.int j]/\Q (.int (if j>i then j else i)) H):=by
 intro pins s σ H xs us Q I r h;obtain⟨i,j,rfl,q⟩:=h;obtain⟨u,w',rfl,⟨t,rfl⟩,⟨t',rfl⟩⟩:=UZ r;refine max_two_ints (I.ok.hd hc) λh' tk k=>{_,H,I.kept k,?_,q};by_cases hj:j>i
 ·rw[if_pos hj,if_pos hj];exact{_,rfl}
 rw[if_neg hj,if_neg hj];exact{_,rfl}
theorem vF:dh X (.type "str") (λxs H Q=>∃i,xs=[.int i]/\i.natAbs.log2<1920/\Q (.str (toString i)) H):=by
 intro pins s σ H xs us Q I r h;obtain⟨i,rfl,hz,q⟩:=h;obtain⟨u,rfl,t,rfl⟩:=UR r;exact PySem.P.str_of_int hz {.str _,H,I.tok _,{_,rfl},q}
def JV(K:Oc)(x:V)(H:Hp)(n:Nat):Prop:=
 match x with
 | .str y=>y.length<=sizeLine/\n=y.length
 | .byt y=>y.size<=sizeLine/\n=y.size
 | .ref p=>(∃xs,SqL K H p xs/\n=xs.length)\/∃xs,SqT K H p xs/\n=xs.length
 |_=>False
theorem Ds:dh X (.builtin "len") (λxs H Q=>∃x n,xs=[x]/\JV X.K x H n/\Q (.int n) H):=by
 intro pins s σ H xs us Q I r h;obtain⟨x,n,rfl,e,q⟩:=h;obtain⟨u,rfl,rx⟩:=UR r;have hl:=oa;have hs:sizeLine=16777216:=P5;cases x with
 |str y=>
  obtain⟨t,rfl⟩:=rx;obtain⟨hy,e'⟩:y.length<=sizeLine/\n=y.length:=e;subst e';exact len_str (by lia) {.int _,H,I.tok _,{_,rfl},q}
 |byt y=>
  obtain⟨t,rfl⟩:=rx;obtain⟨hy,e'⟩:y.size<=sizeLine/\n=y.size:=e;subst e';exact W.len_bytes (by lia) {.int _,H,I.tok _,{_,rfl},q}
 |ref p=>
  cases rx;have e':(∃xs,SqL X.K H p xs/\n=xs.length)\/∃xs,SqT X.K H p xs/\n=xs.length:=e;rcases e' with⟨xs,hx,e'⟩|⟨xs,hx,e'⟩
  ·subst e';obtain⟨its,r',pl,hz⟩:=I.list hx;have hlen:=r'.length;exact Calls.call_len_list pl.isList (by simp only[LM];lia) {.int xs.length,H,I.tok _,{_,by simp only[LM];rw[hlen]},q}
  subst e';obtain⟨its,r',pl,hz⟩:=I.tuple hx;have hlen:=r'.length;exact len_tuple pl (by simp only[LM];lia) {.int xs.length,H,I.tok _,{_,by simp only[LM];rw[hlen]},q}
 |_=>exact(show False from e).elim
end
structure yH(h:OC)(x dx C:N6)(mA:Str->Option E9):Prop where
 obj:h.get? x=UE (QC C dx)
 ns:h.Ns1 dx mA
 ne:dx≠x
theorem AM{h:OC}{dx:N6}{mA:Str->Option E9}(n:h.Ns1 dx mA):∃od,h.get? dx=UE od/\∀name,T6 name od=UE (mA name):=by
 obtain⟨o,es,ep,ho,hd,hk,_,hm⟩:=n;refine{o,ho,λname=>?_};have e:=hm name;unfold nsFind findBy at e;rw[<-Array.find?_toList]at e;unfold T6;rw[hd];dsimp only;split
 ·rename_i y q;rw[q]at e;exact congrArg UE e
 rename_i q;rw[q]at e;have a:es.toList.any (·.refKey)=false:=by
  rw[List.any_eq_false];intro y hy;obtain⟨z,t,hkey⟩:=hk y (Nv.mp hy);simp[DictEntry.refKey,hkey]
 have a':¬ es.toList.any (·.refKey)=true:=by rw[a];exact Lv
 rw[if_neg a'];exact congrArg UE e
theorem yH.look{h:OC}{x dx C:N6}{mA:Str->Option E9}(I:yH h x dx C mA):∃od,W.InstAt h x (QC C dx) C (UE od)/\∀name,T6 name od=UE (mA name):=
 let ⟨od,ho,hl⟩:=AM I.ns
 {od,⟨I.obj,rfl,rfl,ho⟩,hl}
section
variable{prog:Program}{w:Of}{A:Ou}{E:E9->N7->Prop}{s:N7}{K:Oc}{x dx C f:N6}{mA:Str->Option E9}{name:Str}{v:E9}
theorem get_map{expr:Bool}{Q:E9->N7->Prop}(X:K.In s.heap)(I:yH s.heap x dx C mA)(hg:Rx K C name=true)(hh:RN K C=true)
  (ha:Pa K (.ref C) name=UE UG) (hv:mA name=UE v) (hv':W.handedIn v=true) (h:Q v { s with toks:=s.toks+1 }) :
  wpAny (Oh prog w) A (getAttr (.ref x) name expr) Q E s:=by
 obtain⟨od,J,hl⟩:=I.look
 exact W.get_value X J (Su hg).1 (W.findObj_own hh ha rfl (by rw[hl,hv])) hv' h
theorem BI{pl:Sem Bool}{Q:E9×List E9->N7->Prop}(X:K.In s.heap)(I:yH s.heap x dx C mA)(hg:Rx K C name=true)
  (hf:Pa K (.ref C) name=UE (UE (.ref f))) (ht:UB K (.ref f)=true) (hv:mA name=UG) (h:Q (.ref f,[.ref x]) s) :
  wpAny (Oh prog w) A (Ts (.ref x) name pl) Q E s:=by
 obtain⟨od,J,hl⟩:=I.look
 exact W.method_fn X J (Su hg).1 (Su hg).2 hf (beq_iff_eq.mp ht) (by show(T6 name od).map (·.isSome)=UE false;rw[hl,hv];rfl) h
theorem E7{ns:List Str}{Q:Unit->N7->Prop}(X:K.In s.heap)(I:yH s.heap x dx C mA)
  (hs:Pa K (.ref C) "__setattr__"=UE (UE (.builtin "object.__setattr__"))) (hp:TL K C=true) (ht:Uy K C name=UE UG) (hh:RN K C=true)
  (hw:SW mA ns) (hsz:ns.length<=sizeLine)
  (h:∀h',yH h' x dx C (λy=>if y=name then UE v else mA y)->QT dx s.heap h'->Q () { s with heap:=h',toks:=s.toks+2 }) :
  wpAny (Oh prog w) A (setAttr (.ref x) name v) Q E s:=by
 obtain⟨od,J,hl⟩:=I.look
 refine W.set_plain X J hs (W.osa_open (s:={ s with toks:=s.toks+1 }) (r:=UG) X J hp ht λb=>?_)
 obtain⟨cd,hc,hd'⟩:=W.any_some hh
 have hx:s.heap.get? x=UE {.ref C,UE dx,.plain,#[]}:=I.obj
 refine N5 (N9 (N5 (N5 (wpAny_loadPart hx (N5 (W.Looks.here (s:={ s with toks:=s.toks+1 }) (W.looks_clsIn X hc) ?_))))))
 rw[hd']
 refine N9 (a:=UE dx) (N5 (N9 (N5 ?_)))
 refine wpAny_nsSet1 (s:={ s with toks:=s.toks+1 }) I.ns λh' hn2 hs2=>?_
 obtain⟨oD,esD,epD,hoD,hdD,hcD⟩:=hn2.count (PySem.Within.cons name v hw)
 refine N5 (wpAny_lookBehind hoD (by rw[hdD];exact pastItsLine_dict (LG hcD (by rw[Lq];lia))) ?_)
 exact N9 (h _ {(hs2.2 _ (LU I.ne)).trans I.obj,hn2,I.ne} hs2)
theorem DU{R:T7->N7->Prop}{vs:List E9}{kw:List (Str×E9)}(X:K.In s.heap)(hm:Tt K C=true)
  (hi:Pa K (.ref C) "__init__"=UE (UE (.ref f))) (hf:W.typeIn K (.ref f)=UE (.type "function"))
  (h:codeAny (Oh prog w) (A.under (.builtin "type.__call__" {.ref C::vs,kw})) (.call (.ref f) {.ref (s.heap.objs.size+1)::vs,kw}) (W.InitBack (s.heap.objs.size+1) R)
   { s with heap:=(s.heap.push PU).push (QC C s.heap.objs.size) }) :
  codeAny (Oh prog w) A (.call (.ref C) ⟨vs,kw⟩) R s:=by
 obtain⟨hh,g,d,t,os⟩:=s
 exact W.make_core (W.makes_of X hm) (W.looks_findIn X hi) (λself=>W.bind_fn X self hf) (.inl rfl) h
end
noncomputable def gP(f:Str)(v:V):List (Str×V)->List (Str×V)
 | []=>[(f,v)]
 | (g,x)::r=>if g=f then(g,v)::r else(g,x)::gP f v r
theorem pF(f g:Str)(v:V):∀fs:List (Str×V),(gP f v fs).lookup g=if g=f then UE v else fs.lookup g
 | []=>by
  show P6 g [(f,v)]=_;by_cases h:g=f
  ·have hb:(g==f)=true:=beq_iff_eq.mpr h;simp only[P6,hb,if_pos h]
  have hb:(g==f)=false:=beq_eq_false_iff_ne.mpr h;simp only[P6,hb,if_neg h]
 | (k,x)::r=>by
  have ih:=pF f g v r;rw[show gP f v ((k,x)::r)=(if k=f then(k,v)::r else(k,x)::gP f v r)from rfl];by_cases hk:k=f
  ·rw[if_pos hk];by_cases h:g=k
   ·have hb:(g==k)=true:=beq_iff_eq.mpr h;simp only[P6,hb,if_pos (h.trans hk)]
   have hb:(g==k)=false:=beq_eq_false_iff_ne.mpr h;simp only[P6,hb,if_neg (λe:g=f=>h (e.trans hk.symm))]
  rw[if_neg hk];by_cases h:g=k
  ·have hb:(g==k)=true:=beq_iff_eq.mpr h;simp only[P6,hb,if_neg (λe:g=f=>hk (h.symm.trans e))]
  have hb:(g==k)=false:=beq_eq_false_iff_ne.mpr h;simp only[P6,hb];exact ih
theorem oX(f:Str)(v:V):∀fs:List (Str×V),f∈(gP f v fs).map (·.1)/\∀g,g∈fs.map (·.1)->g∈(gP f v fs).map (·.1)
 | []=>{by simp[gP],λg h=>by simp at h}
 | (k,x)::r=>by
  obtain⟨i1,i2⟩:=oX f v r;rw[show gP f v ((k,x)::r)=(if k=f then(k,v)::r else(k,x)::gP f v r)from rfl];by_cases hk:k=f
  ·rw[if_pos hk];subst hk;exact{by simp,λg h=>by simpa using h}
  rw[if_neg hk];refine{?_,λg h=>?_}
  ·rw[LC];exact Lx _ i1
  rw[LC]at h⊢;rcases Lu.mp h with e|e
  ·exact Lu.mpr (.inl e)
  exact Lx _ (i2 g e)
theorem pk(f:Str)(v:V):∀fs:List (Str×V),(gP f v fs).length<=fs.length+1
 | []=>by simp[gP]
 | (k,x)::r=>by
  have ih:=pk f v r;rw[show gP f v ((k,x)::r)=(if k=f then(k,v)::r else(k,x)::gP f v r)from rfl];by_cases hk:k=f
  ·rw[if_pos hk,Lq,Lq];lia
  rw[if_neg hk,Lq,Lq];lia
theorem mf.some_of{v:V}{o:Option E9}(r:mf (UE v) o):∃u,o=UE u/\UJ v u:=by
 cases o with
 |none=>exact(show False from r).elim
 |some u=>exact⟨u,rfl,r⟩
theorem mf.none_of{o:Option E9}(r:mf UG o):o=UG:=by
 cases o with
 |none=>rfl
 |some u=>exact(show False from r).elim
theorem AR{v:V}{u:E9}(r:UJ v u):W.handedIn u=true:=by
 cases v with
 |non=>cases (show u=SD from r);rfl
 |bl b=>cases (show u=SE b from r);rfl
 |int i=>obtain⟨t,e⟩:=(show ∃t,u=RX i t from r);cases e;rfl
 |str x=>obtain⟨t,e⟩:=(show ∃t,u=QB x t from r);cases e;rfl
 |byt b=>obtain⟨t,e⟩:=(show ∃t,u=Value.bytes b t from r);cases e;rfl
 |flt b=>obtain⟨t,e⟩:=(show ∃t,u=TH b t from r);cases e;rfl
 |ref a=>cases (show u=Oo a from r);rfl
 |ty n=>cases (show u=Pm n from r);rfl
section
variable{P:Program}{w:Of}{H H':Hp}{h h':OC}{a C dx:N6}{fs fs':List (Str×V)}
theorem ql(hok:HOk P w H h)(e:H a=UE (.ins C dx fs)):∃mA,yH h a dx C mA/\(∀f,mf (fs.lookup f) (mA f))/\SW mA (fs.map (·.1))/\fs.length<=1000/\H dx=UE (.own a):=by
 obtain⟨d,z,ne,ob,mA,n,r,q⟩:=(show cy P w H h a (.ins C dx fs)from hok a _ e);exact{mA,⟨ob,n,ne⟩,r,q,z,d}
end
structure Cls(K:Oc)(C:N6):Prop where
 pg:Rx K C Ot=true
 hd:RN K C=true
 po:TL K C=true
 sa:Pa K (.ref C) "__setattr__"=UE (UE (.builtin "object.__setattr__"))
theorem Cls.get{K:Oc}{C:N6}(c:Cls K C)(f:Str):Rx K C f=true:=c.pg
def aG(K:Oc)(C:N6)(f:Str):Prop:=Pa K (.ref C) f=UE UG
theorem aG.IT{K:Oc}{C:N6}{f:Str}(n:aG K C f):Uy K C f=UE UG:=by
 unfold Uy;rw[show Pa K (.ref C) f=UE UG from n];rfl
structure Con(K:Oc)(C:N6)(f:Str)(v:V)(u:E9):Prop where
 at_:Pa K (.ref C) f=UE (UE u)
 rel:UJ v u
 get:Qr K u "__get__"=UE UG
 cp:W.copiedNames.contains f=false
structure U0(K:Oc)(C:N6)(m:Str)(f:N6):Prop where
 at_:Pa K (.ref C) m=UE (UE (.ref f))
 fn:UB K (.ref f)=true
 kp:Pf K (.ref f)=true
section
variable{X:Cx}{pins:List (N6×Obj)}{σ:St}{H:Hp}{s:N7}{a C dx:N6}{fs:List (Str×V)}{f:Str}{v:V}{A:Ou}{E:E9->N7->Prop}
theorem yv{b:Bool}{Q:E9->N7->Prop}(I:Inv X pins σ H s)(e:H a=UE (.ins C dx fs))(c:Cls X.K C)(n:aG X.K C f)(l:fs.lookup f=UE v)
  (h:∀u s',Inv X pins σ H s'->UJ v u->Q u s'):wpAny (Oh X.prog X.w) A (getAttr (.ref a) f b) Q E s:=by
 obtain⟨mA,O,r,_,_,_⟩:=ql I.hok e
 obtain⟨u,hu,ru⟩:=mf.some_of (v:=v) (o:=mA f) (by rw[<-l];exact r f)
 exact get_map I.kIn O (c.get f) c.hd n hu (AR ru) (h u _ (I.tok _) ru)
theorem yR{m:Str}{g:N6}{pl:Sem Bool}{Q:E9×List E9->N7->Prop}(I:Inv X pins σ H s)(e:H a=UE (.ins C dx fs))(c:Cls X.K C)(k:U0 X.K C m g)(l:fs.lookup m=UG)
  (h:Q (.ref g,[.ref a]) s):wpAny (Oh X.prog X.w) A (Ts (.ref a) m pl) Q E s:=by
 obtain⟨mA,O,r,_,_,_⟩:=ql I.hok e
 have hn:mA m=UG:=mf.none_of (by rw[<-l];exact r m)
 exact BI I.kIn O (c.get m) k.at_ k.fn hn h
theorem yz{y:V}{u:E9}{Q:Unit->N7->Prop}(I:Inv X pins σ H s)(e:H a=UE (.ins C dx fs))(c:Cls X.K C)(n:aG X.K C f)(hl:fs.length<1000)(ry:UJ y u)
  (h:∀s',Inv X pins σ (upd H a (.ins C dx (gP f y fs))) s'->Q () s'):wpAny (Oh X.prog X.w) A (setAttr (.ref a) f u) Q E s:=by
 obtain⟨mA,O,r,wi,_,ho⟩:=ql I.hok e
 have hz:(fs.map (·.1)).length<=sizeLine:=by rw[Lm,P5];lia
 refine E7 I.kIn O c.sa c.po n.IT c.hd wi hz λh' O' sb=>h _ ?_
 have hd:∃o,h'.get? dx=UE o:=let ⟨o,_,_,e',_⟩:=O'.ns;⟨o,e'⟩
 refine I.write (x:=a) (e:=dx) (by rw[e];exact Mz) (.inr ho) (λb q hb z=>(sb.2 b hb).trans z) hd ?_
 refine{by rw[aW O.ne];exact ho,?_,O.ne,O'.obj,_,O'.ns,λg=>?_,λg hg=>?_}
 ·have:=pk f y fs;lia
 ·show mf ((gP f y fs).lookup g) (if g=f then UE u else mA g);rw[pF];by_cases q:g=f
  ·rw[if_pos q,if_pos q];exact ry
  rw[if_neg q,if_neg q];exact r g
 by_cases q:g=f
 ·rw[q];exact(oX f y fs).1
 refine(oX f y fs).2 g (wi g λz=>hg ?_)
 show(if g=f then UE u else mA g)=UG
 rw[if_neg q];exact z
theorem Inv.made(I:Inv X pins σ H s):Inv X pins σ (upd (upd H s.heap.objs.size (.own (s.heap.objs.size+1))) (s.heap.objs.size+1) (.ins C s.heap.objs.size []))
  { s with heap:=(s.heap.push PU).push (QC C s.heap.objs.size) }:=by
 have e1:(s.heap.push PU).get? s.heap.objs.size=UE PU:=Ox s.heap rfl
 have e2:((s.heap.push PU).push (QC C s.heap.objs.size)).get? (s.heap.objs.size+1)=UE (QC C s.heap.objs.size):=by
  have:=Ox (s.heap.push PU) (o:=QC C s.heap.objs.size) rfl;rwa [PC]at this
 have e3:(s.heap.push PU).Ns s.heap.objs.size (λ_=>UG):={PU,#[],_,e1,rfl,(λe he=>absurd he (by simp)),λ_=>rfl}
 have I1:=I.laid (a:=s.heap.objs.size) (o:=.own (s.heap.objs.size+1)) (h':=s.heap.push PU) (t':=s.toks) (λb u q=>Od _ q) (Ln _) {_,e1}
 refine I1.laid (a:=s.heap.objs.size+1) (o:=.ins C s.heap.objs.size []) (t':=s.toks) (λb u q=>Od _ q) (Nw (PC _ _)) ?_
 have ne:s.heap.objs.size≠s.heap.objs.size+1:=L9 (Nc _)
 refine{by rw[aW ne,ao],LH _,ne,e2,λ_=>UG,(Heap.Ns1.of_empty e3).at λo q=>Od _ q,λ_=>Mz,λy hy=>absurd rfl hy}
theorem Fg{prog:Program}{w:Of}{env:Env}{e:Expr}{f:Str}{pos:Pos}{s:N7}{Q:E9->N7->Prop}(hb:O5 e f env (OT e env)=OT e env)
  (h:wpAny (Oh prog w) A (OT e env) (λo s₁=>wpAny (Oh prog w) A (getAttr o f true) Q E s₁) E s):wpAny (Oh prog w) A (OT (.Attribute e f pos) env) Q E s:=
 Attribute_any_ h (by rw[arm_eval_Attribute,hb])
end
inductive sT(K:Oc)(f:Str)(x:V)(H:Hp)(Q:VK):Prop
 |mk(a C dx:N6)(fs:List (Str×V))(v:V)(h0:x=.ref a)(h1:H a=UE (.ins C dx fs))(h2:Cls K C)(h3:aG K C f)(h4:fs.lookup f=UE v)(q:Q v H):sT K f x H Q
noncomputable def KO(K:Oc)(ta:TE)(f:Str):TE:=λσ H Q=>ta σ H λx H1=>sT K f x H1 Q
inductive GA(K:Oc)(f:Str)(y x:V)(H:Hp)(Q:Hp->Prop):Prop
 |mk(a C dx:N6)(fs:List (Str×V))(h0:x=.ref a)(h1:H a=UE (.ins C dx fs))(h2:Cls K C)(h3:aG K C f)(h4:fs.length<1000)(q:Q (upd H a (.ins C dx (gP f y fs)))):GA K f y x H Q
noncomputable def Kz(K:Oc)(ta tv:TE)(f:Str):TS:=λD σ H=>tv σ H λy H1=>ta σ H1 λx H2=>GA K f y x H2 (D.nx σ)
section
variable{X:Cx}{o e value:Expr}{f:Str}{pos pos' tpos:Pos}{ta tv:TE}
theorem aJ(he:PE X e ta)(hb:O5 e f X.env (OT e X.env)=OT e X.env):PE X (.Attribute e f pos) (KO X.K ta f):=by
 intro pins s σ H Q I h;refine Fg hb (thn (he pins s σ H _ I h) λu s1 z9=>?_);obtain⟨x,H1,I1,rx,a,C,dx,fs,v,ex,ea,c,n,l,q⟩:=z9;subst ex;obtain rfl:u=Oo a:=rx;exact yv I1 ea c n l λu' s2 I2 ru=>⟨v,H1,I2,ru,q⟩
theorem aX(ha:PE X o ta)(hv:PE X value tv)(hs:RZ value (UE (.Attribute o f pos')) pos.line X.env=pure false):PS X (.Assign [.Attribute o f pos'] value pos) (Kz X.K ta tv f):=by
 intro pins s σ H D I h;refine plainObj_wpAny_Assign_Attribute (thn (hv pins s σ H _ I h) λu s1 ⟨y,H1,I1,ry,q⟩=>thn (ha pins s1 σ H1 _ I1 q) λov s2 ⟨x,H2,I2,rx,a,C,dx,fs,ex,ea,c,n,l,q2⟩=>?_) hs;subst ex;obtain rfl:ov=Oo a:=rx;exact yz I2 ea c n l ry λs3 I3=>{σ,_,I3,q2}
end
section
variable{X:Cx}{pins:List (N6×Obj)}{σ:St}{H:Hp}{s:N7}{A:Ou}{E:E9->N7->Prop}{Q:E9->N7->Prop}{c:E9}{b:Bool}
inductive nv(K:Oc)(H:Hp):V->E9->Prop where
 |non:nv K H .non (.type "NoneType")
 |bl (x:Bool):nv K H (.bl x) (.type "bool")
 |int (i:Int):nv K H (.int i) (.type "int")
 |str (x:Str):nv K H (.str x) (.type "str")
 |flt (x:UInt64):nv K H (.flt x) (.type "float")
 |lst {a:N6}{xs:List V} (e:H a=UE (.lst xs)):nv K H (.ref a) (.type "list")
 |frz {a:N6}{o:Obj}{xs:List V} (e:H a=UE (.frz o (.lst xs))):nv K H (.ref a) (.type "list")
 |tup {a:N6}{xs:List V} (e:H a=UE (.tup xs)):nv K H (.ref a) (.type "tuple")
 |dK {a:N6}{kvs:List (Key×V)} (e:H a=UE (.dK kvs)):nv K H (.ref a) (.type "dict")
 |dT {a:N6}{kvs:List (List Key×V)} (e:H a=UE (.dT kvs)):nv K H (.ref a) (.type "dict")
 |ins {a C dx:N6}{fs:List (Str×V)} (e:H a=UE (.ins C dx fs)) (cl:Cls K C) (ha:Pa K (.ref C) "__class__"=UE (UE (.builtin "object.__class__")))
   (hn:Qr K (.builtin "object.__class__") "__get__"=UE (UE (.builtin "getset_descriptor.__get__"))) (htk:Tu K (.builtin "object.__class__")=UE true)
   (hm:UC K C (.type "object")=UE true):nv K H (.ref a) (.ref C)
theorem A8{x:V}{u t:E9}(I:Inv X pins σ H s)(rx:UJ x u)(ty:nv X.K H x t)(e:P1 X.K t c=UE b)(h:∀tk,Q (.bool b) { s with toks:=tk }) :
  wpAny (Oh X.prog X.w) A (call (.builtin "isinstance") [u,c]) Q E s:=by
 cases ty with
 |non=>cases (show u=SD from rx);exact P2 W.kitx_none I.kIn Mz e (λz=>nomatch z) h
 |bl y=>cases (show u=SE y from rx);exact P2 W.kitx_bool I.kIn Mz e (λz=>nomatch z) h
 |int i=>obtain⟨t,q⟩:=(show ∃t,u=RX i t from rx);cases q;exact P2 W.kitx_int I.kIn Mz e (λz=>nomatch z) h
 |str y=>obtain⟨t,q⟩:=(show ∃t,u=QB y t from rx);cases q;exact P2 W.kitx_str I.kIn Mz e (λz=>nomatch z) h
 |flt y=>obtain⟨t,q⟩:=(show ∃t,u=TH y t from rx);cases q;exact P2 W.kitx_float I.kIn Mz e (λz=>nomatch z) h
 |@lst a xs ea=>
  cases (show u=Oo a from rx)
  obtain⟨_,_,n,_,h1⟩:=(show cy X.prog X.w H s.heap a (.lst xs)from I.hok a _ ea)
  exact P2 W.kitx_list I.kIn {_,h1,rfl} e (λz=>nomatch z) h
 |@frz a ob xs ea=>
  cases (show u=Oo a from rx)
  obtain⟨_,_,_,n,_,h1⟩:=(show cy X.prog X.w H s.heap a (.frz ob (.lst xs))from I.hok a _ ea)
  exact P2 W.kitx_list I.kIn {_,h1,rfl} e (λz=>nomatch z) h
 |@tup a xs ea=>
  cases (show u=Oo a from rx)
  obtain⟨_,_,_,p⟩:=(show cy X.prog X.w H s.heap a (.tup xs)from I.hok a _ ea)
  obtain⟨o,h1,h2,_⟩:=p
  exact P2 W.kitx_tuple I.kIn ⟨o,h1,h2⟩ e (λz=>nomatch z) h
 |@dK a kvs ea=>
  cases (show u=Oo a from rx)
  obtain⟨_,_,vs,_,p⟩:=(show cy X.prog X.w H s.heap a (.dK kvs)from I.hok a _ ea)
  obtain⟨o,es,ep,h1,h2,_⟩:=p
  exact P2 W.kitx_dict I.kIn ⟨o,h1,h2.1⟩ e (λz=>nomatch z) h
 |@dT a kvs ea=>
  cases (show u=Oo a from rx)
  obtain⟨_,_,xs,_,o,es,ep,h1,h2,_⟩:=(show cy X.prog X.w H s.heap a (.dT kvs)from I.hok a _ ea)
  exact P2 W.kitx_dict I.kIn ⟨o,h1,h2.1⟩ e (λz=>nomatch z) h
 |@ins a C dx fs ea cl ha hn htk hm=>
  cases (show u=Oo a from rx)
  obtain⟨mA,O,_⟩:=ql I.hok ea
  obtain⟨od,J,_⟩:=O.look
  exact P2 (W.kitx_own (cl.get _) cl.hd ha hn htk hm) I.kIn J e (λz=>nomatch z) h
end
structure dD(k:Nat)(A:Ou):Prop where
 hd:A.handled=UG
 dp:A.depth+3*k+5<T8
 un:A.units+16*k+200<PB
theorem dD.mono{j k:Nat}{A:Ou}(r:dD k A)(h:j<=k):dD j A:={r.hd,by have:=r.dp;lia,by have:=r.un;lia}
theorem dD.deeper{k:Nat}{A:Ou}(r:dD (k+1) A)(env:Env):dD k (A.deeper env):=
 {r.hd,by have:=r.dp;show A.depth+1+3*k+5<_;lia,by have:=r.un;show A.units+3+16*k+200<_;lia}
theorem yd{A:Ou}{C:N6}{us:List E9}{kw:List (Str×E9)}:(A.under (.builtin "type.__call__" {.ref C::us,kw})).depth=A.depth+1:=by
 first|rfl|simp[SY,Code.weight,Code.isCreation,Code.isGuard,Code.isCaller,Code.frames,S0,guardIds]
theorem yp{A:Ou}{C:N6}{us:List E9}{kw:List (Str×E9)}:(A.under (.builtin "type.__call__" {.ref C::us,kw})).units=A.units+1:=by
 first|rfl|simp[SY,Code.cUnits,Code.frames,S0]
theorem dD.make{k:Nat}{A:Ou}(r:dD (k+1) A)(C:N6)(us:List E9)(kw:List (Str×E9)):dD k (A.under (.builtin "type.__call__" {.ref C::us,kw})):=
 {r.hd,by have:=r.dp;rw[yd];lia,by have:=r.un;rw[yp];lia}
theorem dD.depth{k:Nat}{A:Ou}(r:dD k A):A.depth<T8:=by have:=r.dp;lia
theorem dD.units{k:Nat}{A:Ou}(r:dD k A):A.units+64<PB:=by have:=r.un;lia
noncomputable def EA:TA:=λ_ H Q=>Q [] H
noncomputable def Cu(ta:TE)(tr:TA):TA:=λσ H Q=>ta σ H λx H1=>tr σ H1 λxs H2=>Q (x::xs) H2
section
variable{X:Cx}{e:Expr}{es:List Expr}{te:TE}{t:TA}{pos:Pos}
theorem ae:PA X [] EA:=λ_ _ _ _ H Q I h=>Calls.spliced_nil {[],H,I,.nil,h}
theorem aa(ha:PE X e te)(hr:PA X es t)(hs:Oi (e::es) X.env=(false,OT e X.env)::Oi es X.env:=by rfl):PA X (e::es) (Cu te t):=by
 intro pos pins s σ H Q I h;rw[hs];show wpAny _ _ (spliced ((false,OT e X.env)::O7 pos (Oi es X.env))) _ _ s;refine Calls.spliced_cons (thn (ha pins s σ H _ I h) λu s1 z9=>?_);obtain⟨x,H1,I1,r1,q1⟩:=z9;exact thn (hr pos pins s1 σ H1 _ I1 q1) λus s2 ⟨xs,H2,I2,r2,q2⟩=>{x::xs,H2,I2,.cons r1 r2,q2}
noncomputable def Lh(t:TA):TE:=λσ H Q=>t σ H λxs H1=>xs.length<=sizeLine/\∀p,H1 p=UG->Q (.ref p) (upd H1 p (.tup xs))
noncomputable def Kj(t:TA):TE:=λσ H Q=>t σ H λxs H1=>xs.length<=sizeLine/\∀p,H1 p=UG->Q (.ref p) (upd H1 p (.lst xs))
theorem aP{x1}(h:PA X es t):PE X (.Tuple es x1 pos) (Lh t):=by
 intro pins s σ H Q I hq;refine wpAny_Tuple_spliced (thn (h pos pins s σ H _ I hq) λus s1 ⟨xs,H1,I1,r,z,q⟩=>{by rw[<-r.length];exact z,?_});have hf:H1 s1.heap.objs.size=UG:=I1.hok.fresh (Ln _);refine{.ref s1.heap.objs.size,upd H1 s1.heap.objs.size (.tup xs),I1.laid (t':=s1.toks) (λb u e=>Od _ e) (Ln _) ?_,rfl,q _ hf};exact{z,us,r,{_,Ox _ rfl,rfl,_,rfl}}
theorem aN(h:PA X es t):PE X (.List es pos) (Kj t):=by
 intro pins s σ H Q I hq;refine wpAny_List_spliced (thn (h pos pins s σ H _ I hq) λus s1 ⟨xs,H1,I1,r,z,q⟩=>{by rw[<-r.length];exact z,?_});have hf:H1 s1.heap.objs.size=UG:=I1.hok.fresh (Ln _);refine{.ref s1.heap.objs.size,upd H1 s1.heap.objs.size (.lst xs),I1.laid (t':=s1.toks) (λb u e=>Od _ e) (Ln _) ?_,rfl,q _ hf};exact{z,us,0,r,Ox _ rfl}
end
noncomputable abbrev Sp:=List V->Hp->VK->XK->Prop
noncomputable abbrev CXT:=List Env->Hp->N7->XK->E9->N7->Prop
structure yI(P:Program)(w:Of)(K:Oc)(mg:Str->Option E9)(base:OC)(A:Ou)(outer:List Env)(s:N7)(H:Hp):Prop where
 frames:A.frames=UE outer
 mod:Mod K mg base
 bs:∀b o,base.get? b=UE o->s.heap.get? b=UE o/\H b=UG
 bsz:base.objs.size<=s.heap.objs.size
 pP:s.heap.FunFrames base outer
 frf:∀b∈frs outer,H b=UG
 hok:HOk P w H s.heap
 bare:Rf s.gens
inductive CE(outer:List Env)(P:Program)(w:Of)(H:Hp)(s:N7)(Q:VK)(u:E9)(s':N7):Prop
 |mk(v:V)(H':Hp)(h0:s'.os=s.os)(h1:Rf s'.gens)(h2:Un (frs outer) [] H H' s.heap s'.heap)(h3:HOk P w H' s'.heap)(h4:UJ v u)(h5:Q v H'):CE outer P w H s Q u s'
def CR(CX:CXT)(outer:List Env)(P:Program)(w:Of)(H:Hp)(s:N7)(Q:VK)(E:XK)(r:T7)(s':N7):Prop:=
 match r with
 | .ok (.ret u)=>CE outer P w H s Q u s'
 | .ok _=>False
 | .error e=>CX outer H s E e s'
structure jq(P:Program)(w:Of)(K:Oc)(mg:Str->Option E9)(base:OC)(CX:CXT)(k:Nat)(f:N6)(fd:Pp)(ps:List Str)(sp:Sp):Prop where
 len:∀vs H Q E,sp vs H Q E->vs.length=ps.length
 run:∀(A:Ou)(outer:List Env)(s:N7)(H:Hp)(args:Args)(us:List E9)(vs:List V)(Q:VK)(E:XK),dD k A->yI P w K mg base A outer s H->Ry s fd args (ps.zip us)->UH vs us->sp vs H Q E->
  codeAny (Oh P w) A (.call (.ref f) args) (CR CX outer P w H s Q E) s
theorem jq.mono{P:Program}{w:Of}{K:Oc}{mg:Str->Option E9}{base:OC}{CX:CXT}{j k:Nat}{f:N6}{fd:Pp}{ps:List Str}{sp:Sp}(F:jq P w K mg base CX j f fd ps sp)(h:j<=k) :
  jq P w K mg base CX k f fd ps sp:={F.len,λA outer s H args us vs Q E hr=>F.run A outer s H args us vs Q E (hr.mono h)}
theorem yI.make{P:Program}{w:Of}{K:Oc}{mg:Str->Option E9}{base:OC}{A:Ou}{outer:List Env}{s:N7}{H:Hp}(e:yI P w K mg base A outer s H)(C:N6)(us:List E9)(kw:List (Str×E9)) :
  yI P w K mg base (A.under (.builtin "type.__call__" {.ref C::us,kw})) outer s H:={by first|exact e.frames|(simpa [SY,Code.envs,S0,pushEnvs] using e.frames),e.mod,e.bs,e.bsz,e.pP,e.frf,e.hok,e.bare}
section
variable{X:Cx}{pins:List (N6×Obj)}{σ:St}{H:Hp}{s s':N7}
theorem Inv.AN(I:Inv X pins σ H s):yI X.prog X.w X.K X.mg X.base X.A X.stack s H:=
 ⟨I.ok.frames,I.ok.mod,I.bs,LG I.ok.bsz I.sz,I.stack,I.zS,I.hok,I.bare⟩
theorem Inv.after{Q:VK}{u:E9}(I:Inv X pins σ H s)(h:CE X.stack X.prog X.w H s Q u s'):EP X pins σ Q u s':=by
 obtain⟨v,H',os,bare,un,hok,r,q⟩:=h;obtain⟨hh,g,d,t,os'⟩:=s';obtain rfl:os'=s.os:=os;exact{v,H',I.call (h':=hh) (g':=g) (d':=d) (t':=t) (ch:=[]) un hok bare (λb z=>absurd z (by simp)),r,q}
end
noncomputable def zV(sp:Sp)(dvs:List V)(E:XK)(t:TA):TE:=λσ H Q=>t σ H λvs H1=>sp (vs++dvs) H1 Q E
inductive La(C:N6)(m:Str)(x:V)(H:Hp)(R:Prop):Prop
 |mk(a dx:N6)(fs:List (Str×V))(h0:x=.ref a)(h1:H a=UE (.ins C dx fs))(h2:fs.lookup m=UG)(q:R):La C m x H R
noncomputable def FX(C:N6)(sp:Sp)(dvs:List V)(E:XK)(t:TA):TE:=λσ H Q=>t σ H λvs H1=>∀x dx,H1 x=UG->H1 dx=UG->dx≠x->
 sp (.ref x::(vs++dvs)) (upd (upd H1 dx (.own x)) x (.ins C dx [])) (λv H2=>v=.non/\Q (.ref x) H2) E
def UL(K:Oc)(fd:Pp)(ps:List Str)(ds:List E9):Prop:=
 ∀(s:N7)(us:List E9),K.In s.heap->(us++ds).length=ps.length->Ry s fd {us,[]} (ps.zip (us++ds))
theorem UL.all{K:Oc}{fd:Pp}{ps:List Str}(h:∀us:List E9,us.length=ps.length->bindArgs fd {us,[]}=pure (ps.zip us)):UL K fd ps []:=λs us _ hl=>by
 rw[LQ]at hl⊢;exact .of_eq (h us hl)
def UP(CX:CXT)(X:Cx)(E:XK):Prop:=∀(pins:List (N6×Obj))(σ:St)(H:Hp)(s:N7)(e:E9)(s':N7),Inv X pins σ H s->CX X.stack H s E e s'->X.xe e s'
section
variable{X:Cx}{CX:CXT}{k:Nat}{f C:N6}{fd:Pp}{ps:List Str}{sp:Sp}{dvs:List V}{ds:List E9}{E:XK}{x m:Str}{p pos apos:Pos}{e o:Expr}{es:List Expr}{ta:TE}{t:TA}
theorem yV{pins:List (N6×Obj)}{σ:St}{H:Hp}{s:N7}{Q:VK}{us:List E9}{vs:List V}(F:jq X.prog X.w X.K X.mg X.base CX k f fd ps sp)(hr:dD k X.A)(hb:UL X.K fd ps ds)(hd:UH dvs ds)(hx:UP CX X E)
  (I:Inv X pins σ H s) (r:UH vs us) (h:sp (vs++dvs) H Q E):wpAny (Oh X.prog X.w) X.A (call (.ref f) us) (EP X pins σ Q) X.xe s:=by
 have r2:UH (vs++dvs) (us++ds):=r.append hd
 have hl:(us++ds).length=ps.length:=by rw[<-r2.length];exact F.len _ _ _ _ h
 refine T9 (QV (F.run X.A X.stack s H {us,[]} (us++ds) (vs++dvs) Q E hr I.AN (hb s us I.kIn hl) r2 h) λr s' hq=>?_)
 cases r with
 |error e=>exact hx pins σ H s e s' I hq
 |ok fl=>
  cases fl with
  |ret u=>exact I.after hq
  |next=>exact O2 hq
  |brk=>exact O2 hq
  |cont=>exact O2 hq
theorem zI(F:jq X.prog X.w X.K X.mg X.base CX k f fd ps sp)(hr:dD k X.A)(hg:Gl X x)(hm:X.mg x=UE (.ref f))(hk:Pf X.K (.ref f)=true)(hb:UL X.K fd ps ds)(hd:UH dvs ds)(hx:UP CX X E)
  (ha:PA X (e::es) t) (hdb:(x==("__debug__":Str))=false:=by decide) (he:Oi (e::es) X.env=(false,OT e X.env)::Oi es X.env:=by rfl) (hpl:(O7 pos (Oi es X.env)).any (·.1)=false:=by rfl) :
  PE X (.Call (.Name x p) (e::es) [] pos) (zV sp dvs E t):=by
 intro pins s σ H Q I h
 refine PY (nP I hg hm ?_ hdb)
 refine W.callWith_K (h₀:=X.base) I.ok.mod.kin hk (thn (ha pos pins s σ H _ I h) λus s1 ⟨vs,H1,I1,r,q⟩=>{I1.kIn,?_}) he hpl
 exact yV F hr hb hd hx I1 r q
structure Mk(K:Oc)(C f:N6):Prop where
 makes:Tt K C=true
 init:Pa K (.ref C) "__init__"=UE (UE (.ref f))
 fn:UB K (.ref f)=true
 kp:Pf K (.ref C)=true
theorem Cp{pins:List (N6×Obj)}{σ:St}{H:Hp}{s:N7}{Q:VK}{us:List E9}{vs:List V}(M:Mk X.K C f)(F:jq X.prog X.w X.K X.mg X.base CX k f fd ps sp)(hr:dD (k+1) X.A)(hb:UL X.K fd ps ds)(hd:UH dvs ds)
  (hx:UP CX X E) (I:Inv X pins σ H s) (r:UH vs us)
  (h:∀x dx,H x=UG->H dx=UG->dx≠x->sp (.ref x::(vs++dvs)) (upd (upd H dx (.own x)) x (.ins C dx [])) (λv H2=>v=.non/\Q (.ref x) H2) E) :
  wpAny (Oh X.prog X.w) X.A (call (.ref C) us) (EP X pins σ Q) X.xe s:=by
 have hq:=h (s.heap.objs.size+1) s.heap.objs.size (I.hok.fresh (Ng _)) (I.hok.fresh (Ln _)) (L9 (Nc _))
 have I2:=Inv.made (C:=C) I
 have r2:UH (V.ref (s.heap.objs.size+1)::(vs++dvs)) (Oo (s.heap.objs.size+1)::(us++ds)):=.cons rfl (r.append hd)
 have hl:(Oo (s.heap.objs.size+1)::us++ds).length=ps.length:=by
  have e:=r2.length;rw[F.len _ _ _ _ hq]at e;exact e.symm
 refine T9 (DU (f:=f) I.kIn M.makes M.init (beq_iff_eq.mp M.fn) (QV (F.run _ X.stack _ _ {Oo (s.heap.objs.size+1)::us,[]} (Oo (s.heap.objs.size+1)::(us++ds)) _ _ E (hr.make C us [])
  (I2.AN.make C us []) (hb _ (Oo (s.heap.objs.size+1)::us) I2.kIn hl) r2 hq) λr s' hq'=>?_))
 cases r with
 |error e=>exact hx pins σ _ _ e s' I2 hq'
 |ok fl=>
  cases fl with
  |ret u=>
   obtain⟨v,H',I3,rv,ev,q3⟩:=I2.after hq'
   subst ev
   exact{rv,{V.ref (s.heap.objs.size+1),H',I3,rfl,q3}}
  |next=>exact O2 hq'
  |brk=>exact O2 hq'
  |cont=>exact O2 hq'
theorem EL(M:Mk X.K C f)(F:jq X.prog X.w X.K X.mg X.base CX k f fd ps sp)(hr:dD (k+1) X.A)(hg:Gl X x)(hm:X.mg x=UE (.ref C))(hb:UL X.K fd ps ds)(hd:UH dvs ds)(hx:UP CX X E)
  (ha:PA X (e::es) t) (hdb:(x==("__debug__":Str))=false:=by decide) (he:Oi (e::es) X.env=(false,OT e X.env)::Oi es X.env:=by rfl) (hpl:(O7 pos (Oi es X.env)).any (·.1)=false:=by rfl) :
  PE X (.Call (.Name x p) (e::es) [] pos) (FX C sp dvs E t):=by
 intro pins s σ H Q I h
 refine PY (nP I hg hm ?_ hdb)
 refine W.callWith_K (h₀:=X.base) I.ok.mod.kin M.kp (thn (ha pos pins s σ H _ I h) λus s1 ⟨vs,H1,I1,r,q⟩=>{I1.kIn,?_}) he hpl
 exact Cp M F hr hb hd hx I1 r q
end
def PK(X:Cx)(kws:List Qc)(t:TA):Prop:=
 ∀(pos:Pos)(pins:List (N6×Obj))(s:N7)(σ:St)(H:Hp)(Q:List V->Hp->Prop),Inv X pins σ H s->t σ H Q->wpAny (Oh X.prog X.w) X.A (evalAll ((PD pos (O4 kws X.env)).map (·.2))) (AP X pins σ Q) X.xe s
section
variable{X:Cx}{CX:CXT}{k:Nat}{f C:N6}{fd:Pp}{ps ks:List Str}{sp:Sp}{E:XK}{x m:Str}{p pos apos kpos:Pos}{e o:Expr}{es:List Expr}{kws:List Qc}{te ta:TE}{t tk:TA}{nm:Option Str}
theorem HN:PK X [] EA:=λ_ _ _ _ H Q I h=>wpAny_evalAll_nil {[],H,I,.nil,h}
theorem Ft(ha:PE X e te)(hr:PK X kws t):PK X (⟨nm,e,kpos⟩::kws) (Cu te t):=by
 intro pos pins s σ H Q I h;show wpAny _ _ (evalAll ((do let v<-OT e X.env;SX pos;pure v)::(PD pos (O4 kws X.env)).map (·.2))) _ _ s;refine wpAny_evalAll_cons (N5 (thn (ha pins s σ H _ I h) λu s1 ⟨x,H1,I1,r1,q1⟩=>N5 (Ri (N9 ?_))));exact thn (hr pos pins s1 σ H1 _ I1 q1) λus s2 ⟨xs,H2,I2,r2,q2⟩=>{x::xs,H2,I2,.cons r1 r2,q2}
structure vM(K:Oc)(fd:Pp)(ps ks:List Str)(g:List E9->List E9->List E9)(gV:List V->List V->List V):Prop where
 to:∀(s:N7)(us ws:List E9),K.In s.heap->(g us ws).length=ps.length->Ry s fd ⟨us,ks.zip ws⟩ (ps.zip (g us ws))
 rel:∀{vs:List V}{us:List E9}{zs:List V}{ws:List E9},UH vs us->UH zs ws->UH (gV vs zs) (g us ws)
noncomputable def Ce(sp:Sp)(gV:List V->List V->List V)(E:XK)(t tk:TA):TE:=λσ H Q=>t σ H λvs H1=>tk σ H1 λzs H2=>sp (gV vs zs) H2 Q E
variable{g:List E9->List E9->List E9}{gV:List V->List V->List V}
theorem Fc{pins:List (N6×Obj)}{σ:St}{H:Hp}{s:N7}{Q:VK}{us ws:List E9}{vs zs:List V}(F:jq X.prog X.w X.K X.mg X.base CX k f fd ps sp)(hr:dD k X.A)(hb:vM X.K fd ps ks g gV)(hx:UP CX X E)
  (I:Inv X pins σ H s) (r:UH vs us) (rz:UH zs ws) (h:sp (gV vs zs) H Q E):wpAny (Oh X.prog X.w) X.A (call (.ref f) us (ks.zip ws)) (EP X pins σ Q) X.xe s:=by
 have r2:=hb.rel r rz
 have hl:(g us ws).length=ps.length:=by rw[<-r2.length];exact F.len _ _ _ _ h
 refine T9 (QV (F.run X.A X.stack s H ⟨us,ks.zip ws⟩ (g us ws) (gV vs zs) Q E hr I.AN (hb.to s us ws I.kIn hl) r2 h) λr s' hq=>?_)
 cases r with
 |error e=>exact hx pins σ H s e s' I hq
 |ok fl=>
  cases fl with
  |ret u=>exact I.after hq
  |next=>exact O2 hq
  |brk=>exact O2 hq
  |cont=>exact O2 hq
theorem CV(F:jq X.prog X.w X.K X.mg X.base CX k f fd ps sp)(hr:dD k X.A)(hg:Gl X x)(hm:X.mg x=UE (.ref f))(hk:Pf X.K (.ref f)=true)(hb:vM X.K fd ps ks g gV)(hx:UP CX X E)
  (ha:PA X (e::es) t) (hkw:PK X kws tk) (hall:(PD pos (O4 kws X.env)).all (·.1.isSome)=true:=by rfl) (hks:(PD pos (O4 kws X.env)).filterMap (·.1)=ks:=by rfl)
  (hdb:(x==("__debug__":Str))=false:=by decide) (he:Oi (e::es) X.env=(false,OT e X.env)::Oi es X.env:=by rfl)
  (hpl:((O7 pos (Oi (e::es) X.env)).any (·.1)||(PD pos (O4 kws X.env)).any (·.1.isNone))=false:=by rfl) :
  PE X (.Call (.Name x p) (e::es) kws pos) (Ce sp gV E t tk):=by
 intro pins s σ H Q I h
 refine PY (nP I hg hm ?_ hdb)
 refine W.callWith_KW (h₀:=X.base) I.ok.mod.kin hk hall (thn (ha pos pins s σ H _ I h) λus s1 ⟨vs,H1,I1,r,q⟩=>?_) hpl he
 refine thn (hkw pos pins s1 σ H1 _ I1 q) λws s2 ⟨zs,H2,I2,rz,q2⟩=>{I2.kIn,?_}
 rw[hks]
 exact Fc F hr hb hx I2 r rz q2
end
structure aB(N P:List Str)(sc:Qq):Prop where
 kind:sc.kind=.function
 co:sc.isCoroutine=false
 gen:sc.isGenerator=false
 nd:N.Nodup
 pre:N.take P.length=P
 par:∀x∈P,sc.names.lookup x=UE .local\/sc.names.lookup x=UE .cell
 HA:∀y∈sc.names,y.2≠ .free
theorem tV{kindOf:Str->Option PH}{x:Str}:∀{binds:List (Str×E9)}{m:Str->Option E9},(∀v,(x,v)∉binds)->Ua kindOf binds m x=m x
 | [],_,_=>rfl
 | (n,v)::r,m,h=>by
  unfold Ua;rw[tV λw hw=>h w (Lx _ hw)];split
  ·have:x≠n:=by rintro rfl;exact h v LB
   simp[this]
  rfl
theorem ux{kindOf:Str->Option PH}{x:Str}:∀{binds:List (Str×E9)}{m:Str->Option E9},(∀v,(x,v)∉binds)->Ub kindOf binds m x=m x
 | [],_,_=>rfl
 | (n,v)::r,m,h=>by
  unfold Ub;rw[ux λw hw=>h w (Lx _ hw)];split
  ·rfl
  have:x≠n:=by rintro rfl;exact h v LB
  simp[this]
theorem uA{kindOf:Str->Option PH}{x:Str}{v:E9}:∀{P:List Str}{vs:List E9}{i:Nat}{m:Str->Option E9},P.Nodup->P[i]?=UE x->vs[i]?=UE v->kindOf x=UE .local->
  Ua kindOf (P.zip vs) m x=UE v
 | [],_,_,_,_,h,_,_=>by simp at h
 |_::_,[],_,_,_,_,h,_=>by simp at h
 |p::P,w::vs,0,m,nd,h1,h2,hk=>by
  simp at h1 h2;subst h1;subst h2;show Ua kindOf ((p,w)::P.zip vs) m p=_;unfold Ua;rw[tV λv hv=>(Mq.mp nd).1 (Ni hv).1,if_pos hk];simp
 |p::P,w::vs,i+1,m,nd,h1,h2,hk=>by
  show Ua kindOf ((p,w)::P.zip vs) m x=_;unfold Ua;exact uA (i:=i) (Mq.mp nd).2 (by simpa using h1) (by simpa using h2) hk
theorem ud{kindOf:Str->Option PH}{x:Str}{v:E9}:∀{P:List Str}{vs:List E9}{i:Nat}{m:Str->Option E9},P.Nodup->P[i]?=UE x->vs[i]?=UE v->kindOf x≠UE .local->
  Ub kindOf (P.zip vs) m x=UE v
 | [],_,_,_,_,h,_,_=>by simp at h
 |_::_,[],_,_,_,_,h,_=>by simp at h
 |p::P,w::vs,0,m,nd,h1,h2,hk=>by
  simp at h1 h2;subst h1;subst h2;show Ub kindOf ((p,w)::P.zip vs) m p=_;unfold Ub;rw[ux λv hv=>(Mq.mp nd).1 (Ni hv).1,if_neg hk];simp
 |p::P,w::vs,i+1,m,nd,h1,h2,hk=>by
  show Ub kindOf ((p,w)::P.zip vs) m x=_;unfold Ub;exact ud (i:=i) (Mq.mp nd).2 (by simpa using h1) (by simpa using h2) hk
noncomputable def UQ(N:List Str)(vs:List V):St:=vs.map UE++OB (N.length-vs.length) UG
noncomputable def vQ(CX:CXT)(P:Program)(w:Of)(K:Oc)(mg:Str->Option E9)(base:OC)(N:List Str)(qual:Str)(scope:Qq)(f:N6)(cd:E9)(A:Ou)(outer:List Env)(s:N7)(H:Hp)(E:XK):Cx where
 prog:=P
 w:=w
 K:=K
 mg:=mg
 base:=base
 A:=A.deeper (Qu qual scope s.heap.objs.size f cd)
 N:=N
 s₀:=s
 H₀:=H
 env:=Qu qual scope s.heap.objs.size f cd
 outer:=outer
 stack:=Qu qual scope s.heap.objs.size f cd::outer
 ex:=[]
 calm:=true
 fn:=λ_=>true
 pn:=[]
 xe:=λe s'=>wpAny (Oh P w) (A.deeper (Qu qual scope s.heap.objs.size f cd)) (leaving (Qu qual scope s.heap.objs.size f cd) e) (λ_ s''=>CX outer H s E e s'') (λe' s''=>CX outer H s E e' s'') s'
theorem xE{sc:Qq}{n:Nat}{x:Str}(h:sc.names.lookup x=UE .cell):∃c,(O1 n sc.names []).lookup x=UE c:=by
 have q:=QD sc.names n [] (.inl h);exact MC.mp q
theorem A9{CX:CXT}{P:Program}{w:Of}{K:Oc}{mg:Str->Option E9}{base:OC}{N ps:List Str}{qual:Str}{scope:Qq}{f:N6}{cd:E9}{A:Ou}{outer:List Env}{s s1:N7}{H:Hp}{E:XK}{us:List E9}{vs:List V}
  (S:aB N ps scope) (hd:A.handled=UG) (e0:yI P w K mg base A outer s H) (hl:vs.length=ps.length) (r:UH vs us)
  (x:InCallC s s.heap.objs.size (Ua (Qu qual scope s.heap.objs.size f cd).kindOf (ps.zip us) λ_=>UG) (O1 (s.heap.objs.size+1) scope.names []) (Ub (Qu qual scope s.heap.objs.size f cd).kindOf (ps.zip us) λ_=>UG) s1) :
  Inv (vQ CX P w K mg base N qual scope f cd A outer s H E) [] (UQ N vs) H s1:=by
 have hpl:ps.length<=N.length:=by have:=congrArg Pw S.pre;rw[LV]at this;lia
 obtain⟨h1,tk,rfl,hk⟩:=x.done
 have noA:∀b:N6,b∉(vQ CX P w K mg base N qual scope f cd A outer s H E).ex:=λb z=>absurd (show b∈([]:List N6)from z) (by simp)
 refine{{e0.mod,S.kind,rfl,rfl,Ln _,λy z c h1 h2=>?_,λy hy=>?_,λy c _ h=>?_,λ_=>hd,Around.frames_deeper e0.frames,.inr ⟨rfl,rfl⟩,λb z=>absurd z (noA b),e0.bs,e0.bsz,λb _ _=>noA b,λb z=>absurd z (noA b),e0.pP,e0.frf},
  rfl,e0.bare,Un.kept hk,{_,x.toInCall.ns,λi y v h1 h2 h3=>?_},λy c h=>{_,x.cell y c h},e0.hok.fresh (Ln _),λy c h=>?_,λp hp=>absurd (show p∈([]:List (N6×Obj))from hp) (by simp),e0.hok.kept hk,?_}
 ·exact name_of_addr x.apart (OE h1) (OE h2)
 ·have hy:scope.names.lookup y=UE .cell\/scope.names.lookup y=UE .free:=hy;rcases hy with hy|hy
  ·exact xE hy
  exact absurd rfl (S.HA _ (OE hy))
 ·exact Nj (x.above y c (OE h))
 ·have hi:i<vs.length:=by
   unfold UQ at h2;by_cases hi:i<vs.length
   ·exact hi
   rw[L7 (by simpa using hi)]at h2;rw[Rm]at h2;split at h2<;>cases h2
  have ha:vs[i]?=UE v:=by
   unfold UQ at h2;rw[Me (by simpa using hi),LY]at h2;cases e:vs[i]? with
   |none=>rw[e]at h2;cases h2
   |some a=>rw[e]at h2;cases h2;rfl
  obtain⟨u,hu,rv⟩:=r.get ha;have hp:ps[i]?=UE y:=by
   rw[<-S.pre,Mt (by lia)];exact h1
  have ndP:ps.Nodup:=by rw[<-S.pre];exact S.nd.sublist (List.take_sublist _ _)
  refine{u,rv,?_};rcases S.par y (LW hp)with k|k
  ·exact .inl ⟨k,uA ndP hp hu k⟩
  obtain⟨c,e⟩:=xE (n:=s.heap.objs.size+1) k;refine .inr {.inl k,c,e,?_};have q:=x.cell y c e;rw[ud ndP hp hu (by show scope.names.lookup y≠_;rw[k];decide)]at q;exact q
 ·exact e0.hok.fresh (Nj (x.above y c (OE h)))
 unfold UQ
 show _=N.length
 rw[Ll,Lm,M8]
 lia
theorem Gf{CX:CXT}{P:Program}{w:Of}{K:Oc}{mg:Str->Option E9}{base:OC}{k:Nat}{f:N6}{name qual:Str}{params:Arguments}{body:List OH}{scope:Qq}{dV kV doc pm cdv ct oc:E9}{an od:Option N6}
  {osl:Array (Option E9)}{N ps:List Str}{sp:Sp} (lk:K.lookup f=UE {oc,od,.func (Pj name qual params body scope dV kV doc pm an cdv ct),osl}) (hcd:QK K cdv qual=true) (S:aB N ps scope)
  (len:∀vs H Q E,sp vs H Q E->vs.length=ps.length)
  (hbody:∀(A:Ou)(outer:List Env)(s:N7)(H:Hp)(vs:List V)(Q:VK)(E:XK),dD k (A.deeper (Qu qual scope s.heap.objs.size f cdv))->sp vs H Q E->
   ∃t,PSs (vQ CX P w K mg base N qual scope f cdv A outer s H E) body t/\t { nx:=λ_ H'=>Q .non H',rt:=Q } (UQ N vs) H) :
  jq P w K mg base CX (k+1) f (Pj name qual params body scope dV kV doc pm an cdv ct) ps sp:=by
 refine{len,λA outer s H args us vs Q E hr e0 hb r hsp=>?_}
 have hl:=len _ _ _ _ hsp
 have KX:K.In s.heap:=e0.mod.kin.keeps λb o e=>(e0.bs b o e).1
 have lim:s.heap.NoLimit:=e0.mod.nolimit.keeps λb o e=>(e0.bs b o e).1
 have hkind:∀y∈ps.zip us,scope.names.lookup y.1=UE .local\/(scope.names.lookup y.1=UE .cell/\((O1 (s.heap.objs.size+1) scope.names []).lookup y.1).isSome=true):=λ⟨n,v⟩ hy=>by
  rcases S.par n (Ni hy).1 with q|q
  ·exact .inl q
  exact .inr {q,QD _ _ _ (.inl q)}
 refine codeAny_call_function hr.depth (KX _ _ lk) rfl S.co S.gen rfl (W.codeRec_of KX hcd) (hb _ _ _ _ ?_)
 refine wpAny_newFunctionEnv_cells S.kind hkind λenv he s1 x=>?_
 subst he
 refine{lim.keeps x.toInCall.keep,codeAny_func ?_}
 obtain⟨t,ht,hq⟩:=hbody A outer s H vs Q E (hr.deeper _) hsp
 have I:Inv (vQ CX P w K mg base N qual scope f cdv A outer s H E) [] (UQ N vs) H s1:=A9 S hr.hd e0 hl r x
 refine Pn (ht [] s1 (UQ N vs) H _ I hq) (λfl s' hs=>?_) λe s' hs=>hs
 have fin:∀{σ':St}{H':Hp}{v:V}{u:E9},Inv (vQ CX P w K mg base N qual scope f cdv A outer s H E) [] σ' H' s'->UJ v u->Q v H'->CE outer P w H s Q u s':=
  λ{σ' H' v u} J rv q=>⟨v,H',J.os,J.bare,J.base,J.hok,rv,q⟩
 cases fl with
 |ret u=>
  obtain⟨v,σ',H',J,rv,q⟩:=hs
  exact fin J rv q
 |next=>
  obtain⟨σ',H',J,q⟩:=hs
  exact fin (v:=V.non) (u:=SD) J rfl q
 |brk=>
  obtain⟨_,_,_,q⟩:=hs
  exact O2 q
 |cont=>
  obtain⟨_,_,_,q⟩:=hs
  exact O2 q
section
variable{X:Cx}{x:Str}{p pos:Pos}{e:Expr}{es:List Expr}{t:TA}{id T:String}{r:List V->Hp->VK->Prop}
noncomputable def tCB(r:List V->Hp->VK->Prop)(t:TA):TE:=λσ H Q=>t σ H λvs H1=>r vs H1 Q
theorem CK(hc:dh X (.builtin id) r)(hg:Gl X x)(hm:X.mg x=UG)(hv:Pu x=UE (.builtin id))(ha:PA X (e::es) t)(hn:x≠"__name__":=by decide)(hdb:(x==("__debug__":Str))=false:=by decide)
  (he:Oi (e::es) X.env=(false,OT e X.env)::Oi es X.env:=by rfl) (hpl:(O7 pos (Oi es X.env)).any (·.1)=false:=by rfl):PE X (.Call (.Name x p) (e::es) [] pos) (tCB r t):=by
 intro pins s σ H Q I h
 refine PY (oy I hg hm hv ?_ hn hdb)
 exact PyProof.Rows.callWith_builtin1 (thn (ha pos pins s σ H _ I h) λus s1 ⟨vs,H1,I1,r1,q1⟩=>hc pins s1 σ H1 vs us Q I1 r1 q1) he hpl
theorem AH(hc:dh X (.type T) r)(hg:Gl X x)(hm:X.mg x=UG)(hv:Pu x=UE (.type T))(ha:PA X (e::es) t)(hn:x≠"__name__":=by decide)(hdb:(x==("__debug__":Str))=false:=by decide)
  (he:Oi (e::es) X.env=(false,OT e X.env)::Oi es X.env:=by rfl) (hpl:(O7 pos (Oi es X.env)).any (·.1)=false:=by rfl):PE X (.Call (.Name x p) (e::es) [] pos) (tCB r t):=by
 intro pins s σ H Q I h
 refine PY (oy I hg hm hv ?_ hn hdb)
 exact Pk (thn (ha pos pins s σ H _ I h) λus s1 ⟨vs,H1,I1,r1,q1⟩=>hc pins s1 σ H1 vs us Q I1 r1 q1) he hpl
end
end L2
namespace HT
open PySem PyProof.Rows
section
open PySem.SeqAt
open PySem.AutoSeq1 (wpAny_loadPart')
open PySem.MeetsSeq PySem.MeetsSeq2 PySem.MeetsSeq3
end
section
variable{prog:Program}{w:Of}{A:Ou}{E:E9->N7->Prop}{s:N7}
noncomputable def sIx(n d:Nat):Option Int->Nat
 |none=>d
 |some v=>if v<0 then(v+(n:Int)).toNat else min v.toNat n
theorem Iw(n d:Nat)(hd:d<=n)(o:Option Int):sIx n d o<=n:=by
 cases o with
 |none=>exact hd
 |some v=>
  show(if v<0 then(v+(n:Int)).toNat else min v.toNat n)<=n;by_cases hv:v<0
  ·rw[if_pos hv];lia
  rw[if_neg hv];exact Nat.min_le_right _ _
theorem zg(v:Int)(n d:Nat):(if v<0 then max (v+(n:Int)) 0 else min v (n:Int))=((sIx n d (UE v):Nat):Int):=by
 show(if v<0 then max (v+(n:Int)) 0 else min v (n:Int))=(((if v<0 then(v+(n:Int)).toNat else min v.toNat n):Nat):Int);by_cases hv:v<0
 ·simp only[if_pos hv];lia
 simp only[if_neg hv];lia
theorem yi(lo hi:Option Int)(n:Nat):Qf lo hi 1 (n:Int)=(((sIx n 0 lo:Nat):Int),((sIx n n hi:Nat):Int)):=by
 have h1:¬ ((1:Int)<0):=by lia
 unfold Qf;simp only[h1,if_false];refine QJ ?_ ?_
 ·cases lo with
  |none=>rfl
  |some v=>exact zg v n 0
 cases hi with
 |none=>rfl
 |some v=>exact zg v n n
theorem yg(i j:Nat):OQ (i:Int) (j:Int) 1=j-i:=by
 unfold OQ;have h1:(1:Int)>0:=by lia
 simp only[h1,if_true,Int.ediv_one];split<;>lia
theorem rZ{v:E9}{o:Option Int}{Q:Option Int->N7->Prop}(p:SH v o)(h:Q o s):wpAny (Oh prog w) A (Builtin.Slice.slicePartIndex v) Q E s:=by
 cases p with
 |none=>exact Q1 h
 |int i t=>exact slicePart_int h
theorem oM{sl:N6}{vl vu:E9}{lo hi:Option Int}{n:Nat}{Q:Int×Int×Nat->N7->Prop}(hs:s.heap.IsSliceOf sl vl vu .none)(pl:SH vl lo)(pu:SH vu hi)
  (h:Q (((sIx n 0 lo:Nat):Int),1,sIx n n hi-sIx n 0 lo) s):wpAny (Oh prog w) A (Pq (.ref sl) (pure (n:Int))) Q E s:=by
 obtain⟨os,hos,hcs,hds⟩:=id hs
 unfold Pq Q8
 refine N5 (N5 (QL hos hds (x:=vl) rfl (N5 (QL hos hds (x:=vu) rfl (N5 (QL hos hds (x:=.none) rfl (N9 ?_)))))))
 refine N5 (Q1 ?_)
 show wpAny _ _ (if((1:Int)==0)=true then _ else _) _ _ s
 rw[if_neg (by decide)]
 refine N5 (rZ pl (N5 (rZ pu (N5 (N9 ?_)))))
 show wpAny _ _ (match Qf lo hi 1 (n:Int)with|(lo,hi)=>pure (lo,(1:Int),OQ lo hi 1)) _ _ s
 rw[yi lo hi n]
 show wpAny _ _ (pure (((sIx n 0 lo:Nat):Int),(1:Int),OQ ((sIx n 0 lo:Nat):Int) ((sIx n n hi:Nat):Int) 1)) _ _ s
 rw[yg]
 exact N9 h
theorem DA(xs:Array E9)(i k:Nat):((OA k).filterMap λ(m:Nat)=>xs[((i:Int)+(m:Int)*1).toNat]?).toArray=((xs.toList.drop i).take k).toArray:=by
 have e:(λ(m:Nat)=>xs[((i:Int)+(m:Int)*1).toNat]?)=λm=>xs[i+m]?:=by
  funext m
  have:((i:Int)+(m:Int)*1).toNat=i+m:=by lia
  rw[this]
 rw[e];have:=pick_run xs i k;rw[List.filterMap_map]at this;have e2:((λx=>xs[x]?)∘λx=>i+x)=λm=>xs[i+m]?:=rfl;rw[e2]at this;rw[this]
theorem nR{t sl:N6}{items:Array E9}{vl vu:E9}{lo hi:Option Int}{Q:E9->N7->Prop}(ht:IsTup s.heap t items)(hs:s.heap.IsSliceOf sl vl vu .none)(pl:SH vl lo)(pu:SH vu hi)
  (hw:¬ (sIx items.size 0 lo=0/\sIx items.size items.size hi=items.size))
  (h:Q (.ref s.heap.objs.size) { s with heap:=s.heap.push { cls:=.type "tuple",data:=.seq ((items.toList.drop (sIx items.size 0 lo)).take (sIx items.size items.size hi-sIx items.size 0 lo)).toArray } })
  (hsz:items.size<=sizeLine):wpAny (Oh prog w) A (Rg (.ref t) (.ref sl)) Q E s:=by
 have htake:sizeOk (.seq ((items.toList.drop (sIx items.size 0 lo)).take (sIx items.size items.size hi-sIx items.size 0 lo)).toArray):=by
  show((items.toList.drop (sIx items.size 0 lo)).take (sIx items.size items.size hi-sIx items.size 0 lo)).toArray.size<=sizeLine;rw[LM,LV,Mc,LI];lia
 have hj:sIx items.size items.size hi<=items.size:=Iw _ _ (Ln _) hi
 obtain⟨os,hos,hcs,hds⟩:=id hs
 have hTs:s.TypeIs (.ref sl) "slice":=⟨os,hos,hcs⟩
 unfold Rg
 try with_reducible refine wpAny_holding ?_
 first|refine N5 (N9 ?_)|skip
 refine N5 (S8 ht.typeIs (by decide) ?_)
 refine N5 (Rn (name:=Qd "__getitem__") ht.typeIs O9
  (QE O9 ht.typeIs Sj ?_ (SI _ _)))
 show wpAny _ _ (Q3 (.ref t)>>=_) _ _ s
 refine N5 (tupleItemsOf_ ht ?_)
 refine N5 (Qv hTs ?_)
 rw[if_pos (by decide)]
 refine N5 (oM hs pl pu ?_)
 have hno:¬ ((((sIx items.size 0 lo:Nat):Int)==0&&(1:Int)==1&&(sIx items.size items.size hi-sIx items.size 0 lo)==items.size)=true):=by
  intro q;rw[Mv,Mv]at q;have q1:((sIx items.size 0 lo:Nat):Int)=0:=eq_of_beq q.1.1;have q2:sIx items.size items.size hi-sIx items.size 0 lo=items.size:=eq_of_beq q.2;exact hw ⟨by lia,by lia⟩
 show wpAny _ _ (if(((sIx items.size 0 lo:Nat):Int)==0&&(1:Int)==1&&(sIx items.size items.size hi-sIx items.size 0 lo)==items.size)=true then _ else _) _ _ s
 rw[if_neg hno,DA]
 first
  |exact N5 (m:=OM _) (OZ (N9 {_,rfl,N9 h}) htake)
  |exact N5 (m:=OM _) (OZ (N5 (N9 (N9 {_,rfl,N9 h}))) htake)
  |exact N5 (N5 (m:=OM _) (OZ (N9 (N9 {_,rfl,N9 h})) htake))
  |exact N5 (N5 (m:=OM _) (OZ (N9 {_,rfl,N9 h}) htake))
end
end HT
namespace L2
open PySem PySem.Spec PyProof.Rows
noncomputable abbrev TO:=St->Hp->(Option Int->Hp->Prop)->Prop
def PO(X:Cx)(e:Option Expr)(t:TO):Prop:=
 ∀(pins:List (N6×Obj))(s:N7)(σ:St)(H:Hp)(Q:Option Int->Hp->Prop),Inv X pins σ H s->t σ H Q->
  wpAny (Oh X.prog X.w) X.A (evalPart e X.env) (λu s'=>∃o H',Inv X pins σ H' s'/\SH u o/\Q o H') X.xe s
noncomputable def FK:TO:=λ_ H Q=>Q UG H
inductive Kd(x:V)(H:Hp)(Q:Option Int->Hp->Prop):Prop
 |mk(i:Int)(h:x=.int i)(q:Q (UE i) H):Kd x H Q
noncomputable def JY(t:TE):TO:=λσ H Q=>t σ H λx H1=>Kd x H1 Q
section
variable{X:Cx}{e:Expr}{te:TE}{lo hi:Option Expr}{tl th:TO}{pos p2:Pos}
theorem zP:PO X UG FK:=by
 intro pins s σ H Q I h;rw[Sv];exact N9 ⟨UG,H,I,.none,h⟩
theorem qo(h:PE X e te):PO X (UE e) (JY te):=by
 intro pins s σ H Q I hw;rw[evalPart_some];refine thn (h pins s σ H _ I hw) λu s1 z9=>?_;obtain⟨x,H1,I1,r1,q1⟩:=z9;obtain⟨i,rfl,q⟩:=q1;obtain⟨t,rfl⟩:=r1;exact⟨UE i,H1,I1,.int i t,q⟩
def SlR(X:Cx)(r:V->Option Int->Option Int->Hp->VK->Prop):Prop:=
 ∀(pins:List (N6×Obj))(s:N7)(σ:St)(H:Hp)(x:V)(v vl vu:E9)(lo hi:Option Int)(sl:N6)(Q:VK),Inv X pins σ H s->UJ x v->s.heap.IsSliceOf sl vl vu .none->SH vl lo->SH vu hi->r x lo hi H Q->
  ∃T id,typeLookup (.type T) "__getitem__"=pure (UE (.builtin id))/\s.TypeIs v T/\wpAny (Oh X.prog X.w) X.A (Rg v (.ref sl)) (EP X pins σ Q) X.xe s
theorem SlR.or{r r':V->Option Int->Option Int->Hp->VK->Prop}(h:SlR X r)(h':SlR X r'):SlR X (λx lo hi H Q=>r x lo hi H Q\/r' x lo hi H Q):=by
 intro pins s σ H x v vl vu lo hi sl Q I rx hs pl pu q;rcases q with q|q
 ·exact h pins s σ H x v vl vu lo hi sl Q I rx hs pl pu q
 exact h' pins s σ H x v vl vu lo hi sl Q I rx hs pl pu q
noncomputable def tSl(r:V->Option Int->Option Int->Hp->VK->Prop)(te:TE)(tl th:TO):TE:=λσ H Q=>te σ H λx H1=>tl σ H1 λl H2=>th σ H2 λu H3=>r x l u H3 Q
theorem qW{r:V->Option Int->Option Int->Hp->VK->Prop}(hr:SlR X r)(he:PE X e te)(hl:PO X lo tl)(hu:PO X hi th):PE X (.Subscript e (.Slice lo hi UG p2) pos) (tSl r te tl th):=by
 intro pins s σ H Q I h;refine Uc (thn (he pins s σ H _ I h) λv s1 z9=>?_);obtain⟨x,H1,I1,r1,q1⟩:=z9;refine wpAny_Slice (thn (hl pins s1 σ H1 _ I1 q1) λvl s2 ⟨l,H2,I2,pl,q2⟩=>thn (hu pins s2 σ H2 _ I2 q2) λvu s3 z9=>?_);obtain⟨u,H3,I3,pu,q3⟩:=z9;rw[Sv];refine N9 ?_;have I4:Inv X pins σ H3 { s3 with heap:=s3.heap.push { cls:=.type "slice",data:=.fields #[vl,vu,.none] } }:=I3.kept (t':=s3.toks) λb ob q=>Od _ q;obtain⟨T,id,hT,ht,hg⟩:=hr pins { s3 with heap:=s3.heap.push { cls:=.type "slice",data:=.fields #[vl,vu,.none] } } σ H3 x v vl vu l u s3.heap.objs.size Q I4 r1 (SJ ..) pl pu q3;show wpAny (Oh X.prog X.w) X.A (Sw e (.Slice lo hi UG p2) v (.ref s3.heap.objs.size)) (EP X pins σ Q) X.xe { s3 with heap:=s3.heap.push { cls:=.type "slice",data:=.fields #[vl,vu,.none] } };exact tail_any (ops:=[.ref s3.heap.objs.size,v]) ht hT hg (by with_unfolding_all rfl)
noncomputable def pS(xs:List V)(lo hi:Option Int):List V:=(xs.drop (HT.sIx xs.length 0 lo)).take (HT.sIx xs.length xs.length hi-HT.sIx xs.length 0 lo)
theorem pG(xs:List V)(lo hi:Option Int):(pS xs lo hi).length<=xs.length:=by
 unfold pS;rw[LV,Mc];lia
def GI(K:Oc):V->Option Int->Option Int->Hp->VK->Prop:=λx lo hi H Q=>∃a xs,x=.ref a/\SqT K H a xs/\
 ¬ (HT.sIx xs.length 0 lo=0/\HT.sIx xs.length xs.length hi=xs.length)/\∀p,H p=UG->Q (.ref p) (upd H p (.tup (pS xs lo hi)))
theorem Ij:SlR X (GI X.K):=by
 intro pins s σ H x v vl vu lo hi sl Q I rx hs pl pu h;obtain⟨a,xs,rfl,hx,hw,q⟩:=h;cases rx;obtain⟨its,r,ht,hz⟩:=I.tuple hx;have hlen:its.toArray.size=xs.length:=by rw[LM];exact r.length.symm
 refine{"tuple",_,PyProof.Rows.slot_tuple_getitem.lookup,ht.typeIs,?_};refine HT.nR ht hs pl pu (by rw[hlen];exact hw) ?_ (by rw[hlen];exact hz);rw[hlen];refine{.ref s.heap.objs.size,_,I.laid (t':=s.toks) (o:=.tup (pS xs lo hi)) (λb ob q=>Od _ q) (Ln _) ?_,rfl,q _ (I.hok.fresh (Ln _))};exact{LG (pG xs lo hi) hz,_,(r.drop (HT.sIx xs.length 0 lo)).take (HT.sIx xs.length xs.length hi-HT.sIx xs.length 0 lo),IsTup.new _ _}
end
noncomputable def ixN(n:Nat)(i:Int):Option Nat:=if 0<=i then(if i<n then UE i.toNat else UG)else if -(n:Int)<=i then UE (i+n).toNat else UG
noncomputable def atI{α:Type}(xs:List α)(i:Int):Option α:=(ixN xs.length i).bind λj=>xs[j]?
theorem zt{n:Nat}{i:Int}{j:Nat}(h:ixN n i=UE j):seqIndex? i n=UE j/\j<n/\-(n:Int)<=i/\i<n:=by
 unfold ixN at h;by_cases h0:0<=i
 ·rw[if_pos h0]at h;by_cases h1:i<n
  ·rw[if_pos h1]at h;have e:i.toNat=j:=Oj h;exact{by rw[TM h0 h1,e],by lia,by lia,h1}
  rw[if_neg h1]at h;cases h
 rw[if_neg h0]at h;by_cases h1:-(n:Int)<=i
 ·rw[if_pos h1]at h;have e:(i+n).toNat=j:=Oj h;exact{by rw[S9 (by lia) h1,e],by lia,h1,by lia}
 rw[if_neg h1]at h;cases h
theorem ve{α:Type}{xs:List α}{i:Int}{v:α}(h:atI xs i=UE v):∃j,seqIndex? i xs.length=UE j/\xs[j]?=UE v/\j<xs.length/\-(xs.length:Int)<=i/\i<xs.length:=by
 unfold atI at h;cases e:ixN xs.length i with
 |none=>rw[e]at h;cases h
 |some j=>
  rw[e]at h;obtain⟨h1,h2,h3,h4⟩:=zt e;exact⟨j,h1,h,h2,h3,h4⟩
theorem jz{α:Type}{xs:List α}{j:Nat}{v:α}(h:xs[j]?=UE v):atI xs (j:Int)=UE v:=by
 have hj:j<xs.length:=(LJ.mp h).1;have e:ixN xs.length (j:Int)=UE j:=by
  unfold ixN;rw[if_pos (by lia),if_pos (by lia)];simp
 unfold atI;rw[e];exact h
def zk(b:Expr):Prop:=∀o i,subscripted b false o i=operate [o,i] (Rg o i)
def IxR(X:Cx)(r:R2):Prop:=
 ∀(value slice:Expr)(pins:List (N6×Obj))(s:N7)(σ:St)(H:Hp)(x y:V)(v u:E9)(Q:VK),Inv X pins σ H s->UJ x v->UJ y u->r x y H Q->
  subscripted slice false v u=operate [v,u] (Rg v u)->wpAny (Oh X.prog X.w) X.A (Sw value slice v u) (EP X pins σ Q) X.xe s
def MtR(X:Cx)(id:String)(r:V->List V->Hp->VK->Prop):Prop:=
 ∀(pins:List (N6×Obj))(s:N7)(σ:St)(H:Hp)(x:V)(xs:List V)(v:E9)(us:List E9)(Q:VK),Inv X pins σ H s->UJ x v->UH xs us->r x xs H Q->
  wpAny (Oh X.prog X.w) X.A (call (.builtin id) (v::us)) (EP X pins σ Q) X.xe s
section
variable{X:Cx}{a b:Expr}{ta tb:TE}{pos:Pos}
theorem Jo{r:R2}(hr:IxR X r)(ha:PE X a ta)(hb:PE X b tb)(hs:zk b):PE X (.Subscript a b pos) (tOp r ta tb):=by
 intro pins s σ H Q I h;exact Uc (GV ha hb I h λv u s2 x y H2 I2 rx ry q=>hr a b pins s2 σ H2 x y v u Q I2 rx ry q (hs _ _))
noncomputable def K7(K:Oc):R2:=λx y H Q=>∃p xs i v,x=.ref p/\y=.int i/\SqL K H p xs/\atI xs i=UE v/\Q v H
noncomputable def Kx(K:Oc):R2:=λx y H Q=>∃p xs i v,x=.ref p/\y=.int i/\SqT K H p xs/\atI xs i=UE v/\Q v H
noncomputable def Kv:R2:=λx y H Q=>∃z i c,x=.str z/\y=.int i/\z.length<=sizeLine/\atI z.cps.toList i=UE c/\Q (.str ⟨#[c]⟩) H
theorem EM:IxR X (K7 X.K):=by
 intro value slice pins s σ H x y v u Q I rx ry h hs;obtain⟨p,xs,i,z,rfl,rfl,hq,he,q⟩:=h;cases rx;obtain⟨t,rfl⟩:=ry;obtain⟨its,r,pl,hz⟩:=I.list hq;obtain⟨j,h1,h2,h3,h4,h5⟩:=ve he;obtain⟨w,ew,rw'⟩:=r.get h2;have hl:=r.length;have hn:=oa;have fin:EP X pins σ Q w s:=⟨z,H,I,rw',q⟩;by_cases h0:0<=i
 ·have hj:i.toNat=j:=by
   rw[TM h0 h5]at h1;exact Oj h1
  exact item_listR pl.isList h0 (by lia) (by rw[hj];simpa using ew) fin hs
 have hj:(i+(its.toArray.size:Int)).toNat=j:=by
  rw[S9 (by lia) h4]at h1;rw[LM,<-hl];exact Oj h1
 exact Rz (x:=w) pl.isList.typeIs slot_list_getitem.lookup
  (wpAny_getItem_list_neg (Q:=λr s'=>r=w/\EP X pins σ Q r s') pl.isList (by lia) (by rw[LM]<;>lia) (by lia) (by rw[hj];simpa using ew) ⟨rfl,fin⟩) hs
theorem ID:IxR X (Kx X.K):=by
 intro value slice pins s σ H x y v u Q I rx ry h hs;obtain⟨p,xs,i,z,rfl,rfl,hq,he,q⟩:=h;cases rx;obtain⟨t,rfl⟩:=ry;obtain⟨its,r,pl,hz⟩:=I.tuple hq;obtain⟨j,h1,h2,h3,h4,h5⟩:=ve he;obtain⟨w,ew,rw'⟩:=r.get h2;have hl:=r.length;have hn:=oa;have fin:EP X pins σ Q w s:=⟨z,H,I,rw',q⟩;exact Rz (x:=w) pl.typeIs slot_tuple_getitem.lookup
  (getItem_tuple (j:=j) (Q:=λr s'=>r=w/\EP X pins σ Q r s') pl (by lia) (by lia) (by rw[LM,<-hl];exact h1) (by simpa using ew) ⟨rfl,fin⟩) hs
theorem GD:IxR X Kv:=by
 intro value slice pins s σ H x y v u Q I rx ry h hs;obtain⟨z,i,c,rfl,rfl,hz,he,q⟩:=h;obtain⟨t,rfl⟩:=rx;obtain⟨t',rfl⟩:=ry;obtain⟨j,h1,h2,h3,h4,h5⟩:=ve he;have hl:z.cps.toList.length=z.length:=by simp[Str.length]
 rw[hl]at h1 h4 h5;have hn:=oa;exact tail_any (QF s z t) slot_str_getitem.lookup (getItem_str (c:=c) (by
  have e1:decide (i< -(2^63:Int))=false:=decide_eq_false (by lia);have e2:decide (i ≥ 2^63)=false:=decide_eq_false (by lia);rw[e1,e2,Bool.or_false]) (by rw[h1];simpa using h2) {.str ⟨#[c]⟩,H,I.tok _,{_,rfl},q}) hs
theorem yJ(its:List E9)(n j:Nat)(u:E9):Pb (·.setIfInBounds j u) { cls:=.type "list",data:=.seq its.toArray n }={ cls:=.type "list",data:=.seq (its.set j u).toArray n }:=by
 simp[Pb]
theorem Inv.lst{pins:List (N6×Obj)}{σ:St}{H:Hp}{s:N7}{p:N6}{xs:List V}(I:Inv X pins σ H s)(h:H p=UE (.lst xs)) :
  ∃(its:List E9)(n:Nat),UH xs its/\s.heap.get? p=UE { cls:=.type "list",data:=.seq its.toArray n }/\xs.length<=sizeLine:=by
 obtain⟨z,its,n,r,e⟩:=I.hok p _ h
 exact⟨its,n,r,e,z⟩
theorem Inv.G3{pins:List (N6×Obj)}{σ:St}{H:Hp}{s:N7}{p:N6}{xs ys:List V}{its its':List E9}{n n':Nat}{f:Obj->Obj}(I:Inv X pins σ H s)(h:H p=UE (.lst xs))
  (ho:s.heap.get? p=UE { cls:=.type "list",data:=.seq its.toArray n }) (hf:f { cls:=.type "list",data:=.seq its.toArray n }={ cls:=.type "list",data:=.seq its'.toArray n' }) (r:UH ys its') (hz:ys.length<=sizeLine) (t:Nat) :
  Inv X pins σ (upd H p (.lst ys)) { s with heap:=s.heap.update p f,toks:=t }:=by
 have e:(s.heap.update p f).get? p=UE { cls:=.type "list",data:=.seq its'.toArray n' }:=by
  rw[Heap.get?_update_self f ho (by rw[hf]<;>rfl),hf]
 refine I.write (x:=p) (e:=p) (by rw[h];trivial) (.inl rfl) (λb u hb q=>(PZ _ _ (LU hb)).trans q) {_,e} ?_
 exact⟨hz,its',n',r,e⟩
def F2:V->V->V->Hp->(Hp->Prop)->Prop:=λo i v H Q=>∃p xs k j,o=.ref p/\i=.int k/\H p=UE (.lst xs)/\ixN xs.length k=UE j/\Q (upd H p (.lst (xs.set j v)))
theorem UK:Ct X F2:=by
 intro pins s σ H o i v ov iv u Q I ro ri rv h;obtain⟨p,xs,k,j,rfl,rfl,hp,hj,q⟩:=h;cases ro;obtain⟨t,rfl⟩:=ri;obtain⟨its,n,r,ho,hz⟩:=I.lst hp;obtain⟨h1,h2,h3,h4⟩:=zt hj;have hl:=r.length;have hn:=oa;have I':Inv X pins σ (upd H p (.lst (xs.set j v))) { s with heap:=s.heap.update p (Pb (·.setIfInBounds j u)) }:=
  I.G3 hp ho (yJ its n j u) (r.set rv j) (by rw[List.length_set];exact hz) s.toks
 by_cases h0:0<=k
 ·have hk:k.toNat=j:=by
   rw[TM h0 h4]at h1;exact Oj h1
  exact W.ki_setAt ho h0 (by lia) (by rw[LM,<-hl];exact h4) (by rw[hk];exact{_,I',q})
 have hk:(k+(its.toArray.size:Int)).toNat=j:=by
  rw[S9 (by lia) h3]at h1;rw[LM,<-hl];exact Oj h1
 exact W.ki_setBack ho (by lia) (by rw[LM,<-hl];exact h3) (by lia) (by rw[hk];exact{_,I',q})
theorem uX(lo hi:Option Int)(n:Nat):(Qs lo hi UG n).1=((HT.sIx n 0 lo:Nat):Int)/\(Qs lo hi UG n).2.1=((HT.sIx n n hi:Nat):Int)/\(Qs lo hi UG n).2.2=1:=by
 refine{?_,?_,rfl}
 ·cases lo with
  |none=>simp[Qs,HT.sIx]
  |some i=>
   simp only[Qs,HT.sIx,Tv,show(1:Int)>0 by decide,if_true];by_cases h:i<0
   ·simp only[h,if_true]<;>lia
   simp only[h,if_false]<;>lia
 cases hi with
 |none=>simp[Qs,HT.sIx]
 |some i=>
  simp only[Qs,HT.sIx,Tv,show(1:Int)>0 by decide,if_true];by_cases h:i<0
  ·simp only[h,if_true]<;>lia
  simp only[h,if_false]<;>lia
theorem tB(its:List E9)(lo hi:Option Int):slicePick its.toArray lo hi UG=((its.drop (HT.sIx its.length 0 lo)).take (HT.sIx its.length its.length hi-HT.sIx its.length 0 lo)).toArray:=by
 obtain⟨h1,h2,h3⟩:=uX lo hi its.toArray.size;unfold slicePick;rw[h1,h2,h3];simp only[sliceRange_one,pick_run,LM]<;>rfl
def HI(K:Oc):V->Option Int->Option Int->Hp->VK->Prop:=λx lo hi H Q=>∃a xs,x=.ref a/\SqL K H a xs/\∀p,H p=UG->Q (.ref p) (upd H p (.lst (pS xs lo hi)))
theorem Em:SlR X (HI X.K):=by
 intro pins s σ H x v vl vu lo hi sl Q I rx hs pl pu h;obtain⟨a,xs,rfl,hx,q⟩:=h;cases rx;obtain⟨its,r,ht,hz⟩:=I.list hx;have hlen:=r.length;refine{"list",_,slot_list_getitem.lookup,ht.isList.typeIs,?_};refine wpAny_getItem_list_slice ht.isList hs pl pu .none (by simp) ?_ (by rw[LM]<;>lia);rw[tB,<-hlen];refine{.ref s.heap.objs.size,_,I.laid (t':=s.toks) (o:=.lst (pS xs lo hi)) (λb ob q=>Od _ q) (Ln _) ?_,rfl,q _ (I.hok.fresh (Ln _))};exact{LG (pG xs lo hi) hz,_,0,(r.drop (HT.sIx xs.length 0 lo)).take (HT.sIx xs.length xs.length hi-HT.sIx xs.length 0 lo),Ox _ rfl}
noncomputable def j8:V->Bool
 | .non=>true
 | .bl _=>true
 | .int _=>true
 | .str _=>true
 |_=>false
noncomputable def eqV:V->V->Bool
 | .non,.non=>true
 | .bl a,.bl b=>a==b
 | .bl a,.int b=>(if a then 1 else 0)==b
 | .int a,.bl b=>a==(if b then 1 else 0)
 | .int a,.int b=>a==b
 | .str a,.str b=>a==b
 |_,_=>false
theorem Hw{A:Ou}{s:N7}{y x:V}{u v:E9}(ry:UJ y u)(rx:UJ x v)(fy:j8 y=true)(fx:j8 x=true):Qm A s u v (eqV y x):=by
 cases y with
 |non=>
  cases ry;cases x with
  |non=>cases rx;exact SeqAt.EqAt.same _
  |bl b=>cases rx;exact SeqAt.EqAt.none_bool b
  |int b=>obtain⟨t,rfl⟩:=rx;exact SeqAt.EqAt.none_int b t
  |str b=>obtain⟨t,rfl⟩:=rx;exact SeqAt.EqAt.none_str b t
  |_=>exact absurd (show false=true from fx) Lv
 |bl a=>
  cases ry;cases x with
  |non=>cases rx;exact SeqAt.EqAt.bool_none a
  |bl b=>cases rx;exact SeqAt.EqAt.bool_bool a b
  |int b=>obtain⟨t,rfl⟩:=rx;exact SeqAt.EqAt.bool_int a b t
  |str b=>obtain⟨t,rfl⟩:=rx;exact SeqAt.EqAt.bool_str a b t
  |_=>exact absurd (show false=true from fx) Lv
 |int a=>
  obtain⟨t',rfl⟩:=ry;cases x with
  |non=>cases rx;exact SeqAt.EqAt.int_none a t'
  |bl b=>cases rx;exact SeqAt.EqAt.int_bool a t' b
  |int b=>obtain⟨t,rfl⟩:=rx;exact Q4 a t' b t
  |str b=>obtain⟨t,rfl⟩:=rx;exact Sy a t' b t
  |_=>exact absurd (show false=true from fx) Lv
 |str a=>
  obtain⟨t',rfl⟩:=ry;cases x with
  |non=>cases rx;exact SeqAt.EqAt.str_none a t'
  |bl b=>cases rx;exact SeqAt.EqAt.str_bool a t' b
  |int b=>obtain⟨t,rfl⟩:=rx;exact Sz a t' b t
  |str b=>obtain⟨t,rfl⟩:=rx;exact Q5 a t' b t
  |_=>exact absurd (show false=true from fx) Lv
 |_=>exact absurd (show false=true from fy) Lv
noncomputable def eqU(x:V)(u:E9):Bool:=match u with
 | .none=>eqV .non x
 | .bool b=>eqV (.bl b) x
 | .int i _=>eqV (.int i) x
 | .str z _=>eqV (.str z) x
 |_=>false
theorem Cv{x y:V}{u:E9}(r:UJ y u)(f:j8 y=true):eqU x u=eqV y x:=by
 cases y with
 |non=>cases r;rfl
 |bl b=>cases r;rfl
 |int i=>obtain⟨t,rfl⟩:=r;rfl
 |str z=>obtain⟨t,rfl⟩:=r;rfl
 |_=>exact absurd (show false=true from f) Lv
theorem nN{x:V}:∀{xs:List V}{us:List E9},UH xs us->xs.all j8=true->us.any (eqU x)=xs.any λy=>eqV y x
 |_,_,.nil,_=>rfl
 |y::xs,u::us,.cons r t,f=>by
  rw[NH,Mv]at f;rw[Np,Np,Cv r f.1,nN t f.2]
theorem kM{A:Ou}{s:N7}{x:V}{v:E9}(rx:UJ x v)(fx:j8 x=true):∀{xs:List V}{us:List E9},UH xs us->xs.all j8=true->∀u∈us,Qm A s u v (eqU x u)
 |_,_,.nil,_=>λu hu=>by cases hu
 |y::xs,u::us,.cons r t,f=>λu' hu=>by
  rw[NH,Mv]at f;rcases Lu.mp hu with rfl|hu
  ·rw[Cv r f.1];exact Hw r rx f.1 fx
  exact kM rx fx t f.2 u' hu
noncomputable def inV(x:V)(xs:List V):Bool:=xs.any λy=>eqV y x
noncomputable def rIn(K:Oc)(neg:Bool):R2:=λx y H Q=>∃p xs,y=.ref p/\(SqL K H p xs\/SqT K H p xs)/\j8 x=true/\xs.all j8=true/\Q (.bl (if neg then !inV x xs else inV x xs)) H
theorem AA:OpR X (Oy .In) (rIn X.K false):=by
 intro pins s σ H x y v u Q I rx ry h;obtain⟨p,xs,rfl,hq,fx,fs,q⟩:=h;cases ry;rcases hq with hq|hq
 ·obtain⟨its,r,pl,hz⟩:=I.list hq;refine SeqAt.in_listAt (eqU x) pl.isList (λw hw=>kM rx fx r fs w (by simpa using hw)) {.bl _,H,I,rfl,?_};rw[show its.toArray.any (eqU x)=its.any (eqU x) by simp,nN r fs];exact q
 obtain⟨its,r,pl,hz⟩:=I.tuple hq;refine SeqAt.in_tupleAt (eqU x) pl (λw hw=>kM rx fx r fs w (by simpa using hw)) {.bl _,H,I,rfl,?_};rw[show its.toArray.any (eqU x)=its.any (eqU x) by simp,nN r fs];exact q
theorem vP:OpR X (Oy .NotIn) (rIn X.K true):=by
 intro pins s σ H x y v u Q I rx ry h;obtain⟨p,xs,rfl,hq,fx,fs,q⟩:=h;cases ry;rcases hq with hq|hq
 ·obtain⟨its,r,pl,hz⟩:=I.list hq;refine SK (eqU x) pl.isList (λw hw=>kM rx fx r fs w (by simpa using hw)) {.bl _,H,I,rfl,?_};rw[show its.toArray.any (eqU x)=its.any (eqU x) by simp,nN r fs];exact q
 obtain⟨its,r,pl,hz⟩:=I.tuple hq;refine SeqAt.notIn_tupleAt (eqU x) pl (λw hw=>kM rx fx r fs w (by simpa using hw)) {.bl _,H,I,rfl,?_};rw[show its.toArray.any (eqU x)=its.any (eqU x) by simp,nN r fs];exact q
theorem vi:OpR X (Oy .NotIn) (λx y H Q=>∃i j,x=.str i/\y=.str j/\Q (.bl (!(!(O3 j i 0 j.length 1).isEmpty))) H):=by
 intro pins s σ H x y v u Q I rx ry h;obtain⟨i,j,rfl,rfl,q⟩:=h;obtain⟨t,rfl⟩:=rx;obtain⟨t',rfl⟩:=ry;exact notIn_str {.bl _,H,I,rfl,q}
theorem dh.or{f:E9}{r r':List V->Hp->VK->Prop}(h:dh X f r)(h':dh X f r'):dh X f (λxs H Q=>r xs H Q\/r' xs H Q):=by
 intro pins s σ H xs us Q I rs q;rcases q with q|q
 ·exact h pins s σ H xs us Q I rs q
 exact h' pins s σ H xs us Q I rs q
theorem we:dh X (.type "list") (λxs H Q=>∃p ys,xs=[.ref p]/\(SqL X.K H p ys\/SqT X.K H p ys)/\∀l,H l=UG->Q (.ref l) (upd H l (.lst ys))):=by
 intro pins s σ H xs us Q I r h;obtain⟨p,ys,rfl,hq,q⟩:=h;obtain⟨u,rfl,rx⟩:=UR r;cases rx;have fin:∀(its:List E9),UH ys its->ys.length<=sizeLine->∀(h':OC)(c':Nat),(∀b o',s.heap.get? b=UE o'->h'.get? b=UE o')->
   h'.get? s.heap.objs.size=UE { cls:=.type "list",dict:=UG,data:=.seq its.toArray c',slots:=#[] }->EP X pins σ Q (.ref s.heap.objs.size) { s with heap:=h' }:=λits r' hz h' c' kp e=>
  {.ref s.heap.objs.size,_,I.laid (t':=s.toks) kp (Ln _) (show cy X.prog X.w _ h' _ (.lst ys)from⟨hz,its,c',r',e⟩),rfl,q _ (I.hok.fresh (Ln _))}
 rcases hq with hq|hq
 ·obtain⟨its,r',pl,hz⟩:=I.list hq;have hlen:=r'.length;obtain⟨o,ho,hc,n,hd⟩:=pl.isList;exact call_list_seq p (.inl rfl) ho hc hd (λh' c' kp e=>fin its r' hz h' c' kp e) (by simp only[LM]<;>lia)
 obtain⟨its,r',pl,hz⟩:=I.tuple hq;have hlen:=r'.length;obtain⟨o,ho,hc,n,hd⟩:=pl;exact call_list_seq p (.inr rfl) ho hc hd (λh' c' kp e=>fin its r' hz h' c' kp e) (by simp only[LM]<;>lia)
def tyV(K:Oc)(T:String)(x:V)(H:Hp):Prop:=match x with
 | .str _=>T="str"
 | .int _=>T="int"
 | .ref p=>(T="list"/\∃xs,SqL K H p xs)\/(T="tuple"/\∃o,K.lookup p=UE o/\o.cls=.type "tuple"/\o.dict=UG)\/
   (T="dict"/\((∃kvs,H p=UE (.dK kvs))\/∃kvs,H p=UE (.dT kvs)))\/(T="set"/\∃S n,H p=UE (.set S n))
 |_=>False
theorem Dc{pins:List (N6×Obj)}{σ:St}{H:Hp}{s:N7}{T:String}{x:V}{v:E9}(I:Inv X pins σ H s)(r:UJ x v)(ty:tyV X.K T x H) :
  s.TypeIs v T/\∀a,v=.ref a->∃ob,s.heap.get? a=UE ob/\ob.dict=UG:=by
 cases x with
 |str z=>
  obtain⟨t,rfl⟩:=r
  cases (show T="str" from ty)
  exact{QF s z t,λ_ e=>nomatch e}
 |int i=>
  obtain⟨t,rfl⟩:=r
  cases (show T="int" from ty)
  exact{Ud s i t,λ_ e=>nomatch e}
 |ref p=>
  cases r
  rcases ty with⟨rfl,xs,hq⟩|⟨rfl,o,hk,hc,hd⟩|⟨rfl,hk⟩|⟨rfl,S,n,hk⟩
  ·obtain⟨its,_,pl,_⟩:=I.list hq;refine{pl.isList.typeIs,λa e=>?_};cases e;obtain⟨o,n,e,c,hd,_⟩:=pl;exact⟨o,e,hd⟩
  ·refine{⟨o,I.kIn p o hk,hc⟩,λa e=>?_};cases e;exact{o,I.kIn _ o hk,hd}
  ·have z:∃o,s.heap.get? p=UE o/\o.ExactDict:=by
    rcases hk with⟨kvs,hk⟩|⟨kvs,hk⟩
    ·obtain⟨_,_,_,_,o,_,_,e,ex,_⟩:=I.hok p _ hk;exact⟨o,e,ex⟩
    obtain⟨_,_,_,_,o,_,_,e,ex,_⟩:=I.hok p _ hk;exact⟨o,e,ex⟩
   obtain⟨o,e,ex⟩:=z;refine{⟨o,e,ex.1⟩,λa e2=>?_};cases e2;exact⟨o,e,ex.2.1⟩
  obtain⟨o,_,_,_,e,ex,_⟩:=I.hok p _ hk
  refine{⟨o,e,ex.1⟩,λa e2=>?_}
  cases e2
  exact⟨o,e,ex.2.1⟩
 |_=>exact O2 ty
noncomputable def GN(K:Oc)(T:String)(r:V->List V->Hp->VK->Prop)(to:TE):TE:=λσ H Q=>to σ H λx H1=>tyV K T x H1/\r x [] H1 Q
noncomputable def tBM(K:Oc)(T:String)(r:V->List V->Hp->VK->Prop)(to:TE)(t:TA):TE:=λσ H Q=>to σ H λx H1=>tyV K T x H1/\t σ H1 λxs H2=>r x xs H2 Q
variable{o e:Expr}{es:List Expr}{to:TE}{t:TA}{name:Str}{apos cpos:Pos}{T id:String}{r:V->List V->Hp->VK->Prop}
theorem BQ(pa:PlainAttrs T)(slot:Slot T name id)(hty:typeOf (.builtin id)=pure (.type "method_descriptor"))(hm:MtR X id r)(ho:PE X o to)
  (hbase:O5 o name X.env (OT o X.env)=OT o X.env:=by rfl) (hline:(apos.endLine==cpos.line)=true:=by rfl):PE X (.Call (.Attribute o name apos) [] [] cpos) (GN X.K T r to):=by
 intro pins s σ H Q I h
 refine wpAny_Call_method0_late hbase hline (thn (ho pins s σ H _ I h) λv s1 z9=>?_);obtain⟨x,H1,I1,r1,ty,q1⟩:=z9
 obtain⟨h1,h2⟩:=Dc I1 r1 ty
 exact{T,id,pa,slot,hty,h1,h2,RA rfl (PySem.evalArgs_none (hm pins s1 σ H1 x [] v [] Q I1 r1 .nil q1))}
theorem Ci(pa:PlainAttrs T)(slot:Slot T name id)(hty:typeOf (.builtin id)=pure (.type "method_descriptor"))(hm:MtR X id r)(ho:PE X o to)(ha:PA X (e::es) t)
  (hbase:O5 o name X.env (OT o X.env)=OT o X.env:=by rfl)
  (hfew:((O7 cpos (Oi (e::es) X.env)).all (λx=>!x.1)&&(PD cpos (O4 [] X.env)).all (λx=>x.1.isSome)
   &&decide ((e::es).length+([]:List Qc).length+(if([]:List Qc).isEmpty then 0 else 1)<30))=true:=by rfl)
  (hline:(apos.endLine==cpos.line)=true:=by rfl) (hs:Oi (e::es) X.env=(false,OT e X.env)::Oi es X.env:=by rfl) (hplain:(O7 cpos (Oi es X.env)).any (·.1)=false:=by rfl) :
  PE X (.Call (.Attribute o name apos) (e::es) [] cpos) (tBM X.K T r to t):=by
 intro pins s σ H Q I h
 refine wpAny_Call_method_late hbase hfew hline rfl (thn (ho pins s σ H _ I h) λv s1 z9=>?_);obtain⟨x,H1,I1,r1,ty,q1⟩:=z9
 obtain⟨h1,h2⟩:=Dc I1 r1 ty
 refine{T,id,pa,slot,hty,h1,h2,?_}
 have hA:=ha cpos pins s1 σ H1 _ I1 q1
 rw[hs]at hA⊢
 refine RA (by show(false||(O7 cpos (Oi es X.env)).any (·.1))=false;rw[hplain]<;>rfl) (Calls.evalArgs_plain ?_)
 exact thn hA λus s2 ⟨vs,H2,I2,r2,q2⟩=>hm pins s2 σ H2 x vs v us Q I2 r1 r2 q2
end
def MtM(X:Cx)(id:String)(r:V->List V->Hp->VK->Prop):Prop:=
 ∀(pins:List (N6×Obj))(s:N7)(σ:St)(H:Hp)(x:V)(xs:List V)(v:E9)(us:List E9)(Q:VK),Inv X pins σ H s->UJ x v->UH xs us->r x xs H Q->
  wpAny (Oh X.prog X.w) X.A (call (.builtin id) (v::us)) (EP X pins σ Q) X.xe s
theorem UH.one:∀{x:V}{us:List E9},UH [x] us->∃u,us=[u]/\UJ x u
 |_,_,.cons r .nil=>{_,rfl,r}
theorem UH.zero:∀{us:List E9},UH [] us->us=[]
 |_,.nil=>rfl
theorem UH.dropLast{xs:List V}{us:List E9}(h:UH xs us):UH xs.dropLast us.dropLast:=by
 induction h with
 |nil=>exact .nil
 |cons r t ih=>
  cases t with
  |nil=>exact .nil
  |cons q t'=>exact .cons r ih
theorem UH.rep{xs:List V}{us:List E9}(h:UH xs us):∀k:Nat,UH (OB k xs).flatten (OB k us).flatten
 |0=>.nil
 |k+1=>by
  rw[MH,MH,Nl,Nl];exact UH.append h (UH.rep h k)
theorem yN{α:Type}(l:List α):l.eraseIdx (l.length-1)=l.dropLast:=by
 induction l with
 |nil=>rfl
 |cons a r ih=>
  cases r with
  |nil=>rfl
  |cons b r=>
   have e:(a::b::r).length-1=((b::r).length-1)+1:=by
    have h1:(a::b::r).length=r.length+2:=rfl;have h2:(b::r).length=r.length+1:=rfl;lia
   rw[e,List.eraseIdx_cons_succ,ih];all_goals rfl
theorem US(its:List E9):∀(k:Nat)(acc:List E9),
  Ue (λx1 x2=>x1++x2) acc.toArray (OB k its.toArray)=(acc++(OB k its).flatten).toArray
 |0,acc=>by simp
 |k+1,acc=>by
  have e:acc.toArray++its.toArray=(acc++its).toArray:=by simp
  have e2:(acc++its)++(OB k its).flatten=acc++(OB (k+1) its).flatten:=by
   rw[MH,Nl,Lz]
  rw[<-e2,<-US its k (acc++its),<-e,MH,MN]
section
variable{X:Cx}{pins:List (N6×Obj)}{σ:St}{H:Hp}{s:N7}{l b:N6}{xs ys zs:List V}
theorem Inv.FI{its its':List E9}{n:Nat}{f:Array E9->Array E9}{t':Nat}(I:Inv X pins σ H s)(hH:H l=UE (.lst xs))
  (e:s.heap.get? l=UE { cls:=.type "list",data:=.seq its.toArray n }) (hf:f its.toArray=its'.toArray) (hv:UH ys its') (hz:ys.length<=sizeLine) :
  Inv X pins σ (upd H l (.lst ys)) { s with heap:=s.heap.update l (Pb f),toks:=t' }:=by
 have q:=PySem.IsL.update e f
 rw[hf]at q
 refine I.write (x:=l) (e:=l) (by rw[hH];exact trivial) (.inl rfl) (λb' u hb hu=>(PZ s.heap (Pb f) (LU hb)).trans hu) {_,q} ?_
 exact{hz,its',_,hv,q}
theorem Inv.G0{its:List E9}{t':Nat}(I:Inv X pins σ H s)(hv:UH ys its)(hz:ys.length<=sizeLine) :
  Inv X pins σ (upd H s.heap.objs.size (.lst ys)) { s with heap:=s.heap.push { cls:=.type "list",data:=.seq its.toArray },toks:=t' }:=
 I.laid (λ_ _ q=>Od _ q) (Ln _) {hz,its,0,hv,Ox _ rfl}
theorem Inv.fresh(I:Inv X pins σ H s):H s.heap.objs.size=UG:=I.hok.fresh (Ln _)
theorem Inv.wB(I:Inv X pins σ H s)(hH:H l=UE (.lst xs)):xs.length<=sizeLine/\∃(its:List E9)(n:Nat),UH xs its/\xs.length=its.length/\s.heap.get? l=UE { cls:=.type "list",data:=.seq its.toArray n }:=by
 obtain⟨z,its,n,r,e⟩:=I.hok l _ hH;exact⟨z,its,n,r,r.length,e⟩
theorem xT{n:Nat}(h:n<=sizeLine):Pz n=false:=by
 unfold Pz;exact decide_eq_false (by lia)
end
section
variable{X:Cx}
inductive qu(x:V)(vs:List V)(H:Hp)(Q:VK):Prop
 |mk(l:N6)(xs:List V)(y:V)(h0:x=.ref l)(h1:vs=[y])(h2:H l=UE (.lst xs))(h3:xs.length<sizeLine)(q:Q .non (upd H l (.lst (xs++[y])))):qu x vs H Q
theorem tN:MtM X "list.append" qu:=by
 intro pins s σ H x vs v us Q I rx rv h;obtain⟨l,xs,y,rfl,rfl,hH,hz,q⟩:=h;cases rx;obtain⟨u,rfl,ru⟩:=rv.one;obtain⟨z,its,n,r,hl,e⟩:=I.wB hH;refine Qn F.slot_list_append {_,e,rfl} F.entry_list_append (F.args_list_append_2 _ _) (PySem.list_append l its.toArray n u (by rw[LM];lia)) {e,?_};refine{.non,_,I.FI (its':=its++[u]) hH e (by simp) (r.append (.cons ru .nil)) ?_,rfl,q};rw[Ll,Lo];lia
def zx:V->List V->Hp->VK->Prop:=λx vs H Q=>∃l b xs zs,x=.ref l/\vs=[.ref b]/\H l=UE (.lst xs)/\H b=UE (.lst zs)/\xs.length+zs.length<=sizeLine/\Q .non (upd H l (.lst (xs++zs)))
theorem AO:MtM X "list.extend" zx:=by
 intro pins s σ H x vs v us Q I rx rv h;obtain⟨l,b,xs,zs,rfl,rfl,hH,hB,hz,q⟩:=h;cases rx;obtain⟨u,rfl,ru⟩:=rv.one;cases ru;obtain⟨z,its,n,r,hl,e⟩:=I.wB hH;obtain⟨z2,its2,n2,r2,hl2,e2⟩:=I.wB hB;have hsz:its.toArray.size+its2.toArray.size<=sizeLine:=by rw[LM,LM];lia
 have hlong:¬ (!its.toArray.isEmpty&&Pz (its.toArray.size+its2.toArray.size))=true:=by
  rw[xT hsz,Bool.and_false];exact Lv
 refine Qn F.slot_list_extend {_,e,rfl} F.entry_list_extend (F.args_list_extend_2 _ _)
  (AutoSeq1.list_extend_list_list_0 l its.toArray n b its2.toArray n2 hlong (by rw[LM];lia) (by lia)) {e,e2,?_}
 refine{.non,_,I.FI (its':=its++its2) hH e (by simp) (r.append r2) ?_,rfl,q};rw[Ll];lia
inductive Fq(x:V)(vs:List V)(H:Hp)(Q:VK):Prop
 |mk(l:N6)(xs:List V)(y:V)(h0:x=.ref l)(h1:vs=[])(h2:H l=UE (.lst xs))(h3:xs[xs.length-1]?=UE y)(q:Q y (upd H l (.lst xs.dropLast))):Fq x vs H Q
theorem Iu:MtM X "list.pop" Fq:=by
 intro pins s σ H x vs v us Q I rx rv h;obtain⟨l,xs,y,rfl,rfl,hH,hy,q⟩:=h;cases rx;have hus:=rv.zero;subst hus;obtain⟨z,its,n,r,hl,e⟩:=I.wB hH;obtain⟨u,hu,ru⟩:=r.get hy;have hy':its.toArray[its.toArray.size-1]?=UE u:=by
  show its.toArray[its.length-1]?=UE u;rw[<-L5,<-hl];exact hu
 refine Qn F.slot_list_pop {_,e,rfl} F.entry_list_pop (F.args_list_pop_1 _) (MeetsSeq.list_pop_last l its.toArray n u hy' (by rw[LM];lia)) {e,?_};refine{y,_,I.FI (its':=its.dropLast) hH e ?_ r.dropLast ?_,ru,q}
 ·show its.toArray.eraseIdxIfInBounds (its.toArray.size-1)=its.dropLast.toArray;rw[LM,List.eraseIdxIfInBounds_toArray,yN]
 rw[List.length_dropLast];lia
def Dm:V->List V->Hp->VK->Prop:=λx vs H Q=>∃l xs,x=.ref l/\vs=[]/\H l=UE (.lst xs)/\Q .non (upd H l (.lst []))
theorem Cg:MtM X "list.clear" Dm:=by
 intro pins s σ H x vs v us Q I rx rv h;obtain⟨l,xs,rfl,rfl,hH,q⟩:=h;cases rx;have hus:=rv.zero;subst hus;obtain⟨z,its,n,r,hl,e⟩:=I.wB hH;refine Qn F.slot_list_clear {_,e,rfl} F.entry_list_clear (F.args_list_clear_1 _) (AutoSeq1.list_clear_list_0 l its.toArray n (by rw[LM];lia)) {e,?_};exact{.non,_,I.FI (its':=[]) (ys:=[]) hH e rfl .nil (LH _),rfl,q}
noncomputable def Je:R2:=λx y H Q=>∃l b xs zs,x=.ref l/\y=.ref b/\H l=UE (.lst xs)/\H b=UE (.lst zs)/\xs.length+zs.length<=sizeLine/\∀p,H p=UG->Q (.ref p) (upd H p (.lst (xs++zs)))
theorem G6:OpR X (Po .Add) Je:=by
 intro pins s σ H x y v u Q I rx ry h;obtain⟨l,b,xs,zs,rfl,rfl,hH,hB,hz,q⟩:=h;cases rx;cases ry;obtain⟨z,its,n,r,hl,e⟩:=I.wB hH;obtain⟨z2,its2,n2,r2,hl2,e2⟩:=I.wB hB;refine PySem.P.add_list e e2 ?_ (by rw[LM,LM];lia);have ea:its.toArray++its2.toArray=(its++its2).toArray:=by simp
 rw[ea];exact{.ref _,_,I.G0 (t':=s.toks) (r.append r2) (by rw[Ll];lia),rfl,q _ I.fresh}
noncomputable def Kt:R2:=λx y H Q=>∃l k xs,x=.ref l/\y=.int k/\H l=UE (.lst xs)/\-(2^63)<=k/\k<2^63/\xs.length*k.toNat<=sizeLine/\
 ∀p,H p=UG->Q (.ref p) (upd H p (.lst (OB k.toNat xs).flatten))
theorem len_rep{α:Type}(xs:List α)(k:Nat):(OB k xs).flatten.length=k*xs.length:=by
 induction k with
 |zero=>simp
 |succ k ih=>rw[MH,Nl,Ll,ih,Nat.succ_mul,Nat.add_comm]
theorem Hs:OpR X (Po .Mult) Kt:=by
 intro pins s σ H x y v u Q I rx ry h;obtain⟨l,k,xs,rfl,rfl,hH,h1,h2,hz,q⟩:=h;cases rx;obtain⟨t,rfl⟩:=ry;obtain⟨z,its,n,r,hl,e⟩:=I.wB hH;have hlen:its.toArray.size*k.toNat<=sizeLine:=by rw[LM,<-hl];exact hz
 have hcap:¬ its.toArray.size*k.toNat>(2^63-1)/8:=by
  have:(sizeLine:Nat)<=(2^63-1)/8:=by decide
  lia
 have hfit:¬ (!Builtin.List.listFitsIndex k)=true:=by
  rw[fitsIndex_both h1 h2];exact Lv
 have hlong:¬ Pz (its.toArray.size*k.toNat)=true:=by
  rw[xT hlen];exact Lv
 have hnew:Ue (λx1 x2=>x1++x2) #[] (OB (if its.toArray.isEmpty=true then 0 else k.toNat) its.toArray)=(OB k.toNat its).flatten.toArray:=by
  have f0:∀m:Nat,Ue (λx1 x2=>x1++x2) #[] (OB m its.toArray)=(OB m its).flatten.toArray:=λm=>by
   have:=US its m [];rw[L6]at this;exact this
  rw[f0];cases its with
  |nil=>simp
  |cons a r'=>rw[if_neg (by simp)]
 refine wpAny_binaryOp_repeat_ref (T:="list") (U:="int") (by decide) {_,e,rfl} (λs'=>Ud s' k t) noFill_list_mul F.fills_int_mul TR repeat_list F.slot_int_index.lookup
  (Qn TR (Ud s k t) F.entry_int_rmul (F.args_int_rmul_2 _ _) (int___rmul___int_list k t l its.toArray n)
   {e,rfl,{_,e,rfl},Qn F.slot_list_mul {_,e,rfl} F.entry_list_mul (F.args_list_mul_2 _ _) (AutoListH.list___mul___list_int_3 l its.toArray n k t hfit hcap hlong) {e,?_}})
 rw[hnew];exact{.ref _,_,I.G0 (t':=s.toks) (r.rep k.toNat) (by rw[len_rep,Nat.mul_comm];exact hz),rfl,q _ I.fresh}
end
section
variable{prog:Program}{w:Of}{A:Ou}{E:E9->N7->Prop}{s:N7}
end
section
variable{X:Cx}
end
end L2
namespace Att
open PySem PySem.W PySem.Calls PyProof.Rows
theorem pL{P:PV}{h:OC}:∀(ns:List Int)(vs:List E9),WellAll P h vs (ns.map WData.int)->T3 vs ns:=by
 intro ns;induction ns with
 |nil=>
  intro vs w;rw[NY]at w;cases w;exact .nil
 |cons n ns ih=>
  intro vs w;rw[LC]at w;cases w with
  |cons a b=>
   cases a;exact .cons _ _ (ih _ b)
theorem AX{l:OpenLaw}{n:Nat}(hn:l.most=UE n){P:PV}{h:OC}{args:List WData}{vals:List E9}
  (hpre:l.row.toRowW.claim.pre args=true) (hwl:WellAll P h vals args) :
  ∃a vs ns,vals=[Oo a]/\args=[WData.list (ns.map WData.int)]/\h.get? a=UE { cls:=.type "list",data:=.seq vs.toArray }/\T3 vs ns/\ns.length<=n:=by
 have hsh:WShape.hasAll [] args [.list .int]=true:=(pre_splitW hpre).1
 have hc:l.pre.holds [] { args:=args }=true:=(pre_splitW hpre).2
 obtain⟨d,r,rfl,h1,h2⟩:=hasAllW_cons hsh
 obtain rfl:=hasAllW_nil h2
 obtain⟨xs,rfl,h3⟩:=hasW_list h1
 obtain⟨ns,rfl⟩:=items_int h3
 have hlen:ns.length<=n:=by
  unfold OpenLaw.pre at hc;have h4:(WTm.not (.lt (.lit (.int (n:Int))) (.len (.arg 0)))).holds [] { args:=[.list (ns.map .int)] }=true:=by
   have h4:=(holds_andW hc).1;rw[hn]at h4;exact h4
  have h5:=condW_of h4 (w_not (w_lt w_lit (w_len_list (w_arg rfl))));rw[Lm]at h5;refine Nat.le_of_not_lt λq=>?_;have q':(n:Int)<((ns.length:Nat):Int):=by lia
  first
   | (rw[decide_eq_true q']at h5;exact absurd h5 (by decide))
   | (simp at h5;lia)
 cases hwl with
 |cons w1 w2=>
  cases w2
  cases w1 with
  |list ho hall=>exact{_,_,ns,rfl,rfl,ho,pL ns _ hall,hlen}
theorem A6(l:OpenLaw)(args:List WData):l.row.toRowW.claim.post args (.bool true) args=true:=
 postW_of (r:=l.row.toRowW) (X:=(true==true))
  (show WShape.has [] (.bool true) .bool=true by first|rfl|decide|simp[WShape.has,WShape.arms,WShape.armsAll])
  (show(WTm.eq .res (.lit (.bool true))).value [] { args:=args,res:=UE (.bool true),after:=args }=UE (.bool (true==true))from w_eq_bool (w_res rfl) w_lit) rfl
theorem xq{l:OpenLaw}{n:Nat}{q:Program}{loose:List Str}{XP:(Str->Option E9)->OC->Prop}{YP:Of->OC->Prop}{d:DefRec}
  (hn:l.most=UE n) (hdf:d.params.defaults=[])
  (call:∀(w:Of)(s₀ s₁:N7)(mg mb:Str->Option E9)(fa:N6)(o:Obj)(pm cd doc:E9)(a:N6)(vs:List E9)(ns:List Int),
   Ground q loose [] XP w s₀ mg mb s₁.heap->YP w s₁.heap->
   s₁.heap.get? fa=UE o->o.data=.func (docDef d.name d.params d.body d.scope pm cd doc)->s₁.heap.CodeRec cd d.name->mg d.name=UE (.ref fa)->
   s₁.heap.get? a=UE { cls:=.type "list",data:=.seq vs.toArray }->T3 vs ns->ns.length<=n->s₁.gens=#[]->
   codeAny (Oh l.prog w) Se (.call (.ref fa) {[.ref a],[]}) (λr s'=>r=.ok (.ret (.bool true))/\OldK s₁.heap s'.heap/\s'.os=s₁.os/\Rf s'.gens) s₁) :
  WalkO q loose XP YP l.row.toRowW d [] (λf vs=>Ug f vs):=by
 intro w s₀ s₁ mg mb G Y fa o pm cd doc dV kV ho hd hcd hD hmg hg args vals as hpre hlay hrd hwl hlo
 obtain rfl:dV=.none:=Dflts.none hD hdf
 obtain rfl:kV=.none:=Dflts.noKw hD
 obtain⟨a,vs,ns,rfl,rfl,hobj,hints,hlen⟩:=AX hn hpre hwl
 refine enter_call (QV (call w s₀ s₁ mg mb fa o pm cd doc a vs ns G Y ho (fd_plain hd) hcd hmg hobj hints hlen hg) λr s' hq=>?_)
 obtain⟨rfl,h2,h3,h4⟩:=hq
 exact{.inl {.bool true,.bool true,[],rfl,λ_=>rfl,.bool true,A6 l _,λ_=>{Rh,λ_ hm=>(nomatch hm)}},h2,h3,h4}
section
variable{prog:Program}{w:Of}{A:Ou}{E:E9->N7->Prop}{s:N7}{K:Frag}
end
end Att
namespace L2
open PySem PySem.Spec PyProof.Rows
theorem tS:∀{vs:List E9}{ns:List Int},T3 vs ns->UH (ns.map V.int) vs
 |_,_,.nil=>.nil
 |_,_,.cons n t h=>.cons ⟨t,rfl⟩ (tS h)
def Hv(H:Hp):Prop:=∀b,H b=UG\/∃o xs,H b=UE (.frz o (.lst xs))
theorem Dn{P:Program}{w:Of}{K:Oc}{mg mb:Str->Option E9}{CX:CXT}{k:Nat}{fa a:N6}{fd:Pp}{x:Str}{sp:Sp}{s₁:N7}{vs:List E9}{ns:List Int}
  (KX:K.In s₁.heap) (hns:s₁.heap.Ns Oz mg) (hb:s₁.heap.Ns Rt mb) (hbb:∀x:Str,x≠"__name__"->mb x=Pu x) (hlim:s₁.heap.NoLimit) (hg:s₁.gens=#[])
  (ha:s₁.heap.get? a=UE { cls:=.type "list",data:=.seq vs.toArray }) (hi:T3 vs ns) (hl:ns.length<=sizeLine) (hr:dD k Se)
  (F:∀base:OC,K.In base->base.Ns Oz mg->jq P w K mg base CX k fa fd [x] sp) (hbind:∀(s:N7)(u:E9),Ry s fd {[u],[]} [(x,u)])
  (hsp:∀H:Hp,Hv H->SqL K H a (ns.map V.int)->sp [.ref a] H (λv _=>v=.bl true) λ_ _ _=>False)
  (hCX:∀H e s',CX [] H s₁ (λ_ _ _=>False) e s'->False) :
  codeAny (Oh P w) Se (.call (.ref fa) {[.ref a],[]}) (λr s'=>r=.ok (.ret (.bool true))/\OldK s₁.heap s'.heap/\s'.os=s₁.os/\Rf s'.gens) s₁:=by
 have rv:=tS hi
 have lenV:=hi.length
 have core:∀H:Hp,Hv H->SqL K H a (ns.map V.int)->HOk P w H s₁.heap->(∀b,H b≠UG->b=a)->(H a≠UG->K.lookup a=UG)->
   codeAny (Oh P w) Se (.call (.ref fa) {[.ref a],[]}) (λr s'=>r=.ok (.ret (.bool true))/\OldK s₁.heap s'.heap/\s'.os=s₁.os/\Rf s'.gens) s₁:=by
  intro H hO hS hok hA hK
  have base_of:∀{b:N6}{o:Obj},s₁.heap.get? b=UE o->H b=UG->(wj s₁.heap H).get? b=UE o:=λe n=>Dw e n
  have noA:∀{b:N6}{o:Obj}{es:Array Tn}{ep:Nat},s₁.heap.get? b=UE o->o.data=.dict es ep->H b=UG:=λ{b o es ep} e d=>by
   cases q:H b with
   |none=>rfl
   |some u=>
    have e':b=a:=hA b (by rw[q];simp);subst e';rw[ha]at e;cases e;have d':Data.seq vs.toArray _=Data.dict es ep:=d;cases d'
  have nsK:∀{b:N6}{m:Str->Option E9},s₁.heap.Ns b m->(wj s₁.heap H).Ns b m:=λ{b m} ⟨o,es,ep,e,d,r⟩=>{o,es,ep,base_of e (noA e d),d,r}
  have hKb:K.In (wj s₁.heap H):=λb o e=>base_of (KX b o e) (by
   cases q:H b with
   |none=>rfl
   |some u=>
    have e':b=a:=hA b (by rw[q];simp);subst e';rw[hK (by rw[q];simp)]at e;cases e)
  have hM:Mod K mg (wj s₁.heap H):={hKb,nsK hns,⟨mb,nsK hb,hbb⟩,let ⟨mc,h1,h2⟩:=hlim;⟨mc,nsK h1,h2⟩}
  have e0:yI P w K mg (wj s₁.heap H) Se [] s₁ H:={rfl,hM,λb o e=>EW e,Nw (Bj _ _),trivial,λb hb=>absurd (show b∈([]:List N6)from hb) (by simp),hok,.of_eq hg}
  refine QV ((F _ hKb (nsK hns)).run Se [] s₁ H {[.ref a],[]} [.ref a] [.ref a] _ _ hr e0 (hbind s₁ (.ref a)) (.cons rfl .nil) (hsp H hO hS)) λr s' h=>?_
  cases r with
  |error e=>exact(hCX H e s' h).elim
  |ok fl=>
   cases fl with
   |next=>exact O2 h
   |brk=>exact O2 h
   |cont=>exact O2 h
   |ret u=>
    obtain⟨v,H',os,bare,un,hok',r',q⟩:=h
    have q':v=.bl true:=q
    subst q'
    obtain rfl:u=SE true:=r'
    refine{rfl,OldK.of_keep λb o e=>?_,os,bare}
    cases q:H b with
    |none=>exact un.keep b o e q (by intro z;exact absurd (show b∈([]:List N6)from z) (by simp)) (by simp)
    |some u=>
     rcases hO b with z|⟨ob,xs,z⟩
     ·rw[q]at z;cases z
     have z2:=un.sY b ob _ z
     obtain⟨e1,_⟩:=hok b _ z
     obtain⟨e2,_⟩:=hok' b _ z2
     rw[e]at e1;cases e1
     exact e2
 cases hk:K.lookup a with
 |some o=>
  have e:=KX a o hk
  rw[ha]at e
  cases e
  refine core (λ_=>UG) (λ_=>.inl rfl) (.inr {_,vs.toArray,_,hk,rfl,rfl,rfl,by rw[LM,lenV];exact hl,by simpa using rv}) (λb u z=>by have z':(UG:Option HO)=UE u:=z;cases z') (λb z=>absurd rfl z) λz=>absurd rfl z
 |none=>
  refine core (λb=>if b=a then UE (.frz { cls:=.type "list",data:=.seq vs.toArray } (.lst (ns.map V.int)))else UG) (λb=>?_) (.inl (.inr {{ cls:=.type "list",data:=.seq vs.toArray },if_pos rfl})) (λb u z=>?_) (λb z=>?_) λ_=>hk
  ·by_cases hb:b=a
   ·exact .inr {_,_,if_pos hb}
   exact .inl (if_neg hb)
  ·by_cases hb:b=a
   ·have z':=(if_pos hb).symm.trans z;cases z';subst hb;exact{ha,by rw[Lm];exact hl,vs,_,rv,ha}
   have z':=(if_neg hb).symm.trans z;cases z'
  by_cases hb:b=a
  ·exact hb
  exact absurd (if_neg hb) z
theorem Fn{l:To}{n k:Nat}{q:Program}{loose:List Str}{XP:(Str->Option E9)->OC->Prop}{YP:Of->OC->Prop}{d:DefRec}{K:PV->Oc}{CX:Of->CXT}{sp:Of->Sp}{x:Str}
  (hn:l.most=UE n) (hn2:n<=sizeLine) (hdf:d.params.defaults=[]) (hr:dD k Se)
  (hY:∀(w:Of)(h:OC),YP w h->(K w.params).In h)
  (F:∀(w:Of)(mg:Str->Option E9)(fa:N6)(h:OC),(K w.params).In h->h.Ns Oz mg->mg d.name=UE (.ref fa)->
   ∃fd:Pp,(∀(s:N7)(u:E9),Ry s fd {[u],[]} [(x,u)])/\
    ∀base:OC,(K w.params).In base->base.Ns Oz mg->jq l.prog w (K w.params) mg base (CX w) k fa fd [x] (sp w))
  (hsp:∀(w:Of)(H:Hp)(a:N6)(ns:List Int),ns.length<=n->Hv H->SqL (K w.params) H a (ns.map V.int)->sp w [.ref a] H (λv _=>v=.bl true) λ_ _ _=>False)
  (hCX:∀(w:Of)(H:Hp)(s:N7)(e:E9)(s':N7),CX w [] H s (λ_ _ _=>False) e s'->False) :
  W.WalkO q loose XP YP l.row.toRowW d [] (λf vs=>Ug f vs):=by
 refine Att.xq hn hdf λw s₀ s₁ mg mb fa o pm cd doc a vs ns G Y ho hd hcd hmg hobj hints hlen hg=>?_
 have KX:=hY w _ Y
 obtain⟨fd,hb,hF⟩:=F w mg fa _ KX G.T.g hmg
 exact Dn KX G.T.g G.T.b G.T.builtins G.T.nolimit hg hobj hints (LG hlen hn2) hr hF hb (λH hO hS=>hsp w H a ns hlen hO hS) λH e s'=>hCX w H s₁ e s'
noncomputable abbrev CX0:CXT:=λ_ _ _ _ _ _=>False
noncomputable abbrev E0:XK:=λ_ _ _=>False
theorem uG{X:Cx}:UP CX0 X E0:=λ_ _ _ _ _ _ _ h=>h.elim
structure Fun(K:Oc)(x qual:Str)(st:OH)(f:N6)(fd:Pp):Prop where
 ex:∃(oc:E9)(od:Option N6)(kV doc pm:E9)(an:Option N6)(cdv ct:E9)(osl:Array (Option E9)),
  fd=Pj x qual (bG st) (bh st) (aq st) .none kV doc pm an cdv ct/\K.lookup f=UE ⟨oc,od,.func fd,osl⟩/\QK K cdv qual=true
 kp:Pf K (.ref f)=true
section
variable{P:Program}{w:Of}{K:Oc}{mg:Str->Option E9}{base:OC}
theorem Fun.ok{x qual:Str}{st:OH}{f:N6}{fd:Pp}{N ps:List Str}{k:Nat}{sp:Sp}(F:Fun K x qual st f fd)(S:aB N ps (aq st))(len:∀vs H Q E,sp vs H Q E->vs.length=ps.length)
  (hbody:∀(cdv:E9)(A:Ou)(outer:List Env)(s:N7)(H:Hp)(vs:List V)(Q:VK)(E:XK),dD k (A.deeper (Qu qual (aq st) s.heap.objs.size f cdv))->sp vs H Q E->
   ∃t,PSs (vQ CX0 P w K mg base N qual (aq st) f cdv A outer s H E).nox (bh st) t/\t { nx:=λ_ H'=>Q .non H',rt:=Q } (UQ N vs) H):jq P w K mg base CX0 (k+1) f fd ps sp:=by
 obtain⟨oc,od,kV,doc,pm,an,cdv,ct,osl,rfl,lk,hcd⟩:=F.ex
 refine Gf lk hcd S len λA outer s H vs Q E hr hsp=>?_
 obtain⟨t,h,q⟩:=hbody cdv A outer s H vs Q E hr hsp
 exact⟨t,h.nox,q⟩
theorem Fun.binds{x qual:Str}{st:OH}{f:N6}{fd:Pp}{ps:List Str}(F:Fun K x qual st f fd)
  (h:∀(kV doc pm:E9)(an:Option N6)(cdv ct:E9)(us:List E9),us.length=ps.length->bindArgs (Pj x qual (bG st) (bh st) (aq st) .none kV doc pm an cdv ct) {us,[]}=pure (ps.zip us)):UL K fd ps []:=by
 obtain⟨oc,od,kV,doc,pm,an,cdv,ct,osl,rfl,lk,hcd⟩:=F.ex
 exact .all (h kV doc pm an cdv ct)
theorem vj{x qual:Str}{st:OH}{f:N6}{oc:E9}{od an:Option N6}{osl:Array (Option E9)}{kV doc pm cdv ct:E9}(l:K.lookup f=UE {oc,od,.func (Pj x qual (bG st) (bh st) (aq st) .none kV doc pm an cdv ct),osl})
  (c:QK K cdv qual=true) (k:Pf K (.ref f)=true):Fun K x qual st f (Pj x qual (bG st) (bh st) (aq st) .none kV doc pm an cdv ct):={⟨oc,od,kV,doc,pm,an,cdv,ct,osl,rfl,l,c⟩,k}
end
theorem aQ{n:Nat}(h:n<=1000):n<sizeLine:=ND h (by decide)
section
variable{X:Cx}
end
theorem bg{A B:Prop}(h:B):if false=true then A else B:=by
 rw[if_neg Lv];exact h
theorem bW{A B:Prop}(h:A):if true=true then A else B:=by
 rw[if_pos rfl];exact h
theorem aR{c A B:Prop}[Decidable c](h1:c->A)(h2:¬ c->B):if c then A else B:=by
 by_cases h:c
 ·rw[if_pos h];exact h1 h
 rw[if_neg h];exact h2 h
def aj(H H':Hp):Prop:=∀b o,H b=UE o->H' b=UE o
theorem aj.refl(H:Hp):aj H H:=λ_ _ h=>h
theorem aj.trans{H H1 H2:Hp}(a:aj H H1)(b:aj H1 H2):aj H H2:=λc o h=>b c o (a c o h)
theorem aj.free{H H':Hp}(e:aj H H'){l:N6}(h:H' l=Px):H l=Px:=by
 cases q:H l with
 |none=>rfl
 |some o=>
  rw[e l o q]at h;cases h
theorem aj.seq{K:Oc}{H H':Hp}{a:N6}{xs:List V}(e:aj H H')(h:SqL K H a xs):SqL K H' a xs:=by
 rcases h with(h|⟨o,h⟩)|h
 ·exact .inl (.inl (e _ _ h))
 ·exact .inl (.inr {o,e _ _ h})
 exact .inr h
theorem oQ{α β:Type}{l:List α}{f:α->β->Sem (ForInStep β)}(g:β->α->β)(c:β)(h:∀x∈l,∀c,f x c=pure (.yield (g c x))) :
  forIn l c f=pure (l.foldl g c):=by
 induction l generalizing c with
 |nil=>rfl
 |cons x l ih=>
  rw[TU,h x LB,pure_bind]
  exact ih _ λy hy=>h y (Lx _ hy)
noncomputable def fo(env:Env)(cs:List (Str×N6))(x:Str×PH):List (Str×N6):=
 if x.2== .free then(x.1,(env.cells.lookup x.1).getD 0)::cs else cs
noncomputable def rq(env:Env)(names:List (Str×PH)):List (Str×N6):=names.foldl (fo env) []
theorem p5{scope:Qq}{env:Env}(h:∀x∈scope.names,x.2=.free->∃c,env.cells.lookup x.1=UE c):closureFor scope env=pure (rq env scope.names):=by
 simp only[closureFor];rw[oQ (fo env) [] (λx hx c=>by
  obtain⟨n,kind⟩:=x;cases hk:kind==O6 with
  |false=>simp only[fo,hk,MK,if_false]
  |true=>
   obtain⟨a,ha⟩:=h (n,kind) hx (by simpa using hk);have ha':env.cells.lookup n=UE a:=ha;simp only[fo,hk,if_true,cellOf,ha',Option.getD_some,pure_bind])]
 rfl
theorem rM{env:Env}:∀{names:List (Str×PH)}{cs:List (Str×N6)}{n:Str}{c:N6},(n,c)∈names.foldl (fo env) cs->(n,c)∈cs\/((n,O6)∈names/\c=(env.cells.lookup n).getD 0)
 | [],_,_,_,h=>.inl h
 | (m,k)::r,cs,n,c,h=>by
  rcases rM (names:=r) (cs:=fo env cs (m,k)) h with h|⟨h,e⟩
  ·unfold fo at h;by_cases hk:(k==O6)=true
   ·rw[if_pos hk]at h;rcases Lu.mp h with e|h
    ·cases e;have hk':k=.free:=by simpa using hk
     subst hk';exact .inr ⟨LB,rfl⟩
    exact .inl h
   rw[if_neg hk]at h;exact .inl h
  exact .inr {Lx _ h,e}
theorem uo{env:Env}{p:Str×N6}:∀{names:List (Str×PH)}{cs:List (Str×N6)},p∈cs->p∈names.foldl (fo env) cs
 | [],_,h=>h
 |x::r,cs,h=>uo (names:=r) (cs:=fo env cs x) (by
  unfold fo;split
  ·exact Lx _ h
  exact h)
theorem vd{env:Env}{n:Str}:∀{names:List (Str×PH)}{cs:List (Str×N6)},(n,O6)∈names->(n,(env.cells.lookup n).getD 0)∈names.foldl (fo env) cs
 |x::r,cs,h=>by
  rcases Lu.mp h with e|h
  ·subst e;refine uo (names:=r) (cs:=fo env cs (n,.free)) ?_;unfold fo;rw[if_pos (by rfl)];exact LB
  exact vd (names:=r) h
theorem iP{α:Type}:∀{l:List (Str×α)}{n:Str}{c:α},(n,c)∈l->∃c',l.lookup n=UE c'
 | (k,v)::r,n,c,h=>by
  rw[MI];cases hb:n==k with
  |true=>exact⟨v,rfl⟩
  |false=>
   rcases Lu.mp h with e|h
   ·cases e;simp at hb
   exact iP h
theorem fu:∀{names:List (Str×PH)}{k:Nat}{acc:List (Str×N6)}{n:Str}{c:N6},(n,c)∈O1 k names acc->(n,c)∈acc\/(k<=c/\(n,OV)∈names)
 | [],_,_,_,_,h=>.inl h
 | (m,kd)::r,k,acc,n,c,h=>by
  unfold O1 at h;by_cases hk:(kd==OV)=true
  ·rw[if_pos hk]at h;have hk':kd=.cell:=by simpa using hk
   subst hk';rcases fu (names:=r) h with h|⟨h1,h2⟩
   ·rcases Lu.mp h with e|h
    ·cases e;exact .inr {Ln _,LB}
    exact .inl h
   exact .inr {by lia,Lx _ h2}
  rw[if_neg hk]at h;rcases fu (names:=r) h with h|⟨h1,h2⟩
  ·exact .inl h
  exact .inr {h1,Lx _ h2}
theorem iU:∀{names:List (Str×PH)}{k:Nat}{acc:List (Str×N6)},(∀n c,(n,c)∈acc->c<k)->(∀n n' c,(n,c)∈acc->(n',c)∈acc->n=n')->
  ∀{n n':Str}{c:N6},(n,c)∈O1 k names acc->(n',c)∈O1 k names acc->n=n'
 | [],_,_,_,hi,_,_,_,h,h'=>hi _ _ _ h h'
 | (m,kd)::r,k,acc,hl,hi,n,n',c,h,h'=>by
  unfold O1 at h h';by_cases hk:(kd==OV)=true
  ·rw[if_pos hk]at h h';refine iU (names:=r) (acc:=(m,k)::acc) (λa b hab=>?_) (λa a' b ha ha'=>?_) h h'
   ·rcases Lu.mp hab with e|e
    ·cases e;exact Nc _
    exact MA (hl _ _ e)
   rcases Lu.mp ha with e|e<;>rcases Lu.mp ha' with e'|e'
   ·cases e;cases e';rfl
   ·cases e;exact absurd (hl _ _ e') (MF _)
   ·cases e';exact absurd (hl _ _ e) (MF _)
   exact hi _ _ _ e e'
  rw[if_neg hk]at h h';exact iU (names:=r) hl hi h h'
theorem gr:∀{names:List (Str×PH)}{h:OC}{acc:List (Str×N6)}{n:Str}{c:N6},(n,c)∈O1 h.objs.size names acc->(n,c)∈acc\/(QG h names).IsCell c UG
 | [],_,_,_,_,q=>.inl q
 | (m,kd)::r,h,acc,n,c,q=>by
  unfold O1 at q;unfold QG;by_cases hk:(kd==OV)=true
  ·rw[if_pos hk]at q;rw[if_pos hk];have e:h.objs.size+1=(h.push { cls:=.type "cell",data:=.cell UG }).objs.size:=(PC ..).symm;rw[e]at q;rcases gr (names:=r) q with q|q
   ·rcases Lu.mp q with e'|q
    ·cases e';exact .inr {_,Qk r _ _ _ (Ox _ rfl),rfl}
    exact .inl q
   exact .inr q
  rw[if_neg hk]at q;rw[if_neg hk];exact gr (names:=r) q
theorem i5{x:Str}:∀{names:List (Str×PH)}{k:Nat}{acc:List (Str×N6)},(x,OV)∉names->(O1 k names acc).lookup x=acc.lookup x
 | [],_,_,_=>rfl
 | (m,kd)::r,k,acc,h=>by
  unfold O1;have hr:(x,OV)∉r:=λz=>h (Lx _ z);by_cases hk:(kd==OV)=true
  ·have hk':kd=.cell:=by simpa using hk
   subst hk';rw[if_pos hk,i5 hr,MI];have ne:(x==m)=false:=by
    cases hb:x==m with
    |false=>rfl
    |true=>exact absurd (by rw[beq_iff_eq.mp hb];exact LB) h
   rw[ne]
  rw[if_neg hk];exact i5 hr
section
variable{M:Model}{A:Ou}{E:E9->N7->Prop}{s:N7}
theorem xl{scope:Qq}{globals:N6}{cl:List (Str×N6)}{qual:Str}{AN:Env}{Q:Env->N7->Prop}
  (h:Q (newEnv scope s.heap.objs.size globals (O1 (s.heap.objs.size+1) scope.names cl) qual UG .none (UE AN) Rt) { s with heap:=QG (s.heap.push { cls:=.type "dict",data:=.dict #[] }) scope.names }) :
  wpAny M A (Uh scope globals cl [] qual UG .none (UE AN)) Q E s:=by
 simp only[Uh,SM,if_true]
 refine N5 (wpAny_alloc ?_)
 refine N5 (wpAny_layCells _ (λname kind cells=>by cases hkc:kind==OV<;>simp[hkc]) _ _ _ _ ?_)
 rw[show({ s with heap:=s.heap.push { cls:=.type "dict",data:=.dict #[] } }:N7).heap.objs.size=s.heap.objs.size+1 from PC ..]
 refine N5 ?_
 rw[Ui]
 exact N9 (N9 h)
end
structure CB where
 C:N6
 ex:List N6
 s:N7
 H:Hp
noncomputable def cxC(X:Cx)(N:List Str)(scope:Qq)(b:CB):Cx:={ X with
 N:=N
 s₀:=b.s
 H₀:=b.H
 env:=compEnvC scope (O1 (b.C+1) scope.names (rq X.env scope.names)) b.C X.env
 outer:=X.stack
 ex:=b.ex
 fn:=λx=>scope.names.lookup x==UE .cell
 pn:=[]
 xe:=λ_ _=>False }
theorem lH{env:Env}{x:Str}:∀{names:List (Str×PH)},
  (names.map λ(n,k)=>if(k==O6&&env.scope.kind== .function&&env.kindOf n==UE .cell)then(n,OV)else(n,k)).lookup x=
   (names.lookup x).map λk=>if(k==O6&&env.scope.kind== .function&&env.kindOf x==UE .cell)then OV else k
 | []=>rfl
 | (n,k)::r=>by
  have ih:=@lH env x r;show P6 x ((if(k==O6&&env.scope.kind== .function&&env.kindOf n==UE .cell)=true then(n,OV)else(n,k))::_)=_;cases hx:x==n with
  |true=>
   have e:x=n:=beq_iff_eq.mp hx;subst e;by_cases hc:(k==O6&&env.scope.kind== .function&&env.kindOf x==UE .cell)=true
   ·rw[if_pos hc];simp only[MI,hx,MB,hc,if_true]
   rw[if_neg hc];simp only[MI,hx,MB];rw[if_neg hc]
  |false=>
   by_cases hc:(k==O6&&env.scope.kind== .function&&env.kindOf n==UE .cell)=true
   ·rw[if_pos hc];simp only[MI,hx];exact ih
   rw[if_neg hc];simp only[MI,hx];exact ih
structure dv(psc:Qq)(PN N:List Str)(own:Nat)(fr:List Nat)(scope:Qq):Prop where
 kind:scope.kind=.function
 nd:(scope.names.map (·.1)).Nodup
 free:∀x∈scope.names,x.2=.free->psc.names.lookup x.1=UE .cell\/psc.names.lookup x.1=UE .free
 len:N.length=own+fr.length
 frn:∀i,i<fr.length->N[own+i]?=(fr[i]?).bind λj=>PN[j]?
 frk:∀i,i<fr.length->∀y,N[own+i]?=UE y->scope.names.lookup y=UE .free
noncomputable def zN(psc:Qq)(PN N:List Str)(own:Nat)(fr:List Nat)(scope:Qq):Bool:=
 scope.kind== .function&&decide (scope.names.map (·.1)).Nodup&&scope.names.all (λx=>x.2 != .free||(psc.names.lookup x.1==UE .cell||psc.names.lookup x.1==UE .free))&&
  (N.length==own+fr.length)&&((fr.map λj=>PN[j]?)==(N.drop own).map UE)&&(N.drop own).all (λy=>scope.names.lookup y==UE .free)
theorem dv.of{psc:Qq}{PN N:List Str}{own:Nat}{fr:List Nat}{scope:Qq}(h:zN psc PN N own fr scope=true):dv psc PN N own fr scope:=by
 unfold zN at h;simp only[Mv]at h;obtain⟨⟨⟨⟨⟨h1,h2⟩,h3⟩,h4⟩,h5⟩,h6⟩:=h;have h4':N.length=own+fr.length:=eq_of_beq h4;have h5':(fr.map λj=>PN[j]?)=(N.drop own).map UE:=eq_of_beq h5;have dr:∀i,N[own+i]?=(N.drop own)[i]?:=λi=>by rw[ML]
 refine{eq_of_beq h1,of_decide_eq_true h2,λx hx hk=>?_,h4',λi hi=>?_,λi hi y hy=>?_}
 ·have q:=MJ.mp h3 x hx;rw[hk]at q;simpa using q
 ·have q:=congrArg (λl=>l[i]?) h5';simp only[LY]at q;rw[dr];have ej:fr[i]?=UE fr[i]:=Lw hi;rw[ej]at q⊢;cases e:(N.drop own)[i]? with
  |none=>rw[e]at q;cases q
  |some y=>
   rw[e]at q;exact(Oj q).symm
 rw[dr]at hy;have q:=MJ.mp h6 y (LW hy);simpa using q
noncomputable def cSt(own:Nat)(fr:List Nat)(σ:St):St:=OB own UG++fr.map λj=>(σ[j]?).getD UG
theorem gj{α:Type}:∀{l:List (Str×α)}{n:Str}{k:α},(l.map (·.1)).Nodup->(n,k)∈l->l.lookup n=UE k
 | (m,v)::r,n,k,nd,h=>by
  rw[LC,Mq]at nd;rw[MI];rcases Lu.mp h with e|h
  ·cases e;simp
  have ne:(n==m)=false:=by
   cases hb:n==m with
   |false=>rfl
   |true=>exact absurd (LN.mpr {(n,k),h,beq_iff_eq.mp hb}) nd.1
  rw[ne];exact gj nd.2 h
section
variable{X:Cx}{pins:List (N6×Obj)}{σ:St}{H:Hp}{s:N7}{N:List Str}{own:Nat}{fr:List Nat}{scope:Qq}
theorem dv.cells(S:dv X.env.scope X.N N own fr scope)(ok:X.Ok):∀x∈scope.names,x.2=.free->∃c,X.env.cells.lookup x.1=UE c:=λx hx hk=>
 ok.has x.1 (S.free x hx hk)
theorem dv.cl(S:dv X.env.scope X.N N own fr scope)(ok:X.Ok){n:Str}{c:N6}(h:(n,c)∈rq X.env scope.names):X.env.cells.lookup n=UE c:=by
 rcases rM h with h|⟨h,e⟩
 ·cases h
 obtain⟨c',e'⟩:=S.cells ok (n,.free) h rfl;have e2:X.env.cells.lookup n=UE c':=e';rw[e2]at e;rw[e,e2];rfl
theorem Cz{D C:N6}{h':OC}{fp:List N6}(S:dv X.env.scope X.N N own fr scope)(I:Inv X pins σ H s)(hD:D=s.heap.objs.size)(hC:C=s.heap.objs.size+1)
  (hh:h'=QG ((s.heap.push { cls:=.type "list",data:=.seq #[] }).push { cls:=.type "dict",data:=.dict #[] }) scope.names) (hfp:∀b∈fp,sF X pins H b) (hlt:∀b∈fp,b<s.heap.objs.size) :
  Inv (cxC X N scope ⟨C,fp,s,H⟩) [] (cSt own fr σ) (upd H D (.lst [])) { s with heap:=h' }:=by
 subst hD hC
 have eD:(s.heap.push { cls:=.type "list",data:=.seq #[] }).objs.size=s.heap.objs.size+1:=PC ..
 have eC:((s.heap.push { cls:=.type "list",data:=.seq #[] }).push { cls:=.type "dict",data:=.dict #[] }).objs.size=s.heap.objs.size+2:=by rw[PC,eD]
 have keep:∀b o,s.heap.get? b=UE o->h'.get? b=UE o:=λb o e=>by
  rw[hh];exact Qk _ _ _ _ (Od _ (Od _ e))
 have lst:h'.get? s.heap.objs.size=UE { cls:=.type "list",data:=.seq #[] }:=by
  rw[hh];exact Qk _ _ _ _ (Od _ (Ox _ rfl))
 have dct:h'.get? (s.heap.objs.size+1)=UE { cls:=.type "dict",data:=.dict #[] }:=by
  rw[hh];refine Qk _ _ _ _ ?_;have:=Ox (s.heap.push { cls:=.type "list",data:=.seq #[] }) (o:={ cls:=.type "dict",data:=.dict #[] }) rfl;rw[eD]at this;exact this
 have hnD:H s.heap.objs.size=UG:=I.hok.fresh (Ln _)
 have hnC:H (s.heap.objs.size+1)=UG:=I.hok.fresh (Ng _)
 have inCl:∀{n:Str}{c:N6},(n,c)∈rq X.env scope.names->X.env.cells.lookup n=UE c:=λh=>S.cl I.ok h
 have clt:∀{n:Str}{c:N6},X.env.cells.lookup n=UE c->c<s.heap.objs.size:=λh=>by
  obtain⟨v,z⟩:=I.cell _ _ h;exact z.lt
 have cases_:∀{n:Str}{c:N6},(O1 (s.heap.objs.size+1+1) scope.names (rq X.env scope.names)).lookup n=UE c->X.env.cells.lookup n=UE c\/(s.heap.objs.size+2<=c/\(n,OV)∈scope.names/\h'.IsCell c UG):=λ{n c} h=>by
  have hm:=OE h;have hcell:=hm;rw[show s.heap.objs.size+1+1=((s.heap.push { cls:=.type "list",data:=.seq #[] }).push { cls:=.type "dict",data:=.dict #[] }).objs.size from eC.symm]at hcell;rcases fu hm with h1|⟨h1,h2⟩
  ·exact .inl (inCl h1)
  rcases gr hcell with h3|h3
  ·exact .inl (inCl h3)
  exact .inr {h1,h2,by rw[hh];exact h3}
 have kindOf:∀x,(cxC X N scope {s.heap.objs.size+1,fp,s,H}).env.kindOf x=(scope.names.lookup x).map λk=>if(k==O6&&X.env.scope.kind== .function&&X.env.kindOf x==UE .cell)then OV else k:=λx=>lH
 have hasName:∀x,((cxC X N scope {s.heap.objs.size+1,fp,s,H}).env.kindOf x=UE .cell\/(cxC X N scope {s.heap.objs.size+1,fp,s,H}).env.kindOf x=UE .free)->∃c,(O1 (s.heap.objs.size+1+1) scope.names (rq X.env scope.names)).lookup x=UE c:=λx hx=>by
  rw[kindOf]at hx;have h2:scope.names.lookup x=UE .cell\/scope.names.lookup x=UE .free:=by
   cases e:scope.names.lookup x with
   |none=>rw[e]at hx;rcases hx with z|z<;>cases z
   |some k=>
    rw[e]at hx;by_cases hk:k=.free
    ·exact .inr (by rw[hk])
    have hk':(k==O6)=false:=by simpa using hk
    simp only[MB,hk',Bool.false_and,MK,if_false]at hx;rcases hx with z|z
    ·exact .inl z
    exact .inr z
  rcases h2 with h2|h2
  ·exact MC.mp (QD scope.names _ _ (.inl h2))
  obtain⟨c,hc⟩:=iP (vd (env:=X.env) (cs:=[]) (OE h2));exact MC.mp (QD scope.names _ _ (.inr (by rw[show(rq X.env scope.names).lookup x=UE c from hc];rfl)))
 have cellAt:∀x c,(O1 (s.heap.objs.size+1+1) scope.names (rq X.env scope.names)).lookup x=UE c->∃v,h'.IsCell c v:=λx c e=>by
  rcases cases_ e with q|⟨_,_,q⟩
  ·obtain⟨v,o,ho,hd⟩:=I.cell x c q;exact⟨v,o,keep c o ho,hd⟩
  exact⟨UG,q⟩
 refine{{I.ok.mod,S.kind,I.ok.glob,I.ok.blt,Ng _,λy z c h1 h2=>?_,hasName,λy c hy h=>?_,I.ok.hd,I.ok.frames,.inl rfl,λb hb=>{?_,λx c e z=>?_},λb o e=>I.bs b o e,LG I.ok.bsz I.sz,λb o e hb=>?_,λb hb hf=>?_,I.stack,I.zS},
  rfl,I.bare,?_,{λ_=>UG,{_,#[],_,dct,rfl,λe he=>absurd he (by simp),λ_=>rfl},λi x v h1 h2 h3=>?_},cellAt,?_,λx c e=>?_,λp hp=>absurd (show p∈([]:List (N6×Obj))from hp) (by simp),?_,?_}
 ·
  refine iU (λn c hm=>?_) (λn n' c hm hm'=>I.ok.inj n n' c (inCl hm) (inCl hm')) (OE h1) (OE h2);exact MA (MA (clt (inCl hm)))
 ·
  have hy':scope.names.lookup y=UE .cell:=by simpa using (show(scope.names.lookup y==UE .cell)=true from hy)
  rcases cases_ h with q|⟨q,_⟩
  ·rcases fu (OE h)with q2|⟨q2,_⟩
   ·rcases rM q2 with z|⟨z,_⟩
    ·cases z
    have:=gj S.nd z;rw[hy']at this;cases this
   exact LG (Mw _ 2) q2
  exact LG (Mw _ 2) q
 ·exact L9 (MA (hlt b hb))
 ·rcases cases_ e with q|⟨q,_⟩
  ·exact(hfp b hb).2.2.2.2.1 x c q z
  have hb':=hlt b hb;rw[<-z]at hb';exact absurd (LZ hb' (LG (Mw _ 2) q)) (MF _)
 ·rcases(hfp b hb).2.2.2.1 with z|z
  ·exact I.ok.Dd b o e z
  exact MF _ (LZ (Om e) (LG I.ok.bsz z))
 ·rcases Lu.mp (I.yc b hf)with z|z
  ·exact(hfp b hb).2.1 z
  exact(hfp b hb).2.2.1 z
 ·exact Un.laid keep (Ln _) hnD
 ·
  have h1:N[i]?=UE x:=h1;have hlen:i<N.length:=(LJ.mp h1).1;by_cases hi:i<own
  ·exfalso;have h2':(cSt own fr σ)[i]?=UE UG:=by
    unfold cSt;rw[Me (by simpa using hi),Rm,if_pos hi]
   rw[h2']at h2;cases h2
  have hfi:i-own<fr.length:=by have:=S.len;lia
  have ei:own+(i-own)=i:=by lia
  have hk:=S.frk (i-own) hfi x (by rw[ei];exact h1);have hn:=S.frn (i-own) hfi;rw[ei,h1]at hn;have ej:fr[i-own]?=UE fr[i-own]:=Lw hfi;rw[ej]at hn;have hn':X.N[fr[i-own]]?=UE x:=hn.symm;have h2':(cSt own fr σ)[i]?=UE ((σ[fr[i-own]]?).getD UG):=by
   unfold cSt;rw[L7 (by simpa using N4.mp hi),M8,LY,ej];rfl
  rw[h2']at h2;have h2'':(σ[fr[i-own]]?).getD UG=UE v:=Oj h2;have hσ:σ[fr[i-own]]?=UE (UE v):=by
   cases e:σ[fr[i-own]]? with
   |none=>rw[e]at h2'';cases h2''
   |some w=>rw[e]at h2'';exact congrArg UE h2''
  obtain⟨m,hm,hl⟩:=I.loc;have hfree:=S.free (x,.free) (OE hk) rfl;obtain⟨u,r,l⟩:=hl _ x v hn' hσ (hfree.elim (λz=>.inr (.inl z)) λz=>.inr (.inr z));refine{u,r,.inr ?_};have hcell:∃c,X.env.cells.lookup x=UE c/\s.heap.IsCell c (UE u):=by
   rcases l with⟨l,_⟩|⟨_,c,e,z⟩
   ·exfalso;rcases hfree with z|z
    ·have l':X.env.scope.names.lookup x=UE .local:=l
     have z':X.env.scope.names.lookup x=UE .cell:=z;rw[l']at z';cases z'
    have l':X.env.scope.names.lookup x=UE .local:=l
    have z':X.env.scope.names.lookup x=UE .free:=z;rw[l']at z';cases z'
   exact⟨c,e,z⟩
  obtain⟨c,e,o,ho,hd⟩:=hcell;refine{?_,c,?_,o,keep c o ho,hd}
  ·rw[kindOf,hk];by_cases z:(X.env.scope.kind== .function&&X.env.kindOf x==UE .cell)=true
   ·left
    simp only[MB,beq_self_eq_true,NI,z,if_true]
   right
   simp only[MB,beq_self_eq_true,NI];rw[if_neg z]
  show(O1 (s.heap.objs.size+1+1) scope.names (rq X.env scope.names)).lookup x=UE c;rw[i5 λz=>by
   have:=gj S.nd z;rw[hk]at this;cases this]
  obtain⟨c',hc'⟩:=iP (vd (env:=X.env) (cs:=[]) (OE hk));have hc2:(rq X.env scope.names).lookup x=UE c':=hc';rw[hc2];have:=inCl (OE hc2);rw[e]at this;exact this.symm
 ·show upd H s.heap.objs.size (.lst []) (s.heap.objs.size+1)=UG;rw[aW (Nk (Nc _))];exact hnC
 ·rcases cases_ e with q|⟨q,_⟩
  ·have:=clt q;rw[aW (L9 this)];exact I.kQ x c q
  rw[aW (Nk (LZ (Nat.lt_add_of_pos_right (by decide)) q))];exact I.hok.fresh (LG (Mw _ 2) q)
 ·exact I.hok.laid keep (Ln _) {LH _,[],0,.nil,lst}
 show(cSt own fr σ).length=N.length
 unfold cSt
 rw[Ll,M8,Lm,S.len]
end
def PF(X:Cx)(ifs:List Expr)(t:TT):Prop:=
 ∀(pins:List (N6×Obj))(s:N7)(σ:St)(H:Hp)(Q:Bool->Hp->Prop),Inv X pins σ H s->t σ H Q->
  wpAny (Oh X.prog X.w) X.A (forIn ifs true λc r=>if r=true then do let ok<-isTrue c X.env (OT c X.env);pure (QO ok)else pure (QO r)) (TP X pins σ Q) X.xe s
noncomputable def JN:TT:=λ_ H Q=>Q true H
theorem qQ{X:Cx}:PF X [] JN:=λ_ _ _ H _ I h=>wpAny_tests_nil ⟨H,I,h⟩
theorem CG{X:Cx}{c:Expr}{t:TT}(h:PT X c t):PF X [c] t:=λpins s σ H Q I hw=>wpAny_tests_one (h pins s σ H Q I hw)
theorem vE{prog:Program}{w:Of}{A:Ou}{R:T7->N7->Prop}{s:N7}{elt target iter:Expr}{ifs:List Expr}{scope:Qq}{pos:Pos}{it acc:E9}{env:Env}(I:Nat->N7->Prop)
  (turn:∀n s,I n s->wpAny (Oh prog w) A (pyNext it) (λr s₁=>match r with
   |none=>R (.ok .next) s₁
   |some v=>wpAny (Oh prog w) A (QN target it v) (λ_ s₁'=>wpAny (Oh prog w) A (assign target env v) (λ_ s₂=>
     wpAny (Oh prog w) A (forIn ifs true λc r=>if r=true then do let ok<-isTrue c env (OT c env);pure (QO ok)else pure (QO r)) (λok s₃=>
      if ok=true then wpAny (Oh prog w) A (OT elt env) (λx s₄=>
       wpAny (Oh prog w) A (call (.builtin "list.append") [acc,x]) (λ_ s₅=>∃m,m<n/\I m s₅) (λ_ _=>False) s₄) (λ_ _=>False) s₃
      else ∃m,m<n/\I m s₃) (λ_ _=>False) s₂) (λ_ _=>False) s₁') (λ_ _=>False) s₁) (λ_ _=>False) s)
  (n:Nat) (h:I n s) :
  codeAny (Oh prog w) A (.compLoop (.ListComp elt [⟨target,iter,ifs,0⟩] scope pos) 0 it acc env) R s:=by
 refine codeAny_loop rfl I (λn s hI=>?_) n h
 show wpAny _ A ((compTurn (.ListComp elt [⟨target,iter,ifs,0⟩] scope pos) 0 it acc env).onRaise (λx=>do noteFrame x env;theTreesLotGoes x)) _ _ s
 refine wpAny_noted ?_
 rw[compTurn_list]
 have no:∀{α:Type}{t:Sem α}{Q:α->N7->Prop}{E':E9->N7->Prop}{s':N7},wpAny (Oh prog w) A t Q (λ_ _=>False) s'->wpAny (Oh prog w) A t Q E' s':=λh=>Pn h (λ_ _ q=>q) λ_ _ z=>z.elim
 refine N5 (Ri (N5 (no (Pn (turn n s hI) (λr s₁ h₁=>?_) λ_ _ h'=>h'))))
 cases r with
 |none=>exact N9 h₁
 |some v=>
  refine N5 (no (Pn h₁ (λ_ s₁' h₁'=>?_) λ_ _ h'=>h'))
  refine N5 (no (Pn h₁' (λ_ s₂ h₂=>N5 (no (Pn h₂ (λok s₃ h₃=>?_) λ_ _ h'=>h'))) λ_ _ h'=>h'))
  cases ok with
  |false=>exact N9 ⟨rfl,h₃⟩
  |true=>
   exact N5 (N5 (no (Pn h₃ (λx s₄ h₄=>N5 (no (Pn h₄ (λ_ s₅ h₅=>N9 (N9 ⟨rfl,h₅⟩)) λ_ _ h'=>h'))) λ_ _ h'=>h')))
structure qD(J:It)(own:Nat)(fr:List Nat)(g:CB->TG)(tf:CB->TT)(te:CB->TE)(Q:VK)(σ:St)(H1:Hp):Prop where
 go:∀(b:CB)(D:N6),H1 D=UG->∃W:Nat->Nat->St->Hp->Prop,(∃m,W 0 m (cSt own fr σ) (upd H1 D (.lst [])))/\∀i m σ' H',W i m σ' H'->
  (J.stop i H'/\Q (.ref D) H')\/(J.go i H'/\∃M:St->Hp->Prop,(∀σ2 H2,M σ2 H2->∃m',m'<m/\W (i+1) m' σ2 H2)/\∀x H2,J.yld i H' x H2->g b x σ' H2 λσ3 H3=>tf b σ3 H3 λk H4=>
   if k=true then te b σ3 H4 λy H5=>∃ys,H5 D=UE (.lst ys)/\ys.length<sizeLine/\M σ3 (upd H5 D (.lst (ys++[y])))else M σ3 H4)
noncomputable def Dr(wi:TI)(own:Nat)(fr:List Nat)(g:CB->TG)(tf:CB->TT)(te:CB->TE):TE:=λσ H Q=>wi σ H λJ H1=>qD J own fr g tf te Q σ H1
section
variable{X:Cx}{tg iter elt:Expr}{ifs:List Expr}{scope:Qq}{pos:Pos}{N:List Str}{own:Nat}{fr:List Nat}{wi:TI}{g:CB->TG}{tf:CB->TT}{te:CB->TE}
theorem xx{use:Option (E9->Sem Unit)}{R:E9->N7->Prop}{pins:List (N6×Obj)}{s:N7}{σ:St}{H:Hp}{Q:VK}(S:dv X.env.scope X.N N own fr scope)(hc:X.calm=true)(hi:PI X tg iter wi)
  (hg:∀b,PG (cxC X N scope b) tg (g b)) (hf:∀b,PF (cxC X N scope b) ifs (tf b)) (he:∀b,PE (cxC X N scope b) elt (te b)) (hs:∀x,foldedSetIterable iter X.env x=pure x) (I:Inv X pins σ H s) (h:Dr wi own fr g tf te σ H Q)
  (fin:∀(D C:N6)(oC:Obj)(m:Str->Option E9)(H':Hp)(s':N7),Inv X (pins++[(C,oC)]) σ H' s'->X.s₀.heap.objs.size<=C->(∀p∈X.pn++pins,p.1≠C)->(∀h':OC,h'.get? C=UE oC->h'.Ns C m)->Q (.ref D) H'->Uj (Oh X.prog X.w) X.A X.xe use R (.ref D) C (.ok .next) s') :
  wpAny (Oh X.prog X.w) X.A (comprehension (.ListComp elt [⟨tg,iter,ifs,0⟩] scope pos) scope X.env (firstIterPos [⟨tg,iter,ifs,0⟩] pos) (newList []) false (OT iter X.env) use) R X.xe s:=by
 refine wpAny_comprehension_free rfl hs (p5 (S.cells I.ok)) S.kind (λx hx hk=>?_) (thn (hi pins s σ H _ I h) λv s1 h1=>thn h1 λitv s2 h2=>?_)
 ·have:=gj S.nd (show(x.1,x.2)∈scope.names from hx);rw[this,hk]
 obtain⟨it,fp,tn,J,H2,e,I2,T,st2,f2,q⟩:=h2
 subst e
 refine OZ ?_
 refine xl ?_
 have eD:(s2.heap.push { cls:=.type "list",data:=.seq #[] }).objs.size=s2.heap.objs.size+1:=PC ..
 have hD:H2 s2.heap.objs.size=UG:=I2.hok.fresh (Ln _)
 have hlt:∀b∈fp,b<s2.heap.objs.size:=λb hb=>by
  obtain⟨o,ho,_⟩:=T.obj 0 _ st2 b hb;exact Om ho
 obtain⟨W,⟨m0,w0⟩,turn⟩:=q.go {s2.heap.objs.size+1,fp,s2,H2} s2.heap.objs.size hD
 have IX:=Cz (fp:=fp) S I2 rfl rfl rfl f2 hlt
 have st4:tn 0 (QG ((s2.heap.push { cls:=.type "list",data:=.seq #[] }).push { cls:=.type "dict",data:=.dict #[] }) scope.names):=
  T.keep 0 _ _ st2 λb _ o e=>Qk _ _ _ _ (Od _ (Od _ e))
 have fr0:∀b∈fp,upd H2 s2.heap.objs.size (.lst []) b=UG:=λb hb=>by
  rw[aW (L9 (hlt b hb))];exact(f2 b hb).1
 have cne:∀b∈fp,∀x c,(cxC X N scope {s2.heap.objs.size+1,fp,s2,H2}).env.cells.lookup x=UE c->c≠b:=λb hb=>((IX.ok.exf b hb).2)
 have stat:∀{H':Hp},(∀b∈fp,H' b=UG)->∀b∈fp,sF (cxC X N scope {s2.heap.objs.size+1,fp,s2,H2}) [] H' b:=λhn b hb=>
  {hn b hb,(IX.ok.exf b hb).1,IX.ok.CM b hb,.inl hb,cne b hb,λp hp=>absurd (show p∈([]:List (N6×Obj))from hp) (by simp)}
 have e4:∀cenv:Env,cenv=newEnv scope (s2.heap.push { cls:=.type "list",data:=.seq #[] }).objs.size X.env.globals (O1 ((s2.heap.push { cls:=.type "list",data:=.seq #[] }).objs.size+1) scope.names (rq X.env scope.names)) X.env.qual UG .none (UE X.env) Rt->
   ({ cenv with scope:=relabel scope X.env }:Env)=(cxC X N scope ⟨s2.heap.objs.size+1,fp,s2,H2⟩).env/\cenv.locals=s2.heap.objs.size+1:=λcenv e=>by
  subst e
  rw[eD]
  exact⟨rfl,rfl⟩
 obtain⟨e5,e6⟩:=e4 _ rfl
 have loop:codeAny (Oh X.prog X.w) X.A (.compLoop (.ListComp elt [⟨tg,iter,ifs,0⟩] scope pos) 0 (.ref it) (.ref s2.heap.objs.size) (cxC X N scope {s2.heap.objs.size+1,fp,s2,H2}).env)
   (Uj (Oh X.prog X.w) X.A X.xe use R (.ref s2.heap.objs.size) (s2.heap.objs.size+1)) { s2 with heap:=QG ((s2.heap.push { cls:=.type "list",data:=.seq #[] }).push { cls:=.type "dict",data:=.dict #[] }) scope.names }:=by
  refine vE (λn s'=>∃i σ' H',Inv (cxC X N scope {s2.heap.objs.size+1,fp,s2,H2}) [] σ' H' s'/\tn i s'.heap/\(∀b∈fp,H' b=UG)/\W i n σ' H') ?_ m0 {0,_,_,IX,st4,fr0,w0}
  rintro n s5 ⟨i,σ5,H5,I5,st5,fr5,w5⟩
  rcases turn i n σ5 H5 w5 with⟨stop,qn⟩|⟨go,M,hM,step⟩
  ·refine thn (T.done (cxC X N scope {s2.heap.objs.size+1,fp,s2,H2}) rfl rfl rfl hc i [] s5 σ5 H5 (λ_ _=>False) I5 (stat fr5) st5 stop) λr s6 z9=>?_;obtain⟨hr,I6⟩:=z9;subst hr;obtain⟨m,hn,_⟩:=I6.loc;obtain⟨oC,es,ep,hoC,hd,hk,hm⟩:=id hn;have IB:Inv X pins σ H5 s6:=I2.Kb (ch:=fp) I6.os I6.base I6.hok I6.bare λb hb=>{(f2 b hb).2.2.2.1,(f2 b hb).2.1,(f2 b hb).2.2.2.2.1,(f2 b hb).2.2.2.2.2};have young:s2.heap.objs.size<=s2.heap.objs.size+1:=Ng _;refine fin s2.heap.objs.size (s2.heap.objs.size+1) oC m H5 s6 (IB.wg λp hp=>?_) (LG I2.sz young) (λp hp=>L9 (LZ (Om (I2.pin p hp).1) young)) (λh' e=>⟨oC,es,ep,e,hd,hk,hm⟩) qn;rcases Ls.mp hp with z|z
   ·exact IB.pin p (LD _ z)
   have ep':p=(s2.heap.objs.size+1,oC):=by simpa using z
   subst ep';exact{hoC,I6.free,Nk (LZ I2.lt young),I2.IJ young,λv z=>by rw[hd]at z;cases z}
  refine thn (T.item (cxC X N scope {s2.heap.objs.size+1,fp,s2,H2}) rfl rfl rfl hc i [] s5 σ5 H5 (λ_ _=>False) I5 (stat fr5) st5 go) λr s6 z9=>?_;obtain⟨u,hr,h6⟩:=z9
  subst hr
  refine thn h6 λ_ s7 z9=>?_;obtain⟨x,H7,I7,r7,y7,st7,fr7⟩:=z9
  have I7':=I7.pinned (stat fr7) (T.obj _ _ st7)
  refine thn (hg _ _ s7 σ5 H7 x u _ I7' r7 (step x H7 y7)) λ_ s8 z9=>?_;obtain⟨σ8,H8,I8,q8⟩:=z9
  refine thn (hf _ _ s8 σ8 H8 _ I8 q8) λk s9 z9=>?_;obtain⟨H9,I9,q9⟩:=z9
  have again:∀{H10:Hp}{s10:N7},Inv (cxC X N scope {s2.heap.objs.size+1,fp,s2,H2}) ([]++rf fp s7.heap) σ8 H10 s10->M σ8 H10->
    ∃m,m<n/\∃i σ' H',Inv (cxC X N scope {s2.heap.objs.size+1,fp,s2,H2}) [] σ' H' s10/\tn i s10.heap/\(∀b∈fp,H' b=UG)/\W i m σ' H':=λ{H10 s10} I10 q10=>by
   obtain⟨m',hm,w10⟩:=hM σ8 H10 q10
   refine{m',hm,i+1,σ8,H10,I10.kX,T.keep _ _ _ st7 λb hb o e=>(I10.pin (b,o) (LD _ (LD _ (jF hb e)))).1,λb hb=>?_,w10}
   obtain⟨o,e,d⟩:=T.obj _ _ st7 b hb
   exact(I10.pin (b,o) (LD _ (LD _ (jF hb e)))).2.1
  cases k with
  |false=>exact again I9 q9
  |true=>
   refine thn (he _ _ s9 σ8 H9 _ I9 q9) λw10 s10 z9=>?_;obtain⟨y,H10,I10,r10,ys,hys,hz,q10⟩:=z9
   refine thn (tN _ s10 σ8 H10 (.ref s2.heap.objs.size) [y] (.ref s2.heap.objs.size) [w10] (λ_ H'=>M σ8 H') I10 rfl (.cons r10 .nil) {_,ys,y,rfl,rfl,hys,hz,q10}) λ_ s11 z9=>?_;obtain⟨_,H11,I11,_,q11⟩:=z9
   exact again I11 q11
 have go:codeAny (Oh X.prog X.w) X.A (.compStart (.ListComp elt [⟨tg,iter,ifs,0⟩] scope pos) 0 (.ref it) (.ref s2.heap.objs.size) (cxC X N scope {s2.heap.objs.size+1,fp,s2,H2}).env)
   (Uj (Oh X.prog X.w) X.A X.xe use R (.ref s2.heap.objs.size) (s2.heap.objs.size+1)) { s2 with heap:=QG ((s2.heap.push { cls:=.type "list",data:=.seq #[] }).push { cls:=.type "dict",data:=.dict #[] }) scope.names }:=
  codeAny_compStart_list loop (T.self _ 0 _ _ _ st4 loop)
 have fin2:∀(env':Env)(L:N6),env'=(cxC X N scope {s2.heap.objs.size+1,fp,s2,H2}).env->L=s2.heap.objs.size+1->
   codeAny (Oh X.prog X.w) X.A (.compStart (.ListComp elt [⟨tg,iter,ifs,0⟩] scope pos) 0 (.ref it) (.ref s2.heap.objs.size) env') (Uj (Oh X.prog X.w) X.A X.xe use R (.ref s2.heap.objs.size) L)
    { s2 with heap:=QG ((s2.heap.push { cls:=.type "list",data:=.seq #[] }).push { cls:=.type "dict",data:=.dict #[] }) scope.names }:=by
  intro env' L h1 h2
  subst h1 h2
  exact go
 exact fin2 _ _ e5 e6
theorem tZ{pins:List (N6×Obj)}{C:N6}{oC:Obj}{σ':St}{H':Hp}{s':N7}{h':OC}(I:Inv X (pins++[(C,oC)]) σ' H' s')(hy:X.s₀.heap.objs.size<=C)(hp:∀p∈X.pn++pins,p.1≠C)(sb:QT C s'.heap h') :
  Inv X pins σ' H' { s' with heap:=h' }:=by
 have pC:=I.pin (C,oC) (LD _ (LD _ (by simp)))
 have I2:Inv X pins σ' H' s':=I.kX
 refine I2.turned (it:=C) (t':=s'.toks) (λb o hb e=>(sb.2 b hb).trans e) pC.2.1 pC.2.2.1 (.inr hy) (λx c e z=>?_) hp
 obtain⟨v,o,ho,hd⟩:=I2.cell x c e
 rw[z,pC.1]at ho
 cases ho
 exact pC.2.2.2.2 v hd
theorem lT(S:dv X.env.scope X.N N own fr scope)(hc:X.calm=true)(hi:PI X tg iter wi)(hg:∀b,PG (cxC X N scope b) tg (g b))(hf:∀b,PF (cxC X N scope b) ifs (tf b))(he:∀b,PE (cxC X N scope b) elt (te b))
  (hs:∀x,foldedSetIterable iter X.env x=pure x:=by intro _;rfl):PE X (.ListComp elt [⟨tg,iter,ifs,0⟩] scope pos) (Dr wi own fr g tf te):=by
 intro pins s σ H Q I h
 rw[eval_ListComp]
 refine xx (use:=UG) S hc hi hg hf he hs I h λD C oC m H' s' I' hy hp hm q=>?_
 have pC:=I'.pin (C,oC) (LD _ (LD _ (by simp)))
 exact{m,hm _ pC.1,λh' sb=>⟨.ref D,H',tZ I' hy hp sb,rfl,q⟩}
theorem yf{j:Nat}{y:Str}{py spos:Pos}(S:dv X.env.scope X.N N own fr scope)(hc:X.calm=true)(hN:X.N.Nodup)(hj:X.N[j]?=UE y)(hy:Loc X.env.scope y)(hi:PI X tg iter wi)(hg:∀b,PG (cxC X N scope b) tg (g b))(hf:∀b,PF (cxC X N scope b) ifs (tf b))
  (he:∀b,PE (cxC X N scope b) elt (te b)) (hfn:X.fn y=true\/X.env.scope.names.lookup y=UE .local:=by first|exact .inl rfl|exact .inr rfl|assumption) (hs:∀x,foldedSetIterable iter X.env x=pure x:=by intro _;rfl)
  (hsw:RZ (.ListComp elt [⟨tg,iter,ifs,0⟩] scope pos) (UE (.Name y py)) spos.line X.env=pure true:=by rfl) :
  PS X (.Assign [.Name y py] (.ListComp elt [⟨tg,iter,ifs,0⟩] scope pos) spos) (FH (Dr wi own fr g tf te) (ny j)):=by
 intro pins s σ H D I h
 rw[exec_Assign_Name_used _ _ _ _ hsw]
 refine N5 (Ri (N5 ?_))
 show wpAny _ _ (do let _<-comprehension (.ListComp elt [⟨tg,iter,ifs,0⟩] scope pos) scope X.env _ (newList []) false (OT iter X.env) (UE (assign (.Name y py) X.env))) _ _ s
 refine N5 (thn (xx (use:=UE (assign (.Name y py) X.env)) (R:=λ_ s'=>SP X pins D .next s') S hc hi hg hf he hs I h λD' C oC m H' s' I' hy' hp hm q=>?_) λ_ s' q=>N9 (N9 q))
 show wpAny _ _ (assign (.Name y py) X.env (.ref D')) _ _ s'
 refine thn (zh hN hj hy hfn _ s' σ H' (.ref D') (.ref D') _ I' rfl q) λ_ s'' z9=>?_;obtain⟨σ2,H2,I2,q2⟩:=z9
 have pC:=I2.pin (C,oC) (LD _ (LD _ (by simp)))
 exact{m,hm _ pC.1,λh' sb=>⟨σ2,H2,tZ I2 hy' hp sb,q2⟩}
end
theorem PE.imp{X:Cx}{e:Expr}{t t':TE}(h:PE X e t)(k:∀σ H Q,t' σ H Q->t σ H Q):PE X e t':=λpins s σ H Q I q=>h pins s σ H Q I (k σ H Q q)
theorem OpR.imp{X:Cx}{f:E9->E9->Sem E9}{r r':R2}(h:OpR X f r)(k:∀x y H Q,r' x y H Q->r x y H Q):OpR X f r':=λpins s σ H x y v u Q I rx ry q=>h pins s σ H x y v u Q I rx ry (k x y H Q q)
noncomputable def IG(i:Nat):TE:=λσ H Q=>match σ[i]? with
 |some (UE v)=>Q v H
 |_=>False
section
variable{X:Cx}
theorem fv(i:Nat){x:Str}{pos:Pos}(hN:X.N[i]?=UE x:=by rfl)(hv:Vis X.env.scope x:=by first|exact LL rfl|exact MY (LL rfl)|exact MY (MY rfl))(hd:(x==("__debug__":Str))=false:=by decide)
  (hcd:(x==("__classdict__":Str))=false:=by decide):PE X (.Name x pos) (IG i):=(HP hN hv hd hcd).imp λσ H Q q=>by
 unfold IG at q
 cases e:σ[i]? with
 |none=>rw[e]at q;exact q.elim
 |some o=>
  cases o with
  |none=>rw[e]at q;exact q.elim
  |some v=>rw[e]at q;exact⟨v,e,q⟩
noncomputable def FE:R2:=λx y H Q=>match x,y with
 | .int i,.int j=>Q (.int (i+j)) H
 | .str a,.str b=>a.length+b.length<=sizeLine/\Q (.str (a++b)) H
 | .ref p,.ref q=>Je (.ref p) (.ref q) H Q
 |_,_=>False
theorem aD:OpR X (Po .Add) FE:=by
 intro pins s σ H x y v u Q I rx ry h;cases x with
 |int i=>
  cases y with
  |int j=>exact HK pins s σ H _ _ v u Q I rx ry ⟨i,j,rfl,rfl,h⟩
  |_=>exact(show False from h).elim
 |str a=>
  cases y with
  |str b=>exact yn pins s σ H _ _ v u Q I rx ry ⟨a,b,rfl,rfl,h.1,h.2⟩
  |_=>exact(show False from h).elim
 |ref p=>
  cases y with
  |ref q=>exact G6 pins s σ H _ _ v u Q I rx ry h
  |_=>exact(show False from h).elim
 |_=>cases y<;>exact(show False from h).elim
noncomputable def sQ(C:Int->Int->Prop)(g:Int->Int->V):R2:=λx y H Q=>match x,y with
 | .int i,.int j=>C i j/\Q (g i j) H
 |_,_=>False
noncomputable def mJ(g:Int->Int->V):R2:=λx y H Q=>match x,y with
 | .int i,.int j=>Q (g i j) H
 |_,_=>False
theorem OpR.sQ{f:E9->E9->Sem E9}{C:Int->Int->Prop}{g:Int->Int->V}(h:OpR X f (rI C g)):OpR X f (sQ C g):=h.imp λx y H Q q=>by
 cases x with
 |int i=>
  cases y with
  |int j=>exact⟨i,j,rfl,rfl,q.1,q.2⟩
  |_=>exact(show False from q).elim
 |_=>cases y<;>exact(show False from q).elim
theorem OpR.mJ{f:E9->E9->Sem E9}{g:Int->Int->V}(h:OpR X f (rI0 g)):OpR X f (mJ g):=h.imp λx y H Q q=>by
 cases x with
 |int i=>
  cases y with
  |int j=>exact⟨i,j,rfl,rfl,q⟩
  |_=>exact(show False from q).elim
 |_=>cases y<;>exact(show False from q).elim
theorem nO:OpR X (Po .Sub) (mJ λi j=>.int (i-j)):=Hy.mJ
theorem IW:OpR X (Po .Mult) (sQ AV λi j=>.int (i*j)):=G5.sQ
def FT(_ j:Int):Prop:=0<j/\j<2^64
theorem EK{j:Int}(h:FT 0 j):j.natAbs.log2<9000:=by
 have h1:j.natAbs<2^64:=by
  have h2:j<2^64:=h.2;have h3:0<j:=h.1;lia
 have h0:j.natAbs≠0:=by have h3:0<j:=h.1;lia
 have:=(Nat.log2_lt h0).mpr h1;lia
theorem dX:OpR X (Po .FloorDiv) (sQ FT λi j=>.int (i/j)):=(opI λi j _ _ _ _ _ hc q=>by
 have h1:(0:Int)<j:=hc.1;exact floordiv_int (by lia) (by rw[Int.fdiv_eq_ediv_of_nonneg i (by lia)];exact q) (.inl (PyProof.noPylong_of_log2 (EK hc)))).sQ
theorem bK:OpR X (Po .Mod) (sQ (λ_ j=>0<j) λi j=>.int (i%j)):=GW.sQ
theorem tP:OpR X (Po .Pow) (sQ Kc λi j=>.int (i^j.toNat)):=HL.sQ
theorem yP:OpR X (Oy .Lt) (mJ λi j=>.bl (decide (i<j))):=J3.mJ
theorem ye:OpR X (Oy .Gt) (mJ λi j=>.bl (decide (j<i))):=J8.mJ
theorem K0:OpR X (Oy .GtE) (mJ λi j=>.bl (decide (j<=i))):=IU.mJ
mutual
inductive j5(K:Oc)(H:Hp):V->QP->Prop where
 |non:j5 K H .non .none
 |bl (b:Bool):j5 K H (.bl b) (.bool b)
 |int (i:Int):j5 K H (.int i) (.int i)
 |str (x:Str):j5 K H (.str x) (.str x)
 |lst {a:N6}{xs:List V}{ds:List QP} (h:SqL K H a xs) (r:eg K H xs ds):j5 K H (.ref a) (.list ds)
 |tup {a:N6}{xs:List V}{ds:List QP} (h:SqT K H a xs) (r:eg K H xs ds):j5 K H (.ref a) (.tuple ds)
inductive eg(K:Oc)(H:Hp):List V->List QP->Prop where
 |nil:eg K H [] []
 |cons {x:V}{xs:List V}{d:QP}{ds:List QP} (h:j5 K H x d) (r:eg K H xs ds):eg K H (x::xs) (d::ds)
end
mutual
theorem Inv.reads{pins:List (N6×Obj)}{σ:St}{H:Hp}{s:N7}(I:Inv X pins σ H s):∀{x:V}{d:QP}{u:E9},j5 X.K H x d->UJ x u->∃as,Reads s.heap u d as
 |_,_,_,.non,r=>by cases r;exact{_,.none}
 |_,_,_,.bl b,r=>by cases r;exact{_,.bool b}
 |_,_,_,.int i,r=>by obtain⟨t,rfl⟩:=r;exact{_,.int i t}
 |_,_,_,.str x,r=>by obtain⟨t,rfl⟩:=r;exact{_,.str x t}
 |_,_,_,.lst h q,r=>by
  cases r;obtain⟨its,rv,⟨o,n,e,hc,_,hd⟩,_⟩:=I.list h;obtain⟨as,z⟩:=I.readsAll q rv;exact{_,.list e hc hd (by simpa using z)}
 |_,_,_,.tup h q,r=>by
  cases r;obtain⟨its,rv,⟨o,e,hc,n,hd⟩,_⟩:=I.tuple h;obtain⟨as,z⟩:=I.readsAll q rv;exact{_,.tuple e hc hd (by simpa using z)}
theorem Inv.readsAll{pins:List (N6×Obj)}{σ:St}{H:Hp}{s:N7}(I:Inv X pins σ H s):∀{xs:List V}{ds:List QP}{us:List E9},eg X.K H xs ds->UH xs us->∃as,ReadsAll s.heap us ds as
 |_,_,_,.nil,r=>by cases r;exact{_,.nil}
 |_,_,_,.cons h q,r=>by
  cases r with
  |cons r1 r2=>
   obtain⟨as,z⟩:=I.reads h r1;obtain⟨bs,z2⟩:=I.readsAll q r2;exact{_,.cons z z2}
end
noncomputable def fEq(K:Oc):R2:=λx y H Q=>match x,y with
 | .ref p,.ref q=>∃d e,j5 K H (.ref p) d/\j5 K H (.ref q) e/\OR d=true/\OR e=true/\Q (.bl (P0 d e)) H
 |x,y=>A7 x y=true/\Q (.bl (decide (x=y))) H
noncomputable def fNe(K:Oc):R2:=λx y H Q=>match x,y with
 | .ref p,.ref q=>∃d e,j5 K H (.ref p) d/\j5 K H (.ref q) e/\OR d=true/\OR e=true/\Q (.bl (!PyData.eqv d e)) H
 |x,y=>A7 x y=true/\Q (.bl (!decide (x=y))) H
theorem KN(hu:X.A.units+64<PB):OpR X (Oy .Eq) (fEq X.K):=by
 intro pins s σ H x y v u Q I rx ry h;by_cases hr:∃p q,x=V.ref p/\y=V.ref q
 ·obtain⟨p,q,rfl,rfl⟩:=hr;obtain⟨d,e,hd,he,sd,se,hq⟩:=h;obtain⟨as,z1⟩:=I.reads hd rx;obtain⟨bs,z2⟩:=I.reads he ry;exact eq_dataH z1 z2 sd se hu {.bl _,H,I,rfl,hq}
 refine IM pins s σ H x y v u Q I rx ry ?_;cases x<;>cases y<;>first|exact h|exact absurd {_,_,rfl,rfl} hr
theorem oW(hu:X.A.units+64<PB):OpR X (Oy .NotEq) (fNe X.K):=by
 intro pins s σ H x y v u Q I rx ry h;by_cases hr:∃p q,x=V.ref p/\y=V.ref q
 ·obtain⟨p,q,rfl,rfl⟩:=hr;obtain⟨d,e,hd,he,sd,se,hq⟩:=h;obtain⟨as,z1⟩:=I.reads hd rx;obtain⟨bs,z2⟩:=I.reads he ry;exact ne_dataH z1 z2 sd se hu {.bl _,H,I,rfl,hq}
 refine IP pins s σ H x y v u Q I rx ry ?_;cases x<;>cases y<;>first|exact h|exact absurd {_,_,rfl,rfl} hr
noncomputable def fIn(K:Oc)(neg:Bool):R2:=λx y H Q=>match y with
 | .str j=>∃i,x=.str i/\Q (.bl (if neg then !(!(O3 j i 0 j.length 1).isEmpty)else !(O3 j i 0 j.length 1).isEmpty)) H
 | .ref p=>∃xs,(SqL K H p xs\/SqT K H p xs)/\j8 x=true/\xs.all j8=true/\Q (.bl (if neg then !inV x xs else inV x xs)) H
 |_=>False
theorem KD:OpR X (Oy .In) (fIn X.K false):=by
 intro pins s σ H x y v u Q I rx ry h;cases y with
 |str j=>
  obtain⟨i,rfl,q⟩:=h;exact Be pins s σ H _ _ v u Q I rx ry ⟨i,j,rfl,rfl,q⟩
 |ref p=>
  obtain⟨xs,h1,h2,h3,q⟩:=h;exact AA pins s σ H _ _ v u Q I rx ry ⟨p,xs,rfl,h1,h2,h3,q⟩
 |_=>exact(show False from h).elim
theorem Ed:OpR X (Oy .NotIn) (fIn X.K true):=by
 intro pins s σ H x y v u Q I rx ry h;cases y with
 |str j=>
  obtain⟨i,rfl,q⟩:=h;exact vi pins s σ H _ _ v u Q I rx ry ⟨i,j,rfl,rfl,q⟩
 |ref p=>
  obtain⟨xs,h1,h2,h3,q⟩:=h;exact vP pins s σ H _ _ v u Q I rx ry ⟨p,xs,rfl,h1,h2,h3,q⟩
 |_=>exact(show False from h).elim
theorem wJ:OpR X (Oy .Is) (λx y H Q=>y=.non/\Q (.bl (decide (x=.non))) H):=GY
theorem fz:OpR X (Oy .IsNot) (λx y H Q=>y=.non/\Q (.bl (!decide (x=.non))) H):=Ew
inductive ixS(K:Oc)(p:N6)(i:Int)(H:Hp)(Q:VK):Prop
 |mk(xs:List V)(v:V)(h0:SqL K H p xs\/SqT K H p xs)(h1:atI xs i=UE v)(q:Q v H):ixS K p i H Q
noncomputable def fIx(K:Oc):R2:=λx y H Q=>match x,y with
 | .ref p,.int i=>ixS K p i H Q
 | .str z,.int i=>∃c,z.length<=sizeLine/\atI z.cps.toList i=UE c/\Q (.str ⟨#[c]⟩) H
 |_,_=>False
theorem BS:IxR X (fIx X.K):=by
 intro value slice pins s σ H x y v u Q I rx ry h hs;cases x with
 |ref p=>
  cases y with
  |int i=>
   obtain⟨xs,w,h1|h1,h2,q⟩:=h
   ·exact EM value slice pins s σ H _ _ v u Q I rx ry ⟨p,xs,i,w,rfl,rfl,h1,h2,q⟩ hs
   exact ID value slice pins s σ H _ _ v u Q I rx ry ⟨p,xs,i,w,rfl,rfl,h1,h2,q⟩ hs
  |_=>exact(show False from h).elim
 |str z=>
  cases y with
  |int i=>
   obtain⟨c,h1,h2,q⟩:=h;exact GD value slice pins s σ H _ _ v u Q I rx ry ⟨z,i,c,rfl,rfl,h1,h2,q⟩ hs
  |_=>exact(show False from h).elim
 |_=>cases y<;>exact(show False from h).elim
def K8:V->Option Int->Option Int->Hp->VK->Prop:=λx lo hi H Q=>∃z,x=.str z/\z.length<=sizeLine/\Q (.str (Txt.slice z lo hi)) H
noncomputable def Its(x:Str):It:={λi _=>i<x.cps.size,λi H v H'=>H'=H/\∃c,x.cps[i]?=UE c/\v=.str ⟨#[c]⟩,λi _=>x.cps.size<=i}
theorem Dy{P:Program}{w:Of}{K:Qb}{tg:Expr}{T:String}(hT:T="str_ascii_iterator"\/T="str_iterator")(it:N6)(x:Str)(t:Tok):UY P w K tg (Its x) [it] it (λi h=>i<=x.cps.size/\h.IsStrIter it T x t i) where
 mem:=by simp
 obj:=λi h st b hb=>by
  have e:b=it:=by simpa using hb
  subst e;obtain⟨_,o,e,c,d⟩:=st;exact{o,e,λv z=>by rw[d]at z;cases z}
 keep:=λi h h' st k=>by
  obtain⟨hi,o,e,r⟩:=st;exact{hi,o,k it (by simp) o e,r}
 item:=by
  intro X hP hw hK hc i pins s σ H E I hf st hg;subst hP hw hK;obtain⟨f0,f1,f2,f3,f4,f5⟩:=hf it (by simp);have W:Walks X.prog X.w X.A it [it] [it] x.cps.size (SignAt x) (λi h=>h.IsStrIter it T x t i):=by
   rcases hT with rfl|rfl
   ·exact Uk (I.ok.hd hc) it x t
   exact Walks.strWide (I.ok.hd hc) it x t
  refine W.item i s _ _ hg st.2 λv h' tk hv st' kk=>?_;obtain⟨c,u,hcp,rfl⟩:=hv;have I1:Inv X pins σ H { s with heap:=h',toks:=tk }:=I.turned (λb o hb e=>kk b o (by simpa using hb) e) f0 f1 f3 f4 f5;obtain⟨o,e,c',d⟩:=id st';refine{_,rfl,xO (s:={ s with heap:=h',toks:=tk }) e c' d (by rcases hT with rfl|rfl<;>decide) ⟨.str ⟨#[c]⟩,H,I1,⟨u,rfl⟩,⟨rfl,c,hcp,rfl⟩,⟨hg,st'⟩,λb hb=>(hf b hb).1⟩}
 done:=by
  intro X hP hw hK hc i pins s σ H E I hf st hg;subst hP hw hK;obtain⟨f0,f1,f2,f3,f4,f5⟩:=hf it (by simp);have W:Walks X.prog X.w X.A it [it] [it] x.cps.size (SignAt x) (λi h=>h.IsStrIter it T x t i):=by
   rcases hT with rfl|rfl
   ·exact Uk (I.ok.hd hc) it x t
   exact Walks.strWide (I.ok.hd hc) it x t
  have e:i=x.cps.size:=Nat.le_antisymm st.1 hg;subst e;exact W.done s _ _ st.2 λh' tk kk=>{rfl,I.turned (λb o hb e=>kk b o (by simpa using hb) e) f0 f1 f3 f4 f5}
 self:=λA i s Q E st h=>by
  rcases hT with rfl|rfl
  ·exact wpAny_pyIter_striter_ascii st.2 h
  exact wpAny_pyIter_striter_wide st.2 h
noncomputable def Lg(K:Oc)(tl:TE):TI:=λσ H R=>tl σ H λx H1=>match x with
 | .ref a=>((∃xs,SqL K H1 a xs)/\R (Itl K a) H1)\/((∃xs,SqT K H1 a xs)/\R (Itt K a) H1)
 | .str z=>R (Its z) H1
 |_=>False
theorem fm{tg l:Expr}{tl:TE}(hl:PE X l tl):PI X tg l (Lg X.K tl):=by
 intro pins s σ H R I h;refine thn (hl pins s σ H _ I h) λv s1 z9=>?_;obtain⟨x,H1,I1,r1,q1⟩:=z9;cases x with
 |ref a=>
  cases r1;rcases q1 with⟨⟨xs,hq⟩,q⟩|⟨⟨xs,hq⟩,q⟩
  ·obtain⟨its,rv,p,hz⟩:=I1.list hq;refine Ta p.isList ?_;refine{s1.heap.objs.size,[s1.heap.objs.size],_,_,H1,rfl,I1.kept (t':=s1.toks) λb o e=>Od _ e,A5 a _,{_,Ox _ rfl,rfl,rfl},λb hb=>?_,q};have e:b=s1.heap.objs.size:=by simpa using hb
   subst e;exact I1.w6 (Ln _) (I1.hok.fresh (Ln _))
  obtain⟨its,rv,p,hz⟩:=I1.tuple hq;refine wpAny_pyIter_tuple (show s1.heap.IsTuple a its.toArray from p) ?_;refine{s1.heap.objs.size,[s1.heap.objs.size],_,_,H1,rfl,I1.kept (t':=s1.toks) λb o e=>Od _ e,yG a _,{_,Ox _ rfl,rfl,rfl},λb hb=>?_,q};have e:b=s1.heap.objs.size:=by simpa using hb
  subst e;exact I1.w6 (Ln _) (I1.hok.fresh (Ln _))
 |str z=>
  obtain⟨t,rfl⟩:=r1;refine wpAny_pyIter_strU ?_;refine{s1.heap.objs.size,[s1.heap.objs.size],_,_,H1,rfl,I1.kept (t':=s1.toks) λb o e=>Od _ e,Dy (T:=strIterType z) ?_ _ z t,{LH _,_,Ox _ rfl,rfl,rfl},λb hb=>?_,q1}
  ·unfold strIterType;split
   ·exact .inl rfl
   exact .inr rfl
  have e:b=s1.heap.objs.size:=by simpa using hb
  subst e;exact I1.w6 (Ln _) (I1.hok.fresh (Ln _))
 |_=>exact(show False from q1).elim
theorem bS{a:Expr}{ta:TE}(ha:PE X a ta)(he:∀whole,isTrue a X.env whole=(do let v<-whole;SX a.pos;QU [v] (truthy v))) :
  PT X a (λσ H Q=>ta σ H λx H'=>x6 X.K x H' Q):=BH ha he
inductive Ec(K:Oc)(xs:List V)(H:Hp)(Q:VK):Prop
 |mk(x:V)(n:Nat)(h0:xs=[x])(h1:JV K x H n)(q:Q (.int n) H):Ec K xs H Q
theorem J4:dh X (.builtin "len") (Ec X.K):=λpins s σ H xs us Q I r ⟨x,n,h0,h1,q⟩=>Ds pins s σ H xs us Q I r ⟨x,n,h0,h1,q⟩
theorem i7:dh X (.type "list") (λxs H Q=>∃p ys,xs=[.ref p]/\(SqL X.K H p ys\/SqT X.K H p ys)/\∀l,H l=UG->Q (.ref l) (upd H l (.lst ys))):=we
noncomputable def EZ:V->E9
 | .ty n=>.type n
 | .ref a=>.ref a
 |_=>.none
theorem Dj{y:V}{u:E9}(r:UJ y u)(h:EZ y≠ .none):u=EZ y:=by
 cases y with
 |ty n=>exact r
 |ref a=>exact r
 |_=>exact absurd rfl h
inductive AW(K:Oc)(xs:List V)(H:Hp)(Q:VK):Prop
 |mk(x y:V)(t:E9)(b:Bool)(h0:xs=[x,y])(h1:EZ y≠ .none)(h2:nv K H x t)(h3:P1 K t (EZ y)=UE b)(q:Q (.bl b) H):AW K xs H Q
theorem bq:dh X (.builtin "isinstance") (AW X.K):=by
 intro pins s σ H xs us Q I r h;obtain⟨x,y,t,b,rfl,hy,ty,e,q⟩:=h;obtain⟨u,w',rfl,rx,ry⟩:=UZ r;rw[Dj ry hy];exact A8 I rx ty e λtk=>{.bl b,H,I.tok _,rfl,q}
theorem bu{o e:Expr}{to:TE}{t:TA}{apos cpos:Pos}(ho:PE X o to)(ha:PA X [e] t)(hbase:O5 o "append" X.env (OT o X.env)=OT o X.env:=by rfl)
  (hfew:((O7 cpos (Oi [e] X.env)).all (λx=>!x.1)&&(PD cpos (O4 [] X.env)).all (λx=>x.1.isSome)
   &&decide ([e].length+([]:List Qc).length+(if([]:List Qc).isEmpty then 0 else 1)<30))=true:=by rfl)
  (hline:(apos.endLine==cpos.line)=true:=by rfl) (hs:Oi [e] X.env=(false,OT e X.env)::Oi [] X.env:=by rfl) (hplain:(O7 cpos (Oi [] X.env)).any (·.1)=false:=by rfl) :
  PE X (.Call (.Attribute o "append" apos) [e] [] cpos) (tBM X.K "list" qu to t):=Ci PM PySem.F.slot_list_append PySem.F.type_list_append tN ho ha hbase hfew hline hs hplain
end
def Has(P:Program)(w:Of)(K:Oc)(mg:Str->Option E9)(base:OC)(k:Nat)(x:Str)(ps:List Str)(sp:Sp):Prop:=
 ∃f fd,jq P w K mg base CX0 k f fd ps sp/\UL K fd ps []/\Pf K (.ref f)=true/\mg x=UE (.ref f)/\∃oc od osl,K.lookup f=UE ⟨oc,od,.func fd,osl⟩
structure a9(K:Oc)(mg:Str->Option E9)(x:Str)(st:OH)(ps:List Str):Prop where
 ex:∃f fd,Fun K x x st f fd/\UL K fd ps []/\mg x=UE (.ref f)
theorem ak{X:Cx}{j k:Nat}{x:Str}{ps:List Str}{sp:Sp}{e:Expr}{es:List Expr}{t:TA}{p pos:Pos}(D:Has X.prog X.w X.K X.mg X.base j x ps sp)(hr:dD k X.A)(ha:PA X (e::es) t)(hj:j<=k:=by decide)(hg:Gl X x:=by rfl)
  (hdb:(x==("__debug__":Str))=false:=by decide) (he:Oi (e::es) X.env=(false,OT e X.env)::Oi es X.env:=by rfl) (hpl:(O7 pos (Oi es X.env)).any (·.1)=false:=by rfl) :
  PE X (.Call (.Name x p) (e::es) [] pos) (zV sp [] E0 t):=by
 obtain⟨f,fd,F,b,kp,m,_⟩:=D
 exact zI F (hr.mono hj) hg m kp b .nil uG ha hdb he hpl
abbrev a9.Hz{K:Oc}{mg:Str->Option E9}{x:Str}{st:OH}{ps:List Str}(_:a9 K mg x st ps)(P:Program)(w:Of)(base:OC)(k:Nat)(sp:Sp):Prop:=L2.Has P w K mg base k x ps sp
theorem a9.hs{P:Program}{w:Of}{K:Oc}{mg:Str->Option E9}{base:OC}{x:Str}{st:OH}{N ps:List Str}{k:Nat}{sp:Sp}(F:a9 K mg x st ps)(S:aB N ps (aq st))
  (hbody:∀(f:N6)(cdv:E9)(A:Ou)(outer:List Env)(s:N7)(H:Hp)(vs:List V)(Q:VK)(E:XK),dD k (A.deeper (Qu x (aq st) s.heap.objs.size f cdv))->(A.deeper (Qu x (aq st) s.heap.objs.size f cdv)).units+64<PB->sp vs H Q E->
   ∃t,PSs (vQ CX0 P w K mg base N x (aq st) f cdv A outer s H E).nox (bh st) t/\t { nx:=λ_ H'=>Q .non H',rt:=Q } (UQ N vs) H) (len:∀vs H Q E,sp vs H Q E->vs.length=ps.length:=by intro _ _ _ _ h;cases h;subst_vars;rfl):Has P w K mg base (k+1) x ps sp:=by
 obtain⟨f,fd,F,b,m⟩:=F.ex
 obtain⟨oc,od,kV,doc,pm,an,cdv,ct,osl,e,lk,hcd⟩:=F.ex
 exact{f,fd,F.ok S len λcdv A outer s H vs Q E hr h=>hbody f cdv A outer s H vs Q E hr hr.units h,b,F.kp,m,oc,od,osl,lk}
theorem aj.upd{H:Hp}{p:N6}(h:H p=UG)(o:HO):aj H (upd H p o):=λb u q=>by rw[aW (eW q h)];exact q
theorem aj.tup{K:Oc}{H H':Hp}{a:N6}{xs:List V}(e:aj H H')(h:SqT K H a xs):SqT K H' a xs:=by
 rcases h with(h|⟨o,h⟩)|h
 ·exact .inl (.inl (e _ _ h))
 ·exact .inl (.inr {o,e _ _ h})
 exact .inr h
noncomputable def cFr(fr:List Nat)(σ:St):St:=fr.map λj=>(σ[j]?).getD UG
theorem yw{J:It}{n:Nat}{x:Nat->V}{fr:List Nat}{tf:CB->TT}{te:CB->TE}{Q:VK}{σ:St}{H1:Hp}(p:Nat->Bool)(f:Nat->V)(hn:n<sizeLine)
  (stop:∀H,aj H1 H->J.stop n H) (go:∀i H,i<n->aj H1 H->J.go i H) (yld:∀i H v H',i<n->aj H1 H->J.yld i H v H'->H'=H/\v=x i)
  (hf:∀b i H (R:Bool->Hp->Prop),i<n->aj H1 H->(∀H',aj H H'->R (p i) H')->tf b (UE (x i)::cFr fr σ) H R)
  (he:∀b i H (R:VK),i<n->p i=true->aj H1 H->(∀H',aj H H'->R (f i) H')->te b (UE (x i)::cFr fr σ) H R)
  (fin:∀D H,H1 D=UG->aj H1 H->H D=UE (.lst (((OA n).filter p).map f))->Q (.ref D) H):qD J 1 fr (λ_=>ny 0) tf te Q σ H1:=by
 refine⟨λb D hD=>?_⟩
 have lenf:∀i,(((OA i).filter p).map f).length<=i:=λi=>by
  rw[Lm];exact LG (Nt _ _) (Nw Mx)
 refine{λi m σ' H'=>m=n-i/\i<=n/\(∃v0,σ'=v0::cFr fr σ)/\aj H1 H'/\H' D=UE (.lst (((OA i).filter p).map f)),{n,rfl,LH _,⟨UG,rfl⟩,aj.upd hD _,ao},?_}
 rintro i m σ' H' ⟨rfl,hi,⟨v0,rfl⟩,sm,hl⟩
 by_cases hlt:i<n
 ·refine .inr {go i H' hlt sm,λσ2 H2=>(∃v0,σ2=v0::cFr fr σ)/\aj H1 H2/\H2 D=UE (.lst (((OA (i+1)).filter p).map f)),λσ2 H2 q=>{n-(i+1),by lia,rfl,hlt,q},λv H2 y=>?_};obtain⟨rfl,rfl⟩:=yld i H' v H2 hlt sm y;show tf b (UE (x i)::cFr fr σ) _ _;refine hf b i _ _ hlt sm λH3 s3=>?_;have e1:(OA (i+1)).filter p=(OA i).filter p++(if p i then[i]else[]):=by
   rw[TV,NF];congr 1;cases hp:p i<;>simp[hp]
  cases hp:p i with
  |false=>
   rw[if_neg Lv];refine{{_,rfl},sm.trans s3,?_};rw[s3 _ _ hl,e1,hp];simp
  |true=>
   rw[if_pos rfl];refine he b i _ _ hlt hp (sm.trans s3) λH4 s4=>{_,s4 _ _ (s3 _ _ hl),?_,{_,rfl},?_,?_}
   ·exact ND (lenf i) (Nat.lt_trans hlt hn)
   ·have sm4:aj H1 H4:=sm.trans (s3.trans s4);intro c o q;by_cases hc:c=D
    ·rw[hc,hD]at q;cases q
    rw[aW hc];exact sm4 c o q
   rw[ao,e1,hp];simp
 have e:i=n:=by lia
 subst e
 exact .inl ⟨stop H' sm,fin D H' hD sm hl⟩
theorem qP{lo:Int}{n:Nat}{fr:List Nat}{tf:CB->TT}{te:CB->TE}{Q:VK}{σ:St}{H1:Hp}(p:Nat->Bool)(f:Nat->V)(hn:n<sizeLine)
  (hf:∀b i H (R:Bool->Hp->Prop),i<n->aj H1 H->(∀H',aj H H'->R (p i) H')->tf b (UE (.int (lo+i))::cFr fr σ) H R)
  (he:∀b i H (R:VK),i<n->p i=true->aj H1 H->(∀H',aj H H'->R (f i) H')->te b (UE (.int (lo+i))::cFr fr σ) H R)
  (fin:∀D H,H1 D=UG->aj H1 H->H D=UE (.lst (((OA n).filter p).map f))->Q (.ref D) H):qD (Itr lo n) 1 fr (λ_=>ny 0) tf te Q σ H1:=
 yw (x:=λi=>.int (lo+i)) p f hn (λ_ _=>Ln _) (λ_ _ h _=>h) (λ_ _ _ _ _ _ y=>y) hf he fin
section
variable{X:Cx}
def Hu(K:Oc):V->Option Int->Option Int->Hp->VK->Prop:=λx lo hi H Q=>HI K x lo hi H Q\/GI K x lo hi H Q
theorem Gy:SlR X (Hu X.K):=Em.or Ij
end
theorem By{K:Oc}{mg:Str->Option E9}{h:OC}{x:Str}{st:OH}{ps:List Str}{f:N6}{oc:E9}{od an:Option N6}{osl:Array (Option E9)}{kV doc pm cdv ct:E9}(X:K.In h)(G:h.Ns Oz mg)
  (a:Ul K Oz x=UE (UE (.ref f))) (l:K.lookup f=UE {oc,od,.func (Pj x x (bG st) (bh st) (aq st) .none kV doc pm an cdv ct),osl}) (c:QK K cdv x=true) (k:Pf K (.ref f)=true)
  (hb:∀(kV doc pm:E9)(an:Option N6)(cdv ct:E9)(us:List E9),us.length=ps.length->bindArgs (Pj x x (bG st) (bh st) (aq st) .none kV doc pm an cdv ct) {us,[]}=pure (ps.zip us)):a9 K mg x st ps:=
 {f,_,vj l c k,(vj l c k).binds hb,Tb X G a}
theorem Gq{P:Program}{w:Of}{K:Oc}{mg:Str->Option E9}{base:OC}{k:Nat}{x:Str}{ps:List Str}{sp:Sp}{f:N6}{oc:E9}{od:Option N6}{osl:Array (Option E9)}{fd:Pp}(D:Has P w K mg base k x ps sp)(m:mg x=UE (.ref f))
  (l:K.lookup f=UE ⟨oc,od,.func fd,osl⟩):jq P w K mg base CX0 k f fd ps sp:=by
 obtain⟨g,gd,F,b,kp,mg',_,_,_,l'⟩:=id D
 rw[m]at mg'
 cases mg'
 rw[l]at l'
 cases l'
 exact F
section
variable{prog:Program}{w:Of}{A:Ou}{R:T7->N7->Prop}{I l:N6}{its:Array E9}{ns:List Int}{St:Nat->OC->Prop}{fp wr:List N6}{d:E9}
end
section
variable{X:Cx}
theorem GJ:SlR X K8:=by
 intro pins s σ H x v vl vu lo hi sl Q I rx hs pl pu h;obtain⟨z,rfl,hz,q⟩:=h;obtain⟨t,rfl⟩:=rx;have fin:∀t' k,EP X pins σ Q (.str (Txt.slice z lo hi) t') { s with toks:=k }:=λt' k=>⟨.str _,H,I.tok _,⟨_,rfl⟩,q⟩;have len:=LG (Txt.slice_le z lo hi) hz;obtain⟨o,ho,hc,hd⟩:=hs;refine{"str",_,PySem.F.slot_str_getitem.lookup,QF _ _ _,?_};cases pl with
 |none=>
  cases pu with
  |none=>exact PQ (l:=Px) (u:=Px) (st:=Px) ⟨o,ho,hc,hd⟩ rfl (QQ {len,λt' k=>fin t' k})
  |int j uj=>exact PQ (l:=Px) (u:=UE (j,uj)) (st:=Px) ⟨o,ho,hc,hd⟩ rfl (QQ {len,λt' k=>fin t' k})
 |int i ui=>
  cases pu with
  |none=>exact PQ (l:=UE (i,ui)) (u:=Px) (st:=Px) ⟨o,ho,hc,hd⟩ rfl (QQ {len,λt' k=>fin t' k})
  |int j uj=>exact PQ (l:=UE (i,ui)) (u:=UE (j,uj)) (st:=Px) ⟨o,ho,hc,hd⟩ rfl (QQ {len,λt' k=>fin t' k})
def fSl(K:Oc):V->Option Int->Option Int->Hp->VK->Prop:=λx lo hi H Q=>match x with
 | .str z=>z.length<=sizeLine/\Q (.str (Txt.slice z lo hi)) H
 |x=>HI K x lo hi H Q\/GI K x lo hi H Q
theorem yu:SlR X (fSl X.K):=by
 intro pins s σ H x v vl vu lo hi sl Q I rx hs pl pu h;by_cases hx:∃z,x=.str z
 ·obtain⟨z,rfl⟩:=hx;exact GJ pins s σ H _ v vl vu lo hi sl Q I rx hs pl pu ⟨z,rfl,h.1,h.2⟩
 refine Gy pins s σ H x v vl vu lo hi sl Q I rx hs pl pu ?_;cases x<;>first|exact h|exact absurd {_,rfl} hx
theorem IK(hc:X.calm=true:=by rfl):dh X (.builtin "max") (λxs H Q=>∃i j,xs=[.int i,.int j]/\Q (.int (if j>i then j else i)) H):=A0 hc
theorem Ar{x:Str}{z:Str}{pos:Pos}(h:∃t,X.mg x=UE (.str z t))(hg:Gl X x:=by rfl)(hd:(x==("__debug__":Str))=false:=by decide):PE X (.Name x pos) (tC (.str z)):=by
 obtain⟨t,e⟩:=h;exact Aj hg e ⟨t,rfl⟩ hd
end
noncomputable def Cy(lo c:Int)(n:Nat):It:={λi _=>i<n,λi H x H'=>H'=H/\x=.int (lo+i*c),λi _=>n<=i}
noncomputable def kY(lo hi c:Int):Nat:=(OS lo hi c).toNat
theorem xn{P:Program}{w:Of}{K:Qb}{tg:Expr}(it:N6)(lo c:Int)(n:Nat):UY P w K tg (Cy lo c n) [it] it (λi h=>RL h it (lo+(i:Nat)*c) ((n:Int)-(i:Nat)) c) where
 mem:=by simp
 obj:=λi h st b hb=>by
  have e:b=it:=by simpa using hb
  subst e;exact{_,st,λv z=>by
   have z':TK _=Sd v:=z;cases z'}
 keep:=λi h h' st k=>k it (by simp) _ st
 item:=by
  intro X hP hw hK hc i pins s σ H E I hf st hg;subst hP hw hK;obtain⟨f0,f1,f2,f3,f4,f5⟩:=hf it (by simp);have W:=Walks.range (prog:=X.prog) (w:=X.w) (I.ok.hd hc) it lo c n;refine W.item i s _ _ hg st λv h' tk hv st' kk=>?_;obtain⟨t,rfl⟩:=hv;have I1:Inv X pins σ H { s with heap:=h',toks:=tk }:=I.turned (λb o hb e=>kk b o (by simpa using hb) e) f0 f1 f3 f4 f5;exact⟨_,rfl,xO (s:={ s with heap:=h',toks:=tk }) (n:="range_iterator") st' rfl rfl (by decide) ⟨.int (lo+i*c),H,I1,⟨t,rfl⟩,⟨rfl,rfl⟩,st',λb hb=>(hf b hb).1⟩⟩
 done:=by
  intro X hP hw hK hc i pins s σ H E I hf st hg;subst hP hw hK;obtain⟨f0,f1,f2,f3,f4,f5⟩:=hf it (by simp);exact Rv (I.ok.hd hc) st (by have:n<=i:=hg;lia) λh' eb=>{rfl,I.turned (t':=s.toks) (λb o hb e=>eb b o hb e) f0 f1 f3 f4 f5}
 self:=λ_ _ _ _ _ st h=>Rw st h
section
variable{X:Cx}{tg:Expr}
noncomputable def gb{α:Type}(xs:List α):List α:=(OA ((xs.length+1)/2)).filterMap λm=>xs[m*2]?
theorem xj{α:Type}(xs:List α):(gb xs).length<=xs.length:=by
 unfold gb;refine LG (List.length_filterMap_le _ _) ?_;rw[Mx];lia
theorem UH.gb{xs:List V}{us:List E9}(r:UH xs us):UH (gb xs) (gb us):=by
 have hl:=r.length;unfold L2.gb;rw[hl];have gen:∀l:List Nat,UH (l.filterMap λm=>xs[m*2]?) (l.filterMap λm=>us[m*2]?):=by
  intro l;induction l with
  |nil=>exact .nil
  |cons m l ih=>
   rw[MG,MG];cases e:xs[m*2]? with
   |none=>rw[r.none_of e];exact ih
   |some x=>
    obtain⟨u,hu,ru⟩:=r.get e;rw[hu];exact .cons ru ih
 exact gen _
theorem EB(n:Nat):OQ 0 (n:Int) 2=(n+1)/2:=by
 unfold OQ;have h1:(2:Int)>0:=by lia
 simp only[h1,if_true];split<;>lia
theorem IF(xs:Array E9):((OA ((xs.size+1)/2)).filterMap λ(m:Nat)=>xs[((0:Int)+(m:Int)*2).toNat]?).toArray=(gb xs.toList).toArray:=by
 unfold gb;have e:(λ(m:Nat)=>xs[((0:Int)+(m:Int)*2).toNat]?)=λm=>xs.toList[m*2]?:=by
  funext m
  have:((0:Int)+(m:Int)*2).toNat=m*2:=by lia
  rw[this,L5]
 rw[e,LI]
theorem Bn{prog:Program}{w:Of}{A:Ou}{E:E9->N7->Prop}{s:N7}{sl:N6}{t2:Tok}{n:Nat}{Q:Int×Int×Nat->N7->Prop}(hs:s.heap.IsSliceOf sl .none .none (.int 2 t2))(h:Q (0,2,(n+1)/2) s) :
  wpAny (Oh prog w) A (Pq (.ref sl) (pure (n:Int))) Q E s:=by
 obtain⟨os,hos,hcs,hds⟩:=id hs
 unfold Pq Q8
 refine N5 (N5 (QL hos hds (x:=.none) rfl (N5 (QL hos hds (x:=.none) rfl (N5 (QL hos hds (x:=.int 2 t2) rfl (N9 ?_)))))))
 refine N5 (slicePart_int ?_)
 show wpAny _ _ (if((2:Int)==0)=true then _ else _) _ _ s
 rw[if_neg (by decide)]
 refine N5 (Q1 (N5 (Q1 (N5 (N9 ?_)))))
 show wpAny _ _ (pure ((0:Int),(2:Int),OQ 0 (n:Int) 2)) _ _ s
 rw[EB]
 exact N9 h
theorem nD{prog:Program}{w:Of}{A:Ou}{E:E9->N7->Prop}{s:N7}{t sl:N6}{items:Array E9}{t2:Tok}{Q:E9->N7->Prop}(ht:IsTup s.heap t items)(hs:s.heap.IsSliceOf sl .none .none (.int 2 t2))
  (h:Q (.ref s.heap.objs.size) { s with heap:=s.heap.push { cls:=.type "tuple",data:=.seq (gb items.toList).toArray } }) (hsz:items.size<=sizeLine):wpAny (Oh prog w) A (Rg (.ref t) (.ref sl)) Q E s:=by
 have htake:sizeOk (.seq (gb items.toList).toArray):=by
  show(gb items.toList).toArray.size<=sizeLine;rw[LM];exact LG (xj _) (by rw[LI];exact hsz)
 obtain⟨os,hos,hcs,hds⟩:=id hs
 have hTs:s.TypeIs (.ref sl) "slice":=⟨os,hos,hcs⟩
 unfold Rg
 try with_reducible refine wpAny_holding ?_
 first|refine N5 (N9 ?_)|skip
 refine N5 (S8 ht.typeIs (by decide) ?_)
 refine N5 (Rn (name:=Qd "__getitem__") ht.typeIs O9
  (QE O9 ht.typeIs Sj ?_ (SI _ _)))
 show wpAny _ _ (Q3 (.ref t)>>=_) _ _ s
 refine N5 (tupleItemsOf_ ht ?_)
 refine N5 (Qv hTs ?_)
 rw[if_pos (by decide)]
 refine N5 (Bn hs ?_)
 show wpAny _ _ (if((0:Int)==0&&(2:Int)==1&&((items.size+1)/2)==items.size)=true then _ else _) _ _ s
 rw[if_neg (by simp),IF]
 first
  |exact N5 (m:=OM _) (OZ (N9 {_,rfl,N9 h}) htake)
  |exact N5 (m:=OM _) (OZ (N5 (N9 (N9 {_,rfl,N9 h}))) htake)
  |exact N5 (N5 (m:=OM _) (OZ (N9 (N9 {_,rfl,N9 h})) htake))
  |exact N5 (N5 (m:=OM _) (OZ (N9 {_,rfl,N9 h}) htake))
noncomputable def Hq(K:Oc)(te:TE):TE:=λσ H Q=>te σ H λx H1=>∃a xs,x=.ref a/\SqT K H1 a xs/\∀p,H1 p=UG->Q (.ref p) (upd H1 p (.tup (gb xs)))
theorem DS{e:Expr}{te:TE}{j:Nat}{pos p2 p3:Pos}(he:PE X e te):PE X (.Subscript e (.Slice UG UG (UE (.Constant (.int 2) j p3)) p2) pos) (Hq X.K te):=by
 intro pins s σ H Q I h;refine Uc (thn (he pins s σ H _ I h) λv s1 z9=>?_);obtain⟨x,H1,I1,r1,a,xs,ex,hx,q⟩:=z9;subst ex;cases r1;refine wpAny_Slice ?_;rw[Sv];refine N9 ?_;refine N9 ?_;rw[evalPart_some];refine SF ?_;obtain⟨its,r,ht,hz⟩:=I1.tuple hx;have hlen:its.toArray.size=xs.length:=by rw[LM];exact r.length.symm
 have I4:Inv X pins σ H1 { s1 with heap:=s1.heap.push { cls:=.type "slice",data:=.fields #[.none,.none,.int 2 s1.toks] },toks:=s1.toks+1 }:=I1.kept λb ob q=>Od _ q;have ht4:IsTup (s1.heap.push { cls:=.type "slice",data:=.fields #[.none,.none,.int 2 s1.toks] }) a its.toArray:=by
  obtain⟨o,e,r⟩:=ht;exact{o,Od _ e,r}
 refine tail_any (ops:=[.ref a,.ref s1.heap.objs.size]) (s:={ s1 with heap:=s1.heap.push { cls:=.type "slice",data:=.fields #[.none,.none,.int 2 s1.toks] },toks:=s1.toks+1 }) ht4.typeIs PyProof.Rows.slot_tuple_getitem.lookup (nD ht4 (SJ ..) ?_ (by rw[hlen];exact hz)) (by with_unfolding_all rfl);refine{.ref _,_,I4.laid (t':=s1.toks+1) (o:=.tup (gb xs)) (λb ob q=>Od _ q) (Ln _) ?_,rfl,q _ (I4.hok.fresh (Ln _))};exact{LG (xj xs) hz,_,r.gb,IsTup.new _ _}
theorem HC:dh X (.type "str") (λxs H Q=>(∃i,xs=[.int i]/\i.natAbs.log2<1920/\Q (.str (toString i)) H)\/∃x,xs=[.str x]/\Q (.str x) H):=by
 intro pins s σ H xs us Q I r h;rcases h with h|⟨x,rfl,q⟩
 ·exact vF pins s σ H xs us Q I r h
 obtain⟨u,rfl,t,rfl⟩:=UR r;exact PySem.P.str_of_str {.str x,H,I,{_,rfl},q}
theorem cw{x:Str}{pos:Pos}{a:N6}(h:X.mg x=UE (.ref a))(hg:Gl X x:=by rfl)(hd:(x==("__debug__":Str))=false:=by decide):PE X (.Name x pos) (tC (.ref a)):=Aj hg h rfl hd
end
theorem y9{lo c:Int}{n:Nat}{g:TG}{tb:TS}{D:UW}{σ:St}{H:Hp}(Pv:Nat->St->Hp->Prop)(h0:Pv 0 σ H)
  (hs:∀i σ H,i<n->Pv i σ H->g (.int (lo+i*c)) σ H λσ2 H2=>tb { D with nx:=Pv (i+1),ct:=Pv (i+1),bk:=D.nx } σ2 H2) (hd:∀σ H,Pv n σ H->D.nx σ H) :
  ∃W:Nat->Nat->St->Hp->Prop,(∃m,W 0 m σ H)/\∀i m σ H,W i m σ H->
   ((Cy lo c n).stop i H/\D.nx σ H)\/((Cy lo c n).go i H/\∃N:St->Hp->Prop,(∀σ' H',N σ' H'->∃m',m'<m/\W (i+1) m' σ' H')/\∀x H',(Cy lo c n).yld i H x H'->g x σ H' λσ2 H2=>tb { D with nx:=N,ct:=N,bk:=D.nx } σ2 H2):=by
 refine{λi m σ H=>m=n-i/\i<=n/\Pv i σ H,{n,by simp,LH _,h0},?_}
 rintro i m σ H ⟨rfl,hi,p⟩
 by_cases hlt:i<n
 ·refine .inr {hlt,Pv (i+1),λσ' H' p'=>{n-(i+1),by lia,rfl,hlt,p'},λx H' y=>?_};obtain⟨e,y⟩:=y;subst e y;exact hs i σ _ hlt p
 have e:i=n:=by lia
 subst e
 exact .inl {Ln _,hd σ H p}
theorem qN{J:It}{n:Nat}{x:Nat->V}{fr:List Nat}{te:CB->TE}{Q:VK}{σ:St}{H1:Hp}(R:Nat->V->Hp->Prop)(hn:n<sizeLine)
  (stop:∀H,aj H1 H->J.stop n H) (go:∀i H,i<n->aj H1 H->J.go i H) (yld:∀i H v H',i<n->aj H1 H->J.yld i H v H'->H'=H/\v=x i)
  (he:∀b i H (G:VK),i<n->aj H1 H->(∀y H',aj H H'->R i y H'->G y H')->te b (UE (x i)::cFr fr σ) H G)
  (mono:∀i y H H',aj H H'->R i y H->R i y H') (st:∀i y H D ys zs,H D=UE (.lst ys)->R i y H->R i y (upd H D (.lst zs)))
  (fin:∀D H ys,H1 D=UG->aj H1 H->H D=UE (.lst ys)->ys.length=n->(∀(i:Nat) y,ys[i]?=UE y->R i y H)->Q (.ref D) H):qD J 1 fr (λ_=>ny 0) (λ_=>JN) te Q σ H1:=by
 refine⟨λb D hD=>?_⟩
 refine{λi m σ' H'=>m=n-i/\i<=n/\(∃v0,σ'=v0::cFr fr σ)/\aj H1 H'/\∃ys,H' D=UE (.lst ys)/\ys.length=i/\∀(j:Nat) y,ys[j]?=UE y->R j y H',{n,rfl,LH _,⟨UG,rfl⟩,aj.upd hD _,[],ao,rfl,λj y h=>by cases h},?_}
 rintro i m σ' H' ⟨rfl,hi,⟨v0,rfl⟩,sm,ys,hl,hy,hR⟩
 by_cases hlt:i<n
 ·refine .inr {go i H' hlt sm,λσ2 H2=>(∃v0,σ2=v0::cFr fr σ)/\aj H1 H2/\∃ys,H2 D=UE (.lst ys)/\ys.length=i+1/\∀(j:Nat) y,ys[j]?=UE y->R j y H2,λσ2 H2 q=>{n-(i+1),by lia,rfl,hlt,q},λv H2 y=>?_};obtain⟨rfl,rfl⟩:=yld i H' v H2 hlt sm y;refine he b i _ _ hlt sm λz H4 s4 rz=>{ys,s4 _ _ hl,by lia,{_,rfl},?_,ys++[z],ao,by simp[hy],λj y' hj=>?_}
  ·intro c o q;by_cases hc:c=D
   ·rw[hc,hD]at q;cases q
   rw[aW hc];exact(sm.trans s4) c o q
  have hD4:=s4 _ _ hl;by_cases hji:j<ys.length
  ·rw[Me hji]at hj;exact st _ _ _ _ _ _ hD4 (mono _ _ _ _ s4 (hR j y' hj))
  by_cases e:j=ys.length
  ·subst e;rw[L7 (Ln _)]at hj;simp at hj;subst hj;rw[hy];exact st _ _ _ _ _ _ hD4 rz
  rw[My (by simp;lia)]at hj;cases hj
 have e:i=n:=by lia
 subst e
 exact .inl ⟨stop H' sm,fin D H' ys hD sm hl hy hR⟩
section
variable{P:Program}{w:Of}{K:Oc}{mg:Str->Option E9}{base:OC}
structure MFn(K:Oc)(C:N6)(m qual:Str)(st:OH)(ps:List Str):Prop where
 ex:∃f fd,Fun K m qual st f fd/\UL K fd ps []/\U0 K C m f
def xp(P:Program)(w:Of)(K:Oc)(mg:Str->Option E9)(base:OC)(k:Nat)(C:N6)(m:Str)(ps:List Str)(sp:Sp):Prop:=
 ∃f fd,jq P w K mg base CX0 k f fd ps sp/\UL K fd ps []/\U0 K C m f
abbrev MFn.Hz{C:N6}{m qual:Str}{st:OH}{ps:List Str}(_:MFn K C m qual st ps)(P:Program)(w:Of)(mg:Str->Option E9)(base:OC)(k:Nat)(sp:Sp):Prop:=xp P w K mg base k C m ps sp
theorem MFn.hs{C:N6}{m qual:Str}{st:OH}{N ps:List Str}{k:Nat}{sp:Sp}(F:MFn K C m qual st ps)(S:aB N ps (aq st))
  (hbody:∀(f:N6)(cdv:E9)(A:Ou)(outer:List Env)(s:N7)(H:Hp)(vs:List V)(Q:VK)(E:XK),dD k (A.deeper (Qu qual (aq st) s.heap.objs.size f cdv))->(A.deeper (Qu qual (aq st) s.heap.objs.size f cdv)).units+64<PB->sp vs H Q E->
   ∃t,PSs (vQ CX0 P w K mg base N qual (aq st) f cdv A outer s H E).nox (bh st) t/\t { nx:=λ_ H'=>Q .non H',rt:=Q } (UQ N vs) H) (len:∀vs H Q E,sp vs H Q E->vs.length=ps.length:=by intro _ _ _ _ h;cases h;subst_vars;rfl):xp P w K mg base (k+1) C m ps sp:=by
 obtain⟨f,fd,F,b,m⟩:=F.ex
 exact{f,fd,F.ok S len λcdv A outer s H vs Q E hr h=>hbody f cdv A outer s H vs Q E hr hr.units h,b,m}
theorem Has.mono{j k:Nat}{x:Str}{ps:List Str}{sp:Sp}(D:Has P w K mg base j x ps sp)(h:j<=k):Has P w K mg base k x ps sp:=by
 obtain⟨f,fd,F,b⟩:=D;exact⟨f,fd,F.mono h,b⟩
structure eI(K:Oc)(mg:Str->Option E9)(C:N6)(x:Str)(up:List N6):Prop where
 mg:mg x=UE (.ref C)
 cl:Cls K C
 mro:∃cd,W.clsIn K C=UE cd/\cd.mro=up.map Oo++[Pm "object"]
 ty:W.typeIn K (.ref C)=UE (.type "type")
 kc:Pa K (.ref C) "__class__"=UE (UE (.builtin "object.__class__"))
 cg:Qr K (.builtin "object.__class__") "__get__"=UE (UE (.builtin "getset_descriptor.__get__"))
 ct:Tu K (.builtin "object.__class__")=UE true
 mks:Tt K C=true
 kp:Pf K (.ref C)=true
variable{C D:N6}{x y:Str}{up vp:List N6}
theorem eI.sub(O:eI K mg C x up)(b:E9):UC K C b=UE ((up.map Oo++[Pm "object"]).contains b):=by
 obtain⟨cd,h1,h2⟩:=O.mro;unfold UC;rw[h1];show(if cd.mro.isEmpty=true then UG else UE (cd.mro.contains b))=_;rw[h2,if_neg (by cases up<;>simp)]
theorem sW(up:List N6)(D:N6):(up.map Oo++[Pm "object"]).contains (Oo D)=decide (D∈up):=by
 induction up with
 |nil=>rfl
 |cons a r ih=>
  show((Oo D==Oo a)||(r.map Oo++[Pm "object"]).contains (Oo D))=_;rw[ih];by_cases h:D=a
  ·subst h;simp
  have:(Oo D==Oo a)=false:=by
   rw[M6];intro z;exact h (Value.ref.inj (beq_iff_eq.mp z))
  rw[this,NJ];simp[h]
theorem eI.kit(O:eI K mg C x up)(U:eI K mg D y vp)(hs:C∈up):P1 K (.ref C) (.ref D)=UE (decide (D∈up)):=by
 unfold P1;split
 ·rename_i q;have:C=D:=Value.ref.inj (beq_iff_eq.mp q);rw[<-this,decide_eq_true hs]
 obtain⟨cd,h1,_⟩:=U.mro;unfold W.kitCls;dsimp only;rw[h1,U.ty];rw[if_pos (by rfl)];show UC K C (.ref D)=_;rw[O.sub,sW]
theorem eI.Kr(O:eI K mg C x up){H:Hp}{a dx:N6}{fs:List (Str×V)}(e:H a=UE (.ins C dx fs)):nv K H (.ref a) (.ref C):=
 .ins e O.cl O.kc O.cg O.ct ((O.sub _).trans (by simp))
end
section
variable{X:Cx}{k j:Nat}{C:N6}{x m:Str}{ps:List Str}{sp:Sp}{o e:Expr}{es:List Expr}{ta:TE}{t:TA}{p apos pos:Pos}{up:List N6}
theorem cf(O:eI X.K X.mg C x up)(D:xp X.prog X.w X.K X.mg X.base j C "__init__" ps sp)(hr:dD k X.A)(ha:PA X (e::es) t)(hj:j+1<=k:=by decide)(hg:Gl X x:=by rfl)(hdb:(x==("__debug__":Str))=false:=by decide)
  (he:Oi (e::es) X.env=(false,OT e X.env)::Oi es X.env:=by rfl) (hpl:(O7 pos (Oi es X.env)).any (·.1)=false:=by rfl):PE X (.Call (.Name x p) (e::es) [] pos) (FX C sp [] E0 t):=by
 obtain⟨f,fd,F,b,m⟩:=D
 exact EL ⟨O.mks,m.at_,m.fn,O.kp⟩ F (hr.mono hj) hg O.mg b .nil uG ha hdb he hpl
noncomputable def G7(M:N6->Sp->Prop)(m:Str)(ta:TE)(t:TA):TE:=λσ H Q=>ta σ H λx H1=>∃a C dx fs sp,x=.ref a/\H1 a=UE (.ins C dx fs)/\fs.lookup m=UG/\M C sp/\t σ H1 λvs H2=>sp (x::vs) H2 Q E0
theorem oY{M:N6->Sp->Prop}{pl:Sem Bool}(he:PE X o ta)(hM:∀C sp,M C sp->Cls X.K C/\∃ps,xp X.prog X.w X.K X.mg X.base j C m ps sp)(hr:dD k X.A)(hj:j<=k:=by decide)
  (ht:OT (.Call (.Attribute o m apos) [] [] pos) X.env=(do
   let ov<-OT o X.env
   SX apos.atName
   let (f,first)<-QU [ov] (Ts ov m pl)
   callWith pos f first (O7 pos (Oi [] X.env)) (PD pos (O4 [] X.env))):=by rfl) :
  PE X (.Call (.Attribute o m apos) [] [] pos) (G7 M m ta EA):=by
 intro pins s σ H Q I h
 refine W.methodCall_KW (pl:=pl) (thn (he pins s σ H _ I h) λu s1 ⟨x,H1,I1,rx,a,C,dx,fs,sp,ex,ea,l,hm,q⟩=>?_) ht
 obtain⟨c,ps,f,fd,F,b,hm⟩:=hM C sp hm
 subst ex
 obtain rfl:u=Oo a:=rx
 refine yR I1 ea c hm l ?_
 exact W.callWith_K0 (first:=[.ref a]) I1.kIn hm.kp (yV (us:=[.ref a]) (vs:=[.ref a]) (dvs:=[]) F (hr.mono hj) b .nil uG I1 (.cons rfl .nil) q)
structure OfC(K:Oc)(C:N6)(m:Str):Prop where
 ga:Qr K (.ref C) "__getattribute__"=UE (UE (.builtin "type.__getattribute__"))
 rd:W.readsIn K C (.type "type")=true
 fc:∃f,Pa K (.ref C) m=UE (UE (.ref f))/\W.findCls K (.ref C) (.type "type") m=UE (.val (.ref f))
theorem b9{pl:Sem Bool}(O:eI X.K X.mg C x up)(W:OfC X.K C m)(D:xp X.prog X.w X.K X.mg X.base j C m ps sp)(hr:dD k X.A)(ha:PA X (e::es) t)(hj:j<=k:=by decide)(hg:Gl X x:=by rfl)(hdb:(x==("__debug__":Str))=false:=by decide)
  (hst:Oi (e::es) X.env=(false,OT e X.env)::Oi es X.env:=by rfl) (hpl:(O7 pos (Oi es X.env)).any (·.1)=false:=by rfl)
  (ht:OT (.Call (.Attribute (.Name x p) m apos) (e::es) [] pos) X.env=(do
   let ov<-OT (.Name x p) X.env
   SX apos.atName
   let (f,first)<-QU [ov] (Ts ov m pl)
   callWith pos f first (O7 pos (Oi (e::es) X.env)) (PD pos (O4 [] X.env))):=by rfl) :
  PE X (.Call (.Attribute (.Name x p) m apos) (e::es) [] pos) (zV sp [] E0 t):=by
 obtain⟨f,fd,F,b,hm⟩:=D
 intro pins s σ H Q I h
 refine PySem.W.methodCall_KW (pl:=pl) (nP I hg O.mg ?_ hdb) ht
 obtain⟨f',h1,h2⟩:=W.fc
 have ef:f=f':=by
  have:=hm.at_.symm.trans h1;cases this;rfl
 subst ef
 refine PySem.W.method_cls I.kIn W.ga (PySem.W.cls_value I.kIn W.rd h2 rfl ?_)
 refine PySem.W.callWith_K (h₀:=X.base) I.ok.mod.kin hm.kp (thn (ha pos pins _ σ H _ (I.tok _) h) λus s2 ⟨vs,H2,I2,r,q2⟩=>{I2.kIn,?_}) hst hpl
 exact yV (us:=us) (vs:=vs) F (hr.mono hj) b .nil uG I2 r q2
end
theorem GC{K:Oc}{C:N6}{m qual:Str}{st:OH}{ps:List Str}{f:N6}{oc:E9}{od an:Option N6}{osl:Array (Option E9)}{kV doc pm cdv ct:E9}
  (a:Pa K (.ref C) m=UE (UE (.ref f))) (fn:UB K (.ref f)=true) (l:K.lookup f=UE {oc,od,.func (Pj m qual (bG st) (bh st) (aq st) .none kV doc pm an cdv ct),osl}) (c:QK K cdv qual=true) (k:Pf K (.ref f)=true)
  (hb:∀(kV doc pm:E9)(an:Option N6)(cdv ct:E9)(us:List E9),us.length=ps.length->bindArgs (Pj m qual (bG st) (bh st) (aq st) .none kV doc pm an cdv ct) {us,[]}=pure (ps.zip us)):MFn K C m qual st ps:=
 {f,_,vj l c k,(vj l c k).binds hb,⟨a,fn,k⟩}
end L2
namespace L2
open PySem
end L2
namespace L2
open PySem PySem.Spec PyProof.Rows
section
variable{X:Cx}
noncomputable def ue:V->Bool
 | .flt _=>false
 | .byt _=>false
 |_=>true
theorem oJ{x:V}{u v:E9}(hx:ue x=true)(ru:UJ x u)(rv:UJ x v)(A:Ou)(s:N7):Qm A s u v true:=by
 cases x with
 |non=>cases ru;cases rv;exact .same _
 |bl b=>cases ru;cases rv;exact .same _
 |int i=>
  obtain⟨t,rfl⟩:=ru;obtain⟨t',rfl⟩:=rv;have:=Q4 (A:=A) (s:=s) i t i t';rwa [beq_self_eq_true]at this
 |str y=>
  obtain⟨t,rfl⟩:=ru;obtain⟨t',rfl⟩:=rv;have:=Q5 (A:=A) (s:=s) y t y t';rwa [beq_self_eq_true]at this
 |byt _=>cases hx
 |flt _=>cases hx
 |ref a=>cases ru;cases rv;exact .same _
 |ty n=>cases ru;cases rv;exact .same _
theorem JP(hu:X.A.units+64<PB):OpR X (Oy .Eq) (λx y H Q=>∃p q xs,x=.ref p/\y=.ref q/\SqL X.K H p xs/\SqL X.K H q xs/\xs.all ue=true/\Q (.bl true) H):=by
 intro pins s σ H x y v u Q I rx ry h;obtain⟨p,q,xs,rfl,rfl,hp,hq,hf,k⟩:=h;cases rx;cases ry;obtain⟨its,r1,⟨o,n,e1,c1,_,d1⟩,_⟩:=I.list hp;obtain⟨jts,r2,⟨o2,n2,e2,c2,_,d2⟩,_⟩:=I.list hq;have l1:=r1.length;have l2:=r2.length;refine SeqAt.eq_listAt (e:=λ_=>true) ⟨o,e1,c1,n,d1⟩ ⟨o2,e2,c2,n2,d2⟩ (by simp;lia) (by lia) (λj h1 h2=>?_) ?_
 ·simp at h1 h2;obtain⟨x,hx⟩:∃x,xs[j]?=UE x:={xs[j]'(by lia),Lw (by lia)};obtain⟨u1,g1,w1⟩:=r1.get hx;obtain⟨u2,g2,w2⟩:=r2.get hx;have z1:its.toArray[j]'(by simpa using h1)=u1:=by
   have:=Lw h1;rw[g1]at this;simpa using (Oj this).symm
  have z2:jts.toArray[j]'(by simpa using h2)=u2:=by
   have:=Lw h2;rw[g2]at this;simpa using (Oj this).symm
  rw[z1,z2];exact oJ (MJ.mp hf x (LW hx)) w1 w2 _ _
 have:((OA its.toArray.size).all λ_=>true)=true:=by simp
 rw[this];exact⟨.bl true,H,I,rfl,k⟩
noncomputable def Kl(K:Oc):R2:=λx y H Q=>match x,y with
 | .ref p,.ref q=>(∃d e,j5 K H (.ref p) d/\j5 K H (.ref q) e/\OR d=true/\OR e=true/\Q (.bl (P0 d e)) H)\/(∃xs,SqL K H p xs/\SqL K H q xs/\xs.all ue=true/\Q (.bl true) H)
 |x,y=>A7 x y=true/\Q (.bl (decide (x=y))) H
theorem JJ(hu:X.A.units+64<PB):OpR X (Oy .Eq) (Kl X.K):=((KN hu).or (JP hu)).imp λx y H Q q=>by
 by_cases hr:∃p q,x=V.ref p/\y=V.ref q
 ·obtain⟨p,q',rfl,rfl⟩:=hr;rcases q with q|⟨xs,h1,h2,h3,h4⟩
  ·exact .inl q
  exact .inr ⟨p,q',xs,rfl,rfl,h1,h2,h3,h4⟩
 refine .inl ?_;cases x<;>cases y<;>first|exact q|exact absurd {_,_,rfl,rfl} hr
end
section
variable{κ:Type}[DecidableEq κ]
noncomputable def c0(kvs:List (κ×V))(k:κ):Option V:=(kvs.find? λkv=>decide (kv.1=k)).map (·.2)
noncomputable def UN(kvs:List (κ×V))(k:κ)(v:V):List (κ×V):=
 if(kvs.any λkv=>decide (kv.1=k))=true then kvs.map (λkv=>if kv.1=k then(kv.1,v)else kv)else kvs++[(k,v)]
theorem cQ{p:κ×V}{r:List (κ×V)}{k:κ}(e:p.1=k):c0 (p::r) k=UE p.2:=by simp[c0,Mu,e]
theorem cO{p:κ×V}{r:List (κ×V)}{k:κ}(e:¬ p.1=k):c0 (p::r) k=c0 r k:=by simp[c0,Mu,e]
theorem kL(k:κ):∀kvs:List (κ×V),(kvs.any λkv=>decide (kv.1=k))=(c0 kvs k).isSome
 | []=>rfl
 |p::r=>by
  rw[Np];by_cases e:p.1=k
  ·simp only[cQ e,decide_eq_true e,Bool.true_or,SM]
  rw[cO e,decide_eq_false e,NJ];exact kL k r
theorem wZ(k j:κ)(y:V):∀kvs:List (κ×V),c0 (kvs.map λkv=>if kv.1=k then(kv.1,y)else kv) j=(c0 kvs j).map λx=>if j=k then y else x
 | []=>rfl
 |p::r=>by
  have ih:=wZ k j y r;rw[LC];by_cases h:p.1=k
  ·rw[if_pos h];by_cases e:p.1=j
   ·rw[cQ (p:=(p.1,y)) e,cQ e,MB,if_pos (e.symm.trans h)]
   rw[cO (p:=(p.1,y)) e,cO e,ih]
  rw[if_neg h];by_cases e:p.1=j
  ·rw[cQ (p:=p) e,cQ e,MB,if_neg (λz=>h (e.trans z))]
  rw[cO (p:=p) e,cO e,ih]
theorem uk(k j:κ)(y:V):∀kvs:List (κ×V),c0 kvs k=UG->c0 (kvs++[(k,y)]) j=if j=k then UE y else c0 kvs j
 | [],_=>by
  by_cases e:k=j
  ·rw[if_pos e.symm];exact cQ (p:=(k,y)) e
  rw[if_neg (λz=>e z.symm)];exact cO (p:=(k,y)) e
 |p::r,hn=>by
  rw[L8];have hk:¬ p.1=k:=λz=>by rw[cQ z]at hn;cases hn
  rw[cO hk]at hn;have ih:=uk k j y r hn;by_cases e:p.1=j
  ·rw[cQ e,cQ e,if_neg (λz=>hk (e.trans z))]
  rw[cO e,cO e,ih]
theorem wQ(kvs:List (κ×V))(k j:κ)(y:V):c0 (UN kvs k y) j=if j=k then UE y else c0 kvs j:=by
 unfold UN;by_cases a:(kvs.any λkv=>decide (kv.1=k))=true
 ·rw[if_pos a,wZ];rw[kL]at a;by_cases e:j=k
  ·obtain⟨x,hx⟩:=MC.mp a;rw[if_pos e,e,hx,MB,if_pos rfl]
  rw[if_neg e];cases c0 kvs j with
  |none=>rfl
  |some x=>rw[MB,if_neg e]
 rw[if_neg a];refine uk k j y kvs ?_;rw[kL]at a;cases q:c0 kvs k with
 |none=>rfl
 |some x=>rw[q]at a;exact(a rfl).elim
theorem iw(kvs:List (κ×V))(k:κ)(v:V):(UN kvs k v).length<=kvs.length+1:=by
 unfold UN;split
 ·rw[Lm];lia
 rw[Ll,Lq,Mi];lia
theorem BY{kvs:List (κ×V)}{k:κ}(v:V)(h:c0 kvs k=UG):UN kvs k v=kvs++[(k,v)]:=by
 unfold UN;rw[kL,h];exact if_neg (by decide)
theorem mf.ji{o:Option V}{u:Option E9}(r:mf o u):o.isSome=u.isSome:=by
 cases o with
 |none=>cases u with
  |none=>rfl
  |some _=>exact(show False from r).elim
 |some _=>cases u with
  |none=>exact(show False from r).elim
  |some _=>rfl
theorem KV.val{kvs:List (κ×V)}{vs:List (κ×E9)}(r:KV kvs vs)(k:κ):mf (c0 kvs k) (valueAt vs k):=by
 unfold KV at r;induction r with
 |nil=>exact Mz
 |@cons p q ps qs h t ih=>
  obtain⟨h1,h2⟩:=h;by_cases e:p.1=k
  ·have e':q.1=k:=h1.symm.trans e;have b:valueAt (q::qs) k=UE q.2:=by simp[valueAt,Mu,e']
   rw[cQ e,b];exact h2
  have e':¬ q.1=k:=λz=>e (h1.trans z);have b:valueAt (q::qs) k=valueAt qs k:=by simp[valueAt,Mu,e']
  rw[cO e,b];exact ih
theorem KV.any{kvs:List (κ×V)}{vs:List (κ×E9)}(r:KV kvs vs)(k:κ):(kvs.any λkv=>decide (kv.1=k))=vs.any λkv=>decide (kv.1=k):=by
 unfold KV at r;induction r with
 |nil=>rfl
 |cons h t ih=>rw[Np,Np,ih,h.1]
theorem KV.GH{kvs:List (κ×V)}{vs:List (κ×E9)}(r:KV kvs vs)(k:κ){y:V}{u:E9}(ry:UJ y u) :
  KV (kvs.map λkv=>if kv.1=k then(kv.1,y)else kv) (vs.map λkv=>if kv.1=k then(kv.1,u)else kv):=by
 unfold KV at r⊢
 induction r with
 |nil=>exact .nil
 |@cons p q ps qs h t ih=>
  rw[LC,LC]
  refine .cons ?_ ih
  obtain⟨h1,h2⟩:=h
  by_cases e:p.1=k
  ·rw[if_pos e,if_pos (h1.symm.trans e)];exact⟨h1,ry⟩
  rw[if_neg e,if_neg (λz=>e (h1.trans z))];exact⟨h1,h2⟩
theorem KV.put{kvs:List (κ×V)}{vs:List (κ×E9)}(r:KV kvs vs)(k:κ){y:V}{u:E9}(ry:UJ y u):KV (UN kvs k y) (stored vs k u):=by
 unfold UN stored;rw[r.any k];by_cases e:(vs.any λkv=>decide (kv.1=k))=true
 ·rw[if_pos e,if_pos e];exact r.GH k ry
 rw[if_neg e,if_neg e];exact Paired.snoc r ⟨rfl,ry⟩
theorem KV.keys{kvs:List (κ×V)}{vs:List (κ×E9)}(r:KV kvs vs):kvs.map (·.1)=vs.map (·.1):=by
 unfold KV at r;induction r with
 |nil=>rfl
 |cons h t ih=>rw[LC,LC,ih,h.1]
theorem KV.length{kvs:List (κ×V)}{vs:List (κ×E9)}(r:KV kvs vs):kvs.length=vs.length:=Oe r
end
theorem rn{P:Program}{w:Of}{k:Key}{u:E9}(r:UJ (kV k) u):(bT P w).is k u=true:=by
 cases k with
 |inl i=>obtain⟨t,e⟩:=(show ∃t,u=RX i t from r);subst e;exact wu P w i t
 |inr x=>obtain⟨t,e⟩:=(show ∃t,u=QB x t from r);subst e;exact xI P w x t
theorem tW{P:Program}{w:Of}:∀{ks:List Key}{us:List E9},UH (ks.map kV) us->ItemsAre (bT P w) ks us
 | [],_,r=>by rw[NY]at r;cases r;exact .nil
 |k::ks,_,r=>by
  rw[LC]at r;cases r with
  |cons h t=>exact .cons (rn h) (tW t)
abbrev KT(H:Hp):List (List Key×V)->List (List Key×N6×E9)->Prop:=Paired λp q=>p.1=q.1/\H q.2.1=UE (.tup (p.1.map kV))/\UJ p.2 q.2.2
theorem KT.val{H:Hp}{kvs:List (List Key×V)}{xs:List (List Key×N6×E9)}(r:KT H kvs xs)(k:List Key):mf (c0 kvs k) ((TN xs k).map (·.2)):=by
 induction r with
 |nil=>exact Mz
 |@cons p q ps qs h t ih=>
  obtain⟨h1,_,h2⟩:=h;by_cases e:p.1=k
  ·have e':q.1=k:=h1.symm.trans e;have b:TN (q::qs) k=UE q.2:=by simp[TN,Mu,e']
   rw[cQ e,b];exact h2
  have e':¬ q.1=k:=λz=>e (h1.trans z);have b:TN (q::qs) k=TN qs k:=by simp[TN,Mu,e']
  rw[cO e,b];exact ih
theorem KT.GH{H:Hp}{kvs:List (List Key×V)}{xs:List (List Key×N6×E9)}(r:KT H kvs xs)(k:List Key){y:V}{u:E9}(ry:UJ y u) :
  KT H (kvs.map λkv=>if kv.1=k then(kv.1,y)else kv) (xs.map (putAt k u)):=by
 induction r with
 |nil=>exact .nil
 |@cons p q ps qs h t ih=>
  rw[LC,LC]
  refine .cons ?_ ih
  obtain⟨h1,h2,h3⟩:=h
  unfold putAt
  by_cases e:p.1=k
  ·rw[if_pos e,if_pos (h1.symm.trans e)];exact⟨h1,h2,ry⟩
  rw[if_neg e,if_neg (λz=>e (h1.trans z))];exact⟨h1,h2,h3⟩
theorem KT.put{H:Hp}{kvs:List (List Key×V)}{xs:List (List Key×N6×E9)}(r:KT H kvs xs)(k:List Key){b:N6}{y:V}{u:E9}(hb:H b=UE (.tup (k.map kV)))(ry:UJ y u) :
  KT H (UN kvs k y) (storedH xs k b u):=by
 have e:(kvs.any λkv=>decide (kv.1=k))=(TN xs k).isSome:=by
  rw[kL,(r.val k).ji,NL]
 unfold UN storedH
 rw[e]
 by_cases q:(TN xs k).isSome=true
 ·rw[if_pos q,if_pos q];exact r.GH k ry
 rw[if_neg q,if_neg q];exact Paired.snoc r ⟨rfl,hb,ry⟩
theorem KT.keeps{H H':Hp}{kvs:List (List Key×V)}{xs:List (List Key×N6×E9)}(r:KT H kvs xs)(ht:∀b ys,H b=UE (.tup ys)->H' b=UE (.tup ys)):KT H' kvs xs:=
 Paired.rg r λ_ _ z=>{z.1,ht _ _ z.2.1,z.2.2}
section
variable{P:Program}{w:Of}{H:Hp}{h:OC}{a:N6}
theorem Gb{u:HO}(ok:HOk P w H h)(e:Rd H a u):cy P w H h a u:=e.ok ok
theorem nL{kvs:List (Key×V)}(ok:HOk P w H h)(e:Rd H a (.dK kvs)):kvs.length<=sizeLine/\(a==Pd)=false/\∃vs,KV kvs vs/\h.DictOf (bT P w) a vs:=
 show cy P w H h a (.dK kvs)from Gb ok e
theorem DC{kvs:List (Key×V)}(ok:HOk P w H h)(e:H a=UE (.dK kvs)):kvs.length<=sizeLine/\(a==Pd)=false/\∃vs,KV kvs vs/\h.DictOf (bT P w) a vs:=nL ok (.inl e)
theorem qZ{ks:List Key}(ok:HOk P w H h)(e:H a=UE (.tup (ks.map kV))):(RY (bT P w)).is h ks a:=by
 obtain⟨_,its,r,o,h1,h2,n,h3⟩:=(show cy P w H h a (.tup (ks.map kV))from ok a _ e);exact⟨o,its.toArray,n,h1,h2,h3,by simpa using tW r⟩
theorem xg{kvs:List (List Key×V)}(ok:HOk P w H h)(e:Rd H a (.dT kvs)):kvs.length<=sizeLine/\(a==Pd)=false/\
  ∃xs,KT H kvs xs/\h.DictOfH (RY (bT P w)) a xs:=by
 obtain⟨z,y,xs,r,o,es,ep,h1,h2,h3,h4,h5⟩:=(show cy P w H h a (.dT kvs)from Gb ok e)
 refine{z,y,xs,r,o,es,ep,h1,h2,h3,h4,λx hx=>?_,h5}
 have all:∀{l:List (List Key×V)}{m:List (List Key×N6×E9)},KT H l m->∀x∈m,(RY (bT P w)).is h x.1 x.2.1:=by
  intro l m q;induction q with
  |nil=>intro x hx;exact nomatch hx
  |@cons p q ps qs hq t ih=>
   intro x hx;rcases Lu.mp hx with e|hx
   ·subst e;exact qZ ok (by rw[<-hq.1];exact hq.2.1)
   exact ih x hx
 exact all r x hx
theorem IY{kvs:List (List Key×V)}(ok:HOk P w H h)(e:H a=UE (.dT kvs)):kvs.length<=sizeLine/\(a==Pd)=false/\
  ∃xs,KT H kvs xs/\h.DictOfH (RY (bT P w)) a xs:=xg ok (.inl e)
end
def oA(H:Hp)(a:N6)(y:V)(r:Option V):Prop:=
 (∃kvs k,Rd H a (.dK kvs)/\y=kV k/\r=c0 kvs k)\/∃kvs k b,Rd H a (.dT kvs)/\y=.ref b/\H b=UE (.tup (k.map kV))/\r=c0 kvs k
def pT(H:Hp)(a:N6)(y v:V)(H':Hp):Prop:=
 (∃kvs k,H a=UE (.dK kvs)/\y=kV k/\kvs.length<sizeLine/\H'=upd H a (.dK (UN kvs k v)))\/
 ∃kvs k b,H a=UE (.dT kvs)/\y=.ref b/\H b=UE (.tup (k.map kV))/\kvs.length<sizeLine/\H'=upd H a (.dT (UN kvs k v))
theorem oA.k{H:Hp}{a:N6}{kvs:List (Key×V)}{k:Key}(e:H a=UE (.dK kvs)):oA H a (kV k) (c0 kvs k):=.inl ⟨kvs,k,.inl e,rfl,rfl⟩
theorem pT.k{H:Hp}{a:N6}{kvs:List (Key×V)}{k:Key}{v:V}(e:H a=UE (.dK kvs))(hl:kvs.length<sizeLine):pT H a (kV k) v (upd H a (.dK (UN kvs k v))):=.inl ⟨kvs,k,e,rfl,hl,rfl⟩
section
variable{X:Cx}{pins:List (N6×Obj)}{σ:St}{H:Hp}{s:N7}{a:N6}{y v:V}{u r:E9}{o:Option V}{A:Ou}{E:E9->N7->Prop}
theorem Inv.big(I:Inv X pins σ H s):Pd<s.heap.objs.size:=by
 have h:Oz<s.heap.objs.size:=(I.mod.glob.keeps I.bk).lt;exact Nat.lt_trans (by decide) h
theorem Bh{Q:E9->N7->Prop}(hu:A.units+1<PB)(I:Inv X pins σ H s)(g:oA H a y (UE v))(ry:UJ y u)(h:∀w' s',Inv X pins σ H s'->UJ v w'->Q w' s') :
  wpAny (Oh X.prog X.w) A (Rg (.ref a) u) Q E s:=by
 rcases g with⟨kvs,k,e,ey,l⟩|⟨kvs,k,b,e,ey,eb,l⟩
 ·subst ey;obtain⟨z,hd,vs,rel,dd⟩:=nL I.hok e;obtain⟨w',hw,rw'⟩:=mf.some_of (v:=v) (o:=valueAt vs k) (by rw[l];exact rel.val k);exact wpAny_getItem_of (rn ry) dd.mapOf hw (h w' _ (I.tok _) rw')
 subst ey
 cases (show u=Oo b from ry)
 obtain⟨z,hd,xs,rel,dd⟩:=xg I.hok e
 obtain⟨w',hw,rw'⟩:=mf.some_of (v:=v) (o:=(TN xs k).map (·.2)) (by rw[l];exact rel.val k)
 obtain⟨p,hp,hp2⟩:=MZ.mp hw
 refine wpAny_getItem_heap (Qo hu) (qZ I.hok eb) dd hp ?_
 rw[hp2]
 exact h w' _ (I.tok _) rw'
theorem KP{Q:E9->N7->Prop}(hu:A.units+1<PB)(I:Inv X pins σ H s)(g:oA H a y o)(ry:UJ y u)(h:∀s',Inv X pins σ H s'->Q (.bool o.isSome) s') :
  wpAny (Oh X.prog X.w) A (Oy .In u (.ref a)) Q E s:=by
 rcases g with⟨kvs,k,e,ey,l⟩|⟨kvs,k,b,e,ey,eb,l⟩
 ·subst ey;obtain⟨z,hd,vs,rel,dd⟩:=nL I.hok e;refine wpAny_in_of (rn ry) hd dd.mapOf ?_;rw[<-(rel.val k).ji,<-l];exact h _ (I.tok _)
 subst ey
 cases (show u=Oo b from ry)
 obtain⟨z,hd,xs,rel,dd⟩:=xg I.hok e
 refine wpAny_in_heap (Qo hu) (qZ I.hok eb) hd dd ?_
 have q:=(rel.val k).ji
 rw[NL]at q
 rw[<-q,<-l]
 exact h _ (I.tok _)
theorem FJ{Q:E9->N7->Prop}(hu:A.units+1<PB)(I:Inv X pins σ H s)(g:oA H a y o)(ry:UJ y u)(h:∀s',Inv X pins σ H s'->Q (.bool (!o.isSome)) s') :
  wpAny (Oh X.prog X.w) A (Oy .NotIn u (.ref a)) Q E s:=by
 rcases g with⟨kvs,k,e,ey,l⟩|⟨kvs,k,b,e,ey,eb,l⟩
 ·subst ey;obtain⟨z,hd,vs,rel,dd⟩:=nL I.hok e;refine wpAny_notIn_of (rn ry) hd dd.mapOf ?_;rw[<-(rel.val k).ji,<-l];exact h _ (I.tok _)
 subst ey
 cases (show u=Oo b from ry)
 obtain⟨z,hd,xs,rel,dd⟩:=xg I.hok e
 refine wpAny_notIn_heap (Qo hu) (qZ I.hok eb) hd dd ?_
 have q:=(rel.val k).ji
 rw[NL]at q
 rw[<-q,<-l]
 exact h _ (I.tok _)
theorem qc{h':OC}{t':Nat}{ob:HO}(I:Inv X pins σ H s)(mu:Mut (H a))(hs:QT a s.heap h')(he:∃q,h'.get? a=UE q)(new:cy X.prog X.w (upd H a ob) h' a ob) :
  Inv X pins σ (upd H a ob) { s with heap:=h',toks:=t' }:=
 I.write (x:=a) (e:=a) mu (.inl rfl) (λb q hb z=>(hs.2 b hb).trans z) he new
theorem yr{P:Program}{w:Of}{H':Hp}{h':OC}{kvs:List (Key×V)}{vs:List (Key×E9)}(z:kvs.length<=sizeLine)(hd:(a==Pd)=false)(rel:KV kvs vs)(dd:h'.DictOf (bT P w) a vs) :
  cy P w H' h' a (.dK kvs):=⟨z,hd,vs,rel,dd⟩
theorem AG{H':Hp}{Q:Unit->N7->Prop}(hu:A.units+1<PB)(I:Inv X pins σ H s)(g:pT H a y v H')(ry:UJ y u)(rv:UJ v r)(h:∀s',Inv X pins σ H' s'->Q () s') :
  wpAny (Oh X.prog X.w) A (setItem (.ref a) u r) Q E s:=by
 rcases g with⟨kvs,k,e,ey,l,eH⟩|⟨kvs,k,b,e,ey,eb,l,eH⟩
 ·subst ey eH;obtain⟨z,hd,vs,rel,dd⟩:=DC I.hok e;have hz:vs.length<=sizeLine:=by rw[<-rel.length];exact z
  have hl:(UN kvs k v).length<=sizeLine:=by have:=iw kvs k v;lia
  refine wpAny_setItem_pairs (hsz:=hz) (rn ry) dd λh' dd' hs=>h _ ?_;have he:∃q,h'.get? a=UE q:=let ⟨q,_,_,hq,_⟩:=dd';⟨q,hq⟩
  exact qc I (by rw[e];exact Mz) hs he (yr hl hd (rel.put k rv) dd')
 subst ey eH
 cases (show u=Oo b from ry)
 obtain⟨z,hd,xs,rel,dd⟩:=IY I.hok e
 have hz:xs.length<=sizeLine:=by rw[<-Oe rel];exact z
 have hl:(UN kvs k v).length<=sizeLine:=by have:=iw kvs k v;lia
 refine wpAny_setItem_heap (hsz:=hz) (Qo hu) (qZ I.hok eb) dd λh' dd' hs=>h _ ?_
 obtain⟨q,es,ep,hq,h2,h3,h4,_,h5⟩:=dd'
 refine qc I (by rw[e];exact Mz) hs ⟨q,hq⟩ {hl,hd,_,(rel.put k eb rv).keeps λc ys ec=>?_,q,es,ep,hq,h2,h3,h4,h5}
 rw[aW (Jf ec e (λz=>nomatch z))]
 exact ec
end
section
variable{X:Cx}{pins:List (N6×Obj)}{σ:St}{H:Hp}{s:N7}{a:N6}{kvs:List (Key×V)}{k:Key}{u:E9}{A:Ou}{E:E9->N7->Prop}
theorem IS{Q:E9->N7->Prop}(I:Inv X pins σ H s)(e:Rd H a (.dK kvs))(h:∀t s',Inv X pins σ H s'->Q (.int kvs.length t) s'):wpAny (Oh X.prog X.w) A (call (.builtin "len") [.ref a]) Q E s:=by
 obtain⟨z,hd,vs,rel,dd⟩:=nL I.hok e;refine call_len_dict hd dd (by rw[<-rel.length];rw[P5]at z;lia) ?_;rw[<-rel.length];exact h _ _ (I.tok _)
end
theorem xR{X:Cx}{pins:List (N6×Obj)}{σ:St}{H:Hp}{s:N7}{a:N6}{y:V}{o:Option V}(I:Inv X pins σ H s)(g:oA H a y o):s.TypeIs (.ref a) "dict":=by
 rcases g with⟨kvs,k,e,_,_⟩|⟨kvs,k,b,e,_,_,_⟩
 ·obtain⟨_,_,vs,_,dd⟩:=nL I.hok e;exact dd.typeIs
 obtain⟨_,_,xs,_,dd⟩:=xg I.hok e;exact dd.typeIs
section
variable{X:Cx}{o i e value:Expr}{pos pos' tpos:Pos}{td ty tv:TE}
end
theorem sN{P:Program}{w:Of}{H:Hp}(h:OC)(hb:Pd<h.objs.size):cy P w H (h.push { cls:=.type "dict",data:=.dict #[] }) h.objs.size (.dK []):=
 {LH _,beq_eq_false_iff_ne.mpr (LU (L9 hb)),[],.nil,TX h}
noncomputable def Il:TE:=λ_ H Q=>∀p,H p=UG->Q (.ref p) (upd H p (.dK []))
section
variable{X:Cx}{pos:Pos}
theorem xN:PE X (.Dict [] [] pos) Il:=λpins s σ H Q I h=>
 wpAny_Dict_empty {.ref s.heap.objs.size,_,I.laid (a:=s.heap.objs.size) (o:=.dK []) (t':=s.toks) (λ_ _ q=>Od _ q) (Ln _) (sN s.heap I.big),rfl,h _ (I.hok.fresh (Ln _))}
end
noncomputable def yO:List (TE×TE)->St->Hp->(List (V×V)->Hp->Prop)->Prop
 | [],_,H,Q=>Q [] H
 | (tk,tv)::r,σ,H,Q=>tk σ H λx H1=>tv σ H1 λy H2=>yO r σ H2 λps H3=>Q ((x,y)::ps) H3
abbrev VV:List (V×V)->List (E9×E9)->Prop:=Paired λp q=>UJ p.1 q.1/\UJ p.2 q.2
def PPs(X:Cx)(pos:Pos)(keys:List (Option Expr))(values:List Expr)(trs:List (TE×TE)):Prop:=
 ∀(pins:List (N6×Obj))(s:N7)(σ:St)(H:Hp)(Q:List (V×V)->Hp->Prop),Inv X pins σ H s->yO trs σ H Q->
  wpAny (Oh X.prog X.w) X.A (evalPairs (pairTrees keys values X.env pos)) (λvs s'=>∃ps H',Inv X pins σ H' s'/\VV ps vs/\Q ps H') X.xe s
theorem zw{X:Cx}{pos:Pos}:PPs X pos [] [] []:=λpins s σ H Q I h=>pairTrees_nil_walk {[],H,I,.nil,h}
theorem fG{X:Cx}{pos:Pos}{k v:Expr}{ks:List (Option Expr)}{vs:List Expr}{tk tv:TE}{trs:List (TE×TE)}(hk:PE X k tk)(hv:PE X v tv)(hr:PPs X pos ks vs trs) :
  PPs X pos (UE k::ks) (v::vs) ((tk,tv)::trs):=λpins s σ H Q I h=>
 pairTrees_cons_walk (thn (hk pins s σ H _ I h) λu s1 ⟨x,H1,I1,rx,q1⟩=>thn (hv pins s1 σ H1 _ I1 q1) λw2 s2 ⟨y,H2,I2,ry,q2⟩=>
  thn (hr pins s2 σ H2 _ I2 q2) λws s3 ⟨ps,H3,I3,rel,q3⟩=>{(x,y)::ps,H3,I3,.cons ⟨rx,ry⟩ rel,q3})
noncomputable def bw(kvs more:List (Key×V)):List (Key×V):=more.foldl (λacc kv=>UN acc kv.1 kv.2) kvs
theorem KV.merge:∀{more:List (Key×V)}{rs:List (Key×E9)}{kvs:List (Key×V)}{vs:List (Key×E9)},KV more rs->KV kvs vs->KV (bw kvs more) (merged vs rs):=by
 intro more rs kvs vs r;unfold KV at r;induction r generalizing kvs vs with
 |nil=>intro q;exact q
 |@cons p q ps qs h t ih=>
  intro r0;have e:KV (UN kvs p.1 p.2) (stored vs q.1 q.2):=by
   have:=r0.put p.1 h.2;rw[<-h.1];exact this
  exact ih e
theorem iW:∀(more kvs:List (Key×V)),(bw kvs more).length<=kvs.length+more.length
 | [],kvs=>by show kvs.length<=kvs.length+0;lia
 |p::r,kvs=>by
  have h1:=iW r (UN kvs p.1 p.2);have h2:=iw kvs p.1 p.2;show(bw (UN kvs p.1 p.2) r).length<=_;rw[Lq];lia
theorem qT{P:Program}{w:Of}:∀{kvs:List (Key×V)}{ws:List (E9×E9)},VV (kvs.map λkv=>(kV kv.1,kv.2)) ws->∃rs,Carries (bT P w) ws rs/\KV kvs rs
 | [],_,r=>by rw[NY]at r;cases r;exact{[],Mz,.nil}
 |p::kvs,_,r=>by
  rw[LC]at r;cases r with
  |@cons a b as bs h t=>
   obtain⟨rs,c,q⟩:=qT (P:=P) (w:=w) t;obtain⟨b1,b2⟩:=b;exact{(p.1,b2)::rs,⟨rn h.1,rfl,c⟩,.cons ⟨rfl,h.2⟩ q}
noncomputable def J6(trs:List (TE×TE)):TE:=λσ H Q=>∀p,H p=UG->yO trs σ (upd H p (.dK [])) λps H2=>H2 p=UE (.dK [])/\∃kvs:List (Key×V),ps=kvs.map (λkv=>(kV kv.1,kv.2))/\kvs.length<=15/\Q (.ref p) (upd H2 p (.dK (bw [] kvs)))
theorem zZ{X:Cx}{pos:Pos}{keys:List (Option Expr)}{values:List Expr}{trs:List (TE×TE)}(h:PPs X pos keys values trs)(hall:keys.all (·.isSome)=true)(hl:keys.length=values.length)(h0:keys≠[])
  (h15:keys.length<=15):PE X (.Dict keys values pos) (J6 trs):=by
 intro pins s σ H Q I q
 have hn:=I.hok.fresh (Ln s.heap.objs.size)
 have I1:=I.laid (a:=s.heap.objs.size) (o:=.dK []) (h':=s.heap.push { cls:=.type "dict",data:=.dict #[] }) (t':=s.toks) (λ_ _ q=>Od _ q) (Ln _) (sN s.heap I.big)
 refine wpAny_Dict_walk (knd:=bT X.prog X.w) hall hl h0 h15 (thn (h pins _ σ _ _ I1 (q _ hn)) λws s2 z9=>?_);obtain⟨ps,H2,I2,rel,e,kvs,ep,lk,q2⟩:=z9
 subst ep
 obtain⟨rs,c,rk⟩:=qT (P:=X.prog) (w:=X.w) rel
 obtain⟨z,hd,vs0,r0,dd⟩:=DC I2.hok e
 cases r0
 refine{rs,c,dd,λh' dd' hs=>{.ref s.heap.objs.size,_,?_,rfl,q2}}
 have hz:(bw [] kvs).length<=sizeLine:=by
  have h1:=iW kvs [];rw[Mi]at h1;rw[P5];lia
 have he:∃q,h'.get? s.heap.objs.size=UE q:=let ⟨q,_,_,hq,_⟩:=dd';⟨q,hq⟩
 exact qc I2 (by rw[e];exact Mz) hs he (yr hz hd (rk.merge .nil) dd')
structure M1(X:Cx)(o:Expr)(m:Str)(apos:Pos)(e:Expr)(cpos:Pos):Prop where
 base:O5 o m X.env (OT o X.env)=OT o X.env
 few:((O7 cpos (Oi [e] X.env)).all (λx=>!x.1)&&(PD cpos (O4 [] X.env)).all (λx=>x.1.isSome)
  &&decide (([e]:List Expr).length+([]:List Qc).length+(if([]:List Qc).isEmpty then 0 else 1)<30))=true
 line:(apos.endLine==cpos.line)=true
 trees:O7 cpos (Oi [e] X.env)=[(false,OT e X.env)]
structure M2(X:Cx)(o:Expr)(m:Str)(apos:Pos)(e f:Expr)(cpos:Pos):Prop where
 base:O5 o m X.env (OT o X.env)=OT o X.env
 few:((O7 cpos (Oi [e,f] X.env)).all (λx=>!x.1)&&(PD cpos (O4 [] X.env)).all (λx=>x.1.isSome)
  &&decide (([e,f]:List Expr).length+([]:List Qc).length+(if([]:List Qc).isEmpty then 0 else 1)<30))=true
 line:(apos.endLine==cpos.line)=true
 trees:O7 cpos (Oi [e,f] X.env)=[(false,OT e X.env),(false,OT f X.env)]
section
variable{X:Cx}{pins:List (N6×Obj)}{σ:St}{H:Hp}{s:N7}{a:N6}{y d:V}{u r:E9}{o:Option V}{A:Ou}{E:E9->N7->Prop}
end
section
variable{X:Cx}{o e f:Expr}{apos cpos:Pos}{td ty tx:TE}
end
section
variable{X:Cx}{pins:List (N6×Obj)}{σ:St}{H:Hp}{s:N7}{a:N6}{kvs:List (Key×V)}{A:Ou}{E:E9->N7->Prop}
end
section
variable{X:Cx}{pins:List (N6×Obj)}{σ:St}{H:Hp}{s:N7}{a:N6}{y:V}{u:E9}{A:Ou}{E:E9->N7->Prop}
end
section
variable{X:Cx}
theorem xP(hu:X.A.units+64<PB):IxR X (λx y H Q=>∃a v,x=.ref a/\oA H a y (UE v)/\Q v H):=by
 intro value slice pins s σ H x y v u Q I rx ry h hs;obtain⟨a,z,rfl,g,q⟩:=h;cases rx;have hT:=xR I g;unfold Sw;refine N5 ?_;rw[getitemInPython_of_ne hT.not_modules];refine N5 (wpAny_specialOf hT PySem.F.slot_dict_getitem.lookup ?_);have h₂:wpAny (Oh X.prog X.w) X.A (Rg (.ref a) u) (EP X pins σ Q) X.xe s:=Bh (by lia) I g ry λw' s3 I3 rw'=>⟨z,H,I3,rw',q⟩;have fin:wpAny (Oh X.prog X.w) X.A (subscripted slice false (.ref a) u) (λr s₃=>wpAny (Oh X.prog X.w) X.A (letTemporaryGo value (.ref a) r>>=λ_=>pure r) (EP X pins σ Q) X.xe s₃) X.xe s:=by
  rw[hs];exact wpAny_operating (Pn h₂ (λr s₃ h₃=>N5 (wpAny_letTemporaryGo (N9 h₃))) λ_ _ x=>x)
 first
  |exact N9 (N5 fin)
  |exact N5 (N9 (N5 fin))
  |exact N5 fin
inductive dgI(p:N6)(y:V)(H:Hp)(Q:VK):Prop
 |mk(v:V)(h:oA H p y (UE v))(q:Q v H):dgI p y H Q
noncomputable def Jj(K:Oc):R2:=λx y H Q=>match x,y with
 | .ref p,.int i=>ixS K p i H Q\/dgI p (.int i) H Q
 | .ref p,.str k=>dgI p (.str k) H Q
 | .str z,.int i=>∃c,z.length<=sizeLine/\atI z.cps.toList i=UE c/\Q (.str ⟨#[c]⟩) H
 |_,_=>False
theorem GL(hu:X.A.units+64<PB):IxR X (Jj X.K):=by
 intro value slice pins s σ H x y v u Q I rx ry h hs;cases x with
 |ref p=>
  cases y with
  |int i=>
   rcases h with h|⟨w,g,q⟩
   ·exact BS value slice pins s σ H _ _ v u Q I rx ry h hs
   exact xP hu value slice pins s σ H _ _ v u Q I rx ry ⟨p,w,rfl,g,q⟩ hs
  |str k=>
   obtain⟨w,g,q⟩:=h;exact xP hu value slice pins s σ H _ _ v u Q I rx ry ⟨p,w,rfl,g,q⟩ hs
  |_=>exact(show False from h).elim
 |str z=>
  cases y with
  |int i=>exact BS value slice pins s σ H _ _ v u Q I rx ry h hs
  |_=>exact(show False from h).elim
 |_=>cases y<;>exact(show False from h).elim
theorem xu(hu:X.A.units+64<PB):Ct X (λo i v H Q=>∃a H',o=.ref a/\pT H a i v H'/\Q H'):=by
 intro pins s σ H o i v ov iv u Q I ro ri rv h;obtain⟨a,H',rfl,g,q⟩:=h;cases ro;exact AG (by lia) I g ri rv λs4 I4=>⟨H',I4,q⟩
inductive dpI(p:N6)(y v:V)(H:Hp)(Q:Hp->Prop):Prop
 |mk(H':Hp)(h:pT H p y v H')(q:Q H'):dpI p y v H Q
inductive stL(p:N6)(k:Int)(v:V)(H:Hp)(Q:Hp->Prop):Prop
 |mk(xs:List V)(j:Nat)(h0:H p=UE (.lst xs))(h1:ixN xs.length k=UE j)(q:Q (upd H p (.lst (xs.set j v)))):stL p k v H Q
noncomputable def Jv:Fh:=λo i v H Q=>match o,i with
 | .ref p,.int k=>stL p k v H Q\/dpI p (.int k) v H Q
 | .ref p,.str k=>dpI p (.str k) v H Q
 |_,_=>False
theorem gq(hu:X.A.units+64<PB)(hl:Ct X F2):Ct X Jv:=by
 intro pins s σ H o i v ov iv u Q I ro ri rv h;cases o with
 |ref p=>
  cases i with
  |int k=>
   rcases h with⟨xs,j,h1,h2,q⟩|⟨H',g,q⟩
   ·exact hl pins s σ H _ _ v ov iv u Q I ro ri rv ⟨p,xs,k,j,rfl,rfl,h1,h2,q⟩
   exact xu hu pins s σ H _ _ v ov iv u Q I ro ri rv ⟨p,H',rfl,g,q⟩
  |str k=>
   obtain⟨H',g,q⟩:=h;exact xu hu pins s σ H _ _ v ov iv u Q I ro ri rv ⟨p,H',rfl,g,q⟩
  |_=>exact(show False from h).elim
 |_=>cases i<;>exact(show False from h).elim
theorem Ke(hu:X.A.units+64<PB):OpR X (Oy .In) (λx y H Q=>∃a o,y=.ref a/\oA H a x o/\Q (.bl o.isSome) H):=by
 intro pins s σ H x y v u Q I rx ry h;obtain⟨a,o,rfl,g,q⟩:=h;cases ry;exact KP (by lia) I g rx λs3 I3=>⟨.bl o.isSome,H,I3,rfl,q⟩
theorem B0(hu:X.A.units+64<PB):OpR X (Oy .NotIn) (λx y H Q=>∃a o,y=.ref a/\oA H a x o/\Q (.bl (!o.isSome)) H):=by
 intro pins s σ H x y v u Q I rx ry h;obtain⟨a,o,rfl,g,q⟩:=h;cases ry;exact FJ (by lia) I g rx λs3 I3=>{.bl (!o.isSome),H,I3,rfl,q}
theorem C5(hu:X.A.units+64<PB):OpR X (Oy .In) (λx y H Q=>fIn X.K false x y H Q\/∃a o,y=.ref a/\oA H a x o/\Q (.bl o.isSome) H):=KD.or (Ke hu)
theorem kU(hu:X.A.units+64<PB):OpR X (Oy .NotIn) (λx y H Q=>fIn X.K true x y H Q\/∃a o,y=.ref a/\oA H a x o/\Q (.bl (!o.isSome)) H):=Ed.or (B0 hu)
theorem Iv:dh X (.builtin "len") (λxs H Q=>∃a kvs,xs=[.ref a]/\Rd H a (.dK kvs)/\Q (.int (kvs.length:Nat)) H):=by
 intro pins s σ H xs us Q I r h;obtain⟨a,kvs,rfl,e,q⟩:=h;obtain⟨u,rfl,rfl⟩:=UR r;exact IS I e λt s' I'=>{.int _,H,I',{_,rfl},q}
end
end L2
namespace PySem
open Sem (wp)
section
variable{prog:Program}{w:Of}{A:Ou}{E:E9->N7->Prop}{s:N7}
theorem vm:typeLookup (.type "list") "keys"=pure UG:=am_miss_of_fast (by kernel_rfl)
theorem vX{a:N6}{o:Obj}{xs:Array E9}{k:Nat}{Q:Option E9->N7->Prop}(hx:s.heap.get? a=UE o)(hc:o.cls=.type "list")(hdat:o.data=.seq xs k)(hd:o.dict=UG)(hA:A.handled=UG)
  (h:∀h' tk,(∀b ob,s.heap.get? b=UE ob->h'.get? b=UE ob)->Q UG { s with heap:=h',toks:=tk }):wpAny (Oh prog w) A (getAttr? (.ref a) "keys") Q E s:=by
 obtain⟨c,dct,dat,sl⟩:=o
 simp only at hc hdat hd
 subst hc hdat hd
 obtain⟨hp,g,d,tk,os⟩:=s
 have hT:∀tk',(⟨hp,g,d,tk',os⟩:N7).TypeIs (.ref a) "list":=λ_=>{_,hx,rfl}
 have f1:=sub_AttributeError
 have f3:=F.slot_list_getattribute.lookup
 have f4:=F.slot_list_getattribute.bind (.ref a)
 have f5:=am_list_getattr_none
 have hmiss:=vm
 have hname:(["__module__","__name__","__qualname__","__doc__","__annotations__"]:List Str).contains "keys"=false:=by decide+kernel
 unfold getAttr? getAttrBy? getAttrBy
 repeat (any_goals (first|assumption|exact hT _|((with_reducible show wpAny _ _ (call (Value.builtin "list.__getattribute__") _ _) _ _ _);refine Qn F.slot_list_getattribute (hT _) am_entry_list_getattribute (F.args_list_getattribute_2 _ _) (meets_getattribute_miss_list a xs k sl "keys" _ hmiss hname (by decide)) ⟨hx,hA,λh' tk' e hx'=>?_⟩)|wp_step))
 obtain⟨t',u',he⟩:=hx'.there
 have hTe:(⟨h',g,d,tk',os⟩:N7).TypeIs (.ref e) "AttributeError":={_,he,rfl}
 show wpAny _ _ (SN _ _ _ _ _ _ _) _ _ _
 unfold SN
 repeat (any_goals (first|assumption|wp_step))
 exact h _ _ hx'.keeps
end
end PySem
namespace L2
open PySem PySem.Spec PyProof.Rows
theorem kC:entryFor table "dict.update.loop"=UE Rr.«dict.update.loop»:=entryFor_of_tree (by kernel_rfl)
theorem dW:plainId "dict.update.loop"=true:=by decide+kernel
section
variable{X:Cx}{pins:List (N6×Obj)}{σ:St}{H0:Hp}{A:Ou}
theorem pair_items{prog:Program}{w:Of}{E:E9->N7->Prop}{s:N7}{t:N6}{its:Array E9}{Q:List E9->N7->Prop}(h:s.heap.IsTuple t its)(q:Q its.toList s):wpAny (Oh prog w) A (RB (.ref t)) Q E s:=by
 obtain⟨o,ho,hc,n,hd⟩:=h;unfold RB;refine N5 (Qv ⟨o,ho,hc⟩ ?_);rw[if_pos (by decide)];refine N5 ?_;obtain⟨c,dct,dat,sl⟩:=o;simp only at hc hd;subst hc hd;obtain⟨hp,g,d,tk,os⟩:=s;repeat (any_goals (first|assumption|wp_step))
theorem yk(kvs:List (Key×V))(i:Nat){k:Key}{v:V}(h:kvs[i]?=UE (k,v)):bw [] (kvs.take (i+1))=UN (bw [] (kvs.take i)) k v:=by
 unfold bw;rw[Ms,h,NM];rfl
theorem BD(hc:X.calm=true){l p it:N6}{ps:List N6}{kvs:List (Key×V)}{R:T7->N7->Prop}(hA:A.handled=UG)(hl:SqL X.K H0 l (ps.map V.ref))(hlen:ps.length=kvs.length)(hn:kvs.length<=1000)
  (hps:∀(i:Nat) t k v,ps[i]?=UE t->kvs[i]?=UE (k,v)->SqT X.K H0 t [kV k,v]) (hp:H0 p=UG)
  (fin:∀s',Inv X pins σ (upd H0 p (.dK (bw [] kvs))) s'->R (.ok (.ret .none)) s') :
  ∀(n i:Nat)(s:N7),n+i=ps.length->Inv X pins σ (upd H0 p (.dK (bw [] (kvs.take i)))) s->sF X pins (upd H0 p (.dK (bw [] (kvs.take i)))) it->s.heap.IsListIter it l i->
   codeAny (Oh X.prog X.w) A (.builtin "dict.update.loop" {[.ref p,.ref it,rawInt i,.none],[]}) R s:=by
 intro n
 induction n with
 |zero=>
  intro i s hi I hf st
  refine TY kC ?_
  rw[RO dW _]
  have sm:=aj.upd hp (.dK (bw [] (kvs.take i)))
  obtain⟨its,rv,pl,hz⟩:=I.list (sm.seq hl)
  have hll:=rv.length
  rw[Lm]at hll
  obtain⟨f0,f1,f2,f3,f4,f5⟩:=hf
  unfold Rr.«dict.update.loop»
  refine N5 (RF hA st pl.isList (by simp;lia) λh' eb=>?_)
  have I':Inv X pins σ (upd H0 p (.dK (bw [] (kvs.take i)))) { s with heap:=h' }:=I.turned (t':=s.toks) (λb o hb e=>eb b o hb e) f0 f1 f3 f4 f5
  rw[Mb (by lia)]at I'
  exact N5 (N9 (N9 (fin _ I')))
 |succ n ih=>
  intro i s hi I hf st
  refine TY kC ?_
  rw[RO dW _]
  have sm:=aj.upd hp (.dK (bw [] (kvs.take i)))
  obtain⟨its,rv,pl,hz⟩:=I.list (sm.seq hl)
  have hll:=rv.length
  rw[Lm]at hll
  obtain⟨t,ht⟩:∃t,ps[i]?=UE t:={ps[i]'(by lia),Lw (by lia)}
  obtain⟨⟨k,v⟩,hk⟩:∃kv,kvs[i]?=UE kv:={kvs[i]'(by lia),Lw (by lia)}
  obtain⟨u,hu1,hu2⟩:=rv.get (x:=.ref t) (i:=i) (by rw[LY,ht];rfl)
  cases hu2
  obtain⟨f0,f1,f2,f3,f4,f5⟩:=hf
  unfold Rr.«dict.update.loop»
  refine N5 (Ru st pl.isList (x:=.ref t) (by simpa using hu1) λh' st' sb=>?_)
  have I1:Inv X pins σ (upd H0 p (.dK (bw [] (kvs.take i)))) { s with heap:=h' }:=I.turned (t':=s.toks) (λb o hb e=>(sb.2 b hb).trans e) f0 f1 f3 f4 f5
  obtain⟨jts,rj,pt,_⟩:=I1.tuple (sm.tup (hps i t k v ht hk))
  obtain⟨u1,u2,e12,r1,r2⟩:∃u1 u2,jts=[u1,u2]/\UJ (kV k) u1/\UJ v u2:=by
   cases rj with
   |cons r1 q=>cases q with
    |cons r2 q=>cases q;exact{_,_,rfl,r1,r2}
  subst e12
  refine N5 (wpAny_holding (N5 (wpAny_tryCatch (pair_items pt ?_))))
  show wpAny _ _ (QU [u1,u2] (dictSet p u1 u2)) _ _ _
  refine wpAny_holding ?_
  obtain⟨z,hd,vs,rel,dd⟩:=DC I1.hok (ao (H:=H0) (a:=p) (o:=.dK (bw [] (kvs.take i))))
  have hz':vs.length<=sizeLine:=by rw[<-rel.length];exact z
  have hlk:(bw [] (kvs.take i)).length<=1000:=by
   have:=iW (kvs.take i) [];rw[LV,Mi]at this;lia
  have hlp:(UN (bw [] (kvs.take i)) k v).length<=sizeLine:=by
   have h1:=iw (bw [] (kvs.take i)) k v;have h2:=aQ hlk;lia
  refine wpAny_dictSet_pairs (hsz:=hz') (rn r1) dd λh2 dd' hs=>?_
  have he:∃q,h2.get? p=UE q:=let ⟨q,_,_,hq,_⟩:=dd';⟨q,hq⟩
  have I2:=qc (t':=s.toks+1) (ob:=.dK (UN (bw [] (kvs.take i)) k v)) I1 (by rw[ao];exact Mz) hs he (yr hlp hd (rel.put k r2) dd')
  rw[Fj,<-yk kvs i hk]at I2
  have hne:it≠p:=λz=>by rw[z,ao]at f0;cases f0
  have f0':upd H0 p (.dK (bw [] (kvs.take (i+1)))) it=UG:=by
   rw[aW hne]at f0⊢;exact f0
  refine N9 {plainId_quiet dW _,?_}
  have ec:((i:Int)+1)=((i+1:Nat):Int):=by push_cast;rfl
  rw[ec]
  exact ih (i+1) _ (by lia) I2 ⟨f0',f1,f2,f3,f4,f5⟩ (st'.at λo e=>(hs.2 it hne).trans e)
theorem Fi(hc:X.calm=true:=by rfl):dh X (.type "dict") (λxs H Q=>∃(l:N6)(ps:List N6)(kvs:List (Key×V)),xs=[.ref l]/\SqL X.K H l (ps.map V.ref)/\ps.length=kvs.length/\kvs.length<=1000/\
  (∀(i:Nat) t k v,ps[i]?=UE t->kvs[i]?=UE (k,v)->SqT X.K H t [kV k,v])/\∀p,H p=UG->Q (.ref p) (upd H p (.dK (bw [] kvs)))):=by
 intro pins s σ H xs us Q I r h
 obtain⟨l,ps,kvs,rfl,hl,hlen,hn,hps,q⟩:=h
 obtain⟨u,rfl,rfl⟩:=UR r
 have hA:=I.ok.hd hc
 have hp:=I.hok.fresh (Ln s.heap.objs.size)
 have I1:=I.laid (a:=s.heap.objs.size) (o:=.dK []) (t':=s.toks) (h':=s.heap.push { cls:=.type "dict",data:=.dict #[] }) (λ_ _ q=>Od _ q) (Ln _) (sN s.heap I.big)
 refine callType_codes (Q₁:=λobj s₁=>obj=.ref s.heap.objs.size/\s₁={ s with heap:=s.heap.push { cls:=.type "dict",data:=.dict #[] } }) F.kt_called_dict (F.kt_typeCall_dict_1 _) F.entry_dict_init (kt_code_dict_new _ ⟨rfl,rfl⟩) ?_
 rintro obj s₁ ⟨rfl,rfl⟩
 have hnew:(s.heap.push { cls:=.type "dict",data:=.dict #[] }).DictOf (bT X.prog X.w) s.heap.objs.size []:=TX s.heap
 have sm:=aj.upd hp (.dK [])
 obtain⟨its,rv,pl,hz⟩:=I1.list (sm.seq hl)
 obtain⟨o,n,ho,hoc,hod,hos⟩:=id pl
 refine{hnew.typeIs,F.args_dict_init_2 _ _,?_}
 unfold Rr.«dict.__init__»
 refine N5 ?_
 unfold Builtin.Dict.selfAndRest
 refine N5 (RG hnew.typeIs ?_)
 show wpAny _ _ (pure (s.heap.objs.size,[Oo l])) _ _ _
 refine N9 ?_
 show wpAny _ _ (Ro "dict.__init__" s.heap.objs.size (.ref l) [] .none) _ _ _
 unfold Ro
 refine N5 (Qv ⟨o,ho,hoc⟩ ?_)
 rw[if_pos (by decide)]
 refine N5 (vX ho hoc hos hod hA λh2 tk2 k2=>?_)
 have I2:Inv X pins σ (upd H s.heap.objs.size (.dK [])) { s with heap:=h2,toks:=tk2 }:=I1.kept (t':=tk2) k2
 rw[if_pos (show(UG:Option E9).isNone=true from rfl)]
 obtain⟨its2,rv2,pl2,_⟩:=I2.list (sm.seq hl)
 refine N5 (P7 (N5 (Ta pl2.isList ?_)))
 refine N9 {plainId_quiet dW _,?_}
 have I3:=I2.kept (h':=h2.push { cls:=.type "list_iterator",data:=.fields #[.ref l,.int 0 0] }) (t':=tk2) λb o e=>Od _ e
 have fp:=I2.w6 (H':=upd H s.heap.objs.size (.dK [])) (Ln _) (I2.hok.fresh (Ln _))
 refine BD (X:=X) (H0:=H) (A:=X.A.in1) (p:=s.heap.objs.size) (kvs:=kvs) hc hA hl hlen hn hps hp (λs' I'=>?_) ps.length 0 _ rfl I3 fp {_,Ox _ rfl,rfl,rfl}
 exact{rfl,.ref s.heap.objs.size,_,I',rfl,q _ hp}
end
section
variable{X:Cx}{pins:List (N6×Obj)}{σ:St}{H:Hp}{s:N7}
theorem Inv.Au{h':OC}{t':Nat}{ch:List N6}(I:Inv X pins σ H s)(hf:∀b∈ch,sF X pins H b)(k:∀b o,b∉ch->s.heap.get? b=UE o->h'.get? b=UE o):Inv X pins σ H { s with heap:=h',toks:=t' }:=by
 have nit:∀b u,H b=UE u->b∉ch:=λb u e z=>by rw[(hf b z).1]at e;cases e
 refine I.step (g':=s.gens) (d':=s.drawn) (ch:=ch) (λb hb=>{(hf b hb).2.2.2.1,(hf b hb).2.1,(hf b hb).2.2.2.2.1,(hf b hb).2.2.2.2.2}) (λb o _ _ hc e _=>k b o hc e) (λb o _ _ hc e _=>⟨o.slots,k b o hc e⟩) (λ_ _ _ _ n=>n)
  (λb o hc e=>⟨o,k b o hc e⟩) (λ_ _ e=>e) (λ_ _ _ e=>e) (λb ps e=>{#[],by rw[e];simp}) (λm hm=>?_) (λb u e=>?_) I.bare
 ·obtain⟨o,es,ep,ho,r⟩:=hm;exact{o,es,ep,k _ o (λz=>(hf _ z).2.1 rfl) ho,r}
 refine(I.hok b u e).yL (λc v hc q=>k c v ?_ q) (λ_ q=>q) λ_ _ q=>q;rcases hc with rfl|hc
 ·exact nit _ _ e
 exact nit _ _ hc
theorem Inv.II{T:N6}{u:HO}(I:Inv X pins σ H s)(hf:sF X pins H T)(hz:X.s₀.heap.objs.size<=T)(new:cy X.prog X.w (upd H T u) s.heap T u):Inv X pins σ (upd H T u) s:=by
 obtain⟨f0,f1,f2,f3,f4,f5⟩:=hf;have ne0:∀b o,X.s₀.heap.get? b=UE o->b≠T:=λb o e=>L9 (LZ (Om e) hz);have neS:∀b v,H b=UE v->b≠T:=λb v e z=>by rw[z,f0]at e;cases e
 refine{I.ok,I.os,I.bare,{I.base.keep,I.base.slot,λb o e n hx=>by rw[aW (ne0 b o e)];exact I.base.free b o e n hx,I.base.there,λb xs e=>by
   have:=I.base.uV b xs e;rw[aW (neS b _ this)];exact this,λb o v e=>by
   have:=I.base.sY b o v e;rw[aW (neS b _ this)];exact this,λb ps e=>by
   obtain⟨more,q⟩:=I.base.uW b ps e;exact{more,by rw[aW (neS b _ q)];exact q}},I.loc,I.cell,by rw[aW (LU f1)];exact I.free,λx c e=>by rw[aW (f4 x c e)];exact I.kQ x c e,
  λp hp=>by rw[aW (f5 p hp)];exact I.pin p hp,λb v e=>?_,I.len}
 by_cases hb:b=T
 ·subst hb;rw[ao]at e;cases e;exact new
 rw[aW hb]at e;exact(I.hok b v e).yL (λ_ _ _ q=>q) (λc q=>by rw[aW (neS c _ q)];exact q) λc xs q=>by rw[aW (neS c _ q)];exact q
end
theorem IZ{P:Program}{w:Of}{k:Key}{u:E9}(h:(bT P w).is k u=true):UJ (kV k) u:=by
 cases k with
 |inl i=>obtain⟨t,e⟩:=SV (show TF i u=true from h);exact⟨t,e⟩
 |inr x=>obtain⟨t,e⟩:=Sh (show Ss x u=true from h);exact⟨t,e⟩
section
variable{X:Cx}
end
theorem mC{α β:Type}{F:α->β->Prop}:∀{l₁:List α}{l₂:List β},l₁.length=l₂.length->(∀(i:Nat) a b,l₁[i]?=UE a->l₂[i]?=UE b->F a b)->Paired F l₁ l₂
 | [],[],_,_=>.nil
 | [],_::_,h,_=>by simp at h
 |_::_,[],h,_=>by simp at h
 |x::xs,y::ys,h,f=>.cons (f 0 x y rfl rfl) (mC (by simpa using h) λi a b ha hb=>f (i+1) a b (by simpa using ha) (by simpa using hb))
theorem A4{α β:Type}{F:α->β->Prop}{l₁:List α}{l₂:List β}(h:Paired F l₁ l₂):∀{i:Nat}{a:α}{b:β},l₁[i]?=UE a->l₂[i]?=UE b->F a b:=by
 induction h with
 |nil=>intro i a b h;simp at h
 |cons r t ih=>
  intro i a b ha hb;cases i with
  |zero=>simp only[Rp,Tc]at ha hb;subst ha hb;exact r
  |succ j=>exact ih (by simpa using ha) (by simpa using hb)
section
variable{X:Cx}{tg:Expr}
theorem E3(hc:X.calm=true:=by rfl):dh X (.type "list") (λxs H Q=>∃d kvs,xs=[.ref d]/\Rd H d (.dK kvs)/\∀l,H l=UG->Q (.ref l) (upd H l (.lst (kvs.map λkv=>kV kv.1)))):=by
 intro pins s σ H xs us Q I r h;obtain⟨d,kvs,rfl,e,q⟩:=h;obtain⟨u,rfl,rfl⟩:=UR r;obtain⟨z,hs,vs,rel,dd⟩:=nL I.hok e;obtain⟨ep,dat⟩:=dd.dictAt;have hl:=rel.length;refine W.kdl_call (W.kdl_dict (knd:=bT X.prog X.w) (kvs:=vs) (ep:=ep) hs) (I.ok.hd hc) dat (by lia) λh' tk acc c hk hS hacc=>?_;have hp:=I.hok.fresh (Ln s.heap.objs.size);refine{.ref s.heap.objs.size,_,I.laid (a:=s.heap.objs.size) (o:=.lst (kvs.map λkv=>kV kv.1)) (t':=tk) hk (Ln _) {by rw[Lm];exact z,acc.toList,c,?_,by simpa using hS},rfl,q _ hp};have hsz:acc.size=vs.length:=hacc.1;refine mC (by simp[hsz,hl]) λi x y hx hy=>?_;rw[LY]at hx;obtain⟨k,v,hv,hk⟩:=hacc.2 i y (by rw[<-L5];exact hy);cases hkv:kvs[i]? with
 |none=>rw[hkv]at hx;cases hx
 |some kv=>
  rw[hkv]at hx;have hx':kV kv.1=x:=Oj hx;have:=congrArg (λl=>l[i]?) rel.keys;simp only[LY,hkv,hv]at this;have hkk:kv.1=k:=by simpa using this
  rw[<-hx',hkk];exact IZ hk
end
section
variable{prog:Program}{w:Of}{K:Type}[DecidableEq K]{knd:KeyKind prog w K}{A:Ou}{E:E9->N7->Prop}{s:N7}
theorem ug{d:N6}{Q:Unit->N7->Prop}(hd:(d==Pd)=false)(q:Q () s):wpAny (Oh prog w) A (RH d) Q E s:=by
 unfold RH;rw[if_neg (by rw[hd];exact Lv)];exact N9 q
theorem yZ{k:K}{v:E9}{es:List Tn}{lvs:List (K×E9)}(h:Pairs knd es lvs):valueAt lvs k=UE v->∃j e,(es.findIdx? λe=>knd.is k e.key)=UE j/\es[j]?=UE e/\e.val=v:=by
 induction h with
 |nil=>intro z;cases z
 |@cons e kv es lvs h1 h2 t ih=>
  intro z;by_cases hk:kv.1=k
  ·subst hk;have:valueAt (kv::lvs) kv.1=UE kv.2:=by simp[valueAt,Mu]
   rw[this]at z;exact{0,e,by rw[SO,if_pos h1],rfl,by rw[h2];exact Oj z}
  have:valueAt (kv::lvs) k=valueAt lvs k:=by simp[valueAt,Mu,hk]
  rw[this]at z;obtain⟨j,f,hj,hf,hv⟩:=ih z;have hn:¬ knd.is k e.key=true:=λq=>hk (knd.inj _ _ _ h1 q);exact{j+1,f,by rw[SO,if_neg hn,hj];rfl,hf,hv}
theorem yT{id:String}{a b:N6}{kvs lvs:List (K×E9)}{Q:Bool->N7->Prop}(hda:(a==Pd)=false)(hdb:(b==Pd)=false)(ha:s.heap.DictOf knd a kvs)(hb:s.heap.DictOf knd b lvs)(hl:kvs.length=lvs.length)
  (hv:∀(i:Nat) k v,kvs[i]?=UE (k,v)->∃v',valueAt lvs k=UE v'/\Qm A s v v' true) (q:Q true s):wpAny (Oh prog w) A (Qw id a b) Q E s:=by
 obtain⟨o,es,ep,ho,hx,hd,hk,hp,hn⟩:=ha
 obtain⟨o2,es2,ep2,ho2,hx2,hd2,hk2,hp2,hn2⟩:=hb
 have hz:es.size=kvs.length:=by rw[<-hp.length];simp
 have hz2:es2.size=lvs.length:=by rw[<-hp2.length];simp
 unfold Qw
 refine N5 (ug hda ?_)
 refine N5 (ug hdb ?_)
 refine N5 (Qx ho hd ?_)
 refine N5 (Qx ho2 hd2 ?_)
 rw[if_neg (by simp;lia)]
 refine N5 (TZ ho hd ?_)
 refine N5 ?_
 rw[Std.Legacy.Range.forIn_eq_forIn_range']
 simp only[Std.Legacy.Range.size,Nat.sub_zero,Nat.add_sub_cancel,Nat.div_one]
 refine wpAny_forIn_list _ (λrest b s'=>b=(UG,())/\s'=s/\∀i∈rest,i<es.size) _ ?_ ?_ _ _ {rfl,rfl,λi hi=>?_}
 ·rintro i rest c s' ⟨rfl,rfl,hr⟩;have hi:i<es.size:=hr i (by simp);refine N5 (Qx ho hd ?_);rw[Array.getElem?_eq_getElem hi];obtain⟨⟨k,v⟩,hkv⟩:∃kv,kvs[i]?=UE kv:={kvs[i]'(by lia),Lw (by lia)};obtain⟨hkey,hval⟩:=hp.get? (e:=es[i]) (by simp[hi]) hkv;obtain⟨k',hk',hh⟩:=hk es[i] (Td hi);obtain⟨v',hv',he⟩:=hv i k v hkv;have hkk:k'=k:=knd.inj _ _ _ hk' hkey;subst hkk;show wpAny _ _ (QU [es[i].key,es[i].val] _>>=_) _ _ _;refine N5 (wpAny_holding ?_);rw[hh,hval];refine N5 (wpAny_dictFind_of hkey ho2 hd2 hk2 ?_);obtain⟨j,f,hj,hf,hfv⟩:=yZ hp2 hv';rw[<-List.findIdx?_toArray,RS]at hj;rw[L5]at hf;rw[hj];refine N5 (Qx ho2 hd2 ?_);rw[hf];show wpAny _ _ (QU [f.val] (eqBool v f.val)) _ _ _;rw[hfv];refine wpAny_holding (he _ _ _ _ ?_);rw[if_neg (by decide)];refine N5 (TZ ho hd ?_);rw[if_neg (by simp)];exact N9 {rfl,rfl,λz hz=>hr z (Lx _ hz)}
 ·rintro c s' ⟨rfl,rfl,_⟩;exact N9 q
 have:=(List.mem_range'_1.mp hi).2
 lia
end
theorem uO{κ:Type}[DecidableEq κ]:∀{kvs:List (κ×V)}{i:Nat}{k:κ}{v:V},(kvs.map (·.1)).Nodup->kvs[i]?=UE (k,v)->c0 kvs k=UE v
 | [],i,k,v,_,h=>by simp at h
 |p::r,0,k,v,_,h=>by
  simp only[Rp,Tc]at h;subst h;exact cQ (p:=(k,v)) rfl
 |p::r,i+1,k,v,hn,h=>by
  rw[LC]at hn;have hr:=Mq.mp hn;have hi:r[i]?=UE (k,v):=by simpa using h
  have hne:¬ p.1=k:=λz=>hr.1 (by rw[z];exact MU (f:=(·.1)) (LW hi));rw[cO hne];exact uO hr.2 hi
section
variable{X:Cx}
def CP(K:Oc)(H:Hp)(v v':V):Prop:=(v=v'/\ue v=true)\/∃p q xs,v=.ref p/\v'=.ref q/\SqL K H p xs/\SqL K H q xs/\xs.all ue=true
theorem Ei{pins:List (N6×Obj)}{σ:St}{H:Hp}{s:N7}{A:Ou}{v v':V}{u u':E9}(I:Inv X pins σ H s)(hu:A.units<PB)(h:CP X.K H v v')(r:UJ v u)(r':UJ v' u'):Qm A s u u' true:=by
 rcases h with⟨rfl,hf⟩|⟨p,q,xs,rfl,rfl,hp,hq,hf⟩
 ·exact oJ hf r r' A s
 cases r;cases r';by_cases hpq:p=q
 ·subst hpq;exact .same _
 obtain⟨its,r1,⟨o,n,e1,c1,_,d1⟩,_⟩:=I.list hp;obtain⟨jts,r2,⟨o2,n2,e2,c2,_,d2⟩,_⟩:=I.list hq;have l1:=r1.length;have l2:=r2.length;have hR:=SeqAt.RcAt.lists (A:=A) (s:=s) (e:=λ_=>true) (l:=p) (b:=q) (items:=its.toArray) (items2:=jts.toArray) ⟨o,e1,c1,n,d1⟩ ⟨o2,e2,c2,n2,d2⟩ (by simp;lia) hu (λj h1 h2=>by
  simp at h1 h2;obtain⟨x,hx⟩:∃x,xs[j]?=UE x:={xs[j]'(by lia),Lw (by lia)};obtain⟨u1,g1,w1⟩:=r1.get hx;obtain⟨u2,g2,w2⟩:=r2.get hx;have z1:its.toArray[j]'(by simpa using h1)=u1:=by
   have:=Lw h1;rw[g1]at this;simpa using (Oj this).symm
  have z2:jts.toArray[j]'(by simpa using h2)=u2:=by
   have:=Lw h2;rw[g2]at this;simpa using (Oj this).symm
  rw[z1,z2];exact oJ (MJ.mp hf x (LW hx)) w1 w2 _ _)
 have:((OA its.toArray.size).all λ_=>true)=true:=by simp
 rw[this]at hR;exact .of_refs hpq hR
theorem JT(hu:X.A.units+64<PB):OpR X (Oy .Eq) (λx y H Q=>∃a b kvs lvs,x=.ref a/\y=.ref b/\Rd H a (.dK kvs)/\Rd H b (.dK lvs)/\kvs.length=lvs.length/\
  (∀k v,c0 kvs k=UE v->∃v',c0 lvs k=UE v'/\CP X.K H v v')/\Q (.bl true) H):=by
 intro pins s σ H x y v u Q I rx ry h
 obtain⟨a,b,kvs,lvs,rfl,rfl,ha,hb,hl,hv,q⟩:=h
 cases rx
 cases ry
 obtain⟨z,hs,vs,rel,dd⟩:=nL I.hok ha
 obtain⟨z2,hs2,vs2,rel2,dd2⟩:=nL I.hok hb
 have e1:=rel.length
 have e2:=rel2.length
 refine wpAny_richCompare_same_room (op:=.Eq) dd.typeIs dd2.typeIs RT (QE RT dd.typeIs PySem.F.entry_dict_eq ?_ (PySem.F.args_dict_eq_2 _ _)) (by lia)
 show wpAny _ _ (Q9 "__eq__" {[.ref a,.ref b],[]}>>=_) _ _ _
 refine N5 ?_
 unfold Q9
 refine N5 (RG dd.typeIs ?_)
 show wpAny _ _ (pure (Oo a,Oo b)) _ _ _
 refine N9 ?_
 refine N5 (wpAny_isInstance (T:="dict") (b:=true) dd2.typeIs (by rw[isSubtype_type];kernel_rfl) ?_)
 show wpAny _ _ (Qw "dict.__eq__" a b>>=_) _ _ _
 refine N5 (yT hs hs2 dd dd2 (by lia) (λi k v hi=>?_) ?_)
 ·obtain⟨⟨k',v'⟩,hkv⟩:∃kv,kvs[i]?=UE kv:={kvs[i]'(by have:=(LJ.mp hi).1;lia),Lw _};have hr:k'=k/\UJ v' v:=A4 rel hkv hi;obtain⟨rfl,hrv⟩:=hr;obtain⟨w',hw,hq⟩:=hv k' v' (uO (by rw[rel.keys];exact(dd.dictAt.choose_spec).nodup) hkv);have hval:=rel2.val k';rw[hw]at hval;cases hvv:valueAt vs2 k' with
  |none=>rw[hvv]at hval;exact(show False from hval).elim
  |some u'=>
   rw[hvv]at hval;exact{u',rfl,Ei I (show X.A.units+1<PB by lia) hq hrv hval}
 show wpAny _ _ (ret (.bool true)) _ _ _
 exact N9 {.bool true,rfl,(λz=>nomatch z),.bl true,H,I,rfl,q}
structure qr(z y:Str)(ws:List Str):Prop where
 h1:(decide (z.length<y.length)||decide (Sk z<Sk y))=false
 hy:(y.length==0)=false
 hf:(O3 z y 0 z.length (z.length+1)).isEmpty=false
 hx:z.length<=sizeLine
 hn:ws.length<=sizeLine
 e:Builtin.Str.partsBetween z (O3 z y 0 z.length (z.length+1)) y.length=ws
theorem uc:∀(tk:Nat)(ws:List Str),UH (ws.map V.str) (strsFrom tk ws)
 |_,[]=>.nil
 |tk,x::r=>.cons {_,rfl} (uc (tk+1) r)
theorem CW:MtR X "str.split" (λx xs H Q=>∃(z y:Str)(ws:List Str),x=.str z/\xs=[.str y]/\qr z y ws/\∀l,H l=UG->Q (.ref l) (upd H l (.lst (ws.map V.str)))):=by
 intro pins s σ H x xs v us Q I rx rs h;obtain⟨z,y,ws,rfl,rfl,ok,q⟩:=h;obtain⟨t,rfl⟩:=rx;obtain⟨u,rfl,ru⟩:=rs.one;obtain⟨t2,rfl⟩:=ru;obtain⟨h1,hy,hf,hx,hn,e⟩:=ok;subst e;refine Qn F.slot_str_split (QF _ _ _) F.entry_str_split (F.args_str_split_2 _ _) (meets_str_split_sep z y t t2 h1 hy hf hx hn) ?_;exact{.ref _,_,I.G0 (uc _ _) (by rw[Lm];exact hn),rfl,q _ I.fresh}
theorem UX{o e:Expr}{to:TE}{t:TA}{apos cpos:Pos}(ho:PE X o to)(ha:PA X [e] t)(hbase:O5 o "split" X.env (OT o X.env)=OT o X.env:=by rfl)
  (hfew:((O7 cpos (Oi [e] X.env)).all (λx=>!x.1)&&(PD cpos (O4 [] X.env)).all (λx=>x.1.isSome)
   &&decide ([e].length+([]:List Qc).length+(if([]:List Qc).isEmpty then 0 else 1)<30))=true:=by rfl)
  (hline:(apos.endLine==cpos.line)=true:=by rfl) (hs:Oi [e] X.env=(false,OT e X.env)::Oi [] X.env:=by rfl) (hplain:(O7 cpos (Oi [] X.env)).any (·.1)=false:=by rfl) :
  PE X (.Call (.Attribute o "split" apos) [e] [] cpos) (tBM X.K "str" (λx xs H Q=>∃(z y:Str)(ws:List Str),x=.str z/\xs=[.str y]/\qr z y ws/\∀l,H l=UG->Q (.ref l) (upd H l (.lst (ws.map V.str)))) to t):=
 Ci PySem.F.plainAttrs_str PySem.F.slot_str_split PySem.F.type_str_split CW ho ha hbase hfew hline hs hplain
noncomputable def IL(z:Str)(n:Int):Str:=if n<1 then Ot else if(n==1||z.length==0)=true then z else⟨(OB n.toNat z.cps).foldl (· ++ ·) #[]⟩
noncomputable def IV:R2:=λx y H Q=>match x,y with
 | .int i,.int j=>AV i j/\Q (.int (i*j)) H
 | .str z,.int n=>n<1000/\-1000<n/\z.length<=1000/\Q (.str (IL z n)) H
 | .ref p,.int k=>∃xs,H p=UE (.lst xs)/\-(2^63)<=k/\k<2^63/\xs.length*k.toNat<=sizeLine/\∀l,H l=UG->Q (.ref l) (upd H l (.lst (OB k.toNat xs).flatten))
 |_,_=>False
theorem AF(xs:List (Array Nat)):∀acc:Array Nat,(xs.foldl (· ++ ·) acc).size=acc.size+(xs.map (·.size)).sum:=by
 induction xs with
 |nil=>intro acc;simp
 |cons x r ih=>intro acc;rw[MN,ih,Te,LC,Nd];lia
theorem DM(z:Str)(n:Nat):(⟨(OB n z.cps).foldl (· ++ ·) #[]⟩:Str).length=n*z.length:=by
 show((OB n z.cps).foldl (· ++ ·) #[]).size=_;rw[AF,List.map_replicate];have:∀m k:Nat,(OB m k).sum=m*k:=λm k=>by
  induction m with
  |zero=>simp
  |succ m ih=>rw[MH,Nd,ih,Nat.succ_mul];lia
 rw[this];simp[Str.length]
theorem dj:OpR X (Po .Mult) IV:=by
 intro pins s σ H x y v u Q I rx ry h;cases x with
 |int i=>
  cases y with
  |int j=>exact IW pins s σ H _ _ v u Q I rx ry h
  |_=>exact(show False from h).elim
 |str z=>
  cases y with
  |int n=>
   obtain⟨h1,h2,h3,q⟩:=h;obtain⟨t,rfl⟩:=rx;obtain⟨t2,rfl⟩:=ry;have hb:¬ n<1->n.toNat*z.length<=1000000:=λhn=>by
    have e1:n.toNat<=1000:=by lia
    exact LG (Nat.mul_le_mul e1 h3) (by decide)
   refine P.mul_str (by rw[decide_eq_false (by lia),decide_eq_false (by lia)];rfl) (λhn _=>?_) (λhn _=>?_) ?_
   ·intro z1;have h0:(0:Int)<n:=by lia
    have:=Int.lt_mul_of_ediv_lt h0 z1;have e2:((z.length:Int))*n<=1000*1000:=NW (by lia) (by lia) (by lia) (by decide);lia
   ·unfold Builtin.Str.tooLong;have:=hb hn;rw[Nat.mul_comm]at this;refine decide_eq_false ?_;rw[P5];lia
   unfold IL at q;by_cases c1:n<1
   ·rw[if_pos c1]at q⊢;exact{by decide,.str _,H,I.tok _,{_,rfl},q}
   rw[if_neg c1]at q⊢;by_cases c2:(n==1||z.length==0)=true
   ·rw[if_pos c2]at q⊢;exact{.str _,H,I,{_,rfl},q}
   rw[if_neg c2]at q⊢;refine{?_,.str _,H,I.tok _,{_,rfl},q};rw[DM];have:=hb c1;rw[P5];lia
  |_=>exact(show False from h).elim
 |ref p=>
  cases y with
  |int k=>
   obtain⟨xs,h1,h2,h3,h4,q⟩:=h;exact Hs pins s σ H _ _ v u Q I rx ry ⟨p,k,xs,rfl,rfl,h1,h2,h3,h4,q⟩
  |_=>exact(show False from h).elim
 |_=>cases y<;>exact(show False from h).elim
def Gi(K:Oc)(H:Hp)(a b:N6):Prop:=∃kvs lvs,Rd H a (.dK kvs)/\Rd H b (.dK lvs)/\kvs.length=lvs.length/\∀k v,c0 kvs k=UE v->∃v',c0 lvs k=UE v'/\CP K H v v'
noncomputable def K3(K:Oc):R2:=λx y H Q=>match x,y with
 | .ref p,.ref q=>((∃d e,j5 K H (.ref p) d/\j5 K H (.ref q) e/\OR d=true/\OR e=true/\Q (.bl (P0 d e)) H)\/(∃xs,SqL K H p xs/\SqL K H q xs/\xs.all ue=true/\Q (.bl true) H))\/(Gi K H p q/\Q (.bl true) H)
 |x,y=>A7 x y=true/\Q (.bl (decide (x=y))) H
theorem bV(hu:X.A.units+64<PB):OpR X (Oy .Eq) (K3 X.K):=((JJ hu).or (JT hu)).imp λx y H Q q=>by
 by_cases hr:∃p q,x=V.ref p/\y=V.ref q
 ·obtain⟨p,q',rfl,rfl⟩:=hr;rcases q with q|⟨⟨kvs,lvs,h1,h2,h3,h4⟩,h5⟩
  ·exact .inl q
  exact .inr ⟨p,q',kvs,lvs,rfl,rfl,h1,h2,h3,h4,h5⟩
 refine .inl ?_;cases x<;>cases y<;>first|exact q|exact absurd {_,_,rfl,rfl} hr
inductive GS(xs:List V)(H:Hp)(Q:VK):Prop
 |mk(a:N6)(kvs:List (Key×V))(h0:xs=[.ref a])(h1:Rd H a (.dK kvs))(q:Q (.int (kvs.length:Nat)) H):GS xs H Q
theorem eX:dh X (.builtin "len") (λxs H Q=>Ec X.K xs H Q\/GS xs H Q):=J4.or λpins s σ H xs us Q I r ⟨a,kvs,h0,h1,q⟩=>Iv pins s σ H xs us Q I r ⟨a,kvs,h0,h1,q⟩
theorem qp(hc:X.calm=true:=by rfl):dh X (.type "list") (λxs H Q=>(∃p ys,xs=[.ref p]/\(SqL X.K H p ys\/SqT X.K H p ys)/\∀l,H l=UG->Q (.ref l) (upd H l (.lst ys)))\/∃d kvs,xs=[.ref d]/\Rd H d (.dK kvs)/\∀l,H l=UG->Q (.ref l) (upd H l (.lst (kvs.map λkv=>kV kv.1)))):=i7.or (E3 hc)
end
section
variable{X:Cx}{pins:List (N6×Obj)}{σ:St}{H:Hp}{s:N7}
noncomputable def Itz(K:Oc)(a b:N6):It:=
  {λi H=>∃xs ys x y,SqL K H a xs/\SqL K H b ys/\xs[i]?=UE x/\ys[i]?=UE y,
   λi H v H'=>∃T x y,v=.ref T/\H T=UG/\H'=upd H T (.tup [x,y])/\∀xs ys,SqL K H a xs->SqL K H b ys->xs[i]?=UE x/\ys[i]?=UE y,
   λi H=>∃xs ys,SqL K H a xs/\SqL K H b ys/\(xs.length<=i\/ys.length<=i)}
def Ji(z TI TO i1 i2 a b:N6)(i:Nat)(h:OC):Prop:=IsZip h z TI TO .none/\IsPair h TI (.ref i1) (.ref i2)/\(∃u v,IsPair h TO u v)/\h.IsListIter i1 a i/\h.IsListIter i2 b i
theorem BU{P:Program}{w:Of}{K:Oc}{elts:List Expr}{x1}{pos:Pos}{a b z TI TO i1 i2:N6}(D:ZipApart z TI TO i1 i2 a b) :
  UY P w K (.Tuple elts x1 pos) (Itz K a b) [z,TI,TO,i1,i2] z (Ji z TI TO i1 i2 a b) where
 mem:=by simp
 obj:=λi h st c hc=>by
  obtain⟨hz,hI,⟨u,v,hO⟩,⟨o1,e1,_,d1⟩,⟨o2,e2,_,d2⟩⟩:=st;simp only[Lu,LS,or_false]at hc;rcases hc with rfl|rfl|rfl|rfl|rfl
  ·exact{_,hz,λv q=>by cases (show TK _=Sd v from q)}
  ·exact{_,hI,λv q=>by cases (show Data.seq _ _=Sd v from q)}
  ·exact{_,hO,λv q=>by cases (show Data.seq _ _=Sd v from q)}
  ·exact{o1,e1,λv q=>by rw[d1]at q;cases q}
  exact{o2,e2,λv q=>by rw[d2]at q;cases q}
 keep:=λi h h' st k=>by
  obtain⟨hz,hI,⟨u,v,hO⟩,h1,h2⟩:=st;exact{k z (by simp) _ hz,k TI (by simp) _ hI,{u,v,k TO (by simp) _ hO},h1.at λo e=>k i1 (by simp) o e,h2.at λo e=>k i2 (by simp) o e}
 item:=by
  intro X hP hw hK hc i pins s σ H E I hf st hg;subst hP hw hK;obtain⟨xs,ys,x,y,hq,hq',hx,hy⟩:=hg;obtain⟨its,rv,p,hz'⟩:=I.list hq;obtain⟨its',rv',p',hz''⟩:=I.list hq';obtain⟨u,hu,ru⟩:=rv.get hx;obtain⟨v,hv,rv2⟩:=rv'.get hy;obtain⟨hz,hI,⟨u0,v0,hO⟩,h1,h2⟩:=st;have hT:=I.w6 (H':=H) (Ln s.heap.objs.size) (I.hok.fresh (Ln _));have lt:∀{c:N6}{o:Obj},s.heap.get? c=UE o->s.heap.objs.size≠c:=λe=>Nk (Om e);refine wpAny_pyNext_zip_item D hz hI hO h1 h2 p.isList p'.isList (x:=u) (y:=v) (by simpa using hu) (by simpa using hv) λh' a1 a2 a3 a4 a5 a6 a7=>?_;have I1:Inv X pins σ H { s with heap:=h',toks:=s.toks }:=I.Au (ch:=[z,TI,TO,i1,i2]) hf λc o hc q=>a7 c o (λe=>hc (by simp[e])) (λe=>hc (by simp[e])) (λe=>hc (by simp[e])) (λe=>hc (by simp[e])) q;have I2:=I1.II (u:=.tup [x,y]) hT I.sz {by show 2<=sizeLine;decide,[u,v],.cons ru (.cons rv2 .nil),{_,a5,rfl,_,rfl}};refine⟨_,rfl,wpAny_letOwnedTupleGo_zip (s:={ s with heap:=h' }) a1 λh2' hz2 hs2=>?_⟩;have f0:=hf z (by simp);have hI':h'.get? TI=_:=a7 TI _ D.TIz D.TITO D.TIi1 D.TIi2 hI;have zT:z≠s.heap.objs.size:=LU (lt hz);refine{.ref s.heap.objs.size,_,I2.turned (t':=s.toks) (it:=z) (λc o hc q=>(hs2.2 c hc).trans q) (by rw[aW zT];exact f0.1) f0.2.1 f0.2.2.2.1 f0.2.2.2.2.1 f0.2.2.2.2.2,rfl,
   {_,x,y,rfl,hT.1,rfl,λxs' ys' q q'=>by rw[I.qM q hq,I.qM q' hq'];exact⟨hx,hy⟩},{hz2,(hs2.2 TI D.TIz).trans hI',{u,v,(hs2.2 TO D.TOz).trans a2},a3.at λo q=>(hs2.2 i1 D.i1z).trans q,a4.at λo q=>(hs2.2 i2 D.i2z).trans q},λc hc=>?_}
  have cT:c≠s.heap.objs.size:=by
   simp only[Lu,LS,or_false]at hc;rcases hc with rfl|rfl|rfl|rfl|rfl
   ·exact zT
   ·exact LU (lt hI)
   ·exact LU (lt hO)
   ·obtain⟨o,e,_⟩:=h1;exact LU (lt e)
   obtain⟨o,e,_⟩:=h2;exact LU (lt e)
  rw[aW cT];exact(hf c hc).1
 done:=by
  intro X hP hw hK hc i pins s σ H E I hf st hg;subst hP hw hK;obtain⟨xs,ys,hq,hq',hx⟩:=hg;obtain⟨its,rv,p,hz'⟩:=I.list hq;obtain⟨its',rv',p',hz''⟩:=I.list hq';obtain⟨hz,hI,⟨u0,v0,hO⟩,h1,h2⟩:=st;have hl:=rv.length;have hl':=rv'.length;refine wpAny_pyNext_zip_end (I.ok.hd hc) D hz hI hO h1 h2 p.isList p'.isList (by simp;lia) λh' eb=>{rfl,?_};exact I.Au (ch:=[z,TI,TO,i1,i2]) hf λc o hc q=>eb c o (λe=>hc (by simp[e])) (λe=>hc (by simp[e])) (λe=>hc (by simp[e])) (λe=>hc (by simp[e])) q
 self:=λ_ _ _ _ _ st h=>Tw st.1 h
noncomputable def Ko(K:Oc)(ta:TA):TI:=λσ H R=>ta σ H λvs H1=>∃a b,vs=[.ref a,.ref b]/\(∃xs,SqL K H1 a xs)/\(∃ys,SqL K H1 b ys)/\R (Itz K a b) H1
theorem AY:Pu "zip"=UE (.type "zip"):=by decide+kernel
theorem Iq{a b:Expr}{ta:TA}{p pos:Pos}{elts:List Expr}{x1}{pos2:Pos}(hg:Gl X "zip")(hm:X.mg "zip"=UG)(ha:PA X [a,b] ta)(he:Oi [a,b] X.env=(false,OT a X.env)::Oi [b] X.env:=by rfl)
  (hpl:(O7 pos (Oi [b] X.env)).any (·.1)=false:=by rfl):PI X (.Tuple elts x1 pos2) (.Call (.Name "zip" p) [a,b] [] pos) (Ko X.K ta):=by
 intro pins s σ H R I h
 refine Call_ (oy I hg hm AY (Pk (thn (ha pos pins s σ H _ I h) λus s1 ⟨vs,H1,I1,r1,q1⟩=>?_) he hpl))
 obtain⟨a,b,e,⟨xs,hq⟩,⟨ys,hq'⟩,q⟩:=q1
 subst e
 obtain⟨u,v,rfl,ru,rv⟩:=UZ r1
 cases ru
 cases rv
 obtain⟨its,rv1,p1,hz1⟩:=I1.list hq
 obtain⟨its',rv2,p2,hz2⟩:=I1.list hq'
 have lt:∀{c:N6}{zs:Array E9},s1.heap.IsList c zs->c<s1.heap.objs.size:=λh=>by obtain⟨o,e,_⟩:=h;exact Om e
 refine call_zip_2 p1.isList p2.isList λh' hz hI hO h1 h2 hsz hk=>?_
 refine Tw hz ?_
 refine{s1.heap.objs.size+4,[s1.heap.objs.size+4,s1.heap.objs.size+2,s1.heap.objs.size+3,s1.heap.objs.size,s1.heap.objs.size+1],_,_,H1,rfl,I1.kept (t':=s1.toks) hk,BU (zipApart_new (lt p1.isList) (lt p2.isList)),{hz,hI,{_,_,hO},h1,h2},λc hc=>?_,q}
 have le:s1.heap.objs.size<=c:=by
  simp only[Lu,LS,or_false]at hc;rcases hc with h|h|h|h|h
  ·rw[h];exact Mw _ _
  ·rw[h];exact Mw _ _
  ·rw[h];exact Mw _ _
  ·rw[h];exact Ln _
  rw[h];exact Mw _ _
 exact I1.w6 le (I1.hok.fresh le)
end
theorem Fb{K:Qb}{a b:N6}{xs ys:List V}{g:TG}{tb:TS}{D:UW}{σ:St}{H:Hp}(Pv:Nat->St->Hp->Prop)(h0:Pv 0 σ H)(hl:∀i σ H,i<=xs.length->Pv i σ H->SqL K H a xs/\SqL K H b ys)(hle:xs.length=ys.length)
  (hs:∀i x y σ H T,xs[i]?=UE x->ys[i]?=UE y->Pv i σ H->H T=UG->g (.ref T) σ (upd H T (.tup [x,y])) λσ2 H2=>tb { D with nx:=Pv (i+1),ct:=Pv (i+1),bk:=D.nx } σ2 H2) (hd:∀σ H,Pv xs.length σ H->D.nx σ H) :
  ∃W:Nat->Nat->St->Hp->Prop,(∃m,W 0 m σ H)/\∀i m σ H,W i m σ H->
   ((Itz K a b).stop i H/\D.nx σ H)\/((Itz K a b).go i H/\∃N:St->Hp->Prop,(∀σ' H',N σ' H'->∃m',m'<m/\W (i+1) m' σ' H')/\∀x H',(Itz K a b).yld i H x H'->g x σ H' λσ2 H2=>tb { D with nx:=N,ct:=N,bk:=D.nx } σ2 H2):=by
 refine{λi m σ H=>m=xs.length-i/\i<=xs.length/\Pv i σ H,{xs.length,by simp,LH _,h0},?_}
 rintro i m σ H ⟨rfl,hi,p⟩
 obtain⟨q,q'⟩:=hl i σ H hi p
 by_cases hlt:i<xs.length
 ·have hlt':i<ys.length:=by lia
  refine .inr {{xs,ys,xs[i],ys[i],q,q',by simp[hlt],by simp[hlt']},Pv (i+1),λσ' H' p'=>{xs.length-(i+1),by lia,rfl,hlt,p'},λv H' y=>?_};obtain⟨T,x,y,rfl,hT,rfl,h⟩:=y;obtain⟨e1,e2⟩:=h xs ys q q';exact hs i x y σ _ T e1 e2 p hT
 have e:i=xs.length:=by lia
 subst e
 exact .inl {{xs,ys,q,q',LL (Ln _)},hd σ H p}
set_option maxHeartbeats 4000000
section
variable{X:Cx}
theorem EY{o:Expr}{to:TE}{apos cpos:Pos}(ho:PE X o to)(hbase:O5 o "clear" X.env (OT o X.env)=OT o X.env:=by rfl)(hline:(apos.endLine==cpos.line)=true:=by rfl) :
  PE X (.Call (.Attribute o "clear" apos) [] [] cpos) (GN X.K "list" Dm to):=
 BQ PM PySem.F.slot_list_clear PySem.F.type_list_clear Cg ho hbase hline
theorem Co{o:Expr}{to:TE}{apos cpos:Pos}(ho:PE X o to)(hbase:O5 o "pop" X.env (OT o X.env)=OT o X.env:=by rfl)(hline:(apos.endLine==cpos.line)=true:=by rfl) :
  PE X (.Call (.Attribute o "pop" apos) [] [] cpos) (GN X.K "list" Fq to):=
 BQ PM PySem.F.slot_list_pop PySem.F.type_list_pop Iu ho hbase hline
end
section
variable{X:Cx}{e:Expr}{te:TE}{es:List Expr}{t:Str->TE}{pos:Pos}
def PJ(X:Cx)(es:List Expr)(t:Str->TE):Prop:=
 ∀(acc:Str)(pins:List (N6×Obj))(s:N7)(σ:St)(H:Hp)(Q:VK),Inv X pins σ H s->t acc σ H Q->wpAny (Oh X.prog X.w) X.A (Uz acc (evalEach es X.env)) (EP X pins σ Q) X.xe s
theorem Io:PJ X [] (λacc _ H Q=>acc.length<=sizeLine/\Q (.str acc) H):=λacc pins s σ H Q I h=>by
 show wpAny _ _ (Uz acc []) _ _ _;exact joinParts_nil (Q:=EP X pins σ Q) {.str acc,H,I.tok _,{_,rfl},h.2} h.1
theorem zH(he:PE X e te)(ht:PJ X es t):PJ X (e::es) (λacc σ H Q=>te σ H λv H'=>∃x,v=.str x/\(acc++x).length<=sizeLine/\t (acc++x) σ H' Q):=λacc pins s σ H Q I h=>by
 show wpAny _ _ (Uz acc (OT e X.env::evalEach es X.env)) _ _ _;refine joinParts_cons (thn (he pins s σ H _ I h) λv s1 z9=>?_);obtain⟨x,H1,I1,r1,y,e1,l1,q1⟩:=z9;subst e1;obtain⟨tk,rfl⟩:=r1;exact{l1,ht _ pins s1 σ H1 Q I1 q1}
theorem E4{a b:Expr}(h:PJ X (a::b::es) t):PE X (.JoinedStr (a::b::es) pos) (λσ H Q=>t Ot σ H Q):=λpins s σ H Q I q=>JoinedStr_many (h Ot pins s σ H Q I q)
theorem HX(he:PE X e te):PE X (.FormattedValue e (-1) UG pos) (λσ H Q=>te σ H λv H'=>(∃i:Int,v=.int i/\i.natAbs.log2<1920/\Q (.str (toString i:String)) H')\/∃x,v=.str x/\x.length<=sizeLine/\Q (.str x) H'):=λpins s σ H Q I h=>by
 refine FormattedValue_plain (thn (he pins s σ H _ I h) λv s1 z9=>?_);obtain⟨x,H1,I1,r1,q1⟩:=z9;rcases q1 with⟨i,rfl,hi,q1⟩|⟨y,rfl,hy,q1⟩
 ·obtain⟨tk,rfl⟩:=r1;exact formatField_int_small hi {.str (toString i:String),H1,I1.tok _,{_,rfl},q1}
 obtain⟨tk,rfl⟩:=r1;exact formatField_str (λt' tk=>{.str y,H1,I1.tok _,{_,rfl},q1}) hy
end
section
variable{X:Cx}
theorem gy{o e:Expr}{to:TE}{t:TA}{apos cpos:Pos}(ho:PE X o to)(ha:PA X [e] t)(hbase:O5 o "extend" X.env (OT o X.env)=OT o X.env:=by rfl)
  (hfew:((O7 cpos (Oi [e] X.env)).all (λx=>!x.1)&&(PD cpos (O4 [] X.env)).all (λx=>x.1.isSome)
   &&decide ([e].length+([]:List Qc).length+(if([]:List Qc).isEmpty then 0 else 1)<30))=true:=by rfl)
  (hline:(apos.endLine==cpos.line)=true:=by rfl) (hs:Oi [e] X.env=(false,OT e X.env)::Oi [] X.env:=by rfl) (hplain:(O7 cpos (Oi [] X.env)).any (·.1)=false:=by rfl) :
  PE X (.Call (.Attribute o "extend" apos) [e] [] cpos) (tBM X.K "list" zx to t):=
 Ci PM PySem.F.slot_list_extend PySem.F.type_list_extend AO ho ha hbase hfew hline hs hplain
end
section
variable{prog:Program}{w:Of}{K:Type}[DecidableEq K]{knd:KeyKind prog w K}{A:Ou}{E:E9->N7->Prop}{s:N7}
end
section
variable{X:Cx}
theorem oi:∀{bs:List N6}{its:List E9},UH (bs.map V.ref) its->its=bs.map Oo
 | [],_,.nil=>rfl
 |b::r,_,.cons r2 r3=>by cases r2;rw[oi r3];rfl
end
section
variable{prog:Program}{w:Of}{A:Ou}{E:E9->N7->Prop}{s:N7}
theorem tD(b:Bool)(x y:E9):keyLt' (UD b) x y=(do
  let xs<-Qy x;let ys<-Qy y
  for ((p,q),i) in (xs.toList.zip ys.toList).zipIdx do
   if !(<-eqBool p q)then return<-oneLt' (b&&i==0) p q
  return decide (xs.size<ys.size)):=rfl
theorem oV(v:E9):firstOfTuple' v=(do
  if(<-typeOf v)!= .type "tuple" then return UG
  return (<-Qy v)[0]?):=rfl
end
section
variable{X:Cx}
end
section
variable{K:Oc}{H:Hp}{Q:VK}
theorem tix{p:N6}{xs:List V}{v:V}{j:Nat}(h:SqT K H p xs)(e:xs[j]?=UE v)(q:Q v H):ixS K p (j:Int) H Q\/dgI p (.int (j:Int)) H Q:=.inl ⟨xs,v,.inr h,jz e,q⟩
theorem lix{p:N6}{xs:List V}{v:V}{i:Int}(h:SqL K H p xs)(e:atI xs i=UE v)(q:Q v H):ixS K p i H Q\/dgI p (.int i) H Q:=.inl ⟨xs,v,.inl h,e,q⟩
theorem dgk{d:N6}{kvs:List (Key×V)}{x:Str}{v:V}(h:H d=UE (.dK kvs))(e:c0 kvs (.inr x)=UE v)(q:Q v H):dgI d (.str x) H Q:={v,e▸oA.k (k:=.inr x) h,q}
theorem fdI{a C dx:N6}{f:Str}{fs:List (Str×V)}{v:V}(h:H a=UE (.ins C dx fs))(c:Cls K C)(n:aG K C f)(e:fs.lookup f=UE v)(q:Q v H):sT K f (.ref a) H Q:=⟨a,C,dx,fs,v,rfl,h,c,n,e,q⟩
theorem lnl{p:N6}{xs:List V}(h:H p=UE (.lst xs))(q:Q (.int (xs.length:Nat)) H):Ec K [.ref p] H Q\/GS [.ref p] H Q:=.inl {_,_,rfl,.inl {_,SqL.of h,rfl},q}
theorem isB{x:V}{D:N6}{t:E9}{b:Bool}{R:Bool->Hp->Prop}(ty:nv K H x t)(k:P1 K t (.ref D)=UE b)(q:R b H):AW K [x,.ref D] H λv H1=>x6 K v H1 R:={x,.ref D,t,b,rfl,(λz=>by cases z),ty,k,b,rfl,q}
end
section
variable{X:Cx}
end
def Eh(P:Program)(w:Of)(K:Oc)(mg:Str->Option E9)(base:OC)(k:Nat)(x:Str)(ps:List Str)(dvs:List V)(sp:Sp):Prop:=
 ∃f fd ds,jq P w K mg base CX0 k f fd ps sp/\UL K fd ps []/\UL K fd ps ds/\UH dvs ds/\Pf K (.ref f)=true/\mg x=UE (.ref f)/\∃oc od osl,K.lookup f=UE ⟨oc,od,.func fd,osl⟩
section
variable{P:Program}{w:Of}{K:Oc}{mg:Str->Option E9}{base:OC}{k:Nat}{x:Str}{ps:List Str}{dvs:List V}{sp:Sp}
theorem Eh.has(D:Eh P w K mg base k x ps dvs sp):Has P w K mg base k x ps sp:=by
 obtain⟨f,fd,ds,F,b,_,_,kp,m,l⟩:=D;exact⟨f,fd,F,b,kp,m,l⟩
structure TopFnD(K:Oc)(mg:Str->Option E9)(x:Str)(st:OH)(ps:List Str)(dvs:List V):Prop where
 ex:∃(f:N6)(oc:E9)(od:Option N6)(dV kV doc pm:E9)(an:Option N6)(cdv ct:E9)(osl:Array (Option E9))(ds:List E9),K.lookup f=UE {oc,od,.func (Pj x x (bG st) (bh st) (aq st) dV kV doc pm an cdv ct),osl}/\QK K cdv x=true/\Pf K (.ref f)=true/\mg x=UE (.ref f)/\UH dvs ds/\
  UL K (Pj x x (bG st) (bh st) (aq st) dV kV doc pm an cdv ct) ps []/\UL K (Pj x x (bG st) (bh st) (aq st) dV kV doc pm an cdv ct) ps ds
end
theorem Bs{X:Cx}{j k:Nat}{x:Str}{ps:List Str}{dvs:List V}{sp:Sp}{e:Expr}{es:List Expr}{t:TA}{p pos:Pos}(D:Eh X.prog X.w X.K X.mg X.base j x ps dvs sp)(hr:dD k X.A)(ha:PA X (e::es) t)(hj:j<=k:=by decide)(hg:Gl X x:=by rfl)
  (hdb:(x==("__debug__":Str))=false:=by decide) (he:Oi (e::es) X.env=(false,OT e X.env)::Oi es X.env:=by rfl) (hpl:(O7 pos (Oi es X.env)).any (·.1)=false:=by rfl) :
  PE X (.Call (.Name x p) (e::es) [] pos) (zV sp dvs E0 t):=by
 obtain⟨f,fd,ds,F,_,b,hv,kp,m,_⟩:=D
 exact zI F (hr.mono hj) hg m kp b hv uG ha hdb he hpl
section
variable{prog:Program}{w:Of}{A:Ou}{E:E9->N7->Prop}{s:N7}{S:N6}{a b c:Option Tok}{ep:Nat}{led:Bool}
end
structure RkIn(val:Nat->Int)(i:Nat)(a b c:Option Tok):Prop where
 a:a.isSome=(OA i).any λj=>decide (val j=0)
 b:b.isSome=(OA i).any λj=>decide (val j=1)
 c:c.isSome=(OA i).any λj=>decide (val j=2)
section
variable{prog:Program}{w:Of}{A:Ou}{R:T7->N7->Prop}{I:N6}{fp wr:List N6}{G:Array Rj->Array Rj->Prop}{n:Nat}{P:Nat->E9->Prop}{St:Nat->N7->Prop}{led:Bool}
end
section
variable{prog:Program}{w:Of}{A:Ou}{E:E9->N7->Prop}{s:N7}
end
section
variable{prog:Program}{w:Of}{A:Ou}{E:E9->N7->Prop}{s:N7}{S:N6}{a b c:Option Tok}{ep:Nat}
end
theorem Paired.Jw{α β:Type}{F:α->β->Prop}{x:α}{y:β}(h:F x y):∀{a:List α}{b:List β},Paired F a b->Paired F (a++[x]) (b++[y])
 |_,_,.nil=>.cons h .nil
 |_,_,.cons r t=>.cons r (Paired.Jw h t)
theorem wO{α:Type}{K:Oc}{a:N6}{xs:List V}{own:Nat}{fr:List Nat}{g:CB->TG}{tf:CB->TT}{te:CB->TE}{Q:VK}{σ:St}{H1:Hp}(src:List α)(p:α->Bool)(R:α->V->Hp->Prop)(hx:SqL K H1 a xs)(hl:xs.length=src.length)(hn:xs.length<sizeLine)
  (he:∀(b:CB)(i:Nat)(x:V)(e:α)(v0:St)(H:Hp)(N:St->Hp->Prop)(Y:St->V->Hp->Prop),xs[i]?=UE x->src[i]?=UE e->v0.length=own->aj H1 H->
   (p e=false->∀v1 H',v1.length=own->aj H H'->N (v1++cFr fr σ) H')->(p e=true->∀v1 y H',v1.length=own->aj H H'->R e y H'->Y (v1++cFr fr σ) y H')->
   g b x (v0++cFr fr σ) H λσ3 H3=>tf b σ3 H3 λk H4=>if k=true then te b σ3 H4 λy H5=>Y σ3 y H5 else N σ3 H4)
  (mono:∀e y H H',aj H H'->R e y H->R e y H') (st:∀e y H D ys zs,H D=UE (.lst ys)->R e y H->R e y (upd H D (.lst zs)))
  (fin:∀D H ys,H1 D=UG->aj H1 H->H D=UE (.lst ys)->Paired (λe y=>R e y H) (src.filter p) ys->Q (.ref D) H):qD (Itl K a) own fr g tf te Q σ H1:=by
 refine⟨λb D hD=>?_⟩
 refine{λi m σ' H'=>m=xs.length-i/\i<=xs.length/\(∃v0,σ'=v0++cFr fr σ/\v0.length=own)/\aj H1 H'/\∃ys,H' D=UE (.lst ys)/\ys.length<=i/\Paired (λe y=>R e y H') ((src.take i).filter p) ys,{xs.length,rfl,LH _,⟨OB own UG,rfl,M8 ..⟩,aj.upd hD _,[],ao,Ln _,.nil},?_}
 rintro i m σ' H' ⟨rfl,hi,⟨v0,rfl,hv⟩,sm,ys,hL,hy,hR⟩
 by_cases hlt:i<xs.length
 ·have hs:i<src.length:=by lia
  refine .inr {{xs,xs[i],sm.seq hx,Lw hlt},λσ2 H2=>(∃v0,σ2=v0++cFr fr σ/\v0.length=own)/\aj H1 H2/\∃ys,H2 D=UE (.lst ys)/\ys.length<=i+1/\Paired (λe y=>R e y H2) ((src.take (i+1)).filter p) ys,λσ2 H2 q=>{xs.length-(i+1),by lia,rfl,hlt,q},λv H2 y=>?_};obtain⟨rfl,y2⟩:=y;have e:=y2 xs (sm.seq hx);have tk:src.take (i+1)=src.take i++[src[i]]:=by rw[Ms,Lw hs];rfl
  refine he b i v src[i] v0 _ _ _ e (Lw hs) hv sm (λpf v1 H3 h1 s3=>?_) (λpt v1 y H3 h1 s3 r3=>?_)
  ·refine{⟨v1,rfl,h1⟩,sm.trans s3,ys,s3 _ _ hL,by lia,?_};rw[tk,NF,List.filter_cons_of_neg (by rw[pf];exact Lv),T1,LQ];exact Paired.rg hR λe y z=>mono _ _ _ _ s3 z
  have hD4:=s3 _ _ hL;refine{ys,hD4,by lia,⟨v1,rfl,h1⟩,?_,ys++[y],ao,by simp;lia,?_}
  ·intro c o q;by_cases hc:c=D
   ·rw[hc,hD]at q;cases q
   rw[aW hc];exact(sm.trans s3) c o q
  rw[tk,NF,List.filter_cons_of_pos pt,T1];exact Paired.Jw (F:=λe y'=>R e y' (upd H3 D (.lst (ys++[y])))) (st _ _ _ _ _ _ hD4 r3) (Paired.rg hR λe y z=>st _ _ _ _ _ _ hD4 (mono _ _ _ _ s3 z))
 have e:i=xs.length:=by lia
 subst e
 rw[hl,Mo]at hR
 exact .inl {{xs,sm.seq hx,Ln _},fin D H' ys hD sm hL hR}
section
variable{X:Cx}
end
section
variable{prog:Program}{w:Of}{A:Ou}{E:E9->N7->Prop}{s:N7}
end
section
variable{X:Cx}{pins:List (N6×Obj)}{σ:St}{H:Hp}{s:N7}
end
end L2
set_option maxRecDepth 100001
namespace L2
open PySem PyProof.Rows
noncomputable def gal:Bool->Og->Array Og->Nat->Nat->Nat->StateT Ov Sem (Option Nat):=sortPriv%PySem.Builtin.gallop
def KLt(prog:Program)(w:Of)(A:Ou)(s:N7)(κ:KeyKind)(kin:Pg):Prop:=∀(E:E9->N7->Prop)(x y:E9)(a b:κ.α){Q:Bool->N7->Prop},κ.keyOf x=UE a->κ.keyOf y=UE b->Q (κ.blt a b) s->wpAny (Oh prog w) A (keyLt' kin x y) Q E s
section
variable{prog:Program}{w:Of}{A:Ou}{E:E9->N7->Prop}{s:N7}{a₀:Array Og}{κ:KeyKind}{kin:Pg}
theorem sJ(hO:KLt prog w A s κ kin){st:Ov}{x y:Og}{a b:κ.α}{Q:Option Bool->Ov->Prop}(hk:kindOf st=kin)(ha:κ.keyOf x.1=UE a)(hb:κ.keyOf y.1=UE b)(h:Q (UE (κ.blt a b)) st):wpS (Oh prog w) A E s (lt' x y) Q st:=by
 rw[lt'_eq]
 refine Oa (Ql ?_)
 rw[hk]
 exact Oa (Q6 (wpAny_attempt (hO _ x.1 y.1 a b ha hb ⟨rfl,Ob h⟩)))
theorem bf{st:Ov}{xs:Array Og}{i:Nat}{x:Og}{Q:Og->Ov->Prop}(e:xs[i]?=UE x)(h:Q x st):wpS (Oh prog w) A E s (RU xs i) Q st:=by
 rw[elem'_eq,e]
 exact Ob h
noncomputable def byd(κ:KeyKind)(left:Bool)(k:κ.α)(xs:Array Og)(i:Nat):Bool:=if left then κ.blt (KK κ xs i) k else !κ.blt k (KK κ xs i)
theorem lO(hO:KLt prog w A s κ kin){st:Ov}{left:Bool}{key:Og}{k:κ.α}{xs:Array Og}{base n hint:Nat}{Q:Option Nat->Ov->Prop}(hk:kindOf st=kin)(hx:∀i,i<n->∃x a,xs[base+i]?=UE x/\κ.keyOf x.1=UE a)(ha:κ.keyOf key.1=UE k)(hh:hint<n)
    (hm:∀i j,i<=j->j<n->byd κ left k xs (base+j)=true->byd κ left k xs (base+i)=true)
    (h:∀r,r<=n->(∀i,i<r->byd κ left k xs (base+i)=true)->(∀i,r<=i->i<n->byd κ left k xs (base+i)=false)->Q (UE r) st):wpS (Oh prog w) A E s (gal left key xs base n hint) Q st:=by
  have bd:∀(i:Nat){R:Option Bool->Ov->Prop},i<n->R (UE (byd κ left k xs (base+i))) st->wpS (Oh prog w) A E s (do let x<-RU xs (base+i);if left=true then lt' x key else do let r<-lt' key x;pure (r.map (!·))) R st:=by
    intro i R hi hR
    obtain⟨x,a,e,hxa⟩:=hx i hi
    have ek:KK κ xs (base+i)=a:=by unfold KK;rw[e];simp[hxa]
    refine Oa (bf e ?_)
    unfold byd at hR
    rw[ek]at hR
    cases left with
    |true=>exact sJ hO hk hxa ha hR
    |false=>exact Oa (sJ hO hk ha hxa (Ob hR))
  have bin:∀(f:Nat->Option (Option Nat)×Nat×Nat->StateT Ov Sem (ForInStep (Option (Option Nat)×Nat×Nat))),(∀(x l o:Nat)(R:ForInStep (Option (Option Nat)×Nat×Nat)->Ov->Prop),o<=n->(l ≥ o->R (.done (UG,l,o)) st)->(l<o->byd κ left k xs (base+(l+(o-l)/2))=true->R (.yield (UG,l+(o-l)/2+1,o)) st)->(l<o->byd κ left k xs (base+(l+(o-l)/2))=false->R (.yield (UG,l,l+(o-l)/2)) st)->wpS (Oh prog w) A E s (f x (UG,l,o)) R st)->
      ∀lo hi,lo<=hi->hi<=n->(∀i,i<lo->byd κ left k xs (base+i)=true)->(∀i,hi<=i->i<n->byd κ left k xs (base+i)=false)->wpS (Oh prog w) A E s (forIn [:n] (UG,lo,hi) f) (λc st'=>st'=st/\∃o,c=(UG,o,o)/\o<=n/\(∀i,i<o->byd κ left k xs (base+i)=true)/\(∀i,o<=i->i<n->byd κ left k xs (base+i)=false)) st:=by
    intro f hf lo hi h1 h2 h3 h4
    refine OO (I:=λx c st'=>st'=st/\∃l o,c=(UG,l,o)/\l<=o/\o<=n/\o-l<=n-x/\(∀i,i<l->byd κ left k xs (base+i)=true)/\(∀i,o<=i->i<n->byd κ left k xs (base+i)=false)) ?s0 ?f0 ⟨rfl,lo,hi,rfl,h1,h2,by lia,h3,h4⟩
    case f0=>
      rintro c st' ⟨rfl,l,o,rfl,g1,g2,g3,g4,g5⟩
      have:l=o:=by lia
      subst this
      exact⟨rfl,l,rfl,g2,g4,g5⟩
    case s0=>
      rintro x c st' _ _ ⟨rfl,l,o,rfl,g1,g2,g3,g4,g5⟩
      refine hf x l o _ g2 (λg=>?_) (λg z=>?_) (λg z=>?_)
      · have:l=o:=by lia
        subst this
        exact⟨rfl,l,rfl,g2,g4,g5⟩
      · exact{rfl,_,o,rfl,by lia,g2,by lia,(λi hi=>hm i (l+(o-l)/2) (by lia) (by lia) z),g5}
      · exact{rfl,l,_,rfl,by lia,by lia,by lia,g4,λi hi hn=>by
            cases y:byd κ left k xs (base+i)with
            |false=>rfl
            |true=>rw[hm _ i hi hn y]at z;cases z}
  have neg:∀i j,i<=j->j<n->byd κ left k xs (base+i)=false->byd κ left k xs (base+j)=false:=λi j hij hj e=>by
    cases z:byd κ left k xs (base+j)with
    |false=>rfl
    |true=>rw[hm i j hij hj z]at e;cases e
  refine Oa (bd hint hh ?_)
  dsimp only
  cases hd:byd κ left k xs (base+hint)with
  |true=>
    rw[if_pos rfl]
    refine Oa (OX (OO (I:=λx c st'=>st'=st/\∃l o,c=(UG,l,o)/\l<o/\x+1<=o/\hint+l<n/\byd κ left k xs (base+(hint+l))=true)
      (Q:=λc st'=>st'=st/\∃l o,c=(UG,l,o)/\l<o/\hint+l<n/\byd κ left k xs (base+(hint+l))=true/\(n-hint<=o\/byd κ left k xs (base+(hint+o))=false)) ?s1 ?f1 ⟨rfl,0,1,rfl,by lia,by lia,hh,hd⟩) ?p1)
    case f1=>
      rintro c st' ⟨rfl,l,o,rfl,h1,h2,h3,h4⟩
      exact{rfl,l,o,rfl,h1,h3,h4,.inl (by lia)}
    case s1=>
      rintro x c st' _ _ ⟨rfl,l,o,rfl,h1,h2,h3,h4⟩
      dsimp only
      by_cases g:o ≥ n-hint
      · rw[if_pos g]
        exact Ob ⟨rfl,l,o,rfl,h1,h3,h4,.inl g⟩
      · rw[if_neg g]
        refine Oa (bd (hint+o) (by lia) ?_)
        dsimp only
        cases z:byd κ left k xs (base+(hint+o))with
        |false=>exact Ob ⟨rfl,l,o,rfl,h1,h3,h4,.inr z⟩
        |true=>exact Ob {rfl,o,2*o+1,rfl,by lia,by lia,by lia,z}
    case p1=>
      rintro c st' ⟨rfl,l,o,rfl,h1,h3,h4,h5⟩
      dsimp only
      refine Oa (OX (bin _ (by
        intro x l o R h0 h1 h2 h3
        dsimp only
        by_cases g:l ≥ o
        · rw[if_pos g]
          exact Ob (h1 g)
        · rw[if_neg g]
          refine Oa (bd (l+(o-l)/2) (by lia) ?_)
          dsimp only
          cases z:byd κ left k xs (base+(l+(o-l)/2))with
          |true=>exact Ob (h2 (by lia) z)
          |false=>exact Ob (h3 (by lia) z)) (hint+l+1) (hint+min o (n-hint)) (by lia) (by lia) (λi hi=>hm i (hint+l) (by lia) h3 h4) (λi hi hn=>by
        rcases h5 with h5|h5
        · lia
        · by_cases g:n-hint<=o
          · lia
          · exact neg (hint+o) i (by lia) hn h5)) ?_)
      rintro c st'' ⟨rfl,r,rfl,g2,g4,g5⟩
      exact Ob (h r g2 g4 g5)
  |false=>
    rw[if_neg Lv]
    refine Oa (OX (OO (I:=λx c st'=>st'=st/\∃l o,c=(UG,l,o)/\l<o/\x+1<=o/\l<=hint/\byd κ left k xs (base+(hint-l))=false)
      (Q:=λc st'=>st'=st/\∃l o,c=(UG,l,o)/\l<o/\l<=hint/\byd κ left k xs (base+(hint-l))=false/\(hint+1<=o\/byd κ left k xs (base+(hint-o))=true)) ?s2 ?f2 ⟨rfl,0,1,rfl,by lia,by lia,by lia,hd⟩) ?p2)
    case f2=>
      rintro c st' ⟨rfl,l,o,rfl,h1,h2,h3,h4⟩
      exact{rfl,l,o,rfl,h1,h3,h4,.inl (by lia)}
    case s2=>
      rintro x c st' _ _ ⟨rfl,l,o,rfl,h1,h2,h3,h4⟩
      dsimp only
      by_cases g:o ≥ hint+1
      · rw[if_pos g]
        exact Ob ⟨rfl,l,o,rfl,h1,h3,h4,.inl g⟩
      · rw[if_neg g]
        refine Oa (bd (hint-o) (by lia) ?_)
        dsimp only
        cases z:byd κ left k xs (base+(hint-o))with
        |true=>exact Ob ⟨rfl,l,o,rfl,h1,h3,h4,.inr z⟩
        |false=>exact Ob {rfl,o,2*o+1,rfl,by lia,by lia,by lia,z}
    case p2=>
      rintro c st' ⟨rfl,l,o,rfl,h1,h3,h4,h5⟩
      dsimp only
      refine Oa (OX (bin _ (by
        intro x l o R h0 h1 h2 h3
        dsimp only
        by_cases g:l ≥ o
        · rw[if_pos g]
          exact Ob (h1 g)
        · rw[if_neg g]
          refine Oa (bd (l+(o-l)/2) (by lia) ?_)
          dsimp only
          cases z:byd κ left k xs (base+(l+(o-l)/2))with
          |true=>exact Ob (h2 (by lia) z)
          |false=>exact Ob (h3 (by lia) z)) (hint+1-min o (hint+1)) (hint-l) (by lia) (by lia) (λi hi=>by
        rcases h5 with h5|h5
        · lia
        · by_cases g:hint+1<=o
          · lia
          · exact hm i (hint-o) (by lia) (by lia) h5) (λi hi hn=>neg (hint-l) i (by lia) hn h4)) ?_)
      rintro c st'' ⟨rfl,r,rfl,g2,g4,g5⟩
      exact Ob (h r g2 g4 g5)
end
end L2
namespace L2
open PySem PyProof.Rows
section
variable{κ:KeyKind}{kin:Pg}
noncomputable def ky(κ:KeyKind)(x:Og):κ.α:=(κ.keyOf x.1).getD κ.dflt
def Srt(κ:KeyKind)(l:List Og):Prop:=l.Pairwise λx y=>κ.kle (ky κ x) (ky κ y)
theorem Srt.app{l m:List Og}(h1:Srt κ l)(h2:Srt κ m)(h:∀x∈l,∀y∈m,κ.kle (ky κ x) (ky κ y)):Srt κ (l++m):=MQ.mpr ⟨h1,h2,h⟩
theorem Srt.left{l m:List Og}(h:Srt κ (l++m)):Srt κ l:=(MQ.mp h).1
theorem Srt.right{l m:List Og}(h:Srt κ (l++m)):Srt κ m:=(MQ.mp h).2.1
theorem Srt.le{l m:List Og}(h:Srt κ (l++m)):∀x∈l,∀y∈m,κ.kle (ky κ x) (ky κ y):=(MQ.mp h).2.2
structure Mg(κ:KeyKind)(a b o:List Og)(i j:Nat):Prop where
 pm:o.Perm (a.take i++b.take j)
 sa:Srt κ (o++a.drop i)
 sb:Srt κ (o++b.drop j)
 ha:i<=a.length
 hb:j<=b.length
theorem Mg.chA{a b o:List Og}{i j:Nat}(h:Mg κ a b o i j)(k:Nat)(hk:i+k<=a.length)(le:∀x∈(a.drop i).take k,∀y∈b.drop j,κ.kle (ky κ x) (ky κ y)):Mg κ a b (o++(a.drop i).take k) (i+k) j:=by
 have e:o++(a.drop i).take k++a.drop (i+k)=o++a.drop i:=by
  rw[Lz,<-M9,LO]
 have sa:=h.sa
 refine{?_,by rw[e];exact sa,?_,hk,h.hb}
 ·have e2:a.take (i+k)=a.take i++(a.drop i).take k:=by rw[Nq]
  rw[e2,Lz]
  exact(h.pm.append_right _).trans (by
   rw[Lz]
   exact OG _ Mp)
 ·rw[<-e]at sa
  refine Srt.app sa.left h.sb.right λx hx y hy=>?_
  rcases Ls.mp hx with hx|hx
  ·exact h.sb.le x hx y hy
  ·exact le x hx y hy
theorem Mg.chB{a b o:List Og}{i j:Nat}(h:Mg κ a b o i j)(k:Nat)(hk:j+k<=b.length)(le:∀x∈(b.drop j).take k,∀y∈a.drop i,κ.kle (ky κ x) (ky κ y)):Mg κ a b (o++(b.drop j).take k) i (j+k):=by
 have e:o++(b.drop j).take k++b.drop (j+k)=o++b.drop j:=by
  rw[Lz,<-M9,LO]
 have sb:=h.sb
 refine{?_,?_,by rw[e];exact sb,h.ha,hk}
 ·have e2:b.take (j+k)=b.take j++(b.drop j).take k:=by rw[Nq]
  rw[e2,<-Lz]
  exact h.pm.append_right _
 ·rw[<-e]at sb
  refine Srt.app sb.left h.sa.right λx hx y hy=>?_
  rcases Ls.mp hx with hx|hx
  ·exact h.sa.le x hx y hy
  ·exact le x hx y hy
theorem Mg.KZ{a b o:List Og}{i j:Nat}(h:Mg κ a b o i j)(e:j=b.length):(o++a.drop i++b.drop j).Perm (a++b)/\Srt κ (o++a.drop i++b.drop j):=by
 subst e
 rw[NS,LQ]
 refine{?_,h.sa}
 have p:=h.pm
 rw[Mo]at p
 refine(p.append_right _).trans ?_
 have q:(a.take i++b++a.drop i).Perm (a.take i++(a.drop i++b)):=by
  rw[Lz]
  exact OG _ Mp
 rw[<-Lz,LO]at q
 exact q
theorem Mg.K5{a b o:List Og}{i j:Nat}(h:Mg κ a b o i j)(e:i=a.length):(o++a.drop i++b.drop j).Perm (a++b)/\Srt κ (o++a.drop i++b.drop j):=by
 subst e
 rw[NS,LQ]
 refine{?_,h.sb}
 have p:=h.pm
 rw[Mo]at p
 refine(p.append_right _).trans ?_
 rw[Lz,LO]
theorem Mg.last{a b o:List Og}{i j:Nat}(h:Mg κ a b o i j)(le:∀x∈b,∀y∈a.drop i,κ.kle (ky κ x) (ky κ y)):(o++b.drop j++a.drop i).Perm (a++b)/\Srt κ (o++b.drop j++a.drop i):=by
 constructor
 ·have p1:(o++b.drop j++a.drop i).Perm (a.take i++b.take j++b.drop j++a.drop i):=(h.pm.append_right _).append_right _
  refine p1.trans ?_
  rw[Lz (a.take i),LO]
  have q:(a.take i++b++a.drop i).Perm (a.take i++(a.drop i++b)):=by
   rw[Lz]
   exact OG _ Mp
  rw[<-Lz,LO]at q
  exact q
 ·refine Srt.app h.sb h.sa.right λx hx y hy=>?_
  rcases Ls.mp hx with hx|hx
  ·exact h.sa.le x hx y hy
  ·exact le x (MR hx) y hy
end
end L2
namespace L2
open PySem PyProof.Rows
section
variable{prog:Program}{w:Of}{A:Ou}{E:E9->N7->Prop}{s:N7}{κ:KeyKind}{kin:Pg}
noncomputable abbrev sGr(st:Ov)(g:Nat):Ov:=SQ (kindOf st) (N8 st) (Ol st) g (P8 st)
theorem nH(xs:Array Og)(i j:Nat):(xs.extract i j).toList=(xs.toList.drop i).take (j-i):=by
 rw[Array.toList_extract]
theorem tX(xs:Array Og)(i:Nat):(xs.extract i xs.size).toList=xs.toList.drop i:=by
 rw[nH]
 exact Mb (by rw[Mc,LI];exact Ln _)
theorem j2{xs:Array Og}(hk:KeysOf κ xs){i:Nat}(h:i<xs.size):∃x,xs[i]?=UE x/\κ.keyOf x.1=UE (ky κ x)/\KK κ xs i=ky κ x/\xs.toList.drop i=x::xs.toList.drop (i+1)/\x∈xs.toList:=by
 have e:xs[i]?=UE xs[i]:=getElem?_pos _ i h
 have m:xs[i]∈xs.toList:=by simp
 obtain⟨a,ha⟩:=hk _ m
 have k:ky κ xs[i]=a:=by unfold ky;rw[ha];rfl
 refine{xs[i],e,by rw[k];exact ha,by unfold KK ky;rw[e],?_,m}
 have hl:i<xs.toList.length:=by rw[LI];exact h
 rw[MS hl]
 simp
theorem yQ{xs:Array Og}(hk:KeysOf κ xs){i:Nat}{z:Og}(h:z∈xs.toList.drop i):∃j,i<=j/\j<xs.size/\KK κ xs j=ky κ z:=by
 obtain⟨j,hj⟩:=LX h
 rw[ML]at hj
 have hl:=(LJ.mp hj).1
 rw[LI]at hl
 refine{i+j,Mw _ _,hl,?_}
 rw[L5]at hj
 unfold KK ky
 rw[hj]
theorem i6{xs:Array Og}(hk:KeysOf κ xs){i k:Nat}{z:Og}(h:z∈(xs.toList.drop i).take k):∃j,j<k/\i+j<xs.size/\KK κ xs (i+j)=ky κ z:=by
 obtain⟨j,hj⟩:=LX h
 have hl:=(LJ.mp hj).1
 rw[LV,Mc,LI]at hl
 rw[Mt (by lia),ML,L5]at hj
 refine{j,by lia,by lia,?_}
 unfold KK ky
 rw[hj]
theorem zE{xs:Array Og}(hs:Srt κ xs.toList){i j:Nat}(hij:i<=j)(hj:j<xs.size):κ.kle (KK κ xs i) (KK κ xs j):=by
 rcases NT i j with h|h
 ·have:=MT.mp hs i j (by rw[LI];lia) (by rw[LI];exact hj) h
  unfold KK
  rw[getElem?_pos xs i (by lia),getElem?_pos xs j hj]
  simpa [ky] using this
 ·have:i=j:=by lia
  subst this
  exact OI _
theorem Jk(hO:KLt prog w A s κ kin){st:Ov}{a b o:Array Og}{i j:Nat}{y:Og}{R:Option Nat->Ov->Prop}(hk:kindOf st=kin)(ka:KeysOf κ a)(sa:Srt κ a.toList)(M:Mg κ a.toList b.toList o.toList i j)(hi:i<a.size)(hy:b.toList.drop j=y::b.toList.drop (j+1))(ky':κ.keyOf y.1=UE (ky κ y))
  (h:∀k,i+k<=a.size->Mg κ a.toList b.toList (o++a.extract i (i+k)).toList (i+k) j->(∀z∈a.toList.drop (i+k),κ.kle (ky κ y) (ky κ z))->R (UE k) st):wpS (Oh prog w) A E s (gal false y a i (a.size-i) 0) R st:=by
 refine lO hO hk (λm hm=>?_) ky' (by lia) (λm n hmn hn e=>?_) (λk hk1 h1 h2=>?_)
 ·obtain⟨x,e,kx,_⟩:=j2 ka (show i+m<a.size by lia)
  exact{x,_,e,kx}
 ·unfold byd at e⊢
  rw[if_neg Lv]at e⊢
  have e:κ.kle (KK κ a (i+n)) (ky κ y):=by simpa [P9] using e
  have:=OD (zE sa (show i+m<=i+n by lia) (by lia)) e
  simpa [P9] using this
 ·refine h k (by lia) ?_ ?_
  ·rw[Ma,nH,Mm]
   refine M.chA k (by rw[LI];lia) λx hx z hz=>?_
   obtain⟨m,m1,m2,m3⟩:=i6 ka hx
   have e:=h1 m m1
   unfold byd at e
   rw[if_neg Lv]at e
   have e:κ.kle (KK κ a (i+m)) (ky κ y):=by simpa [P9] using e
   rw[m3]at e
   refine OD e ?_
   rw[hy]at hz
   rcases Lu.mp hz with rfl|hz
   ·exact OI _
   ·have s:=M.sb.right
    rw[hy]at s
    exact(NG.mp s).1 z hz
  ·intro z hz
   obtain⟨m,m1,m2,m3⟩:=yQ ka hz
   have e:=h2 (m-i) (by lia) (by lia)
   unfold byd at e
   rw[if_neg Lv,show i+(m-i)=m by lia,m3]at e
   exact OF (by simpa [Um] using e)
theorem Js(hO:KLt prog w A s κ kin){st:Ov}{a b o:Array Og}{i j:Nat}{x:Og}{R:Option Nat->Ov->Prop}(hk:kindOf st=kin)(kb:KeysOf κ b)(sb:Srt κ b.toList)(M:Mg κ a.toList b.toList o.toList i j)(hj:j<b.size)(hx:a.toList.drop i=x::a.toList.drop (i+1))(kx':κ.keyOf x.1=UE (ky κ x))
  (h:∀k,j+k<=b.size->Mg κ a.toList b.toList (o++b.extract j (j+k)).toList i (j+k)->(∀z∈b.toList.drop (j+k),κ.kle (ky κ x) (ky κ z))->R (UE k) st):wpS (Oh prog w) A E s (gal true x b j (b.size-j) 0) R st:=by
 refine lO hO hk (λm hm=>?_) kx' (by lia) (λm n hmn hn e=>?_) (λk hk1 h1 h2=>?_)
 ·obtain⟨x,e,kx,_⟩:=j2 kb (show j+m<b.size by lia)
  exact{x,_,e,kx}
 ·unfold byd at e⊢
  rw[if_pos rfl]at e⊢
  exact Qj (zE sb (show j+m<=j+n by lia) (by lia)) e
 ·refine h k (by lia) ?_ ?_
  ·rw[Ma,nH,Mm]
   refine M.chB k (by rw[LI];lia) λy hy z hz=>?_
   obtain⟨m,m1,m2,m3⟩:=i6 kb hy
   have e:=h1 m m1
   unfold byd at e
   rw[if_pos rfl,m3]at e
   refine OD (OF e) ?_
   rw[hx]at hz
   rcases Lu.mp hz with rfl|hz
   ·exact OI _
   ·have s:=M.sa.right
    rw[hx]at s
    exact(NG.mp s).1 z hz
  ·intro z hz
   obtain⟨m,m1,m2,m3⟩:=yQ kb hz
   have e:=h2 (m-j) (by lia) (by lia)
   unfold byd at e
   rw[if_pos rfl,show j+(m-j)=m by lia,m3]at e
   exact e
theorem Mg.pA{a b o:Array Og}{i j:Nat}{x:Og}(M:Mg κ a.toList b.toList o.toList i j)(hx:a.toList.drop i=x::a.toList.drop (i+1))(le:∀z∈b.toList.drop j,κ.kle (ky κ x) (ky κ z)):Mg κ a.toList b.toList (o.push x).toList (i+1) j:=by
 have e:(a.toList.drop i).take 1=[x]:=by rw[hx];rfl
 have h:=M.chA 1 (by
  have:=congrArg Pw hx
  rw[Mc,Lq]at this
  lia) (λu hu z hz=>by
   rw[e]at hu
   rw[Lp.mp hu]
   exact le z hz)
 rw[e]at h
 rwa [MP]
theorem Mg.pB{a b o:Array Og}{i j:Nat}{y:Og}(M:Mg κ a.toList b.toList o.toList i j)(hy:b.toList.drop j=y::b.toList.drop (j+1))(le:∀z∈a.toList.drop i,κ.kle (ky κ y) (ky κ z)):Mg κ a.toList b.toList (o.push y).toList i (j+1):=by
 have e:(b.toList.drop j).take 1=[y]:=by rw[hy];rfl
 have h:=M.chB 1 (by
  have:=congrArg Pw hy
  rw[Mc,Lq]at this
  lia) (λu hu z hz=>by
   rw[e]at hu
   rw[Lp.mp hu]
   exact le z hz)
 rw[e]at h
 rwa [MP]
theorem BO{l:List Og}{x y:Og}{r:List Og}(s:Srt κ l)(e:l=x::r)(h:κ.kle (ky κ y) (ky κ x)):∀z∈l,κ.kle (ky κ y) (ky κ z):=λz hz=>by
 subst e
 rcases Lu.mp hz with rfl|hz
 ·exact h
 ·exact OD h ((NG.mp s).1 z hz)
end
end L2
namespace L2
open PySem PyProof.Rows
noncomputable def mlo:Array Og->Array Og->StateT Ov Sem (Array Og):=sortPriv%PySem.Builtin.mergeLo
section
variable{prog:Program}{w:Of}{A:Ou}{E:E9->N7->Prop}{s:N7}{κ:KeyKind}{kin:Pg}
abbrev Gd(κ:KeyKind)(a b r:Array Og):Prop:=r.toList.Perm (a.toList++b.toList)/\Srt κ r.toList
theorem Mg.dB{a b o:Array Og}{i j:Nat}(M:Mg κ a.toList b.toList o.toList i j)(e:j=b.size):Gd κ a b (o++a.extract i++b.extract j):=by
 unfold Gd
 rw[Ma,Ma,tX,tX]
 exact M.KZ (by rw[LI];exact e)
theorem Mg.dA{a b o:Array Og}{i j:Nat}(M:Mg κ a.toList b.toList o.toList i j)(e:i=a.size):Gd κ a b (o++a.extract i++b.extract j):=by
 unfold Gd
 rw[Ma,Ma,tX,tX]
 exact M.K5 (by rw[LI];exact e)
theorem Mg.dL{a b o:Array Og}{i j:Nat}(M:Mg κ a.toList b.toList o.toList i j)(le:∀x∈b.toList,∀y∈a.toList.drop (a.size-1),κ.kle (ky κ x) (ky κ y))(e:i+1=a.size):Gd κ a b (o++b.extract j++a.extract i):=by
 unfold Gd
 rw[Ma,Ma,tX,tX]
 exact M.last (by rw[show i=a.size-1 by lia];exact le)
noncomputable abbrev MSt:=Option (Array Og)×Array Og×Nat×Nat×Nat×Nat×Nat
noncomputable def lo2(a b o:Array Og)(i j mg k k2:Nat):StateT Ov Sem (ForInStep MSt):=do
 let d<-RU a i
 if(i+1+1==a.size)=true then pure (.done (UE (o.push d++b.extract j++a.extract (i+1)),o.push d,i+1,j,mg,k,k2))
 else if(decide (k<7)&&decide (k2<7))=true then pure (.done (UG,o.push d,i+1,j,mg,k,k2))
 else pure (.yield (UG,o.push d,i+1,j,mg,k,k2))
noncomputable def lo1(a b o:Array Og)(i j mg k bc:Nat):StateT Ov Sem (ForInStep MSt):=do
 let y<-RU b j
 if(j+1==b.size)=true then pure (.done (UE (o.push y++a.extract i++b.extract (j+1)),o.push y,i,j+1,mg,k,bc))
 else do
  let x<-RU a i
  let r<-gal true x b (j+1) (b.size-(j+1)) 0
  match r with
  |some k2=>
   if k2>0 then
    if(j+1+k2==b.size)=true then pure (.done (UE (o.push y++b.extract (j+1) (j+1+k2)++a.extract i++b.extract (j+1+k2)),o.push y++b.extract (j+1) (j+1+k2),i,j+1+k2,mg,k,k2))
    else lo2 a b (o.push y++b.extract (j+1) (j+1+k2)) i (j+1+k2) mg k k2
   else lo2 a b (o.push y) i (j+1) mg k k2
  |_=>pure (.done (UE (o.push y++a.extract i++b.extract (j+1)),o.push y,i,j+1,mg,k,bc))
noncomputable def lo0(a b o:Array Og)(i j mg ac bc:Nat):StateT Ov Sem (ForInStep MSt):=do
 let y<-RU b j
 let r<-gal false y a i (a.size-i) 0
 match r with
 |some k=>
  if k>0 then
   if(i+k+1==a.size)=true then pure (.done (UE (o++a.extract i (i+k)++b.extract j++a.extract (i+k)),o++a.extract i (i+k),i+k,j,mg,k,bc))
   else if(i+k==a.size)=true then pure (.done (UE (o++a.extract i (i+k)++a.extract (i+k)++b.extract j),o++a.extract i (i+k),i+k,j,mg,k,bc))
   else lo1 a b (o++a.extract i (i+k)) (i+k) j mg k bc
  else lo1 a b o i j mg k bc
 |_=>pure (.done (UE (o++a.extract i++b.extract j),o,i,j,mg,ac,bc))
theorem F5{st:Ov}{a b o:Array Og}{i j mg k k2:Nat}{xa:Og}{Q:ForInStep MSt->Ov->Prop}(hi:i+1<a.size)(exa:a[i]?=UE xa)(M4:Mg κ a.toList b.toList (o.push xa).toList (i+1) j)(hl:∀x∈b.toList,∀y∈a.toList.drop (a.size-1),κ.kle (ky κ x) (ky κ y))(q1:∀r c,Gd κ a b r->Q (.done (UE r,c)) st)(q2:i+1+1<a.size->Q (.done (UG,o.push xa,i+1,j,mg,k,k2)) st/\Q (.yield (UG,o.push xa,i+1,j,mg,k,k2)) st):wpS (Oh prog w) A E s (lo2 a b o i j mg k k2) Q st:=by
 unfold lo2
 refine Oa (bf exa ?_)
 by_cases e5:(i+1+1==a.size)=true
 ·rw[if_pos e5]
  exact Ob (q1 _ _ (M4.dL hl (by simpa using e5)))
 rw[if_neg e5]
 have e5:¬ i+1+1=a.size:=by simpa using e5
 have z:=q2 (by lia)
 split
 ·exact Ob z.1
 ·exact Ob z.2
theorem FY(hO:KLt prog w A s κ kin){st:Ov}{a b o:Array Og}{i j mg k bc:Nat}{yb:Og}{Q:ForInStep MSt->Ov->Prop}(hk:kindOf st=kin)(ka:KeysOf κ a)(kb:KeysOf κ b)(sb:Srt κ b.toList)(hl:∀x∈b.toList,∀y∈a.toList.drop (a.size-1),κ.kle (ky κ x) (ky κ y))(hi:i+1<a.size)(hj:j<b.size)(eyb:b[j]?=UE yb)(dyb:b.toList.drop j=yb::b.toList.drop (j+1))(M:Mg κ a.toList b.toList o.toList i j)(le:∀z∈a.toList.drop i,κ.kle (ky κ yb) (ky κ z))(q1:∀r c,Gd κ a b r->Q (.done (UE r,c)) st)
  (q2:∀o' j' k2,Mg κ a.toList b.toList (NR o') (i+1) j'->i+1+1<a.size->j'<b.size->j+1<=j'->Q (.done (UG,o',i+1,j',mg,k,k2)) st/\Q (.yield (UG,o',i+1,j',mg,k,k2)) st):wpS (Oh prog w) A E s (lo1 a b o i j mg k bc) Q st:=by
 obtain⟨xa,exa,kxa,_,dxa,_⟩:=j2 ka (show i<a.size by lia)
 have M2:=M.pB dyb le
 unfold lo1
 refine Oa (bf eyb ?_)
 by_cases e3:(j+1==b.size)=true
 ·rw[if_pos e3]
  exact Ob (q1 _ _ (M2.dB (by simpa using e3)))
 rw[if_neg e3]
 have e3:¬ j+1=b.size:=by simpa using e3
 refine Oa (bf exa (Oa (Js hO hk kb sb M2 (by lia) dxa kxa λk2 hk2 M3 le3=>?_)))
 dsimp only
 by_cases k20:k2>0
 ·rw[if_pos k20]
  by_cases e4:(j+1+k2==b.size)=true
  ·rw[if_pos e4]
   exact Ob (q1 _ _ (M3.dB (by simpa using e4)))
  rw[if_neg e4]
  have e4:¬ j+1+k2=b.size:=by simpa using e4
  have M4:=M3.pA dxa le3
  exact F5 hi exa M4 hl q1 λz=>q2 _ _ _ M4 z (by lia) (by lia)
 ·rw[if_neg k20]
  have k2z:k2=0:=by lia
  subst k2z
  rw[show j+1+0=j+1 from rfl]at le3
  have M4:=M2.pA dxa le3
  exact F5 hi exa M4 hl q1 λz=>q2 _ _ _ M4 z (by lia) (by lia)
theorem Jq(hO:KLt prog w A s κ kin){st:Ov}{a b o:Array Og}{i j mg ac bc:Nat}{Q:ForInStep MSt->Ov->Prop}(hk:kindOf st=kin)(ka:KeysOf κ a)(kb:KeysOf κ b)(sa:Srt κ a.toList)(sb:Srt κ b.toList)(hl:∀x∈b.toList,∀y∈a.toList.drop (a.size-1),κ.kle (ky κ x) (ky κ y))(hi:i+1<a.size)(hj:j<b.size)(M:Mg κ a.toList b.toList o.toList i j)(q1:∀r c,Gd κ a b r->Q (.done (UE r,c)) st)
  (q2:∀o' i' j' k k2,Mg κ a.toList b.toList (NR o') i' j'->i'+1<a.size->j'<b.size->i+j+2<=i'+j'->Q (.done (UG,o',i',j',mg,k,k2)) st/\Q (.yield (UG,o',i',j',mg,k,k2)) st):wpS (Oh prog w) A E s (lo0 a b o i j mg ac bc) Q st:=by
 obtain⟨yb,eyb,kyb,kkb,dyb,_⟩:=j2 kb hj
 unfold lo0
 refine Oa (bf eyb (Oa (Jk (o:=o) hO hk ka sa M (by lia) dyb kyb λk hk1 M1 le1=>?_)))
 dsimp only
 by_cases k0:k>0
 ·rw[if_pos k0]
  by_cases e1:(i+k+1==a.size)=true
  ·rw[if_pos e1]
   exact Ob (q1 _ _ (M1.dL hl (by simpa using e1)))
  rw[if_neg e1]
  by_cases e2:(i+k==a.size)=true
  ·rw[if_pos e2]
   exact Ob (q1 _ _ (M1.dA (by simpa using e2)))
  rw[if_neg e2]
  have e1:¬ i+k+1=a.size:=by simpa using e1
  have e2:¬ i+k=a.size:=by simpa using e2
  exact FY hO hk ka kb sb hl (by lia) hj eyb dyb M1 le1 q1 λo' j' k2 M' h1 h2 h3=>q2 _ _ _ _ _ M' h1 h2 (by lia)
 ·rw[if_neg k0]
  have kz:k=0:=by lia
  subst kz
  exact FY hO hk ka kb sb hl hi hj eyb dyb M le1 q1 λo' j' k2 M' h1 h2 h3=>q2 _ _ _ _ _ M' h1 h2 (by lia)
theorem EV(hO:KLt prog w A s κ kin){st:Ov}{a b:Array Og}{Q:Array Og->Ov->Prop}(hk:kindOf st=kin)(ka:KeysOf κ a)(kb:KeysOf κ b)(sa:Srt κ a.toList)(sb:Srt κ b.toList)(a1:1<=a.size)(b1:1<=b.size)(h0:κ.kle (KK κ b 0) (KK κ a 0))(hl:∀x∈b.toList,∀y∈a.toList.drop (a.size-1),κ.kle (ky κ x) (ky κ y))
  (h:∀r g,Gd κ a b r->Q r (sGr st g)):wpS (Oh prog w) A E s (mlo a b) Q st:=by
 obtain⟨y0,ey0,ky0,kk0,dy0,_⟩:=j2 kb (show 0<b.size by lia)
 obtain⟨x0,ex0,kx0,kkx,dx0,_⟩:=j2 ka (show 0<a.size by lia)
 have M0:Mg κ a.toList b.toList (#[y0]:Array Og).toList 0 1:=by
  have M:Mg κ a.toList b.toList (#[]:Array Og).toList 0 0:={by simp,by simpa using sa,by simpa using sb,LH _,LH _}
  have:=M.pB (y:=y0) dy0 (BO (by simpa using sa) dx0 (by rw[<-kk0,<-kkx];exact h0))
  simpa using this
 refine Oa (Q6 (P7 {rfl,?_}))
 dsimp only
 refine Oa (bf ey0 ?_)
 by_cases c1:(1==b.size)=true
 ·rw[if_pos c1]
  exact Ob (h _ (RV st) (M0.dB (by simpa using c1)))
 rw[if_neg c1]
 by_cases c2:(0+1==a.size)=true
 ·rw[if_pos c2]
  exact Ob (h _ (RV st) (M0.dL hl (by simpa using c2)))
 rw[if_neg c2]
 have b2:1<b.size:=by
  have:¬ 1=b.size:=by simpa using c1
  lia
 have a2:0+1<a.size:=by
  have:¬ 1=a.size:=by simpa using c2
  lia
 refine Oa (Ql ?_)
 refine Oa (OX (OO (I:=λx c st'=>∃o i j mg g,c=(UG,o,i,j,mg)/\st'=sGr st g/\Mg κ a.toList b.toList o.toList i j/\i+1<a.size/\j<b.size/\x+1<=i+j)
  (Q:=λc st'=>∃r g,c.1=UE r/\st'=sGr st g/\Gd κ a b r) ?s1 ?f1 {_,_,_,_,RV st,rfl,rfl,M0,a2,b2,by lia}) ?p1)
 case f1=>
  rintro c st' ⟨o,i,j,mg,g,rfl,rfl,M,hi,hj,hx⟩
  lia
 case p1=>
  rintro⟨c,cc⟩ st' ⟨r,g,e,rfl,hg⟩
  cases e
  exact Ob (h r g hg)
 case s1=>
  rintro x c st' _ hx ⟨o,i,j,mg,g,rfl,rfl,M,hi,hj,hx'⟩
  dsimp only
  refine Oa (OX (OO (I:=λy c st'=>∃o i j ac bc,c=(UG,o,i,j,ac,bc)/\st'=sGr st g/\Mg κ a.toList b.toList o.toList i j/\i+1<a.size/\j<b.size/\x+1+min y 1<=i+j)
   (Q:=λc st'=>st'=sGr st g/\((∃r,c.1=UE r/\Gd κ a b r)\/∃o i j ac bc,c=(UG,o,i,j,ac,bc)/\Mg κ a.toList b.toList o.toList i j/\i+1<a.size/\j<b.size/\x+2<=i+j)) ?s2 ?f2 ⟨o,i,j,0,0,rfl,rfl,M,hi,hj,by lia⟩) ?p2)
  case f2=>
   rintro c st' ⟨o,i,j,ac,bc,rfl,rfl,M,hi,hj,hx⟩
   exact{rfl,.inr ⟨o,i,j,ac,bc,rfl,M,hi,hj,by lia⟩}
  case s2=>
   rintro y c st' _ hy ⟨o,i,j,ac,bc,rfl,rfl,M,hi,hj,hx⟩
   obtain⟨yb,eyb,kyb,kkb,dyb,_⟩:=j2 kb hj
   obtain⟨xa,exa,kxa,kkx,dxa,_⟩:=j2 ka (show i<a.size by lia)
   dsimp only
   refine Oa (bf eyb ?_)
   refine Oa (bf exa ?_)
   refine Oa (sJ hO hk kyb kxa ?_)
   dsimp only
   cases z:κ.blt (ky κ yb) (ky κ xa)with
   |true=>
    rw[if_pos rfl]
    have M':=M.pB dyb (BO M.sa.right dxa (OF z))
    refine Oa (bf eyb ?_)
    by_cases e1:(j+1==b.size)=true
    ·rw[if_pos e1]
     exact Ob {rfl,.inl {_,rfl,M'.dB (by simpa using e1)}}
    ·rw[if_neg e1]
     have e1:¬ j+1=b.size:=by simpa using e1
     split
     ·exact Ob {rfl,.inr {_,_,_,_,_,rfl,M',hi,by lia,by lia}}
     ·exact Ob {_,_,_,_,_,rfl,rfl,M',hi,by lia,by lia}
   |false=>
    rw[if_neg Lv]
    have M':=M.pA dxa (BO M.sb.right dyb (show κ.kle _ _ from z))
    refine Oa (bf exa ?_)
    by_cases e1:(i+1+1==a.size)=true
    ·rw[if_pos e1]
     exact Ob {rfl,.inl {_,rfl,M'.dL hl (by simpa using e1)}}
    ·rw[if_neg e1]
     have e1:¬ i+1+1=a.size:=by simpa using e1
     split
     ·exact Ob {rfl,.inr {_,_,_,_,_,rfl,M',by lia,hj,by lia}}
     ·exact Ob {_,_,_,_,_,rfl,rfl,M',by lia,hj,by lia}
  case p2=>
   rintro c st' ⟨rfl,⟨r,e,hg⟩|⟨o,i,j,ac,bc,rfl,M,hi,hj,hx⟩⟩
   ·obtain⟨c,cc⟩:=c
    cases e
    exact Ob ⟨r,g,rfl,rfl,hg⟩
   ·dsimp only
    refine Oa (Q6 (P7 {rfl,?_}))
    refine Oa (OX (OO (I:=λy c st'=>∃o i j mg ac bc g,c=(UG,o,i,j,mg,ac,bc)/\st'=sGr st g/\Mg κ a.toList b.toList o.toList i j/\i+1<a.size/\j<b.size/\x+2<=i+j)
     (Q:=λc st'=>∃g,st'=sGr st g/\((∃r,c.1=UE r/\Gd κ a b r)\/∃o i j mg ac bc,c=(UG,o,i,j,mg,ac,bc)/\Mg κ a.toList b.toList o.toList i j/\i+1<a.size/\j<b.size/\x+2<=i+j)) ?s3 ?f3 {o,i,j,_,ac,bc,g,rfl,rfl,M,hi,hj,hx}) ?p3)
    case f3=>
     rintro c st' ⟨o,i,j,mg,ac,bc,g,rfl,rfl,M,hi,hj,hx⟩
     exact{g,rfl,.inr ⟨o,i,j,mg,ac,bc,rfl,M,hi,hj,hx⟩}
    case p3=>
     rintro c st' ⟨g,rfl,⟨r,e,hg⟩|⟨o,i,j,mg,ac,bc,rfl,M,hi,hj,hx⟩⟩
     ·obtain⟨c,cc⟩:=c
      cases e
      exact Ob ⟨r,g,rfl,rfl,hg⟩
     ·dsimp only
      exact Oa (ON (Ob {o,i,j,_,_,rfl,rfl,M,hi,hj,by lia}))
    case s3=>
     clear M hi hj hx
     rintro y c st' _ hy ⟨o,i,j,mg,ac,bc,g,rfl,rfl,M,hi,hj,hx⟩
     dsimp only
     rcases NT 1 mg with mc|mc
     all_goals
      first|rw[if_pos (show mg>1 from mc)]|rw[if_neg (show ¬ mg>1 from N4.mpr mc)]
      refine Oa (ON ?_)
      exact Jq hO hk ka kb sa sb hl hi hj M (λr c g=>{_,rfl,.inl {_,rfl,g}}) λo' i' j' k k2 M' h1 h2 h3=>{{_,rfl,.inr {_,_,_,_,_,_,rfl,M',h1,h2,by lia}},{_,_,_,_,_,_,_,rfl,rfl,M',h1,h2,by lia}}
end
end L2
namespace L2
open PySem PyProof.Rows
section
variable{prog:Program}{w:Of}{A:Ou}{E:E9->N7->Prop}{s:N7}{κ:KeyKind}{kin:Pg}
structure Mh(κ:KeyKind)(a b r:List Og)(i j:Nat):Prop where
 pm:r.Perm (a.drop i++b.drop j)
 sa:Srt κ (a.take i++r)
 sb:Srt κ (b.take j++r)
 ha:i<=a.length
 hb:j<=b.length
theorem gI{l:List Og}{t i:Nat}(h:t<=i):l.take i=l.take t++(l.drop t).take (i-t):=by
 have:=Nq (l:=l) (i:=t) (j:=i-t)
 rwa [show t+(i-t)=i by lia]at this
theorem rK{l:List Og}{t i:Nat}(h:t<=i):l.drop t=(l.drop t).take (i-t)++l.drop i:=by
 have:=LO (i-t) (l.drop t)
 rw[M9,show t+(i-t)=i by lia]at this
 exact this.symm
theorem Mh.chA{a b r:List Og}{i j:Nat}(h:Mh κ a b r i j)(t:Nat)(ht:t<=i)(le:∀x∈b.take j,∀y∈(a.drop t).take (i-t),κ.kle (ky κ x) (ky κ y)):Mh κ a b ((a.drop t).take (i-t)++r) t j:=by
 have sa:=h.sa
 rw[gI ht,Lz]at sa
 refine{?_,sa,?_,LG ht h.ha,h.hb}
 ·have p:((a.drop t).take (i-t)++r).Perm ((a.drop t).take (i-t)++(a.drop i++b.drop j)):=OG _ h.pm
  rwa [<-Lz,<-rK ht]at p
 ·refine Srt.app h.sb.left sa.right λx hx y hy=>?_
  rcases Ls.mp hy with hy|hy
  ·exact le x hx y hy
  ·exact h.sb.le x hx y hy
theorem Mh.chB{a b r:List Og}{i j:Nat}(h:Mh κ a b r i j)(t:Nat)(ht:t<=j)(le:∀x∈a.take i,∀y∈(b.drop t).take (j-t),κ.kle (ky κ x) (ky κ y)):Mh κ a b ((b.drop t).take (j-t)++r) i t:=by
 have sb:=h.sb
 rw[gI ht,Lz]at sb
 refine{?_,?_,sb,h.ha,LG ht h.hb}
 ·have p:((b.drop t).take (j-t)++r).Perm ((b.drop t).take (j-t)++(a.drop i++b.drop j)):=OG _ h.pm
  refine p.trans ?_
  have q:((b.drop t).take (j-t)++a.drop i++b.drop j).Perm (a.drop i++(b.drop t).take (j-t)++b.drop j):=O8 _ Mp
  rwa [Lz,Lz (a.drop i),<-rK ht]at q
 ·refine Srt.app h.sa.left sb.right λx hx y hy=>?_
  rcases Ls.mp hy with hy|hy
  ·exact le x hx y hy
  ·exact h.sa.le x hx y hy
theorem Mh.end{a b r:List Og}{i j:Nat}(h:Mh κ a b r i j)(e:i=0\/j=0):(a.take i++b.take j++r).Perm (a++b)/\Srt κ (a.take i++b.take j++r):=by
 constructor
 ·have p:(a.take i++b.take j++r).Perm (a.take i++b.take j++(a.drop i++b.drop j)):=OG _ h.pm
  refine p.trans ?_
  have q:(a.take i++(b.take j++a.drop i++b.drop j)).Perm (a.take i++(a.drop i++b.take j++b.drop j)):=OG _ (O8 _ Mp)
  have e1:a.take i++b.take j++(a.drop i++b.drop j)=a.take i++(b.take j++a.drop i++b.drop j):=by simp
  have e2:a.take i++(a.drop i++b.take j++b.drop j)=a++b:=by
   rw[Lz (a.drop i),LO,<-Lz,LO]
  rw[e1,<-e2]
  exact q
 ·rcases e with e|e
  ·subst e
   rw[Nz,L6]
   exact h.sb
  ·subst e
   rw[Nz,LQ]
   exact h.sa
theorem Mh.first{a b r:List Og}{i j:Nat}(h:Mh κ a b r i j)(le:∀x∈b.take j,∀y∈a,κ.kle (ky κ x) (ky κ y)):(b.take j++a.take i++r).Perm (a++b)/\Srt κ (b.take j++a.take i++r):=by
 constructor
 ·have p:(b.take j++a.take i++r).Perm (b.take j++a.take i++(a.drop i++b.drop j)):=OG _ h.pm
  refine p.trans ?_
  have e1:b.take j++a.take i++(a.drop i++b.drop j)=b.take j++a++b.drop j:=by
   rw[Lz,<-Lz (a.take i),LO,Lz]
  rw[e1]
  have q:(b.take j++a++b.drop j).Perm (a++b.take j++b.drop j):=O8 _ Mp
  rwa [Lz a,LO]at q
 ·rw[Lz]
  refine Srt.app h.sb.left h.sa λx hx y hy=>?_
  rcases Ls.mp hy with hy|hy
  ·exact le x hx y (Mn hy)
  ·exact h.sb.le x hx y hy
theorem zM(xs:Array Og)(i:Nat):(xs.extract 0 i).toList=xs.toList.take i:=by
 rw[nH,List.drop_zero,Nat.sub_zero]
theorem Jg{xs:Array Og}(hk:KeysOf κ xs){i:Nat}(h:i<xs.size){x:Og}(e:xs[i]?=UE x):xs.toList.take (i+1)=xs.toList.take i++[x]:=by
 rw[Ms,L5,e]
 rfl
theorem vg{xs:Array Og}{i:Nat}{z:Og}(h:z∈xs.toList.take i):∃j,j<i/\j<xs.size/\KK κ xs j=ky κ z:=by
 obtain⟨j,hj⟩:=LX h
 have hl:=(LJ.mp hj).1
 rw[LV,LI]at hl
 rw[Mt (by lia),L5]at hj
 refine{j,by lia,by lia,?_}
 unfold KK ky
 rw[hj]
theorem Hx(hO:KLt prog w A s κ kin){st:Ov}{a b o:Array Og}{i j:Nat}{y:Og}{R:Option Nat->Ov->Prop}(hk:kindOf st=kin)(ka:KeysOf κ a)(sa:Srt κ a.toList)(M:Mh κ a.toList b.toList o.reverse.toList i j)(hi:1<=i)(ia:i<=a.size)(hy:b.toList.take j=b.toList.take (j-1)++[y])(ky':κ.keyOf y.1=UE (ky κ y))
  (h:∀t,t<=i->Mh κ a.toList b.toList (o++(a.extract t i).reverse).reverse.toList t j->(∀z∈a.toList.take t,κ.kle (ky κ z) (ky κ y))->R (UE t) st):wpS (Oh prog w) A E s (gal false y a 0 i (i-1)) R st:=by
 refine lO hO hk (λm hm=>?_) ky' (by lia) (λm n hmn hn e=>?_) (λt hk1 h1 h2=>?_)
 ·obtain⟨x,e,kx,_⟩:=j2 ka (show 0+m<a.size by lia)
  exact{x,_,e,kx}
 ·unfold byd at e⊢
  rw[if_neg Lv]at e⊢
  have e:κ.kle (KK κ a (0+n)) (ky κ y):=by simpa [P9] using e
  have:=OD (zE sa (show 0+m<=0+n by lia) (by lia)) e
  simpa [P9] using this
 ·refine h t hk1 ?_ ?_
  ·have e:(o++(a.extract t i).reverse).reverse.toList=(a.toList.drop t).take (i-t)++o.reverse.toList:=by
    rw[RW,RI,Ma,nH]
   rw[e]
   refine M.chA t hk1 λx hx z hz=>?_
   obtain⟨m,m1,m2,m3⟩:=i6 ka hz
   have e:=h2 (t+m) (by lia) (by lia)
   unfold byd at e
   rw[if_neg Lv,show 0+(t+m)=t+m by lia,m3]at e
   have e:κ.kle (ky κ y) (ky κ z):=OF (by simpa [Um] using e)
   refine OD ?_ e
   rw[hy]at hx
   rcases Ls.mp hx with hx|hx
   ·have s:=M.sb.left
    rw[hy]at s
    exact s.le x hx y (Lp.mpr rfl)
   ·rw[Lp.mp hx]
    exact OI _
  ·intro z hz
   obtain⟨m,m1,m2,m3⟩:=vg (κ:=κ) hz
   have e:=h1 m m1
   unfold byd at e
   rw[if_neg Lv,show 0+m=m by lia,m3]at e
   simpa [P9] using e
theorem Gm(hO:KLt prog w A s κ kin){st:Ov}{a b o:Array Og}{i j:Nat}{x:Og}{R:Option Nat->Ov->Prop}(hk:kindOf st=kin)(kb:KeysOf κ b)(sb:Srt κ b.toList)(M:Mh κ a.toList b.toList o.reverse.toList i j)(hj:1<=j)(jb:j<=b.size)(hx:a.toList.take i=a.toList.take (i-1)++[x])(kx':κ.keyOf x.1=UE (ky κ x))
  (h:∀t,t<=j->Mh κ a.toList b.toList (o++(b.extract t j).reverse).reverse.toList i t->(∀z∈b.toList.take t,κ.kle (ky κ z) (ky κ x))->R (UE t) st):wpS (Oh prog w) A E s (gal true x b 0 j (j-1)) R st:=by
 refine lO hO hk (λm hm=>?_) kx' (by lia) (λm n hmn hn e=>?_) (λt hk1 h1 h2=>?_)
 ·obtain⟨x,e,kx,_⟩:=j2 kb (show 0+m<b.size by lia)
  exact{x,_,e,kx}
 ·unfold byd at e⊢
  rw[if_pos rfl]at e⊢
  exact Qj (zE sb (show 0+m<=0+n by lia) (by lia)) e
 ·refine h t hk1 ?_ ?_
  ·have e:(o++(b.extract t j).reverse).reverse.toList=(b.toList.drop t).take (j-t)++o.reverse.toList:=by
    rw[RW,RI,Ma,nH]
   rw[e]
   refine M.chB t hk1 λu hu z hz=>?_
   obtain⟨m,m1,m2,m3⟩:=i6 kb hz
   have e:=h2 (t+m) (by lia) (by lia)
   unfold byd at e
   rw[if_pos rfl,show 0+(t+m)=t+m by lia,m3]at e
   refine OD ?_ (show κ.kle (ky κ x) (ky κ z)from e)
   rw[hx]at hu
   rcases Ls.mp hu with hu|hu
   ·have s:=M.sa.left
    rw[hx]at s
    exact s.le u hu x (Lp.mpr rfl)
   ·rw[Lp.mp hu]
    exact OI _
  ·intro z hz
   obtain⟨m,m1,m2,m3⟩:=vg (κ:=κ) hz
   have e:=h1 m m1
   unfold byd at e
   rw[if_pos rfl,show 0+m=m by lia,m3]at e
   exact OF e
theorem Cs(o:Array Og)(x:Og):(o.push x).reverse.toList=x::o.reverse.toList:=by simp
theorem BF{l:List Og}{i:Nat}{x:Og}(h:l.take (i+1)=l.take i++[x]):(l.drop i).take 1=[x]:=by
 have e:=gI (l:=l) (show i<=i+1 by lia)
 rw[Mm,h]at e
 exact(List.append_cancel_left e).symm
theorem Mh.pA{a b o:Array Og}{i j:Nat}{x:Og}(M:Mh κ a.toList b.toList o.reverse.toList (i+1) j)(hx:a.toList.take (i+1)=a.toList.take i++[x])(le:∀z∈b.toList.take j,κ.kle (ky κ z) (ky κ x)):Mh κ a.toList b.toList (o.push x).reverse.toList i j:=by
 have e:=BF hx
 have h:=M.chA i (by lia) (λu hu z hz=>by
  rw[Mm,e]at hz
  rw[Lp.mp hz]
  exact le u hu)
 rw[Mm,e]at h
 rw[Cs]
 exact h
theorem Mh.pB{a b o:Array Og}{i j:Nat}{y:Og}(M:Mh κ a.toList b.toList o.reverse.toList i (j+1))(hy:b.toList.take (j+1)=b.toList.take j++[y])(le:∀z∈a.toList.take i,κ.kle (ky κ z) (ky κ y)):Mh κ a.toList b.toList (o.push y).reverse.toList i j:=by
 have e:=BF hy
 have h:=M.chB j (by lia) (λu hu z hz=>by
  rw[Mm,e]at hz
  rw[Lp.mp hz]
  exact le u hu)
 rw[Mm,e]at h
 rw[Cs]
 exact h
theorem F7{l m:List Og}{x y:Og}(s:Srt κ l)(e:l=m++[x])(h:κ.kle (ky κ x) (ky κ y)):∀z∈l,κ.kle (ky κ z) (ky κ y):=λz hz=>by
 subst e
 rcases Ls.mp hz with hz|hz
 ·exact OD (s.le z hz x (Lp.mpr rfl)) h
 ·rw[Lp.mp hz]
  exact h
end
end L2
namespace L2
open PySem PyProof.Rows
noncomputable def mhi:Array Og->Array Og->StateT Ov Sem (Array Og):=sortPriv%PySem.Builtin.mergeHi
section
variable{prog:Program}{w:Of}{A:Ou}{E:E9->N7->Prop}{s:N7}{κ:KeyKind}{kin:Pg}
theorem CN{xs:Array Og}(hk:KeysOf κ xs){i:Nat}(h:1<=i)(hi:i<=xs.size):∃x,xs[i-1]?=UE x/\κ.keyOf x.1=UE (ky κ x)/\xs.toList.take i=xs.toList.take (i-1)++[x]:=by
 obtain⟨x,e,kx,_⟩:=j2 hk (show i-1<xs.size by lia)
 refine{x,e,kx,?_}
 have:=Jg hk (show i-1<xs.size by lia) e
 rwa [show i-1+1=i by lia]at this
theorem Mh.qA{a b o:Array Og}{i j:Nat}{x:Og}(M:Mh κ a.toList b.toList o.reverse.toList i j)(hi:1<=i)(hx:a.toList.take i=a.toList.take (i-1)++[x])(le:∀z∈b.toList.take j,κ.kle (ky κ z) (ky κ x)):Mh κ a.toList b.toList (o.push x).reverse.toList (i-1) j:=by
 obtain⟨i,rfl⟩:∃k,i=k+1:={i-1,by lia}
 exact M.pA hx le
theorem Mh.qB{a b o:Array Og}{i j:Nat}{y:Og}(M:Mh κ a.toList b.toList o.reverse.toList i j)(hj:1<=j)(hy:b.toList.take j=b.toList.take (j-1)++[y])(le:∀z∈a.toList.take i,κ.kle (ky κ z) (ky κ y)):Mh κ a.toList b.toList (o.push y).reverse.toList i (j-1):=by
 obtain⟨j,rfl⟩:∃k,j=k+1:={j-1,by lia}
 exact M.pB hy le
theorem Mh.dE{a b o:Array Og}{i j:Nat}(M:Mh κ a.toList b.toList o.reverse.toList i j)(e:i=0\/j=0):Gd κ a b (a.extract 0 i++b.extract 0 j++o.reverse):=by
 unfold Gd
 rw[Ma,Ma,zM,zM]
 exact M.end e
theorem Mh.dF{a b o:Array Og}{i j:Nat}(M:Mh κ a.toList b.toList o.reverse.toList i j)(le:∀x∈b.toList.take 1,∀y∈a.toList,κ.kle (ky κ x) (ky κ y))(e:j=1):Gd κ a b (b.extract 0 j++a.extract 0 i++o.reverse):=by
 unfold Gd
 rw[Ma,Ma,zM,zM]
 subst e
 exact M.first le
noncomputable abbrev MHt:=Option (Array Og)×Nat×Nat×Array Og×Nat×Nat×Nat
noncomputable def hi2(a b o:Array Og)(i j mg k k2:Nat):StateT Ov Sem (ForInStep MHt):=do
 let d<-RU a (i-1)
 if(i-1==0)=true then pure (.done (UE (a.extract 0 (i-1)++b.extract 0 j++(o.push d).reverse),i-1,j,o.push d,mg,k,k2))
 else if(decide (k<7)&&decide (k2<7))=true then pure (.done (UG,i-1,j,o.push d,mg,k,k2))
 else pure (.yield (UG,i-1,j,o.push d,mg,k,k2))
noncomputable def hi1(a b o:Array Og)(i j mg k bc:Nat):StateT Ov Sem (ForInStep MHt):=do
 let y<-RU b (j-1)
 if(j-1==1)=true then pure (.done (UE (b.extract 0 (j-1)++a.extract 0 i++(o.push y).reverse),i,j-1,o.push y,mg,k,bc))
 else do
  let x<-RU a (i-1)
  let r<-gal true x b 0 (j-1) (j-1-1)
  match r with
  |some u=>
   if j-1-u>0 then
    if(u==1)=true then pure (.done (UE (b.extract 0 u++a.extract 0 i++(o.push y++(b.extract u (j-1)).reverse).reverse),i,u,o.push y++(b.extract u (j-1)).reverse,mg,k,j-1-u))
    else if(u==0)=true then pure (.done (UE (a.extract 0 i++b.extract 0 u++(o.push y++(b.extract u (j-1)).reverse).reverse),i,u,o.push y++(b.extract u (j-1)).reverse,mg,k,j-1-u))
    else hi2 a b (o.push y++(b.extract u (j-1)).reverse) i u mg k (j-1-u)
   else hi2 a b (o.push y) i (j-1) mg k (j-1-u)
  |_=>pure (.done (UE (a.extract 0 i++b.extract 0 (j-1)++(o.push y).reverse),i,j-1,o.push y,mg,k,bc))
noncomputable def hi0(a b o:Array Og)(i j mg ac bc:Nat):StateT Ov Sem (ForInStep MHt):=do
 let y<-RU b (j-1)
 let r<-gal false y a 0 i (i-1)
 match r with
 |some t=>
  if i-t>0 then
   if(t==0)=true then pure (.done (UE (a.extract 0 t++b.extract 0 j++(o++(a.extract t i).reverse).reverse),t,j,o++(a.extract t i).reverse,mg,i-t,bc))
   else hi1 a b (o++(a.extract t i).reverse) t j mg (i-t) bc
  else hi1 a b o i j mg (i-t) bc
 |_=>pure (.done (UE (a.extract 0 i++b.extract 0 j++o.reverse),i,j,o,mg,ac,bc))
theorem F1{st:Ov}{a b o:Array Og}{i j mg k k2:Nat}{xa:Og}{Q:ForInStep MHt->Ov->Prop}(exa:a[i-1]?=UE xa)(M4:Mh κ a.toList b.toList (o.push xa).reverse.toList (i-1) j)(q1:∀r c,Gd κ a b r->Q (.done (UE r,c)) st)(q2:1<=i-1->Q (.done (UG,i-1,j,o.push xa,mg,k,k2)) st/\Q (.yield (UG,i-1,j,o.push xa,mg,k,k2)) st):wpS (Oh prog w) A E s (hi2 a b o i j mg k k2) Q st:=by
 unfold hi2
 refine Oa (bf exa ?_)
 by_cases e6:(i-1==0)=true
 ·rw[if_pos e6]
  exact Ob (q1 _ _ (M4.dE (.inl (by simpa using e6))))
 rw[if_neg e6]
 have e6:¬ i-1=0:=by simpa using e6
 have z:=q2 (by lia)
 split
 ·exact Ob z.1
 ·exact Ob z.2
theorem F9(hO:KLt prog w A s κ kin){st:Ov}{a b o:Array Og}{i j mg k bc:Nat}{yb:Og}{Q:ForInStep MHt->Ov->Prop}(hk:kindOf st=kin)(ka:KeysOf κ a)(kb:KeysOf κ b)(sb:Srt κ b.toList)(hf:∀x∈b.toList.take 1,∀y∈a.toList,κ.kle (ky κ x) (ky κ y))(hi:1<=i)(ia:i<=a.size)(hj:2<=j)(jb:j<=b.size)(eyb:b[j-1]?=UE yb)(dyb:b.toList.take j=b.toList.take (j-1)++[yb])(M:Mh κ a.toList b.toList o.reverse.toList i j)(le:∀z∈a.toList.take i,κ.kle (ky κ z) (ky κ yb))(q1:∀r c,Gd κ a b r->Q (.done (UE r,c)) st)
  (q2:∀o' j' k2,Mh κ a.toList b.toList (Array.reverse o').toList (i-1) j'->1<=i-1->2<=j'->j'+1<=j->Q (.done (UG,i-1,j',o',mg,k,k2)) st/\Q (.yield (UG,i-1,j',o',mg,k,k2)) st):wpS (Oh prog w) A E s (hi1 a b o i j mg k bc) Q st:=by
 have M2:=M.qB (show 1<=j by lia) dyb le
 obtain⟨xa,exa,kxa,dxa⟩:=CN ka hi ia
 unfold hi1
 refine Oa (bf eyb ?_)
 by_cases e3:(j-1==1)=true
 ·rw[if_pos e3]
  exact Ob (q1 _ _ (M2.dF hf (by simpa using e3)))
 rw[if_neg e3]
 have e3:¬ j-1=1:=by simpa using e3
 refine Oa (bf exa (Oa (Gm hO hk kb sb M2 (by lia) (by lia) dxa kxa λu hk2 M3 le3=>?_)))
 dsimp only
 by_cases k20:j-1-u>0
 ·rw[if_pos k20]
  by_cases e4:(u==1)=true
  ·rw[if_pos e4]
   exact Ob (q1 _ _ (M3.dF hf (by simpa using e4)))
  rw[if_neg e4]
  have e4:¬ u=1:=by simpa using e4
  by_cases e5:(u==0)=true
  ·rw[if_pos e5]
   exact Ob (q1 _ _ (M3.dE (.inr (by simpa using e5))))
  rw[if_neg e5]
  have e5:¬ u=0:=by simpa using e5
  have M4:=M3.qA hi dxa le3
  exact F1 exa M4 q1 λz=>q2 _ _ _ M4 z (by lia) (by lia)
 ·rw[if_neg k20]
  have uz:u=j-1:=by lia
  rw[uz]at le3
  have M4:=M2.qA hi dxa le3
  exact F1 exa M4 q1 λz=>q2 _ _ _ M4 z (by lia) (by lia)
theorem JZ(hO:KLt prog w A s κ kin){st:Ov}{a b o:Array Og}{i j mg ac bc:Nat}{Q:ForInStep MHt->Ov->Prop}(hk:kindOf st=kin)(ka:KeysOf κ a)(kb:KeysOf κ b)(sa:Srt κ a.toList)(sb:Srt κ b.toList)(hf:∀x∈b.toList.take 1,∀y∈a.toList,κ.kle (ky κ x) (ky κ y))(hi:1<=i)(ia:i<=a.size)(hj:2<=j)(jb:j<=b.size)(M:Mh κ a.toList b.toList o.reverse.toList i j)(q1:∀r c,Gd κ a b r->Q (.done (UE r,c)) st)
  (q2:∀o' i' j' k k2,Mh κ a.toList b.toList (Array.reverse o').toList i' j'->1<=i'->i'<=a.size->2<=j'->j'<=b.size->i'+j'+2<=i+j->Q (.done (UG,i',j',o',mg,k,k2)) st/\Q (.yield (UG,i',j',o',mg,k,k2)) st):wpS (Oh prog w) A E s (hi0 a b o i j mg ac bc) Q st:=by
 obtain⟨yb,eyb,kyb,dyb⟩:=CN kb (show 1<=j by lia) jb
 unfold hi0
 refine Oa (bf eyb (Oa (Hx (o:=o) hO hk ka sa M hi ia dyb kyb λt hk1 M1 le1=>?_)))
 dsimp only
 by_cases k0:i-t>0
 ·rw[if_pos k0]
  by_cases e1:(t==0)=true
  ·rw[if_pos e1]
   exact Ob (q1 _ _ (M1.dE (.inl (by simpa using e1))))
  rw[if_neg e1]
  have e1:¬ t=0:=by simpa using e1
  exact F9 hO hk ka kb sb hf (by lia) (by lia) hj jb eyb dyb M1 le1 q1 λo' j' k2 M' h1 h2 h3=>q2 _ _ _ _ _ M' h1 (by lia) h2 (by lia) (by lia)
 ·rw[if_neg k0]
  have tz:t=i:=by lia
  rw[tz]at le1
  exact F9 hO hk ka kb sb hf hi ia hj jb eyb dyb M le1 q1 λo' j' k2 M' h1 h2 h3=>q2 _ _ _ _ _ M' h1 (by lia) h2 (by lia) (by lia)
theorem Ff(hO:KLt prog w A s κ kin){st:Ov}{a b:Array Og}{Q:Array Og->Ov->Prop}(hk:kindOf st=kin)(ka:KeysOf κ a)(kb:KeysOf κ b)(sa:Srt κ a.toList)(sb:Srt κ b.toList)(a1:1<=a.size)(b1:1<=b.size)(hf:∀x∈b.toList.take 1,∀y∈a.toList,κ.kle (ky κ x) (ky κ y))(hl:∀x∈b.toList,∀y∈a.toList.drop (a.size-1),κ.kle (ky κ x) (ky κ y))
  (h:∀r g,Gd κ a b r->Q r (sGr st g)):wpS (Oh prog w) A E s (mhi a b) Q st:=by
 obtain⟨x0,ex0,kx0,tx0⟩:=CN ka a1 (Ln _)
 have M0:Mh κ a.toList b.toList (#[x0]:Array Og).reverse.toList (a.size-1) b.size:=by
  have ta:a.toList.take a.size=a.toList:=Mb (by rw[LI];exact Ln _)
  have tb:b.toList.take b.size=b.toList:=Mb (by rw[LI];exact Ln _)
  have M:Mh κ a.toList b.toList (#[]:Array Og).reverse.toList a.size b.size:={by rw[RC (by rw[LI];exact Ln _),RC (by rw[LI];exact Ln _)];simp,by rw[ta];simpa using sa,by rw[tb];simpa using sb,by rw[LI];exact Ln _,by rw[LI];exact Ln _}
  refine M.qA a1 tx0 λz hz=>hl z (Mn hz) x0 ?_
  obtain⟨x1,ex1,_,_,dx1,_⟩:=j2 ka (show a.size-1<a.size by lia)
  rw[ex0]at ex1
  cases ex1
  rw[dx1]
  exact LB
 refine Oa (Q6 (P7 {rfl,?_}))
 dsimp only
 refine Oa (bf ex0 ?_)
 by_cases c1:(a.size-1==0)=true
 ·rw[if_pos c1]
  exact Ob (h _ (RV st) (M0.dE (.inl (by simpa using c1))))
 rw[if_neg c1]
 by_cases c2:(b.size==1)=true
 ·rw[if_pos c2]
  exact Ob (h _ (RV st) (M0.dF hf (by simpa using c2)))
 rw[if_neg c2]
 have c1:¬ a.size-1=0:=by simpa using c1
 have c2:¬ b.size=1:=by simpa using c2
 refine Oa (Ql ?_)
 refine Oa (OX (OO (I:=λx c st'=>∃o i j mg g,c=(UG,i,j,o,mg)/\st'=sGr st g/\Mh κ a.toList b.toList o.reverse.toList i j/\1<=i/\i<=a.size/\2<=j/\j<=b.size/\x+1+i+j<=a.size+b.size)
  (Q:=λc st'=>∃r g,c.1=UE r/\st'=sGr st g/\Gd κ a b r) ?s1 ?f1 {_,_,_,_,RV st,rfl,rfl,M0,by lia,by lia,by lia,Ln _,by lia}) ?p1)
 case f1=>
  rintro c st' ⟨o,i,j,mg,g,rfl,rfl,M,hi,ia,hj,jb,hx⟩
  lia
 case p1=>
  rintro⟨c,cc⟩ st' ⟨r,g,e,rfl,hg⟩
  cases e
  exact Ob (h r g hg)
 case s1=>
  rintro x c st' _ hx ⟨o,i,j,mg,g,rfl,rfl,M,hi,ia,hj,jb,hx'⟩
  dsimp only
  refine Oa (OX (OO (I:=λy c st'=>∃o i j ac bc,c=(UG,i,j,o,ac,bc)/\st'=sGr st g/\Mh κ a.toList b.toList o.reverse.toList i j/\1<=i/\i<=a.size/\2<=j/\j<=b.size/\x+1+min y 1+i+j<=a.size+b.size)
   (Q:=λc st'=>st'=sGr st g/\((∃r,c.1=UE r/\Gd κ a b r)\/∃o i j ac bc,c=(UG,i,j,o,ac,bc)/\Mh κ a.toList b.toList o.reverse.toList i j/\1<=i/\i<=a.size/\2<=j/\j<=b.size/\x+2+i+j<=a.size+b.size)) ?s2 ?f2 ⟨o,i,j,0,0,rfl,rfl,M,hi,ia,hj,jb,by lia⟩) ?p2)
  case f2=>
   rintro c st' ⟨o,i,j,ac,bc,rfl,rfl,M,hi,ia,hj,jb,hx⟩
   exact{rfl,.inr ⟨o,i,j,ac,bc,rfl,M,hi,ia,hj,jb,by lia⟩}
  case s2=>
   rintro y c st' _ hy ⟨o,i,j,ac,bc,rfl,rfl,M,hi,ia,hj,jb,hx⟩
   obtain⟨yb,eyb,kyb,dyb⟩:=CN kb (show 1<=j by lia) jb
   obtain⟨xa,exa,kxa,dxa⟩:=CN ka hi ia
   dsimp only
   refine Oa (bf eyb ?_)
   refine Oa (bf exa ?_)
   refine Oa (sJ hO hk kyb kxa ?_)
   dsimp only
   cases z:κ.blt (ky κ yb) (ky κ xa)with
   |true=>
    rw[if_pos rfl]
    have M':=M.qA hi dxa (F7 M.sb.left dyb (OF z))
    refine Oa (bf exa ?_)
    by_cases e1:(i-1==0)=true
    ·rw[if_pos e1]
     exact Ob {rfl,.inl {_,rfl,M'.dE (.inl (by simpa using e1))}}
    ·rw[if_neg e1]
     have e1:¬ i-1=0:=by simpa using e1
     split
     ·exact Ob {rfl,.inr {_,_,_,_,_,rfl,M',by lia,by lia,hj,jb,by lia}}
     ·exact Ob {_,_,_,_,_,rfl,rfl,M',by lia,by lia,hj,jb,by lia}
   |false=>
    rw[if_neg Lv]
    have M':=M.qB (by lia) dyb (F7 M.sa.left dxa (show κ.kle _ _ from z))
    refine Oa (bf eyb ?_)
    by_cases e1:(j-1==1)=true
    ·rw[if_pos e1]
     exact Ob {rfl,.inl {_,rfl,M'.dF hf (by simpa using e1)}}
    ·rw[if_neg e1]
     have e1:¬ j-1=1:=by simpa using e1
     split
     ·exact Ob {rfl,.inr {_,_,_,_,_,rfl,M',hi,ia,by lia,by lia,by lia}}
     ·exact Ob {_,_,_,_,_,rfl,rfl,M',hi,ia,by lia,by lia,by lia}
  case p2=>
   rintro c st' ⟨rfl,⟨r,e,hg⟩|⟨o,i,j,ac,bc,rfl,M,hi,ia,hj,jb,hx⟩⟩
   ·obtain⟨c,cc⟩:=c
    cases e
    exact Ob ⟨r,g,rfl,rfl,hg⟩
   ·dsimp only
    refine Oa (Q6 (P7 {rfl,?_}))
    refine Oa (OX (OO (I:=λy c st'=>∃o i j mg ac bc g,c=(UG,i,j,o,mg,ac,bc)/\st'=sGr st g/\Mh κ a.toList b.toList o.reverse.toList i j/\1<=i/\i<=a.size/\2<=j/\j<=b.size/\x+2+i+j<=a.size+b.size)
     (Q:=λc st'=>∃g,st'=sGr st g/\((∃r,c.1=UE r/\Gd κ a b r)\/∃o i j mg ac bc,c=(UG,i,j,o,mg,ac,bc)/\Mh κ a.toList b.toList o.reverse.toList i j/\1<=i/\i<=a.size/\2<=j/\j<=b.size/\x+2+i+j<=a.size+b.size)) ?s3 ?f3 {o,i,j,_,ac,bc,g,rfl,rfl,M,hi,ia,hj,jb,hx}) ?p3)
    case f3=>
     rintro c st' ⟨o,i,j,mg,ac,bc,g,rfl,rfl,M,hi,ia,hj,jb,hx⟩
     exact{g,rfl,.inr ⟨o,i,j,mg,ac,bc,rfl,M,hi,ia,hj,jb,hx⟩}
    case p3=>
     rintro c st' ⟨g,rfl,⟨r,e,hg⟩|⟨o,i,j,mg,ac,bc,rfl,M,hi,ia,hj,jb,hx⟩⟩
     ·obtain⟨c,cc⟩:=c
      cases e
      exact Ob ⟨r,g,rfl,rfl,hg⟩
     ·dsimp only
      exact Oa (ON (Ob {o,i,j,_,_,rfl,rfl,M,hi,ia,hj,jb,by lia}))
    case s3=>
     clear M hi hj hx ia jb
     rintro y c st' _ hy ⟨o,i,j,mg,ac,bc,g,rfl,rfl,M,hi,ia,hj,jb,hx⟩
     dsimp only
     rcases NT 1 mg with mc|mc
     all_goals
      first|rw[if_pos (show mg>1 from mc)]|rw[if_neg (show ¬ mg>1 from N4.mpr mc)]
      refine Oa (ON ?_)
      exact JZ hO hk ka kb sa sb hf hi ia hj jb M (λr c g=>{_,rfl,.inl {_,rfl,g}}) λo' i' j' k k2 M' h1 h2 h3 h4 h5=>{{_,rfl,.inr {_,_,_,_,_,_,rfl,M',h1,h2,h3,h4,by lia}},{_,_,_,_,_,_,_,rfl,rfl,M',h1,h2,h3,h4,by lia}}
end
end L2
namespace L2
open PySem PyProof.Rows
section
variable{prog:Program}{w:Of}{A:Ou}{E:E9->N7->Prop}{s:N7}{κ:KeyKind}{kin:Pg}
noncomputable def zW(xs:Array Og)(i:Nat)(m:List (Og×Nat)):Array Og:=m.foldl (λa p=>a.setIfInBounds (i+p.2) p.1) xs
theorem Ao(i:Nat):∀(m:List Og)(k:Nat)(xs:Array Og),i+k+m.length<=xs.size->(zW xs i (m.zipIdx k)).toList=xs.toList.take (i+k)++m++xs.toList.drop (i+k+m.length)
 | [],k,xs,h=>by
  show xs.toList=_
  simp
 |x::m,k,xs,h=>by
  rw[Lq]at h
  rw[Tx]
  show(zW (xs.setIfInBounds (i+k) x) i (m.zipIdx (k+1))).toList=_
  rw[Ao i m (k+1) _ (by rw[Array.size_setIfInBounds];lia),Q7]
  have hl:i+k<xs.toList.length:=by rw[LI];lia
  have e1:(xs.toList.set (i+k) x).take (i+(k+1))=xs.toList.take (i+k)++[x]:=by
   rw[show i+(k+1)=i+k+1 by lia,Ms,List.take_set_of_le (Ln _),Nm hl]
   rfl
  have e2:(xs.toList.set (i+k) x).drop (i+(k+1)+m.length)=xs.toList.drop (i+k+(m.length+1)):=by
   rw[List.drop_set_of_lt (by lia)]
   congr 1
   lia
  rw[e1,e2,Lq]
  simp
theorem D6{σ:Type}{M:Model}{Q:PUnit->σ->Prop}{st st':σ}(h:Q ⟨⟩ st'):wpS M A E s (set st':StateT σ Sem PUnit) Q st:=by
 unfold wpS
 rw[StateT.run_set]
 exact N9 ⟨rfl,h⟩
def Seg(κ:KeyKind)(xs:Array Og)(i n:Nat):Prop:=∀p q,i<=p->p<=q->q<i+n->κ.kle (KK κ xs p) (KK κ xs q)
theorem JR{xs:Array Og}{i:Nat}{x:Og}(h:xs.toList[i]?=UE x):KK κ xs i=ky κ x:=by
 rw[L5]at h
 unfold KK ky
 rw[h]
theorem nz{xs:Array Og}{i n:Nat}(h:Seg κ xs i n)(hl:i+n<=xs.size):Srt κ ((xs.toList.drop i).take n):=by
 refine MT.mpr λp q hp hq hpq=>?_
 rw[LV,Mc,LI]at hp hq
 have g:∀r (hr:r<((xs.toList.drop i).take n).length),KK κ xs (i+r)=ky κ (((xs.toList.drop i).take n)[r]):=λr hr=>by
  refine JR ?_
  rw[<-ML,<-Lw hr,Mt (by rw[LV,Mc,LI]at hr;lia)]
 rw[<-g p,<-g q]
 exact h _ _ (by lia) (by lia) (by lia)
theorem FN{xs:Array Og}{P M S:List Og}{i n:Nat}(e:xs.toList=P++M++S)(hi:P.length=i)(hn:M.length=n)(h:Srt κ M):Seg κ xs i n:=by
 intro p q hp hpq hq
 have g:∀r,r<n->∃x,M[r]?=UE x/\KK κ xs (i+r)=ky κ x:=λr hr=>by
  refine{M[r]'(by lia),Lw (by lia),JR ?_}
  rw[e,Lz,L7 (by lia),Me (by lia),show i+r-P.length=r by lia]
  exact Lw (by lia)
 obtain⟨x,hx,kx⟩:=g (p-i) (by lia)
 obtain⟨y,hy,kyy⟩:=g (q-i) (by lia)
 rw[show i+(p-i)=p by lia]at kx
 rw[show i+(q-i)=q by lia]at kyy
 rw[kx,kyy]
 rcases NT p q with hlt|hge
 ·obtain⟨l1,g1⟩:=LJ.mp hx
  obtain⟨l2,g2⟩:=LJ.mp hy
  rw[<-g1,<-g2]
  exact MT.mp h (p-i) (q-i) l1 l2 (by lia)
 ·have:p=q:=by lia
  subst this
  rw[hx]at hy
  cases hy
  exact OI _
theorem Fm{A1 A2 B1 B2 m:List Og}(sA:Srt κ (A1++A2))(sB:Srt κ (B1++B2))(pm:m.Perm (A2++B1))(sm:Srt κ m)(fA:∀x∈A1,∀y∈B1++B2,κ.kle (ky κ x) (ky κ y))(fB:∀x∈A2,∀y∈B2,κ.kle (ky κ x) (ky κ y)):Srt κ (A1++m++B2)/\(A1++m++B2).Perm (A1++A2++(B1++B2)):=by
 constructor
 ·rw[Lz]
  refine Srt.app sA.left (Srt.app sm sB.right λx hx y hy=>?_) λx hx y hy=>?_
  ·rcases Ls.mp (pm.mem_iff.mp hx)with hx|hx
   ·exact fB x hx y hy
   ·exact sB.le x hx y hy
  ·rcases Ls.mp hy with hy|hy
   ·rcases Ls.mp (pm.mem_iff.mp hy)with hy|hy
    ·exact sA.le x hx y hy
    ·exact fA x hx y (LP _ hy)
   ·exact fA x hx y (LD _ hy)
 ·have e:A1++A2++(B1++B2)=A1++(A2++B1)++B2:=by simp
  rw[e]
  exact O8 _ (OG _ pm)
theorem wk{xs:Array Og}{i j p:Nat}(h:p<j-i)(hj:j<=xs.size):KK κ (xs.extract i j) p=KK κ xs (i+p):=by
 refine KK_congr ?_
 rw[Array.getElem?_extract,if_pos (by lia)]
theorem wM{xs:Array Og}(hk:KeysOf κ xs)(i j:Nat):KeysOf κ (xs.extract i j):=λp hp=>by
 rw[nH]at hp
 exact hk p (MR (Mn hp))
end
end L2
namespace L2
open PySem PyProof.Rows
section
variable{prog:Program}{w:Of}{A:Ou}{E:E9->N7->Prop}{s:N7}{κ:KeyKind}{kin:Pg}
theorem Ea(hO:KLt prog w A s κ kin){st:Ov}{i sa na pw nb pw2:Nat}{Q:Bool->Ov->Prop}(hk:kindOf st=kin)(hf:P8 st=UG)(kx:KeysOf κ (N8 st))(h1:(Ol st)[i]?=UE (sa,na,pw))(h2:(Ol st)[i+1]?=UE (sa+na,nb,pw2))(a1:1<=na)(b1:1<=nb)(hsz:sa+na+nb<=(N8 st).size)(gA:Seg κ (N8 st) sa na)(gB:Seg κ (N8 st) (sa+na) nb)
  (h:∀st' M,kindOf st'=kin->P8 st'=UG->Ol st'=((Ol st).setIfInBounds i (sa,na+nb,pw)).eraseIdxIfInBounds (i+1)->(N8 st').toList=(N8 st).toList.take sa++M++(N8 st).toList.drop (sa+na+nb)->Srt κ M->M.Perm (((N8 st).toList.drop sa).take (na+nb))->Q true st'):wpS (Oh prog w) A E s (mergeAt' i) Q st:=by
 refine Oa (Ql ?_)
 dsimp only
 rw[h1,h2]
 dsimp only
 refine Oa (D6 ?_)
 have lsz:(N8 st).toList.length=(N8 st).size:=LI
 have fin:∀(k u:Nat)(m:List Og)(st':Ov),k<=na->u<=nb->kindOf st'=kin->P8 st'=UG->Ol st'=((Ol st).setIfInBounds i (sa,na+nb,pw)).eraseIdxIfInBounds (i+1)->(N8 st').toList=(N8 st).toList.take (sa+k)++m++(N8 st).toList.drop (sa+na+u)->m.Perm (((N8 st).toList.drop (sa+k)).take (na-k)++((N8 st).toList.drop (sa+na)).take u)->Srt κ m->
   (∀x∈((N8 st).toList.drop sa).take k,∀y∈((N8 st).toList.drop (sa+na)).take nb,κ.kle (ky κ x) (ky κ y))->(∀x∈((N8 st).toList.drop (sa+k)).take (na-k),∀y∈((N8 st).toList.drop (sa+na+u)).take (nb-u),κ.kle (ky κ x) (ky κ y))->Q true st':=by
  intro k u m st' hk1 hu1 g1 g2 g3 g4 pm sm fA fB
  have sA:=nz gA (by lia)
  have sB:=nz gB (by lia)
  have eA:((N8 st).toList.drop sa).take na=((N8 st).toList.drop sa).take k++((N8 st).toList.drop (sa+k)).take (na-k):=by
   have:=gI (l:=(N8 st).toList.drop sa) hk1
   rwa [M9]at this
  have eB:((N8 st).toList.drop (sa+na)).take nb=((N8 st).toList.drop (sa+na)).take u++((N8 st).toList.drop (sa+na+u)).take (nb-u):=by
   have:=gI (l:=(N8 st).toList.drop (sa+na)) hu1
   rwa [M9]at this
  have eAB:((N8 st).toList.drop sa).take (na+nb)=((N8 st).toList.drop sa).take na++((N8 st).toList.drop (sa+na)).take nb:=by
   have:=gI (l:=(N8 st).toList.drop sa) (show na<=na+nb by lia)
   rwa [M9,Mm]at this
  rw[eA]at sA
  rw[eB]at sB fA
  obtain⟨r1,r2⟩:=Fm sA sB pm sm fA fB
  refine h st' _ g1 g2 g3 ?_ r1 ?_
  ·have e3:=rK (l:=(N8 st).toList) (show sa+na+u<=sa+na+nb by lia)
   rw[show sa+na+nb-(sa+na+u)=nb-u by lia]at e3
   rw[g4,Nq]
   conv=>lhs;rw[e3]
   simp
  ·rw[eAB,eA,eB]
   exact r2
 obtain⟨y0,ey0,ky0,kk0,dy0,_⟩:=j2 kx (show sa+na<(N8 st).size by lia)
 refine Oa (bf ey0 ?_)
 refine Oa (lO hO hk (λm hm=>?_) ky0 (by lia) (λm n hmn hn e=>?_) (λk hk1 g1 g2=>?_))
 ·obtain⟨x,e,kx,_⟩:=j2 kx (show sa+m<(N8 st).size by lia)
  exact{x,_,e,kx}
 ·unfold byd at e⊢
  rw[if_neg Lv]at e⊢
  have e:κ.kle (KK κ (N8 st) (sa+n)) (ky κ y0):=by simpa [P9] using e
  have:=OD (gA (sa+m) (sa+n) (by lia) (by lia) (by lia)) e
  simpa [P9] using this
 dsimp only
 have le1:∀x∈((N8 st).toList.drop sa).take k,∀y∈((N8 st).toList.drop (sa+na)).take nb,κ.kle (ky κ x) (ky κ y):=λx hx y hy=>by
  obtain⟨m,m1,m2,m3⟩:=i6 kx hx
  obtain⟨n,n1,n2,n3⟩:=i6 kx hy
  have e:=g1 m m1
  unfold byd at e
  rw[if_neg Lv,m3]at e
  have e:κ.kle (ky κ x) (ky κ y0):=by simpa [P9] using e
  refine OD e ?_
  rw[<-kk0,<-n3]
  exact gB _ _ (by lia) (by lia) (by lia)
 have lt1:∀m,k<=m->m<na->κ.klt (ky κ y0) (KK κ (N8 st) (sa+m)):=λm m1 m2=>by
  have e:=g2 m m1 m2
  unfold byd at e
  rw[if_neg Lv]at e
  simpa [Um] using e
 by_cases c1:(na-k==0)=true
 ·rw[if_pos c1]
  have c1:na-k=0:=by simpa using c1
  refine Ob (fin k 0 [] _ hk1 (LH _) hk hf rfl ?_ (by rw[c1];simp) Rh le1 (λx hx=>by rw[c1,Nz]at hx;cases hx))
  rw[LQ,show sa+k=sa+na by lia]
  exact(LO (sa+na) _).symm
 rw[if_neg c1]
 have c1:¬ na-k=0:=by simpa using c1
 obtain⟨x1,ex1,kx1,kkx1,_,_⟩:=j2 kx (show sa+k+(na-k)-1<(N8 st).size by lia)
 refine Oa (bf ex1 ?_)
 refine Oa (lO hO hk (λm hm=>?_) kx1 (by lia) (λm n hmn hn e=>?_) (λu hu1 f1 f2=>?_))
 ·obtain⟨x,e,kx,_⟩:=j2 kx (show sa+na+m<(N8 st).size by lia)
  exact{x,_,e,kx}
 ·unfold byd at e⊢
  rw[if_pos rfl]at e⊢
  exact Qj (gB (sa+na+m) (sa+na+n) (by lia) (by lia) (by lia)) e
 dsimp only
 have fB:∀x∈((N8 st).toList.drop (sa+k)).take (na-k),∀y∈((N8 st).toList.drop (sa+na+u)).take (nb-u),κ.kle (ky κ x) (ky κ y):=λx hx y hy=>by
  obtain⟨m,m1,m2,m3⟩:=i6 kx hx
  obtain⟨n,n1,n2,n3⟩:=i6 kx hy
  have e:=f2 (u+n) (by lia) (by lia)
  unfold byd at e
  rw[if_pos rfl,<-MO,n3]at e
  refine OD ?_ (show κ.kle (ky κ x1) (ky κ y)from e)
  rw[<-m3,<-kkx1]
  exact gA _ _ (by lia) (by lia) (by lia)
 by_cases c2:(u==0)=true
 ·rw[if_pos c2]
  have c2:u=0:=by simpa using c2
  subst c2
  refine Ob (fin k 0 (((N8 st).toList.drop (sa+k)).take (na-k)) _ hk1 (LH _) hk hf rfl ?_ (by simp) (nz (λp q h1 h2 h3=>gA p q (by lia) h2 (by lia)) (by lia)) le1 fB)
  have e:=gI (l:=(N8 st).toList) (show sa+k<=sa+na by lia)
  rw[show sa+na-(sa+k)=na-k by lia]at e
  rw[<-e]
  exact(LO (sa+na) _).symm
 rw[if_neg c2]
 have c2:¬ u=0:=by simpa using c2
 have ea:((N8 st).extract (sa+k) (sa+na)).toList=((N8 st).toList.drop (sa+k)).take (na-k):=by rw[nH,show sa+na-(sa+k)=na-k by lia]
 have eb:((N8 st).extract (sa+na) (sa+na+u)).toList=((N8 st).toList.drop (sa+na)).take u:=by rw[nH,Mm]
 have za:((N8 st).extract (sa+k) (sa+na)).size=na-k:=by rw[SR];lia
 have zb:((N8 st).extract (sa+na) (sa+na+u)).size=u:=by rw[SR];lia
 have sA2:Srt κ ((N8 st).extract (sa+k) (sa+na)).toList:=by
  rw[ea]
  exact nz (λp q h1 h2 h3=>gA p q (by lia) h2 (by lia)) (by lia)
 have sB1:Srt κ ((N8 st).extract (sa+na) (sa+na+u)).toList:=by
  rw[eb]
  exact nz (λp q h1 h2 h3=>gB p q (by lia) h2 (by lia)) (by lia)
 have kA:=wM kx (sa+k) (sa+na)
 have kB:=wM kx (sa+na) (sa+na+u)
 have hl:∀x∈((N8 st).extract (sa+na) (sa+na+u)).toList,∀y∈((N8 st).extract (sa+k) (sa+na)).toList.drop (((N8 st).extract (sa+k) (sa+na)).size-1),κ.kle (ky κ x) (ky κ y):=λx hx y hy=>by
  rw[eb]at hx
  obtain⟨m,m1,m2,m3⟩:=i6 kx hx
  obtain⟨n,n1,n2,n3⟩:=yQ kA hy
  rw[za]at n1 n2
  have e:=f1 m m1
  unfold byd at e
  rw[if_pos rfl,m3]at e
  rw[wk (by lia) (by lia),show sa+k+n=sa+k+(na-k)-1 by lia,kkx1]at n3
  rw[<-n3]
  exact OF e
 have hfst:∀x∈((N8 st).extract (sa+na) (sa+na+u)).toList.take 1,∀y∈((N8 st).extract (sa+k) (sa+na)).toList,κ.kle (ky κ x) (ky κ y):=λx hx y hy=>by
  obtain⟨m,m1,m2,m3⟩:=vg (κ:=κ) hx
  rw[ea]at hy
  obtain⟨n,n1,n2,n3⟩:=i6 kx hy
  rw[wk (by lia) (by lia),show sa+na+m=sa+na by lia,kk0]at m3
  rw[<-m3,<-n3,MO]
  exact OF (lt1 (k+n) (by lia) (by lia))
 have h0:κ.kle (KK κ ((N8 st).extract (sa+na) (sa+na+u)) 0) (KK κ ((N8 st).extract (sa+k) (sa+na)) 0):=by
  rw[wk (by lia) (by lia),wk (by lia) (by lia),Nat.add_zero,Nat.add_zero,kk0]
  exact OF (lt1 k (Ln _) (by lia))
 have out:∀(r:Array Og)(g:Nat),Gd κ ((N8 st).extract (sa+k) (sa+na)) ((N8 st).extract (sa+na) (sa+na+u)) r->Q true (SQ (kindOf st) (zW (N8 st) (sa+k) r.toList.zipIdx) (((Ol st).setIfInBounds i (sa,na+nb,pw)).eraseIdxIfInBounds (i+1)) g (P8 st)):=by
  intro r g ⟨p1,p2⟩
  rw[ea,eb]at p1
  have rl:r.toList.length=na-k+u:=by
   rw[p1.length_eq,Ll,LV,LV,Mc,Mc,lsz]
   lia
  refine fin k u r.toList _ hk1 hu1 hk hf rfl ?_ p1 p2 le1 fB
  show(zW (N8 st) (sa+k) r.toList.zipIdx).toList=_
  rw[Ao (sa+k) r.toList 0 (N8 st) (by rw[rl];lia),rl,show sa+k+0+(na-k+u)=sa+na+u by lia]
  rfl
 by_cases c3:na-k<=u
 ·rw[if_pos c3]
  refine Oa (EV hO hk kA kB sA2 sB1 (by rw[za];lia) (by rw[zb];lia) h0 hl λr g hg=>?_)
  refine Oa (ON ?_)
  refine Oa (Ql (Ob ?_))
  have:=out r g hg
  rw[show(P8 st).isNone=true by rw[hf];rfl]
  exact this
 ·rw[if_neg c3]
  refine Oa (Ff hO hk kA kB sA2 sB1 (by rw[za];lia) (by rw[zb];lia) hfst hl λr g hg=>?_)
  refine Oa (ON ?_)
  refine Oa (Ql (Ob ?_))
  have:=out r g hg
  rw[show(P8 st).isNone=true by rw[hf];rfl]
  exact this
end
end L2
namespace L2
open PySem PyProof.Rows
section
variable{prog:Program}{w:Of}{A:Ou}{E:E9->N7->Prop}{s:N7}{κ:KeyKind}{kin:Pg}
structure Chg(st0 st:Ov)(lo:Nat):Prop where
 kd:kindOf st=kindOf st0
 fl:P8 st=UG
 pd:Ol st=Ol st0
 pm:(N8 st).Perm (N8 st0)
 fr:∀p,p<lo->(N8 st)[p]?=(N8 st0)[p]?
theorem Chg.sz{st0 st:Ov}{lo:Nat}(C:Chg st0 st lo):(N8 st).size=(N8 st0).size:=C.pm.size_eq
theorem vf{xs ys:Array Og}(h:KeysOf κ ys)(p:xs.Perm ys):KeysOf κ xs:=λq hq=>h q ((Nf.mp p).mem_iff.mp hq)
theorem Chg.set{st0 st:Ov}{lo:Nat}(C:Chg st0 st lo){xs:Array Og}(p:xs.Perm (N8 st))(f:∀q,q<lo->xs[q]?=(N8 st)[q]?):Chg st0 (SS st xs) lo:={C.kd,C.fl,C.pd,p.trans C.pm,λq hq=>(f q hq).trans (C.fr q hq)}
theorem sD{st0 st:Ov}(hO:KLt prog w A s κ (kindOf st0)){lo i j:Nat}{Q:Option Bool->Ov->Prop}(C:Chg st0 st lo)(k0:KeysOf κ (N8 st0))(hi:i<(N8 st0).size)(hj:j<(N8 st0).size)(h:Q (UE (κ.blt (KK κ (N8 st) i) (KK κ (N8 st) j))) st):wpS (Oh prog w) A E s (ltAt' i j) Q st:=by
 have kx:=vf k0 C.pm
 obtain⟨x,ex,kx1,kkx,_⟩:=j2 kx (show i<(N8 st).size by rw[C.sz];exact hi)
 obtain⟨y,ey,ky1,kky,_⟩:=j2 kx (show j<(N8 st).size by rw[C.sz];exact hj)
 rw[kkx,kky]at h
 rw[ltAt'_eq]
 refine Oa (Ql ?_)
 show wpS _ _ _ _ (do let x<-RU (N8 st) i;let y<-RU (N8 st) j;lt' x y) Q st
 exact Oa (bf ex (Oa (bf ey (sJ hO C.kd kx1 ky1 h))))
theorem Ep{st0 st:Ov}(hO:KLt prog w A s κ (kindOf st0)){lo n ok:Nat}{Q:Bool->Ov->Prop}(k0:KeysOf κ (N8 st0))(hn:lo+n<=(N8 st0).size)(hok:ok<=n)(C:Chg st0 st lo)(hs:Seg κ (N8 st) lo ok)
  (h:∀st',Chg st0 st' lo->Seg κ (N8 st') lo n->Q true st'):wpS (Oh prog w) A E s (binarySort' lo n ok) Q st:=by
 refine Oa (OX (OO (I:=λk c st'=>c=(UG,())/\Chg st0 st' lo/\Seg κ (N8 st') lo (min k n)) (Q:=λc st'=>c=(UG,())/\Chg st0 st' lo/\Seg κ (N8 st') lo n) ?s1 ?f1 {rfl,C,?i1}) ?p1)
 case p1=>
  rintro c st' ⟨rfl,C',g⟩
  exact Ob (h st' C' g)
 case i1=>
  intro p q hp hpq hq
  by_cases z:ok=0
  ·have:p=q:=by lia
   rw[this]
   exact OI _
  ·exact hs p q hp hpq (by lia)
 case f1=>
  rintro c st' ⟨hc,C',g⟩
  rw[show min (max (max ok 1) n) n=n by lia]at g
  exact⟨hc,C',g⟩
 case s1=>
  rintro k c st1 hak hkn ⟨rfl,C1,g⟩
  rw[show min k n=k by lia]at g
  refine Oa (OX (OO (I:=λx c st2=>st2=st1/\∃l r,c=(UG,l,r)/\l<=r/\r<=k/\r-l<=k-x/\(∀p,p<l->κ.kle (KK κ (N8 st1) (lo+p)) (KK κ (N8 st1) (lo+k)))/\(∀p,r<=p->p<k->κ.kle (KK κ (N8 st1) (lo+k)) (KK κ (N8 st1) (lo+p))))
   (Q:=λc st2=>st2=st1/\∃l,c=(UG,l,l)/\l<=k/\(∀p,p<l->κ.kle (KK κ (N8 st1) (lo+p)) (KK κ (N8 st1) (lo+k)))/\(∀p,l<=p->p<k->κ.kle (KK κ (N8 st1) (lo+k)) (KK κ (N8 st1) (lo+p)))) ?s2 ?f2 {rfl,0,k,rfl,LH _,Ln _,by lia,λp hp=>absurd hp (Nat.not_lt_zero _),λp h1 h2=>by lia}) ?p2)
  case f2=>
   rintro c st2 ⟨rfl,l,r,rfl,h1,h2,h3,h4,h5⟩
   have:l=r:=by lia
   subst this
   exact⟨rfl,l,rfl,h2,h4,h5⟩
  case s2=>
   rintro x c st2 _ hx ⟨rfl,l,r,rfl,h1,h2,h3,h4,h5⟩
   dsimp only
   by_cases z:l ≥ r
   ·rw[if_pos z]
    have:l=r:=by lia
    subst this
    exact Ob ⟨rfl,l,rfl,h2,h4,h5⟩
   ·rw[if_neg z]
    refine Oa (sD hO C1 k0 (show lo+k<_ by lia) (show lo+(l+r)/2<_ by lia) ?_)
    dsimp only
    cases y:κ.blt (KK κ (N8 st2) (lo+k)) (KK κ (N8 st2) (lo+(l+r)/2))with
    |true=>exact Ob {rfl,l,(l+r)/2,rfl,by lia,by lia,by lia,h4,λp p1 p2=>OD (OF y) (g _ _ (by lia) (by lia) (by lia))}
    |false=>exact Ob {rfl,(l+r)/2+1,r,rfl,by lia,by lia,by lia,λp p1=>OD (g _ (lo+(l+r)/2) (by lia) (by lia) (by lia)) y,h5}
  case p2=>
   rintro c st2 ⟨rfl,l,rfl,h2,h4,h5⟩
   have hks:lo+k<(N8 st2).size:=by rw[C1.sz];lia
   refine Oa (ON (Ob {rfl,C1.set (bubble_perm _ _ _) (λq hq=>?_),?_}))
   ·show(bubble (N8 st2) (lo+k) (lo+k-(lo+l)))[q]?=_
    rw[getElem?_bubble hks (lo+k-(lo+l)) (by lia),if_neg (by lia),if_neg (by lia)]
   ·rw[show min (k+1) n=k+1 by lia]
    intro p q hp hpq hq
    show κ.kle (KK κ (bubble (N8 st2) (lo+k) (lo+k-(lo+l))) p) (KK κ (bubble (N8 st2) (lo+k) (lo+k-(lo+l))) q)
    rw[KK_bubble hks (by lia),KK_bubble hks (by lia),show lo+k-(lo+k-(lo+l))=lo+l by lia]
    by_cases a1:p=lo+l
    ·rw[if_pos a1]
     by_cases b1:q=lo+l
     ·rw[if_pos b1]
      exact OI _
     ·rw[if_neg b1,if_pos (by lia)]
      have:=h5 (q-1-lo) (by lia) (by lia)
      rwa [show lo+(q-1-lo)=q-1 by lia]at this
    ·rw[if_neg a1]
     by_cases a2:lo+l<p/\p<=lo+k
     ·rw[if_pos a2,if_neg (show ¬ q=lo+l by lia),if_pos (by lia)]
      exact g _ _ (by lia) (by lia) (by lia)
     ·rw[if_neg a2]
      by_cases b1:q=lo+l
      ·rw[if_pos b1]
       have:=h4 (p-lo) (by lia)
       rwa [show lo+(p-lo)=p by lia]at this
      ·rw[if_neg b1]
       by_cases b2:lo+l<q/\q<=lo+k
       ·rw[if_pos b2]
        exact g _ _ (by lia) (by lia) (by lia)
       ·rw[if_neg b2]
        exact g _ _ (by lia) (by lia) (by lia)
end
end L2
namespace L2
open PySem PyProof.Rows
section
variable{prog:Program}{w:Of}{A:Ou}{E:E9->N7->Prop}{s:N7}{κ:KeyKind}{kin:Pg}
def Dec(κ:KeyKind)(xs:Array Og)(lo n:Nat):Prop:=∀p q,lo<=p->p<=q->q<lo+n->κ.kle (KK κ xs q) (KK κ xs p)
theorem lF{xs:Array Og}{i j lo:Nat}(hj:j<=xs.size)(hi:lo<=i)(q:Nat)(hq:q<lo):(OY xs i j ((j-i)/2))[q]?=xs[q]?:=by
 rw[getElem?_mirror_all hj,if_neg (by lia)]
theorem wF{st:Ov}{lo a nrem:Nat}{f:Nat->Option (Option Nat)×Nat->StateT Ov Sem (ForInStep (Option (Option Nat)×Nat))}(ha:1<=a)(han:a<=nrem)(g:Seg κ (N8 st) lo a)
  (hf:∀(x n:Nat)(R:ForInStep (Option (Option Nat)×Nat)->Ov->Prop),1<=n->n<nrem->(κ.blt (KK κ (N8 st) (lo+n)) (KK κ (N8 st) (lo+n-1))=true->R (.done (UG,n)) st)->(κ.blt (KK κ (N8 st) (lo+n)) (KK κ (N8 st) (lo+n-1))=false->R (.yield (UG,n+1)) st)->wpS (Oh prog w) A E s (f x (UG,n)) R st) :
  wpS (Oh prog w) A E s (forIn [a:nrem] (UG,a) f) (λc st'=>st'=st/\∃m,c=(UG,m)/\a<=m/\m<=nrem/\Seg κ (N8 st) lo m/\(m=nrem\/κ.klt (KK κ (N8 st) (lo+m)) (KK κ (N8 st) (lo+m-1)))) st:=by
 refine OO (I:=λx c st'=>st'=st/\c=(UG,x)/\Seg κ (N8 st) lo x) ?s1 ?f1 ⟨rfl,rfl,g⟩
 case f1=>
  rintro c st' ⟨rfl,rfl,g⟩
  rw[show max a nrem=nrem by lia]at g⊢
  exact{rfl,nrem,rfl,han,Ln _,g,.inl rfl}
 case s1=>
  rintro x c st' hax hx ⟨rfl,rfl,g⟩
  refine hf x x _ (by lia) hx (λz=>?_) (λz=>?_)
  ·exact⟨rfl,x,rfl,hax,by lia,g,.inr z⟩
  ·refine{rfl,rfl,λp q hp hpq hq=>?_}
   by_cases hqx:q<lo+x
   ·exact g p q hp hpq hqx
   ·have e:q=lo+x:=by lia
    subst e
    by_cases hpx:p=lo+x
    ·rw[hpx]
     exact OI _
    ·exact OD (g p (lo+x-1) hp (by lia) (by lia)) z
theorem qg{xs:Array Og}{lo n:Nat}(hj:lo+n<=xs.size)(d:Dec κ xs lo n):Seg κ (OY xs lo (lo+n) ((lo+n-lo)/2)) lo n:=λp q hp hpq hq=>by
 rw[KK_mirror hj,KK_mirror hj,if_pos (by lia),if_pos (by lia)]
 exact d _ _ (by lia) (by lia) (by lia)
theorem BW{st0 st:Ov}{lo n nrem:Nat}{f:Nat->Option (Option Nat)×Nat×Nat->StateT Ov Sem (ForInStep (Option (Option Nat)×Nat×Nat))}(h1:1<=n)(hn:n<=nrem)(hl:lo+nrem<=(N8 st0).size)(C:Chg st0 st lo)(d:Dec κ (N8 st) lo n)
  (hf:∀(x n e:Nat)(st:Ov)(R:ForInStep (Option (Option Nat)×Nat×Nat)->Ov->Prop),Chg st0 st lo->1<=n->n<nrem->(κ.blt (KK κ (N8 st) (lo+n)) (KK κ (N8 st) (lo+n-1))=true->R (.yield (UG,n+1,0)) (if e>0 then SS st (OY (N8 st) (lo+n-(e+1)) (lo+n) ((lo+n-(lo+n-(e+1)))/2))else st))->(κ.blt (KK κ (N8 st) (lo+n)) (KK κ (N8 st) (lo+n-1))=false->κ.blt (KK κ (N8 st) (lo+n-1)) (KK κ (N8 st) (lo+n))=true->R (.done (UG,n,e)) st)->(κ.blt (KK κ (N8 st) (lo+n)) (KK κ (N8 st) (lo+n-1))=false->κ.blt (KK κ (N8 st) (lo+n-1)) (KK κ (N8 st) (lo+n))=false->R (.yield (UG,n+1,e+1)) st)->wpS (Oh prog w) A E s (f x (UG,n,e)) R st) :
  wpS (Oh prog w) A E s (forIn [n:nrem] (UG,n,0) f) (λc st'=>∃m e,c=(UG,m,e)/\Chg st0 st' lo/\n<=m/\m<=nrem/\Dec κ (N8 st') lo m/\e+1<=m/\∀p,lo+m-(e+1)<=p->p<lo+m->KK κ (N8 st') p=KK κ (N8 st') (lo+m-1)) st:=by
 refine OO (I:=λx c st'=>∃e,c=(UG,x,e)/\Chg st0 st' lo/\Dec κ (N8 st') lo x/\e+1<=x/\∀p,lo+x-(e+1)<=p->p<lo+x->KK κ (N8 st') p=KK κ (N8 st') (lo+x-1)) ?s1 ?f1 {0,rfl,C,d,h1,λp a b=>by congr 1;lia}
 case f1=>
  rintro c st' ⟨e,rfl,C',d',he,eq⟩
  rw[show max n nrem=nrem by lia]at d' he eq⊢
  exact{nrem,e,rfl,C',hn,Ln _,d',he,eq}
 case s1=>
  rintro x c st' hax hx ⟨e,rfl,C',d',he,eq⟩
  have ext:∀{ys:Array Og},(∀p,KK κ ys p=KK κ (N8 st') p)->κ.kle (KK κ (N8 st') (lo+x)) (KK κ (N8 st') (lo+x-1))->Dec κ ys lo (x+1):=λ{ys} hy z p q hp hpq hq=>by
   rw[hy,hy]
   by_cases hqx:q<lo+x
   ·exact d' p q hp hpq hqx
   ·have e:q=lo+x:=by lia
    subst e
    by_cases hpx:p=lo+x
    ·rw[hpx]
     exact OI _
    ·exact OD z (d' p (lo+x-1) hp (by lia) (by lia))
  refine hf x x e st' _ C' (by lia) hx (λz=>?_) (λz y=>?_) (λz y=>?_)
  ·have hz:lo+x<=(N8 st').size:=by rw[C'.sz];lia
   by_cases e0:e>0
   ·rw[if_pos e0]
    have k:∀p,KK κ (OY (N8 st') (lo+x-(e+1)) (lo+x) ((lo+x-(lo+x-(e+1)))/2)) p=KK κ (N8 st') p:=QR hz eq
    exact{0,rfl,C'.set (Qa _ _ _ _) (lF hz (by lia)),ext k (OF z),by lia,λp a b=>by congr 1;lia}
   ·rw[if_neg e0]
    exact{0,rfl,C',ext (λ_=>rfl) (OF z),by lia,λp a b=>by congr 1;lia}
  ·exact⟨x,e,rfl,C',hax,by lia,d',he,eq⟩
  ·have q:=Sl (show κ.kle (KK κ (N8 st') (lo+x-1)) (KK κ (N8 st') (lo+x))from z) y
   refine{e+1,rfl,C',ext (λ_=>rfl) y,by lia,λp a b=>?_}
   rw[show lo+(x+1)-1=lo+x by lia]
   by_cases px:p=lo+x
   ·rw[px]
   ·rw[<-q]
    exact eq p (by lia) (by lia)
end
end L2
namespace L2
open PySem PyProof.Rows
section
variable{prog:Program}{w:Of}{A:Ou}{E:E9->N7->Prop}{s:N7}{κ:KeyKind}{kin:Pg}
theorem EC{st0 st:Ov}(hO:KLt prog w A s κ (kindOf st0)){lo nrem:Nat}{Q:Option Nat->Ov->Prop}(k0:KeysOf κ (N8 st0))(h1:1<=nrem)(hl:lo+nrem<=(N8 st0).size)(C:Chg st0 st lo)
  (h:∀m st',Chg st0 st' lo->1<=m->m<=nrem->Seg κ (N8 st') lo m->Q (UE m) st'):wpS (Oh prog w) A E s (countRun' lo nrem) Q st:=by
 refine Oa (OX (wF (κ:=κ) (lo:=lo) (Ln 1) h1 (λp q hp hpq hq=>?_) ?_) ?_)
 ·have:p=q:=by lia
  rw[this]
  exact OI _
 ·intro x n R n1 nr a1 a2
  dsimp only
  refine Oa (sD hO C k0 (show lo+n<_ by lia) (show lo+n-1<_ by lia) ?_)
  dsimp only
  cases z:κ.blt (KK κ (N8 st) (lo+n)) (KK κ (N8 st) (lo+n-1))with
  |true=>exact Ob (a1 z)
  |false=>exact Ob (a2 z)
 rintro c st' ⟨rfl,m,rfl,m1,m2,g,hm⟩
 dsimp only
 by_cases e:(m==nrem)=true
 ·rw[if_pos e]
  exact Ob (h m _ C m1 m2 g)
 rw[if_neg e]
 have e:¬ m=nrem:=by simpa using e
 have hm:κ.klt (KK κ (N8 st') (lo+m)) (KK κ (N8 st') (lo+m-1)):=hm.elim (λz=>absurd z e) id
 have hz0:lo+m<=(N8 st').size:=by rw[C.sz];lia
 by_cases mm:m>1
 ·rw[if_pos mm]
  refine Oa (sD hO C k0 (show lo<_ by lia) (show lo+m-1<_ by lia) ?_)
  dsimp only
  cases z:κ.blt (KK κ (N8 st') lo) (KK κ (N8 st') (lo+m-1))with
  |true=>exact Ob (h m _ C m1 m2 g)
  |false=>
   rw[if_neg Lv]
   have eqs:∀p,lo<=p->p<lo+m->KK κ (N8 st') p=KK κ (N8 st') (lo+m-1):=λp p1 p2=>Sl (g p _ p1 (by lia) (by lia)) (OD (show κ.kle _ (KK κ (N8 st') lo)from z) (g lo p (Ln _) p1 p2))
   have k:∀p,KK κ (OY (N8 st') lo (lo+m) ((lo+m-lo)/2)) p=KK κ (N8 st') p:=QR hz0 eqs
   have C1:=C.set (Qa (N8 st') lo (lo+m) ((lo+m-lo)/2)) (lF hz0 (Ln _))
   have d1:Dec κ (OY (N8 st') lo (lo+m) ((lo+m-lo)/2)) lo (m+1):=λp q hp hpq hq=>by
    rw[k,k]
    by_cases qm:q<lo+m
    ·rw[eqs p hp (by lia),eqs q (by lia) qm]
     exact OI _
    ·have:q=lo+m:=by lia
     subst this
     by_cases pm:p=lo+m
     ·rw[pm]
      exact OI _
     ·rw[eqs p hp (by lia)]
      exact OF hm
   refine Oa (ON ?_)
   refine Oa (Q6 (P7 {rfl,?_}))
   refine Oa (OX (BW (κ:=κ) (st0:=st0) (by lia) (by lia) hl C1 d1 ?_) ?_)
   ·intro x n e st R C n1 nr a1 a2 a3
    dsimp only
    refine Oa (sD hO C k0 (show lo+n<_ by lia) (show lo+n-1<_ by lia) ?_)
    dsimp only
    cases z:κ.blt (KK κ (N8 st) (lo+n)) (KK κ (N8 st) (lo+n-1))with
    |true=>
     have a1:=a1 z
     rw[if_pos rfl]
     by_cases e0:e>0
     ·rw[if_pos e0]at a1⊢
      exact Oa (ON (Ob a1))
     ·rw[if_neg e0]at a1⊢
      exact Ob a1
    |false=>
     rw[if_neg Lv]
     refine Oa (sD hO C k0 (show lo+n-1<_ by lia) (show lo+n<_ by lia) ?_)
     dsimp only
     cases y:κ.blt (KK κ (N8 st) (lo+n-1)) (KK κ (N8 st) (lo+n))with
     |true=>exact Ob (a2 z y)
     |false=>exact Ob (a3 z y)
   ·rintro c st2 ⟨r,e,rfl,C2,r1,r2,d2,e1,eq⟩
    dsimp only
    have hz:lo+r<=(N8 st2).size:=by rw[C2.sz];lia
    by_cases e0:e>0
    ·rw[if_pos e0]
     have k:∀p,KK κ (OY (N8 st2) (lo+r-(e+1)) (lo+r) ((lo+r-(lo+r-(e+1)))/2)) p=KK κ (N8 st2) p:=QR hz eq
     have C3:=C2.set (Qa (N8 st2) (lo+r-(e+1)) (lo+r) ((lo+r-(lo+r-(e+1)))/2)) (lF hz (by lia))
     have d3:Dec κ (OY (N8 st2) (lo+r-(e+1)) (lo+r) ((lo+r-(lo+r-(e+1)))/2)) lo r:=λp q hp hpq hq=>by rw[k,k];exact d2 p q hp hpq hq
     refine Oa (ON ?_)
     have hy:lo+r<=_:=(show lo+r<=(OY (N8 st2) (lo+r-(e+1)) (lo+r) ((lo+r-(lo+r-(e+1)))/2)).size by rw[mirror_size];exact hz)
     refine Oa (ON ?_)
     have C4:=C3.set (Qa (OY (N8 st2) (lo+r-(e+1)) (lo+r) ((lo+r-(lo+r-(e+1)))/2)) lo (lo+r) ((lo+r-lo)/2)) (lF hy (Ln _))
     refine Oa (OX (wF (κ:=κ) (lo:=lo) (st:=SS (SS st2 (OY (N8 st2) (lo+r-(e+1)) (lo+r) ((lo+r-(lo+r-(e+1)))/2))) (OY (OY (N8 st2) (lo+r-(e+1)) (lo+r) ((lo+r-(lo+r-(e+1)))/2)) lo (lo+r) ((lo+r-lo)/2))) (show 1<=r by lia) r2 (qg hy d3) ?_) ?_)
     ·intro x n R n1 nr a1 a2
      dsimp only
      refine Oa (sD hO C4 k0 (show lo+n<_ by lia) (show lo+n-1<_ by lia) ?_)
      dsimp only
      cases z:κ.blt (KK κ (OY (OY (N8 st2) (lo+r-(e+1)) (lo+r) ((lo+r-(lo+r-(e+1)))/2)) lo (lo+r) ((lo+r-lo)/2)) (lo+n)) (KK κ (OY (OY (N8 st2) (lo+r-(e+1)) (lo+r) ((lo+r-(lo+r-(e+1)))/2)) lo (lo+r) ((lo+r-lo)/2)) (lo+n-1))with
      |true=>exact Ob (a1 z)
      |false=>exact Ob (a2 z)
     ·rintro c st3 ⟨rfl,v,rfl,v1,v2,g3,_⟩
      exact Ob (h v _ C4 (by lia) v2 g3)
    ·rw[if_neg e0]
     have hy:lo+r<=_:=hz
     refine Oa (ON ?_)
     have C4:=C2.set (Qa (N8 st2) lo (lo+r) ((lo+r-lo)/2)) (lF hy (Ln _))
     refine Oa (OX (wF (κ:=κ) (lo:=lo) (st:=SS st2 (OY (N8 st2) lo (lo+r) ((lo+r-lo)/2))) (show 1<=r by lia) r2 (qg hy d2) ?_) ?_)
     ·intro x n R n1 nr a1 a2
      dsimp only
      refine Oa (sD hO C4 k0 (show lo+n<_ by lia) (show lo+n-1<_ by lia) ?_)
      dsimp only
      cases z:κ.blt (KK κ (OY (N8 st2) lo (lo+r) ((lo+r-lo)/2)) (lo+n)) (KK κ (OY (N8 st2) lo (lo+r) ((lo+r-lo)/2)) (lo+n-1))with
      |true=>exact Ob (a1 z)
      |false=>exact Ob (a2 z)
     ·rintro c st3 ⟨rfl,v,rfl,v1,v2,g3,_⟩
      exact Ob (h v _ C4 (by lia) v2 g3)
 ·rw[if_neg mm]
  have C1:=C
  have d1:Dec κ (N8 st') lo (m+1):=λp q hp hpq hq=>by
   by_cases pq:p=q
   ·rw[pq]
    exact OI _
   ·rw[show q=lo+m by lia,show p=lo+m-1 by lia]
    exact OF hm
  refine Oa (Q6 (P7 {rfl,?_}))
  refine Oa (OX (BW (κ:=κ) (st0:=st0) (by lia) (by lia) hl C1 d1 ?_) ?_)
  ·intro x n e st R C n1 nr a1 a2 a3
   dsimp only
   refine Oa (sD hO C k0 (show lo+n<_ by lia) (show lo+n-1<_ by lia) ?_)
   dsimp only
   cases z:κ.blt (KK κ (N8 st) (lo+n)) (KK κ (N8 st) (lo+n-1))with
   |true=>
    have a1:=a1 z
    rw[if_pos rfl]
    by_cases e0:e>0
    ·rw[if_pos e0]at a1⊢
     exact Oa (ON (Ob a1))
    ·rw[if_neg e0]at a1⊢
     exact Ob a1
   |false=>
    rw[if_neg Lv]
    refine Oa (sD hO C k0 (show lo+n-1<_ by lia) (show lo+n<_ by lia) ?_)
    dsimp only
    cases y:κ.blt (KK κ (N8 st) (lo+n-1)) (KK κ (N8 st) (lo+n))with
    |true=>exact Ob (a2 z y)
    |false=>exact Ob (a3 z y)
  ·rintro c st2 ⟨r,e,rfl,C2,r1,r2,d2,e1,eq⟩
   dsimp only
   have hz:lo+r<=(N8 st2).size:=by rw[C2.sz];lia
   by_cases e0:e>0
   ·rw[if_pos e0]
    have k:∀p,KK κ (OY (N8 st2) (lo+r-(e+1)) (lo+r) ((lo+r-(lo+r-(e+1)))/2)) p=KK κ (N8 st2) p:=QR hz eq
    have C3:=C2.set (Qa (N8 st2) (lo+r-(e+1)) (lo+r) ((lo+r-(lo+r-(e+1)))/2)) (lF hz (by lia))
    have d3:Dec κ (OY (N8 st2) (lo+r-(e+1)) (lo+r) ((lo+r-(lo+r-(e+1)))/2)) lo r:=λp q hp hpq hq=>by rw[k,k];exact d2 p q hp hpq hq
    refine Oa (ON ?_)
    have hy:lo+r<=_:=(show lo+r<=(OY (N8 st2) (lo+r-(e+1)) (lo+r) ((lo+r-(lo+r-(e+1)))/2)).size by rw[mirror_size];exact hz)
    refine Oa (ON ?_)
    have C4:=C3.set (Qa (OY (N8 st2) (lo+r-(e+1)) (lo+r) ((lo+r-(lo+r-(e+1)))/2)) lo (lo+r) ((lo+r-lo)/2)) (lF hy (Ln _))
    refine Oa (OX (wF (κ:=κ) (lo:=lo) (st:=SS (SS st2 (OY (N8 st2) (lo+r-(e+1)) (lo+r) ((lo+r-(lo+r-(e+1)))/2))) (OY (OY (N8 st2) (lo+r-(e+1)) (lo+r) ((lo+r-(lo+r-(e+1)))/2)) lo (lo+r) ((lo+r-lo)/2))) (show 1<=r by lia) r2 (qg hy d3) ?_) ?_)
    ·intro x n R n1 nr a1 a2
     dsimp only
     refine Oa (sD hO C4 k0 (show lo+n<_ by lia) (show lo+n-1<_ by lia) ?_)
     dsimp only
     cases z:κ.blt (KK κ (OY (OY (N8 st2) (lo+r-(e+1)) (lo+r) ((lo+r-(lo+r-(e+1)))/2)) lo (lo+r) ((lo+r-lo)/2)) (lo+n)) (KK κ (OY (OY (N8 st2) (lo+r-(e+1)) (lo+r) ((lo+r-(lo+r-(e+1)))/2)) lo (lo+r) ((lo+r-lo)/2)) (lo+n-1))with
     |true=>exact Ob (a1 z)
     |false=>exact Ob (a2 z)
    ·rintro c st3 ⟨rfl,v,rfl,v1,v2,g3,_⟩
     exact Ob (h v _ C4 (by lia) v2 g3)
   ·rw[if_neg e0]
    have hy:lo+r<=_:=hz
    refine Oa (ON ?_)
    have C4:=C2.set (Qa (N8 st2) lo (lo+r) ((lo+r-lo)/2)) (lF hy (Ln _))
    refine Oa (OX (wF (κ:=κ) (lo:=lo) (st:=SS st2 (OY (N8 st2) lo (lo+r) ((lo+r-lo)/2))) (show 1<=r by lia) r2 (qg hy d2) ?_) ?_)
    ·intro x n R n1 nr a1 a2
     dsimp only
     refine Oa (sD hO C4 k0 (show lo+n<_ by lia) (show lo+n-1<_ by lia) ?_)
     dsimp only
     cases z:κ.blt (KK κ (OY (N8 st2) lo (lo+r) ((lo+r-lo)/2)) (lo+n)) (KK κ (OY (N8 st2) lo (lo+r) ((lo+r-lo)/2)) (lo+n-1))with
     |true=>exact Ob (a1 z)
     |false=>exact Ob (a2 z)
    ·rintro c st3 ⟨rfl,v,rfl,v1,v2,g3,_⟩
     exact Ob (h v _ C4 (by lia) v2 g3)
end
end L2
namespace L2
open PySem PyProof.Rows
section
variable{prog:Program}{w:Of}{A:Ou}{E:E9->N7->Prop}{s:N7}{κ:KeyKind}{kin:Pg}
noncomputable def Rns(κ:KeyKind)(xs:Array Og):Nat->List (Nat×Nat×Nat)->Nat->Prop
 |a,[],lo=>a=lo
 |a,(b,n,_)::r,lo=>b=a/\1<=n/\Seg κ xs a n/\Rns κ xs (a+n) r lo
theorem Rns.le{xs:Array Og}:∀{r:List (Nat×Nat×Nat)}{a lo:Nat},Rns κ xs a r lo->a+r.length<=lo
 | [],a,lo,h=>Nw h
 | (b,n,p)::r,a,lo,h=>by
  have:=h.2.2.2.le
  have:=h.2.1
  rw[Lq]
  lia
theorem Rns.app{xs:Array Og}{v:List (Nat×Nat×Nat)}{lo:Nat}:∀{u:List (Nat×Nat×Nat)}{a:Nat},Rns κ xs a (u++v) lo->∃m,Rns κ xs a u m/\Rns κ xs m v lo
 | [],a,h=>⟨a,rfl,h⟩
 | (b,n,p)::u,a,h=>by
  obtain⟨m,h1,h2⟩:=Rns.app (u:=u) h.2.2.2
  exact{m,⟨h.1,h.2.1,h.2.2.1,h1⟩,h2}
theorem Rns.cat{xs:Array Og}{v:List (Nat×Nat×Nat)}{m lo:Nat}:∀{u:List (Nat×Nat×Nat)}{a:Nat},Rns κ xs a u m->Rns κ xs m v lo->Rns κ xs a (u++v) lo
 | [],a,h,h2=>by rw[show a=m from h];exact h2
 | (b,n,p)::u,a,h,h2=>⟨h.1,h.2.1,h.2.2.1,Rns.cat h.2.2.2 h2⟩
theorem yt{xs ys:Array Og}{i n:Nat}(h:Seg κ xs i n)(e:∀p,i<=p->p<i+n->ys[p]?=xs[p]?):Seg κ ys i n:=λp q hp hpq hq=>by
 rw[KK_congr (e p hp (by lia)),KK_congr (e q (by lia) hq)]
 exact h p q hp hpq hq
theorem Rns.cg{xs ys:Array Og}:∀{r:List (Nat×Nat×Nat)}{a lo:Nat},Rns κ xs a r lo->(∀p,a<=p->p<lo->ys[p]?=xs[p]?)->Rns κ ys a r lo
 | [],a,lo,h,_=>h
 | (b,n,p)::r,a,lo,h,e=>by
  have:=h.2.2.2.le
  exact{h.1,h.2.1,yt h.2.2.1 (λp p1 p2=>e p p1 (by lia)),Rns.cg h.2.2.2 λp p1 p2=>e p (by lia) p2}
theorem CU{α:Type}{a b x:α}:∀(u v:List α),((u++a::b::v).set u.length x).eraseIdx (u.length+1)=u++x::v
 | [],v=>rfl
 |c::u,v=>by
  show c::((u++a::b::v).set u.length x).eraseIdx (u.length+1)=_
  rw[CU u v]
  rfl
structure Sb(st0 st:Ov):Prop where
 kd:kindOf st=kindOf st0
 fl:P8 st=UG
 pm:(N8 st).Perm (N8 st0)
theorem Bm{st0 st:Ov}(hO:KLt prog w A s κ (kindOf st0)){lo i:Nat}{rs:List (Nat×Nat×Nat)}{Q:Bool->Ov->Prop}(k0:KeysOf κ (N8 st0))(S:Sb st0 st)(pe:(Ol st).toList=rs)(R:Rns κ (N8 st) 0 rs lo)(hlo:lo<=(N8 st0).size)(hi:i+1<rs.length)
  (h:∀st' rs',Sb st0 st'->(Ol st').toList=rs'->Rns κ (N8 st') 0 rs' lo->rs'.length+1=rs.length->(∀p,lo<=p->(N8 st')[p]?=(N8 st)[p]?)->Q true st'):wpS (Oh prog w) A E s (mergeAt' i) Q st:=by
 have sz:(N8 st).size=(N8 st0).size:=S.pm.size_eq
 obtain⟨⟨sa,na,pw⟩,ea⟩:∃x,rs[i]?=UE x:={_,Lw (by lia)}
 obtain⟨⟨sb,nb,pw2⟩,eb⟩:∃x,rs[i+1]?=UE x:={_,Lw hi}
 have es:rs=rs.take i++(sa,na,pw)::(sb,nb,pw2)::rs.drop (i+2):=by
  have e1:=MS (l:=rs) (i:=i) (by lia)
  have e2:=MS (l:=rs) (i:=i+1) hi
  rw[(LJ.mp ea).2]at e1
  rw[(LJ.mp eb).2]at e2
  conv=>lhs;rw[<-LO i rs,e1,e2]
 have R':=R
 rw[es]at R'
 obtain⟨m,R1,z1,n1,g1,z2,n2,g2,R3⟩:=R'.app
 subst z1
 subst z2
 have l3:=R3.le
 have l1:=R1.le
 refine Ea hO S.kd S.fl (vf k0 S.pm) (by rw[<-L5,pe];exact ea) (by rw[<-L5,pe];exact eb) n1 n2 (by rw[sz];lia) g1 g2 λst' M h1 h2 h3 h4 h5 h6=>?_
 have lsz:(N8 st).toList.length=(N8 st).size:=LI
 have lM:M.length=na+nb:=by
  rw[h6.length_eq,LV,Mc,lsz,sz]
  lia
 have lt:((N8 st).toList.take sa).length=sa:=by rw[LV,lsz,sz];lia
 have pm:(N8 st').Perm (N8 st):=by
  rw[Nf,h4]
  have e:(N8 st).toList=(N8 st).toList.take sa++((N8 st).toList.drop sa).take (na+nb)++(N8 st).toList.drop (sa+na+nb):=by
   rw[MO,<-Nq,LO]
  have p:=((h6.append_left ((N8 st).toList.take sa)).append_right ((N8 st).toList.drop (sa+na+nb)))
  rwa [<-e]at p
 have lo1:∀p,p<sa->(N8 st')[p]?=(N8 st)[p]?:=λp hp=>by
  rw[<-L5,<-L5,h4,Lz,Me (by lia),Mt hp]
 have hi1:∀p,sa+na+nb<=p->(N8 st')[p]?=(N8 st)[p]?:=λp hp=>by
  rw[<-L5,<-L5,h4,L7 (by rw[Ll,lt,lM];lia),Ll,lt,lM,ML]
  congr 1
  lia
 have il:(rs.take i).length=i:=by rw[LV];lia
 have ne:(Ol st').toList=rs.take i++(sa,na+nb,pw)::rs.drop (i+2):=by
  rw[h3,Array.toList_eraseIdxIfInBounds,Q7,pe]
  have e:=CU (a:=(sa,na,pw)) (b:=(sa+na,nb,pw2)) (x:=(sa,na+nb,pw)) (rs.take i) (rs.drop (i+2))
  rwa [il,<-es]at e
 refine h st' _ ⟨h1,h2,pm.trans S.pm⟩ ne (Rns.cat (R1.cg λp _ hp=>lo1 p hp) {rfl,by lia,FN h4 lt lM h5,?_}) ?_ (λp hp=>hi1 p (by lia))
 ·rw[<-MO]
  exact R3.cg λp hp _=>hi1 p hp
 ·rw[Ll,Lq,il,Mc]
  lia
end
end L2
namespace L2
open PySem PyProof.Rows
section
variable{prog:Program}{w:Of}{A:Ou}{E:E9->N7->Prop}{s:N7}{κ:KeyKind}{kin:Pg}
theorem Rns.mod{xs:Array Og}{f:Nat×Nat×Nat->Nat×Nat×Nat}:∀{r:List (Nat×Nat×Nat)}{a lo:Nat}(i:Nat),(∀y,(f y).1=y.1/\(f y).2.1=y.2.1)->Rns κ xs a r lo->Rns κ xs a (r.modify i f) lo
 | [],a,lo,0,hf,h=>h
 | [],a,lo,i+1,hf,h=>h
 | (b,n,p)::r,a,lo,0,hf,h=>by
  obtain⟨e1,e2⟩:=hf (b,n,p)
  show Rns κ xs a (f (b,n,p)::r) lo
  rcases hy:f (b,n,p)with⟨b',n',p'⟩
  rw[hy]at e1 e2
  have e1:b'=b:=e1
  have e2:n'=n:=e2
  subst e1
  subst e2
  exact h
 | (b,n,p)::r,a,lo,i+1,hf,h=>⟨h.1,h.2.1,h.2.2.1,Rns.mod i hf h.2.2.2⟩
theorem Fo(hO:KLt prog w A s κ kin){st:Ov}{Q:Unit->Ov->Prop}(kd:kindOf st=kin)(fl:P8 st=UG)(pd:Ol st=#[])(k0:KeysOf κ (N8 st))
  (h:∀st',(N8 st').Perm (N8 st)->P8 st'=UG->Sf κ (N8 st') (N8 st).size->Q () st'):wpS (Oh prog w) A E s sortRuns' Q st:=by
 subst kd
 rw[sortRuns'_eq]
 refine Oa (Ql ?_)
 dsimp only
 refine Oa (OX (OO (I:=λx c st'=>∃lo rs,c=(UG,lo)/\Sb st st'/\(Ol st').toList=rs/\Rns κ (N8 st') 0 rs lo/\lo<=(N8 st).size/\x<=lo)
  (Q:=λc st'=>∃rs,c=(UG,(N8 st).size)/\Sb st st'/\(Ol st').toList=rs/\Rns κ (N8 st') 0 rs (N8 st).size) ?s1 ?f1 {0,[],rfl,{rfl,fl,RE _},by rw[pd],rfl,LH _,LH _}) ?p1)
 case f1=>
  rintro c st' ⟨lo,rs,rfl,S,pe,R,h1,h2⟩
  have:lo=(N8 st).size:=by
   have:max 0 (N8 st).size<=lo:=h2
   lia
  subst this
  exact⟨rs,rfl,S,pe,R⟩
 case p1=>
  rintro c st' ⟨rs,rfl,S,pe,R⟩
  dsimp only
  refine Oa (OX (OO (I:=λx c st4=>c=(UG,())/\∃rs4,Sb st st4/\(Ol st4).toList=rs4/\Rns κ (N8 st4) 0 rs4 (N8 st).size/\(rs4.length<=1\/rs4.length+x<=(N8 st).size))
   (Q:=λc st4=>c=(UG,())/\∃rs4,Sb st st4/\Rns κ (N8 st4) 0 rs4 (N8 st).size/\rs4.length<=1) ?s2 ?f2 {rfl,rs,S,pe,R,.inr (by have:=R.le;lia)}) ?p2)
  case f2=>
   rintro c st4 ⟨rfl,rs4,S4,pe4,R4,l4⟩
   refine{rfl,rs4,S4,R4,?_}
   have:max 0 (N8 st).size=(N8 st).size:=by lia
   lia
  case s2=>
   rintro x c st4 _ hx ⟨rfl,rs4,S4,pe4,R4,l4⟩
   have z4:(Ol st4).size=rs4.length:=by rw[<-pe4,LI]
   refine Oa (Ql ?_)
   by_cases c4:(Ol st4).size<=1
   ·rw[if_pos c4]
    exact Ob ⟨rfl,rs4,S4,R4,by lia⟩
   ·rw[if_neg c4]
    refine Oa (Bm hO k0 S4 pe4 R4 (Ln _) ?_ λst5 rs5 S5 pe5 R5 l5 _=>?_)
    ·have hh:∀(P:Prop) [Decidable P],(if P then(Ol st4).size-2-1 else(Ol st4).size-2)+1<rs4.length:=λP _=>by split<;>lia
     exact hh _
    ·rw[if_neg (by decide)]
     exact Ob ⟨rfl,rs5,S5,pe5,R5,by lia⟩
  case p2=>
   rintro c st4 ⟨rfl,rs4,S4,R4,l4⟩
   refine Ob (h st4 S4.pm S4.fl λi j hij hj=>?_)
   match rs4,R4,l4 with
   | [],e,_=>
    have:0=(N8 st).size:=e
    lia
   | [(b,n,p)],⟨e1,e2,g,e3⟩,_=>
    have e3:0+n=(N8 st).size:=e3
    exact g i j (LH _) hij (by lia)
 case s1=>
  rintro x c st' _ hx ⟨lo,rs,rfl,S,pe,R,h1,h2⟩
  dsimp only
  by_cases c1:lo ≥ (N8 st).size
  ·rw[if_pos c1]
   have:lo=(N8 st).size:=by lia
   subst this
   exact Ob ⟨rs,rfl,S,pe,R⟩
  rw[if_neg c1]
  have z':(N8 st').size=(N8 st).size:=S.pm.size_eq
  have k':=vf k0 S.pm
  have hO':KLt prog w A s κ (kindOf st'):=by rw[S.kd];exact hO
  refine Oa (EC (st0:=st') hO' k' (by lia) (by rw[z'];lia) {rfl,S.fl,rfl,RE _,λ_ _=>rfl} λm st2 C2 m1 m2 g2=>?_)
  dsimp only
  split
  ·next hlt=>
   refine Oa (Q6 (P7 {rfl,?_}))
   refine Oa (Ep (st0:=st') hO' k' (by rw[z'];lia) (by lia) C2 g2 λst3 C3 g3=>?_)
   rw[if_neg (by decide)]
   generalize hN:min ((N8 st).size-lo) (minRun' (N8 st).size (N8 st).size 0)=N3 at g3⊢
   have hmr:m<minRun' (N8 st).size (N8 st).size 0:=hlt
   have hn1:1<=N3:=by lia
   have hn2:lo+N3<=(N8 st).size:=by lia
   have S3:Sb st st3:=⟨C3.kd.trans S.kd,C3.fl,C3.pm.trans S.pm⟩
   have pe3:(Ol st3).toList=rs:=by rw[C3.pd];exact pe
   have R3:Rns κ (N8 st3) 0 rs lo:=R.cg λp _ hp=>C3.fr p hp
   refine Oa (Ql ?_)
   rcases eb:(Ol st3).back? with _|⟨s1,n1,p1⟩
   ·dsimp only
    refine Oa (ON (Ob {lo+N3,rs++[(lo,N3,0)],rfl,⟨S3.kd,S3.fl,S3.pm⟩,?_,Rns.cat R3 ⟨rfl,hn1,g3,rfl⟩,hn2,by lia}))
    show((Ol st3).push (lo,N3,0)).toList=_
    rw[MP,pe3]
   ·dsimp only
    refine Oa (OX (OO (I:=λ_ c st4=>c=(UG,())/\∃rs4,Sb st st4/\(Ol st4).toList=rs4/\Rns κ (N8 st4) 0 rs4 lo/\Seg κ (N8 st4) lo N3) (Q:=λc st4=>c=(UG,())/\∃rs4,Sb st st4/\(Ol st4).toList=rs4/\Rns κ (N8 st4) 0 rs4 lo/\Seg κ (N8 st4) lo N3) ?_ (λc st4 z=>z) ⟨rfl,rs,S3,pe3,R3,g3⟩) ?_)
    ·rintro x4 c st4 _ _ ⟨rfl,rs4,S4,pe4,R4,g4⟩
     refine Oa (Ql ?_)
     have l4:(Ol st4).size=rs4.length:=by rw[<-pe4,LI]
     by_cases c4:(Ol st4).size>1
     ·rw[if_pos c4,getElem?_pos (Ol st4) ((Ol st4).size-2) (by lia)]
      rcases(Ol st4)[(Ol st4).size-2]'(by lia)with⟨o1,o2,o3⟩
      dsimp only
      split
      ·exact Ob ⟨rfl,rs4,S4,pe4,R4,g4⟩
      ·refine Oa (Bm hO k0 S4 pe4 R4 (by lia) (show(Ol st4).size-2+1<rs4.length by lia) λst5 rs5 S5 pe5 R5 _ fr5=>?_)
       rw[if_neg (by decide)]
       exact Ob {rfl,rs5,S5,pe5,R5,yt g4 λp p1 _=>fr5 p p1}
     ·rw[if_neg c4]
      exact Ob ⟨rfl,rs4,S4,pe4,R4,g4⟩
    ·rintro c st6 ⟨rfl,rs6,S6,pe6,R6,g6⟩
     dsimp only
     refine Oa (ON ?_)
     refine Oa (ON (Ob {lo+N3,rs6.modify ((Ol st6).size-1) (λy:Nat×Nat×Nat=>(y.1,y.2.1,power' (N8 st).size (2*s1+n1) (2*s1+n1+n1+N3) (N8 st).size))++[(lo,N3,0)],rfl,⟨S6.kd,S6.fl,S6.pm⟩,?_,Rns.cat (R6.mod (f:=(λy:Nat×Nat×Nat=>(y.1,y.2.1,power' (N8 st).size (2*s1+n1) (2*s1+n1+n1+N3) (N8 st).size))) _ (λy=>⟨rfl,rfl⟩)) (show Rns κ (N8 st6) lo [(lo,N3,0)] (lo+N3)from⟨rfl,hn1,g6,rfl⟩),hn2,by lia}))
     show(((Ol st6).modify _ _).push (lo,N3,0)).toList=_
     rw[MP,So,pe6]
  ·have C3:=C2
   have g3:=g2
   have hn1:=m1
   have hn2:lo+m<=(N8 st).size:=by lia
   have S3:Sb st st2:=⟨C3.kd.trans S.kd,C3.fl,C3.pm.trans S.pm⟩
   have pe3:(Ol st2).toList=rs:=by rw[C3.pd];exact pe
   have R3:Rns κ (N8 st2) 0 rs lo:=R.cg λp _ hp=>C3.fr p hp
   refine Oa (Ql ?_)
   rcases eb:(Ol st2).back? with _|⟨s1,n1,p1⟩
   ·dsimp only
    refine Oa (ON (Ob {lo+m,rs++[(lo,m,0)],rfl,⟨S3.kd,S3.fl,S3.pm⟩,?_,Rns.cat R3 ⟨rfl,hn1,g3,rfl⟩,hn2,by lia}))
    show((Ol st2).push (lo,m,0)).toList=_
    rw[MP,pe3]
   ·dsimp only
    refine Oa (OX (OO (I:=λ_ c st4=>c=(UG,())/\∃rs4,Sb st st4/\(Ol st4).toList=rs4/\Rns κ (N8 st4) 0 rs4 lo/\Seg κ (N8 st4) lo m) (Q:=λc st4=>c=(UG,())/\∃rs4,Sb st st4/\(Ol st4).toList=rs4/\Rns κ (N8 st4) 0 rs4 lo/\Seg κ (N8 st4) lo m) ?_ (λc st4 z=>z) ⟨rfl,rs,S3,pe3,R3,g3⟩) ?_)
    ·rintro x4 c st4 _ _ ⟨rfl,rs4,S4,pe4,R4,g4⟩
     refine Oa (Ql ?_)
     have l4:(Ol st4).size=rs4.length:=by rw[<-pe4,LI]
     by_cases c4:(Ol st4).size>1
     ·rw[if_pos c4,getElem?_pos (Ol st4) ((Ol st4).size-2) (by lia)]
      rcases(Ol st4)[(Ol st4).size-2]'(by lia)with⟨o1,o2,o3⟩
      dsimp only
      split
      ·exact Ob ⟨rfl,rs4,S4,pe4,R4,g4⟩
      ·refine Oa (Bm hO k0 S4 pe4 R4 (by lia) (show(Ol st4).size-2+1<rs4.length by lia) λst5 rs5 S5 pe5 R5 _ fr5=>?_)
       rw[if_neg (by decide)]
       exact Ob {rfl,rs5,S5,pe5,R5,yt g4 λp p1 _=>fr5 p p1}
     ·rw[if_neg c4]
      exact Ob ⟨rfl,rs4,S4,pe4,R4,g4⟩
    ·rintro c st6 ⟨rfl,rs6,S6,pe6,R6,g6⟩
     dsimp only
     refine Oa (ON ?_)
     refine Oa (ON (Ob {lo+m,rs6.modify ((Ol st6).size-1) (λy:Nat×Nat×Nat=>(y.1,y.2.1,power' (N8 st).size (2*s1+n1) (2*s1+n1+n1+m) (N8 st).size))++[(lo,m,0)],rfl,⟨S6.kd,S6.fl,S6.pm⟩,?_,Rns.cat (R6.mod (f:=(λy:Nat×Nat×Nat=>(y.1,y.2.1,power' (N8 st).size (2*s1+n1) (2*s1+n1+n1+m) (N8 st).size))) _ (λy=>⟨rfl,rfl⟩)) (show Rns κ (N8 st6) lo [(lo,m,0)] (lo+m)from⟨rfl,hn1,g6,rfl⟩),hn2,by lia}))
     show(((Ol st6).modify _ _).push (lo,m,0)).toList=_
     rw[MP,So,pe6]
end
end L2
namespace L2
open PySem PyProof.Rows
section
variable{prog:Program}{w:Of}{A:Ou}{E:E9->N7->Prop}{s:N7}{κ:KeyKind}{kin:Pg}
def KKi(prog:Program)(w:Of)(A:Ou)(s:N7)(kin:Pg)(xs:List E9):Prop:=∀(E:E9->N7->Prop) x y r {Q:Pg->N7->Prop},xs=x::y::r->Q kin s->wpAny (Oh prog w) A (keyKind' (x::y::r).toArray) Q E s
theorem CT{q:N6}{xs:List E9}(hO:∀h',(∀b o,b≠q->s.heap.get? b=UE o->h'.get? b=UE o)->KLt prog w A { s with heap:=h' } κ kin/\KKi prog w A { s with heap:=h' } kin xs){n:Nat}{P:Fin->N7->Prop}(hq:s.heap.get? q=UE (P4 "list" xs.toArray n))(k0:KeysOf κ (QH xs))(hs:xs.length<=sizeLine)
  (fin:∀st':Ov,(N8 st').Perm (QH xs)->Sf κ (N8 st') (QH xs).size->P (.done (.ret .none)) { s with heap:=sortedHeap s.heap q xs ((N8 st').map (·.2)) }):wpAny (Oh prog w) A (Rr.«list.sort» ⟨[.ref q],[]⟩) P E s:=by
 have lt:=Om hq
 obtain⟨e1,h1⟩:∃e1,(s.heap.update q (Pb λ_=>#[])).get? q=UE (P4 "list" #[] e1):={_,get?_update_seq hq (λ_=>#[])}
 have h6:(((s.heap.update q (Pb λ_=>#[])).push (P4 "tuple" xs.toArray 0)).push (P4 "list" #[] 0)).get? q=UE (P4 "list" #[] e1):=(Py _ _ _ (by rw[Uo,Qe];exact L9 (MA lt))).trans ((Py _ _ _ (by rw[Qe];exact L9 lt)).trans h1)
 have zz:xs.toArray.size=xs.length:=by simp
 have hK:=hO (((s.heap.update q (Pb λ_=>#[])).push (P4 "tuple" xs.toArray 0)).push (P4 "list" #[] 0)) λb o hb hg=>by
  have lb:=Om hg
  exact(Py _ _ _ (by rw[Uo,Qe];exact L9 (MA lb))).trans ((Py _ _ _ (by rw[Qe];exact L9 lb)).trans ((PZ _ _ (LU hb)).trans hg))
 clear hO
 rw[list_sort_plain]
 refine N5 (RD hq rfl (N5 (Sx hq rfl (N5 (TQ h1 rfl (N5 (wpAny_newTuple (N5 (wpAny_newList (wpAny_holding ?_))))))))))
 show wpAny (Oh prog w) A _ P E { s with heap:=((s.heap.update q (Pb λ_=>#[])).push (P4 "tuple" xs.toArray 0)).push (P4 "list" #[] 0) }
 dsimp only
 by_cases c:xs.toArray.size<2
 ·rw[if_pos c,if_pos c]
  refine N5 (N9 ?_)
  rw[StateT.run_pure]
  refine N5 (N9 (N5 (TQ h6 rfl (N5 (Sx h6 rfl ?_ (hsz2:=by rw[Up];show(QH xs).size<=_;rw[Tf];exact M7 hs))))))
  simp only[bne_self_eq_false,MK,if_false]
  refine N9 (fin (SQ general' (xs.toArray.zip xs.toArray) #[] 7 UG) (RE _) λi j hij hj=>?_)
  rw[Tf]at hj
  rw[show i=j by lia]
  exact OI _
 ·rw[if_neg c,if_neg c]
  match xs,zz,c,hq,k0,hK,hs,fin,h6 with
  | [],_,c,_,_,_,_,_,_=>exact absurd (by decide) c
  | [_],_,c,_,_,_,_,_,_=>exact absurd (by simp) c
  |x::y::r,_,_,hq,k0,hK,hs,fin,h6=>
   refine N5 (hK.2 _ _ _ _ rfl (N5 (Pn (Fo (κ:=κ) hK.1 (st:=SQ kin ((x::y::r).toArray.zip (x::y::r).toArray) #[] 7 UG) (Q:=λ_ st'=>(N8 st').Perm (QH (x::y::r))/\P8 st'=UG/\Sf κ (N8 st') (QH (x::y::r)).size) rfl rfl rfl k0 λst' a1 a2 a3=>⟨a1,a2,a3⟩) ?_ λ_ _ e=>e)))
   rintro⟨⟨⟩,st'⟩ s' ⟨rfl,hp,hf,g⟩
   dsimp only
   refine N5 (TQ h6 rfl (N5 (Sx h6 rfl ?_ (hsz2:=LG (Nw ((Up ..).trans (hp.size_eq.trans (Tf _)))) (M7 hs)))))
   rw[hf]
   simp only[bne_self_eq_false,MK,if_false]
   exact N9 (fin st' hp g)
theorem EX{l:N6}{xs:List E9}(hO:∀A' h',(∀b o,s.heap.get? b=UE o->h'.get? b=UE o)->KLt prog w A' { s with heap:=h' } κ kin/\KKi prog w A' { s with heap:=h' } kin xs){Q:E9->N7->Prop}(hl:s.heap.IsList l xs.toArray)(k0:KeysOf κ (QH xs))(hs:xs.length<=sizeLine)
  (fin:∀st':Ov,(N8 st').Perm (QH xs)->Sf κ (N8 st') (QH xs).size->Q (.ref (s.heap.objs.size+1)) { s with heap:=sortedAll s.heap xs ((N8 st').map (·.2)) }):wpAny (Oh prog w) A (call (.builtin "sorted") [.ref l]) Q E s:=by
 refine Calls.call_function_entry kind_sorted plain_sorted entry_sorted (args_sorted1 _) ?_
 unfold Rr.«sorted»
 refine N5 (m:=checkCount "sorted" 1 1 _) (N9 (N5 (collect_list hl (N5 (wpAny_newList ?_)))))
 have z:((s.heap.push (P4 "list" #[] 0)).update s.heap.objs.size (Pb (· ++xs.toArray))).objs.size=s.heap.objs.size+1:=(Qe ..).trans (Uo ..)
 have hL:(((s.heap.push (P4 "list" #[] 0)).update s.heap.objs.size (Pb (· ++xs.toArray))).push (P4 "list" xs.toArray 0)).get? (s.heap.objs.size+1)=UE (P4 "list" xs.toArray 0):=z▸Ox _ rfl
 show wpAny _ _ _ _ _ { s with heap:=((s.heap.push (P4 "list" #[] 0)).update s.heap.objs.size (Pb (· ++xs.toArray))).push (P4 "list" xs.toArray 0) }
 rw[z]
 have hK:∀h',(∀b o,b≠s.heap.objs.size+1->(((s.heap.push (P4 "list" #[] 0)).update s.heap.objs.size (Pb (· ++xs.toArray))).push (P4 "list" xs.toArray 0)).get? b=UE o->h'.get? b=UE o)->KLt prog w A.in1.in1 { s with heap:=h' } κ kin/\KKi prog w A.in1.in1 { s with heap:=h' } kin xs:=λh' hh=>hO _ h' λb o hg=>by
  have lb:=Om hg
  exact hh b o (L9 (MA lb)) ((Py _ _ _ (by rw[z];exact L9 (MA lb))).trans ((PZ _ _ (Nk lb)).trans ((Py _ _ _ (L9 lb)).trans hg)))
 refine N5 (wpAny_holding (QE slot_list_sort {_,hL,rfl} entry_list_sort (CT (s:={ s with heap:=((s.heap.push (P4 "list" #[] 0)).update s.heap.objs.size (Pb (· ++xs.toArray))).push (P4 "list" xs.toArray 0) }) hK hL k0 hs λst' a1 a2=>⟨_,rfl,N9 ⟨_,rfl,fin st' a1 a2⟩⟩) (args_list_sort _)))
end
end L2
namespace L2
open PySem PySem.Spec PyProof.Rows
set_option maxRecDepth 100000
section
variable{prog:Program}{w:Of}{A:Ou}{s:N7}{κ:KeyKind}
end
section
variable{X:Cx}
end
noncomputable def rW(A B:Uq):Uq where
 α:=A.α×B.α
 blt x y:=A.blt x.1 y.1||(!A.blt y.1 x.1&&B.blt x.2 y.2)
 irrefl a:=by simp[A.irrefl,B.irrefl]
 trans a b c h1 h2:=by
  simp only[Bool.or_eq_true,Mv,Bool.not_eq_true']at *;rcases h1 with h1|⟨h1,k1⟩<;>rcases h2 with h2|⟨h2,k2⟩
  ·exact .inl (A.trans _ _ _ h1 h2)
  ·rcases A.negTrans a.1 c.1 b.1 h1 with h|h
   ·exact .inl h
   rw[h]at h2;cases h2
  ·rcases A.negTrans b.1 a.1 c.1 h2 with h|h
   ·rw[h]at h1;cases h1
   exact .inl h
  refine .inr {?_,B.trans _ _ _ k1 k2};cases h:A.blt c.1 a.1 with
  |false=>rfl
  |true=>
   rcases A.negTrans c.1 b.1 a.1 h with h'|h'
   ·rw[h']at h2;cases h2
   rw[h']at h1;cases h1
 negTrans a b c h:=by
  simp only[Bool.or_eq_true,Mv,Bool.not_eq_true']at *;rcases h with h|⟨h,k⟩
  ·rcases A.negTrans a.1 b.1 c.1 h with h|h
   ·exact .inl (.inl h)
   exact .inr (.inl h)
  cases e1:A.blt a.1 b.1 with
  |true=>exact .inl (.inl rfl)
  |false=>
   cases e2:A.blt b.1 c.1 with
   |true=>exact .inr (.inl rfl)
   |false=>
    have f1:A.blt b.1 a.1=false:=by
     cases e3:A.blt b.1 a.1 with
     |false=>rfl
     |true=>
      rcases A.negTrans b.1 c.1 a.1 e3 with h'|h'
      ·rw[h']at e2;cases e2
      rw[h']at h;cases h
    have f2:A.blt c.1 b.1=false:=by
     cases e3:A.blt c.1 b.1 with
     |false=>rfl
     |true=>
      rcases A.negTrans c.1 a.1 b.1 e3 with h'|h'
      ·rw[h']at h;cases h
      rw[h']at e1;cases e1
    rcases B.negTrans a.2 b.2 c.2 k with h'|h'
    ·exact .inl (.inr ⟨f1,h'⟩)
    exact .inr (.inr ⟨f2,h'⟩)
 total a b h1 h2:=by
  simp only[Bool.or_eq_false_iff,Bool.and_eq_false_iff,Bool.not_eq_false']at *;have e:=A.total _ _ h1.1 h2.1;refine QJ e (B.total _ _ ?_ ?_)
  ·rcases h1.2 with h|h
   ·rw[h]at h2;cases h2.1
   exact h
  rcases h2.2 with h|h
  ·rw[h]at h1;cases h1.1
  exact h
theorem uQ{A B:Uq}(a:A.α)(x y:B.α):(rW A B).blt (a,x) (a,y)=B.blt x y:=by
 show(A.blt a a||(!A.blt a a&&B.blt x y))=_;simp[A.irrefl]
theorem uY{A B:Uq}{a b:A.α}(x y:B.α)(h:a≠b):(rW A B).blt (a,x) (b,y)=A.blt a b:=by
 show(A.blt a b||(!A.blt b a&&B.blt x y))=_;cases e:A.blt a b with
 |true=>rfl
 |false=>
  cases e2:A.blt b a with
  |true=>rfl
  |false=>exact absurd (A.total _ _ e e2) h
noncomputable def yD:Uq where
 α:=Int
 blt a b:=decide (a<b)
 irrefl a:=by simp
 trans a b c h1 h2:=by simp only[decide_eq_true_eq]at *;lia
 negTrans a b c h:=by simp only[decide_eq_true_eq]at *;lia
 total a b h1 h2:=by simp only[decide_eq_false_iff_not]at *;lia
noncomputable abbrev LkT:=Str×Str×Str×Int
noncomputable def wK:Uq:=rW strKind.toKeyOrd (rW strKind.toKeyOrd (rW strKind.toKeyOrd yD))
noncomputable def lr(x:LkT):wK.α:=(x.1.cps.toList,x.2.1.cps.toList,x.2.2.1.cps.toList,x.2.2.2)
theorem lQ{a b:Str}(h:a.cps.toList=b.cps.toList):a=b:=by
 obtain⟨⟨a⟩⟩:=a;obtain⟨⟨b⟩⟩:=b;cases h;rfl
theorem Lc(x y:LkT):wK.blt (lr x) (lr y)=if x.1=y.1 then if x.2.1=y.2.1 then if x.2.2.1=y.2.2.1 then decide (x.2.2.2<y.2.2.2)else decide (x.2.2.1.cps.toList<y.2.2.1.cps.toList)else decide (x.2.1.cps.toList<y.2.1.cps.toList)else decide (x.1.cps.toList<y.1.cps.toList):=by
 obtain⟨a,b,c,n⟩:=x;obtain⟨a',b',c',n'⟩:=y;dsimp only;by_cases h1:a=a'
 ·subst h1;rw[if_pos rfl];refine(uQ (A:=strKind.toKeyOrd) (B:=rW strKind.toKeyOrd (rW strKind.toKeyOrd yD)) a.cps.toList _ _).trans ?_;by_cases h2:b=b'
  ·subst h2;rw[if_pos rfl];refine(uQ (A:=strKind.toKeyOrd) (B:=rW strKind.toKeyOrd yD) b.cps.toList _ _).trans ?_;by_cases h3:c=c'
   ·subst h3;rw[if_pos rfl];exact uQ (A:=strKind.toKeyOrd) (B:=yD) c.cps.toList _ _
   rw[if_neg h3];exact uY (A:=strKind.toKeyOrd) (B:=yD) (a:=c.cps.toList) (b:=c'.cps.toList) _ _ λe=>h3 (lQ e)
  rw[if_neg h2];exact uY (A:=strKind.toKeyOrd) (B:=rW strKind.toKeyOrd yD) (a:=b.cps.toList) (b:=b'.cps.toList) _ _ λe=>h2 (lQ e)
 rw[if_neg h1];exact uY (A:=strKind.toKeyOrd) (B:=rW strKind.toKeyOrd (rW strKind.toKeyOrd yD)) (a:=a.cps.toList) (b:=a'.cps.toList) _ _ λe=>h1 (lQ e)
theorem CA{x y:LkT}(h:lr x=lr y):x=y:=by
 obtain⟨a,b,c,n⟩:=x;obtain⟨a',b',c',n'⟩:=y;have h1:a.cps.toList=a'.cps.toList:=congrArg (λz:List Nat×List Nat×List Nat×Int=>z.1) h;have h2:b.cps.toList=b'.cps.toList:=congrArg (λz:List Nat×List Nat×List Nat×Int=>z.2.1) h;have h3:c.cps.toList=c'.cps.toList:=congrArg (λz:List Nat×List Nat×List Nat×Int=>z.2.2.1) h;have h4:n=n':=congrArg (λz:List Nat×List Nat×List Nat×Int=>z.2.2.2) h;rw[lQ h1,lQ h2,lQ h3,h4]
def jB(h:OC)(v:E9)(x:LkT):Prop:=∃p xs t1 t2 t3 t4,v=.ref p/\h.IsTuple p xs/\xs.toList=[.str x.1 t1,.str x.2.1 t2,.str x.2.2.1 t3,.int x.2.2.2 t4]
theorem jB.one{h:OC}{v:E9}{x y:LkT}(a:jB h v x)(b:jB h v y):x=y:=by
 obtain⟨p,xs,t1,t2,t3,t4,rfl,⟨o,e,c,m,d⟩,l⟩:=a;obtain⟨p',xs',u1,u2,u3,u4,ep,⟨o',e',c',m',d'⟩,l'⟩:=b;cases ep;rw[e]at e';cases e';rw[d]at d';cases d';rw[l]at l';injections;obtain⟨_,_,_,_⟩:=x;obtain⟨_,_,_,_⟩:=y;simp_all
theorem jB.kept{h h':OC}{v:E9}{x:LkT}(k:∀b o,h.get? b=UE o->h'.get? b=UE o)(a:jB h v x):jB h' v x:=by
 obtain⟨p,xs,t1,t2,t3,t4,rfl,⟨o,e,c,m,d⟩,l⟩:=a;exact{p,xs,t1,t2,t3,t4,rfl,{o,k _ _ e,c,m,d},l}
open Classical in
noncomputable def qV(h:OC):KeyKind where
 toKeyOrd:=wK
 keyOf v:=if e:∃x,jB h v x then UE (lr e.choose)else UG
 dflt:=lr (⟨#[]⟩,⟨#[]⟩,⟨#[]⟩,0)
open Classical in
theorem sL{h:OC}{v:E9}{x:LkT}(a:jB h v x):(qV h).keyOf v=UE (lr x):=by
 have e:∃x,jB h v x:=⟨x,a⟩;show(if e:∃x,jB h v x then UE (lr e.choose)else UG)=_;rw[dif_pos e,jB.one e.choose_spec a]
open Classical in
theorem xh{h:OC}{v:E9}{k:wK.α}(e:(qV h).keyOf v=UE k):∃x,jB h v x/\k=lr x:=by
 by_cases c:∃x,jB h v x
 ·obtain⟨x,a⟩:=c;rw[sL a]at e;exact{x,a,(Oj e).symm}
 have e:(if e:∃x,jB h v x then UE (lr e.choose)else UG)=UE k:=e;rw[dif_neg c]at e;cases e
section
variable{prog:Program}{w:Of}{A:Ou}{E:E9->N7->Prop}{s:N7}
theorem qz{a b:Str}{t u:Tok}{Q:Bool->N7->Prop}(h:Q (decide (a.cps.toList<b.cps.toList)) s):wpAny (Oh prog w) A (oneLt' false (.str a t) (.str b u)) Q E s:=by
 rw[oneLt'_eq];simp only[MK,if_false,pure_bind];refine N5 (wpAny_richCompare_same (op:=.Lt) (QF s a t) (QF s b u) slot_str_lt (call_str_lt {by simp,?_}));exact Qt h
theorem Dl{a b:Int}{t u:Tok}{Q:Bool->N7->Prop}(h:Q (decide (a<b)) s):wpAny (Oh prog w) A (oneLt' false (.int a t) (.int b u)) Q E s:=by
 rw[oneLt'_eq];simp only[MK,if_false,pure_bind];exact N5 (PyProof.Rows.lt_int (Qt h):wpAny (Oh prog w) A (Oy .Lt (.int a t) (.int b u)) _ E s)
theorem EH(o:Bool){a b:Str}{t u:Tok}{Q:Bool->N7->Prop}(h:Q (decide (a.cps.toList<b.cps.toList)) s):wpAny (Oh prog w) A (oneLt' o (.str a t) (.str b u)) Q E s:=by
 cases o
 ·exact qz h
 exact oneLt_str h
theorem y6{a b:Str}(h:a≠b):(a==b)=false:=beq_eq_false_iff_ne.mpr h
theorem Jl{h0:OC}(kept:∀b o,h0.get? b=UE o->s.heap.get? b=UE o):KLt prog w A s (qV h0) (UD true):=by
 intro E x y ka kb Q ha hb q;obtain⟨⟨a,b,c,n⟩,ax,rfl⟩:=xh ha;obtain⟨⟨a',b',c',n'⟩,ay,rfl⟩:=xh hb;obtain⟨p,xs,t1,t2,t3,t4,rfl,⟨o,e1,c1,n1,d1⟩,l1⟩:=ax.kept kept;obtain⟨p',ys,u1,u2,u3,u4,rfl,⟨o2,e2,c2,n2,d2⟩,l2⟩:=ay.kept kept;have q:Q (wK.blt (lr (a,b,c,n)) (lr (a',b',c',n'))) s:=q;rw[Lc]at q;dsimp only at q;have zs:decide (xs.size<ys.size)=false:=by
  have h1:=congrArg Pw l1;have h2:=congrArg Pw l2;rw[LI]at h1 h2;rw[h1,h2];rfl
 have sS:∀(x y:Str)(t u:Tok)(b:Bool),(x==y)=b->Qm A s (.str x t) (.str y u) b:=λx y t u b e=>e▸Q5 x t y u;have sI:∀(x y:Int)(t u:Tok)(b:Bool),(x==y)=b->Qm A s (.int x t) (.int y u) b:=λx y t u b e=>e▸Q4 x t y u;rw[tD];refine N5 (RD e1 d1 ?_);refine N5 (RD e2 d2 ?_);rw[l1,l2];simp only[List.zip_cons_cons,List.zip_nil_left,Tx,List.zipIdx_nil,TU,Ui];by_cases h1:a=a'
 ·subst h1;rw[if_pos rfl]at q;refine N5 (N5 (N5 (sS _ _ _ _ true (beq_self_eq_true _) prog w _ _ ?_)));rw[if_neg (by simp)];refine N9 ?_;by_cases h2:b=b'
  ·subst h2;rw[if_pos rfl]at q;refine N5 (N5 (sS _ _ _ _ true (beq_self_eq_true _) prog w _ _ ?_));rw[if_neg (by simp)];refine N9 ?_;by_cases h3:c=c'
   ·subst h3;rw[if_pos rfl]at q;refine N5 (N5 (sS _ _ _ _ true (beq_self_eq_true _) prog w _ _ ?_));rw[if_neg (by simp)];refine N9 ?_;by_cases h4:n=n'
    ·subst h4;rw[decide_eq_false (Int.lt_irrefl _)]at q;refine N5 (N5 (sI _ _ _ _ true (beq_self_eq_true _) prog w _ _ ?_));rw[if_neg (by simp)];refine N9 (N9 (N9 ?_));rw[zs];exact q
    refine N5 (N5 (sI _ _ _ _ false (beq_eq_false_iff_ne.mpr h4) prog w _ _ ?_));rw[if_pos (by rfl)];exact N5 (Dl (N9 (N9 (N9 q))))
   rw[if_neg h3]at q;refine N5 (N5 (sS _ _ _ _ false (y6 h3) prog w _ _ ?_));rw[if_pos (by rfl)];exact N5 (qz (N9 (N9 (N9 q))))
  rw[if_neg h2]at q;refine N5 (N5 (sS _ _ _ _ false (y6 h2) prog w _ _ ?_));rw[if_pos (by rfl)];exact N5 (qz (N9 (N9 (N9 q))))
 rw[if_neg h1]at q;refine N5 (N5 (N5 (sS _ _ _ _ false (y6 h1) prog w _ _ ?_)));rw[if_pos (by rfl)];exact N5 (EH _ (N9 (N9 (N9 q))))
theorem uP{Q:List (Option E9)->N7->Prop}:∀{vs:List E9},(∀v∈vs,∃x,jB s.heap v x)->(∀ts:List (Option E9),(∀u∈ts,∃i t,u=UE (QB i t))->ts.length=vs.length->Q ts s)->wpAny (Oh prog w) A (vs.mapM firstOfTuple') Q E s:=by
 intro vs;induction vs generalizing Q with
 |nil=>intro h q;rw[List.mapM_nil];exact N9 (q [] (λ_ z=>by cases z) rfl)
 |cons v vs ih=>
  intro h q;obtain⟨x,p,xs,t1,t2,t3,t4,rfl,⟨o,e1,c1,n1,d1⟩,l1⟩:=h v LB;rw[Ur];refine N5 ?_;rw[oV];refine N5 (Qv (T:="tuple") ⟨o,e1,c1⟩ ?_);rw[if_neg (by simp)];refine N5 (RD e1 d1 (N9 ?_));have x0:xs[0]?=UE (.str x.1 t1):=by rw[<-L5,l1];rfl
  refine N5 (ih (λv hv=>h v (Lx _ hv)) λts ht hl=>N9 (q _ (λu hu=>?_) (by simp[hl])));rcases Lu.mp hu with rfl|hu
  ·exact{_,_,x0}
  exact ht u hu
theorem xi{Q:List E9->N7->Prop}:∀{us:List E9},(∀u∈us,∃i t,u=QB i t)->Q (us.map λ_=>Pm "str") s->wpAny (Oh prog w) A (us.mapM typeOf) Q E s:=by
 intro us;induction us generalizing Q with
 |nil=>intro _ q;rw[List.mapM_nil];exact N9 q
 |cons u us ih=>
  intro h q;obtain⟨i,t,rfl⟩:=h u LB;rw[Ur];refine N5 (Qv (QF _ _ _) ?_);exact N5 (ih (λv hv=>h v (Lx _ hv)) (N9 q))
theorem JG{xs:List E9}(h:∀v∈xs,∃x,jB s.heap v x):KKi prog w A s (UD true) xs:=by
 intro E v v2 vs Q e q;rw[e]at h;rw[keyKind'_eq,Tg];refine N5 (wpAny_map ?_);refine uP h λts ht hl=>?_;have all:ts.toArray.all (·.isSome)=true:=by
  rw[Tz,MJ];intro u hu;obtain⟨i,t,rfl⟩:=ht u hu;rfl
 rw[if_pos all];refine N5 (P7 ?_);rw[oneTypeOnly'_eq];have ef:(ts.toArray.filterMap id)=(ts.filterMap id).toArray:=by simp
 rw[ef,Tg];have hf:∀u∈ts.filterMap id,∃i t,u=QB i t:=λu hu=>by
  obtain⟨a,ha,e⟩:=NC.mp hu;obtain⟨i,t,rfl⟩:=ht a ha;exact{i,t,(Oj e).symm}
 obtain⟨u0,us0,eu⟩:∃u0 us0,ts.filterMap id=u0::us0:=by
  cases ts with
  |nil=>simp at hl
  |cons a r=>
   obtain⟨i,t,rfl⟩:=ht a LB;exact{_,_,by rw[List.filterMap_cons_some];rfl}
 rw[eu]at hf⊢;refine N5 (N5 (wpAny_map (xi hf ?_)));have e0:(((u0::us0).map λ_=>Pm "str").toArray)[0]?=UE (Pm "str"):=by simp
 rw[e0];have ea:((((u0::us0).map λ_=>Pm "str").toArray).all λx=>x==Pm "str")=true:=by
  rw[Tz,List.all_map,MJ];intro _ _;rfl
 dsimp only;rw[if_pos ea];exact N9 (N9 q)
end
def kE(l:List LkT):Prop:=l.Pairwise λa b=>wK.blt (lr b) (lr a)=false
theorem Dg{a b:List LkT}(p:a.Perm b)(ha:kE a)(hb:kE b):a=b:=
 List.Perm.eq_of_pairwise (le:=λa b=>wK.blt (lr b) (lr a)=false) (λx y _ _ h1 h2=>CA (wK.total _ _ h2 h1)) ha hb p
theorem vz{h:OC}{vs:List E9}{f:E9->LkT}(hS:∀v∈vs,jB h v (f v)){xs:Array Og}(hp:xs.Perm (QH vs))(hs:Sf (qV h) xs (QH vs).size) :
  (xs.map (·.2)).toList.Perm vs/\kE ((xs.map (·.2)).toList.map f):=by
 have hl:xs.toList.Perm (vs.zip vs):=by rw[<-Us];exact Nf.mp hp
 have hmem:∀p,p∈xs.toList->p.1=p.2/\p.1∈vs:=λp hp'=>mem_zip_self (hl.mem_iff.mp hp')
 refine{?_,?_}
 ·have h1:=hl.map (·.2);rw[List.map_snd_zip (Ln _)]at h1;rw[Array.toList_map];exact h1
 unfold kE
 rw[MT]
 intro i j hi hj hij
 have hi':i<xs.size:=by simpa using hi
 have hj':j<xs.size:=by simpa using hj
 have h1:=hs i j (Nj hij) (by rw[<-hp.size_eq];exact hj')
 have kk:∀(k:Nat)(hk:k<xs.size),KK (qV h) xs k=lr (f xs[k].2):=λk hk=>by
  obtain⟨e1,m⟩:=hmem xs[k] (by simp);unfold KK;rw[getElem?_pos xs k hk];show((qV h).keyOf xs[k].1).getD _=_;rw[sL (hS _ m),<-e1];rfl
 rw[kk i hi',kk j hj']at h1
 simp only[List.getElem_map,Array.getElem_toList,Array.getElem_map]
 exact h1
theorem qJ:∀(ts:List N6),UH (ts.map V.ref) (ts.map Oo)
 | []=>.nil
 |n::ss=>.cons rfl (qJ ss)
theorem Ba:∀{vs:List E9}{ts:List N6},vs.Perm (ts.map Oo)->∃ts':List N6,ts'.Perm ts/\vs=ts'.map Oo:=by
 intro vs ts h;have h1:=h.map λv=>match v with|Oo a=>a|_=>0
 rw[MM]at h1;refine{_,h1.trans (.of_eq (by simp[Ti])),?_};rw[MM];refine(N0 _).symm.trans (MV λv hv=>?_);obtain⟨a,_,rfl⟩:=LN.mp (h.mem_iff.mp hv);rfl
noncomputable def Ez(x:LkT):List V:=[.str x.1,.str x.2.1,.str x.2.2.1,.int x.2.2.2]
section
variable{X:Cx}
theorem JC{pins:List (N6×Obj)}{σ:St}{H:Hp}{s:N7}(I:Inv X pins σ H s){a:N6}{x:LkT}(h:SqT X.K H a (Ez x)):jB s.heap (.ref a) x:=by
 obtain⟨its,r,⟨o,e,c,n,d⟩,_⟩:=I.tuple h;cases r with
 |cons r1 r=>
  cases r with
  |cons r2 r=>
   cases r with
   |cons r3 r=>
    cases r with
    |cons r4 r=>
     cases r;obtain⟨t1,rfl⟩:=r1;obtain⟨t2,rfl⟩:=r2;obtain⟨t3,rfl⟩:=r3;obtain⟨t4,rfl⟩:=r4;exact{a,_,t1,t2,t3,t4,rfl,⟨o,e,c,n,d⟩,rfl}
theorem lR:dh X (.builtin "sorted") (λxs H Q=>∃(p:N6)(ts:List N6)(f:N6->LkT),xs=[.ref p]/\SqL X.K H p (ts.map V.ref)/\(∀a∈ts,SqT X.K H a (Ez (f a)))/\∀(l:N6)(ts':List N6),ts'.Perm ts->kE (ts'.map f)->H l=UG->Q (.ref l) (upd H l (.lst (ts'.map V.ref)))):=by
 intro pins s σ H xs us Q I r h;obtain⟨p,ts,f,rfl,hq,ht,q⟩:=h;obtain⟨u,rfl,rx⟩:=UR r;cases rx;obtain⟨its,rv,pl,hz⟩:=I.list hq;have ei:=oi rv;subst ei;rw[Lm]at hz;have hp:s.heap.objs.size<=s.heap.objs.size+1:=Ng _;have hN:H (s.heap.objs.size+1)=UG:=I.hok.fresh hp;have hS:∀v∈ts.map Oo,jB s.heap v (f (match v with| .ref a=>a|_=>0)):=λv hv=>by
  obtain⟨a,ha,rfl⟩:=LN.mp hv;exact JC I (ht a ha)
 refine EX (κ:=qV s.heap) (kin:=UD true) (λA' h' k=>⟨Jl (s:={ s with heap:=h' }) k,JG (s:={ s with heap:=h' }) λv hv=>⟨_,(hS v hv).kept k⟩⟩) pl.isList (λz hz'=>?_) (by rw[Lm];exact hz) λst' p1 p2=>?_
 ·rw[Us]at hz';exact{_,sL (hS _ (mem_zip_self hz').2)}
 obtain⟨a1,a2⟩:=vz hS p1 p2;obtain⟨ts',b1,b2⟩:=Ba a1;rw[b2,MM]at a2;refine{.ref (s.heap.objs.size+1),_,I.laid (t':=s.toks) (λb o e=>sortedAll_old e) hp ?_,rfl,q _ ts' b1 a2 hN};obtain⟨e,he⟩:=sortedAll_at s.heap (ts.map Oo) ((N8 st').map (·.2));exact{by rw[Lm,b1.length_eq];exact hz,_,e,b2▸qJ ts',by rw[RS];exact he}
end
noncomputable def okV:V->Bool
 | .int _=>true
 | .str x=>Ow x
 |_=>false
noncomputable def dV:V->QP
 | .int i=>.int i
 | .str x=>.str x
 |_=>.none
theorem uS{K:Oc}{H:Hp}:∀{vs:List V},vs.all okV=true->eg K H vs (vs.map dV)/\OJ (vs.map dV)=true/\OP (vs.map dV)=0
 | [],_=>⟨.nil,rfl,rfl⟩
 |v::vs,h=>by
  rw[NH,Mv]at h;obtain⟨h1,h2,h3⟩:=uS (K:=K) (H:=H) h.2;cases v with
  |int i=>exact{.cons (.int i) h1,by rw[LC];simp[OJ,OU,dV,h2],by rw[LC];simp[OP,Pl,dV,h3]}
  |str x=>
   have hx:Ow x=true:=h.1;exact{.cons (.str x) h1,by rw[LC];simp[OJ,OU,dV,h2,hx],by rw[LC];simp[OP,Pl,dV,h3]}
  |_=>exact absurd h.1 Lv
theorem DK:∀{xs ys:List V},xs.all okV=true->ys.all okV=true->QI (xs.map dV) (ys.map dV)=decide (xs=ys)
 | [],[],_,_=>by simp[QI]
 | [],_::_,_,_=>by simp[QI]
 |_::_,[],_,_=>by simp[QI]
 |x::xs,y::ys,hx,hy=>by
  rw[NH,Mv]at hx hy;have ih:=DK hx.2 hy.2;rw[LC,LC,QI,ih];cases x with
  |int i=>
   cases y with
   |int j=>by_cases e:i=j<;>simp[dV,P0,e]
   |str z=>simp[dV,P0]
   |_=>exact absurd hy.1 Lv
  |str z=>
   cases y with
   |int j=>simp[dV,P0]
   |str z'=>by_cases e:z=z'<;>simp[dV,P0,e]
   |_=>exact absurd hy.1 Lv
  |_=>exact absurd hx.1 Lv
section
variable{X:Cx}
theorem Gx{pins:List (N6×Obj)}{σ:St}{H:Hp}{s:N7}(I:Inv X pins σ H s){A:Ou}(hu:A.units+60<PB){a b:N6}{vs us:List V}(ha:SqT X.K H a vs)(hb:SqT X.K H b us)(va:vs.all okV=true)(vb:us.all okV=true):Qm A s (.ref b) (.ref a) (decide (us=vs)):=by
 obtain⟨r1,c1,d1⟩:=uS (K:=X.K) (H:=H) va;obtain⟨r2,c2,d2⟩:=uS (K:=X.K) (H:=H) vb;obtain⟨as,z1⟩:=I.reads (.tup ha r1) (u:=.ref a) rfl;obtain⟨bs,z2⟩:=I.reads (.tup hb r2) (u:=.ref b) rfl;have:=SeqAt.eqAt_reads _ _ A s _ _ _ _ z2 z1 (by simp[OU,c2]) (by simp[OU,c1]) (by simp[Pl,d1,d2];lia);rw[show P0 (.tuple (us.map dV)) (.tuple (vs.map dV))=decide (us=vs) by rw[P0];exact DK vb va]at this;exact this
theorem DJ{a:N6}{f:N6->List V}{vs:List V}:∀(bs:List N6),((bs.map Oo).toArray.any λy=>match y with| .ref b=>decide (f b=vs)|_=>false)=bs.any λb=>decide (f b=vs):=λbs=>by
 rw[List.any_toArray,List.any_map];rfl
theorem Dv(hu:X.A.units+64<PB):OpR X (Oy .NotIn) (λx y H Q=>∃(a p:N6)(vs:List V)(bs:List N6)(f:N6->List V),x=.ref a/\y=.ref p/\SqT X.K H a vs/\vs.all okV=true/\SqL X.K H p (bs.map V.ref)/\(∀b∈bs,SqT X.K H b (f b)/\(f b).all okV=true)/\Q (.bl (!bs.any λb=>decide (f b=vs))) H):=by
 intro pins s σ H x y v u Q I rx ry h;obtain⟨a,p,vs,bs,f,rfl,rfl,ha,va,hp,hb,q⟩:=h;cases rx;cases ry;obtain⟨its,r1,pl,_⟩:=I.list hp;have eits:its=bs.map Oo:=oi r1;subst eits;refine SK (λy=>match y with| .ref b=>decide (f b=vs)|_=>false) pl.isList (λy hy=>?_) ?_
 ·have hy':y∈bs.map Oo:=by simpa using hy
  obtain⟨b,hbm,rfl⟩:=LN.mp hy';exact Gx I (by show X.A.units+1+60<PB;lia) ha (hb b hbm).1 va (hb b hbm).2
 rw[DJ (a:=a)];exact{.bl _,H,I,rfl,q}
end
noncomputable def GX(ta:TA):TI:=λσ H R=>ta σ H λvs H1=>∃i j c:Int,vs=[.int i,.int j,.int c]/\QS i j c=true/\-1000<c/\c≠0/\c<1000/\0<=OS i j c/\R (Cy i c (kY i j c)) H1
section
variable{X:Cx}{tg:Expr}
theorem yF{a b c:Expr}{ta:TA}{p pos:Pos}(hg:Gl X "range")(hm:X.mg "range"=UG)(ha:PA X [a,b,c] ta)(hs:Oi [a,b,c] X.env=[(false,OT a X.env),(false,OT b X.env),(false,OT c X.env)]:=by rfl)(hs2:Oi [b,c] X.env=[(false,OT b X.env),(false,OT c X.env)]:=by rfl) :
  PI X tg (.Call (.Name "range" p) [a,b,c] [] pos) (GX ta):=by
 intro pins s σ H R I h
 refine Call_ (oy I hg hm boot_range (Pk (thn (ha pos pins s σ H _ I h) λus s1 ⟨vs,H1,I1,r1,q1⟩=>?_) (by rw[hs,hs2]) (by rw[hs2];rfl)))
 obtain⟨i,j,k,e,sm,k2,k0,k1,z0,q⟩:=q1
 subst e
 cases r1 with
 |cons r rr=>
  cases rr with
  |cons r' rr=>
   cases rr with
   |cons r'' rr=>
    cases rr
    obtain⟨t,rfl⟩:=r
    obtain⟨t',rfl⟩:=r'
    obtain⟨t'',rfl⟩:=r''
    refine call_range_3 (by lia) ?_ (LL (PyProof.noPylong_small (by lia)))
    refine SG (IsRange.new ..) sm ?_
    have I2:Inv X pins σ H1 { s1 with heap:=s1.heap.push { cls:=.type "range",data:=.fields #[.int i t,.int j t',.int k t''] },toks:=s1.toks }:=I1.kept λb o z=>Od _ z
    refine{(s1.heap.push { cls:=.type "range",data:=.fields #[.int i t,.int j t',.int k t''] }).objs.size,[(s1.heap.push { cls:=.type "range",data:=.fields #[.int i t,.int j t',.int k t''] }).objs.size],_,_,H1,rfl,I2.kept (t':=s1.toks) λb o z=>Od _ z,xn _ i k (kY i j k),?_,λb hb=>?_,q}
    ·have e1:i+((0:Nat):Int)*k=i:=by simp
     have e2:((kY i j k:Nat):Int)-((0:Nat):Int)=OS i j k:=by unfold kY;lia
     show RL _ _ (i+((0:Nat):Int)*k) (((kY i j k:Nat):Int)-((0:Nat):Int)) k;rw[e1,e2];exact Ox _ rfl
    have e:b=(s1.heap.push { cls:=.type "range",data:=.fields #[.int i t,.int j t',.int k t''] }).objs.size:=by simpa using hb
    subst e
    exact I2.w6 (Ln _) (I2.hok.fresh (Ln _))
end
theorem yB{i j:Int}(h:j<=i)(h0:-1<=j)(h1:i<1000):QS i j (-1)=true/\0<=OS i j (-1)/\kY i j (-1)=(i-j).toNat:=by
 have e:OS i j (-1)=i-j:=by
  unfold OS;simp;lia
 refine{?_,by rw[e];lia,by unfold kY;rw[e]};have sm:∀x:Int,-1000<=x->x<=1001->QW x=true:=λx a b=>by
  unfold QW;rw[Mv,decide_eq_true_iff,decide_eq_true_iff];lia
 unfold QS;rw[e];simp only[sm i (by lia) (by lia),sm j (by lia) (by lia),sm (i-j) (by lia) (by lia),sm (-1) (by decide) (by decide),sm (j+(-1+1)) (by lia) (by lia),NI,Bool.and_true];simp
noncomputable abbrev gK(us ws:List E9):List E9:=us++ws.take 1
noncomputable abbrev gKV(vs zs:List V):List V:=vs++zs.take 1
def vY(P:Program)(w:Of)(K:Oc)(mg:Str->Option E9)(base:OC)(k:Nat)(x:Str)(ps:List Str)(dvs:List V)(sp:Sp):Prop:=
 ∃f fd ds,jq P w K mg base CX0 k f fd ps sp/\UL K fd ps []/\UL K fd ps ds/\UH dvs ds/\Pf K (.ref f)=true/\mg x=UE (.ref f)/\(∃oc od osl,K.lookup f=UE ⟨oc,od,.func fd,osl⟩)/\vM K fd ps [ps.getLastD Ot] gK gKV
section
variable{P:Program}{w:Of}{K:Oc}{mg:Str->Option E9}{base:OC}{k:Nat}{x:Str}{ps:List Str}{dvs:List V}{sp:Sp}
theorem vY.d(D:vY P w K mg base k x ps dvs sp):Eh P w K mg base k x ps dvs sp:=by
 obtain⟨f,fd,ds,F,b,b2,v,kp,m,l,_⟩:=D;exact⟨f,fd,ds,F,b,b2,v,kp,m,l⟩
theorem vY.has(D:vY P w K mg base k x ps dvs sp):Has P w K mg base k x ps sp:=D.d.has
structure ox(K:Oc)(mg:Str->Option E9)(x:Str)(st:OH)(ps:List Str)(dvs:List V):Prop where
 ex:∃(f:N6)(oc:E9)(od:Option N6)(dV kV doc pm:E9)(an:Option N6)(cdv ct:E9)(osl:Array (Option E9))(ds:List E9),K.lookup f=UE {oc,od,.func (Pj x x (bG st) (bh st) (aq st) dV kV doc pm an cdv ct),osl}/\QK K cdv x=true/\Pf K (.ref f)=true/\mg x=UE (.ref f)/\UH dvs ds/\
  UL K (Pj x x (bG st) (bh st) (aq st) dV kV doc pm an cdv ct) ps []/\UL K (Pj x x (bG st) (bh st) (aq st) dV kV doc pm an cdv ct) ps ds/\vM K (Pj x x (bG st) (bh st) (aq st) dV kV doc pm an cdv ct) ps [ps.getLastD Ot] gK gKV
abbrev ox.Hz{st:OH}(_:ox K mg x st ps dvs)(P:Program)(w:Of)(base:OC)(k:Nat)(sp:Sp):Prop:=vY P w K mg base k x ps dvs sp
theorem ox.hs{st:OH}{N:List Str}(F:ox K mg x st ps dvs)(S:aB N ps (aq st))
  (hbody:∀(f:N6)(cdv:E9)(A:Ou)(outer:List Env)(s:N7)(H:Hp)(vs:List V)(Q:VK)(E:XK),dD k (A.deeper (Qu x (aq st) s.heap.objs.size f cdv))->(A.deeper (Qu x (aq st) s.heap.objs.size f cdv)).units+64<PB->sp vs H Q E->
   ∃t,PSs (vQ CX0 P w K mg base N x (aq st) f cdv A outer s H E).nox (bh st) t/\t { nx:=λ_ H'=>Q .non H',rt:=Q } (UQ N vs) H) (len:∀vs H Q E,sp vs H Q E->vs.length=ps.length:=by intro _ _ _ _ h;cases h;subst_vars;rfl):vY P w K mg base (k+1) x ps dvs sp:=by
 obtain⟨f,oc,od,dV,kV,doc,pm,an,cdv,ct,osl,ds,lk,hcd,kp,m,hv,b1,b2,b3⟩:=F.ex
 refine{f,_,ds,Gf lk hcd S len λA outer s H vs Q E hr hsp=>?_,b1,b2,hv,kp,m,⟨oc,od,osl,lk⟩,b3}
 obtain⟨t,h,q⟩:=hbody f cdv A outer s H vs Q E hr hr.units hsp
 exact⟨t,h.nox,q⟩
end
theorem uJ{X:Cx}{j k:Nat}{x nm:Str}{ps:List Str}{dvs:List V}{sp:Sp}{e v:Expr}{es:List Expr}{t:TA}{tv:TE}{p pos kpos:Pos}(D:vY X.prog X.w X.K X.mg X.base j x ps dvs sp)(hr:dD k X.A)(ha:PA X (e::es) t)(hv:PE X v tv)(hj:j<=k:=by decide)(hn:ps.getLastD Ot=nm:=by rfl)(hg:Gl X x:=by rfl)
  (hdb:(x==("__debug__":Str))=false:=by decide) (he:Oi (e::es) X.env=(false,OT e X.env)::Oi es X.env:=by rfl) (hpl:((O7 pos (Oi (e::es) X.env)).any (·.1)||(PD pos (O4 [⟨UE nm,v,kpos⟩] X.env)).any (·.1.isNone))=false:=by rfl) :
  PE X (.Call (.Name x p) (e::es) [⟨UE nm,v,kpos⟩] pos) (Ce sp gKV E0 t (Cu tv EA)):=by
 obtain⟨f,fd,ds,F,_,_,_,kp,m,_,b⟩:=D
 subst hn
 exact CV F (hr.mono hj) hg m kp b uG ha (Ft hv HN) rfl rfl hdb he hpl
end L2
namespace K32
open PySem L2
local macro_rules|`($a^ae)=>`(aa $a ae)
local macro_rules|`($a^$b^$c)=>`(aa $a ($b^$c))
local macro_rules|`(())=>`(by first|lia|omega)
local macro_rules|`(∅)=>`(by decide)
theorem scM{N P:List Str}{sc:Qq}(k:sc.kind=.function:=by rfl)(c:sc.isCoroutine=false:=by rfl)(g:sc.isGenerator=false:=by rfl)(n:N.Nodup:=by decide+kernel)(p:N.take P.length=P:=by rfl)(q:∀x∈P,sc.names.lookup x=UE .local\/sc.names.lookup x=UE .cell:=by decide+kernel)(f:∀y∈sc.names,y.2≠ .free:=by decide+kernel):aB N P sc:=⟨k,c,g,n,p,q,f⟩
theorem px{X:Cx}{a b:Expr}{ta tb:TE}{pos:Pos}(hu:X.A.units+64<PB)(ha:PE X a ta)(hb:PE X b tb)(hs:zk b:=by exact λ_ _=>rfl):PE X (.Subscript a b pos) (tOp (Jj X.K) ta tb):=Jo (GL hu) ha hb hs
theorem pgn{X:Cx}{pos:Pos}{i:Nat}{x:Str}(hN:X.N.Nodup)(hi:X.N[i]?=UE x)(hx:Loc X.env.scope x:=by first|exact LL rfl|exact MY rfl)(hf:X.fn x=true\/X.env.scope.names.lookup x=UE .local:=by first|exact .inl rfl|exact .inr rfl|assumption):PG X (.Name x pos) (ny i):=zh hN hi hx hf
theorem pst{X:Cx}(i:Nat){x:Str}{e:Expr}{te:TE}{pos pos':Pos}(hN:X.N.Nodup)(he:PE X e te)(hi:X.N[i]?=UE x:=by rfl)(hx:Loc X.env.scope x:=by first|exact LL rfl|exact MY rfl)(hs:RZ e (UE (.Name x pos')) pos.line X.env=pure false:=by rfl)(hf:X.fn x=true\/X.env.scope.names.lookup x=UE .local:=by first|exact .inl rfl|exact .inr rfl|assumption):PS X (.Assign [.Name x pos'] e pos) (FH te (ny i)):=Ii hN hi hx he hs hf
theorem pcB{X:Cx}{id:String}{r:List V->Hp->VK->Prop}{x:Str}{e:Expr}{es:List Expr}{t:TA}{p pos:Pos}(hc:dh X (.builtin id) r)(hm:X.mg x=UG)(ha:PA X (e::es) t)(hg:Gl X x:=by rfl)(hv:Pu x=UE (.builtin id):=by boot_by_name)(hn:x≠"__name__":=by decide)(hdb:(x==("__debug__":Str))=false:=by decide)(he:Oi (e::es) X.env=(false,OT e X.env)::Oi es X.env:=by rfl)(hpl:(O7 pos (Oi es X.env)).any (·.1)=false:=by rfl):PE X (.Call (.Name x p) (e::es) [] pos) (tCB r t):=CK hc hg hm hv ha hn hdb he hpl
theorem pcT{X:Cx}{T:String}{r:List V->Hp->VK->Prop}{x:Str}{e:Expr}{es:List Expr}{t:TA}{p pos:Pos}(hc:dh X (.type T) r)(hm:X.mg x=UG)(ha:PA X (e::es) t)(hg:Gl X x:=by rfl)(hv:Pu x=UE (.type T):=by boot_by_name)(hn:x≠"__name__":=by decide)(hdb:(x==("__debug__":Str))=false:=by decide)(he:Oi (e::es) X.env=(false,OT e X.env)::Oi es X.env:=by rfl)(hpl:(O7 pos (Oi es X.env)).any (·.1)=false:=by rfl):PE X (.Call (.Name x p) (e::es) [] pos) (tCB r t):=AH hc hg hm hv ha hn hdb he hpl
theorem ptc{X:Cx}{a b:Expr}{ta tb:TE}{pos:Pos}{op:CmpOp}{r:R2}(ho:OpR X (Oy op) r)(ha:PE X a ta)(hb:PE X b tb)(hm:Qi op b=false:=by exact Cf _):PT X (.Compare a [op] [b] pos) (Ga (tOp r ta tb)):=ES ho ha hb hm
theorem pec{X:Cx}{a b:Expr}{ta tb:TE}{pos:Pos}{op:CmpOp}{r:R2}(ho:OpR X (Oy op) r)(ha:PE X a ta)(hb:PE X b tb)(hm:Qi op b=false:=by exact Cf _):PE X (.Compare a [op] [b] pos) (tOp r ta tb):=Ej ho ha hb hm
noncomputable abbrev mS:OH:=top 2
theorem lD:aB ["value","names","thing"] ["value"] (aq mS):=scM
noncomputable abbrev kf:OH:=top 4
theorem jH:aB ["names","found","name"] ["names"] (aq kf):=scM
noncomputable abbrev mO:OH:=top 21
theorem cH:aB ["rows","known","steps","row","more"] ["rows","known"] (aq mO):=scM
noncomputable abbrev gO:OH:=top 22
theorem pW:aB ["row","known"] ["row","known"] (aq gO):=scM
noncomputable abbrev mW:OH:=top 23
theorem xA:aB ["steps"] ["steps"] (aq mW):=scM
noncomputable abbrev iF:OH:=top 24
theorem gz:aB ["row","known","one","other"] ["row","known"] (aq iF):=scM
noncomputable abbrev fO:OH:=top 25
theorem jm:aB ["row","known","steps"] ["row","known"] (aq fO):=scM
noncomputable abbrev mP:OH:=top 26
theorem xD:aB ["row","known"] ["row","known"] (aq mP):=scM
noncomputable abbrev sM:OH:=top 27
theorem om:aB ["program","known","deed"] ["program"] (aq sM):=scM
noncomputable abbrev kg:OH:=top 30
theorem wc:aB ["number"] ["number"] (aq kg):=scM
noncomputable abbrev ko:OH:=top 31
theorem gc:aB ["rows","place","loop","found","row"] ["rows","place","loop"] (aq ko):=scM
noncomputable abbrev iE:OH:=top 32
theorem kh:aB ["row","loop","here"] ["row","loop"] (aq iE):=scM
noncomputable abbrev ik:OH:=top 33
theorem fY:aB ["program","found","deed"] ["program"] (aq ik):=scM
noncomputable abbrev vD:OH:=top 35
theorem BB:aB ["froms","into","kind","number"] ["froms","into","kind","number"] (aq vD):=scM
noncomputable abbrev lL:OH:=top 36
theorem nT:aB ["row","place","loop","parts_of","here"] ["row","place","loop","parts_of"] (aq lL):=scM
noncomputable abbrev jD:OH:=top 37
theorem mK:aB ["row","place","found"] ["row","place"] (aq jD):=scM
noncomputable abbrev hV:OH:=top 38
theorem cP:aB ["row","place","parts","found","thing","part","into"] ["row","place","parts"] (aq hV):=scM
noncomputable abbrev jK:OH:=top 39
theorem mB:aB ["row","known","here"] ["row","known"] (aq jK):=scM
noncomputable abbrev uU:OH:=top 40
theorem gE:aB ["program","steps","parts_of","known","found","row","place","loop"] ["program","steps"] (aq uU):=scM
noncomputable abbrev iO:OH:=top 42
theorem gx:aB ["_law_script","_law_k","_law_cell"] ["_law_script","_law_k"] (aq iO):=scM
noncomputable abbrev mT:OH:=top 43
theorem xy:aB ["_law_script","_law_at","_law_many"] ["_law_script","_law_at","_law_many"] (aq mT):=scM
noncomputable abbrev o8:OH:=top 44
theorem gN:aB ["_law_cell","_law_k","_law_digits","_law_ahead","_law_number"] ["_law_cell","_law_k"] (aq o8):=scM
noncomputable abbrev kG:OH:=top 45
theorem bF:aB ["_law_cell","_law_other","_law_many","_law_words","_law_letters","_law_step","_law_found","_law_k","_law_number","_law_word"] ["_law_cell","_law_other","_law_many"] (aq kG):=scM
noncomputable abbrev mY:OH:=top 46
theorem wU:aB ["_law_some","_law_number"] ["_law_some","_law_number"] (aq mY):=scM
noncomputable abbrev kr:OH:=top 47
theorem cK:aB ["_law_names_here","_law_cell","_law_ranks","_law_rows","_law_turn"] ["_law_names_here","_law_cell"] (aq kr):=scM
noncomputable abbrev lK:OH:=top 48
theorem jM:aB ["_law_names_here","_law_parts","_law_targets","_law_found"] ["_law_names_here","_law_parts"] (aq lK):=scM
noncomputable abbrev kD:OH:=top 49
theorem vB:aB ["_law_number","_law_scope_here"] ["_law_number","_law_scope_here"] (aq kD):=scM
noncomputable abbrev lg:OH:=top 50
theorem gg:aB ["_law_cell","_law_scope_here","_law_one","_law_other","_law_number"] ["_law_cell","_law_scope_here"] (aq lg):=scM
noncomputable abbrev kS:OH:=top 51
theorem eG:aB ["_law_state","_law_cell","_law_scope_here","_law_way","_law_value_here","_law_number","_law_target"] ["_law_state","_law_cell","_law_scope_here"] (aq kS):=scM
noncomputable abbrev jL:OH:=top 52
theorem cS:aB ["_law_state","_law_cell","_law_scope_here","_law_loop","_law_number","_law_left","_law_right","_law_many"] ["_law_state","_law_cell","_law_scope_here","_law_loop"] (aq jL):=scM
noncomputable abbrev jC:OH:=top 53
theorem sO:aB ["_law_state"] ["_law_state"] (aq jC):=scM
noncomputable abbrev oq:OH:=top 54
theorem hJ:aB ["_law_state","_law_cell","_law_scope_here","_law_way","_law_name","_law_many","_law_cost"] ["_law_state","_law_cell","_law_scope_here"] (aq oq):=scM
noncomputable abbrev nq:OH:=top 55
theorem kO:aB ["_law_state","_law_cells","_law_scope_here","_law_room","_law_found","_law_cell"] ["_law_state","_law_cells","_law_scope_here","_law_room"] (aq nq):=scM
noncomputable abbrev nu:OH:=top 56
theorem bC:aB ["_law_script","_law_names_here","_law_cell","_law_state","_law_rows","_law_at","_law_k","_law_start","_law_name","_law_parts","_law_many","_law_cells"] ["_law_script","_law_names_here"] (aq nu):=scM
noncomputable abbrev gX:OH:=top 57
theorem pO:aB ["_law_row_here","_law_number"] ["_law_row_here","_law_number"] (aq gX):=scM
noncomputable abbrev fK:OH:=top 58
theorem aT:aB ["_law_flat_here","_law_at","_law_found","_law_row_here","_law_number","_law_first","_law_other","_law_body_here"] ["_law_flat_here","_law_at"] (aq fK):=scM
noncomputable abbrev jd:OH:=top 59
theorem ba:aB ["_law_flat_here","_law_heads_here","_law_deeds","_law_at","_law_number","_law_body_here","_law_end","_law_main"] ["_law_flat_here"] (aq jd):=scM
noncomputable abbrev kJ:OH:=top 60
theorem aO:aB ["_law_flat_here","_law_at","_law_known","_law_total","_law_row_here","_law_more_here","_law_one","_law_other"] ["_law_flat_here","_law_at","_law_known"] (aq kJ):=scM
noncomputable abbrev hU:OH:=top 61
theorem bx:aB ["_law_flat_here","_law_at","_law_known","_law_row_here","_law_one","_law_end","_law_other","_law_high"] ["_law_flat_here","_law_at","_law_known"] (aq hU):=scM
noncomputable abbrev fP:OH:=top 62
theorem bD:aB ["_law_flat_here","_law_cell","_law_known","_law_begins","_law_k","_law_at","_law_total","_law_end"] ["_law_flat_here","_law_cell"] (aq fP):=scM
noncomputable abbrev oe:OH:=top 63
theorem bX:aB ["_law_flat_here","_law_known","_law_found","_law_at","_law_row_here","_law_here","_law_one","_law_end","_law_other"] ["_law_flat_here","_law_known"] (aq oe):=scM
noncomputable abbrev rV:OH:=top 64
theorem hW:aB ["_law_script","_law_names_here","_law_flat_here","_law_known","_law_program_here","_law_plain_here","_law_found","_law_due_here","_law_link","_law_kept"] ["_law_script"] (aq rV):=scM
noncomputable abbrev ft:OH:=UI (top 5) 0
theorem xZ:aB ["self","number"] ["self","number"] (aq ft):=scM
noncomputable abbrev gv:OH:=UI (top 6) 0
theorem pN:aB ["self","number","name","rank"] ["self","number","name","rank"] (aq gv):=scM
noncomputable abbrev fZ:OH:=UI (top 7) 0
theorem oj:aB ["self","number","name","rank","size"] ["self","number","name","rank","size"] (aq fZ):=scM
noncomputable abbrev iT:OH:=UI (top 8) 0
theorem q4:aB ["self","number","name","size"] ["self","number","name","size"] (aq iT):=scM
noncomputable abbrev iV:OH:=UI (top 9) 0
theorem rp:aB ["self","number","name","rank"] ["self","number","name","rank"] (aq iV):=scM
noncomputable abbrev iM:OH:=UI (top 10) 0
theorem sv:aB ["self","number","name","value"] ["self","number","name","value"] (aq iM):=scM
noncomputable abbrev gZ:OH:=UI (top 10) 2
theorem pV:aB ["self"] ["self"] (aq gZ):=scM
noncomputable abbrev iI:OH:=UI (top 11) 0
theorem rB:aB ["self","number","name","place","value"] ["self","number","name","place","value"] (aq iI):=scM
noncomputable abbrev gT:OH:=UI (top 11) 2
theorem pM:aB ["self"] ["self"] (aq gT):=scM
noncomputable abbrev gQ:OH:=UI (top 12) 0
theorem pI:aB ["self","number","name","value"] ["self","number","name","value"] (aq gQ):=scM
noncomputable abbrev fT:OH:=UI (top 12) 2
theorem oZ:aB ["self"] ["self"] (aq fT):=scM
noncomputable abbrev iL:OH:=UI (top 13) 0
theorem qY:aB ["self","number","name","value","mark"] ["self","number","name","value","mark"] (aq iL):=scM
noncomputable abbrev ig:OH:=UI (top 14) 0
theorem pR:aB ["self","number","name","things"] ["self","number","name","things"] (aq ig):=scM
noncomputable abbrev jE:OH:=UI (top 16) 0
theorem tL:aB ["self","number","value","first","other","left","right"] ["self","number","value","first","other","left","right"] (aq jE):=scM
noncomputable abbrev i9:OH:=UI (top 16) 2
theorem rJ:aB ["self"] ["self"] (aq i9):=scM
noncomputable abbrev gu:OH:=UI (top 17) 0
theorem pJ:aB ["self","number","thing","most","body","left","right"] ["self","number","thing","most","body","left","right"] (aq gu):=scM
noncomputable abbrev fM:OH:=UI (top 17) 2
theorem oP:aB ["self"] ["self"] (aq fM):=scM
noncomputable abbrev gM:OH:=UI (top 18) 0
theorem pQ:aB ["self","number","name","parts","body"] ["self","number","name","parts","body"] (aq gM):=scM
noncomputable abbrev hE:OH:=UI (top 19) 0
theorem pX:aB ["self","heads","deeds","main"] ["self","heads","deeds","main"] (aq hE):=scM
structure Adr where
 Row:N6
 b4:N6
 bz:N6
 da:N6
 cY:N6
 cD:N6
 b7:N6
 bO:N6
 cC:N6
 bY:N6
 dg:N6
 cz:N6
 bj:N6
 bL:N6
 Program:N6
structure Txt(K:Oc)(mg:Str->Option E9)(A:Adr):Prop where
 rP:a9 K mg "names_in" mS ["value"]
 pj:a9 K mg "each_once" kf ["names"]
 dG:a9 K mg "exact_of" mO ["rows","known"]
 er:a9 K mg "exact_of_row" gO ["row","known"]
 rh:a9 K mg "one_more" mW ["steps"]
 iu:a9 K mg "exact_of_if" iF ["row","known"]
 fC:a9 K mg "exact_of_loop" fO ["row","known"]
 balanced:a9 K mg "balanced" mP ["row","known"]
 yj:a9 K mg "exacts" sM ["program"]
 ow:a9 K mg "row_place" kg ["number"]
 gm:a9 K mg "laid_rows" ko ["rows","place","loop"]
 iy:a9 K mg "laid_inside" iE ["row","loop"]
 jx:a9 K mg "laid_program" ik ["program"]
 drawn:a9 K mg "drawn" vD ["froms","into","kind","number"]
 nZ:a9 K mg "row_links" lL ["row","place","loop","parts_of"]
 mU:a9 K mg "said_links" jD ["row","place"]
 jN:a9 K mg "called_links" hV ["row","place","parts"]
 ni:a9 K mg "step_links" jK ["row","known"]
 links:ox K mg "links" uU ["program","steps"] [.bl false]
 lj:a9 K mg "_law_cell_at" iO ["_law_script","_law_k"]
 su:a9 K mg "_law_more" mT ["_law_script","_law_at","_law_many"]
 vZ:a9 K mg "_law_mix" o8 ["_law_cell","_law_k"]
 og:a9 K mg "_law_names" kG ["_law_cell","_law_other","_law_many"]
 qS:a9 K mg "_law_pick" mY ["_law_some","_law_number"]
 oF:a9 K mg "_law_heads" kr ["_law_names_here","_law_cell"]
 o7:a9 K mg "_law_scope" lK ["_law_names_here","_law_parts"]
 ou:a9 K mg "_law_thing" kD ["_law_number","_law_scope_here"]
 oT:a9 K mg "_law_value" lg ["_law_cell","_law_scope_here"]
 oO:a9 K mg "_law_plain" kS ["_law_state","_law_cell","_law_scope_here"]
 mZ:a9 K mg "_law_opened" jL ["_law_state","_law_cell","_law_scope_here","_law_loop"]
 mQ:a9 K mg "_law_closed" jC ["_law_state"]
 wq:a9 K mg "_law_row" oq ["_law_state","_law_cell","_law_scope_here"]
 sG:a9 K mg "_law_body" nq ["_law_state","_law_cells","_law_scope_here","_law_room"]
 qK:a9 K mg "_law_flat" nu ["_law_script","_law_names_here"]
 jI:a9 K mg "_law_row_made" gX ["_law_row_here","_law_number"]
 cV:a9 K mg "_law_rows_made" fK ["_law_flat_here","_law_at"]
 j9:a9 K mg "_law_program" jd ["_law_flat_here"]
 gp:a9 K mg "_law_exact" kJ ["_law_flat_here","_law_at","_law_known"]
 jw:a9 K mg "_law_even_row" hU ["_law_flat_here","_law_at","_law_known"]
 iH:a9 K mg "_law_evened_by" fP ["_law_flat_here","_law_cell"]
 vS:a9 K mg "_law_due" oe ["_law_flat_here","_law_known"]
 vc:mg "bool"=UG
 vR:mg "dict"=UG
 zD:mg "int"=UG
 aE:mg "isinstance"=UG
 f9:mg "len"=UG
 cW:mg "list"=UG
 Ab:mg "max"=UG
 df:mg "range"=UG
 ic:mg "sorted"=UG
 uv:mg "str"=UG
 zq:mg "zip"=UG
 wa:∃t,mg "CLOCK"=UE (.str "the clock" t)
 jf:eI K mg A.Row "Row" [A.Row]
 rS:MFn K A.Row "__init__" "Row.__init__" ft ["self","number"]
 jh:eI K mg A.b4 "HandRow" [A.b4,A.Row]
 gR:MFn K A.b4 "__init__" "HandRow.__init__" gv ["self","number","name","rank"]
 ku:aG K A.b4 "name"
 kT:aG K A.b4 "rank"
 fb:aG K A.b4 "number"
 ie:eI K mg A.bz "GivenRow" [A.bz,A.Row]
 fI:MFn K A.bz "__init__" "GivenRow.__init__" fZ ["self","number","name","rank","size"]
 jR:aG K A.bz "name"
 jX:aG K A.bz "rank"
 jS:aG K A.bz "size"
 dY:aG K A.bz "number"
 lB:eI K mg A.da "OwnRow" [A.da,A.Row]
 iS:MFn K A.da "__init__" "OwnRow.__init__" iT ["self","number","name","size"]
 mM:aG K A.da "name"
 mI:aG K A.da "size"
 fU:aG K A.da "number"
 kR:eI K mg A.cY "LetRow" [A.cY,A.Row]
 ja:MFn K A.cY "__init__" "LetRow.__init__" iV ["self","number","name","rank"]
 mv:aG K A.cY "name"
 mN:aG K A.cY "rank"
 fL:aG K A.cY "number"
 eE:eI K mg A.cD "SetRow" [A.cD,A.Row]
 iQ:MFn K A.cD "__init__" "SetRow.__init__" iM ["self","number","name","value"]
 gF:MFn K A.cD "reads" "SetRow.reads" gZ ["self"]
 jc:aG K A.cD "name"
 ij:aG K A.cD "value"
 fQ:aG K A.cD "number"
 dJ:eI K mg A.b7 "PutRow" [A.b7,A.Row]
 iN:MFn K A.b7 "__init__" "PutRow.__init__" iI ["self","number","name","place","value"]
 gY:MFn K A.b7 "reads" "PutRow.reads" gT ["self"]
 iG:aG K A.b7 "name"
 ib:aG K A.b7 "place"
 gC:aG K A.b7 "value"
 fW:aG K A.b7 "number"
 dz:eI K mg A.bO "SendRow" [A.bO,A.Row]
 gS:MFn K A.bO "__init__" "SendRow.__init__" gQ ["self","number","name","value"]
 fR:MFn K A.bO "reads" "SendRow.reads" fT ["self"]
 kK:aG K A.bO "name"
 fJ:aG K A.bO "value"
 eU:aG K A.bO "number"
 cm:eI K mg A.cC "SayRow" [A.cC,A.Row]
 iY:MFn K A.cC "__init__" "SayRow.__init__" iL ["self","number","name","value","mark"]
 fD:aG K A.cC "name"
 kH:aG K A.cC "value"
 i8:aG K A.cC "mark"
 bQ:aG K A.cC "number"
 b8:eI K mg A.bY "CallRow" [A.bY,A.Row]
 gL:MFn K A.bY "__init__" "CallRow.__init__" ig ["self","number","name","things"]
 du:aG K A.bY "name"
 fe:aG K A.bY "things"
 cE:aG K A.bY "number"
 gn:eI K mg A.dg "LastRow" [A.dg,A.Row]
 lC:MFn K A.dg "__init__" "Row.__init__" ft ["self","number"]
 eZ:aG K A.dg "number"
 b6:eI K mg A.cz "IfRow" [A.cz,A.Row]
 jQ:MFn K A.cz "__init__" "IfRow.__init__" jE ["self","number","value","first","other","left","right"]
 iC:MFn K A.cz "reads" "IfRow.reads" i9 ["self"]
 iR:aG K A.cz "value"
 fF:aG K A.cz "first"
 fE:aG K A.cz "other"
 gh:aG K A.cz "left"
 iK:aG K A.cz "right"
 gG:aG K A.cz "number"
 bA:eI K mg A.bj "LoopRow" [A.bj,A.Row]
 gw:MFn K A.bj "__init__" "LoopRow.__init__" gu ["self","number","thing","most","body","left","right"]
 fN:MFn K A.bj "reads" "LoopRow.reads" fM ["self"]
 fV:aG K A.bj "thing"
 hX:aG K A.bj "most"
 eJ:aG K A.bj "body"
 ip:aG K A.bj "left"
 dO:aG K A.bj "right"
 eT:aG K A.bj "number"
 cF:eI K mg A.bL "DeedRow" [A.bL,A.Row]
 gJ:MFn K A.bL "__init__" "DeedRow.__init__" gM ["self","number","name","parts","body"]
 dq:aG K A.bL "name"
 fX:aG K A.bL "parts"
 dZ:aG K A.bL "body"
 eO:aG K A.bL "number"
 eV:eI K mg A.Program "Program" [A.Program]
 gH:MFn K A.Program "__init__" "Program.__init__" hE ["self","heads","deeds","main"]
 jV:aG K A.Program "heads"
 cN:aG K A.Program "deeds"
 gU:aG K A.Program "main"
 bB:OfC K A.Row "__init__"
 nd:[A.Row,A.b4,A.bz,A.da,A.cY,A.cD,A.b7,A.bO,A.cC,A.bY,A.dg,A.cz,A.bj,A.bL,A.Program].Nodup
section
variable{P:Program}{w:Of}{K:Oc}{mg:Str->Option E9}{base:OC}{A:Adr}
theorem alc{H:Hp}{p:N6}(h:H p=UG)(o:HO):aj H (upd H p o)/\upd H p o p=UE o:=⟨aj.upd h o,ao⟩
theorem Gu:P1 K (.type "int") (.type "int")=UE true:=by kernel_rfl!
theorem Ip:P1 K (.type "int") (.type "bool")=UE false:=by kernel_rfl!
theorem DY:P1 K (.type "list") (.type "list")=UE true:=by kernel_rfl!
theorem sz{n:Nat}(h:n<=1000):n<=sizeLine:=Nj (aQ h)
theorem bP(x:Int){m:Int}(hm:0<m):0<=x%m/\x%m<m:={Int.emod_nonneg x (show m≠0 by lia),Int.emod_lt_of_pos x hm}
theorem ED{α:Type}{xs:List α}{k:Int}(h0:0<=k)(h1:k<(xs.length:Int)):∃x,xs[k.toNat]?=UE x/\atI xs k=UE x:=by
 have hk:k.toNat<xs.length:=()
 have e:=jz (xs:=xs) (j:=k.toNat) (Lw hk);rw[show((k.toNat:Nat):Int)=k by lia]at e;exact{_,Lw hk,e}
theorem Er(i j:Int):decide (V.int i=V.int j)=decide (i=j):=decide_eq_decide.mpr {λh=>V.int.inj h,λh=>by rw[h]}
theorem KG(i j:Str):decide (V.str i=V.str j)=decide (i=j):=decide_eq_decide.mpr {λh=>V.str.inj h,λh=>by rw[h]}
theorem pD{α:Type}(xs:List α):xs.filter (λ_=>true)=xs:=List.filter_eq_self.mpr λ_ _=>rfl
theorem Ay{a b:Int}(h0:-(2^64)<a)(h1:a<2^64):AV a b:=LL ⟨h0,h1⟩
theorem aj.out{H0 H:Hp}(s:aj H0 H){x:N6}(h:H0 x=UG)(u:HO):aj H0 (upd H x u):=λa o q=>by
 rw[aW (λz=>by rw[z,h]at q;cases q)];exact s a o q
theorem az{H:Hp}{x a:N6}{u o:HO}(n:a≠x)(e:H a=UE o):upd H x u a=UE o:=by rw[aW n];exact e
theorem UO{H:Hp}{x y:N6}{o:HO}(h:H x=UG)(e:H y=UE o):x≠y:=λz=>by rw[z,e]at h;cases h
noncomputable def Ks(H0:Hp)(x:N6)(H:Hp):List (N6×HO)->Prop
 | []=>True
 |p::ks=>(H p.1=UE p.2/\p.1≠x/\H0 p.1=UG)/\Ks H0 x H ks
theorem Ks.imp{H0 H H':Hp}{x:N6}(f:∀a o,a≠x->H a=UE o->H' a=UE o):∀{ks:List (N6×HO)},Ks H0 x H ks->Ks H0 x H' ks
 | [],_=>trivial
 |_::_,⟨⟨h1,h2,h3⟩,t⟩=>{{f _ _ h2 h1,h2,h3},Ks.imp f t}
structure IA(K:Oc)(H0:Hp)(x C dx:N6)(fs:List (Str×V))(m:Nat)(ks:List (N6×HO))(H:Hp):Prop where
 s:aj H0 H
 i:H x=UE (.ins C dx fs)
 k:Ks H0 x H ks
 x:H0 x=UG
 c:Cls K C
 l:fs.length<=m
theorem IA.one{H:Hp}{x C dx:N6}(hx:H x=UG)(hd:H dx=UG)(c:Cls K C):IA K H x C dx [] 0 [] (upd (upd H dx (.own x)) x (.ins C dx [])):={aj.out (aj.upd hd _) hx _,ao,trivial,hx,c,Ln _}
section
variable{H0 H:Hp}{x C dx:N6}{fs:List (Str×V)}{m:Nat}{ks:List (N6×HO)}
theorem zj(f:Str)(v:V):∀fs:List (Str×V),(gP f v fs).length<=fs.length+1
 | []=>Ln _
 | (g,x)::r=>by
  unfold gP;split
  ·exact Ng _
  exact NU (zj f v r)
theorem IA.put(a:IA K H0 x C dx fs m ks H)(f:Str)(v:V):IA K H0 x C dx (gP f v fs) (m+1) ks (upd H x (.ins C dx (gP f v fs))):={aj.out a.s a.x _,ao,a.k.imp λ_ _ h e=>az h e,a.x,a.c,LG (zj f v fs) (NU a.l)}
theorem IA.fld{f:Str}{v:V}{Q:Hp->Prop}(a:IA K H0 x C dx fs m ks H)(n:aG K C f)(k:∀H',IA K H0 x C dx (gP f v fs) (m+1) ks H'->Q H')(l:m<1000:=by decide):GA K f v (.ref x) H Q:={x,C,dx,fs,rfl,a.i,a.c,n,ND a.l l,k _ (a.put _ _)}
theorem IA.nw{n:N6}(a:IA K H0 x C dx fs m ks H)(hn:H n=UG)(o:HO):IA K H0 x C dx fs m ((n,o)::ks) (upd H n o):=
 have e:n≠x:=λz=>by rw[z,a.i]at hn;cases hn
 {a.s.trans (aj.upd hn _),az e.symm a.i,{⟨ao,e,aj.free a.s hn⟩,a.k.imp λ_ _ _ h=>aj.upd hn _ _ _ h},a.x,a.c,a.l}
end
inductive fH(K:Oc)(A:Adr)(vs:List V)(H:Hp)(Q:VK)(Z:XK):Prop
 |mk(x C dx:N6)(fs:List (Str×V))(n:V):vs=[.ref x,n]->H x=UE (.ins C dx fs)->Cls K C->aG K C "number"->fs.length<1000->Q .non (upd H x (.ins C dx (gP "number" n fs)))->fH K A vs H Q Z
theorem mE{C:N6}(F:MFn K C "__init__" "Row.__init__" ft ["self","number"]):xp P w K mg base 2 C "__init__" ["self","number"] (fH K A):=by
 refine F.hs (k:=1) xZ (λf cdv A' outer s H vs Q E hr hu h=>?_);obtain⟨x,C,dx,fs,n,rfl,hx,c,na,hl,q⟩:=h;exact{_,(ai (aX (fv 0) (fv 1) rfl)),⟨x,C,dx,fs,rfl,hx,c,na,hl,q⟩}
theorem bR(T:Txt K mg A):xp P w K mg base 2 A.Row "__init__" ["self","number"] (fH K A):=mE T.rS
theorem IA.row{H0 H:Hp}{x C dx:N6}{ks:List (N6×HO)}{v:V}{Q:VK}(a:IA K H0 x C dx [] 0 ks H)(n:aG K C "number")(k:∀H',IA K H0 x C dx (gP "number" v []) 1 ks H'->Q .non H'):fH K A [.ref x,v] H Q E0:={x,C,dx,[],v,rfl,a.i,a.c,n,∅,k _ (a.put _ _)}
inductive jT(K:Oc)(A:Adr)(vs:List V)(G:Hp)(R:VK)(Z:XK):Prop
 |mk(x dx:N6)(v0 v1 v2:V)(H:Hp):vs=[.ref x,v0,v1,v2]->G=upd (upd H dx (.own x)) x (.ins A.b4 dx [])->H x=UG->H dx=UG->(∀(H':Hp),aj H H'->H' x=UE (.ins A.b4 dx [("number",v0),("name",v1),("rank",v2)])->R .non H')->jT K A vs G R Z
theorem rX(T:Txt K mg A):T.gR.Hz P w mg base 3 (jT K A):=by
 refine T.gR.hs (k:=2) pN (λf cdv A' outer s G vs R E hr hu h=>?_);obtain⟨x,dx,v0,v1,v2,H,rfl,rfl,hx,hd,q⟩:=h;refine{_,(ab (aK (b9 T.jf T.bB (bR T) hr (fv 0^fv 1^ae)))
 (ab (aX (fv 0) (fv 2) rfl)
 (ai (aX (fv 0) (fv 3) rfl)))),?_}
 exact(IA.one (C:=A.b4) hx hd T.jh.cl).row T.fb λH a=>a.fld T.ku λH a=>a.fld T.kT λH a=>q _ a.s a.i
inductive jj(K:Oc)(A:Adr)(vs:List V)(G:Hp)(R:VK)(Z:XK):Prop
 |mk(x dx:N6)(v0 v1 v2 v3:V)(H:Hp):vs=[.ref x,v0,v1,v2,v3]->G=upd (upd H dx (.own x)) x (.ins A.bz dx [])->H x=UG->H dx=UG->(∀(H':Hp),aj H H'->H' x=UE (.ins A.bz dx [("number",v0),("name",v1),("rank",v2),("size",v3)])->R .non H')->jj K A vs G R Z
theorem pK(T:Txt K mg A):T.fI.Hz P w mg base 3 (jj K A):=by
 refine T.fI.hs (k:=2) oj (λf cdv A' outer s G vs R E hr hu h=>?_);obtain⟨x,dx,v0,v1,v2,v3,H,rfl,rfl,hx,hd,q⟩:=h;refine{_,(ab (aK (b9 T.jf T.bB (bR T) hr (fv 0^fv 1^ae)))
 (ab (aX (fv 0) (fv 2) rfl)
 (ab (aX (fv 0) (fv 3) rfl)
 (ai (aX (fv 0) (fv 4) rfl))))),?_}
 exact(IA.one (C:=A.bz) hx hd T.ie.cl).row T.dY λH a=>a.fld T.jR λH a=>a.fld T.jX λH a=>a.fld T.jS λH a=>q _ a.s a.i
inductive kj(K:Oc)(A:Adr)(vs:List V)(G:Hp)(R:VK)(Z:XK):Prop
 |mk(x dx:N6)(v0 v1 v2:V)(H:Hp):vs=[.ref x,v0,v1,v2]->G=upd (upd H dx (.own x)) x (.ins A.da dx [])->H x=UG->H dx=UG->(∀(H':Hp),aj H H'->H' x=UE (.ins A.da dx [("number",v0),("name",v1),("size",v2)])->R .non H')->kj K A vs G R Z
theorem tI(T:Txt K mg A):T.iS.Hz P w mg base 3 (kj K A):=by
 refine T.iS.hs (k:=2) q4 (λf cdv A' outer s G vs R E hr hu h=>?_);obtain⟨x,dx,v0,v1,v2,H,rfl,rfl,hx,hd,q⟩:=h;refine{_,(ab (aK (b9 T.jf T.bB (bR T) hr (fv 0^fv 1^ae)))
 (ab (aX (fv 0) (fv 2) rfl)
 (ai (aX (fv 0) (fv 3) rfl)))),?_}
 exact(IA.one (C:=A.da) hx hd T.lB.cl).row T.fU λH a=>a.fld T.mM λH a=>a.fld T.mI λH a=>q _ a.s a.i
inductive j7(K:Oc)(A:Adr)(vs:List V)(G:Hp)(R:VK)(Z:XK):Prop
 |mk(x dx:N6)(v0 v1 v2:V)(H:Hp):vs=[.ref x,v0,v1,v2]->G=upd (upd H dx (.own x)) x (.ins A.cY dx [])->H x=UG->H dx=UG->(∀(H':Hp),aj H H'->H' x=UE (.ins A.cY dx [("number",v0),("name",v1),("rank",v2)])->R .non H')->j7 K A vs G R Z
theorem sZ(T:Txt K mg A):T.ja.Hz P w mg base 3 (j7 K A):=by
 refine T.ja.hs (k:=2) rp (λf cdv A' outer s G vs R E hr hu h=>?_);obtain⟨x,dx,v0,v1,v2,H,rfl,rfl,hx,hd,q⟩:=h;refine{_,(ab (aK (b9 T.jf T.bB (bR T) hr (fv 0^fv 1^ae)))
 (ab (aX (fv 0) (fv 2) rfl)
 (ai (aX (fv 0) (fv 3) rfl)))),?_}
 exact(IA.one (C:=A.cY) hx hd T.kR.cl).row T.fL λH a=>a.fld T.mv λH a=>a.fld T.mN λH a=>q _ a.s a.i
inductive lI(K:Oc)(A:Adr)(vs:List V)(G:Hp)(R:VK)(Z:XK):Prop
 |mk(x dx:N6)(v0 v1 v2:V)(H:Hp):vs=[.ref x,v0,v1,v2]->G=upd (upd H dx (.own x)) x (.ins A.cD dx [])->H x=UG->H dx=UG->(∀(H':Hp),aj H H'->H' x=UE (.ins A.cD dx [("number",v0),("name",v1),("value",v2)])->R .non H')->lI K A vs G R Z
theorem tE(T:Txt K mg A):T.iQ.Hz P w mg base 3 (lI K A):=by
 refine T.iQ.hs (k:=2) sv (λf cdv A' outer s G vs R E hr hu h=>?_);obtain⟨x,dx,v0,v1,v2,H,rfl,rfl,hx,hd,q⟩:=h;refine{_,(ab (aK (b9 T.jf T.bB (bR T) hr (fv 0^fv 1^ae)))
 (ab (aX (fv 0) (fv 2) rfl)
 (ai (aX (fv 0) (fv 3) rfl)))),?_}
 exact(IA.one (C:=A.cD) hx hd T.eE.cl).row T.fQ λH a=>a.fld T.jc λH a=>a.fld T.ij λH a=>q _ a.s a.i
inductive lG(K:Oc)(A:Adr)(vs:List V)(G:Hp)(R:VK)(Z:XK):Prop
 |mk(x dx:N6)(v0 v1 v2 v3:V)(H:Hp):vs=[.ref x,v0,v1,v2,v3]->G=upd (upd H dx (.own x)) x (.ins A.b7 dx [])->H x=UG->H dx=UG->(∀(H':Hp),aj H H'->H' x=UE (.ins A.b7 dx [("number",v0),("name",v1),("place",v2),("value",v3)])->R .non H')->lG K A vs G R Z
theorem tF(T:Txt K mg A):T.iN.Hz P w mg base 3 (lG K A):=by
 refine T.iN.hs (k:=2) rB (λf cdv A' outer s G vs R E hr hu h=>?_);obtain⟨x,dx,v0,v1,v2,v3,H,rfl,rfl,hx,hd,q⟩:=h;refine{_,(ab (aK (b9 T.jf T.bB (bR T) hr (fv 0^fv 1^ae)))
 (ab (aX (fv 0) (fv 2) rfl)
 (ab (aX (fv 0) (fv 3) rfl)
 (ai (aX (fv 0) (fv 4) rfl))))),?_}
 exact(IA.one (C:=A.b7) hx hd T.dJ.cl).row T.fW λH a=>a.fld T.iG λH a=>a.fld T.ib λH a=>a.fld T.gC λH a=>q _ a.s a.i
inductive jZ(K:Oc)(A:Adr)(vs:List V)(G:Hp)(R:VK)(Z:XK):Prop
 |mk(x dx:N6)(v0 v1 v2:V)(H:Hp):vs=[.ref x,v0,v1,v2]->G=upd (upd H dx (.own x)) x (.ins A.bO dx [])->H x=UG->H dx=UG->(∀(H':Hp),aj H H'->H' x=UE (.ins A.bO dx [("number",v0),("name",v1),("value",v2)])->R .non H')->jZ K A vs G R Z
theorem q5(T:Txt K mg A):T.gS.Hz P w mg base 3 (jZ K A):=by
 refine T.gS.hs (k:=2) pI (λf cdv A' outer s G vs R E hr hu h=>?_);obtain⟨x,dx,v0,v1,v2,H,rfl,rfl,hx,hd,q⟩:=h;refine{_,(ab (aK (b9 T.jf T.bB (bR T) hr (fv 0^fv 1^ae)))
 (ab (aX (fv 0) (fv 2) rfl)
 (ai (aX (fv 0) (fv 3) rfl)))),?_}
 exact(IA.one (C:=A.bO) hx hd T.dz.cl).row T.eU λH a=>a.fld T.kK λH a=>a.fld T.fJ λH a=>q _ a.s a.i
inductive ke(K:Oc)(A:Adr)(vs:List V)(G:Hp)(R:VK)(Z:XK):Prop
 |mk(x dx:N6)(v0 v1 v2 v3:V)(H:Hp):vs=[.ref x,v0,v1,v2,v3]->G=upd (upd H dx (.own x)) x (.ins A.cC dx [])->H x=UG->H dx=UG->(∀(H':Hp),aj H H'->H' x=UE (.ins A.cC dx [("number",v0),("name",v1),("value",v2),("mark",v3)])->R .non H')->ke K A vs G R Z
theorem sV(T:Txt K mg A):T.iY.Hz P w mg base 3 (ke K A):=by
 refine T.iY.hs (k:=2) qY (λf cdv A' outer s G vs R E hr hu h=>?_);obtain⟨x,dx,v0,v1,v2,v3,H,rfl,rfl,hx,hd,q⟩:=h;refine{_,(ab (aK (b9 T.jf T.bB (bR T) hr (fv 0^fv 1^ae)))
 (ab (aX (fv 0) (fv 2) rfl)
 (ab (aX (fv 0) (fv 3) rfl)
 (ai (aX (fv 0) (fv 4) rfl))))),?_}
 exact(IA.one (C:=A.cC) hx hd T.cm.cl).row T.bQ λH a=>a.fld T.fD λH a=>a.fld T.kH λH a=>a.fld T.i8 λH a=>q _ a.s a.i
inductive jW(K:Oc)(A:Adr)(vs:List V)(G:Hp)(R:VK)(Z:XK):Prop
 |mk(x dx:N6)(v0 v1:V)(t0:N6)(l0:List V)(H:Hp):vs=[.ref x,v0,v1,.ref t0]->G=upd (upd H dx (.own x)) x (.ins A.bY dx [])->H x=UG->H dx=UG->SqL K H t0 l0->(∀(n0:N6)(H':Hp),H n0=UG->aj H H'->H' n0=UE (.lst l0)->H' x=UE (.ins A.bY dx [("number",v0),("name",v1),("things",.ref n0)])->R .non H')->jW K A vs G R Z
theorem sr(T:Txt K mg A):T.gL.Hz P w mg base 3 (jW K A):=by
 refine T.gL.hs (k:=2) pR (λf cdv A' outer s G vs R E hr hu h=>?_);obtain⟨x,dx,v0,v1,t0,l0,H,rfl,rfl,hx,hd,s0,q⟩:=h;refine{_,(ab (aK (b9 T.jf T.bB (bR T) hr (fv 0^fv 1^ae)))
 (ab (aX (fv 0) (fv 2) rfl)
 (ai (aX (fv 0) (pcT i7 T.cW (fv 3^ae)) rfl)))),?_}
 refine(IA.one (C:=A.bY) hx hd T.b8.cl).row T.cE λH a=>a.fld T.du λH a=>{_,l0,rfl,.inl (a.s.seq s0),λn0 f=>?_};replace a:=a.nw f (.lst l0);exact a.fld T.fe λH a=>q n0 _ a.k.1.2.2 a.s a.k.1.1 a.i
inductive mH(K:Oc)(A:Adr)(vs:List V)(G:Hp)(R:VK)(Z:XK):Prop
 |mk(x dx:N6)(v0 v1 v2 v3:V)(t0 t1:N6)(l0 l1:List V)(H:Hp):vs=[.ref x,v0,v1,.ref t0,.ref t1,v2,v3]->G=upd (upd H dx (.own x)) x (.ins A.cz dx [])->H x=UG->H dx=UG->SqL K H t0 l0->SqL K H t1 l1->(∀(n0 n1:N6)(H':Hp),H n0=UG->H n1=UG->aj H H'->H' n0=UE (.lst l0)->H' n1=UE (.lst l1)->H' x=UE (.ins A.cz dx [("number",v0),("value",v1),("first",.ref n0),("other",.ref n1),("left",v2),("right",v3)])->R .non H')->mH K A vs G R Z
theorem vI(T:Txt K mg A):T.jQ.Hz P w mg base 3 (mH K A):=by
 refine T.jQ.hs (k:=2) tL (λf cdv A' outer s G vs R E hr hu h=>?_);obtain⟨x,dx,v0,v1,v2,v3,t0,t1,l0,l1,H,rfl,rfl,hx,hd,s0,s1,q⟩:=h;refine{_,(ab (aK (b9 T.jf T.bB (bR T) hr (fv 0^fv 1^ae)))
 (ab (aX (fv 0) (fv 2) rfl)
 (ab (aX (fv 0) (pcT i7 T.cW (fv 3^ae)) rfl)
 (ab (aX (fv 0) (pcT i7 T.cW (fv 4^ae)) rfl)
 (ab (aX (fv 0) (fv 5) rfl)
 (ai (aX (fv 0) (fv 6) rfl))))))),?_}
 refine(IA.one (C:=A.cz) hx hd T.b6.cl).row T.gG λH a=>a.fld T.iR λH a=>{_,l0,rfl,.inl (a.s.seq s0),λn0 f=>?_};replace a:=a.nw f (.lst l0);refine a.fld T.fF λH a=>{_,l1,rfl,.inl (a.s.seq s1),λn1 f=>?_};replace a:=a.nw f (.lst l1);exact a.fld T.fE λH a=>a.fld T.gh λH a=>a.fld T.iK λH a=>q n0 n1 _ a.k.2.1.2.2 a.k.1.2.2 a.s a.k.2.1.1 a.k.1.1 a.i
inductive j1(K:Oc)(A:Adr)(vs:List V)(G:Hp)(R:VK)(Z:XK):Prop
 |mk(x dx:N6)(v0 v1 v2 v3 v4:V)(t0:N6)(l0:List V)(H:Hp):vs=[.ref x,v0,v1,v2,.ref t0,v3,v4]->G=upd (upd H dx (.own x)) x (.ins A.bj dx [])->H x=UG->H dx=UG->SqL K H t0 l0->(∀(n0:N6)(H':Hp),H n0=UG->aj H H'->H' n0=UE (.lst l0)->H' x=UE (.ins A.bj dx [("number",v0),("thing",v1),("most",v2),("body",.ref n0),("left",v3),("right",v4)])->R .non H')->j1 K A vs G R Z
theorem sy(T:Txt K mg A):T.gw.Hz P w mg base 3 (j1 K A):=by
 refine T.gw.hs (k:=2) pJ (λf cdv A' outer s G vs R E hr hu h=>?_);obtain⟨x,dx,v0,v1,v2,v3,v4,t0,l0,H,rfl,rfl,hx,hd,s0,q⟩:=h;refine{_,(ab (aK (b9 T.jf T.bB (bR T) hr (fv 0^fv 1^ae)))
 (ab (aX (fv 0) (fv 2) rfl)
 (ab (aX (fv 0) (fv 3) rfl)
 (ab (aX (fv 0) (pcT i7 T.cW (fv 4^ae)) rfl)
 (ab (aX (fv 0) (fv 5) rfl)
 (ai (aX (fv 0) (fv 6) rfl))))))),?_}
 refine(IA.one (C:=A.bj) hx hd T.bA.cl).row T.eT λH a=>a.fld T.fV λH a=>a.fld T.hX λH a=>{_,l0,rfl,.inl (a.s.seq s0),λn0 f=>?_};replace a:=a.nw f (.lst l0);exact a.fld T.eJ λH a=>a.fld T.ip λH a=>a.fld T.dO λH a=>q n0 _ a.k.1.2.2 a.s a.k.1.1 a.i
inductive jU(K:Oc)(A:Adr)(vs:List V)(G:Hp)(R:VK)(Z:XK):Prop
 |mk(x dx:N6)(v0 v1:V)(t0 t1:N6)(l0 l1:List V)(H:Hp):vs=[.ref x,v0,v1,.ref t0,.ref t1]->G=upd (upd H dx (.own x)) x (.ins A.bL dx [])->H x=UG->H dx=UG->SqL K H t0 l0->SqL K H t1 l1->(∀(n0 n1:N6)(H':Hp),H n0=UG->H n1=UG->aj H H'->H' n0=UE (.lst l0)->H' n1=UE (.lst l1)->H' x=UE (.ins A.bL dx [("number",v0),("name",v1),("parts",.ref n0),("body",.ref n1)])->R .non H')->jU K A vs G R Z
theorem rD(T:Txt K mg A):T.gJ.Hz P w mg base 3 (jU K A):=by
 refine T.gJ.hs (k:=2) pQ (λf cdv A' outer s G vs R E hr hu h=>?_);obtain⟨x,dx,v0,v1,t0,t1,l0,l1,H,rfl,rfl,hx,hd,s0,s1,q⟩:=h;refine{_,(ab (aK (b9 T.jf T.bB (bR T) hr (fv 0^fv 1^ae)))
 (ab (aX (fv 0) (fv 2) rfl)
 (ab (aX (fv 0) (pcT i7 T.cW (fv 3^ae)) rfl)
 (ai (aX (fv 0) (pcT i7 T.cW (fv 4^ae)) rfl))))),?_}
 refine(IA.one (C:=A.bL) hx hd T.cF.cl).row T.eO λH a=>a.fld T.dq λH a=>{_,l0,rfl,.inl (a.s.seq s0),λn0 f=>?_};replace a:=a.nw f (.lst l0);refine a.fld T.fX λH a=>{_,l1,rfl,.inl (a.s.seq s1),λn1 f=>?_};replace a:=a.nw f (.lst l1);exact a.fld T.dZ λH a=>q n0 n1 _ a.k.2.1.2.2 a.k.1.2.2 a.s a.k.2.1.1 a.k.1.1 a.i
inductive jY(K:Oc)(A:Adr)(vs:List V)(G:Hp)(R:VK)(Z:XK):Prop
 |mk(x dx:N6)(t0 t1 t2:N6)(l0 l1 l2:List V)(H:Hp):vs=[.ref x,.ref t0,.ref t1,.ref t2]->G=upd (upd H dx (.own x)) x (.ins A.Program dx [])->H x=UG->H dx=UG->SqL K H t0 l0->SqL K H t1 l1->SqL K H t2 l2->(∀(n0 n1 n2:N6)(H':Hp),H n0=UG->H n1=UG->H n2=UG->aj H H'->H' n0=UE (.lst l0)->H' n1=UE (.lst l1)->H' n2=UE (.lst l2)->H' x=UE (.ins A.Program dx [("heads",.ref n0),("deeds",.ref n1),("main",.ref n2)])->R .non H')->jY K A vs G R Z
theorem rE(T:Txt K mg A):T.gH.Hz P w mg base 3 (jY K A):=by
 refine T.gH.hs (k:=2) pX (λf cdv A' outer s G vs R E hr hu h=>?_);obtain⟨x,dx,t0,t1,t2,l0,l1,l2,H,rfl,rfl,hx,hd,s0,s1,s2,q⟩:=h;refine{_,(ab (aX (fv 0) (pcT i7 T.cW (fv 1^ae)) rfl)
 (ab (aX (fv 0) (pcT i7 T.cW (fv 2^ae)) rfl)
 (ai (aX (fv 0) (pcT i7 T.cW (fv 3^ae)) rfl)))),?_}
 have a:=IA.one (C:=A.Program) hx hd T.eV.cl;refine{_,l0,rfl,.inl (a.s.seq s0),λn0 f=>?_};replace a:=a.nw f (.lst l0);refine a.fld T.jV λH a=>{_,l1,rfl,.inl (a.s.seq s1),λn1 f=>?_};replace a:=a.nw f (.lst l1);refine a.fld T.cN λH a=>{_,l2,rfl,.inl (a.s.seq s2),λn2 f=>?_};replace a:=a.nw f (.lst l2);exact a.fld T.gU λH a=>q n0 n1 n2 _ a.k.2.2.1.2.2 a.k.2.1.2.2 a.k.1.2.2 a.s a.k.2.2.1.1 a.k.2.1.1 a.k.1.1 a.i
end
section
variable{P:Program}{w:Of}{K:Oc}{mg:Str->Option E9}{base:OC}{A:Adr}{N:Nat->Str}
theorem ag{t u:TS}{D:UW}{σ:St}{H:Hp}(h:∀N:St->Hp->Prop,(∀σ H,u D σ H->N σ H)->t { D with nx:=N } σ H):JW t u D σ H:=h (u D) λ_ _ z=>z
theorem jG{α β:Type}{F:α->β->Prop}:∀{l₁:List α}{l₂:List β}{i:Nat}{a:α},Paired F l₁ l₂->l₁[i]?=UE a->∃b,l₂[i]?=UE b/\F a b
 |_,_,_,_,.nil,h=>by cases h
 |_,_,0,_,.cons h _,e=>by cases e;exact{_,rfl,h}
 |_,_,i+1,_,.cons _ r,e=>by
  have:∃b,_:=jG (i:=i) r e;exact this
theorem dQ{α β:Type}{F:α->β->Prop}:∀{l₁:List α}{l₂:List β}{i:Nat}{b:β},Paired F l₁ l₂->l₂[i]?=UE b->∃a,l₁[i]?=UE a/\F a b
 |_,_,_,_,.nil,h=>by cases h
 |_,_,0,_,.cons h _,e=>by cases e;exact{_,rfl,h}
 |_,_,i+1,_,.cons _ r,e=>by
  have:∃a,_:=dQ (i:=i) r e;exact this
theorem oK{α β:Type}(f:β->α->β)(b:β){xs:List α}{i:Nat}{x:α}(h:xs[i]?=UE x):(xs.take (i+1)).foldl f b=f ((xs.take i).foldl f b) x:=by
 rw[Ms,h,NM];rfl
noncomputable abbrev cls(A:Adr):List N6:=[A.Row,A.b4,A.bz,A.da,A.cY,A.cD,A.b7,A.bO,A.cC,A.bY,A.dg,A.cz,A.bj,A.bL,A.Program]
theorem GG(T:Txt K mg A)(i j:Nat)(hi:i<15:=by decide)(hj:j<15:=by decide)(h:i≠j:=by decide):(cls A)[i]'hi≠(cls A)[j]'hj:=λe=>h ((NQ T.nd).mp e)
theorem KR{C:N6}{x:Str}{up:List N6}(O:eI K mg C x up)(hs:C∈up:=by exact LB):P1 K (.ref C) (.ref C)=UE true:=by
 rw[O.kit O hs,decide_eq_true hs]
theorem KH{C D R:N6}{x y:Str}{vp:List N6}(O:eI K mg C x [C,R])(U:eI K mg D y vp)(h1:D≠C)(h2:D≠R):P1 K (.ref C) (.ref D)=UE false:=by
 rw[O.kit U LB,decide_eq_false];intro m;rcases Lu.mp m with e|m
 ·exact h1 e
 rcases Lu.mp m with e|m
 ·exact h2 e
 cases m
instance memK(k:Key)(ks:List Key):Decidable (k∈ks):=decidable_of_iff ((ks.any λj=>decide (j=k))=true) (by
 rw[NV];exact{λ⟨j,m,e⟩=>of_decide_eq_true e▸m,λm=>⟨k,m,decide_eq_true rfl⟩})
theorem xJ(kvs:List (Key×V))(k:Key)(v:V):(UN kvs k v).length<=kvs.length+1:=by
 unfold UN;split
 ·rw[Lm];lia
 simp
noncomputable def clI(A:Adr)(i:Nat):N6:=(cls A).getD i 0
theorem DV(T:Txt K mg A){i j:Nat}(hi:i<15)(hj:j<15)(h:i≠j):clI A i≠clI A j:=by
 unfold clI;rw[Mf,Mf,Lw (show i<(cls A).length from hi),Lw (show j<(cls A).length from hj)];exact GG T i j hi hj h
theorem yE(T:Txt K mg A)(i:Nat)(h:i<14)(h0:0<i):∃x,eI K mg (clI A i) x [clI A i,A.Row]:=by
 match i,h,h0 with
 |1,_,_=>exact{_,T.jh}
 |2,_,_=>exact{_,T.ie}
 |3,_,_=>exact{_,T.lB}
 |4,_,_=>exact{_,T.kR}
 |5,_,_=>exact{_,T.eE}
 |6,_,_=>exact{_,T.dJ}
 |7,_,_=>exact{_,T.dz}
 |8,_,_=>exact{_,T.cm}
 |9,_,_=>exact{_,T.b8}
 |10,_,_=>exact{_,T.gn}
 |11,_,_=>exact{_,T.b6}
 |12,_,_=>exact{_,T.bA}
 |13,_,_=>exact{_,T.cF}
theorem HH(T:Txt K mg A)(i j:Nat)(hi:i<14)(hj:j<14)(i0:0<i)(j0:0<j):P1 K (.ref (clI A i)) (.ref (clI A j))=UE (decide (i=j)):=by
 obtain⟨x,O⟩:=yE T i hi i0;obtain⟨y,U⟩:=yE T j hj j0;by_cases e:i=j
 ·subst e;rw[decide_eq_true rfl];exact KR O
 rw[decide_eq_false e];exact KH O U (DV T () () (λz=>e z.symm)) (DV T (j:=0) () () ())
end
section
variable{P:Program}{w:Of}{K:Oc}{mg:Str->Option E9}{base:OC}{A:Adr}{N:Nat->Str}
seal PE PA PS PSs PT PW
inductive Th where
 |i (n:Int)|x (a:Nat)
inductive Val where
 |one (a:Th)|op (a:Th) (w:Str) (b:Th)
noncomputable def Th.v(N:Nat->Str):Th->V
 | .i n=>.int n
 | .x a=>.str (N a)
noncomputable def vV(N:Nat->Str):Val->List V
 | .one a=>[a.v N]
 | .op a w b=>[a.v N,.str w,b.v N]
inductive Lr where
 |hand (i:Nat) (r:Int)|giv (i:Nat) (r z:Int)|own (i:Nat) (z:Int)|lt (i:Nat) (r:Int)
 |set (x:Nat) (v:Val)|put (x:Nat) (p:Th) (v:Val)|snd (h:Nat) (v:Val)|say (x:Nat) (v:Val) (m:Nat)
 |call (i:Nat) (ts:List Th)|last
noncomputable def Lr.ci:Lr->Nat
 | .hand _ _=>1| .giv _ _ _=>2| .own _ _=>3| .lt _ _=>4| .set _ _=>5| .put _ _ _=>6| .snd _ _=>7| .say _ _ _=>8
 | .call _ _=>9| .last=>10
noncomputable abbrev nV(N:Nat->Str)(ns:List Nat):List V:=ns.map λi=>V.str (N i)
noncomputable def Lr.fs(N:Nat->Str)(p:N6):Lr->List (Str×V)
 | .hand i r=>[("name",.str (N i)),("rank",.int r)]
 | .giv i r z=>[("name",.str (N i)),("rank",.int r),("size",.int z)]
 | .own i z=>[("name",.str (N i)),("size",.int z)]
 | .lt i r=>[("name",.str (N i)),("rank",.int r)]
 | .set x _=>[("name",.str (N x)),("value",.ref p)]
 | .put x t _=>[("name",.str (N x)),("place",t.v N),("value",.ref p)]
 | .snd h _=>[("name",.str (N h)),("value",.ref p)]
 | .say x _ m=>[("name",.str (N x)),("value",.ref p),("mark",.str (N m))]
 | .call i _=>[("name",.str (N i)),("things",.ref p)]
 | .last=>[]
noncomputable def Lr.ob(N:Nat->Str):Lr->Option HO
 | .set _ v=>UE (.tup (vV N v))
 | .put _ _ v=>UE (.tup (vV N v))
 | .snd _ v=>UE (.tup (vV N v))
 | .say _ v _=>UE (.tup (vV N v))
 | .call _ ts=>UE (.lst (ts.map (Th.v N)))
 |_=>UG
inductive Pt where
 |leaf (n:Int) (r:Lr)
 |iff (n:Int) (v:Val) (l r:Int) (f o:List Pt)
 |loop (n:Int) (t:Th) (m l r:Int) (b:List Pt)
 |aZ (n:Int) (i:Nat) (ps:List Nat) (b:List Pt)
noncomputable def Pt.no:Pt->Int
 | .leaf n _=>n
 | .iff n _ _ _ _ _=>n
 | .loop n _ _ _ _ _=>n
 | .aZ n _ _ _=>n
noncomputable def Pt.ci:Pt->Nat
 | .leaf _ r=>r.ci
 | .iff _ _ _ _ _ _=>11
 | .loop _ _ _ _ _ _=>12
 | .aZ _ _ _ _=>13
def KL(A:Adr)(N:Nat->Str)(X:Hp)(v:V)(n:Int)(r:Lr):Prop:=∃a dx p,v=.ref a/\X a=UE (.ins (clI A r.ci) dx (("number",.int n)::r.fs N p))/\∀o,r.ob N=UE o->X p=UE o
mutual
noncomputable def aY(A:Adr)(N:Nat->Str)(X:Hp):V->Pt->Prop
 |v,.leaf n r=>KL A N X v n r
 |v,.iff n val l r f o=>∃a dx p pf po xf xo,v=.ref a/\X a=UE (.ins A.cz dx [("number",.int n),("value",.ref p),("first",.ref pf),("other",.ref po),("left",.int l),("right",.int r)])/\X p=UE (.tup (vV N val))/\X pf=UE (.lst xf)/\X po=UE (.lst xo)/\aF A N X xf f/\aF A N X xo o
 |v,.loop n t m l r b=>∃a dx pb xb,v=.ref a/\X a=UE (.ins A.bj dx [("number",.int n),("thing",t.v N),("most",.int m),("body",.ref pb),("left",.int l),("right",.int r)])/\X pb=UE (.lst xb)/\aF A N X xb b
 |v,.aZ n i ps b=>∃a dx pp pb xb,v=.ref a/\X a=UE (.ins A.bL dx [("number",.int n),("name",.str (N i)),("parts",.ref pp),("body",.ref pb)])/\X pp=UE (.lst (nV N ps))/\X pb=UE (.lst xb)/\aF A N X xb b
noncomputable def aF(A:Adr)(N:Nat->Str)(X:Hp):List V->List Pt->Prop
 |vs,[]=>vs=[]
 |vs,t::ts=>∃x xs,vs=x::xs/\aY A N X x t/\aF A N X xs ts
end
mutual
theorem aY.same{X X':Hp}(s:aj X X'):∀(t:Pt)(v:V),aY A N X v t->aY A N X' v t
 | .leaf n r,v,h=>by
  unfold aY at h⊢;obtain⟨a,dx,p,e,h1,h2⟩:=h;exact{a,dx,p,e,s _ _ h1,λo ho=>s _ _ (h2 o ho)}
 | .iff n val l r f o,v,h=>by
  unfold aY at h⊢;obtain⟨a,dx,p,pf,po,xf,xo,e,h1,h2,h3,h4,h5,h6⟩:=h;exact{a,dx,p,pf,po,xf,xo,e,s _ _ h1,s _ _ h2,s _ _ h3,s _ _ h4,aF.same s f _ h5,aF.same s o _ h6}
 | .loop n t m l r b,v,h=>by
  unfold aY at h⊢;obtain⟨a,dx,pb,xb,e,h1,h2,h3⟩:=h;exact{a,dx,pb,xb,e,s _ _ h1,s _ _ h2,aF.same s b _ h3}
 | .aZ n i ps b,v,h=>by
  unfold aY at h⊢;obtain⟨a,dx,pp,pb,xb,e,h1,h2,h3,h4⟩:=h;exact{a,dx,pp,pb,xb,e,s _ _ h1,s _ _ h2,s _ _ h3,aF.same s b _ h4}
theorem aF.same{X X':Hp}(s:aj X X'):∀(ts:List Pt)(vs:List V),aF A N X vs ts->aF A N X' vs ts
 | [],vs,h=>by
  unfold aF at h⊢;exact h
 |t::ts,vs,h=>by
  unfold aF at h⊢;obtain⟨x,xs,e,h1,h2⟩:=h;exact{x,xs,e,aY.same s t _ h1,aF.same s ts _ h2}
end
theorem aF.nil{X:Hp}:aF A N X [] []:=by
 unfold aF;rfl
theorem aF.cons{X:Hp}{x:V}{t:Pt}{ts:List Pt}{vs:List V}(h:aY A N X x t)(h':aF A N X vs ts):aF A N X (x::vs) (t::ts):=by
 unfold aF;exact⟨x,vs,rfl,h,h'⟩
theorem aF.one{X:Hp}{x:V}{t:Pt}(h:aY A N X x t):aF A N X [x] [t]:=aF.cons h aF.nil
theorem aF.len{X:Hp}:∀{ts:List Pt}{vs:List V},aF A N X vs ts->vs.length=ts.length
 | [],vs,h=>by
  unfold aF at h;rw[h];rfl
 |t::ts,vs,h=>by
  unfold aF at h;obtain⟨y,ys,e,h1,h2⟩:=h;subst e;simp[aF.len h2]
theorem aF.get{X:Hp}:∀{ts:List Pt}{vs:List V}{i:Nat}{v:V},aF A N X vs ts->vs[i]?=UE v->∃t,ts[i]?=UE t/\aY A N X v t
 | [],vs,i,v,h,e=>by
  unfold aF at h;rw[h]at e;cases e
 |t::ts,vs,i,v,h,e=>by
  unfold aF at h;obtain⟨y,ys,e',h1,h2⟩:=h;subst e';cases i with
  |zero=>cases e;exact⟨t,rfl,h1⟩
  |succ i=>exact aF.get (i:=i) h2 e
theorem uH(p:Pt):0<p.ci/\p.ci<14:=by
 cases p with
 |leaf n r=>cases r<;>simp[Pt.ci,Lr.ci]
 |_=>simp[Pt.ci]
theorem JU(T:Txt K mg A)(p:Pt):Cls K (clI A p.ci)/\aG K (clI A p.ci) "number":=by
 cases p with
 |leaf n r=>
  cases r with
  |hand _ _=>exact⟨T.jh.cl,T.fb⟩
  |giv _ _ _=>exact⟨T.ie.cl,T.dY⟩
  |own _ _=>exact⟨T.lB.cl,T.fU⟩
  |lt _ _=>exact⟨T.kR.cl,T.fL⟩
  |set _ _=>exact⟨T.eE.cl,T.fQ⟩
  |put _ _ _=>exact⟨T.dJ.cl,T.fW⟩
  |snd _ _=>exact⟨T.dz.cl,T.eU⟩
  |say _ _ _=>exact⟨T.cm.cl,T.bQ⟩
  |call _ _=>exact⟨T.b8.cl,T.cE⟩
  |_=>exact⟨T.gn.cl,T.eZ⟩
 |iff _ _ _ _ _ _=>exact⟨T.b6.cl,T.gG⟩
 |loop _ _ _ _ _ _=>exact⟨T.bA.cl,T.eT⟩
 |aZ _ _ _ _=>exact⟨T.cF.cl,T.eO⟩
theorem F4{X:Hp}{v:V}{p:Pt}(h:aY A N X v p):∃a dx fs,v=.ref a/\X a=UE (.ins (clI A p.ci) dx (("number",.int p.no)::fs)):=by
 cases p with
 |leaf n r=>
  unfold aY at h;obtain⟨a,dx,p,e,h1,h2⟩:=h;exact{a,dx,_,e,h1}
 |iff n val l r f o=>
  unfold aY at h;obtain⟨a,dx,p,pf,po,xf,xo,e,h1,_⟩:=h;exact{a,dx,_,e,h1}
 |loop n t m l r b=>
  unfold aY at h;obtain⟨a,dx,pb,xb,e,h1,_⟩:=h;exact{a,dx,_,e,h1}
 |aZ n i ps b=>
  unfold aY at h;obtain⟨a,dx,pp,pb,xb,e,h1,_⟩:=h;exact{a,dx,_,e,h1}
theorem uL(T:Txt K mg A){X H:Hp}(s:aj X H){v:V}{p:Pt}(h:aY A N X v p)(j:Nat)(j0:0<j)(hj:j<14){R:Bool->Hp->Prop}(q:R (decide (p.ci=j)) H):AW K [v,.ref (clI A j)] H λv H1=>x6 K v H1 R:=by
 obtain⟨a,dx,fs,rfl,ha⟩:=F4 h;obtain⟨x,O⟩:=yE T p.ci (uH p).2 (uH p).1;exact isB (O.Kr (s _ _ ha)) (HH T p.ci j (uH p).2 hj (uH p).1 j0) q
theorem nX(T:Txt K mg A){X H:Hp}(s:aj X H){v:V}{p:Pt}(h:aY A N X v p){j:Nat}(e:p.ci=j){R:Bool->Hp->Prop}(q:R true H):AW K [v,.ref (clI A j)] H λv H1=>x6 K v H1 R:=uL T s h j (e▸(uH p).1) (e▸(uH p).2) (by rw[decide_eq_true e];exact q)
theorem mr(T:Txt K mg A){X H:Hp}(s:aj X H){v:V}{p:Pt}(h:aY A N X v p){j:Nat}(e:p.ci≠j){R:Bool->Hp->Prop}(q:R false H)(j0:0<j:=by decide)(hj:j<14:=by decide):AW K [v,.ref (clI A j)] H λv H1=>x6 K v H1 R:=uL T s h j j0 hj (by rw[decide_eq_false e];exact q)
theorem ez(T:Txt K mg A){X H:Hp}(s:aj X H){v:V}{p:Pt}(h:aY A N X v p){Q:VK}(q:Q (.int p.no) H):sT K "number" v H Q:=by
 obtain⟨a,dx,fs,rfl,ha⟩:=F4 h;obtain⟨c1,c2⟩:=JU T p;exact fdI (s _ _ ha) c1 c2 rfl q
noncomputable def aV(n:Int):Str:=Ot++("row ":Str)++Qd (toString n)
noncomputable def Kk(s:Str):Nat:=(s.cps.toList.drop 4).foldl (λa c=>10*a+(c-48)) 0
theorem uq:∀n:Fin 1001,((n.val:Int).natAbs.log2<1920)/\(Qd (toString (n.val:Int))).length<=20/\Kk (aV (n.val:Int))=n.val/\(aV (n.val:Int)).cps[0]?=UE 114:=by decide+kernel
theorem iA(a b:Str):(a++b).length=a.length+b.length:=Te
inductive xv(vs:List V)(H:Hp)(Q:VK)(Z:XK):Prop
 |mk(n:Int):vs=[.int n]->0<=n->n<=1000->Q (.str (aV n)) H->xv vs H Q Z
theorem qf(T:Txt K mg A):T.ow.Hz P w base 1 xv:=by
 refine T.ow.hs wc (λf cdv A' outer s H vs Q E' hr hu h=>?_);obtain⟨n,rfl,h0,h1,q⟩:=h;obtain⟨n,rfl⟩:∃k:Nat,n=(k:Int):={n.toNat,()};obtain⟨k1,k2,_⟩:=uq {n,()};refine{_,(ai (aA (E4 (zH ar (zH (HX (fv 0)) Io))))),{_,rfl,∅,LL {_,rfl,k1,_,rfl,?_}}};have l:(aV (n:Int)).length<=sizeLine:=by
  unfold aV;rw[iA];exact LG (Sq k2 _) ∅
 exact⟨l,l,q⟩
end
section
variable{P:Program}{w:Of}{K:Oc}{mg:Str->Option E9}{base:OC}{A:Adr}{N:Nat->Str}
seal PE PA PS PSs PT PW
theorem Paired.two{α β:Type}{F:α->β->Prop}:∀{xs zs:List α}{ys ws:List β},Paired F xs ys->Paired F zs ws->Paired F (xs++zs) (ys++ws)
 |_,_,_,_,.nil,h=>h
 |_,_,_,_,.cons g r,h=>.cons g (Paired.two r h)
noncomputable abbrev Le:=Pt×Option Str×Option Str
noncomputable def oS:Option Str->V
 |none=>.non
 |some x=>.str x
mutual
noncomputable def cA(lp:Option Str):Pt->List Le
 | .leaf _ _=>[]
 | .iff n _ _ _ f o=>bp (UE (aV n)) lp f++bp (UE (aV n)) lp o
 | .loop n _ _ _ _ b=>bp (UE (aV n)) (UE (aV n)) b
 | .aZ _ _ _ _=>[]
noncomputable def bp(pl lp:Option Str):List Pt->List Le
 | []=>[]
 |t::ts=>(t,pl,lp)::(cA lp t++bp pl lp ts)
end
mutual
noncomputable def dep:Pt->Nat
 | .leaf _ _=>0
 | .iff _ _ _ _ f o=>max (lZ f) (lZ o)+1
 | .loop _ _ _ _ _ b=>lZ b+1
 | .aZ _ _ _ b=>0
noncomputable def lZ:List Pt->Nat
 | []=>0
 |t::ts=>max (dep t) (lZ ts)
end
theorem rO{t:Pt}:∀{ts:List Pt},t∈ts->dep t<=lZ ts
 |t'::ts,m=>by
  unfold lZ;rcases Lu.mp m with rfl|m
  ·exact Nat.le_max_left _ _
  exact LG (rO m) (Nat.le_max_right _ _)
theorem rN{pl lp:Option Str}:∀(a b:List Pt),bp pl lp (a++b)=bp pl lp a++bp pl lp b
 | [],b=>by simp[bp]
 |t::a,b=>by
  have h1:bp pl lp (t::(a++b))=(t,pl,lp)::(cA lp t++bp pl lp (a++b)):=by rw[bp]
  have h2:bp pl lp (t::a)=(t,pl,lp)::(cA lp t++bp pl lp a):=by rw[bp]
  show bp pl lp (t::(a++b))=_;rw[h1,h2,rN a b];simp
theorem uC{pl lp:Option Str}{ts:List Pt}{t:Pt}{i:Nat}(h:ts[i]?=UE t):bp pl lp (ts.take (i+1))=bp pl lp (ts.take i)++(t,pl,lp)::cA lp t:=by
 rw[Ms,h,rN];show bp pl lp (ts.take i)++bp pl lp [t]=_;rw[show bp pl lp [t]=(t,pl,lp)::cA lp t by simp[bp]]
theorem Dt{pl lp:Option Str}{ts:List Pt}{t:Pt}{i:Nat}(h:ts[i]?=UE t):bp pl lp ts=bp pl lp (ts.take i)++((t,pl,lp)::cA lp t)++bp pl lp (ts.drop (i+1)):=by
 rw[<-uC h,<-rN,LO]
def Nb(es:List Le):Prop:=∀e∈es,0<=e.1.no/\e.1.no<=1000
def LyE(A:Adr)(N:Nat->Str)(X:Hp)(e:Le)(y:V)(H:Hp):Prop:=∃tp v,y=V.ref tp/\H tp=UE (.tup [v,oS e.2.1,oS e.2.2])/\aY A N X v e.1
def Ly(A:Adr)(N:Nat->Str)(X H:Hp)(es:List Le)(ys:List V):Prop:=Paired (λe y=>LyE A N X e y H) es ys
theorem Ly.same{X H H':Hp}(s:∀x w,H x=UE (.tup w)->H' x=UE (.tup w)){es:List Le}{ys:List V}(h:Ly A N X H es ys):Ly A N X H' es ys:=Paired.rg h λ_ _ ⟨tp,v,e,h1,h2⟩=>{tp,v,e,s _ _ h1,h2}
inductive qt(A:Adr)(d:Nat)(vs:List V)(H:Hp)(Q:VK)(Z:XK):Prop
 |mk(N:Nat->Str)(X:Hp)(L:N6)(xs:List V)(pl lp:Option Str)(ts:List Pt)(z0:vs=[.ref L,oS pl,oS lp])(z1:aj X H)(z2:X L=UE (.lst xs))(z3:aF A N X xs ts)(z4:lZ ts<=d)(z5:Nb (bp pl lp ts))(z6:(bp pl lp ts).length<=900)
  (z7:∀(R:N6)(ys:List V)(H':Hp),aj H H'->H R=UG->H' R=UE (.lst ys)->Ly A N X H' (bp pl lp ts) ys->Q (.ref R) H'):qt A d vs H Q Z
inductive o9(A:Adr)(d:Nat)(vs:List V)(H:Hp)(Q:VK)(Z:XK):Prop
 |mk(N:Nat->Str)(X:Hp)(v:V)(lp:Option Str)(t:Pt)(z0:vs=[v,oS lp])(z1:aj X H)(z2:aY A N X v t)(z3:dep t<=d)(z4:0<=t.no/\t.no<=1000)(z5:Nb (cA lp t))(z6:(cA lp t).length<=900)
  (z7:∀(R:N6)(ys:List V)(H':Hp),aj H H'->H R=UG->H' R=UE (.lst ys)->Ly A N X H' (cA lp t) ys->Q (.ref R) H'):o9 A d vs H Q Z
noncomputable def Cj(A:Adr):Nat->Sp
 |0=>λ_ _ _ _=>False
 |d+1=>qt A d
theorem Af(T:Txt K mg A)(d j:Nat)(gA:T.iy.Hz P w base j (o9 A d)):T.gm.Hz P w base (j+1) (qt A d):=by
 refine T.gm.hs (k:=j) gc (λf cdv A' outer s H vs Q E' hr hu h=>?_);obtain⟨N,X,L,xs,pl,lp,ts,rfl,s0,hL,pt,dp,nb,ln,q⟩:=h;refine{_,(ab (pst 3 gc.nd (aN ae))
  (ab (cZ Oq rfl (fm (fv 0)) (pgn (i:=4) gc.nd rfl)
   (ab (aK (bu (fv 3) (aP (fv 4^fv 1^fv 2^ae)^ae)))
   (ai (aK (gy (fv 3) ((ak (hj:=by lia) gA hr (fv 4^fv 2^ae))^ae))))))
  (ai (aA (fv 3))))),?_}
 refine ag λM1 K1=>{LH _,λR hR=>?_};obtain⟨s1,e1⟩:=alc hR (HO.lst []);generalize upd H R _=H1 at s1 e1⊢;refine K1 _ _ ?_;clear K1 M1;try dsimp only
 refine ag λM1 K1=>LL {{_,SqL.of ((s0.trans s1) _ _ hL)},dH (K:=K) (xs:=xs) (λi σ Hc=>∃(ys:List V)(v4:Option V),σ=[UE (.ref L),UE (oS pl),UE (oS lp),UE (.ref R),v4]/\aj H Hc/\Hc R=UE (.lst ys)/\Ly A N X Hc (bp pl lp (ts.take i)) ys) {[],UG,rfl,s1,e1,by rw[show bp pl lp (ts.take 0)=[] by show bp pl lp []=[];rw[bp]];exact .nil} (λi σ Hc _ ⟨_,_,_,z,_⟩=>SqL.of ((s0.trans z) _ _ hL)) ?_ ?_}
 ·rintro i v σ Hc hv ⟨ys,v4,rfl,sc,hRc,ly⟩;obtain⟨t,ht,pa⟩:=pt.get hv;have mt:t∈ts:=LW ht;have e:=Dt (pl:=pl) (lp:=lp) ht;have le:(bp pl lp (ts.take i)).length+(1+(cA lp t).length)<=900:=by
   rw[e]at ln;simp at ln;lia
  have n1:∀z∈((t,pl,lp)::cA lp t),0<=z.1.no/\z.1.no<=1000:=λz hz=>nb z (by rw[e];exact LP _ (LD _ hz));have lly:=Oe ly;try dsimp only
  refine ag λN1 J1=>{LL {rfl,_,SqL.of hRc},by show 3<=sizeLine;decide,λtp htp=>?_};have tpR:tp≠R:=UO htp hRc;refine{_,_,_,rfl,rfl,az tpR.symm hRc,aQ (),?_};have s2:aj H (upd (upd Hc tp (.tup [v,oS pl,oS lp])) R (.lst (ys++[.ref tp]))):=aj.out (sc.trans (aj.upd htp _)) hR _;have e2:upd (upd Hc tp (.tup [v,oS pl,oS lp])) R (.lst (ys++[.ref tp])) R=UE (.lst (ys++[.ref tp])):=ao;have l2:Ly A N X (upd (upd Hc tp (.tup [v,oS pl,oS lp])) R (.lst (ys++[.ref tp]))) (bp pl lp (ts.take i)++[(t,pl,lp)]) (ys++[.ref tp]):=by
   refine Paired.two (ly.same λx w e=>?_) (.cons ⟨tp,v,rfl,az tpR ao,pa⟩ .nil);exact az (λy=>by rw[y,hRc]at e;cases e) (az (λy=>by rw[y,htp]at e;cases e) e)
  generalize upd (upd Hc tp (.tup [v,oS pl,oS lp])) R (.lst (ys++[.ref tp]))=Hd at s2 e2 l2⊢;refine J1 _ _ ?_;clear J1 N1;try dsimp only
  refine{LL {rfl,_,SqL.of e2},N,X,v,lp,t,rfl,s0.trans s2,pa,LG (rO mt) dp,n1 _ LB,λz hz=>n1 z (Lx _ hz),(),λR2 zs He s3 hR2 eR2 l3=>?_};have lz:=Oe l3;refine{_,_,_,_,rfl,rfl,s3 _ _ e2,eR2,sz (by rw[Ll,<-lz,<-lly];simp;lia),{_,_,rfl,aj.out (s2.trans s3) hR _,ao,?_}};rw[uC ht,show bp pl lp (ts.take i)++(t,pl,lp)::cA lp t=bp pl lp (ts.take i)++[(t,pl,lp)]++cA lp t by simp];have dR:∀x w,He x=UE (.tup w)->upd He R (.lst (ys++[.ref tp]++zs)) x=UE (.tup w):=λx w e=>az (λy=>by rw[y,s3 _ _ e2]at e;cases e) e;exact Paired.two (l2.same λx w e=>dR x w (s3 _ _ e)) (l3.same dR)
 rintro σ Hc ⟨ys,v4,rfl,sc,hRc,ly⟩;rw[show ts.take xs.length=ts by rw[pt.len];exact Mo]at ly;exact K1 _ _ (q R ys Hc sc hR hRc ly)
theorem uI(T:Txt K mg A)(d j:Nat)(dF:T.gm.Hz P w base (j+1) (Cj A d)):T.iy.Hz P w base (j+2) (o9 A d):=by
 refine T.iy.hs (k:=j+1) kh (λf cdv A' outer s H vs Q E' hr hu h=>?_);obtain⟨N,X,v,lp,t,rfl,s0,pa,dp,nt,nb,ln,q⟩:=h;refine{_,(ab (pst 2 kh.nd (ak (hj:=by lia) (qf T) hr (aJ (fv 0) rfl^ae)))
  (ab (aL (bS (pcB bq T.aE (fv 0^cw T.b6.mg^ae)) (λ_=>rfl))
   (ai (aA (aw aD (ak (hj:=by lia) dF hr (aJ (fv 0) rfl^fv 2^fv 1^ae)) (ak (hj:=by lia) dF hr (aJ (fv 0) rfl^fv 2^fv 1^ae)))))
   aC)
  (ab (aL (bS (pcB bq T.aE (fv 0^cw T.bA.mg^ae)) (λ_=>rfl))
   (ai (aA (ak (hj:=by lia) dF hr (aJ (fv 0) rfl^fv 2^fv 2^ae))))
   aC)
  (ai (aA (aN ae)))))),?_}
 refine ag λM1 K1=>ez T s0 pa {_,rfl,nt.1,nt.2,K1 _ _ ?_};clear K1 M1;try dsimp only
 refine ag λM1 K1=>uL T s0 pa 11 ∅ ∅ ?_;cases t with
 |iff n val l r f o=>
  refine bW ?_;unfold aY at pa;obtain⟨a,dx,p,pf,po,xf,xo,rfl,h1,h2,h3,h4,h5,h6⟩:=pa;unfold dep at dp;cases d with
  |zero=>lia
  |succ d=>
  unfold cA at nb ln q;have nf:Nb (bp (UE (aV n)) lp f):=λy hy=>nb y (LP _ hy);have no:Nb (bp (UE (aV n)) lp o):=λy hy=>nb y (LD _ hy);rw[Ll]at ln;refine fdI (s0 _ _ h1) T.b6.cl T.fF rfl {N,X,pf,xf,UE (aV n),lp,f,rfl,s0,h3,h5,(),nf,(),λR1 y1 H1 s1 n1 e1 l1=>fdI ((s0.trans s1) _ _ h1) T.b6.cl T.fE rfl {N,X,po,xo,UE (aV n),lp,o,rfl,s0.trans s1,h4,h6,(),no,(),λR2 y2 H2 s2 n2 e2 l2=>?_}};have z1:=Oe l1;have z2:=Oe l2;refine{R1,R2,_,_,rfl,rfl,s2 _ _ e1,e2,sz (),λR hR=>?_};have s3:aj H2 (upd H2 R (.lst (y1++y2))):=aj.upd hR _;exact q R _ _ ((s1.trans s2).trans s3) (aj.free (s1.trans s2) hR) ao (Paired.two (l1.same λx w e=>s3 _ _ (s2 _ _ e)) (l2.same λx w e=>s3 _ _ e))
 |loop n t m l r b=>
  refine bg (K1 _ _ ?_);clear K1 M1;try dsimp only
  refine ag λM1 K1=>uL T s0 pa 12 ∅ ∅ (bW ?_);unfold aY at pa;obtain⟨a,dx,pb,xb,rfl,h1,h2,h3⟩:=pa;unfold dep at dp;cases d with
  |zero=>lia
  |succ d=>
  unfold cA at nb ln q;exact fdI (s0 _ _ h1) T.bA.cl T.eJ rfl {N,X,pb,xb,UE (aV n),UE (aV n),b,rfl,s0,h2,h3,(),nb,ln,λR1 y1 H1 s1 n1 e1 l1=>q R1 y1 H1 s1 n1 e1 l1}
 |leaf n r=>
  have e11:decide ((Pt.leaf n r).ci=11)=false:=by cases r<;>rfl
  have e12:decide ((Pt.leaf n r).ci=12)=false:=by cases r<;>rfl
  rw[e11];refine bg (K1 _ _ ?_);clear K1 M1;try dsimp only
  refine ag λM1 K1=>uL T s0 pa 12 ∅ ∅ ?_;rw[e12];refine bg (K1 _ _ ?_);clear K1 M1;refine{LH _,λR hR=>q R [] _ (aj.upd hR _) hR ao ?_};unfold cA;exact .nil
 |aZ n i ps b=>
  refine bg (K1 _ _ ?_);clear K1 M1;try dsimp only
  refine ag λM1 K1=>uL T s0 pa 12 ∅ ∅ (bg (K1 _ _ ?_));clear K1 M1;refine{LH _,λR hR=>q R [] _ (aj.upd hR _) hR ao ?_};unfold cA;exact .nil
theorem yU(T:Txt K mg A):∀d,T.gm.Hz P w base (2*d+3) (qt A d)
 |0=>Af T 0 2 (uI T 0 0 (T.gm.hs (k:=0) gc (λ_ _ _ _ _ _ _ _ _ _ _ h=>h.elim) (λ_ _ _ _ h=>h.elim)))
 |d+1=>Af T (d+1) (2*d+4) (uI T (d+1) (2*d+2) (yU T d))
end
section
variable{P:Program}{w:Of}{K:Oc}{mg:Str->Option E9}{base:OC}{A:Adr}{N:Nat->Str}
seal PE PA PS PSs PT PW
noncomputable def kI:Pt->List Pt
 | .aZ _ _ _ b=>b
 |_=>[]
noncomputable def dNm(N:Nat->Str):Pt->Str
 | .aZ _ i _ _=>N i
 |_=>Ot
noncomputable def dPs(N:Nat->Str):Pt->List Str
 | .aZ _ _ ps _=>ps.map N
 |_=>[]
noncomputable def BL:Pt->Prop
 | .aZ _ _ _ _=>True
 |_=>False
noncomputable def dM(N:Nat->Str)(ds:List Pt):List Le:=ds.flatMap λp=>bp (UE (dNm N p)) UG (kI p)
theorem rY{ts:List Pt}{t:Pt}{i:Nat}(h:ts[i]?=UE t):dM N (ts.take (i+1))=dM N (ts.take i)++bp (UE (dNm N t)) UG (kI t):=by
 unfold dM;rw[Ms,h];simp
theorem AB{ts:List Pt}{t:Pt}{i:Nat}(h:ts[i]?=UE t):dM N ts=dM N (ts.take i)++bp (UE (dNm N t)) UG (kI t)++dM N (ts.drop (i+1)):=by
 rw[<-rY h];unfold dM;rw[<-Mr,LO]
def Ee(A:Adr)(N:Nat->Str)(X:Hp)(v:V)(hs ds ms:List Pt):Prop:=∃a dx n0 n1 n2 x0 x1 x2,v=.ref a/\X a=UE (.ins A.Program dx [("heads",.ref n0),("deeds",.ref n1),("main",.ref n2)])/\X n0=UE (.lst x0)/\X n1=UE (.lst x1)/\X n2=UE (.lst x2)/\aF A N X x0 hs/\aF A N X x1 ds/\aF A N X x2 ms
noncomputable def bI(N:Nat->Str)(ds ms:List Pt):List Le:=dM N ds++bp UG UG ms
noncomputable def hPl(N:Nat->Str):Pt->Option Str
 | .leaf _ (.giv i _ _)=>UE (N i)
 | .leaf _ (.own i _)=>UE (N i)
 | .leaf _ (.lt i _)=>UE (N i)
 |_=>UG
noncomputable def sP(p:Pt):Bool:=decide (p.ci=11)||(decide (p.ci=12)||(decide (p.ci=7)||decide (p.ci=8)))
noncomputable def zX(es:List Le):List Str:=(es.filter λe=>sP e.1).map λe=>aV e.1.no
noncomputable def dC(N:Nat->Str)(hs ds ms:List Pt):List Str:=hs.filterMap (hPl N)++(ds.flatMap λp=>dNm N p::dPs N p)++zX (bI N ds ms)++[("the clock":Str)]
structure Ok(N:Nat->Str)(d:Nat)(hs ds ms:List Pt):Prop where
 aZ:∀p∈ds,BL p/\lZ (kI p)<=d
 main:lZ ms<=d
 nb:Nb (bI N ds ms)
 ln:(bI N ds ms).length<=300
 hl:hs.length<=300
noncomputable abbrev sS(xs:List Str):List V:=xs.map V.str
inductive xK(A:Adr)(d:Nat)(vs:List V)(H:Hp)(Q:VK)(Z:XK):Prop
 |mk(N:Nat->Str)(X:Hp)(v:V)(hs ds ms:List Pt)(z0:vs=[v])(z1:aj X H)(z2:Ee A N X v hs ds ms)(z3:Ok N d hs ds ms)
  (z7:∀(R:N6)(ys:List V)(H':Hp),aj H H'->H R=UG->H' R=UE (.lst ys)->Ly A N X H' (bI N ds ms) ys->Q (.ref R) H'):xK A d vs H Q Z
theorem FA(T:Txt K mg A)(d:Nat):T.jx.Hz P w base (2*d+4) (xK A d):=by
 refine T.jx.hs (k:=2*d+3) fY (λf cdv A' outer s H vs Q E' hr hu h=>?_);obtain⟨N,X,v,hs,ds,ms,rfl,s0,⟨a,dx,n0,n1,n2,x0,x1,x2,rfl,ha,e0,e1,e2,p0,p1,p2⟩,ok,q⟩:=h;have ln:=ok.ln;have nb:=ok.nb;unfold bI at ln nb;rw[Ll]at ln;refine{_,(ab (pst 1 fY.nd (aN ae))
  (ab (cZ Oq rfl (fm (aJ (fv 0) rfl)) (pgn (i:=2) fY.nd rfl)
   (ai (aK (gy (fv 1) ((ak (hj:=by lia) (yU T d) hr (aJ (fv 2) rfl^aJ (fv 2) rfl^bH^ae))^ae)))))
  (ai (aA (aw aD (fv 1) (ak (hj:=by lia) (yU T d) hr (aJ (fv 0) rfl^bH^bH^ae))))))),?_}
 refine ag λM1 K1=>{LH _,λR hR=>?_};obtain⟨s1,eR⟩:=alc hR (HO.lst []);generalize upd H R _=H1 at s1 eR⊢;refine K1 _ _ ?_;clear K1 M1;try dsimp only
 refine ag λM1 K1=>fdI ((s0.trans s1) _ _ ha) T.eV.cl T.cN rfl (LL {{_,SqL.of ((s0.trans s1) _ _ e1)},dH (K:=K) (xs:=x1) (λi σ Hc=>∃(ys:List V)(v2:Option V),σ=[UE (.ref a),UE (.ref R),v2]/\aj H Hc/\Hc R=UE (.lst ys)/\Ly A N X Hc (dM N (ds.take i)) ys) {[],UG,rfl,s1,eR,.nil} (λi σ Hc _ ⟨_,_,_,z,_⟩=>SqL.of ((s0.trans z) _ _ e1)) ?_ ?_})
 ·rintro i v σ Hc hv ⟨ys,v2,rfl,sc,hRc,ly⟩;obtain⟨t,ht,pa⟩:=p1.get hv;have mt:t∈ds:=LW ht;obtain⟨dt,dd⟩:=ok.aZ t mt;cases t with
  |aZ n i' ps b=>
   unfold aY at pa;obtain⟨a',dx',pp,pb,xb,rfl,h1,h2,h3,h4⟩:=pa;have e:=AB (N:=N) ht;have le:(dM N (ds.take i)).length+(bp (UE (N i')) UG b).length<=300:=by
    have:=congrArg Pw e;simp only[Ll]at this;have z:bp (UE (dNm N (.aZ n i' ps b))) UG (kI (.aZ n i' ps b))=bp (UE (N i')) UG b:=rfl;rw[z]at this;lia
   have nbb:Nb (bp (UE (N i')) UG b):=λy hy=>nb y (LP _ (by rw[e];exact LP _ (LD _ hy)));have lly:=Oe ly;refine{LL {rfl,_,SqL.of hRc},fdI ((s0.trans sc) _ _ h1) T.cF.cl T.dZ rfl (fdI ((s0.trans sc) _ _ h1) T.cF.cl T.dq rfl {N,X,pb,xb,UE (N i'),UG,b,rfl,s0.trans sc,h3,h4,dd,nbb,(),λR2 zs He s3 hR2 eR2 l3=>?_})};have lz:=Oe l3;refine{_,_,_,_,rfl,rfl,s3 _ _ hRc,eR2,sz (),{_,_,rfl,aj.out (sc.trans s3) hR _,ao,?_}};rw[rY ht];have dR:∀x w,He x=UE (.tup w)->upd He R (.lst (ys++zs)) x=UE (.tup w):=λx w e=>az (λy=>by rw[y,s3 _ _ hRc]at e;cases e) e;exact Paired.two (ly.same λx w e=>dR x w (s3 _ _ e)) (l3.same dR)
  |_=>exact dt.elim
 rintro σ Hc ⟨ys,v2,rfl,sc,hRc,ly⟩;rw[show ds.take x1.length=ds by rw[p1.len];exact Mo]at ly;refine K1 _ _ ?_;have lly:=Oe ly;try dsimp only
 refine fdI ((s0.trans sc) _ _ ha) T.eV.cl T.gU rfl {N,X,n2,x2,UG,UG,ms,rfl,s0.trans sc,e2,p2,ok.main,λy hy=>nb y (LD _ hy),(),λR2 zs He s3 hR2 eR2 l3=>?_};have lz:=Oe l3;refine{R,R2,_,_,rfl,rfl,s3 _ _ hRc,eR2,sz (),λR3 hR3=>?_};have s4:aj He (upd He R3 (.lst (ys++zs))):=aj.upd hR3 _;exact q R3 _ _ ((sc.trans s3).trans s4) (aj.free (sc.trans s3) hR3) ao (Paired.two (ly.same λx w e=>s4 _ _ (s3 _ _ e)) (l3.same λx w e=>s4 _ _ e))
def Sm(M:List N6)(H H':Hp):Prop:=∀a o,a∉M->H a=UE o->H' a=UE o
theorem Sm.refl(M:List N6)(H:Hp):Sm M H H:=λ_ _ _ h=>h
theorem Sm.trans{M:List N6}{H H' H'':Hp}(h:Sm M H H')(h':Sm M H' H''):Sm M H H'':=λa o m e=>h' a o m (h a o m e)
theorem Sm.new{M:List N6}{H H':Hp}(s:aj H H'):Sm M H H':=λa o _ e=>s a o e
theorem Sm.at{M:List N6}{H:Hp}{a:N6}(m:a∈M)(o:HO):Sm M H (upd H a o):=λb u hb e=>az (λz=>hb (z▸m)) e
theorem Sm.same{M:List N6}{X H H':Hp}(h:Sm M H H')(s:aj X H)(n:∀m∈M,X m=UG):aj X H':=λa o e=>h a o (λm=>by rw[n a m]at e;cases e) (s a o e)
theorem qd{α β:Type}(f:α->List β){xs:List α}{i:Nat}{x:α}(h:xs[i]?=UE x):(xs.take (i+1)).flatMap f=(xs.take i).flatMap f++f x:=by
 rw[Ms,h];simp
theorem GB{α β:Type}(f:α->List β){xs:List α}{i:Nat}{x:α}(h:xs[i]?=UE x):((xs.take i).flatMap f).length+(f x).length<=(xs.flatMap f).length:=by
 have e:xs.flatMap f=(xs.take (i+1)).flatMap f++(xs.drop (i+1)).flatMap f:=by rw[<-Mr,LO]
 rw[e,qd f h];simp only[Ll];lia
theorem CD:P1 K (.type "str") (.type "str")=UE true:=by kernel_rfl!
theorem CQ:P1 K (.type "int") (.type "str")=UE false:=by kernel_rfl!
noncomputable def rdS(N:Nat->Str)(acc:List Str):Th->List Str
 | .i _=>acc
 | .x a=>if N a∈acc then acc else acc++[N a]
noncomputable def rds(N:Nat->Str)(ts:List Th):List Str:=ts.foldl (rdS N) []
theorem lX(N:Nat->Str):∀(ts:List Th)(acc:List Str),(ts.foldl (rdS N) acc).length<=ts.length+acc.length
 | [],acc=>by simp
 |t::ts,acc=>by
  have h:=lX N ts (rdS N acc t);have h2:(rdS N acc t).length<=acc.length+1:=by
   cases t with
   |i n=>exact Ng _
   |x a=>unfold rdS;dsimp only;split<;>simp
  rw[MN,Lq];lia
theorem nU(x:Str)(acc:List Str):inV (.str x) (sS acc)=decide (x∈acc):=by
 unfold inV sS;rw[List.any_map,Nh,NV,decide_eq_true_iff];constructor
 ·rintro⟨y,m,e⟩;have e:decide (y=x)=true:=e;exact of_decide_eq_true e▸m
 intro m;exact⟨x,m,decide_eq_true rfl⟩
theorem o6(acc:List Str):(sS acc).all j8=true:=by
 unfold sS;rw[List.all_map,MJ];exact λ_ _=>rfl
noncomputable def vTh:Val->List Th
 | .one a=>[a]
 | .op a _ b=>[a,b]
theorem oN(N:Nat->Str)(v:Val):gb (vV N v)=(vTh v).map (Th.v N):=by
 cases v<;>kernel_rfl
inductive w8(K:Oc)(vs:List V)(H:Hp)(Q:VK)(Z:XK):Prop
 |mk(N:Nat->Str)(t:N6)(xs:List V)(ts:List Th)(z0:vs=[.ref t])(z1:SqT K H t xs)(z2:gb xs=ts.map (Th.v N))(z3:ts.length<=100)
  (z4:∀(p:N6)(H':Hp),H p=UG->aj H H'->H' p=UE (.lst (sS (rds N ts)))->Q (.ref p) H'):w8 K vs H Q Z
theorem lV(T:Txt K mg A):T.rP.Hz P w base 1 (w8 K):=by
 refine T.rP.hs lD (λf cdv A' outer s H vs Q E' hr hu h=>?_);obtain⟨N,t,xs,ts,rfl,hT,ev,hl,q⟩:=h;refine{_,(ab (pst 1 lD.nd (aN ae))
  (ab (cZ Oq rfl (fm (DS (fv 0))) (pgn (i:=2) lD.nd rfl)
   (ai (aL (PW.pt (pw_and (bS (pcB bq T.aE (fv 2^(lU (v:=.ty "str") rfl T.uv (by boot_by_name) rfl)^ae)) (λ_=>rfl)) (pw_and1 (ptc (kU hu) (fv 2) (fv 1) ((by with_unfolding_all rfl))))))
    (ai (aK (bu (fv 1) (fv 2^ae))))
    aC)))
  (ai (aA (fv 1))))),?_}
 refine{(by decide:0<=sizeLine),λp hp=>{t,xs,rfl,(aj.upd hp _).tup hT,λe he=>MY {{_,SqT.of ao},?_}}};have hpe:p≠e:=λz=>by
  rw[<-z,ao]at he;cases he
 rw[ev];refine EU (K:=K) (xs:=ts.map (Th.v N)) (λi σ H3=>aj H H3/\H3 e=UE (.tup (ts.map (Th.v N)))/\H3 p=UE (.lst (sS (rds N (ts.take i))))/\∃v,σ=[UE (.ref t),UE (.ref p),v]) {(aj.upd hp _).trans (aj.upd he _),ao,?_,UG,rfl} (λi σ H3 _ h=>SqT.of h.2.1) ?_ ?_
 ·rw[aW hpe,ao];rfl
 ·rintro i x σ H3 hi ⟨s3,h3e,h3p,v,rfl⟩;rw[LY]at hi;cases ht:ts[i]? with
  |none=>rw[ht]at hi;cases hi
  |some th=>
  rw[ht]at hi;cases hi;have nx:rds N (ts.take (i+1))=rdS N (rds N (ts.take i)) th:=oK (rdS N) [] ht;have ll:=lX N (ts.take i) [];rw[LV,Mi]at ll;cases th with
  |i n=>
   exact{_,_,_,false,rfl,(λz=>by cases z),.int n,CQ,false,rfl,bg (bg {s3,h3e,by rw[h3p,nx];rfl,_,rfl})}
  |x a=>
   refine{_,_,_,true,rfl,(λz=>by cases z),.str _,CD,true,rfl,bW (LL {_,LL (SqL.of h3p),rfl,o6 _,_,rfl,?_})};have nx:rds N (ts.take (i+1))=if N a∈rds N (ts.take i)then rds N (ts.take i)else rds N (ts.take i)++[N a]:=nx
   by_cases m:N a∈rds N (ts.take i)
   ·rw[if_pos m]at nx;exact aR (λc=>absurd c (by show ¬ (!inV (V.str (N a)) (sS (rds N (ts.take i))))=true;rw[nU,decide_eq_true m];decide)) (λ_=>{s3,h3e,by rw[h3p,nx],_,rfl})
   rw[if_neg m]at nx;refine aR (λ_=>?_) (λc=>absurd (by show(!inV (V.str (N a)) (sS (rds N (ts.take i))))=true;rw[nU,decide_eq_false m];rfl) c);refine{LL {rfl,_,SqL.of h3p},_,_,_,rfl,rfl,h3p,aQ (by rw[Lm];unfold rds;lia),{aj.out s3 hp _,az hpe.symm h3e,?_,_,rfl}};rw[ao,nx];simp[sS,Th.v]
 rintro σ H3 ⟨s3,h3e,h3p,v,rfl⟩;rw[show ts.take (ts.map (Th.v N)).length=ts by rw[Lm];exact Mo]at h3p;exact q p H3 hp s3 h3p
noncomputable def tTh:Pt->List Th
 | .leaf _ (.set _ v)=>vTh v
 | .leaf _ (.snd _ v)=>vTh v
 | .leaf _ (.put _ t v)=>t::vTh v
 | .iff _ v _ _ _ _=>vTh v
 | .loop _ t _ _ _ _=>[t]
 |_=>[]
theorem gi(v:Val):(vTh v).length<=2:=by cases v<;>simp[vTh]
theorem zp(t:Pt):(tTh t).length<=3:=by
 cases t with
 |leaf n r=>
  cases r with
  |set _ v=>exact M7 (gi v)
  |snd _ v=>exact M7 (gi v)
  |put _ _ v=>exact NU (gi v)
  |_=>simp[tTh]
 |iff n v _ _ _ _=>exact M7 (gi v)
 |_=>simp[tTh]
noncomputable def iq(acc:List Str)(x:Str):List Str:=if x∈acc then acc else acc++[x]
noncomputable def cI(acc xs:List Str):List Str:=xs.foldl iq acc
theorem uf:∀(xs acc:List Str),(cI acc xs).length<=xs.length+acc.length
 | [],acc=>by simp[cI]
 |x::xs,acc=>by
  have h:=uf xs (iq acc x);have h2:(iq acc x).length<=acc.length+1:=by
   unfold iq;split<;>simp
  show(cI (iq acc x) xs).length<=_;rw[Lq];lia
theorem CY(N:Nat->Str)(t:Th)(v:Val):cI [] (rds N [t]++rds N (vTh v))=rds N (t::vTh v):=by
 cases t with
 |i n=>
  show cI [] ([]++rds N (vTh v))=rds N (vTh v);rw[L6];cases v with
  |one b=>cases b<;>simp[vTh,rds,rdS,cI,iq]
  |op b x c=>
   cases b with
   |i m=>cases c<;>simp[vTh,rds,rdS,cI,iq]
   |x b=>
    cases c with
    |i m=>simp[vTh,rds,rdS,cI,iq]
    |x c=>
     by_cases e:N c=N b
     ·simp[vTh,rds,rdS,cI,iq,e]
     simp[vTh,rds,rdS,cI,iq,e]
 |x a=>
  cases v with
  |one b=>
   cases b with
   |i m=>simp[vTh,rds,rdS,cI,iq]
   |x b=>simp[vTh,rds,rdS,cI,iq]
  |op b y c=>
   cases b with
   |i m=>cases c<;>simp[vTh,rds,rdS,cI,iq]
   |x b=>
    cases c with
    |i m=>simp[vTh,rds,rdS,cI,iq]
    |x c=>
     by_cases e:N c=N b
     ·by_cases e2:N b=N a
      ·simp[vTh,rds,rdS,cI,iq,e,e2]
      simp[vTh,rds,rdS,cI,iq,e,e2]
     by_cases e2:N b=N a
     ·have e3:¬ N c=N a:=λz=>e (z.trans e2.symm);simp[vTh,rds,rdS,cI,iq,e2,e3]
     by_cases e3:N c=N a
     ·have e4:¬ N a=N b:=λz=>e2 z.symm;simp[vTh,rds,rdS,cI,iq,e2,e3,e4]
     simp[vTh,rds,rdS,cI,iq,e,e2,e3]
inductive cR(A:Adr)(i:Nat)(vs:List V)(H:Hp)(Q:VK)(Z:XK):Prop
 |mk(N:Nat->Str)(X:Hp)(v:V)(t:Pt)(z0:vs=[v])(z1:aj X H)(z2:aY A N X v t)(z3:t.ci=i)
  (z4:∀(p:N6)(H':Hp),H p=UG->aj H H'->H' p=UE (.lst (sS (rds N (tTh t))))->Q (.ref p) H'):cR A i vs H Q Z
inductive zB(K:Oc)(vs:List V)(H:Hp)(Q:VK)(Z:XK):Prop
 |mk(t:N6)(xs:List Str)(z0:vs=[.ref t])(z1:SqL K H t (sS xs))(z3:xs.length<=100)
  (z4:∀(p:N6)(H':Hp),H p=UG->aj H H'->H' p=UE (.lst (sS (cI [] xs)))->Q (.ref p) H'):zB K vs H Q Z
theorem G2(T:Txt K mg A):T.pj.Hz P w base 1 (zB K):=by
 refine T.pj.hs jH (λf cdv A' outer s H vs Q E' hr hu h=>?_);obtain⟨t,xs,rfl,hT,hl,q⟩:=h;refine{_,(ab (pst 1 jH.nd (aN ae))
  (ab (cZ Oq rfl (fm (fv 0)) (pgn (i:=2) jH.nd rfl)
   (ai (aL (ptc (kU hu) (fv 2) (fv 1) ((by with_unfolding_all rfl)))
    (ai (aK (bu (fv 1) (fv 2^ae))))
    aC)))
  (ai (aA (fv 1))))),?_}
 refine ag λM1 K1=>{LH _,λp hp=>?_};obtain⟨s1,e1⟩:=alc hp (HO.lst []);generalize upd H p _=H1 at s1 e1⊢;refine K1 _ _ ?_;clear K1 M1;try dsimp only
 refine ag λM1 K1=>LL {{_,s1.seq hT},dH (K:=K) (xs:=sS xs) (λi σ H3=>aj H H3/\H3 p=UE (.lst (sS (cI [] (xs.take i))))/\∃v,σ=[UE (.ref t),UE (.ref p),v]) ⟨s1,e1,UG,rfl⟩ (λi σ H3 _ h=>h.1.seq hT) ?_ ?_}
 ·rintro i x σ H3 hi ⟨s3,h3p,v,rfl⟩;rw[LY]at hi;cases ht:xs[i]? with
  |none=>rw[ht]at hi;cases hi
  |some y=>
  rw[ht]at hi;cases hi;have nx:cI [] (xs.take (i+1))=iq (cI [] (xs.take i)) y:=oK iq [] ht;have ll:=uf (xs.take i) [];rw[LV,Mi]at ll;try dsimp only
  refine LL {_,LL (SqL.of h3p),rfl,o6 _,_,rfl,?_};unfold iq at nx;by_cases m:y∈cI [] (xs.take i)
  ·rw[if_pos m]at nx;exact aR (λc=>absurd c (by show ¬ (!inV (V.str y) (sS (cI [] (xs.take i))))=true;rw[nU,decide_eq_true m];decide)) (λ_=>{s3,by rw[h3p,nx],_,rfl})
  rw[if_neg m]at nx;refine aR (λ_=>?_) (λc=>absurd (by show(!inV (V.str y) (sS (cI [] (xs.take i))))=true;rw[nU,decide_eq_false m];rfl) c);refine{LL {rfl,_,SqL.of h3p},_,_,_,rfl,rfl,h3p,aQ (by rw[Lm];lia),{aj.out s3 hp _,?_,_,rfl}};rw[ao,nx];simp[sS]
 rintro σ H3 ⟨s3,h3p,v,rfl⟩;rw[show xs.take (sS xs).length=xs by rw[Lm];exact Mo]at h3p;exact K1 _ _ (q p H3 hp s3 h3p)
theorem qI(T:Txt K mg A):T.gF.Hz P w mg base 2 (cR A 5):=by
 refine T.gF.hs (k:=1) pV (λf cdv A' outer s H vs Q E' hr hu h=>?_);obtain⟨N,X,v,t,rfl,s0,pa,ec,q⟩:=h;refine{_,(ai (aA (ak (lV T) hr (aJ (fv 0) rfl^ae)))),?_};cases t with
 |leaf n r=>
  unfold aY at pa;obtain⟨a,dx,p,rfl,h1,h2⟩:=pa;cases r with
  |set h val=>exact fdI (s0 _ _ h1) T.eE.cl T.ij rfl {N,p,_,vTh val,rfl,SqT.of (s0 _ _ (h2 _ rfl)),oN N val,LG (gi val) ∅,q}
  |_=>cases ec
 |_=>cases ec
theorem rL(T:Txt K mg A):T.gY.Hz P w mg base 2 (cR A 6):=by
 refine T.gY.hs (k:=1) pM (λf cdv A' outer s H vs Q E' hr hu h=>?_);obtain⟨N,X,v,t,rfl,s0,pa,ec,q⟩:=h;refine{_,(ai (aA (ak (G2 T) hr (aw aD (ak (lV T) hr (aP (aJ (fv 0) rfl^ae)^ae)) (ak (lV T) hr (aJ (fv 0) rfl^ae))^ae)))),?_};cases t with
 |leaf n r=>
  unfold aY at pa;obtain⟨a,dx,p,rfl,h1,h2⟩:=pa;cases r with
  |put h pl val=>
   refine fdI (s0 _ _ h1) T.dJ.cl T.ib rfl {by show 1<=sizeLine;decide,λtp htp=>?_};obtain⟨s1,e1⟩:=alc htp (HO.tup [pl.v N]);generalize upd H tp _=H1 at s1 e1⊢;refine{N,tp,_,[pl],rfl,SqT.of e1,oN N (.one pl),by simp,λL1 H2 f2 s2 e2=>?_};have s12:=s1.trans s2;refine fdI ((s0.trans s12) _ _ h1) T.dJ.cl T.gC rfl {N,p,_,vTh val,rfl,SqT.of ((s0.trans s12) _ _ (h2 _ rfl)),oN N val,LG (gi val) ∅,λL2 H3 f3 s3 e3=>?_};have l1:=lX N [pl] [];have l2:=lX N (vTh val) [];have l3:=gi val;simp only[Lo,Mi]at l1 l2;refine{L1,L2,_,_,rfl,rfl,s3 _ _ e2,e3,sz (by rw[Lm,Lm];unfold rds;lia),λL3 hL3=>?_};obtain⟨s4,e4⟩:=alc hL3 (HO.lst (sS (rds N [pl])++sS (rds N (vTh val))));generalize upd H3 L3 _=H4 at s4 e4⊢;have t4:=s12.trans (s3.trans s4);refine{L3,rds N [pl]++rds N (vTh val),rfl,SqL.of (by rw[e4];simp[sS]),by rw[Ll];unfold rds;lia,λR H5 f5 s5 e5=>q R H5 (aj.free t4 f5) (t4.trans s5) (by rw[e5,CY];rfl)}
  |_=>cases ec
 |_=>cases ec
theorem pY(T:Txt K mg A):T.fR.Hz P w mg base 2 (cR A 7):=by
 refine T.fR.hs (k:=1) oZ (λf cdv A' outer s H vs Q E' hr hu h=>?_);obtain⟨N,X,v,t,rfl,s0,pa,ec,q⟩:=h;refine{_,(ai (aA (ak (lV T) hr (aJ (fv 0) rfl^ae)))),?_};cases t with
 |leaf n r=>
  unfold aY at pa;obtain⟨a,dx,p,rfl,h1,h2⟩:=pa;cases r with
  |snd h val=>exact fdI (s0 _ _ h1) T.dz.cl T.fJ rfl {N,p,_,vTh val,rfl,SqT.of (s0 _ _ (h2 _ rfl)),oN N val,LG (gi val) ∅,q}
  |_=>cases ec
 |_=>cases ec
theorem tK(T:Txt K mg A):T.iC.Hz P w mg base 2 (cR A 11):=by
 refine T.iC.hs (k:=1) rJ (λf cdv A' outer s H vs Q E' hr hu h=>?_);obtain⟨N,X,v,t,rfl,s0,pa,ec,q⟩:=h;refine{_,(ai (aA (ak (lV T) hr (aJ (fv 0) rfl^ae)))),?_};cases t with
 |iff n val l r f o=>
  unfold aY at pa;obtain⟨a,dx,p,pf,po,xf,xo,rfl,h1,h2,_⟩:=pa;exact fdI (s0 _ _ h1) T.b6.cl T.iR rfl {N,p,_,vTh val,rfl,SqT.of (s0 _ _ h2),oN N val,LG (gi val) ∅,q}
 |leaf n r=>cases r<;>cases ec
 |_=>cases ec
theorem pU(T:Txt K mg A):T.fN.Hz P w mg base 2 (cR A 12):=by
 refine T.fN.hs (k:=1) oP (λf cdv A' outer s H vs Q E' hr hu h=>?_);obtain⟨N,X,v,t,rfl,s0,pa,ec,q⟩:=h;refine{_,(ai (aA (ak (lV T) hr (aP (aJ (fv 0) rfl^ae)^ae)))),?_};cases t with
 |loop n t m l r b=>
  unfold aY at pa;obtain⟨a,dx,pb,xb,rfl,h1,_⟩:=pa;exact fdI (s0 _ _ h1) T.bA.cl T.fV rfl {by show 1<=sizeLine;decide,λtp htp=>{N,tp,_,[t],rfl,SqT.of ao,oN N (.one t),by simp,λp H' hp s1 e1=>q p H' (aj.free (aj.upd htp _) hp) ((aj.upd htp _).trans s1) e1}}
 |leaf n r=>cases r<;>cases ec
 |_=>cases ec
def GO(A:Adr)(C:N6)(sp:Sp):Prop:=∃i,(i=5\/i=6\/i=7\/i=11\/i=12)/\C=clI A i/\sp=cR A i
theorem Fe(T:Txt K mg A):∀C sp,GO A C sp->Cls K C/\∃ps,xp P w K mg base 2 C "reads" ps sp:=by
 rintro C sp ⟨i,rfl|rfl|rfl|rfl|rfl,rfl,rfl⟩
 ·exact{T.eE.cl,_,qI T}
 ·exact{T.dJ.cl,_,rL T}
 ·exact{T.dz.cl,_,pY T}
 ·exact{T.b6.cl,_,tK T}
 exact{T.bA.cl,_,pU T}
structure Lk where
 fr:Str
 to:Str
 kd:Str
 no:Int
noncomputable def Lk.vs(l:Lk):List V:=[.str l.fr,.str l.to,.str l.kd,.int l.no]
def LkR(l:Lk)(y:V)(H:Hp):Prop:=∃t,y=V.ref t/\H t=UE (.tup l.vs)
def Lks(H:Hp)(ls:List Lk)(ys:List V):Prop:=Paired (λl y=>LkR l y H) ls ys
theorem Lks.same{H H':Hp}(s:∀x w,H x=UE (.tup w)->H' x=UE (.tup w)){ls:List Lk}{ys:List V}(h:Lks H ls ys):Lks H' ls ys:=Paired.rg h λ_ _ ⟨t,e,h1⟩=>{t,e,s _ _ h1}
theorem rH{α β γ:Type}{F:α->β->Prop}(g:γ->α):∀{l:List γ}{m:List β},Paired (λx y=>F (g x) y) l m->Paired F (l.map g) m
 |_,_,.nil=>.nil
 |_,_,.cons h r=>.cons h (rH g r)
noncomputable def drP(into:Str):Option Str->Bool
 |none=>false
 |some x=>!decide (x=into)
noncomputable def drw(fs:List (Option Str))(into kd:Str)(n:Int):List Lk:=(fs.filter (drP into)).map λf=>⟨f.getD Ot,into,kd,n⟩
theorem bZ(fs:List (Option Str))(into kd:Str)(n:Int):(drw fs into kd n).length<=fs.length:=by
 unfold drw;rw[Lm];exact Nt _ _
inductive je(K:Oc)(vs:List V)(H:Hp)(Q:VK)(Z:XK):Prop
 |mk(L:N6)(fs:List (Option Str))(into kd:Str)(n:Int)(z0:vs=[.ref L,.str into,.str kd,.int n])(z1:SqL K H L (fs.map oS))(z2:fs.length<=100)
  (z3:∀(R:N6)(ys:List V)(H':Hp),aj H H'->H R=UG->H' R=UE (.lst ys)->Lks H' (drw fs into kd n) ys->Q (.ref R) H'):je K vs H Q Z
theorem qk(T:Txt K mg A):T.drawn.Hz P w base 1 (je K):=by
 refine T.drawn.hs BB (λf cdv A' outer s H vs Q E' hr hu h=>?_);obtain⟨L,fs,into,kd,n,rfl,hL,hl,q⟩:=h;refine{_,(ai (aA (lT (N:=["one","into","kind","number"]) (own:=1) (fr:=[1,2,3]) (dv.of (by kernel_rfl!)) rfl (fm (fv 0)) (λb=>pgn (i:=0) (show Qp (["one","into","kind","number"]:List QY) by decide+kernel) rfl) (λb=>CG (PW.pt (pw_and (ptc fz (fv 0) bH) (pw_and1 (ptc (oW hu) (fv 0) (fv 1)))))) (λb=>aP (fv 0^fv 1^fv 2^fv 3^ae))))),LL {{_,hL},wO (K:=K) (own:=1) fs (drP into) (λf y H=>LkR ⟨f.getD Ot,into,kd,n⟩ y H) hL (Lm _) (by rw[Lm];exact aQ ()) ?_ ?_ ?_ ?_}}
 ·intro b i x e v0 H1 Nn Y hx he hv s1 no yes;obtain⟨u0,rfl⟩:∃u0,v0=[u0]:=by
   match v0,hv with
   | [u],_=>exact⟨u,rfl⟩
  rw[LY,he]at hx;cases hx;cases e with
  |none=>exact{rfl,_,rfl,bg (bg (no rfl [UE .non] _ rfl (aj.refl _)))}
  |some x=>
   refine{rfl,_,rfl,bW {rfl,_,rfl,?_}};by_cases c:x=into
   ·subst c;exact aR (λz=>absurd z (by show ¬ (!decide (V.str x=V.str x))=true;rw[decide_eq_true rfl];decide)) (λ_=>no (by show(!decide (x=x))=false;rw[decide_eq_true rfl];rfl) [UE (.str x)] _ rfl (aj.refl _))
   refine aR (λ_=>?_) (λz=>absurd (by show(!decide (V.str x=V.str into))=true;rw[KG,decide_eq_false c];rfl) z);exact{by show 4<=sizeLine;decide,λtp htp=>yes (by show(!decide (x=into))=true;rw[decide_eq_false c];rfl) [UE (.str x)] _ _ rfl (aj.upd htp _) ⟨tp,rfl,ao⟩}
 ·rintro e y H1 H2 s1 ⟨t,e1,h1⟩;exact{t,e1,s1 _ _ h1}
 ·rintro e y H1 D ys zs hD ⟨t,e1,h1⟩;exact{t,e1,az (λz=>by rw[z,hD]at h1;cases h1) h1}
 intro D H1 ys hD s1 e1 pr;exact q D ys H1 s1 hD e1 (rH _ pr)
noncomputable def vJ(N:Nat->Str)(n:Int)(tp:Th×Str):List Lk:=match tp.1 with
 | .i _=>[]
 | .x a=>drw [UE (N a)] tp.2 "value" n
noncomputable def clA(N:Nat->Str)(n:Int)(l:List (Th×Str)):List Lk:=l.flatMap (vJ N n)
noncomputable def clB(pl:Option Str)(n:Int)(l:List Str):List Lk:=l.flatMap λinto=>drw [pl] into "under" n
theorem uE{α β:Type}(f:α->List β)(h:∀x,(f x).length<=1):∀l:List α,(l.flatMap f).length<=l.length
 | []=>Ln _
 |x::l=>by
  have h1:=uE f h l;have h2:=h x;rw[Mj,Ll,Lq];lia
theorem wo(n:Int)(tp:Th×Str):(vJ N n tp).length<=1:=by
 unfold vJ;split
 ·simp
 exact bZ _ _ _ _
theorem nI{H Hc He:Hp}{R R2:N6}{ls ms:List Lk}{ys zs:List V}(s3:aj Hc He)(hRc:Hc R=UE (.lst ys))(ly:Lks Hc ls ys)(l3:Lks He ms zs):Lks (upd He R (.lst (ys++zs))) (ls++ms) (ys++zs):=by
 have dR:∀x w,He x=UE (.tup w)->upd He R (.lst (ys++zs)) x=UE (.tup w):=λx w e=>az (λy=>by rw[y,s3 _ _ hRc]at e;cases e) e;exact Paired.two (ly.same λx w e=>dR x w (s3 _ _ e)) (l3.same dR)
inductive uw(A:Adr)(vs:List V)(H:Hp)(Q:VK)(Z:XK):Prop
 |mk(N:Nat->Str)(X:Hp)(v:V)(n:Int)(i:Nat)(ts:List Th)(pl:Option Str)(pp:N6)(ps:List Str)(z0:vs=[v,oS pl,.ref pp])(z1:aj X H)(z2:aY A N X v (.leaf n (.call i ts)))(z3:X pp=UE (.lst (sS ps)))(z4:ts.length=ps.length)(z5:ps.length<=100)
  (z6:∀(R:N6)(ys:List V)(H':Hp),aj H H'->H R=UG->H' R=UE (.lst ys)->Lks H' (clA N n (ts.zip ps)++clB pl n (ps++[N i])) ys->Q (.ref R) H'):uw A vs H Q Z
theorem Bz(T:Txt K mg A):T.jN.Hz P w base 2 (uw A):=by
 refine T.jN.hs (k:=1) cP (λf cdv A' outer s H vs Q E' hr hu h=>?_);obtain⟨N,X,v,n,i,ts,pl,pp,ps,rfl,s0,pa,hpp,tl,pl1,q⟩:=h;unfold aY at pa;obtain⟨a,dx,p,rfl,h1,h2⟩:=pa;have h2:=h2 _ rfl;refine{_,(ab (pst 3 cP.nd (aN ae))
  (ab (cZ Oq rfl (Iq rfl T.zq (aJ (fv 0) rfl^fv 2^ae)) (cL rfl (aH (pgn (i:=4) cP.nd rfl) (aH (pgn (i:=5) cP.nd rfl) bU)))
   (ai (aL (bS (pcB bq T.aE (fv 4^(lU (v:=.ty "str") rfl T.uv (by boot_by_name) rfl)^ae)) (λ_=>rfl))
    (ai (aK (gy (fv 3) (ak (qk T) hr (aN (fv 4^ae)^fv 5^ar^aJ (fv 0) rfl^ae)^ae))))
    aC)))
  (ab (cZ Oq rfl (fm (aw aD (fv 2) (aN (aJ (fv 0) rfl^ae)))) (pgn (i:=6) cP.nd rfl)
   (ai (aK (gy (fv 3) (ak (qk T) hr (aN (fv 1^ae)^fv 6^ar^aJ (fv 0) rfl^ae)^ae)))))
  (ai (aA (fv 3)))))),?_}
 refine ag λM1 K1=>{LH _,λR hR=>?_};obtain⟨s1,e1⟩:=alc hR (HO.lst []);generalize upd H R _=H1 at s1 e1⊢;refine K1 _ _ ?_;clear K1 M1;try dsimp only
 refine ag λM1 K1=>?_;have sX1:=s0.trans s1;refine fdI (sX1 _ _ h1) T.b8.cl T.fe rfl {_,_,rfl,{_,SqL.of (sX1 _ _ h2)},{_,SqL.of (sX1 _ _ hpp)},Fb (K:=K) (xs:=ts.map (Th.v N)) (ys:=sS ps) (λj σ Hc=>∃(ys:List V)(v4 v5:Option V),σ=[UE (.ref a),UE (oS pl),UE (.ref pp),UE (.ref R),v4,v5,UG]/\aj H Hc/\Hc R=UE (.lst ys)/\Lks Hc (clA N n ((ts.zip ps).take j)) ys) {[],UG,UG,rfl,s1,e1,.nil} (λj σ Hc _ ⟨_,_,_,_,z,_⟩=>{SqL.of ((s0.trans z) _ _ h2),SqL.of ((s0.trans z) _ _ hpp)}) (by rw[Lm,Lm];exact tl) ?_ ?_}
 ·rintro j x y σ Hc tp hx hy ⟨ys,v4,v5,rfl,sc,hRc,ly⟩ htp;rw[LY]at hx hy;cases ht:ts[j]? with
  |none=>rw[ht]at hx;cases hx
  |some th=>
  cases hp:ps[j]? with
  |none=>rw[hp]at hy;cases hy
  |some pn=>
  rw[ht]at hx;rw[hp]at hy;cases hx;cases hy;have hz:(ts.zip ps)[j]?=UE (th,pn):=List.getElem?_zip_eq_some.mpr ⟨ht,hp⟩;have st:clA N n ((ts.zip ps).take (j+1))=clA N n ((ts.zip ps).take j)++vJ N n (th,pn):=qd (vJ N n) hz;have sl:=uE (vJ N n) (wo n) ((ts.zip ps).take j);rw[LV,Nx]at sl;have lly:=Oe ly;unfold clA at lly;have sp:=aj.upd htp (.tup [th.v N,.str pn]);have tR:tp≠R:=UO htp hRc;try dsimp only
  refine{tp,_,rfl,SqT.of ao,rfl,_,_,rfl,_,_,rfl,rfl,?_};cases th with
  |i m=>
   refine{_,_,_,false,rfl,(λz=>by cases z),.int m,CQ,false,rfl,bg {ys,_,_,rfl,sc.trans sp,sp _ _ hRc,?_}};rw[st];show Lks _ (_++[]) ys;rw[LQ];exact ly.same λx w e=>sp _ _ e
  |x b=>
   refine{_,_,_,true,rfl,(λz=>by cases z),.str _,CD,true,rfl,bW {LL {rfl,_,SqL.of (sp _ _ hRc)},by show 1<=sizeLine;decide,λq1 hq1=>?_}};have sq:=aj.upd hq1 (.lst [Th.v N (.x b)]);refine fdI ((((s0.trans sc).trans sp).trans sq) _ _ h1) T.b8.cl T.cE rfl {q1,[UE (N b)],pn,"value",n,rfl,SqL.of ao,by simp,λR2 zs He s3 hR2 eR2 l3=>?_};have lz:=Oe l3;have dl:=bZ [UE (N b)] pn "value" n;have s4:=(sp.trans sq).trans s3;refine{_,_,_,_,rfl,rfl,s4 _ _ hRc,eR2,sz (by simp only[Lo]at dl;lia),{_,_,_,rfl,aj.out (sc.trans s4) hR _,ao,?_}};rw[st];exact nI (H:=H) (R2:=R2) s4 hRc ly l3
 rintro σ Hc ⟨ys,v4,v5,rfl,sc,hRc,ly⟩;rw[show(ts.zip ps).take (ts.map (Th.v N)).length=ts.zip ps by rw[Lm];exact Mb (by rw[Nx];lia)]at ly;have l1:(clA N n (ts.zip ps)).length<=100:=LG (uE (vJ N n) (wo n) _) (by rw[Nx];lia);refine K1 _ _ ?_;clear K1 M1;generalize clA N n (ts.zip ps)=LA at ly l1 q;try dsimp only
 refine ag λM1 K1=>?_;have sX:=s0.trans sc;refine fdI (sX _ _ h1) T.b8.cl T.du rfl {by show 1<=sizeLine;decide,λq1 hq1=>?_};have sq:=aj.upd hq1 (.lst [.str (N i)]);refine{pp,q1,_,_,rfl,rfl,(sX.trans sq) _ _ hpp,ao,sz (by rw[Lm,Lo];lia),λq2 hq2=>?_};have sq2:=aj.upd hq2 (.lst (sS ps++[.str (N i)]));have es:sS ps++[V.str (N i)]=sS (ps++[N i]):=by simp[sS]
 rw[es]at sq2⊢;have eq2:upd (upd Hc q1 (.lst [.str (N i)])) q2 (.lst (sS (ps++[N i]))) q2=UE (.lst (sS (ps++[N i]))):=ao;have sc2:=sq.trans sq2;have q2R:q2≠R:=UO hq2 (sq _ _ hRc);generalize upd (upd Hc q1 (.lst [.str (N i)])) q2 (.lst (sS (ps++[N i])))=H2 at sc2 eq2⊢;have is1:(ps++[N i]).length<=101:=by simp;lia
 generalize ps++[N i]=is at eq2 is1 q;refine LL {{_,SqL.of eq2},dH (K:=K) (xs:=sS is) (λj σ Hd=>∃(zs:List V)(v6:Option V),σ=[UE (.ref a),UE (oS pl),UE (.ref pp),UE (.ref R),v4,v5,v6]/\Sm [R] H2 Hd/\Hd R=UE (.lst zs)/\Lks Hd (LA++clB pl n (is.take j)) zs) {ys,UG,rfl,Sm.refl _ _,sc2 _ _ hRc,by show Lks _ (_++[]) _;rw[LQ];exact ly.same λx w e=>sc2 _ _ e} (λj σ Hd _ ⟨_,_,_,z,_⟩=>SqL.of (z _ _ (λm=>q2R (Lp.mp m)) eq2)) ?_ ?_}
 ·rintro j x σ Hd hx ⟨zs,v6,rfl,sd,hRd,lz⟩;rw[LY]at hx;cases hi:is[j]? with
  |none=>rw[hi]at hx;cases hx
  |some into=>
  rw[hi]at hx;cases hx;have st:clB pl n (is.take (j+1))=clB pl n (is.take j)++drw [pl] into "under" n:=qd _ hi;have sl:=uE (λinto=>drw [pl] into "under" n) (λx=>bZ _ _ _ _) (is.take j);rw[LV]at sl;have llz:=Oe lz;unfold clB at llz;rw[Ll]at llz;have sX2:aj H Hd:=sd.same (sc.trans sc2) (λm hm=>by rw[Lp.mp hm];exact hR);try dsimp only
  refine{LL {rfl,_,SqL.of hRd},by show 1<=sizeLine;decide,λq3 hq3=>?_};have sq3:=aj.upd hq3 (.lst [oS pl]);refine fdI (((s0.trans sX2).trans sq3) _ _ h1) T.b8.cl T.cE rfl {q3,[pl],into,"under",n,rfl,SqL.of ao,by simp,λR2 ws He s3 hR2 eR2 l3=>?_};have lw:=Oe l3;have dl:=bZ [pl] into "under" n;have s4:=sq3.trans s3;refine{_,_,_,_,rfl,rfl,s4 _ _ hRd,eR2,sz (by simp only[Lo]at dl;lia),{_,_,rfl,(sd.trans (Sm.new s4)).trans (Sm.at (Lp.mpr rfl) _),ao,?_}};rw[st,<-Lz];exact nI (H:=H) (R2:=R2) s4 hRd lz l3
 rintro σ Hd ⟨zs,v6,rfl,sd,hRd,lz⟩;rw[show is.take (sS is).length=is by rw[Lm];exact Mo]at lz;exact K1 _ _ (q R zs Hd (sd.same (sc.trans sc2) (λm hm=>by rw[Lp.mp hm];exact hR)) hR hRd lz)
noncomputable def k5:Pt->Bool
 | .leaf _ (.set _ _)=>true
 | .leaf _ (.put _ _ _)=>true
 | .leaf _ (.snd _ _)=>true
 | .leaf _ (.say _ _ _)=>true
 | .leaf _ (.call _ _)=>true
 | .leaf _ .last=>true
 | .iff _ _ _ _ _ _=>true
 | .loop _ _ _ _ _ _=>true
 |_=>false
noncomputable def drI(N:Nat->Str)(t:Pt)(into kd:Str)(pl:Option Str):List Lk:=drw ((rds N (tTh t)).map UE) into kd t.no++drw [pl] into "under" t.no
noncomputable def saL(pl:Option Str)(x m:Str)(n:Int):List Lk:=drw [UE m] x "value" n++drw [pl] x "under" n++drw [pl] (aV n) "under" n
noncomputable def pZ(N:Nat->Str)(po:Str->List Str)(t:Pt)(pl lp:Option Str):List Lk:=match t with
 | .leaf n (.set x v)=>drI N (.leaf n (.set x v)) (N x) "value" pl
 | .leaf n (.put x p v)=>drI N (.leaf n (.put x p v)) (N x) "value" pl
 | .leaf n (.call i ts)=>clA N n (ts.zip (po (N i)))++clB pl n (po (N i)++[N i])
 | .leaf n (.snd h v)=>drI N (.leaf n (.snd h v)) (aV n) "value" pl
 | .leaf n (.say x _ m)=>saL pl (N x) (N m) n
 | .leaf n .last=>drw [pl] (lp.getD Ot) "under" n
 | .iff n v l r f o=>drI N (.iff n v l r f o) (aV n) "test" pl
 | .loop n t m l r b=>drI N (.loop n t m l r b) (aV n) "test" pl
 |_=>[]
theorem uT(t:Pt)(into kd:Str)(pl:Option Str):(drI N t into kd pl).length<=4:=by
 unfold drI;have h1:=bZ ((rds N (tTh t)).map UE) into kd t.no;have h2:=bZ [pl] into "under" t.no;have h3:=lX N (tTh t) [];have h4:=zp t;rw[Lm]at h1;rw[Ll];simp only[Lo,Mi]at h2 h3;unfold rds at h1⊢;lia
def lOk(t:Pt)(lp:Option Str):Prop:=t.ci=10->lp.isSome=true
def BJ(X H:Hp)(D:N6)(po:Str->List Str)(nm:List Str):Prop:=∃kvs,H D=UE (.dK kvs)/\∀x∈nm,(po x).length<=100/\∃pp,L2.c0 kvs (.inr x)=UE (.ref pp)/\X pp=UE (.lst (sS (po x)))
theorem BJ.same{X H H':Hp}{D:N6}{po:Str->List Str}{nm:List Str}(h:BJ X H D po nm)(e:∀kvs,H D=UE (.dK kvs)->H' D=UE (.dK kvs)):BJ X H' D po nm:=by
 obtain⟨kvs,h1,h2⟩:=h;exact{kvs,e _ h1,h2}
noncomputable def Cw(N:Nat->Str)(po:Str->List Str)(nm:List Str):Pt->Prop
 | .leaf _ (.call i ts)=>N i∈nm/\ts.length=(po (N i)).length
 |_=>True
inductive Ae(A:Adr)(vs:List V)(H:Hp)(Q:VK)(Z:XK):Prop
 |mk(N:Nat->Str)(X:Hp)(v:V)(t:Pt)(pl lp:Option Str)(D:N6)(po:Str->List Str)(nm:List Str)(z0:vs=[v,oS pl,oS lp,.ref D])(z1:aj X H)(z2:aY A N X v t)(z3:k5 t=true)(z4:0<=t.no/\t.no<=1000)(z8:lOk t lp)(z5:BJ X H D po nm)(z6:Cw N po nm t)
  (z7:∀(R:N6)(ys:List V)(H':Hp),aj H H'->H R=UG->H' R=UE (.lst ys)->Lks H' (pZ N po t pl lp) ys->Q (.ref R) H'):Ae A vs H Q Z
inductive zL(A:Adr)(vs:List V)(H:Hp)(Q:VK)(Z:XK):Prop
 |mk(N:Nat->Str)(X:Hp)(v:V)(n:Int)(x m:Nat)(val:Val)(pl:Option Str)(z0:vs=[v,oS pl])(z1:aj X H)(z2:aY A N X v (.leaf n (.say x val m)))(z4:0<=n/\n<=1000)
  (z7:∀(R:N6)(ys:List V)(H':Hp),aj H H'->H R=UG->H' R=UE (.lst ys)->Lks H' (saL pl (N x) (N m) n) ys->Q (.ref R) H'):zL A vs H Q Z
theorem Iz(T:Txt K mg A):T.mU.Hz P w base 2 (zL A):=by
 have cc:=@qk P w _ _ base _ T;refine T.mU.hs (k:=1) mK (λf cdv A' outer s H vs Q E' hr hu h=>?_);obtain⟨N,X,v,n,x,m,val,pl,rfl,s0,pa,nt,q⟩:=h;unfold aY at pa;obtain⟨a,dx,p,rfl,h1,_⟩:=pa;refine{_,(ab (pst 2 mK.nd (ak cc hr (aN (aJ (fv 0) rfl^ae)^aJ (fv 0) rfl^ar^aJ (fv 0) rfl^ae)))
  (ab (aK (gy (fv 2) (ak cc hr (aN (fv 1^ae)^aJ (fv 0) rfl^ar^aJ (fv 0) rfl^ae)^ae)))
  (ai (aA (aw aD (fv 2) (ak cc hr (aN (fv 1^ae)^ak (qf T) hr (aJ (fv 0) rfl^ae)^ar^aJ (fv 0) rfl^ae))))))),?_}
 refine ag λM1 K1=>fdI (s0 _ _ h1) T.cm.cl T.i8 rfl {by show 1<=sizeLine;decide,λq1 hq1=>?_};have s1:=aj.upd hq1 (.lst [V.str (N m)]);have sX1:=s0.trans s1;refine fdI (sX1 _ _ h1) T.cm.cl T.fD rfl (fdI (sX1 _ _ h1) T.cm.cl T.bQ rfl {q1,[UE (N m)],N x,"value",n,rfl,SqL.of ao,by simp,λR y1 H2 s2 n2 e2 l2=>K1 _ _ ?_});clear K1 M1;have t2:=s1.trans s2;have hR:H R=UG:=aj.free s1 n2;have a1:=Oe l2;have b1:=bZ [UE (N m)] (N x) "value" n;try dsimp only
 refine ag λM1 K1=>{LL {rfl,_,SqL.of e2},by show 1<=sizeLine;decide,λq3 hq3=>?_};have s3:=aj.upd hq3 (.lst [oS pl]);have sX3:=s0.trans (t2.trans s3);refine fdI (sX3 _ _ h1) T.cm.cl T.fD rfl (fdI (sX3 _ _ h1) T.cm.cl T.bQ rfl {q3,[pl],N x,"under",n,rfl,SqL.of ao,by simp,λR2 y2 H4 s4 n4 e4 l4=>?_});have s24:=s3.trans s4;have a2:=Oe l4;have b2:=bZ [pl] (N x) "under" n;simp only[Lo]at b1 b2;refine{_,_,_,_,rfl,rfl,s24 _ _ e2,e4,sz (),?_};have l5:=nI (H:=H) (R2:=R2) s24 e2 l2 l4;have s5:aj H (upd H4 R (.lst (y1++y2))):=aj.out (t2.trans s24) hR _;have e5:upd H4 R (.lst (y1++y2)) R=UE (.lst (y1++y2)):=ao;generalize upd H4 R (.lst (y1++y2))=H5 at l5 s5 e5⊢;refine K1 _ _ ?_;clear K1 M1;try dsimp only
 refine{by show 1<=sizeLine;decide,λq6 hq6=>?_};have s6:=aj.upd hq6 (.lst [oS pl]);have sX6:=s0.trans (s5.trans s6);refine fdI (sX6 _ _ h1) T.cm.cl T.bQ rfl {_,rfl,nt.1,nt.2,fdI (sX6 _ _ h1) T.cm.cl T.bQ rfl {q6,[pl],aV n,"under",n,rfl,SqL.of ao,by simp,λR3 y3 H7 s7 n7 e7 l7=>?_}};have s57:=s6.trans s7;have a3:=Oe l7;have b3:=bZ [pl] (aV n) "under" n;simp only[Lo]at b3;refine{R,R3,_,_,rfl,rfl,s57 _ _ e5,e7,sz (by rw[Ll];lia),λR4 hR4=>?_};have s8:=aj.upd hR4 (.lst (y1++y2++y3));exact q R4 _ _ (s5.trans (s57.trans s8)) (aj.free (s5.trans s57) hR4) ao (Paired.two (l5.same λz w e=>(s57.trans s8) _ _ e) (l7.same λz w e=>s8 _ _ e))
theorem Jx{X:Hp}{v:V}{p:Pt}(h:aY A N X v p):∃a dx fs,v=.ref a/\X a=UE (.ins (clI A p.ci) dx fs)/\fs.lookup ("reads":Str)=UG:=by
 cases p with
 |leaf n r=>
  unfold aY at h;obtain⟨a,dx,p,e,h1,h2⟩:=h;exact{a,dx,_,e,h1,by cases r<;>rfl}
 |iff n val l r f o=>
  unfold aY at h;obtain⟨a,dx,p,pf,po,xf,xo,e,h1,_⟩:=h;exact{a,dx,_,e,h1,rfl}
 |loop n t m l r b=>
  unfold aY at h;obtain⟨a,dx,pb,xb,e,h1,_⟩:=h;exact{a,dx,_,e,h1,rfl}
 |aZ n i ps b=>
  unfold aY at h;obtain⟨a,dx,pp,pb,xb,e,h1,_⟩:=h;exact{a,dx,_,e,h1,rfl}
theorem Ib(T:Txt K mg A):T.nZ.Hz P w base 3 (Ae A):=by
 have cc:=@qk P w _ _ base _ T;have M_reads:=Fe (P:=P) (w:=w) (mg:=mg) (base:=base) T;refine T.nZ.hs (k:=2) nT (λf cdv A' outer s H vs Q E' hr hu h=>?_);obtain⟨N,X,v,t,pl,lp,D,po,nm,rfl,s0,pa,hk,nt,hlp,hD,hc,q⟩:=h;refine{_,(ab (pst 4 nT.nd (ak (qf T) hr (aJ (fv 0) rfl^ae)))
  (ab (aL (PW.pt (pw_or (bS (pcB bq T.aE (fv 0^cw T.eE.mg^ae)) (λ_=>rfl)) (pw_or1 (bS (pcB bq T.aE (fv 0^cw T.dJ.mg^ae)) (λ_=>rfl)))))
   (ai (aA (aw aD (ak cc hr (oY (fv 0) M_reads hr^aJ (fv 0) rfl^ar^aJ (fv 0) rfl^ae)) (ak cc hr (aN (fv 1^ae)^aJ (fv 0) rfl^ar^aJ (fv 0) rfl^ae)))))
   aC)
  (ab (aL (bS (pcB bq T.aE (fv 0^cw T.dz.mg^ae)) (λ_=>rfl))
   (ai (aA (aw aD (ak cc hr (oY (fv 0) M_reads hr^fv 4^ar^aJ (fv 0) rfl^ae)) (ak cc hr (aN (fv 1^ae)^fv 4^ar^aJ (fv 0) rfl^ae)))))
   aC)
  (ab (aL (bS (pcB bq T.aE (fv 0^cw T.cm.mg^ae)) (λ_=>rfl))
   (ai (aA (ak (Iz T) hr (fv 0^fv 1^ae))))
   aC)
  (ab (aL (PW.pt (pw_or (bS (pcB bq T.aE (fv 0^cw T.b6.mg^ae)) (λ_=>rfl)) (pw_or1 (bS (pcB bq T.aE (fv 0^cw T.bA.mg^ae)) (λ_=>rfl)))))
   (ai (aA (aw aD (ak cc hr (oY (fv 0) M_reads hr^fv 4^ar^aJ (fv 0) rfl^ae)) (ak cc hr (aN (fv 1^ae)^fv 4^ar^aJ (fv 0) rfl^ae)))))
   aC)
  (ab (aL (bS (pcB bq T.aE (fv 0^cw T.gn.mg^ae)) (λ_=>rfl))
   (ai (aA (ak cc hr (aN (fv 1^ae)^fv 2^ar^aJ (fv 0) rfl^ae))))
   aC)
  (ai (aA (ak (Bz T) hr (fv 0^fv 1^px hu (fv 3) (aJ (fv 0) rfl)^ae)))))))))),?_}
 refine ag λM1 K1=>ez T s0 pa {_,rfl,nt.1,nt.2,K1 _ _ ?_};clear K1 M1;try dsimp only
 have ob:=Jx pa;have jn:∀(kd into:Str)(R:VK),(∀(R':N6)(ys:List V)(H':Hp),aj H H'->H R'=UG->H' R'=UE (.lst ys)->Lks H' (drI N t into kd pl) ys->R (.ref R') H')->
   ∀(R1 R2:N6)(y1 y2:List V)(H2 H3:Hp),aj H H2->H2 R1=UE (.lst y1)->Lks H2 (drw ((rds N (tTh t)).map UE) into kd t.no) y1->aj H2 H3->H3 R2=UE (.lst y2)->Lks H3 (drw [pl] into "under" t.no) y2->FE (.ref R1) (.ref R2) H3 R:=by
  intro kd into R qq R1 R2 y1 y2 H2 H3 s2 e2 l2 s3 e3 l3
  have d:=uT (N:=N) t into kd pl
  have a1:=Oe l2
  have a2:=Oe l3
  unfold drI at d
  rw[Ll]at d
  refine{R1,R2,_,_,rfl,rfl,s3 _ _ e2,e3,sz (),λR hR=>?_}
  have s5:=aj.upd hR (.lst (y1++y2))
  exact qq R _ _ ((s2.trans s3).trans s5) (aj.free (s2.trans s3) hR) ao (Paired.two (l2.same λx w e=>s5 _ _ (s3 _ _ e)) (l3.same λx w e=>s5 _ _ e))
 have rl:∀{p:N6}{H1:Hp},H1 p=UE (.lst (sS (rds N (tTh t))))->SqL K H1 p (((rds N (tTh t)).map UE).map oS)/\((rds N (tTh t)).map UE).length<=100:=λe1=>by
  have h3:=lX N (tTh t) [];have h4:=zp t;simp only[Mi]at h3;exact{SqL.of (by rw[e1,MM];rfl),by rw[Lm];unfold rds;lia}
 have two:∀(kd:Str)(R:VK),(∀(R':N6)(ys:List V)(H':Hp),aj H H'->H R'=UG->H' R'=UE (.lst ys)->Lks H' (drI N t (aV t.no) kd pl) ys->R (.ref R') H')->∀(p:N6)(H1:Hp),H p=UG->aj H H1->H1 p=UE (.lst (sS (rds N (tTh t))))->
   je K [.ref p,.str (aV t.no),.str kd,.int t.no] H1 (λx H2=>1<=sizeLine/\∀q3,H2 q3=UG->sT K "number" v (upd H2 q3 (.lst [oS pl])) λu H3=>je K [.ref q3,.str (aV t.no),.str "under",u] H3 (λy H4=>FE x y H4 R) E0) E0:=by
  intro kd R qq p H1 hp s1 e1
  refine{p,(rds N (tTh t)).map UE,aV t.no,kd,t.no,rfl,(rl e1).1,(rl e1).2,λR1 y1 H2 s2 n2 e2 l2=>{∅,λq3 hq3=>?_}}
  have sq3:=aj.upd hq3 (.lst [oS pl])
  exact ez T (((s0.trans s1).trans s2).trans sq3) pa {q3,[pl],aV t.no,"under",t.no,rfl,SqL.of ao,by simp,λR2 y2 H3 s3 n3 e3 l3=>jn kd _ R qq R1 R2 y1 y2 H2 H3 (s1.trans s2) e2 l2 (sq3.trans s3) e3 l3}
 have twoN:∀(into:Str)(R:VK),(∀(H':Hp){Q:VK},aj X H'->Q (.str into) H'->sT K "name" v H' Q)->(∀(R':N6)(ys:List V)(H':Hp),aj H H'->H R'=UG->H' R'=UE (.lst ys)->Lks H' (drI N t into "value" pl) ys->R (.ref R') H')->∀(p:N6)(H1:Hp),H p=UG->aj H H1->H1 p=UE (.lst (sS (rds N (tTh t))))->
   sT K "name" v H1 λi1 H1'=>sT K "number" v H1' λm1 H1''=>je K [.ref p,i1,.str "value",m1] H1'' (λx H2=>1<=sizeLine/\∀q3,H2 q3=UG->sT K "name" v (upd H2 q3 (.lst [oS pl])) λi2 H3'=>sT K "number" v H3' λu H3=>je K [.ref q3,i2,.str "under",u] H3 (λy H4=>FE x y H4 R) E0) E0:=by
  intro into R nf qq p H1 hp s1 e1
  refine nf H1 (s0.trans s1) (ez T (s0.trans s1) pa {p,(rds N (tTh t)).map UE,into,"value",t.no,rfl,(rl e1).1,(rl e1).2,λR1 y1 H2 s2 n2 e2 l2=>{∅,λq3 hq3=>?_}})
  have sq3:=aj.upd hq3 (.lst [oS pl])
  have sX3:=((s0.trans s1).trans s2).trans sq3
  exact nf _ sX3 (ez T sX3 pa {q3,[pl],into,"under",t.no,rfl,SqL.of ao,by simp,λR2 y2 H3 s3 n3 e3 l3=>jn "value" _ R qq R1 R2 y1 y2 H2 H3 (s1.trans s2) e2 l2 (sq3.trans s3) e3 l3})
 obtain⟨a,dx,fs,rfl,h1,hno⟩:=ob;refine ag λM1 K1=>?_;by_cases c5:t.ci=5
 ·refine nX T s0 pa c5 (bW ?_);have rr:∀{Q:VK},(∀(p:N6)(H':Hp),H p=UG->aj H H'->H' p=UE (.lst (sS (rds N (tTh t))))->Q (.ref p) H')->cR A 5 [.ref a] H Q E0:=λk=>{N,X,_,_,rfl,s0,pa,c5,k};refine{a,_,dx,_,_,rfl,s0 _ _ h1,hno,{5,∅,by rw[c5],rfl},rr ?_};clear two jn rl rr;cases t with
  |leaf n r=>
   cases r with
   |set x val=>
    have pa':=pa;unfold aY at pa';obtain⟨a',dx',p',e',h1',_⟩:=pa';cases e';exact twoN (N x) _ (λH' Q sx k=>fdI (sx _ _ h1') T.eE.cl T.jc rfl k) q
   |_=>cases c5
  |_=>cases c5
 refine mr T s0 pa c5 (bg ?_);by_cases c6:t.ci=6
 ·refine nX T s0 pa c6 (bW ?_);have rr:∀{Q:VK},(∀(p:N6)(H':Hp),H p=UG->aj H H'->H' p=UE (.lst (sS (rds N (tTh t))))->Q (.ref p) H')->cR A 6 [.ref a] H Q E0:=λk=>{N,X,_,_,rfl,s0,pa,c6,k};refine{a,_,dx,_,_,rfl,s0 _ _ h1,hno,{6,∅,by rw[c6],rfl},rr ?_};clear two jn rl rr;cases t with
  |leaf n r=>
   cases r with
   |put x pt val=>
    have pa':=pa;unfold aY at pa';obtain⟨a',dx',p',e',h1',_⟩:=pa';cases e';exact twoN (N x) _ (λH' Q sx k=>fdI (sx _ _ h1') T.dJ.cl T.iG rfl k) q
   |_=>cases c6
  |_=>cases c6
 refine mr T s0 pa c6 (bg (K1 _ _ ?_));clear K1 M1 twoN;refine ag λM1 K1=>?_;by_cases c7:t.ci=7
 ·refine nX T s0 pa c7 (bW ?_);have rr:∀{Q:VK},(∀(p:N6)(H':Hp),H p=UG->aj H H'->H' p=UE (.lst (sS (rds N (tTh t))))->Q (.ref p) H')->cR A 7 [.ref a] H Q E0:=λk=>{N,X,_,_,rfl,s0,pa,c7,k};refine{a,_,dx,_,_,rfl,s0 _ _ h1,hno,{7,∅,by rw[c7],rfl},rr λp H1 hp s1 e1=>ez T (s0.trans s1) pa (two "value" _ ?_ p H1 hp s1 e1)};clear two jn rl rr;cases t with
  |leaf n r=>
   cases r with
   |snd x val=>exact q
   |_=>cases c7
  |_=>cases c7
 refine mr T s0 pa c7 (bg (K1 _ _ ?_));clear K1 M1;refine ag λM1 K1=>?_;by_cases c8:t.ci=8
 ·refine nX T s0 pa c8 (bW ?_);clear two jn rl;cases t with
  |leaf n r=>
   cases r with
   |say x val m=>exact{N,X,_,n,x,m,val,pl,rfl,s0,pa,nt,q}
   |_=>cases c8
  |_=>cases c8
 refine mr T s0 pa c8 (bg (K1 _ _ ?_));clear K1 M1;refine ag λM1 K1=>?_;by_cases c11:t.ci=11
 ·refine nX T s0 pa c11 (bW ?_);have rr:∀{Q:VK},(∀(p:N6)(H':Hp),H p=UG->aj H H'->H' p=UE (.lst (sS (rds N (tTh t))))->Q (.ref p) H')->cR A 11 [.ref a] H Q E0:=λk=>{N,X,_,_,rfl,s0,pa,c11,k};refine{a,_,dx,_,_,rfl,s0 _ _ h1,hno,{11,∅,by rw[c11],rfl},rr λp H1 hp s1 e1=>ez T (s0.trans s1) pa (two "test" _ ?_ p H1 hp s1 e1)};clear two jn rl rr;cases t with
  |leaf n r=>cases r<;>cases c11
  |iff n val l r fs os=>exact q
  |_=>cases c11
 refine mr T s0 pa c11 (bg ?_);by_cases c12:t.ci=12
 ·refine nX T s0 pa c12 (bW ?_);have rr:∀{Q:VK},(∀(p:N6)(H':Hp),H p=UG->aj H H'->H' p=UE (.lst (sS (rds N (tTh t))))->Q (.ref p) H')->cR A 12 [.ref a] H Q E0:=λk=>{N,X,_,_,rfl,s0,pa,c12,k};refine{a,_,dx,_,_,rfl,s0 _ _ h1,hno,{12,∅,by rw[c12],rfl},rr λp H1 hp s1 e1=>ez T (s0.trans s1) pa (two "test" _ ?_ p H1 hp s1 e1)};clear two jn rl rr;cases t with
  |leaf n r=>cases r<;>cases c12
  |loop n th m l r b=>exact q
  |_=>cases c12
 refine mr T s0 pa c12 (bg (K1 _ _ ?_));clear K1 M1 two jn rl;refine ag λM1 K1=>?_;by_cases c10:t.ci=10
 ·refine nX T s0 pa c10 (bW ?_);cases lp with
  |none=>exact absurd (hlp c10) ∅
  |some lq=>
  refine{by show 1<=sizeLine;decide,λq3 hq3=>?_};have sq3:=aj.upd hq3 (.lst [oS pl]);refine ez T (s0.trans sq3) pa {q3,[pl],lq,"under",t.no,rfl,SqL.of ao,by simp,λR2 y2 H3 s3 n3 e3 l3=>q R2 y2 H3 (sq3.trans s3) (aj.free sq3 n3) e3 ?_};cases t with
  |leaf n r=>
   cases r with
   |last=>exact l3
   |_=>cases c10
  |_=>cases c10
 refine mr T s0 pa c10 (bg (K1 _ _ ?_));clear K1 M1;cases t with
 |leaf n r=>
  cases r with
  |call i ts=>
   have pa':=pa;unfold aY at pa';obtain⟨a',dx',p,e',h1',_⟩:=pa';cases e';obtain⟨kvs,eD,hd⟩:=hD;obtain⟨c1,c2⟩:=hc;obtain⟨l1,pp,e1,e2⟩:=hd _ c1;exact fdI (s0 _ _ h1') T.b8.cl T.du rfl (dgk eD e1 {N,X,_,n,i,ts,pl,pp,po (N i),rfl,s0,pa,e2,c2,l1,q})
  |set _ _=>exact absurd rfl c5
  |put _ _ _=>exact absurd rfl c6
  |snd _ _=>exact absurd rfl c7
  |say _ _ _=>exact absurd rfl c8
  |last=>exact absurd rfl c10
  |_=>cases hk
 |iff _ _ _ _ _ _=>exact absurd rfl c11
 |loop _ _ _ _ _ _=>exact absurd rfl c12
 |aZ n i ps b=>cases hk
noncomputable def oI:Option Int->V
 |none=>.non
 |some n=>.int n
noncomputable def yx(l r:Int):Option Int->Option Int->Option Int
 |some a,UE b=>if l+a=r+b then UE (1+l+a)else UG
 |_,_=>UG
noncomputable def y4(m l r:Int):Option Int->Option Int
 |some a=>if l+a=r then UE (1+m*r)else UG
 |none=>UG
noncomputable def AS(a:Int):Option Int->Option Int
 |some b=>UE (a+b)
 |none=>UG
noncomputable def iB:Option Int->Option Int->Option Int
 |some a,x=>AS a x
 |none,_=>UG
mutual
noncomputable def exP(kn:Nat->Option Int):Pt->Option Int
 | .leaf _ (.call i _)=>AS 1 (kn i)
 | .leaf _ _=>UE 1
 | .iff _ _ l r f o=>yx l r (bJ kn f) (bJ kn o)
 | .loop _ _ m l r b=>y4 m l r (bJ kn b)
 | .aZ _ _ _ _=>UE 1
noncomputable def bJ(kn:Nat->Option Int):List Pt->Option Int
 | []=>UE 0
 |t::ts=>iB (exP kn t) (bJ kn ts)
end
theorem pE(a b c:Option Int):iB (iB a b) c=iB a (iB b c):=by
 cases a with
 |none=>rfl
 |some a=>cases b with
  |none=>rfl
  |some b=>cases c with
   |none=>rfl
   |some c=>show UE (a+b+c)=UE (a+(b+c));rw[NX]
theorem yy(a:Option Int):iB (UE 0) a=a:=by
 cases a with
 |none=>rfl
 |some a=>show UE (0+a)=UE a;rw[NZ]
theorem qF(kn:Nat->Option Int):∀(a b:List Pt),bJ kn (a++b)=iB (bJ kn a) (bJ kn b)
 | [],b=>by rw[L6,show bJ kn []=UE 0 by rw[bJ],yy]
 |t::a,b=>by
  rw[L8,bJ,bJ,qF kn a b,pE]
theorem DZ(kn:Nat->Option Int)(t:Pt):bJ kn [t]=exP kn t:=by
 rw[bJ,bJ];cases exP kn t with
 |none=>rfl
 |some a=>show UE (a+0)=UE a;rw[Int.add_zero]
theorem uB(kn:Nat->Option Int){ts:List Pt}{i:Nat}{t:Pt}(h:ts[i]?=UE t):bJ kn (ts.take (i+1))=iB (bJ kn (ts.take i)) (exP kn t):=by
 rw[Ms,h,qF];show iB _ (bJ kn [t])=_;rw[DZ]
theorem DX(kn:Nat->Option Int){ts:List Pt}{i:Nat}{t:Pt}(h:ts[i]?=UE t)(e:exP kn t=UG):bJ kn ts=UG:=by
 have:=qF kn (ts.take (i+1)) (ts.drop (i+1));rw[LO,uB kn h,e]at this;rw[this];cases bJ kn (ts.take i)<;>rfl
mutual
noncomputable def cOk(idx:List Nat):Pt->Prop
 | .leaf _ (.call i _)=>i∈idx
 | .leaf _ _=>True
 | .iff _ _ _ _ f o=>qL idx f/\qL idx o
 | .loop _ _ m _ _ b=>0<=m/\m<=1000/\qL idx b
 | .aZ _ _ _ _=>True
noncomputable def qL(idx:List Nat):List Pt->Prop
 | []=>True
 |t::ts=>cOk idx t/\qL idx ts
end
theorem xF{idx:List Nat}{t:Pt}:∀{ts:List Pt},qL idx ts->t∈ts->cOk idx t
 |t'::ts,h,m=>by
  unfold qL at h;rcases Lu.mp m with rfl|m
  ·exact h.1
  exact xF h.2 m
def gk(N:Nat->Str)(H:Hp)(D:N6)(idx:List Nat)(kn:Nat->V):Prop:=∃kvs,H D=UE (.dK kvs)/\∀i∈idx,L2.c0 kvs (.inr (N i))=UE (kn i)
inductive zK(vs:List V)(H:Hp)(Q:VK)(Z:XK):Prop
 |mk(x:Option Int):vs=[oI x]->Q (oI (AS 1 x)) H->zK vs H Q Z
theorem GK(T:Txt K mg A):T.rh.Hz P w base 1 zK:=by
 refine T.rh.hs xA (λf cdv A' outer s H vs Q E' hr hu h=>?_);obtain⟨x,rfl,q⟩:=h;refine{_,(ai (aA (CC (ptc wJ (fv 0) bH) bH (aw aD af (fv 0))))),?_};cases x with
 |none=>exact{rfl,_,rfl,bW q}
 |some n=>exact{rfl,_,rfl,bg q}
inductive jo(A:Adr)(d:Nat)(vs:List V)(H:Hp)(Q:VK)(Z:XK):Prop
 |mk(N:Nat->Str)(X:Hp)(L D:N6)(xs:List V)(ts:List Pt)(idx:List Nat)(kn:Nat->Option Int):vs=[.ref L,.ref D]->aj X H->X L=UE (.lst xs)->aF A N X xs ts->lZ ts<=d->qL idx ts->(gk N H D idx λi=>oI (kn i))->Q (oI (bJ kn ts)) H->jo A d vs H Q Z
inductive lW(A:Adr)(d:Nat)(vs:List V)(H:Hp)(Q:VK)(Z:XK):Prop
 |mk(N:Nat->Str)(X:Hp)(v:V)(D:N6)(t:Pt)(idx:List Nat)(kn:Nat->Option Int):vs=[v,.ref D]->aj X H->aY A N X v t->dep t<=d->cOk idx t->(gk N H D idx λi=>oI (kn i))->Q (oI (exP kn t)) H->lW A d vs H Q Z
noncomputable def spN(sp:Nat->Sp):Nat->Sp
 |0=>λ_ _ _ _=>False
 |d+1=>sp d
inductive jt(A:Adr)(d c:Nat)(vs:List V)(H:Hp)(Q:VK)(Z:XK):Prop
 |mk(N:Nat->Str)(X:Hp)(v:V)(D:N6)(t:Pt)(idx:List Nat)(kn:Nat->Option Int):vs=[v,.ref D]->aj X H->aY A N X v t->dep t<=d->cOk idx t->(gk N H D idx λi=>oI (kn i))->t.ci=c->Q (oI (exP kn t)) H->jt A d c vs H Q Z
theorem xH(T:Txt K mg A)(d j:Nat)(fA:T.er.Hz P w base j (lW A d)):T.dG.Hz P w base (j+1) (jo A d):=by
 refine T.dG.hs (k:=j) cH (λf cdv A' outer s H vs Q E' hr hu h=>?_);obtain⟨N,X,L,D,xs,ts,idx,kn,rfl,s0,hL,pt,dp,ck,hD,q⟩:=h;refine{_,(ab (pst 2 cH.nd af)
  (ab (cZ Oq rfl (fm (fv 0)) (pgn (i:=3) cH.nd rfl)
   (ab (pst 4 cH.nd (ak (hj:=by lia) fA hr (fv 3^fv 1^ae)))
   (ab (aL (ptc wJ (fv 4) bH)
    (ai (aA bH))
    aC)
   (ai (Ie (i:=2) cH.nd rfl (by first|exact LL rfl|exact MY rfl) (fv 4) HW)))))
  (ai (aA (fv 2))))),?_}
 refine ag λM1 K1=>K1 _ _ ?_;clear K1 M1;try dsimp only
 refine ag λM1 K1=>LL {{_,SqL.of (s0 _ _ hL)},dH (K:=K) (xs:=xs) (λi σ Hc=>∃(a:Int)(v3 v4:Option V),σ=[UE (.ref L),UE (.ref D),UE (.int a),v3,v4]/\Hc=H/\bJ kn (ts.take i)=UE a) {0,UG,UG,rfl,rfl,by rw[Nz,bJ]} (λi σ Hc _ ⟨_,_,_,_,z,_⟩=>z▸SqL.of (s0 _ _ hL)) ?_ ?_}
 ·rintro i v σ Hc hv ⟨a,v3,v4,rfl,rfl,ea⟩;obtain⟨t,ht,pa⟩:=pt.get hv;have mt:t∈ts:=LW ht;try dsimp only
  refine ag λN1 J1=>{N,X,v,D,t,idx,kn,rfl,s0,pa,LG (rO mt) dp,xF ck mt,hD,?_};have st:=uB kn ht;rw[ea]at st;refine J1 _ _ ?_;clear J1 N1;try dsimp only
  refine ag λN1 J1=>?_;cases e:exP kn t with
  |none=>
   rw[DX kn ht e]at q;exact{rfl,_,rfl,bW q}
  |some b=>
   rw[e]at st;exact{rfl,_,rfl,bg (J1 _ _ {_,rfl,a,b,rfl,rfl,a+b,_,_,rfl,rfl,st})}
 rintro σ Hc ⟨a,v3,v4,rfl,rfl,ea⟩;rw[show ts.take xs.length=ts by rw[pt.len];exact Mo]at ea;rw[ea]at q;exact K1 _ _ q
end
section
variable{P:Program}{w:Of}{K:Oc}{mg:Str->Option E9}{base:OC}{A:Adr}{N:Nat->Str}
seal PE PA PS PSs PT PW
theorem uZ(T:Txt K mg A)(d j:Nat)(dE:T.dG.Hz P w base j (spN (jo A) d)):T.iu.Hz P w base (j+1) (jt A d 11):=by
 refine T.iu.hs (k:=j) gz (λf cdv A' outer s H vs Q E' hr hu h=>?_);obtain⟨N,X,v,D,t,idx,kn,rfl,s0,pa,dp,ck,hD,ec,q⟩:=h;refine{_,(ab (pst 2 gz.nd (ak (hj:=by lia) dE hr (aJ (fv 0) rfl^fv 1^ae)))
  (ab (pst 3 gz.nd (ak (hj:=by lia) dE hr (aJ (fv 0) rfl^fv 1^ae)))
  (ab (aL (PW.pt (pw_or (ptc wJ (fv 2) bH) (pw_or (ptc wJ (fv 3) bH) (pw_or1 (ptc (oW hu) (aw aD (aJ (fv 0) rfl) (fv 2)) (aw aD (aJ (fv 0) rfl) (fv 3)))))))
   (ai (aA bH))
   aC)
  (ai (aA (aw aD (aw aD af (aJ (fv 0) rfl)) (fv 2))))))),?_}
 cases t with
 |leaf n r=>cases r<;>cases ec
 |loop _ _ _ _ _ _=>cases ec
 |aZ _ _ _ _=>cases ec
 |iff n val l r fs os=>
 unfold aY at pa;obtain⟨a,dx,p,pf,po,xf,xo,rfl,h1,h2,h3,h4,h5,h6⟩:=pa;unfold dep at dp;unfold cOk at ck;unfold exP at q;cases d with
 |zero=>lia
 |succ d=>
 refine ag λM1 K1=>fdI (s0 _ _ h1) T.b6.cl T.fF rfl {N,X,pf,D,xf,fs,idx,kn,rfl,s0,h3,h5,(),ck.1,hD,K1 _ _ ?_};clear K1 M1;try dsimp only
 refine ag λM1 K1=>fdI (s0 _ _ h1) T.b6.cl T.fE rfl {N,X,po,D,xo,os,idx,kn,rfl,s0,h4,h6,(),ck.2,hD,?_};generalize bJ kn fs=ef at q;generalize bJ kn os=eo at q;refine K1 _ _ ?_;clear K1 M1;try dsimp only
 refine ag λM1 K1=>?_;cases ef with
 |none=>exact{rfl,_,rfl,bW q}
 |some b=>
 refine{rfl,_,rfl,bg ?_};cases eo with
 |none=>exact{rfl,_,rfl,bW q}
 |some c=>
 refine{rfl,_,rfl,bg (fdI (s0 _ _ h1) T.b6.cl T.gh rfl (fdI (s0 _ _ h1) T.b6.cl T.iK rfl {rfl,_,rfl,?_}))};by_cases e:l+b=r+c
 ·refine aR (λz=>absurd z (by show ¬ (!decide (V.int (l+b)=V.int (r+c)))=true;rw[Er,decide_eq_true e];decide)) (λ_=>K1 _ _ ?_);have q:Q (oI (if l+b=r+c then UE (1+l+b)else UG)) H:=q;rw[if_pos e]at q;exact fdI (s0 _ _ h1) T.b6.cl T.gh rfl q
 refine aR (λ_=>?_) (λz=>absurd (by show(!decide (V.int (l+b)=V.int (r+c)))=true;rw[Er,decide_eq_false e];rfl) z);have q:Q (oI (if l+b=r+c then UE (1+l+b)else UG)) H:=q;rw[if_neg e]at q;exact q
theorem vt(T:Txt K mg A)(d j:Nat)(dE:T.dG.Hz P w base j (spN (jo A) d)):T.fC.Hz P w base (j+1) (jt A d 12):=by
 refine T.fC.hs (k:=j) jm (λf cdv A' outer s H vs Q E' hr hu h=>?_);obtain⟨N,X,v,D,t,idx,kn,rfl,s0,pa,dp,ck,hD,ec,q⟩:=h;refine{_,(ab (pst 2 jm.nd (ak (hj:=by lia) dE hr (aJ (fv 0) rfl^fv 1^ae)))
  (ab (aL (PW.pt (pw_or (ptc wJ (fv 2) bH) (pw_or1 (ptc (oW hu) (aw aD (aJ (fv 0) rfl) (fv 2)) (aJ (fv 0) rfl)))))
   (ai (aA bH))
   aC)
  (ai (aA (aw aD af (aw dj (aJ (fv 0) rfl) (aJ (fv 0) rfl))))))),?_}
 cases t with
 |leaf n r=>cases r<;>cases ec
 |iff _ _ _ _ _ _=>cases ec
 |aZ _ _ _ _=>cases ec
 |loop n th m l r b=>
 unfold aY at pa;obtain⟨a,dx,pb,xb,rfl,h1,h2,h3⟩:=pa;unfold dep at dp;unfold cOk at ck;unfold exP at q;cases d with
 |zero=>lia
 |succ d=>
 refine ag λM1 K1=>fdI (s0 _ _ h1) T.bA.cl T.eJ rfl {N,X,pb,D,xb,b,idx,kn,rfl,s0,h2,h3,(),ck.2.2,hD,?_};generalize bJ kn b=ef at q;refine K1 _ _ ?_;clear K1 M1;try dsimp only
 refine ag λM1 K1=>?_;cases ef with
 |none=>exact{rfl,_,rfl,bW q}
 |some b=>
 refine{rfl,_,rfl,bg (fdI (s0 _ _ h1) T.bA.cl T.ip rfl (fdI (s0 _ _ h1) T.bA.cl T.dO rfl {rfl,_,rfl,?_}))};have q:Q (oI (if l+b=r then UE (1+m*r)else UG)) H:=q;by_cases e:l+b=r
 ·refine aR (λz=>absurd z (by show ¬ (!decide (V.int (l+b)=V.int r))=true;rw[Er,decide_eq_true e];decide)) (λ_=>K1 _ _ ?_);rw[if_pos e]at q;exact fdI (s0 _ _ h1) T.bA.cl T.hX rfl (fdI (s0 _ _ h1) T.bA.cl T.dO rfl {Ay () (),q})
 refine aR (λ_=>?_) (λz=>absurd (by show(!decide (V.int (l+b)=V.int r))=true;rw[Er,decide_eq_false e];rfl) z);rw[if_neg e]at q;exact q
theorem yC(T:Txt K mg A)(d j:Nat)(gB:T.iu.Hz P w base (j+1) (jt A d 11))(eA:T.fC.Hz P w base (j+1) (jt A d 12)):T.er.Hz P w base (j+2) (lW A d):=by
 refine T.er.hs (k:=j+1) pW (λf cdv A' outer s H vs Q E' hr hu h=>?_);obtain⟨N,X,v,D,t,idx,kn,rfl,s0,pa,dp,ck,hD,q⟩:=h;refine{_,(ab (aL (bS (pcB bq T.aE (fv 0^cw T.b8.mg^ae)) (λ_=>rfl))
   (ai (aA (ak (hj:=by lia) (GK T) hr (px hu (fv 1) (aJ (fv 0) rfl)^ae))))
   aC)
  (ab (aL (bS (pcB bq T.aE (fv 0^cw T.b6.mg^ae)) (λ_=>rfl))
   (ai (aA (ak (hj:=by lia) gB hr (fv 0^fv 1^ae))))
   aC)
  (ab (aL (bS (pcB bq T.aE (fv 0^cw T.bA.mg^ae)) (λ_=>rfl))
   (ai (aA (ak (hj:=by lia) eA hr (fv 0^fv 1^ae))))
   aC)
  (ai (aA af))))),?_}
 by_cases c9:t.ci=9
 ·refine ag λM1 K1=>nX T s0 pa c9 (bW ?_);cases t with
  |leaf n r=>
   cases r with
   |call i ts=>
    unfold aY at pa;obtain⟨a,dx,p,rfl,h1,_⟩:=pa;unfold cOk at ck;unfold exP at q;obtain⟨kvs,e1,e2⟩:=hD;exact fdI (s0 _ _ h1) T.b8.cl T.du rfl (dgk e1 (e2 i ck) ⟨kn i,rfl,q⟩)
   |_=>cases c9
  |_=>cases c9
 refine ag λM1 K1=>mr T s0 pa c9 (bg (K1 _ _ ?_));clear K1 M1;by_cases c11:t.ci=11
 ·exact ag λM1 K1=>nX T s0 pa c11 (bW ⟨N,X,v,D,t,idx,kn,rfl,s0,pa,dp,ck,hD,c11,q⟩)
 refine ag λM1 K1=>mr T s0 pa c11 (bg (K1 _ _ ?_));clear K1 M1;by_cases c12:t.ci=12
 ·exact ag λM1 K1=>nX T s0 pa c12 (bW ⟨N,X,v,D,t,idx,kn,rfl,s0,pa,dp,ck,hD,c12,q⟩)
 refine ag λM1 K1=>mr T s0 pa c12 (bg (?_));have e:exP kn t=UE 1:=by
  cases t with
  |leaf n r=>
   cases r with
   |call i ts=>exact absurd rfl c9
   |_=>simp[exP]
  |iff _ _ _ _ _ _=>exact absurd rfl c11
  |loop _ _ _ _ _ _=>exact absurd rfl c12
  |aZ _ _ _ _=>rw[exP]
 rw[e]at q;exact K1 _ _ q
theorem qh(T:Txt K mg A):∀d,T.dG.Hz P w base (3*d+4) (jo A d)
 |0=>xH T 0 3 (yC T 0 1 (uZ T 0 1 (T.dG.hs (k:=0) cH (λ_ _ _ _ _ _ _ _ _ _ _ h=>h.elim) (λ_ _ _ _ h=>h.elim))) (vt T 0 1 (T.dG.hs (k:=0) cH (λ_ _ _ _ _ _ _ _ _ _ _ h=>h.elim) (λ_ _ _ _ h=>h.elim))))
 |d+1=>xH T (d+1) (3*d+6) (yC T (d+1) (3*d+4) (uZ T (d+1) (3*d+4) (qh T d)) (vt T (d+1) (3*d+4) (qh T d)))
theorem Ge(T:Txt K mg A):∀d,T.dG.Hz P w base (3*d+4) (spN (jo A) d)
 |0=>T.dG.hs (k:=3) cH (λ_ _ _ _ _ _ _ _ _ _ _ h=>h.elim) (λ_ _ _ _ h=>h.elim)
 |d+1=>(qh T d).mono ()
theorem DP(T:Txt K mg A)(d:Nat):T.er.Hz P w base (3*d+6) (lW A d):=
 yC T d (3*d+4) (uZ T d (3*d+4) (Ge T d)) (vt T d (3*d+4) (Ge T d))
inductive DE(A:Adr)(d:Nat)(vs:List V)(H:Hp)(Q:VK)(Z:XK):Prop
 |mk(N:Nat->Str)(X:Hp)(v:V)(D:N6)(t:Pt)(idx:List Nat)(kn:Nat->Option Int):vs=[v,.ref D]->aj X H->aY A N X v t->dep t<=d->cOk idx t->(gk N H D idx λi=>oI (kn i))->Q (.bl (exP kn t).isSome) H->DE A d vs H Q Z
theorem IH(T:Txt K mg A)(d:Nat):T.balanced.Hz P w base (3*d+7) (DE A d):=by
 refine T.balanced.hs (k:=3*d+6) xD (λf cdv A' outer s H vs Q E' hr hu h=>?_);obtain⟨N,X,v,D,t,idx,kn,rfl,s0,pa,dp,ck,hD,q⟩:=h;refine{_,(ai (aA (pec fz (ak (hj:=by lia) (DP T d) hr (fv 0^fv 1^ae)) bH))),{N,X,v,D,t,idx,kn,rfl,s0,pa,dp,ck,hD,rfl,?_}};cases e:exP kn t with
 |none=>rw[e]at q;exact q
 |some n=>rw[e]at q;exact q
noncomputable def dIx:Pt->Nat
 | .aZ _ i _ _=>i
 |_=>0
noncomputable def knF{α:Type}(g:(Nat->α)->List Pt->α)(kn:Nat->α)(p:Pt):Nat->α:=λj=>if j=dIx p then g kn (kI p)else kn j
noncomputable def knA{α:Type}(g:(Nat->α)->List Pt->α)(z:α)(ds:List Pt):Nat->α:=ds.foldl (knF g) λ_=>z
structure Gv(N:Nat->Str)(d:Nat)(ds:List Pt):Prop where
 aZ:∀p∈ds,BL p
 dp:∀p∈ds,lZ (kI p)<=d
 ck:∀(i:Nat)(p:Pt),ds[i]?=UE p->qL ((ds.take i).map dIx) (kI p)
 nm:∀(i j:Nat)(p q:Pt),ds[i]?=UE p->ds[j]?=UE q->N (dIx p)=N (dIx q)->i=j
 ln:ds.length<=900
theorem E8{α:Type}(g:(Nat->α)->List Pt->α)(z:α)(vl:α->V){ds:List Pt}{d i:Nat}{p:Pt}(O:Gv N d ds)(hp:ds[i]?=UE p){kvs:List (Key×V)}(h:∀k∈(ds.take i).map dIx,L2.c0 kvs (.inr (N k))=UE (vl (knA g z (ds.take i) k))) :
  ∀k∈(ds.take (i+1)).map dIx,L2.c0 (UN kvs (.inr (N (dIx p))) (vl (g (knA g z (ds.take i)) (kI p)))) (.inr (N k))=UE (vl (knA g z (ds.take (i+1)) k)):=by
 intro k hk
 have st:knA g z (ds.take (i+1))=knF g (knA g z (ds.take i)) p:=oK (knF g) (λ_=>z) hp
 rw[wQ,st]
 rw[Ms,hp,Ml]at hk
 show(if(ME (N k):Key)=ME (N (dIx p))then _ else _)=UE (vl (if k=dIx p then _ else _))
 by_cases e:k=dIx p
 ·rw[if_pos (by rw[e]),if_pos e]
 have m:k∈(ds.take i).map dIx:=by
  rcases Ls.mp hk with m|m
  ·exact m
  exact absurd (Lp.mp m) e
 rw[if_neg e,if_neg,h k m]
 intro z
 obtain⟨q,mq,rfl⟩:=LN.mp m
 obtain⟨j,hj⟩:=LX mq
 have jl:j<i:=by
  have:=(LJ.mp hj).1;rw[LV]at this;lia
 rw[Mt jl]at hj
 have:=O.nm j i q p hj hp (ME.inj z)
 lia
inductive tU(A:Adr)(d:Nat)(vs:List V)(H:Hp)(Q:VK)(Z:XK):Prop
 |mk(N:Nat->Str)(X:Hp)(v:V)(hs ds ms:List Pt)(z0:vs=[v])(z1:aj X H)(z2:Ee A N X v hs ds ms)(z3:Gv N d ds)
  (z4:∀(D:N6)(H':Hp),aj H H'->H D=UG->gk N H' D (ds.map dIx) (λi=>oI (knA bJ UG ds i))->Q (.ref D) H'):tU A d vs H Q Z
theorem Cq(T:Txt K mg A)(d:Nat):T.yj.Hz P w base (3*d+5) (tU A d):=by
 refine T.yj.hs (k:=3*d+4) om (λf cdv A' outer s H vs Q E' hr hu h=>?_);obtain⟨N,X,v,hs,ds,ms,rfl,s0,⟨a,dx,n0,n1,n2,x0,x1,x2,rfl,ha,e0,e1,e2,p0,p1,p2⟩,O,q⟩:=h;refine{_,(ab (pst 1 om.nd (xN))
  (ab (cZ Oq rfl (fm (aJ (fv 0) rfl)) (pgn (i:=2) om.nd rfl)
   (ai (bM (ak (hj:=by lia) (qh T d) hr (aJ (fv 2) rfl^fv 1^ae)) (jA (fv 1) (aJ (fv 2) rfl) (gq hu UK)))))
  (ai (aA (fv 1))))),?_}
 refine ag λM1 K1 D hD=>?_;obtain⟨s1,eD⟩:=alc hD (HO.dK []);generalize upd H D _=H1 at s1 eD⊢;refine K1 _ _ ?_;clear K1 M1;try dsimp only
 refine ag λM1 K1=>fdI ((s0.trans s1) _ _ ha) T.eV.cl T.cN rfl (LL {{_,SqL.of ((s0.trans s1) _ _ e1)},dH (K:=K) (xs:=x1) (λi σ Hc=>∃(v2:Option V)(kvs:List (Key×V)),σ=[UE (.ref a),UE (.ref D),v2]/\aj H Hc/\Hc D=UE (.dK kvs)/\kvs.length<=i/\∀k∈(ds.take i).map dIx,L2.c0 kvs (.inr (N k))=UE (oI (knA bJ UG (ds.take i) k))) {UG,[],rfl,s1,eD,Ln _,by simp} (λi σ Hc _ ⟨_,_,_,z,_⟩=>SqL.of ((s0.trans z) _ _ e1)) ?_ ?_})
 ·rintro i v σ Hc hv ⟨v2,kvs,rfl,sc,eDc,kl,hk⟩;obtain⟨t,ht,pa⟩:=p1.get hv;have mt:t∈ds:=LW ht;have il:i<ds.length:=(LJ.mp ht).1;have dt:=O.aZ t mt;have st:=E8 bJ UG oI O ht hk;have ln:=O.ln;cases t with
  |aZ n i' ps b=>
   have pa':=pa;unfold aY at pa';obtain⟨a',dx',pp,pb,xb,rfl,h1,h2,h3,h4⟩:=pa';have sX:=s0.trans sc;refine fdI (sX _ _ h1) T.cF.cl T.dZ rfl {N,X,pb,D,xb,b,(ds.take i).map dIx,knA bJ UG (ds.take i),rfl,sX,h3,h4,O.dp _ mt,O.ck i _ ht,⟨kvs,eDc,hk⟩,fdI (sX _ _ h1) T.cF.cl T.dq rfl {_,pT.k (k:=.inr (N i')) eDc (aQ ()),{_,_,rfl,aj.out sc hD _,ao,?_,st}}};have:(UN kvs (.inr (N i')) (oI (bJ (knA bJ UG (ds.take i)) b))).length<=kvs.length+1:=xJ _ _ _;lia
  |_=>exact dt.elim
 rintro σ Hc ⟨v2,kvs,rfl,sc,eDc,kl,hk⟩;rw[show ds.take x1.length=ds by rw[p1.len];exact Mo]at hk;exact K1 _ _ (q D Hc sc hD ⟨kvs,eDc,hk⟩)
theorem C9{kvs:List (Key×V)}{k:Key}(h:k∉kvs.map (·.1)):L2.c0 kvs k=UG:=by
 unfold L2.c0;rw[List.find?_eq_none.mpr λkv m=>by
  rw[decide_eq_true_iff];exact λe=>h (e▸MU m)]
 rfl
theorem xB:∀(kvs acc:List (Key×V)),((acc++kvs).map (·.1)).Nodup->bw acc kvs=acc++kvs
 | [],acc,_=>by rw[LQ];rfl
 | (k,v)::kvs,acc,h=>by
  have nk:k∉acc.map (·.1):=λm=>by
   rw[Ml,LC]at h;exact(List.nodup_append.mp h).2.2 k m k LB rfl
  show bw (UN acc k v) kvs=_;rw[BY v (C9 nk),xB kvs (acc++[(k,v)]) (by simpa using h)];simp
noncomputable def poM(N:Nat->Str)(ds:List Pt)(x:Str):List Str:=match ds.find? (λp=>decide (dNm N p=x))with
 |some p=>dPs N p
 |none=>[]
noncomputable def vC(t:Pt):Bool:=decide (t.ci=7)||decide (t.ci=8)
noncomputable def xS(t:Pt):Bool:=decide (t.ci=11)||decide (t.ci=12)
noncomputable def ng(kn:Nat->Option Int)(t:Pt):List Lk:=if vC t=true then[{"the clock",aV t.no,"steps",t.no}]else if xS t=true/\(exP kn t).isSome=false then[{aV t.no,"the clock","steps",t.no}]else[]
theorem Df(kn:Nat->Option Int)(t:Pt):(ng kn t).length<=1:=by
 unfold ng;split
 ·exact Ln _
 split<;>simp
noncomputable def qU(b:Bool)(kn:Nat->Option Int)(t:Pt):List Lk:=if b=true then ng kn t else[]
noncomputable def tG(N:Nat->Str)(b:Bool)(ds:List Pt)(e:Le):List Lk:=pZ N (poM N ds) e.1 e.2.1 e.2.2++qU b (knA bJ UG ds) e.1
noncomputable def cq(N:Nat->Str)(b:Bool)(ds ms:List Pt):List Lk:=(bI N ds ms).flatMap (tG N b ds)
structure OkL(N:Nat->Str)(d:Nat)(hs ds ms:List Pt):Prop where
 ok:Ok N d hs ds ms
 dk:Gv N d ds
 nn:(ds.map (dNm N)).Nodup
 pn:∀p∈ds,(dPs N p).length<=100
 k5:∀e∈bI N ds ms,k5 e.1=true
 lo:∀e∈bI N ds ms,lOk e.1 e.2.2
 cal:∀e∈bI N ds ms,Cw N (poM N ds) (ds.map (dNm N)) e.1
 ll:∀b,(cq N b ds ms).length<=900
 ck:∀e∈bI N ds ms,cOk (ds.map dIx) e.1/\dep e.1<=d
def PoE(N:Nat->Str)(X:Hp)(p:Pt)(y:V)(H:Hp):Prop:=∃t pp,y=V.ref t/\H t=UE (.tup [.str (dNm N p),.ref pp])/\X pp=UE (.lst (sS (dPs N p)))
theorem BN{X H:Hp}:∀{ds:List Pt}{ys:List V},Paired (λp y=>PoE N X p y H) ds ys->∃(ps:List N6)(kvs:List (Key×V)),ys=ps.map V.ref/\ps.length=kvs.length/\kvs.map (·.1)=ds.map (λp=>ME (dNm N p))/\(∀(i:Nat) t k v,ps[i]?=UE t->kvs[i]?=UE (k,v)->H t=UE (.tup [kV k,v]))/\∀p∈ds,∃pp,(ME (dNm N p),V.ref pp)∈kvs/\X pp=UE (.lst (sS (dPs N p)))
 |_,_,.nil=>{[],[],rfl,rfl,rfl,(λi t k v h=>by simp at h),(λp m=>by cases m)}
 |_,_,.cons (b:=y) (a:=p) h r=>by
  obtain⟨t,pp,rfl,h1,h2⟩:=h;obtain⟨ps,kvs,e1,e2,e3,e4,e5⟩:=BN r;refine{t::ps,(ME (dNm N p),V.ref pp)::kvs,by rw[e1];rfl,by simp[e2],by rw[LC,LC,e3],λi t' k v ht hk=>?_,λq hq=>?_}
  ·cases i with
   |zero=>cases ht;cases hk;exact h1
   |succ i=>exact e4 i t' k v ht hk
  rcases Lu.mp hq with rfl|hq
  ·exact⟨pp,LB,h2⟩
  obtain⟨pp',m,z⟩:=e5 q hq;exact{pp',Lx _ m,z}
theorem FF{kvs:List (Key×V)}{k:Key}{v:V}(nd:(kvs.map (·.1)).Nodup)(m:(k,v)∈kvs):L2.c0 kvs k=UE v:=by
 obtain⟨i,hi⟩:=LX m;exact uO nd hi
theorem ze{ds:List Pt}(nn:(ds.map (dNm N)).Nodup){p:Pt}(m:p∈ds):poM N ds (dNm N p)=dPs N p:=by
 have:ds.find? (λq=>decide (dNm N q=dNm N p))=UE p:=by
  induction ds with
  |nil=>cases m
  |cons q r ih=>
   rw[LC,Mq]at nn;rw[Mu];by_cases e:dNm N q=dNm N p
   ·rw[decide_eq_true e];rcases Lu.mp m with z|z
    ·rw[z]
    exact absurd (e▸MU z) nn.1
   rw[decide_eq_false e];rcases Lu.mp m with z|z
   ·exact absurd (by rw[z]) e
   exact ih nn.2 z
 unfold poM;rw[this]
inductive zr(A:Adr)(d:Nat)(vs:List V)(H:Hp)(Q:VK)(Z:XK):Prop
 |mk(N:Nat->Str)(X:Hp)(v:V)(D:N6)(t:Pt)(idx:List Nat)(kn:Nat->Option Int)(z0:vs=[v,.ref D])(z1:aj X H)(z2:aY A N X v t)(z3:0<=t.no/\t.no<=1000)(z4:dep t<=d)(z5:cOk idx t)(z6:gk N H D idx λi=>oI (kn i))
  (z7:∀(R:N6)(ys:List V)(H':Hp),aj H H'->H R=UG->H' R=UE (.lst ys)->Lks H' (ng kn t) ys->Q (.ref R) H'):zr A d vs H Q Z
theorem Gn(T:Txt K mg A)(d:Nat):T.ni.Hz P w base (3*d+8) (zr A d):=by
 refine T.ni.hs (k:=3*d+7) mB (λf cdv A' outer s H vs Q E' hr hu h=>?_);obtain⟨N,X,v,D,t,idx,kn,rfl,s0,pa,nt,dp,ck,hD,q⟩:=h;refine{_,(ab (pst 2 mB.nd (ak (hj:=by lia) (qf T) hr (aJ (fv 0) rfl^ae)))
  (ab (aL (PW.pt (pw_or (bS (pcB bq T.aE (fv 0^cw T.dz.mg^ae)) (λ_=>rfl)) (pw_or1 (bS (pcB bq T.aE (fv 0^cw T.cm.mg^ae)) (λ_=>rfl)))))
   (ai (aA (aN (aP (Ar T.wa^fv 2^ar^aJ (fv 0) rfl^ae)^ae))))
   aC)
  (ab (aL (PW.pt (pw_and (PW.pt (pw_or (bS (pcB bq T.aE (fv 0^cw T.b6.mg^ae)) (λ_=>rfl)) (pw_or1 (bS (pcB bq T.aE (fv 0^cw T.bA.mg^ae)) (λ_=>rfl))))) (pw_and1 (vH (bS (ak (hj:=by lia) (IH T d) hr (fv 0^fv 1^ae)) (λ_=>rfl))))))
   (ai (aA (aN (aP (fv 2^Ar T.wa^ar^aJ (fv 0) rfl^ae)^ae))))
   aC)
  (ai (aA (aN ae)))))),?_}
 refine ag λM1 K1=>ez T s0 pa {_,rfl,nt.1,nt.2,K1 _ _ ?_};clear K1 M1;try dsimp only
 refine ag λM1 K1=>?_;have sd:vC t=true->4<=sizeLine/\∀p,H p=UG->1<=sizeLine/\∀l,upd H p (.tup [V.str "the clock",V.str (aV t.no),V.str "steps",V.int t.no]) l=UG->Q (.ref l) (upd (upd H p (.tup [V.str "the clock",V.str (aV t.no),V.str "steps",V.int t.no])) l (.lst [V.ref p])):=λz=>by
  refine{∅,λp hp=>{∅,λl hl=>?_}};have s1:=aj.upd hp (HO.tup [V.str "the clock",V.str (aV t.no),V.str "steps",V.int t.no]);have s2:=aj.upd hl (HO.lst [V.ref p]);refine q l [V.ref p] _ (s1.trans s2) (aj.free s1 hl) ao ?_;unfold ng;rw[if_pos z];exact .cons {p,rfl,s2 _ _ ao} .nil
 have no:vC t=false->M1 [UE v,UE (.ref D),UE (.str (aV t.no))] H:=λz=>K1 _ _ (by
  clear K1 M1 sd;try dsimp only
  refine ag λM1 K1=>?_;have un:xS t=true->(exP kn t).isSome=false->4<=sizeLine/\∀p,H p=UG->1<=sizeLine/\∀l,upd H p (.tup [V.str (aV t.no),V.str "the clock",V.str "steps",V.int t.no]) l=UG->Q (.ref l) (upd (upd H p (.tup [V.str (aV t.no),V.str "the clock",V.str "steps",V.int t.no])) l (.lst [V.ref p])):=λy ex=>by
   refine{∅,λp hp=>{∅,λl hl=>?_}};have s1:=aj.upd hp (HO.tup [V.str (aV t.no),V.str "the clock",V.str "steps",V.int t.no]);have s2:=aj.upd hl (HO.lst [V.ref p]);refine q l [V.ref p] _ (s1.trans s2) (aj.free s1 hl) ao ?_;unfold ng;rw[z,if_neg Lv,if_pos ⟨y,ex⟩];exact .cons {p,rfl,s2 _ _ ao} .nil
  have nil:¬ (xS t=true/\(exP kn t).isSome=false)->M1 [UE v,UE (.ref D),UE (.str (aV t.no))] H:=λy=>K1 _ _ (by
   refine{LH _,λR hR=>q R [] _ (aj.upd hR _) hR ao ?_};unfold ng;rw[z,if_neg Lv,if_neg y];exact .nil)
  have bal:∀b,b=(exP kn t).isSome->xS t=true->(b=true->M1 [UE v,UE (.ref D),UE (.str (aV t.no))] H)/\(b=false->4<=sizeLine/\∀p,H p=UG->1<=sizeLine/\∀l,upd H p (.tup [V.str (aV t.no),V.str "the clock",V.str "steps",V.int t.no]) l=UG->Q (.ref l) (upd (upd H p (.tup [V.str (aV t.no),V.str "the clock",V.str "steps",V.int t.no])) l (.lst [V.ref p]))):=λb eb y=>{λz=>nil λw=>(by rw[<-eb,z]at w;cases w.2),λz=>un y (by rw[<-eb,z])};clear K1;by_cases c11:t.ci=11
  ·have b:=bal _ rfl (by unfold xS;rw[decide_eq_true c11];rfl);refine nX T s0 pa c11 (bW {N,X,v,D,t,idx,kn,rfl,s0,pa,dp,ck,hD,_,rfl,?_});cases e:(exP kn t).isSome with
   |true=>exact bg (b.1 e)
   |false=>exact bW (ez T s0 pa (b.2 e))
  by_cases c12:t.ci=12
  ·have b:=bal _ rfl (by unfold xS;rw[decide_eq_true c12,decide_eq_false c11];rfl);refine mr T s0 pa c11 (bg (nX T s0 pa c12 (bW {N,X,v,D,t,idx,kn,rfl,s0,pa,dp,ck,hD,_,rfl,?_})));cases e:(exP kn t).isSome with
   |true=>exact bg (b.1 e)
   |false=>exact bW (ez T s0 pa (b.2 e))
  exact mr T s0 pa c11 (bg (mr T s0 pa c12 (bg (nil λw=>by
   have w:=w.1;unfold xS at w;rw[decide_eq_false c11,decide_eq_false c12]at w;cases w)))))
 clear K1;by_cases c7:t.ci=7
 ·exact nX T s0 pa c7 (bW (ez T s0 pa (sd (by unfold vC;rw[decide_eq_true c7];rfl))))
 by_cases c8:t.ci=8
 ·exact mr T s0 pa c7 (bg (nX T s0 pa c8 (bW (ez T s0 pa (sd (by unfold vC;rw[decide_eq_true c8,decide_eq_false c7];rfl))))))
 exact mr T s0 pa c7 (bg (mr T s0 pa c8 (bg (no (by unfold vC;rw[decide_eq_false c7,decide_eq_false c8];rfl)))))
inductive rT(A:Adr)(d:Nat)(vs:List V)(H:Hp)(Q:VK)(Z:XK):Prop
 |mk(N:Nat->Str)(X:Hp)(v:V)(b:Bool)(hs ds ms:List Pt)(z0:vs=[v,.bl b])(z1:aj X H)(z2:Ee A N X v hs ds ms)(z3:OkL N d hs ds ms)
  (z4:∀(R:N6)(ys:List V)(H':Hp),aj H H'->H R=UG->H' R=UE (.lst ys)->Lks H' (cq N b ds ms) ys->Q (.ref R) H'):rT A d vs H Q Z
theorem qv(T:Txt K mg A)(d:Nat):T.links.Hz P w base (3*d+9) (rT A d):=by
 refine T.links.hs (k:=3*d+8) gE (λf cdv A' outer s H vs Q E' hr hu h=>?_);obtain⟨N,X,v,b,hs,ds,ms,rfl,s0,pg,O,q⟩:=h;obtain⟨a,dx,n0,n1,n2,x0,x1,x2,rfl,ha,e0,e1,e2,p0,p1,p2⟩:=id pg;have pn:∀i p,ds[i]?=UE p->∀v,x1[i]?=UE v->aY A N X v p:=λi p hp v hv=>by
  obtain⟨t,ht,pa⟩:=p1.get hv;rw[hp]at ht;cases ht;exact pa
 refine{_,(ab (pst 2 gE.nd (pcT Fi T.vR ((lT (N:=["deed"]) (own:=1) (fr:=[]) (dv.of (by kernel_rfl!)) rfl (fm (aJ (fv 0) rfl)) (λb=>pgn (i:=0) (show Qp (["deed"]:List QY) by decide+kernel) rfl) (λb=>qQ) (λb=>aP (aJ (fv 0) rfl^aJ (fv 0) rfl^ae)))^ae)))
  (ab (pst 3 gE.nd (ak (hj:=by lia) (Cq T d) hr (fv 0^ae)))
  (ab (pst 4 gE.nd (aN ae))
  (ab (cZ Oq rfl (fm (ak (hj:=by lia) (FA T d) hr (fv 0^ae))) (cL rfl (aH (pgn (i:=5) gE.nd rfl) (aH (pgn (i:=6) gE.nd rfl) (aH (pgn (i:=7) gE.nd rfl) bU))))
   (ab (aK (gy (fv 4) ((ak (hj:=by lia) (Ib T) hr (fv 5^fv 6^fv 7^fv 2^ae))^ae)))
   (ai (aL (bS (fv 1) (λ_=>rfl))
    (ai (aK (gy (fv 4) ((ak (hj:=by lia) (Gn T d) hr (fv 5^fv 3^ae))^ae))))
    aC))))
  (ai (aA (fv 4))))))),?_}
 have lx:=p1.len;have dln:=O.dk.ln;refine ag λM1 K1=>fdI (s0 _ _ ha) T.eV.cl T.cN rfl (LL {{_,SqL.of (s0 _ _ e1)},wO (K:=K) (own:=1) ds (λ_=>true) (PoE N X) (SqL.of (s0 _ _ e1)) lx (aQ ()) ?_ ?_ ?_ ?_})
 ·intro b i x p v0 H1 Nn Y hx he hv s1 no yes;obtain⟨u0,rfl⟩:∃u0,v0=[u0]:=by
   match v0,hv with
   | [u],_=>exact⟨u,rfl⟩
  have pa:=pn i p he x hx;have dt:=O.dk.aZ p (LW he);cases p with
  |aZ n i' ps b'=>
   unfold aY at pa;obtain⟨a',dx',pp,pb,xb,rfl,h1,h2,h3,h4⟩:=pa;have sX:=s0.trans s1;exact fdI (sX _ _ h1) T.cF.cl T.dq rfl (fdI (sX _ _ h1) T.cF.cl T.fX rfl {by show 2<=sizeLine;decide,λtp htp=>yes rfl [UE (.ref a')] _ _ rfl (aj.upd htp _) {tp,pp,rfl,ao,by rw[h2];simp[sS,dPs,nV,Ti]}})
  |_=>exact dt.elim
 ·rintro e y H1 H2 s1 ⟨t,pp,e1,h1,h2⟩;exact{t,pp,e1,s1 _ _ h1,h2}
 ·rintro e y H1 D ys zs hD ⟨t,pp,e1,h1,h2⟩;exact{t,pp,e1,az (λz=>by rw[z,hD]at h1;cases h1) h1,h2}
 intro L1 H1 ys hL1 s1 eL1 pr;rw[pD]at pr;obtain⟨ps,kvs,rfl,k2,k3,k4,k5'⟩:=BN pr;have kl:kvs.length=ds.length:=by
  have:=congrArg Pw k3;simpa using this
 have knd:(kvs.map (·.1)).Nodup:=by
  rw[k3];have h:=O.nn;unfold Qp at h⊢;rw[Tj]at h⊢;exact h.imp λn e=>n (ME.inj e)
 refine{L1,ps,kvs,rfl,SqL.of eL1,k2,(),λi t k v ht hk=>SqT.of (k4 i t k v ht hk),λD hD=>?_};obtain⟨s2,eD⟩:=alc hD (HO.dK (bw [] kvs));generalize upd H1 D _=H2 at s2 eD⊢;rw[xB kvs [] (by simpa using knd),L6]at eD;have PO:BJ X H2 D (poM N ds) (ds.map (dNm N)):=by
  refine{kvs,eD,λx hx=>?_};obtain⟨p,mp,rfl⟩:=LN.mp hx;rw[ze O.nn mp];obtain⟨pp,m,z⟩:=k5' p mp;exact⟨O.pn p mp,pp,FF knd m,z⟩
 have t2:=s1.trans s2;refine K1 _ _ ?_;clear K1 M1;try dsimp only
 refine ag λM1 K1=>{N,X,.ref a,hs,ds,ms,rfl,s0.trans t2,pg,O.dk,λD2 H3 s3 hD2 kD2=>K1 _ _ ?_};clear K1 M1;try dsimp only
 refine ag λM1 K1=>{LH _,λF hF=>?_};obtain⟨s4,eF⟩:=alc hF (HO.lst []);generalize upd H3 F _=H4 at s4 eF⊢;have t4:=(t2.trans s3).trans s4;have hF0:H F=UG:=aj.free (t2.trans s3) hF;have eD4:=s4 _ _ (s3 _ _ eD);have FD:F≠D:=UO hF (s3 _ _ eD);refine K1 _ _ ?_;clear K1 M1;try dsimp only
 refine ag λM1 K1=>{N,X,.ref a,hs,ds,ms,rfl,s0.trans t4,pg,O.ok,λL zs H5 s5 hL eL ly=>?_};have LF:L≠F:=UO hL eF;have nb:=O.ok.nb;have ok5:=O.k5;have okc:=O.cal;have okl:=O.lo;have oll:=O.ll b;have ock:=O.ck;unfold cq at oll q;generalize bI N ds ms=es at ly nb ok5 okc okl oll ock q;have lly:=Oe ly;refine LL {{_,SqL.of eL},dH (K:=K) (xs:=zs) (λi σ Hd=>∃(ws:List V)(v5 v6 v7:Option V),σ=[UE (.ref a),UE (.bl b),UE (.ref D),UE (.ref D2),UE (.ref F),v5,v6,v7]/\Sm [F] H5 Hd/\Hd F=UE (.lst ws)/\Lks Hd ((es.take i).flatMap (tG N b ds)) ws) {[],UG,UG,UG,rfl,Sm.refl _ _,s5 _ _ eF,.nil} (λi σ Hd _ ⟨_,_,_,_,_,z,_⟩=>SqL.of (z _ _ (λm=>LF (Lp.mp m)) eL)) ?_ ?_}
 ·rintro i y σ Hd hy ⟨ws,v5,v6,v7,rfl,sd,hFd,lw⟩;obtain⟨e,he,tp,v,rfl,etp,pa⟩:=dQ ly hy;have etp':=sd _ _ (λm=>by rw[Lp.mp m,s5 _ _ eF]at etp;cases etp) etp;have sX:aj X Hd:=sd.same ((s0.trans t4).trans s5) (λm hm=>by
   rw[Lp.mp hm];exact aj.free s0 hF0)
  have me:=LW he;have ne:=nb e me;have eDd:Hd D=UE (.dK kvs):=sd _ _ (λm=>FD (Lp.mp m).symm) (s5 _ _ eD4);have st:=qd (tG N b ds) he;have sl:=GB (tG N b ds) he;have llw:=Oe lw;have kDd:gk N Hd D2 (ds.map dIx) λi=>oI (knA bJ UG ds i):=by
   obtain⟨kw,k1,k2⟩:=kD2;exact{kw,sd _ _ (λm=>by rw[Lp.mp m]at k1;rw[k1]at hF;cases hF) ((s4.trans s5) _ _ k1),k2}
  have slB:(tG N b ds e).length=(pZ N (poM N ds) e.1 e.2.1 e.2.2).length+(qU b (knA bJ UG ds) e.1).length:=Ll;try dsimp only
  refine{tp,_,rfl,SqT.of etp',rfl,_,_,rfl,_,_,rfl,_,_,rfl,rfl,ag λN1 J1=>{LL {rfl,_,SqL.of hFd},N,X,v,e.1,e.2.1,e.2.2,D,poM N ds,ds.map (dNm N),rfl,sX,pa,ok5 e me,ne,okl e me,PO.same (λkvs' h=>by rw[eD]at h;cases h;exact eDd),okc e me,λR2 us He s6 hR2 eR2 l6=>?_}};have lu:=Oe l6;refine{_,_,_,_,rfl,rfl,s6 _ _ hFd,eR2,sz (),J1 _ _ ?_};clear J1 N1;have sd1:=(sd.trans (Sm.new s6)).trans (Sm.at (H:=He) (Lp.mpr rfl) (.lst (ws++us)));have hF1:upd He F (.lst (ws++us)) F=UE (.lst (ws++us)):=ao;have lw1:=nI (H:=H) (R2:=R2) s6 hFd lw l6;have kD1:gk N (upd He F (.lst (ws++us))) D2 (ds.map dIx) λi=>oI (knA bJ UG ds i):=by
   obtain⟨kw,k1,k2⟩:=kDd;exact{kw,az (λz=>by rw[z,hFd]at k1;cases k1) (s6 _ _ k1),k2}
  generalize upd He F (.lst (ws++us))=H6 at sd1 hF1 lw1 kD1⊢;have sX1:aj X H6:=sd1.same ((s0.trans t4).trans s5) (λm hm=>by
   rw[Lp.mp hm];exact aj.free s0 hF0)
  obtain⟨oc1,oc2⟩:=ock e me;cases b with
  |false=>
   refine{_,rfl,bg {_,_,_,_,rfl,sd1,hF1,?_}};rw[st,show tG N false ds e=pZ N (poM N ds) e.1 e.2.1 e.2.2 from LQ _];exact lw1
  |true=>
   refine{_,rfl,bW {LL {rfl,_,SqL.of hF1},N,X,v,D2,e.1,ds.map dIx,knA bJ UG ds,rfl,sX1,pa,ne,oc2,oc1,kD1,λR3 u3 H7 s7 hR3 eR3 l7=>?_}};have lu3:=Oe l7;have slB':(qU true (knA bJ UG ds) e.1).length=(ng (knA bJ UG ds) e.1).length:=rfl;refine{_,_,_,_,rfl,rfl,s7 _ _ hF1,eR3,sz (by rw[Ll];lia),{_,_,_,_,rfl,(sd1.trans (Sm.new s7)).trans (Sm.at (Lp.mpr rfl) _),ao,?_}};rw[st,show tG N true ds e=pZ N (poM N ds) e.1 e.2.1 e.2.2++ng (knA bJ UG ds) e.1 from rfl,<-Lz];exact nI (H:=H) (R2:=R3) s7 hF1 lw1 l7
 rintro σ Hd ⟨ws,v5,v6,v7,rfl,sd,hFd,lw⟩;rw[show es.take zs.length=es by rw[<-lly];exact Mo]at lw;exact K1 _ _ (q F ws Hd (sd.same (t4.trans s5) (λm hm=>by rw[Lp.mp hm];exact hF0)) hF0 hFd lw)
theorem Cn{H:Hp}(ns:List Int):eg K H (ns.map V.int) (ns.map Ut)/\OJ (ns.map Ut)=true/\OP (ns.map Ut)=0:=by
 induction ns with
 |nil=>exact⟨.nil,rfl,rfl⟩
 |cons n r ih=>
  obtain⟨h1,h2,h3⟩:=ih;exact{.cons (.int n) h1,by rw[LC];simp[OJ,OU,h2],by rw[LC];simp[OP,Pl,h3]}
theorem rF{H:Hp}{xs:List Str}(ok:∀x∈xs,Ow x=true):eg K H (sS xs) (xs.map Uu)/\OJ (xs.map Uu)=true/\OP (xs.map Uu)=0:=by
 induction xs with
 |nil=>exact⟨.nil,rfl,rfl⟩
 |cons n r ih=>
  obtain⟨h1,h2,h3⟩:=ih λx hx=>ok x (Lx _ hx);exact{.cons (.str n) h1,by rw[LC];simp[OJ,OU,h2,ok n LB],by rw[LC];simp[OP,Pl,h3]}
theorem UU{H:Hp}{p q:N6}{xs:List V}{ds:List QP}(hp:SqL K H p xs)(hq:SqL K H q [])(r:eg K H xs ds/\OJ ds=true/\OP ds=0){Q:VK}(k:Q (.bl (!xs.isEmpty)) H):fNe K (.ref p) (.ref q) H Q:=by
 obtain⟨h1,h2,h3⟩:=r;refine{.list ds,.list [],.lst hp h1,.lst hq .nil,by simp[OR,OU,Pl,h2,h3],rfl,?_};cases h1 with
 |nil=>exact k
 |cons _ _=>exact k
inductive zf(K:Oc)(vs:List V)(H:Hp)(Q:VK)(Z:XK):Prop
 |mk(a:N6)(ns:List Int)(k:Int):vs=[.ref a,.int k]->SqL K H a (ns.map V.int)->0<=k->k<1000->(∀(c:Int)(H':Hp),aj H H'->Q (.int c) H')->zf K vs H Q Z
theorem Bp{ns:List Int}{k:Int}(h0:0<=k)(h1:k<(ns.length:Int)):∃c,atI (ns.map V.int) k=UE (.int c):=by
 have hk:k.toNat<ns.length:=()
 refine{ns[k.toNat],?_};have e:=jz (xs:=ns.map V.int) (j:=k.toNat) (v:=.int ns[k.toNat]) (by rw[LY,Lw hk];rfl);rw[show((k.toNat:Nat):Int)=k by lia]at e;exact e
theorem zd(T:Txt K mg A):T.lj.Hz P w base 1 (zf K):=by
 refine T.lj.hs gx (λf cdv A' outer s H vs Q E hr hu h=>?_);obtain⟨a,ns,k,rfl,hS,h0,h1,q⟩:=h;have el:(((ns.map V.int).length:Nat):Int)=(ns.length:Int):=by rw[Lm]
 refine{_,(ab (aL (ptc yP (fv 1) (pcB eX T.f9 (fv 0^ae)))
   (ai (aA (px hu (fv 0) (fv 1))))
   aC)
  (ab (pst 2 gx.nd af)
  (ab (aL (ptc (oW hu) (fv 0) (aN ae))
   (ai (pst 2 gx.nd (px hu (fv 0) (aw bK (fv 1) (pcB eX T.f9 (fv 0^ae))))))
   aC)
  (ai (aA (aw bK (aw dj (aw aD (aw aD (aw bK (fv 2) af) (aw dj af (fv 1))) af) af) af)))))),?_}
 refine ag λM1 K1=>LL {_,_,rfl,LL {_,hS,rfl},_,rfl,aR (λc=>?_) (λc=>K1 _ _ ?_)}
 ·have c':k<(((ns.map V.int).length:Nat):Int):=of_decide_eq_true c;rw[el]at c';obtain⟨x,hx⟩:=Bp h0 c';exact lix hS hx (q x H (aj.refl _))
 clear K1 M1;try dsimp only
 refine ag λM1 K1=>K1 _ _ ?_;clear K1 M1;try dsimp only
 refine ag λM1 K1=>?_;have fin:∀(c:Int)(H':Hp),aj H H'->M1 [UE (.ref a),UE (.int k),UE (.int c)] H':=λc H' s'=>K1 _ _ {by show(0:Int)<1000003;decide,.inl {∅,()},.inr {∅,∅},by show(0:Int)<2147483647;decide,q _ H' s'};refine{LH _,λR hR=>?_};obtain⟨s1,e1⟩:=alc hR (HO.lst []);generalize upd H R _=H1 at s1 e1⊢;refine UU (s1.seq hS) (SqL.of e1) (Cn ns) {_,rfl,?_};cases ns with
 |nil=>exact bg (fin 0 H1 s1)
 |cons n r=>
  refine bW ?_;have m:=bP k (show(0:Int)<(((n::r).map V.int).length:Int) by rw[Lm,Lq];lia);obtain⟨x,hx⟩:=Bp (ns:=n::r) m.1 (Int.lt_of_lt_of_le m.2 (Int.le_of_eq el));exact LL {_,_,rfl,LL {_,s1.seq hS,rfl},by show(0:Int)<(((n::r).map V.int).length:Int);rw[Lm,Lq];lia,lix (s1.seq hS) hx (fin x H1 s1)}
inductive wz(K:Oc)(vs:List V)(H:Hp)(Q:VK)(Z:XK):Prop
 |mk(a:N6)(ns:List Int)(k:Int)(n:Nat)(z0:vs=[.ref a,.int k,.int n])(z1:SqL K H a (ns.map V.int))(z2:0<=k)(z4:k+n<1000)
  (z3:∀(R:N6)(cs:List Int)(H':Hp),aj H H'->H R=UG->H' R=UE (.lst (cs.map V.int))->cs.length=n->Q (.ref R) H'):wz K vs H Q Z
theorem FC{ys:List V}(h:∀(i:Nat) y,ys[i]?=UE y->∃c,y=V.int c):∃cs:List Int,ys=cs.map V.int:=by
 induction ys with
 |nil=>exact{[],rfl}
 |cons y r ih=>
  obtain⟨c,rfl⟩:=h 0 y rfl;obtain⟨cs,rfl⟩:=ih λi z hz=>h (i+1) z hz;exact{c::cs,rfl}
theorem Aw(T:Txt K mg A):T.su.Hz P w base 2 (wz K):=by
 refine T.su.hs (k:=1) xy (λf cdv A' outer s H vs Q E hr hu h=>?_);obtain⟨a,ns,k,n,rfl,hS,h0,h1,q⟩:=h;refine{_,(ai (aA (lT (N:=["_law_k","_law_script","_law_at"]) (own:=1) (fr:=[0,1]) (dv.of (by kernel_rfl!)) rfl (cU rfl T.df (fv 2^ae)) (λb=>pgn (i:=0) (show Qp (["_law_k","_law_script","_law_at"]:List QY) by decide+kernel) rfl) (λb=>qQ) (λb=>ak (zd T) hr (fv 1^aw aD (fv 2) (fv 0)^ae))))),{_,rfl,(),(),?_}};rw[NN];refine qN (n:=n) (x:=λi=>.int (0+(i:Int))) (λj y H=>∃c,y=V.int c) (aQ ()) (λ_ _=>Ln _) (λ_ _ h _=>h) (λ_ _ _ _ _ _ y=>y) (λb j H1 G hj s1 kk=>{a,ns,_,rfl,s1.seq hS,(),(),λc H' s'=>kk _ H' s' ⟨c,rfl⟩}) (λj y H1 H2 s1 h=>h) (λj y H1 D ys zs hD h=>h) (λD H1 ys hD s1 e1 ly hy=>?_);obtain⟨cs,rfl⟩:=FC hy;exact q D cs H1 s1 hD e1 (by rw[<-ly,Lm])
theorem E5{m:Int}(h:0<m):∀x:Int,0<=x%m/\x%m<m:=λx=>bP x h
inductive Bo(vs:List V)(H:Hp)(Q:VK)(Z:XK):Prop
 |mk(c k:Int):vs=[.int c,.int k]->0<=k->k<1000->(∀m:Int,0<=m->m<1000000000000000->Q (.int m) H)->Bo vs H Q Z
theorem nQ(T:Txt K mg A):T.vZ.Hz P w base 1 Bo:=by
 refine T.vZ.hs gN (λf cdv A' outer s H vs Q E hr hu h=>?_);obtain⟨c,k,rfl,h0,h1,q⟩:=h;refine{_,(ab (aL (PW.pt (pw_and (ptc (bV hu) (aw bK (fv 0) af) af) (pw_and1 (ptc ye (fv 0) (aw tP af af)))))
   (ab (pst 2 gN.nd (aw dX (fv 0) af))
   (ab (cZ Oq rfl (cU rfl T.df (fv 1^ae)) (pgn (i:=3) gN.nd rfl)
    (ai (pst 2 gN.nd (aw dX (fv 2) (aw tP af af)))))
   (ai (aL (ptc ye (fv 2) af)
    (ai (aA (aw bK (fv 2) (aw tP af af))))
    aC))))
   aC)
  (ab (pst 4 gN.nd (aw bK (aw dj (aw aD (aw bK (fv 0) af) af) (aw aD (aw dj (fv 1) (fv 1)) af)) af))
  (ai (aA (aw bK (aw dj (fv 4) (aw aD (aw bK (fv 4) af) af)) af))))),?_}
 refine ag λM1 K1=>?_;have fin:∀(v2 v3 v4:Option V),M1 [UE (.int c),UE (.int k),v2,v3,v4] H:=λv2 v3 v4=>K1 _ _ (by
  refine ag λM2 K2=>?_;have kk:-(2^64)<k*k+7919/\k*k+7919<2^64:=by
   have a1:0<=k*k:=Uv h0 h0;have a2:k*k<=1000*1000:=NW () () h0 ∅;lia
  refine{by show(0:Int)<1000003;decide,.inl {(),()},.inr kk,by show(0:Int)<2147483647;decide,?_};obtain⟨m0,m1⟩:=bP ((c%1000003+17)*(k*k+7919)) (show(0:Int)<2147483647 by decide);refine K2 _ _ ?_;clear K2 M2;try dsimp only
  have m2:=E5 (show(0:Int)<2147483647 by decide);exact{by show(0:Int)<65521;decide,.inl {(),()},by show(0:Int)<2147483647;decide,q _ (m2 _).1 (Int.lt_trans (m2 _).2 ∅)})
 refine{by show(0:Int)<2;decide,rfl,_,rfl,aR (λ_=>?_) (λ_=>bg (fin UG UG UG))};refine{{∅,∅,∅},_,rfl,aR (λ_=>?_) (λ_=>fin UG UG UG)};refine ag λM2 K2=>{{∅,∅},K2 _ _ ?_};clear K2 M2;try dsimp only
 refine ag λM2 K2=>{_,rfl,(),(),jr (λi σ Hc=>∃(d:Int)(v3:Option V),σ=[UE (.int c),UE (.int k),UE (.int d),v3,UG]/\Hc=H) {_,UG,rfl,rfl} ?_ ?_}
 ·rintro i σ Hc hi ⟨d,v3,rfl,rfl⟩;exact{{∅,∅,∅},{∅,∅},_,_,rfl,rfl}
 rintro σ Hc ⟨d,v3,rfl,rfl⟩;refine K2 _ _ ?_;try dsimp only
 refine{_,rfl,aR (λ_=>?_) (λ_=>fin _ _ _)};obtain⟨e0,e1⟩:=bP d (show(0:Int)<10^15 by decide);exact{{∅,∅,∅},by show(0:Int)<10^15;decide,q _ e0 e1}
inductive zQ(K:Oc)(vs:List V)(H:Hp)(Q:VK)(Z:XK):Prop
 |mk(a:N6)(xs:List V)(n:Int):vs=[.ref a,.int n]->SqL K H a xs->0<xs.length->(∀x∈xs,Q x H)->zQ K vs H Q Z
theorem oR(T:Txt K mg A):T.qS.Hz P w base 1 (zQ K):=by
 refine T.qS.hs wU (λf cdv A' outer s H vs Q E hr hu h=>?_);obtain⟨a,xs,n,rfl,hS,h0,q⟩:=h;refine{_,(ai (aA (px hu (fv 0) (aw bK (fv 1) (pcB eX T.f9 (fv 0^ae)))))),?_};have m:=bP n (show(0:Int)<(xs.length:Int) by lia);obtain⟨x,hx,ax⟩:=ED m.1 m.2;exact LL {_,_,rfl,LL {_,hS,rfl},by show(0:Int)<(xs.length:Int);lia,lix hS ax (q x (LW hx))}
structure lJ(N:Nat->Str):Prop where
 inj:∀i j,i<24->j<24->N i=N j->i=j
 ch:∀i,i<24->∀c∈(N i).cps.toList,97<=c/\c<=122
noncomputable abbrev LET:Str:="abcdefghijklmnopqrstuvwxyz"
noncomputable def w9(k:Int):Nat:=(97+k).toNat
theorem Ir{k:Int}(h0:0<=k)(h1:k<26):atI LET.cps.toList k=UE (w9 k):=by
 obtain⟨n,rfl⟩:∃n:Nat,k=(n:Int):={k.toNat,()};have h:∀m:Fin 26,atI LET.cps.toList ((m.val:Nat):Int)=UE (w9 ((m.val:Nat):Int)):=by decide+kernel
 exact h {n,()}
noncomputable abbrev Iy:Str:="set if by at idle most end else main over rest last"
noncomputable abbrev Gr:Str:="loop given hand own put say send call deed let open house closed"
noncomputable def vx:List Str:=["set","if","by","at","idle","most","end","else","main","over","rest","last"]
noncomputable def vW:List Str:=["loop","given","hand","own","put","say","send","call","deed","let","open","house","closed"]
noncomputable def UM:List Str:=vx++vW
theorem Bb:qr Iy " " vx:={by decide+kernel,by decide+kernel,by decide+kernel,by decide+kernel,∅,by decide+kernel}
theorem AJ:qr Gr " " vW:={by decide+kernel,by decide+kernel,by decide+kernel,by decide+kernel,∅,by decide+kernel}
theorem BE:UM.Nodup:=by decide+kernel
theorem Dz:∀x∈UM,∀c∈x.cps.toList,97<=c/\c<=122:=by decide+kernel
theorem Fd(o:Int):lJ λk=>UM.getD ((o+(0+(k:Int)))%25).toNat Ot:=by
 have g:∀k:Nat,∃j,j<25/\((o+(0+(k:Int)))%25).toNat=j:=λk=>{_,by have:=bP (o+(0+(k:Int))) (show(0:Int)<25 by decide);lia,rfl};have e:∀j,j<25->UM.getD j Ot∈UM:=λj h=>by
  rw[Mf,Lw (show j<UM.length from h)];exact List.getElem_mem _
 refine{λi j hi hj h=>?_,λi hi=>?_}
 ·obtain⟨a,ha,ea⟩:=g i;obtain⟨b,hb,eb⟩:=g j;have h:UM.getD ((o+(0+(i:Int)))%25).toNat Ot=UM.getD ((o+(0+(j:Int)))%25).toNat Ot:=h;rw[ea,eb,Mf,Mf,Lw (show a<UM.length from ha),Lw (show b<UM.length from hb)]at h;have:=(NQ BE).mp h;lia
 obtain⟨a,ha,ea⟩:=g i;show ∀c∈(UM.getD ((o+(0+(i:Int)))%25).toNat Ot).cps.toList,_;rw[ea];exact Dz _ (e a ha)
noncomputable def dec(v:Int)(cs:List Nat):Int:=cs.foldl (λv (c:Nat)=>(v+1)*26+((c:Int)-97)) v
theorem B9{n:Int}(cs:List Nat):dec (n/26-1) (w9 (n%26)::cs)=dec n cs:=by
 unfold dec;rw[MN];congr 1;have m:=bP n (show(0:Int)<26 by decide);have e:((w9 (n%26):Nat):Int)-97=n%26:=by
  unfold w9;lia
 rw[e];lia
def Jr(n:Int)(x:Str):Prop:=dec (-1) x.cps.toList=n/\∀c∈x.cps.toList,97<=c/\c<=122
theorem Lf{N:Nat->Str}{c s:Int}(hs:1<=s)(h:∀k:Nat,k<24->Jr (c+(k:Int)*s) (N k)):lJ N:=by
 refine{λi j hi hj e=>?_,λi hi=>(h i hi).2};have h1:=(h i hi).1;rw[e,(h j hj).1]at h1;have h2:(j:Int)*s=(i:Int)*s:=()
 have:=Int.eq_of_mul_eq_mul_right () h2;lia
theorem Dq{a:Nat}{x:Str}:((⟨#[a]⟩:Str)++x).cps.toList=a::x.cps.toList:=by
 show(#[a]++x.cps).toList=_;rw[Ma];rfl
theorem Lj{n:Int}{j:Nat}(h0:0<=n)(h:n+1<26^(j+1)):n/26-1+1<26^j:=by
 have e:(26:Int)^(j+1)=26^j*26:=Int.pow_succ _ _;rw[e]at h;have:=Int.ediv_lt_of_lt_mul (by decide:(0:Int)<26) (show n<26^j*26 by lia);lia
inductive uM(vs:List V)(H:Hp)(Q:VK)(Z:XK):Prop
 |mk(c o:Int)(z0:vs=[.int c,.int o,.int 24])
  (z1:∀(R:N6)(N:Nat->Str)(H':Hp),aj H H'->H R=UG->H' R=UE (.lst (sS ((OA 24).map N)))->lJ N->Q (.ref R) H'):uM vs H Q Z
theorem DN(T:Txt K mg A):T.og.Hz P w base 1 uM:=by
 refine T.og.hs bF (λf cdv A' outer s H vs Q E hr hu h=>?_);obtain⟨c,o,rfl,q⟩:=h;refine{_,(ab (pst 3 bF.nd (UX ar (ar^ae)))
  (ab (pst 3 bF.nd (aw aD (fv 3) (UX ar (ar^ae))))
  (ab (aL (ptc (bV hu) (aw bK (fv 0) af) af)
   (ai (aA (lT (N:=["_law_k","_law_words","_law_other"]) (own:=1) (fr:=[3,1]) (dv.of (by kernel_rfl!)) rfl (cU rfl T.df (fv 2^ae)) (λb=>pgn (i:=0) (show Qp (["_law_k","_law_words","_law_other"]:List QY) by decide+kernel) rfl) (λb=>qQ) (λb=>px hu (fv 1) (aw bK (aw aD (fv 2) (fv 0)) (pcB eX T.f9 (fv 1^ae)))))))
   aC)
  (ab (pst 4 bF.nd ar)
  (ab (pst 5 bF.nd (px hu (aN (af^af^af^af^aw aD af (aw bK (fv 1) (aw tP af af))^ae)) (aw bK (aw dX (fv 0) af) af)))
  (ab (pst 6 bF.nd (aN ae))
  (ab (cZ Oq rfl (cU rfl T.df (fv 2^ae)) (pgn (i:=7) bF.nd rfl)
   (ab (pst 8 bF.nd (aw aD (aw bK (aw dX (fv 0) af) (aw tP af af)) (aw dj (fv 7) (fv 5))))
   (ab (pst 9 bF.nd ar)
   (ab (js Oq (ptc K0 (fv 8) af)
    (ab (pst 9 bF.nd (aw aD (px hu (fv 4) (aw bK (fv 8) af)) (fv 9)))
    (ai (pst 8 bF.nd (aw nO (aw dX (fv 8) af) af)))))
   (ai (aK (bu (fv 6) (fv 9^ae))))))))
  (ai (aA (fv 6)))))))))),?_}
 refine ag λM1 K1=>{rfl,_,_,_,rfl,rfl,Bb,λL1 hL1=>?_};obtain⟨s1,e1⟩:=alc hL1 (HO.lst (vx.map V.str));generalize upd H L1 _=H1 at s1 e1⊢;refine K1 _ _ ?_;clear K1 M1;try dsimp only
 refine ag λM1 K1=>{rfl,_,_,_,rfl,rfl,AJ,λL2 hL2=>?_};obtain⟨s2,e2⟩:=alc hL2 (HO.lst (vW.map V.str));generalize upd H1 L2 _=H2 at s2 e2⊢;refine{L1,L2,_,_,rfl,rfl,s2 _ _ e1,e2,∅,λL3 hL3=>?_};obtain⟨s3,e3⟩:=alc hL3 (HO.lst (vx.map V.str++vW.map V.str));generalize upd H2 L3 _=H3 at s3 e3⊢;have t3:=(s1.trans s2).trans s3;have e3:H3 L3=UE (.lst (sS UM)):=by rw[e3,<-Ml];rfl
 refine K1 _ _ ?_;clear K1 M1;try dsimp only
 refine ag λM1 K1=>{by show(0:Int)<4;decide,rfl,_,rfl,aR (λ_=>?_) (λ_=>K1 _ _ ?_)}
 ·refine{_,rfl,∅,∅,qP (n:=24) (λ_=>true) (λk=>.str (UM.getD ((o+(0+(k:Int)))%25).toNat Ot)) ∅ (λb i H4 R hi s4 k=>k H4 (aj.refl _)) (λb i H4 R hi _ s4 k=>?_) (λD H4 hD s4 e4=>?_)}
  ·have m:=bP (o+(0+(i:Int))) (show(0:Int)<25 by decide);have g:((o+(0+(i:Int)))%25).toNat<UM.length:=by show _<25;lia
   have ax:=jz (xs:=sS UM) (j:=((o+(0+(i:Int)))%25).toNat) (v:=.str (UM.getD ((o+(0+(i:Int)))%25).toNat Ot)) (by rw[LY,Mf,Lw g];rfl);rw[show((((o+(0+(i:Int)))%25).toNat:Nat):Int)=(o+(0+(i:Int)))%25 by lia]at ax;exact lnl (s4 _ _ e3) {by show(0:Int)<25;decide,lix (SqL.of (s4 _ _ e3)) ax (k H4 (aj.refl _))}
  refine q D _ H4 (t3.trans s4) (aj.free t3 hD) ?_ (Fd o);rw[e4,pD];simp[sS]
 clear K1 M1;try dsimp only
 refine ag λM1 K1=>K1 _ _ ?_;clear K1 M1;try dsimp only
 refine ag λM1 K1=>?_;obtain⟨o0,o1⟩:=bP o (show(0:Int)<10^9 by decide);refine{{∅,∅,∅},by show(0:Int)<10^9;decide,by show 5<=sizeLine;decide,λL4 hL4=>?_};obtain⟨s4,e4⟩:=alc hL4 (HO.lst [.int 1,.int 26,.int 27,.int 676,.int (1+o%10^(9:Int).toNat)]);generalize upd H3 L4 _=H4 at s4 e4⊢;have t4:=t3.trans s4;refine{{∅,∅},by show(0:Int)<5;decide,?_};obtain⟨st,ax,st0,st1⟩:∃st:Int,atI [V.int 1,.int 26,.int 27,.int 676,.int (1+o%10^(9:Int).toNat)] (c/4%5)=UE (.int st)/\1<=st/\st<=1000000000:=by
  obtain⟨m0,m1⟩:=bP (c/4) (show(0:Int)<5 by decide);generalize c/4%5=j at m0 m1;have cs:j=0\/j=1\/j=2\/j=3\/j=4:=()
  rcases cs with rfl|rfl|rfl|rfl|rfl
  ·exact{1,rfl,∅,∅}
  ·exact{26,rfl,∅,∅}
  ·exact{27,rfl,∅,∅}
  ·exact{676,rfl,∅,∅}
  have o1':o%10^(9:Int).toNat<1000000000:=o1;have o0':0<=o%10^(9:Int).toNat:=o0;exact{_,rfl,(),()}
 refine lix (SqL.of e4) ax (K1 _ _ ?_);clear K1 M1;try dsimp only
 refine ag λM1 K1=>{LH _,λR hR=>?_};obtain⟨s5,e5⟩:=alc hR (HO.lst []);generalize upd H4 R _=H5 at s5 e5⊢;have t5:=t4.trans s5;have hR0:H R=UG:=aj.free t4 hR;obtain⟨b0,b1⟩:=bP (c/20) (show(0:Int)<10^10 by decide);refine K1 _ _ ?_;clear K1 M1;try dsimp only
 refine ag λM1 K1=>{_,rfl,∅,∅,jr (λi σ Hc=>∃(xs:List Str)(v7 v8 v9:Option V),σ=[UE (.int c),UE (.int o),UE (.int 24),UE (.ref L3),UE (.str LET),UE (.int st),UE (.ref R),v7,v8,v9]/\aj H Hc/\Hc R=UE (.lst (sS xs))/\xs.length=i/\∀(k:Nat) x,xs[k]?=UE x->Jr (c/20%10^(10:Int).toNat+(k:Int)*st) x) {[],UG,UG,UG,rfl,t5,e5,rfl,λk x hx=>by cases hx} ?_ ?_}
 ·rintro i σ Hc hi ⟨xs,v7,v8,v9,rfl,sc,hRc,lx,wd⟩;have hi24:i<24:=hi;have ei:(0:Int)+(i:Int)=(i:Int):=()
  rw[ei];try dsimp only
  refine ag λN1 J1=>{{∅,∅},{∅,∅,∅},by show(0:Int)<10^10;decide,.inl {(),()},J1 _ _ ?_};clear J1 N1;try dsimp only
  refine ag λN1 J1=>J1 _ _ ?_;clear J1 N1;try dsimp only
  refine ag λN1 J1=>?_;have bb:c/20%10^(10:Int).toNat+(i:Int)*st+1<26^8:=by
   have b1':c/20%10^(10:Int).toNat<10000000000:=b1;have m1:(i:Int)*st<=23*1000000000:=NW () st1 () ∅;have:(26:Int)^8=208827064576:=∅
   lia
  have b0':0<=c/20%10^(10:Int).toNat:=b0;have m0:0<=(i:Int)*st:=Uv () ();have ww:0<=c/20%10^(10:Int).toNat+(i:Int)*st:=Int.add_nonneg b0' m0;generalize ew:c/20%10^(10:Int).toNat+(i:Int)*st=wn at bb ww;refine{λm σ' Hd=>∃(n:Int)(x:Str),σ'=[UE (.int c),UE (.int o),UE (.int 24),UE (.ref L3),UE (.str LET),UE (.int st),UE (.ref R),UE (.int (i:Int)),UE (.int n),UE (.str x)]/\Hc=Hd/\-1<=n/\n+1<26^m/\m+x.length<=8/\dec n x.cps.toList=wn/\∀c∈x.cps.toList,97<=c/\c<=122,{8,wn,"",rfl,rfl,(),bb,∅,rfl,λc hc=>by cases hc},?_};rintro m σ' Hd ⟨n,x,rfl,rfl,n0,n1,lm,dx,cx⟩;refine{_,rfl,aR (λz=>?_) (λz=>J1 _ _ ?_)}
  ·have z:0<=n:=of_decide_eq_true z;cases m with
   |zero=>rw[Int.pow_zero]at n1;lia
   |succ m=>
   refine{λσ' Hd=>∃(n:Int)(x:Str),σ'=[UE (.int c),UE (.int o),UE (.int 24),UE (.ref L3),UE (.str LET),UE (.int st),UE (.ref R),UE (.int (i:Int)),UE (.int n),UE (.str x)]/\Hc=Hd/\-1<=n/\n+1<26^m/\m+x.length<=8/\dec n x.cps.toList=wn/\∀c∈x.cps.toList,97<=c/\c<=122,λσ' Hd h=>{m,Nc _,h},ag λN2 J2=>?_};obtain⟨l0,l1⟩:=bP n (show(0:Int)<26 by decide);have lx':(Str.mk #[w9 (n%26)]++x).length=1+x.length:=iA _ _;refine{by show(0:Int)<26;decide,{w9 (n%26),by decide+kernel,Ir l0 l1,{by show 1+x.length<=sizeLine;exact Nj (aQ ()),J2 _ _ {{∅,∅},_,_,rfl,rfl,(),Lj z n1,by rw[lx'];lia,?_,?_}}}}
   ·rw[Dq,B9];exact dx
   rw[Dq];intro d hd;rcases Lu.mp hd with rfl|hd
   ·unfold w9;lia
   exact cx d hd
  have z:¬ 0<=n:=of_decide_eq_false (M6.mpr z);have en:n=-1:=()
  subst en;refine{LL {rfl,_,SqL.of hRc},_,_,_,rfl,rfl,hRc,aQ (by rw[Lm];lia),{xs++[x],_,_,_,rfl,aj.out sc hR0 _,by rw[ao];simp[sS],by rw[Ll,lx];rfl,λk y hy=>?_}};by_cases hk:k<xs.length
  ·rw[Me hk]at hy;exact wd k y hy
  have ek:k=xs.length:=by
   have:=(LJ.mp hy).1;rw[Ll,Lo]at this;lia
  subst ek;rw[L7 (Ln _),MD]at hy;cases hy;rw[lx,ew];exact⟨dx,cx⟩
 rintro σ Hc ⟨xs,v7,v8,v9,rfl,sc,hRc,lx,wd⟩;have lx:xs.length=24:=lx;refine K1 _ _ ?_;have ex:xs=(OA 24).map λk=>xs.getD k Ot:=by
  refine NO λk=>?_;rw[LY];by_cases hk:k<24
  ·rw[MW hk,Lw ()];show _=UE (xs.getD k Ot);rw[Mf,Lw ()];rfl
  rw[My (),My (by rw[Mx];lia)];rfl
 refine q R (λk=>xs.getD k Ot) Hc sc hR0 (by rw[hRc];exact congrArg (λz=>UE (HO.lst (sS z))) ex) (Lf st0 λk hk=>wd k _ ?_);rw[Mf,Lw ()];rfl
noncomputable def Lr.wd:Lr->Str
 | .hand _ _=>"hand"| .giv _ _ _=>"given"| .own _ _=>"own"| .lt _ _=>"let"| .set _ _=>"set"| .put _ _ _=>"put"| .snd _ _=>"send"| .say _ _ _=>"say"
 | .call _ _=>"call"| .last=>"last"
inductive Fr where
 |leaf (r:Lr)|aZ (i:Nat) (ps:List Nat)|main|iff (v:Val) (l r:Int)|loop (t:Th) (m l r:Int)|els|fin
noncomputable def Fr.wd:Fr->Str
 | .leaf r=>r.wd| .aZ _ _=>"deed"| .main=>"main"| .iff _ _ _=>"if"| .loop _ _ _ _=>"loop"| .els=>"else"| .fin=>"end"
noncomputable def Fr.ts(N:Nat->Str)(p:N6):Fr->List V
 | .leaf r=>(r.fs N p).map (·.2)| .aZ i _=>[.str (N i),.ref p]| .iff _ l r=>[.ref p,.int l,.int r]| .loop t m l r=>[t.v N,.int m,.int l,.int r]|_=>[]
noncomputable def Fr.ob(N:Nat->Str):Fr->Option HO
 | .leaf r=>r.ob N| .aZ _ ps=>UE (.lst (nV N ps))| .iff v _ _=>UE (.tup (vV N v))|_=>UG
def j4(N:Nat->Str)(X:Hp)(v:V)(f:Fr):Prop:=∃a p,v=.ref a/\X a=UE (.tup (.str f.wd::f.ts N p))/\∀o,f.ob N=UE o->X p=UE o
theorem j4.same{X X':Hp}(s:aj X X'){v:V}{f:Fr}(h:j4 N X v f):j4 N X' v f:=by
 obtain⟨a,p,e,h1,h2⟩:=h;exact{a,p,e,s _ _ h1,λo ho=>s _ _ (h2 o ho)}
def aS(N:Nat->Str)(X:Hp)(fs:List Fr)(vs:List V):Prop:=Paired (λf v=>j4 N X v f) fs vs
theorem aS.same{X X':Hp}(s:aj X X'){fs:List Fr}{vs:List V}(h:aS N X fs vs):aS N X' fs vs:=Paired.rg h λ_ _ z=>j4.same s z
theorem fr0{X:Hp}{a:N6}{f:Fr}(h:X a=UE (.tup (.str f.wd::f.ts N a)))(e:f.ob N=UG):j4 N X (.ref a) f:={a,a,rfl,h,λo ho=>by rw[e]at ho;cases ho}
noncomputable def tu(N:Nat->Str):List Str:=(OA 24).map N
theorem DR{j:Nat}(h:j<24):(sS (tu N))[j]?=UE (.str (N j)):=by
 unfold tu;rw[LY,LY,MW h];rfl
theorem lxn{H:Hp}{p:N6}{xs:List V}{v:V}{Q:VK}{j:Nat}(h:SqL K H p xs)(e:xs[j]?=UE v)(q:Q v H):ixS K p (j:Int) H Q\/dgI p (.int (j:Int)) H Q:=lix h (jz e) q
theorem nmx{H:Hp}{p:N6}{Q:VK}{j:Nat}(h:SqL K H p (sS (tu N)))(q:Q (.str (N j)) H)(hj:j<24:=by decide):ixS K p (j:Int) H Q\/dgI p (.int (j:Int)) H Q:=lxn h (DR hj) q
theorem qx{n t:Nat}(d:Nat)(h:t<=n):HT.sIx n d (UE (t:Int))=t:=by
 unfold HT.sIx;show(if(t:Int)<0 then((t:Int)+n).toNat else min (t:Int).toNat n)=t;rw[if_neg (),NN];lia
theorem G9{xs:List V}{t:Nat}(h:t<=xs.length):pS xs (UE (t:Int)) UG=xs.drop t:=by
 unfold pS;rw[qx _ h,show HT.sIx xs.length xs.length UG=xs.length from rfl];exact Mb (by rw[Mc];lia)
theorem IC{xs:List V}{t:Nat}(h:t<=xs.length):pS xs UG (UE (t:Int))=xs.take t:=by
 unfold pS;rw[qx _ h,show HT.sIx xs.length 0 UG=0 from rfl];rfl
noncomputable def mX(rk:Nat->Int)(z:Int):List Lr:=[.hand 0 (rk 0),.giv 1 (rk 1) 0,.giv 2 (rk 2) 3,.own 3 0,.own 4 z,.lt 5 (rk 3),.lt 6 (rk 4),.own 7 0,.hand 8 (rk 5),.giv 19 (rk 6) 0,.own 20 0]
noncomputable def qb(t:Nat)(xs:List Lr):List Lr:=xs.drop t++xs.take t
theorem pv{α β:Type}{F:α->β->Prop}:∀{l:List α}{m:List β}(t:Nat),Paired F l m->Paired F (l.drop t) (m.drop t)
 |_,_,0,h=>h
 |_,_,t+1,.nil=>.nil
 |_,_,t+1,.cons _ r=>pv t r
theorem kW{α β:Type}{F:α->β->Prop}:∀{l:List α}{m:List β}(t:Nat),Paired F l m->Paired F (l.take t) (m.take t)
 |_,_,0,_=>.nil
 |_,_,t+1,.nil=>.nil
 |_,_,t+1,.cons h r=>.cons h (kW t r)
inductive tY(K:Oc)(vs:List V)(H:Hp)(Q:VK)(Z:XK):Prop
 |mk(N:Nat->Str)(nl:N6)(c:Int)(z0:vs=[.ref nl,.int c])(z1:H nl=UE (.lst (sS (tu N))))
  (z2:∀(R:N6)(rk:Nat->Int)(z:Int)(t:Nat)(ys:List V)(H':Hp),aj H H'->H R=UG->H' R=UE (.lst ys)->aS N H' ((qb t (mX rk z)).map Fr.leaf) ys->(∀i,rk i=0\/rk i=1\/rk i=2)->1<=z->z<=4->t<=11->Q (.ref R) H'):tY K vs H Q Z
theorem DB(T:Txt K mg A):T.oF.Hz P w base 2 (tY K):=by
 have bc:=@nQ P w _ _ base _ T;refine T.oF.hs (k:=1) cK (λf cdv A' outer s H vs Q E hr hu h=>?_);obtain⟨N,nl,c,rfl,hN,q⟩:=h;refine{_,(ab (yf (j:=2) (N:=["_law_k","_law_cell"]) (own:=1) (fr:=[1]) (dv.of (by kernel_rfl!)) rfl cK.nd rfl (LL rfl) (cU rfl T.df (af^ae)) (λb=>pgn (i:=0) (show Qp (["_law_k","_law_cell"]:List QY) by decide+kernel) rfl) (λb=>qQ) (λb=>aw bK (ak bc hr (fv 1^aw aD af (fv 0)^ae)) af))
  (ab (pst 3 cK.nd (aN (aP (ar^px hu (fv 0) af^px hu (fv 2) af^ae)^aP (ar^px hu (fv 0) af^px hu (fv 2) af^af^ae)^aP (ar^px hu (fv 0) af^px hu (fv 2) af^af^ae)^ae)))
  (ab (pst 3 cK.nd (aw aD (fv 3) (aN (aP (ar^px hu (fv 0) af^af^ae)^aP (ar^px hu (fv 0) af^aw aD af (aw bK (ak bc hr (fv 1^af^ae)) af)^ae)^aP (ar^px hu (fv 0) af^px hu (fv 2) af^ae)^ae))))
  (ab (pst 3 cK.nd (aw aD (fv 3) (aN (aP (ar^px hu (fv 0) af^px hu (fv 2) af^ae)^aP (ar^px hu (fv 0) af^af^ae)^aP (ar^px hu (fv 0) af^px hu (fv 2) af^ae)^ae))))
  (ab (pst 3 cK.nd (aw aD (fv 3) (aN (aP (ar^px hu (fv 0) af^px hu (fv 2) af^af^ae)^aP (ar^px hu (fv 0) af^af^ae)^ae))))
  (ab (pst 4 cK.nd (aw bK (ak bc hr (fv 1^af^ae)) af))
  (ai (aA (aw aD (qW yu (fv 3) (qo (fv 4)) zP) (qW yu (fv 3) zP (qo (fv 4)))))))))))),?_}
 refine ag λM1 K1=>{_,rfl,∅,∅,qN (n:=7) (x:=λi=>.int (0+(i:Int))) (λj y H=>∃c:Int,y=V.int c/\(c=0\/c=1\/c=2)) ∅ (λ_ _=>Ln _) (λ_ _ h _=>h) (λ_ _ _ _ _ _ y=>y) (λb j H1 G hj s1 kk=>?_) (λj y H1 H2 s1 h=>h) (λj y H1 D ys zs hD h=>h) (λLK H0 ys hLK s0 eK ly hy=>K1 _ _ ?_)}
 ·refine{c,_,rfl,(),(),λm m0 m1=>{by show(0:Int)<3;decide,kk _ H1 (aj.refl _) {_,rfl,?_}}};have:=bP m (show(0:Int)<3 by decide);lia
 clear K1 M1;obtain⟨rk,hrk,ey⟩:∃rk:Nat->Int,(∀i,rk i=0\/rk i=1\/rk i=2)/\ys=(OA 7).map λi=>V.int (rk i):=by
  refine⟨λi=>match ys[i]? with|some (.int c)=>c|_=>0,λi=>?_,NO λi=>?_⟩
  ·dsimp only;cases e:ys[i]? with
   |none=>exact .inl rfl
   |some y=>
    obtain⟨c,rfl,hc⟩:=hy i y e;exact hc
  rw[LY];by_cases hi:i<7
  ·rw[MW hi];obtain⟨y,e⟩:∃y,ys[i]?=UE y:={_,Lw ()};obtain⟨c,rfl,hc⟩:=hy i y e;show _=UE (V.int (match ys[i]? with|some (.int c)=>c|_=>0));rw[e]
  rw[My (),My (by rw[Mx];lia)];rfl
 subst ey;have d0:=s0;try dsimp only
 refine ag λM1 K1=>?_;have e0:aj H0 H0:=aj.refl _;refine nmx (j:=0) (SqL.of (d0 _ _ hN)) (lxn (j:=0) (SqL.of (e0 _ _ eK)) rfl ({by show 3<=sizeLine;decide,λt0 ht0=>?_}));obtain⟨c1,g0⟩:=alc ht0 (HO.tup [V.str "hand",.str (N 0),.int (rk 0)]);generalize upd H0 t0 _=H1 at c1 g0⊢;have d1:=d0.trans c1;have e1:=e0.trans c1;refine nmx (j:=1) (SqL.of (d1 _ _ hN)) (lxn (j:=1) (SqL.of (e1 _ _ eK)) rfl ({by show 4<=sizeLine;decide,λt1 ht1=>?_}));obtain⟨c2,g1⟩:=alc ht1 (HO.tup [V.str "given",.str (N 1),.int (rk 1),.int 0]);generalize upd H1 t1 _=H2 at c2 g1⊢;have d2:=d1.trans c2;have e2:=e1.trans c2;refine nmx (j:=2) (SqL.of (d2 _ _ hN)) (lxn (j:=2) (SqL.of (e2 _ _ eK)) rfl ({by show 4<=sizeLine;decide,λt2 ht2=>?_}));obtain⟨c3,g2⟩:=alc ht2 (HO.tup [V.str "given",.str (N 2),.int (rk 2),.int 3]);generalize upd H2 t2 _=H3 at c3 g2⊢;have d3:=d2.trans c3;have e3:=e2.trans c3;refine{by show 3<=sizeLine;decide,λl0 hl0=>?_};obtain⟨c4,a0⟩:=alc hl0 (HO.lst [V.ref t0,V.ref t1,V.ref t2]);generalize upd H3 l0 _=H4 at c4 a0⊢;have d4:=d3.trans c4;have e4:=e3.trans c4;refine K1 _ _ ?_;clear K1 M1;try dsimp only
 refine ag λM1 K1=>nmx (j:=3) (SqL.of (d4 _ _ hN)) ({by show 3<=sizeLine;decide,λt3 ht3=>?_});obtain⟨c5,g3⟩:=alc ht3 (HO.tup [V.str "own",.str (N 3),.int 0]);generalize upd H4 t3 _=H5 at c5 g3⊢;have d5:=d4.trans c5;have e5:=e4.trans c5;refine nmx (j:=4) (SqL.of (d5 _ _ hN)) ({c,27,rfl,∅,∅,λm m0 m1=>{by show(0:Int)<4;decide,{by show 3<=sizeLine;decide,λt4 ht4=>?_}}});obtain⟨c6,g4⟩:=alc ht4 (HO.tup [V.str "own",.str (N 4),.int (1+m%4)]);generalize upd H5 t4 _=H6 at c6 g4⊢;have d6:=d5.trans c6;have e6:=e5.trans c6;refine nmx (j:=5) (SqL.of (d6 _ _ hN)) (lxn (j:=3) (SqL.of (e6 _ _ eK)) rfl ({by show 3<=sizeLine;decide,λt5 ht5=>?_}));obtain⟨c7,g5⟩:=alc ht5 (HO.tup [V.str "let",.str (N 5),.int (rk 3)]);generalize upd H6 t5 _=H7 at c7 g5⊢;have d7:=d6.trans c7;have e7:=e6.trans c7;refine{by show 3<=sizeLine;decide,λl1 hl1=>?_};obtain⟨c8,a1⟩:=alc hl1 (HO.lst [V.ref t3,V.ref t4,V.ref t5]);generalize upd H7 l1 _=H8 at c8 a1⊢;have d8:=d7.trans c8;have e8:=e7.trans c8;have f1:aj H4 H8:=λa o h=>c8 _ _ (c7 _ _ (c6 _ _ (c5 _ _ h)));refine{l0,l1,_,_,rfl,rfl,f1 _ _ a0,a1,by show 6<=sizeLine;decide,λb1 hb1=>?_};obtain⟨c9,q1⟩:=alc hb1 (HO.lst ([V.ref t0,V.ref t1,V.ref t2]++[V.ref t3,V.ref t4,V.ref t5]));generalize upd H8 b1 _=H9 at c9 q1⊢;have q1:H9 b1=UE (.lst [V.ref t0,V.ref t1,V.ref t2,V.ref t3,V.ref t4,V.ref t5]):=q1;have d9:=d8.trans c9;have e9:=e8.trans c9;refine K1 _ _ ?_;clear K1 M1;try dsimp only
 refine ag λM1 K1=>nmx (j:=6) (SqL.of (d9 _ _ hN)) (lxn (j:=4) (SqL.of (e9 _ _ eK)) rfl ({by show 3<=sizeLine;decide,λt6 ht6=>?_}));obtain⟨c10,g6⟩:=alc ht6 (HO.tup [V.str "let",.str (N 6),.int (rk 4)]);generalize upd H9 t6 _=H10 at c10 g6⊢;have d10:=d9.trans c10;have e10:=e9.trans c10;refine nmx (j:=7) (SqL.of (d10 _ _ hN)) ({by show 3<=sizeLine;decide,λt7 ht7=>?_});obtain⟨c11,g7⟩:=alc ht7 (HO.tup [V.str "own",.str (N 7),.int 0]);generalize upd H10 t7 _=H11 at c11 g7⊢;have d11:=d10.trans c11;have e11:=e10.trans c11;refine nmx (j:=8) (SqL.of (d11 _ _ hN)) (lxn (j:=5) (SqL.of (e11 _ _ eK)) rfl ({by show 3<=sizeLine;decide,λt8 ht8=>?_}));obtain⟨c12,g8⟩:=alc ht8 (HO.tup [V.str "hand",.str (N 8),.int (rk 5)]);generalize upd H11 t8 _=H12 at c12 g8⊢;have d12:=d11.trans c12;have e12:=e11.trans c12;refine{by show 3<=sizeLine;decide,λl2 hl2=>?_};obtain⟨c13,a2⟩:=alc hl2 (HO.lst [V.ref t6,V.ref t7,V.ref t8]);generalize upd H12 l2 _=H13 at c13 a2⊢;have d13:=d12.trans c13;have e13:=e12.trans c13;have f2:aj H9 H13:=λa o h=>c13 _ _ (c12 _ _ (c11 _ _ (c10 _ _ h)));refine{b1,l2,_,_,rfl,rfl,f2 _ _ q1,a2,by show 9<=sizeLine;decide,λb2 hb2=>?_};obtain⟨c14,q2⟩:=alc hb2 (HO.lst ([V.ref t0,V.ref t1,V.ref t2,V.ref t3,V.ref t4,V.ref t5]++[V.ref t6,V.ref t7,V.ref t8]));generalize upd H13 b2 _=H14 at c14 q2⊢;have q2:H14 b2=UE (.lst [V.ref t0,V.ref t1,V.ref t2,V.ref t3,V.ref t4,V.ref t5,V.ref t6,V.ref t7,V.ref t8]):=q2;have d14:=d13.trans c14;have e14:=e13.trans c14;refine K1 _ _ ?_;clear K1 M1;try dsimp only
 refine ag λM1 K1=>nmx (j:=19) (SqL.of (d14 _ _ hN)) (lxn (j:=6) (SqL.of (e14 _ _ eK)) rfl ({by show 4<=sizeLine;decide,λt9 ht9=>?_}));obtain⟨c15,g9⟩:=alc ht9 (HO.tup [V.str "given",.str (N 19),.int (rk 6),.int 0]);generalize upd H14 t9 _=H15 at c15 g9⊢;have d15:=d14.trans c15;have e15:=e14.trans c15;refine nmx (j:=20) (SqL.of (d15 _ _ hN)) ({by show 3<=sizeLine;decide,λt10 ht10=>?_});obtain⟨c16,g10⟩:=alc ht10 (HO.tup [V.str "own",.str (N 20),.int 0]);generalize upd H15 t10 _=H16 at c16 g10⊢;have d16:=d15.trans c16;have e16:=e15.trans c16;refine{by show 2<=sizeLine;decide,λl3 hl3=>?_};obtain⟨c17,a3⟩:=alc hl3 (HO.lst [V.ref t9,V.ref t10]);generalize upd H16 l3 _=H17 at c17 a3⊢;have d17:=d16.trans c17;have e17:=e16.trans c17;have f3:aj H14 H17:=λa o h=>c17 _ _ (c16 _ _ (c15 _ _ h));refine{b2,l3,_,_,rfl,rfl,f3 _ _ q2,a3,by show 11<=sizeLine;decide,λb3 hb3=>?_};obtain⟨c18,q3⟩:=alc hb3 (HO.lst ([V.ref t0,V.ref t1,V.ref t2,V.ref t3,V.ref t4,V.ref t5,V.ref t6,V.ref t7,V.ref t8]++[V.ref t9,V.ref t10]));generalize upd H17 b3 _=H18 at c18 q3⊢;have q3:H18 b3=UE (.lst [V.ref t0,V.ref t1,V.ref t2,V.ref t3,V.ref t4,V.ref t5,V.ref t6,V.ref t7,V.ref t8,V.ref t9,V.ref t10]):=q3;have d18:=d17.trans c18;have e18:=e17.trans c18;have z1:=bP m (show(0:Int)<4 by decide);have pr:aS N H18 ((mX rk (1+m%4)).map Fr.leaf) [V.ref t0,V.ref t1,V.ref t2,V.ref t3,V.ref t4,V.ref t5,V.ref t6,V.ref t7,V.ref t8,V.ref t9,V.ref t10]:=by
  have k0:H18 t0=_:=c18 _ _ (c17 _ _ (c16 _ _ (c15 _ _ (c14 _ _ (c13 _ _ (c12 _ _ (c11 _ _ (c10 _ _ (c9 _ _ (c8 _ _ (c7 _ _ (c6 _ _ (c5 _ _ (c4 _ _ (c3 _ _ (c2 _ _ g0))))))))))))))));have k1:H18 t1=_:=c18 _ _ (c17 _ _ (c16 _ _ (c15 _ _ (c14 _ _ (c13 _ _ (c12 _ _ (c11 _ _ (c10 _ _ (c9 _ _ (c8 _ _ (c7 _ _ (c6 _ _ (c5 _ _ (c4 _ _ (c3 _ _ g1)))))))))))))));have k2:H18 t2=_:=c18 _ _ (c17 _ _ (c16 _ _ (c15 _ _ (c14 _ _ (c13 _ _ (c12 _ _ (c11 _ _ (c10 _ _ (c9 _ _ (c8 _ _ (c7 _ _ (c6 _ _ (c5 _ _ (c4 _ _ g2))))))))))))));have k3:H18 t3=_:=c18 _ _ (c17 _ _ (c16 _ _ (c15 _ _ (c14 _ _ (c13 _ _ (c12 _ _ (c11 _ _ (c10 _ _ (c9 _ _ (c8 _ _ (c7 _ _ (c6 _ _ g3))))))))))));have k4:H18 t4=_:=c18 _ _ (c17 _ _ (c16 _ _ (c15 _ _ (c14 _ _ (c13 _ _ (c12 _ _ (c11 _ _ (c10 _ _ (c9 _ _ (c8 _ _ (c7 _ _ g4)))))))))));have k5:H18 t5=_:=c18 _ _ (c17 _ _ (c16 _ _ (c15 _ _ (c14 _ _ (c13 _ _ (c12 _ _ (c11 _ _ (c10 _ _ (c9 _ _ (c8 _ _ g5))))))))));have k6:H18 t6=_:=c18 _ _ (c17 _ _ (c16 _ _ (c15 _ _ (c14 _ _ (c13 _ _ (c12 _ _ (c11 _ _ g6)))))));have k7:H18 t7=_:=c18 _ _ (c17 _ _ (c16 _ _ (c15 _ _ (c14 _ _ (c13 _ _ (c12 _ _ g7))))));have k8:H18 t8=_:=c18 _ _ (c17 _ _ (c16 _ _ (c15 _ _ (c14 _ _ (c13 _ _ g8)))));have k9:H18 t9=_:=c18 _ _ (c17 _ _ (c16 _ _ g9));have k10:H18 t10=_:=c18 _ _ (c17 _ _ g10);exact .cons (fr0 k0 rfl) (.cons (fr0 k1 rfl) (.cons (fr0 k2 rfl) (.cons (fr0 k3 rfl) (.cons (fr0 k4 rfl) (.cons (fr0 k5 rfl) (.cons (fr0 k6 rfl) (.cons (fr0 k7 rfl) (.cons (fr0 k8 rfl) (.cons (fr0 k9 rfl) (.cons (fr0 k10 rfl) (.nil)))))))))))
 refine K1 _ _ ?_;clear K1 M1;try dsimp only
 refine ag λM1 K1=>{c,1,rfl,∅,∅,λm' m0' m1'=>{by show(0:Int)<11;decide,K1 _ _ ?_}};clear K1 M1;have z2:=bP m' (show(0:Int)<11 by decide);obtain⟨t,ht⟩:∃t:Nat,m'%11=(t:Int):={(m'%11).toNat,()};have t11:t<=11:=()
 dsimp only[ny,List.set];rw[ht];have lp:=Oe pr;generalize hys:[V.ref t0,V.ref t1,V.ref t2,V.ref t3,V.ref t4,V.ref t5,V.ref t6,V.ref t7,V.ref t8,V.ref t9,V.ref t10]=ys at q3 pr lp;have ly:ys.length=11:=by rw[<-hys];rfl
 refine{_,rfl,LL {b3,_,rfl,SqL.of q3,λp1 hp1=>?_}};rw[G9 ()];obtain⟨s24,e24⟩:=alc hp1 (HO.lst (ys.drop t));generalize upd H18 p1 _=X24 at s24 e24⊢;refine{_,rfl,LL {b3,_,rfl,SqL.of (s24 _ _ q3),λp2 hp2=>?_}};rw[IC ()];obtain⟨s25,e25⟩:=alc hp2 (HO.lst (ys.take t));generalize upd X24 p2 _=X25 at s25 e25⊢;refine{p1,p2,_,_,rfl,rfl,s25 _ _ e24,e25,sz (by rw[Mc,LV];lia),λLR hLR=>?_};have s26:=aj.upd hLR (.lst (ys.drop t++ys.take t));refine q LR rk (1+m%4) t _ _ (d18.trans (s24.trans (s25.trans s26))) (aj.free (d18.trans (s24.trans s25)) hLR) ao ?_ hrk () () t11;unfold qb;rw[Ml,List.map_drop,NK];exact aS.same (s24.trans (s25.trans s26)) (Paired.two (pv t pr) (kW t pr))
noncomputable def del(X:List N6)(H:Hp):Hp:=λa=>if a∈X then UG else H a
theorem cj{X:List N6}{H:Hp}:aj (del X H) H:=λa o h=>by
 unfold del at h;split at h
 ·cases h
 exact h
theorem aI{X:List N6}{H:Hp}{a:N6}{o:HO}(h:a∉X)(e:H a=UE o):del X H a=UE o:=by
 unfold del;rw[if_neg h];exact e
theorem b5{X:List N6}{H:Hp}{a:N6}{o:HO}(h:del X H a=UE o):a∉X/\H a=UE o:=by
 unfold del at h;split at h
 ·cases h
 exact⟨by assumption,h⟩
noncomputable abbrev S3:List Nat:=[3,7,20]
noncomputable abbrev S7:List Nat:=[1,2,3,4,7,19,20]
def nB(ps:List Nat)(t:Th):Prop:=∀a,t=.x a->a∈S7++ps
def vOk(ps:List Nat)(v:Val):Prop:=∀t∈vTh v,nB ps t
def p8(N:Nat->Str)(X:Hp)(sc:N6)(ps:List Nat):Prop:=∃a1 a2 a3 a4,X sc=UE (.dK [(.inr "targets",.ref a1),(.inr "things",.ref a2),(.inr "lists",.ref a3),(.inr "hands",.ref a4)])/\X a1=UE (.lst (nV N (S3++ps)))/\X a2=UE (.lst (nV N ([1,19]++(S3++ps))))/\X a3=UE (.lst (nV N [2,4]))/\X a4=UE (.lst (nV N [0,8]))
theorem p8.same{X X':Hp}(s:aj X X'){sc:N6}{ps:List Nat}(h:p8 N X sc ps):p8 N X' sc ps:=by
 obtain⟨a1,a2,a3,a4,h1,h2,h3,h4,h5⟩:=h;exact{a1,a2,a3,a4,s _ _ h1,s _ _ h2,s _ _ h3,s _ _ h4,s _ _ h5}
inductive wV(vs:List V)(H:Hp)(Q:VK)(Z:XK):Prop
 |mk(N:Nat->Str)(nl pp:N6)(ps:List Nat)(z0:vs=[.ref nl,.ref pp])(z1:H nl=UE (.lst (sS (tu N))))(z2:H pp=UE (.lst (nV N ps)))(z3:ps.length<=10)
  (z4:∀(sc:N6)(H':Hp),aj H H'->H sc=UG->(∀M:List N6,(∀x∈M,H x≠UG)->p8 N (del M H') sc ps)->Q (.ref sc) H'):wV vs H Q Z
theorem zo(T:Txt K mg A):T.o7.Hz P w base 1 wV:=by
 refine T.o7.hs jM (λf cdv A' outer s H vs Q E hr hu h=>?_);obtain⟨N,nl,pp,ps,rfl,hN,hP,lp,q⟩:=h;have lv:(nV N ps).length=ps.length:=Lm _;refine{_,(ab (pst 2 jM.nd (aw aD (aN (px hu (fv 0) af^px hu (fv 0) af^px hu (fv 0) af^ae)) (fv 1)))
  (ab (pst 3 jM.nd (zZ (fG ar (fv 2) (fG ar (aw aD (aN (px hu (fv 0) af^px hu (fv 0) af^ae)) (fv 2)) (fG ar (aN (px hu (fv 0) af^px hu (fv 0) af^ae)) (zw)))) rfl rfl (by intro z;cases z) ∅))
  (ab (bM (aN (px hu (fv 0) af^px hu (fv 0) af^ae)) (jA (fv 3) ar (gq hu UK)))
  (ai (aA (fv 3)))))),?_}
 refine ag λM1 K1=>nmx (j:=3) (SqL.of hN) (nmx (j:=7) (SqL.of hN) (nmx (j:=20) (SqL.of hN) {by show 3<=sizeLine;decide,λl0 h0=>?_}));obtain⟨s0,e0⟩:=alc h0 (HO.lst [.str (N 3),.str (N 7),.str (N 20)]);generalize upd H l0 _=H0 at s0 e0⊢;refine{l0,pp,_,_,rfl,rfl,e0,s0 _ _ hP,sz (by rw[lv];show 3+ps.length<=1000;lia),λa1 ha1=>?_};obtain⟨s1,e1⟩:=alc ha1 (HO.lst ([.str (N 3),.str (N 7),.str (N 20)]++nV N ps));generalize upd H0 a1 _=H1 at s1 e1⊢;have e1:H1 a1=UE (.lst (nV N (S3++ps))):=e1;have t1:=s0.trans s1;refine K1 _ _ ?_;clear K1 M1;try dsimp only
 refine ag λM1 K1 D hD=>?_;obtain⟨s2,e2⟩:=alc hD (HO.dK []);generalize upd H1 D _=H2 at s2 e2⊢;have t2:=t1.trans s2;refine nmx (j:=1) (SqL.of (t2 _ _ hN)) (nmx (j:=19) (SqL.of (t2 _ _ hN)) {by show 2<=sizeLine;decide,λl3 h3=>?_});obtain⟨s3,e3⟩:=alc h3 (HO.lst [.str (N 1),.str (N 19)]);generalize upd H2 l3 _=H3 at s3 e3⊢;refine{l3,a1,_,_,rfl,rfl,e3,(s2.trans s3) _ _ e1,sz (by rw[Lm,Ll];show 2+(3+ps.length)<=1000;lia),λa2 ha2=>?_};obtain⟨s4,e4⟩:=alc ha2 (HO.lst ([.str (N 1),.str (N 19)]++nV N (S3++ps)));generalize upd H3 a2 _=H4 at s4 e4⊢;have e4:H4 a2=UE (.lst (nV N ([1,19]++(S3++ps)))):=e4;have t4:=t2.trans (s3.trans s4);refine nmx (j:=2) (SqL.of (t4 _ _ hN)) (nmx (j:=4) (SqL.of (t4 _ _ hN)) {by show 2<=sizeLine;decide,λa3 ha3=>?_});obtain⟨s5,e5⟩:=alc ha3 (HO.lst [.str (N 2),.str (N 4)]);generalize upd H4 a3 _=H5 at s5 e5⊢;have t5:=t4.trans s5;have s25:=s3.trans (s4.trans s5);refine{s25 _ _ e2,[(.inr "targets",.ref a1),(.inr "things",.ref a2),(.inr "lists",.ref a3)],rfl,by show 3<=15;decide,?_};have D1:H1 D=UG:=hD;have s15:aj H1 (upd H5 D (.dK (bw [] [(.inr "targets",.ref a1),(.inr "things",.ref a2),(.inr "lists",.ref a3)]))):=aj.out (s2.trans s25) D1 _;have n2:a2≠D:=λz=>by rw[z,s3 _ _ e2]at ha2;cases ha2
 have n3:a3≠D:=λz=>by rw[z,(s3.trans s4) _ _ e2]at ha3;cases ha3
 have k1:=s15 _ _ e1;have k2:upd H5 D (.dK (bw [] [(.inr "targets",.ref a1),(.inr "things",.ref a2),(.inr "lists",.ref a3)])) a2=_:=az n2 (s5 _ _ e4);have k3:upd H5 D (.dK (bw [] [(.inr "targets",.ref a1),(.inr "things",.ref a2),(.inr "lists",.ref a3)])) a3=_:=az n3 e5;have eD:upd H5 D (.dK (bw [] [(.inr "targets",.ref a1),(.inr "things",.ref a2),(.inr "lists",.ref a3)])) D=UE (.dK [(.inr "targets",.ref a1),(.inr "things",.ref a2),(.inr "lists",.ref a3)]):=ao;generalize upd H5 D _=H6 at s15 k1 k2 k3 eD⊢;have t6:=t1.trans s15;refine K1 _ _ ?_;clear K1 M1;try dsimp only
 refine ag λM1 K1=>nmx (j:=0) (SqL.of (t6 _ _ hN)) (nmx (j:=8) (SqL.of (t6 _ _ hN)) {by show 2<=sizeLine;decide,λa4 ha4=>?_});obtain⟨s7,e7⟩:=alc ha4 (HO.lst [.str (N 0),.str (N 8)]);generalize upd H6 a4 _=H7 at s7 e7⊢;refine{_,pT.k (k:=.inr "hands") (s7 _ _ eD) (show 3<sizeLine by decide),K1 _ _ ?_};clear K1 M1;have o1:a1≠D:=λz=>by rw[z,D1]at e1;cases e1
 have o2:a2≠D:=n2;have o4:a4≠D:=λz=>by rw[z,eD]at ha4;cases ha4
 refine q D _ (t1.trans (aj.out (s15.trans s7) D1 _)) (aj.free t1 D1) λM hM=>?_;have nw:∀{x:N6},H x=UG->x∉M:=λh m=>hM _ m h;exact{a1,a2,a3,a4,aI (nw (aj.free t1 D1)) ao,aI (nw (aj.free s0 ha1)) (az o1 (s7 _ _ k1)),aI (nw (aj.free (t2.trans s3) ha2)) (az o2 (s7 _ _ k2)),aI (nw (aj.free t4 ha3)) (az n3 (s7 _ _ k3)),aI (nw (aj.free t6 ha4)) (az o4 e7)}
theorem F6{a:Nat}{ps:List Nat}(h:a∈[1,19]++(S3++ps)):a∈S7++ps:=by
 rcases Ls.mp h with m|m
 ·exact LP _ ((show ∀x∈([1,19]:List Nat),x∈S7 by decide) a m)
 rcases Ls.mp m with m|m
 ·exact LP _ ((show ∀x∈S3,x∈S7 by decide) a m)
 exact LD _ m
inductive uD(vs:List V)(H:Hp)(Q:VK)(Z:XK):Prop
 |mk(N:Nat->Str)(sc:N6)(ps:List Nat)(n:Int)(z0:vs=[.int n,.ref sc])(z1:0<=n)(z2:n<1000000000000000)(z3:p8 N H sc ps)
  (z4:∀(t:Th)(H':Hp),aj H H'->nB ps t->Q (t.v N) H'):uD vs H Q Z
theorem kF(T:Txt K mg A):T.ou.Hz P w base 2 uD:=by
 refine T.ou.hs (k:=1) vB (λf cdv A' outer s H vs Q E hr hu h=>?_);obtain⟨N,sc,ps,n,rfl,h0,h1,hS,q⟩:=h;refine{_,(ab (aL (ptc (bV hu) (aw bK (fv 0) af) af)
   (ai (aA (aw bK (aw dj (aw dX (fv 0) af) af) (px hu (aN (af^aw tP af af^ae)) (aw bK (aw dX (fv 0) af) af)))))
   aC)
  (ai (aA (ak (oR T) hr (px hu (fv 1) ar^aw dX (fv 0) af^ae))))),?_}
 refine ag λM1 K1=>{by show(0:Int)<2;decide,rfl,_,rfl,aR (λ_=>?_) (λ_=>K1 _ _ ?_)}
 ·refine{{∅,∅},.inr {∅,∅},{∅,∅,∅},by show 2<=sizeLine;decide,λL hL=>?_};obtain⟨s1,e1⟩:=alc hL (HO.lst [.int 4,.int (10^(12:Int).toNat)]);generalize upd H L _=H1 at s1 e1⊢;obtain⟨m0,m1⟩:=bP (n/2) (show(0:Int)<2 by decide);refine{{∅,∅},by show(0:Int)<2;decide,?_};obtain⟨y,ay,y0⟩:∃y:Int,atI [V.int 4,.int (10^(12:Int).toNat)] (n/2%2)=UE (.int y)/\0<y:=by
   generalize n/2%2=j at m0 m1;have cs:j=0\/j=1:=()
   rcases cs with rfl|rfl
   ·exact{4,rfl,∅}
   exact{_,rfl,∅}
  exact lix (SqL.of e1) ay {y0,q (.i _) H1 s1 (λa z=>by cases z)}
 clear K1 M1;try dsimp only
 obtain⟨a1,a2,a3,a4,h1,h2,h3,h4,h5⟩:=hS;refine dgk h1 rfl {{∅,∅},a2,_,_,rfl,SqL.of h3,by simp,λx hx=>?_};obtain⟨a,ma,rfl⟩:=LN.mp hx;refine q (.x a) H (aj.refl _) λb z=>?_;cases z;exact F6 ma
inductive Aa(vs:List V)(H:Hp)(Q:VK)(Z:XK):Prop
 |mk(N:Nat->Str)(sc:N6)(ps:List Nat)(c:Int)(z0:vs=[.int c,.ref sc])(z3:p8 N H sc ps)
  (z4:∀(p:N6)(v:Val)(H':Hp),aj H H'->H p=UG->H' p=UE (.tup (vV N v))->vOk ps v->Q (.ref p) H'):Aa vs H Q Z
theorem K6{ps:List Nat}{t:Th}(h:nB ps t):vOk ps (.one t):=λu hu=>by
 rw[Lp.mp hu];exact h
theorem JI{ps:List Nat}{t u:Th}{x:Str}(h:nB ps t)(h':nB ps u):vOk ps (.op t x u):=λv hv=>by
 simp only[vTh,Lu,LS,or_false]at hv;rcases hv with rfl|rfl
 ·exact h
 exact h'
theorem Bu(T:Txt K mg A):T.oT.Hz P w base 3 Aa:=by
 have bc:=@nQ P w _ _ base _ T;refine T.oT.hs (k:=2) gg (λf cdv A' outer s H vs Q E hr hu h=>?_);obtain⟨N,sc,ps,c,rfl,hS,q⟩:=h;refine{_,(ab (pst 2 gg.nd (ak (hj:=by lia) (kF T) hr ((ak (hj:=by lia) bc hr (fv 0^af^ae))^fv 1^ae)))
  (ab (pst 3 gg.nd (ak (hj:=by lia) (kF T) hr ((ak (hj:=by lia) bc hr (fv 0^af^ae))^fv 1^ae)))
  (ab (pst 4 gg.nd (ak (hj:=by lia) bc hr (fv 0^af^ae)))
  (ab (aL (ptc yP (aw bK (fv 4) af) af)
   (ai (aA (aP (fv 2^ae))))
   aC)
  (ab (aL (ptc (bV hu) (aw bK (fv 4) af) af)
   (ai (aA (aP ((ak (hj:=by lia) (oR T) hr (px hu (fv 1) ar^aw dX (fv 4) af^ae))^ar^fv 3^ae))))
   aC)
  (ai (aA (aP (fv 2^(ak (hj:=by lia) (oR T) hr (aN (ar^ar^ar^ar^ar^ar^ar^ae)^aw dX (fv 4) af^ae))^fv 3^ae))))))))),?_}
 refine ag λM1 K1=>{c,28,rfl,∅,∅,λm m0 m1=>{N,sc,ps,m,rfl,m0,m1,hS,λt1 H1 s1 o1=>K1 _ _ ?_}};clear K1 M1;try dsimp only
 refine ag λM1 K1=>{c,29,rfl,∅,∅,λm2 m20 m21=>{N,sc,ps,m2,rfl,m20,m21,hS.same s1,λt2 H2 s2 o2=>K1 _ _ ?_}};clear K1 M1;have t2':=s1.trans s2;try dsimp only
 refine ag λM1 K1=>{c,30,rfl,∅,∅,λn n0 n1=>K1 _ _ ?_};clear K1 M1;try dsimp only
 refine ag λM1 K1=>{by show(0:Int)<4;decide,_,rfl,aR (λ_=>?_) (λ_=>K1 _ _ ?_)}
 ·exact{by show 1<=sizeLine;decide,λp hp=>q p (.one t1) _ (t2'.trans (aj.upd hp _)) (aj.free t2' hp) ao (K6 o1)}
 clear K1 M1;try dsimp only
 refine ag λM1 K1=>{by show(0:Int)<4;decide,rfl,_,rfl,aR (λ_=>?_) (λ_=>K1 _ _ ?_)}
 ·obtain⟨a1,a2,a3,a4,h1,h2,h3,h4,h5⟩:=hS.same t2';refine dgk h1 rfl {{∅,∅},a3,_,_,rfl,SqL.of h4,by simp,λx hx=>?_};obtain⟨a,ma,rfl⟩:=LN.mp hx;refine{by show 3<=sizeLine;decide,λp hp=>q p (.op (.x a) "at" t2) _ (t2'.trans (aj.upd hp _)) (aj.free t2' hp) ao (JI (λb z=>?_) o2)};cases z;exact LP _ ((show ∀x∈([2,4]:List Nat),x∈S7 by decide) a ma)
 clear K1 M1;try dsimp only
 refine{by show 7<=sizeLine;decide,λL hL=>?_};obtain⟨s3,e3⟩:=alc hL (HO.lst [.str "+",.str "-",.str "*",.str "over",.str "rest",.str "<",.str "="]);generalize upd H2 L _=H3 at s3 e3⊢;refine{{∅,∅},L,_,_,rfl,SqL.of e3,∅,λx hx=>?_};obtain⟨y,rfl⟩:∃y:Str,x=.str y:=by
  simp only[Lu,LS,or_false]at hx;rcases hx with e|e|e|e|e|e|e<;>exact{_,e}
 refine{by show 3<=sizeLine;decide,λp hp=>?_};have t3:=t2'.trans s3;exact q p (.op t1 y t2) _ (t3.trans (aj.upd hp _)) (aj.free t3 hp) ao (JI o1 o2)
theorem Sm.del{M:List N6}{H H':Hp}(s:Sm M H H'):aj (del M H) (del M H'):=λa o h=>by
 obtain⟨h1,h2⟩:=b5 h;exact aI h1 (s a o h1 h2)
theorem Sm.mono{M M':List N6}{H H':Hp}(s:Sm M H H')(m:∀a∈M,a∈M'):Sm M' H H':=λa o h e=>s a o (λz=>h (m a z)) e
structure Sa where
 S:N6
 o:N6
 t:N6
 m:N6
 d:N6
 F:N6
noncomputable abbrev Sa.M(s:Sa):List N6:=[s.S,s.o,s.t,s.m,s.d,s.F]
noncomputable abbrev Sa.Q(s:Sa):List N6:=[s.S,s.o,s.t,s.m,s.d]
def Sn(s:Sa)(H H':Hp):Prop:=Sm s.Q H H'
theorem Sa.qm{s:Sa}{a:N6}(h:a∈s.Q):a∈s.M:=by
 simp only[Sa.Q,Sa.M,Lu,LS,or_false]at h⊢;rcases h with h|h|h|h|h<;>simp[h]
theorem Sn.del{s:Sa}{H H':Hp}(h:Sn s H H'):aj (del s.M H) (del s.M H'):=Sm.del (Sm.mono h λ_=>Sa.qm)
theorem Sn.trans{s:Sa}{H H' H'':Hp}(h:Sn s H H')(h':Sn s H' H''):Sn s H H'':=Sm.trans h h'
theorem Sn.new{s:Sa}{H H':Hp}(h:aj H H'):Sn s H H':=Sm.new h
theorem Sn.at{s:Sa}{H:Hp}{a:N6}(m:a∈s.Q)(o:HO):Sn s H (upd H a o):=Sm.at m o
noncomputable def stK(s:Sa)(room:Int):List (Key×V):=[(.inr "open",.ref s.o),(.inr "times",.ref s.t),(.inr "marks",.ref s.m),(.inr "deeds",.ref s.d),(.inr "room",.int room)]
structure Sg where
 op:List Str
 tm:List Int
 ma:List Nat
 dd:List (Nat×Nat×Int)
 room:Int
def wm(N:Nat->Str)(X:Hp)(dd:List (Nat×Nat×Int))(vs:List V):Prop:=Paired (λ(e:Nat×Nat×Int) v=>∃a,v=V.ref a/\X a=UE (.tup [.str (N e.1),.int e.2.1,.int e.2.2])) dd vs
theorem wm.same{X X':Hp}(s:aj X X'){dd:List (Nat×Nat×Int)}{vs:List V}(h:wm N X dd vs):wm N X' dd vs:=Paired.rg h λ_ _ ⟨a,e,z⟩=>{a,e,s _ _ z}
structure SAt(N:Nat->Str)(H:Hp)(s:Sa)(g:Sg):Prop where
 hS:H s.S=UE (.dK (stK s g.room))
 ho:H s.o=UE (.lst (sS g.op))
 ht:H s.t=UE (.lst (g.tm.map V.int))
 hm:H s.m=UE (.lst (nV N g.ma))
 hd:∃ds,H s.d=UE (.lst ds)/\wm N (del s.M H) g.dd ds
 nd:s.M.Nodup
 hF:∃ys,H s.F=UE (.lst ys)
 mo:∀m∈g.ma,m=5\/m=6
 nm:lJ N
theorem SAt.in{H:Hp}{s:Sa}{g:Sg}(h:SAt N H s g){a:N6}(m:a∈s.M):H a≠UG:=by
 obtain⟨ds,hd,_⟩:=h.hd;obtain⟨ys,hF⟩:=h.hF;simp only[Lu,LS,or_false]at m;rcases m with rfl|rfl|rfl|rfl|rfl|rfl
 ·rw[h.hS];simp
 ·rw[h.ho];simp
 ·rw[h.ht];simp
 ·rw[h.hm];simp
 ·rw[hd];simp
 rw[hF];simp
theorem SAt.new{H:Hp}{s:Sa}{g:Sg}(h:SAt N H s g){a:N6}(e:H a=UG):a∉s.M:=λm=>h.in m e
theorem SAt.same{H H':Hp}{s:Sa}{g:Sg}(h:SAt N H s g)(e:aj H H'):SAt N H' s g:=by
 obtain⟨ds,hd,dd⟩:=h.hd;exact{e _ _ h.hS,e _ _ h.ho,e _ _ h.ht,e _ _ h.hm,{ds,e _ _ hd,dd.same (Sn.del (Sn.new e))},h.nd,h.hF.imp λ_ z=>e _ _ z,h.mo,h.nm}
theorem SAt.ne{H:Hp}{s:Sa}{g:Sg}(h:SAt N H s g):(s.S≠s.o/\s.S≠s.t/\s.S≠s.m/\s.S≠s.d/\s.o≠s.t/\s.o≠s.m/\s.o≠s.d/\s.t≠s.m/\s.t≠s.d/\s.m≠s.d)/\s.F≠s.S/\s.F≠s.o/\s.F≠s.t/\s.F≠s.m/\s.F≠s.d:=by
 have nd:=h.nd;simp only[Sa.M,Mq,Lu,LS,or_false,not_or,NA,and_true,not_false_eq_true]at nd;obtain⟨⟨a,b,c,d,x1⟩,⟨e,f,i,x2⟩,⟨j,k,x3⟩,⟨l,x4⟩,x5⟩:=nd;exact{⟨a,b,c,d,e,f,i,j,k,l⟩,LU x1,LU x2,LU x3,LU x4,LU x5}
theorem SAt.marks{H:Hp}{s:Sa}{g:Sg}(h:SAt N H s g){mk:List Nat}(e:∀m∈mk,m=5\/m=6):SAt N (upd H s.m (.lst (nV N mk))) s { g with ma:=mk }:=by
 obtain⟨⟨a,b,c,d,e',f,i,j,k,l⟩,x1,x2,x3,x4,x5⟩:=h.ne;obtain⟨ds,hd,dd⟩:=h.hd;exact{az c h.hS,az f h.ho,az j h.ht,ao,{ds,az (LU l) hd,dd.same (Sn.del (Sn.at (by simp) _))},h.nd,h.hF.imp λ_ z=>az x4 z,e,h.nm}
theorem SAt.oU{H:Hp}{s:Sa}{g:Sg}(h:SAt N H s g)(r:Int):SAt N (upd H s.S (.dK (stK s r))) s { g with room:=r }:=by
 obtain⟨⟨a,b,c,d,e',f,i,j,k,l⟩,x1,x2,x3,x4,x5⟩:=h.ne;obtain⟨ds,hd,dd⟩:=h.hd;exact{ao,az (LU a) h.ho,az (LU b) h.ht,az (LU c) h.hm,{ds,az (LU d) hd,dd.same (Sn.del (Sn.at (by simp) _))},h.nd,h.hF.imp λ_ z=>az x1 z,h.mo,h.nm}
theorem SAt.opened{H:Hp}{s:Sa}{g:Sg}(h:SAt N H s g)(op:List Str):SAt N (upd H s.o (.lst (sS op))) s { g with op:=op }:=by
 obtain⟨⟨a,b,c,d,e',f,i,j,k,l⟩,x1,x2,x3,x4,x5⟩:=h.ne;obtain⟨ds,hd,dd⟩:=h.hd;exact{az a h.hS,ao,az (LU e') h.ht,az (LU f) h.hm,{ds,az (LU i) hd,dd.same (Sn.del (Sn.at (by simp) _))},h.nd,h.hF.imp λ_ z=>az x2 z,h.mo,h.nm}
theorem SAt.FV{H:Hp}{s:Sa}{g:Sg}(h:SAt N H s g)(tm:List Int):SAt N (upd H s.t (.lst (tm.map V.int))) s { g with tm:=tm }:=by
 obtain⟨⟨a,b,c,d,e',f,i,j,k,l⟩,x1,x2,x3,x4,x5⟩:=h.ne;obtain⟨ds,hd,dd⟩:=h.hd;exact{az b h.hS,az e' h.ho,ao,az (LU j) h.hm,{ds,az (LU k) hd,dd.same (Sn.del (Sn.at (by simp) _))},h.nd,h.hF.imp λ_ z=>az x3 z,h.mo,h.nm}
theorem lJ.str(h:lJ N)(i:Nat)(hi:i<24):Ow (N i)=true:=by
 unfold Ow;rw[Array.all_eq_true'];intro c hc;have:=h.ch i hi c (Nv.mpr hc);exact decide_eq_true ()
theorem Hr{H:Hp}{p:N6}{xs:List V}{y:V}{Q:VK}(h:H p=UE (.lst (xs++[y])))(q:Q y (upd H p (.lst xs))):Fq (.ref p) [] H Q:={p,_,y,rfl,rfl,h,by simp,by rw[List.dropLast_concat];exact q}
noncomputable def Az(ps:List Nat)(dd:List (Nat×Nat))(lp:Bool):Lr->Prop
 | .set x v=>x∈S7++ps/\vOk ps v
 | .put x t v=>x∈S7++ps/\nB ps t/\vOk ps v
 | .snd h v=>(h=0\/h=8)/\vOk ps v
 | .say x v m=>x∈S7++ps/\vOk ps v/\(m=5\/m=6)
 | .call i ts=>(i,ts.length)∈dd/\∀t∈ts,nB ps t
 | .last=>lp=true
 |_=>False
theorem Jy{a:Nat}{ps:List Nat}(h:a∈S3++ps):a∈S7++ps:=F6 (LD _ h)
theorem fr1{X:Hp}{a p:N6}{f:Fr}{o:HO}(h:X a=UE (.tup (.str f.wd::f.ts N p)))(e:f.ob N=UE o)(hp:X p=UE o):j4 N X (.ref a) f:={a,p,rfl,h,λo' ho=>by rw[e]at ho;cases ho;exact hp}
inductive tM(vs:List V)(H:Hp)(Q:VK)(Z:XK):Prop
 |mk(N:Nat->Str)(s:Sa)(g:Sg)(c:Int)(sc:N6)(ps:List Nat)(z0:vs=[.ref s.S,.int c,.ref sc])(z1:SAt N H s g)(z2:p8 N (del s.M H) sc ps)
  (z3:∀(v:V)(r:Lr)(mk:List Nat)(H':Hp),Sn s H H'->SAt N H' s { g with ma:=mk }->j4 N (del s.M H') v (.leaf r)->(∀dd lp,Az ps dd lp r)->Q v H'):tM vs H Q Z
theorem Cb(T:Txt K mg A):T.oO.Hz P w base 4 tM:=by
 have bc:=@nQ P w _ _ base _ T;refine T.oO.hs (k:=3) eG (λf cdv A' outer s' H vs Q E hr hu h=>?_);obtain⟨N,s,g,c,sc,ps,rfl,hA,hS,q⟩:=h;refine{_,(ab (pst 3 eG.nd (aw bK (ak (hj:=by lia) bc hr (fv 1^af^ae)) af))
  (ab (pst 4 eG.nd (ak (hj:=by lia) (Bu T) hr (fv 1^fv 2^ae)))
  (ab (pst 5 eG.nd (ak (hj:=by lia) bc hr (fv 1^af^ae)))
  (ab (pst 6 eG.nd (ak (hj:=by lia) (oR T) hr (px hu (fv 2) ar^fv 5^ae)))
  (ab (aL (PW.pt (pw_and (ptc (bV hu) (fv 3) af) (pw_and1 (ptc (oW hu) (px hu (fv 0) ar) (aN ae)))))
   (ai (aA (aP (ar^fv 6^fv 4^Co (px hu (fv 0) ar)^ae))))
   aC)
  (ab (aL (ptc yP (fv 3) af)
   (ai (aA (aP (ar^(ak (hj:=by lia) (oR T) hr (px hu (fv 2) ar^fv 5^ae))^fv 4^ae))))
   aC)
  (ab (aL (ptc (bV hu) (fv 3) af)
   (ai (aA (aP (ar^px hu (px hu (fv 2) ar) af^(ak (hj:=by lia) (kF T) hr ((ak (hj:=by lia) bc hr (fv 1^af^ae))^fv 2^ae))^fv 4^ae))))
   aC)
  (ai (aA (aP (ar^fv 6^fv 4^ae))))))))))),?_}
 refine ag λM1 K1=>{c,4,rfl,∅,∅,λm m0 m1=>{by show(0:Int)<8;decide,K1 _ _ ?_}};clear K1 M1;try dsimp only
 refine ag λM1 K1=>{N,sc,ps,c,rfl,hS.same cj,λp v H1 s1 f1 e1 ov=>K1 _ _ ?_};clear K1 M1;have A1:=hA.same s1;have S1:=hS.same (Sn.del (Sn.new s1));have p1:p∉s.M:=hA.new f1;try dsimp only
 refine ag λM1 K1=>{c,6,rfl,∅,∅,λn n0 n1=>?_};obtain⟨a1,a2,a3,a4,h1,h2,h3,h4,h5⟩:=S1;refine K1 _ _ ?_;clear K1 M1;try dsimp only
 refine ag λM1 K1=>dgk (cj _ _ h1) rfl {a1,_,n,rfl,SqL.of (cj _ _ h2),by simp,λx hx=>K1 _ _ ?_};clear K1 M1;obtain⟨a,ma,rfl⟩:=LN.mp hx;have ma':=Jy ma;have ep:∀{H':Hp},aj H1 H'->del s.M H' p=UE (.tup (vV N v)):=λe=>aI p1 (e _ _ e1);have fin:∀(r:Lr)(t:N6)(mk:List Nat)(H2:Hp),Sn s H H2->SAt N H2 s { g with ma:=mk }->H2 t=UG->(∀H',aj H2 H'->H' t=UE (.tup (.str r.wd::(r.fs N p).map (·.2)))->j4 N (del s.M H') (.ref t) (.leaf r))->(∀dd lp,Az ps dd lp r)->Q (.ref t) (upd H2 t (.tup (.str r.wd::(r.fs N p).map (·.2)))):=λr t mk H2 s2 A2 ht fr ok=>q _ r mk _ (s2.trans (Sn.new (aj.upd ht _))) (A2.same (aj.upd ht _)) (fr _ (aj.upd ht _) ao) ok;have go:∀(r:Lr)(t:N6)(H2:Hp),aj H1 H2->H2 t=UG->r.ob N=UE (.tup (vV N v))->(∀dd lp,Az ps dd lp r)->Q (.ref t) (upd H2 t (.tup (.str r.wd::(r.fs N p).map (·.2)))):=λr t H2 s2 ht eo ok=>fin r t g.ma H2 (Sn.new (s1.trans s2)) ((A1.same s2)) ht (λH' e et=>fr1 (p:=p) (aI (hA.new (aj.free (s1.trans s2) ht)) et) eo (ep (s2.trans e))) ok;try dsimp only
 refine ag λM1 K1=>?_;have rest:∀(H2:Hp),aj H1 H2->M1 [UE (.ref s.S),UE (.int c),UE (.ref sc),UE (.int (m%8)),UE (.ref p),UE (.int n),UE (.str (N a))] H2:=λH2 s2=>K1 _ _ (by
  try dsimp only
  have S2:=λx o (e:del s.M H1 x=UE o)=>s2 _ _ (cj _ _ e);refine ag λM2 K2=>{_,rfl,aR (λ_=>?_) (λ_=>K2 _ _ ?_)}
  ·refine dgk (S2 _ _ h1) rfl {a4,_,n,rfl,SqL.of (S2 _ _ h5),by simp,λx hx=>?_};obtain⟨b,mb,rfl⟩:=LN.mp hx;refine{by show 3<=sizeLine;decide,λt ht=>go (.snd b v) t H2 s2 ht rfl λdd lp=>{?_,ov}};simpa using mb
  clear K2 M2;try dsimp only
  refine ag λM2 K2=>{rfl,_,rfl,aR (λ_=>?_) (λ_=>K2 _ _ ?_)}
  ·refine dgk (S2 _ _ h1) rfl (lxn (j:=1) (SqL.of (S2 _ _ h4)) rfl {c,9,rfl,∅,∅,λm' m0' m1'=>{N,sc,ps,m',rfl,m0',m1',{a1,a2,a3,a4,S2 _ _ h1,S2 _ _ h2,S2 _ _ h3,S2 _ _ h4,S2 _ _ h5},λth H3 s3 oth=>{by show 4<=sizeLine;decide,λt ht=>go (.put 4 th v) t H3 (s2.trans s3) ht rfl λdd lp=>{by simp[S7],oth,ov}}}})
  try dsimp only
  refine{by show 3<=sizeLine;decide,λt ht=>go (.set a v) t H2 s2 ht rfl λdd lp=>⟨ma',ov⟩})
 refine{rfl,_,rfl,aR (λ_=>?_) (λ_=>bg (rest H1 (aj.refl _)))};refine dgk A1.hS rfl {LH _,λL hL=>?_};obtain⟨s2,e2⟩:=alc hL (HO.lst []);generalize upd H1 L _=H2 at s2 e2⊢;have A2:=A1.same s2;have ok:∀x∈g.ma.map N,Ow x=true:=λx hx=>by
  obtain⟨i,mi,rfl⟩:=LN.mp hx;rcases A2.mo i mi with rfl|rfl<;>exact A2.nm.str _ ∅
 refine UU (SqL.of A2.hm) (SqL.of e2) ((show nV N g.ma=sS (g.ma.map N) by simp[sS])▸rF ok) {_,rfl,?_};by_cases e0:g.ma=[]
 ·rw[e0];exact bg (rest H2 s2)
 obtain⟨ks,k0,ek⟩:∃ks k0,g.ma=ks++[k0]:={g.ma.dropLast,g.ma.getLast e0,(Na e0).symm};have en:(!(nV N g.ma).isEmpty)=true:=by
  cases hg:g.ma with
  |nil=>exact absurd hg e0
  |cons x r=>rfl
 rw[en];have hm:=A2.hm;rw[ek]at hm;have hm:H2 s.m=UE (.lst (nV N ks++[.str (N k0)])):=by rw[hm];simp
 have mks:∀x∈ks,x=5\/x=6:=λx hx=>A2.mo x (by rw[ek];exact LP _ hx);have mk0:k0=5\/k0=6:=A2.mo k0 (by rw[ek];simp);have A3:=A2.marks mks;refine bW (dgk A2.hS rfl {LL {rfl,_,SqL.of hm},Hr hm ?_});have s3:Sn s H2 (upd H2 s.m (.lst (nV N ks))):=Sn.at (by simp) _;refine{by show 4<=sizeLine;decide,λt ht=>fin (.say a v k0) t ks _ ((Sn.new (s1.trans s2)).trans s3) A3 ht (λH' e et=>?_) λdd lp=>⟨ma',ov,mk0⟩};have tm:t∉s.M:=A3.new ht;exact fr1 (p:=p) (aI tm et) rfl (aI p1 (e _ _ (s3 _ _ (λm=>p1 (Sa.qm m)) (s2 _ _ e1))))
inductive Tr where
 |leaf (r:Lr)|iff (v:Val) (l r:Int) (f o:List Tr)|loop (t:Th) (m l r:Int) (b:List Tr)
mutual
noncomputable def flT:Tr->List Fr
 | .leaf r=>[.leaf r]
 | .iff v l r f o=>.iff v l r::(au f++ .els::(au o++[.fin]))
 | .loop t m l r b=>.loop t m l r::(au b++[.fin])
noncomputable def au:List Tr->List Fr
 | []=>[]
 |t::ts=>flT t++au ts
end
mutual
noncomputable def okT(ps:List Nat)(dd:List (Nat×Nat))(lp:Bool):Tr->Prop
 | .leaf r=>Az ps dd lp r
 | .iff v _ _ f o=>vOk ps v/\cG ps dd lp f/\cG ps dd lp o
 | .loop t m _ _ b=>nB ps t/\1<=m/\m<=4/\cG ps dd true b
noncomputable def cG(ps:List Nat)(dd:List (Nat×Nat))(lp:Bool):List Tr->Prop
 | []=>True
 |t::ts=>okT ps dd lp t/\cG ps dd lp ts
end
mutual
noncomputable def dpT:Tr->Nat
 | .leaf _=>0
 | .iff _ _ _ f o=>max (bN f) (bN o)+1
 | .loop _ _ _ _ b=>bN b+1
noncomputable def bN:List Tr->Nat
 | []=>0
 |t::ts=>max (dpT t) (bN ts)
end
theorem dm:∀(a b:List Tr),au (a++b)=au a++au b
 | [],b=>by rw[L6,au,L6]
 |t::a,b=>by rw[L8,au,au,dm a b,Lz]
theorem nM(t:Tr):au [t]=flT t:=by rw[au,au,LQ]
theorem rQ{ps:List Nat}{dd:List (Nat×Nat)}{lp:Bool}:∀{a b:List Tr},cG ps dd lp a->cG ps dd lp b->cG ps dd lp (a++b)
 | [],b,_,h=>h
 |t::a,b,h,h'=>by
  rw[cG]at h;rw[L8,cG];exact⟨h.1,rQ h.2 h'⟩
theorem w4{ps:List Nat}{dd:List (Nat×Nat)}{lp:Bool}{t:Tr}(h:okT ps dd lp t):cG ps dd lp [t]:=by
 rw[cG,cG];exact⟨h,trivial⟩
theorem lN:∀(a b:List Tr),bN (a++b)=max (bN a) (bN b)
 | [],b=>by rw[L6,bN];lia
 |t::a,b=>by rw[L8,bN,bN,lN a b];lia
theorem wY(t:Tr):bN [t]=dpT t:=by rw[bN,bN];lia
inductive Op where
 |lp (t:Th) (m l r:Int)|i1 (v:Val) (l r:Int)|i2 (v:Val) (l r:Int) (f:List Tr)
noncomputable def Op.wd:Op->Str
 | .lp _ _ _ _=>"loop"| .i1 _ _ _=>"if"| .i2 _ _ _ _=>"other"
noncomputable def Op.fl:Op->List Fr
 | .lp t m l r=>[.loop t m l r]
 | .i1 v l r=>[.iff v l r]
 | .i2 v l r f=>.iff v l r::(au f++[.els])
noncomputable def Op.I0:Op->Bool
 | .lp _ _ _ _=>true
 |_=>false
noncomputable abbrev Zp:=List (List Tr×Op)
noncomputable def flZ:Zp->List Tr->List Fr
 | [],cur=>au cur
 | (pa,op)::z,cur=>flZ z pa++(op.fl++au cur)
noncomputable def gW(z:Zp):List Str:=(z.map λe=>e.2.wd).reverse
noncomputable def lpZ(z:Zp):Bool:=z.any λe=>e.2.I0
noncomputable def JB(ps:List Nat)(dd:List (Nat×Nat))(lp:Bool)(k:Nat):Op->Prop
 | .lp t m _ _=>nB ps t/\1<=m/\m<=4
 | .i1 v _ _=>vOk ps v
 | .i2 v _ _ f=>vOk ps v/\cG ps dd lp f/\bN f+k+1<=6
noncomputable def okZ(ps:List Nat)(dd:List (Nat×Nat)):Zp->Prop
 | []=>True
 | (pa,op)::z=>cG ps dd (lpZ z) pa/\bN pa+z.length<=6/\JB ps dd (lpZ z) z.length op/\okZ ps dd z
noncomputable def Op.mu:Op->Nat
 | .i1 _ _ _=>2
 |_=>1
noncomputable def muZ(z:Zp):Nat:=(z.map λe=>e.2.mu).sum
theorem Ap(z:Zp)(a b:List Tr):flZ z (a++b)=flZ z a++au b:=by
 cases z with
 |nil=>exact dm a b
 |cons e z=>
  obtain⟨pa,op⟩:=e;show flZ z pa++(op.fl++au (a++b))=flZ z pa++(op.fl++au a)++au b;rw[dm];simp only[Lz]
theorem Bt:∀z:Zp,muZ z<=2*z.length
 | []=>Ln _
 | (pa,op)::z=>by
  have:=Bt z;have h:op.mu<=2:=by cases op<;>simp[Op.mu]
  unfold muZ at this⊢;rw[LC,Nd,Lq];show op.mu+_<=_;lia
structure BAt(N:Nat->Str)(H:Hp)(s:Sa)(g:Sg)(ps:List Nat)(dd:List (Nat×Nat))(z:Zp)(cur:List Tr):Prop where
 a:SAt N H s g
 op:g.op=gW z
 tl:g.tm.length=z.length+1
 tb:∀x∈g.tm,1<=x/\x<=6
 de:g.dd.map (λe=>(e.1,e.2.1))=dd
 oz:okZ ps dd z
 oc:cG ps dd (lpZ z) cur
 zl:z.length<=6
 dc:bN cur+z.length<=6
theorem nG(e:List Tr×Op)(z:Zp):gW (e::z)=gW z++[e.2.wd]:=by
 unfold gW;rw[LC,List.reverse_cons]
theorem iz{xs:List V}{y:V}:atI (xs++[y]) (-1)=UE y:=by
 have e:ixN (xs++[y]).length (-1)=UE xs.length:=by
  unfold ixN;rw[if_neg ∅,if_pos (by rw[Ll,Lo];lia),Ll,Lo];congr 1;lia
 unfold atI;rw[e];simp
theorem Ef{xs:List V}{y:V}:ixN (xs++[y]).length (-1)=UE xs.length:=by
 unfold ixN;rw[if_neg ∅,if_pos (by rw[Ll,Lo];lia),Ll,Lo];congr 1;lia
theorem DG{xs:List V}{y v:V}:(xs++[y]).set xs.length v=xs++[v]:=by
 rw[Nu _ _ (Ln _),MD];rfl
theorem CJ(e:List Tr×Op)(z:Zp):lpZ (e::z)=(e.2.I0||lpZ z):=rfl
theorem uR(a:List Str)(x:Str):sS (a++[x])=sS a++[.str x]:=by simp[sS]
inductive ur(vs:List V)(H:Hp)(Q:VK)(Z:XK):Prop
 |mk(N:Nat->Str)(s:Sa)(g:Sg)(ps:List Nat)(dd:List (Nat×Nat))(z:Zp)(cur:List Tr)(z0:vs=[.ref s.S])(z1:BAt N H s g ps dd z cur)(z2:z≠[])
  (z3:∀(v:V)(f:Fr)(g':Sg)(z':Zp)(cur':List Tr)(H':Hp),Sn s H H'->BAt N H' s g' ps dd z' cur'->g'.dd=g.dd->flZ z' cur'=flZ z cur++[f]->muZ z'+1=muZ z->j4 N (del s.M H') v f->Q v H'):ur vs H Q Z
theorem xU(T:Txt K mg A):T.mQ.Hz P w base 1 ur:=by
 refine T.mQ.hs sO (λf cdv A' outer s' H vs Q E hr hu h=>?_);obtain⟨N,s,g,ps,dd,z,cur,rfl,B,hz,q⟩:=h;cases z with
 |nil=>exact absurd rfl hz
 |cons e z=>
 obtain⟨pa,op⟩:=e;have ho:=B.a.ho;rw[B.op,nG,uR]at ho;have oz:=B.oz;unfold okZ at oz;obtain⟨o1,o2,o3,o4⟩:=oz;have oc:=B.oc;have dc:=B.dc;have zl:=B.zl;rw[Lq]at dc zl;refine{_,(ab (aL (ptc (bV hu) (px hu (px hu (fv 0) ar) (mw iX af)) ar)
   (ab (bM ar (jA (px hu (fv 0) ar) (mw iX af) (gq hu UK)))
   (ai (aA (aP (ar^ae)))))
   aC)
  (ab (aK (Co (px hu (fv 0) ar)))
  (ab (aK (Co (px hu (fv 0) ar)))
  (ai (aA (aP (ar^ae))))))),?_}
 refine ag λM1 K1=>dgk B.a.hS rfl {_,rfl,lix (SqL.of ho) iz {rfl,_,rfl,?_}};have fin:∀(t:Tr),op.mu=1->flT t=op.fl++(au cur++[.fin])->okT ps dd (lpZ z) t->dpT t+z.length<=6->M1 [UE (.ref s.S)] H:=by
  intro t em ef ok dt;refine K1 _ _ ?_;clear K1 M1;obtain⟨ts,t0,et⟩:∃ts t0,g.tm=ts++[t0]:=by
   have:g.tm≠[]:=λz=>by
    have:=B.tl;rw[z]at this;cases this
   exact{g.tm.dropLast,g.tm.getLast this,(Na this).symm}
  have A1:=B.a.opened (gW z);have tl:=B.tl;rw[et,Ll,Lo,Lq]at tl;refine ag λM1 K1=>dgk B.a.hS rfl {LL {rfl,_,SqL.of ho},Hr ho (K1 _ _ ?_)};clear K1 M1;have ht:=A1.ht;have ht:upd H s.o (.lst (sS (gW z))) s.t=UE (.lst (ts.map V.int++[.int t0])):=by rw[ht];show UE (HO.lst (g.tm.map V.int))=_;rw[et];simp
  have A2:=A1.FV ts;have s1:Sn s H (upd H s.o (.lst (sS (gW z)))):=Sn.at (by simp) _;have s2:Sn s (upd H s.o (.lst (sS (gW z)))) (upd (upd H s.o (.lst (sS (gW z)))) s.t (.lst (ts.map V.int))):=Sn.at (by simp) _;try dsimp only
  refine ag λM1 K1=>dgk A1.hS rfl {LL {rfl,_,SqL.of ht},Hr ht (K1 _ _ ?_)};clear K1 M1;try dsimp only
  refine{by show 1<=sizeLine;decide,λr hr=>?_};have s3:=aj.upd hr (.tup [V.str "end"]);refine q _ .fin { g with op:=gW z,tm:=ts } z (pa++[t]) _ ((s1.trans s2).trans (Sn.new s3)) ⟨A2.same s3,rfl,by show ts.length=_;lia,λx hx=>B.tb x (by rw[et];exact LP _ hx),B.de,o4,rQ o1 (w4 ok),(),?_⟩ rfl ?_ ?_ (fr0 (aI (A2.new hr) ao) rfl)
  ·rw[lN,wY];lia
  ·rw[Ap,nM,ef];show _=flZ z pa++(op.fl++au cur)++[.fin];simp only[Lz]
  unfold muZ;rw[LC,Nd];show _=op.mu+_;rw[em];lia
 cases op with
 |lp t m l r=>
  refine aR (λz=>absurd z (show ¬ decide (V.str "loop"=V.str "if")=true by decide)) (λ_=>fin (.loop t m l r cur) rfl (by rw[flT];rfl) (by rw[okT];exact⟨o3.1,o3.2.1,o3.2.2,oc⟩) (by rw[dpT];lia))
 |i2 v l r f=>
  refine aR (λz=>absurd z (show ¬ decide (V.str "other"=V.str "if")=true by decide)) (λ_=>fin (.iff v l r f cur) rfl (by rw[flT];simp[Op.fl]) (by rw[okT];exact⟨o3.1,o3.2.1,oc⟩) ?_);rw[dpT];have:=o3.2.2;lia
 |i1 v l r=>
  clear fin K1;refine aR (λ_=>?_) (λz=>absurd (show decide (V.str "if"=V.str "if")=true from decide_eq_true rfl) z);have A1:=B.a.opened (gW z++[("other":Str)]);have s1:Sn s H (upd H s.o (.lst (sS (gW z++[("other":Str)])))):=Sn.at (by simp) _;refine ag λM2 K2=>dgk B.a.hS rfl {_,rfl,LL {_,_,ho,Ef,?_}};rw[DG,<-uR];refine K2 _ _ ?_;clear K2;try dsimp only
  refine{by show 1<=sizeLine;decide,λr' hr=>?_};have s3:=aj.upd hr (.tup [V.str "else"]);refine q _ .els { g with op:=gW z++[("other":Str)] } ((pa,.i2 v l r cur)::z) [] _ (s1.trans (Sn.new s3)) ⟨A1.same s3,by rw[nG];rfl,B.tl,B.tb,B.de,{o1,o2,{o3,oc,()},o4},by rw[cG];trivial,by rw[Lq];lia,by rw[bN,Lq];lia⟩ rfl ?_ ?_ (fr0 (aI (A1.new hr) ao) rfl)
  ·show flZ z pa++(Op.fl (.i2 v l r cur)++au [])=flZ z pa++(Op.fl (.i1 v l r)++au cur)++[.els];rw[au];simp[Op.fl]
  unfold muZ;rw[LC,Nd,LC,Nd];show 1+_+1=2+_;lia
end
section
variable{P:Program}{w:Of}{K:Oc}{mg:Str->Option E9}{base:OC}{A:Adr}{N:Nat->Str}
seal PE PA PS PSs PT PW
theorem BAt.times{H:Hp}{s:Sa}{g:Sg}{ps:List Nat}{dd:List (Nat×Nat)}{z:Zp}{cur:List Tr}(B:BAt N H s g ps dd z cur):∃ts t0,g.tm=ts++[t0]/\1<=t0/\t0<=6:=by
 have:g.tm≠[]:=λz=>by
  have:=B.tl;rw[z]at this;cases this
 have e:=(Na this).symm;have m:=B.tb (g.tm.getLast this) (List.getLast_mem _);exact{_,_,e,m.1,m.2}
theorem yK{ts:List Int}{t0:Int}:(ts++[t0]).map V.int=ts.map V.int++[.int t0]:=by simp
theorem BAt.oU{H:Hp}{s:Sa}{g:Sg}{ps:List Nat}{dd:List (Nat×Nat)}{z:Zp}{cur:List Tr}(B:BAt N H s g ps dd z cur)(r:Int):BAt N (upd H s.S (.dK (stK s r))) s { g with room:=r } ps dd z cur:=⟨B.a.oU r,B.op,B.tl,B.tb,B.de,B.oz,B.oc,B.zl,B.dc⟩
theorem BAt.same{H H':Hp}{s:Sa}{g:Sg}{ps:List Nat}{dd:List (Nat×Nat)}{z:Zp}{cur:List Tr}(B:BAt N H s g ps dd z cur)(e:aj H H'):BAt N H' s g ps dd z cur:=⟨B.a.same e,B.op,B.tl,B.tb,B.de,B.oz,B.oc,B.zl,B.dc⟩
theorem nF(s:Sa)(r r':Int):UN (stK s r) (.inr "room") (.int r')=stK s r':=rfl
inductive uF(vs:List V)(H:Hp)(Q:VK)(Z:XK):Prop
 |mk(N:Nat->Str)(s:Sa)(g:Sg)(ps:List Nat)(dd:List (Nat×Nat))(z:Zp)(cur:List Tr)(c:Int)(sc:N6)(b:Bool)(z0:vs=[.ref s.S,.int c,.ref sc,.bl b])(z1:BAt N H s g ps dd z cur)(z2:z.length<6)(z4:p8 N (del s.M H) sc ps)
  (z3:∀(v:V)(f:Fr)(g':Sg)(z':Zp)(cur':List Tr)(H':Hp),Sn s H H'->BAt N H' s g' ps dd z' cur'->g'.dd=g.dd->flZ z' cur'=flZ z cur++[f]->j4 N (del s.M H') v f->Q v H'):uF vs H Q Z
theorem CH(T:Txt K mg A):T.mZ.Hz P w base 4 uF:=by
 refine T.mZ.hs (k:=3) cS (λf cdv A' outer s' H vs Q E hr hu h=>?_);obtain⟨N,s,g,ps,dd,z,cur,c,sc,b,rfl,B,zl,hS,q⟩:=h;obtain⟨ts,t0,et,t1,t6⟩:=B.times;have htm:H s.t=UE (.lst (ts.map V.int++[.int t0])):=by rw[B.a.ht,et,yK]
 refine{_,(ab (pst 4 cS.nd (ak (hj:=by lia) (nQ T) hr (fv 1^af^ae)))
  (ab (pst 5 cS.nd (aw dj (aw bK (fv 4) af) (aw bK (aw dX (fv 4) af) af)))
  (ab (pst 6 cS.nd (aw dj (aw bK (aw dX (fv 4) af) af) (aw bK (aw dX (fv 4) af) af)))
  (ab (pst 7 cS.nd (aw aD af (aw bK (aw dX (fv 4) af) af)))
  (ab (aL (ptc ye (aw dj (px hu (px hu (fv 0) ar) (mw iX af)) (fv 7)) af)
   (ai (pst 7 cS.nd af))
   aC)
  (ab (bM (aw nO (px hu (fv 0) ar) (aw dj (aw dj (px hu (px hu (fv 0) ar) (mw iX af)) (fv 7)) (aw aD (fv 5) (fv 6)))) (jA (fv 0) ar (gq hu UK)))
  (ab (aL (bS (fv 3) (λ_=>rfl))
   (ab (aK (bu (px hu (fv 0) ar) (ar^ae)))
   (ab (aK (bu (px hu (fv 0) ar) (aw dj (px hu (px hu (fv 0) ar) (mw iX af)) (fv 7)^ae)))
   (ai (aA (aP (ar^(ak (hj:=by lia) (kF T) hr ((ak (hj:=by lia) (nQ T) hr (fv 1^af^ae))^fv 2^ae))^fv 7^fv 5^fv 6^ae))))))
   aC)
  (ab (aK (bu (px hu (fv 0) ar) (ar^ae)))
  (ab (aK (bu (px hu (fv 0) ar) (px hu (px hu (fv 0) ar) (mw iX af)^ae)))
  (ai (aA (aP (ar^(ak (hj:=by lia) (Bu T) hr (fv 1^fv 2^ae))^fv 5^fv 6^ae))))))))))))),?_}
 refine ag λM1 K1=>{c,7,rfl,∅,∅,λn n0 n1=>?_};have sm:∀{x:Int},0<=x->x<100->-(2^64)<x/\x<2^64:=λa b=>()
 obtain⟨a0,a1⟩:=bP n (show(0:Int)<3 by decide);obtain⟨b0,b1⟩:=bP (n/12) (show(0:Int)<3 by decide);refine K1 _ _ ?_;clear K1 M1;try dsimp only
 refine ag λM1 K1=>{by show(0:Int)<3;decide,{∅,∅},by show(0:Int)<4;decide,.inl (sm a0 ()),K1 _ _ ?_};clear K1 M1;try dsimp only
 refine ag λM1 K1=>{{∅,∅},by show(0:Int)<3;decide,{∅,∅},by show(0:Int)<4;decide,.inl (sm b0 ()),?_};obtain⟨m0,m1⟩:=bP (n/144) (show(0:Int)<4 by decide);refine K1 _ _ ?_;clear K1 M1;try dsimp only
 refine ag λM1 K1=>{{∅,∅},by show(0:Int)<4;decide,K1 _ _ ?_};clear K1 M1;try dsimp only
 refine ag λM1 K1=>?_;have fin:∀(mm l r:Int),1<=mm->mm<=4->t0*mm<=6->M1 [UE (.ref s.S),UE (.int c),UE (.ref sc),UE (.bl b),UE (.int n),UE (.int l),UE (.int r),UE (.int mm)] H:=by
  intro mm l r h1 h4 h6;have tp:1<=t0*mm:=Int.mul_pos () ();refine K1 _ _ ?_;clear K1 M1;try dsimp only
  refine ag λM1 K1=>dgk B.a.hS rfl (dgk B.a.hS rfl {_,rfl,lix (SqL.of htm) iz {.inl (sm () ()),.inl (sm () ()),{_,pT.k (k:=.inr "room") B.a.hS (show 5<sizeLine by decide),K1 _ _ ?_}}});clear K1 M1;rw[nF];have A1:=B.a.oU (g.room-t0*mm*(l+r));have s1:Sn s H (upd H s.S (.dK (stK s (g.room-t0*mm*(l+r))))):=Sn.at (by simp) _;have nn:=B.a.ne;have ht1:upd H s.S (.dK (stK s (g.room-t0*mm*(l+r)))) s.t=UE (.lst (ts.map V.int++[.int t0])):=az (LU nn.1.2.1) htm;have ho1:=A1.ho;generalize upd H s.S _=H1 at A1 s1 ht1 ho1⊢;have lo:g.op.length=z.length:=by rw[B.op];simp[gW]
  have ltm:g.tm.length=z.length+1:=B.tl;have tll:ts.length=z.length:=by rw[et,Ll,Lo]at ltm;lia
  have push:∀(op:Op)(tn:Int),1<=tn->tn<=6->JB ps dd (lpZ z) z.length op->BAt N (upd (upd H1 s.o (.lst (sS (g.op++[op.wd])))) s.t (.lst ((g.tm++[tn]).map V.int))) s { g with room:=g.room-t0*mm*(l+r),op:=g.op++[op.wd],tm:=g.tm++[tn] } ps dd ((cur,op)::z) []:=λop tn h1 h6 ok=>by
   refine{(A1.opened (g.op++[op.wd])).FV (g.tm++[tn]),by show g.op++[op.wd]=_;rw[nG,B.op],by show(g.tm++[tn]).length=_;rw[Ll,Lo,Lq];lia,λx hx=>?_,B.de,⟨B.oc,B.dc,ok,B.oz⟩,by rw[cG];trivial,by rw[Lq];lia,by rw[bN,Lq];lia};rcases Ls.mp hx with m|m
   ·exact B.tb x m
   rw[Lp.mp m];exact⟨h1,h6⟩
  have fl:∀(op:Op)(f:Fr),op.fl=[f]->flZ ((cur,op)::z) []=flZ z cur++[f]:=λop f e=>by
   show flZ z cur++(op.fl++au [])=_;rw[e,au,LQ]
  have S1:=hS.same (Sn.del s1);cases b with
  |true=>
   refine ag λM1 K1=>{_,rfl,bW ?_};have A2:=A1.opened (g.op++[("loop":Str)]);have s2:Sn s H1 (upd H1 s.o (.lst (sS (g.op++[("loop":Str)])))):=Sn.at (by simp) _;have ht2:upd H1 s.o (.lst (sS (g.op++[("loop":Str)]))) s.t=UE (.lst (ts.map V.int++[.int t0])):=az (LU nn.1.2.2.2.2.1) ht1;refine ag λM2 K2=>dgk A1.hS rfl {LL {rfl,_,SqL.of ho1},_,_,_,rfl,rfl,ho1,aQ (by rw[Lm];show g.op.length<=1000;lia),?_};rw[<-uR];refine K2 _ _ ?_;clear K2 M2;try dsimp only
   refine ag λM2 K2=>dgk A2.hS rfl {LL {rfl,_,SqL.of ht2},dgk A2.hS rfl {_,rfl,lix (SqL.of ht2) iz {.inl (sm () ()),{_,_,_,rfl,rfl,ht2,aQ (by rw[Ll,Lm,Lo];lia),K2 _ _ ?_}}}};clear K2 M2;rw[show ts.map V.int++[.int t0]++[.int (t0*mm)]=(g.tm++[t0*mm]).map V.int by rw[et];simp];have s3:Sn s (upd H1 s.o (.lst (sS (g.op++[("loop":Str)])))) (upd (upd H1 s.o (.lst (sS (g.op++[("loop":Str)])))) s.t (.lst ((g.tm++[t0*mm]).map V.int))):=Sn.at (by simp) _;have t3:=(s1.trans s2).trans s3;have S3:=hS.same (Sn.del t3);try dsimp only
   refine{c,8,rfl,∅,∅,λm' m0' m1'=>{N,sc,ps,m',rfl,m0',m1',S3.same cj,λth H4 s4 oth=>?_}};have B4:=(push (.lp th mm l r) (t0*mm) tp h6 ⟨oth,h1,h4⟩).same s4;refine{by show 5<=sizeLine;decide,λrr hrr=>?_};have s5:=aj.upd hrr (.tup [V.str "loop",th.v N,.int mm,.int l,.int r]);exact q _ (.loop th mm l r) _ _ _ _ (t3.trans (Sn.new (s4.trans s5))) (B4.same s5) rfl (fl _ _ rfl) (fr0 (aI (B4.a.new hrr) ao) rfl)
  |false=>
   refine ag λM1 K1=>{_,rfl,bg (K1 _ _ ?_)};clear K1 M1;try dsimp only
   have A2:=A1.opened (g.op++[("if":Str)]);have s2:Sn s H1 (upd H1 s.o (.lst (sS (g.op++[("if":Str)])))):=Sn.at (by simp) _;have ht2:upd H1 s.o (.lst (sS (g.op++[("if":Str)]))) s.t=UE (.lst (ts.map V.int++[.int t0])):=az (LU nn.1.2.2.2.2.1) ht1;refine ag λM2 K2=>dgk A1.hS rfl {LL {rfl,_,SqL.of ho1},_,_,_,rfl,rfl,ho1,aQ (by rw[Lm];show g.op.length<=1000;lia),?_};rw[<-uR];refine K2 _ _ ?_;clear K2 M2;try dsimp only
   refine ag λM2 K2=>dgk A2.hS rfl {LL {rfl,_,SqL.of ht2},dgk A2.hS rfl {_,rfl,lix (SqL.of ht2) iz {_,_,_,rfl,rfl,ht2,aQ (by rw[Ll,Lm,Lo];lia),K2 _ _ ?_}}};clear K2 M2;rw[show ts.map V.int++[.int t0]++[.int t0]=(g.tm++[t0]).map V.int by rw[et];simp];have s3:Sn s (upd H1 s.o (.lst (sS (g.op++[("if":Str)])))) (upd (upd H1 s.o (.lst (sS (g.op++[("if":Str)])))) s.t (.lst ((g.tm++[t0]).map V.int))):=Sn.at (by simp) _;have t3:=(s1.trans s2).trans s3;have S3:=hS.same (Sn.del t3);try dsimp only
   refine{N,sc,ps,c,rfl,S3.same cj,λp v H4 s4 f4 e4 ov=>?_};have B3:=push (.i1 v l r) t0 t1 t6 ov;have p4:p∉s.M:=B3.a.new f4;have B4:=B3.same s4;refine{by show 4<=sizeLine;decide,λrr hrr=>?_};have s5:=aj.upd hrr (.tup [V.str "if",.ref p,.int l,.int r]);exact q _ (.iff v l r) _ _ _ _ (t3.trans (Sn.new (s4.trans s5))) (B4.same s5) rfl (fl _ _ rfl) (fr1 (p:=p) (aI (B4.a.new hrr) ao) rfl (aI p4 (s5 _ _ e4)))
 refine dgk B.a.hS rfl {_,rfl,lix (SqL.of htm) iz {.inl (sm () ()),_,rfl,aR (λ_=>fin 1 _ _ ∅ ∅ ()) (λz=>fin _ _ _ () () ?_)}};have:=of_decide_eq_false (M6.mpr z);lia
theorem Fp{H:Hp}{p q:N6}{xs:List V}{ds:List QP}(hp:SqL K H p xs)(hq:SqL K H q [])(h1:eg K H xs ds)(sh:OR (.list ds)=true){Q:VK}(k:Q (.bl (!xs.isEmpty)) H):fNe K (.ref p) (.ref q) H Q:=by
 refine{.list ds,.list [],.lst hp h1,.lst hq .nil,sh,rfl,?_};cases h1 with
 |nil=>exact k
 |cons _ _=>exact k
noncomputable def ddD(N:Nat->Str)(e:Nat×Nat×Int):QP:=.tuple [.str (N e.1),.int e.2.1,.int e.2.2]
theorem DQ(nm:lJ N){X H:Hp}(s:aj X H):∀{dd:List (Nat×Nat×Int)}{ds:List V},wm N X dd ds->(∀e∈dd,e.1<24)->eg K H ds (dd.map (ddD N))/\OJ (dd.map (ddD N))=true/\OP (dd.map (ddD N))<=1
 |_,_,.nil,_=>{.nil,rfl,LH _}
 |e::dd,_,.cons h r,ok=>by
  obtain⟨a,rfl,ha⟩:=h;obtain⟨h1,h2,h3⟩:=DQ nm s r λe he=>ok e (Lx _ he);have so:=nm.str e.1 (ok e LB);refine{.cons (.tup (SqT.of (s _ _ ha)) (.cons (.str _) (.cons (.int _) (.cons (.int _) .nil)))) h1,?_,?_}
  ·rw[LC];simp[ddD,OJ,OU,h2,so]
  rw[LC];simp[ddD,OP,Pl];lia
theorem Gs(z:Zp):decide (("loop":Str)∈gW z)=lpZ z:=by
 induction z with
 |nil=>rfl
 |cons e z ih=>
  rw[nG,CJ,<-ih];obtain⟨pa,op⟩:=e;cases op with
  |lp _ _ _ _=>
   show decide (_∈gW z++[("loop":Str)])=(true||_);rw[decide_eq_true (by simp)];rfl
  |i1 _ _ _=>
   show decide (_∈gW z++[("if":Str)])=(false||_);rw[NJ];refine decide_eq_decide.mpr ⟨λh=>?_,λh=>LP _ h⟩;rcases Ls.mp h with h|h
   ·exact h
   exact absurd (Lp.mp h) ∅
  |i2 _ _ _ _=>
   show decide (_∈gW z++[("other":Str)])=(false||_);rw[NJ];refine decide_eq_decide.mpr ⟨λh=>?_,λh=>LP _ h⟩;rcases Ls.mp h with h|h
   ·exact h
   exact absurd (Lp.mp h) ∅
theorem BG(op:Op):Ow op.wd=true:=by
 cases op with
 |lp _ _ _ _=>exact(by decide+kernel:Ow ("loop":Str)=true)
 |i1 _ _ _=>exact(by decide+kernel:Ow ("if":Str)=true)
 |i2 _ _ _ _=>exact(by decide+kernel:Ow ("other":Str)=true)
inductive Ai(vs:List V)(H:Hp)(Q:VK)(Z:XK):Prop
 |mk(N:Nat->Str)(s:Sa)(g:Sg)(ps:List Nat)(dd:List (Nat×Nat))(z:Zp)(cur:List Tr)(c:Int)(sc:N6)(z0:vs=[.ref s.S,.int c,.ref sc])(z1:BAt N H s g ps dd z cur)(z4:p8 N (del s.M H) sc ps)(z5:∀e∈g.dd,e.1<24/\e.2.1<=4)
  (z3:∀(v:V)(f:Fr)(g':Sg)(z':Zp)(cur':List Tr)(H':Hp),Sn s H H'->BAt N H' s g' ps dd z' cur'->g'.dd=g.dd->flZ z' cur'=flZ z cur++[f]->j4 N (del s.M H') v f->Q v H'):Ai vs H Q Z
theorem BAt.leaf{H:Hp}{s:Sa}{g:Sg}{ps:List Nat}{dd:List (Nat×Nat)}{z:Zp}{cur:List Tr}(B:BAt N H s g ps dd z cur){r:Lr}(ok:Az ps dd (lpZ z) r):BAt N H s g ps dd z (cur++[.leaf r])/\flZ z (cur++[.leaf r])=flZ z cur++[.leaf r]:=by
 refine{{B.a,B.op,B.tl,B.tb,B.de,B.oz,rQ B.oc (w4 (by rw[okT];exact ok)),B.zl,?_},?_}
 ·rw[lN,wY,dpT];have:=B.dc;lia
 rw[Ap,nM,flT]
theorem Im{ps:List Nat}{ys:List V}(h:∀(i:Nat) y,ys[i]?=UE y->∃t:Th,y=t.v N/\nB ps t):∃ts:List Th,ys=ts.map (Th.v N)/\∀t∈ts,nB ps t:=by
 induction ys with
 |nil=>exact{[],rfl,λt ht=>by cases ht}
 |cons y r ih=>
  obtain⟨t,rfl,ht⟩:=h 0 y rfl;obtain⟨ts,rfl,hts⟩:=ih λi z hz=>h (i+1) z hz;refine{t::ts,rfl,λu hu=>?_};rcases Lu.mp hu with rfl|hu
  ·exact ht
  exact hts u hu
theorem HY(T:Txt K mg A):T.wq.Hz P w base 5 Ai:=by
 refine T.wq.hs (k:=4) hJ (λf cdv A' outer s' H vs Q E hr hu h=>?_);obtain⟨N,s,g,ps,dd,z,cur,c,sc,rfl,B,hS,hdd,q⟩:=h;refine{_,(ab (pst 3 hJ.nd (aw bK (fv 1) af))
  (ab (aL (PW.pt (pw_and (ptc ye (fv 3) af) (pw_and1 (ptc (oW hu) (px hu (fv 0) ar) (aN ae)))))
   (ai (aA (ak (hj:=by lia) (xU T) hr (fv 0^ae))))
   aC)
  (ab (bM (aw nO (px hu (fv 0) ar) (px hu (px hu (fv 0) ar) (mw iX af))) (jA (fv 0) ar (gq hu UK)))
  (ab (aL (PW.pt (pw_and (ptc ye (fv 3) af) (pw_and (ptc yP (fv 3) af) (pw_and (ptc yP (pcB eX T.f9 (px hu (fv 0) ar^ae)) af) (pw_and1 (ptc ye (px hu (fv 0) ar) af))))))
   (ai (aA (ak (hj:=by lia) (CH T) hr (fv 0^fv 1^fv 2^pec yP (fv 3) af^ae))))
   aC)
  (ab (aL (PW.pt (pw_and (ptc (bV hu) (fv 3) af) (pw_and1 (ptc (oW hu) (px hu (fv 0) ar) (aN ae)))))
   (ab (bM (ak (hj:=by lia) (oR T) hr (px hu (fv 0) ar^(ak (hj:=by lia) (nQ T) hr (fv 1^af^ae))^ae)) (cL rfl (aH (pgn (i:=4) hJ.nd rfl) (aH (pgn (i:=5) hJ.nd rfl) (aH (pgn (i:=6) hJ.nd rfl) bU)))))
   (ai (aL (ptc ye (px hu (fv 0) ar) (aw dj (px hu (px hu (fv 0) ar) (mw iX af)) (fv 6)))
    (ab (bM (aw nO (px hu (fv 0) ar) (aw dj (px hu (px hu (fv 0) ar) (mw iX af)) (fv 6))) (jA (fv 0) ar (gq hu UK)))
    (ai (aA (aP (ar^fv 4^(lT (N:=["_law_k","_law_scope_here","_law_cell"]) (own:=1) (fr:=[2,1]) (dv.of (by kernel_rfl!)) rfl (cU rfl T.df (fv 5^ae)) (λb=>pgn (i:=0) (show Qp (["_law_k","_law_scope_here","_law_cell"]:List QY) by decide+kernel) rfl) (λb=>qQ) (λb=>ak (hj:=by lia) (kF T) hr ((ak (hj:=by lia) (nQ T) hr (fv 2^aw aD af (fv 0)^ae))^fv 1^ae)))^ae)))))
    aC)))
   aC)
  (ab (aL (PW.pt (pw_and (ptc (bV hu) (fv 3) af) (pw_and1 (ptc (C5 hu) ar (px hu (fv 0) ar) ((by with_unfolding_all rfl))))))
   (ai (aA (aP (ar^ae))))
   aC)
  (ai (aA (ak (hj:=by lia) (Cb T) hr (fv 0^fv 1^fv 2^ae)))))))))),?_}
 refine ag λM1 K1=>{by show(0:Int)<11;decide,K1 _ _ ?_};clear K1 M1;try dsimp only
 refine ag λM1 K1=>?_;have go:∀H1,aj H H1->M1 [UE (.ref s.S),UE (.int c),UE (.ref sc),UE (.int (c%11)),UG,UG,UG] H1:=by
  intro H1 s1;refine K1 _ _ ?_;clear K1 M1;have B1:=B.same s1;obtain⟨ts,t0,et,t1,t6⟩:=B.times;have htm:H1 s.t=UE (.lst (ts.map V.int++[.int t0])):=by rw[B1.a.ht,et,yK]
  try dsimp only
  refine ag λM1 K1=>dgk B1.a.hS rfl (dgk B1.a.hS rfl {_,rfl,lix (SqL.of htm) iz {_,pT.k (k:=.inr "room") B1.a.hS (show 5<sizeLine by decide),K1 _ _ ?_}});clear K1 M1;rw[nF];have B2:=B1.oU (g.room-t0);have s2:Sn s H1 (upd H1 s.S (.dK (stK s (g.room-t0)))):=Sn.at (by simp) _;have htm2:upd H1 s.S (.dK (stK s (g.room-t0))) s.t=UE (.lst (ts.map V.int++[.int t0])):=by rw[B2.a.ht];show UE (HO.lst (g.tm.map V.int))=_;rw[et,yK]
  have t2:Sn s H (upd H1 s.S (.dK (stK s (g.room-t0)))):=(Sn.new s1).trans s2;generalize upd H1 s.S _=H2 at B2 s2 htm2 t2⊢;generalize g.room-t0=rm at B2;have S2:=hS.same (Sn.del t2);have ho2:=B2.a.ho;have lo:g.op.length=z.length:=by rw[B.op];simp[gW]
  try dsimp only
  refine ag λM1 K1=>?_;have go2:M1 [UE (.ref s.S),UE (.int c),UE (.ref sc),UE (.int (c%11)),UG,UG,UG] H2:=by
   refine K1 _ _ ?_;clear K1 M1;try dsimp only
   refine ag λM1 K1=>?_;have go3:∀(v4 v5 v6:Option V)(H3:Hp),aj H2 H3->M1 [UE (.ref s.S),UE (.int c),UE (.ref sc),UE (.int (c%11)),v4,v5,v6] H3:=by
    intro v4 v5 v6 H3 s3;refine K1 _ _ ?_;clear K1 M1;have B3:=B2.same s3;have S3:=S2.same (Sn.del (Sn.new s3));have t3:=t2.trans (Sn.new s3);try dsimp only
    refine ag λM1 K1=>?_;have pl:∀H4,aj H3 H4->M1 [UE (.ref s.S),UE (.int c),UE (.ref sc),UE (.int (c%11)),v4,v5,v6] H4:=λH4 s4=>K1 _ _ {N,s,_,c,sc,ps,rfl,(B3.same s4).a,S3.same (Sn.del (Sn.new s4)),λv r mk H' s' a' fr ok=>by
     have B':BAt N H' s { g with room:=rm,ma:=mk } ps dd z cur:=⟨a',B3.op,B3.tl,B3.tb,B3.de,B3.oz,B3.oc,B3.zl,B3.dc⟩;obtain⟨b1,b2⟩:=B'.leaf (ok dd (lpZ z));exact q v (.leaf r) _ z _ H' (t3.trans ((Sn.new s4).trans s')) b1 rfl b2 fr}
    refine{rfl,_,rfl,aR (λ_=>?_) (λ_=>bg (pl H3 (aj.refl _)))};refine dgk B3.a.hS rfl (LL {_,LL (SqL.of B3.a.ho),rfl,o6 _,_,rfl,?_});have el:inV (V.str "loop") (sS g.op)=lpZ z:=by rw[nU,B.op,Gs]
    refine aR (λz9=>?_) (λ_=>pl H3 (aj.refl _));have z9:inV (V.str "loop") (sS g.op)=true:=z9;rw[el]at z9;refine{by show 1<=sizeLine;decide,λr hr=>?_};have s4:=aj.upd hr (.tup [V.str "last"]);obtain⟨b1,b2⟩:=(B3.same s4).leaf (r:=.last) z9;exact q _ (.leaf .last) _ z _ _ (t3.trans (Sn.new s4)) b1 rfl b2 (fr0 (aI (B3.a.new hr) ao) rfl)
   refine{rfl,_,rfl,aR (λ_=>?_) (λ_=>bg (go3 UG UG UG H2 (aj.refl _)))};refine dgk B2.a.hS rfl {LH _,λL hL=>?_};obtain⟨s3,e3⟩:=alc hL (HO.lst []);generalize upd H2 L _=H3 at s3 e3⊢;have B3:=B2.same s3;obtain⟨ds,hd3,dd3⟩:=B3.a.hd;have dl:=Oe dd3;have RR:eg K H3 ds (g.dd.map (ddD N))/\OJ (g.dd.map (ddD N))=true/\OP (g.dd.map (ddD N))<=1:=DQ (K:=K) B3.a.nm (cj (X:=s.M) (H:=H3)) dd3 λe he=>(hdd e he).1;obtain⟨r1,r2,r3⟩:=RR;refine Fp (SqL.of hd3) (SqL.of e3) r1 (by simp[OR,OU,Pl,r2];lia) {_,rfl,?_};by_cases e0:ds=[]
   ·rw[e0];exact bg (go3 UG UG UG H3 s3)
   have en:(!ds.isEmpty)=true:=by
    cases hg:ds with
    |nil=>exact absurd hg e0
    |cons x r=>rfl
   rw[en];refine bW (ag λM2 K2=>dgk B3.a.hS rfl {c,1,rfl,∅,∅,λm m0 m1=>{s.d,_,m,rfl,SqL.of hd3,List.length_pos_iff.mpr e0,λx hx=>?_}});obtain⟨j,hj⟩:=LX hx;obtain⟨e,he,a,rfl,ha⟩:=dQ dd3 hj;have me:e∈g.dd:=LW he;obtain⟨e24,e4⟩:=hdd e me;refine{a,_,rfl,SqT.of (cj _ _ ha),rfl,_,_,rfl,_,_,rfl,_,_,rfl,rfl,K2 _ _ ?_};clear K2 M2;have htm3:=s3 _ _ htm2;have sm:∀{x:Int},0<=x->x<100->-(2^64)<x/\x<2^64:=λa b=>()
   try dsimp only
   refine dgk B3.a.hS rfl (dgk B3.a.hS rfl {_,rfl,lix (SqL.of htm3) iz {.inl (sm () ()),_,rfl,aR (λ_=>?_) (λ_=>go3 _ _ _ H3 s3)}});refine ag λM2 K2=>dgk B3.a.hS rfl (dgk B3.a.hS rfl {_,rfl,lix (SqL.of htm3) iz {.inl (sm () ()),{_,pT.k (k:=.inr "room") B3.a.hS (show 5<sizeLine by decide),K2 _ _ ?_}}});clear K2 M2;rw[nF];have B4:=B3.oU (rm-t0*e.2.2);have s4:Sn s H3 (upd H3 s.S (.dK (stK s (rm-t0*e.2.2)))):=Sn.at (by simp) _;have t4:Sn s H (upd H3 s.S (.dK (stK s (rm-t0*e.2.2)))):=(t2.trans (Sn.new s3)).trans s4;generalize upd H3 s.S _=H4 at B4 s4 t4⊢;have S4:=hS.same (Sn.del t4);try dsimp only
   refine{_,rfl,(),(),?_};rw[NN];refine qN (n:=e.2.1) (x:=λi=>.int (0+(i:Int))) (λj y H=>∃t:Th,y=t.v N/\nB ps t) (aQ ()) (λ_ _=>Ln _) (λ_ _ h _=>h) (λ_ _ _ _ _ _ y=>y) (λb j H5 G hj s5 kk=>{c,_,rfl,(),(),λm' m0' m1'=>{N,sc,ps,m',rfl,m0',m1',(S4.same cj).same s5,λth H6 s6 oth=>kk _ H6 s6 ⟨th,rfl,oth⟩}}) (λj y H1 H2 s1 h=>h) (λj y H1 D ys zs hD h=>h) (λD H5 ys hD s5 e5 ly hy=>?_);obtain⟨tls,rfl,ot⟩:=Im hy;have B5:=B4.same s5;have D5:D∉s.M:=B4.a.new hD;refine{by show 3<=sizeLine;decide,λr hr=>?_};have s6:=aj.upd hr (.tup [V.str "call",.str (N e.1),.ref D]);have mem:(e.1,tls.length)∈dd:=by
    rw[<-B.de];refine LN.mpr {e,me,?_};rw[show tls.length=e.2.1 by rw[<-ly,Lm]]
   obtain⟨b1,b2⟩:=(B5.same s6).leaf (r:=.call e.1 tls) ⟨mem,ot⟩;exact q _ (.leaf (.call e.1 tls)) _ z _ _ (t4.trans (Sn.new (s5.trans s6))) b1 rfl b2 (fr1 (p:=D) (aI (B5.a.new hr) ao) rfl (aI D5 (s6 _ _ e5)))
  refine{_,rfl,aR (λ_=>?_) (λ_=>bg go2)};refine{_,rfl,aR (λ_=>?_) (λ_=>bg go2)};refine dgk B2.a.hS rfl (lnl ho2 {_,rfl,aR (λz6=>?_) (λ_=>bg go2)});refine dgk B2.a.hS rfl {_,rfl,aR (λ_=>?_) (λ_=>go2)};have z6:(((sS g.op).length:Nat):Int)<6:=of_decide_eq_true z6;rw[Lm]at z6;exact{N,s,_,ps,dd,z,cur,c,sc,_,rfl,B2,(),S2,λv f g' z' cur' H' s' B' ed fl fr=>q v f g' z' cur' H' (t2.trans s') B' ed fl fr}
 refine{_,rfl,aR (λ_=>?_) (λ_=>bg (go H (aj.refl _)))};refine dgk B.a.hS rfl {LH _,λL hL=>?_};obtain⟨s1,e1⟩:=alc hL (HO.lst []);generalize upd H L _=H1 at s1 e1⊢;have B1:=B.same s1;have okw:∀x∈g.op,Ow x=true:=λx hx=>by
  rw[B.op]at hx;unfold gW at hx;rw[TB]at hx;obtain⟨⟨pa,op⟩,_,rfl⟩:=LN.mp hx;exact BG op
 refine UU (SqL.of B1.a.ho) (SqL.of e1) (rF okw) {_,rfl,?_};by_cases e0:z=[]
 ·have e2:g.op=[]:=by rw[B.op,e0];rfl
  rw[e2];exact bg (go H1 s1)
 have en:(!(sS g.op).isEmpty)=true:=by
  have l1:g.op.length=z.length:=by rw[B.op];simp[gW]
  cases hg:g.op with
  |nil=>
   rw[hg]at l1;exact absurd (List.length_eq_zero_iff.mp l1.symm) e0
  |cons x r=>rfl
 rw[en];exact bW {N,s,g,ps,dd,z,cur,rfl,B1,e0,λv f g' z' cur' H' s' B' ed fl mu fr=>q v f g' z' cur' H' ((Sn.new s1).trans s') B' ed fl fr}
theorem SAt.grown{H:Hp}{s:Sa}{g:Sg}(h:SAt N H s g)(ys:List V):SAt N (upd H s.F (.lst ys)) s g:=by
 obtain⟨⟨a,b,c,d,e',f,i,j,k,l⟩,x1,x2,x3,x4,x5⟩:=h.ne;obtain⟨ds,hd,dd⟩:=h.hd;exact{az (LU x1) h.hS,az (LU x2) h.ho,az (LU x3) h.ht,az (LU x4) h.hm,{ds,az (LU x5) hd,dd.same (Sm.del (Sm.at (by simp) _))},h.nd,⟨ys,ao⟩,h.mo,h.nm}
theorem BAt.grown{H:Hp}{s:Sa}{g:Sg}{ps:List Nat}{dd:List (Nat×Nat)}{z:Zp}{cur:List Tr}(B:BAt N H s g ps dd z cur)(ys:List V):BAt N (upd H s.F (.lst ys)) s g ps dd z cur:=⟨B.a.grown ys,B.op,B.tl,B.tb,B.de,B.oz,B.oc,B.zl,B.dc⟩
theorem SAt.fq{H:Hp}{s:Sa}{g:Sg}(h:SAt N H s g):s.F∉s.Q:=by
 obtain⟨_,x1,x2,x3,x4,x5⟩:=h.ne;simp only[Sa.Q,Lu,LS,or_false,not_or];exact⟨x1,x2,x3,x4,x5⟩
theorem Sn.m{s:Sa}{H H':Hp}(h:Sn s H H'):Sm s.M H H':=Sm.mono h λ_=>Sa.qm
inductive wy(vs:List V)(H:Hp)(Q:VK)(Z:XK):Prop
 |mk(N:Nat->Str)(s:Sa)(g:Sg)(ps:List Nat)(dd:List (Nat×Nat))(cl sc:N6)(cs:List Int)(rm:Int)(z0:vs=[.ref s.S,.ref cl,.ref sc,.int rm])(z1:BAt N H s g ps dd [] [])(z2:del s.M H cl=UE (.lst (cs.map V.int)))(z3:cs.length<=40)(z4:p8 N (del s.M H) sc ps)(z5:∀e∈g.dd,e.1<24/\e.2.1<=4)
  (z6:∀(R:N6)(ys:List V)(ts:List Tr)(g':Sg)(H':Hp),Sn s H H'->H R=UG->H' R=UE (.lst ys)->aS N (del s.Q H') (au ts++[.fin]) ys->cG ps dd false ts->bN ts<=6->(au ts).length<=cs.length+12->BAt N H' s g' ps dd [] []->g'.dd=g.dd->Q (.ref R) H'):wy vs H Q Z
inductive D0(s:Sa)(cl:N6)(sc:N6)(rm:Int)(F:N6)(H2:Hp)(N:Nat->Str)(ps:List Nat)(dd:List (Nat×Nat))(g:Sg)(i:Nat)(σ:St)(Hc:Hp):Prop
 |mk(v5:Option V)(ys:List V)(g':Sg)(z:Zp)(cur:List Tr):σ=[UE (.ref s.S),UE (.ref cl),UE (.ref sc),UE (.int rm),UE (.ref F),v5]->Sm s.M H2 Hc->Hc F=UE (.lst ys)->aS N (del s.M Hc) (flZ z cur) ys->ys.length=i->BAt N Hc s g' ps dd z cur->g'.dd=g.dd->D0 s cl sc rm F H2 N ps dd g i σ Hc
inductive Du(s:Sa)(cl:N6)(sc:N6)(rm:Int)(F:N6)(v5:Option V)(H2:Hp)(N:Nat->Str)(cs:List Int)(ps:List Nat)(dd:List (Nat×Nat))(g:Sg)(m:Nat)(σ':St)(Hd:Hp):Prop
 |mk(ys:List V)(g':Sg)(z:Zp)(cur:List Tr):σ'=[UE (.ref s.S),UE (.ref cl),UE (.ref sc),UE (.int rm),UE (.ref F),v5]->Sm s.M H2 Hd->Hd F=UE (.lst ys)->aS N (del s.M Hd) (flZ z cur) ys->muZ z=m->ys.length+m<=cs.length+12->BAt N Hd s g' ps dd z cur->g'.dd=g.dd->Du s cl sc rm F v5 H2 N cs ps dd g m σ' Hd
inductive BA(m:Nat)(s:Sa)(cl:N6)(sc:N6)(rm:Int)(F:N6)(v5:Option V)(H2:Hp)(N:Nat->Str)(cs:List Int)(ps:List Nat)(dd:List (Nat×Nat))(g:Sg)(σ':St)(Hd:Hp):Prop
 |mk(ys:List V)(g':Sg)(z:Zp)(cur:List Tr)(m':Nat):m'<m->σ'=[UE (.ref s.S),UE (.ref cl),UE (.ref sc),UE (.int rm),UE (.ref F),v5]->Sm s.M H2 Hd->Hd F=UE (.lst ys)->aS N (del s.M Hd) (flZ z cur) ys->muZ z=m'->ys.length+m'<=cs.length+12->BAt N Hd s g' ps dd z cur->g'.dd=g.dd->BA m s cl sc rm F v5 H2 N cs ps dd g σ' Hd
theorem Aq(T:Txt K mg A):T.sG.Hz P w base 6 wy:=by
 refine T.sG.hs (k:=5) kO (λf cdv A' outer s' H vs Q E hr hu h=>?_);obtain⟨N,s0,g,ps,dd,cl,sc,cs,rm,rfl,B,hcl,lc,hS,hdd,q⟩:=h;refine{_,(ab (bM (fv 3) (jA (fv 0) ar (gq hu UK)))
  (ab (pst 4 kO.nd (aN ae))
  (ab (cZ Oq rfl (fm (fv 1)) (pgn (i:=5) kO.nd rfl)
   (ai (aK (bu (fv 4) ((ak (hj:=by lia) (HY T) hr (fv 0^fv 5^fv 2^ae))^ae)))))
  (ab (js Oq (ptc (oW hu) (px hu (fv 0) ar) (aN ae))
   (ai (aK (bu (fv 4) ((ak (hj:=by lia) (xU T) hr (fv 0^ae))^ae)))))
  (ai (aA (aw aD (fv 4) (aN (aP (ar^ae)^ae))))))))),?_}
 refine ag λM1 K1=>{_,pT.k (k:=.inr "room") B.a.hS (show 5<sizeLine by decide),K1 _ _ ?_};clear K1 M1;rw[nF];have B1:=B.oU rm;have s1:Sn s0 H (upd H s0.S (.dK (stK s0 rm))):=Sn.at (by simp) _;have n1:∀x,upd H s0.S (.dK (stK s0 rm)) x=UG->H x=UG:=λx hx=>by
  by_cases e:x=s0.S
  ·rw[e,ao]at hx;cases hx
  rw[aW e]at hx;exact hx
 generalize upd H s0.S _=H1 at B1 s1 n1⊢;try dsimp only
 refine ag λM1 K1=>{LH _,λF hF=>K1 _ _ ?_};clear K1 M1;obtain⟨s2,e2⟩:=alc hF (HO.lst []);generalize upd H1 F _=H2 at s2 e2⊢;have HF:H F=UG:=n1 _ hF;have F0:F∉s0.M:=B1.a.new hF;have B2:=B1.same s2;obtain⟨s,es⟩:∃s:Sa,s={ s0 with F:=F }:=⟨_,rfl⟩;have eS:s.S=s0.S:=by rw[es]
 have eF:s.F=F:=by rw[es]
 have eQ:s.Q=s0.Q:=by rw[es]
 have eM:∀a∈s.M,a∈s0.Q\/a=F:=λa m=>by
  rw[es]at m;simp only[Sa.M,Sa.Q,Lu,LS,or_false]at m⊢;rcases m with h|h|h|h|h|h<;>simp[h]
 have B2':BAt N H2 s { g with room:=rm } ps dd [] []:=by
  obtain⟨ds,hd,dda⟩:=B1.a.hd;have nn:=B1.a.ne;have h5:F≠s0.S/\F≠s0.o/\F≠s0.t/\F≠s0.m/\F≠s0.d:=by
   simp only[Sa.M,Lu,LS,or_false,not_or]at F0;exact⟨F0.1,F0.2.1,F0.2.2.1,F0.2.2.2.1,F0.2.2.2.2.1⟩
  have dda':wm N (del s.M H2) g.dd ds:=dda.same λa o h=>by
   obtain⟨h1,h2⟩:=b5 h;refine aI (λm=>?_) (s2 _ _ h2);rcases eM a m with z|z
   ·exact h1 (Sa.qm z)
   rw[z,hF]at h2;cases h2
  have nd:s.M.Nodup:=by
   rw[es];obtain⟨⟨a,b,c,d,e,f,i,j,k,l⟩,_⟩:=nn;simp only[Sa.M,Mq,Lu,LS,or_false,not_or,NA,and_true,not_false_eq_true];exact{⟨a,b,c,d,LU h5.1⟩,⟨e,f,i,LU h5.2.1⟩,⟨j,k,LU h5.2.2.1⟩,⟨l,LU h5.2.2.2.1⟩,LU h5.2.2.2.2}
  subst es;exact{{B2.a.hS,B2.a.ho,B2.a.ht,B2.a.hm,{ds,s2 _ _ hd,dda'},nd,{[],e2},B2.a.mo,B2.a.nm},B2.op,B2.tl,B2.tb,B2.de,B2.oz,B2.oc,B2.zl,B2.dc}
 have out:∀{H':Hp},Sm s.M H2 H'->Sn s0 H H':=λ{H'} sm a o ha e=>sm a o (λm=>by
  rcases eM a m with z|z
  ·exact ha z
  rw[z,HF]at e;cases e) (s2 _ _ (s1 a o ha e))
 have dn:aj (del s0.M H) (del s.M H2):=λx o e=>by
  obtain⟨h1,h2⟩:=b5 e;refine aI (λm=>?_) (s2 _ _ (s1 _ _ (λm=>h1 (Sa.qm m)) h2));rcases eM x m with z|z
  ·exact h1 (Sa.qm z)
  rw[z,HF]at h2;cases h2
 have hcl2:=dn _ _ hcl;have hS2:p8 N (del s.M H2) sc ps:=hS.same dn;rw[<-eS];try dsimp only
 refine ag λM1 K1=>LL {{_,SqL.of (cj _ _ hcl2)},dH (K:=K) (xs:=cs.map V.int) (D0 s cl sc rm F H2 N ps dd g) {UG,[],{ g with room:=rm },[],[],rfl,Sm.refl _ _,e2,by show aS N _ (au []) _;rw[au];exact .nil,rfl,B2',rfl} (λi σ Hc _ ⟨_,_,_,_,_,_,z,_,_,_,_,_⟩=>SqL.of (cj _ _ (Sm.del z _ _ hcl2))) ?_ ?_}
 ·rintro i x σ Hc hx ⟨v5,ys,g',z,cur,rfl,sc',hFc,fr,ly,Bc,gd⟩;rw[LY]at hx;cases hc:cs[i]? with
  |none=>rw[hc]at hx;cases hx
  |some c=>
  rw[hc]at hx;cases hx;have il:i<cs.length:=(LJ.mp hc).1;try dsimp only
  refine{LL {rfl,_,SqL.of hFc},N,s,g',ps,dd,z,cur,c,sc,rfl,Bc,hS2.same (Sm.del sc'),λe he=>hdd e (gd▸he),λv f g2 z2 cur2 H3 s3 B3 gd2 fl3 fr3=>?_};have hF3:H3 F=UE (.lst ys):=s3 _ _ (by have:=Bc.a.fq;rw[eF]at this;exact this) hFc;have s4:Sm s.M H3 (upd H3 F (.lst (ys++[v]))):=Sm.at (by rw[<-eF];simp) _;have B4:=B3.grown (ys++[v]);rw[eF]at B4;refine{_,_,_,rfl,rfl,hF3,aQ (),_,ys++[v],g2,z2,cur2,rfl,(sc'.trans s3.m).trans s4,ao,?_,by rw[Ll,ly];rfl,B4,gd2.trans gd};rw[fl3];exact Paired.two (aS.same (Sm.del (s3.m.trans s4)) fr) (.cons (j4.same (Sm.del s4) fr3) .nil)
 rintro σ Hc ⟨v5,ys,g',z,cur,rfl,sc',hFc,fr,ly,Bc,gd⟩;rw[Lm]at ly;refine K1 _ _ ?_;clear K1 M1;try dsimp only
 refine ag λM1 K1=>{Du s cl sc rm F v5 H2 N cs ps dd g,{muZ z,ys,g',z,cur,rfl,sc',hFc,fr,rfl,by have:=Bt z;have:=Bc.zl;lia,Bc,gd},?_};clear fr ly Bc gd hFc sc';rintro m σ' Hd ⟨ys,g',z,cur,rfl,sc',hFc,fr,em,lm,Bc,gd⟩;refine dgk Bc.a.hS rfl {LH _,λL hL=>?_};obtain⟨s5,e5⟩:=alc hL (HO.lst []);generalize upd Hd L _=H5 at s5 e5⊢;have B5:=Bc.same s5;have okw:∀x∈g'.op,Ow x=true:=λx hx=>by
  rw[Bc.op]at hx;unfold gW at hx;rw[TB]at hx;obtain⟨⟨pa,op⟩,_,rfl⟩:=LN.mp hx;exact BG op
 refine UU (SqL.of B5.a.ho) (SqL.of e5) (rF okw) {_,rfl,?_};have fr5:=aS.same (Sm.del (Sm.new s5)) fr;have hF5:=s5 _ _ hFc;have sc5:=sc'.trans (Sm.new s5);by_cases e0:z=[]
 ·have eo:g'.op=[]:=by rw[Bc.op,e0];rfl
  rw[eo];refine bg (K1 _ _ ?_);clear K1 M1;subst e0;try dsimp only
  refine{by show 1<=sizeLine;decide,λt ht=>?_};obtain⟨s6,e6⟩:=alc ht (HO.tup [V.str "end"]);generalize upd H5 t _=H6 at s6 e6⊢;refine{by show 1<=sizeLine;decide,λl hl=>?_};obtain⟨s7,e7⟩:=alc hl (HO.lst [V.ref t]);generalize upd H6 l _=H7 at s7 e7⊢;refine{F,l,_,_,rfl,rfl,(s6.trans s7) _ _ hF5,e7,sz (by rw[Lo];lia),λR hR=>?_};have s8:=aj.upd hR (.lst (ys++[V.ref t]));have t58:=s6.trans (s7.trans s8);have sR:Sm s.M H2 (upd H7 R (.lst (ys++[V.ref t]))):=sc5.trans (Sm.new t58);have B8:=B5.same t58;have B8':BAt N (upd H7 R (.lst (ys++[V.ref t]))) s0 g' ps dd [] []:=by
   obtain⟨ys0,f0⟩:=B.a.hF;have k0:upd H7 R (.lst (ys++[V.ref t])) s0.F=UE (.lst ys0):=out sR _ _ B.a.fq f0;obtain⟨ds,hd,dda⟩:=B8.a.hd;have dda':wm N (del s0.M (upd H7 R (.lst (ys++[V.ref t])))) g'.dd ds:=Paired.rg dda λe v ⟨a,ea,ha⟩=>{a,ea,by
    obtain⟨h1,h2⟩:=b5 ha;refine aI (λm=>?_) h2;simp only[Sa.M,Lu,LS,or_false]at m;rcases m with h|h|h|h|h|h
    ·exact h1 (by rw[h,es];simp)
    ·exact h1 (by rw[h,es];simp)
    ·exact h1 (by rw[h,es];simp)
    ·exact h1 (by rw[h,es];simp)
    ·exact h1 (by rw[h,es];simp)
    rw[h,k0]at h2;cases h2}
   subst es;exact{{B8.a.hS,B8.a.ho,B8.a.ht,B8.a.hm,⟨ds,hd,dda'⟩,B.a.nd,⟨ys0,k0⟩,B8.a.mo,B8.a.nm},B8.op,B8.tl,B8.tb,B8.de,trivial,by rw[cG];trivial,LH _,by rw[bN];exact LH _}
  have fin:aS N (del s.M (upd H7 R (.lst (ys++[V.ref t])))) (au cur++[.fin]) (ys++[V.ref t]):=Paired.two (aS.same (Sm.del (Sm.new t58)) fr5) (.cons (fr0 (aI (B5.a.new ht) ((s7.trans s8) _ _ e6)) rfl) .nil);have lf:=Oe fr5;have lf:(au cur).length=ys.length:=lf;have dcz:=Bc.dc;have HR:H R=UG:=by
   cases e:H R with
   |none=>rfl
   |some o=>
    by_cases mR:R∈s0.Q
    ·exact absurd hR ((B5.same (s6.trans s7)).a.in (by rw[<-eQ]at mR;exact Sa.qm mR))
    have:=(out (sc5.trans (Sm.new (s6.trans s7)))) R o mR e;rw[hR]at this;cases this
  refine q R _ cur g' _ (out sR) HR ao ?_ Bc.oc (by have:=Bc.dc;rw[Mi]at this;lia) () B8' gd;rw[<-eQ];exact aS.same (λa o h=>aI (λm=>(b5 h).1 (Sa.qm m)) (b5 h).2) fin
 have en:(!(sS g'.op).isEmpty)=true:=by
  have l1:g'.op.length=z.length:=by rw[Bc.op];simp[gW]
  cases hg:g'.op with
  |nil=>
   rw[hg]at l1;exact absurd (List.length_eq_zero_iff.mp l1.symm) e0
  |cons x r=>rfl
 rw[en];refine bW {BA m s cl sc rm F v5 H2 N cs ps dd g,λσ' Hd ⟨ys,g',z,cur,m',hm',h1,h2,h3,h4,h5,h6,h7,h8⟩=>⟨m',hm',ys,g',z,cur,h1,h2,h3,h4,h5,h6,h7,h8⟩,{LL {rfl,_,SqL.of hF5},N,s,g',ps,dd,z,cur,rfl,B5,e0,λv f g2 z2 cur2 H6 s6 B6 gd2 fl6 mu6 fr6=>?_}};have hF6:H6 F=UE (.lst ys):=s6 _ _ (by have:=Bc.a.fq;rw[eF]at this;exact this) hF5;have s7:Sm s.M H6 (upd H6 F (.lst (ys++[v]))):=Sm.at (by rw[<-eF];simp) _;have B7:=B6.grown (ys++[v]);rw[eF]at B7;refine{_,_,_,rfl,rfl,hF6,aQ (),ys++[v],g2,z2,cur2,muZ z2,(),rfl,(sc5.trans s6.m).trans s7,ao,?_,rfl,by rw[Ll,Lo];lia,B7,gd2.trans gd};rw[fl6];exact Paired.two (aS.same (Sm.del (s6.m.trans s7)) fr5) (.cons (j4.same (Sm.del s7) fr6) .nil)
noncomputable abbrev De:=Nat×List Nat×List Tr
noncomputable def flD(d:De):List Fr:=.aZ d.1 d.2.1::(au d.2.2++[.fin])
noncomputable def br(ds:List De):List Fr:=ds.flatMap flD
noncomputable def ir(ds:List De):List (Nat×Nat):=ds.map λd=>(d.1,d.2.1.length)
noncomputable def dnI(k:Nat):Nat:=if k=0 then 9 else if k=1 then 10 else 21
noncomputable def stI(k:Nat):Nat:=if k=0 then 11 else if k=1 then 15 else 22
noncomputable def mxI(k:Nat):Nat:=if k=0 then 5 else if k=1 then 5 else 3
noncomputable def psI(k n:Nat):List Nat:=(OA n).map (stI k+ ·)
structure JE(ds:List De):Prop where
 at':∀(k:Nat) d,ds[k]?=UE d->d.1=dnI k/\(∃n,n<mxI k/\d.2.1=psI k n)/\cG d.2.1 (ir (ds.take k)) false d.2.2/\bN d.2.2<=6/\(au d.2.2).length<=17
structure eN(hs:List Lr)(ds:List De)(mb:List Tr):Prop where
 hd:∃rk z t,hs=qb t (mX rk z)/\(∀i,rk i=0\/rk i=1\/rk i=2)/\1<=z/\z<=4/\t<=11
 dl:ds.length=3
 de:JE ds
 mo:cG [] (ir ds) false mb
 md:bN mb<=6
 ml:(au mb).length<=48
noncomputable def flA(hs:List Lr)(ds:List De)(mb:List Tr):List Fr:=hs.map Fr.leaf++br ds++ .main::(au mb++[.fin])
theorem SAt.JD{H:Hp}{s:Sa}{g:Sg}(h:SAt N H s g){ds:List V}(dd:List (Nat×Nat×Int))(e:wm N (del s.M H) dd ds):SAt N (upd H s.d (.lst ds)) s { g with dd:=dd }:=by
 obtain⟨⟨a,b,c,d,e',f,i,j,k,l⟩,x1,x2,x3,x4,x5⟩:=h.ne;exact{az d h.hS,az i h.ho,az k h.ht,az l h.hm,{ds,ao,e.same (Sm.del (Sm.at (by simp) _))},h.nd,h.hF.imp λ_ z=>az x5 z,h.mo,h.nm}
theorem SAt.put{H:Hp}{s:Sa}{g:Sg}(h:SAt N H s g){R:N6}(m:R∉s.M){xs ys:List V}(hR:H R=UE (.lst xs)):SAt N (upd H R (.lst ys)) s g:=by
 have nn:∀a∈s.M,a≠R:=λa ha e=>m (e▸ha);obtain⟨ds,hd,dd⟩:=h.hd;refine{az (nn _ (by simp)) h.hS,az (nn _ (by simp)) h.ho,az (nn _ (by simp)) h.ht,az (nn _ (by simp)) h.hm,{ds,az (nn _ (by simp)) hd,Paired.rg dd λe v ⟨a,ea,ha⟩=>{a,ea,?_}},h.nd,h.hF.imp λ_ z=>az (nn _ (by simp)) z,h.mo,h.nm};obtain⟨h1,h2⟩:=b5 ha;exact aI h1 (az (λe=>by rw[e,hR]at h2;cases h2) h2)
theorem BAt.idle{H:Hp}{s:Sa}{g:Sg}{ps:List Nat}{dd:List (Nat×Nat)}(B:BAt N H s g ps dd [] [])(ps':List Nat):BAt N H s g ps' dd [] []:={B.a,B.op,B.tl,B.tb,B.de,trivial,by rw[cG];trivial,B.zl,B.dc}
theorem BAt.with{H H':Hp}{s:Sa}{g:Sg}{ps:List Nat}{dd:List (Nat×Nat)}(B:BAt N H s g ps dd [] [])(a:SAt N H' s g):BAt N H' s g ps dd [] []:=⟨a,B.op,B.tl,B.tb,B.de,B.oz,B.oc,B.zl,B.dc⟩
theorem aS.fresh{M:List N6}{H:Hp}{R:N6}(hR:H R=UG){o:HO}{fs:List Fr}{vs:List V}(h:aS N (del M H) fs vs):aS N (del (R::M) (upd H R o)) fs vs:=aS.same (λa x e=>by
 obtain⟨h1,h2⟩:=b5 e;have n:a≠R:=λz=>by rw[z,hR]at h2;cases h2
 exact aI (λm=>by
  rcases Lu.mp m with z|z
  ·exact n z
  exact h1 z) (az n h2)) h
theorem AD{k:Nat}(h:k<3):k=0\/k=1\/k=2:=()
theorem ET{xs:List V}{a n:Nat}(h:a+n<=xs.length):pS xs (UE (a:Int)) (UE ((a:Int)+(n:Int)))=(xs.drop a).take n:=by
 unfold pS;rw[qx _ (),show((a:Int)+(n:Int))=((a+n:Nat):Int) by push_cast;rfl,qx _ h];congr 1;lia
theorem Ih{a n:Nat}(h:a+n<=24):((sS (tu N)).drop a).take n=nV N ((OA n).map (a+ ·)):=by
 refine NO λi=>?_;by_cases hi:i<n
 ·rw[Mt hi,ML,DR (),LY,LY,MW hi];rfl
 rw[My (by rw[LV];lia),My (by rw[Lm,Lm,Mx];lia)]
theorem zC{M:List N6}{H:Hp}(h:∀x∈M,∀xs,H x≠UE (.tup xs)):∀{fs:List Fr}{vs:List V},aS N H fs vs->(∀f∈fs,f.ob N=UG)->aS N (del M H) fs vs
 |_,_,.nil,_=>.nil
 |f::fs,_,.cons g r,e=>by
  obtain⟨a,p,ev,h1,h2⟩:=g;refine .cons {a,p,ev,aI (λm=>h a m _ h1) h1,λo ho=>?_} (zC h r λf hf=>e f (Lx _ hf));rw[e f LB]at ho;cases ho
inductive Ad(K:Oc)(vs:List V)(H:Hp)(Q:VK)(Z:XK):Prop
 |mk(N:Nat->Str)(a nl:N6)(ns:List Int)(z0:vs=[.ref a,.ref nl])(z1:SqL K H a (ns.map V.int))(z2:H nl=UE (.lst (sS (tu N))))(z3:lJ N)
  (z4:∀(R:N6)(ys:List V)(hs:List Lr)(ds:List De)(mb:List Tr)(H':Hp),aj H H'->H R=UG->H' R=UE (.lst ys)->aS N H' (flA hs ds mb) ys->eN hs ds mb->Q (.ref R) H'):Ad K vs H Q Z
inductive Cr(a:N6)(s:Sa)(c:Int)(H:Hp)(N:Nat->Str)(hs:List Lr)(i:Nat)(σ:St)(Hc:Hp):Prop
 |mk(R:N6)(v6 v7 v8 v9 v10:Option V)(des:List De)(g:Sg)(ys:List V)(av:Int):σ=[UE (.ref a),UE (.ref s.F),UE (.int c),UE (.ref s.S),UE (.ref R),UE (.int av),v6,v7,v8,v9,v10,UG]->aj H Hc->H R=UG->R∉s.M->Hc R=UE (.lst ys)->aS N (del (R::s.Q) Hc) (hs.map Fr.leaf++br des) ys->des.length=i->JE des->BAt N Hc s g [] (ir des) [] []->(∀e∈g.dd,e.1<24/\e.2.1<=4)->8<=av->av<=8+5*(i:Int)->ys.length<=11+19*i->Cr a s c H N hs i σ Hc
theorem Ig(T:Txt K mg A):T.qK.Hz P w base 7 (Ad K):=by
 have bc:=@nQ P w _ _ base _ T;refine T.qK.hs (k:=6) bC (λf cdv A' outer s' H vs Q E hr hu h=>?_);obtain⟨N,a,nl,ns,rfl,hA,hN,nm,q⟩:=h;refine{_,(ab (pst 2 bC.nd (ak (hj:=by lia) (zd T) hr (fv 0^af^ae)))
  (ab (pst 3 bC.nd (zZ (fG ar (aN ae) (fG ar (aN (af^ae)) (fG ar (aN (px hu (fv 1) af^px hu (fv 1) af^ae)) (fG ar (aN ae) (fG ar af (zw)))))) rfl rfl (by intro z;cases z) ∅))
  (ab (pst 4 bC.nd (ak (hj:=by lia) (DB T) hr (fv 1^fv 2^ae)))
  (ab (pst 5 bC.nd af)
  (ab (cZ Oq rfl (cU rfl T.df (af^ae)) (pgn (i:=6) bC.nd rfl)
   (ab (pst 7 bC.nd (px hu (aN (af^af^af^ae)) (fv 6)))
   (ab (pst 8 bC.nd (px hu (fv 1) (px hu (aN (af^af^af^ae)) (fv 6))))
   (ab (pst 9 bC.nd (qW yu (fv 1) (qo (fv 7)) (qo (aw aD (fv 7) (aw bK (ak (hj:=by lia) bc hr (fv 2^aw aD af (fv 6)^ae)) (px hu (aN (af^af^af^ae)) (fv 6)))))))
   (ab (aK (bu (fv 4) (aP (ar^fv 8^fv 9^ae)^ae)))
   (ab (pst 10 bC.nd (aw bK (ak (hj:=by lia) bc hr (fv 2^aw aD af (fv 6)^ae)) af))
   (ab (pst 4 bC.nd (aw aD (fv 4) (ak (hj:=by lia) (Aq T) hr (fv 3^(ak (hj:=by lia) (Aw T) hr (fv 0^fv 5^fv 10^ae))^(ak (hj:=by lia) (zo T) hr (fv 1^fv 9^ae))^af^ae))))
   (ab (aK (bu (px hu (fv 3) ar) (aP (fv 8^pcB eX T.f9 (fv 9^ae)^aw nO af (px hu (fv 3) ar)^ae)^ae)))
   (ai (pst 5 bC.nd (aw aD (fv 5) (fv 10))))))))))))
  (ab (aK (bu (fv 4) (aP (ar^ae)^ae)))
  (ab (pst 11 bC.nd (ak (hj:=by lia) (Aw T) hr (fv 0^fv 5^(aw aD af (aw bK (ak (hj:=by lia) bc hr (fv 2^af^ae)) af))^ae)))
  (ai (aA (aw aD (fv 4) (ak (hj:=by lia) (Aq T) hr (fv 3^fv 11^(ak (hj:=by lia) (zo T) hr (fv 1^aN ae^ae))^af^ae)))))))))))),?_}
 refine ag λM1 K1=>{a,ns,2,rfl,hA,∅,∅,λc H0 s0=>K1 _ _ ?_};clear K1 M1;try dsimp only
 refine ag λM1 K1 S hS=>?_;obtain⟨s1,e1⟩:=alc hS (HO.dK []);generalize upd H0 S _=H1 at s1 e1⊢;refine{LH _,λo ho=>?_};obtain⟨s2,e2⟩:=alc ho (HO.lst []);generalize upd H1 o _=H2 at s2 e2⊢;refine{by show 1<=sizeLine;decide,λt ht=>?_};obtain⟨s3,e3⟩:=alc ht (HO.lst [.int 1]);generalize upd H2 t _=H3 at s3 e3⊢;have t3:=(s0.trans s1).trans (s2.trans s3);refine nmx (j:=5) (SqL.of (t3 _ _ hN)) (nmx (j:=6) (SqL.of (t3 _ _ hN)) {by show 2<=sizeLine;decide,λm hm=>?_});obtain⟨s4,e4⟩:=alc hm (HO.lst [.str (N 5),.str (N 6)]);generalize upd H3 m _=H4 at s4 e4⊢;refine{LH _,λd hd=>?_};obtain⟨s5,e5⟩:=alc hd (HO.lst []);generalize upd H4 d _=H5 at s5 e5⊢;have s15:=(s2.trans s3).trans (s4.trans s5);have h05:=(s0.trans s1).trans s15;let s:Sa:=⟨S,o,t,m,d,nl⟩
 refine{s15 _ _ e1,stK s 0,rfl,by show 5<=15;decide,K1 _ _ ?_};clear K1 M1;have HS:H S=UG:=aj.free s0 hS;have s6:aj H (upd H5 S (.dK (bw [] (stK s 0)))):=aj.out h05 HS _;have eS:upd H5 S (.dK (bw [] (stK s 0))) S=UE (.dK (stK s 0)):=ao;have no:o≠S:=λz=>by rw[z,e1]at ho;cases ho
 have nt:t≠S:=λz=>by rw[z,s2 _ _ e1]at ht;cases ht
 have nmm:m≠S:=λz=>by rw[z,(s2.trans s3) _ _ e1]at hm;cases hm
 have nd:d≠S:=λz=>by rw[z,((s2.trans s3).trans s4) _ _ e1]at hd;cases hd
 have to':t≠o:=λz=>by rw[z,e2]at ht;cases ht
 have mo':m≠o:=λz=>by rw[z,s3 _ _ e2]at hm;cases hm
 have do':d≠o:=λz=>by rw[z,(s3.trans s4) _ _ e2]at hd;cases hd
 have mt':m≠t:=λz=>by rw[z,e3]at hm;cases hm
 have dt':d≠t:=λz=>by rw[z,s4 _ _ e3]at hd;cases hd
 have dm':d≠m:=λz=>by rw[z,e4]at hd;cases hd
 have lS:nl≠S:=λz=>by rw[z,HS]at hN;cases hN
 have lo:nl≠o:=λz=>by rw[z,aj.free (s0.trans s1) ho]at hN;cases hN
 have lt:nl≠t:=λz=>by rw[z,aj.free ((s0.trans s1).trans s2) ht]at hN;cases hN
 have lm:nl≠m:=λz=>by rw[z,aj.free t3 hm]at hN;cases hN
 have ld:nl≠d:=λz=>by rw[z,aj.free (t3.trans s4) hd]at hN;cases hN
 have qH:∀x∈s.Q,H x=UG:=λx hx=>by
  simp only[Sa.Q,s,Lu,LS,or_false]at hx;rcases hx with rfl|rfl|rfl|rfl|rfl
  ·exact HS
  ·exact aj.free (s0.trans s1) ho
  ·exact aj.free ((s0.trans s1).trans s2) ht
  ·exact aj.free t3 hm
  exact aj.free (t3.trans s4) hd
 have B6:BAt N (upd H5 S (.dK (bw [] (stK s 0)))) s {[],[1],[5,6],[],0} [] [] [] []:=by
  refine{{eS,az no ((s3.trans (s4.trans s5)) _ _ e2),az nt ((s4.trans s5) _ _ e3),az nmm (s5 _ _ e4),{[],az nd e5,.nil},?_,{_,az lS (h05 _ _ hN)},(λx hx=>by simpa using hx),nm},rfl,rfl,(λx hx=>by rw[Lp.mp hx];exact{∅,∅}),rfl,trivial,by rw[cG];trivial,LH _,by rw[bN];exact LH _};simp only[s,Sa.M,Mq,Lu,LS,or_false,not_or,NA,and_true,not_false_eq_true];exact{⟨LU no,LU nt,LU nmm,LU nd,LU lS⟩,⟨LU to',LU mo',LU do',LU lo⟩,⟨LU mt',LU dt',LU lt⟩,⟨LU dm',LU lm⟩,LU ld}
 generalize upd H5 S _=H6 at B6 s6 eS⊢;have esS:s.S=S:=rfl;have esF:s.F=nl:=rfl;have esd:s.d=d:=rfl;clear_value s;subst esS esF;clear e1 e2 e3 e4 e5 s1 s2 s3 s4 s5 t3 s15 h05 no nt nmm nd to' mo' do' mt' dt' dm' lS lo lt lm ld hS ho ht hm hd HS;try dsimp only
 refine ag λM1 K1=>{N,s.F,c,rfl,s6 _ _ hN,λR rk z tt ys H7 s7 hR7 eR7 fr7 hrk z1 z4 t11=>K1 _ _ ?_};clear K1 M1;have B7:=B6.same s7;have t7:=s6.trans s7;have R0:H R=UG:=aj.free s6 hR7;have RM:R∉s.M:=B6.a.new hR7;have fr7':aS N (del (R::s.Q) H7) ((qb tt (mX rk z)).map Fr.leaf) ys:=by
  refine zC (λx hx xs e=>?_) fr7 (λf hf=>?_)
  ·obtain⟨ds,hd,_⟩:=B7.a.hd;simp only[Sa.Q,Lu,LS,or_false]at hx;rcases hx with rfl|rfl|rfl|rfl|rfl|rfl
   ·rw[eR7]at e;cases e
   ·rw[B7.a.hS]at e;cases e
   ·rw[B7.a.ho]at e;cases e
   ·rw[B7.a.ht]at e;cases e
   ·rw[B7.a.hm]at e;cases e
   rw[hd]at e;cases e
  obtain⟨r,hr,rfl⟩:=LN.mp hf;have hr:r∈mX rk z:=by
   unfold qb at hr;rcases Ls.mp hr with h|h
   ·exact MR h
   exact Mn h
  unfold mX at hr;simp only[Lu,LS,or_false]at hr;rcases hr with rfl|rfl|rfl|rfl|rfl|rfl|rfl|rfl|rfl|rfl|rfl<;>rfl
 have ly7:ys.length=11:=by
  have:=Oe fr7;rw[Lm]at this;unfold qb at this;rw[Ll,Mc,LV,show(mX rk z).length=11 from rfl]at this;lia
 obtain⟨hs,ehs⟩:∃hs,hs=qb tt (mX rk z):={_,rfl};rw[<-ehs]at fr7';try dsimp only
 refine ag λM1 K1=>K1 _ _ ?_;clear K1 M1;try dsimp only
 refine ag λM1 K1=>{_,rfl,∅,∅,jr (Cr a s c H N hs) {R,UG,UG,UG,UG,UG,[],_,ys,8,rfl,t7,R0,RM,eR7,by rw[show br []=[]from rfl,LQ];exact fr7',rfl,⟨λk d h=>by simp at h⟩,B7,(λe he=>by cases he),∅,∅,()} ?_ ?_}
 ·clear fr7 fr7' ly7 eR7 R0 RM hR7 B7 t7 s7;rintro i σ Hc hi ⟨R,v6,v7,v8,v9,v10,des,g,ys,av,rfl,tc,R0,RM,eR,fr,dl,dk,B,hdd,a8,aM,yl⟩;have hi3:i<3:=hi;have ei:(0:Int)+(i:Int)=(i:Int):=()
  rw[ei];have RQ:R∉s.Q:=λm=>RM (Sa.qm m);have st24:stI i+mxI i<=25/\dnI i<24/\mxI i<=5/\0<mxI i:=by
   rcases AD hi3 with rfl|rfl|rfl<;>decide
  try dsimp only
  refine ag λN1 J1=>{by show 3<=sizeLine;decide,λL1 hL1=>?_};obtain⟨sa,ea⟩:=alc hL1 (HO.lst [.int 11,.int 15,.int 22]);generalize upd Hc L1 _=Ha at sa ea⊢;refine lxn (j:=i) (v:=.int (stI i)) (SqL.of ea) (by rcases AD hi3 with rfl|rfl|rfl<;>rfl) (J1 _ _ ?_);clear J1 N1;try dsimp only
  refine ag λN1 J1=>{by show 3<=sizeLine;decide,λL2 hL2=>?_};obtain⟨sb,eb⟩:=alc hL2 (HO.lst [.int 9,.int 10,.int 21]);generalize upd Ha L2 _=Hb at sb eb⊢;have tb:=tc.trans (sa.trans sb);refine lxn (j:=i) (v:=.int (dnI i)) (SqL.of eb) (by rcases AD hi3 with rfl|rfl|rfl<;>rfl) (nmx (j:=dnI i) (SqL.of (tb _ _ hN)) (J1 _ _ ?_) st24.2.1);clear J1 N1;try dsimp only
  refine ag λN1 J1=>{_,rfl,c,_,rfl,(),(),λm1 m10 m11=>{by show 3<=sizeLine;decide,λL3 hL3=>?_}};obtain⟨sd,ed⟩:=alc hL3 (HO.lst [.int 5,.int 5,.int 3]);generalize upd Hb L3 _=Hd at sd ed⊢;refine lxn (j:=i) (v:=.int (mxI i)) (SqL.of ed) (by rcases AD hi3 with rfl|rfl|rfl<;>rfl) {by show(0:Int)<(mxI i:Int);lia,?_};obtain⟨n,en⟩:∃n:Nat,m1%(mxI i:Int)=(n:Int):={(m1%(mxI i:Int)).toNat,by have:=bP m1 (show(0:Int)<(mxI i:Int) by lia);lia};have nlt:n<mxI i:=by have:=bP m1 (show(0:Int)<(mxI i:Int) by lia);lia
  dsimp only;rw[en];have td:=tb.trans sd;refine{_,rfl,LL {s.F,_,rfl,SqL.of (td _ _ hN),λpp hpp=>?_}};rw[ET (by rw[Lm];show stI i+n<=(tu N).length;rw[show(tu N).length=24 by simp[tu]];lia),Ih ()];obtain⟨se,ee⟩:=alc hpp (HO.lst (nV N ((OA n).map (stI i+ ·))));generalize upd Hd pp _=He at se ee⊢;have ee:He pp=UE (.lst (nV N (psI i n))):=ee;have ppM:pp∉s.M:=(B.same ((sa.trans sb).trans sd)).a.new hpp;have pl:(psI i n).length=n:=by unfold psI;rw[Lm,Mx]
  generalize hps:psI i n=ps at ee pl;refine J1 _ _ ?_;clear J1 N1;have sce:=((sa.trans sb).trans sd).trans se;have te:=tc.trans sce;try dsimp only
  refine ag λN1 J1=>?_;have eRe:=sce _ _ eR;refine{LL {rfl,_,SqL.of eRe},by show 3<=sizeLine;decide,λtdd htd=>?_};obtain⟨sf,ef⟩:=alc htd (HO.tup [V.str "deed",.str (N (dnI i)),.ref pp]);generalize upd He tdd _=Hf at sf ef⊢;have scf:=sce.trans sf;refine{_,_,_,rfl,rfl,sf _ _ eRe,aQ (),?_};have Bf:=B.same scf;have Ag:=Bf.a.put RM (ys:=ys++[V.ref tdd]) (scf _ _ eR);have sg:aj H (upd Hf R (.lst (ys++[V.ref tdd]))):=aj.out (tc.trans scf) R0 _;have eRg:upd Hf R (.lst (ys++[V.ref tdd])) R=UE (.lst (ys++[V.ref tdd])):=ao;have mg:Sm (R::s.Q) Hf (upd Hf R (.lst (ys++[V.ref tdd]))):=Sm.at LB _;have fg:aS N (del (R::s.Q) (upd Hf R (.lst (ys++[V.ref tdd])))) (hs.map Fr.leaf++br des++[.aZ (dnI i) ps]) (ys++[V.ref tdd]):=by
   refine Paired.two (aS.same (Sm.del ((Sm.new scf).trans mg)) fr) (.cons ?_ .nil);have n1:tdd∉R::s.Q:=λm=>by
    rcases Lu.mp m with z|z
    ·rw[z,eRe]at htd;cases htd
    exact(B.same sce).a.new htd (Sa.qm z)
   have n2:pp∉R::s.Q:=λm=>by
    rcases Lu.mp m with z|z
    ·rw[z,((sa.trans sb).trans sd) _ _ eR]at hpp;cases hpp
    exact(B.same ((sa.trans sb).trans sd)).a.new hpp (Sa.qm z)
   refine fr1 (p:=pp) (aI n1 (mg _ _ n1 ef)) rfl (aI n2 (mg _ _ n2 (sf _ _ ee)))
  have epg:upd Hf R (.lst (ys++[V.ref tdd])) pp=UE (.lst (nV N ps)):=az (λz=>by rw[z,((sa.trans sb).trans sd) _ _ eR]at hpp;cases hpp) (sf _ _ ee);have Bg:BAt N (upd Hf R (.lst (ys++[V.ref tdd]))) s g [] (ir des) [] []:=B.with Ag;generalize upd Hf R (.lst (ys++[V.ref tdd]))=Hg at sg eRg fg epg Bg⊢;clear Ag mg Bf;refine J1 _ _ ?_;clear J1 N1;try dsimp only
  refine ag λN1 J1=>{c,_,rfl,(),(),λm2 m20 m21=>{by show(0:Int)<6;decide,?_}};obtain⟨k6,ek6⟩:∃n:Nat,m2%6=(n:Int):={(m2%6).toNat,by have:=bP m2 (show(0:Int)<6 by decide);lia};have k6l:k6<=5:=by have:=bP m2 (show(0:Int)<6 by decide);lia
  dsimp only;rw[ek6];refine J1 _ _ ?_;clear J1 N1;try dsimp only
  refine ag λN1 J1=>{a,ns,av,k6,rfl,sg.seq hA,(),(),λCL cs Hh sh fh eh lh=>{N,s.F,pp,ps,rfl,(sg.trans sh) _ _ hN,sh _ _ epg,(),λsc Hi si fi eSc=>?_}};have sgi:=sh.trans si;have Bi:=(Bg.same sgi).idle ps;have ki:∀{x:N6}{o:HO},Hg x=UG->Hi x=UE o->del s.M Hi x=UE o:=λ{x o} h e=>aI (Bg.a.new h) e;have scd:p8 N (del s.M Hi) sc ps:=eSc s.M λx hx=>(Bg.same sh).a.in hx;refine{N,s,g,ps,ir des,CL,sc,cs,200,rfl,Bi,ki fh (si _ _ eh),(),scd,hdd,λR2 zs ts g2 Hj sj hR2 eR2 fr2 ok2 dp2 ln2 B2 gd2=>?_};have tj:aj H Hj:=Sm.same sj (sg.trans sgi) qH;have eRj:Hj R=UE (.lst (ys++[V.ref tdd])):=sj _ _ RQ (sgi _ _ eRg);have lz:=Oe fr2;rw[Ll,Lo]at lz;refine{R,R2,_,_,rfl,rfl,eRj,eR2,sz (by rw[Ll,Lo];lia),λR3 hR3=>?_};have sk:=aj.upd hR3 (.lst (ys++[V.ref tdd]++zs));have tk:=tj.trans sk;have fj:aS N (del s.Q Hj) (hs.map Fr.leaf++br des++[.aZ (dnI i) ps]++(au ts++[.fin])) (ys++[V.ref tdd]++zs):=by
   refine Paired.two (aS.same (λx o h=>?_) fg) fr2;obtain⟨h1,h2⟩:=b5 h;have h1':x∉s.Q:=λm=>h1 (Lx _ m);exact aI h1' (sj _ _ h1' (sgi _ _ h2))
  have fk:=aS.fresh hR3 (o:=.lst (ys++[V.ref tdd]++zs)) fj;have eRk:upd Hj R3 (.lst (ys++[V.ref tdd]++zs)) R3=UE (.lst (ys++[V.ref tdd]++zs)):=ao;have R3M:R3∉s.M:=B2.a.new hR3;have R30:H R3=UG:=aj.free tj hR3;have Bk:=B2.same sk;generalize upd Hj R3 (.lst (ys++[V.ref tdd]++zs))=Hk at sk tk fk eRk Bk⊢;have epk:=sk _ _ (sj _ _ (λm=>ppM (Sa.qm m)) (sgi _ _ epg));refine J1 _ _ ?_;clear J1 N1;try dsimp only
  refine ag λN1 J1=>?_;obtain⟨dvs,hdk,ddk⟩:=Bk.a.hd;refine dgk Bk.a.hS rfl {LL {rfl,_,SqL.of hdk},lnl epk (dgk Bk.a.hS rfl {by show 3<=sizeLine;decide,λte hte=>?_})};have lpv:(nV N ps).length=n:=by rw[Lm,pl]
  rw[lpv];obtain⟨sl,el⟩:=alc hte (HO.tup [V.str (N (dnI i)),.int (n:Int),.int (201-g2.room)]);generalize upd Hk te _=Hl at sl el⊢;have dlen:=Oe ddk;have Bl:=Bk.same sl;have gl:g2.dd.length=des.length:=by
   have:=congrArg Pw B2.de;unfold ir at this;rw[Lm,Lm]at this;exact this
  refine{_,_,_,rfl,rfl,sl _ _ hdk,aQ (),?_};have teM:te∉s.M:=Bk.a.new hte;have Am:=Bl.a.JD (ds:=dvs++[V.ref te]) (g2.dd++[(dnI i,n,201-g2.room)]) (Paired.two (wm.same (Sm.del (Sm.new sl)) ddk) (.cons ⟨te,rfl,aI teM el⟩ .nil));have sdQ:s.d∈s.Q:=by simp
  have mm:Sm (R3::s.Q) Hl (upd Hl s.d (.lst (dvs++[V.ref te]))):=Sm.at (Lx _ sdQ) _;have tm:aj H (upd Hl s.d (.lst (dvs++[V.ref te]))):=aj.out (tk.trans sl) (qH _ sdQ) _;have dnew:ir (des++[(dnI i,ps,ts)])=ir des++[(dnI i,n)]:=by
   unfold ir;rw[Ml];simp[pl]
  refine J1 _ _ ?_;clear J1 N1;refine{R3,_,_,_,_,_,des++[(dnI i,ps,ts)],{ g2 with dd:=g2.dd++[(dnI i,n,201-g2.room)] },ys++[V.ref tdd]++zs,av+k6,rfl,tm,R30,R3M,az (λz=>R3M (z▸Sa.qm sdQ)) (sl _ _ eRk),?_,by rw[Ll,dl];rfl,⟨λk d hd=>?_⟩,{Am,B2.op,B2.tl,B2.tb,?_,trivial,by rw[cG];trivial,LH _,by rw[bN];exact LH _},λe he=>?_,(),by push_cast;lia,?_}
  ·rw[show hs.map Fr.leaf++br (des++[(dnI i,ps,ts)])=hs.map Fr.leaf++br des++[.aZ (dnI i) ps]++(au ts++[.fin]) by unfold br;rw[Mr];simp[flD]];exact aS.same (Sm.del ((Sm.new sl).trans mm)) fk
  ·by_cases hk:k<des.length
   ·rw[Me hk]at hd;have:=dk.at' k d hd;rw[M5 ()];exact this
   have ek:k=des.length:=by
    have:=(LJ.mp hd).1;rw[Ll,Lo]at this;lia
   subst ek;rw[L7 (Ln _),MD]at hd;cases hd;rw[T2,dl]
   ·exact{rfl,⟨n,nlt,hps.symm⟩,ok2,dp2,by show(au ts).length<=17;lia}
   rfl
  ·show List.map _ (g2.dd++[(dnI i,n,201-g2.room)])=_;rw[dnew,Ml,B2.de];rfl
  ·rcases Ls.mp he with m|m
   ·exact hdd e (gd2▸m)
   rw[Lp.mp m];exact{st24.2.1,by show n<=4;lia}
  rw[Ll,Ll,Lo];lia
 rintro σ Hc ⟨R,v6,v7,v8,v9,v10,des,g,ys,av,rfl,tc,R0,RM,eR,fr,dl,dk,B,hdd,a8,aM,yl⟩;have dl:des.length=3:=dl;have aM:av<=8+5*3:=aM;have yl:ys.length<=11+19*3:=yl;refine K1 _ _ ?_;clear K1 M1;have RQ:R∉s.Q:=λm=>RM (Sa.qm m);try dsimp only
 refine ag λM1 K1=>{LL {rfl,_,SqL.of eR},by show 1<=sizeLine;decide,λtdd htd=>?_};obtain⟨sf,ef⟩:=alc htd (HO.tup [V.str "main"]);generalize upd Hc tdd _=Hf at sf ef⊢;refine{_,_,_,rfl,rfl,sf _ _ eR,aQ (),?_};have Ag:=(B.same sf).a.put RM (ys:=ys++[V.ref tdd]) (sf _ _ eR);have sg:aj H (upd Hf R (.lst (ys++[V.ref tdd]))):=aj.out (tc.trans sf) R0 _;have eRg:upd Hf R (.lst (ys++[V.ref tdd])) R=UE (.lst (ys++[V.ref tdd])):=ao;have mg:Sm (R::s.Q) Hf (upd Hf R (.lst (ys++[V.ref tdd]))):=Sm.at LB _;have fg:aS N (del (R::s.Q) (upd Hf R (.lst (ys++[V.ref tdd])))) (hs.map Fr.leaf++br des++[.main]) (ys++[V.ref tdd]):=by
  refine Paired.two (aS.same (Sm.del ((Sm.new sf).trans mg)) fr) (.cons ?_ .nil);have n1:tdd∉R::s.Q:=λm=>by
   rcases Lu.mp m with z|z
   ·rw[z,eR]at htd;cases htd
   exact B.a.new htd (Sa.qm z)
  exact fr0 (aI n1 (mg _ _ n1 ef)) rfl
 have Bg:BAt N (upd Hf R (.lst (ys++[V.ref tdd]))) s g [] (ir des) [] []:=B.with Ag;generalize upd Hf R (.lst (ys++[V.ref tdd]))=Hg at sg eRg fg Bg⊢;clear Ag mg;refine K1 _ _ ?_;clear K1 M1;try dsimp only
 refine ag λM1 K1=>{c,19,rfl,∅,∅,λm2 m20 m21=>{by show(0:Int)<33;decide,?_}};obtain⟨k6,ek6⟩:∃n:Nat,4+m2%33=(n:Int):={(4+m2%33).toNat,by have:=bP m2 (show(0:Int)<33 by decide);lia};have k6l:k6<=36:=by have:=bP m2 (show(0:Int)<33 by decide);lia
 refine{a,ns,av,k6,by rw[<-ek6];rfl,sg.seq hA,(),(),λCL cs Hh sh fh eh lh=>K1 _ _ ?_};clear K1 M1;try dsimp only
 refine{LH _,λpp hpp=>?_};obtain⟨sp,ep⟩:=alc hpp (HO.lst []);generalize upd Hh pp _=Hp' at sp ep⊢;refine{N,s.F,pp,[],rfl,(sg.trans (sh.trans sp)) _ _ hN,ep,∅,λsc Hi si fi eSc=>?_};have sgi:=(sh.trans sp).trans si;have Bi:=Bg.same sgi;refine{N,s,g,[],ir des,CL,sc,cs,800,rfl,Bi,aI (Bg.a.new fh) ((sp.trans si) _ _ eh),(),eSc s.M λx hx=>(Bg.same (sh.trans sp)).a.in hx,hdd,λR2 zs ts g2 Hj sj hR2 eR2 fr2 ok2 dp2 ln2 B2 gd2=>?_};have tj:aj H Hj:=Sm.same sj (sg.trans sgi) qH;have eRj:Hj R=UE (.lst (ys++[V.ref tdd])):=sj _ _ RQ (sgi _ _ eRg);have lz:=Oe fr2;rw[Ll,Lo]at lz;refine{R,R2,_,_,rfl,rfl,eRj,eR2,sz (by rw[Ll,Lo];lia),λR3 hR3=>?_};have sk:=aj.upd hR3 (.lst (ys++[V.ref tdd]++zs));refine q R3 _ hs des ts _ (tj.trans sk) (aj.free tj hR3) ao ?_ {⟨rk,z,tt,ehs,hrk,z1,z4,t11⟩,dl,dk,ok2,dp2,()};unfold flA;rw[show hs.map Fr.leaf++br des++ .main::(au ts++[.fin])=hs.map Fr.leaf++br des++[.main]++(au ts++[.fin]) by simp];refine Paired.two (aS.same (λx o h=>?_) fg) (aS.same (λx o h=>sk _ _ (b5 h).2) fr2);obtain⟨h1,h2⟩:=b5 h;exact sk _ _ (sj _ _ (λm=>h1 (Lx _ m)) (sgi _ _ h2))
noncomputable def rsH(X H H':Hp):Hp:=λb=>if((X b).isSome||(H b).isNone)=true then H' b else UG
theorem qG{X H H':Hp}{b:N6}{o:HO}(h:rsH X H H' b=UE o):((X b).isSome||(H b).isNone)=true/\H' b=UE o:=by
 unfold rsH at h;split at h
 ·next c=>exact⟨c,h⟩
 cases h
theorem wL{X H H':Hp}{b:N6}{o:HO}(c:((X b).isSome||(H b).isNone)=true)(h:H' b=UE o):rsH X H H' b=UE o:=by
 unfold rsH;rw[if_pos c];exact h
theorem vy{X H H':Hp}:aj (rsH X H H') H':=λb o h=>(qG h).2
theorem fw{X H H' H'':Hp}(s:aj H' H''):aj (rsH X H H') (rsH X H H''):=λb o h=>wL (qG h).1 (s _ _ (qG h).2)
theorem nW{X H H1 H':Hp}(d:∀b,H1 b=UG->H b=UG):aj (rsH X H1 H') (rsH X H H'):=λb o h=>by
 obtain⟨c,e⟩:=qG h;refine wL ?_ e;rcases Bool.or_eq_true_iff.mp c with c|c
 ·rw[c];rfl
 rw[d b (Option.isNone_iff_eq_none.mp c)];simp
theorem jJ{X H H':Hp}(s:aj X H'):aj X (rsH X H H'):=λb o h=>wL (by rw[h];rfl) (s _ _ h)
theorem cJ{X H H':Hp}{b:N6}{o:HO}(n:H b=UG)(h:H' b=UE o):rsH X H H' b=UE o:=wL (by rw[n];simp) h
theorem nh{X H H':Hp}{D:N6}{o:HO}(n:X D=UG)(e:H D≠UG):aj (rsH X H H') (rsH X H (upd H' D o)):=λb u h=>by
 obtain⟨c,z⟩:=qG h;refine wL c (az (λy=>?_) z);rw[y,n]at c;rcases Bool.or_eq_true_iff.mp c with c|c
 ·cases c
 exact e (Option.isNone_iff_eq_none.mp c)
theorem UT{H H':Hp}(s:aj H H'):∀b,H' b=UG->H b=UG:=λb h=>aj.free s h
noncomputable def wdI(j:Nat):Str:=(["","hand","given","own","let","set","put","send","say","call","last"]:List Str).getD j ""
theorem zF(r:Lr):r.wd=wdI r.ci:=by cases r<;>rfl
theorem zY(r:Lr):1<=r.ci/\r.ci<=10:=by cases r<;>simp[Lr.ci]
theorem D8:∀i:Fin 11,∀j:Fin 11,wdI i.val=wdI j.val->i.val=j.val:=by decide+kernel
theorem nC{r:Lr}{j:Nat}(z:decide (V.str r.wd=V.str (wdI j))=true)(hj:j<11:=by decide):r.ci=j:=by
 have h:=V.str.inj (of_decide_eq_true z);rw[zF]at h;have:=zY r;exact D8 {r.ci,()} ⟨j,hj⟩ h
theorem nY{r:Lr}{j:Nat}(z:¬ decide (V.str r.wd=V.str (wdI j))=true):r.ci≠j:=λe=>z (decide_eq_true (by rw[zF,e]))
inductive xr(A:Adr)(vs:List V)(H:Hp)(Q:VK)(Z:XK):Prop
 |mk(N:Nat->Str)(X:Hp)(v:V)(n:Int)(r:Lr)(z0:vs=[v,.int n])(z1:aj X H)(z2:j4 N X v (.leaf r))
  (z3:∀(a:N6)(H':Hp),aj H H'->H a=UG->aY A N (rsH X H H') (.ref a) (.leaf n r)->Q (.ref a) H'):xr A vs H Q Z
theorem zc{H:Hp}{x dx:N6}{R:VK}{v0:V}(T:Txt K mg A)(hx:H x=UG)(hd:H dx=UG)(q:∀(H':Hp),aj H H'->H' x=UE (.ins A.dg dx [("number",v0)])->R .non H'):fH K A (.ref x::([v0]++[])) (upd (upd H dx (.own x)) x (.ins A.dg dx [])) R E0:=
 {x,A.dg,dx,[],_,rfl,ao,T.gn.cl,T.eZ,∅,q _ (aj.out (aj.out (aj.upd hd _) hx _) hx _) ao}
theorem zm(T:Txt K mg A):T.jI.Hz P w base 5 (xr A):=by
 have fB:=mE (P:=P) (w:=w) (mg:=mg) (base:=base) (A:=A) T.lC;refine T.jI.hs (k:=4) pO (λf cdv A' outer s H vs Q E hr hu h=>?_);obtain⟨N,X,v,n,r,rfl,s0,⟨a,p,rfl,h1,h2⟩,q⟩:=h;have hT:=SqT.of (K:=K) (s0 _ _ h1);refine{_,(ab (aL (ptc (bV hu) (px hu (fv 0) af) ar)
   (ai (aA (cf T.jh (rX T) hr (fv 1^px hu (fv 0) af^px hu (fv 0) af^ae))))
   aC)
  (ab (aL (ptc (bV hu) (px hu (fv 0) af) ar)
   (ai (aA (cf T.ie (pK T) hr (fv 1^px hu (fv 0) af^px hu (fv 0) af^px hu (fv 0) af^ae))))
   aC)
  (ab (aL (ptc (bV hu) (px hu (fv 0) af) ar)
   (ai (aA (cf T.lB (tI T) hr (fv 1^px hu (fv 0) af^px hu (fv 0) af^ae))))
   aC)
  (ab (aL (ptc (bV hu) (px hu (fv 0) af) ar)
   (ai (aA (cf T.kR (sZ T) hr (fv 1^px hu (fv 0) af^px hu (fv 0) af^ae))))
   aC)
  (ab (aL (ptc (bV hu) (px hu (fv 0) af) ar)
   (ai (aA (cf T.eE (tE T) hr (fv 1^px hu (fv 0) af^px hu (fv 0) af^ae))))
   aC)
  (ab (aL (ptc (bV hu) (px hu (fv 0) af) ar)
   (ai (aA (cf T.dJ (tF T) hr (fv 1^px hu (fv 0) af^px hu (fv 0) af^px hu (fv 0) af^ae))))
   aC)
  (ab (aL (ptc (bV hu) (px hu (fv 0) af) ar)
   (ai (aA (cf T.dz (q5 T) hr (fv 1^px hu (fv 0) af^px hu (fv 0) af^ae))))
   aC)
  (ab (aL (ptc (bV hu) (px hu (fv 0) af) ar)
   (ai (aA (cf T.cm (sV T) hr (fv 1^px hu (fv 0) af^px hu (fv 0) af^px hu (fv 0) af^ae))))
   aC)
  (ab (aL (ptc (bV hu) (px hu (fv 0) af) ar)
   (ai (aA (cf T.b8 (sr T) hr (fv 1^px hu (fv 0) af^pcT qp T.cW (px hu (fv 0) af^ae)^ae))))
   aC)
  (ai (aA (cf T.gn fB hr (fv 1^ae))))))))))))),?_}
 refine ag λM1 K1=>tix (j:=0) hT rfl {rfl,_,rfl,aR (λz=>?_) (λz1=>K1 _ _ ?_)}
 ·have ec:=nC (j:=1) z;cases r with
  |hand i r=>
   refine tix (j:=1) hT rfl (tix (j:=2) hT rfl (λr6 dx6 hr6 hd_ hne_=>{_,_,_,_,_,_,rfl,rfl,hr6,hd_,λH6 s6 hx=>{rfl,q r6 H6 s6 hr6 ?_}}));unfold aY;exact{r6,dx6,p,rfl,cJ hr6 hx,λo ho=>jJ (s0.trans s6) _ _ (h2 o ho)}
  |_=>cases ec
 clear K1 M1;refine ag λM1 K1=>tix (j:=0) hT rfl {rfl,_,rfl,aR (λz=>?_) (λz2=>K1 _ _ ?_)}
 ·have ec:=nC (j:=2) z;cases r with
  |giv i r z=>
   refine tix (j:=1) hT rfl (tix (j:=2) hT rfl (tix (j:=3) hT rfl (λr6 dx6 hr6 hd_ hne_=>{_,_,_,_,_,_,_,rfl,rfl,hr6,hd_,λH6 s6 hx=>{rfl,q r6 H6 s6 hr6 ?_}})));unfold aY;exact{r6,dx6,p,rfl,cJ hr6 hx,λo ho=>jJ (s0.trans s6) _ _ (h2 o ho)}
  |_=>cases ec
 clear K1 M1;refine ag λM1 K1=>tix (j:=0) hT rfl {rfl,_,rfl,aR (λz=>?_) (λz3=>K1 _ _ ?_)}
 ·have ec:=nC (j:=3) z;cases r with
  |own i z=>
   refine tix (j:=1) hT rfl (tix (j:=2) hT rfl (λr6 dx6 hr6 hd_ hne_=>{_,_,_,_,_,_,rfl,rfl,hr6,hd_,λH6 s6 hx=>{rfl,q r6 H6 s6 hr6 ?_}}));unfold aY;exact{r6,dx6,p,rfl,cJ hr6 hx,λo ho=>jJ (s0.trans s6) _ _ (h2 o ho)}
  |_=>cases ec
 clear K1 M1;refine ag λM1 K1=>tix (j:=0) hT rfl {rfl,_,rfl,aR (λz=>?_) (λz4=>K1 _ _ ?_)}
 ·have ec:=nC (j:=4) z;cases r with
  |lt i r=>
   refine tix (j:=1) hT rfl (tix (j:=2) hT rfl (λr6 dx6 hr6 hd_ hne_=>{_,_,_,_,_,_,rfl,rfl,hr6,hd_,λH6 s6 hx=>{rfl,q r6 H6 s6 hr6 ?_}}));unfold aY;exact{r6,dx6,p,rfl,cJ hr6 hx,λo ho=>jJ (s0.trans s6) _ _ (h2 o ho)}
  |_=>cases ec
 clear K1 M1;refine ag λM1 K1=>tix (j:=0) hT rfl {rfl,_,rfl,aR (λz=>?_) (λz5=>K1 _ _ ?_)}
 ·have ec:=nC (j:=5) z;cases r with
  |set x v=>
   refine tix (j:=1) hT rfl (tix (j:=2) hT rfl (λr6 dx6 hr6 hd_ hne_=>{_,_,_,_,_,_,rfl,rfl,hr6,hd_,λH6 s6 hx=>{rfl,q r6 H6 s6 hr6 ?_}}));unfold aY;exact{r6,dx6,p,rfl,cJ hr6 hx,λo ho=>jJ (s0.trans s6) _ _ (h2 o ho)}
  |_=>cases ec
 clear K1 M1;refine ag λM1 K1=>tix (j:=0) hT rfl {rfl,_,rfl,aR (λz=>?_) (λz6=>K1 _ _ ?_)}
 ·have ec:=nC (j:=6) z;cases r with
  |put x t v=>
   refine tix (j:=1) hT rfl (tix (j:=2) hT rfl (tix (j:=3) hT rfl (λr6 dx6 hr6 hd_ hne_=>{_,_,_,_,_,_,_,rfl,rfl,hr6,hd_,λH6 s6 hx=>{rfl,q r6 H6 s6 hr6 ?_}})));unfold aY;exact{r6,dx6,p,rfl,cJ hr6 hx,λo ho=>jJ (s0.trans s6) _ _ (h2 o ho)}
  |_=>cases ec
 clear K1 M1;refine ag λM1 K1=>tix (j:=0) hT rfl {rfl,_,rfl,aR (λz=>?_) (λz7=>K1 _ _ ?_)}
 ·have ec:=nC (j:=7) z;cases r with
  |snd h v=>
   refine tix (j:=1) hT rfl (tix (j:=2) hT rfl (λr6 dx6 hr6 hd_ hne_=>{_,_,_,_,_,_,rfl,rfl,hr6,hd_,λH6 s6 hx=>{rfl,q r6 H6 s6 hr6 ?_}}));unfold aY;exact{r6,dx6,p,rfl,cJ hr6 hx,λo ho=>jJ (s0.trans s6) _ _ (h2 o ho)}
  |_=>cases ec
 clear K1 M1;refine ag λM1 K1=>tix (j:=0) hT rfl {rfl,_,rfl,aR (λz=>?_) (λz8=>K1 _ _ ?_)}
 ·have ec:=nC (j:=8) z;cases r with
  |say x v m=>
   refine tix (j:=1) hT rfl (tix (j:=2) hT rfl (tix (j:=3) hT rfl (λr6 dx6 hr6 hd_ hne_=>{_,_,_,_,_,_,_,rfl,rfl,hr6,hd_,λH6 s6 hx=>{rfl,q r6 H6 s6 hr6 ?_}})));unfold aY;exact{r6,dx6,p,rfl,cJ hr6 hx,λo ho=>jJ (s0.trans s6) _ _ (h2 o ho)}
  |_=>cases ec
 clear K1 M1;refine ag λM1 K1=>tix (j:=0) hT rfl {rfl,_,rfl,aR (λz=>?_) (λz9=>K1 _ _ ?_)}
 ·have ec:=nC (j:=9) z;cases r with
  |call i ts=>
   have hp:=h2 _ rfl;refine tix (j:=1) hT rfl (tix (j:=2) hT rfl (LL {p,_,rfl,LL (SqL.of (s0 _ _ hp)),λl hl=>?_}));obtain⟨s1,e1⟩:=alc hl (HO.lst (ts.map (Th.v N)));generalize upd H l _=H1 at s1 e1⊢;refine λr6 dx6 hr6 hd_ hne_=>{_,_,_,_,_,_,_,rfl,rfl,hr6,hd_,SqL.of e1,λn6 H6 f6 s6 h6 hx=>{rfl,q r6 H6 (s1.trans s6) (aj.free s1 hr6) ?_}};unfold aY;exact{r6,dx6,n6,rfl,cJ (aj.free s1 hr6) hx,λo ho=>by cases ho;exact cJ (aj.free s1 f6) h6}
  |_=>cases ec
 clear K1 M1;have c:=zY r;have e10:r.ci=10:=by
  have:=nY (j:=1) z1;have:=nY (j:=2) z2;have:=nY (j:=3) z3;have:=nY (j:=4) z4;have:=nY (j:=5) z5;have:=nY (j:=6) z6;have:=nY (j:=7) z7;have:=nY (j:=8) z8;have:=nY (j:=9) z9;lia
 cases r with
 |last=>
  refine λr6 dx6 hr6 hd_ hne_=>zc T hr6 hd_ λH6 s6 hx=>{rfl,q r6 H6 s6 hr6 ?_};unfold aY;exact{r6,dx6,p,rfl,cJ hr6 hx,λo ho=>by cases ho}
 |_=>cases e10
mutual
noncomputable def ptT(n:Int):Tr->Pt
 | .leaf r=>.leaf n r
 | .iff v l r f o=>.iff n v l r (aU (n+1) f) (aU (n+2+((au f).length:Nat)) o)
 | .loop t m l r b=>.loop n t m l r (aU (n+1) b)
noncomputable def aU(n:Int):List Tr->List Pt
 | []=>[]
 |t::ts=>ptT n t::aU (n+((flT t).length:Nat)) ts
end
theorem wG:∀(a:List Tr)(n:Int)(b:List Tr),aU n (a++b)=aU n a++aU (n+((au a).length:Nat)) b
 | [],n,b=>by
  rw[L6,aU,au,L6];congr 1;simp
 |t::a,n,b=>by
  rw[L8,aU,aU,wG a,au,Ll,L8];congr 3;push_cast
  lia
theorem Bw(n:Int)(t:Tr):aU n [t]=[ptT n t]:=by rw[aU,aU]
theorem xc:∀(a:List Tr)(n:Int),(aU n a).length=a.length
 | [],n=>by rw[aU];rfl
 |t::a,n=>by rw[aU,Lq,Lq,xc a]
noncomputable def hdF:Tr->Fr
 | .leaf r=>.leaf r
 | .iff v l r _ _=>.iff v l r
 | .loop t m l r _=>.loop t m l r
theorem BZ(t:Tr):∃tl,flT t=hdF t::tl:=by
 cases t with
 |leaf r=>exact{[],by rw[flT];rfl}
 |iff v l r f o=>exact{_,by rw[flT];rfl}
 |loop t m l r b=>exact{_,by rw[flT];rfl}
theorem zi:∀a:List Tr,a.length<=(au a).length
 | []=>LH _
 |t::a=>by
  obtain⟨tl,e⟩:=BZ t;have:=zi a;rw[au,e,Ll,Lq,Lq];lia
theorem aF.snoc{X:Hp}:∀{ts:List Pt}{vs:List V}{x:V}{t:Pt},aF A N X vs ts->aY A N X x t->aF A N X (vs++[x]) (ts++[t])
 | [],vs,x,t,h,h'=>by
  unfold aF at h;subst h;exact aF.one h'
 |u::ts,vs,x,t,h,h'=>by
  unfold aF at h;obtain⟨y,ys,rfl,h1,h2⟩:=h;exact aF.cons h1 (aF.snoc h2 h')
theorem gD{X:Hp}{fs:List Fr}{xs:List V}(h:aS N X fs xs){a b:List Fr}{f:Fr}(e:fs=a++f::b):∃v,atI xs (a.length:Int)=UE v/\j4 N X v f:=by
 obtain⟨v,hv,fv⟩:=jG (i:=a.length) (a:=f) h (by rw[e,L7 (Ln _),MD];rfl);exact⟨v,jz hv,fv⟩
noncomputable def xw(f:Fr):Bool:=match f with
 | .els=>true
 | .fin=>true
 |_=>false
theorem qi(f:Fr):inV (V.str f.wd) [V.str "else",V.str "end"]=xw f:=by
 cases f with
 |leaf r=>cases r<;>rfl
 |_=>rfl
theorem Fw{F:N6}{H H':Hp}(s:Sm [F] H H')(hF:H' F≠UG):∀b,H' b=UG->H b=UG:=λb h=>by
 cases e:H b with
 |none=>rfl
 |some o=>
  by_cases z:b=F
  ·rw[z]at h;exact absurd h hF
  rw[s b o (λm=>z (Lp.mp m)) e]at h;cases h
theorem El:∀i:Fin 11,wdI i.val≠"if"/\wdI i.val≠"loop":=by decide+kernel
theorem iD(r:Lr):¬ decide (V.str r.wd=V.str "if")=true/\¬ decide (V.str r.wd=V.str "loop")=true:=by
 have:=zY r;have h:=El {r.ci,()};rw[zF];exact{λz=>h.1 (V.str.inj (of_decide_eq_true z)),λz=>h.2 (V.str.inj (of_decide_eq_true z))}
inductive qy(A:Adr)(d:Nat)(vs:List V)(H:Hp)(Q:VK)(Z:XK):Prop
 |mk(N:Nat->Str)(X:Hp)(L:N6)(xs:List V)(fs pre post:List Fr)(ts:List Tr)(st:Fr)(z0:vs=[.ref L,.int (pre.length:Nat)])(z1:aj X H)(z2:X L=UE (.lst xs))(z3:aS N X fs xs)(z4:fs=pre++au ts++st::post)(z5:xw st=true)(z6:bN ts<=d)(z7:xs.length<=300)
  (z8:∀(p R:N6)(ys:List V)(H':Hp),aj H H'->H' p=UE (.tup [.ref R,.int ((pre.length+(au ts).length:Nat):Int)])->H' R=UE (.lst ys)->aF A N (rsH X H H') ys (aU ((pre.length:Nat)+1) ts)->Q (.ref p) H'):qy A d vs H Q Z
inductive DW(ts:List Tr)(L:N6)(pre:List Fr)(F:N6)(H1:Hp)(A:Adr)(N:Nat->Str)(X:Hp)(m:Nat)(σ:St)(Hc:Hp):Prop
 |mk(dn rest:List Tr)(ys:List V)(v3 v4 v5 v6 v7:Option V):ts=dn++rest->rest.length=m->σ=[UE (.ref L),UE (.int ((pre.length+(au dn).length:Nat):Int)),UE (.ref F),v3,v4,v5,v6,v7]->Sm [F] H1 Hc->Hc F=UE (.lst ys)->aF A N (rsH X H1 Hc) ys (aU ((pre.length:Nat)+1) dn)->DW ts L pre F H1 A N X m σ Hc
inductive Bx(m:Nat)(ts:List Tr)(L:N6)(pre:List Fr)(F:N6)(H1:Hp)(A:Adr)(N:Nat->Str)(X:Hp)(σ:St)(Hc:Hp):Prop
 |mk(dn rest:List Tr)(ys:List V)(v3 v4 v5 v6 v7:Option V)(m':Nat):m'<m->ts=dn++rest->rest.length=m'->σ=[UE (.ref L),UE (.int ((pre.length+(au dn).length:Nat):Int)),UE (.ref F),v3,v4,v5,v6,v7]->Sm [F] H1 Hc->Hc F=UE (.lst ys)->aF A N (rsH X H1 Hc) ys (aU ((pre.length:Nat)+1) dn)->Bx m ts L pre F H1 A N X σ Hc
theorem zR(T:Txt K mg A)(d j:Nat)(hj:5<=j)(dA:T.cV.Hz P w base j (spN (qy A) d)):T.cV.Hz P w base (j+1) (qy A d):=by
 refine T.cV.hs (k:=j) aT (λf cdv A' outer s H vs Q E hr hu h=>?_);obtain⟨N,X,L,xs,fs,pre,post,ts,st,rfl,s0,hL,fr,efs,hst,dp,lx,q⟩:=h;have lfs:fs.length<=300:=by rw[Oe fr];exact lx
 refine{_,(ab (pst 2 aT.nd (aN ae))
  (ab (js Oq (ptc (kU hu) (px hu (px hu (fv 0) (fv 1)) af) (aP (ar^ar^ae)) ((by with_unfolding_all rfl)))
   (ab (pst 3 aT.nd (px hu (fv 0) (fv 1)))
   (ab (pst 4 aT.nd (aw aD (fv 1) af))
   (ab (aL (ptc (bV hu) (px hu (fv 3) af) ar)
    (ab (bM (ak (hj:=by lia) dA hr (fv 0^aw aD (fv 1) af^ae)) (cL rfl (aH (pgn (i:=5) aT.nd rfl) (aH (pgn (i:=1) aT.nd rfl) bU))))
    (ab (bM (ak (hj:=by lia) dA hr (fv 0^aw aD (fv 1) af^ae)) (cL rfl (aH (pgn (i:=6) aT.nd rfl) (aH (pgn (i:=1) aT.nd rfl) bU))))
    (ai (aK (bu (fv 2) ((cf (hj:=by lia) T.b6 (vI T) hr (fv 4^px hu (fv 3) af^fv 5^fv 6^px hu (fv 3) af^px hu (fv 3) af^ae))^ae))))))
    (ai (aL (ptc (bV hu) (px hu (fv 3) af) ar)
     (ab (bM (ak (hj:=by lia) dA hr (fv 0^aw aD (fv 1) af^ae)) (cL rfl (aH (pgn (i:=7) aT.nd rfl) (aH (pgn (i:=1) aT.nd rfl) bU))))
     (ai (aK (bu (fv 2) ((cf (hj:=by lia) T.bA (sy T) hr (fv 4^px hu (fv 3) af^px hu (fv 3) af^fv 7^px hu (fv 3) af^px hu (fv 3) af^ae))^ae)))))
     (ai (aK (bu (fv 2) ((ak (hj:=by lia) (zm T) hr (fv 3^fv 4^ae))^ae)))))))
   (ai (pst 1 aT.nd (aw aD (fv 1) af)))))))
  (ai (aA (aP (fv 2^fv 1^ae)))))),?_}
 refine ag λM1 K1=>{LH _,λF hF=>?_};obtain⟨s1,e1⟩:=alc hF (HO.lst []);generalize upd H F _=H1 at s1 e1⊢;have XF:X F=UG:=aj.free s0 hF;have H1F:H1 F≠UG:=by rw[e1];simp
 have FL:L≠F:=λz=>by rw[z,XF]at hL;cases hL
 refine K1 _ _ ?_;clear K1 M1;try dsimp only
 refine ag λM1 K1=>{DW ts L pre F H1 A N X,{ts.length,[],ts,[],UG,UG,UG,UG,UG,rfl,rfl,rfl,Sm.refl _ _,e1,by rw[aU];exact aF.nil},?_};rintro m σ Hc ⟨dn,rest,ys,v3,v4,v5,v6,v7,ets,em,rfl,sc,hFc,pt⟩;have sX:aj X Hc:=sc.same (s0.trans s1) (λm hm=>by rw[Lp.mp hm];exact XF);have sH:aj H Hc:=sc.same s1 (λm hm=>by rw[Lp.mp hm];exact hF);have hLc:=SqL.of (K:=K) (sX _ _ hL);have nb:=Fw sc (by rw[hFc];simp);cases rest with
 |nil=>
  rw[LQ]at ets;subst ets;obtain⟨v,av,⟨a,p,rfl,ha,_⟩⟩:=gD fr (a:=pre++au ts) (f:=st) (b:=post) efs;rw[Ll]at av;refine lix hLc av (tix (j:=0) (SqT.of (sX _ _ ha)) rfl {by show 2<=sizeLine;decide,λtp htp=>?_});have st':=aj.upd htp (.tup [V.str "else",.str "end"]);refine LL {_,MY (SqT.of ao),rfl,rfl,_,rfl,aR (λz=>absurd z (by show ¬ (!inV (V.str st.wd) [V.str "else",V.str "end"])=true;rw[qi,hst];decide)) (λ_=>K1 _ _ {by show 2<=sizeLine;decide,λp hp=>?_})};have s5:=aj.upd hp (.tup [V.ref F,.int ((pre.length+(au ts).length:Nat):Int)]);exact q p F ys _ (sH.trans (st'.trans s5)) ao ((st'.trans s5) _ _ hFc) (aF.same (nW (UT s1)) _ _ (aF.same (fw (st'.trans s5)) _ _ pt))
 |cons t rest=>
 clear K1;obtain⟨tl,et⟩:=BZ t;have efs':fs=(pre++au dn)++hdF t::(tl++au rest++st::post):=by
  rw[efs,ets,dm,au,et];simp
 obtain⟨v,av,fv'⟩:=gD fr efs';rw[Ll]at av;have fv0:=fv';obtain⟨a,p,rfl,ha,hob⟩:=fv';have nstop:xw (hdF t)=false:=by cases t<;>rfl
 refine lix hLc av (tix (j:=0) (SqT.of (sX _ _ ha)) rfl {by show 2<=sizeLine;decide,λtp htp=>?_});obtain⟨s2,e2⟩:=alc htp (HO.tup [V.str "else",.str "end"]);generalize upd Hc tp _=H2 at s2 e2⊢;refine LL {_,MY (SqT.of e2),rfl,rfl,_,rfl,aR (λ_=>?_) (λz=>absurd (by show(!inV (V.str (hdF t).wd) [V.str "else",V.str "end"])=true;rw[qi,nstop];rfl) z)};refine{Bx m ts L pre F H1 A N X,λσ Hc ⟨dn,rest,ys,v3,v4,v5,v6,v7,m',hm',h1,h2,h3,h4,h5,h6⟩=>⟨m',hm',dn,rest,ys,v3,v4,v5,v6,v7,h1,h2,h3,h4,h5,h6⟩,?_};have sX2:=sX.trans s2;have dlen:=zi dn;have lf:pre.length+(au dn).length+1<=fs.length:=by
  have:=congrArg Pw efs';simp only[Ll,Lq]at this;lia
 have ly:ys.length=dn.length:=by rw[pt.len,xc]
 have dpt:dpT t<=d:=by
  rw[ets,lN,bN]at dp;lia
 try dsimp only
 refine ag λN1 J1=>lix (s2.seq hLc) av (J1 _ _ ?_);clear J1 N1;try dsimp only
 refine ag λN1 J1=>J1 _ _ ?_;clear J1 N1;try dsimp only
 refine ag λN1 J1=>?_;have hF2:=s2 _ _ hFc;have fin:∀(x:V)(H4:Hp)(u5 u6 u7:Option V)(at':Int),aj H2 H4->aY A N (rsH X H2 H4) x (ptT (((pre.length+(au dn).length:Nat):Int)+1) t)->at'+1=((pre.length+(au dn).length+(flT t).length:Nat):Int)->
   N1 [UE (.ref L),UE (.int at'),UE (.ref F),UE (.ref a),UE (.int (((pre.length+(au dn).length:Nat):Int)+1)),u5,u6,u7] (upd H4 F (.lst (ys++[x]))):=by
  intro x H4 u5 u6 u7 at' s4 pa ea
  refine J1 _ _ ?_
  have s5:Sm [F] H4 (upd H4 F (.lst (ys++[x]))):=Sm.at (Lp.mpr rfl) _
  have em':rest.length+1=m:=em
  refine{dn++[t],rest,ys++[x],UE (.ref a),UE (.int (((pre.length+(au dn).length:Nat):Int)+1)),u5,u6,u7,rest.length,(),by rw[ets];simp,rfl,?_,(sc.trans (Sm.new (s2.trans s4))).trans s5,ao,?_}
  ·show[_,UE (V.int (at'+1)),_,_,_,_,_,_]=_;rw[ea,dm,nM,Ll,MO]
  rw[wG,Bw,show((pre.length:Nat):Int)+1+((au dn).length:Nat)=((pre.length+(au dn).length:Nat):Int)+1 by push_cast;lia]
  refine aF.snoc (aF.same (nh XF H1F) _ _ (aF.same (fw (s2.trans s4)) _ _ pt)) (aY.same (nh XF H1F) _ _ (aY.same (nW λb h=>nb b (aj.free s2 h)) _ _ pa))
 clear J1;have hT2:=SqT.of (K:=K) (sX2 _ _ ha);have szy:∀{n:Nat},n=ys.length->n<sizeLine:=λe=>aQ ();cases t with
 |leaf r=>
  refine tix (j:=0) hT2 rfl {rfl,_,rfl,aR (λz=>absurd z (iD r).1) (λ_=>tix (j:=0) hT2 rfl {rfl,_,rfl,aR (λz=>absurd z (iD r).2) (λ_=>{LL {rfl,_,SqL.of hF2},N,X,_,_,r,rfl,sX2,fv0,λb H4 s4 hb pb=>{_,_,_,rfl,rfl,s4 _ _ hF2,szy rfl,fin _ H4 _ _ _ _ s4 (by rw[ptT];exact pb) (by rw[flT];push_cast;rfl)}})})}
 |iff vv l r ff oo=>
  have hp:=hob _ rfl;rw[dpT]at dpt;cases d with
  |zero=>lia
  |succ d=>
  refine tix (j:=0) hT2 rfl {rfl,_,rfl,aR (λ_=>?_) (λz=>absurd (show decide (V.str "if"=V.str "if")=true from decide_eq_true rfl) z)};have e1':fs=(pre++au dn++[.iff vv l r])++au ff++ .els::(au oo++ .fin::(au rest++st::post)):=by
   rw[efs,ets,dm,au,flT];simp
  have e2':fs=(pre++au dn++[.iff vv l r]++au ff++[.els])++au oo++ .fin::(au rest++st::post):=by
   rw[e1'];simp
  have l1:(pre++au dn++[Fr.iff vv l r]).length=pre.length+(au dn).length+1:=by simp only[Ll,Lo]
  have l2:(pre++au dn++[Fr.iff vv l r]++au ff++[Fr.els]).length=pre.length+(au dn).length+1+(au ff).length+1:=by simp only[Ll,Lo]
  refine ag λN2 J2=>{N,X,L,xs,fs,_,_,ff,.els,by rw[l1];push_cast;rfl,sX2,hL,fr,e1',rfl,(),lx,λp1 R1 y1 H3 s3 ep1 eR1 pt1=>{p1,_,rfl,SqT.of ep1,rfl,_,_,rfl,_,_,rfl,rfl,J2 _ _ ?_}};clear J2 N2;have sX3:=sX2.trans s3;try dsimp only
  refine ag λN2 J2=>{N,X,L,xs,fs,_,_,oo,.fin,by rw[l1,l2];push_cast;rfl,sX3,hL,fr,e2',rfl,(),lx,λp2 R2 y2 H4 s4 ep2 eR2 pt2=>{p2,_,rfl,SqT.of ep2,rfl,_,_,rfl,_,_,rfl,rfl,J2 _ _ ?_}};clear J2 N2;have s34:=s3.trans s4;have hT4:=s34.tup hT2;try dsimp only
  refine{LL {rfl,_,SqL.of (s34 _ _ hF2)},tix (j:=1) hT4 rfl (tix (j:=2) hT4 rfl (tix (j:=3) hT4 rfl (λr6 dx6 hr6 hd_ hne_=>{_,_,_,_,_,_,_,_,_,_,_,rfl,rfl,hr6,hd_,SqL.of (s4 _ _ eR1),SqL.of eR2,λn6 n7 H6 f6 f7 s6 h6 h7 hx=>{rfl,?_}})))};have s26:=s34.trans s6;refine{_,_,_,rfl,rfl,s26 _ _ hF2,szy rfl,fin _ H6 _ _ _ _ s26 ?_ ?_}
  ·rw[ptT];unfold aY;rw[l1]at pt1;rw[l2]at pt2;refine{r6,dx6,p,n6,n7,y1,y2,rfl,cJ (aj.free s34 hr6) hx,jJ (sX2.trans s26) _ _ hp,cJ (aj.free s34 f6) h6,cJ (aj.free s34 f7) h7,?_,?_}
   ·have:=aF.same (fw (s4.trans s6)) _ _ pt1;push_cast at this⊢
    exact this
   have:=aF.same (nW (UT s3)) _ _ (aF.same (fw s6) _ _ pt2);push_cast at this⊢
   rw[show(↑pre.length+ ↑(au dn).length+1+2+ ↑(au ff).length:Int)=↑pre.length+ ↑(au dn).length+1+ ↑(au ff).length+1+1 by lia];exact this
  rw[l2,flT];simp only[Lq,Ll,Mi];push_cast
  lia
 |loop th mm l r bb=>
  rw[dpT]at dpt;cases d with
  |zero=>lia
  |succ d=>
  refine tix (j:=0) hT2 rfl {rfl,_,rfl,aR (λz=>absurd z (show ¬ decide (V.str "loop"=V.str "if")=true by decide)) (λ_=>tix (j:=0) hT2 rfl {rfl,_,rfl,aR (λ_=>?_) (λz=>absurd (show decide (V.str "loop"=V.str "loop")=true from decide_eq_true rfl) z)})};have e1':fs=(pre++au dn++[.loop th mm l r])++au bb++ .fin::(au rest++st::post):=by
   rw[efs,ets,dm,au,flT];simp
  have l1:(pre++au dn++[Fr.loop th mm l r]).length=pre.length+(au dn).length+1:=by simp only[Ll,Lo]
  refine ag λN2 J2=>{N,X,L,xs,fs,_,_,bb,.fin,by rw[l1];push_cast;rfl,sX2,hL,fr,e1',rfl,(),lx,λp1 R1 y1 H3 s3 ep1 eR1 pt1=>{p1,_,rfl,SqT.of ep1,rfl,_,_,rfl,_,_,rfl,rfl,J2 _ _ ?_}};clear J2 N2;have hT3:=s3.tup hT2;try dsimp only
  refine{LL {rfl,_,SqL.of (s3 _ _ hF2)},tix (j:=1) hT3 rfl (tix (j:=2) hT3 rfl (tix (j:=3) hT3 rfl (tix (j:=4) hT3 rfl (λr6 dx6 hr6 hd_ hne_=>{_,_,_,_,_,_,_,_,_,_,rfl,rfl,hr6,hd_,SqL.of eR1,λn6 H6 f6 s6 h6 hx=>{rfl,?_}}))))};have s26:=s3.trans s6;refine{_,_,_,rfl,rfl,s26 _ _ hF2,szy rfl,fin _ H6 _ _ _ _ s26 ?_ ?_}
  ·rw[ptT];unfold aY;rw[l1]at pt1;refine{r6,dx6,n6,y1,rfl,cJ (aj.free s3 hr6) hx,cJ (aj.free s3 f6) h6,?_};have:=aF.same (fw s6) _ _ pt1;push_cast at this⊢
   exact this
  rw[l1,flT];simp only[Lq,Ll,Mi];push_cast
  lia
theorem yX(T:Txt K mg A):∀d,T.cV.Hz P w base (d+6) (qy A d)
 |0=>zR T 0 5 (Ln _) (T.cV.hs (k:=4) aT (λ_ _ _ _ _ _ _ _ _ _ _ h=>h.elim) (λ_ _ _ _ h=>h.elim))
 |d+1=>zR T (d+1) (d+6) () (yX T d)
end
section
variable{P:Program}{w:Of}{K:Oc}{mg:Str->Option E9}{base:OC}{A:Adr}{N:Nat->Str}
seal PE PA PS PSs PT PW
noncomputable def hdP(n:Int):List Lr->List Pt
 | []=>[]
 |r::rs=>.leaf n r::hdP (n+1) rs
noncomputable def deP(n:Int):List De->List Pt
 | []=>[]
 |d::ds=>.aZ n d.1 d.2.1 (aU (n+1) d.2.2)::deP (n+((flD d).length:Nat)) ds
theorem Ak:∀(a:List Lr)(n:Int)(b:List Lr),hdP n (a++b)=hdP n a++hdP (n+(a.length:Nat)) b
 | [],n,b=>by
  rw[L6,hdP,L6];congr 1;simp
 |r::a,n,b=>by
  rw[L8,hdP,hdP,Ak a,Lq,L8];congr 3;push_cast
  lia
theorem Ah:∀(a:List De)(n:Int)(b:List De),deP n (a++b)=deP n a++deP (n+((br a).length:Nat)) b
 | [],n,b=>by
  rw[L6,deP,L6];congr 1;simp[br]
 |d::a,n,b=>by
  rw[L8,deP,deP,Ah a,show br (d::a)=flD d++br a from rfl,Ll,L8];congr 3;push_cast
  lia
theorem vU:∀(a:List Lr)(n:Int),(hdP n a).length=a.length
 | [],n=>rfl
 |r::a,n=>by rw[hdP,Lq,Lq,vU a]
theorem qj:∀(a:List De)(n:Int),(deP n a).length=a.length
 | [],n=>rfl
 |r::a,n=>by rw[deP,Lq,Lq,qj a]
theorem wI{M:List N6}{H H':Hp}(s:Sm M H H')(hF:∀m∈M,H' m≠UG):∀b,H' b=UG->H b=UG:=λb h=>by
 cases e:H b with
 |none=>rfl
 |some o=>
  by_cases z:b∈M
  ·exact absurd h (hF b z)
  rw[s b o z e]at h;cases h
noncomputable def dmF(f:Fr):Bool:=match f with
 | .aZ _ _=>true
 | .main=>true
 |_=>false
theorem Di(f:Fr):inV (V.str f.wd) [V.str "deed",V.str "main"]=dmF f:=by
 cases f with
 |leaf r=>cases r<;>rfl
 |_=>rfl
noncomputable def msN(hs:List Lr)(ds:List De):Int:=((hs.length+(br ds).length:Nat):Int)+2
inductive wA(A:Adr)(vs:List V)(H:Hp)(Q:VK)(Z:XK):Prop
 |mk(N:Nat->Str)(X:Hp)(L:N6)(xs:List V)(hs:List Lr)(ds:List De)(mb:List Tr)(z0:vs=[.ref L])(z1:aj X H)(z2:X L=UE (.lst xs))(z3:aS N X (flA hs ds mb) xs)(z4:eN hs ds mb)(z7:xs.length<=300)
  (z8:∀(v:V)(H':Hp),aj H H'->Ee A N H' v (hdP 1 hs) (deP ((hs.length:Nat)+1) ds) (aU (msN hs ds) mb)->Q v H'):wA A vs H Q Z
inductive Br(hs:List Lr)(L:N6)(F:N6)(G:N6)(H2:Hp)(A:Adr)(N:Nat->Str)(X:Hp)(m:Nat)(σ:St)(Hc:Hp):Prop
 |mk(dn rest:List Lr)(ys:List V):hs=dn++rest->rest.length=m->σ=[UE (.ref L),UE (.ref F),UE (.ref G),UE (.int (dn.length:Nat)),UG,UG,UG,UG]->Sm [F,G] H2 Hc->Hc F=UE (.lst ys)->Hc G=UE (.lst [])->aF A N (rsH X H2 Hc) ys (hdP 1 dn)->Br hs L F G H2 A N X m σ Hc
inductive C6(m:Nat)(hs:List Lr)(L:N6)(F:N6)(G:N6)(H2:Hp)(A:Adr)(N:Nat->Str)(X:Hp)(σ:St)(Hc:Hp):Prop
 |mk(dn rest:List Lr)(ys:List V)(m':Nat):m'<m->hs=dn++rest->rest.length=m'->σ=[UE (.ref L),UE (.ref F),UE (.ref G),UE (.int (dn.length:Nat)),UG,UG,UG,UG]->Sm [F,G] H2 Hc->Hc F=UE (.lst ys)->Hc G=UE (.lst [])->aF A N (rsH X H2 Hc) ys (hdP 1 dn)->C6 m hs L F G H2 A N X σ Hc
inductive CF(ds:List De)(L:N6)(F:N6)(G:N6)(hs:List Lr)(H2:Hp)(ys:List V)(A:Adr)(N:Nat->Str)(X:Hp)(m:Nat)(σ:St)(Hc:Hp):Prop
 |mk(dn rest:List De)(zs:List V)(v4 v5 v6:Option V):ds=dn++rest->rest.length=m->σ=[UE (.ref L),UE (.ref F),UE (.ref G),UE (.int ((hs.length+(br dn).length:Nat):Int)),v4,v5,v6,UG]->Sm [F,G] H2 Hc->Hc F=UE (.lst ys)->Hc G=UE (.lst zs)->aF A N (rsH X H2 Hc) ys (hdP 1 hs)->aF A N (rsH X H2 Hc) zs (deP ((hs.length:Nat)+1) dn)->CF ds L F G hs H2 ys A N X m σ Hc
inductive Dx(m:Nat)(ds:List De)(L:N6)(F:N6)(G:N6)(hs:List Lr)(H2:Hp)(ys:List V)(A:Adr)(N:Nat->Str)(X:Hp)(σ:St)(Hc:Hp):Prop
 |mk(dn rest:List De)(zs:List V)(v4 v5 v6:Option V)(m':Nat):m'<m->ds=dn++rest->rest.length=m'->σ=[UE (.ref L),UE (.ref F),UE (.ref G),UE (.int ((hs.length+(br dn).length:Nat):Int)),v4,v5,v6,UG]->Sm [F,G] H2 Hc->Hc F=UE (.lst ys)->Hc G=UE (.lst zs)->aF A N (rsH X H2 Hc) ys (hdP 1 hs)->aF A N (rsH X H2 Hc) zs (deP ((hs.length:Nat)+1) dn)->Dx m ds L F G hs H2 ys A N X σ Hc
theorem EO(T:Txt K mg A):T.j9.Hz P w base 13 (wA A):=by
 refine T.j9.hs (k:=12) ba (λf cdv A' outer s H vs Q E hr hu h=>?_);obtain⟨N,X,L,xs,hs,ds,mb,rfl,s0,hL,fr,O,lx,q⟩:=h;have lfs:(flA hs ds mb).length<=300:=by rw[Oe fr];exact lx
 have lfs':hs.length+(br ds).length+(au mb).length+2=(flA hs ds mb).length:=by unfold flA;simp;lia
 refine{_,(ab (pst 1 ba.nd (aN ae))
  (ab (pst 2 ba.nd (aN ae))
  (ab (pst 3 ba.nd af)
  (ab (js Oq (ptc (kU hu) (px hu (px hu (fv 0) (fv 3)) af) (aP (ar^ar^ae)) ((by with_unfolding_all rfl)))
   (ab (aK (bu (fv 1) ((ak (hj:=by lia) (zm T) hr (px hu (fv 0) (fv 3)^aw aD (fv 3) af^ae))^ae)))
   (ai (pst 3 ba.nd (aw aD (fv 3) af)))))
  (ab (js Oq (ptc (bV hu) (px hu (px hu (fv 0) (fv 3)) af) ar)
   (ab (pst 4 ba.nd (aw aD (fv 3) af))
   (ab (bM (ak (hj:=by lia) (yX T 6) hr (fv 0^aw aD (fv 3) af^ae)) (cL rfl (aH (pgn (i:=5) ba.nd rfl) (aH (pgn (i:=6) ba.nd rfl) bU))))
   (ab (aK (bu (fv 2) ((cf (hj:=by lia) T.cF (rD T) hr (fv 4^px hu (px hu (fv 0) (fv 3)) af^pcT qp T.cW (px hu (px hu (fv 0) (fv 3)) af^ae)^fv 5^ae))^ae)))
   (ai (pst 3 ba.nd (aw aD (fv 6) af)))))))
  (ab (bM (ak (hj:=by lia) (yX T 6) hr (fv 0^aw aD (fv 3) af^ae)) (cL rfl (aH (pgn (i:=7) ba.nd rfl) (aH (pgn (i:=6) ba.nd rfl) bU))))
  (ai (aA (cf (hj:=by lia) T.eV (rE T) hr (fv 1^fv 2^fv 7^ae)))))))))),?_}
 refine ag λM1 K1=>{LH _,λF hF=>?_};obtain⟨s1,e1⟩:=alc hF (HO.lst []);generalize upd H F _=H1 at s1 e1⊢;refine K1 _ _ ?_;clear K1 M1;try dsimp only
 refine ag λM1 K1=>{LH _,λG hG=>?_};obtain⟨s2,e2⟩:=alc hG (HO.lst []);generalize upd H1 G _=H2 at s2 e2⊢;have XF:X F=UG:=aj.free s0 hF;have XG:X G=UG:=aj.free (s0.trans s1) hG;have GF:G≠F:=λz=>by rw[z,e1]at hG;cases hG
 have H2F:H2 F≠UG:=by rw[s2 _ _ e1];simp
 have H2G:H2 G≠UG:=by rw[e2];simp
 have e1':=s2 _ _ e1;have t2:=s1.trans s2;have fxq:∀{Hc:Hp},Sm [F,G] H2 Hc->aj X Hc:=λsc=>sc.same (s0.trans t2) (λm hm=>by
  simp only[Lu,LS,or_false]at hm;rcases hm with rfl|rfl
  ·exact XF
  exact XG)
 have fhq:∀{Hc:Hp},Sm [F,G] H2 Hc->aj H Hc:=λsc=>sc.same t2 (λm hm=>by
  simp only[Lu,LS,or_false]at hm;rcases hm with rfl|rfl
  ·exact hF
  exact aj.free s1 hG)
 have mF:F∈[F,G]:=LB;have mG:G∈[F,G]:=Lx _ LB;refine K1 _ _ ?_;clear K1 M1;try dsimp only
 refine ag λM1 K1=>K1 _ _ ?_;clear K1 M1;try dsimp only
 refine ag λM1 K1=>{Br hs L F G H2 A N X,{hs.length,[],hs,[],rfl,rfl,rfl,Sm.refl _ _,e1',e2,aF.nil},?_};rintro m σ Hc ⟨dn,rest,ys,ehs,em,rfl,sc,hFc,hGc,pt⟩;have sX:=fxq sc;have hLc:=SqL.of (K:=K) (sX _ _ hL);cases rest with
 |cons r rest=>
  clear K1;have efs:flA hs ds mb=dn.map Fr.leaf++ .leaf r::(rest.map Fr.leaf++br ds++ .main::(au mb++[.fin])):=by
   unfold flA;rw[ehs];simp
  obtain⟨v,av,fv'⟩:=gD fr efs;rw[Lm]at av;have fv0:=fv';obtain⟨a,p,rfl,ha,hob⟩:=fv';refine lix hLc av (tix (j:=0) (SqT.of (sX _ _ ha)) rfl {by show 2<=sizeLine;decide,λtp htp=>?_});obtain⟨s3,e3⟩:=alc htp (HO.tup [V.str "deed",.str "main"]);generalize upd Hc tp _=H3 at s3 e3⊢;refine LL {_,MY (SqT.of e3),rfl,rfl,_,rfl,aR (λ_=>?_) (λz=>absurd (by show(!inV (V.str (Fr.leaf r).wd) [V.str "deed",V.str "main"])=true;rw[Di];rfl) z)};refine{C6 m hs L F G H2 A N X,λσ Hc ⟨dn,rest,ys,m',hm',h1,h2,h3,h4,h5,h6,h7⟩=>⟨m',hm',dn,rest,ys,h1,h2,h3,h4,h5,h6,h7⟩,?_};have sX3:=sX.trans s3;have hF3:=s3 _ _ hFc;try dsimp only
  refine ag λN1 J1=>{LL {rfl,_,SqL.of hF3},lix (SqL.of (sX3 _ _ hL)) av {N,X,_,_,r,rfl,sX3,fv0,λb H4 s4 hb pb=>?_}};have ly:ys.length=dn.length:=by rw[pt.len,vU]
  have ld:dn.length+1<=hs.length:=by rw[ehs];simp
  refine{_,_,_,rfl,rfl,s4 _ _ hF3,aQ (),J1 _ _ ?_};have s5:Sm [F,G] H4 (upd H4 F (.lst (ys++[V.ref b]))):=Sm.at mF _;have em':rest.length+1=m:=em;refine{dn++[r],rest,ys++[V.ref b],rest.length,(),by rw[ehs];simp,rfl,?_,(sc.trans (Sm.new (s3.trans s4))).trans s5,ao,az GF ((s3.trans s4) _ _ hGc),?_}
  ·rw[Ll,Lo];rfl
  rw[Ak,hdP,hdP,show(1:Int)+(dn.length:Nat)=((dn.length:Nat):Int)+1 by lia];have nb:=wI sc (by
   intro m hm;simp only[Lu,LS,or_false]at hm;rcases hm with rfl|rfl
   ·rw[hFc];simp
   rw[hGc];simp)
  exact aF.snoc (aF.same (nh XF H2F) _ _ (aF.same (fw (s3.trans s4)) _ _ pt)) (aY.same (nh XF H2F) _ _ (aY.same (nW λb h=>nb b (aj.free s3 h)) _ _ pb))
 |nil=>
 rw[LQ]at ehs;subst ehs;obtain⟨gf,gtl,egf,hgf⟩:∃gf gtl,br ds++ .main::(au mb++[Fr.fin])=gf::gtl/\dmF gf=true:=by
  cases ds with
  |nil=>exact{.main,_,rfl,rfl}
  |cons d r=>exact{.aZ d.1 d.2.1,_,rfl,rfl}
 have efs:flA hs ds mb=hs.map Fr.leaf++gf::gtl:=by
  unfold flA;rw[Lz,egf]
 obtain⟨v,av,⟨a,p,rfl,ha,hob⟩⟩:=gD fr efs;rw[Lm]at av;refine lix hLc av (tix (j:=0) (SqT.of (sX _ _ ha)) rfl {by show 2<=sizeLine;decide,λtp htp=>?_});obtain⟨s3,e3⟩:=alc htp (HO.tup [V.str "deed",.str "main"]);generalize upd Hc tp _=H3 at s3 e3⊢;refine LL {_,MY (SqT.of e3),rfl,rfl,_,rfl,aR (λz=>absurd z (by show ¬ (!inV (V.str gf.wd) [V.str "deed",V.str "main"])=true;rw[Di,hgf];decide)) (λ_=>K1 _ _ ?_)};clear K1 M1;have sc3:=sc.trans (Sm.new s3);have hF3:=s3 _ _ hFc;have hG3:=s3 _ _ hGc;have pt3:=aF.same (fw s3) _ _ pt;clear pt hFc hGc sc sX hLc htp e3 av ha hob efs egf hgf;try dsimp only
 refine ag λM1 K1=>{CF ds L F G hs H2 ys A N X,{ds.length,[],ds,[],UG,UG,UG,rfl,rfl,rfl,sc3,hF3,hG3,pt3,aF.nil},?_};clear hF3 hG3 pt3 sc3 s3 m em;clear hG hF;rintro m σ Hd ⟨dn,rest,zs,v4,v5,v6,eds,em,rfl,sc,hFc,hGc,pt,pz⟩;have sX:=fxq sc;have hLc:=SqL.of (K:=K) (sX _ _ hL);have nb:=wI sc (by
  intro m hm;simp only[Lu,LS,or_false]at hm;rcases hm with rfl|rfl
  ·rw[hFc];simp
  rw[hGc];simp)
 cases rest with
 |cons d rest=>
  clear K1;have efs:flA hs ds mb=(hs.map Fr.leaf++br dn)++ .aZ d.1 d.2.1::(au d.2.2++ .fin::(br rest++ .main::(au mb++[.fin]))):=by
   unfold flA br;rw[eds];simp[flD]
  have efs2:flA hs ds mb=(hs.map Fr.leaf++br dn++[.aZ d.1 d.2.1])++au d.2.2++ .fin::(br rest++ .main::(au mb++[.fin])):=by
   rw[efs];simp
  have l2:(hs.map Fr.leaf++br dn++[Fr.aZ d.1 d.2.1]).length=hs.length+(br dn).length+1:=by simp only[Ll,Lm,Lo]
  obtain⟨v,av,fv'⟩:=gD fr efs;rw[Ll,Lm]at av;obtain⟨a,p,rfl,ha,hob⟩:=fv';have hp:=hob _ rfl;refine lix hLc av (tix (j:=0) (SqT.of (sX _ _ ha)) rfl {rfl,_,rfl,aR (λ_=>?_) (λz=>absurd (show decide (V.str "deed"=V.str "deed")=true from decide_eq_true rfl) z)});refine{Dx m ds L F G hs H2 ys A N X,λσ Hc ⟨dn,rest,ys,v4,v5,v6,m',hm',h1,h2,h3,h4,h5,h6,h7,h8⟩=>⟨m',hm',dn,rest,ys,v4,v5,v6,h1,h2,h3,h4,h5,h6,h7,h8⟩,?_};have dpd:bN d.2.2<=6:=by
   have:=O.de.at' dn.length d (by rw[eds,L7 (Ln _),MD];rfl);exact this.2.2.2.1
  try dsimp only
  refine ag λN1 J1=>J1 _ _ ?_;clear J1 N1;try dsimp only
  refine ag λN1 J1=>{N,X,L,xs,_,_,_,d.2.2,.fin,by rw[l2];push_cast;rfl,sX,hL,fr,efs2,rfl,dpd,lx,λp1 R1 y1 H4 s4 ep1 eR1 pt1=>{p1,_,rfl,SqT.of ep1,rfl,_,_,rfl,_,_,rfl,rfl,J1 _ _ ?_}};clear J1 N1;have sX4:=sX.trans s4;have hL4:=SqL.of (K:=K) (sX4 _ _ hL);have hT4:=SqT.of (K:=K) (sX4 _ _ ha);try dsimp only
  refine ag λN1 J1=>{LL {rfl,_,SqL.of (s4 _ _ hGc)},lix hL4 av (tix (j:=1) hT4 rfl (lix hL4 av (tix (j:=2) hT4 rfl (LL {p,_,rfl,LL (SqL.of (sX4 _ _ hp)),λl hl=>?_}))))};obtain⟨s5,e5⟩:=alc hl (HO.lst (nV N d.2.1));generalize upd H4 l _=H5 at s5 e5⊢;refine λr6 dx6 hr6 hd_ hne_=>{_,_,_,_,_,_,_,_,_,rfl,rfl,hr6,hd_,SqL.of e5,SqL.of (s5 _ _ eR1),λn6 n7 H6 f6 f7 s6 h6 h7 hx=>{rfl,?_}};have s36:=s4.trans (s5.trans s6);have lz:zs.length=dn.length:=by rw[pz.len,qj]
  have ld:dn.length<=3:=by
   have:=O.dl;rw[eds,Ll]at this;lia
  refine{_,_,_,rfl,rfl,s36 _ _ hGc,aQ (),J1 _ _ ?_};have s7:Sm [F,G] H6 (upd H6 G (.lst (zs++[V.ref r6]))):=Sm.at mG _;have em':rest.length+1=m:=em;have sn:aj Hd H4:=s4;refine{dn++[d],rest,zs++[V.ref r6],UE (.int (((hs.length+(br dn).length:Nat):Int)+1)),UE (.ref R1),UE (.int (((hs.map Fr.leaf++br dn++[Fr.aZ d.1 d.2.1]).length+(au d.2.2).length:Nat):Int)),rest.length,(),by rw[eds];simp,rfl,?_,(sc.trans (Sm.new s36)).trans s7,az (LU GF) (s36 _ _ hFc),ao,aF.same (nh XG H2G) _ _ (aF.same (fw s36) _ _ pt),?_}
  ·have:(((hs.map Fr.leaf++br dn++[Fr.aZ d.1 d.2.1]).length+(au d.2.2).length:Nat):Int)+1=((hs.length+(br (dn++[d])).length:Nat):Int):=by
    rw[l2];unfold br;rw[Mr,Ll];simp[flD];lia
   rw[<-this];rfl
  rw[Ah,deP,deP];refine aF.snoc (aF.same (nh XG H2G) _ _ (aF.same (fw s36) _ _ pz)) (aY.same (nh XG H2G) _ _ (aY.same (nW nb) _ _ (X:=rsH X Hd H6) ?_));unfold aY;rw[l2]at pt1;have e9:(((hs.length:Nat):Int)+1+((br dn).length:Nat))=((hs.length+(br dn).length:Nat):Int)+1:=by push_cast;lia
  rw[e9];refine{r6,dx6,n6,n7,y1,rfl,cJ (aj.free (s4.trans s5) hr6) hx,cJ (aj.free (s4.trans s5) f6) h6,cJ (aj.free (s4.trans s5) f7) h7,?_};have:=aF.same (fw (s5.trans s6)) _ _ pt1;push_cast at this⊢
  exact this
 |nil=>
 rw[LQ]at eds;subst eds;have efs:flA hs ds mb=(hs.map Fr.leaf++br ds)++ .main::(au mb++[.fin]):=rfl;have efs2:flA hs ds mb=(hs.map Fr.leaf++br ds++[.main])++au mb++ .fin::[]:=by
  rw[efs];simp
 have l2:(hs.map Fr.leaf++br ds++[Fr.main]).length=hs.length+(br ds).length+1:=by simp only[Ll,Lm,Lo]
 obtain⟨v,av,⟨a,p,rfl,ha,hob⟩⟩:=gD fr efs;rw[Ll,Lm]at av;refine lix hLc av (tix (j:=0) (SqT.of (sX _ _ ha)) rfl {rfl,_,rfl,aR (λz=>absurd z (show ¬ decide (V.str "main"=V.str "deed")=true by decide)) (λ_=>K1 _ _ ?_)});clear K1 M1;try dsimp only
 refine ag λM1 K1=>{N,X,L,xs,_,_,_,mb,.fin,by rw[l2];push_cast;rfl,sX,hL,fr,efs2,rfl,O.md,lx,λp1 R1 y1 H4 s4 ep1 eR1 pt1=>{p1,_,rfl,SqT.of ep1,rfl,_,_,rfl,_,_,rfl,rfl,K1 _ _ ?_}};clear K1 M1;try dsimp only
 refine λr6 dx6 hr6 hd_ hne_=>{_,_,_,_,_,_,_,_,_,rfl,rfl,hr6,hd_,SqL.of (s4 _ _ hFc),SqL.of (s4 _ _ hGc),SqL.of eR1,λn6 n7 n8 H6 f6 f7 f8 s6 h6 h7 h8 hx=>{rfl,q _ H6 ((fhq sc).trans (s4.trans s6)) ?_}};rw[l2]at pt1;refine{r6,dx6,n6,n7,n8,_,_,_,rfl,hx,h6,h7,h8,aF.same (vy.trans (s4.trans s6)) _ _ pt,aF.same (vy.trans (s4.trans s6)) _ _ pz,?_};have:=aF.same (vy.trans s6) _ _ pt1;unfold msN;push_cast at this⊢
 rw[show(↑hs.length+ ↑(br ds).length+2:Int)=↑hs.length+ ↑(br ds).length+1+1 by lia];exact this
end
section
variable{P:Program}{w:Of}{K:Oc}{mg:Str->Option E9}{base:OC}{A:Adr}{N:Nat->Str}
noncomputable def isB:Fr->Bool
 | .leaf r=>decide (5<=r.ci)
 | .iff _ _ _=>true
 | .loop _ _ _ _=>true
 |_=>false
noncomputable def stp(N:Nat->Str)(s:List (Option Str))(n:Int):Fr->List (Option Str)
 | .aZ i _=>[UE (N i)]
 | .main=>[UG]
 | .fin=>s.tail
 | .iff _ _ _=>UE (aV n)::s
 | .loop _ _ _ _=>UE (aV n)::s
 |_=>s
noncomputable def HB(l:List Str)(n:Int):Fr->List Str
 | .loop _ _ _ _=>aV n::l
 | .iff _ _ _=>Ot::l
 | .fin=>l.tail
 |_=>l
noncomputable def lpO(l:List Str):Option Str:=l.find? λx=>decide (x≠Ot)
noncomputable abbrev En:=Fr×Int×Option Str×Str
noncomputable def bE(N:Nat->Str):List (Option Str)->List Str->Int->List Fr->List En
 |_,_,_,[]=>[]
 |s,l,n,f::fs=>(if isB f=true then[(f,n,s.headD UG,(lpO l).getD Ot)]else[])++bE N (stp N s n f) (HB l n f) (n+1) fs
noncomputable def gd(N:Nat->Str):List (Option Str)->Int->List Fr->Prop
 |_,_,[]=>True
 |s,n,f::fs=>((isB f=true\/f=.fin)->s≠[])/\gd N (stp N s n f) (n+1) fs
noncomputable def frP:Pt->Fr
 | .leaf _ r=>.leaf r
 | .iff _ v l r _ _=>.iff v l r
 | .loop _ t m l r _=>.loop t m l r
 | .aZ _ i ps _=>.aZ i ps
noncomputable def eF(e:Le):En:=(frP e.1,e.1.no,e.2.1,e.2.2.getD Ot)
theorem Eb(n:Int):4<=(aV n).length:=by
 unfold aV;rw[iA,iA];exact LG (show 4<=(Str.empty.length+("row ":Str).length) by decide) (Mw _ _)
theorem Gj(n:Int):aV n≠Ot:=λe=>by
 have:=Eb n;rw[e]at this;exact absurd this ∅
theorem Fl(n:Int)(l:List Str):lpO (aV n::l)=UE (aV n):=by
 unfold lpO;rw[Mu,decide_eq_true (Gj n)]
theorem GP(l:List Str):lpO (Ot::l)=lpO l:=by
 unfold lpO;rw[Mu,decide_eq_false λz=>z rfl]
theorem Kf{ps:List Nat}{dd:List (Nat×Nat)}{lp:Bool}{r:Lr}(h:Az ps dd lp r):isB (.leaf r)=true:=by
 cases r<;>first|rfl|exact h.elim
theorem Dp{lp:Option Str}{t:Pt}{ts:List Pt}{pl:Option Str}:bp pl lp (t::ts)=(t,pl,lp)::(cA lp t++bp pl lp ts):=by rw[bp]
mutual
theorem HG{ps:List Nat}{dd:List (Nat×Nat)}:∀(t:Tr)(lp:Bool)(pl:Option Str)(s:List (Option Str))(l:List Str)(n:Int)(rest:List Fr),okT ps dd lp t->
  bE N (pl::s) l n (flT t++rest)=((ptT n t,pl,lpO l)::cA (lpO l) (ptT n t)).map eF++bE N (pl::s) l (n+((flT t).length:Nat)) rest
 | .leaf r,lp,pl,s,l,n,rest,ok=>by
  rw[okT]at ok;rw[flT,ptT,cA];show bE N _ _ _ (.leaf r::rest)=_;rw[bE,if_pos (Kf ok)];rfl
 | .iff v a b f o,lp,pl,s,l,n,rest,ok=>by
  rw[okT]at ok;rw[flT,ptT,cA];have e:(Fr.iff v a b::(au f++ .els::(au o++[.fin])))++rest=.iff v a b::(au f++(.els::(au o++(.fin::rest)))):=by simp
  rw[e,bE,if_pos (show isB _=true from rfl)];have h1:=jy f lp (UE (aV n)) (pl::s) (Ot::l) (n+1) (.els::(au o++(.fin::rest))) ok.2.1;have h2:=jy o lp (UE (aV n)) (pl::s) (Ot::l) (n+1+((au f).length:Nat)+1) (.fin::rest) ok.2.2;rw[GP]at h1 h2;show _++bE N (UE (aV n)::pl::s) (Ot::l) (n+1) _=_;rw[h1,bE,if_neg ∅];show _++(_++([]++bE N (UE (aV n)::pl::s) (Ot::l) _ _))=_;rw[h2,bE,if_neg ∅];show _++(_++([]++(_++([]++bE N (pl::s) l _ rest))))=_;rw[show n+2+((au f).length:Nat)=n+1+((au f).length:Nat)+1 by lia,Lq,Ll,Lq,Ll,Lo];rw[show n+1+((au f).length:Nat)+1+((au o).length:Nat)+1=n+(((au f).length+((au o).length+1+1)+1:Nat):Int) by push_cast;lia];rw[LC,Ml];simp only[L6,Lz,L8];rfl
 | .loop t m a b c,lp,pl,s,l,n,rest,ok=>by
  rw[okT]at ok;rw[flT,ptT,cA];have e:(Fr.loop t m a b::(au c++[.fin]))++rest=.loop t m a b::(au c++(.fin::rest)):=by simp
  rw[e,bE,if_pos (show isB _=true from rfl)];have h1:=jy c true (UE (aV n)) (pl::s) (aV n::l) (n+1) (.fin::rest) ok.2.2.2;rw[Fl]at h1;show _++bE N (UE (aV n)::pl::s) (aV n::l) (n+1) _=_;rw[h1,bE,if_neg ∅];show _++(_++([]++bE N (pl::s) l _ rest))=_;rw[Lq,Ll,Lo,show n+1+((au c).length:Nat)+1=n+(((au c).length+1+1:Nat):Int) by push_cast;lia,LC];simp only[L6,Lz,L8];rfl
theorem jy{ps:List Nat}{dd:List (Nat×Nat)}:∀(ts:List Tr)(lp:Bool)(pl:Option Str)(s:List (Option Str))(l:List Str)(n:Int)(rest:List Fr),cG ps dd lp ts->
  bE N (pl::s) l n (au ts++rest)=(bp pl (lpO l) (aU n ts)).map eF++bE N (pl::s) l (n+((au ts).length:Nat)) rest
 | [],lp,pl,s,l,n,rest,ok=>by
  rw[au,aU,bp];simp
 |t::ts,lp,pl,s,l,n,rest,ok=>by
  rw[cG]at ok;rw[au,aU,Dp,Lz,HG t lp pl s l n _ ok.1,jy ts lp pl s l _ rest ok.2,Ll];rw[show n+((flT t).length:Nat)+((au ts).length:Nat)=n+(((flT t).length+(au ts).length:Nat):Int) by push_cast;lia];simp only[LC,Ml,Lz,L8]
end
mutual
theorem Kw:∀(t:Tr)(pl:Option Str)(s:List (Option Str))(n:Int)(rest:List Fr),gd N (pl::s) (n+((flT t).length:Nat)) rest->gd N (pl::s) n (flT t++rest)
 | .leaf r,pl,s,n,rest,h=>by
  rw[flT]at h⊢;show gd N _ _ (.leaf r::rest);exact{λ_ z=>(by cases z),h}
 | .iff v a b f o,pl,s,n,rest,h=>by
  rw[flT]at h⊢;have e:(Fr.iff v a b::(au f++ .els::(au o++[.fin])))++rest=.iff v a b::(au f++(.els::(au o++(.fin::rest)))):=by simp
  rw[e];refine{λ_ z=>(by cases z),uu f (UE (aV n)) (pl::s) (n+1) _ {λ_ z=>(by cases z),uu o (UE (aV n)) (pl::s) _ _ {λ_ z=>(by cases z),?_}}};rw[Lq,Ll,Lq,Ll,Lo,show n+(((au f).length+((au o).length+1+1)+1:Nat):Int)=n+1+((au f).length:Nat)+1+((au o).length:Nat)+1 by push_cast;lia]at h;exact h
 | .loop t m a b c,pl,s,n,rest,h=>by
  rw[flT]at h⊢;have e:(Fr.loop t m a b::(au c++[.fin]))++rest=.loop t m a b::(au c++(.fin::rest)):=by simp
  rw[e];refine{λ_ z=>(by cases z),uu c (UE (aV n)) (pl::s) (n+1) _ {λ_ z=>(by cases z),?_}};rw[Lq,Ll,Lo,show n+(((au c).length+1+1:Nat):Int)=n+1+((au c).length:Nat)+1 by push_cast;lia]at h;exact h
theorem uu:∀(ts:List Tr)(pl:Option Str)(s:List (Option Str))(n:Int)(rest:List Fr),gd N (pl::s) (n+((au ts).length:Nat)) rest->gd N (pl::s) n (au ts++rest)
 | [],pl,s,n,rest,h=>by
  rw[au]at h⊢;simpa using h
 |t::ts,pl,s,n,rest,h=>by
  rw[au]at h⊢;rw[Lz];refine Kw t pl s n _ (uu ts pl s _ rest ?_);rw[Ll,show n+(((flT t).length+(au ts).length:Nat):Int)=n+((flT t).length:Nat)+((au ts).length:Nat) by push_cast;lia]at h;exact h
end
theorem Al:∀(hs:List Lr)(n:Int)(rest:List Fr),(∀r∈hs,r.ci<5)->bE N [] [] n (hs.map Fr.leaf++rest)=bE N [] [] (n+(hs.length:Nat)) rest/\(gd N [] (n+(hs.length:Nat)) rest->gd N [] n (hs.map Fr.leaf++rest))
 | [],n,rest,_=>by simp
 |r::hs,n,rest,h=>by
  have c:=h r LB;have nb:¬ isB (.leaf r)=true:=λz=>by
   have:5<=r.ci:=of_decide_eq_true z;lia
  obtain⟨h1,h2⟩:=Al hs (n+1) rest λr hr=>h r (Lx _ hr);have e:n+((r::hs).length:Nat)=n+1+(hs.length:Nat):=by rw[Lq];push_cast;lia
  rw[e];refine{?_,λg=>{λz=>?_,h2 g}}
  ·rw[LC,L8,bE,if_neg nb,L6,<-h1];rfl
  rcases z with z|z
  ·exact absurd z nb
  cases z
theorem Av(ddA:List De->List (Nat×Nat)):∀(ds:List De)(n:Int)(rest:List Fr),(∀d∈ds,∃dd,cG d.2.1 dd false d.2.2)->
  bE N [] [] n (br ds++rest)=(dM N (deP n ds)).map eF++bE N [] [] (n+((br ds).length:Nat)) rest/\(gd N [] (n+((br ds).length:Nat)) rest->gd N [] n (br ds++rest))
 | [],n,rest,_=>by simp[br,deP,dM]
 |d::ds,n,rest,h=>by
  obtain⟨dd,ok⟩:=h d LB;obtain⟨h1,h2⟩:=Av ddA ds (n+((flD d).length:Nat)) rest λd hd=>h d (Lx _ hd);have e:br (d::ds)++rest=.aZ d.1 d.2.1::(au d.2.2++(.fin::(br ds++rest))):=by
   show flD d++br ds++rest=_;simp[flD]
  have el:n+((br (d::ds)).length:Nat)=n+((flD d).length:Nat)+((br ds).length:Nat):=by
   show n+((flD d++br ds).length:Nat)=_;rw[Ll];push_cast
   lia
  have ef:n+1+((au d.2.2).length:Nat)+1=n+((flD d).length:Nat):=by
   unfold flD;rw[Lq,Ll,Lo];push_cast
   lia
  rw[e,el];constructor
  ·rw[bE,if_neg (by show ¬ false=true;decide)];show[]++bE N (UE (N d.1)::[]) [] (n+1) _=_;rw[jy d.2.2 false (UE (N d.1)) [] [] (n+1) _ ok,bE,if_neg ∅];show[]++(_++([]++bE N [] [] (n+1+((au d.2.2).length:Nat)+1) (br ds++rest)))=_;rw[ef,h1,deP];show _=List.map eF (bp (UE (N d.1)) UG (aU (n+1) d.2.2)++dM N (deP _ ds))++_;rw[Ml];simp only[L6,Lz];rfl
  intro g;refine{λz=>?_,?_}
  ·rcases z with z|z<;>cases z
  show gd N (UE (N d.1)::[]) (n+1) _;refine uu d.2.2 _ _ _ _ {λ_ z=>(by cases z),?_};show gd N [] (n+1+((au d.2.2).length:Nat)+1) (br ds++rest);rw[ef];exact h2 g
theorem C0{hs:List Lr}{ds:List De}{mb:List Tr}(O:eN hs ds mb):bE N [] [] 1 (flA hs ds mb)=(bI N (deP ((hs.length:Nat)+1) ds) (aU (msN hs ds) mb)).map eF/\gd N [] 1 (flA hs ds mb):=by
 have hd:∀r∈hs,r.ci<5:=by
  obtain⟨rk,z,t,rfl,_⟩:=O.hd;intro r hr;have hr:r∈mX rk z:=by
   unfold qb at hr;rcases Ls.mp hr with h|h
   ·exact MR h
   exact Mn h
  unfold mX at hr;simp only[Lu,LS,or_false]at hr;rcases hr with rfl|rfl|rfl|rfl|rfl|rfl|rfl|rfl|rfl|rfl|rfl<;>simp[Lr.ci]
 have okd:∀d∈ds,∃dd,cG d.2.1 dd false d.2.2:=λd m=>by
  obtain⟨k,hk⟩:=LX m;exact{_,(O.de.at' k d hk).2.2.1}
 have e:flA hs ds mb=hs.map Fr.leaf++(br ds++(.main::(au mb++(.fin::[])))):=by
  unfold flA;simp
 obtain⟨a1,a2⟩:=Al (N:=N) hs 1 (br ds++(.main::(au mb++(.fin::[])))) hd;obtain⟨b1,b2⟩:=Av (N:=N) ir ds (1+(hs.length:Nat)) (.main::(au mb++(.fin::[]))) okd;have en:(1:Int)+(hs.length:Nat)=(hs.length:Nat)+1:=()
 have em:(1:Int)+(hs.length:Nat)+((br ds).length:Nat)+1=msN hs ds:=by unfold msN;push_cast;lia
 rw[e];constructor
 ·rw[a1,b1,bE,if_neg ∅];show _++([]++bE N (UG::[]) [] _ _)=_;rw[em,jy mb false UG [] [] _ _ O.mo,bE,if_neg ∅];show _++([]++(_++([]++bE N [] [] _ [])))=_;rw[bE,en];unfold bI;rw[Ml];simp only[L6,LQ];rfl
 refine a2 (b2 {λz=>?_,?_})
 ·rcases z with z|z<;>cases z
 show gd N (UG::[]) _ _;exact uu mb _ _ _ _ {λ_ z=>(by cases z),trivial}
end
section
variable{P:Program}{w:Of}{K:Oc}{mg:Str->Option E9}{base:OC}{A:Adr}{N:Nat->Str}
mutual
theorem Gh:∀(t:Tr)(n:Int),dep (ptT n t)=dpT t
 | .leaf r,n=>by rw[ptT,dep,dpT]
 | .iff v a c f o,n=>by rw[ptT,dep,dpT,mV f,mV o]
 | .loop t m a c d,n=>by rw[ptT,dep,dpT,mV d]
theorem mV:∀(ts:List Tr)(n:Int),lZ (aU n ts)=bN ts
 | [],n=>by rw[aU,lZ,bN]
 |t::ts,n=>by rw[aU,lZ,bN,Gh t,mV ts]
end
theorem tO(N:Nat->Str):∀(fs:List Fr)(s:List (Option Str))(l:List Str)(n:Int),(bE N s l n fs).length<=fs.length
 | [],s,l,n=>by rw[bE];exact Ln _
 |f::fs,s,l,n=>by
  have h:=tO N fs (stp N s n f) (HB l n f) (n+1);rw[bE,Ll,Lq];have:(if isB f=true then[(f,n,s.headD UG,(lpO l).getD Ot)]else[]).length<=1:=by split<;>simp
  lia
theorem nA{ps:List Nat}{dd:List (Nat×Nat)}{ts:List Tr}{b:Bool}(ok:cG ps dd b ts)(pl:Option Str)(n:Int):(bp pl UG (aU n ts)).length<=(au ts).length:=by
 have h:=jy (N:=λ_=>Ot) ts b pl [] [] n [] ok;have h2:=tO (λ_=>Ot) (au ts++[]) [pl] [] n;rw[h,bE,LQ,Lm,LQ]at h2;exact h2
theorem dy:∀{ds:List De}{n:Int}{k:Nat}{p:Pt},(deP n ds)[k]?=UE p->∃d n',ds[k]?=UE d/\n<=n'/\n'+((flD d).length:Nat)<=n+((br ds).length:Nat)/\p=.aZ n' d.1 d.2.1 (aU (n'+1) d.2.2)
 | [],n,k,p,h=>by rw[deP]at h;simp at h
 |d::ds,n,0,p,h=>by
  rw[deP]at h;cases h;refine{d,n,rfl,NB _,?_,rfl};show _<=n+(((flD d++br ds).length:Nat):Int);rw[Ll];push_cast
  lia
 |d::ds,n,k+1,p,h=>by
  rw[deP]at h;obtain⟨d',n',h1,h2,h3,h4⟩:=dy (ds:=ds) (k:=k) h;refine{d',n',h1,(),?_,h4};show _<=n+(((flD d++br ds).length:Nat):Int);rw[Ll];push_cast
  push_cast at h3
  lia
theorem xt:∀(ds:List De)(n:Int)(k:Nat),(deP n ds).take k=deP n (ds.take k)
 | [],n,k=>by simp[deP]
 |d::ds,n,0=>by simp[deP]
 |d::ds,n,k+1=>by rw[deP,Sr,Sr,deP,xt ds]
theorem vG:∀(ds:List De)(n:Int),(deP n ds).map (dNm N)=ds.map λd=>N d.1
 | [],n=>rfl
 |d::ds,n=>by rw[deP,LC,LC,vG ds];rfl
theorem yS{k:Nat}:dnI k<24:=by unfold dnI;split;decide;split<;>decide
theorem Eo{i j:Nat}(hi:i<3)(hj:j<3)(h:dnI i=dnI j):i=j:=by
 rcases AD hi with rfl|rfl|rfl<;>rcases AD hj with rfl|rfl|rfl<;>first|rfl|exact absurd h ∅
theorem Ik{k n:Nat}(h:n<mxI k):(psI k n).length<=4:=by
 unfold psI;rw[Lm,Mx];unfold mxI at h;split at h
 ·lia
 split at h<;>lia
theorem HZ{α β:Type}{f:α->β}{l:List α}(h:l.Nodup)(i:∀x∈l,∀y∈l,f x=f y->x=y):(l.map f).Nodup:=by
 induction l with
 |nil=>exact NA
 |cons x r ih=>
  rw[Mq]at h;rw[LC,Mq];refine{λm=>?_,ih h.2 λa ha b hb=>i a (Lx _ ha) b (Lx _ hb)};obtain⟨y,my,e⟩:=LN.mp m;have:=i y (Lx _ my) x LB e;exact h.1 (this▸my)
theorem eN.ix{hs:List Lr}{ds:List De}{mb:List Tr}(O:eN hs ds mb):∃n0 n1 n2:Nat,∃t0 t1 t2,ds=[(9,psI 0 n0,t0),(10,psI 1 n1,t1),(21,psI 2 n2,t2)]:=by
 have dl:=O.dl;match ds,dl with
 | [a,b,c],_=>
  have h0:=O.de.at' 0 a rfl;have h1:=O.de.at' 1 b rfl;have h2:=O.de.at' 2 c rfl;obtain⟨e0,⟨n0,_,p0⟩,_⟩:=h0;obtain⟨e1,⟨n1,_,p1⟩,_⟩:=h1;obtain⟨e2,⟨n2,_,p2⟩,_⟩:=h2;refine{n0,n1,n2,a.2.2,b.2.2,c.2.2,?_};rw[<-p0,<-p1,<-p2,show(9:Nat)=dnI 0 from rfl,show(10:Nat)=dnI 1 from rfl,show(21:Nat)=dnI 2 from rfl,<-e0,<-e1,<-e2]
theorem FZ(nm:lJ N){hs:List Lr}{ds:List De}{mb:List Tr}(O:eN hs ds mb):(ds.map λd=>N d.1).Nodup:=by
 obtain⟨n0,n1,n2,t0,t1,t2,rfl⟩:=O.ix;show([9,10,21].map N).Nodup;refine HZ ∅ λx hx y hy e=>nm.inj x y ?_ ?_ e
 ·simp only[Lu,LS,or_false]at hx;lia
 simp only[Lu,LS,or_false]at hy;lia
theorem xY{hs:List Lr}{ds:List De}{mb:List Tr}(O:eN hs ds mb){d:De}(m:d∈ds):d.2.1.length<=4:=by
 obtain⟨k,hk⟩:=LX m;obtain⟨_,⟨n,hn,e⟩,_⟩:=O.de.at' k d hk;rw[e];exact Ik hn
theorem vT{hs:List Lr}{ds:List De}{mb:List Tr}(O:eN hs ds mb):hs.length=11/\(br ds).length<=57/\(au mb).length<=48:=by
 refine{?_,?_,O.ml}
 ·obtain⟨rk,z,t,rfl,_,_,_,ht⟩:=O.hd;unfold qb;rw[Ll,Mc,LV,show(mX rk z).length=11 from rfl];lia
 have dl:=O.dl;match ds,dl with
 | [a,b,c],_=>
  have h0:=(O.de.at' 0 a rfl).2.2.2.2;have h1:=(O.de.at' 1 b rfl).2.2.2.2;have h2:=(O.de.at' 2 c rfl).2.2.2.2;show(flD a++(flD b++(flD c++[]))).length<=57;unfold flD;simp only[Ll,Lq,Mi];lia
theorem zG{hs:List Lr}{ds:List De}{mb:List Tr}(O:eN hs ds mb):(bI N (deP ((hs.length:Nat)+1) ds) (aU (msN hs ds) mb)).length<=99:=by
 unfold bI;rw[Ll];have h1:=nA O.mo UG (msN hs ds);have h2:=O.ml;have h3:(dM N (deP ((hs.length:Nat)+1) ds)).length<=51:=by
  generalize ((hs.length:Nat):Int)+1=n;have dl:=O.dl;match ds,dl with
  | [a,b,c],_=>
   obtain⟨_,_,o0,_,h0⟩:=O.de.at' 0 a rfl;obtain⟨_,_,o1,_,h1⟩:=O.de.at' 1 b rfl;obtain⟨_,_,o2,_,h2⟩:=O.de.at' 2 c rfl;rw[deP,deP,deP,deP];show(bp (UE (N a.1)) UG (aU _ a.2.2)++(bp (UE (N b.1)) UG (aU _ b.2.2)++(bp (UE (N c.1)) UG (aU _ c.2.2)++[]))).length<=51;simp only[Ll,Mi];have:=nA o0 (UE (N a.1)) (n+1);have:=nA o1 (UE (N b.1)) (n+((flD a).length:Nat)+1);have:=nA o2 (UE (N c.1)) (n+((flD a).length:Nat)+((flD b).length:Nat)+1);lia
 lia
end
section
variable{P:Program}{w:Of}{K:Oc}{mg:Str->Option E9}{base:OC}{A:Adr}{N:Nat->Str}
theorem Jm{hs:List Lr}{ds:List De}{mb:List Tr}(O:eN hs ds mb):∀r∈hs,r.ci<5:=by
 obtain⟨rk,z,t,rfl,_⟩:=O.hd;intro r hr;have hr:r∈mX rk z:=by
  unfold qb at hr;rcases Ls.mp hr with h|h
  ·exact MR h
  exact Mn h
 unfold mX at hr;simp only[Lu,LS,or_false]at hr;rcases hr with rfl|rfl|rfl|rfl|rfl|rfl|rfl|rfl|rfl|rfl|rfl<;>simp[Lr.ci]
theorem wX:∀(fs:List Fr)(s:List (Option Str))(l:List Str)(n:Int),(bE N s l n fs).Pairwise (λa b=>a.2.1<b.2.1)/\∀e∈bE N s l n fs,n<=e.2.1/\e.2.1<n+(fs.length:Nat)
 | [],s,l,n=>{Rh,λe h=>by cases h}
 |f::fs,s,l,n=>by
  obtain⟨h1,h2⟩:=wX fs (stp N s n f) (HB l n f) (n+1);rw[bE,Lq];split
  ·refine{MQ.mpr {List.pairwise_singleton _ _,h1,λa ha b hb=>?_},λe he=>?_}
   ·rw[Lp.mp ha];have:=(h2 b hb).1;show n<b.2.1;lia
   rcases Ls.mp he with he|he
   ·rw[Lp.mp he];exact{NB _,by show n<_;lia}
   have:=h2 e he;lia
  exact{h1,λe he=>by have:=h2 e he;lia}
theorem vL{hs:List Lr}{ds:List De}{mb:List Tr}(O:eN hs ds mb):(flA hs ds mb).length<=118:=by
 obtain⟨l1,l2,l3⟩:=vT O;unfold flA;rw[Ll,Ll,Lm,Lq,Ll,Lo];lia
theorem Jd{hs:List Lr}{ds:List De}{mb:List Tr}(O:eN hs ds mb):(bI N (deP ((hs.length:Nat)+1) ds) (aU (msN hs ds) mb)).Pairwise (λa b=>a.1.no<b.1.no)/\∀e∈bI N (deP ((hs.length:Nat)+1) ds) (aU (msN hs ds) mb),1<=e.1.no/\e.1.no<=300:=by
 obtain⟨b1,_⟩:=C0 (N:=N) O;obtain⟨h1,h2⟩:=wX (N:=N) (flA hs ds mb) [] [] 1;rw[b1]at h1 h2;rw[Tj]at h1;have l:=vL O;refine{h1,λe he=>?_};have:1<=e.1.no/\e.1.no<1+((flA hs ds mb).length:Nat):=h2 (eF e) (MU he);lia
noncomputable def ixH:Lr->List Nat
 | .giv i _ _=>[i]
 | .own i _=>[i]
 | .lt i _=>[i]
 |_=>[]
noncomputable def ixA(hs:List Lr)(ds:List De):List Nat:=hs.flatMap ixH++ds.flatMap λd=>d.1::d.2.1
theorem FP:∀(hs:List Lr)(n:Int),(hdP n hs).filterMap (hPl N)=(hs.flatMap ixH).map N
 | [],n=>by simp[hdP]
 |r::hs,n=>by
  rw[hdP,MG,Mj,Ml,<-FP hs (n+1)];cases r<;>rfl
theorem Gg:∀(ds:List De)(n:Int),((deP n ds).flatMap λp=>dNm N p::dPs N p)=(ds.flatMap λd=>d.1::d.2.1).map N
 | [],n=>by simp[deP]
 |d::ds,n=>by
  rw[deP,Mj,Mj,Ml,<-Gg ds];rfl
theorem Hn:∀n0,n0<5->∀n1,n1<5->∀n2,n2<3->([1,2,3,4,5,6,7,19,20]++((9::psI 0 n0)++((10::psI 1 n1)++((21::psI 2 n2)++[])))).Nodup/\∀i∈[1,2,3,4,5,6,7,19,20]++((9::psI 0 n0)++((10::psI 1 n1)++((21::psI 2 n2)++[]))),i<24:=∅
theorem HQ{hs:List Lr}{ds:List De}{mb:List Tr}(O:eN hs ds mb):(ixA hs ds).Nodup/\(∀i∈ixA hs ds,i<24)/\(ixA hs ds).length<=22:=by
 obtain⟨rk,z,t,e1,_⟩:=O.hd;have ed:∃n0 n1 n2,n0<5/\n1<5/\n2<3/\(ds.flatMap λd=>d.1::d.2.1)=(9::psI 0 n0)++((10::psI 1 n1)++((21::psI 2 n2)++[])):=by
  have hl:=O.dl;match ds,hl,O.de with
  | [a,b,c],_,de=>
   obtain⟨a1,⟨n0,h0,a2⟩,_⟩:=de.at' 0 a rfl;obtain⟨b1,⟨n1,h1,b2⟩,_⟩:=de.at' 1 b rfl;obtain⟨c1,⟨n2,h2,c2⟩,_⟩:=de.at' 2 c rfl;refine{n0,n1,n2,h0,h1,h2,?_};rw[Mj,Mj,Mj,a1,a2,b1,b2,c1,c2];rfl
 obtain⟨n0,n1,n2,h0,h1,h2,ed⟩:=ed;have pm:(ixA hs ds).Perm ([1,2,3,4,5,6,7,19,20]++((9::psI 0 n0)++((10::psI 1 n1)++((21::psI 2 n2)++[])))):=by
  unfold ixA;rw[ed];refine O8 _ ?_;rw[e1];unfold qb;have:(mX rk z).flatMap ixH=[1,2,3,4,5,6,7,19,20]:=rfl;rw[<-this];refine Rq _ (Mp.trans ?_);rw[LO]
 obtain⟨d1,d2⟩:=Hn n0 h0 n1 h1 n2 h2;refine{pm.nodup_iff.mpr d1,λi hi=>d2 i (pm.mem_iff.mp hi),?_};rw[pm.length_eq];simp[psI];lia
theorem ub{hs:List Lr}{ds:List De}(ms:List Pt)(n:Int):dC N (hdP 1 hs) (deP n ds) ms=(ixA hs ds).map N++zX (bI N (deP n ds) ms)++[("the clock":Str)]:=by
 unfold dC ixA;rw[FP,Gg,Ml]
theorem HV(nm:lJ N){x:Nat}(hx:x<24):Ow (N x)=true:=by
 unfold Ow;rw[Array.all_eq_true];intro i hi;have:=nm.ch x hx (N x).cps[i] (by rw[Nv];exact Td hi);exact decide_eq_true ()
theorem Ck:∀n:Fin 301,Ow (aV (n.val:Int))=true:=by decide+kernel
theorem yM(nm:lJ N){hs:List Lr}{ds:List De}{mb:List Tr}(O:eN hs ds mb):∀x∈dC N (hdP 1 hs) (deP ((hs.length:Nat)+1) ds) (aU (msN hs ds) mb),Ow x=true:=by
 rw[ub];obtain⟨d1,d2,_⟩:=HQ O;obtain⟨r1,r2⟩:=Jd (N:=N) O;intro x hx;rcases Ls.mp hx with hx|hx
 ·rcases Ls.mp hx with hx|hx
  ·obtain⟨i,hi,rfl⟩:=LN.mp hx;exact HV nm (d2 i hi)
  obtain⟨e,he,rfl⟩:=LN.mp hx;have:=r2 e (MX.mp he).1;have h:=Ck {e.1.no.toNat,()};rwa [show((e.1.no.toNat:Nat):Int)=e.1.no by lia]at h
 rw[Lp.mp hx];decide+kernel
noncomputable def Gk(dd:List (Nat×Nat)):Pt->Prop
 | .leaf _ (.call i us)=>(i,us.length)∈dd
 |_=>True
def Pe(dd:List (Nat×Nat))(a z:Int)(e:Le):Prop:=k5 e.1=true/\lOk e.1 e.2.2/\Gk dd e.1/\a<=e.1.no/\e.1.no<z
theorem Pe.mono{dd:List (Nat×Nat)}{a z a' z':Int}{e:Le}(h:Pe dd a z e)(ha:a'<=a)(hz:z<=z'):Pe dd a' z' e:={h.1,h.2.1,h.2.2.1,by have:=h.2.2.2.1;lia,by have:=h.2.2.2.2;lia}
mutual
theorem Kn{ps:List Nat}{dd:List (Nat×Nat)}:∀(t:Tr)(b:Bool)(pl lp:Option Str)(n:Int),okT ps dd b t->(b=true->lp.isSome=true)->∀e∈(ptT n t,pl,lp)::cA lp (ptT n t),Pe dd n (n+((flT t).length:Nat)) e
 | .leaf r,b,pl,lp,n,ok,hb=>by
  rw[okT]at ok;rw[ptT,cA,flT];intro e he;rw[Lp.mp he];refine{?_,λz=>?_,?_,NB _,by show n<n+((1:Nat):Int);lia}
  ·cases r<;>first|rfl|exact ok.elim
  ·cases r with
   |last=>exact hb ok
   |_=>cases z
  cases r with
  |call i us=>exact ok.1
  |_=>trivial
 | .iff v a c f o,b,pl,lp,n,ok,hb=>by
  rw[okT]at ok;rw[ptT,cA,flT,Lq,Ll,Lq,Ll,Lo];intro e he;rcases Lu.mp he with rfl|he
  ·exact{rfl,(λz=>by cases z),trivial,NB _,by show n<_;lia}
  rcases Ls.mp he with he|he
  ·exact(ua f b _ lp (n+1) ok.2.1 hb e he).mono () (by push_cast;lia)
  exact(ua o b _ lp _ ok.2.2 hb e he).mono () (by push_cast;lia)
 | .loop t m a c d,b,pl,lp,n,ok,hb=>by
  rw[okT]at ok;rw[ptT,cA,flT,Lq,Ll,Lo];intro e he;rcases Lu.mp he with rfl|he
  ·exact{rfl,(λz=>by cases z),trivial,NB _,by show n<_;lia}
  exact(ua d true _ _ (n+1) ok.2.2.2 (λ_=>rfl) e he).mono () (by push_cast;lia)
theorem ua{ps:List Nat}{dd:List (Nat×Nat)}:∀(ts:List Tr)(b:Bool)(pl lp:Option Str)(n:Int),cG ps dd b ts->(b=true->lp.isSome=true)->∀e∈bp pl lp (aU n ts),Pe dd n (n+((au ts).length:Nat)) e
 | [],b,pl,lp,n,ok,hb=>by
  rw[aU,bp];intro e he;cases he
 |t::ts,b,pl,lp,n,ok,hb=>by
  rw[cG]at ok;rw[aU,Dp,au,Ll];intro e he;rw[<-L8]at he;rcases Ls.mp he with he|he
  ·exact(Kn t b pl lp n ok.1 hb e he).mono () (by push_cast;lia)
  exact(ua ts b pl lp _ ok.2 hb e he).mono () (by push_cast;lia)
end
mutual
theorem F8{ps:List Nat}{dd:List (Nat×Nat)}{idx:List Nat}(hi:∀e∈dd,e.1∈idx):∀(t:Tr)(b:Bool)(n:Int),okT ps dd b t->cOk idx (ptT n t)
 | .leaf r,b,n,ok=>by
  rw[okT]at ok;rw[ptT];cases r with
  |call i us=>
   rw[cOk];exact hi _ ok.1
  |_=>simp[cOk]
 | .iff v a c f o,b,n,ok=>by
  rw[okT]at ok;rw[ptT,cOk];exact{qR hi f b _ ok.2.1,qR hi o b _ ok.2.2}
 | .loop t m a c d,b,n,ok=>by
  rw[okT]at ok;rw[ptT,cOk];exact{by have:=ok.2.1;lia,by have:=ok.2.2.1;lia,qR hi d true _ ok.2.2.2}
theorem qR{ps:List Nat}{dd:List (Nat×Nat)}{idx:List Nat}(hi:∀e∈dd,e.1∈idx):∀(ts:List Tr)(b:Bool)(n:Int),cG ps dd b ts->qL idx (aU n ts)
 | [],b,n,ok=>by rw[aU,qL];trivial
 |t::ts,b,n,ok=>by
  rw[cG]at ok;rw[aU,qL];exact{F8 hi t b n ok.1,qR hi ts b _ ok.2}
end
theorem yY:∀(ds:List De)(n:Int),(deP n ds).map dIx=ds.map (·.1)
 | [],n=>rfl
 |d::ds,n=>by rw[deP,LC,LC,yY ds];rfl
theorem Dk(nm:lJ N){hs:List Lr}{ds:List De}{mb:List Tr}(O:eN hs ds mb){d:De}(m:d∈ds)(n:Int):poM N (deP n ds) (N d.1)=d.2.1.map N:=by
 obtain⟨k,hk⟩:=LX m;have kl:k<(deP n ds).length:=by rw[qj];exact(LJ.mp hk).1
 obtain⟨p,hp⟩:∃p,(deP n ds)[k]?=UE p:={_,Lw kl};obtain⟨d',n',h1,_,_,rfl⟩:=dy hp;rw[hk]at h1;cases h1;exact ze (N:=N) (ds:=deP n ds) (by rw[vG];exact FZ nm O) (LW hp)
theorem oE(nm:lJ N){hs:List Lr}{ds:List De}{mb:List Tr}(O:eN hs ds mb):∀e∈bI N (deP ((hs.length:Nat)+1) ds) (aU (msN hs ds) mb),k5 e.1=true/\lOk e.1 e.2.2/\Gk (ir ds) e.1/\1<=e.1.no/\e.1.no<=1000:=by
 obtain⟨l1,l2,l3⟩:=vT O;intro e he;unfold bI at he;rcases Ls.mp he with he|he
 ·unfold dM at he;obtain⟨p,mp,he⟩:=Md.mp he;obtain⟨k,hk⟩:=LX mp;obtain⟨d,n',h1,h2,h3,rfl⟩:=dy hk;obtain⟨_,_,ok,_⟩:=O.de.at' k d h1;obtain⟨a1,a2,a3,a4,a5⟩:=ua d.2.2 false (UE (N d.1)) UG (n'+1) ok (λz=>by cases z) e he;have lf:(flD d).length=(au d.2.2).length+2:=by unfold flD;simp
  refine{a1,a2,?_,(),()};revert a3
  cases e.1 with
  |leaf m r=>
   cases r with
   |call i us=>
    intro a3;obtain⟨d',md,e'⟩:=LN.mp a3;exact LN.mpr ⟨d',Mn md,e'⟩
   |_=>exact id
  |_=>exact id
 obtain⟨a1,a2,a3,a4,a5⟩:=ua mb false UG UG (msN hs ds) O.mo (λz=>by cases z) e he;unfold msN at a4 a5;exact{a1,a2,a3,(),()}
theorem GR(nm:lJ N){hs:List Lr}{ds:List De}{mb:List Tr}(O:eN hs ds mb)(n:Int){t:Pt}(h:Gk (ir ds) t):Cw N (poM N (deP n ds)) ((deP n ds).map (dNm N)) t:=by
 cases t with
 |leaf m r=>
  cases r with
  |call i us=>
   obtain⟨d,md,e⟩:=LN.mp h;obtain⟨e1,e2⟩:=Rc e;subst e1;refine{?_,?_}
   ·rw[vG];exact LN.mpr ⟨d,md,rfl⟩
   rw[Dk nm O md,Lm];exact e2.symm
  |_=>trivial
 |_=>trivial
theorem D3{po:Str->List Str}{t:Pt}{pl lp:Option Str}(h:∀m i us,t=.leaf m (.call i us)->us.length=(po (N i)).length/\(po (N i)).length<=4):(pZ N po t pl lp).length<=9:=by
 have d:=λinto kd=>uT (N:=N) t into kd pl;cases t with
 |leaf m r=>
  cases r with
  |call i us=>
   obtain⟨h1,h2⟩:=h m i us rfl;show(clA N m (us.zip (po (N i)))++clB pl m (po (N i)++[N i])).length<=9;have a:=uE (vJ N m) (wo m) (us.zip (po (N i)));have b:=uE (λinto=>drw [pl] into "under" m) (λx=>bZ _ _ _ _) (po (N i)++[N i]);rw[Nx]at a;rw[Ll,Lo]at b;unfold clA clB;rw[Ll];lia
  |set x v=>exact LG (d _ _) ∅
  |put x p v=>exact LG (d _ _) ∅
  |snd x v=>exact LG (d _ _) ∅
  |say x v k=>
   show(saL pl (N x) (N k) m).length<=9;unfold saL;have a:=bZ [UE (N k)] (N x) "value" m;have b:=bZ [pl] (N x) "under" m;have c:=bZ [pl] (aV m) "under" m;simp only[Lo]at a b c;rw[Ll,Ll];lia
  |last=>exact LG (bZ [pl] _ _ _) (by show 1<=9;decide)
  |_=>exact LH _
 |iff _ _ _ _ _ _=>exact LG (d _ _) ∅
 |loop _ _ _ _ _ _=>exact LG (d _ _) ∅
 |aZ _ _ _ _=>exact LH _
theorem DT{b:Bool}{ds:List Pt}{e:Le}(h:∀m i us,e.1=.leaf m (.call i us)->us.length=(poM N ds (N i)).length/\(poM N ds (N i)).length<=4):(tG N b ds e).length<=9:=by
 have h9:=D3 (N:=N) (pl:=e.2.1) (lp:=e.2.2) h;have s1:(qU b (knA bJ UG ds) e.1).length<=1:=by
  unfold qU;split
  ·exact Df _ _
  exact LH _
 unfold tG;rw[Ll];obtain⟨t,pl,lp⟩:=e;have d:=λinto kd=>uT (N:=N) t into kd pl;have cut:(pZ N (poM N ds) t pl lp).length<=8->(pZ N (poM N ds) t pl lp).length+(qU b (knA bJ UG ds) t).length<=9:=λz=>by
  have s1:(qU b (knA bJ UG ds) t).length<=1:=s1;lia
 show(pZ N (poM N ds) t pl lp).length+(qU b (knA bJ UG ds) t).length<=9;cases t with
 |leaf m r=>
  cases r with
  |call i us=>
   have:qU b (knA bJ UG ds) (.leaf m (.call i us))=[]:=by cases b<;>rfl
   rw[this];exact h9
  |set x v=>exact cut (LG (d _ _) ∅)
  |put x p v=>exact cut (LG (d _ _) ∅)
  |snd x v=>exact cut (LG (d _ _) ∅)
  |say x v k=>
   refine cut ?_;show(saL pl (N x) (N k) m).length<=8;unfold saL;have a:=bZ [UE (N k)] (N x) "value" m;have b:=bZ [pl] (N x) "under" m;have c:=bZ [pl] (aV m) "under" m;simp only[Lo]at a b c;rw[Ll,Ll];lia
  |last=>exact cut (LG (bZ [pl] _ _ _) (by show 1<=8;decide))
  |_=>exact cut (LH _)
 |iff _ _ _ _ _ _=>exact cut (LG (d _ _) ∅)
 |loop _ _ _ _ _ _=>exact cut (LG (d _ _) ∅)
 |aZ _ _ _ _=>exact cut (LH _)
def EN(ps:List Nat)(dd:List (Nat×Nat))(k:Nat)(p:Pt):Prop:=∃(t:Tr)(n:Int)(b:Bool),p=ptT n t/\okT ps dd b t/\dpT t<=k
mutual
theorem JH{ps:List Nat}{dd:List (Nat×Nat)}:∀(t:Tr)(b:Bool)(pl lp:Option Str)(n:Int),okT ps dd b t->∀e∈(ptT n t,pl,lp)::cA lp (ptT n t),EN ps dd (dpT t) e.1
 | .leaf r,b,pl,lp,n,ok=>by
  intro e he;rw[ptT,cA]at he;rw[Lp.mp he];exact{.leaf r,n,b,by rw[ptT],ok,Ln _}
 | .iff v a c f o,b,pl,lp,n,ok=>by
  intro e he;rcases Lu.mp he with rfl|he
  ·exact{_,n,b,rfl,ok,Ln _}
  rw[okT]at ok;rw[ptT,cA]at he;rw[dpT];rcases Ls.mp he with he|he
  ·obtain⟨t,m,b',h1,h2,h3⟩:=kZ f b _ lp _ ok.2.1 e he;exact{t,m,b',h1,h2,()}
  obtain⟨t,m,b',h1,h2,h3⟩:=kZ o b _ lp _ ok.2.2 e he;exact{t,m,b',h1,h2,()}
 | .loop t m a c d,b,pl,lp,n,ok=>by
  intro e he;rcases Lu.mp he with rfl|he
  ·exact{_,n,b,rfl,ok,Ln _}
  rw[okT]at ok;rw[ptT,cA]at he;rw[dpT];obtain⟨t,m,b',h1,h2,h3⟩:=kZ d true _ _ _ ok.2.2.2 e he;exact{t,m,b',h1,h2,()}
theorem kZ{ps:List Nat}{dd:List (Nat×Nat)}:∀(ts:List Tr)(b:Bool)(pl lp:Option Str)(n:Int),cG ps dd b ts->∀e∈bp pl lp (aU n ts),EN ps dd (bN ts) e.1
 | [],b,pl,lp,n,ok=>by
  intro e he;rw[aU,bp]at he;cases he
 |t::ts,b,pl,lp,n,ok=>by
  intro e he;rw[cG]at ok;rw[aU,Dp]at he;rw[bN];rcases Ls.mp (show e∈((ptT n t,pl,lp)::cA lp (ptT n t))++bp pl lp (aU (n+((flT t).length:Nat)) ts)from he)with he|he
  ·obtain⟨t,m,b',h1,h2,h3⟩:=JH t b pl lp n ok.1 e he;exact{t,m,b',h1,h2,()}
  obtain⟨t,m,b',h1,h2,h3⟩:=kZ ts b pl lp _ ok.2 e he;exact{t,m,b',h1,h2,()}
end
theorem JA{hs:List Lr}{ds:List De}{mb:List Tr}(O:eN hs ds mb):∀e∈bI N (deP ((hs.length:Nat)+1) ds) (aU (msN hs ds) mb),cOk ((deP ((hs.length:Nat)+1) ds).map dIx) e.1/\dep e.1<=6:=by
 intro e he;rw[yY];have go:∀{ps:List Nat}{dd:List (Nat×Nat)}{k:Nat},EN ps dd k e.1->(∀x∈dd,x.1∈ds.map (·.1))->k<=6->cOk (ds.map (·.1)) e.1/\dep e.1<=6:=by
  intro ps dd k ⟨t,n,b,h1,h2,h3⟩ hd hk;rw[h1];exact{F8 hd t b n h2,by rw[Gh];lia}
 unfold bI at he;rcases Ls.mp he with he|he
 ·unfold dM at he;obtain⟨p,mp,he⟩:=Md.mp he;obtain⟨k,hk⟩:=LX mp;obtain⟨d,n',h1,h2,h3,rfl⟩:=dy hk;obtain⟨_,_,ok,dpd,_⟩:=O.de.at' k d h1;refine go (kZ d.2.2 false _ _ _ ok e he) (λx hx=>?_) dpd;obtain⟨d',m',rfl⟩:=LN.mp hx;exact LN.mpr ⟨d',Mn m',rfl⟩
 refine go (kZ mb false _ _ _ O.mo e he) (λx hx=>?_) O.md;obtain⟨d',m',rfl⟩:=LN.mp hx;exact LN.mpr ⟨d',m',rfl⟩
theorem FW{α β:Type}(f:α->List β)(k:Nat):∀(l:List α),(∀x∈l,(f x).length<=k)->(l.flatMap f).length<=k*l.length
 | [],_=>LH _
 |x::l,h=>by
  have h1:=FW f k l λy hy=>h y (Lx _ hy);have h2:=h x LB;rw[Mj,Ll,Lq,Nat.mul_succ];lia
theorem HE(nm:lJ N){hs:List Lr}{ds:List De}{mb:List Tr}(O:eN hs ds mb):OkL N 6 (hdP 1 hs) (deP ((hs.length:Nat)+1) ds) (aU (msN hs ds) mb) where
 ok:={
  aZ:=λp m=>by
   obtain⟨k,hk⟩:=LX m;obtain⟨d,n',h1,_,_,rfl⟩:=dy hk;refine{trivial,?_};show lZ (aU (n'+1) d.2.2)<=6;rw[mV];exact(O.de.at' k d h1).2.2.2.1
  main:=by rw[mV];exact O.md
  nb:=λe he=>by
   have:=oE nm O e he;exact{(),this.2.2.2.2}
  ln:=LG (zG O) ∅
  hl:=by rw[vU,(vT O).1];decide }
 dk:={
  aZ:=λp m=>by
   obtain⟨k,hk⟩:=LX m;obtain⟨d,n',h1,_,_,rfl⟩:=dy hk;trivial
  dp:=λp m=>by
   obtain⟨k,hk⟩:=LX m;obtain⟨d,n',h1,_,_,rfl⟩:=dy hk;show lZ (aU (n'+1) d.2.2)<=6;rw[mV];exact(O.de.at' k d h1).2.2.2.1
  ck:=λk p hk=>by
   obtain⟨d,n',h1,_,_,rfl⟩:=dy hk;rw[xt,yY];refine qR (λe he=>?_) d.2.2 false _ (O.de.at' k d h1).2.2.1;obtain⟨d',m',rfl⟩:=LN.mp he;exact LN.mpr ⟨d',m',rfl⟩
  nm:=λi j p q hp hq e=>by
   obtain⟨d,n',h1,_,_,rfl⟩:=dy hp;obtain⟨d',n'',h2,_,_,rfl⟩:=dy hq;have e:N d.1=N d'.1:=e;have i3:i<3:=by rw[<-O.dl];exact(LJ.mp h1).1
   have j3:j<3:=by rw[<-O.dl];exact(LJ.mp h2).1
   rw[(O.de.at' i d h1).1,(O.de.at' j d' h2).1]at e;exact Eo i3 j3 (nm.inj _ _ yS yS e)
  ln:=by rw[qj,O.dl];decide }
 nn:=by rw[vG];exact FZ nm O
 pn:=λp m=>by
  obtain⟨k,hk⟩:=LX m;obtain⟨d,n',h1,_,_,rfl⟩:=dy hk;show(d.2.1.map N).length<=100;rw[Lm];exact LG (xY O (LW h1)) ∅
 k5:=λe he=>(oE nm O e he).1
 lo:=λe he=>(oE nm O e he).2.1
 cal:=λe he=>GR nm O _ (oE nm O e he).2.2.1
 ck:=JA O
 ll:=λb=>by
  unfold cq;refine LG (FW _ 9 _ λe he=>DT λm i us ee=>?_) (LG (Nat.mul_le_mul_left 9 (zG O)) ∅);have h:=(oE nm O e he).2.2.1;rw[ee]at h;obtain⟨d,md,e'⟩:=LN.mp h;obtain⟨e1,e2⟩:=Rc e';subst e1;rw[Dk nm O md,Lm];exact⟨e2.symm,xY O md⟩
end
section
variable{P:Program}{w:Of}{K:Oc}{mg:Str->Option E9}{base:OC}{A:Adr}{N:Nat->Str}
seal PE PA PS PSs PT PW
mutual
noncomputable def exT(kn:Nat->Option Int):Tr->Option Int
 | .leaf (.call i _)=>AS 1 (kn i)
 | .leaf _=>UE 1
 | .iff _ l r f o=>yx l r (cu kn f) (cu kn o)
 | .loop _ m l r b=>y4 m l r (cu kn b)
noncomputable def cu(kn:Nat->Option Int):List Tr->Option Int
 | []=>UE 0
 |t::ts=>iB (exT kn t) (cu kn ts)
end
mutual
noncomputable def cT(idx:List Nat):Tr->Prop
 | .leaf (.call i _)=>i∈idx
 | .leaf _=>True
 | .iff _ _ _ f o=>cTs idx f/\cTs idx o
 | .loop _ m _ _ b=>0<=m/\m<=1000/\cTs idx b
noncomputable def cTs(idx:List Nat):List Tr->Prop
 | []=>True
 |t::ts=>cT idx t/\cTs idx ts
end
mutual
theorem Jp{ps:List Nat}{dd:List (Nat×Nat)}{idx:List Nat}(hi:∀e∈dd,e.1∈idx):∀(t:Tr)(b:Bool),okT ps dd b t->cT idx t
 | .leaf r,b,ok=>by
  rw[okT]at ok;cases r with
  |call i us=>
   rw[cT];exact hi _ ok.1
  |_=>simp[cT]
 | .iff v a c f o,b,ok=>by
  rw[okT]at ok;rw[cT];exact⟨oB hi f b ok.2.1,oB hi o b ok.2.2⟩
 | .loop t m a c d,b,ok=>by
  rw[okT]at ok;rw[cT];exact{by have:=ok.2.1;lia,by have:=ok.2.2.1;lia,oB hi d true ok.2.2.2}
theorem oB{ps:List Nat}{dd:List (Nat×Nat)}{idx:List Nat}(hi:∀e∈dd,e.1∈idx):∀(ts:List Tr)(b:Bool),cG ps dd b ts->cTs idx ts
 | [],b,ok=>by rw[cTs];trivial
 |t::ts,b,ok=>by
  rw[cG]at ok;rw[cTs];exact⟨Jp hi t b ok.1,oB hi ts b ok.2⟩
end
theorem zA{idx:List Nat}:∀{a b:List Tr},cTs idx (a++b)->cTs idx a/\cTs idx b
 | [],b,h=>{by rw[cTs];trivial,h}
 |t::a,b,h=>by
  rw[L8,cTs]at h;have:=zA h.2;exact{by rw[cTs];exact⟨h.1,this.1⟩,this.2}
theorem Ku(x:Option Int):iB x (UE 0)=x:=by
 cases x with
 |none=>rfl
 |some a=>
  show UE (a+0)=UE a;rw[Int.add_zero]
theorem Kh(x:Option Int):iB (UE 0) x=x:=by
 cases x with
 |none=>rfl
 |some a=>
  show UE (0+a)=UE a;rw[NZ]
theorem uy(kn:Nat->Option Int)(t:Tr):∀a:List Tr,cu kn (a++[t])=iB (cu kn a) (exT kn t)
 | []=>by
  rw[L6];simp only[cu];rw[Ku,Kh]
 |u::a=>by rw[L8,cu,cu,uy kn t a,pE]
theorem BK:∀i:Fin 11,i.val≠9->wdI i.val≠"call":=by decide+kernel
theorem E1(r:Lr):(∃i us,r=.call i us)\/(¬ decide (V.str r.wd=V.str "call")=true/\∀kn,exT kn (.leaf r)=UE 1):=by
 by_cases c:r.ci=9
 ·cases r<;>first|exact .inl {_,_,rfl}|cases c
 refine .inr {λz=>?_,λkn=>?_}
 ·have:=zY r;have e:=V.str.inj (of_decide_eq_true z);rw[zF]at e;exact BK {r.ci,()} c e
 cases r with
 |call _ _=>exact absurd rfl c
 |_=>simp[exT]
theorem gk.mono{H H':Hp}{D:N6}{idx:List Nat}{kn:Nat->V}(h:gk N H D idx kn)(s:aj H H'):gk N H' D idx kn:=by
 obtain⟨kvs,h1,h2⟩:=h;exact{kvs,s _ _ h1,h2}
inductive lP(d:Nat)(vs:List V)(H:Hp)(Q:VK)(Z:XK):Prop
 |mk(N:Nat->Str)(X:Hp)(L:N6)(xs:List V)(fs pre post:List Fr)(ts:List Tr)(st:Fr)(D:N6)(idx:List Nat)(kn:Nat->Option Int)(z0:vs=[.ref L,.int (pre.length:Nat),.ref D])(z1:aj X H)(z2:X L=UE (.lst xs))(z3:aS N X fs xs)(z4:fs=pre++au ts++st::post)(z5:xw st=true)(z6:bN ts<=d)(z7:cTs idx ts)(z8:gk N H D idx λi=>oI (kn i))(z9:xs.length<=300)
  (z10:∀(p:N6)(H':Hp),aj H H'->H' p=UE (.tup [oI (cu kn ts),.int ((pre.length+(au ts).length:Nat):Int)])->Q (.ref p) H'):lP d vs H Q Z
inductive DH(ts:List Tr)(L:N6)(pre:List Fr)(D:N6)(kn:Nat->Option Int)(H:Hp)(m:Nat)(σ:St)(Hc:Hp):Prop
 |mk(dn rest:List Tr)(v4 v5 v6 v7:Option V):ts=dn++rest->rest.length=m->σ=[UE (.ref L),UE (.int ((pre.length+(au dn).length:Nat):Int)),UE (.ref D),UE (oI (cu kn dn)),v4,v5,v6,v7]->aj H Hc->DH ts L pre D kn H m σ Hc
inductive Cm(m:Nat)(ts:List Tr)(L:N6)(pre:List Fr)(D:N6)(kn:Nat->Option Int)(H:Hp)(σ:St)(Hc:Hp):Prop
 |mk(dn rest:List Tr)(v4 v5 v6 v7:Option V)(m':Nat):m'<m->ts=dn++rest->rest.length=m'->σ=[UE (.ref L),UE (.int ((pre.length+(au dn).length:Nat):Int)),UE (.ref D),UE (oI (cu kn dn)),v4,v5,v6,v7]->aj H Hc->Cm m ts L pre D kn H σ Hc
theorem um(T:Txt K mg A)(d j:Nat)(bf:T.gp.Hz P w base j (spN lP d)):T.gp.Hz P w base (j+1) (lP d):=by
 refine T.gp.hs (k:=j) aO (λf cdv A' outer s H vs Q E hr hu h=>?_);obtain⟨N,X,L,xs,fs,pre,post,ts,st,D,idx,kn,rfl,s0,hL,fr,efs,hst,dp,ck,hD,lx,q⟩:=h;have lfs:fs.length<=300:=by rw[Oe fr];exact lx
 refine{_,(ab (pst 3 aO.nd af)
  (ab (js Oq (ptc (kU hu) (px hu (px hu (fv 0) (fv 1)) af) (aP (ar^ar^ae)) ((by with_unfolding_all rfl)))
   (ab (pst 4 aO.nd (px hu (fv 0) (fv 1)))
   (ab (pst 5 aO.nd af)
   (ab (aL (ptc (bV hu) (px hu (fv 4) af) ar)
    (ai (pst 5 aO.nd (px hu (fv 2) (px hu (fv 4) af))))
    (ai (aL (ptc (bV hu) (px hu (fv 4) af) ar)
     (ab (bM (ak (hj:=by lia) bf hr (fv 0^aw aD (fv 1) af^fv 2^ae)) (cL rfl (aH (pgn (i:=6) aO.nd rfl) (aH (pgn (i:=1) aO.nd rfl) bU))))
     (ab (bM (ak (hj:=by lia) bf hr (fv 0^aw aD (fv 1) af^fv 2^ae)) (cL rfl (aH (pgn (i:=7) aO.nd rfl) (aH (pgn (i:=1) aO.nd rfl) bU))))
     (ab (pst 5 aO.nd bH)
     (ai (aL (PW.pt (pw_and (ptc fz (fv 6) bH) (pw_and (ptc fz (fv 7) bH) (pw_and1 (ptc (bV hu) (aw aD (px hu (fv 4) af) (fv 6)) (aw aD (px hu (fv 4) af) (fv 7)))))))
      (ai (pst 5 aO.nd (aw aD (px hu (fv 4) af) (fv 6))))
      aC)))))
     (ai (aL (ptc (bV hu) (px hu (fv 4) af) ar)
      (ab (bM (ak (hj:=by lia) bf hr (fv 0^aw aD (fv 1) af^fv 2^ae)) (cL rfl (aH (pgn (i:=6) aO.nd rfl) (aH (pgn (i:=1) aO.nd rfl) bU))))
      (ab (pst 5 aO.nd bH)
      (ai (aL (PW.pt (pw_and (ptc fz (fv 6) bH) (pw_and1 (ptc (bV hu) (aw aD (px hu (fv 4) af) (fv 6)) (px hu (fv 4) af)))))
       (ai (pst 5 aO.nd (aw dj (px hu (fv 4) af) (px hu (fv 4) af))))
       aC))))
      aC)))))
   (ab (aL (PW.pt (pw_and (ptc fz (fv 3) bH) (pw_and1 (ptc fz (fv 5) bH))))
    (ai (pst 3 aO.nd (aw aD (aw aD (fv 3) af) (fv 5))))
    (ai (pst 3 aO.nd bH)))
   (ai (pst 1 aO.nd (aw aD (fv 1) af))))))))
  (ai (aA (aP (fv 3^fv 1^ae)))))),?_}
 refine ag λM1 K1=>K1 _ _ ?_;clear K1 M1;try dsimp only
 refine ag λM1 K1=>{DH ts L pre D kn H,{ts.length,[],ts,UG,UG,UG,UG,rfl,rfl,by rw[au,cu];rfl,aj.refl _},?_};rintro m σ Hc ⟨dn,rest,v4,v5,v6,v7,ets,em,rfl,sH⟩;have sX:=s0.trans sH;have hLc:=SqL.of (K:=K) (sX _ _ hL);cases rest with
 |nil=>
  rw[LQ]at ets;subst ets;obtain⟨v,av,⟨a,p,rfl,ha,_⟩⟩:=gD fr (a:=pre++au ts) (f:=st) (b:=post) efs;rw[Ll]at av;refine lix hLc av (tix (j:=0) (SqT.of (sX _ _ ha)) rfl {by show 2<=sizeLine;decide,λtp htp=>?_});have st':=aj.upd htp (.tup [V.str "else",.str "end"]);exact LL {_,MY (SqT.of ao),rfl,rfl,_,rfl,aR (λz=>absurd z (by show ¬ (!inV (V.str st.wd) [V.str "else",V.str "end"])=true;rw[qi,hst];decide)) (λ_=>K1 _ _ {by show 2<=sizeLine;decide,λp hp=>q p _ (sH.trans (st'.trans (aj.upd hp _))) ao})}
 |cons t rest=>
 clear K1;obtain⟨tl,et⟩:=BZ t;have efs':fs=(pre++au dn)++hdF t::(tl++au rest++st::post):=by
  rw[efs,ets,dm,au,et];simp
 obtain⟨v,av,fv'⟩:=gD fr efs';rw[Ll]at av;obtain⟨a,p,rfl,ha,hob⟩:=fv';have nstop:xw (hdF t)=false:=by cases t<;>rfl
 refine lix hLc av (tix (j:=0) (SqT.of (sX _ _ ha)) rfl {by show 2<=sizeLine;decide,λtp htp=>?_});obtain⟨s2,e2⟩:=alc htp (HO.tup [V.str "else",.str "end"]);generalize upd Hc tp _=H2 at s2 e2⊢;refine LL {_,MY (SqT.of e2),rfl,rfl,_,rfl,aR (λ_=>?_) (λz=>absurd (by show(!inV (V.str (hdF t).wd) [V.str "else",V.str "end"])=true;rw[qi,nstop];rfl) z)};refine{Cm m ts L pre D kn H,λσ Hc ⟨dn,rest,v4,v5,v6,v7,m',hm',h1,h2,h3,h4⟩=>⟨m',hm',dn,rest,v4,v5,v6,v7,h1,h2,h3,h4⟩,?_};have sX2:=sX.trans s2;have sH2:=sH.trans s2;have dpt:dpT t<=d:=by
  rw[ets,lN,bN]at dp;lia
 have ckt:cT idx t:=by
  rw[ets]at ck;have:=(zA ck).2;rw[cTs]at this;exact this.1
 try dsimp only
 refine ag λN1 J1=>lix (s2.seq hLc) av (J1 _ _ ?_);clear J1 N1;try dsimp only
 refine ag λN1 J1=>J1 _ _ ?_;clear J1 N1;try dsimp only
 refine ag λN1 J1=>?_;have fin:∀(x:Option Int)(H4:Hp)(u6 u7:Option V)(at':Int),aj H2 H4->exT kn t=AS 1 x->at'+1=((pre.length+(au dn).length+(flT t).length:Nat):Int)->
   N1 [UE (.ref L),UE (.int at'),UE (.ref D),UE (oI (cu kn dn)),UE (.ref a),UE (oI x),u6,u7] H4:=by
  intro x H4 u6 u7 at' s4 ex ea
  refine J1 _ _ ?_
  clear J1 N1
  refine ag λN2 J2=>?_
  have em':rest.length+1=m:=em
  have fin2:N2 [UE (.ref L),UE (.int at'),UE (.ref D),UE (oI (cu kn (dn++[t]))),UE (.ref a),UE (oI x),u6,u7] H4:=by
   refine J2 _ _ {dn++[t],rest,UE (.ref a),UE (oI x),u6,u7,rest.length,(),by rw[ets];simp,rfl,?_,sH2.trans s4};show[_,UE (V.int (at'+1)),_,_,_,_,_,_]=_;rw[ea,dm,nM,Ll,MO]
  clear J2
  rw[uy,ex]at fin2
  cases hb:cu kn dn with
  |none=>
   rw[hb]at fin2;exact{rfl,_,rfl,bg (bg fin2)}
  |some b=>
   rw[hb]at fin2;refine{rfl,_,rfl,bW ?_};cases x with
   |none=>exact{rfl,_,rfl,bg fin2}
   |some c=>
    refine{rfl,_,rfl,bW ?_};have e:oI (iB (UE b) (AS 1 (UE c)))=V.int (b+1+c):=by
     show V.int (b+(1+c))=_;rw[NX]
    rw[e]at fin2;exact fin2
 clear J1;have hT2:=SqT.of (K:=K) (sX2 _ _ ha);cases t with
 |leaf r=>
  rcases E1 r with⟨i,us,rfl⟩|⟨nc,e1⟩
  ·refine tix (j:=0) hT2 rfl {rfl,_,rfl,aR (λ_=>?_) (λz=>absurd (decide_eq_true rfl) z)};rw[cT]at ckt;obtain⟨kvs,k1,k2⟩:=hD;exact tix (j:=1) hT2 rfl {oI (kn i),.inl {kvs,.inr (N i),.inl (sH2 _ _ k1),rfl,(k2 i ckt).symm},fin (kn i) H2 _ _ _ (aj.refl _) (by rw[exT]) (by rw[flT];push_cast;rfl)}
  exact tix (j:=0) hT2 rfl {rfl,_,rfl,aR (λz=>absurd z nc) (λ_=>tix (j:=0) hT2 rfl {rfl,_,rfl,aR (λz=>absurd z (iD r).1) (λ_=>tix (j:=0) hT2 rfl {rfl,_,rfl,aR (λz=>absurd z (iD r).2) (λ_=>fin (UE 0) H2 _ _ _ (aj.refl _) (e1 kn) (by rw[flT];push_cast;rfl))})})}
 |iff vv l r ff oo=>
  rw[dpT]at dpt;rw[cT]at ckt;cases d with
  |zero=>lia
  |succ d=>
  refine tix (j:=0) hT2 rfl {rfl,_,rfl,aR (λz=>absurd z (show ¬ decide (V.str "if"=V.str "call")=true by decide)) (λ_=>tix (j:=0) hT2 rfl {rfl,_,rfl,aR (λ_=>?_) (λz=>absurd (show decide (V.str "if"=V.str "if")=true from decide_eq_true rfl) z)})};have e1':fs=(pre++au dn++[.iff vv l r])++au ff++ .els::(au oo++ .fin::(au rest++st::post)):=by
   rw[efs,ets,dm,au,flT];simp
  have e2':fs=(pre++au dn++[.iff vv l r]++au ff++[.els])++au oo++ .fin::(au rest++st::post):=by
   rw[e1'];simp
  have l1:(pre++au dn++[Fr.iff vv l r]).length=pre.length+(au dn).length+1:=by simp only[Ll,Lo]
  have l2:(pre++au dn++[Fr.iff vv l r]++au ff++[Fr.els]).length=pre.length+(au dn).length+1+(au ff).length+1:=by simp only[Ll,Lo]
  try dsimp only
  refine ag λN2 J2=>{N,X,L,xs,fs,_,_,ff,.els,D,idx,kn,by rw[l1];push_cast;rfl,sX2,hL,fr,e1',rfl,(),ckt.1,gk.mono hD sH2,lx,λp1 H3 s3 ep1=>{p1,_,rfl,SqT.of ep1,rfl,_,_,rfl,_,_,rfl,rfl,J2 _ _ ?_}};clear J2 N2;have sX3:=sX2.trans s3;try dsimp only
  refine ag λN2 J2=>{N,X,L,xs,fs,_,_,oo,.fin,D,idx,kn,by rw[l1,l2];push_cast;rfl,sX3,hL,fr,e2',rfl,(),ckt.2,gk.mono hD (sH2.trans s3),lx,λp2 H4 s4 ep2=>{p2,_,rfl,SqT.of ep2,rfl,_,_,rfl,_,_,rfl,rfl,?_}};have s34:=s3.trans s4;have hT4:=s34.tup hT2;have ea:((((pre++au dn++[Fr.iff vv l r]++au ff++[Fr.els]).length+(au oo).length:Nat):Int))+1=((pre.length+(au dn).length+(flT (.iff vv l r ff oo)).length:Nat):Int):=by
   rw[l2,flT];simp only[Lq,Ll,Mi];push_cast
   lia
  refine J2 _ _ ?_;clear J2 N2;try dsimp only
  refine ag λN2 J2=>J2 _ _ ?_;clear J2 N2;try dsimp only
  have fi:=λx u6 u7 e=>fin x H4 u6 u7 _ s34 e ea;clear fin;rw[exT]at fi;cases h1:cu kn ff with
  |none=>
   rw[h1]at fi;exact{rfl,_,rfl,bg (bg (fi UG _ _ rfl))}
  |some x1=>
   rw[h1]at fi;refine{rfl,_,rfl,bW ?_};cases h2:cu kn oo with
   |none=>
    rw[h2]at fi;exact{rfl,_,rfl,bg (fi UG _ _ rfl)}
   |some x2=>
    rw[h2]at fi;refine{rfl,_,rfl,bW (tix (j:=2) hT4 rfl (tix (j:=3) hT4 rfl {rfl,_,rfl,aR (λz=>?_) (λz=>?_)}))}
    ·have z:=V.int.inj (of_decide_eq_true z);refine tix (j:=2) hT4 rfl (fi (UE (l+x1)) _ _ ?_);show(if l+x1=r+x2 then UE (1+l+x1)else UG)=UE (1+(l+x1));rw[if_pos z,NX]
    refine fi UG _ _ ?_;show(if l+x1=r+x2 then UE (1+l+x1)else UG)=UG;rw[if_neg λe=>z (decide_eq_true (by rw[e]))]
 |loop th mm l r bb=>
  rw[dpT]at dpt;rw[cT]at ckt;cases d with
  |zero=>lia
  |succ d=>
  refine tix (j:=0) hT2 rfl {rfl,_,rfl,aR (λz=>absurd z (show ¬ decide (V.str "loop"=V.str "call")=true by decide)) (λ_=>tix (j:=0) hT2 rfl {rfl,_,rfl,aR (λz=>absurd z (show ¬ decide (V.str "loop"=V.str "if")=true by decide)) (λ_=>tix (j:=0) hT2 rfl {rfl,_,rfl,aR (λ_=>?_) (λz=>absurd (show decide (V.str "loop"=V.str "loop")=true from decide_eq_true rfl) z)})})};have e1':fs=(pre++au dn++[.loop th mm l r])++au bb++ .fin::(au rest++st::post):=by
   rw[efs,ets,dm,au,flT];simp
  have l1:(pre++au dn++[Fr.loop th mm l r]).length=pre.length+(au dn).length+1:=by simp only[Ll,Lo]
  try dsimp only
  refine ag λN2 J2=>{N,X,L,xs,fs,_,_,bb,.fin,D,idx,kn,by rw[l1];push_cast;rfl,sX2,hL,fr,e1',rfl,(),ckt.2.2,gk.mono hD sH2,lx,λp1 H3 s3 ep1=>{p1,_,rfl,SqT.of ep1,rfl,_,_,rfl,_,_,rfl,rfl,?_}};have hT3:=s3.tup hT2;have ea:((((pre++au dn++[Fr.loop th mm l r]).length+(au bb).length:Nat):Int))+1=((pre.length+(au dn).length+(flT (.loop th mm l r bb)).length:Nat):Int):=by
   rw[l1,flT];simp only[Lq,Ll,Mi];push_cast
   lia
  refine J2 _ _ ?_;clear J2 N2;try dsimp only
  refine ag λN2 J2=>J2 _ _ ?_;clear J2 N2;try dsimp only
  have fi:=λx u6 u7 e=>fin x H3 u6 u7 _ s3 e ea;clear fin;rw[exT]at fi;cases h1:cu kn bb with
  |none=>
   rw[h1]at fi;exact{rfl,_,rfl,bg (bg (fi UG _ _ rfl))}
  |some x1=>
   rw[h1]at fi;refine{rfl,_,rfl,bW (tix (j:=3) hT3 rfl (tix (j:=4) hT3 rfl {rfl,_,rfl,aR (λz=>?_) (λz=>?_)}))}
   ·have z:=V.int.inj (of_decide_eq_true z);refine tix (j:=2) hT3 rfl (tix (j:=4) hT3 rfl {.inl {(),()},fi (UE (mm*r)) _ _ ?_});show(if l+x1=r then UE (1+mm*r)else UG)=UE (1+mm*r);rw[if_pos z]
   refine fi UG _ _ ?_;show(if l+x1=r then UE (1+mm*r)else UG)=UG;rw[if_neg λe=>z (decide_eq_true (by rw[e]))]
theorem nS(T:Txt K mg A):∀d,T.gp.Hz P w base (d+2) (lP d)
 |0=>um T 0 1 (T.gp.hs (k:=0) aO (λ_ _ _ _ _ _ _ _ _ _ _ h=>h.elim) (λ_ _ _ _ h=>h.elim))
 |d+1=>um T (d+1) (d+2) (nS T d)
end
section
variable{P:Program}{w:Of}{K:Oc}{mg:Str->Option E9}{base:OC}{A:Adr}{N:Nat->Str}
noncomputable def eqI:Fr->Fr->Prop
 | .iff v _ _,.iff v' _ _=>v=v'
 | .loop t m _ _,.loop t' m' _ _=>t=t'/\m=m'
 | .leaf r,.leaf r'=>r=r'
 | .aZ i ps,.aZ i' ps'=>i=i'/\ps=ps'
 | .main,.main=>True
 | .els,.els=>True
 | .fin,.fin=>True
 |_,_=>False
theorem km(f:Fr):eqI f f:=by
 cases f<;>simp[eqI]
mutual
noncomputable def cX:Tr->Tr->Prop
 | .leaf r,.leaf r'=>r=r'
 | .iff v _ _ f o,.iff v' _ _ f' o'=>v=v'/\cn f f'/\cn o o'
 | .loop t m _ _ b,.loop t' m' _ _ b'=>t=t'/\m=m'/\cn b b'
 |_,_=>False
noncomputable def cn:List Tr->List Tr->Prop
 | [],[]=>True
 |t::ts,t'::ts'=>cX t t'/\cn ts ts'
 |_,_=>False
end
theorem eY{α β:Type}{F:α->β->Prop}:∀{a c:List α}{g:List β},Paired F (a++c) g->∃g1 g2,g=g1++g2/\Paired F a g1/\Paired F c g2
 | [],c,g,h=>{[],g,rfl,.nil,h}
 |x::a,c,_,.cons (l₂:=g) h r=>by
  obtain⟨g1,g2,e,h1,h2⟩:=eY r;exact{_::g1,g2,by rw[e];rfl,.cons h h1,h2}
theorem nK{α β:Type}{F:α->β->Prop}{x:α}{g:List β}(h:Paired F [x] g):∃y,g=[y]/\F x y:=by
 cases h with
 |cons h r=>
  cases r;exact{_,rfl,h}
theorem vK{g:Fr}(h:eqI .fin g):g=.fin:=by
 cases g<;>first|rfl|exact h.elim
theorem FG{g:Fr}(h:eqI .els g):g=.els:=by
 cases g<;>first|rfl|exact h.elim
mutual
theorem Gp:∀(t:Tr)(g:List Fr),Paired eqI (flT t) g->∃t',g=flT t'/\cX t t'
 | .leaf r,g,h=>by
  rw[flT]at h;obtain⟨y,rfl,e⟩:=nK h;cases y with
  |leaf r'=>
   have e:r=r':=e;subst e;exact{.leaf r,by rw[flT],by rw[cX]}
  |_=>exact e.elim
 | .iff v a c f o,g,h=>by
  rw[flT]at h;cases h with
  |cons h r=>
   rename_i y g;obtain⟨g1,g2,rfl,h1,h2⟩:=eY r;obtain⟨f',rfl,s1⟩:=nE f g1 h1;cases h2 with
   |cons h2 r2=>
    obtain⟨g3,g4,rfl,h3,h4⟩:=eY r2;obtain⟨o',rfl,s2⟩:=nE o g3 h3;obtain⟨z,rfl,h5⟩:=nK h4;rw[FG h2,vK h5];cases y with
    |iff v' a' c'=>
     have e:v=v':=h;subst e;exact{.iff v a' c' f' o',by rw[flT],by rw[cX];exact⟨rfl,s1,s2⟩}
    |_=>exact h.elim
 | .loop t m a c b,g,h=>by
  rw[flT]at h;cases h with
  |cons h r=>
   rename_i y g;obtain⟨g1,g2,rfl,h1,h2⟩:=eY r;obtain⟨b',rfl,s1⟩:=nE b g1 h1;obtain⟨z,rfl,h5⟩:=nK h2;rw[vK h5];cases y with
   |loop t' m' a' c'=>
    have e:t=t'/\m=m':=h;obtain⟨rfl,rfl⟩:=e;exact{.loop t m a' c' b',by rw[flT],by rw[cX];exact⟨rfl,rfl,s1⟩}
   |_=>exact h.elim
theorem nE:∀(ts:List Tr)(g:List Fr),Paired eqI (au ts) g->∃ts',g=au ts'/\cn ts ts'
 | [],g,h=>by
  rw[au]at h;cases h;exact{[],by rw[au],by rw[cn];trivial}
 |t::ts,g,h=>by
  rw[au]at h;obtain⟨g1,g2,rfl,h1,h2⟩:=eY h;obtain⟨t',rfl,s1⟩:=Gp t g1 h1;obtain⟨ts',rfl,s2⟩:=nE ts g2 h2;exact{t'::ts',by rw[au],by rw[cn];exact⟨s1,s2⟩}
end
mutual
theorem JM{ps:List Nat}{dd:List (Nat×Nat)}:∀(t t':Tr),cX t t'->(∀b,okT ps dd b t->okT ps dd b t')/\dpT t'=dpT t/\(flT t').length=(flT t).length
 | .leaf r,.leaf r',h=>by
  rw[cX]at h;subst h;exact{λ_ h=>h,rfl,rfl}
 | .iff v a c f o,.iff v' a' c' f' o',h=>by
  rw[cX]at h;obtain⟨rfl,h1,h2⟩:=h;obtain⟨a1,a2,a3⟩:=iZ f f' h1;obtain⟨b1,b2,b3⟩:=iZ o o' h2;refine{λb h=>?_,by rw[dpT,dpT,a2,b2],by rw[flT,flT];simp[a3,b3]};rw[okT]at h⊢;exact⟨h.1,a1 b h.2.1,b1 b h.2.2⟩
 | .loop t m a c b,.loop t' m' a' c' b',h=>by
  rw[cX]at h;obtain⟨rfl,rfl,h1⟩:=h;obtain⟨a1,a2,a3⟩:=iZ b b' h1;refine{λb h=>?_,by rw[dpT,dpT,a2],by rw[flT,flT];simp[a3]};rw[okT]at h⊢;exact⟨h.1,h.2.1,h.2.2.1,a1 true h.2.2.2⟩
 | .leaf _,.iff _ _ _ _ _,h=>by simp[cX]at h
 | .leaf _,.loop _ _ _ _ _,h=>by simp[cX]at h
 | .iff _ _ _ _ _,.leaf _,h=>by simp[cX]at h
 | .iff _ _ _ _ _,.loop _ _ _ _ _,h=>by simp[cX]at h
 | .loop _ _ _ _ _,.leaf _,h=>by simp[cX]at h
 | .loop _ _ _ _ _,.iff _ _ _ _ _,h=>by simp[cX]at h
theorem iZ{ps:List Nat}{dd:List (Nat×Nat)}:∀(t t':List Tr),cn t t'->(∀b,cG ps dd b t->cG ps dd b t')/\bN t'=bN t/\(au t').length=(au t).length
 | [],[],h=>{λ_ h=>h,rfl,rfl}
 |t::ts,t'::ts',h=>by
  rw[cn]at h;obtain⟨a1,a2,a3⟩:=JM t t' h.1;obtain⟨b1,b2,b3⟩:=iZ ts ts' h.2;refine{λb h=>?_,by rw[bN,bN,a2,b2],by rw[au,au,Ll,Ll,a3,b3]};rw[cG]at h⊢;exact⟨a1 b h.1,b1 b h.2⟩
 | [],_::_,h=>by simp[cn]at h
 |_::_,[],h=>by simp[cn]at h
end
theorem oH{α:Type}{F:α->α->Prop}(h:∀x,F x x):∀l:List α,Paired F l l
 | []=>.nil
 |x::l=>.cons (h x) (oH h l)
theorem x8{α:Type}{F:α->α->Prop}(h:∀x,F x x):∀{l:List α}{i:Nat}{x y:α},l[i]?=UE x->F x y->Paired F l (l.set i y)
 |x'::l,0,x,y,e,f=>by
  cases e;exact .cons f (oH h l)
 |x'::l,i+1,x,y,e,f=>.cons (h x') (x8 (l:=l) (i:=i) h e f)
mutual
theorem AK:∀t:Tr,cX t t
 | .leaf r=>by rw[cX]
 | .iff v a c f o=>by rw[cX];exact⟨rfl,dP f,dP o⟩
 | .loop t m a c b=>by rw[cX];exact⟨rfl,rfl,dP b⟩
theorem dP:∀ts:List Tr,cn ts ts
 | []=>by rw[cn];trivial
 |t::ts=>by rw[cn];exact⟨AK t,dP ts⟩
end
mutual
theorem ya:∀(a b c:Tr),cX a b->cX b c->cX a c
 | .leaf r,b,c,h1,h2=>by
  cases b with
  |leaf r'=>
   rw[cX]at h1;rw[h1];exact h2
  |_=>simp[cX]at h1
 | .iff v l r f o,b,c,h1,h2=>by
  cases b with
  |iff v' l' r' f' o'=>
   cases c with
   |iff v2 l2 r2 f2 o2=>
    rw[cX]at h1 h2⊢;exact⟨h1.1.trans h2.1,dU f f' f2 h1.2.1 h2.2.1,dU o o' o2 h1.2.2 h2.2.2⟩
   |_=>simp[cX]at h2
  |_=>simp[cX]at h1
 | .loop t m l r x,b,c,h1,h2=>by
  cases b with
  |loop t' m' l' r' x'=>
   cases c with
   |loop t2 m2 l2 r2 x2=>
    rw[cX]at h1 h2⊢;exact⟨h1.1.trans h2.1,h1.2.1.trans h2.2.1,dU x x' x2 h1.2.2 h2.2.2⟩
   |_=>simp[cX]at h2
  |_=>simp[cX]at h1
theorem dU:∀(a b c:List Tr),cn a b->cn b c->cn a c
 | [],b,c,h1,h2=>by
  cases b with
  |nil=>exact h2
  |cons _ _=>simp[cn]at h1
 |t::ts,b,c,h1,h2=>by
  cases b with
  |nil=>simp[cn]at h1
  |cons t' ts'=>
   cases c with
   |nil=>simp[cn]at h2
   |cons t2 ts2=>
    rw[cn]at h1 h2⊢;exact⟨ya t t' t2 h1.1 h2.1,dU ts ts' ts2 h1.2 h2.2⟩
end
def x9(k:Nat)(idx:List Nat)(f:Fr)(post:List Fr):Prop:=match f with
 | .loop _ m _ _=>∃c p2,post=au c++ .fin::p2/\bN c<=k/\cTs idx c
 | .iff _ _ _=>∃c o p2,post=au c++ .els::(au o++ .fin::p2)/\bN c<=k/\bN o<=k/\cTs idx c/\cTs idx o
 |_=>True
theorem x9.app{k:Nat}{idx:List Nat}{f:Fr}{post q:List Fr}(h:x9 k idx f post):x9 k idx f (post++q):=by
 cases f with
 |loop _ _ _ _=>
  obtain⟨c,p2,rfl,h⟩:=h;exact{c,p2++q,by simp,h}
 |iff _ _ _=>
  obtain⟨c,o,p2,rfl,h⟩:=h;exact{c,o,p2++q,by simp,h}
 |_=>trivial
theorem nJ{α:Type}{f:α}:∀{a c p q:List α},a++c=p++f::q->(∃q1,a=p++f::q1/\q=q1++c)\/(∃p1,p=a++p1/\c=p1++f::q)
 | [],c,p,q,h=>.inr ⟨p,rfl,h⟩
 |x::a,c,[],q,h=>by
  cases h;exact .inl ⟨a,rfl,rfl⟩
 |x::a,c,y::p,q,h=>by
  injection h with h1 h2;subst h1;rcases nJ h2 with⟨q1,e1,e2⟩|⟨p1,e1,e2⟩
  ·exact .inl {q1,by rw[e1];rfl,e2}
  exact .inr {p1,by rw[e1];rfl,e2}
theorem vN{f g:Fr}{p q:List Fr}(h:[g]=p++f::q):f=g:=by
 cases p with
 |nil=>cases h;rfl
 |cons y p=>
  injection h with _ h;cases p<;>cases h
mutual
theorem JQ{k:Nat}{idx:List Nat}:∀(t:Tr)(pre:List Fr)(f:Fr)(post:List Fr),flT t=pre++f::post->dpT t<=k->cT idx t->x9 k idx f post
 | .leaf r,pre,f,post,e,hd,hc=>by
  rw[flT]at e;rw[vN e];trivial
 | .iff v a c ff oo,pre,f,post,e,hd,hc=>by
  rw[flT]at e;rw[dpT]at hd;rw[cT]at hc;cases pre with
  |nil=>
   injection e with e1 e2;rw[<-e1,<-e2];exact{ff,oo,[],rfl,(),(),hc.1,hc.2}
  |cons y pre=>
   injection e with _ e;rcases nJ e with⟨q1,e1,e2⟩|⟨p1,e1,e2⟩
   ·rw[e2];exact(qE ff pre f q1 e1 () hc.1).app
   cases p1 with
   |nil=>
    injection e2 with e3 _;rw[<-e3];trivial
   |cons y p1=>
    injection e2 with _ e2;rcases nJ e2 with⟨q1,e1,e3⟩|⟨p2,e1,e3⟩
    ·rw[e3];exact(qE oo p1 f q1 e1 () hc.2).app
    rw[vN e3];trivial
 | .loop t m a c b,pre,f,post,e,hd,hc=>by
  rw[flT]at e;rw[dpT]at hd;rw[cT]at hc;cases pre with
  |nil=>
   injection e with e1 e2;rw[<-e1,<-e2];exact{b,[],rfl,(),hc.2.2}
  |cons y pre=>
   injection e with _ e;rcases nJ e with⟨q1,e1,e2⟩|⟨p1,e1,e2⟩
   ·rw[e2];exact(qE b pre f q1 e1 () hc.2.2).app
   rw[vN e2];trivial
theorem qE{k:Nat}{idx:List Nat}:∀(ts:List Tr)(pre:List Fr)(f:Fr)(post:List Fr),au ts=pre++f::post->bN ts<=k->cTs idx ts->x9 k idx f post
 | [],pre,f,post,e,hd,hc=>by
  rw[au]at e;cases pre<;>cases e
 |t::ts,pre,f,post,e,hd,hc=>by
  rw[au]at e;rw[bN]at hd;rw[cTs]at hc;rcases nJ e with⟨q1,e1,e2⟩|⟨p1,e1,e2⟩
  ·rw[e2];exact(JQ t pre f q1 e1 () hc.1).app
  exact qE ts p1 f post e2 () hc.2
end
mutual
theorem Ht{idx:List Nat}:∀(t t':Tr),cX t t'->cT idx t->cT idx t'
 | .leaf r,t',h,c=>by
  cases t' with
  |leaf r'=>
   rw[cX]at h;rw[<-h];exact c
  |_=>simp[cX]at h
 | .iff v a c f o,t',h,hc=>by
  cases t' with
  |iff v' a' c' f' o'=>
   rw[cX]at h;rw[cT]at hc⊢;exact⟨jP f f' h.2.1 hc.1,jP o o' h.2.2 hc.2⟩
  |_=>simp[cX]at h
 | .loop t m a c b,t',h,hc=>by
  cases t' with
  |loop t' m' a' c' b'=>
   rw[cX]at h;obtain⟨_,rfl,h⟩:=h;rw[cT]at hc⊢;exact⟨hc.1,hc.2.1,jP b b' h hc.2.2⟩
  |_=>simp[cX]at h
theorem jP{idx:List Nat}:∀(ts ts':List Tr),cn ts ts'->cTs idx ts->cTs idx ts'
 | [],ts',h,hc=>by
  cases ts' with
  |nil=>exact hc
  |cons _ _=>simp[cn]at h
 |t::ts,ts',h,hc=>by
  cases ts' with
  |nil=>simp[cn]at h
  |cons t' ts'=>
   rw[cn]at h;rw[cTs]at hc⊢;exact⟨Ht t t' h.1 hc.1,jP ts ts' h.2 hc.2⟩
end
end
section
variable{P:Program}{w:Of}{K:Oc}{mg:Str->Option E9}{base:OC}{A:Adr}{N:Nat->Str}
seal PE PA PS PSs PT PW
theorem BX(f:Fr):decide (V.str f.wd=V.str "if")=(match f with| .iff _ _ _=>true|_=>false):=by
 cases f with
 |leaf r=>exact M6.mpr (iD r).1
 |_=>rfl
theorem DF(f:Fr):decide (V.str f.wd=V.str "loop")=(match f with| .loop _ _ _ _=>true|_=>false):=by
 cases f with
 |leaf r=>exact M6.mpr (iD r).2
 |_=>rfl
inductive wx(vs:List V)(H:Hp)(Q:VK)(Z:XK):Prop
 |mk(N:Nat->Str)(M:List N6)(L:N6)(xs:List V)(fs pre post:List Fr)(f:Fr)(D:N6)(idx:List Nat)(kn:Nat->Option Int)(z0:vs=[.ref L,.int (pre.length:Nat),.ref D])(z1:H L=UE (.lst xs))(z2:aS N (del M H) fs xs)(z3:fs=pre++f::post)(z4:x9 6 idx f post)(z5:gk N H D idx λi=>oI (kn i))(z6:xs.length<=300)(z7:∀m∈M,H m≠UG)
  (z8:∀(v:V)(f':Fr)(H':Hp),aj H H'->eqI f f'->j4 N (del M H') v f'->Q v H'):wx vs H Q Z
theorem Fv(T:Txt K mg A):T.jw.Hz P w base 9 wx:=by
 have bf:=nS (P:=P) (w:=w) (base:=base) T 6;refine T.jw.hs (k:=8) bx (λg cdv A' outer s H vs Q E hr hu h=>?_);obtain⟨N,M,L,xs,fs,pre,post,f,D,idx,kn,rfl,hL,fr,efs,cut,hD,lx,hM,q⟩:=h;have frH:=aS.same cj fr;have dS:∀{H':Hp},aj H H'->aj (del M H) (del M H'):=λs a o e=>by
  obtain⟨h1,h2⟩:=b5 e;exact aI h1 (s _ _ h2)
 have dN:∀{H':Hp}{a:N6}{o:HO},aj H H'->H a=UG->H' a=UE o->del M H' a=UE o:=λ{H' a o} s h e=>aI (λm=>hM a m h) e;obtain⟨v,av,fv0⟩:=gD frH efs;obtain⟨v2,av2,fvD⟩:=gD fr efs;have:v2=v:=by rw[av2]at av;exact Oj av
 subst this;have fvD0:=fvD;obtain⟨a,p,rfl,haD,hobD⟩:=fvD;have ha:=(b5 haD).2;have hLS:=SqL.of (K:=K) hL;refine{_,(ab (pst 3 bx.nd (px hu (fv 0) (fv 1)))
  (ab (aL (ptc (bV hu) (px hu (fv 3) af) ar)
   (ab (bM (ak (hj:=by lia) bf hr (fv 0^aw aD (fv 1) af^fv 2^ae)) (cL rfl (aH (pgn (i:=4) bx.nd rfl) (aH (pgn (i:=5) bx.nd rfl) bU))))
   (ai (aL (ptc fz (fv 4) bH)
    (ai (aA (aP (ar^px hu (fv 3) af^px hu (fv 3) af^px hu (fv 3) af^aw aD (px hu (fv 3) af) (fv 4)^ae))))
    aC)))
   aC)
  (ab (aL (ptc (bV hu) (px hu (fv 3) af) ar)
   (ab (bM (ak (hj:=by lia) bf hr (fv 0^aw aD (fv 1) af^fv 2^ae)) (cL rfl (aH (pgn (i:=4) bx.nd rfl) (aH (pgn (i:=5) bx.nd rfl) bU))))
   (ab (bM (ak (hj:=by lia) bf hr (fv 0^aw aD (fv 5) af^fv 2^ae)) (cL rfl (aH (pgn (i:=6) bx.nd rfl) (aH (pgn (i:=5) bx.nd rfl) bU))))
   (ai (aL (PW.pt (pw_and (ptc fz (fv 4) bH) (pw_and1 (ptc fz (fv 6) bH))))
    (ab (pst 7 bx.nd (pcB IK T.Ab (aw aD (px hu (fv 3) af) (fv 4)^aw aD (px hu (fv 3) af) (fv 6)^ae)))
    (ai (aA (aP (ar^px hu (fv 3) af^aw nO (fv 7) (fv 4)^aw nO (fv 7) (fv 6)^ae)))))
    aC))))
   aC)
  (ai (aA (fv 3)))))),?_}
 refine ag λM1 K1=>lix hLS av (K1 _ _ ?_);clear K1 M1;try dsimp only
 refine ag λM1 K1=>?_;have b1:(match f with| .loop _ _ _ _=>True|_=>False)->∀(u4 u5:Option V)(H1:Hp),aj H H1->M1 [UE (.ref L),UE (.int (pre.length:Nat)),UE (.ref D),UE (.ref a),u4,u5,UG,UG] H1:=by
  intro hf u4 u5 H1 s1;refine K1 _ _ ?_;cases f with
  |loop t m l r=>
   exact tix (j:=0) (SqT.of (s1 _ _ ha)) rfl {rfl,_,rfl,aR (λz=>absurd z (show ¬ decide (V.str "loop"=V.str "if")=true by decide)) (λ_=>q _ _ H1 s1 (km _) (fvD0.same (dS s1)))}
  |_=>exact hf.elim
 cases f with
 |loop t m l r=>
  obtain⟨c,p2,ep,dpc,ckc⟩:=cut;clear K1;refine tix (j:=0) (SqT.of ha) rfl {rfl,_,rfl,aR (λ_=>?_) (λz=>absurd (show decide (V.str "loop"=V.str "loop")=true from decide_eq_true rfl) z)};have e1':fs=(pre++[.loop t m l r])++au c++ .fin::p2:=by
   rw[efs,ep];simp
  have l1:(pre++[Fr.loop t m l r]).length=pre.length+1:=by simp
  try dsimp only
  refine ag λN2 J2=>{N,H,L,xs,fs,_,_,c,.fin,D,idx,kn,by rw[l1];push_cast;rfl,aj.refl _,hL,frH,e1',rfl,dpc,ckc,hD,lx,λp1 H3 s3 ep1=>{p1,_,rfl,SqT.of ep1,rfl,_,_,rfl,_,_,rfl,rfl,J2 _ _ ?_}};clear J2 N2;try dsimp only
  cases ex:cu kn c with
  |none=>exact{rfl,_,rfl,bg (b1 trivial _ _ H3 s3)}
  |some x=>
   have hT:=SqT.of (K:=K) (s3 _ _ ha);refine{rfl,_,rfl,bW (tix (j:=1) hT rfl (tix (j:=2) hT rfl (tix (j:=3) hT rfl (tix (j:=3) hT rfl {by show 5<=sizeLine;decide,λn hn=>?_}))))};have s4:=aj.upd hn (HO.tup [V.str "loop",t.v N,V.int m,V.int l,V.int (l+x)]);refine q (.ref n) (.loop t m l (l+x)) _ (s3.trans s4) ⟨rfl,rfl⟩ {n,n,rfl,dN (s3.trans s4) (aj.free s3 hn) ao,λo ho=>by cases ho}
 |iff v l r=>
  obtain⟨c,o,p2,ep,dpc,dpo,ckc,cko⟩:=cut;clear b1;refine tix (j:=0) (SqT.of ha) rfl {rfl,_,rfl,aR (λz=>absurd z (show ¬ decide (V.str "if"=V.str "loop")=true by decide)) (λ_=>K1 _ _ ?_)};clear K1 M1;try dsimp only
  refine ag λM1 K1=>?_;have b2:∀(u4 u5 u6:Option V)(H1:Hp),aj H H1->M1 [UE (.ref L),UE (.int (pre.length:Nat)),UE (.ref D),UE (.ref a),u4,u5,u6,UG] H1:=λu4 u5 u6 H1 s1=>K1 _ _ (q _ _ H1 s1 (km _) (fvD0.same (dS s1)));clear K1;refine tix (j:=0) (SqT.of ha) rfl {rfl,_,rfl,aR (λ_=>?_) (λz=>absurd (show decide (V.str "if"=V.str "if")=true from decide_eq_true rfl) z)};have e1':fs=(pre++[.iff v l r])++au c++ .els::(au o++ .fin::p2):=by
   rw[efs,ep];simp
  have e2':fs=(pre++[.iff v l r]++au c++[.els])++au o++ .fin::p2:=by
   rw[e1'];simp
  have l1:(pre++[Fr.iff v l r]).length=pre.length+1:=by simp
  have l2:(pre++[Fr.iff v l r]++au c++[Fr.els]).length=pre.length+1+(au c).length+1:=by simp only[Ll,Lo]
  try dsimp only
  refine ag λN2 J2=>{N,H,L,xs,fs,_,_,c,.els,D,idx,kn,by rw[l1];push_cast;rfl,aj.refl _,hL,frH,e1',rfl,dpc,ckc,hD,lx,λp1 H3 s3 ep1=>{p1,_,rfl,SqT.of ep1,rfl,_,_,rfl,_,_,rfl,rfl,J2 _ _ ?_}};clear J2 N2;try dsimp only
  refine ag λN2 J2=>{N,H,L,xs,fs,_,_,o,.fin,D,idx,kn,by rw[l1,l2];push_cast;rfl,s3,hL,frH,e2',rfl,dpo,cko,gk.mono hD s3,lx,λp2 H4 s4 ep2=>{p2,_,rfl,SqT.of ep2,rfl,_,_,rfl,_,_,rfl,rfl,J2 _ _ ?_}};clear J2 N2;have s34:=s3.trans s4;try dsimp only
  cases ex:cu kn c with
  |none=>exact{rfl,_,rfl,bg (bg (b2 _ _ _ H4 s34))}
  |some x=>
   refine{rfl,_,rfl,bW ?_};cases ey:cu kn o with
   |none=>exact{rfl,_,rfl,bg (b2 _ _ _ H4 s34)}
   |some y=>
    have hT:=SqT.of (K:=K) (s34 _ _ ha);refine{rfl,_,rfl,bW ?_};try dsimp only
    refine ag λN2 J2=>tix (j:=2) hT rfl (tix (j:=3) hT rfl {_,_,rfl,?_});generalize (if r+y>l+x then r+y else l+x)=hi;refine J2 _ _ ?_;try dsimp only
    refine tix (j:=1) hT rfl {by show 4<=sizeLine;decide,λn hn=>?_};have s5:=aj.upd hn (HO.tup [V.str "if",V.ref p,V.int (hi-x),V.int (hi-y)]);exact q (.ref n) (.iff v (hi-x) (hi-y)) _ (s34.trans s5) rfl {n,p,rfl,dN (s34.trans s5) (aj.free s34 hn) ao,λo ho=>(dS (s34.trans s5)) _ _ (hobD o ho)}
 |leaf r=>
  clear b1;refine tix (j:=0) (SqT.of ha) rfl {rfl,_,rfl,aR (λz=>absurd z (iD r).2) (λ_=>K1 _ _ ?_)};clear K1 M1;try dsimp only
  exact tix (j:=0) (SqT.of ha) rfl {rfl,_,rfl,aR (λz=>absurd z (iD r).1) (λ_=>q _ _ H (aj.refl _) (km _) fvD0)}
 |_=>
  clear b1;refine tix (j:=0) (SqT.of ha) rfl {rfl,_,rfl,aR (λz=>absurd z (by rw[DF];exact Lv)) (λ_=>K1 _ _ ?_)};clear K1 M1;try dsimp only
  exact tix (j:=0) (SqT.of ha) rfl {rfl,_,rfl,aR (λz=>absurd z (by rw[BX];exact Lv)) (λ_=>q _ _ H (aj.refl _) (km _) fvD0)}
end
section
variable{P:Program}{w:Of}{K:Oc}{mg:Str->Option E9}{base:OC}{A:Adr}{N:Nat->Str}
noncomputable abbrev Sec:=Fr×List Tr
noncomputable def lY(s:Sec):List Fr:=s.1::(au s.2++[.fin])
noncomputable def flS(ss:List Sec):List Fr:=ss.flatMap lY
noncomputable def cM(ds:List De)(mb:List Tr):List Sec:=ds.map (λd=>(.aZ d.1 d.2.1,d.2.2))++[(.main,mb)]
theorem rR(hs:List Lr)(ds:List De)(mb:List Tr):flA hs ds mb=hs.map Fr.leaf++flS (cM ds mb):=by
 have h:∀ds:List De,br ds=flS (ds.map λd=>(.aZ d.1 d.2.1,d.2.2)):=λds=>by
  unfold br flS;rw[List.flatMap_map];rfl
 unfold flA cM;rw[h];unfold flS;rw[Mr,Lz];simp[lY]
theorem An(a b:List Sec):flS (a++b)=flS a++flS b:=Mr
theorem jk(s:Sec)(b:List Sec):flS (s::b)=lY s++flS b:=rfl
def G8(s s':Sec):Prop:=s.1=s'.1/\cn s.2 s'.2
def l8(a b:List Sec):Prop:=Paired G8 a b
theorem BC{s s':Sec}(h:G8 s s'):(lY s').length=(lY s).length:=by
 have:=(iZ (ps:=[]) (dd:=[]) _ _ h.2).2.2;unfold lY;simp[this]
theorem l8.len:∀{a b:List Sec},l8 a b->(flS b).length=(flS a).length
 |_,_,.nil=>rfl
 |_,_,.cons h r=>by
  rw[jk,jk,Ll,Ll,BC h,l8.len r]
noncomputable def hIx:Fr->List Nat
 | .aZ i _=>[i]
 |_=>[]
noncomputable def i4(ss:List Sec):List Nat:=ss.flatMap λs=>hIx s.1
theorem l8.idx:∀{a b:List Sec},l8 a b->i4 b=i4 a
 |_,_,.nil=>rfl
 |_,_,.cons h r=>by
  show hIx _++i4 _=hIx _++i4 _;rw[h.1,l8.idx r]
noncomputable def knE(kn:Nat->Option Int)(s:Sec):Nat->Option Int:=match s.1 with
 | .aZ i _=>λj=>if j=i then cu kn s.2 else kn j
 |_=>kn
noncomputable def knS(ss:List Sec):Nat->Option Int:=ss.foldl knE λ_=>UG
theorem rC(ss:List Sec)(s:Sec):knS (ss++[s])=knE (knS ss) s:=by
 unfold knS;rw[NM];rfl
noncomputable def kN:Nat->List Fr->List Nat
 |_,[]=>[]
 |n,f::fs=>(if dmF f=true then[n]else[])++kN (n+1) fs
theorem rA:∀(a b:List Fr)(n:Nat),kN n (a++b)=kN n a++kN (n+a.length) b
 | [],b,n=>by simp[kN]
 |f::a,b,n=>by
  show _++kN (n+1) (a++b)=(_++kN (n+1) a)++_;rw[rA a b,Lq,Lz,show n+1+a.length=n+(a.length+1) by lia]
theorem wb:∀{a:List Fr}{n:Nat},(∀f∈a,dmF f=false)->kN n a=[]
 | [],n,h=>rfl
 |f::a,n,h=>by
  show(if dmF f=true then[n]else[])++kN (n+1) a=[];rw[h f LB,wb λx hx=>h x (Lx _ hx)];rfl
mutual
theorem Kp:∀(t:Tr),∀f∈flT t,dmF f=false
 | .leaf r,f,h=>by
  rw[flT]at h;rw[Lp.mp h];rfl
 | .iff v a c ff o,f,h=>by
  rw[flT]at h;rcases Lu.mp h with rfl|h
  ·rfl
  rcases Ls.mp h with h|h
  ·exact xX ff f h
  rcases Lu.mp h with rfl|h
  ·rfl
  rcases Ls.mp h with h|h
  ·exact xX o f h
  rw[Lp.mp h];rfl
 | .loop t m a c b,f,h=>by
  rw[flT]at h;rcases Lu.mp h with rfl|h
  ·rfl
  rcases Ls.mp h with h|h
  ·exact xX b f h
  rw[Lp.mp h];rfl
theorem xX:∀(ts:List Tr),∀f∈au ts,dmF f=false
 | [],f,h=>by
  rw[au]at h;cases h
 |t::ts,f,h=>by
  rw[au]at h;rcases Ls.mp h with h|h
  ·exact Kp t f h
  exact xX ts f h
end
theorem BP{s:Sec}(h:dmF s.1=true)(n:Nat):kN n (lY s)=[n]:=by
 show(if dmF s.1=true then[n]else[])++kN (n+1) (au s.2++[.fin])=[n];have e:∀f∈au s.2++[Fr.fin],dmF f=false:=λf hf=>by
  rcases Ls.mp hf with hf|hf
  ·exact xX _ f hf
  rw[Lp.mp hf];rfl
 rw[if_pos h,wb e];rfl
theorem CI:∀{ss:List Sec}{n:Nat},(∀s∈ss,dmF s.1=true)->kN n (flS ss)=(OA ss.length).map λk=>n+(flS (ss.take k)).length
 | [],n,_=>rfl
 |s::ss,n,h=>by
  rw[jk,rA,BP (h s LB),CI λx hx=>h x (Lx _ hx),Lq,List.range_succ_eq_map,LC,MM];show n::_=(n+(flS ([]:List Sec)).length)::_;congr 1;refine MV λk _=>?_;show n+(lY s).length+(flS (ss.take k)).length=n+(flS (s::ss.take k)).length;rw[jk,Ll,MO]
theorem wD:∀(fs:List Fr)(n:Nat),(List.range' n fs.length).filter (λi=>dmF (fs.getD (i-n) .fin))=kN n fs
 | [],n=>rfl
 |f::fs,n=>by
  rw[Lq,List.range'_succ,List.filter_cons];have e:(List.range' (n+1) fs.length).filter (λi=>dmF ((f::fs).getD (i-n) .fin))=kN (n+1) fs:=by
   rw[<-wD fs (n+1)];refine List.filter_congr λi hi=>?_;have:=(List.mem_range'_1.mp hi).1;rw[show i-n=(i-(n+1))+1 by lia];rfl
  rw[e,MD];show(if dmF f=true then n::kN (n+1) fs else kN (n+1) fs)=(if dmF f=true then[n]else[])++kN (n+1) fs;split<;>rfl
theorem AZ{hs:List Lr}{ss:List Sec}(h:∀s∈ss,dmF s.1=true):(OA (hs.map Fr.leaf++flS ss).length).filter (λi=>dmF ((hs.map Fr.leaf++flS ss).getD i .fin))=(OA ss.length).map λk=>hs.length+(flS (ss.take k)).length:=by
 have:=wD (hs.map Fr.leaf++flS ss) 0;rw[<-List.range_eq_range',rA,wb (a:=hs.map Fr.leaf) (by
  intro f hf;obtain⟨r,_,rfl⟩:=LN.mp hf;rfl),CI h,L6,Lm]at this
 simpa using this
theorem wR{α β:Type}{F:α->β->Prop}{y z:β}{C:List β}(h:∀x,F x z->F x y):∀{A:List β}{l:List α},Paired F l (A++z::C)->Paired F l (A++y::C)
 | [],_,.cons e r=>.cons (h _ e) r
 |_::A,_,.cons e r=>.cons e (wR h (A:=A) r)
theorem tT{α β:Type}{F:α->β->Prop}{x:α}{y:β}(h:F x y):∀{i:Nat}{xs:List α}{ys:List β},Paired F xs ys->Paired F (xs.set i x) (ys.set i y)
 |_,_,_,.nil=>.nil
 |0,_,_,.cons _ r=>.cons h r
 |i+1,_,_,.cons e r=>.cons e (tT h (i:=i) r)
theorem o5{α β:Type}{F:α->β->Prop}{a:List α}{b:List β}(h:Paired F a b)(k:Nat):Paired F (a.take k) (b.take k):=kW k h
theorem u9{α:Type}{l:List α}{i:Nat}{x:α}(h:l[i]?=UE x):l=l.take i++x::l.drop (i+1):=by
 obtain⟨hi,e⟩:=LJ.mp h;rw[<-e,List.getElem_cons_drop,LO]
theorem EE{n j:Nat}(h:j<n):ixN n (j:Int)=UE j:=by
 unfold ixN;rw[if_pos (),if_pos ()];simp
structure FQ(N:Nat->Str)(ss:List Sec):Prop where
 hd:∀s∈ss,dmF s.1=true
 bo:∀(k:Nat) s,ss[k]?=UE s->bN s.2<=6/\cTs (i4 (ss.take k)) s.2
 ix:∀i∈i4 ss,i<24
 ln:ss.length<=10
theorem zO{hs:List Lr}{ds:List De}{mb:List Tr}(O:eN hs ds mb):FQ N (cM ds mb) where
 hd:=λs m=>by
  rcases Ls.mp m with m|m
  ·obtain⟨d,_,rfl⟩:=LN.mp m;rfl
  rw[Lp.mp m];rfl
 bo:=λk s hk=>by
  have idt:∀l:List De,i4 (l.map λd=>(.aZ d.1 d.2.1,d.2.2))=l.map (·.1):=λl=>by
   induction l with
   |nil=>rfl
   |cons d l ih=>
    show[d.1]++i4 _=_;rw[ih];rfl
  unfold cM at hk⊢;by_cases c:k<ds.length
  ·rw[Me (by simpa using c),LY]at hk;cases hd:ds[k]? with
   |none=>rw[hd]at hk;cases hk
   |some d=>
   rw[hd]at hk;cases hk;obtain⟨_,_,ok,dpd,_⟩:=O.de.at' k d hd;refine{dpd,?_};rw[M5 (by rw[Lm];lia),<-NK,idt];refine oB (λe he=>?_) d.2.2 false ok;obtain⟨d',m',rfl⟩:=LN.mp he;exact LN.mpr ⟨d',m',rfl⟩
  have hk':=(LJ.mp hk).1;rw[Ll,Lm,Lo]at hk';have ek:k=ds.length:=()
  subst ek;rw[L7 (by rw[Lm];exact Ln _),Lm,MD]at hk;cases hk;refine{O.md,?_};rw[M5 (by rw[Lm];exact Ln _),Mb (by rw[Lm];exact Ln _),idt];refine oB (λe he=>?_) mb false O.mo;obtain⟨d',m',rfl⟩:=LN.mp he;exact LN.mpr ⟨d',m',rfl⟩
 ix:=λi hi=>by
  obtain⟨s,ms,hi⟩:=Md.mp hi;rcases Ls.mp ms with m|m
  ·obtain⟨d,md,rfl⟩:=LN.mp m;obtain⟨k,hk⟩:=LX md;rw[Lp.mp hi,(O.de.at' k d hk).1];exact yS
  rw[Lp.mp m]at hi;cases hi
 ln:=by
  unfold cM;rw[Ll,Lm,O.dl];show 4<=10;decide
theorem AU{hs:List Lr}{ds:List De}{mb:List Tr}(O:eN hs ds mb){ss':List Sec}(h:l8 (cM ds mb) ss'):∃ds' mb',ss'=cM ds' mb'/\eN hs ds' mb'/\ds'.map (λd=>(d.1,d.2.1))=ds.map λd=>(d.1,d.2.1):=by
 unfold cM l8 at h;obtain⟨g1,g2,rfl,h1,h2⟩:=eY h;obtain⟨m',rfl,e2⟩:=nK h2;obtain⟨mh,mb'⟩:=m';have e0:Fr.main=mh:=e2.1;subst e0;have key:∀(ds:List De)(g:List Sec),Paired G8 (ds.map λd=>(Fr.aZ d.1 d.2.1,d.2.2)) g->∃ds':List De,g=ds'.map (λd=>(Fr.aZ d.1 d.2.1,d.2.2))/\ds'.map (λd=>(d.1,d.2.1))=ds.map (λd=>(d.1,d.2.1))/\∀(k:Nat) d',ds'[k]?=UE d'->∃d,ds[k]?=UE d/\d'.1=d.1/\d'.2.1=d.2.1/\cn d.2.2 d'.2.2:=by
  intro ds;induction ds with
  |nil=>
   intro g hg;cases hg;exact{[],rfl,rfl,λk d h=>by simp at h}
  |cons d ds ih=>
   intro g hg;cases hg with
   |cons e r=>
    rename_i y g;obtain⟨ds',rfl,e1,e2⟩:=ih g r;obtain⟨yh,yb⟩:=y;have e3:Fr.aZ d.1 d.2.1=yh:=e.1;subst e3;refine{(d.1,d.2.1,yb)::ds',rfl,by rw[LC,LC,e1],λk d' hk=>?_};cases k with
    |zero=>
     cases hk;exact⟨d,rfl,rfl,rfl,e.2⟩
    |succ k=>exact e2 k d' hk
 obtain⟨ds',rfl,em,ea⟩:=key ds g1 h1;have dl:ds'.length=ds.length:=by
  have:=congrArg Pw em;simpa using this
 have ddt:∀k,ir (ds'.take k)=ir (ds.take k):=λk=>by
  have h:∀l:List De,ir l=(l.map λd=>(d.1,d.2.1)).map λx=>(x.1,x.2.length):=λl=>by
   unfold ir;rw[MM];rfl
  rw[h,h];congr 1;rw[NK,NK,em]
 have dda:ir ds'=ir ds:=by
  have:=ddt ds.length;rwa [Mb (),Mb (Ln _)]at this
 obtain⟨m1,m2,m3⟩:=iZ (ps:=[]) (dd:=ir ds) _ _ e2.2;refine{ds',mb',rfl,{O.hd,dl.trans O.dl,⟨λk d' hk=>?_⟩,by rw[dda];exact m1 false O.mo,by rw[m2];exact O.md,by rw[m3];exact O.ml},em};obtain⟨d,hd,e1,e2,e3⟩:=ea k d' hk;obtain⟨a1,a2,a3,a4,a5⟩:=O.de.at' k d hd;obtain⟨b1,b2,b3⟩:=iZ (ps:=d.2.1) (dd:=ir (ds.take k)) _ _ e3;refine{e1.trans a1,by rw[e2];exact a2,by rw[e2,ddt];exact b1 false a3,by rw[b2];exact a4,by rw[b3];exact a5}
end
section
variable{P:Program}{w:Of}{K:Oc}{mg:Str->Option E9}{base:OC}{A:Adr}{N:Nat->Str}
seal PE PA PS PSs PT PW
theorem ym{hs:List Lr}{a c:List Sec}{h:Fr}{b:List Tr}:hs.map Fr.leaf++flS (a++(h,b)::c)=(hs.map Fr.leaf++flS a++[h])++(au b++ .fin::flS c):=by
 rw[An,jk];simp[lY]
theorem Es{hs:List Lr}{a:List Sec}{h:Fr}:(hs.map Fr.leaf++flS a++[h]).length=hs.length+(flS a).length+1:=by
 simp only[Ll,Lm,Lo]
theorem Et{b:List Tr}{Q:List Fr}{j:Nat}{f f':Fr}(hj:j<=(au b).length)(e:(au b++ .fin::Q)[j]?=UE f)(h:eqI f f'):∃b',(au b++ .fin::Q).set j f'=au b'++ .fin::Q/\cn b b':=by
 by_cases c:j<(au b).length
 ·rw[Me c]at e;obtain⟨b',e1,s1⟩:=nE b _ (x8 km e h);exact{b',by rw[List.set_append_left _ _ c,e1],s1}
 have ej:j=(au b).length:=()
 subst ej;rw[L7 (Ln _),MD]at e;cases e;rw[vK h];refine{b,?_,dP b};rw[Nu _ _ (Ln _),MD];rfl
theorem C8{b:List Tr}{Q:List Fr}{j k:Nat}{idx:List Nat}{f:Fr}(hj:j<=(au b).length)(e:(au b++ .fin::Q)[j]?=UE f)(hd:bN b<=k)(hc:cTs idx b):x9 k idx f ((au b++ .fin::Q).drop (j+1)):=by
 by_cases c:j<(au b).length
 ·rw[Me c]at e;rw[List.drop_append_of_le_length ()];exact(qE b _ f _ (u9 e) hd hc).app
 have ej:j=(au b).length:=()
 subst ej;rw[L7 (Ln _),MD]at e;cases e;trivial
noncomputable def bgV(hs:List Lr)(ss:List Sec):List V:=(OA (ss.length+1)).map λk=>V.int ((hs.length+(flS (ss.take k)).length:Nat):Int)
theorem Cc{hs:List Lr}{ss:List Sec}{k:Nat}(h:k<=ss.length):(bgV hs ss)[k]?=UE (V.int ((hs.length+(flS (ss.take k)).length:Nat):Int)):=by
 unfold bgV;rw[LY,MW ()];rfl
theorem Jb{hs:List Lr}{ss:List Sec}(h:∀s∈ss,dmF s.1=true):(((OA (hs.map Fr.leaf++flS ss).length).filter (λi=>dmF ((hs.map Fr.leaf++flS ss).getD i .fin))).map λ(i:Nat)=>V.int (0+(i:Int)))++[V.int (((hs.map Fr.leaf++flS ss).length:Nat):Int)]=bgV hs ss:=by
 rw[AZ h];unfold bgV;rw[TV,Ml,MM];congr 1
 ·refine MV λk _=>?_;show V.int (0+((hs.length+(flS (ss.take k)).length:Nat):Int))=_;rw[NZ]
 show[_]=[V.int ((hs.length+(flS (ss.take ss.length)).length:Nat):Int)];rw[Mo,Ll,Lm]
inductive wW(vs:List V)(H:Hp)(Q:VK)(Z:XK):Prop
 |mk(N:Nat->Str)(L0:N6)(c:Int)(xs:List V)(hs:List Lr)(ss:List Sec)(z0:vs=[.ref L0,.int c])(z1:H L0=UE (.lst xs))(z2:aS N H (hs.map Fr.leaf++flS ss) xs)(z3:FQ N ss)(z4:lJ N)(z5:xs.length<=300)
  (z8:∀(p L D:N6)(xs':List V)(ss':List Sec)(H':Hp),aj H H'->H' p=UE (.tup [.ref L,.ref D])->H' L=UE (.lst xs')->l8 ss ss'->aS N H' (hs.map Fr.leaf++flS ss') xs'->gk N H' D (i4 ss') (λi=>oI (knS ss' i))->Q (.ref p) H'):wW vs H Q Z
inductive zJ(L:N6)(c:Int)(D:N6)(B3:N6)(H4:Hp)(ss:List Sec)(N:Nat->Str)(hs:List Lr)(k:Nat)(σ:St)(Hc:Hp):Prop
 |mk(ss':List Sec)(xs':List V)(kvs:List (Key×V))(v4 v5 v6 v7:Option V):σ=[UE (.ref L),UE (.int c),UE (.ref D),UE (.ref B3),v4,v5,v6,v7]->Sm [L,D] H4 Hc->Hc L=UE (.lst xs')->l8 ss ss'->aS N (del [L,D] Hc) (hs.map Fr.leaf++flS ss') xs'->Hc D=UE (.dK kvs)->kvs.length<=k->(∀i∈i4 (ss'.take k),L2.c0 kvs (.inr (N i))=UE (oI (knS (ss'.take k) i)))->zJ L c D B3 H4 ss N hs k σ Hc
inductive Ac(L:N6)(c:Int)(D:N6)(B3:N6)(k:Nat)(v6:Option V)(v7:Option V)(H4:Hp)(kvs:List (Key×V))(b:List Tr)(N:Nat->Str)(PR:List Fr)(SC:List Sec)(i:Nat)(σ:St)(Hd:Hp):Prop
 |mk(b':List Tr)(xs'':List V)(v5:Option V):σ=[UE (.ref L),UE (.int c),UE (.ref D),UE (.ref B3),UE (.int (k:Int)),v5,v6,v7]->Sm [L,D] H4 Hd->Hd L=UE (.lst xs'')->Hd D=UE (.dK kvs)->cn b b'->aS N (del [L,D] Hd) (PR++(au b'++ .fin::flS SC)) xs''->Ac L c D B3 k v6 v7 H4 kvs b N PR SC i σ Hd
theorem EJ(T:Txt K mg A):T.iH.Hz P w base 10 wW:=by
 refine T.iH.hs (k:=9) bD (λg cdv A' outer s H vs Q E hr hu h=>?_);obtain⟨N,L0,c,xs,hs,ss,rfl,hL0,fr,O,nm,lx,q⟩:=h;have lf:=Oe fr;have sln:=O.ln;refine{_,(ab (pst 0 bD.nd (pcT qp T.cW (fv 0^ae)))
  (ab (pst 2 bD.nd (xN))
  (ab (pst 3 bD.nd (aw aD (lT (N:=["_law_at","_law_flat_here"]) (own:=1) (fr:=[0]) (dv.of (by kernel_rfl!)) rfl (cU rfl T.df (pcB eX T.f9 (fv 0^ae)^ae)) (λb=>pgn (i:=0) (show Qp (["_law_at","_law_flat_here"]:List QY) by decide+kernel) rfl) (λb=>CG (ptc (C5 hu) (px hu (px hu (fv 1) (fv 0)) af) (aP (ar^ar^ae)) ((by with_unfolding_all rfl)))) (λb=>fv 0)) (aN (pcB eX T.f9 (fv 0^ae)^ae))))
  (ab (cZ Oq rfl (cU rfl T.df (aw nO (pcB eX T.f9 (fv 3^ae)) af^ae)) (pgn (i:=4) bD.nd rfl)
   (ab (cZ Oq rfl (yF rfl T.df (aw nO (px hu (fv 3) (aw aD (fv 4) af)) af^px hu (fv 3) (fv 4)^mw iX af^ae)) (pgn (i:=5) bD.nd rfl)
    (ai (aL (ptc yP (aw bK (ak (hj:=by lia) (nQ T) hr (fv 1^fv 5^ae)) af) (aw bK (fv 1) af))
     (ai (bM (ak (hj:=by lia) (Fv T) hr (fv 0^fv 5^fv 2^ae)) (jA (fv 0) (fv 5) (gq hu UK))))
     aC)))
   (ab (bM (ak (hj:=by lia) (nS T 6) hr (fv 0^aw aD (px hu (fv 3) (fv 4)) af^fv 2^ae)) (cL rfl (aH (pgn (i:=6) bD.nd rfl) (aH (pgn (i:=7) bD.nd rfl) bU))))
   (ai (aL (ptc (bV hu) (px hu (px hu (fv 0) (px hu (fv 3) (fv 4))) af) ar)
    (ai (bM (fv 6) (jA (fv 2) (px hu (px hu (fv 0) (px hu (fv 3) (fv 4))) af) (gq hu UK))))
    aC)))))
  (ai (aA (aP (fv 0^fv 2^ae)))))))),?_}
 refine ag λM1 K1=>LL {L0,xs,rfl,LL (SqL.of hL0),λL hL=>?_};obtain⟨s1,e1⟩:=alc hL (HO.lst xs);generalize upd H L _=H1 at s1 e1⊢;refine K1 _ _ ?_;clear K1 M1;try dsimp only
 refine ag λM1 K1 D hD=>K1 _ _ ?_;clear K1 M1;obtain⟨s2,e2⟩:=alc hD (HO.dK []);have DL:D≠L:=λz=>by rw[z,e1]at hD;cases hD
 generalize upd H1 D _=H2 at s2 e2⊢;have e1':=s2 _ _ e1;have t2:=s1.trans s2;have HD:H D=UG:=aj.free s1 hD;try dsimp only
 refine ag λM1 K1=>lnl e1' {_,rfl,(),(),?_};rw[show((xs.length:Nat):Int).toNat=(hs.map Fr.leaf++flS ss).length by rw[lf];simp];refine qP (n:=(hs.map Fr.leaf++flS ss).length) (λi=>dmF ((hs.map Fr.leaf++flS ss).getD i .fin)) (λi=>V.int (0+(i:Int))) (aQ ()) (λb i Hc R hi sc k=>?_) (λb i Hc R hi _ sc k=>k Hc (aj.refl _)) (λB Hc hB sc eB=>?_)
 ·obtain⟨f,hf⟩:∃f,(hs.map Fr.leaf++flS ss)[i]?=UE f:={_,Lw hi};obtain⟨v,hv,a,p,rfl,ha,hob⟩:=jG (i:=i) (a:=f) fr hf;have ej:(0:Int)+(i:Int)=(i:Int):=()
  have ed:(hs.map Fr.leaf++flS ss).getD i .fin=f:=by rw[Mf,hf];rfl
  rw[ej];rw[ed]at k;refine lxn (SqL.of (sc _ _ e1')) hv (tix (j:=0) (SqT.of ((t2.trans sc) _ _ ha)) rfl {by show 2<=sizeLine;decide,λtp htp=>?_});obtain⟨s3,e3⟩:=alc htp (HO.tup [V.str "deed",V.str "main"]);generalize upd Hc tp _=H3 at s3 e3⊢;refine LL {_,MY (SqT.of e3),rfl,rfl,_,rfl,?_};rw[show(if false=true then !inV (V.str f.wd) [V.str "deed",V.str "main"]else inV (V.str f.wd) [V.str "deed",V.str "main"])=dmF f from Di f];exact k H3 s3
 have e1c:=sc _ _ e1';have e2c:=sc _ _ e2;refine lnl e1c {by show 1<=sizeLine;decide,λB2 hB2=>?_};have s3:=aj.upd hB2 (HO.lst [V.int (xs.length:Nat)]);refine{B,B2,_,_,rfl,rfl,s3 _ _ eB,ao,sz (by rw[Lm,Lo];have:=Nt (λi=>dmF ((hs.map Fr.leaf++flS ss).getD i .fin)) (OA (hs.map Fr.leaf++flS ss).length);rw[Mx]at this;lia),λB3 hB3=>K1 _ _ ?_};clear K1 M1;have eb:(((OA (hs.map Fr.leaf++flS ss).length).filter (λi=>dmF ((hs.map Fr.leaf++flS ss).getD i .fin))).map λ(i:Nat)=>V.int (0+(i:Int)))++[V.int ((xs.length:Nat):Int)]=bgV hs ss:=by
  rw[<-lf];exact Jb O.hd
 rw[eb];have s34:=s3.trans (aj.upd hB3 (HO.lst (bgV hs ss)));have eB3:upd (upd Hc B2 (HO.lst [V.int (xs.length:Nat)])) B3 (HO.lst (bgV hs ss)) B3=UE (.lst (bgV hs ss)):=ao;generalize upd (upd Hc B2 (HO.lst [V.int (xs.length:Nat)])) B3 (HO.lst (bgV hs ss))=H4 at s34 eB3⊢;have t4:aj H H4:=t2.trans (sc.trans s34);have L4:=s34 _ _ e1c;have D4:=s34 _ _ e2c;have BM:B3∉[L,D]:=λm=>by
  simp only[Lu,LS,or_false]at m;rcases m with m|m
  ·rw[m]at hB3;rw[s3 _ _ e1c]at hB3;cases hB3
  rw[m]at hB3;rw[s3 _ _ e2c]at hB3;cases hB3
 have HM:∀a o,H a=UE o->a∉[L,D]:=λa o e m=>by
  simp only[Lu,LS,or_false]at m;rcases m with m|m
  ·rw[m,hL]at e;cases e
  rw[m,HD]at e;cases e
 have mL:L∈[L,D]:=LB;have mD:D∈[L,D]:=Lx _ LB;have fr4:aS N (del [L,D] H4) (hs.map Fr.leaf++flS ss) xs:=aS.same (λa o e=>aI (HM a o e) (t4 a o e)) fr;have bl:(bgV hs ss).length=ss.length+1:=by unfold bgV;rw[Lm,Mx]
 clear hB3 hB2 s3 eB hB e1c e2c sc s34 eb;try dsimp only
 refine ag λM1 K1=>lnl eB3 {_,rfl,(),(),?_};rw[show((((bgV hs ss).length:Nat):Int)-1).toNat=ss.length by rw[bl];lia];refine jr (zJ L c D B3 H4 ss N hs) {ss,xs,[],UG,UG,UG,UG,rfl,Sm.refl _ _,L4,oH (λs=>⟨rfl,dP s.2⟩) ss,fr4,D4,Ln _,λi hi=>by cases hi} ?_ ?_
 ·clear K1;rintro k σ Hc hk ⟨ss',xs',kvs,v4,v5,v6,v7,rfl,sc,hLc,sim,frc,hDc,kl,kv⟩;have ej:(0:Int)+(k:Int)=(k:Int):=()
  rw[ej];have l':=Oe sim;obtain⟨s',hs'⟩:∃s',ss'[k]?=UE s':={_,Lw ()};obtain⟨s0,hs0,se0⟩:=dQ sim hs';obtain⟨h,b⟩:=s';obtain⟨SA,SC,eS,lA⟩:∃SA SC,ss'=SA++(h,b)::SC/\SA.length=k:={ss'.take k,ss'.drop (k+1),u9 hs',by rw[LV];lia};have tk:ss'.take k=SA:=by rw[eS,<-lA,T2];rfl
  have tk1:ss'.take (k+1)=SA++[(h,b)]:=by
   rw[eS,TC,Mb (),lA,show k+1-k=1 by lia];rfl
  have lenA:=l8.len (o5 sim k);have lenA1:=l8.len (o5 sim (k+1));have idA:=l8.idx (o5 sim k);rw[tk]at lenA kv idA;rw[tk1,An,Ll]at lenA1;have ls1:(flS [(h,b)]).length=(au b).length+2:=by
   show(lY (h,b)++[]).length=_;simp[lY]
  rw[ls1]at lenA1;obtain⟨bo1,bo2⟩:=O.bo k s0 hs0;rw[<-idA]at bo2;have dpb:bN b<=6:=by rw[(iZ (ps:=[]) (dd:=[]) _ _ se0.2).2.1];exact bo1
  have ckb:cTs (i4 SA) b:=jP _ _ se0.2 bo2;have dmh:dmF h=true:=by
   have e:s0.1=h:=se0.1;rw[<-e];exact O.hd s0 (LW hs0)
  have lt':(flS ss').length=(flS ss).length:=l8.len sim;rw[eS,ym]at frc;have PL:=Es (hs:=hs) (a:=SA) (h:=h);have lxc:=Oe frc;have lxt:(hs.map Fr.leaf++flS SA++[h]).length+((au b).length+1+(flS SC).length)<=300:=by
   have e9:(hs.map Fr.leaf++flS ss').length=(hs.map Fr.leaf++flS ss).length:=by rw[Ll,Ll,lt']
   rw[eS,ym]at e9;simp only[Ll,Lq,Lm]at e9 lf⊢;lia
  have hBc:=SqL.of (K:=K) (sc _ _ BM eB3);have a0:=Cc (hs:=hs) (ss:=ss) (k:=k) ();have a1:=Cc (hs:=hs) (ss:=ss) (k:=k+1) ();rw[<-lenA]at a0;rw[<-lenA1]at a1;have ax1:=jz a1;rw[show(((k+1:Nat)):Int)=(k:Int)+1 by lia]at ax1;generalize hPR:hs.map Fr.leaf++flS SA++[h]=PR at frc PL lxc lxt;generalize hpA:hs.length+(flS SA).length=pA at a0 PL;rw[<-MO,hpA]at ax1;try dsimp only
  refine ag λN1 J1=>?_;obtain⟨r1,r2,r3⟩:=yB (i:=((pA+((au b).length+2):Nat):Int)-1) (j:=(pA:Int)) () () ();refine lix hBc ax1 (lxn hBc a0 {_,rfl,_,_,_,rfl,r1,∅,∅,∅,r2,?_});rw[show kY (((pA+((au b).length+2):Nat):Int)-1) (pA:Int) (-1)=(au b).length+1 by rw[r3];lia];refine y9 (Ac L c D B3 k v6 v7 H4 kvs b N PR SC) ⟨b,xs',v5,rfl,sc,hLc,hDc,dP b,frc⟩ ?_ ?_
  ·clear J1;rintro i σ Hd hi ⟨b',xs'',u5,rfl,sd,hLd,hDd,sb,frd⟩;obtain⟨_,dpb',lb'⟩:=iZ (ps:=[]) (dd:=[]) _ _ sb;have ckb':=jP _ _ sb ckb;have ea:((pA+((au b).length+2):Nat):Int)-1+(i:Int)* -1=((PR.length+((au b).length-i):Nat):Int):=()
   rw[ea];generalize hj:(au b).length-i=j;have jl:j<=(au b').length:=()
   obtain⟨f,hf⟩:∃f,(au b'++ .fin::flS SC)[j]?=UE f:={_,Lw (by rw[Ll,Lq];lia)};have lxd:=Oe frd;rw[Ll,Ll,Lq]at lxd;have hM:∀m∈[L,D],Hd m≠UG:=λm hm=>by
    simp only[Lu,LS,or_false]at hm;rcases hm with rfl|rfl
    ·rw[hLd];simp
    rw[hDd];simp
   try dsimp only
   refine{c,_,rfl,(),(),λm m0 m1=>{by show(0:Int)<4;decide,by show(0:Int)<5;decide,_,rfl,aR (λ_=>?_) (λ_=>{b',xs'',_,rfl,sd,hLd,hDd,sb,frd})}};have efs:PR++(au b'++ .fin::flS SC)=(PR++(au b'++ .fin::flS SC).take j)++f::(au b'++ .fin::flS SC).drop (j+1):=by
    rw[Lz,<-u9 hf]
   have lp:(PR++(au b'++ .fin::flS SC).take j).length=PR.length+j:=by
    rw[Ll,LV,Nat.min_eq_left (by rw[Ll];lia)]
   refine{N,[L,D],L,xs'',_,_,_,f,D,i4 SA,knS SA,by rw[lp];rfl,hLd,frd,efs,C8 jl hf (by rw[dpb'];exact dpb) ckb',⟨kvs,hDd,kv⟩,(),hM,λv f' He se ei fve=>LL (stL.mk xs'' (PR.length+j) (se _ _ hLd) (EE ()) ?_)};obtain⟨b3,e3,sb3⟩:=Et jl hf ei;have sU:aj (del [L,D] He) (del [L,D] (upd He L (.lst (xs''.set (PR.length+j) v)))):=λa o e=>by
    obtain⟨n1,n2⟩:=b5 e;exact aI n1 (az (λz=>n1 (z▸mL)) n2)
   have sE:aj (del [L,D] Hd) (del [L,D] He):=λa o e=>by
    obtain⟨n1,n2⟩:=b5 e;exact aI n1 (se _ _ n2)
   refine{b3,xs''.set (PR.length+j) v,_,rfl,(sd.trans (Sm.new se)).trans (Sm.at mL _),ao,az DL (se _ _ hDd),dU _ _ _ sb sb3,?_};generalize upd He L (.lst (xs''.set (PR.length+j) v))=HU at sU⊢;have h9:aS N (del [L,D] HU) ((PR++(au b'++ .fin::flS SC)).set (PR.length+j) f') (xs''.set (PR.length+j) v):=tT (F:=λf u=>j4 N (del [L,D] HU) u f) (fve.same sU) (aS.same (sE.trans sU) frd);rw[Nu _ _ (),show PR.length+j-PR.length=j by lia,e3]at h9;exact h9
  rintro σ Hd ⟨b',xs'',u5,rfl,sd,hLd,hDd,sb,frd⟩;refine J1 _ _ ?_;clear J1 N1;obtain⟨_,dpb',lb'⟩:=iZ (ps:=[]) (dd:=[]) _ _ sb;have ckb':=jP _ _ sb ckb;have lxd:=Oe frd;rw[Ll,Ll,Lq]at lxd;have frH:=aS.same cj frd;have hBd:=SqL.of (K:=K) (sd _ _ BM eB3);try dsimp only
  refine ag λN1 J1=>lxn hBd a0 {N,Hd,L,xs'',_,PR,flS SC,b',.fin,D,i4 SA,knS SA,by rw[PL];push_cast;rfl,aj.refl _,hLd,frH,(Lz ..).symm,rfl,by rw[dpb'];exact dpb,ckb',⟨kvs,hDd,kv⟩,(),λp1 H5 s5 ep1=>{p1,_,rfl,SqT.of ep1,rfl,_,_,rfl,_,_,rfl,rfl,?_}};have sd5:=sd.trans (Sm.new (M:=[L,D]) s5);have hL5:=s5 _ _ hLd;have hD5:=s5 _ _ hDd;have fr5:aS N (del [L,D] H5) (PR++(au b'++ .fin::flS SC)) xs'':=aS.same (λa o e=>by
   obtain⟨n1,n2⟩:=b5 e;exact aI n1 (s5 _ _ n2)) frd
  have eP:PR++(au b'++ .fin::flS SC)=(hs.map Fr.leaf++flS SA)++h::(au b'++ .fin::flS SC):=by
   rw[<-hPR];simp
  obtain⟨vh,avh,⟨ah,ph,rfl,hah,_⟩⟩:=gD fr5 eP;rw[Ll,Lm,hpA]at avh;have hah:=(b5 hah).2;have hB5:=s5.seq hBd;have hLS:=SqL.of (K:=K) hL5;have sim2:l8 ss (SA++(h,b')::SC):=by
   rw[eS]at sim;exact wR (λx hx=>{hx.1,dU _ _ _ hx.2 sb}) sim
  have tk2:(SA++(h,b')::SC).take (k+1)=SA++[(h,b')]:=by
   rw[TC,Mb (),lA,show k+1-k=1 by lia];rfl
  have fr6:∀{H6:Hp},aj (del [L,D] H5) (del [L,D] H6)->aS N (del [L,D] H6) (hs.map Fr.leaf++flS (SA++(h,b')::SC)) xs'':=λs6=>by
   rw[ym,hPR];exact aS.same s6 fr5
  have ixh:∀j∈i4 SA++hIx h,j<24:=λj hj=>by
   refine O.ix j ?_;have:=l8.idx sim2;rw[<-this];show j∈i4 (SA++(h,b')::SC);unfold i4 at hj⊢;rw[Mr];rcases Ls.mp hj with m|m
   ·exact LP _ m
   exact LD _ (LP _ m)
  have idn:i4 (SA++[(h,b')])=i4 SA++hIx h:=by
   unfold i4;rw[Mr,List.flatMap_singleton]
  refine J1 _ _ ?_;clear J1 N1;try dsimp only
  cases h with
  |aZ i ps=>
   refine lxn hB5 a0 (lix hLS avh (tix (j:=0) (SqT.of hah) rfl {rfl,_,rfl,aR (λ_=>?_) (λz=>absurd (show decide (V.str "deed"=V.str "deed")=true from decide_eq_true rfl) z)}));refine lxn hB5 a0 (lix hLS avh (tix (j:=1) (SqT.of hah) rfl {_,pT.k (k:=.inr (N i)) hD5 (aQ ()),?_}));have sU:aj (del [L,D] H5) (del [L,D] (upd H5 D (.dK (UN kvs (.inr (N i)) (oI (cu (knS SA) b')))))):=λa o e=>by
    obtain⟨n1,n2⟩:=b5 e;exact aI n1 (az (λz=>n1 (z▸mD)) n2)
   refine{SA++(.aZ i ps,b')::SC,xs'',_,_,_,_,_,rfl,sd5.trans (Sm.at mD _),az (LU DL) hL5,sim2,fr6 sU,ao,LG (xJ _ _ _) (),λj hj=>?_};rw[tk2,idn]at hj;rw[tk2,rC,wQ];show(if(ME (N j):Key)=.inr (N i)then UE (oI (cu (knS SA) b'))else L2.c0 kvs (.inr (N j)))=UE (oI (if j=i then cu (knS SA) b' else knS SA j));by_cases e:j=i
   ·rw[if_pos (by rw[e]),if_pos e]
   rw[if_neg e,if_neg λz=>e (nm.inj j i (ixh j hj) (ixh i (LD _ LB)) (ME.inj z))];rcases Ls.mp hj with m|m
   ·exact kv j m
   exact absurd (Lp.mp m) e
  |main=>
   refine lxn hB5 a0 (lix hLS avh (tix (j:=0) (SqT.of hah) rfl {rfl,_,rfl,aR (λz=>absurd z (show ¬ decide (V.str "main"=V.str "deed")=true by decide)) (λ_=>{SA++(.main,b')::SC,xs'',kvs,_,_,_,_,rfl,sd5,hL5,sim2,fr6 (aj.refl _),hD5,(),λj hj=>?_})}));rw[tk2,idn]at hj;rw[tk2,rC];rcases Ls.mp hj with m|m
   ·exact kv j m
   cases m
  |_=>cases dmh
 rintro σ Hc ⟨ss',xs',kvs,v4,v5,v6,v7,rfl,sc,hLc,sim,frc,hDc,kl,kv⟩;refine K1 _ _ ?_;have l':=Oe sim;rw[Mb ()]at kv;refine{by show 2<=sizeLine;decide,λp hp=>?_};have s9:=aj.upd hp (HO.tup [V.ref L,V.ref D]);have tH:aj H Hc:=λa o e=>sc a o (HM a o e) (t4 a o e);exact q p L D xs' ss' _ (tH.trans s9) ao (s9 _ _ hLc) sim (aS.same (cj.trans s9) frc) {kvs,s9 _ _ hDc,kv}
end
section
variable{P:Program}{w:Of}{K:Oc}{mg:Str->Option E9}{base:OC}{A:Adr}{N:Nat->Str}
theorem zu{fs:List (Option Str)}{into kd:Str}{n:Int}{l:Lk}:l∈drw fs into kd n↔∃x,UE x∈fs/\x≠into/\l=⟨x,into,kd,n⟩:=by
 unfold drw;rw[LN];constructor
 ·rintro⟨f,hf,rfl⟩;obtain⟨h1,h2⟩:=MX.mp hf;cases f with
  |none=>cases h2
  |some x=>exact{x,h1,(λe=>(by rw[show drP into (UE x)=!decide (x=into)from rfl,decide_eq_true e]at h2;cases h2)),rfl}
 rintro⟨x,h1,h2,rfl⟩;exact{UE x,MX.mpr {h1,by show(!decide (x=into))=true;rw[decide_eq_false h2];rfl},rfl}
theorem Bv{x:Str}:∀(ts:List Th)(acc:List Str),x∈ts.foldl (rdS N) acc↔x∈acc\/∃a,Th.x a∈ts/\N a=x
 | [],acc=>by
  show x∈acc↔_;simp
 |t::ts,acc=>by
  rw[MN,Bv ts];cases t with
  |i n=>
   show x∈acc\/_↔_;constructor
   ·rintro(h|⟨a,h,e⟩)
    ·exact .inl h
    exact .inr {a,Lx _ h,e}
   rintro(h|⟨a,h,e⟩)
   ·exact .inl h
   rcases Lu.mp h with h|h
   ·cases h
   exact .inr ⟨a,h,e⟩
  |x b=>
   have m:x∈rdS N acc (.x b)↔x∈acc\/N b=x:=by
    show x∈(if N b∈acc then acc else acc++[N b])↔_;split
    ·next h=>exact{.inl,λz=>z.elim id λe=>e▸h}
    rw[Ls,Lp];exact or_congr_right eq_comm
   rw[m];constructor
   ·rintro((h|h)|⟨a,h,e⟩)
    ·exact .inl h
    ·exact .inr ⟨b,LB,h⟩
    exact .inr {a,Lx _ h,e}
   rintro(h|⟨a,h,e⟩)
   ·exact .inl (.inl h)
   rcases Lu.mp h with h|h
   ·cases h;exact .inl (.inr e)
   exact .inr ⟨a,h,e⟩
theorem Fz{ts:List Th}{x:Str}:x∈rds N ts↔∃a,Th.x a∈ts/\N a=x:=by
 unfold rds;rw[Bv];simp
def GdP(PN:List Str)(o:Option Str):Prop:=∀y,o=UE y->y∈PN
def GdE(PN:List Str)(e:Le):Prop:=GdP PN e.2.1/\GdP PN e.2.2
theorem rG{PN:List Str}{x:Str}(h:x∈PN):GdP PN (UE x):=λy e=>by cases e;exact h
theorem q0{PN:List Str}:GdP PN UG:=λy e=>by cases e
mutual
theorem JL{PN:List Str}:∀(t:Pt)(lp:Option Str),GdP PN lp->(sP t=true->aV t.no∈PN)->(∀e∈cA lp t,sP e.1=true->aV e.1.no∈PN)->∀e∈cA lp t,GdE PN e
 | .leaf _ _,lp,hl,h0,h,e,he=>by
  rw[cA]at he;cases he
 | .aZ _ _ _ _,lp,hl,h0,h,e,he=>by
  rw[cA]at he;cases he
 | .iff n v l r f o,lp,hl,h0,h,e,he=>by
  rw[cA]at he h;have r0:GdP PN (UE (aV n)):=rG (h0 rfl);rcases Ls.mp he with he|he
  ·exact oG f _ lp r0 hl (λx hx=>h x (LP _ hx)) e he
  exact oG o _ lp r0 hl (λx hx=>h x (LD _ hx)) e he
 | .loop n t m l r b,lp,hl,h0,h,e,he=>by
  rw[cA]at he h;have r0:GdP PN (UE (aV n)):=rG (h0 rfl);exact oG b _ _ r0 r0 h e he
theorem oG{PN:List Str}:∀(ts:List Pt)(pl lp:Option Str),GdP PN pl->GdP PN lp->(∀e∈bp pl lp ts,sP e.1=true->aV e.1.no∈PN)->∀e∈bp pl lp ts,GdE PN e
 | [],pl,lp,hp,hl,h,e,he=>by
  rw[bp]at he;cases he
 |t::ts,pl,lp,hp,hl,h,e,he=>by
  rw[bp]at he h;rcases Lu.mp he with rfl|he
  ·exact⟨hp,hl⟩
  rcases Ls.mp he with he|he
  ·exact JL t lp hl (h (t,pl,lp) LB) (λx hx=>h x (Lx _ (LP _ hx))) e he
  exact oG ts pl lp hp hl (λx hx=>h x (Lx _ (LD _ hx))) e he
end
structure Lb(N:Nat->Str)(PN:List Str)(ds:List De):Prop where
 s7:∀x∈S7++[5,6],N x∈PN
 dn:∀d∈ds,N d.1∈PN
 dp:∀d∈ds,∀x∈d.2.1,N x∈PN
 ck:("the clock":Str)∈PN
theorem Jt{hs:List Lr}{ds:List De}{mb:List Tr}(O:eN hs ds mb):∀x∈S7++[5,6],x∈ixA hs ds:=by
 obtain⟨rk,z,t,e1,_⟩:=O.hd;intro x hx;unfold ixA;refine LP _ ?_;have pm:(hs.flatMap ixH).Perm [1,2,3,4,5,6,7,19,20]:=by
  rw[e1];unfold qb;have:(mX rk z).flatMap ixH=[1,2,3,4,5,6,7,19,20]:=rfl;rw[<-this];refine Rq _ (Mp.trans ?_);rw[LO]
 rw[pm.mem_iff];revert x
 decide
theorem FO{hs:List Lr}{ds:List De}{mb:List Tr}(O:eN hs ds mb):Lb N (dC N (hdP 1 hs) (deP ((hs.length:Nat)+1) ds) (aU (msN hs ds) mb)) ds:=by
 rw[ub];have nmi:∀x∈ixA hs ds,N x∈(ixA hs ds).map N++zX (bI N (deP ((hs.length:Nat)+1) ds) (aU (msN hs ds) mb))++[("the clock":Str)]:=λx hx=>LP _ (LP _ (MU hx));refine{λx hx=>nmi x (Jt O x hx),λd hd=>nmi _ ?_,λd hd x hx=>nmi _ ?_,LD _ LB}
 ·unfold ixA;exact LD _ (Md.mpr ⟨d,hd,LB⟩)
 unfold ixA;exact LD _ (Md.mpr {d,hd,Lx _ hx})
theorem Bq{hs ds ms:List Pt}{e:Le}(m:e∈bI N ds ms)(h:sP e.1=true):aV e.1.no∈dC N hs ds ms:=by
 unfold dC;refine LP _ (LD _ ?_);unfold zX;exact LN.mpr {e,MX.mpr ⟨m,h⟩,rfl}
theorem GZ{hs:List Lr}{ds:List De}{mb:List Tr}(O:eN hs ds mb):∀e∈bI N (deP ((hs.length:Nat)+1) ds) (aU (msN hs ds) mb),GdE (dC N (hdP 1 hs) (deP ((hs.length:Nat)+1) ds) (aU (msN hs ds) mb)) e:=by
 have I:=FO (N:=N) O;have R:∀e∈bI N (deP ((hs.length:Nat)+1) ds) (aU (msN hs ds) mb),sP e.1=true->aV e.1.no∈dC N (hdP 1 hs) (deP ((hs.length:Nat)+1) ds) (aU (msN hs ds) mb):=λe he h=>Bq he h;generalize dC N (hdP 1 hs) (deP ((hs.length:Nat)+1) ds) (aU (msN hs ds) mb)=PN at I R;intro e he;unfold bI at he R;rcases Ls.mp he with he|he
 ·unfold dM at he R;obtain⟨p,mp,he⟩:=Md.mp he;have R2:∀x∈bp (UE (dNm N p)) UG (kI p),sP x.1=true->aV x.1.no∈PN:=λx hx=>R x (LP _ (Md.mpr ⟨p,mp,hx⟩));obtain⟨k,hk⟩:=LX mp;obtain⟨d,n',h1,h2,h3,rfl⟩:=dy hk;exact oG _ _ _ (rG (I.dn d (LW h1))) q0 R2 e he
 exact oG _ _ _ q0 q0 (λx hx=>R x (LD _ hx)) e he
theorem D7{hs:List Lr}{ds:List De}{mb:List Tr}(O:eN hs ds mb):∀e∈bI N (deP ((hs.length:Nat)+1) ds) (aU (msN hs ds) mb),∃ps dd k,EN ps dd k e.1/\(∀x∈ps,∃d∈ds,x∈d.2.1)/\∀x∈dd,∃d∈ds,x=(d.1,d.2.1.length):=by
 intro e he;unfold bI at he;rcases Ls.mp he with he|he
 ·unfold dM at he;obtain⟨p,mp,he⟩:=Md.mp he;obtain⟨k,hk⟩:=LX mp;obtain⟨d,n',h1,h2,h3,rfl⟩:=dy hk;obtain⟨_,_,ok,dpd,_⟩:=O.de.at' k d h1;refine{_,_,_,kZ d.2.2 false _ _ _ ok e he,λx hx=>⟨d,LW h1,hx⟩,λx hx=>?_};obtain⟨d',m',rfl⟩:=LN.mp hx;exact⟨d',Mn m',rfl⟩
 refine{_,_,_,kZ mb false _ _ _ O.mo e he,(λx hx=>by cases hx),λx hx=>?_};obtain⟨d',m',rfl⟩:=LN.mp hx;exact⟨d',m',rfl⟩
theorem D9(nm:lJ N){hs:List Lr}{ds:List De}{mb:List Tr}(O:eN hs ds mb)(b:Bool):∀l∈cq N b (deP ((hs.length:Nat)+1) ds) (aU (msN hs ds) mb),l.fr∈dC N (hdP 1 hs) (deP ((hs.length:Nat)+1) ds) (aU (msN hs ds) mb)/\l.to∈dC N (hdP 1 hs) (deP ((hs.length:Nat)+1) ds) (aU (msN hs ds) mb):=by
 have I:=FO (N:=N) O;have G:=GZ (N:=N) O;have S:=D7 (N:=N) O;have L:=λe he=>(oE nm O e he).2.1;have R:∀e∈bI N (deP ((hs.length:Nat)+1) ds) (aU (msN hs ds) mb),sP e.1=true->aV e.1.no∈dC N (hdP 1 hs) (deP ((hs.length:Nat)+1) ds) (aU (msN hs ds) mb):=λe he h=>Bq he h;have PO:∀d∈ds,poM N (deP ((hs.length:Nat)+1) ds) (N d.1)=d.2.1.map N:=λd m=>Dk nm O m _;generalize dC N (hdP 1 hs) (deP ((hs.length:Nat)+1) ds) (aU (msN hs ds) mb)=PN at I G R⊢;intro l hl;unfold cq at hl;obtain⟨e,he,hl⟩:=Md.mp hl;have ge:=G e he;have re:=R e he;have le:=L e he;obtain⟨ps,dd,k,⟨t,n,bb,et,ok,_⟩,hps,hdd⟩:=S e he;have nin:∀x∈S7++ps,N x∈PN:=λx hx=>by
  rcases Ls.mp hx with h|h
  ·exact I.s7 x (LP _ h)
  obtain⟨d,md,mx⟩:=hps x h;exact I.dp d md x mx
 have thn:∀{ts:List Th},(∀t∈ts,nB ps t)->∀y∈rds N ts,y∈PN:=λh y hy=>by
  obtain⟨a,ma,rfl⟩:=Fz.mp hy;exact nin a (h _ ma a rfl)
 have dr:∀{fs:List (Option Str)}{into kd:Str}{n:Int},(∀y,UE y∈fs->y∈PN)->into∈PN->l∈drw fs into kd n->l.fr∈PN/\l.to∈PN:=λh1 h2 h=>by
  obtain⟨x,mx,_,rfl⟩:=zu.mp h;exact⟨h1 x mx,h2⟩
 have dpl:∀{into kd:Str}{n:Int},into∈PN->l∈drw [e.2.1] into kd n->l.fr∈PN/\l.to∈PN:=λh2 h=>dr (λy my=>ge.1 y (Lp.mp my).symm) h2 h;have dI:∀{ts:List Th}{into kd:Str}{n:Int},(∀t∈ts,nB ps t)->into∈PN->l∈drw ((rds N ts).map UE) into kd n->l.fr∈PN/\l.to∈PN:=λh1 h2 h=>dr (λy my=>by
  obtain⟨z,mz,e⟩:=LN.mp my;cases e;exact thn h1 y mz) h2 h
 obtain⟨p,pl,lp⟩:=e;unfold tG at hl;have et:p=ptT n t:=et;subst et;rcases Ls.mp hl with hl|hl
 ·cases t with
  |leaf r=>
   rw[okT]at ok;rw[ptT]at hl le re;cases r with
   |set x v=>
    rcases Ls.mp (show l∈drw ((rds N (vTh v)).map UE) (N x) "value" n++drw [pl] (N x) "under" n from hl)with h|h
    ·exact dI ok.2 (nin x ok.1) h
    exact dpl (nin x ok.1) h
   |put x p v=>
    rcases Ls.mp (show l∈drw ((rds N (p::vTh v)).map UE) (N x) "value" n++drw [pl] (N x) "under" n from hl)with h|h
    ·exact dI (λt ht=>by
      rcases Lu.mp ht with rfl|ht
      ·exact ok.2.1
      exact ok.2.2 t ht) (nin x ok.1) h
    exact dpl (nin x ok.1) h
   |snd x v=>
    have rr:aV n∈PN:=re rfl;rcases Ls.mp (show l∈drw ((rds N (vTh v)).map UE) (aV n) "value" n++drw [pl] (aV n) "under" n from hl)with h|h
    ·exact dI ok.2 rr h
    exact dpl rr h
   |say x v m=>
    have rr:aV n∈PN:=re rfl;have mm:N m∈PN:=I.s7 m (by rcases ok.2.2 with rfl|rfl<;>decide);rcases Ls.mp (show l∈(drw [UE (N m)] (N x) "value" n++drw [pl] (N x) "under" n)++drw [pl] (aV n) "under" n from hl)with h|h
    ·rcases Ls.mp h with h|h
     ·exact dr (λy my=>by cases Lp.mp my;exact mm) (nin x ok.1) h
     exact dpl (nin x ok.1) h
    exact dpl rr h
   |call i us=>
    obtain⟨d,md,ed⟩:=hdd _ ok.1;obtain⟨e1,e2⟩:=Rc ed;subst e1;have hl:l∈clA N n (us.zip (poM N (deP ((hs.length:Nat)+1) ds) (N d.1)))++clB pl n (poM N (deP ((hs.length:Nat)+1) ds) (N d.1)++[N d.1]):=hl;rw[PO d md]at hl;have pin:∀y∈d.2.1.map N,y∈PN:=λy hy=>by
     obtain⟨a,ma,rfl⟩:=LN.mp hy;exact I.dp d md a ma
    rcases Ls.mp hl with h|h
    ·unfold clA at h;obtain⟨tp,mt,h⟩:=Md.mp h;obtain⟨t1,t2⟩:=tp;have m1:=(Ni mt).1;have m2:=(Ni mt).2;cases t1 with
     |i _=>cases h
     |x a=>exact dr (λy my=>by cases Lp.mp my;exact nin a (ok.2 _ m1 a rfl)) (pin _ m2) h
    unfold clB at h;obtain⟨into,mi,h⟩:=Md.mp h;refine dpl ?_ h;rcases Ls.mp mi with mi|mi
    ·exact pin _ mi
    rw[Lp.mp mi];exact I.dn d md
   |last=>
    have hs':lp.isSome=true:=le rfl;obtain⟨y,hy⟩:=MC.mp hs';have hl:l∈drw [pl] (lp.getD Ot) "under" n:=hl;rw[hy]at hl;exact dpl (ge.2 y hy) hl
   |_=>exact ok.elim
  |iff v l r f o=>
   rw[okT]at ok;rw[ptT]at hl re;have rr:aV n∈PN:=re rfl;rcases Ls.mp hl with h|h
   ·exact dI (ts:=vTh v) ok.1 rr h
   exact dpl rr h
  |loop th m l r bd=>
   rw[okT]at ok;rw[ptT]at hl re;have rr:aV n∈PN:=re rfl;rcases Ls.mp hl with h|h
   ·exact dI (ts:=[th]) (λt ht=>by rw[Lp.mp ht];exact ok.1) rr h
   exact dpl rr h
 unfold qU at hl;split at hl
 ·unfold ng at hl;split at hl
  ·next z=>
   rw[Lp.mp hl];refine{I.ck,re ?_};unfold sP;unfold vC at z;rw[z];simp
  split at hl
  ·next z=>
   rw[Lp.mp hl];refine{re ?_,I.ck};have z:=z.1;unfold sP;unfold xS at z;rw[<-Bool.or_assoc,z];rfl
  cases hl
 cases hl
end
section
variable{P:Program}{w:Of}{K:Oc}{mg:Str->Option E9}{base:OC}{A:Adr}{N:Nat->Str}
seal PE PA PS PSs PT PW
noncomputable def ckL(n:Int):Lk:={"the clock",aV n,"steps",n}
noncomputable def rcL(n:Int):Lk:={aV n,"the clock","steps",n}
noncomputable def sdF:Fr->Bool
 | .leaf (.snd _ _)=>true
 | .leaf (.say _ _ _)=>true
 |_=>false
theorem J7(f:Fr):inV (V.str f.wd) [V.str "send",V.str "say"]=sdF f:=by
 cases f with
 |leaf r=>cases r<;>rfl
 |_=>rfl
def duE(idx:List Nat)(kn:Nat->Option Int)(f:Fr)(post:List Fr)(n:Int)(ls:List Lk):Prop:=match f with
 | .loop _ m l r=>∃c p2,post=au c++ .fin::p2/\bN c<=6/\cTs idx c/\ls=if(y4 m l r (cu kn c)).isSome=true then[]else[rcL n]
 | .iff _ l r=>∃c o p2,post=au c++ .els::(au o++ .fin::p2)/\bN c<=6/\bN o<=6/\cTs idx c/\cTs idx o/\ls=if(yx l r (cu kn c) (cu kn o)).isSome=true then[]else[rcL n]
 |f=>ls=if sdF f=true then[ckL n]else[]
noncomputable def duW(idx:List Nat)(kn:Nat->Option Int)(rest:List Fr):Int->List Fr->List Lk->Prop
 |_,[],ls=>ls=[]
 |n,f::fs,ls=>∃l1 l2,ls=l1++l2/\duE idx kn f (fs++rest) n l1/\duW idx kn rest (n+1) fs l2
theorem jv{idx:List Nat}{kn:Nat->Option Int}{rest b:List Fr}{l2:List Lk}:∀(a:List Fr)(n:Int)(l1:List Lk),duW idx kn (b++rest) n a l1->duW idx kn rest (n+(a.length:Nat)) b l2->duW idx kn rest n (a++b) (l1++l2):=by
 intro a;induction a with
 |nil=>
  intro n l1 h1 h2;rw[show l1=[]from h1];simpa using h2
 |cons f a ih=>
  intro n l1 h1 h2;obtain⟨x,y,rfl,e,h⟩:=h1;refine{x,y++l2,by rw[Lz],by show duE idx kn f ((a++b)++rest) n x;rw[Lz];exact e,ih (n+1) y h ?_};rw[Lq]at h2;push_cast at h2
  rw[show n+1+((a.length:Nat):Int)=n+(((a.length:Nat):Int)+1) by lia];exact h2
theorem qw{idx:List Nat}{kn:Nat->Option Int}{rest:List Fr}{n:Int}{f:Fr}{l:List Lk}(h:duE idx kn f rest n l):duW idx kn rest n [f] l:={l,[],(LQ _).symm,h,rfl}
mutual
noncomputable def duT(kn:Nat->Option Int)(n:Int):Tr->List Lk
 | .leaf r=>if sdF (.leaf r)=true then[ckL n]else[]
 | .iff _ l r f o=>(if(yx l r (cu kn f) (cu kn o)).isSome=true then[]else[rcL n])++(mn kn (n+1) f++mn kn (n+2+((au f).length:Nat)) o)
 | .loop _ m l r b=>(if(y4 m l r (cu kn b)).isSome=true then[]else[rcL n])++mn kn (n+1) b
noncomputable def mn(kn:Nat->Option Int)(n:Int):List Tr->List Lk
 | []=>[]
 |t::ts=>duT kn n t++mn kn (n+((flT t).length:Nat)) ts
end
mutual
theorem KQ{idx:List Nat}{kn:Nat->Option Int}:∀(t:Tr)(n:Int)(rest:List Fr),dpT t<=6->cT idx t->duW idx kn rest n (flT t) (duT kn n t)
 | .leaf r,n,rest,hd,hc=>by
  rw[flT,duT];exact qw rfl
 | .iff v l r f o,n,rest,hd,hc=>by
  rw[dpT]at hd;rw[cT]at hc;rw[flT,duT];refine{_,_,rfl,{f,o,rest,by simp,(),(),hc.1,hc.2,rfl},jv (au f) (n+1) _ (xV f (n+1) _ () hc.1) {[],_,rfl,rfl,?_}};have h2:=jv (b:=[Fr.fin]) (l2:=[]) (au o) (n+2+((au f).length:Nat)) _ (xV (kn:=kn) o (n+2+((au f).length:Nat)) ([.fin]++rest) () hc.2) (qw rfl);rw[LQ]at h2;rw[show n+1+(((au f).length:Nat):Int)+1=n+2+((au f).length:Nat) by lia];exact h2
 | .loop t m l r b,n,rest,hd,hc=>by
  rw[dpT]at hd;rw[cT]at hc;rw[flT,duT];refine{_,_,rfl,{b,rest,by simp,(),hc.2.2,rfl},?_};have h2:=jv (b:=[Fr.fin]) (l2:=[]) (au b) (n+1) _ (xV (kn:=kn) b (n+1) ([.fin]++rest) () hc.2.2) (qw rfl);rw[LQ]at h2;exact h2
theorem xV{idx:List Nat}{kn:Nat->Option Int}:∀(ts:List Tr)(n:Int)(rest:List Fr),bN ts<=6->cTs idx ts->duW idx kn rest n (au ts) (mn kn n ts)
 | [],n,rest,hd,hc=>by
  rw[au,mn];rfl
 |t::ts,n,rest,hd,hc=>by
  rw[bN]at hd;rw[cTs]at hc;rw[au,mn];exact jv (flT t) n _ (KQ t n _ () hc.1) (xV ts _ rest () hc.2)
end
noncomputable def duS(kn:Nat->Option Int)(n:Int):List Sec->List Lk
 | []=>[]
 |s::ss=>mn kn (n+1) s.2++duS kn (n+((lY s).length:Nat)) ss
theorem E6{idx:List Nat}{kn:Nat->Option Int}:∀(ss:List Sec)(n:Int),(∀s∈ss,dmF s.1=true/\bN s.2<=6/\cTs idx s.2)->duW idx kn [] n (flS ss) (duS kn n ss):=by
 intro ss;induction ss with
 |nil=>intro n h;rfl
 |cons s ss ih=>
  intro n h;obtain⟨h1,h2,h3⟩:=h s LB;rw[jk,duS];refine jv (lY s) n _ ?_ (ih _ λx hx=>h x (Lx _ hx));unfold lY;refine{[],_,rfl,by cases e:s.1<;>first|rfl|(rw[e]at h1;cases h1),?_};have h2:=jv (b:=[Fr.fin]) (l2:=[]) (au s.2) (n+1) _ (xV (kn:=kn) s.2 (n+1) ([.fin]++(flS ss++[])) h2 h3) (qw rfl);simp only[LQ]at h2⊢;exact h2
theorem J5{idx:List Nat}{kn:Nat->Option Int}{rest:List Fr}:∀(hs:List Lr)(n:Int),(∀r∈hs,r.ci<5)->duW idx kn rest n (hs.map Fr.leaf) []:=by
 intro hs;induction hs with
 |nil=>intro n h;rfl
 |cons r hs ih=>
  intro n h;refine{[],[],rfl,?_,ih (n+1) λx hx=>h x (Lx _ hx)};have:=h r LB;cases r<;>first|rfl|(exact absurd (show(7:Nat)<5 from this) ∅)|(exact absurd (show(8:Nat)<5 from this) ∅)
theorem JX{X H:Hp}{R:N6}(s:aj X H)(h:X R=UG)(o:HO):aj X (upd H R o):=λa u e=>az (λz=>by rw[z,h]at e;cases e) (s a u e)
theorem Fu(n:Int):("row ":Str)++Qd (toString n)=aV n:=by
 unfold aV;rw[show Ot++("row ":Str)="row " from by decide]
theorem BR{n:Nat}(h:n<=1000):(n:Int).natAbs.log2<1920/\("row ":Str).length+(Qd (toString (n:Int))).length<=sizeLine:=by
 obtain⟨k1,k2,_⟩:=uq {n,()};exact{k1,LG (Sq k2 _) ∅}
inductive zU(vs:List V)(H:Hp)(Q:VK)(Z:XK):Prop
 |mk(N:Nat->Str)(L:N6)(xs:List V)(fs:List Fr)(D:N6)(idx:List Nat)(kn:Nat->Option Int)(ls:List Lk)(z0:vs=[.ref L,.ref D])(z2:H L=UE (.lst xs))(z3:aS N H fs xs)(z4:gk N H D idx λi=>oI (kn i))(z5:xs.length<=300)(z6:duW idx kn [] 1 fs ls)
  (z8:∀(R:N6)(ys:List V)(H':Hp),aj H H'->H R=UG->H' R=UE (.lst ys)->Lks H' ls ys->Q (.ref R) H'):zU vs H Q Z
theorem Eu{idx:List Nat}{kn:Nat->Option Int}{f:Fr}{post:List Fr}{n:Int}{l:List Lk}(h:duE idx kn f post n l):l.length<=1:=by
 unfold duE at h;split at h
 ·obtain⟨c,p2,_,_,_,rfl⟩:=h;split<;>simp
 ·obtain⟨c,o,p2,_,_,_,_,_,rfl⟩:=h;split<;>simp
 rw[h];split<;>simp
theorem Gw(T:Txt K mg A):T.vS.Hz P w base 9 zU:=by
 have bf:=nS (P:=P) (w:=w) (base:=base) T 6;refine T.vS.hs (k:=8) bX (λg cdv A' outer s H vs Q E hr hu h=>?_);obtain⟨N,L,xs,fs,D,idx,kn,ls,rfl,hL,fr,hD,lx,dw,q⟩:=h;have lf:=Oe fr;refine{_,(ab (pst 2 bX.nd (aN ae))
  (ab (cZ Oq rfl (cU rfl T.df (pcB eX T.f9 (fv 0^ae)^ae)) (pgn (i:=3) bX.nd rfl)
   (ab (pst 4 bX.nd (px hu (fv 0) (fv 3)))
   (ab (pst 5 bX.nd (aw aD ar (pcT HC T.uv (aw aD (fv 3) af^ae))))
   (ai (aL (ptc (C5 hu) (px hu (fv 4) af) (aP (ar^ar^ae)) ((by with_unfolding_all rfl)))
    (ai (aK (bu (fv 2) (aP (ar^fv 5^ar^aw aD (fv 3) af^ae)^ae))))
    (ai (aL (ptc (bV hu) (px hu (fv 4) af) ar)
     (ab (bM (ak (hj:=by lia) bf hr (fv 0^aw aD (fv 3) af^fv 1^ae)) (cL rfl (aH (pgn (i:=6) bX.nd rfl) (aH (pgn (i:=7) bX.nd rfl) bU))))
     (ai (aL (PW.pt (pw_or (ptc wJ (fv 6) bH) (pw_or1 (ptc (oW hu) (aw aD (px hu (fv 4) af) (fv 6)) (px hu (fv 4) af)))))
      (ai (aK (bu (fv 2) (aP (fv 5^ar^ar^aw aD (fv 3) af^ae)^ae))))
      aC)))
     (ai (aL (ptc (bV hu) (px hu (fv 4) af) ar)
      (ab (bM (ak (hj:=by lia) bf hr (fv 0^aw aD (fv 3) af^fv 1^ae)) (cL rfl (aH (pgn (i:=6) bX.nd rfl) (aH (pgn (i:=7) bX.nd rfl) bU))))
      (ab (bM (ak (hj:=by lia) bf hr (fv 0^aw aD (fv 7) af^fv 1^ae)) (cL rfl (aH (pgn (i:=8) bX.nd rfl) (aH (pgn (i:=7) bX.nd rfl) bU))))
      (ai (aL (PW.pt (pw_or (ptc wJ (fv 6) bH) (pw_or (ptc wJ (fv 8) bH) (pw_or1 (ptc (oW hu) (aw aD (px hu (fv 4) af) (fv 6)) (aw aD (px hu (fv 4) af) (fv 8)))))))
       (ai (aK (bu (fv 2) (aP (fv 5^ar^ar^aw aD (fv 3) af^ae)^ae))))
       aC))))
      aC)))))))))
  (ai (aA (fv 2))))),?_}
 refine ag λM1 K1=>{LH _,λR hR=>?_};obtain⟨s1,e1⟩:=alc hR (HO.lst []);generalize upd H R _=H1 at s1 e1⊢;refine K1 _ _ ?_;clear K1 M1;try dsimp only
 refine ag λM1 K1=>lnl (s1 _ _ hL) {_,rfl,(),(),?_};rw[show((xs.length:Nat):Int).toNat=fs.length by rw[lf];simp];refine jr (λi σ Hc=>∃(v3 v4 v5 v6 v7 v8:Option V)(dn rem:List Lk)(ys:List V),σ=[UE (.ref L),UE (.ref D),UE (.ref R),v3,v4,v5,v6,v7,v8]/\aj H Hc/\Hc R=UE (.lst ys)/\Lks Hc dn ys/\dn++rem=ls/\dn.length<=i/\duW idx kn [] ((i:Int)+1) (fs.drop i) rem) {UG,UG,UG,UG,UG,UG,[],ls,[],rfl,s1,e1,.nil,rfl,Ln _,by simpa using dw} ?_ ?_
 ·clear K1;rintro i σ Hc hi ⟨v3,v4,v5,v6,v7,v8,dn,rem,ys,rfl,sc,hRc,lk,ea,ld,dr⟩;have ej:(0:Int)+(i:Int)=(i:Int):=()
  rw[ej];obtain⟨f,hf⟩:∃f,fs[i]?=UE f:={_,Lw hi};obtain⟨v,hv,a,p,rfl,ha,hob⟩:=jG (i:=i) (a:=f) fr hf;have ed:fs.drop i=f::fs.drop (i+1):=by
   rw[MS hi];congr 1;rw[Lw hi]at hf;exact Oj hf
  rw[ed]at dr;obtain⟨l1,l2,rfl,de,dr⟩:=dr;rw[LQ]at de;have efs:fs=fs.take i++f::fs.drop (i+1):=by
   rw[<-ed,LO]
  have lt:(fs.take i).length=i:=by rw[LV];lia
  have yl:=Oe lk;have l1l:=Eu de;have fin:∀(Hd:Hp)(u6 u7 u8:Option V)(zs:List V),aj H Hd->Hd R=UE (.lst zs)->Lks Hd (dn++l1) zs->∃(v3 v4 v5 v6 v7 v8:Option V)(dn rem:List Lk)(ys:List V),[UE (V.ref L),UE (.ref D),UE (.ref R),UE (.int i),UE (.ref a),UE (.str (aV ((i:Int)+1))),u6,u7,u8]=[UE (.ref L),UE (.ref D),UE (.ref R),v3,v4,v5,v6,v7,v8]/\aj H Hd/\Hd R=UE (.lst ys)/\Lks Hd dn ys/\dn++rem=ls/\dn.length<=i+1/\duW idx kn [] (((i+1:Nat):Int)+1) (fs.drop (i+1)) rem:=by
   intro Hd u6 u7 u8 zs sd hz lz;refine{_,_,_,u6,u7,u8,dn++l1,l2,zs,rfl,sd,hz,lz,by rw[Lz];exact ea,?_,?_}
   ·rw[Ll];lia
   push_cast
   exact dr
  have put:∀(Hd:Hp)(l:Lk)(u6 u7 u8:Option V)(R':V->Hp->Prop),l1=[l]->aj H Hd->Hd R=UE (.lst ys)->Lks Hd dn ys->(∀He,(∃(v3 v4 v5 v6 v7 v8:Option V)(dn rem:List Lk)(ys:List V),[UE (V.ref L),UE (.ref D),UE (.ref R),UE (.int i),UE (.ref a),UE (.str (aV ((i:Int)+1))),u6,u7,u8]=[UE (.ref L),UE (.ref D),UE (.ref R),v3,v4,v5,v6,v7,v8]/\aj H He/\He R=UE (.lst ys)/\Lks He dn ys/\dn++rem=ls/\dn.length<=i+1/\duW idx kn [] (((i+1:Nat):Int)+1) (fs.drop (i+1)) rem)->R' .non He)->
    4<=sizeLine/\∀tp,Hd tp=UG->qu (.ref R) [.ref tp] (upd Hd tp (.tup l.vs)) R':=by
   intro Hd l u6 u7 u8 R' el sd hz lz k
   refine{∅,λtp htp=>?_}
   obtain⟨s3,e3⟩:=alc htp (HO.tup l.vs)
   generalize upd Hd tp _=H3 at s3 e3⊢
   refine{_,_,_,rfl,rfl,s3 _ _ hz,aQ (),k _ (fin _ u6 u7 u8 (ys++[V.ref tp]) (JX (sd.trans s3) hR _) ao ?_)}
   have tk:∀x w,H3 x=UE (.tup w)->upd H3 R (HO.lst (ys++[V.ref tp])) x=UE (.tup w):=λx w e=>az (λz=>by rw[z,s3 _ _ hz]at e;cases e) e
   rw[el]
   exact Paired.two ((lz.same λx w e=>s3 _ _ e).same tk) (.cons {tp,rfl,tk _ _ e3} .nil)
  try dsimp only
  refine ag λM2 K2=>lxn (SqL.of (sc _ _ hL)) hv (K2 _ _ ?_);clear K2 M2;try dsimp only
  refine ag λM2 K2=>LL {_,rfl,(BR (n:=i+1) ()).1,(BR (n:=i+1) ()).2,K2 _ _ ?_};clear K2 M2;rw[show("row ":Str)++Qd (toString ((i:Int)+1))=aV ((i:Int)+1)from Fu _];try dsimp only
  refine tix (j:=0) (SqT.of (sc _ _ ha)) rfl {by show 2<=sizeLine;decide,λtp htp=>?_};obtain⟨s2,e2⟩:=alc htp (HO.tup [V.str "send",V.str "say"]);generalize upd Hc tp _=H2 at s2 e2⊢;have sc2:=sc.trans s2;have hR2:=s2 _ _ hRc;have lk2:Lks H2 dn ys:=lk.same λx w e=>s2 _ _ e;have haS:=SqT.of (K:=K) (sc2 _ _ ha);refine LL {_,MY (SqT.of e2),rfl,rfl,_,rfl,?_};rw[show(if false=true then !inV (V.str f.wd) [V.str "send",V.str "say"]else inV (V.str f.wd) [V.str "send",V.str "say"])=sdF f from J7 f];refine aR (λz=>?_) (λz=>?_)
  ·have el:l1=[ckL ((i:Int)+1)]:=by
    cases f with
    |leaf r=>
     have de':l1=if sdF (.leaf r)=true then[ckL ((i:Int)+1)]else[]:=de
     rw[if_pos z]at de';exact de'
    |_=>cases z
   exact{LL {rfl,_,SqL.of hR2},put H2 _ _ _ _ _ el sc2 hR2 lk2 λHe h=>h}
  have nop:∀(Hd:Hp)(u6 u7 u8:Option V),l1=[]->aj H2 Hd->_:=λHd u6 u7 u8 e sd=>fin Hd u6 u7 u8 ys (sc2.trans sd) (sd _ _ hR2) (by rw[e,LQ];exact lk2.same λx w e=>sd _ _ e);have lnk:∀(Hd:Hp)(l:Lk)(u6 u7 u8:Option V)(R':V->Hp->Prop),l1=[l]->aj H2 Hd->_:=λHd l u6 u7 u8 R' e sd=>put Hd l u6 u7 u8 R' e (sc2.trans sd) (sd _ _ hR2) (lk2.same λx w e=>sd _ _ e);clear put fin hv htp e2 hRc lk l1l yl;try dsimp only
  cases f with
  |loop t m l r=>
   obtain⟨c,p2,ep,dpc,ckc,el⟩:=de;refine tix (j:=0) haS rfl {rfl,_,rfl,aR (λ_=>?_) (λz=>absurd (show decide (V.str "loop"=V.str "loop")=true from decide_eq_true rfl) z)};have e1':fs=(fs.take i++[.loop t m l r])++au c++ .fin::p2:=efs.trans (by rw[ep];simp);have l1:(fs.take i++[Fr.loop t m l r]).length=i+1:=by rw[Ll,lt];rfl
   try dsimp only
   refine ag λN2 J2=>{N,H,L,xs,fs,_,_,c,.fin,D,idx,kn,by rw[l1];push_cast;rfl,sc2,hL,fr,e1',rfl,dpc,ckc,gk.mono hD sc2,lx,λp1 H3 s3 ep1=>{p1,_,rfl,SqT.of ep1,rfl,_,_,rfl,_,_,rfl,rfl,J2 _ _ ?_}};clear J2 N2;try dsimp only
   cases ex:cu kn c with
   |none=>
    rw[ex]at el;exact{rfl,_,rfl,bW (bW {LL {rfl,_,SqL.of (s3 _ _ hR2)},lnk H3 _ _ _ _ _ el s3 λHe h=>h})}
   |some x=>
    rw[ex]at el;have hT:=SqT.of (K:=K) ((sc2.trans s3) _ _ ha);refine{rfl,_,rfl,bg (tix (j:=3) hT rfl (tix (j:=4) hT rfl {rfl,_,rfl,aR (λz=>?_) (λz=>?_)}))}
    ·have ne:¬ l+x=r:=λe=>by rw[e]at z;simp at z
     rw[show y4 m l r (UE x)=UG from if_neg ne]at el;exact{LL {rfl,_,SqL.of (s3 _ _ hR2)},lnk H3 _ _ _ _ _ el s3 λHe h=>h}
    have eq:l+x=r:=Rb λn=>z (by simp[n]);rw[show y4 m l r (UE x)=UE (1+m*r)from if_pos eq]at el;exact nop H3 _ _ _ el s3
  |iff v l r=>
   obtain⟨c,o,p2,ep,dpc,dpo,ckc,cko,el⟩:=de;refine tix (j:=0) haS rfl {rfl,_,rfl,aR (λz=>absurd z (show ¬ decide (V.str "if"=V.str "loop")=true by decide)) (λ_=>?_)};try dsimp only
   refine tix (j:=0) haS rfl {rfl,_,rfl,aR (λ_=>?_) (λz=>absurd (show decide (V.str "if"=V.str "if")=true from decide_eq_true rfl) z)};have e1':fs=(fs.take i++[.iff v l r])++au c++ .els::(au o++ .fin::p2):=efs.trans (by rw[ep];simp);have e2':fs=(fs.take i++[.iff v l r]++au c++[.els])++au o++ .fin::p2:=e1'.trans (by simp);have l1:(fs.take i++[Fr.iff v l r]).length=i+1:=by rw[Ll,lt];rfl
   have l2:(fs.take i++[Fr.iff v l r]++au c++[Fr.els]).length=i+1+(au c).length+1:=by rw[Ll,Ll,l1];rfl
   try dsimp only
   refine ag λN2 J2=>{N,H,L,xs,fs,_,_,c,.els,D,idx,kn,by rw[l1];push_cast;rfl,sc2,hL,fr,e1',rfl,dpc,ckc,gk.mono hD sc2,lx,λp1 H3 s3 ep1=>{p1,_,rfl,SqT.of ep1,rfl,_,_,rfl,_,_,rfl,rfl,J2 _ _ ?_}};clear J2 N2;try dsimp only
   refine ag λN2 J2=>{N,H,L,xs,fs,_,_,o,.fin,D,idx,kn,by rw[l1,l2];push_cast;rfl,sc2.trans s3,hL,fr,e2',rfl,dpo,cko,gk.mono hD (sc2.trans s3),lx,λp2 H4 s4 ep2=>{p2,_,rfl,SqT.of ep2,rfl,_,_,rfl,_,_,rfl,rfl,J2 _ _ ?_}};clear J2 N2;have s34:=s3.trans s4;try dsimp only
   cases ex:cu kn c with
   |none=>
    rw[ex]at el;exact{rfl,_,rfl,bW (bW {LL {rfl,_,SqL.of (s34 _ _ hR2)},lnk H4 _ _ _ _ _ el s34 λHe h=>h})}
   |some x=>
    cases ey:cu kn o with
    |none=>
     rw[ex,ey]at el;exact{rfl,_,rfl,bg {rfl,_,rfl,bW (bW {LL {rfl,_,SqL.of (s34 _ _ hR2)},lnk H4 _ _ _ _ _ el s34 λHe h=>h})}}
    |some y=>
     rw[ex,ey]at el;have hT:=SqT.of (K:=K) ((sc2.trans s34) _ _ ha);refine{rfl,_,rfl,bg {rfl,_,rfl,bg (tix (j:=2) hT rfl (tix (j:=3) hT rfl {rfl,_,rfl,aR (λz=>?_) (λz=>?_)}))}}
     ·have ne:¬ l+x=r+y:=λe=>by rw[e]at z;simp at z
      rw[show yx l r (UE x) (UE y)=UG from if_neg ne]at el;exact{LL {rfl,_,SqL.of (s34 _ _ hR2)},lnk H4 _ _ _ _ _ el s34 λHe h=>h}
     have eq:l+x=r+y:=Rb λn=>z (by simp[n]);rw[show yx l r (UE x) (UE y)=UE (1+l+x)from if_pos eq]at el;exact nop H4 _ _ _ el s34
  |leaf r=>
   have el:l1=[]:=by
    have de':l1=if sdF (.leaf r)=true then[ckL ((i:Int)+1)]else[]:=de
    rw[if_neg z]at de';exact de'
   refine tix (j:=0) haS rfl {rfl,_,rfl,aR (λz=>absurd z (iD r).2) (λ_=>?_)};try dsimp only
   exact tix (j:=0) haS rfl {rfl,_,rfl,aR (λz=>absurd z (iD r).1) (λ_=>nop H2 _ _ _ el (aj.refl _))}
  |_=>
   have el:l1=[]:=de;refine tix (j:=0) haS rfl {rfl,_,rfl,aR (λz=>absurd z (by rw[DF];exact Lv)) (λ_=>?_)};try dsimp only
   exact tix (j:=0) haS rfl {rfl,_,rfl,aR (λz=>absurd z (by rw[BX];exact Lv)) (λ_=>nop H2 _ _ _ el (aj.refl _))}
 rintro σ Hc ⟨v3,v4,v5,v6,v7,v8,dn,rem,ys,rfl,sc,hRc,lk,ea,ld,dr⟩;refine K1 _ _ ?_;rw[NS]at dr;rw[show rem=[]from dr,LQ]at ea;subst ea;exact q R ys Hc sc hR hRc lk
end
section
variable{P:Program}{w:Of}{K:Oc}{mg:Str->Option E9}{base:OC}{A:Adr}{N:Nat->Str}
mutual
theorem Gz(kn:Nat->Option Int):∀(t:Tr)(n:Int),exP kn (ptT n t)=exT kn t
 | .leaf r,n=>by rw[ptT];cases r<;>simp[exP,exT]
 | .iff v l r f o,n=>by rw[ptT,exP,exT,xk kn f,xk kn o]
 | .loop t m l r b,n=>by rw[ptT,exP,exT,xk kn b]
theorem xk(kn:Nat->Option Int):∀(ts:List Tr)(n:Int),bJ kn (aU n ts)=cu kn ts
 | [],n=>by rw[aU,bJ,cu]
 |t::ts,n=>by rw[aU,bJ,cu,Gz kn t,xk kn ts]
end
theorem JK:∀(ds:List De)(n:Int)(kn:Nat->Option Int),(ds.map λd=>((.aZ d.1 d.2.1,d.2.2):Sec)).foldl knE kn=(deP n ds).foldl (knF bJ) kn:=by
 intro ds;induction ds with
 |nil=>intro n kn;rfl
 |cons d ds ih=>
  intro n kn;rw[deP,LC,MN,MN];have e:knE kn (.aZ d.1 d.2.1,d.2.2)=knF bJ kn (.aZ n d.1 d.2.1 (aU (n+1) d.2.2)):=by
   funext j
   show(if j=d.1 then cu kn d.2.2 else kn j)=if j=d.1 then bJ kn (aU (n+1) d.2.2)else kn j
   rw[xk]
  rw[e];exact ih _ _
theorem IE(ds:List De)(mb:List Tr)(n:Int):knS (cM ds mb)=knA bJ UG (deP n ds):=by
 unfold cM;rw[rC];exact JK ds n _
noncomputable def stL(kn:Nat->Option Int)(es:List Le):List Lk:=es.flatMap λe=>ng kn e.1
theorem qe(kn:Nat->Option Int)(a b:List Le):stL kn (a++b)=stL kn a++stL kn b:=Mr
theorem qX(kn:Nat->Option Int)(e:Le)(b:List Le):stL kn (e::b)=ng kn e.1++stL kn b:=Mj
theorem C7(kn:Nat->Option Int)(n:Int)(r:Lr):ng kn (.leaf n r)=if sdF (.leaf r)=true then[ckL n]else[]:=by
 cases r<;>rfl
mutual
theorem Ki(kn:Nat->Option Int):∀(t:Tr)(n:Int)(pl lp:Option Str),stL kn ((ptT n t,pl,lp)::cA lp (ptT n t))=duT kn n t
 | .leaf r,n,pl,lp=>by
  rw[ptT,cA,qX,duT,C7];exact LQ _
 | .iff v l r f o,n,pl,lp=>by
  rw[qX,duT];have e:=Gz kn (.iff v l r f o) n;rw[exT]at e;rw[ptT]at e⊢;rw[cA,qe,tQ kn f,tQ kn o];congr 1;show(if vC (Pt.iff n v l r (aU (n+1) f) (aU (n+2+((au f).length:Nat)) o))=true then _ else if _/\(exP kn (Pt.iff n v l r (aU (n+1) f) (aU (n+2+((au f).length:Nat)) o))).isSome=false then _ else _)=_;rw[e];cases (yx l r (cu kn f) (cu kn o))<;>rfl
 | .loop t m l r b,n,pl,lp=>by
  rw[qX,duT];have e:=Gz kn (.loop t m l r b) n;rw[exT]at e;rw[ptT]at e⊢;rw[cA,tQ kn b];congr 1;show(if vC (Pt.loop n t m l r (aU (n+1) b))=true then _ else if _/\(exP kn (Pt.loop n t m l r (aU (n+1) b))).isSome=false then _ else _)=_;rw[e];cases (y4 m l r (cu kn b))<;>rfl
theorem tQ(kn:Nat->Option Int):∀(ts:List Tr)(n:Int)(pl lp:Option Str),stL kn (bp pl lp (aU n ts))=mn kn n ts
 | [],n,pl,lp=>by rw[aU,bp,mn];rfl
 |t::ts,n,pl,lp=>by
  rw[aU,bp,mn,<-L8,qe,Ki kn t,tQ kn ts]
end
theorem J0(kn:Nat->Option Int)(mb:List Tr):∀(ds:List De)(n:Int),stL kn (dM N (deP n ds))++mn kn (n+((br ds).length:Nat)+1) mb=duS kn n (cM ds mb):=by
 intro ds;induction ds with
 |nil=>
  intro n;show[]++mn kn (n+((0:Nat):Int)+1) mb=mn kn (n+1) mb++[];simp
 |cons d ds ih=>
  intro n;have:=ih (n+((flD d).length:Nat));show stL kn (dM N (deP n (d::ds)))++_=mn kn (n+1) d.2.2++duS kn (n+((lY (.aZ d.1 d.2.1,d.2.2)).length:Nat)) (cM ds mb);rw[show(lY (.aZ d.1 d.2.1,d.2.2)).length=(flD d).length from rfl,<-this,deP];unfold dM;rw[Mj,qe];rw[show stL kn (bp (UE (dNm N (.aZ n d.1 d.2.1 (aU (n+1) d.2.2)))) UG (kI (.aZ n d.1 d.2.1 (aU (n+1) d.2.2))))=mn kn (n+1) d.2.2 from tQ kn d.2.2 (n+1) _ _];rw[Lz,show(br (d::ds)).length=(flD d).length+(br ds).length from Ll];push_cast
  rw[show n+(((flD d).length:Int)+((br ds).length:Int))+1=n+((flD d).length:Int)+((br ds).length:Int)+1 by lia]
theorem gq(kn:Nat->Option Int)(hs:List Lr)(ds:List De)(mb:List Tr):stL kn (bI N (deP ((hs.length:Nat)+1) ds) (aU (msN hs ds) mb))=duS kn (((hs.length:Nat):Int)+1) (cM ds mb):=by
 unfold bI;rw[qe,tQ,<-J0 (N:=N)];congr 2;unfold msN;push_cast
 lia
mutual
theorem EI{a b:List Nat}(h:∀i∈a,i∈b):∀t:Tr,cT a t->cT b t
 | .leaf r,k=>by
  cases r<;>simp only[cT]at k⊢;exact h _ k
 | .iff v l r f o,k=>by
  rw[cT]at k⊢;exact⟨kP h f k.1,kP h o k.2⟩
 | .loop t m l r c,k=>by
  rw[cT]at k⊢;exact⟨k.1,k.2.1,kP h c k.2.2⟩
theorem kP{a b:List Nat}(h:∀i∈a,i∈b):∀ts:List Tr,cTs a ts->cTs b ts
 | [],k=>by rw[cTs];trivial
 |t::ts,k=>by
  rw[cTs]at k⊢;exact⟨EI h t k.1,kP h ts k.2⟩
end
theorem G4{hs:List Lr}{ds:List De}{mb:List Tr}(O:eN hs ds mb):duW (i4 (cM ds mb)) (knS (cM ds mb)) [] 1 (flA hs ds mb) (stL (knA bJ UG (deP ((hs.length:Nat)+1) ds)) (bI N (deP ((hs.length:Nat)+1) ds) (aU (msN hs ds) mb))):=by
 rw[gq,<-IE ds mb,rR];have S:=zO (N:=N) O;have h:=E6 (idx:=i4 (cM ds mb)) (kn:=knS (cM ds mb)) (cM ds mb) (((hs.length:Nat):Int)+1) λs m=>by
  obtain⟨k,hk⟩:=LX m;obtain⟨h1,h2⟩:=S.bo k s hk;refine{S.hd s m,h1,kP (λi hi=>?_) _ h2};obtain⟨x,mx,hx⟩:=Md.mp hi;exact Md.mpr ⟨x,Mn mx,hx⟩
 refine jv (hs.map Fr.leaf) 1 [] (J5 hs 1 (Jm O)) ?_;rw[Lm,Int.add_comm];exact h
theorem Fy{α β:Type}(f g:α->List β):∀l:List α,(l.flatMap λx=>f x++g x).Perm (l.flatMap f++l.flatMap g):=by
 intro l;induction l with
 |nil=>exact .refl _
 |cons x l ih=>
  rw[Mj,Mj,Mj];refine(OG _ ih).trans ?_;rw[Lz,Lz];refine OG _ ?_;rw[<-Lz,<-Lz];exact O8 _ Mp
theorem Ex(ds ms:List Pt):(cq N true ds ms).Perm (cq N false ds ms++stL (knA bJ UG ds) (bI N ds ms)):=by
 have h:=Fy (λe:Le=>pZ N (poM N ds) e.1 e.2.1 e.2.2) (λe=>ng (knA bJ UG ds) e.1) (bI N ds ms);have e:cq N false ds ms=(bI N ds ms).flatMap λe:Le=>pZ N (poM N ds) e.1 e.2.1 e.2.2:=by
  unfold cq;congr 1;funext e
  exact LQ _
 rw[e];exact h
theorem Jz{b:Bool}{ds ms:List Pt}:∀l∈cq N b ds ms,Ow l.kd=true:=by
 intro l hl;have dr:∀{fs:List (Option Str)}{into kd:Str}{n:Int},Ow kd=true->l∈drw fs into kd n->Ow l.kd=true:=λh1 h=>by
  obtain⟨x,_,_,rfl⟩:=zu.mp h;exact h1
 have v:Ow "value"=true:=by decide+kernel
 have u:Ow "under"=true:=by decide+kernel
 have t:Ow "test"=true:=by decide+kernel
 have st:Ow "steps"=true:=by decide+kernel
 have di:∀{p:Pt}{into kd:Str}{pl:Option Str},Ow kd=true->l∈drI N p into kd pl->Ow l.kd=true:=λh1 h=>by
  rcases Ls.mp h with h|h
  ·exact dr h1 h
  exact dr u h
 unfold cq at hl;obtain⟨e,_,hl⟩:=Md.mp hl;rcases Ls.mp hl with h|h
 ·obtain⟨p,pl,lp⟩:=e;unfold pZ at h;split at h
  ·exact di v h
  ·exact di v h
  ·rcases Ls.mp h with h|h
   ·obtain⟨x,_,h⟩:=Md.mp h;unfold vJ at h;split at h
    ·cases h
    exact dr v h
   obtain⟨x,_,h⟩:=Md.mp h;exact dr u h
  ·exact di v h
  ·rcases Ls.mp h with h|h
   ·rcases Ls.mp h with h|h
    ·exact dr v h
    exact dr u h
   exact dr u h
  ·exact dr u h
  ·exact di t h
  ·exact di t h
  cases h
 unfold qU at h;split at h
 ·unfold ng at h;split at h
  ·rw[Lp.mp h];exact st
  split at h
  ·rw[Lp.mp h];exact st
  cases h
 cases h
noncomputable def lkD(l:Lk):QP:=.tuple (l.vs.map dV)
theorem vn{H:Hp}:∀{ls:List Lk}{ys:List V},Lks H ls ys->(∀l∈ls,l.vs.all okV=true)->eg K H ys (ls.map lkD)/\OJ (ls.map lkD)=true/\OP (ls.map lkD)<=1
 |_,_,.nil,_=>{.nil,rfl,LH _}
 |_,_,.cons (a:=l) h r,ok=>by
  obtain⟨t,rfl,ht⟩:=h;obtain⟨h1,h2,h3⟩:=vn r λl m=>ok l (Lx _ m);obtain⟨g1,g2,g3⟩:=uS (K:=K) (H:=H) (ok l LB);refine{.cons (.tup (SqT.of ht) g1) h1,?_,?_}
  ·rw[LC];simp[OJ,OU,lkD,g2,h2]
  rw[LC];simp only[OP,lkD,Pl,g3];lia
theorem yW{H:Hp}{ls:List Lk}{ys zs:List V}{p q:N6}(hp:SqL K H p ys)(hq:SqL K H q zs)(h1:Lks H ls ys)(h2:Lks H ls zs)(ok:∀l∈ls,l.vs.all okV=true):∃d e,j5 K H (.ref p) d/\j5 K H (.ref q) e/\OR d=true/\OR e=true/\P0 d e=true:=by
 obtain⟨a1,a2,a3⟩:=vn (K:=K) h1 ok;obtain⟨b1,_,_⟩:=vn (K:=K) h2 ok;have sh:OR (.list (ls.map lkD))=true:=by
  simp only[OR,OU,Pl,a2,NI];exact decide_eq_true ()
 exact{.list (ls.map lkD),.list (ls.map lkD),.lst hp a1,.lst hq b1,sh,sh,SeqAt.eqv_refl _ (by simp[OU,a2])}
noncomputable def lkT(l:Lk):LkT:=(l.fr,l.to,l.kd,l.no)
theorem oh{H:Hp}:∀{ls:List Lk}{ys:List V},Lks H ls ys->∃ts:List N6,ys=ts.map V.ref/\Paired (λl t=>H t=UE (.tup l.vs)) ls ts
 |_,_,.nil=>{[],rfl,.nil}
 |_,_,.cons h r=>by
  obtain⟨t,rfl,ht⟩:=h;obtain⟨ts,rfl,p⟩:=oh r;exact{t::ts,rfl,.cons ht p}
noncomputable def vsF(H:Hp)(t:N6):List V:=match H t with
 |some (.tup vs)=>vs
 |_=>[]
noncomputable def lkF(H:Hp)(t:N6):LkT:=match vsF H t with
 | [.str a,.str b,.str c,.int n]=>(a,b,c,n)
 |_=>(Ot,Ot,Ot,0)
theorem qC{H:Hp}{t:N6}{l:Lk}(h:H t=UE (.tup l.vs)):vsF H t=l.vs/\lkF H t=lkT l:=by
 have e:vsF H t=l.vs:=by unfold vsF;rw[h]
 refine{e,?_};unfold lkF;rw[e];rfl
theorem Dh{H:Hp}:∀{ls:List Lk}{ts:List N6},Paired (λl t=>H t=UE (.tup l.vs)) ls ts->ts.map (lkF H)=ls.map lkT
 |_,_,.nil=>rfl
 |_,_,.cons h r=>by rw[LC,LC,(qC h).2,Dh r]
theorem vA{H:Hp}:∀{ls:List Lk}{ts:List N6}{t:N6},Paired (λl t=>H t=UE (.tup l.vs)) ls ts->t∈ts->∃l∈ls,H t=UE (.tup l.vs)
 |_,_,_,.cons h r,m=>by
  rcases Lu.mp m with rfl|m
  ·exact{_,LB,h}
  obtain⟨l,ml,hl⟩:=vA r m;exact{l,Lx _ ml,hl}
theorem FR{H:Hp}:∀{ls:List Lk}{ts:List N6}{l:Lk},Paired (λl t=>H t=UE (.tup l.vs)) ls ts->l∈ls->∃t∈ts,H t=UE (.tup l.vs)
 |_,_,_,.cons h r,m=>by
  rcases Lu.mp m with rfl|m
  ·exact{_,LB,h}
  obtain⟨t,mt,ht⟩:=FR r m;exact{t,Lx _ mt,ht}
theorem GQ(l:Lk):Ez (lkT l)=l.vs:=rfl
theorem Ek{H:Hp}{ls:List Lk}{ts ts':List N6}(p:Paired (λl t=>H t=UE (.tup l.vs)) ls ts)(pm:ts'.Perm ts)(ri:kE (ts'.map (lkF H))):∃ls',ls'.Perm ls/\Lks H ls' (ts'.map V.ref)/\kE (ls'.map lkT):=by
 have:∀ts':List N6,(∀t∈ts',∃l∈ls,H t=UE (.tup l.vs))->∃ls',ts'.map (lkF H)=ls'.map lkT/\Lks H ls' (ts'.map V.ref):=by
  intro ts';induction ts' with
  |nil=>intro _;exact{[],rfl,.nil}
  |cons t ts' ih=>
   intro h;obtain⟨l,_,hl⟩:=h t LB;obtain⟨ls',e,k⟩:=ih λx hx=>h x (Lx _ hx);exact{l::ls',by rw[LC,LC,(qC hl).2,e],.cons ⟨t,rfl,hl⟩ k}
 obtain⟨ls',e,k⟩:=this ts' λt m=>vA p (pm.mem_iff.mp m);refine{ls',?_,k,by rw[<-e];exact ri};have h:=pm.map (lkF H);rw[e,Dh p]at h;have back:∀l:List Lk,(l.map lkT).map (λx:LkT=>(⟨x.1,x.2.1,x.2.2.1,x.2.2.2⟩:Lk))=l:=λl=>by
  rw[MM];exact(MV λx _=>rfl).trans (N0 l)
 have h2:=h.map λx:LkT=>(⟨x.1,x.2.1,x.2.2.1,x.2.2.2⟩:Lk);rw[back,back]at h2;exact h2
theorem xC{a b l m:List Lk}(pa:a.Perm l)(pb:b.Perm m)(lm:l.Perm m)(ra:kE (a.map lkT))(rb:kE (b.map lkT)):a=b:=by
 have h:=Dg ((pa.trans (lm.trans pb.symm)).map lkT) ra rb;have back:∀l:List Lk,(l.map lkT).map (λx:LkT=>(⟨x.1,x.2.1,x.2.2.1,x.2.2.2⟩:Lk))=l:=λl=>by
  rw[MM];exact(MV λx _=>rfl).trans (N0 l)
 rw[<-back a,<-back b,h]
end
section
variable{P:Program}{w:Of}{K:Oc}{mg:Str->Option E9}{base:OC}{A:Adr}{N:Nat->Str}
seal PE PA PS PSs PT PW
noncomputable def wt(K:Oc):Sp:=λvs H Q _=>∃(a:N6)(ns:List Int),vs=[.ref a]/\SqL K H a (ns.map V.int)/\ns.length<=63/\∀H',Q (.bl true) H'
theorem DD{H:Hp}{F:N6}{xs zs:List V}(hF:H F=UE (.lst xs)){ls:List Lk}{ys:List V}(h:Lks H ls ys):Lks (upd H F (.lst zs)) ls ys:=h.same λx w e=>az (λz=>by rw[z,hF]at e;cases e) e
theorem Eg{Hd:Hp}{ls:List Lk}{ts:List N6}(p:Paired (λl t=>Hd t=UE (.tup l.vs)) ls ts):∀a∈ts,SqT K Hd a (Ez (lkF Hd a)):=λa ha=>by
 obtain⟨x,_,hx⟩:=vA p ha;rw[(qC hx).2,GQ];exact SqT.of hx
theorem Fx{Hd:Hp}{ls:List Lk}{ts ts':List N6}{l:N6}(p:Paired (λl t=>Hd t=UE (.tup l.vs)) ls ts)(pm:ts'.Perm ts)(ri:kE (ts'.map (lkF Hd)))(hl:Hd l=UG):∃ls',aj Hd (upd Hd l (.lst (ts'.map V.ref)))/\upd Hd l (.lst (ts'.map V.ref)) l=UE (.lst (ts'.map V.ref))/\Lks (upd Hd l (.lst (ts'.map V.ref))) ls' (ts'.map V.ref)/\ls'.Perm ls/\kE (ls'.map lkT):=by
 obtain⟨ls',h1,h2,h3⟩:=Ek p pm ri;have s:=aj.upd hl (HO.lst (ts'.map V.ref));exact{ls',s,ao,h2.same λx w e=>s _ _ e,h1,h3}
theorem Jc(T:Txt K mg A)(F:a9 K mg "law" rV ["_law_script"]):Has P w K mg base 30 "law" ["_law_script"] (wt K):=by
 have dB:=@zd P w _ _ base _ T;have E_links:=vY.has (qv (P:=P) (w:=w) (base:=base) T 6);have G_links:=vY.d (qv (P:=P) (w:=w) (base:=base) T 6);refine F.hs (k:=29) hW (λf cdv A' outer s0 H vs Q E hr hu h=>?_) (λvs H Q E h=>by obtain⟨a,ns,rfl,_⟩:=h;rfl);obtain⟨sc,ns,rfl,hS,_,q⟩:=h;refine{_,(ab (pst 1 hW.nd (ak (hj:=by lia) (DN T) hr ((ak (hj:=by lia) dB hr (fv 0^af^ae))^(ak (hj:=by lia) dB hr (fv 0^af^ae))^af^ae)))
  (ab (bM (ak (hj:=by lia) (EJ T) hr ((ak (hj:=by lia) (Ig T) hr (fv 0^fv 1^ae))^(ak (hj:=by lia) dB hr (fv 0^af^ae))^ae)) (cL rfl (aH (pgn (i:=2) hW.nd rfl) (aH (pgn (i:=3) hW.nd rfl) bU))))
  (ab (pst 4 hW.nd (ak (hj:=by lia) (EO T) hr (fv 2^ae)))
  (ab (pst 5 hW.nd (Bs (hj:=by lia) G_links hr (fv 4^ae)))
  (ab (pst 6 hW.nd (ak (hj:=by lia) E_links hr (fv 4^r8^ae)))
  (ab (pst 7 hW.nd (ak (hj:=by lia) (Gw T) hr (fv 2^fv 3^ae)))
  (ab (aL (PW.pt (pw_or (vH (bS (pcB bq T.aE (fv 5^(lU (v:=.ty "list") rfl T.cW (by boot_by_name) rfl)^ae)) (λ_=>rfl))) (pw_or (vH (bS (pcB bq T.aE (fv 6^(lU (v:=.ty "list") rfl T.cW (by boot_by_name) rfl)^ae)) (λ_=>rfl))) (pw_or1 (ptc (oW hu) (pcB eX T.f9 (fv 6^ae)) (aw aD (pcB eX T.f9 (fv 5^ae)) (pcB eX T.f9 (fv 7^ae))))))))
   (ai (aA r8))
   aC)
  (ab (cZ Oq rfl (fm (aw aD (fv 5) (fv 7))) (pgn (i:=8) hW.nd rfl)
   (ai (aL (ptc (Dv hu) (fv 8) (fv 6) ((by with_unfolding_all rfl)))
    (ai (aA r8))
    aC)))
  (ab (cZ Oq rfl (fm (fv 6)) (pgn (i:=8) hW.nd rfl)
   (ai (aL (PW.pt (pw_or (vH (bS (pcB bq T.aE (px hu (fv 8) af^(lU (v:=.ty "int") rfl T.zD (by boot_by_name) rfl)^ae)) (λ_=>rfl))) (pw_or1 (bS (pcB bq T.aE (px hu (fv 8) af^(lU (v:=.ty "bool") rfl T.vc (by boot_by_name) rfl)^ae)) (λ_=>rfl)))))
    (ai (aA r8))
    aC)))
  (ab (pst 9 hW.nd (pcT qp T.cW (fv 5^ae)))
  (ab (aK (EY (fv 6)))
  (ab (aL (PW.pt (pw_or (ptc (oW hu) (fv 5) (fv 9)) (pw_or1 (ptc (oW hu) (pcB lR T.ic ((uJ (hj:=by lia) (qv T 6) hr (fv 4^ae) r8)^ae)) (pcB lR T.ic (fv 9^ae))))))
   (ai (aA r8))
   aC)
  (ai (aA (pec (bV hu) (pcB lR T.ic ((uJ (hj:=by lia) (qv T 6) hr (fv 4^ae) r8)^ae)) (pcB lR T.ic (aw aD (fv 9) (fv 7)^ae))))))))))))))))),?_}
 refine ag λM1 K1=>{sc,ns,0,rfl,hS,∅,∅,λc1 H1 s1=>{sc,ns,1,rfl,s1.seq hS,∅,∅,λc2 H2 s2=>{c1,c2,rfl,λnl N H3 s3 hnl enl nm=>K1 _ _ ?_}}};clear K1 M1;have t3:=s1.trans (s2.trans s3);try dsimp only
 refine ag λM1 K1=>{N,sc,nl,ns,rfl,t3.seq hS,enl,nm,λL0 xs0 hs ds0 mb0 H4 s4 hL0 eL0 fr0 O0=>?_};have lx0:xs0.length<=300:=by
  have:=vL O0;rw[<-Oe fr0];lia
 rw[rR]at fr0;refine{sc,ns,3,rfl,(t3.trans s4).seq hS,∅,∅,λc3 H5 s5=>{N,L0,c3,xs0,hs,cM ds0 mb0,rfl,s5 _ _ eL0,aS.same s5 fr0,zO O0,nm,lx0,λp L D xs ss H6 s6 ep eL sim fr kn=>{p,_,rfl,SqT.of ep,rfl,_,_,rfl,_,_,rfl,rfl,?_}}};obtain⟨ds,mb,rfl,O,_⟩:=AU O0 sim;rw[<-rR]at fr;have lf:=vL O;have lx':=Oe fr;have lx:xs.length<=300:=()
 clear fr0 O0 sim ep lx0 eL0 hL0;refine K1 _ _ ?_;clear K1 M1;try dsimp only
 refine ag λM1 K1=>{N,H6,L,xs,hs,ds,mb,rfl,aj.refl _,eL,fr,O,lx,λv H7 s7 pg=>K1 _ _ ?_};clear K1 M1;have OL:=HE nm O;have st:=yM nm O;have en:=D9 nm O;have dw:=G4 (N:=N) O;have pm:=Ex (N:=N) (deP ((hs.length:Nat)+1) ds) (aU (msN hs ds) mb);have ok:∀b,∀l∈cq N b (deP ((hs.length:Nat)+1) ds) (aU (msN hs ds) mb),l.vs.all okV=true:=λb l hl=>by
  have h1:=st _ (en b l hl).1;have h2:=st _ (en b l hl).2;have h3:=Jz l hl;show(Ow l.fr&&(Ow l.to&&(Ow l.kd&&(true&&true))))=true;rw[h1,h2,h3];rfl
 have ll:=OL.ll;generalize stL (knA bJ UG (deP ((hs.length:Nat)+1) ds)) (bI N (deP ((hs.length:Nat)+1) ds) (aU (msN hs ds) mb))=SL at dw pm;have eL7:=s7 _ _ eL;have fr7:=aS.same s7 fr;have kn7:=gk.mono kn s7;clear st en fr kn lf lx' t3 s1 s2 s3 s4 s5 s6 enl hnl eL;generalize hdP 1 hs=hs' at pg OL;generalize deP ((hs.length:Nat)+1) ds=ds' at pg OL pm ok ll;generalize aU (msN hs ds) mb=ms' at pg OL pm ok ll;have okS:∀l∈SL,l.vs.all okV=true:=λl hl=>ok true l (pm.mem_iff.mpr (LD _ hl));have llen:=pm.length_eq;rw[Ll]at llen;have lt9:=ll true;have tell:∀(b:Bool){Hd:Hp},aj H7 Hd->∀{Q2:VK}{E2:XK}(c:List V),c=[v,.bl b]->(∀(R:N6)(ys:List V)(H':Hp),aj Hd H'->Hd R=UG->H' R=UE (.lst ys)->Lks H' (cq N b ds' ms') ys->Q2 (.ref R) H')->rT A 6 c Hd Q2 E2:=λb Hd sd Q2 E2 c ec k=>⟨N,H7,v,b,hs',ds',ms',ec,sd,pg,OL,k⟩;clear OL pg;try dsimp only
 refine ag λM1 K1=>tell false (aj.refl _) _ rfl λR1 y1 H8 s8 hR1 e1 k1=>K1 _ _ ?_;clear K1 M1;try dsimp only
 refine ag λM1 K1=>tell true s8 _ rfl λR2 y2 H9 s9 hR2 e2 k2=>K1 _ _ ?_;clear K1 M1;have t9:=s8.trans s9;try dsimp only
 refine ag λM1 K1=>{N,L,xs,_,D,_,_,SL,rfl,t9 _ _ eL7,aS.same t9 fr7,gk.mono kn7 t9,lx,dw,λR3 y3 H10 s10 hR3 e3 k3=>K1 _ _ ?_};clear K1 M1 fr7 kn7 dw eL7;have R23:R2≠R3:=λz=>by rw[<-z,e2]at hR3;cases hR3
 have e1x:=s10 _ _ (s9 _ _ e1);have e2x:=s10 _ _ e2;have k1x:Lks H10 (cq N false ds' ms') y1:=k1.same λx w e=>s10 _ _ (s9 _ _ e);have k2x:Lks H10 (cq N true ds' ms') y2:=k2.same λx w e=>s10 _ _ e;have n1:=Oe k1x;have n2:=Oe k2x;have n3:=Oe k3;try dsimp only
 refine ag λM1 K1=>{_,_,_,true,rfl,(λz=>by cases z),.lst e1x,DY,true,rfl,bg {_,_,_,true,rfl,(λz=>by cases z),.lst e2x,DY,true,rfl,bg (lnl e2x (lnl e1x (lnl e3 {rfl,_,rfl,aR (λz=>absurd z ?_) (λ_=>K1 _ _ ?_)})))}}
 ·rw[show(V.int ((y2.length:Nat):Int):V)=V.int (((y1.length:Nat):Int)+((y3.length:Nat):Int)) by rw[<-n2,llen,n1,n3];push_cast;rfl];simp
 have l13:y1.length+y3.length<=900:=()
 clear K1 M1 n2 n3 llen;try dsimp only
 refine ag λM1 K1=>{R1,R3,y1,y3,rfl,rfl,e1x,e3,sz (),λC hC=>?_};obtain⟨s11,eC⟩:=alc hC (HO.lst (y1++y3));generalize upd H10 C _=H11 at s11 eC⊢;have e2y:=s11 _ _ e2x;have k2y:Lks H11 (cq N true ds' ms') y2:=k2x.same λx w e=>s11 _ _ e;have k3y:Lks H11 SL y3:=k3.same λx w e=>s11 _ _ e;have kk:Lks H11 (cq N false ds' ms'++SL) (y1++y3):=Paired.two (k1x.same λx w e=>s11 _ _ e) k3y;obtain⟨ts2,ey2,pd2⟩:=oh k2y;refine LL {{_,SqL.of eC},dH (K:=K) (xs:=y1++y3) (λi σ Hd=>∃(v8:Option V),σ=[UE (.ref sc),UE (.ref nl),UE (.ref L),UE (.ref D),UE v,UE (.ref R1),UE (.ref R2),UE (.ref R3),v8,UG]/\Hd=H11) ⟨UG,rfl,rfl⟩ (λi σ Hd _ ⟨_,_,z⟩=>z▸SqL.of eC) ?_ ?_}
 ·clear K1;rintro i y σ Hd hy ⟨v8,rfl,rfl⟩;obtain⟨l,hl,tp,rfl,ht⟩:=dQ kk hy;have ml:l∈cq N true ds' ms':=pm.mem_iff.mpr (LW hl);refine{tp,R2,l.vs,ts2,vsF Hd,rfl,rfl,SqT.of ht,ok true l ml,by rw[<-ey2];exact SqL.of e2y,λb hb=>?_,_,rfl,aR (λz=>absurd z ?_) (λ_=>{_,rfl,rfl})}
  ·obtain⟨x,mx,hx⟩:=vA pd2 hb;rw[(qC hx).1];exact⟨SqT.of hx,ok true x mx⟩
  obtain⟨t',mt,ht'⟩:=FR pd2 ml;have:(ts2.any λb=>decide (vsF Hd b=l.vs))=true:=NV.mpr {t',mt,decide_eq_true (qC ht').1};rw[this];decide
 rintro σ Hd ⟨v8,rfl,rfl⟩;refine K1 _ _ ?_;clear K1 M1;try dsimp only
 refine ag λM1 K1=>LL {{_,SqL.of e2y},dH (K:=K) (xs:=y2) (λi σ Hc=>∃(v8:Option V),σ=[UE (.ref sc),UE (.ref nl),UE (.ref L),UE (.ref D),UE v,UE (.ref R1),UE (.ref R2),UE (.ref R3),v8,UG]/\Hc=Hd) ⟨v8,rfl,rfl⟩ (λi σ Hc _ ⟨_,_,z⟩=>z▸SqL.of e2y) ?_ ?_}
 ·clear K1;rintro i y σ Hc hy ⟨v8,rfl,rfl⟩;obtain⟨l,hl,tp,rfl,ht⟩:=dQ k2y hy;exact tix (j:=3) (SqT.of ht) rfl {_,_,_,true,rfl,(λz=>by cases z),.int l.no,Gu,true,rfl,bg (tix (j:=3) (SqT.of ht) rfl {_,_,_,false,rfl,(λz=>by cases z),.int l.no,Ip,false,rfl,bg {_,rfl,rfl}})}
 rintro σ Hc ⟨v9,rfl,rfl⟩;refine K1 _ _ ?_;clear K1 M1 kk k2y k2x ey2 pd2;try dsimp only
 refine ag λM1 K1=>?_;have e1y:=s11 _ _ e1x;have e3y:=s11 _ _ e3;have s8c:=s9.trans (s10.trans s11);refine LL {R1,y1,rfl,LL (SqL.of e1y),λR4 hR4=>?_};obtain⟨s12,e4⟩:=alc hR4 (HO.lst y1);have R24:R2≠R4:=λz=>by rw[<-z,e2y]at hR4;cases hR4
 generalize upd Hc R4 _=H12 at s12 e4⊢;have e2z:=s12 _ _ e2y;refine K1 _ _ ?_;clear K1 M1;try dsimp only
 refine ag λM1 K1=>{LL {rfl,_,SqL.of e2z},R2,y2,rfl,rfl,e2z,?_};have s13:aj H8 (upd H12 R2 (.lst [])):=JX (s8c.trans s12) hR2 _;have e4z:upd H12 R2 (HO.lst []) R4=UE (.lst y1):=az (LU R24) e4;have e3z:upd H12 R2 (HO.lst []) R3=UE (.lst y3):=az (LU R23) (s12 _ _ e3y);have k3z:Lks (upd H12 R2 (.lst [])) SL y3:=DD e2z (k3y.same λx w e=>s12 _ _ e);generalize upd H12 R2 (HO.lst [])=H13 at s13 e4z e3z k3z⊢;have k1z:Lks H13 (cq N false ds' ms') y1:=k1.same λx w e=>s13 _ _ e;have e1z:=s13 _ _ e1;have s7z:=s8.trans s13;clear e2z e3y e1y s8c k3y e2y s11 s12 e4 hR4 k1x k3 e1x e2x e3;refine K1 _ _ ?_;clear K1 M1;try dsimp only
 refine ag λM1 K1=>?_;obtain⟨d,e,g1,g2,g3,g4,g5⟩:=yW (K:=K) (SqL.of e1z) (SqL.of e4z) k1z k1z (ok false);refine{d,e,g1,g2,g3,g4,?_};rw[g5];refine{_,rfl,bg ?_};clear g1 g2 g3 g4 g5 d e;refine tell false s7z _ rfl λR5 y5 H14 s14 hR5 e5 k5=>?_;obtain⟨t5,rfl,pd5⟩:=oh k5;refine{R5,t5,lkF H14,rfl,SqL.of e5,Eg pd5,λR6 t6 q6 ri6 hR6=>?_};obtain⟨l6,s15,e6,k6,p6,r6⟩:=Fx pd5 q6 ri6 hR6;generalize upd H14 R6 _=H15 at s15 e6 k6⊢;obtain⟨t1,ey1,pd1⟩:=oh (k1z.same λx w e=>(s14.trans s15) _ _ e);refine{R4,t1,lkF H15,rfl,by rw[<-ey1];exact SqL.of ((s14.trans s15) _ _ e4z),Eg pd1,λR7 t7 q7 ri7 hR7=>?_};obtain⟨l7,s16,e7,k7,p7,r7⟩:=Fx pd1 q7 ri7 hR7;generalize upd H15 R7 _=H16 at s16 e7 k7⊢;have el:l6=l7:=xC p6 p7 (.refl _) r6 r7;subst el;obtain⟨d,e,g1,g2,g3,g4,g5⟩:=yW (K:=K) (SqL.of (s16 _ _ e6)) (SqL.of e7) (k6.same λx w e=>s16 _ _ e) k7 λl m=>ok false l (p6.mem_iff.mp m);refine{d,e,g1,g2,g3,g4,?_};rw[g5];refine{_,rfl,bg (K1 _ _ ?_)};clear K1 M1 g1 g2 g3 g4 g5 d e;have tz:=s14.trans (s15.trans s16);try dsimp only
 refine tell true (s7z.trans tz) _ rfl λR8 y8 H17 s17 hR8 e8 k8=>?_;obtain⟨t8,rfl,pd8⟩:=oh k8;refine{R8,t8,lkF H17,rfl,SqL.of e8,Eg pd8,λR9 t9' q9 ri9 hR9=>?_};obtain⟨l9,s18,e9,k9,p9,r9⟩:=Fx pd8 q9 ri9 hR9;generalize upd H17 R9 _=H18 at s18 e9 k9⊢;have tw:=tz.trans (s17.trans s18);refine{R4,R3,y1,y3,rfl,rfl,tw _ _ e4z,tw _ _ e3z,sz (),λC2 hC2=>?_};have s19:=aj.upd hC2 (HO.lst (y1++y3));have kq:Lks (upd H18 C2 (.lst (y1++y3))) (cq N false ds' ms'++SL) (y1++y3):=Paired.two (k1z.same λx w e=>(tw.trans s19) _ _ e) (k3z.same λx w e=>(tw.trans s19) _ _ e);obtain⟨tq,eyq,pdq⟩:=oh kq;have eC2:upd H18 C2 (HO.lst (y1++y3)) C2=UE (.lst (y1++y3)):=ao;generalize upd H18 C2 _=H19 at s19 kq pdq eC2⊢;refine{C2,tq,lkF H19,rfl,by rw[<-eyq];exact SqL.of eC2,Eg pdq,λRa ta qa ria hRa=>?_};obtain⟨la,s20,ea,ka,pa,ra⟩:=Fx pdq qa ria hRa;generalize upd H19 Ra _=H20 at s20 ea ka⊢;have el:l9=la:=xC p9 pa pm r9 ra;subst el;obtain⟨d,e,g1,g2,g3,g4,g5⟩:=yW (K:=K) (SqL.of ((s19.trans s20) _ _ e9)) (SqL.of ea) (k9.same λx w e=>(s19.trans s20) _ _ e) ka λl m=>ok true l (p9.mem_iff.mp m);refine LL (LL {d,e,g1,g2,g3,g4,?_});rw[g5];exact q _
end
inductive FnI(K:Oc)(f:N6)(x y:Str)(s:OH):Prop
 |mk(oc:E9)(od:Option N6)(kV dc pm:E9)(an:Option N6)(cd ct:E9)(sl:Array (Option E9))(l:K.lookup f=UE {oc,od,.func (Pj x y (bG s) (bh s) (aq s) .none kV dc pm an cd ct),sl})(c:QK K cd y=true)(k:Pf K (.ref f)=true):FnI K f x y s
abbrev cv(K:Oc)(x:Str)(s:OH):Prop:=∃f,Ul K Oz x=UE (UE (.ref f))/\FnI K f x x s
abbrev iJ(K:Oc)(C:N6)(m q:Str)(s:OH):Prop:=∃f,Pa K (.ref C) m=UE (UE (.ref f))/\UB K (.ref f)=true/\FnI K f m q s
abbrev mj(K:Oc)(C:N6)(x:Str)(up:List N6):Prop:=Ul K Oz x=UE (UE (.ref C))/\(∃cd,W.clsIn K C=UE cd/\cd.mro=up.map Oo++[Pm "object"])/\Rx K C Ot=true/\RN K C=true/\TL K C=true/\Pa K (.ref C) "__setattr__"=UE (UE (.builtin "object.__setattr__"))/\W.typeIn K (.ref C)=UE (.type "type")/\Pa K (.ref C) "__class__"=UE (UE (.builtin "object.__class__"))/\Tt K C=true/\Pf K (.ref C)=true
abbrev NsI(K:Oc)(x:Str):Prop:=Ul K Oz x=UE UG
abbrev NoI(K:Oc)(C:N6)(x:Str):Prop:=Pa K (.ref C) x=UE UG
section
variable{K:Oc}{mg:Str->Option E9}{h:OC}{x m q:Str}{s:OH}{ps:List Str}{C:N6}{up:List N6}
theorem cB(X:K.In h)(G:h.Ns Oz mg)(t:cv K x s)(b:∀(kV doc pm:E9)(an:Option N6)(cdv ct:E9)(us:List E9),us.length=ps.length->bindArgs (Pj x x (bG s) (bh s) (aq s) .none kV doc pm an cdv ct) {us,[]}=pure (ps.zip us)):a9 K mg x s ps:=by
 obtain⟨f,a,_,_,_,_,_,_,_,_,_,l,c,k⟩:=t;exact By X G a l c k b
theorem jg(t:iJ K C m q s)(b:∀(kV doc pm:E9)(an:Option N6)(cdv ct:E9)(us:List E9),us.length=ps.length->bindArgs (Pj m q (bG s) (bh s) (aq s) .none kV doc pm an cdv ct) {us,[]}=pure (ps.zip us)):MFn K C m q s ps:=by
 obtain⟨f,a,i,_,_,_,_,_,_,_,_,_,l,c,k⟩:=t;exact GC a i l c k b
theorem nj(X:K.In h)(G:h.Ns Oz mg)(cg:Qr K (.builtin "object.__class__") "__get__"=UE (UE (.builtin "getset_descriptor.__get__")))(ct:Tu K (.builtin "object.__class__")=UE true)(t:mj K C x up):eI K mg C x up:=by
 obtain⟨a,b,c,d,e,f,g,i,j,k⟩:=t;exact{Tb X G a,⟨c,d,e,f⟩,b,g,i,cg,ct,j,k}
end
theorem ar0{p:List E9->Prop}(h:p []):∀us:List E9,us.length=0->p us:=λus e=>by
 cases us with
 |nil=>exact h
 |cons b t=>cases e
theorem arS{p:List E9->Prop}{n:Nat}(h:∀a,∀us:List E9,us.length=n->p (a::us)):∀us:List E9,us.length=n+1->p us:=λus e=>by
 cases us with
 |nil=>cases e
 |cons b t=>exact h b t (Nat.succ.inj e)
abbrev F3(K:Oc)(x:Str)(s:OH)(d:V):Prop:=∃(f T:N6)(v oc:E9)(od:Option N6)(kV dc pm:E9)(an:Option N6)(cd ct:E9)(sl tl:Array (Option E9))(n:Nat),Ul K Oz x=UE (UE (.ref f))/\K.lookup f=UE {oc,od,.func (Pj x x (bG s) (bh s) (aq s) (.ref T) kV dc pm an cd ct),sl}/\QK K cd x=true/\Pf K (.ref f)=true/\K.lookup T=UE {.type "tuple",UG,.seq #[v] n,tl}/\UJ d v
noncomputable abbrev FnE(x:Str)(s:OH)(T:N6)(kV dc pm:E9)(an:Option N6)(cd ct:E9):Pp:=Pj x x (bG s) (bh s) (aq s) (.ref T) kV dc pm an cd ct
theorem IQ{K:Oc}{mg:Str->Option E9}{h:OC}{x:Str}{ps:List Str}{s:OH}{d:V}(X:K.In h)(G:h.Ns Oz mg)(t:F3 K x s d)
  (b1:∀(T:N6)(v kV dc pm:E9)(an:Option N6)(cd ct:E9)(us:List E9),us.length=ps.length->∃k,bindArgs (FnE x s T kV dc pm an cd ct) {us,[]}=UA (.ref T)>>=k/\k (UE #[v])=pure (ps.zip us))
  (b2:∀(T:N6)(v kV dc pm:E9)(an:Option N6)(cd ct:E9)(us:List E9),us.length=ps.length-1->∃k,bindArgs (FnE x s T kV dc pm an cd ct) {us,[]}=UA (.ref T)>>=k/\k (UE #[v])=pure (ps.zip (us++[v])))
  (b3:∀(T:N6)(v kV dc pm:E9)(an:Option N6)(cd ct u:E9)(us:List E9),us.length=ps.length-1->∃k,bindArgs (FnE x s T kV dc pm an cd ct) {us,[(ps.getLastD Ot,u)]}=UA (.ref T)>>=k/\k (UE #[v])=pure (ps.zip (us++[u]))):ox K mg x s ps [d]:=by
 obtain⟨f,T,v,oc,od,kV,dc,pm,an,cd,ct,sl,tl,n,q,l,c,k,lt,r⟩:=t
 refine{f,oc,od,.ref T,kV,dc,pm,an,cd,ct,sl,[v],l,c,k,Tb X G q,.cons r .nil,λs' us hi hl=>?_,λs' us hi hl=>?_,{λs' us ws hi hl=>?_,λa b=>a.append (b.take 1)}}
 ·rw[LQ]at hl⊢;obtain⟨g,e1,e2⟩:=b1 T v kV dc pm an cd ct us hl;exact Qg rfl (hi T _ lt) rfl e1 e2
 ·rw[Ll,Lo]at hl;obtain⟨g,e1,e2⟩:=b2 T v kV dc pm an cd ct us ();exact Qg rfl (hi T _ lt) rfl e1 e2
 cases ws with
 |nil=>
  have hl:(us++[]).length=ps.length:=hl
  rw[LQ]at hl
  show Ry _ _ {us,[]} (ps.zip (us++[]))
  rw[LQ]
  obtain⟨g,e1,e2⟩:=b1 T v kV dc pm an cd ct us hl
  exact Qg rfl (hi T _ lt) rfl e1 e2
 |cons u r=>
  have hl:(us++[u]).length=ps.length:=hl
  rw[Ll,Lo]at hl
  obtain⟨g,e1,e2⟩:=b3 T v kV dc pm an cd ct u us ()
  exact Qg rfl (hi T _ lt) rfl e1 e2
theorem ar1{p:List E9->Prop}(h:∀a0,p [a0]):∀us:List E9,us.length=1->p us:=arS λa0=>ar0 (h a0)
theorem ar2{p:List E9->Prop}(h:∀a0 a1,p [a0,a1]):∀us:List E9,us.length=2->p us:=arS λa0=>arS λa1=>ar0 (h a0 a1)
theorem ar3{p:List E9->Prop}(h:∀a0 a1 a2,p [a0,a1,a2]):∀us:List E9,us.length=3->p us:=arS λa0=>arS λa1=>arS λa2=>ar0 (h a0 a1 a2)
theorem ar4{p:List E9->Prop}(h:∀a0 a1 a2 a3,p [a0,a1,a2,a3]):∀us:List E9,us.length=4->p us:=arS λa0=>arS λa1=>arS λa2=>arS λa3=>ar0 (h a0 a1 a2 a3)
theorem ar5{p:List E9->Prop}(h:∀a0 a1 a2 a3 a4,p [a0,a1,a2,a3,a4]):∀us:List E9,us.length=5->p us:=arS λa0=>arS λa1=>arS λa2=>arS λa3=>arS λa4=>ar0 (h a0 a1 a2 a3 a4)
theorem ar7{p:List E9->Prop}(h:∀a0 a1 a2 a3 a4 a5 a6,p [a0,a1,a2,a3,a4,a5,a6]):∀us:List E9,us.length=7->p us:=arS λa0=>arS λa1=>arS λa2=>arS λa3=>arS λa4=>arS λa5=>arS λa6=>ar0 (h a0 a1 a2 a3 a4 a5 a6)
theorem all_mk{l:To}{w:Of}{K:Oc}{h:OC}{mg:Str->Option E9}{fa:N6}(A:Adr)(X:K.In h)(G:h.Ns Oz mg)(hfa:mg "law"=UE (.ref fa))
 (t1:cv K "names_in" mS) (t2:cv K "each_once" kf) (t3:cv K "exact_of" mO) (t4:cv K "exact_of_row" gO)
 (t5:cv K "one_more" mW) (t6:cv K "exact_of_if" iF) (t7:cv K "exact_of_loop" fO) (t8:cv K "balanced" mP)
 (t9:cv K "exacts" sM) (t10:cv K "row_place" kg) (t11:cv K "laid_rows" ko) (t12:cv K "laid_inside" iE)
 (t13:cv K "laid_program" ik) (t14:cv K "drawn" vD) (t15:cv K "row_links" lL) (t16:cv K "said_links" jD)
 (t17:cv K "called_links" hV) (t18:cv K "step_links" jK) (t19:F3 K "links" uU (.bl false)) (t20:cv K "_law_cell_at" iO)
 (t21:cv K "_law_more" mT) (t22:cv K "_law_mix" o8) (t23:cv K "_law_names" kG) (t24:cv K "_law_pick" mY)
 (t25:cv K "_law_heads" kr) (t26:cv K "_law_scope" lK) (t27:cv K "_law_thing" kD) (t28:cv K "_law_value" lg)
 (t29:cv K "_law_plain" kS) (t30:cv K "_law_opened" jL) (t31:cv K "_law_closed" jC) (t32:cv K "_law_row" oq)
 (t33:cv K "_law_body" nq) (t34:cv K "_law_flat" nu) (t35:cv K "_law_row_made" gX) (t36:cv K "_law_rows_made" fK)
 (t37:cv K "_law_program" jd) (t38:cv K "_law_exact" kJ) (t39:cv K "_law_even_row" hU) (t40:cv K "_law_evened_by" fP)
 (t41:cv K "_law_due" oe) (t42:cv K "law" rV) (vc:NsI K "bool") (vR:NsI K "dict")
 (zD:NsI K "int") (aE:NsI K "isinstance") (f9:NsI K "len") (cW:NsI K "list")
 (Ab:NsI K "max") (df:NsI K "range") (ic:NsI K "sorted") (uv:NsI K "str")
 (zq:NsI K "zip") (g_CLOCK:∃k:Tok,Ul K Oz "CLOCK"=UE (UE (.str "the clock" k))) (cg:Qr K (.builtin "object.__class__") "__get__"=UE (UE (.builtin "getset_descriptor.__get__"))) (ct:Tu K (.builtin "object.__class__")=UE true)
 (x_Row:mj K A.Row "Row" [A.Row]) (x_HandRow:mj K A.b4 "HandRow" [A.b4,A.Row]) (x_GivenRow:mj K A.bz "GivenRow" [A.bz,A.Row]) (x_OwnRow:mj K A.da "OwnRow" [A.da,A.Row])
 (x_LetRow:mj K A.cY "LetRow" [A.cY,A.Row]) (x_SetRow:mj K A.cD "SetRow" [A.cD,A.Row]) (x_PutRow:mj K A.b7 "PutRow" [A.b7,A.Row]) (x_SendRow:mj K A.bO "SendRow" [A.bO,A.Row])
 (x_SayRow:mj K A.cC "SayRow" [A.cC,A.Row]) (x_CallRow:mj K A.bY "CallRow" [A.bY,A.Row]) (x_LastRow:mj K A.dg "LastRow" [A.dg,A.Row]) (x_IfRow:mj K A.cz "IfRow" [A.cz,A.Row])
 (x_LoopRow:mj K A.bj "LoopRow" [A.bj,A.Row]) (x_DeedRow:mj K A.bL "DeedRow" [A.bL,A.Row]) (x_Program:mj K A.Program "Program" [A.Program]) (m1:iJ K A.Row "__init__" "Row.__init__" ft)
 (m2:iJ K A.b4 "__init__" "HandRow.__init__" gv) (m3:iJ K A.bz "__init__" "GivenRow.__init__" fZ) (m4:iJ K A.da "__init__" "OwnRow.__init__" iT) (m5:iJ K A.cY "__init__" "LetRow.__init__" iV)
 (m6:iJ K A.cD "__init__" "SetRow.__init__" iM) (m7:iJ K A.cD "reads" "SetRow.reads" gZ) (m8:iJ K A.b7 "__init__" "PutRow.__init__" iI) (m9:iJ K A.b7 "reads" "PutRow.reads" gT)
 (m10:iJ K A.bO "__init__" "SendRow.__init__" gQ) (m11:iJ K A.bO "reads" "SendRow.reads" fT) (m12:iJ K A.cC "__init__" "SayRow.__init__" iL) (m13:iJ K A.bY "__init__" "CallRow.__init__" ig)
 (m14:iJ K A.dg "__init__" "Row.__init__" ft) (m15:iJ K A.cz "__init__" "IfRow.__init__" jE) (m16:iJ K A.cz "reads" "IfRow.reads" i9) (m17:iJ K A.bj "__init__" "LoopRow.__init__" gu)
 (m18:iJ K A.bj "reads" "LoopRow.reads" fM) (m19:iJ K A.bL "__init__" "DeedRow.__init__" gM) (m20:iJ K A.Program "__init__" "Program.__init__" hE) (n1:NoI K A.b4 "name")
 (n2:NoI K A.b4 "rank") (n3:NoI K A.b4 "number") (n4:NoI K A.bz "name") (n5:NoI K A.bz "rank")
 (n6:NoI K A.bz "size") (n7:NoI K A.bz "number") (n8:NoI K A.da "name") (n9:NoI K A.da "size")
 (n10:NoI K A.da "number") (n11:NoI K A.cY "name") (n12:NoI K A.cY "rank") (n13:NoI K A.cY "number")
 (n14:NoI K A.cD "name") (n15:NoI K A.cD "value") (n16:NoI K A.cD "number") (n17:NoI K A.b7 "name")
 (n18:NoI K A.b7 "place") (n19:NoI K A.b7 "value") (n20:NoI K A.b7 "number") (n21:NoI K A.bO "name")
 (n22:NoI K A.bO "value") (n23:NoI K A.bO "number") (n24:NoI K A.cC "name") (n25:NoI K A.cC "value")
 (n26:NoI K A.cC "mark") (n27:NoI K A.cC "number") (n28:NoI K A.bY "name") (n29:NoI K A.bY "things")
 (n30:NoI K A.bY "number") (n31:NoI K A.dg "number") (n32:NoI K A.cz "value") (n33:NoI K A.cz "first")
 (n34:NoI K A.cz "other") (n35:NoI K A.cz "left") (n36:NoI K A.cz "right") (n37:NoI K A.cz "number")
 (n38:NoI K A.bj "thing") (n39:NoI K A.bj "most") (n40:NoI K A.bj "body") (n41:NoI K A.bj "left")
 (n42:NoI K A.bj "right") (n43:NoI K A.bj "number") (n44:NoI K A.bL "name") (n45:NoI K A.bL "parts")
 (n46:NoI K A.bL "body") (n47:NoI K A.bL "number") (n48:NoI K A.Program "heads") (n49:NoI K A.Program "deeds")
 (n50:NoI K A.Program "main") (y_Row_init:Qr K (.ref A.Row) "__getattribute__"=UE (UE (.builtin "type.__getattribute__"))/\W.readsIn K A.Row (.type "type")=true/\∃f,Pa K (.ref A.Row) "__init__"=UE (UE (.ref f))/\W.findCls K (.ref A.Row) (.type "type") "__init__"=UE (.val (.ref f))) (nod:[A.Row,A.b4,A.bz,A.da,A.cY,A.cD,A.b7,A.bO,A.cC,A.bY,A.dg,A.cz,A.bj,A.bL,A.Program].Nodup)
:∃fd:Pp,(∀(s:N7)(v:E9),Ry s fd {[v],[]} [("_law_script",v)])/\∀base:OC,K.In base->base.Ns Oz mg->jq l.prog w K mg base CX0 30 fa fd ["_law_script"] (wt K):=by
 have T:Txt K mg A:={
  rP:=cB X G t1 λ_ _ _ _ _ _=>ar1 λ_=>rfl,pj:=cB X G t2 λ_ _ _ _ _ _=>ar1 λ_=>rfl,dG:=cB X G t3 λ_ _ _ _ _ _=>ar2 λ_ _=>rfl,
  er:=cB X G t4 λ_ _ _ _ _ _=>ar2 λ_ _=>rfl,rh:=cB X G t5 λ_ _ _ _ _ _=>ar1 λ_=>rfl,iu:=cB X G t6 λ_ _ _ _ _ _=>ar2 λ_ _=>rfl,
  fC:=cB X G t7 λ_ _ _ _ _ _=>ar2 λ_ _=>rfl,balanced:=cB X G t8 λ_ _ _ _ _ _=>ar2 λ_ _=>rfl,yj:=cB X G t9 λ_ _ _ _ _ _=>ar1 λ_=>rfl,
  ow:=cB X G t10 λ_ _ _ _ _ _=>ar1 λ_=>rfl,gm:=cB X G t11 λ_ _ _ _ _ _=>ar3 λ_ _ _=>rfl,iy:=cB X G t12 λ_ _ _ _ _ _=>ar2 λ_ _=>rfl,
  jx:=cB X G t13 λ_ _ _ _ _ _=>ar1 λ_=>rfl,drawn:=cB X G t14 λ_ _ _ _ _ _=>ar4 λ_ _ _ _=>rfl,nZ:=cB X G t15 λ_ _ _ _ _ _=>ar4 λ_ _ _ _=>rfl,
  mU:=cB X G t16 λ_ _ _ _ _ _=>ar2 λ_ _=>rfl,jN:=cB X G t17 λ_ _ _ _ _ _=>ar3 λ_ _ _=>rfl,ni:=cB X G t18 λ_ _ _ _ _ _=>ar2 λ_ _=>rfl,
  links:=IQ X G t19 (λ_ _ _ _ _ _ _ _=>ar2 λ_ _=>{_,rfl,rfl}) (λ_ _ _ _ _ _ _ _=>ar1 λ_=>{_,rfl,rfl}) (λ_ _ _ _ _ _ _ _ _=>ar1 λ_=>{_,rfl,rfl}),lj:=cB X G t20 λ_ _ _ _ _ _=>ar2 λ_ _=>rfl,su:=cB X G t21 λ_ _ _ _ _ _=>ar3 λ_ _ _=>rfl,
  vZ:=cB X G t22 λ_ _ _ _ _ _=>ar2 λ_ _=>rfl,og:=cB X G t23 λ_ _ _ _ _ _=>ar3 λ_ _ _=>rfl,qS:=cB X G t24 λ_ _ _ _ _ _=>ar2 λ_ _=>rfl,
  oF:=cB X G t25 λ_ _ _ _ _ _=>ar2 λ_ _=>rfl,o7:=cB X G t26 λ_ _ _ _ _ _=>ar2 λ_ _=>rfl,ou:=cB X G t27 λ_ _ _ _ _ _=>ar2 λ_ _=>rfl,
  oT:=cB X G t28 λ_ _ _ _ _ _=>ar2 λ_ _=>rfl,oO:=cB X G t29 λ_ _ _ _ _ _=>ar3 λ_ _ _=>rfl,mZ:=cB X G t30 λ_ _ _ _ _ _=>ar4 λ_ _ _ _=>rfl,
  mQ:=cB X G t31 λ_ _ _ _ _ _=>ar1 λ_=>rfl,wq:=cB X G t32 λ_ _ _ _ _ _=>ar3 λ_ _ _=>rfl,sG:=cB X G t33 λ_ _ _ _ _ _=>ar4 λ_ _ _ _=>rfl,
  qK:=cB X G t34 λ_ _ _ _ _ _=>ar2 λ_ _=>rfl,jI:=cB X G t35 λ_ _ _ _ _ _=>ar2 λ_ _=>rfl,cV:=cB X G t36 λ_ _ _ _ _ _=>ar2 λ_ _=>rfl,
  j9:=cB X G t37 λ_ _ _ _ _ _=>ar1 λ_=>rfl,gp:=cB X G t38 λ_ _ _ _ _ _=>ar3 λ_ _ _=>rfl,jw:=cB X G t39 λ_ _ _ _ _ _=>ar3 λ_ _ _=>rfl,
  iH:=cB X G t40 λ_ _ _ _ _ _=>ar2 λ_ _=>rfl,vS:=cB X G t41 λ_ _ _ _ _ _=>ar2 λ_ _=>rfl,vc:=Pc X G vc,
  vR:=Pc X G vR,zD:=Pc X G zD,aE:=Pc X G aE,
  f9:=Pc X G f9,cW:=Pc X G cW,Ab:=Pc X G Ab,
  df:=Pc X G df,ic:=Pc X G ic,uv:=Pc X G uv,
  zq:=Pc X G zq,wa:=g_CLOCK.imp λ_ e=>Tb X G e,jf:=nj X G cg ct x_Row,
  rS:=jg m1 λ_ _ _ _ _ _=>ar2 λ_ _=>rfl,jh:=nj X G cg ct x_HandRow,gR:=jg m2 λ_ _ _ _ _ _=>ar4 λ_ _ _ _=>rfl,
  ku:=n1,kT:=n2,fb:=n3,
  ie:=nj X G cg ct x_GivenRow,fI:=jg m3 λ_ _ _ _ _ _=>ar5 λ_ _ _ _ _=>rfl,jR:=n4,
  jX:=n5,jS:=n6,dY:=n7,
  lB:=nj X G cg ct x_OwnRow,iS:=jg m4 λ_ _ _ _ _ _=>ar4 λ_ _ _ _=>rfl,mM:=n8,
  mI:=n9,fU:=n10,kR:=nj X G cg ct x_LetRow,
  ja:=jg m5 λ_ _ _ _ _ _=>ar4 λ_ _ _ _=>rfl,mv:=n11,mN:=n12,
  fL:=n13,eE:=nj X G cg ct x_SetRow,iQ:=jg m6 λ_ _ _ _ _ _=>ar4 λ_ _ _ _=>rfl,
  gF:=jg m7 λ_ _ _ _ _ _=>ar1 λ_=>rfl,jc:=n14,ij:=n15,
  fQ:=n16,dJ:=nj X G cg ct x_PutRow,iN:=jg m8 λ_ _ _ _ _ _=>ar5 λ_ _ _ _ _=>rfl,
  gY:=jg m9 λ_ _ _ _ _ _=>ar1 λ_=>rfl,iG:=n17,ib:=n18,
  gC:=n19,fW:=n20,dz:=nj X G cg ct x_SendRow,
  gS:=jg m10 λ_ _ _ _ _ _=>ar4 λ_ _ _ _=>rfl,fR:=jg m11 λ_ _ _ _ _ _=>ar1 λ_=>rfl,kK:=n21,
  fJ:=n22,eU:=n23,cm:=nj X G cg ct x_SayRow,
  iY:=jg m12 λ_ _ _ _ _ _=>ar5 λ_ _ _ _ _=>rfl,fD:=n24,kH:=n25,
  i8:=n26,bQ:=n27,b8:=nj X G cg ct x_CallRow,
  gL:=jg m13 λ_ _ _ _ _ _=>ar4 λ_ _ _ _=>rfl,du:=n28,fe:=n29,
  cE:=n30,gn:=nj X G cg ct x_LastRow,lC:=jg m14 λ_ _ _ _ _ _=>ar2 λ_ _=>rfl,
  eZ:=n31,b6:=nj X G cg ct x_IfRow,jQ:=jg m15 λ_ _ _ _ _ _=>ar7 λ_ _ _ _ _ _ _=>rfl,
  iC:=jg m16 λ_ _ _ _ _ _=>ar1 λ_=>rfl,iR:=n32,fF:=n33,
  fE:=n34,gh:=n35,iK:=n36,
  gG:=n37,bA:=nj X G cg ct x_LoopRow,gw:=jg m17 λ_ _ _ _ _ _=>ar7 λ_ _ _ _ _ _ _=>rfl,
  fN:=jg m18 λ_ _ _ _ _ _=>ar1 λ_=>rfl,fV:=n38,hX:=n39,
  eJ:=n40,ip:=n41,dO:=n42,
  eT:=n43,cF:=nj X G cg ct x_DeedRow,gJ:=jg m19 λ_ _ _ _ _ _=>ar5 λ_ _ _ _ _=>rfl,
  dq:=n44,fX:=n45,dZ:=n46,
  eO:=n47,eV:=nj X G cg ct x_Program,gH:=jg m20 λ_ _ _ _ _ _=>ar4 λ_ _ _ _=>rfl,
  jV:=n48,cN:=n49,gU:=n50,
  bB:=⟨y_Row_init.1,y_Row_init.2.1,y_Row_init.2.2⟩,nd:=nod }
 have F:a9 K mg "law" rV ["_law_script"]:=cB X G t42 λ_ _ _ _ _ _=>ar1 λ_=>rfl;obtain⟨f,a,oc,od,kV,dc,pm,an,cd,ct,sl,lk,_,_⟩:=t42;refine{Pj "law" "law" (bG rV) (bh rV) (aq rV) .none kV dc pm an cd ct,λs v=>.of_eq rfl,λbase _ _=>?_};have e:=hfa.symm.trans (Tb X G a);cases e;exact Gq (Jc (P:=l.prog) (w:=w) (base:=base) T F) (Tb X G a) lk
theorem walk{l:To}{q:Program}{loose:List Str}{XP:(Str->Option E9)->OC->Prop}{YP:Of->OC->Prop}{d:DefRec}{K:PV->Oc}(hn:l.most=UE 63)(hdf:d.params.defaults=[])(hY:∀(w:Of)(h:OC),YP w h->(K w.params).In h)
  (F:∀(w:Of)(mg:Str->Option E9)(fa:N6)(h:OC),(K w.params).In h->h.Ns Oz mg->mg d.name=UE (.ref fa)->∃fd:Pp,(∀(s:N7)(u:E9),Ry s fd {[u],[]} [("_law_script",u)])/\∀base:OC,(K w.params).In base->base.Ns Oz mg->jq l.prog w (K w.params) mg base CX0 30 fa fd ["_law_script"] (wt (K w.params))) :
  W.WalkO q loose XP YP l.row.toRowW d [] (λf vs=>Ug f vs):=
 L2.Fn (n:=63) (k:=30) (x:="_law_script") (CX:=λ_=>CX0) (sp:=λw=>wt (K w.params)) hn ∅ hdf {rfl,∅,∅} hY F (λ_ _ a ns hl _ hS=>{a,ns,rfl,hS,hl,λ_=>rfl}) λ_ _ _ _ _ z=>z
end K32
open PySem PySem.W PyProof.Rows
set_option maxRecDepth 100000 in
set_option maxHeartbeats 0 in
theorem PySem.Challenge.cw_hushrow_k32_links_by_steps_holds : PySem.Challenge.rw_hushrow_k32_links_by_steps.Holds := by
 w_on;o_law
 refine W.holds_open (q:=K32.fS) (loose:=["links"]) (Xt:=K32.test) (XP:=W.XL K32.fS []) (Yf:=(SU K32.heapK K32.pH K32.ju).obs) (Ya:=(SU K32.heapK K32.pH K32.ju).val) (YP:=(SU K32.heapK K32.pH K32.ju).says) (N:=11820) K32.left (SU K32.heapK K32.pH K32.ju).of (SU K32.heapK K32.pH K32.ju).keeps
  (λs e=>W.xl_of s (Bool.and_eq_true_iff.mp e).1) W.XL.keeps (by rfl) (by rfl) (by rfl) (λs e=>W.recFacts_of (Bool.and_eq_true_iff.mp e).2) ?h4 ?h5 ?h6 {rfl,rfl,rfl,rfl,rfl,by decide+kernel} ?hw ?hc
 (case h4=>rfl);(case h5=>first|assumption|decide+kernel);(case h6=>decide+kernel);(case hw=>w_witness2)
 k_fill
 refine K32.walk (l:=PySem.Challenge.rw_hushrow_k32_links_by_steps) rfl rfl (λw h Y=>W.kIn_of Y) ?F;case F=>
  intro w mg fa h KX G hmg;refine K32.all_mk ⟨66,94,120,146,172,212,252,285,325,356,375,408,441,467,486⟩ KX G hmg ?_ ?_ ?_ ?_ ?_ ?_ ?_ ?_ ?_ ?_ ?_ ?_ ?_ ?_ ?_ ?_ ?_ ?_ ?_ ?_ ?_ ?_ ?_ ?_ ?_ ?_ ?_ ?_ ?_ ?_ ?_ ?_ ?_ ?_ ?_ ?_ ?_ ?_ ?_ ?_ ?_ ?_ ?_ ?_ ?_ ?_ ?_ ?_ ?_ ?_ ?_ ?_ ?_ ?_ ?_ ?_ ?_ ?_ ?_ ?_ ?_ ?_ ?_ ?_ ?_ ?_ ?_ ?_ ?_ ?_ ?_ ?_ ?_ ?_ ?_ ?_ ?_ ?_ ?_ ?_ ?_ ?_ ?_ ?_ ?_ ?_ ?_ ?_ ?_ ?_ ?_ ?_ ?_ ?_ ?_ ?_ ?_ ?_ ?_ ?_ ?_ ?_ ?_ ?_ ?_ ?_ ?_ ?_ ?_ ?_ ?_ ?_ ?_ ?_ ?_ ?_ ?_ ?_ ?_ ?_ ?_ ?_ ?_ ?_ ?_ ?_ ?_ ?_ ?_ ?_ ?_ ?_ ?_ ?_ ?_ ?_ ?_ ?_ ?_ ?_ ?_ ?_ ?_;iterate 18 exact{_,by k_is,_,_,_,_,_,_,_,_,_,by k_is,by k_is,by k_is}
  iterate 1 exact{_,_,_,_,_,_,_,_,_,_,_,_,_,_,by k_is,by k_is,by k_is,by k_is,by k_is,by first|rfl|exact{_,rfl}}
  iterate 23 exact{_,by k_is,_,_,_,_,_,_,_,_,_,by k_is,by k_is,by k_is}
  iterate 11 (show _=_;k_is)
  iterate 1 exact{_,by k_is}
  iterate 2 (show _=_;k_is)
  iterate 15 exact{by k_is,{_,by k_is,rfl},by k_is,by k_is,by k_is,by k_is,by k_is,by k_is,by k_is,by k_is}
  iterate 20 exact{_,by k_is,by k_is,_,_,_,_,_,_,_,_,_,by k_is,by k_is,by k_is}
  iterate 50 (show _=_;k_is)
  iterate 1 exact{by k_is,by k_is,_,by k_is,by k_is}
  iterate 1 decide

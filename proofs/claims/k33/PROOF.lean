import PyProof.Rows.All
import Wide.All
import OpenK.AllK
import PySem.Challenge.RW_hushrow_k33_reached
local macro_rules|`({$x:term,$xs,*})=>`(⟨$x,$xs,*⟩)
open PySem renaming Value->E9,Addr->O4,Shared->O5,wpAny_bind->O6,wpAny_pure->Pc,World->Pf,starEach->Ph,model->Pj,Around->Pp,mainGlobals->Pw,compareOp->Pz,Stmt->PB,mem_of_lookup->PD,Heap->PH,importedModules->PU,wpAny_newObj_type->P2,eval->P7,treeTable->P8,cellsFrom->Qc,keywordEach->Qg,backTo->Qi,attributeBase->Qn,sysModules->Qq,OsState->Qv,wpAny_mono->Qy,binaryOp->Qz,FuncData->QA,wpAny_passesOwn->QD,bootBuiltins->QE,backToKw->QK,NameKind->QL,wpAny_getItem_str_slice->QM,Str->QN,cLine->QQ,Params->QR,wpAny_Call_Name_kw->QT,sizeLine_eq->QV,Keyword->Q4,behindInMarks->Q8,pushCells_keeps->Ra,tupleKind_room_in1->Rc,wpAny_rule->Rf,Scope->Rg,sliceBounds->Ri,wpAny_dictEntries->Rm,Spec->Rp,wpAny_call_entry->Rv,call_meets->Rw,pushCells->Rx,wpAny_field->RB,wpAny_execs_nil->RC,letOwnedTupleGo->RD,post_val_or_str->RF,codeAny_builtin->RG,holding->RK,codeAny_mono->RL,assignEach->RV,wpAny_truthy_bool->Sf,getItem->Sh,wpAny_standAt->Sj,PyData->Sk,GenState->So,wpAny_callSpecial?_slot->Su,Builtin->SF,builtinsNs->SG,wpAny_pyNext_list_item->SH,wpAny_pyNext_range_end->SI,wpAny_pyIter_rangeiter->SJ,BindsTo->SN,wpAny_typeOf->SO,wpAny_pyNext_list_end->SX,wpAny_notOrdered_dict->SY,wpAny_loadName_local->Ta,IsRangeIter->Tb,tupleKind->Tn,swapsWith->To,callerA->Tq,seqItems?->Tt,wpAny_loadName_cell->Tv,evalPart_none->TJ,plainId_quiet->TL,wpAny_Constant_int->TV,wpAny_pyIter_range->TX,IsPart->TY,typeIs_str->T2,getattributeRaised->T7,Within->Ue,standAt->Ug,wpAny_sequenceKey->Uj,seqIndex_neg->Uk,wpAny_pyIter_list->Ul,DictEntry->Ut,wpAny_execs_cons->Uw,getMethod->Ux,wpAny_pyIter_zip->UB,seqIndex_of->UL,atKey->UM,wpAny_dictEpoch->UR,wpAny_Name->UX,Result->UZ,recursionLimit->U0,wpAny_call->U1,bindL->U2,bindC->U3,typeIs_int->U5,call->U7,newFunctionEnv->U8,compPost->U9,storeName->Vh,joinParts->Vj
open PyProof.Rows renaming arrOf->O7,wpS_bind->O8,wpS_pure->Pb,Keyed->Pg,pendingOf->Pm,SortSt->Pr,wpS_modify->PX,wpS_forRange->PZ,wpS_mono->P9,mirror->Qb,slot_tuple_getitem->Ql,sortedS->Qp,SortKind->Qt,callWith_type1->Qw,failedOf->QZ,mirror_perm->Q1,envOfC->Q6,wpS_get->Rb,seqObj->Ry,KK_mirror_equal->RH,slicePart_none->RW,wpS_lift->RY,AllBare->Se,subscriptTail_builtinR->SQ,elem'->Te,gallopOf->Tf,entry_tuple_getitem->Tw,subscriptTail->TK,listUpdate_at->TM,args_tuple_getitem->TZ,setArr->Ub,pairsOf->Uq,pairsOf_size->Ur,seqEpoch_at->UN,IntsAre->UT,StrsAre->UU,Subscript_->U4,SortedToK->Vk
open PySem.Heap renaming get?_push_of_some->O9,lt_size->Pl,get?_push_size->Po,size_push->QI,get?_update_other->Rk,get?_push_ne->Rn,size_update->Rz,SameBut->RJ
open PySem.W renaming Frag->Pa,mg_none_of->Qk,findIn->Qm,fnOf->Qo,keepIn->Qs,kitOne->QJ,emptyDict->QP,topStub->QS,kia_one->QU,Frag->Q3,openSeen->Q7,specialIn->Rh,boot_drawn->Rq,instObj->Rt,cellsFrom_some->Ru,codeIn->RA,boot_toks->RS,openGood->Sq,boot_heap->Sr,plainGet->SK,hasDictIn->Tc,mg_of->Ts,plainGet_of->TH,kHook->Uc,OpenLaw->Uu,boot_o_0->Uv,makesIn->Uy,takesIn->Uz,methodObj->UI,plainOver->UK,namesBound->UW,lookIn->UY,nsIn->Vb,staticsOk->Vg,takerIn->Vi,isFn->Vl,mroIn->Vm
open PySem.Paired renaming length->Pd
open PySem.PassesOwn renaming never->Pk
open Option.some renaming inj->Pn,injEq->Um
open PySem.Str renaming empty->Pq,ofString->RN
open List renaming range->Pu,replicate->Px,Nodup->Qe,length->QF,lookup->QW,length_filterMap_le->Sl,getElem?_replicate->Ss,getElem?_cons_zero->Sw,filter_cons_of_neg->Sx,filter_cons_of_pos->Sy,pairwise_singleton->Sz,drop_of_length_le->SV,getElem?_set_ne->S9,take_succ_cons->TC,findIdx?_cons->T8,drop_length->UC,mem_reverse->UD,take_append->UE,range_succ->UP,take_left'->US,foldl->U6
open PySem.Value renaming ref->Py,type->Rr,int->Ti,str->Tj,isStrOf_shape->Tu,isStrOf->TF,none->TR,bool->TU,isInt_shape->Ud,isInt->UG,float->UH
open PyProof.Rows.KeyOrd renaming kle_trans->PC,kle_of_klt->PM,kle_refl->PQ,kle->Q0,klt_of_kle_of_klt->Q9,kle_antisymm->Tz,klt->Vc
open PySem.Builtin.Tuple renaming tupleExact->PV,tupleItemsOf->RX
open List.Perm renaming append_left->PY,append_right->Qx,flatMap_right->SE
open PySem.Builtin.Slice renaming slicePlaces->P0,sliceApplied->QB,sliceAdjust->Q5,sliceFields->R8
open PySem.PyData renaming strOk->P1,canLayAll0->Qj,depthAll->Qr,canLay0->QO,depth->Ro,str->R7,eqv->T6,int->Ve
open PySem.SeqAt renaming shaped->P4,EqAt->SR
open PySem.Builtin.Range renaming rangeSize->P5,small->RI,rangeFitsLong->RO
open PySem.NameKind renaming cell->P6,free->Qh
open False renaming elim->Qd
open PySem.Builtin.Str renaming occurrences->Qf,strKind->Tx
open PySem.BindsTo renaming of_defaults->Qu
open Option renaming none->QG,isSome_some->T5,getD_none->UA,some->Vn,none->Vo
open PySem.Builtin.List renaming listTooLong->QH
open PySem.Obj renaming mapSeq->QX
open PySem.Around renaming under_plainId->QY,under->Uh
open PySem.F renaming plainAttrs_list->Rj,plain_list_iadd->SD,slot_dict_eq->Td,slot_int_rmul->UO
open PySem.Builtin.Dict renaming samePairs->Rl,dictSlotArgs->R9,updateFrom->Sv,pairItems->SU,showsAll->S0
open ForInStep renaming yield->RE
open Prod renaming ext->RT
open PySem.Calls renaming Name_function_global->RU,callWith_builtin->SS
open Array renaming toList_setIfInBounds->RZ,reverse_reverse->S8,reverse_append->Tg,toList_modify->TB,size_extract->Ua,getElem_mem->Uo,size_append->Up,size_map->Vd
open Prod.mk renaming inj->Sd
open List.Pairwise renaming nil->Si
open Array.Perm renaming refl->SW
open PySem.Data renaming cell->Tp,fields->UJ
open PySem.SeqAt.EqAt renaming int_str->TN,str_int->TQ,int_int->T3,str_str->T4
open PySem.Heap.IsSliceOf renaming new->T1
open PyProof.Rows.SortSt renaming mk'->T9
open PySem.Code renaming isFrame->Ui
open Function renaming comp_def->Us
open PySem.Heap.DictOf renaming new->UQ
open PySem.Walks renaming strAscii->Va
open Int renaming mul_nonneg->Vf
open List renaming length_append->Mo,mem_singleton->Mp,length_map->Mq,length_singleton->Mr,mem_append->Mu,getElem?_eq_getElem->Mv,mem_cons->Mw,length_cons->Mx,mem_cons_of_mem->Mz,mem_cons_self->MA,append_assoc->MB,getElem?_eq_some_iff->MC,mem_append_right->MD,mem_map->MH,map_cons->MJ,mem_append_left->MK,mem_of_getElem?->ML,getElem?_map->MM,size_toArray->MN,take_append_drop->MO,append_nil->MP,not_mem_nil->MQ,getElem?_of_mem->MS,length_take->MT,getElem?_append_right->MU,getElem?_append_left->MW,nil_append->MX,map_append->M6,cons_append->M7,take_length->M8,getD_eq_getElem?_getD->M9,take_of_length_le->Nc,length_drop->Nd,take_add_one->Nf,length_nil->Ng,mem_filter->Nh,nodup_cons->Ni,getElem?_eq_none->Nj,mem_flatMap->Nl,getElem?_take_of_lt->Nm,perm_append_comm->Np,find?_cons->Nq,filter_append->Nr,mem_of_mem_take->Nu,length_range->Nv,mem_map_of_mem->Nw,flatMap_append->Nx,foldl_cons->Ny,flatMap_cons->NB,filterMap_cons->ND,length_filter_le->NG,of_mem_zip->NH,map_map->NJ,nodup_append->NK,replicate_succ->NM,getElem?_range->NN,lookup_cons->NQ,getElem?_drop->NR,length_replicate->NT,pairwise_append->NY,map_congr_left->NZ,length_zip->N0,take_append_of_le_length->N5,pairwise_map->N7,drop_drop->N9,take_zero->Oa,dropLast_concat_getLast->Ob,all_eq_true->Od,mem_of_mem_drop->Oe,sum_cons->Of,getElem?_eq_none_iff->Og,filter_nil->Oh,drop_eq_getElem_cons->Oi,pairwise_iff_getElem->Oj,pairwise_cons->Oq,nodup_nil->Ot,flatten_cons->Ou,ext_getElem?->Ov,getElem?_set_self->Ow,any_cons->Oy,take_add->Oz,filter_cons->OB,set_append_right->OC,map_take->OJ,foldl_append->ON,getElem_inj->OP,getElem_mem->OR,any_eq_true->OU,map_nil->OY
open Nat renaming le_refl->Ms,le_trans->ME,zero_le->MF,lt_of_lt_of_le->MV,ne_of_lt->Na,add_sub_cancel_left->Nk,le_add_right->Nt,sub_self->Nz,lt_irrefl->NL,add_assoc->NU,lt_succ_of_lt->NV,le_succ_of_le->N6,ne_of_gt->N8,lt_succ_self->Oc,le_of_lt->Om,le_succ->Ox,le_of_eq->OE,lt_of_le_of_lt->OH,lt_or_ge->OS,succ_le_succ->OT,lt_trans->OZ,not_lt->O3
open Bool renaming false_ne_true->My,and_eq_true->NO,eq_iff_iff->NS,eq_false_iff->NW,false_eq_true->Oo,false_or->OI,true_and->OW
open Or renaming inl->MG,inr->NF
open Array renaming length_toList->MI,getElem?_toList->MZ,toList_append->M5,toList_push->NX,mk->OA,mem_toList_iff->OD,toList->OQ
open Ne renaming symm->MR
open Sum renaming inr->MY,inl->OF
open True renaming intro->NA
open Option renaming map_some->NC,isSome_iff_exists->NI,map_eq_some_iff->N4,isNone_iff_eq_none->Ol,isSome_map->OM
open Int renaming le_refl->OG,toNat_natCast->OO,mul_le_mul->OV,add_assoc->OX,zero_add->O2
set_option Elab.async false
set_option linter.all false
set_option genSizeOf false
set_option bootstrap.genMatcherCode false
set_option compiler.extract_closed false
set_option maxRecDepth 100000
namespace Hd
open PySem PySem.W PySem.Calls PyProof.Rows
noncomputable def kQ(tb:String->Option SF)(p:Program)(w:Pf)(n₀:Nat)(ann:Option E9):Nat->SharedT->Thread->Option SharedT
 |0,_,_=>Vo
 |n+1,s,t=>match through t with
  |true=>Vn s
  |false=>match stepOk n₀ ann t with
   |false=>Vo
   |true=>match stepT (denote tb) p w s t with
    |some (s',t')=>kQ tb p w n₀ ann n s' t'
    |none=>Vo
theorem Cz{tb:String->Option SF}{p:Program}{w:Pf}{n₀:Nat}{ann:Option E9}:∀{n:Nat}{s s':SharedT}{t:Thread},
  kQ tb p w n₀ ann n s t=Vn s'->topRun tb p w n₀ ann n s.abs t=Vn s'.abs
 |0,_,_,_,h=>by cases h
 |n+1,s,s',t,h=>by
  unfold kQ at h;unfold topRun;cases he:through t with
  |true=>rw[he]at h;cases h;rfl
  |false=>
   rw[he]at h;cases hk:stepOk n₀ ann t with
   |false=>rw[hk]at h;cases h
   |true=>
    rw[hk]at h;cases hs:stepT (denote tb) p w s t with
    |none=>rw[hs]at h;cases h
    |some r=>obtain⟨s₂,t₂⟩:=r;rw[hs]at h;rw[stepT_spec hs];exact Cz h
noncomputable def JT(p q:Program)(loose:List Str)(Xt:O5->Bool){α:Type}(Yf:O5->α)(g0:Bool)(H:PH)(s:O5):=
 (Vg (PU p.main.body) H s.heap&&UW p s.heap&&gensDone s&&laidKept H s.heap,Q7 q loose (PU p.main.body) Xt g0 s,Yf s)
noncomputable def Fe(p:Program)(H:PH)(s:O5):=Vg (PU p.main.body) H s.heap&&UW p s.heap&&gensDone s&&laidKept H s.heap
noncomputable def treeOf:List Obj->Nat->BT->BT
 | [],_,t=>t
 |o::r,i,t=>treeOf r (i+1) (t.ins i o)
theorem FG{p q:Program}{loose:List Str}{Xt:O5->Bool}{α:Type}{Yf:O5->α}{Ya:Pf->α}{N:Nat}{g0:Bool}{H₀:QR->PH}{gs₀:Array So}{d₀:Drawn}{k₀ m₀ n₀:Nat}{ann:Option E9}{T₀:QR->BT}{life:Life}
  (opn:∀w:Pf,(fencedOpening P8 p w N).map (λs=>(s.heap,s.gens,s.drawn,s.toks))=Vn (H₀ w.params,gs₀,d₀,k₀))
  (size:∀w:Pf,((H₀ w.params).isNs Pw&&gs₀.size==0,(H₀ w.params).objs.size,(H₀ w.params).nsMap Pw "__annotations__")=(true,m₀,ann))
  (tree:∀P:QR,absHeap (T₀ P) n₀ life=H₀ P)
  (look:∀(w:Pf)(os:Qv),(kQ P8 p w m₀ ann N ⟨T₀ w.params,n₀,life,gs₀,d₀,k₀,os⟩ (QS p)).map (λs=>JT p q loose Xt Yf g0 (H₀ w.params) s.abs)=Vn (true,Sq q loose,Ya w)) :
  LeftO p q loose Xt Yf Ya N g0:=λw=>by
 obtain⟨⟨h,gs,d,k,os⟩,e,e'⟩:=N4.mp (opn w)
 obtain⟨rfl,rfl,rfl,rfl⟩:h=H₀ w.params/\gs=gs₀/\d=d₀/\k=k₀:=by simpa using e'
 obtain⟨z1,z2,z3⟩:_/\_/\_:=by simpa only[Prod.mk.injEq] using size w
 obtain⟨s,hs,hl⟩:=N4.mp (look w os)
 obtain⟨l1,l23⟩:=Sd hl
 obtain⟨l2,l3⟩:=Sd l23
 have r:=Cz hs
 have t:topFrom P8 p w N ⟨H₀ w.params,gs,d,k,os⟩=Vn s.abs:=by
  unfold topFrom;dsimp only;rw[z1,z2,z3];unfold SharedT.abs at r;dsimp only at r;rw[tree w.params]at r;show(topRun P8 p w m₀ ann N ⟨H₀ w.params,gs,d,k,os⟩ (QS p)).bind _=_;rw[r];show(match Vg (PU p.main.body) (H₀ w.params) s.abs.heap&&UW p s.abs.heap&&gensDone s.abs&&laidKept (H₀ w.params) s.abs.heap with|true=>_|false=>_)=_;rw[l1];rfl
 unfold openEnds
 rw[e]
 show(topFrom P8 p w N _).map _=_
 rw[t]
 exact congrArg Vn (RT l2 l3)
theorem DC{p q:Program}{loose:List Str}{Xt:O5->Bool}{α:Type}{Yf:O5->α}{Ya:Pf->α}{N:Nat}{g0:Bool}{H₀:QR->PH}{gs₀:Array So}{d₀:Drawn}{k₀ m₀ n₀:Nat}{ann:Option E9}{T₀:QR->BT}{life:Life}
  (opn:∀w:Pf,(fencedOpening P8 p w N).map (λs=>(s.heap,s.gens,s.drawn,s.toks))=Vn (H₀ w.params,gs₀,d₀,k₀))
  (size:∀w:Pf,((H₀ w.params).isNs Pw&&gs₀.size==0,(H₀ w.params).objs.size,(H₀ w.params).nsMap Pw "__annotations__")=(true,m₀,ann))
  (tree:∀P:QR,absHeap (T₀ P) n₀ life=H₀ P)
  (look1:∀(w:Pf)(os:Qv),(kQ P8 p w m₀ ann N ⟨T₀ w.params,n₀,life,gs₀,d₀,k₀,os⟩ (QS p)).map (λs=>Fe p (H₀ w.params) s.abs)=Vn true)
  (look3:∀(w:Pf)(os:Qv),(kQ P8 p w m₀ ann N ⟨T₀ w.params,n₀,life,gs₀,d₀,k₀,os⟩ (QS p)).map (λs=>(Q7 q loose (PU p.main.body) Xt g0 s.abs).1)=Vn (Sq q loose).1)
  (look7:∀(w:Pf)(os:Qv),(kQ P8 p w m₀ ann N ⟨T₀ w.params,n₀,life,gs₀,d₀,k₀,os⟩ (QS p)).map (λs=>(Q7 q loose (PU p.main.body) Xt g0 s.abs).2.1)=Vn (Sq q loose).2.1)
  (look5:∀(w:Pf)(os:Qv),(kQ P8 p w m₀ ann N ⟨T₀ w.params,n₀,life,gs₀,d₀,k₀,os⟩ (QS p)).map (λs=>(Q7 q loose (PU p.main.body) Xt g0 s.abs).2.2.1)=Vn true)
  (look6:∀(w:Pf)(os:Qv),(kQ P8 p w m₀ ann N ⟨T₀ w.params,n₀,life,gs₀,d₀,k₀,os⟩ (QS p)).map (λs=>(Q7 q loose (PU p.main.body) Xt g0 s.abs).2.2.2.1)=Vn true)
  (look4:∀(w:Pf)(os:Qv),(kQ P8 p w m₀ ann N ⟨T₀ w.params,n₀,life,gs₀,d₀,k₀,os⟩ (QS p)).map (λs=>(Q7 q loose (PU p.main.body) Xt g0 s.abs).2.2.2.2)=Vn (Sq q loose).2.2.2.2)
  (look2:∀(w:Pf)(os:Qv),(kQ P8 p w m₀ ann N ⟨T₀ w.params,n₀,life,gs₀,d₀,k₀,os⟩ (QS p)).map (λs=>Yf s.abs)=Vn (Ya w)) :
  LeftO p q loose Xt Yf Ya N g0:=FG opn size tree λw os=>by
 obtain⟨s,hs,h1⟩:=N4.mp (look1 w os)
 have h2:=look2 w os
 have h3:=look3 w os
 have h4:=look4 w os
 have h5:=look5 w os
 have h6:=look6 w os
 have h7:=look7 w os
 rw[hs]at h2 h3 h4 h5 h6 h7⊢
 exact congrArg Vn (RT h1 (RT (RT (Pn h3) (RT (Pn h7) (RT (Pn h5) (RT (Pn h6) (Pn h4))))) (Pn h2)))
end Hd
namespace L2
open PySem PySem.Spec PyProof.Rows
noncomputable def Vq(s:PB)(j:Nat):PB:=match s with
 | .ClassDef _ _ _ body _ _ _ _ _ _ _=>body.getD j (.Pass ⟨0,0,0,0⟩)
 |_=>.Pass ⟨0,0,0,0⟩
noncomputable def bF(s:PB):Arguments:=match s with
 | .FunctionDef _ a _ _ _ _ _ _ _ _=>a
 |_=>{ posonlyargs:=[],args:=[],vararg:=Vo,kwonlyargs:=[],kw_defaults:=[],kwarg:=Vo,defaults:=[] }
noncomputable def bh(s:PB):List PB:=match s with
 | .FunctionDef _ _ b _ _ _ _ _ _ _=>b
 |_=>[]
noncomputable def aq(s:PB):Rg:=match s with
 | .FunctionDef _ _ _ _ _ _ sc _ _ _=>sc
 |_=>{ kind:=.function,names:=[],isGenerator:=false,isCoroutine:=false }
end L2
namespace K33
open PySem
noncomputable def top(i:Nat):PB:=PySem.Challenge.pw_hushrow_k33_reached.main.body.getD i (.Pass ⟨0,0,0,0⟩)
end K33
set_option maxHeartbeats 0
namespace K33
open PySem L2 PySem.W
noncomputable abbrev Ey(P:QR)(x:Str)(t:Nat)(v:E9):Ut:=⟨PyData.keyHash P x,.str x t,v⟩
noncomputable abbrev FL(P:QR)(a:Nat)(l:Int)(b:Nat):=Ey P "__firstlineno__" a (.int l b)
noncomputable abbrev SA(P:QR)(a b:Nat):=Ey P "__static_attributes__" a (.ref b)
noncomputable abbrev DO(P:QR)(a:Nat):=Ey P "__doc__" a .none
noncomputable abbrev M3O(P:QR)(a:Nat):=Ey P "__module__" a (.str "hushrow.rows" 205)
noncomputable abbrev ER(P:QR)(x:Str)(a b:Nat):=Ey P x a (.ref b)
noncomputable abbrev DI(x:Array Ut)(n:Nat):Obj:={.type "dict",Vo,.dict x n,#[]}
noncomputable abbrev WR(x:Str)(a b:Nat)(y:String):Obj:={.type "getset_descriptor",Vo,.fields #[.str x a,.ref b,.builtin y,.none],#[]}
noncomputable abbrev CX(n:Str)(a c:Nat)(bs m s:List E9)(d:Option E9)(u v:Nat)(w:String):Obj:={.type "type",Vo,.cls { name:=n,bases:=bs,mro:=.ref a::m,ns:=c,qualname:=n,hasDict:=true,slotNames:=[],subclasses:=s,abstract:=false,collection:=Vo,hasDel:=false },#[d,Vo,Vn (.str n u),Vn (.str n v),Vn (.builtin w),Vn (.bool true)]}
noncomputable abbrev CO(n q:Str)(t:Nat)(l a:Int)(r:Nat)(m:Nat):Obj:={.type "code",Vo,.fields #[.str n t,.str q (t+1),.str "/claim/cut.py" (t+2),.int l 0,.int a 0,.int 0 0,.int 0 0,.int 3 0,.ref r,.bool true,.int 181 0,.ref (r+1),.none,.ref (r+2),.ref (r+3),.ref (r+4),.int m 0,.int l 0,.str "/claim/cut.py" (m+1)],#[]}
noncomputable abbrev FU(n q:Str)(s:PB)(m:Str)(t c:Nat):Obj:={.type "function",Vo,.func (Qo n q (bF s) (bh s) (aq s) .none .none .none (.str m t) Vo (.ref c) .none),#[]}
noncomputable abbrev FD(n q:Str)(s:PB)(d:Nat)(m:Str)(t c:Nat):Obj:={.type "function",Vo,.func (Qo n q (bF s) (bh s) (aq s) (.ref d) .none .none (.str m t) Vo (.ref c) .none),#[]}
noncomputable abbrev F7T(x:Str)(i c:Nat):=FU x x (top i) "hushrow.costs" 824 c
noncomputable abbrev F8T(x:Str)(i c:Nat):=FU x x (top i) "hushrow.places" 888 c
noncomputable abbrev F9T(x:Str)(i c:Nat):=FU x x (top i) "hushrow.links" 956 c
noncomputable abbrev gF(x:Str)(i c:Nat):=FU x x (top i) "law_hushrow_k33_reached" 1041 c
noncomputable abbrev j1(x y:Str)(i j c:Nat):=FU x y (Vq (top i) j) "hushrow.rows" 205 c
noncomputable def heapK(P:QR):Pa:=
 (nat_lit 2,{.none,Vo,.dict #[] 0,#[]})::
 (nat_lit 3,DI #[Ey P "__name__" 165 (.str "law_hushrow_k33_reached" 1041),DO P 166,Ey P "__package__" 167 .none,Ey P "__loader__" 168 (.builtin "__main__.__loader__#opaque"),Ey P "__spec__" 169 .none,ER P "__annotations__" 170 6,ER P "__builtins__" 171 4,Ey P "__file__" 173 (.str "/claim/cut.py" 172),Ey P "__cached__" 174 .none,ER P "_wall" 193 21,ER P "names_in" 204 28,ER P "each_once" 215 35,ER P "Row" 258 66,ER P "HandRow" 293 94,ER P "GivenRow" 330 120,ER P "OwnRow" 365 146,ER P "LetRow" 400 172,ER P "SetRow" 449 212,ER P "PutRow" 500 252,ER P "SendRow" 542 285,ER P "SayRow" 593 325,ER P "CallRow" 634 356,ER P "LastRow" 657 375,ER P "IfRow" 705 408,ER P "LoopRow" 753 441,ER P "DeedRow" 790 467,ER P "Program" 823 486,ER P "exact_of" 836 497,ER P "exact_of_row" 844 504,ER P "one_more" 851 511,ER P "exact_of_if" 861 518,ER P "exact_of_loop" 870 525,ER P "balanced" 878 532,ER P "exacts" 887 539,Ey P "CLOCK" 891 (.str "the clock" 890),ER P "row_place" 898 546,ER P "laid_rows" 909 553,ER P "laid_inside" 918 560,ER P "laid_program" 927 567,ER P "is_place" 934 574,ER P "head_places" 943 581,ER P "places" 955 588,ER P "drawn" 963 593,ER P "row_links" 974 600,ER P "said_links" 983 607,ER P "called_links" 996 614,ER P "step_links" 1005 621,ER P "links" 1011 627,ER P "sources" 1019 632,ER P "ways_of" 1025 637,ER P "arrivals" 1031 642,ER P "reached" 1040 650,ER P "_law_cell_at" 1051 657,ER P "_law_more" 1057 662,ER P "_law_mix" 1068 669,ER P "_law_names" 1074 674,ER P "_law_pick" 1082 681,ER P "_law_heads" 1088 686,ER P "_law_scope" 1098 693,ER P "_law_thing" 1106 700,ER P "_law_value" 1117 707,ER P "_law_plain" 1130 714,ER P "_law_opened" 1144 721,ER P "_law_closed" 1151 728,ER P "_law_row" 1157 733,ER P "_law_body" 1169 740,ER P "_law_flat" 1187 747,ER P "_law_row_made" 1195 754,ER P "_law_rows_made" 1209 761,ER P "_law_program" 1223 768,ER P "_law_exact" 1237 775,ER P "_law_even_row" 1251 782,ER P "_law_evened_by" 1257 787,ER P "_law_closed_set" 1268 794,ER P "_law_sources" 1274 799,ER P "law" 1280 804] 76)::
 (nat_lit 27,CO "names_in" "names_in" 196 5 1 22 202)::
 (nat_lit 28,FU "names_in" "names_in" (top 2) "hushrow.things" 194 27)::
 (nat_lit 34,CO "each_once" "each_once" 207 12 1 29 213)::
 (nat_lit 35,FU "each_once" "each_once" (top 4) "hushrow.rows" 205 34)::
 (nat_lit 48,CO "__init__" "Row.__init__" 228 20 2 43 233)::
 (nat_lit 49,j1 "__init__" "Row.__init__" 5 0 48)::
 (nat_lit 65,DI #[M3O P 223,FL P 227 18 226,ER P "__init__" 235 49,ER P "reads" 242 56,ER P "target" 249 63,SA P 251 64,ER P "__dict__" 253 67,ER P "__weakref__" 255 68,DO P 256] 4)::
 (nat_lit 66,CX "Row" 66 65 [.type "object"] [.type "object"] [.ref 94,.ref 120,.ref 146,.ref 172,.ref 212,.ref 252,.ref 285,.ref 325,.ref 356,.ref 375,.ref 408,.ref 441,.ref 467] Vo 216 224 "object.__new__")::
 (nat_lit 67,{(.type "getset_descriptor"),Vo,.fields #[(.str "__dict__" 252),(.ref 66),(.builtin "function.__dict__"),(.builtin "function.__dict__#set")],#[]})::
 (nat_lit 68,WR "__weakref__" 254 66 "ExceptionGroup.__weakref__")::
 (nat_lit 83,CO "__init__" "HandRow.__init__" 271 30 4 78 278)::
 (nat_lit 84,j1 "__init__" "HandRow.__init__" 6 0 83)::
 (nat_lit 93,DI #[M3O P 266,FL P 270 28 269,ER P "__init__" 280 84,ER P "shown" 287 91,SA P 290 92,DO P 291] 2)::
 (nat_lit 94,CX "HandRow" 94 93 [.ref 66] [.ref 66,.type "object"] [] (Vn (.ref 71)) 259 267 "object.__new__")::
 (nat_lit 109,CO "__init__" "GivenRow.__init__" 306 39 5 104 314)::
 (nat_lit 110,j1 "__init__" "GivenRow.__init__" 7 0 109)::
 (nat_lit 119,DI #[M3O P 301,FL P 305 37 304,ER P "__init__" 316 110,ER P "shown" 323 117,SA P 327 118,DO P 328] 2)::
 (nat_lit 120,CX "GivenRow" 120 119 [.ref 66] [.ref 66,.type "object"] [] (Vn (.ref 97)) 294 302 "object.__new__")::
 (nat_lit 135,CO "__init__" "OwnRow.__init__" 343 49 4 130 350)::
 (nat_lit 136,j1 "__init__" "OwnRow.__init__" 8 0 135)::
 (nat_lit 145,DI #[M3O P 338,FL P 342 47 341,ER P "__init__" 352 136,ER P "shown" 359 143,SA P 362 144,DO P 363] 2)::
 (nat_lit 146,CX "OwnRow" 146 145 [.ref 66] [.ref 66,.type "object"] [] (Vn (.ref 123)) 331 339 "object.__new__")::
 (nat_lit 161,CO "__init__" "LetRow.__init__" 378 58 4 156 385)::
 (nat_lit 162,j1 "__init__" "LetRow.__init__" 9 0 161)::
 (nat_lit 171,DI #[M3O P 373,FL P 377 56 376,ER P "__init__" 387 162,ER P "shown" 394 169,SA P 397 170,DO P 398] 2)::
 (nat_lit 172,CX "LetRow" 172 171 [.ref 66] [.ref 66,.type "object"] [] (Vn (.ref 149)) 366 374 "object.__new__")::
 (nat_lit 187,CO "__init__" "SetRow.__init__" 413 67 4 182 420)::
 (nat_lit 188,j1 "__init__" "SetRow.__init__" 10 0 187)::
 (nat_lit 201,CO "reads" "SetRow.reads" 430 75 1 196 434)::
 (nat_lit 202,j1 "reads" "SetRow.reads" 10 2 201)::
 (nat_lit 211,DI #[M3O P 408,FL P 412 65 411,ER P "__init__" 422 188,ER P "shown" 429 195,ER P "reads" 436 202,ER P "target" 443 209,SA P 446 210,DO P 447] 2)::
 (nat_lit 212,CX "SetRow" 212 211 [.ref 66] [.ref 66,.type "object"] [] (Vn (.ref 175)) 401 409 "object.__new__")::
 (nat_lit 227,CO "__init__" "PutRow.__init__" 462 82 5 222 470)::
 (nat_lit 228,j1 "__init__" "PutRow.__init__" 11 0 227)::
 (nat_lit 241,CO "reads" "PutRow.reads" 480 91 1 236 484)::
 (nat_lit 242,j1 "reads" "PutRow.reads" 11 2 241)::
 (nat_lit 251,DI #[M3O P 457,FL P 461 80 460,ER P "__init__" 472 228,ER P "shown" 479 235,ER P "reads" 486 242,ER P "target" 493 249,SA P 497 250,DO P 498] 2)::
 (nat_lit 252,CX "PutRow" 252 251 [.ref 66] [.ref 66,.type "object"] [] (Vn (.ref 215)) 450 458 "object.__new__")::
 (nat_lit 267,CO "__init__" "SendRow.__init__" 513 98 4 262 520)::
 (nat_lit 268,j1 "__init__" "SendRow.__init__" 12 0 267)::
 (nat_lit 281,CO "reads" "SendRow.reads" 530 106 1 276 534)::
 (nat_lit 282,j1 "reads" "SendRow.reads" 12 2 281)::
 (nat_lit 284,DI #[M3O P 508,FL P 512 96 511,ER P "__init__" 522 268,ER P "shown" 529 275,ER P "reads" 536 282,SA P 539 283,DO P 540] 2)::
 (nat_lit 285,CX "SendRow" 285 284 [.ref 66] [.ref 66,.type "object"] [] (Vn (.ref 255)) 501 509 "object.__new__")::
 (nat_lit 300,CO "__init__" "SayRow.__init__" 555 110 5 295 563)::
 (nat_lit 301,j1 "__init__" "SayRow.__init__" 13 0 300)::
 (nat_lit 324,DI #[M3O P 550,FL P 554 108 553,ER P "__init__" 565 301,ER P "shown" 572 308,ER P "reads" 579 315,ER P "target" 586 322,SA P 590 323,DO P 591] 2)::
 (nat_lit 325,CX "SayRow" 325 324 [.ref 66] [.ref 66,.type "object"] [] (Vn (.ref 288)) 543 551 "object.__new__")::
 (nat_lit 340,CO "__init__" "CallRow.__init__" 606 126 4 335 613)::
 (nat_lit 341,j1 "__init__" "CallRow.__init__" 14 0 340)::
 (nat_lit 355,DI #[M3O P 601,FL P 605 124 604,ER P "__init__" 615 341,ER P "shown" 622 348,ER P "reads" 628 353,SA P 631 354,DO P 632] 2)::
 (nat_lit 356,CX "CallRow" 356 355 [.ref 66] [.ref 66,.type "object"] [] (Vn (.ref 328)) 594 602 "object.__new__")::
 (nat_lit 374,DI #[M3O P 642,FL P 646 136 645,ER P "shown" 653 372,SA P 654 373,DO P 655] 2)::
 (nat_lit 375,CX "LastRow" 375 374 [.ref 66] [.ref 66,.type "object"] [] (Vn (.ref 359)) 635 643 "object.__new__")::
 (nat_lit 390,CO "__init__" "IfRow.__init__" 670 142 7 385 680)::
 (nat_lit 391,j1 "__init__" "IfRow.__init__" 16 0 390)::
 (nat_lit 404,CO "reads" "IfRow.reads" 690 153 1 399 694)::
 (nat_lit 405,j1 "reads" "IfRow.reads" 16 2 404)::
 (nat_lit 407,DI #[M3O P 665,FL P 669 140 668,ER P "__init__" 682 391,ER P "shown" 689 398,ER P "reads" 696 405,SA P 702 406,DO P 703] 2)::
 (nat_lit 408,CX "IfRow" 408 407 [.ref 66] [.ref 66,.type "object"] [] (Vn (.ref 378)) 658 666 "object.__new__")::
 (nat_lit 423,CO "__init__" "LoopRow.__init__" 718 157 7 418 728)::
 (nat_lit 424,j1 "__init__" "LoopRow.__init__" 17 0 423)::
 (nat_lit 437,CO "reads" "LoopRow.reads" 738 168 1 432 742)::
 (nat_lit 438,j1 "reads" "LoopRow.reads" 17 2 437)::
 (nat_lit 440,DI #[M3O P 713,FL P 717 155 716,ER P "__init__" 730 424,ER P "shown" 737 431,ER P "reads" 744 438,SA P 750 439,DO P 751] 2)::
 (nat_lit 441,CX "LoopRow" 441 440 [.ref 66] [.ref 66,.type "object"] [] (Vn (.ref 411)) 706 714 "object.__new__")::
 (nat_lit 456,CO "__init__" "DeedRow.__init__" 766 172 5 451 774)::
 (nat_lit 457,j1 "__init__" "DeedRow.__init__" 18 0 456)::
 (nat_lit 466,DI #[M3O P 761,FL P 765 170 764,ER P "__init__" 776 457,ER P "shown" 783 464,SA P 787 465,DO P 788] 2)::
 (nat_lit 467,CX "DeedRow" 467 466 [.ref 66] [.ref 66,.type "object"] [] (Vn (.ref 444)) 754 762 "object.__new__")::
 (nat_lit 482,CO "__init__" "Program.__init__" 803 182 4 477 810)::
 (nat_lit 483,j1 "__init__" "Program.__init__" 19 0 482)::
 (nat_lit 485,DI #[M3O P 798,FL P 802 180 801,ER P "__init__" 812 483,SA P 816 484,ER P "__dict__" 818 487,ER P "__weakref__" 820 488,DO P 821] 4)::
 (nat_lit 486,CX "Program" 486 485 [.type "object"] [.type "object"] [] Vo 791 799 "object.__new__")::
 (nat_lit 487,{(.type "getset_descriptor"),Vo,.fields #[(.str "__dict__" 817),(.ref 486),(.builtin "function.__dict__"),(.builtin "function.__dict__#set")],#[]})::
 (nat_lit 488,WR "__weakref__" 819 486 "ExceptionGroup.__weakref__")::
 (nat_lit 496,CO "exact_of" "exact_of" 826 187 2 491 834)::
 (nat_lit 497,F7T "exact_of" 21 496)::
 (nat_lit 503,CO "exact_of_row" "exact_of_row" 837 195 2 498 842)::
 (nat_lit 504,F7T "exact_of_row" 22 503)::
 (nat_lit 510,CO "one_more" "one_more" 845 203 1 505 849)::
 (nat_lit 511,F7T "one_more" 23 510)::
 (nat_lit 517,CO "exact_of_if" "exact_of_if" 852 205 2 512 859)::
 (nat_lit 518,F7T "exact_of_if" 24 517)::
 (nat_lit 524,CO "exact_of_loop" "exact_of_loop" 862 211 2 519 868)::
 (nat_lit 525,F7T "exact_of_loop" 25 524)::
 (nat_lit 531,CO "balanced" "balanced" 871 216 2 526 876)::
 (nat_lit 532,F7T "balanced" 26 531)::
 (nat_lit 538,CO "exacts" "exacts" 879 218 1 533 885)::
 (nat_lit 539,F7T "exacts" 27 538)::
 (nat_lit 545,CO "row_place" "row_place" 892 225 1 540 896)::
 (nat_lit 546,F8T "row_place" 30 545)::
 (nat_lit 552,CO "laid_rows" "laid_rows" 899 227 3 547 907)::
 (nat_lit 553,F8T "laid_rows" 31 552)::
 (nat_lit 559,CO "laid_inside" "laid_inside" 910 233 2 554 916)::
 (nat_lit 560,F8T "laid_inside" 32 559)::
 (nat_lit 566,CO "laid_program" "laid_program" 919 240 1 561 925)::
 (nat_lit 567,F8T "laid_program" 33 566)::
 (nat_lit 573,CO "is_place" "is_place" 928 245 1 568 932)::
 (nat_lit 574,F8T "is_place" 34 573)::
 (nat_lit 580,CO "head_places" "head_places" 935 247 1 575 941)::
 (nat_lit 581,F8T "head_places" 35 580)::
 (nat_lit 587,CO "places" "places" 944 253 1 582 953)::
 (nat_lit 588,F8T "places" 36 587)::
 (nat_lit 592,{(.type "code"),Vo,.fields #[(.str "drawn" 958),(.str "drawn" 959),(.str "/claim/cut.py" 960),(.int (262) 0),(.int (4) 0),(.int (0) 0),(.int (0) 0),(.int (3) 0),(.ref 589),(.bool true),(.int (181) 0),(.ref 590),.none,.none,.none,(.ref 591),(.int (961) 0),(.int (262) 0),(.str "/claim/cut.py" 962)],#[]})::
 (nat_lit 593,F9T "drawn" 38 592)::
 (nat_lit 599,CO "row_links" "row_links" 964 264 4 594 972)::
 (nat_lit 600,F9T "row_links" 39 599)::
 (nat_lit 606,CO "said_links" "said_links" 975 277 2 601 981)::
 (nat_lit 607,F9T "said_links" 40 606)::
 (nat_lit 613,CO "called_links" "called_links" 984 281 3 608 994)::
 (nat_lit 614,F9T "called_links" 41 613)::
 (nat_lit 620,CO "step_links" "step_links" 997 289 2 615 1003)::
 (nat_lit 621,F9T "step_links" 42 620)::
 (nat_lit 622,{(.type "tuple"),Vo,.seq #[(.bool false)] 0,#[]})::
 (nat_lit 626,{(.type "code"),Vo,.fields #[(.str "links" 1006),(.str "links" 1007),(.str "/claim/cut.py" 1008),(.int (296) 0),(.int (2) 0),(.int (0) 0),(.int (0) 0),(.int (3) 0),(.ref 623),(.bool true),(.int (181) 0),(.ref 624),.none,.none,.none,(.ref 625),(.int (1009) 0),(.int (296) 0),(.str "/claim/cut.py" 1010)],#[]})::
 (nat_lit 627,FD "links" "links" (top 43) 622 "hushrow.links" 956 626)::
 (nat_lit 631,{(.type "code"),Vo,.fields #[(.str "sources" 1014),(.str "sources" 1015),(.str "/claim/cut.py" 1016),(.int (306) 0),(.int (1) 0),(.int (0) 0),(.int (0) 0),(.int (3) 0),(.ref 628),(.bool true),(.int (181) 0),(.ref 629),.none,.none,.none,(.ref 630),(.int (1017) 0),(.int (306) 0),(.str "/claim/cut.py" 1018)],#[]})::
 (nat_lit 632,FU "sources" "sources" (top 45) "hushrow.reach" 1012 631)::
 (nat_lit 636,{(.type "code"),Vo,.fields #[(.str "ways_of" 1020),(.str "ways_of" 1021),(.str "/claim/cut.py" 1022),(.int (308) 0),(.int (2) 0),(.int (0) 0),(.int (0) 0),(.int (3) 0),(.ref 633),(.bool true),(.int (181) 0),(.ref 634),.none,.none,.none,(.ref 635),(.int (1023) 0),(.int (308) 0),(.str "/claim/cut.py" 1024)],#[]})::
 (nat_lit 637,FU "ways_of" "ways_of" (top 46) "hushrow.reach" 1012 636)::
 (nat_lit 641,{(.type "code"),Vo,.fields #[(.str "arrivals" 1026),(.str "arrivals" 1027),(.str "/claim/cut.py" 1028),(.int (313) 0),(.int (2) 0),(.int (0) 0),(.int (0) 0),(.int (3) 0),(.ref 638),(.bool true),(.int (181) 0),(.ref 639),.none,.none,.none,(.ref 640),(.int (1029) 0),(.int (313) 0),(.str "/claim/cut.py" 1030)],#[]})::
 (nat_lit 642,FU "arrivals" "arrivals" (top 47) "hushrow.reach" 1012 641)::
 (nat_lit 643,{(.type "tuple"),Vo,.seq #[(.bool false)] 0,#[]})::
 (nat_lit 649,CO "reached" "reached" 1032 325 3 644 1038)::
 (nat_lit 650,FD "reached" "reached" (top 48) 643 "hushrow.reach" 1012 649)::
 (nat_lit 656,CO "_law_cell_at" "_law_cell_at" 1043 328 2 651 1049)::
 (nat_lit 657,gF "_law_cell_at" 50 656)::
 (nat_lit 661,{(.type "code"),Vo,.fields #[(.str "_law_more" 1052),(.str "_law_more" 1053),(.str "/claim/cut.py" 1054),(.int (335) 0),(.int (3) 0),(.int (0) 0),(.int (0) 0),(.int (3) 0),(.ref 658),(.bool true),(.int (181) 0),(.ref 659),.none,.none,.none,(.ref 660),(.int (1055) 0),(.int (335) 0),(.str "/claim/cut.py" 1056)],#[]})::
 (nat_lit 662,gF "_law_more" 51 661)::
 (nat_lit 668,CO "_law_mix" "_law_mix" 1058 337 2 663 1066)::
 (nat_lit 669,gF "_law_mix" 52 668)::
 (nat_lit 673,{(.type "code"),Vo,.fields #[(.str "_law_names" 1069),(.str "_law_names" 1070),(.str "/claim/cut.py" 1071),(.int (346) 0),(.int (3) 0),(.int (0) 0),(.int (0) 0),(.int (3) 0),(.ref 670),(.bool true),(.int (181) 0),(.ref 671),.none,.none,.none,(.ref 672),(.int (1072) 0),(.int (346) 0),(.str "/claim/cut.py" 1073)],#[]})::
 (nat_lit 674,gF "_law_names" 53 673)::
 (nat_lit 680,CO "_law_pick" "_law_pick" 1075 362 2 675 1080)::
 (nat_lit 681,gF "_law_pick" 54 680)::
 (nat_lit 685,{(.type "code"),Vo,.fields #[(.str "_law_heads" 1083),(.str "_law_heads" 1084),(.str "/claim/cut.py" 1085),(.int (364) 0),(.int (2) 0),(.int (0) 0),(.int (0) 0),(.int (3) 0),(.ref 682),(.bool true),(.int (181) 0),(.ref 683),.none,.none,.none,(.ref 684),(.int (1086) 0),(.int (364) 0),(.str "/claim/cut.py" 1087)],#[]})::
 (nat_lit 686,gF "_law_heads" 55 685)::
 (nat_lit 692,CO "_law_scope" "_law_scope" 1089 372 2 687 1096)::
 (nat_lit 693,gF "_law_scope" 56 692)::
 (nat_lit 699,CO "_law_thing" "_law_thing" 1099 377 2 694 1104)::
 (nat_lit 700,gF "_law_thing" 57 699)::
 (nat_lit 706,CO "_law_value" "_law_value" 1107 381 2 701 1115)::
 (nat_lit 707,gF "_law_value" 58 706)::
 (nat_lit 713,CO "_law_plain" "_law_plain" 1118 390 3 708 1128)::
 (nat_lit 714,gF "_law_plain" 59 713)::
 (nat_lit 720,CO "_law_opened" "_law_opened" 1131 402 4 715 1142)::
 (nat_lit 721,gF "_law_opened" 60 720)::
 (nat_lit 727,CO "_law_closed" "_law_closed" 1145 417 1 722 1149)::
 (nat_lit 728,gF "_law_closed" 61 727)::
 (nat_lit 732,{(.type "code"),Vo,.fields #[(.str "_law_row" 1152),(.str "_law_row" 1153),(.str "/claim/cut.py" 1154),(.int (424) 0),(.int (3) 0),(.int (0) 0),(.int (0) 0),(.int (3) 0),(.ref 729),(.bool true),(.int (181) 0),(.ref 730),.none,.none,.none,(.ref 731),(.int (1155) 0),(.int (424) 0),(.str "/claim/cut.py" 1156)],#[]})::
 (nat_lit 733,gF "_law_row" 62 732)::
 (nat_lit 739,CO "_law_body" "_law_body" 1158 439 4 734 1167)::
 (nat_lit 740,gF "_law_body" 63 739)::
 (nat_lit 746,CO "_law_flat" "_law_flat" 1170 447 2 741 1185)::
 (nat_lit 747,gF "_law_flat" 64 746)::
 (nat_lit 753,CO "_law_row_made" "_law_row_made" 1188 464 2 748 1193)::
 (nat_lit 754,gF "_law_row_made" 65 753)::
 (nat_lit 760,CO "_law_rows_made" "_law_rows_made" 1196 484 2 755 1207)::
 (nat_lit 761,gF "_law_rows_made" 66 760)::
 (nat_lit 767,CO "_law_program" "_law_program" 1210 500 1 762 1221)::
 (nat_lit 768,gF "_law_program" 67 767)::
 (nat_lit 774,CO "_law_exact" "_law_exact" 1224 514 3 769 1235)::
 (nat_lit 775,gF "_law_exact" 68 774)::
 (nat_lit 781,CO "_law_even_row" "_law_even_row" 1238 538 3 776 1249)::
 (nat_lit 782,gF "_law_even_row" 69 781)::
 (nat_lit 786,{(.type "code"),Vo,.fields #[(.str "_law_evened_by" 1252),(.str "_law_evened_by" 1253),(.str "/claim/cut.py" 1254),(.int (551) 0),(.int (2) 0),(.int (0) 0),(.int (0) 0),(.int (3) 0),(.ref 783),(.bool true),(.int (181) 0),(.ref 784),.none,.none,.none,(.ref 785),(.int (1255) 0),(.int (551) 0),(.str "/claim/cut.py" 1256)],#[]})::
 (nat_lit 787,gF "_law_evened_by" 70 786)::
 (nat_lit 793,CO "_law_closed_set" "_law_closed_set" 1258 563 2 788 1266)::
 (nat_lit 794,gF "_law_closed_set" 71 793)::
 (nat_lit 798,{(.type "code"),Vo,.fields #[(.str "_law_sources" 1269),(.str "_law_sources" 1270),(.str "/claim/cut.py" 1271),(.int (573) 0),(.int (2) 0),(.int (0) 0),(.int (0) 0),(.int (3) 0),(.ref 795),(.bool true),(.int (181) 0),(.ref 796),.none,.none,.none,(.ref 797),(.int (1272) 0),(.int (573) 0),(.str "/claim/cut.py" 1273)],#[]})::
 (nat_lit 799,gF "_law_sources" 72 798)::
 (nat_lit 803,{(.type "code"),Vo,.fields #[(.str "law" 1275),(.str "law" 1276),(.str "/claim/cut.py" 1277),(.int (585) 0),(.int (1) 0),(.int (0) 0),(.int (0) 0),(.int (3) 0),(.ref 800),(.bool true),(.int (181) 0),(.ref 801),.none,.none,.none,(.ref 802),(.int (1278) 0),(.int (585) 0),(.str "/claim/cut.py" 1279)],#[]})::
 (nat_lit 804,gF "law" 73 803)::[]
noncomputable def qt:List O4:=[2,3,27,28,34,35,48,49,65,66,67,68,83,84,93,94,109,110,119,120,135,136,145,146,161,162,171,172,187,188,201,202,211,212,227,228,241,242,251,252,267,268,281,282,284,285,300,301,324,325,340,341,355,356,374,375,390,391,404,405,407,408,423,424,437,438,440,441,456,457,466,467,482,483,485,486,487,488,496,497,503,504,510,511,517,518,524,525,531,532,538,539,545,546,552,553,559,560,566,567,573,574,580,581,587,588,592,593,599,600,606,607,613,614,620,621,622,626,627,631,632,636,637,641,642,643,649,650,656,657,661,662,668,669,673,674,680,681,685,686,692,693,699,700,706,707,713,714,720,721,727,728,732,733,739,740,746,747,753,754,760,761,767,768,774,775,781,782,786,787,793,794,798,799,803,804]
theorem jO(P:QR):qt=(heapK P).map (·.1):=by kernel_rfl
noncomputable abbrev prog:Program:=PySem.Challenge.pw_hushrow_k33_reached
noncomputable abbrev law:Uu:=PySem.Challenge.rw_hushrow_k33_reached
noncomputable def fZ:Program:={ prog with main:={ prog.main with body:=[top 0,top 2,top 4,top 5,top 6,top 7,top 8,top 9,top 10,top 11,top 12,top 13,top 14,top 15,top 16,top 17,top 18,top 19,top 21,top 22,top 23,top 24,top 25,top 26,top 27,top 29,top 30,top 31,top 32,top 33,top 34,top 35,top 36,top 38,top 39,top 40,top 41,top 42,top 45,top 46,top 47,top 50,top 51,top 52,top 53,top 54,top 55,top 56,top 57,top 58,top 59,top 60,top 61,top 62,top 63,top 64,top 65,top 66,top 67,top 68,top 69,top 70,top 71,top 72,top 73] } }
noncomputable abbrev hook:W.Hook:=Uc heapK qt jO
noncomputable abbrev test:O5->Bool:=λs=>xlAt fZ [] s&&recOk (RowW.records law.row.toRowW) s
noncomputable abbrev JY:O5->List (Option Obj):=λs=>qt.map s.heap.get?
noncomputable abbrev Mf:Pf->List (Option Obj):=λw=>(heapK w.params).map λp=>Vn p.2
noncomputable def T₀(P:QR):BT:=Hd.treeOf (Sr P).objs.toList 0 .nil
noncomputable def lookL(w:Pf)(os:Qv):=(Hd.kQ P8 prog w 11 (Vn (.ref 6)) 12266 {T₀ w.params,11,{},OA [],Rq,RS,os} (QS prog)).map λs=>Hd.Fe prog (Sr w.params) s.abs
noncomputable def uC(w:Pf)(os:Qv):=Vn true
noncomputable def lookO(w:Pf)(os:Qv):=(Hd.kQ P8 prog w 11 (Vn (.ref 6)) 12266 {T₀ w.params,11,{},OA [],Rq,RS,os} (QS prog)).map λs=>(Q7 fZ ["links","reached"] (PU prog.main.body) test true s.abs).1
noncomputable def lookQ(w:Pf)(os:Qv):=Vn (Sq fZ ["links","reached"]).1
noncomputable def lookY(w:Pf)(os:Qv):=(Hd.kQ P8 prog w 11 (Vn (.ref 6)) 12266 {T₀ w.params,11,{},OA [],Rq,RS,os} (QS prog)).map λs=>(Q7 fZ ["links","reached"] (PU prog.main.body) test true s.abs).2.1
noncomputable def lookB(w:Pf)(os:Qv):=Vn (Sq fZ ["links","reached"]).2.1
noncomputable def lookW(w:Pf)(os:Qv):=(Hd.kQ P8 prog w 11 (Vn (.ref 6)) 12266 {T₀ w.params,11,{},OA [],Rq,RS,os} (QS prog)).map λs=>(Q7 fZ ["links","reached"] (PU prog.main.body) test true s.abs).2.2.1
noncomputable def lookX(w:Pf)(os:Qv):=(Hd.kQ P8 prog w 11 (Vn (.ref 6)) 12266 {T₀ w.params,11,{},OA [],Rq,RS,os} (QS prog)).map λs=>(Q7 fZ ["links","reached"] (PU prog.main.body) test true s.abs).2.2.2.1
noncomputable def lookU(w:Pf)(os:Qv):=(Hd.kQ P8 prog w 11 (Vn (.ref 6)) 12266 {T₀ w.params,11,{},OA [],Rq,RS,os} (QS prog)).map λs=>(Q7 fZ ["links","reached"] (PU prog.main.body) test true s.abs).2.2.2.2
noncomputable def lookV(w:Pf)(os:Qv):=Vn (Sq fZ ["links","reached"]).2.2.2.2
noncomputable def lookM(w:Pf)(os:Qv):=(Hd.kQ P8 prog w 11 (Vn (.ref 6)) 12266 {T₀ w.params,11,{},OA [],Rq,RS,os} (QS prog)).map λs=>JY s.abs
noncomputable def lookS(w:Pf)(os:Qv):=Vn (Mf w)
theorem lookL_self:lookL=lookL:=rfl
theorem lookO_self:lookO=lookO:=rfl
theorem lookQ_self:lookQ=lookQ:=rfl
theorem lookY_self:lookY=lookY:=rfl
theorem lookB_self:lookB=lookB:=rfl
theorem lookW_self:lookW=lookW:=rfl
theorem lookX_self:lookX=lookX:=rfl
theorem lookU_self:lookU=lookU:=rfl
theorem lookV_self:lookV=lookV:=rfl
theorem lookM_self:lookM=lookM:=rfl
theorem lookS_self:lookS=lookS:=rfl
end K33
noncomputable def PySem.W.Fast.tw14598715356260435866:PySem.Params->PySem.Obj:=Uv
theorem PySem.W.Fast.te14598715356260435866:Uv=PySem.W.Fast.tw14598715356260435866:=rfl
noncomputable def PySem.W.Fast.tw567156917259096694:PySem.Program:=PySem.Challenge.pw_hushrow_k33_reached
theorem PySem.W.Fast.te567156917259096694:PySem.Challenge.pw_hushrow_k33_reached=PySem.W.Fast.tw567156917259096694:=rfl
noncomputable def PySem.W.Fast.tw17447527254472988384:PySem.Params->Q3:=K33.heapK
theorem PySem.W.Fast.te17447527254472988384:K33.heapK=PySem.W.Fast.tw17447527254472988384:=rfl
lay_quick K33.lookL K33.lookO K33.lookQ K33.lookY K33.lookB K33.lookW K33.lookX K33.lookU K33.lookV K33.lookM K33.lookS
name_quick K33lookL for K33.lookL by K33.lookL_self
name_quick K33lookO for K33.lookO by K33.lookO_self
name_quick K33lookQ for K33.lookQ by K33.lookQ_self
name_quick K33lookY for K33.lookY by K33.lookY_self
name_quick K33lookB for K33.lookB by K33.lookB_self
name_quick K33lookW for K33.lookW by K33.lookW_self
name_quick K33lookX for K33.lookX by K33.lookX_self
name_quick K33lookU for K33.lookU by K33.lookU_self
name_quick K33lookV for K33.lookV by K33.lookV_self
name_quick K33lookM for K33.lookM by K33.lookM_self
name_quick K33lookS for K33.lookS by K33.lookS_self
namespace K33
open PySem L2 PySem.W
theorem wR:W.Fast.K33lookY=W.Fast.K33lookB:=by kernel_rfl
theorem wU:W.Fast.K33lookM=W.Fast.K33lookS:=by kernel_rfl
theorem vS:W.Fast.K33lookO=W.Fast.K33lookQ:=by kernel_rfl
theorem yB:W.Fast.K33lookL=uC:=by kernel_rfl
theorem xO:lookY=lookB:=W.Fast.K33lookY_eq.trans (wR.trans W.Fast.K33lookB_eq.symm)
theorem vL:W.Fast.K33lookW=uC:=by kernel_rfl
theorem yn:lookW=uC:=W.Fast.K33lookW_eq.trans vL
theorem wz:W.Fast.K33lookX=uC:=by kernel_rfl
theorem yp:lookX=uC:=W.Fast.K33lookX_eq.trans wz
theorem we:W.Fast.K33lookU=W.Fast.K33lookV:=by kernel_rfl
theorem xq:lookU=lookV:=W.Fast.K33lookU_eq.trans (we.trans W.Fast.K33lookV_eq.symm)
theorem xE:lookO=lookQ:=W.Fast.K33lookO_eq.trans (vS.trans W.Fast.K33lookQ_eq.symm)
theorem zt:lookL=uC:=W.Fast.K33lookL_eq.trans yB
theorem x9:lookM=lookS:=W.Fast.K33lookM_eq.trans (wU.trans W.Fast.K33lookS_eq.symm)
theorem GJ(P:QR):absHeap (T₀ P) 11 {}=Sr P:=by kernel_rfl
theorem FH(w:Pf):((Sr w.params).isNs Pw&&(OA []:Array So).size==0,(Sr w.params).objs.size,(Sr w.params).nsMap Pw "__annotations__")=(true,11,Vn (.ref 6)):=by kernel_rfl
theorem left:LeftO prog fZ ["links","reached"] test hook.obs hook.val 12266:=Hd.DC (boot_open (p:=prog) (N:=12266) (by kernel_rfl) rfl (λ_=>rfl)) FH GJ (λw os=>congrFun (congrFun zt w) os) (λw os=>congrFun (congrFun xE w) os) (λw os=>congrFun (congrFun xO w) os) (λw os=>congrFun (congrFun yn w) os) (λw os=>congrFun (congrFun yp w) os) (λw os=>congrFun (congrFun xq w) os) (λw os=>congrFun (congrFun x9 w) os)
end K33
namespace L2
open PySem PySem.Spec PyProof.Rows
noncomputable abbrev Key:=Sum Int Str
noncomputable def vd:Key->E9->Bool
 | .inl k,v=>UG k v
 | .inr x,v=>TF x v
noncomputable def L7(w:Pf):Key->Int
 | .inl k=>hashInt k
 | .inr x=>hashStr w x
theorem cJ:∀{k:Key}{v:E9},vd k v=true->(∃i t,k=OF i/\v=Ti i t)\/(∃x t,k=MY x/\v=Tj x t)
 | .inl i,v,h=>by
  obtain⟨t,e⟩:=Ud (k:=i) (v:=v) h;exact .inl ⟨i,t,rfl,e⟩
 | .inr x,v,h=>by
  obtain⟨t,e⟩:=Tu (x:=x) (v:=v) h;exact .inr ⟨x,t,rfl,e⟩
theorem BV(i:Int)(t:Tok):vd (.inl i) (.int i t)=true:=by simp[vd,UG]
theorem Bq(x:Str)(t:Tok):vd (.inr x) (.str x t)=true:=by simp[vd,TF]
theorem IT(a b:Int):decide ((OF a:Key)=OF b)=(a==b):=by
 by_cases e:a=b
 ·subst e;simp
 have h:¬ (OF a:Key)=OF b:=λq=>e (OF.inj q);rw[decide_eq_false h];exact(beq_eq_false_iff_ne.mpr e).symm
theorem Iv(a b:Str):decide ((MY a:Key)=MY b)=decide (a=b):=by
 by_cases e:a=b
 ·subst e;simp
 have h:¬ (MY a:Key)=MY b:=λq=>e (MY.inj q);rw[decide_eq_false h,decide_eq_false e]
theorem Iy(a:Int)(b:Str):decide ((OF a:Key)=MY b)=false:=decide_eq_false (λq=>nomatch q)
theorem Hw(a:Str)(b:Int):decide ((MY a:Key)=OF b)=false:=decide_eq_false (λq=>nomatch q)
noncomputable def bR(prog:Program)(w:Pf):PySem.KeyKind prog w Key where
 is:=vd
 hash:=L7 w
 inj:=λv a b ha hb=>by
  rcases cJ ha with⟨i,t,rfl,rfl⟩|⟨x,t,rfl,rfl⟩
  ·rcases cJ hb with⟨j,u,rfl,e⟩|⟨y,u,rfl,e⟩
   ·injection e with e1 _;rw[e1]
   exact nomatch e
  rcases cJ hb with⟨j,u,rfl,e⟩|⟨y,u,rfl,e⟩
  ·exact nomatch e
  injection e with e1 _;rw[e1]
 byValue:=λk v h=>by
  rcases cJ h with⟨i,t,rfl,rfl⟩|⟨x,t,rfl,rfl⟩<;>rfl
 pyHash:=λhv h=>by
  rcases cJ hv with⟨i,t,rfl,rfl⟩|⟨x,t,rfl,rfl⟩
  ·exact wpAny_pyHash_int h
  exact wpAny_pyHash_str h
 eqBool:=λhu hv h=>by
  rcases cJ hu with⟨i,t,rfl,rfl⟩|⟨x,t,rfl,rfl⟩
  ·rcases cJ hv with⟨j,u,rfl,rfl⟩|⟨y,u,rfl,rfl⟩
   ·rw[IT]at h;exact wpAny_eqBool_int h
   rw[Iy]at h;exact TN i t y u _ _ _ _ h
  rcases cJ hv with⟨j,u,rfl,rfl⟩|⟨y,u,rfl,rfl⟩
  ·rw[Hw]at h;exact TQ x t j u _ _ _ _ h
  rw[Iv]at h;exact wpAny_eqBool_str h
 «strs»:=λk x t v h=>by
  rcases cJ h with⟨i,u,rfl,e⟩|⟨y,u,rfl,e⟩
  ·exact nomatch e
  injection e with e1 _;subst e1;cases v<;>rfl
theorem yt(prog:Program)(w:Pf)(i:Int)(t:Tok):(bR prog w).is (.inl i) (.int i t)=true:=BV i t
theorem yD(prog:Program)(w:Pf)(x:Str)(t:Tok):(bR prog w).is (.inr x) (.str x t)=true:=Bq x t
inductive V where
 |non|bl (b:Bool)|int (i:Int)|str (x:Str)|byt (b:Array UInt8)|flt (b:UInt64)|ref (a:O4)|ty (n:String)
 deriving DecidableEq
noncomputable def Vr:V->E9->Prop
 | .non,u=>u=TR
 | .bl b,u=>u=TU b
 | .int i,u=>∃t,u=Ti i t
 | .str x,u=>∃t,u=Tj x t
 | .byt b,u=>∃t,u=Value.bytes b t
 | .flt b,u=>∃t,u=UH b t
 | .ref a,u=>u=Py a
 | .ty n,u=>u=Rr n
abbrev Vp:List V->List E9->Prop:=Paired Vr
theorem Vp.length{xs:List V}{us:List E9}(r:Vp xs us):xs.length=us.length:=Pd r
theorem Vp.get:∀{xs:List V}{us:List E9}{i:Nat}{x:V},Vp xs us->xs[i]?=Vn x->∃u,us[i]?=Vn u/\Vr x u
 |_,_,_,_,.nil,e=>by simp at e
 |_,_,0,_,.cons r _,e=>by simp at e;subst e;exact{_,rfl,r}
 |_,_,i+1,x,.cons _ t,e=>by
  obtain⟨u,h1,h2⟩:=Vp.get (i:=i) (x:=x) t (by simpa using e);exact⟨u,by simpa using h1,h2⟩
theorem Vp.set{x:V}{u:E9}(r:Vr x u):∀{xs:List V}{us:List E9}(i:Nat),Vp xs us->Vp (xs.set i x) (us.set i u)
 |_,_,_,.nil=>.nil
 |_,_,0,.cons _ t=>.cons r t
 |_,_,i+1,.cons q t=>.cons q (Vp.set r i t)
theorem Vp.append:∀{xs ys:List V}{us ws:List E9},Vp xs us->Vp ys ws->Vp (xs++ys) (us++ws)
 |_,_,_,_,.nil,s=>s
 |_,_,_,_,.cons r t,s=>.cons r (Vp.append t s)
theorem Vp.take:∀{xs:List V}{us:List E9}(n:Nat),Vp xs us->Vp (xs.take n) (us.take n)
 |_,_,0,_=>.nil
 |_,_,_+1,.nil=>.nil
 |_,_,n+1,.cons r t=>.cons r (Vp.take n t)
theorem Vp.drop:∀{xs:List V}{us:List E9}(n:Nat),Vp xs us->Vp (xs.drop n) (us.drop n)
 |_,_,0,r=>r
 |_,_,_+1,.nil=>.nil
 |_,_,n+1,.cons _ t=>Vp.drop n t
theorem Vp.none_of:∀{xs:List V}{us:List E9}{i:Nat},Vp xs us->xs[i]?=Vo->us[i]?=Vo:=λ{xs us i} r e=>by
 have h1:=r.length;have h2:xs.length<=i:=Og.mp e;exact Og.mpr (by lia)
noncomputable def nh:Option V->Option E9->Prop
 |some v,Vn u=>Vr v u
 |none,Vo=>True
 |_,_=>False
def KV{κ:Type}:List (κ×V)->List (κ×E9)->Prop:=Paired λ(p:κ×V)(q:κ×E9)=>p.1=q.1/\Vr p.2 q.2
noncomputable def kV:Key->V
 | .inl i=>.int i
 | .inr x=>.str x
inductive HO where
 |lst (xs:List V)
 |tup (xs:List V)
 |dK (kvs:List (Key×V))|dT (kvs:List (List Key×V))
 |set (S:Int->Bool) (n:Nat)
 |ins (C dx:O4) (fs:List (Str×V))
 |own (x:O4)
 |xd (fs:List (Str×V))
 |met (f x:O4)
 |rng (lo hi:Int)
 |frz (o:Obj) (u:HO)
 |tbl (ps:Array E9)
 |ext (φ:PH->Prop)
noncomputable abbrev Hp:=O4->Option HO
noncomputable def upd(H:Hp)(a:O4)(o:HO):Hp:=λb=>if b=a then Vn o else H b
theorem ao{H:Hp}{a:O4}{o:HO}:upd H a o a=Vn o:=by unfold upd;rw[if_pos rfl]
theorem aY{H:Hp}{a b:O4}{o:HO}(h:b≠a):upd H a o b=H b:=by unfold upd;rw[if_neg h]
theorem F8{H:Hp}{a:O4}{o u:HO}:upd (upd H a o) a u=upd H a u:=by
 funext b;unfold upd;split<;>rfl
theorem Ku{H:Hp}{a b:O4}{o u:HO}(h:H a=Vn o)(h':H b=Vn u)(d:o≠u):a≠b:=by
 intro e;subst e;rw[h]at h';exact d (Pn h')
theorem fG{H:Hp}{a b:O4}{o:HO}(h:H a=Vn o)(h':H b=Vo):a≠b:=by
 intro e;subst e;rw[h]at h';cases h'
section
variable(P:Program)(w:Pf)
noncomputable def cR(H:Hp)(h:PH)(a:O4):HO->Prop
 | .lst xs=>xs.length<=sizeLine/\∃(its:List E9)(n:Nat),Vp xs its/\h.get? a=Vn { cls:=.type "list",data:=.seq its.toArray n }
 | .tup xs=>xs.length<=sizeLine/\∃its:List E9,Vp xs its/\IsTup h a its.toArray
 | .dK kvs=>kvs.length<=sizeLine/\(a==Qq)=false/\∃vs,KV kvs vs/\h.DictOf (bR P w) a vs
 | .dT kvs=>kvs.length<=sizeLine/\(a==Qq)=false/\∃xs:List (List Key×O4×E9),
   Paired (λ(p:List Key×V)(q:List Key×O4×E9)=>p.1=q.1/\H q.2.1=Vn (.tup (p.1.map kV))/\Vr p.2 q.2.2) kvs xs/\
   ∃o es ep,h.get? a=Vn o/\o.ExactDict/\o.data=.dict es ep/\es.toList=xs.map (entryOfKey (Tn (bR P w)))/\(xs.map (·.1)).Nodup
 | .set S n=>h.SetOf (intKind P w) a S n
 | .ins C dx fs=>H dx=Vn (.own a)/\fs.length<=1000/\dx≠a/\h.get? a=Vn (Rt C dx)/\
   ∃mA,h.Ns1 dx mA/\(∀f,nh (fs.lookup f) (mA f))/\Ue mA (fs.map (·.1))
 | .own _=>∃o,h.get? a=Vn o
 | .xd fs=>∃mA,h.Ns1 a mA/\∀f,nh (fs.lookup f) (mA f)
 | .rng lo hi=>∃t u v,h.get? a=Vn { cls:=.type "range",data:=.fields #[.int lo t,.int hi u,.int 1 v] }
 | .frz o u=>h.get? a=Vn o/\cR H h a u
 | .tbl ps=>h.get? a=Vn { cls:=.none,data:=.fields ps }
 | .met f x=>h.get? a=Vn (UI (.ref f) (.ref x))
 | .ext φ=>φ h/\(∃o,h.get? a=Vn o)/\∀h1 h2:PH,φ h1->(∀o,h1.get? a=Vn o->h2.get? a=Vn o)->φ h2
def HOk(H:Hp)(h:PH):Prop:=∀a o,H a=Vn o->cR P w H h a o
end
section
variable{P:Program}{w:Pf}{H H':Hp}{h h':PH}{a:O4}{o:HO}
theorem cR.lt(x:cR P w H h a o):a<h.objs.size:=by
 cases o with
 |lst xs=>obtain⟨_,_,_,_,e⟩:=x;exact Pl e
 |tup xs=>obtain⟨_,_,_,p⟩:=x;exact p.lt
 |dK kvs=>obtain⟨_,_,_,_,o,_,_,e,_⟩:=x;exact Pl e
 |dT kvs=>obtain⟨_,_,_,_,o,_,_,e,_⟩:=x;exact Pl e
 |set S n=>obtain⟨o,_,_,_,e,_⟩:=x;exact Pl e
 |ins C dx fs=>obtain⟨_,_,_,e,_⟩:=x;exact Pl e
 |own y=>obtain⟨_,e⟩:=x;exact Pl e
 |xd fs=>obtain⟨_,⟨_,_,_,e,_⟩,_⟩:=x;exact Pl e
 |rng lo hi=>obtain⟨_,_,_,e⟩:=x;exact Pl e
 |frz ob u=>obtain⟨e,_⟩:=x;exact Pl e
 |tbl ps=>exact Pl (show h.get? a=Vn _ from x)
 |met f y=>exact Pl (show h.get? a=Vn _ from x)
 |ext φ=>obtain⟨_,⟨_,e⟩,_⟩:=x;exact Pl e
theorem Paired.sY{α β:Type}{F G:α->β->Prop}:∀{l₁:List α}{l₂:List β},Paired F l₁ l₂->(∀a b,F a b->G a b)->Paired G l₁ l₂
 |_,_,.nil,_=>.nil
 |_,_,.cons r t,f=>.cons (f _ _ r) (Paired.sY t f)
theorem cR.yO(x:cR P w H h a o)(k:∀b u,(b=a\/H b=Vn (.own a))->h.get? b=Vn u->h'.get? b=Vn u)
  (ho:∀b,H b=Vn (.own a)->H' b=Vn (.own a)) (ht:∀b xs,H b=Vn (.tup xs)->H' b=Vn (.tup xs)):cR P w H' h' a o:=by
 induction o with
 |lst xs=>obtain⟨z,its,n,r,e⟩:=x;exact{z,its,n,r,k _ _ (.inl rfl) e}
 |tup xs=>obtain⟨z,its,r,ob,e,c⟩:=x;exact{z,its,r,ob,k _ _ (.inl rfl) e,c}
 |dK kvs=>obtain⟨z,y,vs,r,ob,es,ep,e,c⟩:=x;exact{z,y,vs,r,ob,es,ep,k _ _ (.inl rfl) e,c}
 |dT kvs=>
  obtain⟨z,y,xs,r,ob,es,ep,e,c⟩:=x
  exact{z,y,xs,Paired.sY r λp q z=>{z.1,ht _ _ z.2.1,z.2.2},ob,es,ep,k _ _ (.inl rfl) e,c}
 |set S n=>obtain⟨ob,es,ep,t,e,c⟩:=x;exact{ob,es,ep,t,k _ _ (.inl rfl) e,c}
 |ins C dx fs=>
  obtain⟨d,z,ne,e,mA,⟨od,es,ep,e2,c⟩,r⟩:=x
  exact{ho _ d,z,ne,k _ _ (.inl rfl) e,mA,{od,es,ep,k _ _ (.inr d) e2,c},r}
 |own y=>obtain⟨ob,e⟩:=x;exact{ob,k _ _ (.inl rfl) e}
 |xd fs=>obtain⟨mA,⟨od,es,ep,e,c⟩,r⟩:=x;exact{mA,{od,es,ep,k _ _ (.inl rfl) e,c},r}
 |rng lo hi=>obtain⟨t,u,v,e⟩:=x;exact{t,u,v,k _ _ (.inl rfl) e}
 |frz ob u ih=>obtain⟨e,q⟩:=x;exact{k _ _ (.inl rfl) e,ih q}
 |tbl ps=>
  have e:h.get? a=Vn { cls:=.none,data:=.fields ps }:=x
  show h'.get? a=Vn { cls:=.none,data:=.fields ps }
  exact k a _ (.inl rfl) e
 |met f y=>
  have e:h.get? a=Vn (UI (.ref f) (.ref y)):=x
  show h'.get? a=Vn (UI (.ref f) (.ref y))
  exact k a _ (.inl rfl) e
 |ext φ=>obtain⟨p,⟨o,e⟩,st⟩:=x;exact{st _ _ p λo q=>k _ _ (.inl rfl) q,{o,k _ _ (.inl rfl) e},st}
theorem HOk.lt(x:HOk P w H h)(e:H a=Vn o):a<h.objs.size:=(x a o e).lt
theorem HOk.fresh(x:HOk P w H h)(e:h.objs.size<=a):H a=Vo:=by
 cases q:H a with
 |none=>rfl
 |some u=>exact absurd (MV (x.lt q) e) (NL _)
theorem HOk.kept(x:HOk P w H h)(k:∀b u,h.get? b=Vn u->h'.get? b=Vn u):HOk P w H h':=λa o e=>
 (x a o e).yO (λb u _ q=>k b u q) (λ_ q=>q) λ_ _ q=>q
theorem HOk.laid(x:HOk P w H h)(k:∀b u,h.get? b=Vn u->h'.get? b=Vn u)(hp:h.objs.size<=a)(new:cR P w (upd H a o) h' a o):HOk P w (upd H a o) h':=λb u e=>by
 have hn:=x.fresh hp;by_cases hb:b=a
 ·subst hb;rw[ao]at e;cases e;exact new
 rw[aY hb]at e;exact(x b u e).yO (λc v _ q=>k c v q) (λc q=>by rw[aY (fG q hn)];exact q) λc xs q=>by rw[aY (fG q hn)];exact q
end
def Rd(H:Hp)(a:O4)(u:HO):Prop:=H a=Vn u\/∃o,H a=Vn (.frz o u)
theorem Rd.ok{P:Program}{w:Pf}{H:Hp}{h:PH}{a:O4}{u:HO}(r:Rd H a u)(x:HOk P w H h):cR P w H h a u:=by
 rcases r with r|⟨o,r⟩
 ·exact x a u r
 obtain⟨_,q⟩:=x a _ r;exact q
noncomputable def Mut:Option HO->Prop
 |some (.lst _)=>True
 |some (.dK _)=>True
 |some (.dT _)=>True
 |some (.set _ _)=>True
 |some (.ins _ _ _)=>True
 |some (.ext _)=>True
 |_=>False
section
variable{P:Program}{w:Pf}{H:Hp}{h h':PH}{x e:O4}{o':HO}
theorem HOk.write(ok:HOk P w H h)(mu:Mut (H x))(he:e=x\/H e=Vn (.own x))(k:∀b u,b≠e->h.get? b=Vn u->h'.get? b=Vn u)(heo:∃u,h'.get? e=Vn u)
  (new:cR P w (upd H x o') h' x o'):HOk P w (upd H x o') h':=λb u q=>by
 have nown:∀c y,H c=Vn (.own y)->c≠x:=λc y r z=>by subst z;rw[r]at mu;exact mu
 have ntup:∀c xs,H c=Vn (.tup xs)->c≠x:=λc xs r z=>by subst z;rw[r]at mu;exact mu
 by_cases hb:b=x
 ·subst hb;rw[ao]at q;cases q;exact new
 rw[aY hb]at q
 by_cases hbe:b=e
 ·have q':H b=Vn (.own x):=by
   rcases he with z|z
   ·exact absurd (hbe.trans z) hb
   rw[hbe];exact z
  rw[q]at q';cases q';obtain⟨v,hv⟩:=heo;exact{v,by rw[hbe];exact hv}
 refine(ok b u q).yO (λc v hc r=>k c v ?_ r) (λc r=>by rw[aY (nown c b r)];exact r) λc xs r=>by rw[aY (ntup c xs r)];exact r
 rcases hc with rfl|hc
 ·exact hbe
 rintro rfl
 rcases he with z|z
 ·exact nown c b hc z
 rw[hc]at z;cases z;exact hb rfl
end
structure Un(fs ex:List O4)(H H':Hp)(h h':PH):Prop where
 keep:∀b o,h.get? b=Vn o->H b=Vo->b∉fs->b∉ex->h'.get? b=Vn o
 slot:∀b o,h.get? b=Vn o->H b=Vo->b∈fs->b∉ex->∃sl,h'.get? b=Vn { o with slots:=sl }
 free:∀b o,h.get? b=Vn o->H b=Vo->b∉ex->H' b=Vo
 there:∀b o,h.get? b=Vn o->b∉ex->∃o',h'.get? b=Vn o'
 vT:∀b xs,H b=Vn (.tup xs)->H' b=Vn (.tup xs)
 uf:∀b o u,H b=Vn (.frz o u)->H' b=Vn (.frz o u)
 vz:∀b ps,H b=Vn (.tbl ps)->∃more,H' b=Vn (.tbl (ps++more))
section
variable{fs fs' ex ex':List O4}{H H1 H2:Hp}{h h1 h2 h':PH}{a x e:O4}{o:HO}
theorem Un.any(u:Un fs ex H H1 h h1){b:O4}{ob:Obj}(q:h.get? b=Vn ob)(n:H b=Vo)(hx:b∉ex):∃sl,h1.get? b=Vn { ob with slots:=sl }:=by
 by_cases hb:b∈fs
 ·exact u.slot b ob q n hb hx
 exact⟨ob.slots,u.keep b ob q n hb hx⟩
theorem Un.kept(k:∀b u,h.get? b=Vn u->h'.get? b=Vn u):Un fs ex H H h h':=
 {λb ob q _ _ _=>k b ob q,λb ob q _ _ _=>⟨ob.slots,k b ob q⟩,λ_ _ _ n _=>n,λb ob q _=>⟨ob,k b ob q⟩,λ_ _ q=>q,λ_ _ _ q=>q,λ_ ps q=>{#[],by rw[q];simp}}
theorem Un.refl:Un fs ex H H h h:=Un.kept λ_ _ q=>q
theorem Un.laid(k:∀b u,h.get? b=Vn u->h'.get? b=Vn u)(hp:h.objs.size<=a)(hn:H a=Vo):Un fs ex H (upd H a o) h h' where
 keep:=λb u q _ _ _=>k b u q
 slot:=λb u q _ _ _=>⟨u.slots,k b u q⟩
 free:=λb u q n _=>by rw[aY (Na (MV (Pl q) hp))];exact n
 there:=λb u q _=>⟨u,k b u q⟩
 vT:=λb xs q=>by rw[aY (fG q hn)];exact q
 uf:=λb u xs q=>by rw[aY (fG q hn)];exact q
 vz:=λb ps q=>{#[],by rw[aY (fG q hn),q];simp}
theorem Un.write(mu:Mut (H x))(he:e=x\/H e=Vn (.own x))(k:∀b u,b≠e->h.get? b=Vn u->h'.get? b=Vn u)(heo:∃u,h'.get? e=Vn u):Un fs ex H (upd H x o) h h':=by
 have hx:∀b,H b=Vo->b≠x:=λb n z=>by subst z;rw[n]at mu;exact mu
 have hb:∀b,H b=Vo->b≠e:=λb n z=>by
  subst z;rcases he with r|r
  ·exact hx b n r
  rw[n]at r;cases r
 have hm:∀b u,H b=Vn u->¬ Mut (Vn u)->b≠x:=λb u q nm z=>by subst z;rw[q]at mu;exact nm mu
 refine{λb u q n _ _=>k b u (hb b n) q,λb u q n _ _=>{u.slots,k b u (hb b n) q},λb u q n _=>by rw[aY (hx b n)];exact n,λb u q _=>?_,
  λb xs q=>by rw[aY (hm b _ q λz=>z)];exact q,λb u xs q=>by rw[aY (hm b _ q λz=>z)];exact q,λb ps q=>{#[],by rw[aY (hm b _ q λz=>z),q];simp}}
 by_cases hbe:b=e
 ·subst hbe;exact heo
 exact⟨u,k b u hbe q⟩
end
noncomputable def trk(h:PH)(H:Hp):List O4:=(Pu h.objs.size).filter λa=>(H a).isSome
noncomputable def vH(h:PH)(H:Hp):PH:=W.hideAll h (trk h H)
theorem BS(h:PH)(H:Hp):(vH h H).objs.size=h.objs.size:=W.hideAll_size _ _
theorem DG{h:PH}{H:Hp}{b:O4}{o:Obj}(e:h.get? b=Vn o)(n:H b=Vo):(vH h H).get? b=Vn o:=
 W.hideAll_get _ e λhm=>by
  have q:(H b).isSome=true:=(Nh.mp hm).2;rw[n]at q;simp at q
theorem F5{h:PH}{H:Hp}{b:O4}{o:Obj}(e:(vH h H).get? b=Vn o):h.get? b=Vn o/\H b=Vo:=by
 have e':h.get? b=Vn o:=W.of_hideAll (trk h H) e;refine{e',?_};cases q:H b with
 |none=>rfl
 |some x=>
  have hm:b∈trk h H:=Nh.mpr {List.mem_range.mpr (Pl e'),by simp[q]};have z:(vH h H).get? b=Vo:=W.hideAll_none (trk h H) hm;rw[z]at e;cases e
structure Mod(K:Pa)(mg:Str->Option E9)(base:PH):Prop where
 kin:K.In base
 glob:base.Ns Pw mg
 blt:∃mb,base.Ns SG mb/\∀x:Str,x≠"__name__"->mb x=QE x
 nolimit:base.NoLimit
structure Cx where
 prog:Program
 w:Pf
 K:Pa
 mg:Str->Option E9
 base:PH
 A:Pp
 N:List Str
 s₀:O5
 H₀:Hp
 env:Env
 outer:List Env
 stack:List Env
 ex:List O4
 fn:Str->Bool
 calm:Bool
 pn:List (O4×Obj)
 xe:E9->O5->Prop
noncomputable def frs(l:List Env):List O4:=l.filterMap (·.frame)
noncomputable abbrev Cx.fs(X:Cx):List O4:=frs X.outer
def Vis(sc:Rg)(x:Str):Prop:=sc.names.lookup x=Vn .local\/sc.names.lookup x=Vn .cell\/sc.names.lookup x=Vn .free
def Loc(sc:Rg)(x:Str):Prop:=sc.names.lookup x=Vn .local\/sc.names.lookup x=Vn .cell
def VJ(env:Env)(h:PH)(m:Str->Option E9)(x:Str)(u:E9):Prop:=
 (env.kindOf x=Vn .local/\m x=Vn u)\/((env.kindOf x=Vn .cell\/env.kindOf x=Vn .free)/\∃c,env.cells.lookup x=Vn c/\h.IsCell c (Vn u))
structure Cx.Ok(X:Cx):Prop where
 mod:Mod X.K X.mg X.base
 kind:X.env.scope.kind=.function
 glob:X.env.globals=Pw
 blt:X.env.builtins=SG
 above:X.s₀.heap.objs.size<=X.env.locals
 inj:∀x y c,X.env.cells.lookup x=Vn c->X.env.cells.lookup y=Vn c->x=y
 has:∀x,(X.env.kindOf x=Vn .cell\/X.env.kindOf x=Vn .free)->∃c,X.env.cells.lookup x=Vn c
 cab:∀x c,X.fn x=true->X.env.cells.lookup x=Vn c->X.s₀.heap.objs.size<=c
 hd:X.calm=true->X.A.handled=Vo
 frames:X.A.frames=Vn X.stack
 stk:X.stack=X.outer\/(X.stack=X.env::X.outer/\X.env.frame=Vn X.env.locals)
 exf:∀b∈X.ex,b≠X.env.locals/\∀x c,X.env.cells.lookup x=Vn c->c≠b
 bs:∀b o,X.base.get? b=Vn o->X.s₀.heap.get? b=Vn o/\X.H₀ b=Vo
 bsz:X.base.objs.size<=X.s₀.heap.objs.size
 DA:∀b o,X.base.get? b=Vn o->b∉X.ex
 DM:∀b∈X.ex,b∉X.fs
 qv:X.s₀.heap.FunFrames X.base X.outer
 frf:∀b∈X.fs,X.H₀ b=Vo
structure Inv(X:Cx)(pins:List (O4×Obj))(σ:List (Option V))(H:Hp)(s:O5):Prop where
 ok:X.Ok
 os:s.os=X.s₀.os
 bare:Se s.gens
 base:Un X.fs X.ex X.H₀ H X.s₀.heap s.heap
 loc:∃m,s.heap.Ns X.env.locals m/\∀(i:Nat)(x:Str)(v:V),X.N[i]?=Vn x->σ[i]?=Vn (Vn v)->Vis X.env.scope x->∃u,Vr v u/\VJ X.env s.heap m x u
 cell:∀x c,X.env.cells.lookup x=Vn c->∃v,s.heap.IsCell c v
 free:H X.env.locals=Vo
 kU:∀x c,X.env.cells.lookup x=Vn c->H c=Vo
 pin:∀p∈X.pn++pins,s.heap.get? p.1=Vn p.2/\H p.1=Vo/\p.1≠X.env.locals/\p.1∉X.fs/\∀v,p.2.data≠ .cell v
 hok:HOk X.prog X.w H s.heap
 len:σ.length=X.N.length
section
variable{X:Cx}{pins:List (O4×Obj)}{σ:List (Option V)}{H H':Hp}{s:O5}{h':PH}
theorem Cx.Ok.Mb(ok:X.Ok){b:O4}{o:Obj}(e:X.base.get? b=Vn o):b∉X.fs:=λhb=>by
 have:=(ok.qv.mem hb).1;rw[e]at this;cases this
theorem Inv.bs(I:Inv X pins σ H s):∀b o,X.base.get? b=Vn o->s.heap.get? b=Vn o/\H b=Vo:=λb o e=>
 {I.base.keep b o (I.ok.bs b o e).1 (I.ok.bs b o e).2 (I.ok.Mb e) (I.ok.DA b o e),I.base.free b o (I.ok.bs b o e).1 (I.ok.bs b o e).2 (I.ok.DA b o e)}
theorem Inv.bk(I:Inv X pins σ H s):∀b o,X.base.get? b=Vn o->s.heap.get? b=Vn o:=λb o e=>(I.bs b o e).1
theorem Inv.mod(I:Inv X pins σ H s):Mod X.K X.mg X.base:=I.ok.mod
theorem Inv.kIn(I:Inv X pins σ H s):X.K.In s.heap:=I.ok.mod.kin.keeps I.bk
theorem Inv.lt(I:Inv X pins σ H s):X.env.locals<s.heap.objs.size:=let ⟨_,hn,_⟩:=I.loc;hn.lt
theorem Inv.sz(I:Inv X pins σ H s):X.s₀.heap.objs.size<=s.heap.objs.size:=ME I.ok.above (Om I.lt)
theorem Inv.Lc(I:Inv X pins σ H s){a:O4}(h:s.heap.objs.size<=a):a∉X.fs:=λhb=>by
 obtain⟨_,o,ho,_⟩:=I.ok.qv.mem hb;exact absurd (MV (Pl ho) (ME I.sz h)) (NL _)
theorem Inv.cne(I:Inv X pins σ H s):∀x c,X.env.cells.lookup x=Vn c->c≠X.env.locals:=λx c e z=>by
 obtain⟨v,o,ho,hd⟩:=I.cell x c e;obtain⟨m,⟨o',es,ep,ho',hd',_⟩,_⟩:=I.loc;rw[z,ho']at ho;cases ho;rw[hd']at hd;cases hd
theorem Inv.qv(I:Inv X pins σ H s):s.heap.FunFrames X.base X.outer:=by
 have all:∀(l:List Env),(∀b∈frs l,b∈X.fs)->X.s₀.heap.FunFrames X.base l->s.heap.FunFrames X.base l:=by
  intro l;induction l with
  |nil=>intro _ _;trivial
  |cons env r ih=>
   intro hs hl;obtain⟨hk,⟨L,o,hf,hn,ho,hd⟩,hr⟩:=hl;have hL:L∈X.fs:=hs L (by unfold frs;rw[ND,hf];exact MA);obtain⟨sl,e⟩:=I.base.slot L o ho (I.ok.frf L hL) hL λz=>I.ok.DM L z hL;exact{hk,{L,_,hf,hn,e,hd},ih (λb hb=>hs b (by unfold frs;rw[ND,hf];exact Mz _ hb)) hr}
 exact all X.outer (λ_ hb=>hb) I.ok.qv
theorem Inv.stack(I:Inv X pins σ H s):s.heap.FunFrames X.base X.stack:=by
 rcases I.ok.stk with e|⟨e,hf⟩
 ·rw[e];exact I.qv
 rw[e];obtain⟨m,hn,_⟩:=I.loc;refine .cons (by rw[I.ok.kind];decide) hf hn ?_ I.qv;exact Heap.get?_none_of_le (ME I.ok.bsz I.ok.above)
theorem Inv.y9(I:Inv X pins σ H s):∀b∈frs X.stack,b∈X.env.locals::X.fs:=λb hb=>by
 rcases I.ok.stk with e|⟨e,hf⟩
 ·rw[e]at hb;exact Mz _ hb
 rw[e]at hb;unfold frs at hb;rw[ND,hf]at hb;exact hb
theorem Inv.AV(I:Inv X pins σ H s):∀b∈frs X.stack,H b=Vo:=λb hb=>by
 rcases Mw.mp (I.y9 b hb)with e|hb
 ·rw[e];exact I.free
 obtain⟨_,o,ho,_⟩:=I.ok.qv.mem hb;exact I.base.free b o ho (I.ok.frf b hb) λz=>I.ok.DM b z hb
theorem Inv.step{g':Array So}{t':Nat}{d':Drawn}{ch:List O4}(I:Inv X pins σ H s)
  (hch:∀b∈ch,(b∈X.ex\/X.s₀.heap.objs.size<=b)/\b≠X.env.locals/\(∀x c,X.env.cells.lookup x=Vn c->c≠b)/\∀p∈X.pn++pins,p.1≠b)
  (keep:∀b o,b≠X.env.locals->b∉X.fs->b∉ch->s.heap.get? b=Vn o->H b=Vo->h'.get? b=Vn o)
  (slot:∀b o,b≠X.env.locals->b∈X.fs->b∉ch->s.heap.get? b=Vn o->H b=Vo->∃sl,h'.get? b=Vn { o with slots:=sl }) (free:∀b o,b∉ch->s.heap.get? b=Vn o->H b=Vo->H' b=Vo)
  (there:∀b o,b∉ch->s.heap.get? b=Vn o->∃o',h'.get? b=Vn o')
  (vT:∀b xs,H b=Vn (.tup xs)->H' b=Vn (.tup xs)) (uf:∀b o u,H b=Vn (.frz o u)->H' b=Vn (.frz o u)) (vz:∀b ps,H b=Vn (.tbl ps)->∃more,H' b=Vn (.tbl (ps++more)))
  (ns:∀m,s.heap.Ns X.env.locals m->h'.Ns X.env.locals m) (hok:HOk X.prog X.w H' h') (hg:Se g') :
  Inv X pins σ H' { s with heap:=h',gens:=g',drawn:=d',toks:=t' }:=by
 have neL:∀b o,X.s₀.heap.get? b=Vn o->b≠X.env.locals:=λb o e=>Na (MV (Pl e) I.ok.above)
 have neC:∀b o,X.s₀.heap.get? b=Vn o->b∉X.ex->b∉ch:=λb o e hx hb=>by
  rcases(hch b hb).1 with z|z
  ·exact hx z
  exact absurd (MV (Pl e) z) (NL _)
 have cellK:∀x c,X.env.cells.lookup x=Vn c->∀v,s.heap.IsCell c v->h'.IsCell c v:=λx c e v ⟨o,ho,hd⟩=>by
  have nch:c∉ch:=λz=>(hch c z).2.2.1 x c e rfl;by_cases hc:c∈X.fs
  ·obtain⟨sl,q⟩:=slot c o (I.cne x c e) hc nch ho (I.kU x c e);exact{_,q,hd}
  exact{o,keep c o (I.cne x c e) hc nch ho (I.kU x c e),hd}
 refine{I.ok,I.os,hg,{λb o e n hb hx=>?_,λb o e n hb hx=>?_,λb o e n hx=>?_,λb o e hx=>?_,λb xs e=>vT b xs (I.base.vT b xs e),λb o xs e=>uf b o xs (I.base.uf b o xs e),λb ps e=>?_},?_,λx c e=>?_,?_,λx c e=>?_,λp hp=>?_,hok,I.len}
 ·exact keep b o (neL b o e) hb (neC b o e hx) (I.base.keep b o e n hb hx) (I.base.free b o e n hx)
 ·obtain⟨sl,e1⟩:=I.base.slot b o e n hb hx;obtain⟨sl',e2⟩:=slot b _ (neL b o e) hb (neC b o e hx) e1 (I.base.free b o e n hx);exact⟨sl',e2⟩
 ·obtain⟨o',e1⟩:=I.base.there b o e hx;exact free b o' (neC b o e hx) e1 (I.base.free b o e n hx)
 ·obtain⟨o',e1⟩:=I.base.there b o e hx;exact there b o' (neC b o e hx) e1
 ·obtain⟨m1,e1⟩:=I.base.vz b ps e;obtain⟨m2,e2⟩:=vz b _ e1;exact{m1++m2,by rw[e2,Array.append_assoc]}
 ·obtain⟨m,hn,hl⟩:=I.loc;refine{m,ns m hn,λi x v e1 e2 e3=>?_};obtain⟨u,r,l⟩:=hl i x v e1 e2 e3;refine{u,r,?_};rcases l with l|⟨k,c,e,z⟩
  ·exact .inl l
  exact .inr {k,c,e,cellK x c e _ z}
 ·obtain⟨v,z⟩:=I.cell x c e;exact⟨v,cellK x c e v z⟩
 ·obtain⟨m,⟨o,_,_,ho,_⟩,_⟩:=I.loc;exact free _ o (λz=>(hch _ z).2.1 rfl) ho I.free
 ·obtain⟨v,o,ho,hd⟩:=I.cell x c e;exact free c o (λz=>(hch c z).2.2.1 x c e rfl) ho (I.kU x c e)
 obtain⟨e,n,ne,nf,d⟩:=I.pin p hp
 have nch:p.1∉ch:=λz=>(hch p.1 z).2.2.2 p hp rfl
 exact⟨keep p.1 p.2 ne nf nch e n,free p.1 p.2 nch e n,ne,nf,d⟩
theorem Inv.un{t':Nat}(I:Inv X pins σ H s)(u:Un X.fs [] H H' s.heap h')(hok:HOk X.prog X.w H' h'):Inv X pins σ H' { s with heap:=h',toks:=t' }:=by
 obtain⟨m,⟨o,es,ep,ho,r⟩,_⟩:=id I.loc;obtain⟨sl,hL⟩:=u.any ho I.free (by simp);exact I.step (g':=s.gens) (d':=s.drawn) (ch:=[]) (λ_ z=>nomatch z) (λb o _ hb _ e n=>u.keep b o e n hb (by simp)) (λb o _ hb _ e n=>u.slot b o e n hb (by simp)) (λb o _ e n=>u.free b o e n (by simp)) (λb o _ e=>u.there b o e (by simp)) u.vT u.uf u.vz (λm' hm=>by
  obtain⟨o',es',ep',ho',r'⟩:=hm;rw[ho]at ho';cases ho';exact{_,es',ep',hL,r'}) hok I.bare
theorem Inv.call{g':Array So}{t':Nat}{d':Drawn}{ch:List O4}(I:Inv X pins σ H s)(u:Un (frs X.stack) ch H H' s.heap h')(hok:HOk X.prog X.w H' h')(hg:Se g')
  (hch:∀b∈ch,(b∈X.ex\/X.s₀.heap.objs.size<=b)/\b≠X.env.locals/\(∀x c,X.env.cells.lookup x=Vn c->c≠b)/\∀p∈X.pn++pins,p.1≠b) :
  Inv X pins σ H' { s with heap:=h',gens:=g',drawn:=d',toks:=t' }:=by
 obtain⟨m,⟨o,es,ep,ho,r⟩,_⟩:=id I.loc
 obtain⟨sl,hL⟩:=u.any ho I.free λz=>(hch _ z).2.1 rfl
 exact I.step (ch:=ch) hch (λb o hL hb hc e n=>u.keep b o e n (λz=>(Mw.mp (I.y9 b z)).elim hL hb) hc) (λb o _ _ hc e n=>u.any e n hc) (λb o hc e n=>u.free b o e n hc) (λb o hc e=>u.there b o e hc) u.vT u.uf u.vz (λm' hm=>by
  obtain⟨o',es',ep',ho',r'⟩:=hm;rw[ho]at ho';cases ho';exact{_,es',ep',hL,r'}) hok hg
theorem Inv.turned{t':Nat}{it:O4}(I:Inv X pins σ H s)(k:∀b o,b≠it->s.heap.get? b=Vn o->h'.get? b=Vn o)(hn:H it=Vo)(hL:it≠X.env.locals)
  (h1:it∈X.ex\/X.s₀.heap.objs.size<=it) (h2:∀x c,X.env.cells.lookup x=Vn c->c≠it) (h3:∀p∈X.pn++pins,p.1≠it):Inv X pins σ H { s with heap:=h',toks:=t' }:=by
 have nit:∀b u,H b=Vn u->b≠it:=λb u e z=>by rw[z,hn]at e;cases e
 refine I.step (g':=s.gens) (d':=s.drawn) (ch:=[it]) (λb hb=>?_) (λb o _ _ hc e _=>k b o (λz=>hc (by simp[z])) e) (λb o _ _ hc e _=>{o.slots,k b o (λz=>hc (by simp[z])) e}) (λ_ _ _ _ n=>n)
  (λb o hc e=>{o,k b o (λz=>hc (by simp[z])) e}) (λ_ _ e=>e) (λ_ _ _ e=>e) (λb ps e=>{#[],by rw[e];simp}) (λm hm=>?_) (λb u e=>?_) I.bare
 ·have e:b=it:=by simpa using hb
  subst e;exact⟨h1,hL,h2,h3⟩
 ·obtain⟨o,es,ep,ho,r⟩:=hm;exact{o,es,ep,k _ o (MR hL) ho,r}
 refine(I.hok b u e).yO (λc v hc q=>k c v ?_ q) (λ_ q=>q) λ_ _ q=>q
 rcases hc with z|z
 ·rw[z];exact nit b u e
 exact nit c _ z
theorem Inv.tok(I:Inv X pins σ H s)(t:Nat):Inv X pins σ H { s with toks:=t }:=I.un (h':=s.heap) (t':=t) Un.refl I.hok
theorem Inv.kept{t':Nat}(I:Inv X pins σ H s)(k:∀b u,s.heap.get? b=Vn u->h'.get? b=Vn u):Inv X pins σ H { s with heap:=h',toks:=t' }:=I.un (Un.kept k) (I.hok.kept k)
theorem Inv.laid{a:O4}{o:HO}{t':Nat}(I:Inv X pins σ H s)(k:∀b u,s.heap.get? b=Vn u->h'.get? b=Vn u)(hp:s.heap.objs.size<=a)(new:cR X.prog X.w (upd H a o) h' a o) :
  Inv X pins σ (upd H a o) { s with heap:=h',toks:=t' }:=I.un (Un.laid k hp (I.hok.fresh hp)) (I.hok.laid k hp new)
theorem Inv.write{x e:O4}{o:HO}{t':Nat}(I:Inv X pins σ H s)(mu:Mut (H x))(he:e=x\/H e=Vn (.own x))(k:∀b u,b≠e->s.heap.get? b=Vn u->h'.get? b=Vn u)(heo:∃u,h'.get? e=Vn u)
  (new:cR X.prog X.w (upd H x o) h' x o):Inv X pins σ (upd H x o) { s with heap:=h',toks:=t' }:=I.un (Un.write mu he k heo) (I.hok.write mu he k heo new)
theorem Inv.wL{pins':List (O4×Obj)}(I:Inv X pins σ H s)(h:∀p∈pins',s.heap.get? p.1=Vn p.2/\H p.1=Vo/\p.1≠X.env.locals/\p.1∉X.fs/\∀v,p.2.data≠ .cell v):Inv X pins' σ H s:=
 {I.ok,I.os,I.bare,I.base,I.loc,I.cell,I.free,I.kU,λp hp=>(Mu.mp hp).elim (λz=>I.pin p (MK _ z)) (h p),I.hok,I.len}
theorem xx{N:List Str}(hN:N.Nodup){i j:Nat}{x:Str}(a:N[i]?=Vn x)(b:N[j]?=Vn x):i=j:=by
 obtain⟨h1,e1⟩:=MC.mp a;obtain⟨h2,e2⟩:=MC.mp b;exact(OP hN).mp (e1.trans e2.symm)
theorem Cc{M:Model}{A:Pp}{E:E9->O5->Prop}{i:Nat}{x:Str}{v:V}{u:E9}{Q:Unit->O5->Prop}(I:Inv X pins σ H s)(hN:X.N.Nodup)(hi:X.N[i]?=Vn x)(hx:Loc X.env.scope x)(r:Vr v u)
  (h:∀s',Inv X pins (σ.set i (Vn v)) H s'->(∃a,RJ a s.heap s'.heap/\(a=X.env.locals\/X.env.cells.lookup x=Vn a))->Q () s') (hf:X.fn x=true\/X.env.scope.names.lookup x=Vn .local:=by first|exact .inl rfl|exact .inr rfl|assumption):wpAny M A (Vh X.env x u) Q E s:=by
 obtain⟨m,hn,hl⟩:=id I.loc
 have hcls:(X.env.scope.kind== .class||(X.env.scope.kind== .module&&X.env.locals !=X.env.globals))=false:=by rw[I.ok.kind];rfl
 have hiσ:i<σ.length:=by rw[I.len];exact(MC.mp hi).1
 have cne:=I.cne
 have tracked:∀{a:O4}{h':PH},(∃o,s.heap.get? a=Vn o/\H a=Vo)->RJ a s.heap h'->HOk X.prog X.w H h':=λ{a h'} ha hs b ob e=>by
  obtain⟨_,_,hfree⟩:=ha;refine(I.hok b ob e).yO (λc w' hc q=>(hs.2 c ?_).trans q) (λ_ q=>q) λ_ _ q=>q;rintro rfl;rcases hc with rfl|hc
  ·rw[hfree]at e;cases e
  rw[hfree]at hc;cases hc
 rcases hx with hk|hk
 ·refine wpAny_storeName_local hk hn (λh' hn' hs=>?_) hcls;obtain⟨oL,_,_,hoL,_⟩:=id hn;refine h _ {I.ok,I.os,I.bare,{λb o e n hb hx=>?_,λb o e n hb hx=>?_,I.base.free,λb o e hx=>?_,I.base.vT,I.base.uf,I.base.vz},{_,hn',λj y v' e1 e2 e3=>?_},λy c e=>?_,I.free,I.kU,λp hp=>?_,tracked ⟨oL,hoL,I.free⟩ hs,by simpa using I.len} {_,hs,.inl rfl}
  ·exact(hs.2 b (Na (MV (Pl e) I.ok.above))).trans (I.base.keep b o e n hb hx)
  ·obtain⟨sl,e1⟩:=I.base.slot b o e n hb hx;exact{sl,(hs.2 b (Na (MV (Pl e) I.ok.above))).trans e1}
  ·obtain⟨o',e1⟩:=I.base.there b o e hx;exact{o',(hs.2 b (Na (MV (Pl e) I.ok.above))).trans e1}
  ·by_cases hj:j=i
   ·subst hj;rw[hi]at e1;cases e1;rw[Ow hiσ]at e2;cases e2;exact{u,r,.inl ⟨hk,by simp⟩}
   rw[S9 (MR hj)]at e2;obtain⟨u',r',q⟩:=hl j y v' e1 e2 e3;refine{u',r',?_};rcases q with⟨k,e⟩|⟨k,c,e,z⟩
   ·refine .inl {k,?_};have:y≠x:=λe=>hj (xx hN e1 (e▸hi));simp[this,e]
   exact .inr {k,c,e,z.sameBut hs (cne y c e)}
  ·obtain⟨w',z⟩:=I.cell y c e;exact{w',z.sameBut hs (cne y c e)}
  obtain⟨e,n,ne,nf,d⟩:=I.pin p hp;exact{(hs.2 p.1 ne).trans e,n,ne,nf,d}
 have hfn:X.fn x=true:=by
  rcases hf with z|z
  ·exact z
  rw[z]at hk;cases hk
 obtain⟨c,hc⟩:=I.ok.has x (.inl hk)
 obtain⟨w',z⟩:=I.cell x c hc
 refine wpAny_storeName_cell I.ok.kind hk hc z (λh' hc' hs=>?_)
 obtain⟨oc,hoc,hocd⟩:=id z
 refine h { s with heap:=h' } ⟨I.ok,I.os,I.bare,⟨λb o e n hb hx=>?_,λb o e n hb hx=>?_,I.base.free,λb o e hx=>?_,I.base.vT,I.base.uf,I.base.vz⟩,⟨m,hn.sameBut hs (MR (cne x c hc)),λj y v' e1 e2 e3=>?_⟩,λy c' e=>?_,I.free,I.kU,λp hp=>?_,tracked ⟨oc,hoc,I.kU x c hc⟩ hs,by simpa using I.len⟩ ⟨c,hs,.inr hc⟩
 ·exact(hs.2 b (Na (MV (Pl e) (I.ok.cab x c hfn hc)))).trans (I.base.keep b o e n hb hx)
 ·obtain⟨sl,e1⟩:=I.base.slot b o e n hb hx;exact{sl,(hs.2 b (Na (MV (Pl e) (I.ok.cab x c hfn hc)))).trans e1}
 ·obtain⟨o',e1⟩:=I.base.there b o e hx;exact{o',(hs.2 b (Na (MV (Pl e) (I.ok.cab x c hfn hc)))).trans e1}
 ·by_cases hj:j=i
  ·subst hj;rw[hi]at e1;cases e1;rw[Ow hiσ]at e2;cases e2;exact{u,r,.inr ⟨.inl hk,c,hc,hc'⟩}
  rw[S9 (MR hj)]at e2;obtain⟨u',r',q⟩:=hl j y v' e1 e2 e3;refine{u',r',?_};rcases q with q|⟨k,c',e,z'⟩
  ·exact .inl q
  refine .inr {k,c',e,z'.sameBut hs ?_};rintro rfl;exact hj (xx hN e1 (I.ok.inj _ _ _ e hc▸hi))
 ·by_cases hcc:c'=c
  ·subst hcc;exact{_,hc'}
  obtain⟨w2,z2⟩:=I.cell y c' e;exact⟨w2,z2.sameBut hs hcc⟩
 obtain⟨e,n,ne,nf,d⟩:=I.pin p hp
 refine{(hs.2 p.1 ?_).trans e,n,ne,nf,d}
 intro q
 rw[q,hoc]at e
 have q':oc=p.2:=Pn e
 exact d w' (by rw[<-q'];exact hocd)
theorem tJ{M:Model}{A:Pp}{E:E9->O5->Prop}{i:Nat}{x:Str}{v:V}{u:E9}{Q:Unit->O5->Prop}(I:Inv X pins σ H s)(hN:X.N.Nodup)(hi:X.N[i]?=Vn x)(hx:Loc X.env.scope x)(r:Vr v u)
  (h:∀s',Inv X pins (σ.set i (Vn v)) H s'->Q () s') (hf:X.fn x=true\/X.env.scope.names.lookup x=Vn .local:=by first|exact .inl rfl|exact .inr rfl|assumption):wpAny M A (Vh X.env x u) Q E s:=
 Cc I hN hi hx r (λs' I' _=>h s' I') hf
theorem Inv.KR{s':O5}{ch:List O4}(I:Inv X pins σ H s)(ho:s'.os=s.os)(u:Un (frs X.stack) ch H H' s.heap s'.heap)(hok:HOk X.prog X.w H' s'.heap)(hg:Se s'.gens)
  (hch:∀b∈ch,(b∈X.ex\/X.s₀.heap.objs.size<=b)/\b≠X.env.locals/\(∀x c,X.env.cells.lookup x=Vn c->c≠b)/\∀p∈X.pn++pins,p.1≠b):Inv X pins σ H' s':=by
 obtain⟨h',g',d',t',o'⟩:=s'
 have e:o'=s.os:=ho
 subst e
 exact I.call (g':=g') (t':=t') (d':=d') u hok hg hch
end
noncomputable abbrev XK:=E9->Option O4->Hp->Prop
noncomputable abbrev St:=List (Option V)
noncomputable abbrev VK:=V->Hp->Prop
noncomputable abbrev TE:=St->Hp->VK->Prop
noncomputable abbrev TT:=St->Hp->(Bool->Hp->Prop)->Prop
noncomputable abbrev TA:=St->Hp->(List V->Hp->Prop)->Prop
structure VD where
 nx:St->Hp->Prop
 rt:VK
 bk:St->Hp->Prop:=λ_ _=>False
 ct:St->Hp->Prop:=λ_ _=>False
noncomputable abbrev TS:=VD->St->Hp->Prop
inductive EP(X:Cx)(pins:List (O4×Obj))(σ:St)(Q:VK)(u:E9)(s':O5):Prop
 |mk(v:V)(H':Hp)(h0:Inv X pins σ H' s')(h1:Vr v u)(h2:Q v H'):EP X pins σ Q u s'
inductive TP(X:Cx)(pins:List (O4×Obj))(σ:St)(Q:Bool->Hp->Prop)(b:Bool)(s':O5):Prop
 |mk(H':Hp)(h0:Inv X pins σ H' s')(h1:Q b H'):TP X pins σ Q b s'
inductive AP(X:Cx)(pins:List (O4×Obj))(σ:St)(Q:List V->Hp->Prop)(us:List E9)(s':O5):Prop
 |mk(vs:List V)(H':Hp)(h0:Inv X pins σ H' s')(h1:Vp vs us)(h2:Q vs H'):AP X pins σ Q us s'
inductive NP(X:Cx)(pins:List (O4×Obj))(q:St->Hp->Prop)(s':O5):Prop
 |mk(σ':St)(H':Hp)(h0:Inv X pins σ' H' s')(h1:q σ' H'):NP X pins q s'
inductive RP(X:Cx)(pins:List (O4×Obj))(q:VK)(u:E9)(s':O5):Prop
 |mk(v:V)(σ':St)(H':Hp)(h0:Inv X pins σ' H' s')(h1:Vr v u)(h2:q v H'):RP X pins q u s'
def SP(X:Cx)(pins:List (O4×Obj))(D:VD)(f:Flow)(s':O5):Prop:=
 match f with
 | .next=>NP X pins D.nx s'
 | .brk=>NP X pins D.bk s'
 | .cont=>NP X pins D.ct s'
 | .ret u=>RP X pins D.rt u s'
def PE(X:Cx)(e:Expr)(t:TE):Prop:=
 ∀(pins:List (O4×Obj))(s:O5)(σ:St)(H:Hp)(Q:VK),Inv X pins σ H s->t σ H Q->wpAny (Pj X.prog X.w) X.A (P7 e X.env) (EP X pins σ Q) X.xe s
def PT(X:Cx)(e:Expr)(t:TT):Prop:=
 ∀(pins:List (O4×Obj))(s:O5)(σ:St)(H:Hp)(Q:Bool->Hp->Prop),Inv X pins σ H s->t σ H Q->wpAny (Pj X.prog X.w) X.A (isTrue e X.env (P7 e X.env)) (TP X pins σ Q) X.xe s
def PW(X:Cx)(e:Expr)(t:TT):Prop:=
 ∀(whole:Sem E9)(pins:List (O4×Obj))(s:O5)(σ:St)(H:Hp)(Q:Bool->Hp->Prop),Inv X pins σ H s->t σ H Q->wpAny (Pj X.prog X.w) X.A (isTrue e X.env whole) (TP X pins σ Q) X.xe s
theorem PW.pt{X:Cx}{e:Expr}{t:TT}(h:PW X e t):PT X e t:=h _
def PA(X:Cx)(es:List Expr)(t:TA):Prop:=
 ∀(pos:Pos)(pins:List (O4×Obj))(s:O5)(σ:St)(H:Hp)(Q:List V->Hp->Prop),Inv X pins σ H s->t σ H Q->wpAny (Pj X.prog X.w) X.A (spliced (Qi pos (Ph es X.env))) (AP X pins σ Q) X.xe s
def PS(X:Cx)(st:PB)(t:TS):Prop:=
 ∀(pins:List (O4×Obj))(s:O5)(σ:St)(H:Hp)(D:VD),Inv X pins σ H s->t D σ H->wpAny (Pj X.prog X.w) X.A (exec st X.env) (SP X pins D) X.xe s
def PSs(X:Cx)(st:List PB)(t:TS):Prop:=
 ∀(pins:List (O4×Obj))(s:O5)(σ:St)(H:Hp)(D:VD),Inv X pins σ H s->t D σ H->wpAny (Pj X.prog X.w) X.A (execs st X.env) (SP X pins D) X.xe s
theorem thn{α:Type}{t:Sem α}{Q Q':α->O5->Prop}{M:Model}{A:Pp}{E:E9->O5->Prop}{s:O5}(h:wpAny M A t Q E s)(hQ:∀a s,Q a s->Q' a s):wpAny M A t Q' E s:=Qy h hQ λ_ _ x=>x
section
variable{X:Cx}
noncomputable def L6(i:Nat):TE:=λσ H Q=>∃v,σ[i]?=Vn (Vn v)/\Q v H
noncomputable def tC(v:V):TE:=λ_ H Q=>Q v H
theorem Hy{i:Nat}{x:Str}{pos:Pos}(hN:X.N[i]?=Vn x)(hv:Vis X.env.scope x)(hd:(x==("__debug__":Str))=false:=by decide)(hcd:(x==("__classdict__":Str))=false:=by decide):PE X (.Name x pos) (L6 i):=by
 intro pins s σ H Q I h;obtain⟨v,e,h⟩:=h;obtain⟨m,hn,hl⟩:=I.loc;obtain⟨u,r,l⟩:=hl i x v hN e hv;have fin:EP X pins σ Q u s:=⟨v,H,I,r,h⟩;rcases l with⟨hk,hm⟩|⟨hk,c,hc,hcell⟩
 ·exact UX (Ta I.ok.kind hk hn hm fin) hd
 rcases hk with hk|hk
 ·exact UX (Tv I.ok.kind hk hc hcell fin) hd
 exact UX (wpAny_loadName_free I.ok.kind hk hc hcell fin hcd) hd
theorem af{i j pos}:PE X (.Constant (.int i) j pos) (tC (.int i)):=λ_ _ _ H _ I h=>TV {.int i,H,I.tok _,{_,rfl},h}
theorem kL{b j pos}:PE X (.Constant (.bool b) j pos) (tC (.bl b)):=λ_ _ _ H _ I h=>Constant_bool ⟨.bl b,H,I,rfl,h⟩
theorem bQ{j pos}:PE X (.Constant .none j pos) (tC .non):=λ_ _ _ H _ I h=>Constant_none ⟨.non,H,I,rfl,h⟩
theorem au{x j pos}:PE X (.Constant (.str x) j pos) (tC (.str x)):=λ_ _ _ H _ I h=>Calls.Constant_str {.str x,H,I.tok _,{_,rfl},h}
def Gl(X:Cx)(x:Str):Prop:=X.env.kindOf x=Vn .globalImplicit
theorem oW{E:E9->O5->Prop}{pins:List (O4×Obj)}{s:O5}{σ:St}{H:Hp}{x:Str}{u:E9}{pos:Pos}{Q:E9->O5->Prop}(I:Inv X pins σ H s)(hg:Gl X x)(hm:X.mg x=Vn u)(h:Q u s)
  (hd:(x==("__debug__":Str))=false:=by decide):wpAny (Pj X.prog X.w) X.A (P7 (.Name x pos) X.env) Q E s:=
 RU I.ok.kind hg (Calls.loadGlobal_global (by rw[I.ok.glob];exact I.mod.glob.keeps I.bk) hm h) hd
theorem p8{E:E9->O5->Prop}{pins:List (O4×Obj)}{s:O5}{σ:St}{H:Hp}{x:Str}{u:E9}{pos:Pos}{Q:E9->O5->Prop}(I:Inv X pins σ H s)(hg:Gl X x)(hm:X.mg x=Vo)(hv:QE x=Vn u)(h:Q u s)
  (hn:x≠"__name__":=by decide) (hd:(x==("__debug__":Str))=false:=by decide):wpAny (Pj X.prog X.w) X.A (P7 (.Name x pos) X.env) Q E s:=by
 obtain⟨mb,h1,h2⟩:=I.mod.blt
 exact RU I.ok.kind hg (Calls.loadGlobal_builtin (by rw[I.ok.glob];exact I.mod.glob.keeps I.bk) hm (by rw[I.ok.blt];exact h1.keeps I.bk) ((h2 x hn).trans hv) h) hd
theorem Al{x:Str}{v:V}{u:E9}{pos:Pos}(hg:Gl X x)(hm:X.mg x=Vn u)(r:Vr v u)(hd:(x==("__debug__":Str))=false:=by decide):PE X (.Name x pos) (tC v):=
 λ_ _ _ H _ I h=>oW I hg hm ⟨v,H,I,r,h⟩ hd
theorem kH{x:Str}{v:V}{u:E9}{pos:Pos}(hg:Gl X x)(hm:X.mg x=Vo)(hv:QE x=Vn u)(r:Vr v u)(hn:x≠"__name__":=by decide)(hd:(x==("__debug__":Str))=false:=by decide):PE X (.Name x pos) (tC v):=
 λ_ _ _ H _ I h=>p8 I hg hm hv ⟨v,H,I,r,h⟩ hn hd
variable{a b:Expr}{ta tb:TE}{pos:Pos}
variable{tA tB':TT}{rest:List Expr}
noncomputable def LV(t u:TT):TT:=λσ H Q=>t σ H λc H1=>if c=true then u σ H1 Q else Q false H1
noncomputable def tOr(t u:TT):TT:=λσ H Q=>t σ H λc H1=>if c=true then Q true H1 else u σ H1 Q
noncomputable def Lj(t:TT):TT:=λσ H Q=>t σ H λc H1=>Q (!c) H1
theorem pw_and1(ha:PT X a tA):PW X (.BoolOp .And [a] pos) tA:=by
 intro wh pins s σ H Q I h;refine isTrue_and (thn (ha pins s σ H Q I h) λc s1 e=>?_);cases c with
 |true=>exact isTrue_and_nil e
 |false=>exact e
theorem pw_or1(ha:PT X a tA):PW X (.BoolOp .Or [a] pos) tA:=by
 intro wh pins s σ H Q I h;refine isTrue_or (thn (ha pins s σ H Q I h) λc s1 e=>?_);cases c with
 |false=>exact isTrue_or_nil e
 |true=>exact e
theorem pw_and(ha:PT X a tA)(hb:PW X (.BoolOp .And (b::rest) pos) tB'):PW X (.BoolOp .And (a::b::rest) pos) (LV tA tB'):=by
 intro wh pins s σ H Q I h;refine isTrue_and (thn (ha pins s σ H _ I h) λc s1 z9=>?_);obtain⟨H1,I1,q1⟩:=z9;cases c with
 |true=>exact hb wh pins s1 σ H1 Q I1 q1
 |false=>exact⟨H1,I1,q1⟩
theorem pw_or(ha:PT X a tA)(hb:PW X (.BoolOp .Or (b::rest) pos) tB'):PW X (.BoolOp .Or (a::b::rest) pos) (tOr tA tB'):=by
 intro wh pins s σ H Q I h;refine isTrue_or (thn (ha pins s σ H _ I h) λc s1 z9=>?_);obtain⟨H1,I1,q1⟩:=z9;cases c with
 |true=>exact⟨H1,I1,q1⟩
 |false=>exact hb wh pins s1 σ H1 Q I1 q1
theorem qf(ha:PT X a tA):PT X (.UnaryOp .Not a pos) (Lj tA):=by
 intro pins s σ H Q I h;exact isTrue_not (thn (ha pins s σ H (λc H1=>Q (!c) H1) I h) λc s1 ⟨H1,I1,q1⟩=>⟨H1,I1,q1⟩)
noncomputable def Mc(ta tb:TE):TE:=λσ H Q=>ta σ H λx H1=>∃c,x=.bl c/\if c=true then Q (.bl true) H1 else tb σ H1 Q
theorem EW{op}{t:TE}(h:PE X a t):PE X (.BoolOp op [a] pos) t:=λpins s σ H Q I hw=>BoolOp_one (h pins s σ H Q I hw)
theorem Ax(ha:PE X a ta)(hb:PE X (.BoolOp .Or (b::rest) pos) tb):PE X (.BoolOp .Or (a::b::rest) pos) (Mc ta tb):=by
 intro pins s σ H Q I h;refine BoolOp_or (thn (ha pins s σ H _ I h) λv s1 z9=>?_);obtain⟨x,H1,I1,r1,q1⟩:=z9;obtain⟨c,rfl,q1⟩:=q1;cases r1;refine Sf ?_;cases c with
 |false=>exact hb pins s1 σ H1 Q I1 q1
 |true=>exact⟨.bl true,H1,I1,rfl,q1⟩
noncomputable def tIf(t:TT)(ta tb:TE):TE:=λσ H Q=>t σ H λc H1=>if c=true then ta σ H1 Q else tb σ H1 Q
theorem Dy{c:Expr}(hc:PT X c tA)(ha:PE X a ta)(hb:PE X b tb):PE X (.IfExp c a b pos) (tIf tA ta tb):=by
 intro pins s σ H Q I h;refine wpAny_IfExp (thn (hc pins s σ H _ I h) λd s1 z9=>?_);obtain⟨H1,I1,q1⟩:=z9;cases d with
 |true=>exact ha pins s1 σ H1 Q I1 q1
 |false=>exact hb pins s1 σ H1 Q I1 q1
end
def SqL(K:Pa)(H:Hp)(a:O4)(xs:List V):Prop:=
 Rd H a (.lst xs)\/
  ∃(o:Obj)(its:Array E9)(n:Nat),K.lookup a=Vn o/\o.cls=.type "list"/\o.dict=Vo/\o.data=.seq its n/\its.size<=sizeLine/\Vp xs its.toList
def SqT(K:Pa)(H:Hp)(a:O4)(xs:List V):Prop:=
 Rd H a (.tup xs)\/
  ∃(o:Obj)(its:Array E9)(n:Nat),K.lookup a=Vn o/\o.cls=.type "tuple"/\o.data=.seq its n/\its.size<=sizeLine/\Vp xs its.toList
noncomputable def Ll:E9->Option V
 | .none=>Vn .non
 | .bool b=>Vn (.bl b)
 | .int i _=>Vn (.int i)
 | .str x _=>Vn (.str x)
 | .bytes b _=>Vn (.byt b)
 | .float b _=>Vn (.flt b)
 | .ref a=>Vn (.ref a)
 | .type n=>Vn (.ty n)
 |_=>Vo
theorem Vr.abs{x:V}{u:E9}(r:Vr x u):Ll u=Vn x:=by
 cases x with
 |non=>cases r;rfl
 |bl _=>cases r;rfl
 |int _=>obtain⟨t,rfl⟩:=r;rfl
 |str _=>obtain⟨t,rfl⟩:=r;rfl
 |byt _=>obtain⟨t,rfl⟩:=r;rfl
 |flt _=>obtain⟨t,rfl⟩:=r;rfl
 |ref _=>cases r;rfl
 |ty _=>cases r;rfl
theorem Vr.inj{x y:V}{u:E9}(r:Vr x u)(q:Vr y u):x=y:=Pn (r.abs.symm.trans q.abs)
theorem Vp.inj:∀{xs ys:List V}{us:List E9},Vp xs us->Vp ys us->xs=ys
 |_,_,_,.nil,.nil=>rfl
 |_,_,_,.cons r t,.cons r' t'=>by rw[r.inj r',Vp.inj t t']
section
variable{X:Cx}{pins:List (O4×Obj)}{σ:St}{H:Hp}{s:O5}{a:O4}{xs ys:List V}
theorem SqL.of{K:Pa}(h:H a=Vn (.lst xs)):SqL K H a xs:=.inl (.inl h)
theorem SqT.of{K:Pa}(h:H a=Vn (.tup xs)):SqT K H a xs:=.inl (.inl h)
theorem Inv.list(I:Inv X pins σ H s)(h:SqL X.K H a xs):∃its:List E9,Vp xs its/\PlainL s.heap a its.toArray/\xs.length<=sizeLine:=by
 rcases h with h|⟨o,its,n,hk,hc,hd,hs,hz,r⟩
 ·obtain⟨z,its,n,r,e⟩:=h.ok I.hok;exact{its,r,{_,n,e,rfl,rfl,rfl},z}
 refine{its.toList,r,⟨o,n,I.kIn a o hk,hc,hd,by simpa using hs⟩,?_};have e:=r.length;simp only[MI]at e;lia
theorem Inv.tuple(I:Inv X pins σ H s)(h:SqT X.K H a xs):∃its:List E9,Vp xs its/\IsTup s.heap a its.toArray/\xs.length<=sizeLine:=by
 rcases h with h|⟨o,its,n,hk,hc,hs,hz,r⟩
 ·obtain⟨z,its,r,p⟩:=h.ok I.hok;exact⟨its,r,p,z⟩
 refine{its.toList,r,⟨o,I.kIn a o hk,hc,n,by simpa using hs⟩,?_};have e:=r.length;simp only[MI]at e;lia
theorem Inv.rK(I:Inv X pins σ H s)(h:SqL X.K H a xs)(h':SqL X.K H a ys):xs=ys:=by
 obtain⟨its,r,⟨o,n,e,_,_,d⟩,_⟩:=I.list h;obtain⟨its',r',⟨o',n',e',_,_,d'⟩,_⟩:=I.list h';rw[e]at e';cases e';rw[d]at d';injection d' with d1 _;have:its=its':=by simpa using congrArg OQ d1
 subst this;exact r.inj r'
theorem Inv.Bt(I:Inv X pins σ H s)(h:SqT X.K H a xs)(h':SqT X.K H a ys):xs=ys:=by
 obtain⟨its,r,⟨o,e,_,n,d⟩,_⟩:=I.tuple h;obtain⟨its',r',⟨o',e',_,n',d'⟩,_⟩:=I.tuple h';rw[e]at e';cases e';rw[d]at d';injection d' with d1 _;have:its=its':=by simpa using congrArg OQ d1
 subst this;exact r.inj r'
end
noncomputable abbrev Cx.uo(X:Cx)(E:E9->O5->Prop):Cx:={ X with xe:=E }
noncomputable abbrev Cx.nox(X:Cx):Cx:=X.uo λ_ _=>False
theorem Cx.Ok.uo{X:Cx}(ok:X.Ok)(E:E9->O5->Prop):(X.uo E).Ok:=
 ⟨ok.mod,ok.kind,ok.glob,ok.blt,ok.above,ok.inj,ok.has,ok.cab,ok.hd,ok.frames,ok.stk,ok.exf,ok.bs,ok.bsz,ok.DA,ok.DM,ok.qv,ok.frf⟩
theorem Cx.Ok.mr{X:Cx}{E:E9->O5->Prop}(ok:(X.uo E).Ok):X.Ok:=
 ⟨ok.mod,ok.kind,ok.glob,ok.blt,ok.above,ok.inj,ok.has,ok.cab,ok.hd,ok.frames,ok.stk,ok.exf,ok.bs,ok.bsz,ok.DA,ok.DM,ok.qv,ok.frf⟩
section
variable{X:Cx}{pins:List (O4×Obj)}{σ:St}{H:Hp}{s:O5}{E:E9->O5->Prop}
theorem Inv.uo(I:Inv X pins σ H s)(E:E9->O5->Prop):Inv (X.uo E) pins σ H s:=⟨I.ok.uo E,I.os,I.bare,I.base,I.loc,I.cell,I.free,I.kU,I.pin,I.hok,I.len⟩
theorem Inv.mr(I:Inv (X.uo E) pins σ H s):Inv X pins σ H s:=⟨I.ok.mr,I.os,I.bare,I.base,I.loc,I.cell,I.free,I.kU,I.pin,I.hok,I.len⟩
theorem SP.mr{D:VD}{f:Flow}{s':O5}(h:SP (X.uo E) pins D f s'):SP X pins D f s':=by
 cases f with
 |next=>obtain⟨σ',H',I,q⟩:=h;exact⟨σ',H',I.mr,q⟩
 |brk=>obtain⟨σ',H',I,q⟩:=h;exact⟨σ',H',I.mr,q⟩
 |cont=>obtain⟨σ',H',I,q⟩:=h;exact⟨σ',H',I.mr,q⟩
 |ret u=>obtain⟨v,σ',H',I,r,q⟩:=h;exact⟨v,σ',H',I.mr,r,q⟩
theorem PSs.nox{st:List PB}{t:TS}(h:PSs X.nox st t):PSs X st t:=λpins s σ H D I hw=>
 Qy (h pins s σ H D (I.uo _) hw) (λ_ _ q=>q.mr) λ_ _ z=>Qd z
end
section
variable{X:Cx}{st:PB}{rest:List PB}{t u:TS}{e:Expr}{te:TE}{pos:Pos}
noncomputable def Kk:TS:=λD σ H=>D.nx σ H
noncomputable def JX(t u:TS):TS:=λD σ H=>t { D with nx:=u D } σ H
theorem aF:PSs X [] Kk:=λ_ _ σ H _ I h=>RC ⟨σ,H,I,h⟩
theorem ab(h1:PS X st t)(h2:PSs X rest u):PSs X (st::rest) (JX t u):=by
 intro pins s σ H D I h;refine Uw (thn (h1 pins s σ H { D with nx:=u D } I h) λf s1 q=>?_);cases f with
 |next=>
  obtain⟨σ',H',I',q⟩:=q;exact h2 pins s1 σ' H' D I' q
 |ret v=>exact q
 |brk=>exact q
 |cont=>exact q
theorem aj(h1:PS X st t):PSs X [st] t:=by
 intro pins s σ H D I h;refine Uw (thn (h1 pins s σ H D I h) λf s1 q=>?_);cases f with
 |next=>exact RC q
 |ret v=>exact q
 |brk=>exact q
 |cont=>exact q
theorem Inv.quiet{pins:List (O4×Obj)}{σ:St}{H:Hp}{s:O5}(I:Inv X pins σ H s):interactive X.env=false:=by simp[interactive,I.ok.kind]
noncomputable def Kx(te:TE):TS:=λD σ H=>te σ H λ_ H1=>D.nx σ H1
theorem aO(he:PE X e te)(hs:To e Vo pos.line X.env=pure false:=by rfl):PS X (.Expr e pos) (Kx te):=by
 intro pins s σ H D I h;exact wpAny_Expr_any (thn (he pins s σ H _ I h) λv s1 ⟨x,H1,I1,r1,q1⟩=>⟨σ,H1,I1,q1⟩) I.quiet hs
noncomputable def Lq(te:TE):TS:=λD σ H=>te σ H D.rt
theorem aC(he:PE X e te):PS X (.Return (Vn e) pos) (Lq te):=by
 intro pins s σ H D I h;exact wpAny_Return_some (thn (he pins s σ H _ I h) λv s1 ⟨x,H1,I1,r1,q1⟩=>⟨x,σ,H1,I1,r1,q1⟩)
noncomputable def LP(c:TT)(t u:TS):TS:=λD σ H=>c σ H λb H1=>if b=true then t D σ H1 else u D σ H1
theorem aQ{c:Expr}{a b:List PB}{tc:TT}(hc:PT X c tc)(ha:PSs X a t)(hb:PSs X b u):PS X (.If c a b pos) (LP tc t u):=by
 intro pins s σ H D I h;refine wpAny_If (thn (hc pins s σ H _ I h) λd s1 z9=>?_);obtain⟨H1,I1,q1⟩:=z9;cases d with
 |true=>exact ha pins s1 σ H1 D I1 q1
 |false=>exact hb pins s1 σ H1 D I1 q1
end
noncomputable abbrev TG:=V->St->Hp->(St->Hp->Prop)->Prop
noncomputable abbrev TGs:=List V->St->Hp->(St->Hp->Prop)->Prop
def PG(X:Cx)(target:Expr)(t:TG):Prop:=
 ∀(pins:List (O4×Obj))(s:O5)(σ:St)(H:Hp)(v:V)(u:E9)(Q:St->Hp->Prop),Inv X pins σ H s->Vr v u->t v σ H Q->
  wpAny (Pj X.prog X.w) X.A (assign target X.env u) (λ_ s'=>NP X pins Q s') X.xe s
def PGs(X:Cx)(ts:List Expr)(t:TGs):Prop:=
 ∀(pins:List (O4×Obj))(s:O5)(σ:St)(H:Hp)(vs:List V)(us:List E9)(Q:St->Hp->Prop),Inv X pins σ H s->Vp vs us->t vs σ H Q->
  wpAny (Pj X.prog X.w) X.A (assignInOrder ((RV ts X.env).map (·.2)) us) (λ_ s'=>NP X pins Q s') X.xe s
noncomputable abbrev Gq:=V->V->V->Hp->(Hp->Prop)->Prop
def EE(X:Cx)(t:Gq):Prop:=
 ∀(pins:List (O4×Obj))(s:O5)(σ:St)(H:Hp)(o i v:V)(ov iv u:E9)(Q:Hp->Prop),Inv X pins σ H s->Vr o ov->Vr i iv->Vr v u->t o i v H Q->
  wpAny (Pj X.prog X.w) X.A (setItem ov iv u) (λ_ s'=>∃H',Inv X pins σ H' s'/\Q H') X.xe s
noncomputable abbrev TIp:=V->V->Hp->VK->Prop
def PIp(X:Cx)(op:Operator)(t:TIp):Prop:=
 ∀(pins:List (O4×Obj))(s:O5)(σ:St)(H:Hp)(x y:V)(v u:E9)(Q:VK),Inv X pins σ H s->Vr x v->Vr y u->t x y H Q->
  wpAny (Pj X.prog X.w) X.A (inplaceOp op v u) (EP X pins σ Q) X.xe s
section
variable{X:Cx}{pos:Pos}
noncomputable def nB(i:Nat):TG:=λv σ H Q=>Q (σ.set i (Vn v)) H
theorem Bp{i:Nat}{x:Str}(hN:X.N.Nodup)(hi:X.N[i]?=Vn x)(hx:Loc X.env.scope x)(hf:X.fn x=true\/X.env.scope.names.lookup x=Vn .local:=by first|exact .inl rfl|exact .inr rfl|assumption):PG X (.Name x pos) (nB i):=by
 intro pins s σ H v u Q I r h;exact wpAny_assign_Name (tJ I hN hi hx r (λs' I'=>{_,H,I',h}) hf)
noncomputable def Lw:TGs:=λvs σ H Q=>vs=[]/\Q σ H
noncomputable def Km(t:TG)(u:TGs):TGs:=λvs σ H Q=>∃v r,vs=v::r/\t v σ H λσ' H'=>u r σ' H' Q
theorem cF:PGs X [] Lw:=by
 intro pins s σ H vs us Q I r h;obtain⟨e,h⟩:=h;subst e;cases r;exact assignInOrder_nil ⟨σ,H,I,h⟩
theorem aP{e:Expr}{es:List Expr}{t:TG}{u:TGs}(h1:PG X e t)(h2:PGs X es u)
  (hs:(RV (e::es) X.env).map (·.2)=assign e X.env::(RV es X.env).map (·.2):=by rfl):PGs X (e::es) (Km t u):=by
 intro pins s σ H vs us Q I r h
 obtain⟨v,vr,e1,h⟩:=h
 subst e1
 cases r with
 |cons r rr=>
  rw[hs]
  refine assignInOrder_cons (thn (h1 pins s σ H _ _ _ I r h) λ_ s1 z9=>?_);obtain⟨σ1,H1,I1,q1⟩:=z9
  exact h2 pins s1 σ1 H1 _ _ Q I1 rr q1
inductive JQ(K:Pa)(n:Nat)(v:V)(H:Hp)(R:List V->Prop):Prop
 |mk(a:O4)(xs:List V)(h0:v=.ref a)(h1:SqT K H a xs)(h2:xs.length=n)(q:R xs):JQ K n v H R
noncomputable def LQ(K:Pa)(n:Nat)(t:TGs):TG:=λv σ H Q=>JQ K n v H (λxs=>t xs σ H Q)
theorem dG{es:List Expr}{k:Nat}{t:TGs}{n:Nat}(hc:X.calm=true)(h:PGs X es t)
  (hn:(RV es X.env).length=n:=by rfl) (hst:(RV es X.env).findIdx? (·.1)=Vo:=by rfl):PG X (.Tuple es k pos) (LQ X.K n t):=by
 intro pins s σ H v u Q I r hw
 obtain⟨a,xs,e1,hq,hl,hw⟩:=hw
 subst e1
 cases r
 obtain⟨its,rv,ht,hz⟩:=I.tuple hq
 refine assign_Tuple_tuple (I.ok.hd hc) ht (by simp[hn,<-hl,rv.length]) hst λh' hx=>?_
 have I1:Inv X pins σ H { s with heap:=h' }:=I.kept (t':=s.toks) λb o e=>hx b o (Na (Pl e)) e
 exact h pins _ σ H xs _ Q I1 (by simpa using rv) hw
noncomputable def L5(to ti:TE)(t:Gq):TG:=λv σ H Q=>to σ H λo H1=>ti σ H1 λi H2=>t o i v H2 λH3=>Q σ H3
theorem ik{o i:Expr}{to ti:TE}{t:Gq}(ho:PE X o to)(hi:PE X i ti)(hs:EE X t)
  (ha:∀v,assign (.Subscript o i pos) X.env v=(do
   let ov<-RK [v] (P7 o X.env)
   let iv<-RK [v,ov] (P7 i X.env)
   Ug pos
   RK [v,ov,iv] (setItem ov iv v)
   release [v,ov,iv] []):=by intro _;rfl):PG X (.Subscript o i pos) (L5 to ti t):=by
 intro pins s σ H v u Q I r h
 rw[ha]
 refine O6 (wpAny_holding (thn (ho pins s σ H _ I h) λov s1 z9=>?_));obtain⟨x,H1,I1,r1,q1⟩:=z9
 refine O6 (wpAny_holding (thn (hi pins s1 σ H1 _ I1 q1) λiv s2 z9=>?_));obtain⟨y,H2,I2,r2,q2⟩:=z9
 refine O6 (Sj (O6 (wpAny_holding (thn (hs pins s2 σ H2 x y v ov iv u _ I2 r1 r2 r q2) λ_ s3 z9=>?_))));obtain⟨H3,I3,q3⟩:=z9
 exact wpAny_release ⟨σ,H3,I3,q3⟩
noncomputable def FF(te:TE)(g:TG):TS:=λD σ H=>te σ H λx H1=>g x σ H1 D.nx
theorem bW{tg e:Expr}{te:TE}{g:TG}(he:PE X e te)(hg:PG X tg g)(hs:swapsWithSole [tg] e pos.line X.env=pure false:=by rfl)(hw:swappedStores [tg] e X.env=pure Vo:=by rfl)
  (h1:(RV [tg] X.env).map (·.2)=[assign tg X.env]:=by rfl):PS X (.Assign [tg] e pos) (FF te g):=by
 intro pins s σ H D I h
 refine wpAny_Assign_stores (thn (he pins s σ H _ I h) λv s1 ⟨x,H1,I1,r1,q1⟩=>?_) hs hw
 rw[h1]
 exact thn (hg pins s1 σ H1 x v _ I1 r1 q1) λ_ s2 q=>q
theorem HE{i:Nat}{x:Str}{e:Expr}{te:TE}{pos':Pos}(hN:X.N.Nodup)(hi:X.N[i]?=Vn x)(hx:Loc X.env.scope x)(he:PE X e te)(hs:To e (Vn (.Name x pos')) pos.line X.env=pure false:=by rfl)(hf:X.fn x=true\/X.env.scope.names.lookup x=Vn .local:=by first|exact .inl rfl|exact .inr rfl|assumption) :
  PS X (.Assign [.Name x pos'] e pos) (FF te (nB i)):=by
 intro pins s σ H D I h
 refine wpAny_Assign_Name (thn (he pins s σ H _ I h) λv s1 ⟨y,H1,I1,r1,q1⟩=>?_) hs
 exact tJ I1 hN hi hx r1 (λs2 I2=>{_,H1,I2,q1}) hf
noncomputable def Lh(i:Nat)(te:TE)(ti:TIp):TS:=λD σ H=>∃x,σ[i]?=Vn (Vn x)/\te σ H λy H1=>ti x y H1 λz H2=>D.nx (σ.set i (Vn z)) H2
theorem Dl{i:Nat}{x:Str}{e:Expr}{te:TE}{op:Operator}{ti:TIp}{pos':Pos}(hN:X.N.Nodup)(hi:X.N[i]?=Vn x)(hx:Loc X.env.scope x)(he:PE X e te)(ho:PIp X op ti)(hf:X.fn x=true\/X.env.scope.names.lookup x=Vn .local:=by first|exact .inl rfl|exact .inr rfl|assumption) :
  PS X (.AugAssign (.Name x pos') op e pos) (Lh i te ti):=by
 intro pins s σ H D I h
 obtain⟨v,e1,h⟩:=h
 obtain⟨m,hn,hl⟩:=I.loc
 have vis:Vis X.env.scope x:=by rcases hx with k|k;exact .inl k;exact .inr (.inl k)
 obtain⟨u,r,l⟩:=hl i x v hi e1 vis
 refine wpAny_AugAssign_Name ?_
 have go:wpAny (Pj X.prog X.w) X.A (P7 e X.env) (λw s₂=>wpAny (Pj X.prog X.w) X.A (inplaceOp op u w) (λr s₃=>wpAny (Pj X.prog X.w) X.A (Vh X.env x r) (λ_=>SP X pins D .next) X.xe s₃) X.xe s₂) X.xe s:=by
  refine thn (he pins s σ H _ I h) λw s1 z9=>?_;obtain⟨y,H1,I1,r1,q1⟩:=z9;refine thn (ho pins s1 σ H1 v y u w _ I1 r r1 q1) λz s2 z9=>?_;obtain⟨zv,H2,I2,r2,q2⟩:=z9;exact tJ I2 hN hi hx r2 (λs3 I3=>{_,H2,I3,q2}) hf
 rcases l with⟨hk,hm⟩|⟨hk,c,hc,hcell⟩
 ·exact Ta I.ok.kind hk hn hm go
 rcases hk with hk|hk
 ·exact Tv I.ok.kind hk hc hcell go
 rcases hx with k|k
 ·have:X.env.scope.names.lookup x=Vn .free:=hk;rw[k]at this;cases this
 have:X.env.scope.names.lookup x=Vn .free:=hk
 rw[k]at this;cases this
noncomputable def ipI(f:Int->Int->Int):TIp:=λx y H Q=>∃i j,x=.int i/\y=.int j/\Q (.int (f i j)) H
theorem Dm:PIp X .Add (ipI λi j=>i+j):=by
 intro pins s σ H x y v u Q I r1 r2 h;obtain⟨i,j,e1,e2,q⟩:=h;subst e1;subst e2;obtain⟨t,rfl⟩:=r1;obtain⟨t',rfl⟩:=r2;exact iadd_int {.int _,H,I.tok _,{_,rfl},q}
noncomputable def Ib(c:TT)(tb:TS):TS:=λD σ H=>∃W:Nat->St->Hp->Prop,(∃m,W m σ H)/\∀m σ H,W m σ H->
 c σ H λb H1=>if b=true then ∃N:St->Hp->Prop,(∀σ' H',N σ' H'->∃m',m'<m/\W m' σ' H')/\tb { D with nx:=N,ct:=N,bk:=D.nx } σ H1 else D.nx σ H1
theorem fW{c:Expr}{body:List PB}{tc:TT}{tb:TS}(hp:PassesOwn (Pj X.prog X.w) X.A X.env X.xe)(hc:PT X c tc)(hb:PSs X body tb):PS X (.While c body [] pos) (Ib tc tb):=by
 intro pins s σ H D I h;obtain⟨W,⟨m0,w0⟩,turn⟩:=h;refine wpAny_While (codeAny_whileLoop (λn s'=>NP X pins (W n) s') ?_ m0 ⟨σ,H,I,w0⟩);rintro n s1 ⟨σ1,H1,I1,w1⟩;refine QD hp (thn (hc pins s1 σ1 H1 _ I1 (turn n σ1 H1 w1)) λb s2 z9=>?_);obtain⟨H2,I2,q2⟩:=z9;cases b with
 |true=>
  obtain⟨N,hN,q2⟩:=q2;rw[if_pos rfl];refine QD hp (thn (hb pins s2 σ1 H2 _ I2 q2) λf s3 q3=>?_);cases f with
  |next=>
   obtain⟨σ3,H3,I3,n3⟩:=q3;obtain⟨m',hm,w3⟩:=hN σ3 H3 n3;exact⟨m',hm,σ3,H3,I3,w3⟩
  |cont=>
   obtain⟨σ3,H3,I3,n3⟩:=q3;obtain⟨m',hm,w3⟩:=hN σ3 H3 n3;exact⟨m',hm,σ3,H3,I3,w3⟩
  |brk=>exact q3
  |ret v=>exact q3
 |false=>
  rw[if_neg My];exact RC ⟨σ1,H2,I2,q2⟩
end
structure It where
 go:Nat->Hp->Prop
 yld:Nat->Hp->V->Hp->Prop
 stop:Nat->Hp->Prop
def tK(X:Cx)(pins:List (O4×Obj))(H:Hp)(b:O4):Prop:=
 H b=Vo/\b≠X.env.locals/\b∉X.fs/\(b∈X.ex\/X.s₀.heap.objs.size<=b)/\(∀x c,X.env.cells.lookup x=Vn c->c≠b)/\∀p∈X.pn++pins,p.1≠b
theorem Inv.xV{X:Cx}{pins:List (O4×Obj)}{σ:St}{H H':Hp}{s:O5}{b:O4}(I:Inv X pins σ H s)(hb:s.heap.objs.size<=b)(hn:H' b=Vo):tK X pins H' b:=by
 refine{hn,N8 (MV I.lt hb),I.Lc hb,.inr (ME I.sz hb),λx c e z=>?_,λp hp z=>?_}
 ·obtain⟨v,q⟩:=I.cell x c e;exact absurd (MV q.lt (by rw[z];exact hb)) (NL _)
 exact absurd (MV (Pl (I.pin p hp).1) (by rw[z];exact hb)) (NL _)
structure VG(P:Program)(w:Pf)(K:Pa)(tg:Expr)(J:It)(fp:List O4)(it:O4)(tn:Nat->PH->Prop):Prop where
 mem:it∈fp
 obj:∀i h,tn i h->∀b∈fp,∃o,h.get? b=Vn o/\∀v,o.data≠ .cell v
 keep:∀i h h',tn i h->(∀b∈fp,∀o,h.get? b=Vn o->h'.get? b=Vn o)->tn i h'
 item:∀(X:Cx),X.prog=P->X.w=w->X.K=K->X.calm=true->∀(i:Nat)(pins:List (O4×Obj))(s:O5)(σ:St)(H:Hp)(E:E9->O5->Prop),Inv X pins σ H s->(∀b∈fp,tK X pins H b)->tn i s.heap->J.go i H->
  wpAny (Pj P w) X.A (pyNext (.ref it)) (λr s1=>∃u,r=Vn u/\
   wpAny (Pj P w) X.A (RD tg (.ref it) u) (λ_ s2=>∃x H',Inv X pins σ H' s2/\Vr x u/\J.yld i H x H'/\tn (i+1) s2.heap/\∀b∈fp,H' b=Vo) E s1) E s
 done:∀(X:Cx),X.prog=P->X.w=w->X.K=K->X.calm=true->∀(i:Nat)(pins:List (O4×Obj))(s:O5)(σ:St)(H:Hp)(E:E9->O5->Prop),Inv X pins σ H s->(∀b∈fp,tK X pins H b)->tn i s.heap->J.stop i H->
  wpAny (Pj P w) X.A (pyNext (.ref it)) (λr s1=>r=Vo/\Inv X pins σ H s1) E s
 self:∀(A:Pp)(i:Nat)(s:O5)(Q:E9->O5->Prop)(E:E9->O5->Prop),tn i s.heap->Q (.ref it) s->wpAny (Pj P w) A (pyIter (.ref it)) Q E s
noncomputable abbrev TI:=St->Hp->(It->Hp->Prop)->Prop
def PIE(X:Cx)(pins:List (O4×Obj))(σ:St)(tg:Expr)(R:It->Hp->Prop)(itv:E9)(s2:O5):Prop:=
 ∃(it:O4)(fp:List O4)(tn:Nat->PH->Prop)(J:It)(H':Hp),itv=.ref it/\Inv X pins σ H' s2/\VG X.prog X.w X.K tg J fp it tn/\tn 0 s2.heap/\(∀b∈fp,tK X pins H' b)/\R J H'
def PI(X:Cx)(tg iter:Expr)(wi:TI):Prop:=
 ∀(pins:List (O4×Obj))(s:O5)(σ:St)(H:Hp)(R:It->Hp->Prop),Inv X pins σ H s->wi σ H R->
  wpAny (Pj X.prog X.w) X.A (P7 iter X.env) (λv s1=>wpAny (Pj X.prog X.w) X.A (pyIter v) (PIE X pins σ tg R) X.xe s1) X.xe s
theorem xJ{M:Model}{A:Pp}{E:E9->O5->Prop}{s:O5}{tg:Expr}{it:O4}{u:E9}{o:Obj}{n:String}{vs:Array E9}{Q:Unit->O5->Prop}(ho:s.heap.get? it=Vn o)(hc:o.cls=.type n)(hd:o.data=.fields vs)
    (hn:["enumerate","zip","dict_itemiterator","dict_reverseitemiterator","odict_iterator","itertools.zip_longest","itertools.pairwise"].contains n=false) (hQ:Q () s):wpAny M A (RD tg (.ref it) u) Q E s:=by
  unfold RD
  cases tg<;>first
    |exact Pc hQ
    | (cases u<;>first
        |exact Pc hQ
        | (refine O6 (wpAny_load ho ?_)
           rw[hc,hd]
           show wpAny M A (if(["enumerate","zip","dict_itemiterator","dict_reverseitemiterator","odict_iterator","itertools.zip_longest","itertools.pairwise"].contains n&&vs[0]?==Vn (rawInt _))=true then _ else _) Q E s
           rw[if_neg (by intro h;rw[hn,Bool.false_and]at h;cases h)]
           exact Pc hQ))
noncomputable def Itl(K:Pa)(a:O4):It:=
 {λi H=>∃xs x,SqL K H a xs/\xs[i]?=Vn x,λi H x H'=>H'=H/\∀xs,SqL K H a xs->xs[i]?=Vn x,λi H=>∃xs,SqL K H a xs/\xs.length<=i}
noncomputable def Itt(K:Pa)(a:O4):It:=
 {λi H=>∃xs x,SqT K H a xs/\xs[i]?=Vn x,λi H x H'=>H'=H/\∀xs,SqT K H a xs->xs[i]?=Vn x,λi H=>∃xs,SqT K H a xs/\xs.length<=i}
noncomputable def Itr(lo:Int)(n:Nat):It:={λi _=>i<n,λi H x H'=>H'=H/\x=.int (lo+i),λi _=>n<=i}
theorem BF{P:Program}{w:Pf}{K:Pa}{tg:Expr}(a it:O4):VG P w K tg (Itl K a) [it] it (λi h=>h.IsListIter it a i) where
 mem:=by simp
 obj:=λi h st b hb=>by
  have e:b=it:=by simpa using hb
  subst e;obtain⟨o,e,c,d⟩:=st;exact{o,e,λv z=>by rw[d]at z;cases z}
 keep:=λi h h' st k=>st.at λo e=>k it (by simp) o e
 item:=by
  intro X hP hw hK hc i pins s σ H E I hf st hg;subst hP hw hK;obtain⟨xs,x,hq,hx⟩:=hg;obtain⟨its,rv,p,hz⟩:=I.list hq;obtain⟨u,hu,ru⟩:=rv.get hx;obtain⟨f0,f1,f2,f3,f4,f5⟩:=hf it (by simp);refine SH st p.isList (x:=u) (by simpa using hu) λh' st' sb=>?_;have I1:Inv X pins σ H { s with heap:=h' }:=I.turned (t':=s.toks) (λb o hb e=>(sb.2 b hb).trans e) f0 f1 f3 f4 f5;obtain⟨o,e,c,d⟩:=id st';exact{u,rfl,xJ (s:={ s with heap:=h' }) e c d (by decide) ⟨x,H,I1,ru,⟨rfl,λys hy=>by rw[I.rK hy hq];exact hx⟩,st',λb hb=>(hf b hb).1⟩}
 done:=by
  intro X hP hw hK hc i pins s σ H E I hf st hg;subst hP hw hK;obtain⟨xs,hq,hx⟩:=hg;obtain⟨its,rv,p,hz⟩:=I.list hq;obtain⟨f0,f1,f2,f3,f4,f5⟩:=hf it (by simp);have hl:=rv.length;exact SX (I.ok.hd hc) st p.isList (by simp;lia) λh' eb=>{rfl,I.turned (t':=s.toks) (λb o hb e=>eb b o hb e) f0 f1 f3 f4 f5}
 self:=λ_ _ _ _ _ st h=>wpAny_pyIter_listiter st h
theorem zg{P:Program}{w:Pf}{K:Pa}{tg:Expr}(a it:O4):VG P w K tg (Itt K a) [it] it (λi h=>h.IsTupleIter it a i) where
 mem:=by simp
 obj:=λi h st b hb=>by
  have e:b=it:=by simpa using hb
  subst e;obtain⟨o,e,c,d⟩:=st;exact{o,e,λv z=>by rw[d]at z;cases z}
 keep:=λi h h' st k=>st.at λo e=>k it (by simp) o e
 item:=by
  intro X hP hw hK hc i pins s σ H E I hf st hg;subst hP hw hK;obtain⟨xs,x,hq,hx⟩:=hg;obtain⟨its,rv,p,hz⟩:=I.tuple hq;obtain⟨u,hu,ru⟩:=rv.get hx;obtain⟨f0,f1,f2,f3,f4,f5⟩:=hf it (by simp);refine wpAny_pyNext_tuple_item st (show s.heap.IsTuple a its.toArray from p) (x:=u) (by simpa using hu) λh' st' sb=>?_;have I1:Inv X pins σ H { s with heap:=h' }:=I.turned (t':=s.toks) (λb o hb e=>(sb.2 b hb).trans e) f0 f1 f3 f4 f5;obtain⟨o,e,c,d⟩:=id st';exact{u,rfl,xJ (s:={ s with heap:=h' }) e c d (by decide) ⟨x,H,I1,ru,⟨rfl,λys hy=>by rw[I.Bt hy hq];exact hx⟩,st',λb hb=>(hf b hb).1⟩}
 done:=by
  intro X hP hw hK hc i pins s σ H E I hf st hg;subst hP hw hK;obtain⟨xs,hq,hx⟩:=hg;obtain⟨its,rv,p,hz⟩:=I.tuple hq;obtain⟨f0,f1,f2,f3,f4,f5⟩:=hf it (by simp);have hl:=rv.length;exact wpAny_pyNext_tuple_end (I.ok.hd hc) st (show s.heap.IsTuple a its.toArray from p) (by simp;lia) λh' eb=>{rfl,I.turned (t':=s.toks) (λb o hb e=>eb b o hb e) f0 f1 f3 f4 f5}
 self:=λ_ _ _ _ _ st h=>wpAny_pyIter_tupleiter st h
theorem zw{P:Program}{w:Pf}{K:Q3}{tg:Expr}(it:O4)(lo:Int)(n:Nat):VG P w K tg (Itr lo n) [it] it (λi h=>Tb h it (lo+(i:Nat)*1) ((n:Int)-(i:Nat)) 1) where
 mem:=by simp
 obj:=λi h st b hb=>by
  have e:b=it:=by simpa using hb
  subst e;exact{_,st,λv z=>by
   have z':UJ _=Tp v:=z;cases z'}
 keep:=λi h h' st k=>k it (by simp) _ st
 item:=by
  intro X hP hw hK hc i pins s σ H E I hf st hg;subst hP hw hK;obtain⟨f0,f1,f2,f3,f4,f5⟩:=hf it (by simp);have W:=Walks.range (prog:=X.prog) (w:=X.w) (I.ok.hd hc) it lo 1 n;refine W.item i s _ _ hg st λv h' tk hv st' kk=>?_;obtain⟨t,rfl⟩:=hv;have I1:Inv X pins σ H { s with heap:=h',toks:=tk }:=I.turned (λb o hb e=>kk b o (by simpa using hb) e) f0 f1 f3 f4 f5;refine⟨_,rfl,xJ (s:={ s with heap:=h',toks:=tk }) (n:="range_iterator") st' rfl rfl (by decide) ⟨.int (lo+i),H,I1,⟨t,?_⟩,⟨rfl,rfl⟩,st',λb hb=>(hf b hb).1⟩⟩;rw[Int.mul_one]
 done:=by
  intro X hP hw hK hc i pins s σ H E I hf st hg;subst hP hw hK;obtain⟨f0,f1,f2,f3,f4,f5⟩:=hf it (by simp);exact SI (I.ok.hd hc) st (by have:n<=i:=hg;lia) λh' eb=>{rfl,I.turned (t':=s.toks) (λb o hb e=>eb b o hb e) f0 f1 f3 f4 f5}
 self:=λ_ _ _ _ _ st h=>SJ st h
section
variable{X:Cx}{tg:Expr}
theorem D0{pins:List (O4×Obj)}{σ:St}{H:Hp}{s:O5}{R:It->Hp->Prop}{E:E9->O5->Prop}{lo hi:Int}{t u v:Tok}{tk:Nat}(I:Inv X pins σ H s)(h1:-(2^62)<=lo)(h2:lo<2^62)(h3:-(2^62)<=hi)(h4:hi<2^62)
  (q:R (Itr lo (hi-lo).toNat) H):wpAny (Pj X.prog X.w) X.A (pyIter (.ref s.heap.objs.size)) (PIE X pins σ tg R) E { s with heap:=s.heap.push { cls:=.type "range",data:=.fields #[.int lo t,.int hi u,.int 1 v] },toks:=tk }:=by
 refine TX (IsRange.new ..) (small_one h1 h2 h3 h4) ?_
 have I1:Inv X pins σ H { s with heap:=s.heap.push { cls:=.type "range",data:=.fields #[.int lo t,.int hi u,.int 1 v] },toks:=tk }:=I.kept λb o e=>O9 _ e
 refine{(s.heap.push { cls:=.type "range",data:=.fields #[.int lo t,.int hi u,.int 1 v] }).objs.size,[(s.heap.push { cls:=.type "range",data:=.fields #[.int lo t,.int hi u,.int 1 v] }).objs.size],_,_,H,rfl,
  I1.kept (t':=tk) λb o e=>O9 _ e,zw _ lo (hi-lo).toNat,?_,λb hb=>?_,q}
 ·have e1:lo+((0:Nat):Int)*1=lo:=by simp
  have e2:(((hi-lo).toNat:Nat):Int)-((0:Nat):Int)=P5 lo hi 1:=by rw[rangeSize_one];split<;>lia
  show Tb _ _ (lo+((0:Nat):Int)*1) ((((hi-lo).toNat:Nat):Int)-((0:Nat):Int)) 1;rw[e1,e2];exact Po _ rfl
 have e:b=(s.heap.push { cls:=.type "range",data:=.fields #[.int lo t,.int hi u,.int 1 v] }).objs.size:=by simpa using hb
 subst e
 exact I1.xV (Ms _) (I1.hok.fresh (Ms _))
inductive KP(vs:List V)(H:Hp)(R:It->Hp->Prop):Prop
 |mk(j:Int)(h0:vs=[.int j])(h1:-(2^62)<=j)(h2:j<2^62)(q:R (Itr 0 j.toNat) H):KP vs H R
noncomputable def J3(ta:TA):TI:=λσ H R=>ta σ H λvs H1=>KP vs H1 R
theorem di{a:Expr}{ta:TA}{p pos:Pos}(hg:Gl X "range")(hm:X.mg "range"=Vo)(ha:PA X [a] ta)(hs:Ph [a] X.env=[(false,P7 a X.env)]:=by rfl):PI X tg (.Call (.Name "range" p) [a] [] pos) (J3 ta):=by
 intro pins s σ H R I h;refine Call_ (p8 I hg hm boot_range (Qw (thn (ha pos pins s σ H _ I h) λus s1 ⟨vs,H1,I1,r1,q1⟩=>?_) hs rfl));obtain⟨j,e,q1,q2,q⟩:=q1;subst e;cases r1 with
 |cons r rr=>
  cases rr;obtain⟨t,rfl⟩:=r;exact call_range_1 (D0 I1 (by lia) (by lia) q1 q2 (by simpa using q))
noncomputable def LJ(wi:TI)(g:TG)(tb:TS):TS:=λD σ H=>wi σ H λJ H1=>∃W:Nat->Nat->St->Hp->Prop,(∃m,W 0 m σ H1)/\∀i m σ H,W i m σ H->
 (J.stop i H/\D.nx σ H)\/(J.go i H/\∃N:St->Hp->Prop,(∀σ' H',N σ' H'->∃m',m'<m/\W (i+1) m' σ' H')/\∀x H',J.yld i H x H'->g x σ H' λσ2 H2=>tb { D with nx:=N,ct:=N,bk:=D.nx } σ2 H2)
noncomputable def tE(fp:List O4)(h:PH):List (O4×Obj):=fp.filterMap λb=>(h.get? b).map λo=>(b,o)
theorem ko{fp:List O4}{h:PH}{b:O4}{o:Obj}(hb:b∈fp)(e:h.get? b=Vn o):(b,o)∈tE fp h:=List.mem_filterMap.mpr {b,hb,by rw[e];rfl}
theorem BZ{fp:List O4}{h:PH}{p:O4×Obj}(hp:p∈tE fp h):p.1∈fp/\h.get? p.1=Vn p.2:=by
 obtain⟨b,hb,e⟩:=List.mem_filterMap.mp hp;cases q:h.get? b with
 |none=>rw[q]at e;cases e
 |some o=>
  rw[q]at e;have e':(b,o)=p:=Pn e;subst e';exact⟨hb,q⟩
theorem Inv.pinned{pins:List (O4×Obj)}{σ:St}{H:Hp}{s:O5}{fp:List O4}(I:Inv X pins σ H s)(hf:∀b∈fp,tK X pins H b)(ho:∀b∈fp,∃o,s.heap.get? b=Vn o/\∀v,o.data≠ .cell v):Inv X (pins++tE fp s.heap) σ H s:=
 I.wL λp hp=>(Mu.mp hp).elim (λz=>I.pin p (MD _ z)) λz=>by
  obtain⟨hb,e⟩:=BZ z;obtain⟨f0,f1,f2,_⟩:=hf p.1 hb;obtain⟨o,e',d⟩:=ho p.1 hb;rw[e]at e';cases e';exact⟨e,f0,f1,f2,d⟩
theorem Inv.mO{pins pl:List (O4×Obj)}{σ:St}{H:Hp}{s:O5}(I:Inv X (pins++pl) σ H s):Inv X pins σ H s:=I.wL λp hp=>I.pin p (MD _ (MK _ hp))
theorem cf{iter:Expr}{body:List PB}{wi:TI}{g:TG}{tb:TS}{pos:Pos}(hp:PassesOwn (Pj X.prog X.w) X.A X.env X.xe)(hc:X.calm=true)(hi:PI X tg iter wi)(hg:PG X tg g)(hb:PSs X body tb)
  (hs:∀x,foldedSetIterable iter X.env x=pure x:=by intro _;rfl):PS X (.For tg iter body [] pos) (LJ wi g tb):=by
 intro pins s σ H D I h
 refine wpAny_For (thn (hi pins s σ H _ I h) λv s1 h1=>thn h1 λitv s2 h2=>?_) hs
 obtain⟨it,fp,tn,J,H2,e,I2,T,st2,f2,W,⟨m0,w0⟩,turn⟩:=h2
 subst e
 have stat:∀{H':Hp},(∀b∈fp,H' b=Vo)->∀b∈fp,tK X pins H' b:=λhn b hb=>{hn b hb,(f2 b hb).2}
 refine codeAny_forLoop_any (λn s'=>∃i σ' H',Inv X pins σ' H' s'/\tn i s'.heap/\(∀b∈fp,H' b=Vo)/\W i n σ' H') ?_ m0 {0,σ,H2,I2,st2,λb hb=>(f2 b hb).1,w0}
 rintro n s3 ⟨i,σ3,H3,I3,st3,fr3,w3⟩
 rcases turn i n σ3 H3 w3 with⟨stop,qn⟩|⟨go,N,hN,step⟩
 ·refine QD hp (thn (T.done X rfl rfl rfl hc i pins s3 σ3 H3 X.xe I3 (stat fr3) st3 stop) λr s4 z9=>?_);obtain⟨hr,I4⟩:=z9;subst hr;exact RC ⟨σ3,H3,I4,qn⟩
 refine QD hp (thn (T.item X rfl rfl rfl hc i pins s3 σ3 H3 X.xe I3 (stat fr3) st3 go) λr s4 z9=>?_);obtain⟨u,hr,h4⟩:=z9
 subst hr
 refine QD hp (thn h4 λ_ s5 z9=>?_);obtain⟨x,H5,I5,r5,y5,st5,fr5⟩:=z9
 have I5':=I5.pinned (stat fr5) (T.obj _ _ st5)
 refine QD hp (thn (hg _ s5 σ3 H5 x u _ I5' r5 (step x H5 y5)) λ_ s6 z9=>?_);obtain⟨σ6,H6,I6,q6⟩:=z9
 refine QD hp (thn (hb _ s6 σ6 H6 _ I6 q6) λf s7 q7=>?_)
 have again:∀{σ7:St}{H7:Hp},Inv X (pins++tE fp s5.heap) σ7 H7 s7->N σ7 H7->∃m,m<n/\∃i σ' H',Inv X pins σ' H' s7/\tn i s7.heap/\(∀b∈fp,H' b=Vo)/\W i m σ' H':=λ{σ7 H7} I7 n7=>by
  obtain⟨m',hm,w7⟩:=hN σ7 H7 n7;refine{m',hm,i+1,σ7,H7,I7.mO,T.keep _ _ _ st5 λb hb o e=>(I7.pin (b,o) (MD _ (MD _ (ko hb e)))).1,λb hb=>?_,w7};obtain⟨o,e,d⟩:=T.obj _ _ st5 b hb;exact(I7.pin (b,o) (MD _ (MD _ (ko hb e)))).2.1
 cases f with
 |next=>obtain⟨σ7,H7,I7,n7⟩:=q7;exact again I7 n7
 |cont=>obtain⟨σ7,H7,I7,n7⟩:=q7;exact again I7 n7
 |brk=>obtain⟨σ7,H7,I7,q7⟩:=q7;exact⟨σ7,H7,I7.mO,q7⟩
 |ret v=>obtain⟨x7,σ7,H7,I7,r7,q7⟩:=q7;exact⟨x7,σ7,H7,I7.mO,r7,q7⟩
end
theorem cn{K:Q3}{a:O4}{xs:List V}{g:TG}{tb:TS}{D:VD}{σ:St}{H:Hp}(Pv:Nat->St->Hp->Prop)(h0:Pv 0 σ H)(hl:∀i σ H,i<=xs.length->Pv i σ H->SqL K H a xs)
  (hs:∀i x σ H,xs[i]?=Vn x->Pv i σ H->g x σ H λσ2 H2=>tb { D with nx:=Pv (i+1),ct:=Pv (i+1),bk:=D.nx } σ2 H2) (hd:∀σ H,Pv xs.length σ H->D.nx σ H) :
  ∃W:Nat->Nat->St->Hp->Prop,(∃m,W 0 m σ H)/\∀i m σ H,W i m σ H->
   ((Itl K a).stop i H/\D.nx σ H)\/((Itl K a).go i H/\∃N:St->Hp->Prop,(∀σ' H',N σ' H'->∃m',m'<m/\W (i+1) m' σ' H')/\∀x H',(Itl K a).yld i H x H'->g x σ H' λσ2 H2=>tb { D with nx:=N,ct:=N,bk:=D.nx } σ2 H2):=by
 refine{λi m σ H=>m=xs.length-i/\i<=xs.length/\Pv i σ H,{xs.length,by simp,MF _,h0},?_}
 rintro i m σ H ⟨rfl,hi,p⟩
 have q:=hl i σ H hi p
 by_cases hlt:i<xs.length
 ·refine .inr {{xs,xs[i],q,by simp[hlt]},Pv (i+1),λσ' H' p'=>{xs.length-(i+1),by lia,rfl,hlt,p'},λx H' y=>?_};obtain⟨e,y⟩:=y;subst e;exact hs i x σ _ (y xs q) p
 have e:i=xs.length:=by lia
 subst e
 exact .inl {{xs,q,Ms _},hd σ H p}
theorem Fj{K:Q3}{a:O4}{xs:List V}{g:TG}{tb:TS}{D:VD}{σ:St}{H:Hp}(Pv:Nat->St->Hp->Prop)(h0:Pv 0 σ H)(hl:∀i σ H,i<=xs.length->Pv i σ H->SqT K H a xs)
  (hs:∀i x σ H,xs[i]?=Vn x->Pv i σ H->g x σ H λσ2 H2=>tb { D with nx:=Pv (i+1),ct:=Pv (i+1),bk:=D.nx } σ2 H2) (hd:∀σ H,Pv xs.length σ H->D.nx σ H) :
  ∃W:Nat->Nat->St->Hp->Prop,(∃m,W 0 m σ H)/\∀i m σ H,W i m σ H->
   ((Itt K a).stop i H/\D.nx σ H)\/((Itt K a).go i H/\∃N:St->Hp->Prop,(∀σ' H',N σ' H'->∃m',m'<m/\W (i+1) m' σ' H')/\∀x H',(Itt K a).yld i H x H'->g x σ H' λσ2 H2=>tb { D with nx:=N,ct:=N,bk:=D.nx } σ2 H2):=by
 refine{λi m σ H=>m=xs.length-i/\i<=xs.length/\Pv i σ H,{xs.length,by simp,MF _,h0},?_}
 rintro i m σ H ⟨rfl,hi,p⟩
 have q:=hl i σ H hi p
 by_cases hlt:i<xs.length
 ·refine .inr {{xs,xs[i],q,by simp[hlt]},Pv (i+1),λσ' H' p'=>{xs.length-(i+1),by lia,rfl,hlt,p'},λx H' y=>?_};obtain⟨e,y⟩:=y;subst e;exact hs i x σ _ (y xs q) p
 have e:i=xs.length:=by lia
 subst e
 exact .inl {{xs,q,Ms _},hd σ H p}
theorem jU{lo:Int}{n:Nat}{g:TG}{tb:TS}{D:VD}{σ:St}{H:Hp}(Pv:Nat->St->Hp->Prop)(h0:Pv 0 σ H)
  (hs:∀i σ H,i<n->Pv i σ H->g (.int (lo+i)) σ H λσ2 H2=>tb { D with nx:=Pv (i+1),ct:=Pv (i+1),bk:=D.nx } σ2 H2) (hd:∀σ H,Pv n σ H->D.nx σ H) :
  ∃W:Nat->Nat->St->Hp->Prop,(∃m,W 0 m σ H)/\∀i m σ H,W i m σ H->
   ((Itr lo n).stop i H/\D.nx σ H)\/((Itr lo n).go i H/\∃N:St->Hp->Prop,(∀σ' H',N σ' H'->∃m',m'<m/\W (i+1) m' σ' H')/\∀x H',(Itr lo n).yld i H x H'->g x σ H' λσ2 H2=>tb { D with nx:=N,ct:=N,bk:=D.nx } σ2 H2):=by
 refine{λi m σ H=>m=n-i/\i<=n/\Pv i σ H,{n,by simp,MF _,h0},?_}
 rintro i m σ H ⟨rfl,hi,p⟩
 by_cases hlt:i<n
 ·refine .inr {hlt,Pv (i+1),λσ' H' p'=>{n-(i+1),by lia,rfl,hlt,p'},λx H' y=>?_};obtain⟨e,y⟩:=y;subst e y;exact hs i σ _ hlt p
 have e:i=n:=by lia
 subst e
 exact .inl {Ms _,hd σ H p}
noncomputable abbrev R2:=V->V->Hp->VK->Prop
def OpR(X:Cx)(f:E9->E9->Sem E9)(r:R2):Prop:=
 ∀(pins:List (O4×Obj))(s:O5)(σ:St)(H:Hp)(x y:V)(v u:E9)(Q:VK),Inv X pins σ H s->Vr x v->Vr y u->r x y H Q->
  wpAny (Pj X.prog X.w) X.A (f v u) (EP X pins σ Q) X.xe s
def UnR(X:Cx)(f:E9->Sem E9)(r:V->Hp->VK->Prop):Prop:=
 ∀(pins:List (O4×Obj))(s:O5)(σ:St)(H:Hp)(x:V)(v:E9)(Q:VK),Inv X pins σ H s->Vr x v->r x H Q->
  wpAny (Pj X.prog X.w) X.A (f v) (EP X pins σ Q) X.xe s
def dW(X:Cx)(f:E9)(r:List V->Hp->VK->Prop):Prop:=
 ∀(pins:List (O4×Obj))(s:O5)(σ:St)(H:Hp)(xs:List V)(us:List E9)(Q:VK),Inv X pins σ H s->Vp xs us->r xs H Q->
  wpAny (Pj X.prog X.w) X.A (call f us) (EP X pins σ Q) X.xe s
def LU(X:Cx)(r:V->Hp->(Bool->Hp->Prop)->Prop):Prop:=
 ∀(pins:List (O4×Obj))(s:O5)(σ:St)(H:Hp)(x:V)(v:E9)(Q:Bool->Hp->Prop),Inv X pins σ H s->Vr x v->r x H Q->
  wpAny (Pj X.prog X.w) X.A (truthy v) (TP X pins σ Q) X.xe s
noncomputable def tOp(r:R2)(ta tb:TE):TE:=λσ H Q=>ta σ H λx H1=>tb σ H1 λy H2=>r x y H2 Q
noncomputable def tUn(r:V->Hp->VK->Prop)(ta:TE):TE:=λσ H Q=>ta σ H λx H1=>r x H1 Q
noncomputable def rI(C:Int->Int->Prop)(g:Int->Int->V):R2:=λx y H Q=>∃i j,x=.int i/\y=.int j/\C i j/\Q (g i j) H
noncomputable def rI0(g:Int->Int->V):R2:=λx y H Q=>∃i j,x=.int i/\y=.int j/\Q (g i j) H
def rU(g:Int->V):V->Hp->VK->Prop:=λx H Q=>∃i,x=.int i/\Q (g i) H
section
variable{X:Cx}{a b c:Expr}{ta tb tc:TE}{pos:Pos}
theorem Ja(ha:PE X a ta)(hb:PE X b tb){pins:List (O4×Obj)}{s:O5}{σ:St}{H:Hp}{R:V->V->Hp->Prop}(I:Inv X pins σ H s)
  (h:ta σ H λx H1=>tb σ H1 λy H2=>R x y H2) {Q:E9->O5->Prop}{f:E9->E9->Sem E9}
  (hf:∀v u s2 x y H2,Inv X pins σ H2 s2->Vr x v->Vr y u->R x y H2->wpAny (Pj X.prog X.w) X.A (f v u) Q X.xe s2) :
  wpAny (Pj X.prog X.w) X.A (P7 a X.env) (λv s₁=>wpAny (Pj X.prog X.w) X.A (P7 b X.env) (λu s₂=>wpAny (Pj X.prog X.w) X.A (f v u) Q X.xe s₂) X.xe s₁) X.xe s:=by
 refine thn (ha pins s σ H _ I h) λv s1 z9=>?_;obtain⟨x,H1,I1,r1,q1⟩:=z9
 refine thn (hb pins s1 σ H1 _ I1 q1) λu s2 z9=>?_;obtain⟨y,H2,I2,r2,q2⟩:=z9
 exact hf v u s2 x y H2 I2 r1 r2 q2
theorem aB{op:Operator}{r:R2}(ho:OpR X (Qz op) r)(ha:PE X a ta)(hb:PE X b tb):PE X (.BinOp a op b pos) (tOp r ta tb):=by
 intro pins s σ H Q I h;exact wpAny_BinOp (Ja ha hb I h λv u s2 x y H2 I2 rx ry q=>ho pins s2 σ H2 x y v u Q I2 rx ry q)
theorem nC{op:UnaryOp}{r:V->Hp->VK->Prop}(ho:UnR X (unaryOp op) r)(ha:PE X a ta):PE X (.UnaryOp op a pos) (tUn r ta):=by
 intro pins s σ H Q I h;exact UnaryOp_ (thn (ha pins s σ H _ I h) λv s1 ⟨x,H1,I1,r1,q1⟩=>ho pins s1 σ H1 x v Q I1 r1 q1)
theorem opI{f:E9->E9->Sem E9}{C:Int->Int->Prop}{g:Int->Int->Int}
  (rule:∀(i j:Int)(t u:Tok)(s:O5)(Q:E9->O5->Prop)(E:E9->O5->Prop),C i j->Q (.int (g i j) s.toks) { s with toks:=s.toks+1 }->wpAny (Pj X.prog X.w) X.A (f (.int i t) (.int j u)) Q E s) :
  OpR X f (rI C λi j=>.int (g i j)):=by
 intro pins s σ H x y v u Q I rx ry h
 obtain⟨i,j,rfl,rfl,hc,q⟩:=h
 obtain⟨t,rfl⟩:=rx
 obtain⟨t',rfl⟩:=ry
 exact rule i j t t' s _ _ hc {.int (g i j),H,I.tok _,{_,rfl},q}
theorem KZ{f:E9->E9->Sem E9}{g:Int->Int->Int}
  (rule:∀(i j:Int)(t u:Tok)(s:O5)(Q:E9->O5->Prop)(E:E9->O5->Prop),Q (.int (g i j) s.toks) { s with toks:=s.toks+1 }->wpAny (Pj X.prog X.w) X.A (f (.int i t) (.int j u)) Q E s) :
  OpR X f (rI0 λi j=>.int (g i j)):=by
 intro pins s σ H x y v u Q I rx ry h
 obtain⟨i,j,rfl,rfl,q⟩:=h
 obtain⟨t,rfl⟩:=rx
 obtain⟨t',rfl⟩:=ry
 exact rule i j t t' s _ _ {.int (g i j),H,I.tok _,{_,rfl},q}
theorem Ii{f:E9->E9->Sem E9}{g:Int->Int->Bool}
  (rule:∀(i j:Int)(t u:Tok)(s:O5)(Q:E9->O5->Prop)(E:E9->O5->Prop),Q (.bool (g i j)) s->wpAny (Pj X.prog X.w) X.A (f (.int i t) (.int j u)) Q E s) :
  OpR X f (rI0 λi j=>.bl (g i j)):=by
 intro pins s σ H x y v u Q I rx ry h
 obtain⟨i,j,rfl,rfl,q⟩:=h
 obtain⟨t,rfl⟩:=rx
 obtain⟨t',rfl⟩:=ry
 exact rule i j t t' s _ _ {.bl (g i j),H,I,rfl,q}
def KL(i j:Int):Prop:=0<=j/\j<=1000000/\i.natAbs<2^64
def BU(i j:Int):Prop:=(-(2^64)<i/\i<2^64)\/(-(2^64)<j/\j<2^64)
theorem BU.ok{i j:Int}(h:BU i j):IntMulOk i j:=by
 rcases h with⟨h1,h2⟩|⟨h1,h2⟩
 ·exact .of_left (intBits_le_64 h1 h2)
 exact .of_right (intBits_le_64 h1 h2)
theorem HX:OpR X (Qz .Add) (rI0 λi j=>.int (i+j)):=KZ λ_ _ _ _ _ _ _ q=>add_int q
theorem JB:OpR X (Qz .Sub) (rI0 λi j=>.int (i-j)):=KZ λ_ _ _ _ _ _ _ q=>sub_int q
theorem Ia:OpR X (Qz .Mult) (rI BU λi j=>.int (i*j)):=opI λ_ _ _ _ _ _ _ hc q=>mul_int q hc.ok
theorem Ir:OpR X (Qz .Mod) (rI (λ_ j=>0<j) λi j=>.int (i%j)):=opI λi j _ _ _ _ _ hc q=>by
 have h1:(0:Int)<j:=hc;exact mod_int' (by lia) (by rw[Int.fmod_eq_emod_of_nonneg i (by lia)];exact q)
theorem HK:OpR X (Qz .Pow) (rI KL λi j=>.int (i^j.toNat)):=opI λ_ _ _ _ _ _ _ hc q=>pow_int_small hc.1 hc.2.1 hc.2.2 q
theorem unI{f:E9->Sem E9}{g:Int->Int}
  (rule:∀(i:Int)(t:Tok)(s:O5)(Q:E9->O5->Prop)(E:E9->O5->Prop),Q (.int (g i) s.toks) { s with toks:=s.toks+1 }->wpAny (Pj X.prog X.w) X.A (f (.int i t)) Q E s) :
  UnR X f (rU λi=>.int (g i)):=by
 intro pins s σ H x v Q I rx h
 obtain⟨i,rfl,q⟩:=h
 obtain⟨t,rfl⟩:=rx
 exact rule i t s _ _ {.int (g i),H,I.tok _,{_,rfl},q}
theorem jN:UnR X (unaryOp .USub) (rU λi=>.int (-i)):=unI λ_ _ _ _ _ q=>neg_int q
end
noncomputable def BP:V->V->Bool
 | .non,.non=>true| .non,.int _=>true| .int _,.non=>true| .non,.bl _=>true| .bl _,.non=>true| .non,.str _=>true| .str _,.non=>true
 | .int _,.int _=>true| .bl _,.bl _=>true| .str _,.str _=>true| .byt _,.byt _=>true
 | .int _,.str _=>true| .str _,.int _=>true| .bl _,.str _=>true| .str _,.bl _=>true
 |_,_=>false
noncomputable def rEq:R2:=λx y H Q=>BP x y=true/\Q (.bl (decide (x=y))) H
noncomputable def rNe:R2:=λx y H Q=>BP x y=true/\Q (.bl (!decide (x=y))) H
theorem Ba{i j:Int}:decide (V.int i=V.int j)=(i==j):=by
 rw[NS];simp
theorem Ds{i j:Bool}:decide (V.bl i=V.bl j)=(i==j):=by
 rw[NS];simp
theorem AI{i j:Str}:decide (V.str i=V.str j)=(i==j):=by
 rw[NS];simp
theorem Ac{i j:Array UInt8}:decide (V.byt i=V.byt j)=(i.toList==j.toList):=by
 rw[NS];cases i;cases j;simp
section
variable{X:Cx}{a b c:Expr}{ta tb tc:TE}{pos:Pos}
theorem bz{pins:List (O4×Obj)}{σ:St}{H:Hp}{s:O5}{Q:VK}{k k':Bool}(I:Inv X pins σ H s)(q:Q (.bl k) H)(e:k=k'):EP X pins σ Q (.bool k') s:=by
 subst e;exact⟨.bl k,H,I,rfl,q⟩
theorem K3:OpR X (Pz .Eq) rEq:=by
 intro pins s σ H x y v u Q I rx ry h;obtain⟨hs,q⟩:=h;cases x with
 |non=>
  cases rx;cases y with
  |non=>cases ry;exact PySem.EqNone.eq_none_none (bz I q (by simp))
  |bl j=>cases ry;exact PySem.EqNone.eq_none_bool (bz I q (by simp))
  |int j=>obtain⟨t',rfl⟩:=ry;exact PySem.EqNone.eq_none_int (bz I q (by simp))
  |str j=>obtain⟨t',rfl⟩:=ry;exact PySem.EqNone.eq_none_str (bz I q (by simp))
  |_=>exact absurd (show false=true from hs) My
 |bl i=>
  cases rx;cases y with
  |non=>cases ry;exact PySem.EqNone.eq_bool_none (bz I q (by simp))
  |bl j=>cases ry;exact eq_bool (bz I q Ds)
  |str j=>obtain⟨t',rfl⟩:=ry;exact PySem.EqMixed.eq_bool_str (bz I q (by simp))
  |_=>exact absurd (show false=true from hs) My
 |int i=>
  obtain⟨t,rfl⟩:=rx;cases y with
  |non=>cases ry;exact PySem.EqNone.eq_int_none (bz I q (by simp))
  |int j=>obtain⟨t',rfl⟩:=ry;exact eq_int (bz I q Ba)
  |str j=>obtain⟨t',rfl⟩:=ry;exact PySem.EqMixed.eq_int_str (bz I q (by simp))
  |_=>exact absurd (show false=true from hs) My
 |str i=>
  obtain⟨t,rfl⟩:=rx;cases y with
  |non=>cases ry;exact PySem.EqNone.eq_str_none (bz I q (by simp))
  |bl j=>cases ry;exact PySem.EqMixed.eq_str_bool (bz I q (by simp))
  |int j=>obtain⟨t',rfl⟩:=ry;exact PySem.EqMixed.eq_str_int (bz I q (by simp))
  |str j=>obtain⟨t',rfl⟩:=ry;exact eq_str (bz I q AI)
  |_=>exact absurd (show false=true from hs) My
 |byt i=>
  obtain⟨t,rfl⟩:=rx;cases y with
  |byt j=>obtain⟨t',rfl⟩:=ry;exact W.eq_bytes (bz I q Ac)
  |_=>exact absurd (show false=true from hs) My
 |_=>cases y<;>exact absurd (show false=true from hs) My
theorem Ky:OpR X (Pz .NotEq) rNe:=by
 intro pins s σ H x y v u Q I rx ry h;obtain⟨hs,q⟩:=h;cases x with
 |non=>
  cases rx;cases y with
  |non=>cases ry;exact PySem.EqNone.ne_none_none (bz I q (by simp))
  |bl j=>cases ry;exact PySem.EqNone.ne_none_bool (bz I q (by simp))
  |int j=>obtain⟨t',rfl⟩:=ry;exact PySem.EqNone.ne_none_int (bz I q (by simp))
  |str j=>obtain⟨t',rfl⟩:=ry;exact PySem.EqNone.ne_none_str (bz I q (by simp))
  |_=>exact absurd (show false=true from hs) My
 |bl i=>
  cases rx;cases y with
  |non=>cases ry;exact PySem.EqNone.ne_bool_none (bz I q (by simp))
  |bl j=>cases ry;exact ne_bool (bz I q (congrArg not Ds))
  |str j=>obtain⟨t',rfl⟩:=ry;exact PySem.EqMixed.ne_bool_str (bz I q (by simp))
  |_=>exact absurd (show false=true from hs) My
 |int i=>
  obtain⟨t,rfl⟩:=rx;cases y with
  |non=>cases ry;exact PySem.EqNone.ne_int_none (bz I q (by simp))
  |int j=>obtain⟨t',rfl⟩:=ry;exact ne_int (bz I q (congrArg not Ba))
  |str j=>obtain⟨t',rfl⟩:=ry;exact PySem.EqMixed.ne_int_str (bz I q (by simp))
  |_=>exact absurd (show false=true from hs) My
 |str i=>
  obtain⟨t,rfl⟩:=rx;cases y with
  |non=>cases ry;exact PySem.EqNone.ne_str_none (bz I q (by simp))
  |bl j=>cases ry;exact PySem.EqMixed.ne_str_bool (bz I q (by simp))
  |int j=>obtain⟨t',rfl⟩:=ry;exact PySem.EqMixed.ne_str_int (bz I q (by simp))
  |str j=>obtain⟨t',rfl⟩:=ry;exact ne_str (bz I q (congrArg not AI))
  |_=>exact absurd (show false=true from hs) My
 |byt i=>
  obtain⟨t,rfl⟩:=rx;cases y with
  |byt j=>obtain⟨t',rfl⟩:=ry;exact W.ne_bytes (bz I q (congrArg not Ac))
  |_=>exact absurd (show false=true from hs) My
 |_=>cases y<;>exact absurd (show false=true from hs) My
theorem Kg:OpR X (Pz .Lt) (rI0 λi j=>.bl (decide (i<j))):=Ii λ_ _ _ _ _ _ _ q=>lt_int q
theorem J6:OpR X (Pz .Gt) (rI0 λi j=>.bl (decide (j<i))):=Ii λ_ _ _ _ _ _ _ q=>gt_int q
theorem Kp:OpR X (Pz .GtE) (rI0 λi j=>.bl (decide (j<=i))):=Ii λ_ _ _ _ _ _ _ q=>ge_int q
theorem BW:OpR X (Pz .In) (λx y H Q=>∃i j,x=.str i/\y=.str j/\Q (.bl (!(Qf j i 0 j.length 1).isEmpty)) H):=by
 intro pins s σ H x y v u Q I rx ry h;obtain⟨i,j,rfl,rfl,q⟩:=h;obtain⟨t,rfl⟩:=rx;obtain⟨t',rfl⟩:=ry;exact in_str (bz I q rfl)
theorem IL:OpR X (Pz .Is) (λx y H Q=>y=.non/\Q (.bl (decide (x=.non))) H):=by
 intro pins s σ H x y v u Q I rx ry h;obtain⟨rfl,q⟩:=h;cases ry;refine is_none_gen (bz I q ?_);cases x<;>first
  | (cases rx;rfl)
  | (obtain⟨t,rfl⟩:=rx;rfl)
theorem FT:OpR X (Pz .IsNot) (λx y H Q=>y=.non/\Q (.bl (!decide (x=.non))) H):=by
 intro pins s σ H x y v u Q I rx ry h;obtain⟨rfl,q⟩:=h;cases ry;refine isnot_none_gen (bz I q ?_);cases x<;>first
  | (cases rx;rfl)
  | (obtain⟨t,rfl⟩:=rx;rfl)
theorem OpR.or{f:E9->E9->Sem E9}{r r':R2}(h:OpR X f r)(h':OpR X f r'):OpR X f (λx y H Q=>r x y H Q\/r' x y H Q):=by
 intro pins s σ H x y v u Q I rx ry q;rcases q with q|q
 ·exact h pins s σ H x y v u Q I rx ry q
 exact h' pins s σ H x y v u Q I rx ry q
theorem E8(b:Expr){op:CmpOp}(h:op≠ .In:=by decide)(h2:op≠ .NotIn:=by decide):Q8 op b=false:=by
 have e1:(op==CmpOp.In)=false:=by cases op<;>first|rfl|exact absurd rfl h
 have e2:(op==CmpOp.NotIn)=false:=by cases op<;>first|rfl|exact absurd rfl h2
 cases b<;>simp[Q8,e1,e2]
theorem Gw{op:CmpOp}{r:R2}(ho:OpR X (Pz op) r)(ha:PE X a ta)(hb:PE X b tb)(hm:Q8 op b=false):PE X (.Compare a [op] [b] pos) (tOp r ta tb):=by
 intro pins s σ H Q I h;exact wpAny_Compare1 (Ja ha hb I h λv u s2 x y H2 I2 rx ry q=>ho pins s2 σ H2 x y v u Q I2 rx ry q) hm
inductive blI(x:V)(H:Hp)(Q:Bool->Hp->Prop):Prop
 |mk(k:Bool)(h:x=.bl k)(q:Q k H):blI x H Q
noncomputable def G5(t:TE):TT:=λσ H Q=>t σ H λx H'=>blI x H' Q
theorem F4{op:CmpOp}{r:R2}(ho:OpR X (Pz op) r)(ha:PE X a ta)(hb:PE X b tb)(hm:Q8 op b=false):PT X (.Compare a [op] [b] pos) (G5 (tOp r ta tb)):=by
 intro pins s σ H Q I h;refine wpAny_isTrue_Compare1 (thn (ha pins s σ H _ I h) λv s1 ⟨x,H1,I1,r1,q1⟩=>thn (hb pins s1 σ H1 _ I1 q1) λu s2 ⟨y,H2,I2,r2,q2⟩=>
  thn (ho pins s2 σ H2 x y v u _ I2 r1 r2 q2) λc s3 ⟨z,H3,I3,r3,k,e,q3⟩=>?_) hm
 subst e;cases r3;exact Sf ⟨H3,I3,q3⟩
def Ml(K:Pa)(x:V)(H:Hp)(k:Bool):Prop:=
 match x with
 | .non=>k=false
 | .bl b=>k=b
 | .int i=>k=(i !=0)
 | .str y=>y.length<=sizeLine/\k=((y.length:Int)!=0)
 | .byt y=>y.size<=sizeLine/\k=((y.size:Int)!=0)
 | .ref p=>(∃xs,SqL K H p xs/\k=!xs.isEmpty)\/(∃xs,SqT K H p xs/\k=!xs.isEmpty)\/∃kvs,H p=Vn (.dK kvs)/\k=!kvs.isEmpty
 |_=>False
theorem zC{κ:Type}{kvs:List (κ×V)}{vs:List (κ×E9)}(r:KV kvs vs):(!vs.isEmpty)=!kvs.isEmpty:=by
 cases r<;>rfl
theorem rp{xs:List V}{its:List E9}(r:Vp xs its):(!its.toArray.isEmpty)=!xs.isEmpty:=by
 cases r<;>simp
theorem p9:(sizeLine:Nat)<2^63:=by rw[QV];decide
inductive xC(K:Pa)(x:V)(H:Hp)(Q:Bool->Hp->Prop):Prop
 |mk(k:Bool)(h:Ml K x H k)(q:Q k H):xC K x H Q
theorem Hx:LU X (xC X.K):=by
 intro pins s σ H x v Q I rx h;obtain⟨k,e,q⟩:=h;have hl:=p9;have hs:sizeLine=16777216:=QV;cases x with
 |non=>
  cases rx;have e':k=false:=e;subst e';exact truthy_none ⟨H,I,q⟩
 |bl b=>
  cases rx;have e':k=b:=e;subst e';exact Sf ⟨H,I,q⟩
 |int i=>
  obtain⟨t,rfl⟩:=rx;have e':k=(i !=0):=e;subst e';exact PySem.P.truthy_int ⟨H,I,q⟩
 |str y=>
  obtain⟨t,rfl⟩:=rx;obtain⟨hy,e'⟩:y.length<=sizeLine/\k=((y.length:Int)!=0):=e;subst e';exact PySem.P.truthy_str (by lia) {H,I.tok _,q}
 |byt y=>
  obtain⟨t,rfl⟩:=rx;obtain⟨hy,e'⟩:y.size<=sizeLine/\k=((y.size:Int)!=0):=e;subst e';exact W.truthy_bytes (by lia) {H,I.tok _,q}
 |ref p=>
  cases rx;have e':(∃xs,SqL X.K H p xs/\k=!xs.isEmpty)\/(∃xs,SqT X.K H p xs/\k=!xs.isEmpty)\/∃kvs,H p=Vn (.dK kvs)/\k=!kvs.isEmpty:=e;rcases e' with⟨xs,hx,e'⟩|⟨xs,hx,e'⟩|⟨kvs,hx,e'⟩
  ·subst e';obtain⟨its,r,pl,hz⟩:=I.list hx;have hlen:=r.length;exact wpAny_truthy_list pl.isList (by simp only[MN];lia) {H,I.tok _,by rw[rp r];exact q}
  ·subst e';obtain⟨its,r,pl,hz⟩:=I.tuple hx;have hlen:=r.length;exact truthy_tuple pl (by simp only[MN];lia) {H,I.tok _,by rw[rp r];exact q}
  subst e';obtain⟨hz,hS,vs,r,m⟩:kvs.length<=sizeLine/\(p==Qq)=false/\∃vs,KV kvs vs/\s.heap.DictOf (bR X.prog X.w) p vs:=I.hok p _ hx;have hlen:kvs.length=vs.length:=Pd r;exact wpAny_truthy_dict hS m (by lia) {H,I.tok _,by rw[zC r];exact q}
 |_=>exact(show False from e).elim
theorem Cy(ha:PE X a ta)(he:∀whole,isTrue a X.env whole=(do let v<-whole;Ug a.pos;RK [v] (truthy v))) :
  PT X a (λσ H Q=>ta σ H λx H'=>xC X.K x H' Q):=by
 intro pins s σ H Q I h
 exact isTrue_plain (thn (ha pins s σ H _ I h) λv s1 ⟨x,H1,I1,r1,q1⟩=>Hx pins s1 σ H1 x v Q I1 r1 q1) (he _)
theorem zH:OpR X (Qz .Add) (λx y H Q=>∃i j,x=.str i/\y=.str j/\i.length+j.length<=sizeLine/\Q (.str (i++j)) H):=by
 intro pins s σ H x y v u Q I rx ry h;obtain⟨i,j,rfl,rfl,hz,q⟩:=h;obtain⟨t,rfl⟩:=rx;obtain⟨t',rfl⟩:=ry;exact add_str (λt' tk=>{.str (i++j),H,I.tok _,{_,rfl},q}) hz
theorem VC{x:V}{us:List E9}(r:Vp [x] us):∃u,us=[u]/\Vr x u:=by
 cases r with
 |cons r1 r2=>cases r2;exact{_,rfl,r1}
theorem VH{x y:V}{us:List E9}(r:Vp [x,y] us):∃u w',us=[u,w']/\Vr x u/\Vr y w':=by
 cases r with
 |cons r1 r2=>
  cases r2 with
  |cons r3 r4=>cases r4;exact{_,_,rfl,r1,r3}
theorem Bx(hc:X.calm=true):dW X (.builtin "max") (λxs H Q=>∃i j,xs=[.int i,.int j]/\Q (.int (if j>i then j else i)) H):=by
 intro pins s σ H xs us Q I r h;obtain⟨i,j,rfl,q⟩:=h;obtain⟨u,w',rfl,⟨t,rfl⟩,⟨t',rfl⟩⟩:=VH r;refine max_two_ints (I.ok.hd hc) λh' tk k=>{_,H,I.kept k,?_,q};by_cases hj:j>i
 ·rw[if_pos hj,if_pos hj];exact{_,rfl}
 rw[if_neg hj,if_neg hj];exact{_,rfl}
def Kr(K:Pa)(x:V)(H:Hp)(n:Nat):Prop:=
 match x with
 | .str y=>y.length<=sizeLine/\n=y.length
 | .byt y=>y.size<=sizeLine/\n=y.size
 | .ref p=>(∃xs,SqL K H p xs/\n=xs.length)\/∃xs,SqT K H p xs/\n=xs.length
 |_=>False
theorem EK:dW X (.builtin "len") (λxs H Q=>∃x n,xs=[x]/\Kr X.K x H n/\Q (.int n) H):=by
 intro pins s σ H xs us Q I r h;obtain⟨x,n,rfl,e,q⟩:=h;obtain⟨u,rfl,rx⟩:=VC r;have hl:=p9;have hs:sizeLine=16777216:=QV;cases x with
 |str y=>
  obtain⟨t,rfl⟩:=rx;obtain⟨hy,e'⟩:y.length<=sizeLine/\n=y.length:=e;subst e';exact len_str (by lia) {.int _,H,I.tok _,{_,rfl},q}
 |byt y=>
  obtain⟨t,rfl⟩:=rx;obtain⟨hy,e'⟩:y.size<=sizeLine/\n=y.size:=e;subst e';exact W.len_bytes (by lia) {.int _,H,I.tok _,{_,rfl},q}
 |ref p=>
  cases rx;have e':(∃xs,SqL X.K H p xs/\n=xs.length)\/∃xs,SqT X.K H p xs/\n=xs.length:=e;rcases e' with⟨xs,hx,e'⟩|⟨xs,hx,e'⟩
  ·subst e';obtain⟨its,r',pl,hz⟩:=I.list hx;have hlen:=r'.length;exact Calls.call_len_list pl.isList (by simp only[MN];lia) {.int xs.length,H,I.tok _,{_,by simp only[MN];rw[hlen]},q}
  subst e';obtain⟨its,r',pl,hz⟩:=I.tuple hx;have hlen:=r'.length;exact len_tuple pl (by simp only[MN];lia) {.int xs.length,H,I.tok _,{_,by simp only[MN];rw[hlen]},q}
 |_=>exact(show False from e).elim
end
structure zI(h:PH)(x dx C:O4)(mA:Str->Option E9):Prop where
 obj:h.get? x=Vn (Rt C dx)
 ns:h.Ns1 dx mA
 ne:dx≠x
theorem Bs{h:PH}{dx:O4}{mA:Str->Option E9}(n:h.Ns1 dx mA):∃od,h.get? dx=Vn od/\∀name,UY name od=Vn (mA name):=by
 obtain⟨o,es,ep,ho,hd,hk,_,hm⟩:=n;refine{o,ho,λname=>?_};have e:=hm name;unfold nsFind findBy at e;rw[<-Array.find?_toList]at e;unfold UY;rw[hd];dsimp only;split
 ·rename_i y q;rw[q]at e;exact congrArg Vn e
 rename_i q;rw[q]at e;have a:es.toList.any (·.refKey)=false:=by
  rw[List.any_eq_false];intro y hy;obtain⟨z,t,hkey⟩:=hk y (OD.mp hy);simp[DictEntry.refKey,hkey]
 have a':¬ es.toList.any (·.refKey)=true:=by rw[a];exact My
 rw[if_neg a'];exact congrArg Vn e
theorem zI.look{h:PH}{x dx C:O4}{mA:Str->Option E9}(I:zI h x dx C mA):∃od,W.InstAt h x (Rt C dx) C (Vn od)/\∀name,UY name od=Vn (mA name):=
 let ⟨od,ho,hl⟩:=Bs I.ns
 {od,⟨I.obj,rfl,rfl,ho⟩,hl}
section
variable{prog:Program}{w:Pf}{A:Pp}{E:E9->O5->Prop}{s:O5}{K:Pa}{x dx C f:O4}{mA:Str->Option E9}{name:Str}{v:E9}
theorem get_map{expr:Bool}{Q:E9->O5->Prop}(X:K.In s.heap)(I:zI s.heap x dx C mA)(hg:SK K C name=true)(hh:Tc K C=true)
  (ha:Qm K (.ref C) name=Vn Vo) (hv:mA name=Vn v) (hv':W.handedIn v=true) (h:Q v { s with toks:=s.toks+1 }) :
  wpAny (Pj prog w) A (getAttr (.ref x) name expr) Q E s:=by
 obtain⟨od,J,hl⟩:=I.look
 exact W.get_value X J (TH hg).1 (W.findObj_own hh ha rfl (by rw[hl,hv])) hv' h
theorem EC{pl:Sem Bool}{Q:E9×List E9->O5->Prop}(X:K.In s.heap)(I:zI s.heap x dx C mA)(hg:SK K C name=true)
  (hf:Qm K (.ref C) name=Vn (Vn (.ref f))) (ht:Vl K (.ref f)=true) (hv:mA name=Vo) (h:Q (.ref f,[.ref x]) s) :
  wpAny (Pj prog w) A (Ux (.ref x) name pl) Q E s:=by
 obtain⟨od,J,hl⟩:=I.look
 exact W.method_fn X J (TH hg).1 (TH hg).2 hf (beq_iff_eq.mp ht) (by show(UY name od).map (·.isSome)=Vn false;rw[hl,hv];rfl) h
theorem GL{ns:List Str}{Q:Unit->O5->Prop}(X:K.In s.heap)(I:zI s.heap x dx C mA)
  (hs:Qm K (.ref C) "__setattr__"=Vn (Vn (.builtin "object.__setattr__"))) (hp:UK K C=true) (ht:Vi K C name=Vn Vo) (hh:Tc K C=true)
  (hw:Ue mA ns) (hsz:ns.length<=sizeLine)
  (h:∀h',zI h' x dx C (λy=>if y=name then Vn v else mA y)->RJ dx s.heap h'->Q () { s with heap:=h',toks:=s.toks+2 }) :
  wpAny (Pj prog w) A (setAttr (.ref x) name v) Q E s:=by
 obtain⟨od,J,hl⟩:=I.look
 refine W.set_plain X J hs (W.osa_open (s:={ s with toks:=s.toks+1 }) (r:=Vo) X J hp ht λb=>?_)
 obtain⟨cd,hc,hd'⟩:=W.any_some hh
 have hx:s.heap.get? x=Vn {.ref C,Vn dx,.plain,#[]}:=I.obj
 refine O6 (Pc (O6 (O6 (wpAny_loadPart hx (O6 (W.Looks.here (s:={ s with toks:=s.toks+1 }) (W.looks_clsIn X hc) ?_))))))
 rw[hd']
 refine Pc (a:=Vn dx) (O6 (Pc (O6 ?_)))
 refine wpAny_nsSet1 (s:={ s with toks:=s.toks+1 }) I.ns λh' hn2 hs2=>?_
 obtain⟨oD,esD,epD,hoD,hdD,hcD⟩:=hn2.count (PySem.Within.cons name v hw)
 refine O6 (wpAny_lookBehind hoD (by rw[hdD];exact pastItsLine_dict (ME hcD (by rw[Mx];lia))) ?_)
 exact Pc (h _ {(hs2.2 _ (MR I.ne)).trans I.obj,hn2,I.ne} hs2)
theorem DF{R:UZ->O5->Prop}{vs:List E9}{kw:List (Str×E9)}(X:K.In s.heap)(hm:Uy K C=true)
  (hi:Qm K (.ref C) "__init__"=Vn (Vn (.ref f))) (hf:W.typeIn K (.ref f)=Vn (.type "function"))
  (h:codeAny (Pj prog w) (A.under (.builtin "type.__call__" {.ref C::vs,kw})) (.call (.ref f) {.ref (s.heap.objs.size+1)::vs,kw}) (W.InitBack (s.heap.objs.size+1) R)
   { s with heap:=(s.heap.push QP).push (Rt C s.heap.objs.size) }) :
  codeAny (Pj prog w) A (.call (.ref C) ⟨vs,kw⟩) R s:=by
 obtain⟨hh,g,d,t,os⟩:=s
 exact W.make_core (W.makes_of X hm) (W.looks_findIn X hi) (λself=>W.bind_fn X self hf) (.inl rfl) h
end
noncomputable def iJ(f:Str)(v:V):List (Str×V)->List (Str×V)
 | []=>[(f,v)]
 | (g,x)::r=>if g=f then(g,v)::r else(g,x)::iJ f v r
theorem qo(f g:Str)(v:V):∀fs:List (Str×V),(iJ f v fs).lookup g=if g=f then Vn v else fs.lookup g
 | []=>by
  show QW g [(f,v)]=_;by_cases h:g=f
  ·have hb:(g==f)=true:=beq_iff_eq.mpr h;simp only[QW,hb,if_pos h]
  have hb:(g==f)=false:=beq_eq_false_iff_ne.mpr h;simp only[QW,hb,if_neg h]
 | (k,x)::r=>by
  have ih:=qo f g v r;rw[show iJ f v ((k,x)::r)=(if k=f then(k,v)::r else(k,x)::iJ f v r)from rfl];by_cases hk:k=f
  ·rw[if_pos hk];by_cases h:g=k
   ·have hb:(g==k)=true:=beq_iff_eq.mpr h;simp only[QW,hb,if_pos (h.trans hk)]
   have hb:(g==k)=false:=beq_eq_false_iff_ne.mpr h;simp only[QW,hb,if_neg (λe:g=f=>h (e.trans hk.symm))]
  rw[if_neg hk];by_cases h:g=k
  ·have hb:(g==k)=true:=beq_iff_eq.mpr h;simp only[QW,hb,if_neg (λe:g=f=>hk (h.symm.trans e))]
  have hb:(g==k)=false:=beq_eq_false_iff_ne.mpr h;simp only[QW,hb];exact ih
theorem pU(f:Str)(v:V):∀fs:List (Str×V),f∈(iJ f v fs).map (·.1)/\∀g,g∈fs.map (·.1)->g∈(iJ f v fs).map (·.1)
 | []=>{by simp[iJ],λg h=>by simp at h}
 | (k,x)::r=>by
  obtain⟨i1,i2⟩:=pU f v r;rw[show iJ f v ((k,x)::r)=(if k=f then(k,v)::r else(k,x)::iJ f v r)from rfl];by_cases hk:k=f
  ·rw[if_pos hk];subst hk;exact{by simp,λg h=>by simpa using h}
  rw[if_neg hk];refine{?_,λg h=>?_}
  ·rw[MJ];exact Mz _ i1
  rw[MJ]at h⊢;rcases Mw.mp h with e|e
  ·exact Mw.mpr (.inl e)
  exact Mz _ (i2 g e)
theorem ql(f:Str)(v:V):∀fs:List (Str×V),(iJ f v fs).length<=fs.length+1
 | []=>by simp[iJ]
 | (k,x)::r=>by
  have ih:=ql f v r;rw[show iJ f v ((k,x)::r)=(if k=f then(k,v)::r else(k,x)::iJ f v r)from rfl];by_cases hk:k=f
  ·rw[if_pos hk,Mx,Mx];lia
  rw[if_neg hk,Mx,Mx];lia
theorem nh.some_of{v:V}{o:Option E9}(r:nh (Vn v) o):∃u,o=Vn u/\Vr v u:=by
 cases o with
 |none=>exact(show False from r).elim
 |some u=>exact⟨u,rfl,r⟩
theorem nh.none_of{o:Option E9}(r:nh Vo o):o=Vo:=by
 cases o with
 |none=>rfl
 |some u=>exact(show False from r).elim
theorem Cd{v:V}{u:E9}(r:Vr v u):W.handedIn u=true:=by
 cases v with
 |non=>cases (show u=TR from r);rfl
 |bl b=>cases (show u=TU b from r);rfl
 |int i=>obtain⟨t,e⟩:=(show ∃t,u=Ti i t from r);cases e;rfl
 |str x=>obtain⟨t,e⟩:=(show ∃t,u=Tj x t from r);cases e;rfl
 |byt b=>obtain⟨t,e⟩:=(show ∃t,u=Value.bytes b t from r);cases e;rfl
 |flt b=>obtain⟨t,e⟩:=(show ∃t,u=UH b t from r);cases e;rfl
 |ref a=>cases (show u=Py a from r);rfl
 |ty n=>cases (show u=Rr n from r);rfl
section
variable{P:Program}{w:Pf}{H H':Hp}{h h':PH}{a C dx:O4}{fs fs':List (Str×V)}
theorem rb(hok:HOk P w H h)(e:H a=Vn (.ins C dx fs)):∃mA,zI h a dx C mA/\(∀f,nh (fs.lookup f) (mA f))/\Ue mA (fs.map (·.1))/\fs.length<=1000/\H dx=Vn (.own a):=by
 obtain⟨d,z,ne,ob,mA,n,r,q⟩:=(show cR P w H h a (.ins C dx fs)from hok a _ e);exact{mA,⟨ob,n,ne⟩,r,q,z,d}
end
structure Cls(K:Pa)(C:O4):Prop where
 pg:SK K C Pq=true
 hd:Tc K C=true
 po:UK K C=true
 sa:Qm K (.ref C) "__setattr__"=Vn (Vn (.builtin "object.__setattr__"))
theorem Cls.get{K:Pa}{C:O4}(c:Cls K C)(f:Str):SK K C f=true:=c.pg
def aJ(K:Pa)(C:O4)(f:Str):Prop:=Qm K (.ref C) f=Vn Vo
theorem aJ.J5{K:Pa}{C:O4}{f:Str}(n:aJ K C f):Vi K C f=Vn Vo:=by
 unfold Vi;rw[show Qm K (.ref C) f=Vn Vo from n];rfl
structure Con(K:Pa)(C:O4)(f:Str)(v:V)(u:E9):Prop where
 at_:Qm K (.ref C) f=Vn (Vn u)
 rel:Vr v u
 get:Rh K u "__get__"=Vn Vo
 cp:W.copiedNames.contains f=false
structure VI(K:Pa)(C:O4)(m:Str)(f:O4):Prop where
 at_:Qm K (.ref C) m=Vn (Vn (.ref f))
 fn:Vl K (.ref f)=true
 kp:Qs K (.ref f)=true
section
variable{X:Cx}{pins:List (O4×Obj)}{σ:St}{H:Hp}{s:O5}{a C dx:O4}{fs:List (Str×V)}{f:Str}{v:V}{A:Pp}{E:E9->O5->Prop}
theorem yV{b:Bool}{Q:E9->O5->Prop}(I:Inv X pins σ H s)(e:H a=Vn (.ins C dx fs))(c:Cls X.K C)(n:aJ X.K C f)(l:fs.lookup f=Vn v)
  (h:∀u s',Inv X pins σ H s'->Vr v u->Q u s'):wpAny (Pj X.prog X.w) A (getAttr (.ref a) f b) Q E s:=by
 obtain⟨mA,O,r,_,_,_⟩:=rb I.hok e
 obtain⟨u,hu,ru⟩:=nh.some_of (v:=v) (o:=mA f) (by rw[<-l];exact r f)
 exact get_map I.kIn O (c.get f) c.hd n hu (Cd ru) (h u _ (I.tok _) ru)
theorem yG{m:Str}{g:O4}{pl:Sem Bool}{Q:E9×List E9->O5->Prop}(I:Inv X pins σ H s)(e:H a=Vn (.ins C dx fs))(c:Cls X.K C)(k:VI X.K C m g)(l:fs.lookup m=Vo)
  (h:Q (.ref g,[.ref a]) s):wpAny (Pj X.prog X.w) A (Ux (.ref a) m pl) Q E s:=by
 obtain⟨mA,O,r,_,_,_⟩:=rb I.hok e
 have hn:mA m=Vo:=nh.none_of (by rw[<-l];exact r m)
 exact EC I.kIn O (c.get m) k.at_ k.fn hn h
theorem zM{y:V}{u:E9}{Q:Unit->O5->Prop}(I:Inv X pins σ H s)(e:H a=Vn (.ins C dx fs))(c:Cls X.K C)(n:aJ X.K C f)(hl:fs.length<1000)(ry:Vr y u)
  (h:∀s',Inv X pins σ (upd H a (.ins C dx (iJ f y fs))) s'->Q () s'):wpAny (Pj X.prog X.w) A (setAttr (.ref a) f u) Q E s:=by
 obtain⟨mA,O,r,wi,_,ho⟩:=rb I.hok e
 have hz:(fs.map (·.1)).length<=sizeLine:=by rw[Mq,QV];lia
 refine GL I.kIn O c.sa c.po n.J5 c.hd wi hz λh' O' sb=>h _ ?_
 have hd:∃o,h'.get? dx=Vn o:=let ⟨o,_,_,e',_⟩:=O'.ns;⟨o,e'⟩
 refine I.write (x:=a) (e:=dx) (by rw[e];exact NA) (.inr ho) (λb q hb z=>(sb.2 b hb).trans z) hd ?_
 refine{by rw[aY O.ne];exact ho,?_,O.ne,O'.obj,_,O'.ns,λg=>?_,λg hg=>?_}
 ·have:=ql f y fs;lia
 ·show nh ((iJ f y fs).lookup g) (if g=f then Vn u else mA g);rw[qo];by_cases q:g=f
  ·rw[if_pos q,if_pos q];exact ry
  rw[if_neg q,if_neg q];exact r g
 by_cases q:g=f
 ·rw[q];exact(pU f y fs).1
 refine(pU f y fs).2 g (wi g λz=>hg ?_)
 show(if g=f then Vn u else mA g)=Vo
 rw[if_neg q];exact z
theorem Inv.made(I:Inv X pins σ H s):Inv X pins σ (upd (upd H s.heap.objs.size (.own (s.heap.objs.size+1))) (s.heap.objs.size+1) (.ins C s.heap.objs.size []))
  { s with heap:=(s.heap.push QP).push (Rt C s.heap.objs.size) }:=by
 have e1:(s.heap.push QP).get? s.heap.objs.size=Vn QP:=Po s.heap rfl
 have e2:((s.heap.push QP).push (Rt C s.heap.objs.size)).get? (s.heap.objs.size+1)=Vn (Rt C s.heap.objs.size):=by
  have:=Po (s.heap.push QP) (o:=Rt C s.heap.objs.size) rfl;rwa [QI]at this
 have e3:(s.heap.push QP).Ns s.heap.objs.size (λ_=>Vo):={QP,#[],_,e1,rfl,(λe he=>absurd he (by simp)),λ_=>rfl}
 have I1:=I.laid (a:=s.heap.objs.size) (o:=.own (s.heap.objs.size+1)) (h':=s.heap.push QP) (t':=s.toks) (λb u q=>O9 _ q) (Ms _) {_,e1}
 refine I1.laid (a:=s.heap.objs.size+1) (o:=.ins C s.heap.objs.size []) (t':=s.toks) (λb u q=>O9 _ q) (OE (QI _ _)) ?_
 have ne:s.heap.objs.size≠s.heap.objs.size+1:=Na (Oc _)
 refine{by rw[aY ne,ao],MF _,ne,e2,λ_=>Vo,(Heap.Ns1.of_empty e3).at λo q=>O9 _ q,λ_=>NA,λy hy=>absurd rfl hy}
theorem GI{prog:Program}{w:Pf}{env:Env}{e:Expr}{f:Str}{pos:Pos}{s:O5}{Q:E9->O5->Prop}(hb:Qn e f env (P7 e env)=P7 e env)
  (h:wpAny (Pj prog w) A (P7 e env) (λo s₁=>wpAny (Pj prog w) A (getAttr o f true) Q E s₁) E s):wpAny (Pj prog w) A (P7 (.Attribute e f pos) env) Q E s:=
 Attribute_any_ h (by rw[arm_eval_Attribute,hb])
end
inductive nP(K:Pa)(f:Str)(x:V)(H:Hp)(Q:VK):Prop
 |mk(a C dx:O4)(fs:List (Str×V))(v:V)(h0:x=.ref a)(h1:H a=Vn (.ins C dx fs))(h2:Cls K C)(h3:aJ K C f)(h4:fs.lookup f=Vn v)(q:Q v H):nP K f x H Q
noncomputable def Ma(K:Pa)(ta:TE)(f:Str):TE:=λσ H Q=>ta σ H λx H1=>nP K f x H1 Q
inductive JH(K:Pa)(f:Str)(y x:V)(H:Hp)(Q:Hp->Prop):Prop
 |mk(a C dx:O4)(fs:List (Str×V))(h0:x=.ref a)(h1:H a=Vn (.ins C dx fs))(h2:Cls K C)(h3:aJ K C f)(h4:fs.length<1000)(q:Q (upd H a (.ins C dx (iJ f y fs)))):JH K f y x H Q
noncomputable def Lf(K:Pa)(ta tv:TE)(f:Str):TS:=λD σ H=>tv σ H λy H1=>ta σ H1 λx H2=>JH K f y x H2 (D.nx σ)
section
variable{X:Cx}{o e value:Expr}{f:Str}{pos pos' tpos:Pos}{ta tv:TE}
theorem aH(he:PE X e ta)(hb:Qn e f X.env (P7 e X.env)=P7 e X.env):PE X (.Attribute e f pos) (Ma X.K ta f):=by
 intro pins s σ H Q I h;refine GI hb (thn (he pins s σ H _ I h) λu s1 z9=>?_);obtain⟨x,H1,I1,rx,a,C,dx,fs,v,ex,ea,c,n,l,q⟩:=z9;subst ex;obtain rfl:u=Py a:=rx;exact yV I1 ea c n l λu' s2 I2 ru=>⟨v,H1,I2,ru,q⟩
theorem bg(ha:PE X o ta)(hv:PE X value tv)(hs:To value (Vn (.Attribute o f pos')) pos.line X.env=pure false):PS X (.Assign [.Attribute o f pos'] value pos) (Lf X.K ta tv f):=by
 intro pins s σ H D I h;refine plainObj_wpAny_Assign_Attribute (thn (hv pins s σ H _ I h) λu s1 ⟨y,H1,I1,ry,q⟩=>thn (ha pins s1 σ H1 _ I1 q) λov s2 ⟨x,H2,I2,rx,a,C,dx,fs,ex,ea,c,n,l,q2⟩=>?_) hs;subst ex;obtain rfl:ov=Py a:=rx;exact zM I2 ea c n l ry λs3 I3=>{σ,_,I3,q2}
end
section
variable{X:Cx}{pins:List (O4×Obj)}{σ:St}{H:Hp}{s:O5}{A:Pp}{E:E9->O5->Prop}{Q:E9->O5->Prop}{c:E9}{b:Bool}
inductive om(K:Pa)(H:Hp):V->E9->Prop where
 |non:om K H .non (.type "NoneType")
 |bl (x:Bool):om K H (.bl x) (.type "bool")
 |int (i:Int):om K H (.int i) (.type "int")
 |str (x:Str):om K H (.str x) (.type "str")
 |flt (x:UInt64):om K H (.flt x) (.type "float")
 |lst {a:O4}{xs:List V} (e:H a=Vn (.lst xs)):om K H (.ref a) (.type "list")
 |frz {a:O4}{o:Obj}{xs:List V} (e:H a=Vn (.frz o (.lst xs))):om K H (.ref a) (.type "list")
 |tup {a:O4}{xs:List V} (e:H a=Vn (.tup xs)):om K H (.ref a) (.type "tuple")
 |dK {a:O4}{kvs:List (Key×V)} (e:H a=Vn (.dK kvs)):om K H (.ref a) (.type "dict")
 |dT {a:O4}{kvs:List (List Key×V)} (e:H a=Vn (.dT kvs)):om K H (.ref a) (.type "dict")
 |ins {a C dx:O4}{fs:List (Str×V)} (e:H a=Vn (.ins C dx fs)) (cl:Cls K C) (ha:Qm K (.ref C) "__class__"=Vn (Vn (.builtin "object.__class__")))
   (hn:Rh K (.builtin "object.__class__") "__get__"=Vn (Vn (.builtin "getset_descriptor.__get__"))) (htk:Uz K (.builtin "object.__class__")=Vn true)
   (hm:Vm K C (.type "object")=Vn true):om K H (.ref a) (.ref C)
theorem Br{x:V}{u t:E9}(I:Inv X pins σ H s)(rx:Vr x u)(ty:om X.K H x t)(e:QJ X.K t c=Vn b)(h:∀tk,Q (.bool b) { s with toks:=tk }) :
  wpAny (Pj X.prog X.w) A (call (.builtin "isinstance") [u,c]) Q E s:=by
 cases ty with
 |non=>cases (show u=TR from rx);exact QU W.kitx_none I.kIn NA e (λz=>nomatch z) h
 |bl y=>cases (show u=TU y from rx);exact QU W.kitx_bool I.kIn NA e (λz=>nomatch z) h
 |int i=>obtain⟨t,q⟩:=(show ∃t,u=Ti i t from rx);cases q;exact QU W.kitx_int I.kIn NA e (λz=>nomatch z) h
 |str y=>obtain⟨t,q⟩:=(show ∃t,u=Tj y t from rx);cases q;exact QU W.kitx_str I.kIn NA e (λz=>nomatch z) h
 |flt y=>obtain⟨t,q⟩:=(show ∃t,u=UH y t from rx);cases q;exact QU W.kitx_float I.kIn NA e (λz=>nomatch z) h
 |@lst a xs ea=>
  cases (show u=Py a from rx)
  obtain⟨_,_,n,_,h1⟩:=(show cR X.prog X.w H s.heap a (.lst xs)from I.hok a _ ea)
  exact QU W.kitx_list I.kIn {_,h1,rfl} e (λz=>nomatch z) h
 |@frz a ob xs ea=>
  cases (show u=Py a from rx)
  obtain⟨_,_,_,n,_,h1⟩:=(show cR X.prog X.w H s.heap a (.frz ob (.lst xs))from I.hok a _ ea)
  exact QU W.kitx_list I.kIn {_,h1,rfl} e (λz=>nomatch z) h
 |@tup a xs ea=>
  cases (show u=Py a from rx)
  obtain⟨_,_,_,p⟩:=(show cR X.prog X.w H s.heap a (.tup xs)from I.hok a _ ea)
  obtain⟨o,h1,h2,_⟩:=p
  exact QU W.kitx_tuple I.kIn ⟨o,h1,h2⟩ e (λz=>nomatch z) h
 |@dK a kvs ea=>
  cases (show u=Py a from rx)
  obtain⟨_,_,vs,_,p⟩:=(show cR X.prog X.w H s.heap a (.dK kvs)from I.hok a _ ea)
  obtain⟨o,es,ep,h1,h2,_⟩:=p
  exact QU W.kitx_dict I.kIn ⟨o,h1,h2.1⟩ e (λz=>nomatch z) h
 |@dT a kvs ea=>
  cases (show u=Py a from rx)
  obtain⟨_,_,xs,_,o,es,ep,h1,h2,_⟩:=(show cR X.prog X.w H s.heap a (.dT kvs)from I.hok a _ ea)
  exact QU W.kitx_dict I.kIn ⟨o,h1,h2.1⟩ e (λz=>nomatch z) h
 |@ins a C dx fs ea cl ha hn htk hm=>
  cases (show u=Py a from rx)
  obtain⟨mA,O,_⟩:=rb I.hok ea
  obtain⟨od,J,_⟩:=O.look
  exact QU (W.kitx_own (cl.get _) cl.hd ha hn htk hm) I.kIn J e (λz=>nomatch z) h
end
structure dP(k:Nat)(A:Pp):Prop where
 hd:A.handled=Vo
 dp:A.depth+3*k+5<U0
 un:A.units+16*k+200<QQ
theorem dP.mono{j k:Nat}{A:Pp}(r:dP k A)(h:j<=k):dP j A:={r.hd,by have:=r.dp;lia,by have:=r.un;lia}
theorem dP.deeper{k:Nat}{A:Pp}(r:dP (k+1) A)(env:Env):dP k (A.deeper env):=
 {r.hd,by have:=r.dp;show A.depth+1+3*k+5<_;lia,by have:=r.un;show A.units+3+16*k+200<_;lia}
theorem zu{A:Pp}{C:O4}{us:List E9}{kw:List (Str×E9)}:(A.under (.builtin "type.__call__" {.ref C::us,kw})).depth=A.depth+1:=by
 first|rfl|simp[Uh,Code.weight,Code.isCreation,Code.isGuard,Code.isCaller,Code.frames,Ui,guardIds]
theorem y4{A:Pp}{C:O4}{us:List E9}{kw:List (Str×E9)}:(A.under (.builtin "type.__call__" {.ref C::us,kw})).units=A.units+1:=by
 first|rfl|simp[Uh,Code.cUnits,Code.frames,Ui]
theorem dP.make{k:Nat}{A:Pp}(r:dP (k+1) A)(C:O4)(us:List E9)(kw:List (Str×E9)):dP k (A.under (.builtin "type.__call__" {.ref C::us,kw})):=
 {r.hd,by have:=r.dp;rw[zu];lia,by have:=r.un;rw[y4];lia}
theorem dP.depth{k:Nat}{A:Pp}(r:dP k A):A.depth<U0:=by have:=r.dp;lia
theorem dP.units{k:Nat}{A:Pp}(r:dP k A):A.units+64<QQ:=by have:=r.un;lia
noncomputable def Fw:TA:=λ_ H Q=>Q [] H
noncomputable def DT(ta:TE)(tr:TA):TA:=λσ H Q=>ta σ H λx H1=>tr σ H1 λxs H2=>Q (x::xs) H2
section
variable{X:Cx}{e:Expr}{es:List Expr}{te:TE}{t:TA}{pos:Pos}
theorem ae:PA X [] Fw:=λ_ _ _ _ H Q I h=>Calls.spliced_nil {[],H,I,.nil,h}
theorem aa(ha:PE X e te)(hr:PA X es t)(hs:Ph (e::es) X.env=(false,P7 e X.env)::Ph es X.env:=by rfl):PA X (e::es) (DT te t):=by
 intro pos pins s σ H Q I h;rw[hs];show wpAny _ _ (spliced ((false,P7 e X.env)::Qi pos (Ph es X.env))) _ _ s;refine Calls.spliced_cons (thn (ha pins s σ H _ I h) λu s1 z9=>?_);obtain⟨x,H1,I1,r1,q1⟩:=z9;exact thn (hr pos pins s1 σ H1 _ I1 q1) λus s2 ⟨xs,H2,I2,r2,q2⟩=>{x::xs,H2,I2,.cons r1 r2,q2}
noncomputable def LZ(t:TA):TE:=λσ H Q=>t σ H λxs H1=>xs.length<=sizeLine/\∀p,H1 p=Vo->Q (.ref p) (upd H1 p (.tup xs))
noncomputable def LD(t:TA):TE:=λσ H Q=>t σ H λxs H1=>xs.length<=sizeLine/\∀p,H1 p=Vo->Q (.ref p) (upd H1 p (.lst xs))
theorem aS{x1}(h:PA X es t):PE X (.Tuple es x1 pos) (LZ t):=by
 intro pins s σ H Q I hq;refine wpAny_Tuple_spliced (thn (h pos pins s σ H _ I hq) λus s1 ⟨xs,H1,I1,r,z,q⟩=>{by rw[<-r.length];exact z,?_});have hf:H1 s1.heap.objs.size=Vo:=I1.hok.fresh (Ms _);refine{.ref s1.heap.objs.size,upd H1 s1.heap.objs.size (.tup xs),I1.laid (t':=s1.toks) (λb u e=>O9 _ e) (Ms _) ?_,rfl,q _ hf};exact{z,us,r,{_,Po _ rfl,rfl,_,rfl}}
theorem aN(h:PA X es t):PE X (.List es pos) (LD t):=by
 intro pins s σ H Q I hq;refine wpAny_List_spliced (thn (h pos pins s σ H _ I hq) λus s1 ⟨xs,H1,I1,r,z,q⟩=>{by rw[<-r.length];exact z,?_});have hf:H1 s1.heap.objs.size=Vo:=I1.hok.fresh (Ms _);refine{.ref s1.heap.objs.size,upd H1 s1.heap.objs.size (.lst xs),I1.laid (t':=s1.toks) (λb u e=>O9 _ e) (Ms _) ?_,rfl,q _ hf};exact{z,us,0,r,Po _ rfl}
end
noncomputable abbrev Sp:=List V->Hp->VK->XK->Prop
noncomputable abbrev CXT:=List Env->Hp->O5->XK->E9->O5->Prop
structure zq(P:Program)(w:Pf)(K:Pa)(mg:Str->Option E9)(base:PH)(A:Pp)(outer:List Env)(s:O5)(H:Hp):Prop where
 frames:A.frames=Vn outer
 mod:Mod K mg base
 bs:∀b o,base.get? b=Vn o->s.heap.get? b=Vn o/\H b=Vo
 bsz:base.objs.size<=s.heap.objs.size
 qv:s.heap.FunFrames base outer
 frf:∀b∈frs outer,H b=Vo
 hok:HOk P w H s.heap
 bare:Se s.gens
inductive CE(outer:List Env)(P:Program)(w:Pf)(H:Hp)(s:O5)(Q:VK)(u:E9)(s':O5):Prop
 |mk(v:V)(H':Hp)(h0:s'.os=s.os)(h1:Se s'.gens)(h2:Un (frs outer) [] H H' s.heap s'.heap)(h3:HOk P w H' s'.heap)(h4:Vr v u)(h5:Q v H'):CE outer P w H s Q u s'
def CR(CX:CXT)(outer:List Env)(P:Program)(w:Pf)(H:Hp)(s:O5)(Q:VK)(E:XK)(r:UZ)(s':O5):Prop:=
 match r with
 | .ok (.ret u)=>CE outer P w H s Q u s'
 | .ok _=>False
 | .error e=>CX outer H s E e s'
structure jY(P:Program)(w:Pf)(K:Pa)(mg:Str->Option E9)(base:PH)(CX:CXT)(k:Nat)(f:O4)(fd:QA)(ps:List Str)(sp:Sp):Prop where
 len:∀vs H Q E,sp vs H Q E->vs.length=ps.length
 run:∀(A:Pp)(outer:List Env)(s:O5)(H:Hp)(args:Args)(us:List E9)(vs:List V)(Q:VK)(E:XK),dP k A->zq P w K mg base A outer s H->SN s fd args (ps.zip us)->Vp vs us->sp vs H Q E->
  codeAny (Pj P w) A (.call (.ref f) args) (CR CX outer P w H s Q E) s
theorem jY.mono{P:Program}{w:Pf}{K:Pa}{mg:Str->Option E9}{base:PH}{CX:CXT}{j k:Nat}{f:O4}{fd:QA}{ps:List Str}{sp:Sp}(F:jY P w K mg base CX j f fd ps sp)(h:j<=k) :
  jY P w K mg base CX k f fd ps sp:={F.len,λA outer s H args us vs Q E hr=>F.run A outer s H args us vs Q E (hr.mono h)}
theorem zq.make{P:Program}{w:Pf}{K:Pa}{mg:Str->Option E9}{base:PH}{A:Pp}{outer:List Env}{s:O5}{H:Hp}(e:zq P w K mg base A outer s H)(C:O4)(us:List E9)(kw:List (Str×E9)) :
  zq P w K mg base (A.under (.builtin "type.__call__" {.ref C::us,kw})) outer s H:={by first|exact e.frames|(simpa [Uh,Code.envs,Ui,pushEnvs] using e.frames),e.mod,e.bs,e.bsz,e.qv,e.frf,e.hok,e.bare}
section
variable{X:Cx}{pins:List (O4×Obj)}{σ:St}{H:Hp}{s s':O5}
theorem Inv.BB(I:Inv X pins σ H s):zq X.prog X.w X.K X.mg X.base X.A X.stack s H:=
 ⟨I.ok.frames,I.ok.mod,I.bs,ME I.ok.bsz I.sz,I.stack,I.AV,I.hok,I.bare⟩
theorem Inv.after{Q:VK}{u:E9}(I:Inv X pins σ H s)(h:CE X.stack X.prog X.w H s Q u s'):EP X pins σ Q u s':=by
 obtain⟨v,H',os,bare,un,hok,r,q⟩:=h;obtain⟨hh,g,d,t,os'⟩:=s';obtain rfl:os'=s.os:=os;exact{v,H',I.call (h':=hh) (g':=g) (d':=d) (t':=t) (ch:=[]) un hok bare (λb z=>absurd z (by simp)),r,q}
end
noncomputable def AY(sp:Sp)(dvs:List V)(E:XK)(t:TA):TE:=λσ H Q=>t σ H λvs H1=>sp (vs++dvs) H1 Q E
inductive Mj(C:O4)(m:Str)(x:V)(H:Hp)(R:Prop):Prop
 |mk(a dx:O4)(fs:List (Str×V))(h0:x=.ref a)(h1:H a=Vn (.ins C dx fs))(h2:fs.lookup m=Vo)(q:R):Mj C m x H R
noncomputable def G0(C:O4)(sp:Sp)(dvs:List V)(E:XK)(t:TA):TE:=λσ H Q=>t σ H λvs H1=>∀x dx,H1 x=Vo->H1 dx=Vo->dx≠x->
 sp (.ref x::(vs++dvs)) (upd (upd H1 dx (.own x)) x (.ins C dx [])) (λv H2=>v=.non/\Q (.ref x) H2) E
def Vu(K:Pa)(fd:QA)(ps:List Str)(ds:List E9):Prop:=
 ∀(s:O5)(us:List E9),K.In s.heap->(us++ds).length=ps.length->SN s fd {us,[]} (ps.zip (us++ds))
theorem Vu.all{K:Pa}{fd:QA}{ps:List Str}(h:∀us:List E9,us.length=ps.length->bindArgs fd {us,[]}=pure (ps.zip us)):Vu K fd ps []:=λs us _ hl=>by
 rw[MP]at hl⊢;exact .of_eq (h us hl)
def Vy(CX:CXT)(X:Cx)(E:XK):Prop:=∀(pins:List (O4×Obj))(σ:St)(H:Hp)(s:O5)(e:E9)(s':O5),Inv X pins σ H s->CX X.stack H s E e s'->X.xe e s'
section
variable{X:Cx}{CX:CXT}{k:Nat}{f C:O4}{fd:QA}{ps:List Str}{sp:Sp}{dvs:List V}{ds:List E9}{E:XK}{x m:Str}{p pos apos:Pos}{e o:Expr}{es:List Expr}{ta:TE}{t:TA}
theorem yX{pins:List (O4×Obj)}{σ:St}{H:Hp}{s:O5}{Q:VK}{us:List E9}{vs:List V}(F:jY X.prog X.w X.K X.mg X.base CX k f fd ps sp)(hr:dP k X.A)(hb:Vu X.K fd ps ds)(hd:Vp dvs ds)(hx:Vy CX X E)
  (I:Inv X pins σ H s) (r:Vp vs us) (h:sp (vs++dvs) H Q E):wpAny (Pj X.prog X.w) X.A (call (.ref f) us) (EP X pins σ Q) X.xe s:=by
 have r2:Vp (vs++dvs) (us++ds):=r.append hd
 have hl:(us++ds).length=ps.length:=by rw[<-r2.length];exact F.len _ _ _ _ h
 refine U1 (RL (F.run X.A X.stack s H {us,[]} (us++ds) (vs++dvs) Q E hr I.BB (hb s us I.kIn hl) r2 h) λr s' hq=>?_)
 cases r with
 |error e=>exact hx pins σ H s e s' I hq
 |ok fl=>
  cases fl with
  |ret u=>exact I.after hq
  |next=>exact Qd hq
  |brk=>exact Qd hq
  |cont=>exact Qd hq
theorem AK(F:jY X.prog X.w X.K X.mg X.base CX k f fd ps sp)(hr:dP k X.A)(hg:Gl X x)(hm:X.mg x=Vn (.ref f))(hk:Qs X.K (.ref f)=true)(hb:Vu X.K fd ps ds)(hd:Vp dvs ds)(hx:Vy CX X E)
  (ha:PA X (e::es) t) (hdb:(x==("__debug__":Str))=false:=by decide) (he:Ph (e::es) X.env=(false,P7 e X.env)::Ph es X.env:=by rfl) (hpl:(Qi pos (Ph es X.env)).any (·.1)=false:=by rfl) :
  PE X (.Call (.Name x p) (e::es) [] pos) (AY sp dvs E t):=by
 intro pins s σ H Q I h
 refine QT (oW I hg hm ?_ hdb)
 refine W.callWith_K (h₀:=X.base) I.ok.mod.kin hk (thn (ha pos pins s σ H _ I h) λus s1 ⟨vs,H1,I1,r,q⟩=>{I1.kIn,?_}) he hpl
 exact yX F hr hb hd hx I1 r q
structure Mk(K:Pa)(C f:O4):Prop where
 makes:Uy K C=true
 init:Qm K (.ref C) "__init__"=Vn (Vn (.ref f))
 fn:Vl K (.ref f)=true
 kp:Qs K (.ref C)=true
theorem DW{pins:List (O4×Obj)}{σ:St}{H:Hp}{s:O5}{Q:VK}{us:List E9}{vs:List V}(M:Mk X.K C f)(F:jY X.prog X.w X.K X.mg X.base CX k f fd ps sp)(hr:dP (k+1) X.A)(hb:Vu X.K fd ps ds)(hd:Vp dvs ds)
  (hx:Vy CX X E) (I:Inv X pins σ H s) (r:Vp vs us)
  (h:∀x dx,H x=Vo->H dx=Vo->dx≠x->sp (.ref x::(vs++dvs)) (upd (upd H dx (.own x)) x (.ins C dx [])) (λv H2=>v=.non/\Q (.ref x) H2) E) :
  wpAny (Pj X.prog X.w) X.A (call (.ref C) us) (EP X pins σ Q) X.xe s:=by
 have hq:=h (s.heap.objs.size+1) s.heap.objs.size (I.hok.fresh (Ox _)) (I.hok.fresh (Ms _)) (Na (Oc _))
 have I2:=Inv.made (C:=C) I
 have r2:Vp (V.ref (s.heap.objs.size+1)::(vs++dvs)) (Py (s.heap.objs.size+1)::(us++ds)):=.cons rfl (r.append hd)
 have hl:(Py (s.heap.objs.size+1)::us++ds).length=ps.length:=by
  have e:=r2.length;rw[F.len _ _ _ _ hq]at e;exact e.symm
 refine U1 (DF (f:=f) I.kIn M.makes M.init (beq_iff_eq.mp M.fn) (RL (F.run _ X.stack _ _ {Py (s.heap.objs.size+1)::us,[]} (Py (s.heap.objs.size+1)::(us++ds)) _ _ E (hr.make C us [])
  (I2.BB.make C us []) (hb _ (Py (s.heap.objs.size+1)::us) I2.kIn hl) r2 hq) λr s' hq'=>?_))
 cases r with
 |error e=>exact hx pins σ _ _ e s' I2 hq'
 |ok fl=>
  cases fl with
  |ret u=>
   obtain⟨v,H',I3,rv,ev,q3⟩:=I2.after hq'
   subst ev
   exact{rv,{V.ref (s.heap.objs.size+1),H',I3,rfl,q3}}
  |next=>exact Qd hq'
  |brk=>exact Qd hq'
  |cont=>exact Qd hq'
theorem Ga(M:Mk X.K C f)(F:jY X.prog X.w X.K X.mg X.base CX k f fd ps sp)(hr:dP (k+1) X.A)(hg:Gl X x)(hm:X.mg x=Vn (.ref C))(hb:Vu X.K fd ps ds)(hd:Vp dvs ds)(hx:Vy CX X E)
  (ha:PA X (e::es) t) (hdb:(x==("__debug__":Str))=false:=by decide) (he:Ph (e::es) X.env=(false,P7 e X.env)::Ph es X.env:=by rfl) (hpl:(Qi pos (Ph es X.env)).any (·.1)=false:=by rfl) :
  PE X (.Call (.Name x p) (e::es) [] pos) (G0 C sp dvs E t):=by
 intro pins s σ H Q I h
 refine QT (oW I hg hm ?_ hdb)
 refine W.callWith_K (h₀:=X.base) I.ok.mod.kin M.kp (thn (ha pos pins s σ H _ I h) λus s1 ⟨vs,H1,I1,r,q⟩=>{I1.kIn,?_}) he hpl
 exact DW M F hr hb hd hx I1 r q
end
def PK(X:Cx)(kws:List Q4)(t:TA):Prop:=
 ∀(pos:Pos)(pins:List (O4×Obj))(s:O5)(σ:St)(H:Hp)(Q:List V->Hp->Prop),Inv X pins σ H s->t σ H Q->wpAny (Pj X.prog X.w) X.A (evalAll ((QK pos (Qg kws X.env)).map (·.2))) (AP X pins σ Q) X.xe s
section
variable{X:Cx}{CX:CXT}{k:Nat}{f C:O4}{fd:QA}{ps ks:List Str}{sp:Sp}{E:XK}{x m:Str}{p pos apos kpos:Pos}{e o:Expr}{es:List Expr}{kws:List Q4}{te ta:TE}{t tk:TA}{nm:Option Str}
theorem Hq:PK X [] Fw:=λ_ _ _ _ H Q I h=>wpAny_evalAll_nil {[],H,I,.nil,h}
theorem Gu(ha:PE X e te)(hr:PK X kws t):PK X (⟨nm,e,kpos⟩::kws) (DT te t):=by
 intro pos pins s σ H Q I h;show wpAny _ _ (evalAll ((do let v<-P7 e X.env;Ug pos;pure v)::(QK pos (Qg kws X.env)).map (·.2))) _ _ s;refine wpAny_evalAll_cons (O6 (thn (ha pins s σ H _ I h) λu s1 ⟨x,H1,I1,r1,q1⟩=>O6 (Sj (Pc ?_))));exact thn (hr pos pins s1 σ H1 _ I1 q1) λus s2 ⟨xs,H2,I2,r2,q2⟩=>{x::xs,H2,I2,.cons r1 r2,q2}
structure wM(K:Pa)(fd:QA)(ps ks:List Str)(g:List E9->List E9->List E9)(gV:List V->List V->List V):Prop where
 to:∀(s:O5)(us ws:List E9),K.In s.heap->(g us ws).length=ps.length->SN s fd ⟨us,ks.zip ws⟩ (ps.zip (g us ws))
 rel:∀{vs:List V}{us:List E9}{zs:List V}{ws:List E9},Vp vs us->Vp zs ws->Vp (gV vs zs) (g us ws)
noncomputable def Cu(sp:Sp)(gV:List V->List V->List V)(E:XK)(t tk:TA):TE:=λσ H Q=>t σ H λvs H1=>tk σ H1 λzs H2=>sp (gV vs zs) H2 Q E
variable{g:List E9->List E9->List E9}{gV:List V->List V->List V}
theorem Gi{pins:List (O4×Obj)}{σ:St}{H:Hp}{s:O5}{Q:VK}{us ws:List E9}{vs zs:List V}(F:jY X.prog X.w X.K X.mg X.base CX k f fd ps sp)(hr:dP k X.A)(hb:wM X.K fd ps ks g gV)(hx:Vy CX X E)
  (I:Inv X pins σ H s) (r:Vp vs us) (rz:Vp zs ws) (h:sp (gV vs zs) H Q E):wpAny (Pj X.prog X.w) X.A (call (.ref f) us (ks.zip ws)) (EP X pins σ Q) X.xe s:=by
 have r2:=hb.rel r rz
 have hl:(g us ws).length=ps.length:=by rw[<-r2.length];exact F.len _ _ _ _ h
 refine U1 (RL (F.run X.A X.stack s H ⟨us,ks.zip ws⟩ (g us ws) (gV vs zs) Q E hr I.BB (hb.to s us ws I.kIn hl) r2 h) λr s' hq=>?_)
 cases r with
 |error e=>exact hx pins σ H s e s' I hq
 |ok fl=>
  cases fl with
  |ret u=>exact I.after hq
  |next=>exact Qd hq
  |brk=>exact Qd hq
  |cont=>exact Qd hq
theorem CI(F:jY X.prog X.w X.K X.mg X.base CX k f fd ps sp)(hr:dP k X.A)(hg:Gl X x)(hm:X.mg x=Vn (.ref f))(hk:Qs X.K (.ref f)=true)(hb:wM X.K fd ps ks g gV)(hx:Vy CX X E)
  (ha:PA X (e::es) t) (hkw:PK X kws tk) (hall:(QK pos (Qg kws X.env)).all (·.1.isSome)=true:=by rfl) (hks:(QK pos (Qg kws X.env)).filterMap (·.1)=ks:=by rfl)
  (hdb:(x==("__debug__":Str))=false:=by decide) (he:Ph (e::es) X.env=(false,P7 e X.env)::Ph es X.env:=by rfl)
  (hpl:((Qi pos (Ph (e::es) X.env)).any (·.1)||(QK pos (Qg kws X.env)).any (·.1.isNone))=false:=by rfl) :
  PE X (.Call (.Name x p) (e::es) kws pos) (Cu sp gV E t tk):=by
 intro pins s σ H Q I h
 refine QT (oW I hg hm ?_ hdb)
 refine W.callWith_KW (h₀:=X.base) I.ok.mod.kin hk hall (thn (ha pos pins s σ H _ I h) λus s1 ⟨vs,H1,I1,r,q⟩=>?_) hpl he
 refine thn (hkw pos pins s1 σ H1 _ I1 q) λws s2 ⟨zs,H2,I2,rz,q2⟩=>{I2.kIn,?_}
 rw[hks]
 exact Gi F hr hb hx I2 r rz q2
end
structure aD(N P:List Str)(sc:Rg):Prop where
 kind:sc.kind=.function
 co:sc.isCoroutine=false
 gen:sc.isGenerator=false
 nd:N.Nodup
 pre:N.take P.length=P
 par:∀x∈P,sc.names.lookup x=Vn .local\/sc.names.lookup x=Vn .cell
 Jv:∀y∈sc.names,y.2≠ .free
theorem vo{kindOf:Str->Option QL}{x:Str}:∀{binds:List (Str×E9)}{m:Str->Option E9},(∀v,(x,v)∉binds)->U2 kindOf binds m x=m x
 | [],_,_=>rfl
 | (n,v)::r,m,h=>by
  unfold U2;rw[vo λw hw=>h w (Mz _ hw)];split
  ·have:x≠n:=by rintro rfl;exact h v MA
   simp[this]
  rfl
theorem uT{kindOf:Str->Option QL}{x:Str}:∀{binds:List (Str×E9)}{m:Str->Option E9},(∀v,(x,v)∉binds)->U3 kindOf binds m x=m x
 | [],_,_=>rfl
 | (n,v)::r,m,h=>by
  unfold U3;rw[uT λw hw=>h w (Mz _ hw)];split
  ·rfl
  have:x≠n:=by rintro rfl;exact h v MA
  simp[this]
theorem uX{kindOf:Str->Option QL}{x:Str}{v:E9}:∀{P:List Str}{vs:List E9}{i:Nat}{m:Str->Option E9},P.Nodup->P[i]?=Vn x->vs[i]?=Vn v->kindOf x=Vn .local->
  U2 kindOf (P.zip vs) m x=Vn v
 | [],_,_,_,_,h,_,_=>by simp at h
 |_::_,[],_,_,_,_,h,_=>by simp at h
 |p::P,w::vs,0,m,nd,h1,h2,hk=>by
  simp at h1 h2;subst h1;subst h2;show U2 kindOf ((p,w)::P.zip vs) m p=_;unfold U2;rw[vo λv hv=>(Ni.mp nd).1 (NH hv).1,if_pos hk];simp
 |p::P,w::vs,i+1,m,nd,h1,h2,hk=>by
  show U2 kindOf ((p,w)::P.zip vs) m x=_;unfold U2;exact uX (i:=i) (Ni.mp nd).2 (by simpa using h1) (by simpa using h2) hk
theorem uS{kindOf:Str->Option QL}{x:Str}{v:E9}:∀{P:List Str}{vs:List E9}{i:Nat}{m:Str->Option E9},P.Nodup->P[i]?=Vn x->vs[i]?=Vn v->kindOf x≠Vn .local->
  U3 kindOf (P.zip vs) m x=Vn v
 | [],_,_,_,_,h,_,_=>by simp at h
 |_::_,[],_,_,_,_,h,_=>by simp at h
 |p::P,w::vs,0,m,nd,h1,h2,hk=>by
  simp at h1 h2;subst h1;subst h2;show U3 kindOf ((p,w)::P.zip vs) m p=_;unfold U3;rw[uT λv hv=>(Ni.mp nd).1 (NH hv).1,if_neg hk];simp
 |p::P,w::vs,i+1,m,nd,h1,h2,hk=>by
  show U3 kindOf ((p,w)::P.zip vs) m x=_;unfold U3;exact uS (i:=i) (Ni.mp nd).2 (by simpa using h1) (by simpa using h2) hk
noncomputable def Vx(N:List Str)(vs:List V):St:=vs.map Vn++Px (N.length-vs.length) Vo
noncomputable def ub(CX:CXT)(P:Program)(w:Pf)(K:Pa)(mg:Str->Option E9)(base:PH)(N:List Str)(qual:Str)(scope:Rg)(f:O4)(cd:E9)(A:Pp)(outer:List Env)(s:O5)(H:Hp)(E:XK):Cx where
 prog:=P
 w:=w
 K:=K
 mg:=mg
 base:=base
 A:=A.deeper (Q6 qual scope s.heap.objs.size f cd)
 N:=N
 s₀:=s
 H₀:=H
 env:=Q6 qual scope s.heap.objs.size f cd
 outer:=outer
 stack:=Q6 qual scope s.heap.objs.size f cd::outer
 ex:=[]
 calm:=true
 fn:=λ_=>true
 pn:=[]
 xe:=λe s'=>wpAny (Pj P w) (A.deeper (Q6 qual scope s.heap.objs.size f cd)) (leaving (Q6 qual scope s.heap.objs.size f cd) e) (λ_ s''=>CX outer H s E e s'') (λe' s''=>CX outer H s E e' s'') s'
theorem xg{sc:Rg}{n:Nat}{x:Str}(h:sc.names.lookup x=Vn .cell):∃c,(Qc n sc.names []).lookup x=Vn c:=by
 have q:=Ru sc.names n [] (.inl h);exact NI.mp q
theorem Bz{CX:CXT}{P:Program}{w:Pf}{K:Pa}{mg:Str->Option E9}{base:PH}{N ps:List Str}{qual:Str}{scope:Rg}{f:O4}{cd:E9}{A:Pp}{outer:List Env}{s s1:O5}{H:Hp}{E:XK}{us:List E9}{vs:List V}
  (S:aD N ps scope) (hd:A.handled=Vo) (e0:zq P w K mg base A outer s H) (hl:vs.length=ps.length) (r:Vp vs us)
  (x:InCallC s s.heap.objs.size (U2 (Q6 qual scope s.heap.objs.size f cd).kindOf (ps.zip us) λ_=>Vo) (Qc (s.heap.objs.size+1) scope.names []) (U3 (Q6 qual scope s.heap.objs.size f cd).kindOf (ps.zip us) λ_=>Vo) s1) :
  Inv (ub CX P w K mg base N qual scope f cd A outer s H E) [] (Vx N vs) H s1:=by
 have hpl:ps.length<=N.length:=by have:=congrArg QF S.pre;rw[MT]at this;lia
 obtain⟨h1,tk,rfl,hk⟩:=x.done
 have noA:∀b:O4,b∉(ub CX P w K mg base N qual scope f cd A outer s H E).ex:=λb z=>absurd (show b∈([]:List O4)from z) (by simp)
 refine{{e0.mod,S.kind,rfl,rfl,Ms _,λy z c h1 h2=>?_,λy hy=>?_,λy c _ h=>?_,λ_=>hd,Around.frames_deeper e0.frames,.inr ⟨rfl,rfl⟩,λb z=>absurd z (noA b),e0.bs,e0.bsz,λb _ _=>noA b,λb z=>absurd z (noA b),e0.qv,e0.frf},
  rfl,e0.bare,Un.kept hk,{_,x.toInCall.ns,λi y v h1 h2 h3=>?_},λy c h=>{_,x.cell y c h},e0.hok.fresh (Ms _),λy c h=>?_,λp hp=>absurd (show p∈([]:List (O4×Obj))from hp) (by simp),e0.hok.kept hk,?_}
 ·exact name_of_addr x.apart (PD h1) (PD h2)
 ·have hy:scope.names.lookup y=Vn .cell\/scope.names.lookup y=Vn .free:=hy;rcases hy with hy|hy
  ·exact xg hy
  exact absurd rfl (S.Jv _ (PD hy))
 ·exact Om (x.above y c (PD h))
 ·have hi:i<vs.length:=by
   unfold Vx at h2;by_cases hi:i<vs.length
   ·exact hi
   rw[MU (by simpa using hi)]at h2;rw[Ss]at h2;split at h2<;>cases h2
  have ha:vs[i]?=Vn v:=by
   unfold Vx at h2;rw[MW (by simpa using hi),MM]at h2;cases e:vs[i]? with
   |none=>rw[e]at h2;cases h2
   |some a=>rw[e]at h2;cases h2;rfl
  obtain⟨u,hu,rv⟩:=r.get ha;have hp:ps[i]?=Vn y:=by
   rw[<-S.pre,Nm (by lia)];exact h1
  have ndP:ps.Nodup:=by rw[<-S.pre];exact S.nd.sublist (List.take_sublist _ _)
  refine{u,rv,?_};rcases S.par y (ML hp)with k|k
  ·exact .inl ⟨k,uX ndP hp hu k⟩
  obtain⟨c,e⟩:=xg (n:=s.heap.objs.size+1) k;refine .inr {.inl k,c,e,?_};have q:=x.cell y c e;rw[uS ndP hp hu (by show scope.names.lookup y≠_;rw[k];decide)]at q;exact q
 ·exact e0.hok.fresh (Om (x.above y c (PD h)))
 unfold Vx
 show _=N.length
 rw[Mo,Mq,NT]
 lia
theorem DQ{CX:CXT}{P:Program}{w:Pf}{K:Pa}{mg:Str->Option E9}{base:PH}{k:Nat}{f:O4}{name qual:Str}{params:Arguments}{body:List PB}{scope:Rg}{dV kV doc pm cdv ct oc:E9}{an od:Option O4}
  {osl:Array (Option E9)}{N ps:List Str}{sp:Sp} (lk:K.lookup f=Vn {oc,od,.func (Qo name qual params body scope dV kV doc pm an cdv ct),osl}) (hcd:RA K cdv qual=true) (S:aD N ps scope)
  (len:∀vs H Q E,sp vs H Q E->vs.length=ps.length)
  (hbody:∀(A:Pp)(outer:List Env)(s:O5)(H:Hp)(vs:List V)(Q:VK)(E:XK),dP k (A.deeper (Q6 qual scope s.heap.objs.size f cdv))->sp vs H Q E->
   ∃t,PSs (ub CX P w K mg base N qual scope f cdv A outer s H E) body t/\t { nx:=λ_ H'=>Q .non H',rt:=Q } (Vx N vs) H) :
  jY P w K mg base CX (k+1) f (Qo name qual params body scope dV kV doc pm an cdv ct) ps sp:=by
 refine{len,λA outer s H args us vs Q E hr e0 hb r hsp=>?_}
 have hl:=len _ _ _ _ hsp
 have KX:K.In s.heap:=e0.mod.kin.keeps λb o e=>(e0.bs b o e).1
 have lim:s.heap.NoLimit:=e0.mod.nolimit.keeps λb o e=>(e0.bs b o e).1
 have hkind:∀y∈ps.zip us,scope.names.lookup y.1=Vn .local\/(scope.names.lookup y.1=Vn .cell/\((Qc (s.heap.objs.size+1) scope.names []).lookup y.1).isSome=true):=λ⟨n,v⟩ hy=>by
  rcases S.par n (NH hy).1 with q|q
  ·exact .inl q
  exact .inr {q,Ru _ _ _ (.inl q)}
 refine codeAny_call_function hr.depth (KX _ _ lk) rfl S.co S.gen rfl (W.codeRec_of KX hcd) (hb _ _ _ _ ?_)
 refine wpAny_newFunctionEnv_cells S.kind hkind λenv he s1 x=>?_
 subst he
 refine{lim.keeps x.toInCall.keep,codeAny_func ?_}
 obtain⟨t,ht,hq⟩:=hbody A outer s H vs Q E (hr.deeper _) hsp
 have I:Inv (ub CX P w K mg base N qual scope f cdv A outer s H E) [] (Vx N vs) H s1:=Bz S hr.hd e0 hl r x
 refine Qy (ht [] s1 (Vx N vs) H _ I hq) (λfl s' hs=>?_) λe s' hs=>hs
 have fin:∀{σ':St}{H':Hp}{v:V}{u:E9},Inv (ub CX P w K mg base N qual scope f cdv A outer s H E) [] σ' H' s'->Vr v u->Q v H'->CE outer P w H s Q u s':=
  λ{σ' H' v u} J rv q=>⟨v,H',J.os,J.bare,J.base,J.hok,rv,q⟩
 cases fl with
 |ret u=>
  obtain⟨v,σ',H',J,rv,q⟩:=hs
  exact fin J rv q
 |next=>
  obtain⟨σ',H',J,q⟩:=hs
  exact fin (v:=V.non) (u:=TR) J rfl q
 |brk=>
  obtain⟨_,_,_,q⟩:=hs
  exact Qd q
 |cont=>
  obtain⟨_,_,_,q⟩:=hs
  exact Qd q
section
variable{X:Cx}{x:Str}{p pos:Pos}{e:Expr}{es:List Expr}{t:TA}{id T:String}{r:List V->Hp->VK->Prop}
noncomputable def tCB(r:List V->Hp->VK->Prop)(t:TA):TE:=λσ H Q=>t σ H λvs H1=>r vs H1 Q
theorem Dp(hc:dW X (.builtin id) r)(hg:Gl X x)(hm:X.mg x=Vo)(hv:QE x=Vn (.builtin id))(ha:PA X (e::es) t)(hn:x≠"__name__":=by decide)(hdb:(x==("__debug__":Str))=false:=by decide)
  (he:Ph (e::es) X.env=(false,P7 e X.env)::Ph es X.env:=by rfl) (hpl:(Qi pos (Ph es X.env)).any (·.1)=false:=by rfl):PE X (.Call (.Name x p) (e::es) [] pos) (tCB r t):=by
 intro pins s σ H Q I h
 refine QT (p8 I hg hm hv ?_ hn hdb)
 exact PyProof.Rows.callWith_builtin1 (thn (ha pos pins s σ H _ I h) λus s1 ⟨vs,H1,I1,r1,q1⟩=>hc pins s1 σ H1 vs us Q I1 r1 q1) he hpl
theorem BY(hc:dW X (.type T) r)(hg:Gl X x)(hm:X.mg x=Vo)(hv:QE x=Vn (.type T))(ha:PA X (e::es) t)(hn:x≠"__name__":=by decide)(hdb:(x==("__debug__":Str))=false:=by decide)
  (he:Ph (e::es) X.env=(false,P7 e X.env)::Ph es X.env:=by rfl) (hpl:(Qi pos (Ph es X.env)).any (·.1)=false:=by rfl):PE X (.Call (.Name x p) (e::es) [] pos) (tCB r t):=by
 intro pins s σ H Q I h
 refine QT (p8 I hg hm hv ?_ hn hdb)
 exact Qw (thn (ha pos pins s σ H _ I h) λus s1 ⟨vs,H1,I1,r1,q1⟩=>hc pins s1 σ H1 vs us Q I1 r1 q1) he hpl
end
end L2
namespace HT
open PySem PyProof.Rows
section
open PySem.SeqAt
open PySem.AutoSeq1 (wpAny_loadPart')
open PySem.MeetsSeq PySem.MeetsSeq2 PySem.MeetsSeq3
end
section
variable{prog:Program}{w:Pf}{A:Pp}{E:E9->O5->Prop}{s:O5}
noncomputable def sIx(n d:Nat):Option Int->Nat
 |none=>d
 |some v=>if v<0 then(v+(n:Int)).toNat else min v.toNat n
theorem Ij(n d:Nat)(hd:d<=n)(o:Option Int):sIx n d o<=n:=by
 cases o with
 |none=>exact hd
 |some v=>
  show(if v<0 then(v+(n:Int)).toNat else min v.toNat n)<=n;by_cases hv:v<0
  ·rw[if_pos hv];lia
  rw[if_neg hv];exact Nat.min_le_right _ _
theorem Bm(v:Int)(n d:Nat):(if v<0 then max (v+(n:Int)) 0 else min v (n:Int))=((sIx n d (Vn v):Nat):Int):=by
 show(if v<0 then max (v+(n:Int)) 0 else min v (n:Int))=(((if v<0 then(v+(n:Int)).toNat else min v.toNat n):Nat):Int);by_cases hv:v<0
 ·simp only[if_pos hv];lia
 simp only[if_neg hv];lia
theorem yR(lo hi:Option Int)(n:Nat):Q5 lo hi 1 (n:Int)=(((sIx n 0 lo:Nat):Int),((sIx n n hi:Nat):Int)):=by
 have h1:¬ ((1:Int)<0):=by lia
 unfold Q5;simp only[h1,if_false];refine RT ?_ ?_
 ·cases lo with
  |none=>rfl
  |some v=>exact Bm v n 0
 cases hi with
 |none=>rfl
 |some v=>exact Bm v n n
theorem zk(i j:Nat):P0 (i:Int) (j:Int) 1=j-i:=by
 unfold P0;have h1:(1:Int)>0:=by lia
 simp only[h1,if_true,Int.ediv_one];split<;>lia
theorem sQ{v:E9}{o:Option Int}{Q:Option Int->O5->Prop}(p:TY v o)(h:Q o s):wpAny (Pj prog w) A (Builtin.Slice.slicePartIndex v) Q E s:=by
 cases p with
 |none=>exact RW h
 |int i t=>exact slicePart_int h
theorem pP{sl:O4}{vl vu:E9}{lo hi:Option Int}{n:Nat}{Q:Int×Int×Nat->O5->Prop}(hs:s.heap.IsSliceOf sl vl vu .none)(pl:TY vl lo)(pu:TY vu hi)
  (h:Q (((sIx n 0 lo:Nat):Int),1,sIx n n hi-sIx n 0 lo) s):wpAny (Pj prog w) A (QB (.ref sl) (pure (n:Int))) Q E s:=by
 obtain⟨os,hos,hcs,hds⟩:=id hs
 unfold QB R8
 refine O6 (O6 (RB hos hds (x:=vl) rfl (O6 (RB hos hds (x:=vu) rfl (O6 (RB hos hds (x:=.none) rfl (Pc ?_)))))))
 refine O6 (RW ?_)
 show wpAny _ _ (if((1:Int)==0)=true then _ else _) _ _ s
 rw[if_neg (by decide)]
 refine O6 (sQ pl (O6 (sQ pu (O6 (Pc ?_)))))
 show wpAny _ _ (match Q5 lo hi 1 (n:Int)with|(lo,hi)=>pure (lo,(1:Int),P0 lo hi 1)) _ _ s
 rw[yR lo hi n]
 show wpAny _ _ (pure (((sIx n 0 lo:Nat):Int),(1:Int),P0 ((sIx n 0 lo:Nat):Int) ((sIx n n hi:Nat):Int) 1)) _ _ s
 rw[zk]
 exact Pc h
theorem Em(xs:Array E9)(i k:Nat):((Pu k).filterMap λ(m:Nat)=>xs[((i:Int)+(m:Int)*1).toNat]?).toArray=((xs.toList.drop i).take k).toArray:=by
 have e:(λ(m:Nat)=>xs[((i:Int)+(m:Int)*1).toNat]?)=λm=>xs[i+m]?:=by
  funext m
  have:((i:Int)+(m:Int)*1).toNat=i+m:=by lia
  rw[this]
 rw[e];have:=pick_run xs i k;rw[List.filterMap_map]at this;have e2:((λx=>xs[x]?)∘λx=>i+x)=λm=>xs[i+m]?:=rfl;rw[e2]at this;rw[this]
theorem oN{t sl:O4}{items:Array E9}{vl vu:E9}{lo hi:Option Int}{Q:E9->O5->Prop}(ht:IsTup s.heap t items)(hs:s.heap.IsSliceOf sl vl vu .none)(pl:TY vl lo)(pu:TY vu hi)
  (hw:¬ (sIx items.size 0 lo=0/\sIx items.size items.size hi=items.size))
  (h:Q (.ref s.heap.objs.size) { s with heap:=s.heap.push { cls:=.type "tuple",data:=.seq ((items.toList.drop (sIx items.size 0 lo)).take (sIx items.size items.size hi-sIx items.size 0 lo)).toArray } })
  (hsz:items.size<=sizeLine):wpAny (Pj prog w) A (Sh (.ref t) (.ref sl)) Q E s:=by
 have htake:sizeOk (.seq ((items.toList.drop (sIx items.size 0 lo)).take (sIx items.size items.size hi-sIx items.size 0 lo)).toArray):=by
  show((items.toList.drop (sIx items.size 0 lo)).take (sIx items.size items.size hi-sIx items.size 0 lo)).toArray.size<=sizeLine;rw[MN,MT,Nd,MI];lia
 have hj:sIx items.size items.size hi<=items.size:=Ij _ _ (Ms _) hi
 obtain⟨os,hos,hcs,hds⟩:=id hs
 have hTs:s.TypeIs (.ref sl) "slice":=⟨os,hos,hcs⟩
 unfold Sh
 try with_reducible refine wpAny_holding ?_
 first|refine O6 (Pc ?_)|skip
 refine O6 (Uj ht.typeIs (by decide) ?_)
 refine O6 (Su (name:=RN "__getitem__") ht.typeIs Ql
  (Rv Ql ht.typeIs Tw ?_ (TZ _ _)))
 show wpAny _ _ (RX (.ref t)>>=_) _ _ s
 refine O6 (tupleItemsOf_ ht ?_)
 refine O6 (SO hTs ?_)
 rw[if_pos (by decide)]
 refine O6 (pP hs pl pu ?_)
 have hno:¬ ((((sIx items.size 0 lo:Nat):Int)==0&&(1:Int)==1&&(sIx items.size items.size hi-sIx items.size 0 lo)==items.size)=true):=by
  intro q;rw[NO,NO]at q;have q1:((sIx items.size 0 lo:Nat):Int)=0:=eq_of_beq q.1.1;have q2:sIx items.size items.size hi-sIx items.size 0 lo=items.size:=eq_of_beq q.2;exact hw ⟨by lia,by lia⟩
 show wpAny _ _ (if(((sIx items.size 0 lo:Nat):Int)==0&&(1:Int)==1&&(sIx items.size items.size hi-sIx items.size 0 lo)==items.size)=true then _ else _) _ _ s
 rw[if_neg hno,Em]
 first
  |exact O6 (m:=PV _) (P2 (Pc {_,rfl,Pc h}) htake)
  |exact O6 (m:=PV _) (P2 (O6 (Pc (Pc {_,rfl,Pc h}))) htake)
  |exact O6 (O6 (m:=PV _) (P2 (Pc (Pc {_,rfl,Pc h})) htake))
  |exact O6 (O6 (m:=PV _) (P2 (Pc {_,rfl,Pc h}) htake))
end
end HT
namespace L2
open PySem PySem.Spec PyProof.Rows
noncomputable abbrev TO:=St->Hp->(Option Int->Hp->Prop)->Prop
def PO(X:Cx)(e:Option Expr)(t:TO):Prop:=
 ∀(pins:List (O4×Obj))(s:O5)(σ:St)(H:Hp)(Q:Option Int->Hp->Prop),Inv X pins σ H s->t σ H Q->
  wpAny (Pj X.prog X.w) X.A (evalPart e X.env) (λu s'=>∃o H',Inv X pins σ H' s'/\TY u o/\Q o H') X.xe s
noncomputable def Gs:TO:=λ_ H Q=>Q Vo H
inductive KC(x:V)(H:Hp)(Q:Option Int->Hp->Prop):Prop
 |mk(i:Int)(h:x=.int i)(q:Q (Vn i) H):KC x H Q
noncomputable def J7(t:TE):TO:=λσ H Q=>t σ H λx H1=>KC x H1 Q
section
variable{X:Cx}{e:Expr}{te:TE}{lo hi:Option Expr}{tl th:TO}{pos p2:Pos}
theorem AG:PO X Vo Gs:=by
 intro pins s σ H Q I h;rw[TJ];exact Pc ⟨Vo,H,I,.none,h⟩
theorem qQ(h:PE X e te):PO X (Vn e) (J7 te):=by
 intro pins s σ H Q I hw;rw[evalPart_some];refine thn (h pins s σ H _ I hw) λu s1 z9=>?_;obtain⟨x,H1,I1,r1,q1⟩:=z9;obtain⟨i,rfl,q⟩:=q1;obtain⟨t,rfl⟩:=r1;exact⟨Vn i,H1,I1,.int i t,q⟩
def SlR(X:Cx)(r:V->Option Int->Option Int->Hp->VK->Prop):Prop:=
 ∀(pins:List (O4×Obj))(s:O5)(σ:St)(H:Hp)(x:V)(v vl vu:E9)(lo hi:Option Int)(sl:O4)(Q:VK),Inv X pins σ H s->Vr x v->s.heap.IsSliceOf sl vl vu .none->TY vl lo->TY vu hi->r x lo hi H Q->
  ∃T id,typeLookup (.type T) "__getitem__"=pure (Vn (.builtin id))/\s.TypeIs v T/\wpAny (Pj X.prog X.w) X.A (Sh v (.ref sl)) (EP X pins σ Q) X.xe s
theorem SlR.or{r r':V->Option Int->Option Int->Hp->VK->Prop}(h:SlR X r)(h':SlR X r'):SlR X (λx lo hi H Q=>r x lo hi H Q\/r' x lo hi H Q):=by
 intro pins s σ H x v vl vu lo hi sl Q I rx hs pl pu q;rcases q with q|q
 ·exact h pins s σ H x v vl vu lo hi sl Q I rx hs pl pu q
 exact h' pins s σ H x v vl vu lo hi sl Q I rx hs pl pu q
noncomputable def tSl(r:V->Option Int->Option Int->Hp->VK->Prop)(te:TE)(tl th:TO):TE:=λσ H Q=>te σ H λx H1=>tl σ H1 λl H2=>th σ H2 λu H3=>r x l u H3 Q
theorem tP{r:V->Option Int->Option Int->Hp->VK->Prop}(hr:SlR X r)(he:PE X e te)(hl:PO X lo tl)(hu:PO X hi th):PE X (.Subscript e (.Slice lo hi Vo p2) pos) (tSl r te tl th):=by
 intro pins s σ H Q I h;refine U4 (thn (he pins s σ H _ I h) λv s1 z9=>?_);obtain⟨x,H1,I1,r1,q1⟩:=z9;refine wpAny_Slice (thn (hl pins s1 σ H1 _ I1 q1) λvl s2 ⟨l,H2,I2,pl,q2⟩=>thn (hu pins s2 σ H2 _ I2 q2) λvu s3 z9=>?_);obtain⟨u,H3,I3,pu,q3⟩:=z9;rw[TJ];refine Pc ?_;have I4:Inv X pins σ H3 { s3 with heap:=s3.heap.push { cls:=.type "slice",data:=.fields #[vl,vu,.none] } }:=I3.kept (t':=s3.toks) λb ob q=>O9 _ q;obtain⟨T,id,hT,ht,hg⟩:=hr pins { s3 with heap:=s3.heap.push { cls:=.type "slice",data:=.fields #[vl,vu,.none] } } σ H3 x v vl vu l u s3.heap.objs.size Q I4 r1 (T1 ..) pl pu q3;show wpAny (Pj X.prog X.w) X.A (TK e (.Slice lo hi Vo p2) v (.ref s3.heap.objs.size)) (EP X pins σ Q) X.xe { s3 with heap:=s3.heap.push { cls:=.type "slice",data:=.fields #[vl,vu,.none] } };exact tail_any (ops:=[.ref s3.heap.objs.size,v]) ht hT hg (by with_unfolding_all rfl)
noncomputable def qz(xs:List V)(lo hi:Option Int):List V:=(xs.drop (HT.sIx xs.length 0 lo)).take (HT.sIx xs.length xs.length hi-HT.sIx xs.length 0 lo)
theorem qp(xs:List V)(lo hi:Option Int):(qz xs lo hi).length<=xs.length:=by
 unfold qz;rw[MT,Nd];lia
def IW(K:Pa):V->Option Int->Option Int->Hp->VK->Prop:=λx lo hi H Q=>∃a xs,x=.ref a/\SqT K H a xs/\
 ¬ (HT.sIx xs.length 0 lo=0/\HT.sIx xs.length xs.length hi=xs.length)/\∀p,H p=Vo->Q (.ref p) (upd H p (.tup (qz xs lo hi)))
theorem Jr:SlR X (IW X.K):=by
 intro pins s σ H x v vl vu lo hi sl Q I rx hs pl pu h;obtain⟨a,xs,rfl,hx,hw,q⟩:=h;cases rx;obtain⟨its,r,ht,hz⟩:=I.tuple hx;have hlen:its.toArray.size=xs.length:=by rw[MN];exact r.length.symm
 refine{"tuple",_,PyProof.Rows.slot_tuple_getitem.lookup,ht.typeIs,?_};refine HT.oN ht hs pl pu (by rw[hlen];exact hw) ?_ (by rw[hlen];exact hz);rw[hlen];refine{.ref s.heap.objs.size,_,I.laid (t':=s.toks) (o:=.tup (qz xs lo hi)) (λb ob q=>O9 _ q) (Ms _) ?_,rfl,q _ (I.hok.fresh (Ms _))};exact{ME (qp xs lo hi) hz,_,(r.drop (HT.sIx xs.length 0 lo)).take (HT.sIx xs.length xs.length hi-HT.sIx xs.length 0 lo),IsTup.new _ _}
end
noncomputable def ixN(n:Nat)(i:Int):Option Nat:=if 0<=i then(if i<n then Vn i.toNat else Vo)else if -(n:Int)<=i then Vn (i+n).toNat else Vo
noncomputable def atI{α:Type}(xs:List α)(i:Int):Option α:=(ixN xs.length i).bind λj=>xs[j]?
theorem Aq{n:Nat}{i:Int}{j:Nat}(h:ixN n i=Vn j):seqIndex? i n=Vn j/\j<n/\-(n:Int)<=i/\i<n:=by
 unfold ixN at h;by_cases h0:0<=i
 ·rw[if_pos h0]at h;by_cases h1:i<n
  ·rw[if_pos h1]at h;have e:i.toNat=j:=Pn h;exact{by rw[UL h0 h1,e],by lia,by lia,h1}
  rw[if_neg h1]at h;cases h
 rw[if_neg h0]at h;by_cases h1:-(n:Int)<=i
 ·rw[if_pos h1]at h;have e:(i+n).toNat=j:=Pn h;exact{by rw[Uk (by lia) h1,e],by lia,h1,by lia}
 rw[if_neg h1]at h;cases h
theorem vC{α:Type}{xs:List α}{i:Int}{v:α}(h:atI xs i=Vn v):∃j,seqIndex? i xs.length=Vn j/\xs[j]?=Vn v/\j<xs.length/\-(xs.length:Int)<=i/\i<xs.length:=by
 unfold atI at h;cases e:ixN xs.length i with
 |none=>rw[e]at h;cases h
 |some j=>
  rw[e]at h;obtain⟨h1,h2,h3,h4⟩:=Aq e;exact⟨j,h1,h,h2,h3,h4⟩
theorem iZ{α:Type}{xs:List α}{j:Nat}{v:α}(h:xs[j]?=Vn v):atI xs (j:Int)=Vn v:=by
 have hj:j<xs.length:=(MC.mp h).1;have e:ixN xs.length (j:Int)=Vn j:=by
  unfold ixN;rw[if_pos (by lia),if_pos (by lia)];simp
 unfold atI;rw[e];exact h
def zW(b:Expr):Prop:=∀o i,subscripted b false o i=operate [o,i] (Sh o i)
def IxR(X:Cx)(r:R2):Prop:=
 ∀(value slice:Expr)(pins:List (O4×Obj))(s:O5)(σ:St)(H:Hp)(x y:V)(v u:E9)(Q:VK),Inv X pins σ H s->Vr x v->Vr y u->r x y H Q->
  subscripted slice false v u=operate [v,u] (Sh v u)->wpAny (Pj X.prog X.w) X.A (TK value slice v u) (EP X pins σ Q) X.xe s
def MtR(X:Cx)(id:String)(r:V->List V->Hp->VK->Prop):Prop:=
 ∀(pins:List (O4×Obj))(s:O5)(σ:St)(H:Hp)(x:V)(xs:List V)(v:E9)(us:List E9)(Q:VK),Inv X pins σ H s->Vr x v->Vp xs us->r x xs H Q->
  wpAny (Pj X.prog X.w) X.A (call (.builtin id) (v::us)) (EP X pins σ Q) X.xe s
section
variable{X:Cx}{a b:Expr}{ta tb:TE}{pos:Pos}
theorem KD{r:R2}(hr:IxR X r)(ha:PE X a ta)(hb:PE X b tb)(hs:zW b):PE X (.Subscript a b pos) (tOp r ta tb):=by
 intro pins s σ H Q I h;exact U4 (Ja ha hb I h λv u s2 x y H2 I2 rx ry q=>hr a b pins s2 σ H2 x y v u Q I2 rx ry q (hs _ _))
noncomputable def Md(K:Pa):R2:=λx y H Q=>∃p xs i v,x=.ref p/\y=.int i/\SqL K H p xs/\atI xs i=Vn v/\Q v H
noncomputable def LI(K:Pa):R2:=λx y H Q=>∃p xs i v,x=.ref p/\y=.int i/\SqT K H p xs/\atI xs i=Vn v/\Q v H
noncomputable def L9:R2:=λx y H Q=>∃z i c,x=.str z/\y=.int i/\z.length<=sizeLine/\atI z.cps.toList i=Vn c/\Q (.str ⟨#[c]⟩) H
theorem Fm:IxR X (Md X.K):=by
 intro value slice pins s σ H x y v u Q I rx ry h hs;obtain⟨p,xs,i,z,rfl,rfl,hq,he,q⟩:=h;cases rx;obtain⟨t,rfl⟩:=ry;obtain⟨its,r,pl,hz⟩:=I.list hq;obtain⟨j,h1,h2,h3,h4,h5⟩:=vC he;obtain⟨w,ew,rw'⟩:=r.get h2;have hl:=r.length;have hn:=p9;have fin:EP X pins σ Q w s:=⟨z,H,I,rw',q⟩;by_cases h0:0<=i
 ·have hj:i.toNat=j:=by
   rw[UL h0 h5]at h1;exact Pn h1
  exact item_listR pl.isList h0 (by lia) (by rw[hj];simpa using ew) fin hs
 have hj:(i+(its.toArray.size:Int)).toNat=j:=by
  rw[Uk (by lia) h4]at h1;rw[MN,<-hl];exact Pn h1
 exact SQ (x:=w) pl.isList.typeIs slot_list_getitem.lookup
  (wpAny_getItem_list_neg (Q:=λr s'=>r=w/\EP X pins σ Q r s') pl.isList (by lia) (by rw[MN]<;>lia) (by lia) (by rw[hj];simpa using ew) ⟨rfl,fin⟩) hs
theorem Ip:IxR X (LI X.K):=by
 intro value slice pins s σ H x y v u Q I rx ry h hs;obtain⟨p,xs,i,z,rfl,rfl,hq,he,q⟩:=h;cases rx;obtain⟨t,rfl⟩:=ry;obtain⟨its,r,pl,hz⟩:=I.tuple hq;obtain⟨j,h1,h2,h3,h4,h5⟩:=vC he;obtain⟨w,ew,rw'⟩:=r.get h2;have hl:=r.length;have hn:=p9;have fin:EP X pins σ Q w s:=⟨z,H,I,rw',q⟩;exact SQ (x:=w) pl.typeIs slot_tuple_getitem.lookup
  (getItem_tuple (j:=j) (Q:=λr s'=>r=w/\EP X pins σ Q r s') pl (by lia) (by lia) (by rw[MN,<-hl];exact h1) (by simpa using ew) ⟨rfl,fin⟩) hs
theorem JA:IxR X L9:=by
 intro value slice pins s σ H x y v u Q I rx ry h hs;obtain⟨z,i,c,rfl,rfl,hz,he,q⟩:=h;obtain⟨t,rfl⟩:=rx;obtain⟨t',rfl⟩:=ry;obtain⟨j,h1,h2,h3,h4,h5⟩:=vC he;have hl:z.cps.toList.length=z.length:=by simp[Str.length]
 rw[hl]at h1 h4 h5;have hn:=p9;exact tail_any (T2 s z t) slot_str_getitem.lookup (getItem_str (c:=c) (by
  have e1:decide (i< -(2^63:Int))=false:=decide_eq_false (by lia);have e2:decide (i ≥ 2^63)=false:=decide_eq_false (by lia);rw[e1,e2,Bool.or_false]) (by rw[h1];simpa using h2) {.str ⟨#[c]⟩,H,I.tok _,{_,rfl},q}) hs
theorem zG(its:List E9)(n j:Nat)(u:E9):QX (·.setIfInBounds j u) { cls:=.type "list",data:=.seq its.toArray n }={ cls:=.type "list",data:=.seq (its.set j u).toArray n }:=by
 simp[QX]
theorem Inv.lst{pins:List (O4×Obj)}{σ:St}{H:Hp}{s:O5}{p:O4}{xs:List V}(I:Inv X pins σ H s)(h:H p=Vn (.lst xs)) :
  ∃(its:List E9)(n:Nat),Vp xs its/\s.heap.get? p=Vn { cls:=.type "list",data:=.seq its.toArray n }/\xs.length<=sizeLine:=by
 obtain⟨z,its,n,r,e⟩:=I.hok p _ h
 exact⟨its,n,r,e,z⟩
theorem Inv.Ie{pins:List (O4×Obj)}{σ:St}{H:Hp}{s:O5}{p:O4}{xs ys:List V}{its its':List E9}{n n':Nat}{f:Obj->Obj}(I:Inv X pins σ H s)(h:H p=Vn (.lst xs))
  (ho:s.heap.get? p=Vn { cls:=.type "list",data:=.seq its.toArray n }) (hf:f { cls:=.type "list",data:=.seq its.toArray n }={ cls:=.type "list",data:=.seq its'.toArray n' }) (r:Vp ys its') (hz:ys.length<=sizeLine) (t:Nat) :
  Inv X pins σ (upd H p (.lst ys)) { s with heap:=s.heap.update p f,toks:=t }:=by
 have e:(s.heap.update p f).get? p=Vn { cls:=.type "list",data:=.seq its'.toArray n' }:=by
  rw[Heap.get?_update_self f ho (by rw[hf]<;>rfl),hf]
 refine I.write (x:=p) (e:=p) (by rw[h];trivial) (.inl rfl) (λb u hb q=>(Rk _ _ (MR hb)).trans q) {_,e} ?_
 exact⟨hz,its',n',r,e⟩
def GO:V->V->V->Hp->(Hp->Prop)->Prop:=λo i v H Q=>∃p xs k j,o=.ref p/\i=.int k/\H p=Vn (.lst xs)/\ixN xs.length k=Vn j/\Q (upd H p (.lst (xs.set j v)))
theorem Vs:EE X GO:=by
 intro pins s σ H o i v ov iv u Q I ro ri rv h;obtain⟨p,xs,k,j,rfl,rfl,hp,hj,q⟩:=h;cases ro;obtain⟨t,rfl⟩:=ri;obtain⟨its,n,r,ho,hz⟩:=I.lst hp;obtain⟨h1,h2,h3,h4⟩:=Aq hj;have hl:=r.length;have hn:=p9;have I':Inv X pins σ (upd H p (.lst (xs.set j v))) { s with heap:=s.heap.update p (QX (·.setIfInBounds j u)) }:=
  I.Ie hp ho (zG its n j u) (r.set rv j) (by rw[List.length_set];exact hz) s.toks
 by_cases h0:0<=k
 ·have hk:k.toNat=j:=by
   rw[UL h0 h4]at h1;exact Pn h1
  exact W.ki_setAt ho h0 (by lia) (by rw[MN,<-hl];exact h4) (by rw[hk];exact{_,I',q})
 have hk:(k+(its.toArray.size:Int)).toNat=j:=by
  rw[Uk (by lia) h3]at h1;rw[MN,<-hl];exact Pn h1
 exact W.ki_setBack ho (by lia) (by rw[MN,<-hl];exact h3) (by lia) (by rw[hk];exact{_,I',q})
theorem vF(lo hi:Option Int)(n:Nat):(Ri lo hi Vo n).1=((HT.sIx n 0 lo:Nat):Int)/\(Ri lo hi Vo n).2.1=((HT.sIx n n hi:Nat):Int)/\(Ri lo hi Vo n).2.2=1:=by
 refine{?_,?_,rfl}
 ·cases lo with
  |none=>simp[Ri,HT.sIx]
  |some i=>
   simp only[Ri,HT.sIx,UA,show(1:Int)>0 by decide,if_true];by_cases h:i<0
   ·simp only[h,if_true]<;>lia
   simp only[h,if_false]<;>lia
 cases hi with
 |none=>simp[Ri,HT.sIx]
 |some i=>
  simp only[Ri,HT.sIx,UA,show(1:Int)>0 by decide,if_true];by_cases h:i<0
  ·simp only[h,if_true]<;>lia
  simp only[h,if_false]<;>lia
theorem tY(its:List E9)(lo hi:Option Int):slicePick its.toArray lo hi Vo=((its.drop (HT.sIx its.length 0 lo)).take (HT.sIx its.length its.length hi-HT.sIx its.length 0 lo)).toArray:=by
 obtain⟨h1,h2,h3⟩:=vF lo hi its.toArray.size;unfold slicePick;rw[h1,h2,h3];simp only[sliceRange_one,pick_run,MN]<;>rfl
def IM(K:Pa):V->Option Int->Option Int->Hp->VK->Prop:=λx lo hi H Q=>∃a xs,x=.ref a/\SqL K H a xs/\∀p,H p=Vo->Q (.ref p) (upd H p (.lst (qz xs lo hi)))
theorem Fz:SlR X (IM X.K):=by
 intro pins s σ H x v vl vu lo hi sl Q I rx hs pl pu h;obtain⟨a,xs,rfl,hx,q⟩:=h;cases rx;obtain⟨its,r,ht,hz⟩:=I.list hx;have hlen:=r.length;refine{"list",_,slot_list_getitem.lookup,ht.isList.typeIs,?_};refine wpAny_getItem_list_slice ht.isList hs pl pu .none (by simp) ?_ (by rw[MN]<;>lia);rw[tY,<-hlen];refine{.ref s.heap.objs.size,_,I.laid (t':=s.toks) (o:=.lst (qz xs lo hi)) (λb ob q=>O9 _ q) (Ms _) ?_,rfl,q _ (I.hok.fresh (Ms _))};exact{ME (qp xs lo hi) hz,_,0,(r.drop (HT.sIx xs.length 0 lo)).take (HT.sIx xs.length xs.length hi-HT.sIx xs.length 0 lo),Po _ rfl}
noncomputable def lW:V->Bool
 | .non=>true
 | .bl _=>true
 | .int _=>true
 | .str _=>true
 |_=>false
noncomputable def eqV:V->V->Bool
 | .non,.non=>true
 | .bl a,.bl b=>a==b
 | .bl a,.int b=>(if a then 1 else 0)==b
 | .int a,.bl b=>a==(if b then 1 else 0)
 | .int a,.int b=>a==b
 | .str a,.str b=>a==b
 |_,_=>false
theorem HW{A:Pp}{s:O5}{y x:V}{u v:E9}(ry:Vr y u)(rx:Vr x v)(fy:lW y=true)(fx:lW x=true):SR A s u v (eqV y x):=by
 cases y with
 |non=>
  cases ry;cases x with
  |non=>cases rx;exact SeqAt.EqAt.same _
  |bl b=>cases rx;exact SeqAt.EqAt.none_bool b
  |int b=>obtain⟨t,rfl⟩:=rx;exact SeqAt.EqAt.none_int b t
  |str b=>obtain⟨t,rfl⟩:=rx;exact SeqAt.EqAt.none_str b t
  |_=>exact absurd (show false=true from fx) My
 |bl a=>
  cases ry;cases x with
  |non=>cases rx;exact SeqAt.EqAt.bool_none a
  |bl b=>cases rx;exact SeqAt.EqAt.bool_bool a b
  |int b=>obtain⟨t,rfl⟩:=rx;exact SeqAt.EqAt.bool_int a b t
  |str b=>obtain⟨t,rfl⟩:=rx;exact SeqAt.EqAt.bool_str a b t
  |_=>exact absurd (show false=true from fx) My
 |int a=>
  obtain⟨t',rfl⟩:=ry;cases x with
  |non=>cases rx;exact SeqAt.EqAt.int_none a t'
  |bl b=>cases rx;exact SeqAt.EqAt.int_bool a t' b
  |int b=>obtain⟨t,rfl⟩:=rx;exact T3 a t' b t
  |str b=>obtain⟨t,rfl⟩:=rx;exact TN a t' b t
  |_=>exact absurd (show false=true from fx) My
 |str a=>
  obtain⟨t',rfl⟩:=ry;cases x with
  |non=>cases rx;exact SeqAt.EqAt.str_none a t'
  |bl b=>cases rx;exact SeqAt.EqAt.str_bool a t' b
  |int b=>obtain⟨t,rfl⟩:=rx;exact TQ a t' b t
  |str b=>obtain⟨t,rfl⟩:=rx;exact T4 a t' b t
  |_=>exact absurd (show false=true from fx) My
 |_=>exact absurd (show false=true from fy) My
noncomputable def eqU(x:V)(u:E9):Bool:=match u with
 | .none=>eqV .non x
 | .bool b=>eqV (.bl b) x
 | .int i _=>eqV (.int i) x
 | .str z _=>eqV (.str z) x
 |_=>false
theorem Fb{x y:V}{u:E9}(r:Vr y u)(f:lW y=true):eqU x u=eqV y x:=by
 cases y with
 |non=>cases r;rfl
 |bl b=>cases r;rfl
 |int i=>obtain⟨t,rfl⟩:=r;rfl
 |str z=>obtain⟨t,rfl⟩:=r;rfl
 |_=>exact absurd (show false=true from f) My
theorem oy{x:V}:∀{xs:List V}{us:List E9},Vp xs us->xs.all lW=true->us.any (eqU x)=xs.any λy=>eqV y x
 |_,_,.nil,_=>rfl
 |y::xs,u::us,.cons r t,f=>by
  rw[List.all_cons,NO]at f;rw[Oy,Oy,Fb r f.1,oy t f.2]
theorem lY{A:Pp}{s:O5}{x:V}{v:E9}(rx:Vr x v)(fx:lW x=true):∀{xs:List V}{us:List E9},Vp xs us->xs.all lW=true->∀u∈us,SR A s u v (eqU x u)
 |_,_,.nil,_=>λu hu=>by cases hu
 |y::xs,u::us,.cons r t,f=>λu' hu=>by
  rw[List.all_cons,NO]at f;rcases Mw.mp hu with rfl|hu
  ·rw[Fb r f.1];exact HW r rx f.1 fx
  exact lY rx fx t f.2 u' hu
noncomputable def inV(x:V)(xs:List V):Bool:=xs.any λy=>eqV y x
noncomputable def rIn(K:Pa)(neg:Bool):R2:=λx y H Q=>∃p xs,y=.ref p/\(SqL K H p xs\/SqT K H p xs)/\lW x=true/\xs.all lW=true/\Q (.bl (if neg then !inV x xs else inV x xs)) H
theorem BA:OpR X (Pz .In) (rIn X.K false):=by
 intro pins s σ H x y v u Q I rx ry h;obtain⟨p,xs,rfl,hq,fx,fs,q⟩:=h;cases ry;rcases hq with hq|hq
 ·obtain⟨its,r,pl,hz⟩:=I.list hq;refine SeqAt.in_listAt (eqU x) pl.isList (λw hw=>lY rx fx r fs w (by simpa using hw)) {.bl _,H,I,rfl,?_};rw[show its.toArray.any (eqU x)=its.any (eqU x) by simp,oy r fs];exact q
 obtain⟨its,r,pl,hz⟩:=I.tuple hq;refine SeqAt.in_tupleAt (eqU x) pl (λw hw=>lY rx fx r fs w (by simpa using hw)) {.bl _,H,I,rfl,?_};rw[show its.toArray.any (eqU x)=its.any (eqU x) by simp,oy r fs];exact q
theorem vq:OpR X (Pz .NotIn) (rIn X.K true):=by
 intro pins s σ H x y v u Q I rx ry h;obtain⟨p,xs,rfl,hq,fx,fs,q⟩:=h;cases ry;rcases hq with hq|hq
 ·obtain⟨its,r,pl,hz⟩:=I.list hq;refine SeqAt.notIn_listAt (eqU x) pl.isList (λw hw=>lY rx fx r fs w (by simpa using hw)) {.bl _,H,I,rfl,?_};rw[show its.toArray.any (eqU x)=its.any (eqU x) by simp,oy r fs];exact q
 obtain⟨its,r,pl,hz⟩:=I.tuple hq;refine SeqAt.notIn_tupleAt (eqU x) pl (λw hw=>lY rx fx r fs w (by simpa using hw)) {.bl _,H,I,rfl,?_};rw[show its.toArray.any (eqU x)=its.any (eqU x) by simp,oy r fs];exact q
theorem wJ:OpR X (Pz .NotIn) (λx y H Q=>∃i j,x=.str i/\y=.str j/\Q (.bl (!(!(Qf j i 0 j.length 1).isEmpty))) H):=by
 intro pins s σ H x y v u Q I rx ry h;obtain⟨i,j,rfl,rfl,q⟩:=h;obtain⟨t,rfl⟩:=rx;obtain⟨t',rfl⟩:=ry;exact notIn_str {.bl _,H,I,rfl,q}
theorem dW.or{f:E9}{r r':List V->Hp->VK->Prop}(h:dW X f r)(h':dW X f r'):dW X f (λxs H Q=>r xs H Q\/r' xs H Q):=by
 intro pins s σ H xs us Q I rs q;rcases q with q|q
 ·exact h pins s σ H xs us Q I rs q
 exact h' pins s σ H xs us Q I rs q
theorem wk:dW X (.type "list") (λxs H Q=>∃p ys,xs=[.ref p]/\(SqL X.K H p ys\/SqT X.K H p ys)/\∀l,H l=Vo->Q (.ref l) (upd H l (.lst ys))):=by
 intro pins s σ H xs us Q I r h;obtain⟨p,ys,rfl,hq,q⟩:=h;obtain⟨u,rfl,rx⟩:=VC r;cases rx;have fin:∀(its:List E9),Vp ys its->ys.length<=sizeLine->∀(h':PH)(c':Nat),(∀b o',s.heap.get? b=Vn o'->h'.get? b=Vn o')->
   h'.get? s.heap.objs.size=Vn { cls:=.type "list",dict:=Vo,data:=.seq its.toArray c',slots:=#[] }->EP X pins σ Q (.ref s.heap.objs.size) { s with heap:=h' }:=λits r' hz h' c' kp e=>
  {.ref s.heap.objs.size,_,I.laid (t':=s.toks) kp (Ms _) (show cR X.prog X.w _ h' _ (.lst ys)from⟨hz,its,c',r',e⟩),rfl,q _ (I.hok.fresh (Ms _))}
 rcases hq with hq|hq
 ·obtain⟨its,r',pl,hz⟩:=I.list hq;have hlen:=r'.length;obtain⟨o,ho,hc,n,hd⟩:=pl.isList;exact call_list_seq p (.inl rfl) ho hc hd (λh' c' kp e=>fin its r' hz h' c' kp e) (by simp only[MN]<;>lia)
 obtain⟨its,r',pl,hz⟩:=I.tuple hq;have hlen:=r'.length;obtain⟨o,ho,hc,n,hd⟩:=pl;exact call_list_seq p (.inr rfl) ho hc hd (λh' c' kp e=>fin its r' hz h' c' kp e) (by simp only[MN]<;>lia)
def tyV(K:Pa)(T:String)(x:V)(H:Hp):Prop:=match x with
 | .str _=>T="str"
 | .int _=>T="int"
 | .ref p=>(T="list"/\∃xs,SqL K H p xs)\/(T="tuple"/\∃o,K.lookup p=Vn o/\o.cls=.type "tuple"/\o.dict=Vo)\/
   (T="dict"/\((∃kvs,H p=Vn (.dK kvs))\/∃kvs,H p=Vn (.dT kvs)))\/(T="set"/\∃S n,H p=Vn (.set S n))
 |_=>False
theorem DR{pins:List (O4×Obj)}{σ:St}{H:Hp}{s:O5}{T:String}{x:V}{v:E9}(I:Inv X pins σ H s)(r:Vr x v)(ty:tyV X.K T x H) :
  s.TypeIs v T/\∀a,v=.ref a->∃ob,s.heap.get? a=Vn ob/\ob.dict=Vo:=by
 cases x with
 |str z=>
  obtain⟨t,rfl⟩:=r
  cases (show T="str" from ty)
  exact{T2 s z t,λ_ e=>nomatch e}
 |int i=>
  obtain⟨t,rfl⟩:=r
  cases (show T="int" from ty)
  exact{U5 s i t,λ_ e=>nomatch e}
 |ref p=>
  cases r
  rcases ty with⟨rfl,xs,hq⟩|⟨rfl,o,hk,hc,hd⟩|⟨rfl,hk⟩|⟨rfl,S,n,hk⟩
  ·obtain⟨its,_,pl,_⟩:=I.list hq;refine{pl.isList.typeIs,λa e=>?_};cases e;obtain⟨o,n,e,c,hd,_⟩:=pl;exact⟨o,e,hd⟩
  ·refine{⟨o,I.kIn p o hk,hc⟩,λa e=>?_};cases e;exact{o,I.kIn _ o hk,hd}
  ·have z:∃o,s.heap.get? p=Vn o/\o.ExactDict:=by
    rcases hk with⟨kvs,hk⟩|⟨kvs,hk⟩
    ·obtain⟨_,_,_,_,o,_,_,e,ex,_⟩:=I.hok p _ hk;exact⟨o,e,ex⟩
    obtain⟨_,_,_,_,o,_,_,e,ex,_⟩:=I.hok p _ hk;exact⟨o,e,ex⟩
   obtain⟨o,e,ex⟩:=z;refine{⟨o,e,ex.1⟩,λa e2=>?_};cases e2;exact⟨o,e,ex.2.1⟩
  obtain⟨o,_,_,_,e,ex,_⟩:=I.hok p _ hk
  refine{⟨o,e,ex.1⟩,λa e2=>?_}
  cases e2
  exact⟨o,e,ex.2.1⟩
 |_=>exact Qd ty
noncomputable def JK(K:Pa)(T:String)(r:V->List V->Hp->VK->Prop)(to:TE):TE:=λσ H Q=>to σ H λx H1=>tyV K T x H1/\r x [] H1 Q
noncomputable def tBM(K:Pa)(T:String)(r:V->List V->Hp->VK->Prop)(to:TE)(t:TA):TE:=λσ H Q=>to σ H λx H1=>tyV K T x H1/\t σ H1 λxs H2=>r x xs H2 Q
variable{o e:Expr}{es:List Expr}{to:TE}{t:TA}{name:Str}{apos cpos:Pos}{T id:String}{r:V->List V->Hp->VK->Prop}
theorem Jb(pa:PlainAttrs T)(slot:Slot T name id)(hty:typeOf (.builtin id)=pure (.type "method_descriptor"))(hm:MtR X id r)(ho:PE X o to)
  (hbase:Qn o name X.env (P7 o X.env)=P7 o X.env:=by rfl) (hline:(apos.endLine==cpos.line)=true:=by rfl):PE X (.Call (.Attribute o name apos) [] [] cpos) (JK X.K T r to):=by
 intro pins s σ H Q I h
 refine wpAny_Call_method0_late hbase hline (thn (ho pins s σ H _ I h) λv s1 z9=>?_);obtain⟨x,H1,I1,r1,ty,q1⟩:=z9
 obtain⟨h1,h2⟩:=DR I1 r1 ty
 exact{T,id,pa,slot,hty,h1,h2,SS rfl (PySem.evalArgs_none (hm pins s1 σ H1 x [] v [] Q I1 r1 .nil q1))}
theorem EV(pa:PlainAttrs T)(slot:Slot T name id)(hty:typeOf (.builtin id)=pure (.type "method_descriptor"))(hm:MtR X id r)(ho:PE X o to)(ha:PA X (e::es) t)
  (hbase:Qn o name X.env (P7 o X.env)=P7 o X.env:=by rfl)
  (hfew:((Qi cpos (Ph (e::es) X.env)).all (λx=>!x.1)&&(QK cpos (Qg [] X.env)).all (λx=>x.1.isSome)
   &&decide ((e::es).length+([]:List Q4).length+(if([]:List Q4).isEmpty then 0 else 1)<30))=true:=by rfl)
  (hline:(apos.endLine==cpos.line)=true:=by rfl) (hs:Ph (e::es) X.env=(false,P7 e X.env)::Ph es X.env:=by rfl) (hplain:(Qi cpos (Ph es X.env)).any (·.1)=false:=by rfl) :
  PE X (.Call (.Attribute o name apos) (e::es) [] cpos) (tBM X.K T r to t):=by
 intro pins s σ H Q I h
 refine wpAny_Call_method_late hbase hfew hline rfl (thn (ho pins s σ H _ I h) λv s1 z9=>?_);obtain⟨x,H1,I1,r1,ty,q1⟩:=z9
 obtain⟨h1,h2⟩:=DR I1 r1 ty
 refine{T,id,pa,slot,hty,h1,h2,?_}
 have hA:=ha cpos pins s1 σ H1 _ I1 q1
 rw[hs]at hA⊢
 refine SS (by show(false||(Qi cpos (Ph es X.env)).any (·.1))=false;rw[hplain]<;>rfl) (Calls.evalArgs_plain ?_)
 exact thn hA λus s2 ⟨vs,H2,I2,r2,q2⟩=>hm pins s2 σ H2 x vs v us Q I2 r1 r2 q2
end
def MtM(X:Cx)(id:String)(r:V->List V->Hp->VK->Prop):Prop:=
 ∀(pins:List (O4×Obj))(s:O5)(σ:St)(H:Hp)(x:V)(xs:List V)(v:E9)(us:List E9)(Q:VK),Inv X pins σ H s->Vr x v->Vp xs us->r x xs H Q->
  wpAny (Pj X.prog X.w) X.A (call (.builtin id) (v::us)) (EP X pins σ Q) X.xe s
theorem Vp.one:∀{x:V}{us:List E9},Vp [x] us->∃u,us=[u]/\Vr x u
 |_,_,.cons r .nil=>{_,rfl,r}
theorem Vp.zero:∀{us:List E9},Vp [] us->us=[]
 |_,.nil=>rfl
theorem Vp.dropLast{xs:List V}{us:List E9}(h:Vp xs us):Vp xs.dropLast us.dropLast:=by
 induction h with
 |nil=>exact .nil
 |cons r t ih=>
  cases t with
  |nil=>exact .nil
  |cons q t'=>exact .cons r ih
theorem Vp.rep{xs:List V}{us:List E9}(h:Vp xs us):∀k:Nat,Vp (Px k xs).flatten (Px k us).flatten
 |0=>.nil
 |k+1=>by
  rw[NM,NM,Ou,Ou];exact Vp.append h (Vp.rep h k)
theorem zm{α:Type}(l:List α):l.eraseIdx (l.length-1)=l.dropLast:=by
 induction l with
 |nil=>rfl
 |cons a r ih=>
  cases r with
  |nil=>rfl
  |cons b r=>
   have e:(a::b::r).length-1=((b::r).length-1)+1:=by
    have h1:(a::b::r).length=r.length+2:=rfl;have h2:(b::r).length=r.length+1:=rfl;lia
   rw[e,List.eraseIdx_cons_succ,ih];all_goals rfl
theorem Vz(its:List E9):∀(k:Nat)(acc:List E9),
  U6 (λx1 x2=>x1++x2) acc.toArray (Px k its.toArray)=(acc++(Px k its).flatten).toArray
 |0,acc=>by simp
 |k+1,acc=>by
  have e:acc.toArray++its.toArray=(acc++its).toArray:=by simp
  have e2:(acc++its)++(Px k its).flatten=acc++(Px (k+1) its).flatten:=by
   rw[NM,Ou,MB]
  rw[<-e2,<-Vz its k (acc++its),<-e,NM,Ny]
section
variable{X:Cx}{pins:List (O4×Obj)}{σ:St}{H:Hp}{s:O5}{l b:O4}{xs ys zs:List V}
theorem Inv.Io{its its':List E9}{n:Nat}{f:Array E9->Array E9}{t':Nat}(I:Inv X pins σ H s)(hH:H l=Vn (.lst xs))
  (e:s.heap.get? l=Vn { cls:=.type "list",data:=.seq its.toArray n }) (hf:f its.toArray=its'.toArray) (hv:Vp ys its') (hz:ys.length<=sizeLine) :
  Inv X pins σ (upd H l (.lst ys)) { s with heap:=s.heap.update l (QX f),toks:=t' }:=by
 have q:=PySem.IsL.update e f
 rw[hf]at q
 refine I.write (x:=l) (e:=l) (by rw[hH];exact trivial) (.inl rfl) (λb' u hb hu=>(Rk s.heap (QX f) (MR hb)).trans hu) {_,q} ?_
 exact{hz,its',_,hv,q}
theorem Inv.IS{its:List E9}{t':Nat}(I:Inv X pins σ H s)(hv:Vp ys its)(hz:ys.length<=sizeLine) :
  Inv X pins σ (upd H s.heap.objs.size (.lst ys)) { s with heap:=s.heap.push { cls:=.type "list",data:=.seq its.toArray },toks:=t' }:=
 I.laid (λ_ _ q=>O9 _ q) (Ms _) {hz,its,0,hv,Po _ rfl}
theorem Inv.fresh(I:Inv X pins σ H s):H s.heap.objs.size=Vo:=I.hok.fresh (Ms _)
theorem Inv.zh(I:Inv X pins σ H s)(hH:H l=Vn (.lst xs)):xs.length<=sizeLine/\∃(its:List E9)(n:Nat),Vp xs its/\xs.length=its.length/\s.heap.get? l=Vn { cls:=.type "list",data:=.seq its.toArray n }:=by
 obtain⟨z,its,n,r,e⟩:=I.hok l _ hH;exact⟨z,its,n,r,r.length,e⟩
theorem yE{n:Nat}(h:n<=sizeLine):QH n=false:=by
 unfold QH;exact decide_eq_false (by lia)
end
section
variable{X:Cx}
inductive wo(x:V)(vs:List V)(H:Hp)(Q:VK):Prop
 |mk(l:O4)(xs:List V)(y:V)(h0:x=.ref l)(h1:vs=[y])(h2:H l=Vn (.lst xs))(h3:xs.length<sizeLine)(q:Q .non (upd H l (.lst (xs++[y])))):wo x vs H Q
theorem u9:MtM X "list.append" wo:=by
 intro pins s σ H x vs v us Q I rx rv h;obtain⟨l,xs,y,rfl,rfl,hH,hz,q⟩:=h;cases rx;obtain⟨u,rfl,ru⟩:=rv.one;obtain⟨z,its,n,r,hl,e⟩:=I.zh hH;refine Rw F.slot_list_append {_,e,rfl} F.entry_list_append (F.args_list_append_2 _ _) (PySem.list_append l its.toArray n u (by rw[MN];lia)) {e,?_};refine{.non,_,I.Io (its':=its++[u]) hH e (by simp) (r.append (.cons ru .nil)) ?_,rfl,q};rw[Mo,Mr];lia
def An:V->List V->Hp->VK->Prop:=λx vs H Q=>∃l b xs zs,x=.ref l/\vs=[.ref b]/\H l=Vn (.lst xs)/\H b=Vn (.lst zs)/\xs.length+zs.length<=sizeLine/\Q .non (upd H l (.lst (xs++zs)))
theorem BD:MtM X "list.extend" An:=by
 intro pins s σ H x vs v us Q I rx rv h;obtain⟨l,b,xs,zs,rfl,rfl,hH,hB,hz,q⟩:=h;cases rx;obtain⟨u,rfl,ru⟩:=rv.one;cases ru;obtain⟨z,its,n,r,hl,e⟩:=I.zh hH;obtain⟨z2,its2,n2,r2,hl2,e2⟩:=I.zh hB;have hsz:its.toArray.size+its2.toArray.size<=sizeLine:=by rw[MN,MN];lia
 have hlong:¬ (!its.toArray.isEmpty&&QH (its.toArray.size+its2.toArray.size))=true:=by
  rw[yE hsz,Bool.and_false];exact My
 refine Rw F.slot_list_extend {_,e,rfl} F.entry_list_extend (F.args_list_extend_2 _ _)
  (AutoSeq1.list_extend_list_list_0 l its.toArray n b its2.toArray n2 hlong (by rw[MN];lia) (by lia)) {e,e2,?_}
 refine{.non,_,I.Io (its':=its++its2) hH e (by simp) (r.append r2) ?_,rfl,q};rw[Mo];lia
inductive Gp(x:V)(vs:List V)(H:Hp)(Q:VK):Prop
 |mk(l:O4)(xs:List V)(y:V)(h0:x=.ref l)(h1:vs=[])(h2:H l=Vn (.lst xs))(h3:xs[xs.length-1]?=Vn y)(q:Q y (upd H l (.lst xs.dropLast))):Gp x vs H Q
theorem Jl:MtM X "list.pop" Gp:=by
 intro pins s σ H x vs v us Q I rx rv h;obtain⟨l,xs,y,rfl,rfl,hH,hy,q⟩:=h;cases rx;have hus:=rv.zero;subst hus;obtain⟨z,its,n,r,hl,e⟩:=I.zh hH;obtain⟨u,hu,ru⟩:=r.get hy;have hy':its.toArray[its.toArray.size-1]?=Vn u:=by
  show its.toArray[its.length-1]?=Vn u;rw[<-MZ,<-hl];exact hu
 refine Rw F.slot_list_pop {_,e,rfl} F.entry_list_pop (F.args_list_pop_1 _) (MeetsSeq.list_pop_last l its.toArray n u hy' (by rw[MN];lia)) {e,?_};refine{y,_,I.Io (its':=its.dropLast) hH e ?_ r.dropLast ?_,ru,q}
 ·show its.toArray.eraseIdxIfInBounds (its.toArray.size-1)=its.dropLast.toArray;rw[MN,List.eraseIdxIfInBounds_toArray,zm]
 rw[List.length_dropLast];lia
noncomputable def J8:R2:=λx y H Q=>∃l b xs zs,x=.ref l/\y=.ref b/\H l=Vn (.lst xs)/\H b=Vn (.lst zs)/\xs.length+zs.length<=sizeLine/\∀p,H p=Vo->Q (.ref p) (upd H p (.lst (xs++zs)))
theorem JF:OpR X (Qz .Add) J8:=by
 intro pins s σ H x y v u Q I rx ry h;obtain⟨l,b,xs,zs,rfl,rfl,hH,hB,hz,q⟩:=h;cases rx;cases ry;obtain⟨z,its,n,r,hl,e⟩:=I.zh hH;obtain⟨z2,its2,n2,r2,hl2,e2⟩:=I.zh hB;refine PySem.P.add_list e e2 ?_ (by rw[MN,MN];lia);have ea:its.toArray++its2.toArray=(its++its2).toArray:=by simp
 rw[ea];exact{.ref _,_,I.IS (t':=s.toks) (r.append r2) (by rw[Mo];lia),rfl,q _ I.fresh}
noncomputable def L8:R2:=λx y H Q=>∃l k xs,x=.ref l/\y=.int k/\H l=Vn (.lst xs)/\-(2^63)<=k/\k<2^63/\xs.length*k.toNat<=sizeLine/\
 ∀p,H p=Vo->Q (.ref p) (upd H p (.lst (Px k.toNat xs).flatten))
theorem len_rep{α:Type}(xs:List α)(k:Nat):(Px k xs).flatten.length=k*xs.length:=by
 induction k with
 |zero=>simp
 |succ k ih=>rw[NM,Ou,Mo,ih,Nat.succ_mul,Nat.add_comm]
theorem Ju:OpR X (Qz .Mult) L8:=by
 intro pins s σ H x y v u Q I rx ry h;obtain⟨l,k,xs,rfl,rfl,hH,h1,h2,hz,q⟩:=h;cases rx;obtain⟨t,rfl⟩:=ry;obtain⟨z,its,n,r,hl,e⟩:=I.zh hH;have hlen:its.toArray.size*k.toNat<=sizeLine:=by rw[MN,<-hl];exact hz
 have hcap:¬ its.toArray.size*k.toNat>(2^63-1)/8:=by
  have:(sizeLine:Nat)<=(2^63-1)/8:=by decide
  lia
 have hfit:¬ (!Builtin.List.listFitsIndex k)=true:=by
  rw[fitsIndex_both h1 h2];exact My
 have hlong:¬ QH (its.toArray.size*k.toNat)=true:=by
  rw[yE hlen];exact My
 have hnew:U6 (λx1 x2=>x1++x2) #[] (Px (if its.toArray.isEmpty=true then 0 else k.toNat) its.toArray)=(Px k.toNat its).flatten.toArray:=by
  have f0:∀m:Nat,U6 (λx1 x2=>x1++x2) #[] (Px m its.toArray)=(Px m its).flatten.toArray:=λm=>by
   have:=Vz its m [];rw[MX]at this;exact this
  rw[f0];cases its with
  |nil=>simp
  |cons a r'=>rw[if_neg (by simp)]
 refine wpAny_binaryOp_repeat_ref (T:="list") (U:="int") (by decide) {_,e,rfl} (λs'=>U5 s' k t) noFill_list_mul F.fills_int_mul UO repeat_list F.slot_int_index.lookup
  (Rw UO (U5 s k t) F.entry_int_rmul (F.args_int_rmul_2 _ _) (int___rmul___int_list k t l its.toArray n)
   {e,rfl,{_,e,rfl},Rw F.slot_list_mul {_,e,rfl} F.entry_list_mul (F.args_list_mul_2 _ _) (AutoListH.list___mul___list_int_3 l its.toArray n k t hfit hcap hlong) {e,?_}})
 rw[hnew];exact{.ref _,_,I.IS (t':=s.toks) (r.rep k.toNat) (by rw[len_rep,Nat.mul_comm];exact hz),rfl,q _ I.fresh}
end
section
variable{prog:Program}{w:Pf}{A:Pp}{E:E9->O5->Prop}{s:O5}
end
section
variable{X:Cx}
end
end L2
namespace Att
open PySem PySem.W PySem.Calls PyProof.Rows
theorem qK{P:QR}{h:PH}:∀(ns:List Int)(vs:List E9),WellAll P h vs (ns.map WData.int)->UT vs ns:=by
 intro ns;induction ns with
 |nil=>
  intro vs w;rw[OY]at w;cases w;exact .nil
 |cons n ns ih=>
  intro vs w;rw[MJ]at w;cases w with
  |cons a b=>
   cases a;exact .cons _ _ (ih _ b)
theorem BQ{l:OpenLaw}{n:Nat}(hn:l.most=Vn n){P:QR}{h:PH}{args:List WData}{vals:List E9}
  (hpre:l.row.toRowW.claim.pre args=true) (hwl:WellAll P h vals args) :
  ∃a vs ns,vals=[Py a]/\args=[WData.list (ns.map WData.int)]/\h.get? a=Vn { cls:=.type "list",data:=.seq vs.toArray }/\UT vs ns/\ns.length<=n:=by
 have hsh:WShape.hasAll [] args [.list .int]=true:=(pre_splitW hpre).1
 have hc:l.pre.holds [] { args:=args }=true:=(pre_splitW hpre).2
 obtain⟨d,r,rfl,h1,h2⟩:=hasAllW_cons hsh
 obtain rfl:=hasAllW_nil h2
 obtain⟨xs,rfl,h3⟩:=hasW_list h1
 obtain⟨ns,rfl⟩:=items_int h3
 have hlen:ns.length<=n:=by
  unfold OpenLaw.pre at hc;have h4:(WTm.not (.lt (.lit (.int (n:Int))) (.len (.arg 0)))).holds [] { args:=[.list (ns.map .int)] }=true:=by
   have h4:=(holds_andW hc).1;rw[hn]at h4;exact h4
  have h5:=condW_of h4 (w_not (w_lt w_lit (w_len_list (w_arg rfl))));rw[Mq]at h5;refine Nat.le_of_not_lt λq=>?_;have q':(n:Int)<((ns.length:Nat):Int):=by lia
  first
   | (rw[decide_eq_true q']at h5;exact absurd h5 (by decide))
   | (simp at h5;lia)
 cases hwl with
 |cons w1 w2=>
  cases w2
  cases w1 with
  |list ho hall=>exact{_,_,ns,rfl,rfl,ho,qK ns _ hall,hlen}
theorem Ce(l:OpenLaw)(args:List WData):l.row.toRowW.claim.post args (.bool true) args=true:=
 postW_of (r:=l.row.toRowW) (X:=(true==true))
  (show WShape.has [] (.bool true) .bool=true by first|rfl|decide|simp[WShape.has,WShape.arms,WShape.armsAll])
  (show(WTm.eq .res (.lit (.bool true))).value [] { args:=args,res:=Vn (.bool true),after:=args }=Vn (.bool (true==true))from w_eq_bool (w_res rfl) w_lit) rfl
theorem ym{l:OpenLaw}{n:Nat}{q:Program}{loose:List Str}{XP:(Str->Option E9)->PH->Prop}{YP:Pf->PH->Prop}{d:DefRec}
  (hn:l.most=Vn n) (hdf:d.params.defaults=[])
  (call:∀(w:Pf)(s₀ s₁:O5)(mg mb:Str->Option E9)(fa:O4)(o:Obj)(pm cd doc:E9)(a:O4)(vs:List E9)(ns:List Int),
   Ground q loose [] XP w s₀ mg mb s₁.heap->YP w s₁.heap->
   s₁.heap.get? fa=Vn o->o.data=.func (docDef d.name d.params d.body d.scope pm cd doc)->s₁.heap.CodeRec cd d.name->mg d.name=Vn (.ref fa)->
   s₁.heap.get? a=Vn { cls:=.type "list",data:=.seq vs.toArray }->UT vs ns->ns.length<=n->s₁.gens=#[]->
   codeAny (Pj l.prog w) Tq (.call (.ref fa) {[.ref a],[]}) (λr s'=>r=.ok (.ret (.bool true))/\OldK s₁.heap s'.heap/\s'.os=s₁.os/\Se s'.gens) s₁) :
  WalkO q loose XP YP l.row.toRowW d [] (λf vs=>U7 f vs):=by
 intro w s₀ s₁ mg mb G Y fa o pm cd doc dV kV ho hd hcd hD hmg hg args vals as hpre hlay hrd hwl hlo
 obtain rfl:dV=.none:=Dflts.none hD hdf
 obtain rfl:kV=.none:=Dflts.noKw hD
 obtain⟨a,vs,ns,rfl,rfl,hobj,hints,hlen⟩:=BQ hn hpre hwl
 refine enter_call (RL (call w s₀ s₁ mg mb fa o pm cd doc a vs ns G Y ho (fd_plain hd) hcd hmg hobj hints hlen hg) λr s' hq=>?_)
 obtain⟨rfl,h2,h3,h4⟩:=hq
 exact{.inl {.bool true,.bool true,[],rfl,λ_=>rfl,.bool true,Ce l _,λ_=>{Si,λ_ hm=>(nomatch hm)}},h2,h3,h4}
section
variable{prog:Program}{w:Pf}{A:Pp}{E:E9->O5->Prop}{s:O5}{K:Frag}
end
end Att
namespace L2
open PySem PySem.Spec PyProof.Rows
theorem vj:∀{vs:List E9}{ns:List Int},UT vs ns->Vp (ns.map V.int) vs
 |_,_,.nil=>.nil
 |_,_,.cons n t h=>.cons ⟨t,rfl⟩ (vj h)
def Jj(H:Hp):Prop:=∀b,H b=Vo\/∃o xs,H b=Vn (.frz o (.lst xs))
theorem Fc{P:Program}{w:Pf}{K:Pa}{mg mb:Str->Option E9}{CX:CXT}{k:Nat}{fa a:O4}{fd:QA}{x:Str}{sp:Sp}{s₁:O5}{vs:List E9}{ns:List Int}
  (KX:K.In s₁.heap) (hns:s₁.heap.Ns Pw mg) (hb:s₁.heap.Ns SG mb) (hbb:∀x:Str,x≠"__name__"->mb x=QE x) (hlim:s₁.heap.NoLimit) (hg:s₁.gens=#[])
  (ha:s₁.heap.get? a=Vn { cls:=.type "list",data:=.seq vs.toArray }) (hi:UT vs ns) (hl:ns.length<=sizeLine) (hr:dP k Tq)
  (F:∀base:PH,K.In base->base.Ns Pw mg->jY P w K mg base CX k fa fd [x] sp) (hbind:∀(s:O5)(u:E9),SN s fd {[u],[]} [(x,u)])
  (hsp:∀H:Hp,Jj H->SqL K H a (ns.map V.int)->sp [.ref a] H (λv _=>v=.bl true) λ_ _ _=>False)
  (hCX:∀H e s',CX [] H s₁ (λ_ _ _=>False) e s'->False) :
  codeAny (Pj P w) Tq (.call (.ref fa) {[.ref a],[]}) (λr s'=>r=.ok (.ret (.bool true))/\OldK s₁.heap s'.heap/\s'.os=s₁.os/\Se s'.gens) s₁:=by
 have rv:=vj hi
 have lenV:=hi.length
 have core:∀H:Hp,Jj H->SqL K H a (ns.map V.int)->HOk P w H s₁.heap->(∀b,H b≠Vo->b=a)->(H a≠Vo->K.lookup a=Vo)->
   codeAny (Pj P w) Tq (.call (.ref fa) {[.ref a],[]}) (λr s'=>r=.ok (.ret (.bool true))/\OldK s₁.heap s'.heap/\s'.os=s₁.os/\Se s'.gens) s₁:=by
  intro H hO hS hok hA hK
  have base_of:∀{b:O4}{o:Obj},s₁.heap.get? b=Vn o->H b=Vo->(vH s₁.heap H).get? b=Vn o:=λe n=>DG e n
  have noA:∀{b:O4}{o:Obj}{es:Array Ut}{ep:Nat},s₁.heap.get? b=Vn o->o.data=.dict es ep->H b=Vo:=λ{b o es ep} e d=>by
   cases q:H b with
   |none=>rfl
   |some u=>
    have e':b=a:=hA b (by rw[q];simp);subst e';rw[ha]at e;cases e;have d':Data.seq vs.toArray _=Data.dict es ep:=d;cases d'
  have nsK:∀{b:O4}{m:Str->Option E9},s₁.heap.Ns b m->(vH s₁.heap H).Ns b m:=λ{b m} ⟨o,es,ep,e,d,r⟩=>{o,es,ep,base_of e (noA e d),d,r}
  have hKb:K.In (vH s₁.heap H):=λb o e=>base_of (KX b o e) (by
   cases q:H b with
   |none=>rfl
   |some u=>
    have e':b=a:=hA b (by rw[q];simp);subst e';rw[hK (by rw[q];simp)]at e;cases e)
  have hM:Mod K mg (vH s₁.heap H):={hKb,nsK hns,⟨mb,nsK hb,hbb⟩,let ⟨mc,h1,h2⟩:=hlim;⟨mc,nsK h1,h2⟩}
  have e0:zq P w K mg (vH s₁.heap H) Tq [] s₁ H:={rfl,hM,λb o e=>F5 e,OE (BS _ _),trivial,λb hb=>absurd (show b∈([]:List O4)from hb) (by simp),hok,.of_eq hg}
  refine RL ((F _ hKb (nsK hns)).run Tq [] s₁ H {[.ref a],[]} [.ref a] [.ref a] _ _ hr e0 (hbind s₁ (.ref a)) (.cons rfl .nil) (hsp H hO hS)) λr s' h=>?_
  cases r with
  |error e=>exact(hCX H e s' h).elim
  |ok fl=>
   cases fl with
   |next=>exact Qd h
   |brk=>exact Qd h
   |cont=>exact Qd h
   |ret u=>
    obtain⟨v,H',os,bare,un,hok',r',q⟩:=h
    have q':v=.bl true:=q
    subst q'
    obtain rfl:u=TU true:=r'
    refine{rfl,OldK.of_keep λb o e=>?_,os,bare}
    cases q:H b with
    |none=>exact un.keep b o e q (by intro z;exact absurd (show b∈([]:List O4)from z) (by simp)) (by simp)
    |some u=>
     rcases hO b with z|⟨ob,xs,z⟩
     ·rw[q]at z;cases z
     have z2:=un.uf b ob _ z
     obtain⟨e1,_⟩:=hok b _ z
     obtain⟨e2,_⟩:=hok' b _ z2
     rw[e]at e1;cases e1
     exact e2
 cases hk:K.lookup a with
 |some o=>
  have e:=KX a o hk
  rw[ha]at e
  cases e
  refine core (λ_=>Vo) (λ_=>.inl rfl) (.inr {_,vs.toArray,_,hk,rfl,rfl,rfl,by rw[MN,lenV];exact hl,by simpa using rv}) (λb u z=>by have z':(Vo:Option HO)=Vn u:=z;cases z') (λb z=>absurd rfl z) λz=>absurd rfl z
 |none=>
  refine core (λb=>if b=a then Vn (.frz { cls:=.type "list",data:=.seq vs.toArray } (.lst (ns.map V.int)))else Vo) (λb=>?_) (.inl (.inr {{ cls:=.type "list",data:=.seq vs.toArray },if_pos rfl})) (λb u z=>?_) (λb z=>?_) λ_=>hk
  ·by_cases hb:b=a
   ·exact .inr {_,_,if_pos hb}
   exact .inl (if_neg hb)
  ·by_cases hb:b=a
   ·have z':=(if_pos hb).symm.trans z;cases z';subst hb;exact{ha,by rw[Mq];exact hl,vs,_,rv,ha}
   have z':=(if_neg hb).symm.trans z;cases z'
  by_cases hb:b=a
  ·exact hb
  exact absurd (if_neg hb) z
theorem Fv{l:Uu}{n k:Nat}{q:Program}{loose:List Str}{XP:(Str->Option E9)->PH->Prop}{YP:Pf->PH->Prop}{d:DefRec}{K:QR->Pa}{CX:Pf->CXT}{sp:Pf->Sp}{x:Str}
  (hn:l.most=Vn n) (hn2:n<=sizeLine) (hdf:d.params.defaults=[]) (hr:dP k Tq)
  (hY:∀(w:Pf)(h:PH),YP w h->(K w.params).In h)
  (F:∀(w:Pf)(mg:Str->Option E9)(fa:O4)(h:PH),(K w.params).In h->h.Ns Pw mg->mg d.name=Vn (.ref fa)->
   ∃fd:QA,(∀(s:O5)(u:E9),SN s fd {[u],[]} [(x,u)])/\
    ∀base:PH,(K w.params).In base->base.Ns Pw mg->jY l.prog w (K w.params) mg base (CX w) k fa fd [x] (sp w))
  (hsp:∀(w:Pf)(H:Hp)(a:O4)(ns:List Int),ns.length<=n->Jj H->SqL (K w.params) H a (ns.map V.int)->sp w [.ref a] H (λv _=>v=.bl true) λ_ _ _=>False)
  (hCX:∀(w:Pf)(H:Hp)(s:O5)(e:E9)(s':O5),CX w [] H s (λ_ _ _=>False) e s'->False) :
  W.WalkO q loose XP YP l.row.toRowW d [] (λf vs=>U7 f vs):=by
 refine Att.ym hn hdf λw s₀ s₁ mg mb fa o pm cd doc a vs ns G Y ho hd hcd hmg hobj hints hlen hg=>?_
 have KX:=hY w _ Y
 obtain⟨fd,hb,hF⟩:=F w mg fa _ KX G.T.g hmg
 exact Fc KX G.T.g G.T.b G.T.builtins G.T.nolimit hg hobj hints (ME hlen hn2) hr hF hb (λH hO hS=>hsp w H a ns hlen hO hS) λH e s'=>hCX w H s₁ e s'
noncomputable abbrev CX0:CXT:=λ_ _ _ _ _ _=>False
noncomputable abbrev E0:XK:=λ_ _ _=>False
theorem uP{X:Cx}:Vy CX0 X E0:=λ_ _ _ _ _ _ _ h=>h.elim
structure Fun(K:Pa)(x qual:Str)(st:PB)(f:O4)(fd:QA):Prop where
 ex:∃(oc:E9)(od:Option O4)(kV doc pm:E9)(an:Option O4)(cdv ct:E9)(osl:Array (Option E9)),
  fd=Qo x qual (bF st) (bh st) (aq st) .none kV doc pm an cdv ct/\K.lookup f=Vn ⟨oc,od,.func fd,osl⟩/\RA K cdv qual=true
 kp:Qs K (.ref f)=true
section
variable{P:Program}{w:Pf}{K:Pa}{mg:Str->Option E9}{base:PH}
theorem Fun.ok{x qual:Str}{st:PB}{f:O4}{fd:QA}{N ps:List Str}{k:Nat}{sp:Sp}(F:Fun K x qual st f fd)(S:aD N ps (aq st))(len:∀vs H Q E,sp vs H Q E->vs.length=ps.length)
  (hbody:∀(cdv:E9)(A:Pp)(outer:List Env)(s:O5)(H:Hp)(vs:List V)(Q:VK)(E:XK),dP k (A.deeper (Q6 qual (aq st) s.heap.objs.size f cdv))->sp vs H Q E->
   ∃t,PSs (ub CX0 P w K mg base N qual (aq st) f cdv A outer s H E).nox (bh st) t/\t { nx:=λ_ H'=>Q .non H',rt:=Q } (Vx N vs) H):jY P w K mg base CX0 (k+1) f fd ps sp:=by
 obtain⟨oc,od,kV,doc,pm,an,cdv,ct,osl,rfl,lk,hcd⟩:=F.ex
 refine DQ lk hcd S len λA outer s H vs Q E hr hsp=>?_
 obtain⟨t,h,q⟩:=hbody cdv A outer s H vs Q E hr hsp
 exact⟨t,h.nox,q⟩
theorem Fun.binds{x qual:Str}{st:PB}{f:O4}{fd:QA}{ps:List Str}(F:Fun K x qual st f fd)
  (h:∀(kV doc pm:E9)(an:Option O4)(cdv ct:E9)(us:List E9),us.length=ps.length->bindArgs (Qo x qual (bF st) (bh st) (aq st) .none kV doc pm an cdv ct) {us,[]}=pure (ps.zip us)):Vu K fd ps []:=by
 obtain⟨oc,od,kV,doc,pm,an,cdv,ct,osl,rfl,lk,hcd⟩:=F.ex
 exact .all (h kV doc pm an cdv ct)
theorem vB{x qual:Str}{st:PB}{f:O4}{oc:E9}{od an:Option O4}{osl:Array (Option E9)}{kV doc pm cdv ct:E9}(l:K.lookup f=Vn {oc,od,.func (Qo x qual (bF st) (bh st) (aq st) .none kV doc pm an cdv ct),osl})
  (c:RA K cdv qual=true) (k:Qs K (.ref f)=true):Fun K x qual st f (Qo x qual (bF st) (bh st) (aq st) .none kV doc pm an cdv ct):={⟨oc,od,kV,doc,pm,an,cdv,ct,osl,rfl,l,c⟩,k}
end
theorem aG{n:Nat}(h:n<=1000):n<sizeLine:=OH h (by decide)
section
variable{X:Cx}
end
theorem aZ{A B:Prop}(h:B):if false=true then A else B:=by
 rw[if_neg My];exact h
theorem bN{A B:Prop}(h:A):if true=true then A else B:=by
 rw[if_pos rfl];exact h
theorem a9{c A B:Prop}[Decidable c](h1:c->A)(h2:¬ c->B):if c then A else B:=by
 by_cases h:c
 ·rw[if_pos h];exact h1 h
 rw[if_neg h];exact h2 h
def ai(H H':Hp):Prop:=∀b o,H b=Vn o->H' b=Vn o
theorem ai.refl(H:Hp):ai H H:=λ_ _ h=>h
theorem ai.trans{H H1 H2:Hp}(a:ai H H1)(b:ai H1 H2):ai H H2:=λc o h=>b c o (a c o h)
theorem ai.free{H H':Hp}(e:ai H H'){l:O4}(h:H' l=QG):H l=QG:=by
 cases q:H l with
 |none=>rfl
 |some o=>
  rw[e l o q]at h;cases h
theorem ai.seq{K:Pa}{H H':Hp}{a:O4}{xs:List V}(e:ai H H')(h:SqL K H a xs):SqL K H' a xs:=by
 rcases h with(h|⟨o,h⟩)|h
 ·exact .inl (.inl (e _ _ h))
 ·exact .inl (.inr {o,e _ _ h})
 exact .inr h
theorem pQ{α β:Type}{l:List α}{f:α->β->Sem (ForInStep β)}(g:β->α->β)(c:β)(h:∀x∈l,∀c,f x c=pure (.yield (g c x))) :
  forIn l c f=pure (l.foldl g c):=by
 induction l generalizing c with
 |nil=>rfl
 |cons x l ih=>
  rw[List.forIn_cons,h x MA,pure_bind]
  exact ih _ λy hy=>h y (Mz _ hy)
noncomputable def fJ(env:Env)(cs:List (Str×O4))(x:Str×QL):List (Str×O4):=
 if x.2== .free then(x.1,(env.cells.lookup x.1).getD 0)::cs else cs
noncomputable def sI(env:Env)(names:List (Str×QL)):List (Str×O4):=names.foldl (fJ env) []
theorem qy{scope:Rg}{env:Env}(h:∀x∈scope.names,x.2=.free->∃c,env.cells.lookup x.1=Vn c):closureFor scope env=pure (sI env scope.names):=by
 simp only[closureFor];rw[pQ (fJ env) [] (λx hx c=>by
  obtain⟨n,kind⟩:=x;cases hk:kind==Qh with
  |false=>simp only[fJ,hk,Oo,if_false]
  |true=>
   obtain⟨a,ha⟩:=h (n,kind) hx (by simpa using hk);have ha':env.cells.lookup n=Vn a:=ha;simp only[fJ,hk,if_true,cellOf,ha',Option.getD_some,pure_bind])]
 rfl
theorem rG{env:Env}:∀{names:List (Str×QL)}{cs:List (Str×O4)}{n:Str}{c:O4},(n,c)∈names.foldl (fJ env) cs->(n,c)∈cs\/((n,Qh)∈names/\c=(env.cells.lookup n).getD 0)
 | [],_,_,_,h=>.inl h
 | (m,k)::r,cs,n,c,h=>by
  rcases rG (names:=r) (cs:=fJ env cs (m,k)) h with h|⟨h,e⟩
  ·unfold fJ at h;by_cases hk:(k==Qh)=true
   ·rw[if_pos hk]at h;rcases Mw.mp h with e|h
    ·cases e;have hk':k=.free:=by simpa using hk
     subst hk';exact .inr ⟨MA,rfl⟩
    exact .inl h
   rw[if_neg hk]at h;exact .inl h
  exact .inr {Mz _ h,e}
theorem uU{env:Env}{p:Str×O4}:∀{names:List (Str×QL)}{cs:List (Str×O4)},p∈cs->p∈names.foldl (fJ env) cs
 | [],_,h=>h
 |x::r,cs,h=>uU (names:=r) (cs:=fJ env cs x) (by
  unfold fJ;split
  ·exact Mz _ h
  exact h)
theorem wD{env:Env}{n:Str}:∀{names:List (Str×QL)}{cs:List (Str×O4)},(n,Qh)∈names->(n,(env.cells.lookup n).getD 0)∈names.foldl (fJ env) cs
 |x::r,cs,h=>by
  rcases Mw.mp h with e|h
  ·subst e;refine uU (names:=r) (cs:=fJ env cs (n,.free)) ?_;unfold fJ;rw[if_pos (by rfl)];exact MA
  exact wD (names:=r) h
theorem i8{α:Type}:∀{l:List (Str×α)}{n:Str}{c:α},(n,c)∈l->∃c',l.lookup n=Vn c'
 | (k,v)::r,n,c,h=>by
  rw[NQ];cases hb:n==k with
  |true=>exact⟨v,rfl⟩
  |false=>
   rcases Mw.mp h with e|h
   ·cases e;simp at hb
   exact i8 h
theorem fR:∀{names:List (Str×QL)}{k:Nat}{acc:List (Str×O4)}{n:Str}{c:O4},(n,c)∈Qc k names acc->(n,c)∈acc\/(k<=c/\(n,P6)∈names)
 | [],_,_,_,_,h=>.inl h
 | (m,kd)::r,k,acc,n,c,h=>by
  unfold Qc at h;by_cases hk:(kd==P6)=true
  ·rw[if_pos hk]at h;have hk':kd=.cell:=by simpa using hk
   subst hk';rcases fR (names:=r) h with h|⟨h1,h2⟩
   ·rcases Mw.mp h with e|h
    ·cases e;exact .inr {Ms _,MA}
    exact .inl h
   exact .inr {by lia,Mz _ h2}
  rw[if_neg hk]at h;rcases fR (names:=r) h with h|⟨h1,h2⟩
  ·exact .inl h
  exact .inr {h1,Mz _ h2}
theorem jG:∀{names:List (Str×QL)}{k:Nat}{acc:List (Str×O4)},(∀n c,(n,c)∈acc->c<k)->(∀n n' c,(n,c)∈acc->(n',c)∈acc->n=n')->
  ∀{n n':Str}{c:O4},(n,c)∈Qc k names acc->(n',c)∈Qc k names acc->n=n'
 | [],_,_,_,hi,_,_,_,h,h'=>hi _ _ _ h h'
 | (m,kd)::r,k,acc,hl,hi,n,n',c,h,h'=>by
  unfold Qc at h h';by_cases hk:(kd==P6)=true
  ·rw[if_pos hk]at h h';refine jG (names:=r) (acc:=(m,k)::acc) (λa b hab=>?_) (λa a' b ha ha'=>?_) h h'
   ·rcases Mw.mp hab with e|e
    ·cases e;exact Oc _
    exact NV (hl _ _ e)
   rcases Mw.mp ha with e|e<;>rcases Mw.mp ha' with e'|e'
   ·cases e;cases e';rfl
   ·cases e;exact absurd (hl _ _ e') (NL _)
   ·cases e';exact absurd (hl _ _ e) (NL _)
   exact hi _ _ _ e e'
  rw[if_neg hk]at h h';exact jG (names:=r) hl hi h h'
theorem iK:∀{names:List (Str×QL)}{h:PH}{acc:List (Str×O4)}{n:Str}{c:O4},(n,c)∈Qc h.objs.size names acc->(n,c)∈acc\/(Rx h names).IsCell c Vo
 | [],_,_,_,_,q=>.inl q
 | (m,kd)::r,h,acc,n,c,q=>by
  unfold Qc at q;unfold Rx;by_cases hk:(kd==P6)=true
  ·rw[if_pos hk]at q;rw[if_pos hk];have e:h.objs.size+1=(h.push { cls:=.type "cell",data:=.cell Vo }).objs.size:=(QI ..).symm;rw[e]at q;rcases iK (names:=r) q with q|q
   ·rcases Mw.mp q with e'|q
    ·cases e';exact .inr {_,Ra r _ _ _ (Po _ rfl),rfl}
    exact .inl q
   exact .inr q
  rw[if_neg hk]at q;rw[if_neg hk];exact iK (names:=r) q
theorem jc{x:Str}:∀{names:List (Str×QL)}{k:Nat}{acc:List (Str×O4)},(x,P6)∉names->(Qc k names acc).lookup x=acc.lookup x
 | [],_,_,_=>rfl
 | (m,kd)::r,k,acc,h=>by
  unfold Qc;have hr:(x,P6)∉r:=λz=>h (Mz _ z);by_cases hk:(kd==P6)=true
  ·have hk':kd=.cell:=by simpa using hk
   subst hk';rw[if_pos hk,jc hr,NQ];have ne:(x==m)=false:=by
    cases hb:x==m with
    |false=>rfl
    |true=>exact absurd (by rw[beq_iff_eq.mp hb];exact MA) h
   rw[ne]
  rw[if_neg hk];exact jc hr
section
variable{M:Model}{A:Pp}{E:E9->O5->Prop}{s:O5}
theorem xk{scope:Rg}{globals:O4}{cl:List (Str×O4)}{qual:Str}{BB:Env}{Q:Env->O5->Prop}
  (h:Q (newEnv scope s.heap.objs.size globals (Qc (s.heap.objs.size+1) scope.names cl) qual Vo .none (Vn BB) SG) { s with heap:=Rx (s.heap.push { cls:=.type "dict",data:=.dict #[] }) scope.names }) :
  wpAny M A (U8 scope globals cl [] qual Vo .none (Vn BB)) Q E s:=by
 simp only[U8,T5,if_true]
 refine O6 (wpAny_alloc ?_)
 refine O6 (wpAny_layCells _ (λname kind cells=>by cases hkc:kind==P6<;>simp[hkc]) _ _ _ _ ?_)
 rw[show({ s with heap:=s.heap.push { cls:=.type "dict",data:=.dict #[] } }:O5).heap.objs.size=s.heap.objs.size+1 from QI ..]
 refine O6 ?_
 rw[List.forIn_nil]
 exact Pc (Pc h)
end
structure CB where
 C:O4
 ex:List O4
 s:O5
 H:Hp
noncomputable def cxC(X:Cx)(N:List Str)(scope:Rg)(b:CB):Cx:={ X with
 N:=N
 s₀:=b.s
 H₀:=b.H
 env:=compEnvC scope (Qc (b.C+1) scope.names (sI X.env scope.names)) b.C X.env
 outer:=X.stack
 ex:=b.ex
 fn:=λx=>scope.names.lookup x==Vn .cell
 pn:=[]
 xe:=λ_ _=>False }
theorem mw{env:Env}{x:Str}:∀{names:List (Str×QL)},
  (names.map λ(n,k)=>if(k==Qh&&env.scope.kind== .function&&env.kindOf n==Vn .cell)then(n,P6)else(n,k)).lookup x=
   (names.lookup x).map λk=>if(k==Qh&&env.scope.kind== .function&&env.kindOf x==Vn .cell)then P6 else k
 | []=>rfl
 | (n,k)::r=>by
  have ih:=@mw env x r;show QW x ((if(k==Qh&&env.scope.kind== .function&&env.kindOf n==Vn .cell)=true then(n,P6)else(n,k))::_)=_;cases hx:x==n with
  |true=>
   have e:x=n:=beq_iff_eq.mp hx;subst e;by_cases hc:(k==Qh&&env.scope.kind== .function&&env.kindOf x==Vn .cell)=true
   ·rw[if_pos hc];simp only[NQ,hx,NC,hc,if_true]
   rw[if_neg hc];simp only[NQ,hx,NC];rw[if_neg hc]
  |false=>
   by_cases hc:(k==Qh&&env.scope.kind== .function&&env.kindOf n==Vn .cell)=true
   ·rw[if_pos hc];simp only[NQ,hx];exact ih
   rw[if_neg hc];simp only[NQ,hx];exact ih
structure cA(psc:Rg)(PN N:List Str)(own:Nat)(fr:List Nat)(scope:Rg):Prop where
 kind:scope.kind=.function
 nd:(scope.names.map (·.1)).Nodup
 free:∀x∈scope.names,x.2=.free->psc.names.lookup x.1=Vn .cell\/psc.names.lookup x.1=Vn .free
 len:N.length=own+fr.length
 frn:∀i,i<fr.length->N[own+i]?=(fr[i]?).bind λj=>PN[j]?
 frk:∀i,i<fr.length->∀y,N[own+i]?=Vn y->scope.names.lookup y=Vn .free
noncomputable def AO(psc:Rg)(PN N:List Str)(own:Nat)(fr:List Nat)(scope:Rg):Bool:=
 scope.kind== .function&&decide (scope.names.map (·.1)).Nodup&&scope.names.all (λx=>x.2 != .free||(psc.names.lookup x.1==Vn .cell||psc.names.lookup x.1==Vn .free))&&
  (N.length==own+fr.length)&&((fr.map λj=>PN[j]?)==(N.drop own).map Vn)&&(N.drop own).all (λy=>scope.names.lookup y==Vn .free)
theorem cA.of{psc:Rg}{PN N:List Str}{own:Nat}{fr:List Nat}{scope:Rg}(h:AO psc PN N own fr scope=true):cA psc PN N own fr scope:=by
 unfold AO at h;simp only[NO]at h;obtain⟨⟨⟨⟨⟨h1,h2⟩,h3⟩,h4⟩,h5⟩,h6⟩:=h;have h4':N.length=own+fr.length:=eq_of_beq h4;have h5':(fr.map λj=>PN[j]?)=(N.drop own).map Vn:=eq_of_beq h5;have dr:∀i,N[own+i]?=(N.drop own)[i]?:=λi=>by rw[NR]
 refine{eq_of_beq h1,of_decide_eq_true h2,λx hx hk=>?_,h4',λi hi=>?_,λi hi y hy=>?_}
 ·have q:=Od.mp h3 x hx;rw[hk]at q;simpa using q
 ·have q:=congrArg (λl=>l[i]?) h5';simp only[MM]at q;rw[dr];have ej:fr[i]?=Vn fr[i]:=Mv hi;rw[ej]at q⊢;cases e:(N.drop own)[i]? with
  |none=>rw[e]at q;cases q
  |some y=>
   rw[e]at q;exact(Pn q).symm
 rw[dr]at hy;have q:=Od.mp h6 y (ML hy);simpa using q
noncomputable def cSt(own:Nat)(fr:List Nat)(σ:St):St:=Px own Vo++fr.map λj=>(σ[j]?).getD Vo
theorem gG{α:Type}:∀{l:List (Str×α)}{n:Str}{k:α},(l.map (·.1)).Nodup->(n,k)∈l->l.lookup n=Vn k
 | (m,v)::r,n,k,nd,h=>by
  rw[MJ,Ni]at nd;rw[NQ];rcases Mw.mp h with e|h
  ·cases e;simp
  have ne:(n==m)=false:=by
   cases hb:n==m with
   |false=>rfl
   |true=>exact absurd (MH.mpr {(n,k),h,beq_iff_eq.mp hb}) nd.1
  rw[ne];exact gG nd.2 h
section
variable{X:Cx}{pins:List (O4×Obj)}{σ:St}{H:Hp}{s:O5}{N:List Str}{own:Nat}{fr:List Nat}{scope:Rg}
theorem cA.cells(S:cA X.env.scope X.N N own fr scope)(ok:X.Ok):∀x∈scope.names,x.2=.free->∃c,X.env.cells.lookup x.1=Vn c:=λx hx hk=>
 ok.has x.1 (S.free x hx hk)
theorem cA.cl(S:cA X.env.scope X.N N own fr scope)(ok:X.Ok){n:Str}{c:O4}(h:(n,c)∈sI X.env scope.names):X.env.cells.lookup n=Vn c:=by
 rcases rG h with h|⟨h,e⟩
 ·cases h
 obtain⟨c',e'⟩:=S.cells ok (n,.free) h rfl;have e2:X.env.cells.lookup n=Vn c':=e';rw[e2]at e;rw[e,e2];rfl
theorem Cn{D C:O4}{h':PH}{fp:List O4}(S:cA X.env.scope X.N N own fr scope)(I:Inv X pins σ H s)(hD:D=s.heap.objs.size)(hC:C=s.heap.objs.size+1)
  (hh:h'=Rx ((s.heap.push { cls:=.type "list",data:=.seq #[] }).push { cls:=.type "dict",data:=.dict #[] }) scope.names) (hfp:∀b∈fp,tK X pins H b) (hlt:∀b∈fp,b<s.heap.objs.size) :
  Inv (cxC X N scope ⟨C,fp,s,H⟩) [] (cSt own fr σ) (upd H D (.lst [])) { s with heap:=h' }:=by
 subst hD hC
 have eD:(s.heap.push { cls:=.type "list",data:=.seq #[] }).objs.size=s.heap.objs.size+1:=QI ..
 have eC:((s.heap.push { cls:=.type "list",data:=.seq #[] }).push { cls:=.type "dict",data:=.dict #[] }).objs.size=s.heap.objs.size+2:=by rw[QI,eD]
 have keep:∀b o,s.heap.get? b=Vn o->h'.get? b=Vn o:=λb o e=>by
  rw[hh];exact Ra _ _ _ _ (O9 _ (O9 _ e))
 have lst:h'.get? s.heap.objs.size=Vn { cls:=.type "list",data:=.seq #[] }:=by
  rw[hh];exact Ra _ _ _ _ (O9 _ (Po _ rfl))
 have dct:h'.get? (s.heap.objs.size+1)=Vn { cls:=.type "dict",data:=.dict #[] }:=by
  rw[hh];refine Ra _ _ _ _ ?_;have:=Po (s.heap.push { cls:=.type "list",data:=.seq #[] }) (o:={ cls:=.type "dict",data:=.dict #[] }) rfl;rw[eD]at this;exact this
 have hnD:H s.heap.objs.size=Vo:=I.hok.fresh (Ms _)
 have hnC:H (s.heap.objs.size+1)=Vo:=I.hok.fresh (Ox _)
 have inCl:∀{n:Str}{c:O4},(n,c)∈sI X.env scope.names->X.env.cells.lookup n=Vn c:=λh=>S.cl I.ok h
 have clt:∀{n:Str}{c:O4},X.env.cells.lookup n=Vn c->c<s.heap.objs.size:=λh=>by
  obtain⟨v,z⟩:=I.cell _ _ h;exact z.lt
 have cases_:∀{n:Str}{c:O4},(Qc (s.heap.objs.size+1+1) scope.names (sI X.env scope.names)).lookup n=Vn c->X.env.cells.lookup n=Vn c\/(s.heap.objs.size+2<=c/\(n,P6)∈scope.names/\h'.IsCell c Vo):=λ{n c} h=>by
  have hm:=PD h;have hcell:=hm;rw[show s.heap.objs.size+1+1=((s.heap.push { cls:=.type "list",data:=.seq #[] }).push { cls:=.type "dict",data:=.dict #[] }).objs.size from eC.symm]at hcell;rcases fR hm with h1|⟨h1,h2⟩
  ·exact .inl (inCl h1)
  rcases iK hcell with h3|h3
  ·exact .inl (inCl h3)
  exact .inr {h1,h2,by rw[hh];exact h3}
 have kindOf:∀x,(cxC X N scope {s.heap.objs.size+1,fp,s,H}).env.kindOf x=(scope.names.lookup x).map λk=>if(k==Qh&&X.env.scope.kind== .function&&X.env.kindOf x==Vn .cell)then P6 else k:=λx=>mw
 have hasName:∀x,((cxC X N scope {s.heap.objs.size+1,fp,s,H}).env.kindOf x=Vn .cell\/(cxC X N scope {s.heap.objs.size+1,fp,s,H}).env.kindOf x=Vn .free)->∃c,(Qc (s.heap.objs.size+1+1) scope.names (sI X.env scope.names)).lookup x=Vn c:=λx hx=>by
  rw[kindOf]at hx;have h2:scope.names.lookup x=Vn .cell\/scope.names.lookup x=Vn .free:=by
   cases e:scope.names.lookup x with
   |none=>rw[e]at hx;rcases hx with z|z<;>cases z
   |some k=>
    rw[e]at hx;by_cases hk:k=.free
    ·exact .inr (by rw[hk])
    have hk':(k==Qh)=false:=by simpa using hk
    simp only[NC,hk',Bool.false_and,Oo,if_false]at hx;rcases hx with z|z
    ·exact .inl z
    exact .inr z
  rcases h2 with h2|h2
  ·exact NI.mp (Ru scope.names _ _ (.inl h2))
  obtain⟨c,hc⟩:=i8 (wD (env:=X.env) (cs:=[]) (PD h2));exact NI.mp (Ru scope.names _ _ (.inr (by rw[show(sI X.env scope.names).lookup x=Vn c from hc];rfl)))
 have cellAt:∀x c,(Qc (s.heap.objs.size+1+1) scope.names (sI X.env scope.names)).lookup x=Vn c->∃v,h'.IsCell c v:=λx c e=>by
  rcases cases_ e with q|⟨_,_,q⟩
  ·obtain⟨v,o,ho,hd⟩:=I.cell x c q;exact⟨v,o,keep c o ho,hd⟩
  exact⟨Vo,q⟩
 refine{{I.ok.mod,S.kind,I.ok.glob,I.ok.blt,Ox _,λy z c h1 h2=>?_,hasName,λy c hy h=>?_,I.ok.hd,I.ok.frames,.inl rfl,λb hb=>{?_,λx c e z=>?_},λb o e=>I.bs b o e,ME I.ok.bsz I.sz,λb o e hb=>?_,λb hb hf=>?_,I.stack,I.AV},
  rfl,I.bare,?_,{λ_=>Vo,{_,#[],_,dct,rfl,λe he=>absurd he (by simp),λ_=>rfl},λi x v h1 h2 h3=>?_},cellAt,?_,λx c e=>?_,λp hp=>absurd (show p∈([]:List (O4×Obj))from hp) (by simp),?_,?_}
 ·
  refine jG (λn c hm=>?_) (λn n' c hm hm'=>I.ok.inj n n' c (inCl hm) (inCl hm')) (PD h1) (PD h2);exact NV (NV (clt (inCl hm)))
 ·
  have hy':scope.names.lookup y=Vn .cell:=by simpa using (show(scope.names.lookup y==Vn .cell)=true from hy)
  rcases cases_ h with q|⟨q,_⟩
  ·rcases fR (PD h)with q2|⟨q2,_⟩
   ·rcases rG q2 with z|⟨z,_⟩
    ·cases z
    have:=gG S.nd z;rw[hy']at this;cases this
   exact ME (Nt _ 2) q2
  exact ME (Nt _ 2) q
 ·exact Na (NV (hlt b hb))
 ·rcases cases_ e with q|⟨q,_⟩
  ·exact(hfp b hb).2.2.2.2.1 x c q z
  have hb':=hlt b hb;rw[<-z]at hb';exact absurd (MV hb' (ME (Nt _ 2) q)) (NL _)
 ·rcases(hfp b hb).2.2.2.1 with z|z
  ·exact I.ok.DA b o e z
  exact NL _ (MV (Pl e) (ME I.ok.bsz z))
 ·rcases Mw.mp (I.y9 b hf)with z|z
  ·exact(hfp b hb).2.1 z
  exact(hfp b hb).2.2.1 z
 ·exact Un.laid keep (Ms _) hnD
 ·
  have h1:N[i]?=Vn x:=h1;have hlen:i<N.length:=(MC.mp h1).1;by_cases hi:i<own
  ·exfalso;have h2':(cSt own fr σ)[i]?=Vn Vo:=by
    unfold cSt;rw[MW (by simpa using hi),Ss,if_pos hi]
   rw[h2']at h2;cases h2
  have hfi:i-own<fr.length:=by have:=S.len;lia
  have ei:own+(i-own)=i:=by lia
  have hk:=S.frk (i-own) hfi x (by rw[ei];exact h1);have hn:=S.frn (i-own) hfi;rw[ei,h1]at hn;have ej:fr[i-own]?=Vn fr[i-own]:=Mv hfi;rw[ej]at hn;have hn':X.N[fr[i-own]]?=Vn x:=hn.symm;have h2':(cSt own fr σ)[i]?=Vn ((σ[fr[i-own]]?).getD Vo):=by
   unfold cSt;rw[MU (by simpa using O3.mp hi),NT,MM,ej];rfl
  rw[h2']at h2;have h2'':(σ[fr[i-own]]?).getD Vo=Vn v:=Pn h2;have hσ:σ[fr[i-own]]?=Vn (Vn v):=by
   cases e:σ[fr[i-own]]? with
   |none=>rw[e]at h2'';cases h2''
   |some w=>rw[e]at h2'';exact congrArg Vn h2''
  obtain⟨m,hm,hl⟩:=I.loc;have hfree:=S.free (x,.free) (PD hk) rfl;obtain⟨u,r,l⟩:=hl _ x v hn' hσ (hfree.elim (λz=>.inr (.inl z)) λz=>.inr (.inr z));refine{u,r,.inr ?_};have hcell:∃c,X.env.cells.lookup x=Vn c/\s.heap.IsCell c (Vn u):=by
   rcases l with⟨l,_⟩|⟨_,c,e,z⟩
   ·exfalso;rcases hfree with z|z
    ·have l':X.env.scope.names.lookup x=Vn .local:=l
     have z':X.env.scope.names.lookup x=Vn .cell:=z;rw[l']at z';cases z'
    have l':X.env.scope.names.lookup x=Vn .local:=l
    have z':X.env.scope.names.lookup x=Vn .free:=z;rw[l']at z';cases z'
   exact⟨c,e,z⟩
  obtain⟨c,e,o,ho,hd⟩:=hcell;refine{?_,c,?_,o,keep c o ho,hd}
  ·rw[kindOf,hk];by_cases z:(X.env.scope.kind== .function&&X.env.kindOf x==Vn .cell)=true
   ·left
    simp only[NC,beq_self_eq_true,OW,z,if_true]
   right
   simp only[NC,beq_self_eq_true,OW];rw[if_neg z]
  show(Qc (s.heap.objs.size+1+1) scope.names (sI X.env scope.names)).lookup x=Vn c;rw[jc λz=>by
   have:=gG S.nd z;rw[hk]at this;cases this]
  obtain⟨c',hc'⟩:=i8 (wD (env:=X.env) (cs:=[]) (PD hk));have hc2:(sI X.env scope.names).lookup x=Vn c':=hc';rw[hc2];have:=inCl (PD hc2);rw[e]at this;exact this.symm
 ·show upd H s.heap.objs.size (.lst []) (s.heap.objs.size+1)=Vo;rw[aY (N8 (Oc _))];exact hnC
 ·rcases cases_ e with q|⟨q,_⟩
  ·have:=clt q;rw[aY (Na this)];exact I.kU x c q
  rw[aY (N8 (MV (Nat.lt_add_of_pos_right (by decide)) q))];exact I.hok.fresh (ME (Nt _ 2) q)
 ·exact I.hok.laid keep (Ms _) {MF _,[],0,.nil,lst}
 show(cSt own fr σ).length=N.length
 unfold cSt
 rw[Mo,NT,Mq,S.len]
end
def PF(X:Cx)(ifs:List Expr)(t:TT):Prop:=
 ∀(pins:List (O4×Obj))(s:O5)(σ:St)(H:Hp)(Q:Bool->Hp->Prop),Inv X pins σ H s->t σ H Q->
  wpAny (Pj X.prog X.w) X.A (forIn ifs true λc r=>if r=true then do let ok<-isTrue c X.env (P7 c X.env);pure (RE ok)else pure (RE r)) (TP X pins σ Q) X.xe s
noncomputable def J4:TT:=λ_ H Q=>Q true H
theorem lH{X:Cx}:PF X [] J4:=λ_ _ _ H _ I h=>wpAny_tests_nil ⟨H,I,h⟩
theorem wB{X:Cx}{c:Expr}{t:TT}(h:PT X c t):PF X [c] t:=λpins s σ H Q I hw=>wpAny_tests_one (h pins s σ H Q I hw)
theorem vt{prog:Program}{w:Pf}{A:Pp}{R:UZ->O5->Prop}{s:O5}{elt target iter:Expr}{ifs:List Expr}{scope:Rg}{pos:Pos}{it acc:E9}{env:Env}(I:Nat->O5->Prop)
  (turn:∀n s,I n s->wpAny (Pj prog w) A (pyNext it) (λr s₁=>match r with
   |none=>R (.ok .next) s₁
   |some v=>wpAny (Pj prog w) A (RD target it v) (λ_ s₁'=>wpAny (Pj prog w) A (assign target env v) (λ_ s₂=>
     wpAny (Pj prog w) A (forIn ifs true λc r=>if r=true then do let ok<-isTrue c env (P7 c env);pure (RE ok)else pure (RE r)) (λok s₃=>
      if ok=true then wpAny (Pj prog w) A (P7 elt env) (λx s₄=>
       wpAny (Pj prog w) A (call (.builtin "list.append") [acc,x]) (λ_ s₅=>∃m,m<n/\I m s₅) (λ_ _=>False) s₄) (λ_ _=>False) s₃
      else ∃m,m<n/\I m s₃) (λ_ _=>False) s₂) (λ_ _=>False) s₁') (λ_ _=>False) s₁) (λ_ _=>False) s)
  (n:Nat) (h:I n s) :
  codeAny (Pj prog w) A (.compLoop (.ListComp elt [⟨target,iter,ifs,0⟩] scope pos) 0 it acc env) R s:=by
 refine codeAny_loop rfl I (λn s hI=>?_) n h
 show wpAny _ A ((compTurn (.ListComp elt [⟨target,iter,ifs,0⟩] scope pos) 0 it acc env).onRaise (λx=>do noteFrame x env;theTreesLotGoes x)) _ _ s
 refine wpAny_noted ?_
 rw[compTurn_list]
 have no:∀{α:Type}{t:Sem α}{Q:α->O5->Prop}{E':E9->O5->Prop}{s':O5},wpAny (Pj prog w) A t Q (λ_ _=>False) s'->wpAny (Pj prog w) A t Q E' s':=λh=>Qy h (λ_ _ q=>q) λ_ _ z=>z.elim
 refine O6 (Sj (O6 (no (Qy (turn n s hI) (λr s₁ h₁=>?_) λ_ _ h'=>h'))))
 cases r with
 |none=>exact Pc h₁
 |some v=>
  refine O6 (no (Qy h₁ (λ_ s₁' h₁'=>?_) λ_ _ h'=>h'))
  refine O6 (no (Qy h₁' (λ_ s₂ h₂=>O6 (no (Qy h₂ (λok s₃ h₃=>?_) λ_ _ h'=>h'))) λ_ _ h'=>h'))
  cases ok with
  |false=>exact Pc ⟨rfl,h₃⟩
  |true=>
   exact O6 (O6 (no (Qy h₃ (λx s₄ h₄=>O6 (no (Qy h₄ (λ_ s₅ h₅=>Pc (Pc ⟨rfl,h₅⟩)) λ_ _ h'=>h'))) λ_ _ h'=>h')))
structure nM(J:It)(own:Nat)(fr:List Nat)(g:CB->TG)(tf:CB->TT)(te:CB->TE)(Q:VK)(σ:St)(H1:Hp):Prop where
 go:∀(b:CB)(D:O4),H1 D=Vo->∃W:Nat->Nat->St->Hp->Prop,(∃m,W 0 m (cSt own fr σ) (upd H1 D (.lst [])))/\∀i m σ' H',W i m σ' H'->
  (J.stop i H'/\Q (.ref D) H')\/(J.go i H'/\∃M:St->Hp->Prop,(∀σ2 H2,M σ2 H2->∃m',m'<m/\W (i+1) m' σ2 H2)/\∀x H2,J.yld i H' x H2->g b x σ' H2 λσ3 H3=>tf b σ3 H3 λk H4=>
   if k=true then te b σ3 H4 λy H5=>∃ys,H5 D=Vn (.lst ys)/\ys.length<sizeLine/\M σ3 (upd H5 D (.lst (ys++[y])))else M σ3 H4)
noncomputable def DX(wi:TI)(own:Nat)(fr:List Nat)(g:CB->TG)(tf:CB->TT)(te:CB->TE):TE:=λσ H Q=>wi σ H λJ H1=>nM J own fr g tf te Q σ H1
section
variable{X:Cx}{tg iter elt:Expr}{ifs:List Expr}{scope:Rg}{pos:Pos}{N:List Str}{own:Nat}{fr:List Nat}{wi:TI}{g:CB->TG}{tf:CB->TT}{te:CB->TE}
theorem xA{use:Option (E9->Sem Unit)}{R:E9->O5->Prop}{pins:List (O4×Obj)}{s:O5}{σ:St}{H:Hp}{Q:VK}(S:cA X.env.scope X.N N own fr scope)(hc:X.calm=true)(hi:PI X tg iter wi)
  (hg:∀b,PG (cxC X N scope b) tg (g b)) (hf:∀b,PF (cxC X N scope b) ifs (tf b)) (he:∀b,PE (cxC X N scope b) elt (te b)) (hs:∀x,foldedSetIterable iter X.env x=pure x) (I:Inv X pins σ H s) (h:DX wi own fr g tf te σ H Q)
  (fin:∀(D C:O4)(oC:Obj)(m:Str->Option E9)(H':Hp)(s':O5),Inv X (pins++[(C,oC)]) σ H' s'->X.s₀.heap.objs.size<=C->(∀p∈X.pn++pins,p.1≠C)->(∀h':PH,h'.get? C=Vn oC->h'.Ns C m)->Q (.ref D) H'->U9 (Pj X.prog X.w) X.A X.xe use R (.ref D) C (.ok .next) s') :
  wpAny (Pj X.prog X.w) X.A (comprehension (.ListComp elt [⟨tg,iter,ifs,0⟩] scope pos) scope X.env (firstIterPos [⟨tg,iter,ifs,0⟩] pos) (newList []) false (P7 iter X.env) use) R X.xe s:=by
 refine wpAny_comprehension_free rfl hs (qy (S.cells I.ok)) S.kind (λx hx hk=>?_) (thn (hi pins s σ H _ I h) λv s1 h1=>thn h1 λitv s2 h2=>?_)
 ·have:=gG S.nd (show(x.1,x.2)∈scope.names from hx);rw[this,hk]
 obtain⟨it,fp,tn,J,H2,e,I2,T,st2,f2,q⟩:=h2
 subst e
 refine P2 ?_
 refine xk ?_
 have eD:(s2.heap.push { cls:=.type "list",data:=.seq #[] }).objs.size=s2.heap.objs.size+1:=QI ..
 have hD:H2 s2.heap.objs.size=Vo:=I2.hok.fresh (Ms _)
 have hlt:∀b∈fp,b<s2.heap.objs.size:=λb hb=>by
  obtain⟨o,ho,_⟩:=T.obj 0 _ st2 b hb;exact Pl ho
 obtain⟨W,⟨m0,w0⟩,turn⟩:=q.go {s2.heap.objs.size+1,fp,s2,H2} s2.heap.objs.size hD
 have IX:=Cn (fp:=fp) S I2 rfl rfl rfl f2 hlt
 have st4:tn 0 (Rx ((s2.heap.push { cls:=.type "list",data:=.seq #[] }).push { cls:=.type "dict",data:=.dict #[] }) scope.names):=
  T.keep 0 _ _ st2 λb _ o e=>Ra _ _ _ _ (O9 _ (O9 _ e))
 have fr0:∀b∈fp,upd H2 s2.heap.objs.size (.lst []) b=Vo:=λb hb=>by
  rw[aY (Na (hlt b hb))];exact(f2 b hb).1
 have cne:∀b∈fp,∀x c,(cxC X N scope {s2.heap.objs.size+1,fp,s2,H2}).env.cells.lookup x=Vn c->c≠b:=λb hb=>((IX.ok.exf b hb).2)
 have stat:∀{H':Hp},(∀b∈fp,H' b=Vo)->∀b∈fp,tK (cxC X N scope {s2.heap.objs.size+1,fp,s2,H2}) [] H' b:=λhn b hb=>
  {hn b hb,(IX.ok.exf b hb).1,IX.ok.DM b hb,.inl hb,cne b hb,λp hp=>absurd (show p∈([]:List (O4×Obj))from hp) (by simp)}
 have e4:∀cenv:Env,cenv=newEnv scope (s2.heap.push { cls:=.type "list",data:=.seq #[] }).objs.size X.env.globals (Qc ((s2.heap.push { cls:=.type "list",data:=.seq #[] }).objs.size+1) scope.names (sI X.env scope.names)) X.env.qual Vo .none (Vn X.env) SG->
   ({ cenv with scope:=relabel scope X.env }:Env)=(cxC X N scope ⟨s2.heap.objs.size+1,fp,s2,H2⟩).env/\cenv.locals=s2.heap.objs.size+1:=λcenv e=>by
  subst e
  rw[eD]
  exact⟨rfl,rfl⟩
 obtain⟨e5,e6⟩:=e4 _ rfl
 have loop:codeAny (Pj X.prog X.w) X.A (.compLoop (.ListComp elt [⟨tg,iter,ifs,0⟩] scope pos) 0 (.ref it) (.ref s2.heap.objs.size) (cxC X N scope {s2.heap.objs.size+1,fp,s2,H2}).env)
   (U9 (Pj X.prog X.w) X.A X.xe use R (.ref s2.heap.objs.size) (s2.heap.objs.size+1)) { s2 with heap:=Rx ((s2.heap.push { cls:=.type "list",data:=.seq #[] }).push { cls:=.type "dict",data:=.dict #[] }) scope.names }:=by
  refine vt (λn s'=>∃i σ' H',Inv (cxC X N scope {s2.heap.objs.size+1,fp,s2,H2}) [] σ' H' s'/\tn i s'.heap/\(∀b∈fp,H' b=Vo)/\W i n σ' H') ?_ m0 {0,_,_,IX,st4,fr0,w0}
  rintro n s5 ⟨i,σ5,H5,I5,st5,fr5,w5⟩
  rcases turn i n σ5 H5 w5 with⟨stop,qn⟩|⟨go,M,hM,step⟩
  ·refine thn (T.done (cxC X N scope {s2.heap.objs.size+1,fp,s2,H2}) rfl rfl rfl hc i [] s5 σ5 H5 (λ_ _=>False) I5 (stat fr5) st5 stop) λr s6 z9=>?_;obtain⟨hr,I6⟩:=z9;subst hr;obtain⟨m,hn,_⟩:=I6.loc;obtain⟨oC,es,ep,hoC,hd,hk,hm⟩:=id hn;have IB:Inv X pins σ H5 s6:=I2.KR (ch:=fp) I6.os I6.base I6.hok I6.bare λb hb=>{(f2 b hb).2.2.2.1,(f2 b hb).2.1,(f2 b hb).2.2.2.2.1,(f2 b hb).2.2.2.2.2};have young:s2.heap.objs.size<=s2.heap.objs.size+1:=Ox _;refine fin s2.heap.objs.size (s2.heap.objs.size+1) oC m H5 s6 (IB.wL λp hp=>?_) (ME I2.sz young) (λp hp=>Na (MV (Pl (I2.pin p hp).1) young)) (λh' e=>⟨oC,es,ep,e,hd,hk,hm⟩) qn;rcases Mu.mp hp with z|z
   ·exact IB.pin p (MD _ z)
   have ep':p=(s2.heap.objs.size+1,oC):=by simpa using z
   subst ep';exact{hoC,I6.free,N8 (MV I2.lt young),I2.Lc young,λv z=>by rw[hd]at z;cases z}
  refine thn (T.item (cxC X N scope {s2.heap.objs.size+1,fp,s2,H2}) rfl rfl rfl hc i [] s5 σ5 H5 (λ_ _=>False) I5 (stat fr5) st5 go) λr s6 z9=>?_;obtain⟨u,hr,h6⟩:=z9
  subst hr
  refine thn h6 λ_ s7 z9=>?_;obtain⟨x,H7,I7,r7,y7,st7,fr7⟩:=z9
  have I7':=I7.pinned (stat fr7) (T.obj _ _ st7)
  refine thn (hg _ _ s7 σ5 H7 x u _ I7' r7 (step x H7 y7)) λ_ s8 z9=>?_;obtain⟨σ8,H8,I8,q8⟩:=z9
  refine thn (hf _ _ s8 σ8 H8 _ I8 q8) λk s9 z9=>?_;obtain⟨H9,I9,q9⟩:=z9
  have again:∀{H10:Hp}{s10:O5},Inv (cxC X N scope {s2.heap.objs.size+1,fp,s2,H2}) ([]++tE fp s7.heap) σ8 H10 s10->M σ8 H10->
    ∃m,m<n/\∃i σ' H',Inv (cxC X N scope {s2.heap.objs.size+1,fp,s2,H2}) [] σ' H' s10/\tn i s10.heap/\(∀b∈fp,H' b=Vo)/\W i m σ' H':=λ{H10 s10} I10 q10=>by
   obtain⟨m',hm,w10⟩:=hM σ8 H10 q10
   refine{m',hm,i+1,σ8,H10,I10.mO,T.keep _ _ _ st7 λb hb o e=>(I10.pin (b,o) (MD _ (MD _ (ko hb e)))).1,λb hb=>?_,w10}
   obtain⟨o,e,d⟩:=T.obj _ _ st7 b hb
   exact(I10.pin (b,o) (MD _ (MD _ (ko hb e)))).2.1
  cases k with
  |false=>exact again I9 q9
  |true=>
   refine thn (he _ _ s9 σ8 H9 _ I9 q9) λw10 s10 z9=>?_;obtain⟨y,H10,I10,r10,ys,hys,hz,q10⟩:=z9
   refine thn (u9 _ s10 σ8 H10 (.ref s2.heap.objs.size) [y] (.ref s2.heap.objs.size) [w10] (λ_ H'=>M σ8 H') I10 rfl (.cons r10 .nil) {_,ys,y,rfl,rfl,hys,hz,q10}) λ_ s11 z9=>?_;obtain⟨_,H11,I11,_,q11⟩:=z9
   exact again I11 q11
 have go:codeAny (Pj X.prog X.w) X.A (.compStart (.ListComp elt [⟨tg,iter,ifs,0⟩] scope pos) 0 (.ref it) (.ref s2.heap.objs.size) (cxC X N scope {s2.heap.objs.size+1,fp,s2,H2}).env)
   (U9 (Pj X.prog X.w) X.A X.xe use R (.ref s2.heap.objs.size) (s2.heap.objs.size+1)) { s2 with heap:=Rx ((s2.heap.push { cls:=.type "list",data:=.seq #[] }).push { cls:=.type "dict",data:=.dict #[] }) scope.names }:=
  codeAny_compStart_list loop (T.self _ 0 _ _ _ st4 loop)
 have fin2:∀(env':Env)(L:O4),env'=(cxC X N scope {s2.heap.objs.size+1,fp,s2,H2}).env->L=s2.heap.objs.size+1->
   codeAny (Pj X.prog X.w) X.A (.compStart (.ListComp elt [⟨tg,iter,ifs,0⟩] scope pos) 0 (.ref it) (.ref s2.heap.objs.size) env') (U9 (Pj X.prog X.w) X.A X.xe use R (.ref s2.heap.objs.size) L)
    { s2 with heap:=Rx ((s2.heap.push { cls:=.type "list",data:=.seq #[] }).push { cls:=.type "dict",data:=.dict #[] }) scope.names }:=by
  intro env' L h1 h2
  subst h1 h2
  exact go
 exact fin2 _ _ e5 e6
theorem vi{pins:List (O4×Obj)}{C:O4}{oC:Obj}{σ':St}{H':Hp}{s':O5}{h':PH}(I:Inv X (pins++[(C,oC)]) σ' H' s')(hy:X.s₀.heap.objs.size<=C)(hp:∀p∈X.pn++pins,p.1≠C)(sb:RJ C s'.heap h') :
  Inv X pins σ' H' { s' with heap:=h' }:=by
 have pC:=I.pin (C,oC) (MD _ (MD _ (by simp)))
 have I2:Inv X pins σ' H' s':=I.mO
 refine I2.turned (it:=C) (t':=s'.toks) (λb o hb e=>(sb.2 b hb).trans e) pC.2.1 pC.2.2.1 (.inr hy) (λx c e z=>?_) hp
 obtain⟨v,o,ho,hd⟩:=I2.cell x c e
 rw[z,pC.1]at ho
 cases ho
 exact pC.2.2.2.2 v hd
theorem fO(S:cA X.env.scope X.N N own fr scope)(hc:X.calm=true)(hi:PI X tg iter wi)(hg:∀b,PG (cxC X N scope b) tg (g b))(hf:∀b,PF (cxC X N scope b) ifs (tf b))(he:∀b,PE (cxC X N scope b) elt (te b))
  (hs:∀x,foldedSetIterable iter X.env x=pure x:=by intro _;rfl):PE X (.ListComp elt [⟨tg,iter,ifs,0⟩] scope pos) (DX wi own fr g tf te):=by
 intro pins s σ H Q I h
 rw[eval_ListComp]
 refine xA (use:=Vo) S hc hi hg hf he hs I h λD C oC m H' s' I' hy hp hm q=>?_
 have pC:=I'.pin (C,oC) (MD _ (MD _ (by simp)))
 exact{m,hm _ pC.1,λh' sb=>⟨.ref D,H',vi I' hy hp sb,rfl,q⟩}
theorem rX{j:Nat}{y:Str}{py spos:Pos}(S:cA X.env.scope X.N N own fr scope)(hc:X.calm=true)(hN:X.N.Nodup)(hj:X.N[j]?=Vn y)(hy:Loc X.env.scope y)(hi:PI X tg iter wi)(hg:∀b,PG (cxC X N scope b) tg (g b))(hf:∀b,PF (cxC X N scope b) ifs (tf b))
  (he:∀b,PE (cxC X N scope b) elt (te b)) (hfn:X.fn y=true\/X.env.scope.names.lookup y=Vn .local:=by first|exact .inl rfl|exact .inr rfl|assumption) (hs:∀x,foldedSetIterable iter X.env x=pure x:=by intro _;rfl)
  (hsw:To (.ListComp elt [⟨tg,iter,ifs,0⟩] scope pos) (Vn (.Name y py)) spos.line X.env=pure true:=by rfl) :
  PS X (.Assign [.Name y py] (.ListComp elt [⟨tg,iter,ifs,0⟩] scope pos) spos) (FF (DX wi own fr g tf te) (nB j)):=by
 intro pins s σ H D I h
 rw[exec_Assign_Name_used _ _ _ _ hsw]
 refine O6 (Sj (O6 ?_))
 show wpAny _ _ (do let _<-comprehension (.ListComp elt [⟨tg,iter,ifs,0⟩] scope pos) scope X.env _ (newList []) false (P7 iter X.env) (Vn (assign (.Name y py) X.env))) _ _ s
 refine O6 (thn (xA (use:=Vn (assign (.Name y py) X.env)) (R:=λ_ s'=>SP X pins D .next s') S hc hi hg hf he hs I h λD' C oC m H' s' I' hy' hp hm q=>?_) λ_ s' q=>Pc (Pc q))
 show wpAny _ _ (assign (.Name y py) X.env (.ref D')) _ _ s'
 refine thn (Bp hN hj hy hfn _ s' σ H' (.ref D') (.ref D') _ I' rfl q) λ_ s'' z9=>?_;obtain⟨σ2,H2,I2,q2⟩:=z9
 have pC:=I2.pin (C,oC) (MD _ (MD _ (by simp)))
 exact{m,hm _ pC.1,λh' sb=>⟨σ2,H2,vi I2 hy' hp sb,q2⟩}
end
theorem PE.imp{X:Cx}{e:Expr}{t t':TE}(h:PE X e t)(k:∀σ H Q,t' σ H Q->t σ H Q):PE X e t':=λpins s σ H Q I q=>h pins s σ H Q I (k σ H Q q)
theorem OpR.imp{X:Cx}{f:E9->E9->Sem E9}{r r':R2}(h:OpR X f r)(k:∀x y H Q,r' x y H Q->r x y H Q):OpR X f r':=λpins s σ H x y v u Q I rx ry q=>h pins s σ H x y v u Q I rx ry (k x y H Q q)
noncomputable def Kq(i:Nat):TE:=λσ H Q=>match σ[i]? with
 |some (Vn v)=>Q v H
 |_=>False
section
variable{X:Cx}
theorem fv(i:Nat){x:Str}{pos:Pos}(hN:X.N[i]?=Vn x:=by rfl)(hv:Vis X.env.scope x:=by first|exact MG rfl|exact NF (MG rfl)|exact NF (NF rfl))(hd:(x==("__debug__":Str))=false:=by decide)
  (hcd:(x==("__classdict__":Str))=false:=by decide):PE X (.Name x pos) (Kq i):=(Hy hN hv hd hcd).imp λσ H Q q=>by
 unfold Kq at q
 cases e:σ[i]? with
 |none=>rw[e]at q;exact q.elim
 |some o=>
  cases o with
  |none=>rw[e]at q;exact q.elim
  |some v=>rw[e]at q;exact⟨v,e,q⟩
noncomputable def Fn:R2:=λx y H Q=>match x,y with
 | .int i,.int j=>Q (.int (i+j)) H
 | .str a,.str b=>a.length+b.length<=sizeLine/\Q (.str (a++b)) H
 | .ref p,.ref q=>J8 (.ref p) (.ref q) H Q
 |_,_=>False
theorem aL:OpR X (Qz .Add) Fn:=by
 intro pins s σ H x y v u Q I rx ry h;cases x with
 |int i=>
  cases y with
  |int j=>exact HX pins s σ H _ _ v u Q I rx ry ⟨i,j,rfl,rfl,h⟩
  |_=>exact(show False from h).elim
 |str a=>
  cases y with
  |str b=>exact zH pins s σ H _ _ v u Q I rx ry ⟨a,b,rfl,rfl,h.1,h.2⟩
  |_=>exact(show False from h).elim
 |ref p=>
  cases y with
  |ref q=>exact JF pins s σ H _ _ v u Q I rx ry h
  |_=>exact(show False from h).elim
 |_=>cases y<;>exact(show False from h).elim
noncomputable def uk(C:Int->Int->Prop)(g:Int->Int->V):R2:=λx y H Q=>match x,y with
 | .int i,.int j=>C i j/\Q (g i j) H
 |_,_=>False
noncomputable def nz(g:Int->Int->V):R2:=λx y H Q=>match x,y with
 | .int i,.int j=>Q (g i j) H
 |_,_=>False
theorem OpR.uk{f:E9->E9->Sem E9}{C:Int->Int->Prop}{g:Int->Int->V}(h:OpR X f (rI C g)):OpR X f (uk C g):=h.imp λx y H Q q=>by
 cases x with
 |int i=>
  cases y with
  |int j=>exact⟨i,j,rfl,rfl,q.1,q.2⟩
  |_=>exact(show False from q).elim
 |_=>cases y<;>exact(show False from q).elim
theorem OpR.nz{f:E9->E9->Sem E9}{g:Int->Int->V}(h:OpR X f (rI0 g)):OpR X f (nz g):=h.imp λx y H Q q=>by
 cases x with
 |int i=>
  cases y with
  |int j=>exact⟨i,j,rfl,rfl,q⟩
  |_=>exact(show False from q).elim
 |_=>cases y<;>exact(show False from q).elim
theorem oU:OpR X (Qz .Sub) (nz λi j=>.int (i-j)):=JB.nz
theorem KW:OpR X (Qz .Mult) (uk BU λi j=>.int (i*j)):=Ia.uk
def G6(_ j:Int):Prop:=0<j/\j<2^64
theorem Gj{j:Int}(h:G6 0 j):j.natAbs.log2<9000:=by
 have h1:j.natAbs<2^64:=by
  have h2:j<2^64:=h.2;have h3:0<j:=h.1;lia
 have h0:j.natAbs≠0:=by have h3:0<j:=h.1;lia
 have:=(Nat.log2_lt h0).mpr h1;lia
theorem eX:OpR X (Qz .FloorDiv) (uk G6 λi j=>.int (i/j)):=(opI λi j _ _ _ _ _ hc q=>by
 have h1:(0:Int)<j:=hc.1;exact floordiv_int (by lia) (by rw[Int.fdiv_eq_ediv_of_nonneg i (by lia)];exact q) (.inl (PyProof.noPylong_of_log2 (Gj hc)))).uk
theorem bM:OpR X (Qz .Mod) (uk (λ_ j=>0<j) λi j=>.int (i%j)):=Ir.uk
theorem uG:OpR X (Qz .Pow) (uk KL λi j=>.int (i^j.toNat)):=HK.uk
theorem xU:OpR X (Pz .Lt) (nz λi j=>.bl (decide (i<j))):=Kg.nz
theorem zD:OpR X (Pz .Gt) (nz λi j=>.bl (decide (j<i))):=J6.nz
theorem Mi:OpR X (Pz .GtE) (nz λi j=>.bl (decide (j<=i))):=Kp.nz
mutual
inductive kT(K:Pa)(H:Hp):V->Sk->Prop where
 |non:kT K H .non .none
 |bl (b:Bool):kT K H (.bl b) (.bool b)
 |int (i:Int):kT K H (.int i) (.int i)
 |str (x:Str):kT K H (.str x) (.str x)
 |lst {a:O4}{xs:List V}{ds:List Sk} (h:SqL K H a xs) (r:gx K H xs ds):kT K H (.ref a) (.list ds)
 |tup {a:O4}{xs:List V}{ds:List Sk} (h:SqT K H a xs) (r:gx K H xs ds):kT K H (.ref a) (.tuple ds)
inductive gx(K:Pa)(H:Hp):List V->List Sk->Prop where
 |nil:gx K H [] []
 |cons {x:V}{xs:List V}{d:Sk}{ds:List Sk} (h:kT K H x d) (r:gx K H xs ds):gx K H (x::xs) (d::ds)
end
mutual
theorem Inv.reads{pins:List (O4×Obj)}{σ:St}{H:Hp}{s:O5}(I:Inv X pins σ H s):∀{x:V}{d:Sk}{u:E9},kT X.K H x d->Vr x u->∃as,Reads s.heap u d as
 |_,_,_,.non,r=>by cases r;exact{_,.none}
 |_,_,_,.bl b,r=>by cases r;exact{_,.bool b}
 |_,_,_,.int i,r=>by obtain⟨t,rfl⟩:=r;exact{_,.int i t}
 |_,_,_,.str x,r=>by obtain⟨t,rfl⟩:=r;exact{_,.str x t}
 |_,_,_,.lst h q,r=>by
  cases r;obtain⟨its,rv,⟨o,n,e,hc,_,hd⟩,_⟩:=I.list h;obtain⟨as,z⟩:=I.readsAll q rv;exact{_,.list e hc hd (by simpa using z)}
 |_,_,_,.tup h q,r=>by
  cases r;obtain⟨its,rv,⟨o,e,hc,n,hd⟩,_⟩:=I.tuple h;obtain⟨as,z⟩:=I.readsAll q rv;exact{_,.tuple e hc hd (by simpa using z)}
theorem Inv.readsAll{pins:List (O4×Obj)}{σ:St}{H:Hp}{s:O5}(I:Inv X pins σ H s):∀{xs:List V}{ds:List Sk}{us:List E9},gx X.K H xs ds->Vp xs us->∃as,ReadsAll s.heap us ds as
 |_,_,_,.nil,r=>by cases r;exact{_,.nil}
 |_,_,_,.cons h q,r=>by
  cases r with
  |cons r1 r2=>
   obtain⟨as,z⟩:=I.reads h r1;obtain⟨bs,z2⟩:=I.readsAll q r2;exact{_,.cons z z2}
end
noncomputable def fEq(K:Pa):R2:=λx y H Q=>match x,y with
 | .ref p,.ref q=>∃d e,kT K H (.ref p) d/\kT K H (.ref q) e/\P4 d=true/\P4 e=true/\Q (.bl (T6 d e)) H
 |x,y=>BP x y=true/\Q (.bl (decide (x=y))) H
noncomputable def fNe(K:Pa):R2:=λx y H Q=>match x,y with
 | .ref p,.ref q=>∃d e,kT K H (.ref p) d/\kT K H (.ref q) e/\P4 d=true/\P4 e=true/\Q (.bl (!PyData.eqv d e)) H
 |x,y=>BP x y=true/\Q (.bl (!decide (x=y))) H
theorem Ls(hu:X.A.units+64<QQ):OpR X (Pz .Eq) (fEq X.K):=by
 intro pins s σ H x y v u Q I rx ry h;by_cases hr:∃p q,x=V.ref p/\y=V.ref q
 ·obtain⟨p,q,rfl,rfl⟩:=hr;obtain⟨d,e,hd,he,sd,se,hq⟩:=h;obtain⟨as,z1⟩:=I.reads hd rx;obtain⟨bs,z2⟩:=I.reads he ry;exact eq_dataH z1 z2 sd se hu {.bl _,H,I,rfl,hq}
 refine K3 pins s σ H x y v u Q I rx ry ?_;cases x<;>cases y<;>first|exact h|exact absurd {_,_,rfl,rfl} hr
theorem oR(hu:X.A.units+64<QQ):OpR X (Pz .NotEq) (fNe X.K):=by
 intro pins s σ H x y v u Q I rx ry h;by_cases hr:∃p q,x=V.ref p/\y=V.ref q
 ·obtain⟨p,q,rfl,rfl⟩:=hr;obtain⟨d,e,hd,he,sd,se,hq⟩:=h;obtain⟨as,z1⟩:=I.reads hd rx;obtain⟨bs,z2⟩:=I.reads he ry;exact ne_dataH z1 z2 sd se hu {.bl _,H,I,rfl,hq}
 refine Ky pins s σ H x y v u Q I rx ry ?_;cases x<;>cases y<;>first|exact h|exact absurd {_,_,rfl,rfl} hr
noncomputable def fIn(K:Pa)(neg:Bool):R2:=λx y H Q=>match y with
 | .str j=>∃i,x=.str i/\Q (.bl (if neg then !(!(Qf j i 0 j.length 1).isEmpty)else !(Qf j i 0 j.length 1).isEmpty)) H
 | .ref p=>∃xs,(SqL K H p xs\/SqT K H p xs)/\lW x=true/\xs.all lW=true/\Q (.bl (if neg then !inV x xs else inV x xs)) H
 |_=>False
theorem Lp:OpR X (Pz .In) (fIn X.K false):=by
 intro pins s σ H x y v u Q I rx ry h;cases y with
 |str j=>
  obtain⟨i,rfl,q⟩:=h;exact BW pins s σ H _ _ v u Q I rx ry ⟨i,j,rfl,rfl,q⟩
 |ref p=>
  obtain⟨xs,h1,h2,h3,q⟩:=h;exact BA pins s σ H _ _ v u Q I rx ry ⟨p,xs,rfl,h1,h2,h3,q⟩
 |_=>exact(show False from h).elim
theorem FK:OpR X (Pz .NotIn) (fIn X.K true):=by
 intro pins s σ H x y v u Q I rx ry h;cases y with
 |str j=>
  obtain⟨i,rfl,q⟩:=h;exact wJ pins s σ H _ _ v u Q I rx ry ⟨i,j,rfl,rfl,q⟩
 |ref p=>
  obtain⟨xs,h1,h2,h3,q⟩:=h;exact vq pins s σ H _ _ v u Q I rx ry ⟨p,xs,rfl,h1,h2,h3,q⟩
 |_=>exact(show False from h).elim
theorem C9:OpR X (Pz .Is) (λx y H Q=>y=.non/\Q (.bl (decide (x=.non))) H):=IL
theorem fL:OpR X (Pz .IsNot) (λx y H Q=>y=.non/\Q (.bl (!decide (x=.non))) H):=FT
inductive ixS(K:Pa)(p:O4)(i:Int)(H:Hp)(Q:VK):Prop
 |mk(xs:List V)(v:V)(h0:SqL K H p xs\/SqT K H p xs)(h1:atI xs i=Vn v)(q:Q v H):ixS K p i H Q
noncomputable def fIx(K:Pa):R2:=λx y H Q=>match x,y with
 | .ref p,.int i=>ixS K p i H Q
 | .str z,.int i=>∃c,z.length<=sizeLine/\atI z.cps.toList i=Vn c/\Q (.str ⟨#[c]⟩) H
 |_,_=>False
theorem ET:IxR X (fIx X.K):=by
 intro value slice pins s σ H x y v u Q I rx ry h hs;cases x with
 |ref p=>
  cases y with
  |int i=>
   obtain⟨xs,w,h1|h1,h2,q⟩:=h
   ·exact Fm value slice pins s σ H _ _ v u Q I rx ry ⟨p,xs,i,w,rfl,rfl,h1,h2,q⟩ hs
   exact Ip value slice pins s σ H _ _ v u Q I rx ry ⟨p,xs,i,w,rfl,rfl,h1,h2,q⟩ hs
  |_=>exact(show False from h).elim
 |str z=>
  cases y with
  |int i=>
   obtain⟨c,h1,h2,q⟩:=h;exact JA value slice pins s σ H _ _ v u Q I rx ry ⟨z,i,c,rfl,rfl,h1,h2,q⟩ hs
  |_=>exact(show False from h).elim
 |_=>cases y<;>exact(show False from h).elim
def LS:V->Option Int->Option Int->Hp->VK->Prop:=λx lo hi H Q=>∃z,x=.str z/\z.length<=sizeLine/\Q (.str (Txt.slice z lo hi)) H
noncomputable def Its(x:Str):It:={λi _=>i<x.cps.size,λi H v H'=>H'=H/\∃c,x.cps[i]?=Vn c/\v=.str ⟨#[c]⟩,λi _=>x.cps.size<=i}
theorem EI{P:Program}{w:Pf}{K:Q3}{tg:Expr}{T:String}(hT:T="str_ascii_iterator"\/T="str_iterator")(it:O4)(x:Str)(t:Tok):VG P w K tg (Its x) [it] it (λi h=>i<=x.cps.size/\h.IsStrIter it T x t i) where
 mem:=by simp
 obj:=λi h st b hb=>by
  have e:b=it:=by simpa using hb
  subst e;obtain⟨_,o,e,c,d⟩:=st;exact{o,e,λv z=>by rw[d]at z;cases z}
 keep:=λi h h' st k=>by
  obtain⟨hi,o,e,r⟩:=st;exact{hi,o,k it (by simp) o e,r}
 item:=by
  intro X hP hw hK hc i pins s σ H E I hf st hg;subst hP hw hK;obtain⟨f0,f1,f2,f3,f4,f5⟩:=hf it (by simp);have W:Walks X.prog X.w X.A it [it] [it] x.cps.size (SignAt x) (λi h=>h.IsStrIter it T x t i):=by
   rcases hT with rfl|rfl
   ·exact Va (I.ok.hd hc) it x t
   exact Walks.strWide (I.ok.hd hc) it x t
  refine W.item i s _ _ hg st.2 λv h' tk hv st' kk=>?_;obtain⟨c,u,hcp,rfl⟩:=hv;have I1:Inv X pins σ H { s with heap:=h',toks:=tk }:=I.turned (λb o hb e=>kk b o (by simpa using hb) e) f0 f1 f3 f4 f5;obtain⟨o,e,c',d⟩:=id st';refine{_,rfl,xJ (s:={ s with heap:=h',toks:=tk }) e c' d (by rcases hT with rfl|rfl<;>decide) ⟨.str ⟨#[c]⟩,H,I1,⟨u,rfl⟩,⟨rfl,c,hcp,rfl⟩,⟨hg,st'⟩,λb hb=>(hf b hb).1⟩}
 done:=by
  intro X hP hw hK hc i pins s σ H E I hf st hg;subst hP hw hK;obtain⟨f0,f1,f2,f3,f4,f5⟩:=hf it (by simp);have W:Walks X.prog X.w X.A it [it] [it] x.cps.size (SignAt x) (λi h=>h.IsStrIter it T x t i):=by
   rcases hT with rfl|rfl
   ·exact Va (I.ok.hd hc) it x t
   exact Walks.strWide (I.ok.hd hc) it x t
  have e:i=x.cps.size:=Nat.le_antisymm st.1 hg;subst e;exact W.done s _ _ st.2 λh' tk kk=>{rfl,I.turned (λb o hb e=>kk b o (by simpa using hb) e) f0 f1 f3 f4 f5}
 self:=λA i s Q E st h=>by
  rcases hT with rfl|rfl
  ·exact wpAny_pyIter_striter_ascii st.2 h
  exact wpAny_pyIter_striter_wide st.2 h
noncomputable def Lu(K:Pa)(tl:TE):TI:=λσ H R=>tl σ H λx H1=>match x with
 | .ref a=>((∃xs,SqL K H1 a xs)/\R (Itl K a) H1)\/((∃xs,SqT K H1 a xs)/\R (Itt K a) H1)
 | .str z=>R (Its z) H1
 |_=>False
theorem b9{tg l:Expr}{tl:TE}(hl:PE X l tl):PI X tg l (Lu X.K tl):=by
 intro pins s σ H R I h;refine thn (hl pins s σ H _ I h) λv s1 z9=>?_;obtain⟨x,H1,I1,r1,q1⟩:=z9;cases x with
 |ref a=>
  cases r1;rcases q1 with⟨⟨xs,hq⟩,q⟩|⟨⟨xs,hq⟩,q⟩
  ·obtain⟨its,rv,p,hz⟩:=I1.list hq;refine Ul p.isList ?_;refine{s1.heap.objs.size,[s1.heap.objs.size],_,_,H1,rfl,I1.kept (t':=s1.toks) λb o e=>O9 _ e,BF a _,{_,Po _ rfl,rfl,rfl},λb hb=>?_,q};have e:b=s1.heap.objs.size:=by simpa using hb
   subst e;exact I1.xV (Ms _) (I1.hok.fresh (Ms _))
  obtain⟨its,rv,p,hz⟩:=I1.tuple hq;refine wpAny_pyIter_tuple (show s1.heap.IsTuple a its.toArray from p) ?_;refine{s1.heap.objs.size,[s1.heap.objs.size],_,_,H1,rfl,I1.kept (t':=s1.toks) λb o e=>O9 _ e,zg a _,{_,Po _ rfl,rfl,rfl},λb hb=>?_,q};have e:b=s1.heap.objs.size:=by simpa using hb
  subst e;exact I1.xV (Ms _) (I1.hok.fresh (Ms _))
 |str z=>
  obtain⟨t,rfl⟩:=r1;refine wpAny_pyIter_strU ?_;refine{s1.heap.objs.size,[s1.heap.objs.size],_,_,H1,rfl,I1.kept (t':=s1.toks) λb o e=>O9 _ e,EI (T:=strIterType z) ?_ _ z t,{MF _,_,Po _ rfl,rfl,rfl},λb hb=>?_,q1}
  ·unfold strIterType;split
   ·exact .inl rfl
   exact .inr rfl
  have e:b=s1.heap.objs.size:=by simpa using hb
  subst e;exact I1.xV (Ms _) (I1.hok.fresh (Ms _))
 |_=>exact(show False from q1).elim
theorem bw{a:Expr}{ta:TE}(ha:PE X a ta)(he:∀whole,isTrue a X.env whole=(do let v<-whole;Ug a.pos;RK [v] (truthy v))) :
  PT X a (λσ H Q=>ta σ H λx H'=>xC X.K x H' Q):=Cy ha he
inductive FY(K:Pa)(xs:List V)(H:Hp)(Q:VK):Prop
 |mk(x:V)(n:Nat)(h0:xs=[x])(h1:Kr K x H n)(q:Q (.int n) H):FY K xs H Q
theorem JR:dW X (.builtin "len") (FY X.K):=λpins s σ H xs us Q I r ⟨x,n,h0,h1,q⟩=>EK pins s σ H xs us Q I r ⟨x,n,h0,h1,q⟩
theorem jv:dW X (.type "list") (λxs H Q=>∃p ys,xs=[.ref p]/\(SqL X.K H p ys\/SqT X.K H p ys)/\∀l,H l=Vo->Q (.ref l) (upd H l (.lst ys))):=wk
noncomputable def Gv:V->E9
 | .ty n=>.type n
 | .ref a=>.ref a
 |_=>.none
theorem Ew{y:V}{u:E9}(r:Vr y u)(h:Gv y≠ .none):u=Gv y:=by
 cases y with
 |ty n=>exact r
 |ref a=>exact r
 |_=>exact absurd rfl h
inductive yK(K:Pa)(xs:List V)(H:Hp)(Q:VK):Prop
 |mk(x y:V)(t:E9)(b:Bool)(h0:xs=[x,y])(h1:Gv y≠ .none)(h2:om K H x t)(h3:QJ K t (Gv y)=Vn b)(q:Q (.bl b) H):yK K xs H Q
theorem aT:dW X (.builtin "isinstance") (yK X.K):=by
 intro pins s σ H xs us Q I r h;obtain⟨x,y,t,b,rfl,hy,ty,e,q⟩:=h;obtain⟨u,w',rfl,rx,ry⟩:=VH r;rw[Ew ry hy];exact Br I rx ty e λtk=>{.bl b,H,I.tok _,rfl,q}
theorem bt{o e:Expr}{to:TE}{t:TA}{apos cpos:Pos}(ho:PE X o to)(ha:PA X [e] t)(hbase:Qn o "append" X.env (P7 o X.env)=P7 o X.env:=by rfl)
  (hfew:((Qi cpos (Ph [e] X.env)).all (λx=>!x.1)&&(QK cpos (Qg [] X.env)).all (λx=>x.1.isSome)
   &&decide ([e].length+([]:List Q4).length+(if([]:List Q4).isEmpty then 0 else 1)<30))=true:=by rfl)
  (hline:(apos.endLine==cpos.line)=true:=by rfl) (hs:Ph [e] X.env=(false,P7 e X.env)::Ph [] X.env:=by rfl) (hplain:(Qi cpos (Ph [] X.env)).any (·.1)=false:=by rfl) :
  PE X (.Call (.Attribute o "append" apos) [e] [] cpos) (tBM X.K "list" wo to t):=EV Rj PySem.F.slot_list_append PySem.F.type_list_append u9 ho ha hbase hfew hline hs hplain
end
def Has(P:Program)(w:Pf)(K:Pa)(mg:Str->Option E9)(base:PH)(k:Nat)(x:Str)(ps:List Str)(sp:Sp):Prop:=
 ∃f fd,jY P w K mg base CX0 k f fd ps sp/\Vu K fd ps []/\Qs K (.ref f)=true/\mg x=Vn (.ref f)/\∃oc od osl,K.lookup f=Vn ⟨oc,od,.func fd,osl⟩
structure bf(K:Pa)(mg:Str->Option E9)(x:Str)(st:PB)(ps:List Str):Prop where
 ex:∃f fd,Fun K x x st f fd/\Vu K fd ps []/\mg x=Vn (.ref f)
theorem ak{X:Cx}{j k:Nat}{x:Str}{ps:List Str}{sp:Sp}{e:Expr}{es:List Expr}{t:TA}{p pos:Pos}(D:Has X.prog X.w X.K X.mg X.base j x ps sp)(hr:dP k X.A)(ha:PA X (e::es) t)(hj:j<=k:=by decide)(hg:Gl X x:=by rfl)
  (hdb:(x==("__debug__":Str))=false:=by decide) (he:Ph (e::es) X.env=(false,P7 e X.env)::Ph es X.env:=by rfl) (hpl:(Qi pos (Ph es X.env)).any (·.1)=false:=by rfl) :
  PE X (.Call (.Name x p) (e::es) [] pos) (AY sp [] E0 t):=by
 obtain⟨f,fd,F,b,kp,m,_⟩:=D
 exact AK F (hr.mono hj) hg m kp b .nil uP ha hdb he hpl
abbrev bf.Hz{K:Pa}{mg:Str->Option E9}{x:Str}{st:PB}{ps:List Str}(_:bf K mg x st ps)(P:Program)(w:Pf)(base:PH)(k:Nat)(sp:Sp):Prop:=L2.Has P w K mg base k x ps sp
theorem bf.hs{P:Program}{w:Pf}{K:Pa}{mg:Str->Option E9}{base:PH}{x:Str}{st:PB}{N ps:List Str}{k:Nat}{sp:Sp}(F:bf K mg x st ps)(S:aD N ps (aq st))
  (hbody:∀(f:O4)(cdv:E9)(A:Pp)(outer:List Env)(s:O5)(H:Hp)(vs:List V)(Q:VK)(E:XK),dP k (A.deeper (Q6 x (aq st) s.heap.objs.size f cdv))->(A.deeper (Q6 x (aq st) s.heap.objs.size f cdv)).units+64<QQ->sp vs H Q E->
   ∃t,PSs (ub CX0 P w K mg base N x (aq st) f cdv A outer s H E).nox (bh st) t/\t { nx:=λ_ H'=>Q .non H',rt:=Q } (Vx N vs) H) (len:∀vs H Q E,sp vs H Q E->vs.length=ps.length:=by intro _ _ _ _ h;cases h;subst_vars;rfl):Has P w K mg base (k+1) x ps sp:=by
 obtain⟨f,fd,F,b,m⟩:=F.ex
 obtain⟨oc,od,kV,doc,pm,an,cdv,ct,osl,e,lk,hcd⟩:=F.ex
 exact{f,fd,F.ok S len λcdv A outer s H vs Q E hr h=>hbody f cdv A outer s H vs Q E hr hr.units h,b,F.kp,m,oc,od,osl,lk}
theorem ai.upd{H:Hp}{p:O4}(h:H p=Vo)(o:HO):ai H (upd H p o):=λb u q=>by rw[aY (fG q h)];exact q
theorem ai.tup{K:Pa}{H H':Hp}{a:O4}{xs:List V}(e:ai H H')(h:SqT K H a xs):SqT K H' a xs:=by
 rcases h with(h|⟨o,h⟩)|h
 ·exact .inl (.inl (e _ _ h))
 ·exact .inl (.inr {o,e _ _ h})
 exact .inr h
noncomputable def cFr(fr:List Nat)(σ:St):St:=fr.map λj=>(σ[j]?).getD Vo
theorem sD{J:It}{n:Nat}{x:Nat->V}{fr:List Nat}{tf:CB->TT}{te:CB->TE}{Q:VK}{σ:St}{H1:Hp}(p:Nat->Bool)(f:Nat->V)(hn:n<sizeLine)
  (stop:∀H,ai H1 H->J.stop n H) (go:∀i H,i<n->ai H1 H->J.go i H) (yld:∀i H v H',i<n->ai H1 H->J.yld i H v H'->H'=H/\v=x i)
  (hf:∀b i H (R:Bool->Hp->Prop),i<n->ai H1 H->(∀H',ai H H'->R (p i) H')->tf b (Vn (x i)::cFr fr σ) H R)
  (he:∀b i H (R:VK),i<n->p i=true->ai H1 H->(∀H',ai H H'->R (f i) H')->te b (Vn (x i)::cFr fr σ) H R)
  (fin:∀D H,H1 D=Vo->ai H1 H->H D=Vn (.lst (((Pu n).filter p).map f))->Q (.ref D) H):nM J 1 fr (λ_=>nB 0) tf te Q σ H1:=by
 refine⟨λb D hD=>?_⟩
 have lenf:∀i,(((Pu i).filter p).map f).length<=i:=λi=>by
  rw[Mq];exact ME (NG _ _) (OE Nv)
 refine{λi m σ' H'=>m=n-i/\i<=n/\(∃v0,σ'=v0::cFr fr σ)/\ai H1 H'/\H' D=Vn (.lst (((Pu i).filter p).map f)),{n,rfl,MF _,⟨Vo,rfl⟩,ai.upd hD _,ao},?_}
 rintro i m σ' H' ⟨rfl,hi,⟨v0,rfl⟩,sm,hl⟩
 by_cases hlt:i<n
 ·refine .inr {go i H' hlt sm,λσ2 H2=>(∃v0,σ2=v0::cFr fr σ)/\ai H1 H2/\H2 D=Vn (.lst (((Pu (i+1)).filter p).map f)),λσ2 H2 q=>{n-(i+1),by lia,rfl,hlt,q},λv H2 y=>?_};obtain⟨rfl,rfl⟩:=yld i H' v H2 hlt sm y;show tf b (Vn (x i)::cFr fr σ) _ _;refine hf b i _ _ hlt sm λH3 s3=>?_;have e1:(Pu (i+1)).filter p=(Pu i).filter p++(if p i then[i]else[]):=by
   rw[UP,Nr];congr 1;cases hp:p i<;>simp[hp]
  cases hp:p i with
  |false=>
   rw[if_neg My];refine{{_,rfl},sm.trans s3,?_};rw[s3 _ _ hl,e1,hp];simp
  |true=>
   rw[if_pos rfl];refine he b i _ _ hlt hp (sm.trans s3) λH4 s4=>{_,s4 _ _ (s3 _ _ hl),?_,{_,rfl},?_,?_}
   ·exact OH (lenf i) (OZ hlt hn)
   ·have sm4:ai H1 H4:=sm.trans (s3.trans s4);intro c o q;by_cases hc:c=D
    ·rw[hc,hD]at q;cases q
    rw[aY hc];exact sm4 c o q
   rw[ao,e1,hp];simp
 have e:i=n:=by lia
 subst e
 exact .inl ⟨stop H' sm,fin D H' hD sm hl⟩
theorem tF{lo:Int}{n:Nat}{fr:List Nat}{tf:CB->TT}{te:CB->TE}{Q:VK}{σ:St}{H1:Hp}(p:Nat->Bool)(f:Nat->V)(hn:n<sizeLine)
  (hf:∀b i H (R:Bool->Hp->Prop),i<n->ai H1 H->(∀H',ai H H'->R (p i) H')->tf b (Vn (.int (lo+i))::cFr fr σ) H R)
  (he:∀b i H (R:VK),i<n->p i=true->ai H1 H->(∀H',ai H H'->R (f i) H')->te b (Vn (.int (lo+i))::cFr fr σ) H R)
  (fin:∀D H,H1 D=Vo->ai H1 H->H D=Vn (.lst (((Pu n).filter p).map f))->Q (.ref D) H):nM (Itr lo n) 1 fr (λ_=>nB 0) tf te Q σ H1:=
 sD (x:=λi=>.int (lo+i)) p f hn (λ_ _=>Ms _) (λ_ _ h _=>h) (λ_ _ _ _ _ _ y=>y) hf he fin
theorem map_range{α:Type}{β:Type}(xs:List α)(d:α)(f:α->β):(Pu xs.length).map (λi=>f (xs.getD i d))=xs.map f:=by
 apply Ov;intro i;rw[MM,MM];by_cases h:i<xs.length
 ·rw[NN h,Mv h];simp[List.getD,Mv h]
 rw[Nj (by simpa using h),Nj (by simpa using h)];rfl
theorem vy{α:Type}{β:Type}(p:α->Bool)(f:α->β)(d:α):∀(xs:List α),((Pu xs.length).filter λi=>p (xs.getD i d)).map (λi=>f (xs.getD i d))=(xs.filter p).map f:=by
 intro xs;have e:=map_range xs d id;have e2:xs=(Pu xs.length).map λi=>xs.getD i d:=by simpa using e.symm
 have e3:xs.filter p=((Pu xs.length).filter λi=>p (xs.getD i d)).map λi=>xs.getD i d:=by
  conv=>lhs;rw[e2]
  rw[List.filter_map];rfl
 rw[e3,NJ];rfl
section
variable{X:Cx}
def Iz(K:Pa):V->Option Int->Option Int->Hp->VK->Prop:=λx lo hi H Q=>IM K x lo hi H Q\/IW K x lo hi H Q
theorem Im:SlR X (Iz X.K):=Fz.or Jr
end
theorem Ei{K:Pa}{mg:Str->Option E9}{h:PH}{x:Str}{st:PB}{ps:List Str}{f:O4}{oc:E9}{od an:Option O4}{osl:Array (Option E9)}{kV doc pm cdv ct:E9}(X:K.In h)(G:h.Ns Pw mg)
  (a:Vb K Pw x=Vn (Vn (.ref f))) (l:K.lookup f=Vn {oc,od,.func (Qo x x (bF st) (bh st) (aq st) .none kV doc pm an cdv ct),osl}) (c:RA K cdv x=true) (k:Qs K (.ref f)=true)
  (hb:∀(kV doc pm:E9)(an:Option O4)(cdv ct:E9)(us:List E9),us.length=ps.length->bindArgs (Qo x x (bF st) (bh st) (aq st) .none kV doc pm an cdv ct) {us,[]}=pure (ps.zip us)):bf K mg x st ps:=
 {f,_,vB l c k,(vB l c k).binds hb,Ts X G a}
theorem II{P:Program}{w:Pf}{K:Pa}{mg:Str->Option E9}{base:PH}{k:Nat}{x:Str}{ps:List Str}{sp:Sp}{f:O4}{oc:E9}{od:Option O4}{osl:Array (Option E9)}{fd:QA}(D:Has P w K mg base k x ps sp)(m:mg x=Vn (.ref f))
  (l:K.lookup f=Vn ⟨oc,od,.func fd,osl⟩):jY P w K mg base CX0 k f fd ps sp:=by
 obtain⟨g,gd,F,b,kp,mg',_,_,_,l'⟩:=id D
 rw[m]at mg'
 cases mg'
 rw[l]at l'
 cases l'
 exact F
section
variable{prog:Program}{w:Pf}{A:Pp}{R:UZ->O5->Prop}{I l:O4}{its:Array E9}{ns:List Int}{St:Nat->PH->Prop}{fp wr:List O4}{d:E9}
end
section
variable{X:Cx}
theorem HB:SlR X LS:=by
 intro pins s σ H x v vl vu lo hi sl Q I rx hs pl pu h;obtain⟨z,rfl,hz,q⟩:=h;obtain⟨t,rfl⟩:=rx;have fin:∀t' k,EP X pins σ Q (.str (Txt.slice z lo hi) t') { s with toks:=k }:=λt' k=>⟨.str _,H,I.tok _,⟨_,rfl⟩,q⟩;have len:=ME (Txt.slice_le z lo hi) hz;obtain⟨o,ho,hc,hd⟩:=hs;refine{"str",_,PySem.F.slot_str_getitem.lookup,T2 _ _ _,?_};cases pl with
 |none=>
  cases pu with
  |none=>exact QM (l:=QG) (u:=QG) (st:=QG) ⟨o,ho,hc,hd⟩ rfl (RF {len,λt' k=>fin t' k})
  |int j uj=>exact QM (l:=QG) (u:=Vn (j,uj)) (st:=QG) ⟨o,ho,hc,hd⟩ rfl (RF {len,λt' k=>fin t' k})
 |int i ui=>
  cases pu with
  |none=>exact QM (l:=Vn (i,ui)) (u:=QG) (st:=QG) ⟨o,ho,hc,hd⟩ rfl (RF {len,λt' k=>fin t' k})
  |int j uj=>exact QM (l:=Vn (i,ui)) (u:=Vn (j,uj)) (st:=QG) ⟨o,ho,hc,hd⟩ rfl (RF {len,λt' k=>fin t' k})
def fSl(K:Pa):V->Option Int->Option Int->Hp->VK->Prop:=λx lo hi H Q=>match x with
 | .str z=>z.length<=sizeLine/\Q (.str (Txt.slice z lo hi)) H
 |x=>IM K x lo hi H Q\/IW K x lo hi H Q
theorem zN:SlR X (fSl X.K):=by
 intro pins s σ H x v vl vu lo hi sl Q I rx hs pl pu h;by_cases hx:∃z,x=.str z
 ·obtain⟨z,rfl⟩:=hx;exact HB pins s σ H _ v vl vu lo hi sl Q I rx hs pl pu ⟨z,rfl,h.1,h.2⟩
 refine Im pins s σ H x v vl vu lo hi sl Q I rx hs pl pu ?_;cases x<;>first|exact h|exact absurd {_,rfl} hx
theorem KS(hc:X.calm=true:=by rfl):dW X (.builtin "max") (λxs H Q=>∃i j,xs=[.int i,.int j]/\Q (.int (if j>i then j else i)) H):=Bx hc
theorem vJ{x:Str}{z:Str}{pos:Pos}(h:∃t,X.mg x=Vn (.str z t))(hg:Gl X x:=by rfl)(hd:(x==("__debug__":Str))=false:=by decide):PE X (.Name x pos) (tC (.str z)):=by
 obtain⟨t,e⟩:=h;exact Al hg e ⟨t,rfl⟩ hd
end
noncomputable def CF(lo c:Int)(n:Nat):It:={λi _=>i<n,λi H x H'=>H'=H/\x=.int (lo+i*c),λi _=>n<=i}
noncomputable def mn(lo hi c:Int):Nat:=(P5 lo hi c).toNat
theorem x6{P:Program}{w:Pf}{K:Q3}{tg:Expr}(it:O4)(lo c:Int)(n:Nat):VG P w K tg (CF lo c n) [it] it (λi h=>Tb h it (lo+(i:Nat)*c) ((n:Int)-(i:Nat)) c) where
 mem:=by simp
 obj:=λi h st b hb=>by
  have e:b=it:=by simpa using hb
  subst e;exact{_,st,λv z=>by
   have z':UJ _=Tp v:=z;cases z'}
 keep:=λi h h' st k=>k it (by simp) _ st
 item:=by
  intro X hP hw hK hc i pins s σ H E I hf st hg;subst hP hw hK;obtain⟨f0,f1,f2,f3,f4,f5⟩:=hf it (by simp);have W:=Walks.range (prog:=X.prog) (w:=X.w) (I.ok.hd hc) it lo c n;refine W.item i s _ _ hg st λv h' tk hv st' kk=>?_;obtain⟨t,rfl⟩:=hv;have I1:Inv X pins σ H { s with heap:=h',toks:=tk }:=I.turned (λb o hb e=>kk b o (by simpa using hb) e) f0 f1 f3 f4 f5;exact⟨_,rfl,xJ (s:={ s with heap:=h',toks:=tk }) (n:="range_iterator") st' rfl rfl (by decide) ⟨.int (lo+i*c),H,I1,⟨t,rfl⟩,⟨rfl,rfl⟩,st',λb hb=>(hf b hb).1⟩⟩
 done:=by
  intro X hP hw hK hc i pins s σ H E I hf st hg;subst hP hw hK;obtain⟨f0,f1,f2,f3,f4,f5⟩:=hf it (by simp);exact SI (I.ok.hd hc) st (by have:n<=i:=hg;lia) λh' eb=>{rfl,I.turned (t':=s.toks) (λb o hb e=>eb b o hb e) f0 f1 f3 f4 f5}
 self:=λ_ _ _ _ _ st h=>SJ st h
section
variable{X:Cx}{tg:Expr}
noncomputable def gD{α:Type}(xs:List α):List α:=(Pu ((xs.length+1)/2)).filterMap λm=>xs[m*2]?
theorem xW{α:Type}(xs:List α):(gD xs).length<=xs.length:=by
 unfold gD;refine ME (Sl _ _) ?_;rw[Nv];lia
theorem Vp.gD{xs:List V}{us:List E9}(r:Vp xs us):Vp (gD xs) (gD us):=by
 have hl:=r.length;unfold L2.gD;rw[hl];have gen:∀l:List Nat,Vp (l.filterMap λm=>xs[m*2]?) (l.filterMap λm=>us[m*2]?):=by
  intro l;induction l with
  |nil=>exact .nil
  |cons m l ih=>
   rw[ND,ND];cases e:xs[m*2]? with
   |none=>rw[r.none_of e];exact ih
   |some x=>
    obtain⟨u,hu,ru⟩:=r.get e;rw[hu];exact .cons ru ih
 exact gen _
theorem Gh(n:Nat):P0 0 (n:Int) 2=(n+1)/2:=by
 unfold P0;have h1:(2:Int)>0:=by lia
 simp only[h1,if_true];split<;>lia
theorem JZ(xs:Array E9):((Pu ((xs.size+1)/2)).filterMap λ(m:Nat)=>xs[((0:Int)+(m:Int)*2).toNat]?).toArray=(gD xs.toList).toArray:=by
 unfold gD;have e:(λ(m:Nat)=>xs[((0:Int)+(m:Int)*2).toNat]?)=λm=>xs.toList[m*2]?:=by
  funext m
  have:((0:Int)+(m:Int)*2).toNat=m*2:=by lia
  rw[this,MZ]
 rw[e,MI]
theorem EG{prog:Program}{w:Pf}{A:Pp}{E:E9->O5->Prop}{s:O5}{sl:O4}{t2:Tok}{n:Nat}{Q:Int×Int×Nat->O5->Prop}(hs:s.heap.IsSliceOf sl .none .none (.int 2 t2))(h:Q (0,2,(n+1)/2) s) :
  wpAny (Pj prog w) A (QB (.ref sl) (pure (n:Int))) Q E s:=by
 obtain⟨os,hos,hcs,hds⟩:=id hs
 unfold QB R8
 refine O6 (O6 (RB hos hds (x:=.none) rfl (O6 (RB hos hds (x:=.none) rfl (O6 (RB hos hds (x:=.int 2 t2) rfl (Pc ?_)))))))
 refine O6 (slicePart_int ?_)
 show wpAny _ _ (if((2:Int)==0)=true then _ else _) _ _ s
 rw[if_neg (by decide)]
 refine O6 (RW (O6 (RW (O6 (Pc ?_)))))
 show wpAny _ _ (pure ((0:Int),(2:Int),P0 0 (n:Int) 2)) _ _ s
 rw[Gh]
 exact Pc h
theorem oH{prog:Program}{w:Pf}{A:Pp}{E:E9->O5->Prop}{s:O5}{t sl:O4}{items:Array E9}{t2:Tok}{Q:E9->O5->Prop}(ht:IsTup s.heap t items)(hs:s.heap.IsSliceOf sl .none .none (.int 2 t2))
  (h:Q (.ref s.heap.objs.size) { s with heap:=s.heap.push { cls:=.type "tuple",data:=.seq (gD items.toList).toArray } }) (hsz:items.size<=sizeLine):wpAny (Pj prog w) A (Sh (.ref t) (.ref sl)) Q E s:=by
 have htake:sizeOk (.seq (gD items.toList).toArray):=by
  show(gD items.toList).toArray.size<=sizeLine;rw[MN];exact ME (xW _) (by rw[MI];exact hsz)
 obtain⟨os,hos,hcs,hds⟩:=id hs
 have hTs:s.TypeIs (.ref sl) "slice":=⟨os,hos,hcs⟩
 unfold Sh
 try with_reducible refine wpAny_holding ?_
 first|refine O6 (Pc ?_)|skip
 refine O6 (Uj ht.typeIs (by decide) ?_)
 refine O6 (Su (name:=RN "__getitem__") ht.typeIs Ql
  (Rv Ql ht.typeIs Tw ?_ (TZ _ _)))
 show wpAny _ _ (RX (.ref t)>>=_) _ _ s
 refine O6 (tupleItemsOf_ ht ?_)
 refine O6 (SO hTs ?_)
 rw[if_pos (by decide)]
 refine O6 (EG hs ?_)
 show wpAny _ _ (if((0:Int)==0&&(2:Int)==1&&((items.size+1)/2)==items.size)=true then _ else _) _ _ s
 rw[if_neg (by simp),JZ]
 first
  |exact O6 (m:=PV _) (P2 (Pc {_,rfl,Pc h}) htake)
  |exact O6 (m:=PV _) (P2 (O6 (Pc (Pc {_,rfl,Pc h}))) htake)
  |exact O6 (O6 (m:=PV _) (P2 (Pc (Pc {_,rfl,Pc h})) htake))
  |exact O6 (O6 (m:=PV _) (P2 (Pc {_,rfl,Pc h}) htake))
noncomputable def IZ(K:Pa)(te:TE):TE:=λσ H Q=>te σ H λx H1=>∃a xs,x=.ref a/\SqT K H1 a xs/\∀p,H1 p=Vo->Q (.ref p) (upd H1 p (.tup (gD xs)))
theorem EA{e:Expr}{te:TE}{j:Nat}{pos p2 p3:Pos}(he:PE X e te):PE X (.Subscript e (.Slice Vo Vo (Vn (.Constant (.int 2) j p3)) p2) pos) (IZ X.K te):=by
 intro pins s σ H Q I h;refine U4 (thn (he pins s σ H _ I h) λv s1 z9=>?_);obtain⟨x,H1,I1,r1,a,xs,ex,hx,q⟩:=z9;subst ex;cases r1;refine wpAny_Slice ?_;rw[TJ];refine Pc ?_;refine Pc ?_;rw[evalPart_some];refine TV ?_;obtain⟨its,r,ht,hz⟩:=I1.tuple hx;have hlen:its.toArray.size=xs.length:=by rw[MN];exact r.length.symm
 have I4:Inv X pins σ H1 { s1 with heap:=s1.heap.push { cls:=.type "slice",data:=.fields #[.none,.none,.int 2 s1.toks] },toks:=s1.toks+1 }:=I1.kept λb ob q=>O9 _ q;have ht4:IsTup (s1.heap.push { cls:=.type "slice",data:=.fields #[.none,.none,.int 2 s1.toks] }) a its.toArray:=by
  obtain⟨o,e,r⟩:=ht;exact{o,O9 _ e,r}
 refine tail_any (ops:=[.ref a,.ref s1.heap.objs.size]) (s:={ s1 with heap:=s1.heap.push { cls:=.type "slice",data:=.fields #[.none,.none,.int 2 s1.toks] },toks:=s1.toks+1 }) ht4.typeIs PyProof.Rows.slot_tuple_getitem.lookup (oH ht4 (T1 ..) ?_ (by rw[hlen];exact hz)) (by with_unfolding_all rfl);refine{.ref _,_,I4.laid (t':=s1.toks+1) (o:=.tup (gD xs)) (λb ob q=>O9 _ q) (Ms _) ?_,rfl,q _ (I4.hok.fresh (Ms _))};exact{ME (xW xs) hz,_,r.gD,IsTup.new _ _}
theorem bD{x:Str}{pos:Pos}{a:O4}(h:X.mg x=Vn (.ref a))(hg:Gl X x:=by rfl)(hd:(x==("__debug__":Str))=false:=by decide):PE X (.Name x pos) (tC (.ref a)):=Al hg h rfl hd
end
theorem Ex{K:Pa}{a:O4}{xs:List V}{fr:List Nat}{tf:CB->TT}{te:CB->TE}{Q:VK}{σ:St}{H1:Hp}(p:V->Bool)(f:V->V)(hx:SqT K H1 a xs)(hn:xs.length<sizeLine)
  (hf:∀b x H (R:Bool->Hp->Prop),x∈xs->ai H1 H->(∀H',ai H H'->R (p x) H')->tf b (Vn x::cFr fr σ) H R)
  (he:∀b x H (R:VK),x∈xs->p x=true->ai H1 H->(∀H',ai H H'->R (f x) H')->te b (Vn x::cFr fr σ) H R)
  (fin:∀D H,H1 D=Vo->ai H1 H->H D=Vn (.lst ((xs.filter p).map f))->Q (.ref D) H):nM (Itt K a) 1 fr (λ_=>nB 0) tf te Q σ H1:=by
 have mem:∀i,i<xs.length->xs.getD i .non∈xs:=λi h=>by
  rw[M9,Mv h];exact OR h
 refine sD (x:=λi=>xs.getD i .non) (λi=>p (xs.getD i .non)) (λi=>f (xs.getD i .non)) hn (λH s=>{xs,s.tup hx,Ms _}) (λi H h s=>{xs,xs[i],s.tup hx,Mv h})
  (λi H v H' h s y=>{y.1,?_}) (λb i H R h s k=>hf b _ H R (mem i h) s k) (λb i H R h hp s k=>he b _ H R (mem i h) hp s k) λD H hD s e=>fin D H hD s ?_
 ·have:=y.2 xs (s.tup hx);rw[M9,this];rfl
 rw[e,vy p f]
theorem zy{lo c:Int}{n:Nat}{g:TG}{tb:TS}{D:VD}{σ:St}{H:Hp}(Pv:Nat->St->Hp->Prop)(h0:Pv 0 σ H)
  (hs:∀i σ H,i<n->Pv i σ H->g (.int (lo+i*c)) σ H λσ2 H2=>tb { D with nx:=Pv (i+1),ct:=Pv (i+1),bk:=D.nx } σ2 H2) (hd:∀σ H,Pv n σ H->D.nx σ H) :
  ∃W:Nat->Nat->St->Hp->Prop,(∃m,W 0 m σ H)/\∀i m σ H,W i m σ H->
   ((CF lo c n).stop i H/\D.nx σ H)\/((CF lo c n).go i H/\∃N:St->Hp->Prop,(∀σ' H',N σ' H'->∃m',m'<m/\W (i+1) m' σ' H')/\∀x H',(CF lo c n).yld i H x H'->g x σ H' λσ2 H2=>tb { D with nx:=N,ct:=N,bk:=D.nx } σ2 H2):=by
 refine{λi m σ H=>m=n-i/\i<=n/\Pv i σ H,{n,by simp,MF _,h0},?_}
 rintro i m σ H ⟨rfl,hi,p⟩
 by_cases hlt:i<n
 ·refine .inr {hlt,Pv (i+1),λσ' H' p'=>{n-(i+1),by lia,rfl,hlt,p'},λx H' y=>?_};obtain⟨e,y⟩:=y;subst e y;exact hs i σ _ hlt p
 have e:i=n:=by lia
 subst e
 exact .inl {Ms _,hd σ H p}
theorem sC{J:It}{n:Nat}{x:Nat->V}{fr:List Nat}{te:CB->TE}{Q:VK}{σ:St}{H1:Hp}(R:Nat->V->Hp->Prop)(hn:n<sizeLine)
  (stop:∀H,ai H1 H->J.stop n H) (go:∀i H,i<n->ai H1 H->J.go i H) (yld:∀i H v H',i<n->ai H1 H->J.yld i H v H'->H'=H/\v=x i)
  (he:∀b i H (G:VK),i<n->ai H1 H->(∀y H',ai H H'->R i y H'->G y H')->te b (Vn (x i)::cFr fr σ) H G)
  (mono:∀i y H H',ai H H'->R i y H->R i y H') (st:∀i y H D ys zs,H D=Vn (.lst ys)->R i y H->R i y (upd H D (.lst zs)))
  (fin:∀D H ys,H1 D=Vo->ai H1 H->H D=Vn (.lst ys)->ys.length=n->(∀(i:Nat) y,ys[i]?=Vn y->R i y H)->Q (.ref D) H):nM J 1 fr (λ_=>nB 0) (λ_=>J4) te Q σ H1:=by
 refine⟨λb D hD=>?_⟩
 refine{λi m σ' H'=>m=n-i/\i<=n/\(∃v0,σ'=v0::cFr fr σ)/\ai H1 H'/\∃ys,H' D=Vn (.lst ys)/\ys.length=i/\∀(j:Nat) y,ys[j]?=Vn y->R j y H',{n,rfl,MF _,⟨Vo,rfl⟩,ai.upd hD _,[],ao,rfl,λj y h=>by cases h},?_}
 rintro i m σ' H' ⟨rfl,hi,⟨v0,rfl⟩,sm,ys,hl,hy,hR⟩
 by_cases hlt:i<n
 ·refine .inr {go i H' hlt sm,λσ2 H2=>(∃v0,σ2=v0::cFr fr σ)/\ai H1 H2/\∃ys,H2 D=Vn (.lst ys)/\ys.length=i+1/\∀(j:Nat) y,ys[j]?=Vn y->R j y H2,λσ2 H2 q=>{n-(i+1),by lia,rfl,hlt,q},λv H2 y=>?_};obtain⟨rfl,rfl⟩:=yld i H' v H2 hlt sm y;refine he b i _ _ hlt sm λz H4 s4 rz=>{ys,s4 _ _ hl,by lia,{_,rfl},?_,ys++[z],ao,by simp[hy],λj y' hj=>?_}
  ·intro c o q;by_cases hc:c=D
   ·rw[hc,hD]at q;cases q
   rw[aY hc];exact(sm.trans s4) c o q
  have hD4:=s4 _ _ hl;by_cases hji:j<ys.length
  ·rw[MW hji]at hj;exact st _ _ _ _ _ _ hD4 (mono _ _ _ _ s4 (hR j y' hj))
  by_cases e:j=ys.length
  ·subst e;rw[MU (Ms _)]at hj;simp at hj;subst hj;rw[hy];exact st _ _ _ _ _ _ hD4 rz
  rw[Nj (by simp;lia)]at hj;cases hj
 have e:i=n:=by lia
 subst e
 exact .inl ⟨stop H' sm,fin D H' ys hD sm hl hy hR⟩
section
variable{P:Program}{w:Pf}{K:Pa}{mg:Str->Option E9}{base:PH}
structure MFn(K:Pa)(C:O4)(m qual:Str)(st:PB)(ps:List Str):Prop where
 ex:∃f fd,Fun K m qual st f fd/\Vu K fd ps []/\VI K C m f
def yx(P:Program)(w:Pf)(K:Pa)(mg:Str->Option E9)(base:PH)(k:Nat)(C:O4)(m:Str)(ps:List Str)(sp:Sp):Prop:=
 ∃f fd,jY P w K mg base CX0 k f fd ps sp/\Vu K fd ps []/\VI K C m f
abbrev MFn.Hz{C:O4}{m qual:Str}{st:PB}{ps:List Str}(_:MFn K C m qual st ps)(P:Program)(w:Pf)(mg:Str->Option E9)(base:PH)(k:Nat)(sp:Sp):Prop:=yx P w K mg base k C m ps sp
theorem MFn.hs{C:O4}{m qual:Str}{st:PB}{N ps:List Str}{k:Nat}{sp:Sp}(F:MFn K C m qual st ps)(S:aD N ps (aq st))
  (hbody:∀(f:O4)(cdv:E9)(A:Pp)(outer:List Env)(s:O5)(H:Hp)(vs:List V)(Q:VK)(E:XK),dP k (A.deeper (Q6 qual (aq st) s.heap.objs.size f cdv))->(A.deeper (Q6 qual (aq st) s.heap.objs.size f cdv)).units+64<QQ->sp vs H Q E->
   ∃t,PSs (ub CX0 P w K mg base N qual (aq st) f cdv A outer s H E).nox (bh st) t/\t { nx:=λ_ H'=>Q .non H',rt:=Q } (Vx N vs) H) (len:∀vs H Q E,sp vs H Q E->vs.length=ps.length:=by intro _ _ _ _ h;cases h;subst_vars;rfl):yx P w K mg base (k+1) C m ps sp:=by
 obtain⟨f,fd,F,b,m⟩:=F.ex
 exact{f,fd,F.ok S len λcdv A outer s H vs Q E hr h=>hbody f cdv A outer s H vs Q E hr hr.units h,b,m}
theorem Has.mono{j k:Nat}{x:Str}{ps:List Str}{sp:Sp}(D:Has P w K mg base j x ps sp)(h:j<=k):Has P w K mg base k x ps sp:=by
 obtain⟨f,fd,F,b⟩:=D;exact⟨f,fd,F.mono h,b⟩
structure eT(K:Pa)(mg:Str->Option E9)(C:O4)(x:Str)(up:List O4):Prop where
 mg:mg x=Vn (.ref C)
 cl:Cls K C
 mro:∃cd,W.clsIn K C=Vn cd/\cd.mro=up.map Py++[Rr "object"]
 ty:W.typeIn K (.ref C)=Vn (.type "type")
 kc:Qm K (.ref C) "__class__"=Vn (Vn (.builtin "object.__class__"))
 cg:Rh K (.builtin "object.__class__") "__get__"=Vn (Vn (.builtin "getset_descriptor.__get__"))
 ct:Uz K (.builtin "object.__class__")=Vn true
 mks:Uy K C=true
 kp:Qs K (.ref C)=true
variable{C D:O4}{x y:Str}{up vp:List O4}
theorem eT.sub(O:eT K mg C x up)(b:E9):Vm K C b=Vn ((up.map Py++[Rr "object"]).contains b):=by
 obtain⟨cd,h1,h2⟩:=O.mro;unfold Vm;rw[h1];show(if cd.mro.isEmpty=true then Vo else Vn (cd.mro.contains b))=_;rw[h2,if_neg (by cases up<;>simp)]
theorem uh(up:List O4)(D:O4):(up.map Py++[Rr "object"]).contains (Py D)=decide (D∈up):=by
 induction up with
 |nil=>rfl
 |cons a r ih=>
  show((Py D==Py a)||(r.map Py++[Rr "object"]).contains (Py D))=_;rw[ih];by_cases h:D=a
  ·subst h;simp
  have:(Py D==Py a)=false:=by
   rw[NW];intro z;exact h (Value.ref.inj (beq_iff_eq.mp z))
  rw[this,OI];simp[h]
theorem eT.kit(O:eT K mg C x up)(U:eT K mg D y vp)(hs:C∈up):QJ K (.ref C) (.ref D)=Vn (decide (D∈up)):=by
 unfold QJ;split
 ·rename_i q;have:C=D:=Value.ref.inj (beq_iff_eq.mp q);rw[<-this,decide_eq_true hs]
 obtain⟨cd,h1,_⟩:=U.mro;unfold W.kitCls;dsimp only;rw[h1,U.ty];rw[if_pos (by rfl)];show Vm K C (.ref D)=_;rw[O.sub,uh]
theorem eT.K7(O:eT K mg C x up){H:Hp}{a dx:O4}{fs:List (Str×V)}(e:H a=Vn (.ins C dx fs)):om K H (.ref a) (.ref C):=
 .ins e O.cl O.kc O.cg O.ct ((O.sub _).trans (by simp))
end
section
variable{X:Cx}{k j:Nat}{C:O4}{x m:Str}{ps:List Str}{sp:Sp}{o e:Expr}{es:List Expr}{ta:TE}{t:TA}{p apos pos:Pos}{up:List O4}
theorem cK(O:eT X.K X.mg C x up)(D:yx X.prog X.w X.K X.mg X.base j C "__init__" ps sp)(hr:dP k X.A)(ha:PA X (e::es) t)(hj:j+1<=k:=by decide)(hg:Gl X x:=by rfl)(hdb:(x==("__debug__":Str))=false:=by decide)
  (he:Ph (e::es) X.env=(false,P7 e X.env)::Ph es X.env:=by rfl) (hpl:(Qi pos (Ph es X.env)).any (·.1)=false:=by rfl):PE X (.Call (.Name x p) (e::es) [] pos) (G0 C sp [] E0 t):=by
 obtain⟨f,fd,F,b,m⟩:=D
 exact Ga ⟨O.mks,m.at_,m.fn,O.kp⟩ F (hr.mono hj) hg O.mg b .nil uP ha hdb he hpl
noncomputable def HQ(M:O4->Sp->Prop)(m:Str)(ta:TE)(t:TA):TE:=λσ H Q=>ta σ H λx H1=>∃a C dx fs sp,x=.ref a/\H1 a=Vn (.ins C dx fs)/\fs.lookup m=Vo/\M C sp/\t σ H1 λvs H2=>sp (x::vs) H2 Q E0
theorem pZ{M:O4->Sp->Prop}{pl:Sem Bool}(he:PE X o ta)(hM:∀C sp,M C sp->Cls X.K C/\∃ps,yx X.prog X.w X.K X.mg X.base j C m ps sp)(hr:dP k X.A)(hj:j<=k:=by decide)
  (ht:P7 (.Call (.Attribute o m apos) [] [] pos) X.env=(do
   let ov<-P7 o X.env
   Ug apos.atName
   let (f,first)<-RK [ov] (Ux ov m pl)
   callWith pos f first (Qi pos (Ph [] X.env)) (QK pos (Qg [] X.env))):=by rfl) :
  PE X (.Call (.Attribute o m apos) [] [] pos) (HQ M m ta Fw):=by
 intro pins s σ H Q I h
 refine W.methodCall_KW (pl:=pl) (thn (he pins s σ H _ I h) λu s1 ⟨x,H1,I1,rx,a,C,dx,fs,sp,ex,ea,l,hm,q⟩=>?_) ht
 obtain⟨c,ps,f,fd,F,b,hm⟩:=hM C sp hm
 subst ex
 obtain rfl:u=Py a:=rx
 refine yG I1 ea c hm l ?_
 exact W.callWith_K0 (first:=[.ref a]) I1.kIn hm.kp (yX (us:=[.ref a]) (vs:=[.ref a]) (dvs:=[]) F (hr.mono hj) b .nil uP I1 (.cons rfl .nil) q)
structure OfC(K:Pa)(C:O4)(m:Str):Prop where
 ga:Rh K (.ref C) "__getattribute__"=Vn (Vn (.builtin "type.__getattribute__"))
 rd:W.readsIn K C (.type "type")=true
 fc:∃f,Qm K (.ref C) m=Vn (Vn (.ref f))/\W.findCls K (.ref C) (.type "type") m=Vn (.val (.ref f))
theorem cC{pl:Sem Bool}(O:eT X.K X.mg C x up)(W:OfC X.K C m)(D:yx X.prog X.w X.K X.mg X.base j C m ps sp)(hr:dP k X.A)(ha:PA X (e::es) t)(hj:j<=k:=by decide)(hg:Gl X x:=by rfl)(hdb:(x==("__debug__":Str))=false:=by decide)
  (hst:Ph (e::es) X.env=(false,P7 e X.env)::Ph es X.env:=by rfl) (hpl:(Qi pos (Ph es X.env)).any (·.1)=false:=by rfl)
  (ht:P7 (.Call (.Attribute (.Name x p) m apos) (e::es) [] pos) X.env=(do
   let ov<-P7 (.Name x p) X.env
   Ug apos.atName
   let (f,first)<-RK [ov] (Ux ov m pl)
   callWith pos f first (Qi pos (Ph (e::es) X.env)) (QK pos (Qg [] X.env))):=by rfl) :
  PE X (.Call (.Attribute (.Name x p) m apos) (e::es) [] pos) (AY sp [] E0 t):=by
 obtain⟨f,fd,F,b,hm⟩:=D
 intro pins s σ H Q I h
 refine PySem.W.methodCall_KW (pl:=pl) (oW I hg O.mg ?_ hdb) ht
 obtain⟨f',h1,h2⟩:=W.fc
 have ef:f=f':=by
  have:=hm.at_.symm.trans h1;cases this;rfl
 subst ef
 refine PySem.W.method_cls I.kIn W.ga (PySem.W.cls_value I.kIn W.rd h2 rfl ?_)
 refine PySem.W.callWith_K (h₀:=X.base) I.ok.mod.kin hm.kp (thn (ha pos pins _ σ H _ (I.tok _) h) λus s2 ⟨vs,H2,I2,r,q2⟩=>{I2.kIn,?_}) hst hpl
 exact yX (us:=us) (vs:=vs) F (hr.mono hj) b .nil uP I2 r q2
end
theorem HA{K:Pa}{C:O4}{m qual:Str}{st:PB}{ps:List Str}{f:O4}{oc:E9}{od an:Option O4}{osl:Array (Option E9)}{kV doc pm cdv ct:E9}
  (a:Qm K (.ref C) m=Vn (Vn (.ref f))) (fn:Vl K (.ref f)=true) (l:K.lookup f=Vn {oc,od,.func (Qo m qual (bF st) (bh st) (aq st) .none kV doc pm an cdv ct),osl}) (c:RA K cdv qual=true) (k:Qs K (.ref f)=true)
  (hb:∀(kV doc pm:E9)(an:Option O4)(cdv ct:E9)(us:List E9),us.length=ps.length->bindArgs (Qo m qual (bF st) (bh st) (aq st) .none kV doc pm an cdv ct) {us,[]}=pure (ps.zip us)):MFn K C m qual st ps:=
 {f,_,vB l c k,(vB l c k).binds hb,⟨a,fn,k⟩}
end L2
namespace L2
open PySem
end L2
namespace L2
open PySem PySem.Spec PyProof.Rows
section
variable{X:Cx}
noncomputable def uE:V->Bool
 | .flt _=>false
 | .byt _=>false
 |_=>true
theorem pV{x:V}{u v:E9}(hx:uE x=true)(ru:Vr x u)(rv:Vr x v)(A:Pp)(s:O5):SR A s u v true:=by
 cases x with
 |non=>cases ru;cases rv;exact .same _
 |bl b=>cases ru;cases rv;exact .same _
 |int i=>
  obtain⟨t,rfl⟩:=ru;obtain⟨t',rfl⟩:=rv;have:=T3 (A:=A) (s:=s) i t i t';rwa [beq_self_eq_true]at this
 |str y=>
  obtain⟨t,rfl⟩:=ru;obtain⟨t',rfl⟩:=rv;have:=T4 (A:=A) (s:=s) y t y t';rwa [beq_self_eq_true]at this
 |byt _=>cases hx
 |flt _=>cases hx
 |ref a=>cases ru;cases rv;exact .same _
 |ty n=>cases ru;cases rv;exact .same _
theorem Kv(hu:X.A.units+64<QQ):OpR X (Pz .Eq) (λx y H Q=>∃p q xs,x=.ref p/\y=.ref q/\SqL X.K H p xs/\SqL X.K H q xs/\xs.all uE=true/\Q (.bl true) H):=by
 intro pins s σ H x y v u Q I rx ry h;obtain⟨p,q,xs,rfl,rfl,hp,hq,hf,k⟩:=h;cases rx;cases ry;obtain⟨its,r1,⟨o,n,e1,c1,_,d1⟩,_⟩:=I.list hp;obtain⟨jts,r2,⟨o2,n2,e2,c2,_,d2⟩,_⟩:=I.list hq;have l1:=r1.length;have l2:=r2.length;refine SeqAt.eq_listAt (e:=λ_=>true) ⟨o,e1,c1,n,d1⟩ ⟨o2,e2,c2,n2,d2⟩ (by simp;lia) (by lia) (λj h1 h2=>?_) ?_
 ·simp at h1 h2;obtain⟨x,hx⟩:∃x,xs[j]?=Vn x:={xs[j]'(by lia),Mv (by lia)};obtain⟨u1,g1,w1⟩:=r1.get hx;obtain⟨u2,g2,w2⟩:=r2.get hx;have z1:its.toArray[j]'(by simpa using h1)=u1:=by
   have:=Mv h1;rw[g1]at this;simpa using (Pn this).symm
  have z2:jts.toArray[j]'(by simpa using h2)=u2:=by
   have:=Mv h2;rw[g2]at this;simpa using (Pn this).symm
  rw[z1,z2];exact pV (Od.mp hf x (ML hx)) w1 w2 _ _
 have:((Pu its.toArray.size).all λ_=>true)=true:=by simp
 rw[this];exact⟨.bl true,H,I,rfl,k⟩
noncomputable def LC(K:Pa):R2:=λx y H Q=>match x,y with
 | .ref p,.ref q=>(∃d e,kT K H (.ref p) d/\kT K H (.ref q) e/\P4 d=true/\P4 e=true/\Q (.bl (T6 d e)) H)\/(∃xs,SqL K H p xs/\SqL K H q xs/\xs.all uE=true/\Q (.bl true) H)
 |x,y=>BP x y=true/\Q (.bl (decide (x=y))) H
theorem Kc(hu:X.A.units+64<QQ):OpR X (Pz .Eq) (LC X.K):=((Ls hu).or (Kv hu)).imp λx y H Q q=>by
 by_cases hr:∃p q,x=V.ref p/\y=V.ref q
 ·obtain⟨p,q',rfl,rfl⟩:=hr;rcases q with q|⟨xs,h1,h2,h3,h4⟩
  ·exact .inl q
  exact .inr ⟨p,q',xs,rfl,rfl,h1,h2,h3,h4⟩
 refine .inl ?_;cases x<;>cases y<;>first|exact q|exact absurd {_,_,rfl,rfl} hr
end
section
variable{κ:Type}[DecidableEq κ]
noncomputable def cb(kvs:List (κ×V))(k:κ):Option V:=(kvs.find? λkv=>decide (kv.1=k)).map (·.2)
noncomputable def Vv(kvs:List (κ×V))(k:κ)(v:V):List (κ×V):=
 if(kvs.any λkv=>decide (kv.1=k))=true then kvs.map (λkv=>if kv.1=k then(kv.1,v)else kv)else kvs++[(k,v)]
theorem cQ{p:κ×V}{r:List (κ×V)}{k:κ}(e:p.1=k):cb (p::r) k=Vn p.2:=by simp[cb,Nq,e]
theorem cI{p:κ×V}{r:List (κ×V)}{k:κ}(e:¬ p.1=k):cb (p::r) k=cb r k:=by simp[cb,Nq,e]
theorem ir(k:κ):∀kvs:List (κ×V),(kvs.any λkv=>decide (kv.1=k))=(cb kvs k).isSome
 | []=>rfl
 |p::r=>by
  rw[Oy];by_cases e:p.1=k
  ·simp only[cQ e,decide_eq_true e,Bool.true_or,T5]
  rw[cI e,decide_eq_false e,OI];exact ir k r
theorem yy(k j:κ)(y:V):∀kvs:List (κ×V),cb (kvs.map λkv=>if kv.1=k then(kv.1,y)else kv) j=(cb kvs j).map λx=>if j=k then y else x
 | []=>rfl
 |p::r=>by
  have ih:=yy k j y r;rw[MJ];by_cases h:p.1=k
  ·rw[if_pos h];by_cases e:p.1=j
   ·rw[cQ (p:=(p.1,y)) e,cQ e,NC,if_pos (e.symm.trans h)]
   rw[cI (p:=(p.1,y)) e,cI e,ih]
  rw[if_neg h];by_cases e:p.1=j
  ·rw[cQ (p:=p) e,cQ e,NC,if_neg (λz=>h (e.trans z))]
  rw[cI (p:=p) e,cI e,ih]
theorem uw(k j:κ)(y:V):∀kvs:List (κ×V),cb kvs k=Vo->cb (kvs++[(k,y)]) j=if j=k then Vn y else cb kvs j
 | [],_=>by
  by_cases e:k=j
  ·rw[if_pos e.symm];exact cQ (p:=(k,y)) e
  rw[if_neg (λz=>e z.symm)];exact cI (p:=(k,y)) e
 |p::r,hn=>by
  rw[M7];have hk:¬ p.1=k:=λz=>by rw[cQ z]at hn;cases hn
  rw[cI hk]at hn;have ih:=uw k j y r hn;by_cases e:p.1=j
  ·rw[cQ e,cQ e,if_neg (λz=>hk (e.trans z))]
  rw[cI e,cI e,ih]
theorem yr(kvs:List (κ×V))(k j:κ)(y:V):cb (Vv kvs k y) j=if j=k then Vn y else cb kvs j:=by
 unfold Vv;by_cases a:(kvs.any λkv=>decide (kv.1=k))=true
 ·rw[if_pos a,yy];rw[ir]at a;by_cases e:j=k
  ·obtain⟨x,hx⟩:=NI.mp a;rw[if_pos e,e,hx,NC,if_pos rfl]
  rw[if_neg e];cases cb kvs j with
  |none=>rfl
  |some x=>rw[NC,if_neg e]
 rw[if_neg a];refine uw k j y kvs ?_;rw[ir]at a;cases q:cb kvs k with
 |none=>rfl
 |some x=>rw[q]at a;exact(a rfl).elim
theorem iY(kvs:List (κ×V))(k:κ)(v:V):(Vv kvs k v).length<=kvs.length+1:=by
 unfold Vv;split
 ·rw[Mq];lia
 rw[Mo,Mx,Ng];lia
theorem xr{kvs:List (κ×V)}{k:κ}(v:V)(h:cb kvs k=Vo):Vv kvs k v=kvs++[(k,v)]:=by
 unfold Vv;rw[ir,h];exact if_neg (by decide)
theorem nh.jX{o:Option V}{u:Option E9}(r:nh o u):o.isSome=u.isSome:=by
 cases o with
 |none=>cases u with
  |none=>rfl
  |some _=>exact(show False from r).elim
 |some _=>cases u with
  |none=>exact(show False from r).elim
  |some _=>rfl
theorem KV.val{kvs:List (κ×V)}{vs:List (κ×E9)}(r:KV kvs vs)(k:κ):nh (cb kvs k) (valueAt vs k):=by
 unfold KV at r;induction r with
 |nil=>exact NA
 |@cons p q ps qs h t ih=>
  obtain⟨h1,h2⟩:=h;by_cases e:p.1=k
  ·have e':q.1=k:=h1.symm.trans e;have b:valueAt (q::qs) k=Vn q.2:=by simp[valueAt,Nq,e']
   rw[cQ e,b];exact h2
  have e':¬ q.1=k:=λz=>e (h1.trans z);have b:valueAt (q::qs) k=valueAt qs k:=by simp[valueAt,Nq,e']
  rw[cI e,b];exact ih
theorem KV.any{kvs:List (κ×V)}{vs:List (κ×E9)}(r:KV kvs vs)(k:κ):(kvs.any λkv=>decide (kv.1=k))=vs.any λkv=>decide (kv.1=k):=by
 unfold KV at r;induction r with
 |nil=>rfl
 |cons h t ih=>rw[Oy,Oy,ih,h.1]
theorem KV.JG{kvs:List (κ×V)}{vs:List (κ×E9)}(r:KV kvs vs)(k:κ){y:V}{u:E9}(ry:Vr y u) :
  KV (kvs.map λkv=>if kv.1=k then(kv.1,y)else kv) (vs.map λkv=>if kv.1=k then(kv.1,u)else kv):=by
 unfold KV at r⊢
 induction r with
 |nil=>exact .nil
 |@cons p q ps qs h t ih=>
  rw[MJ,MJ]
  refine .cons ?_ ih
  obtain⟨h1,h2⟩:=h
  by_cases e:p.1=k
  ·rw[if_pos e,if_pos (h1.symm.trans e)];exact⟨h1,ry⟩
  rw[if_neg e,if_neg (λz=>e (h1.trans z))];exact⟨h1,h2⟩
theorem KV.put{kvs:List (κ×V)}{vs:List (κ×E9)}(r:KV kvs vs)(k:κ){y:V}{u:E9}(ry:Vr y u):KV (Vv kvs k y) (stored vs k u):=by
 unfold Vv stored;rw[r.any k];by_cases e:(vs.any λkv=>decide (kv.1=k))=true
 ·rw[if_pos e,if_pos e];exact r.JG k ry
 rw[if_neg e,if_neg e];exact Paired.snoc r ⟨rfl,ry⟩
theorem KV.keys{kvs:List (κ×V)}{vs:List (κ×E9)}(r:KV kvs vs):kvs.map (·.1)=vs.map (·.1):=by
 unfold KV at r;induction r with
 |nil=>rfl
 |cons h t ih=>rw[MJ,MJ,ih,h.1]
theorem KV.length{kvs:List (κ×V)}{vs:List (κ×E9)}(r:KV kvs vs):kvs.length=vs.length:=Pd r
end
theorem rR{P:Program}{w:Pf}{k:Key}{u:E9}(r:Vr (kV k) u):(bR P w).is k u=true:=by
 cases k with
 |inl i=>obtain⟨t,e⟩:=(show ∃t,u=Ti i t from r);subst e;exact yt P w i t
 |inr x=>obtain⟨t,e⟩:=(show ∃t,u=Tj x t from r);subst e;exact yD P w x t
theorem uJ{P:Program}{w:Pf}:∀{ks:List Key}{us:List E9},Vp (ks.map kV) us->ItemsAre (bR P w) ks us
 | [],_,r=>by rw[OY]at r;cases r;exact .nil
 |k::ks,_,r=>by
  rw[MJ]at r;cases r with
  |cons h t=>exact .cons (rR h) (uJ t)
abbrev KT(H:Hp):List (List Key×V)->List (List Key×O4×E9)->Prop:=Paired λp q=>p.1=q.1/\H q.2.1=Vn (.tup (p.1.map kV))/\Vr p.2 q.2.2
theorem KT.val{H:Hp}{kvs:List (List Key×V)}{xs:List (List Key×O4×E9)}(r:KT H kvs xs)(k:List Key):nh (cb kvs k) ((UM xs k).map (·.2)):=by
 induction r with
 |nil=>exact NA
 |@cons p q ps qs h t ih=>
  obtain⟨h1,_,h2⟩:=h;by_cases e:p.1=k
  ·have e':q.1=k:=h1.symm.trans e;have b:UM (q::qs) k=Vn q.2:=by simp[UM,Nq,e']
   rw[cQ e,b];exact h2
  have e':¬ q.1=k:=λz=>e (h1.trans z);have b:UM (q::qs) k=UM qs k:=by simp[UM,Nq,e']
  rw[cI e,b];exact ih
theorem KT.JG{H:Hp}{kvs:List (List Key×V)}{xs:List (List Key×O4×E9)}(r:KT H kvs xs)(k:List Key){y:V}{u:E9}(ry:Vr y u) :
  KT H (kvs.map λkv=>if kv.1=k then(kv.1,y)else kv) (xs.map (putAt k u)):=by
 induction r with
 |nil=>exact .nil
 |@cons p q ps qs h t ih=>
  rw[MJ,MJ]
  refine .cons ?_ ih
  obtain⟨h1,h2,h3⟩:=h
  unfold putAt
  by_cases e:p.1=k
  ·rw[if_pos e,if_pos (h1.symm.trans e)];exact⟨h1,h2,ry⟩
  rw[if_neg e,if_neg (λz=>e (h1.trans z))];exact⟨h1,h2,h3⟩
theorem KT.put{H:Hp}{kvs:List (List Key×V)}{xs:List (List Key×O4×E9)}(r:KT H kvs xs)(k:List Key){b:O4}{y:V}{u:E9}(hb:H b=Vn (.tup (k.map kV)))(ry:Vr y u) :
  KT H (Vv kvs k y) (storedH xs k b u):=by
 have e:(kvs.any λkv=>decide (kv.1=k))=(UM xs k).isSome:=by
  rw[ir,(r.val k).jX,OM]
 unfold Vv storedH
 rw[e]
 by_cases q:(UM xs k).isSome=true
 ·rw[if_pos q,if_pos q];exact r.JG k ry
 rw[if_neg q,if_neg q];exact Paired.snoc r ⟨rfl,hb,ry⟩
theorem KT.keeps{H H':Hp}{kvs:List (List Key×V)}{xs:List (List Key×O4×E9)}(r:KT H kvs xs)(ht:∀b ys,H b=Vn (.tup ys)->H' b=Vn (.tup ys)):KT H' kvs xs:=
 Paired.sY r λ_ _ z=>{z.1,ht _ _ z.2.1,z.2.2}
section
variable{P:Program}{w:Pf}{H:Hp}{h:PH}{a:O4}
theorem Ho{u:HO}(ok:HOk P w H h)(e:Rd H a u):cR P w H h a u:=e.ok ok
theorem nu{kvs:List (Key×V)}(ok:HOk P w H h)(e:Rd H a (.dK kvs)):kvs.length<=sizeLine/\(a==Qq)=false/\∃vs,KV kvs vs/\h.DictOf (bR P w) a vs:=
 show cR P w H h a (.dK kvs)from Ho ok e
theorem DV{kvs:List (Key×V)}(ok:HOk P w H h)(e:H a=Vn (.dK kvs)):kvs.length<=sizeLine/\(a==Qq)=false/\∃vs,KV kvs vs/\h.DictOf (bR P w) a vs:=nu ok (.inl e)
theorem sM{ks:List Key}(ok:HOk P w H h)(e:H a=Vn (.tup (ks.map kV))):(Tn (bR P w)).is h ks a:=by
 obtain⟨_,its,r,o,h1,h2,n,h3⟩:=(show cR P w H h a (.tup (ks.map kV))from ok a _ e);exact⟨o,its.toArray,n,h1,h2,h3,by simpa using uJ r⟩
theorem yu{kvs:List (List Key×V)}(ok:HOk P w H h)(e:Rd H a (.dT kvs)):kvs.length<=sizeLine/\(a==Qq)=false/\
  ∃xs,KT H kvs xs/\h.DictOfH (Tn (bR P w)) a xs:=by
 obtain⟨z,y,xs,r,o,es,ep,h1,h2,h3,h4,h5⟩:=(show cR P w H h a (.dT kvs)from Ho ok e)
 refine{z,y,xs,r,o,es,ep,h1,h2,h3,h4,λx hx=>?_,h5}
 have all:∀{l:List (List Key×V)}{m:List (List Key×O4×E9)},KT H l m->∀x∈m,(Tn (bR P w)).is h x.1 x.2.1:=by
  intro l m q;induction q with
  |nil=>intro x hx;exact nomatch hx
  |@cons p q ps qs hq t ih=>
   intro x hx;rcases Mw.mp hx with e|hx
   ·subst e;exact sM ok (by rw[<-hq.1];exact hq.2.1)
   exact ih x hx
 exact all r x hx
theorem JU{kvs:List (List Key×V)}(ok:HOk P w H h)(e:H a=Vn (.dT kvs)):kvs.length<=sizeLine/\(a==Qq)=false/\
  ∃xs,KT H kvs xs/\h.DictOfH (Tn (bR P w)) a xs:=yu ok (.inl e)
end
def nj(H:Hp)(a:O4)(y:V)(r:Option V):Prop:=
 (∃kvs k,Rd H a (.dK kvs)/\y=kV k/\r=cb kvs k)\/∃kvs k b,Rd H a (.dT kvs)/\y=.ref b/\H b=Vn (.tup (k.map kV))/\r=cb kvs k
def oX(H:Hp)(a:O4)(y v:V)(H':Hp):Prop:=
 (∃kvs k,H a=Vn (.dK kvs)/\y=kV k/\kvs.length<sizeLine/\H'=upd H a (.dK (Vv kvs k v)))\/
 ∃kvs k b,H a=Vn (.dT kvs)/\y=.ref b/\H b=Vn (.tup (k.map kV))/\kvs.length<sizeLine/\H'=upd H a (.dT (Vv kvs k v))
theorem nj.k{H:Hp}{a:O4}{kvs:List (Key×V)}{k:Key}(e:H a=Vn (.dK kvs)):nj H a (kV k) (cb kvs k):=.inl ⟨kvs,k,.inl e,rfl,rfl⟩
theorem oX.k{H:Hp}{a:O4}{kvs:List (Key×V)}{k:Key}{v:V}(e:H a=Vn (.dK kvs))(hl:kvs.length<sizeLine):oX H a (kV k) v (upd H a (.dK (Vv kvs k v))):=.inl ⟨kvs,k,e,rfl,hl,rfl⟩
section
variable{X:Cx}{pins:List (O4×Obj)}{σ:St}{H:Hp}{s:O5}{a:O4}{y v:V}{u r:E9}{o:Option V}{A:Pp}{E:E9->O5->Prop}
theorem Inv.big(I:Inv X pins σ H s):Qq<s.heap.objs.size:=by
 have h:Pw<s.heap.objs.size:=(I.mod.glob.keeps I.bk).lt;exact OZ (by decide) h
theorem BC{Q:E9->O5->Prop}(hu:A.units+1<QQ)(I:Inv X pins σ H s)(g:nj H a y (Vn v))(ry:Vr y u)(h:∀w' s',Inv X pins σ H s'->Vr v w'->Q w' s') :
  wpAny (Pj X.prog X.w) A (Sh (.ref a) u) Q E s:=by
 rcases g with⟨kvs,k,e,ey,l⟩|⟨kvs,k,b,e,ey,eb,l⟩
 ·subst ey;obtain⟨z,hd,vs,rel,dd⟩:=nu I.hok e;obtain⟨w',hw,rw'⟩:=nh.some_of (v:=v) (o:=valueAt vs k) (by rw[l];exact rel.val k);exact wpAny_getItem_of (rR ry) dd.mapOf hw (h w' _ (I.tok _) rw')
 subst ey
 cases (show u=Py b from ry)
 obtain⟨z,hd,xs,rel,dd⟩:=yu I.hok e
 obtain⟨w',hw,rw'⟩:=nh.some_of (v:=v) (o:=(UM xs k).map (·.2)) (by rw[l];exact rel.val k)
 obtain⟨p,hp,hp2⟩:=N4.mp hw
 refine wpAny_getItem_heap (Rc hu) (sM I.hok eb) dd hp ?_
 rw[hp2]
 exact h w' _ (I.tok _) rw'
theorem LH{Q:E9->O5->Prop}(hu:A.units+1<QQ)(I:Inv X pins σ H s)(g:nj H a y o)(ry:Vr y u)(h:∀s',Inv X pins σ H s'->Q (.bool o.isSome) s') :
  wpAny (Pj X.prog X.w) A (Pz .In u (.ref a)) Q E s:=by
 rcases g with⟨kvs,k,e,ey,l⟩|⟨kvs,k,b,e,ey,eb,l⟩
 ·subst ey;obtain⟨z,hd,vs,rel,dd⟩:=nu I.hok e;refine wpAny_in_of (rR ry) hd dd.mapOf ?_;rw[<-(rel.val k).jX,<-l];exact h _ (I.tok _)
 subst ey
 cases (show u=Py b from ry)
 obtain⟨z,hd,xs,rel,dd⟩:=yu I.hok e
 refine wpAny_in_heap (Rc hu) (sM I.hok eb) hd dd ?_
 have q:=(rel.val k).jX
 rw[OM]at q
 rw[<-q,<-l]
 exact h _ (I.tok _)
theorem FR{Q:E9->O5->Prop}(hu:A.units+1<QQ)(I:Inv X pins σ H s)(g:nj H a y o)(ry:Vr y u)(h:∀s',Inv X pins σ H s'->Q (.bool (!o.isSome)) s') :
  wpAny (Pj X.prog X.w) A (Pz .NotIn u (.ref a)) Q E s:=by
 rcases g with⟨kvs,k,e,ey,l⟩|⟨kvs,k,b,e,ey,eb,l⟩
 ·subst ey;obtain⟨z,hd,vs,rel,dd⟩:=nu I.hok e;refine wpAny_notIn_of (rR ry) hd dd.mapOf ?_;rw[<-(rel.val k).jX,<-l];exact h _ (I.tok _)
 subst ey
 cases (show u=Py b from ry)
 obtain⟨z,hd,xs,rel,dd⟩:=yu I.hok e
 refine wpAny_notIn_heap (Rc hu) (sM I.hok eb) hd dd ?_
 have q:=(rel.val k).jX
 rw[OM]at q
 rw[<-q,<-l]
 exact h _ (I.tok _)
theorem rf{h':PH}{t':Nat}{ob:HO}(I:Inv X pins σ H s)(mu:Mut (H a))(hs:RJ a s.heap h')(he:∃q,h'.get? a=Vn q)(new:cR X.prog X.w (upd H a ob) h' a ob) :
  Inv X pins σ (upd H a ob) { s with heap:=h',toks:=t' }:=
 I.write (x:=a) (e:=a) mu (.inl rfl) (λb q hb z=>(hs.2 b hb).trans z) he new
theorem yJ{P:Program}{w:Pf}{H':Hp}{h':PH}{kvs:List (Key×V)}{vs:List (Key×E9)}(z:kvs.length<=sizeLine)(hd:(a==Qq)=false)(rel:KV kvs vs)(dd:h'.DictOf (bR P w) a vs) :
  cR P w H' h' a (.dK kvs):=⟨z,hd,vs,rel,dd⟩
theorem BG{H':Hp}{Q:Unit->O5->Prop}(hu:A.units+1<QQ)(I:Inv X pins σ H s)(g:oX H a y v H')(ry:Vr y u)(rv:Vr v r)(h:∀s',Inv X pins σ H' s'->Q () s') :
  wpAny (Pj X.prog X.w) A (setItem (.ref a) u r) Q E s:=by
 rcases g with⟨kvs,k,e,ey,l,eH⟩|⟨kvs,k,b,e,ey,eb,l,eH⟩
 ·subst ey eH;obtain⟨z,hd,vs,rel,dd⟩:=DV I.hok e;have hz:vs.length<=sizeLine:=by rw[<-rel.length];exact z
  have hl:(Vv kvs k v).length<=sizeLine:=by have:=iY kvs k v;lia
  refine wpAny_setItem_pairs (hsz:=hz) (rR ry) dd λh' dd' hs=>h _ ?_;have he:∃q,h'.get? a=Vn q:=let ⟨q,_,_,hq,_⟩:=dd';⟨q,hq⟩
  exact rf I (by rw[e];exact NA) hs he (yJ hl hd (rel.put k rv) dd')
 subst ey eH
 cases (show u=Py b from ry)
 obtain⟨z,hd,xs,rel,dd⟩:=JU I.hok e
 have hz:xs.length<=sizeLine:=by rw[<-Pd rel];exact z
 have hl:(Vv kvs k v).length<=sizeLine:=by have:=iY kvs k v;lia
 refine wpAny_setItem_heap (hsz:=hz) (Rc hu) (sM I.hok eb) dd λh' dd' hs=>h _ ?_
 obtain⟨q,es,ep,hq,h2,h3,h4,_,h5⟩:=dd'
 refine rf I (by rw[e];exact NA) hs ⟨q,hq⟩ {hl,hd,_,(rel.put k eb rv).keeps λc ys ec=>?_,q,es,ep,hq,h2,h3,h4,h5}
 rw[aY (Ku ec e (λz=>nomatch z))]
 exact ec
end
section
variable{X:Cx}{pins:List (O4×Obj)}{σ:St}{H:Hp}{s:O5}{a:O4}{kvs:List (Key×V)}{k:Key}{u:E9}{A:Pp}{E:E9->O5->Prop}
theorem JP{Q:E9->O5->Prop}(I:Inv X pins σ H s)(e:Rd H a (.dK kvs))(h:∀t s',Inv X pins σ H s'->Q (.int kvs.length t) s'):wpAny (Pj X.prog X.w) A (call (.builtin "len") [.ref a]) Q E s:=by
 obtain⟨z,hd,vs,rel,dd⟩:=nu I.hok e;refine call_len_dict hd dd (by rw[<-rel.length];rw[QV]at z;lia) ?_;rw[<-rel.length];exact h _ _ (I.tok _)
end
theorem xQ{X:Cx}{pins:List (O4×Obj)}{σ:St}{H:Hp}{s:O5}{a:O4}{y:V}{o:Option V}(I:Inv X pins σ H s)(g:nj H a y o):s.TypeIs (.ref a) "dict":=by
 rcases g with⟨kvs,k,e,_,_⟩|⟨kvs,k,b,e,_,_,_⟩
 ·obtain⟨_,_,vs,_,dd⟩:=nu I.hok e;exact dd.typeIs
 obtain⟨_,_,xs,_,dd⟩:=yu I.hok e;exact dd.typeIs
section
variable{X:Cx}{o i e value:Expr}{pos pos' tpos:Pos}{td ty tv:TE}
end
theorem rN{P:Program}{w:Pf}{H:Hp}(h:PH)(hb:Qq<h.objs.size):cR P w H (h.push { cls:=.type "dict",data:=.dict #[] }) h.objs.size (.dK []):=
 {MF _,beq_eq_false_iff_ne.mpr (MR (Na hb)),[],.nil,UQ h}
noncomputable def HG:TE:=λ_ H Q=>∀p,H p=Vo->Q (.ref p) (upd H p (.dK []))
section
variable{X:Cx}{pos:Pos}
theorem xH:PE X (.Dict [] [] pos) HG:=λpins s σ H Q I h=>
 wpAny_Dict_empty {.ref s.heap.objs.size,_,I.laid (a:=s.heap.objs.size) (o:=.dK []) (t':=s.toks) (λ_ _ q=>O9 _ q) (Ms _) (rN s.heap I.big),rfl,h _ (I.hok.fresh (Ms _))}
end
noncomputable def yQ:List (TE×TE)->St->Hp->(List (V×V)->Hp->Prop)->Prop
 | [],_,H,Q=>Q [] H
 | (tk,tv)::r,σ,H,Q=>tk σ H λx H1=>tv σ H1 λy H2=>yQ r σ H2 λps H3=>Q ((x,y)::ps) H3
abbrev VV:List (V×V)->List (E9×E9)->Prop:=Paired λp q=>Vr p.1 q.1/\Vr p.2 q.2
def PPs(X:Cx)(pos:Pos)(keys:List (Option Expr))(values:List Expr)(trs:List (TE×TE)):Prop:=
 ∀(pins:List (O4×Obj))(s:O5)(σ:St)(H:Hp)(Q:List (V×V)->Hp->Prop),Inv X pins σ H s->yQ trs σ H Q->
  wpAny (Pj X.prog X.w) X.A (evalPairs (pairTrees keys values X.env pos)) (λvs s'=>∃ps H',Inv X pins σ H' s'/\VV ps vs/\Q ps H') X.xe s
theorem wy{X:Cx}{pos:Pos}:PPs X pos [] [] []:=λpins s σ H Q I h=>pairTrees_nil_walk {[],H,I,.nil,h}
theorem fb{X:Cx}{pos:Pos}{k v:Expr}{ks:List (Option Expr)}{vs:List Expr}{tk tv:TE}{trs:List (TE×TE)}(hk:PE X k tk)(hv:PE X v tv)(hr:PPs X pos ks vs trs) :
  PPs X pos (Vn k::ks) (v::vs) ((tk,tv)::trs):=λpins s σ H Q I h=>
 pairTrees_cons_walk (thn (hk pins s σ H _ I h) λu s1 ⟨x,H1,I1,rx,q1⟩=>thn (hv pins s1 σ H1 _ I1 q1) λw2 s2 ⟨y,H2,I2,ry,q2⟩=>
  thn (hr pins s2 σ H2 _ I2 q2) λws s3 ⟨ps,H3,I3,rel,q3⟩=>{(x,y)::ps,H3,I3,.cons ⟨rx,ry⟩ rel,q3})
noncomputable def bu(kvs more:List (Key×V)):List (Key×V):=more.foldl (λacc kv=>Vv acc kv.1 kv.2) kvs
theorem KV.merge:∀{more:List (Key×V)}{rs:List (Key×E9)}{kvs:List (Key×V)}{vs:List (Key×E9)},KV more rs->KV kvs vs->KV (bu kvs more) (merged vs rs):=by
 intro more rs kvs vs r;unfold KV at r;induction r generalizing kvs vs with
 |nil=>intro q;exact q
 |@cons p q ps qs h t ih=>
  intro r0;have e:KV (Vv kvs p.1 p.2) (stored vs q.1 q.2):=by
   have:=r0.put p.1 h.2;rw[<-h.1];exact this
  exact ih e
theorem jH:∀(more kvs:List (Key×V)),(bu kvs more).length<=kvs.length+more.length
 | [],kvs=>by show kvs.length<=kvs.length+0;lia
 |p::r,kvs=>by
  have h1:=jH r (Vv kvs p.1 p.2);have h2:=iY kvs p.1 p.2;show(bu (Vv kvs p.1 p.2) r).length<=_;rw[Mx];lia
theorem tQ{P:Program}{w:Pf}:∀{kvs:List (Key×V)}{ws:List (E9×E9)},VV (kvs.map λkv=>(kV kv.1,kv.2)) ws->∃rs,Carries (bR P w) ws rs/\KV kvs rs
 | [],_,r=>by rw[OY]at r;cases r;exact{[],NA,.nil}
 |p::kvs,_,r=>by
  rw[MJ]at r;cases r with
  |@cons a b as bs h t=>
   obtain⟨rs,c,q⟩:=tQ (P:=P) (w:=w) t;obtain⟨b1,b2⟩:=b;exact{(p.1,b2)::rs,⟨rR h.1,rfl,c⟩,.cons ⟨rfl,h.2⟩ q}
noncomputable def KJ(trs:List (TE×TE)):TE:=λσ H Q=>∀p,H p=Vo->yQ trs σ (upd H p (.dK [])) λps H2=>H2 p=Vn (.dK [])/\∃kvs:List (Key×V),ps=kvs.map (λkv=>(kV kv.1,kv.2))/\kvs.length<=15/\Q (.ref p) (upd H2 p (.dK (bu [] kvs)))
theorem wx{X:Cx}{pos:Pos}{keys:List (Option Expr)}{values:List Expr}{trs:List (TE×TE)}(h:PPs X pos keys values trs)(hall:keys.all (·.isSome)=true)(hl:keys.length=values.length)(h0:keys≠[])
  (h15:keys.length<=15):PE X (.Dict keys values pos) (KJ trs):=by
 intro pins s σ H Q I q
 have hn:=I.hok.fresh (Ms s.heap.objs.size)
 have I1:=I.laid (a:=s.heap.objs.size) (o:=.dK []) (h':=s.heap.push { cls:=.type "dict",data:=.dict #[] }) (t':=s.toks) (λ_ _ q=>O9 _ q) (Ms _) (rN s.heap I.big)
 refine wpAny_Dict_walk (knd:=bR X.prog X.w) hall hl h0 h15 (thn (h pins _ σ _ _ I1 (q _ hn)) λws s2 z9=>?_);obtain⟨ps,H2,I2,rel,e,kvs,ep,lk,q2⟩:=z9
 subst ep
 obtain⟨rs,c,rk⟩:=tQ (P:=X.prog) (w:=X.w) rel
 obtain⟨z,hd,vs0,r0,dd⟩:=DV I2.hok e
 cases r0
 refine{rs,c,dd,λh' dd' hs=>{.ref s.heap.objs.size,_,?_,rfl,q2}}
 have hz:(bu [] kvs).length<=sizeLine:=by
  have h1:=jH kvs [];rw[Ng]at h1;rw[QV];lia
 have he:∃q,h'.get? s.heap.objs.size=Vn q:=let ⟨q,_,_,hq,_⟩:=dd';⟨q,hq⟩
 exact rf I2 (by rw[e];exact NA) hs he (yJ hz hd (rk.merge .nil) dd')
structure M1(X:Cx)(o:Expr)(m:Str)(apos:Pos)(e:Expr)(cpos:Pos):Prop where
 base:Qn o m X.env (P7 o X.env)=P7 o X.env
 few:((Qi cpos (Ph [e] X.env)).all (λx=>!x.1)&&(QK cpos (Qg [] X.env)).all (λx=>x.1.isSome)
  &&decide (([e]:List Expr).length+([]:List Q4).length+(if([]:List Q4).isEmpty then 0 else 1)<30))=true
 line:(apos.endLine==cpos.line)=true
 trees:Qi cpos (Ph [e] X.env)=[(false,P7 e X.env)]
structure M2(X:Cx)(o:Expr)(m:Str)(apos:Pos)(e f:Expr)(cpos:Pos):Prop where
 base:Qn o m X.env (P7 o X.env)=P7 o X.env
 few:((Qi cpos (Ph [e,f] X.env)).all (λx=>!x.1)&&(QK cpos (Qg [] X.env)).all (λx=>x.1.isSome)
  &&decide (([e,f]:List Expr).length+([]:List Q4).length+(if([]:List Q4).isEmpty then 0 else 1)<30))=true
 line:(apos.endLine==cpos.line)=true
 trees:Qi cpos (Ph [e,f] X.env)=[(false,P7 e X.env),(false,P7 f X.env)]
section
variable{X:Cx}{pins:List (O4×Obj)}{σ:St}{H:Hp}{s:O5}{a:O4}{y d:V}{u r:E9}{o:Option V}{A:Pp}{E:E9->O5->Prop}
end
section
variable{X:Cx}{o e f:Expr}{apos cpos:Pos}{td ty tx:TE}
end
section
variable{X:Cx}{pins:List (O4×Obj)}{σ:St}{H:Hp}{s:O5}{a:O4}{kvs:List (Key×V)}{A:Pp}{E:E9->O5->Prop}
end
section
variable{X:Cx}{pins:List (O4×Obj)}{σ:St}{H:Hp}{s:O5}{a:O4}{y:V}{u:E9}{A:Pp}{E:E9->O5->Prop}
end
section
variable{X:Cx}
theorem xF(hu:X.A.units+64<QQ):IxR X (λx y H Q=>∃a v,x=.ref a/\nj H a y (Vn v)/\Q v H):=by
 intro value slice pins s σ H x y v u Q I rx ry h hs;obtain⟨a,z,rfl,g,q⟩:=h;cases rx;have hT:=xQ I g;unfold TK;refine O6 ?_;rw[getitemInPython_of_ne hT.not_modules];refine O6 (wpAny_specialOf hT PySem.F.slot_dict_getitem.lookup ?_);have h₂:wpAny (Pj X.prog X.w) X.A (Sh (.ref a) u) (EP X pins σ Q) X.xe s:=BC (by lia) I g ry λw' s3 I3 rw'=>⟨z,H,I3,rw',q⟩;have fin:wpAny (Pj X.prog X.w) X.A (subscripted slice false (.ref a) u) (λr s₃=>wpAny (Pj X.prog X.w) X.A (letTemporaryGo value (.ref a) r>>=λ_=>pure r) (EP X pins σ Q) X.xe s₃) X.xe s:=by
  rw[hs];exact wpAny_operating (Qy h₂ (λr s₃ h₃=>O6 (wpAny_letTemporaryGo (Pc h₃))) λ_ _ x=>x)
 first
  |exact Pc (O6 fin)
  |exact O6 (Pc (O6 fin))
  |exact O6 fin
inductive dgI(p:O4)(y:V)(H:Hp)(Q:VK):Prop
 |mk(v:V)(h:nj H p y (Vn v))(q:Q v H):dgI p y H Q
noncomputable def J0(K:Pa):R2:=λx y H Q=>match x,y with
 | .ref p,.int i=>ixS K p i H Q\/dgI p (.int i) H Q
 | .ref p,.str k=>dgI p (.str k) H Q
 | .str z,.int i=>∃c,z.length<=sizeLine/\atI z.cps.toList i=Vn c/\Q (.str ⟨#[c]⟩) H
 |_,_=>False
theorem Hs(hu:X.A.units+64<QQ):IxR X (J0 X.K):=by
 intro value slice pins s σ H x y v u Q I rx ry h hs;cases x with
 |ref p=>
  cases y with
  |int i=>
   rcases h with h|⟨w,g,q⟩
   ·exact ET value slice pins s σ H _ _ v u Q I rx ry h hs
   exact xF hu value slice pins s σ H _ _ v u Q I rx ry ⟨p,w,rfl,g,q⟩ hs
  |str k=>
   obtain⟨w,g,q⟩:=h;exact xF hu value slice pins s σ H _ _ v u Q I rx ry ⟨p,w,rfl,g,q⟩ hs
  |_=>exact(show False from h).elim
 |str z=>
  cases y with
  |int i=>exact ET value slice pins s σ H _ _ v u Q I rx ry h hs
  |_=>exact(show False from h).elim
 |_=>cases y<;>exact(show False from h).elim
theorem xT(hu:X.A.units+64<QQ):EE X (λo i v H Q=>∃a H',o=.ref a/\oX H a i v H'/\Q H'):=by
 intro pins s σ H o i v ov iv u Q I ro ri rv h;obtain⟨a,H',rfl,g,q⟩:=h;cases ro;exact BG (by lia) I g ri rv λs4 I4=>⟨H',I4,q⟩
inductive dpI(p:O4)(y v:V)(H:Hp)(Q:Hp->Prop):Prop
 |mk(H':Hp)(h:oX H p y v H')(q:Q H'):dpI p y v H Q
inductive stL(p:O4)(k:Int)(v:V)(H:Hp)(Q:Hp->Prop):Prop
 |mk(xs:List V)(j:Nat)(h0:H p=Vn (.lst xs))(h1:ixN xs.length k=Vn j)(q:Q (upd H p (.lst (xs.set j v)))):stL p k v H Q
noncomputable def JW:Gq:=λo i v H Q=>match o,i with
 | .ref p,.int k=>stL p k v H Q\/dpI p (.int k) v H Q
 | .ref p,.str k=>dpI p (.str k) v H Q
 |_,_=>False
theorem iR(hu:X.A.units+64<QQ)(hl:EE X GO):EE X JW:=by
 intro pins s σ H o i v ov iv u Q I ro ri rv h;cases o with
 |ref p=>
  cases i with
  |int k=>
   rcases h with⟨xs,j,h1,h2,q⟩|⟨H',g,q⟩
   ·exact hl pins s σ H _ _ v ov iv u Q I ro ri rv ⟨p,xs,k,j,rfl,rfl,h1,h2,q⟩
   exact xT hu pins s σ H _ _ v ov iv u Q I ro ri rv ⟨p,H',rfl,g,q⟩
  |str k=>
   obtain⟨H',g,q⟩:=h;exact xT hu pins s σ H _ _ v ov iv u Q I ro ri rv ⟨p,H',rfl,g,q⟩
  |_=>exact(show False from h).elim
 |_=>cases i<;>exact(show False from h).elim
theorem KG(hu:X.A.units+64<QQ):OpR X (Pz .In) (λx y H Q=>∃a o,y=.ref a/\nj H a x o/\Q (.bl o.isSome) H):=by
 intro pins s σ H x y v u Q I rx ry h;obtain⟨a,o,rfl,g,q⟩:=h;cases ry;exact LH (by lia) I g rx λs3 I3=>⟨.bl o.isSome,H,I3,rfl,q⟩
theorem Dr(hu:X.A.units+64<QQ):OpR X (Pz .NotIn) (λx y H Q=>∃a o,y=.ref a/\nj H a x o/\Q (.bl (!o.isSome)) H):=by
 intro pins s σ H x y v u Q I rx ry h;obtain⟨a,o,rfl,g,q⟩:=h;cases ry;exact FR (by lia) I g rx λs3 I3=>{.bl (!o.isSome),H,I3,rfl,q}
theorem AA(hu:X.A.units+64<QQ):OpR X (Pz .In) (λx y H Q=>fIn X.K false x y H Q\/∃a o,y=.ref a/\nj H a x o/\Q (.bl o.isSome) H):=Lp.or (KG hu)
theorem iG(hu:X.A.units+64<QQ):OpR X (Pz .NotIn) (λx y H Q=>fIn X.K true x y H Q\/∃a o,y=.ref a/\nj H a x o/\Q (.bl (!o.isSome)) H):=FK.or (Dr hu)
theorem IQ:dW X (.builtin "len") (λxs H Q=>∃a kvs,xs=[.ref a]/\Rd H a (.dK kvs)/\Q (.int (kvs.length:Nat)) H):=by
 intro pins s σ H xs us Q I r h;obtain⟨a,kvs,rfl,e,q⟩:=h;obtain⟨u,rfl,rfl⟩:=VC r;exact JP I e λt s' I'=>{.int _,H,I',{_,rfl},q}
end
end L2
namespace PySem
open Sem (wp)
section
variable{prog:Program}{w:Pf}{A:Pp}{E:E9->O5->Prop}{s:O5}
theorem vO:typeLookup (.type "list") "keys"=pure Vo:=am_miss_of_fast (by kernel_rfl)
theorem wQ{a:O4}{o:Obj}{xs:Array E9}{k:Nat}{Q:Option E9->O5->Prop}(hx:s.heap.get? a=Vn o)(hc:o.cls=.type "list")(hdat:o.data=.seq xs k)(hd:o.dict=Vo)(hA:A.handled=Vo)
  (h:∀h' tk,(∀b ob,s.heap.get? b=Vn ob->h'.get? b=Vn ob)->Q Vo { s with heap:=h',toks:=tk }):wpAny (Pj prog w) A (getAttr? (.ref a) "keys") Q E s:=by
 obtain⟨c,dct,dat,sl⟩:=o
 simp only at hc hdat hd
 subst hc hdat hd
 obtain⟨hp,g,d,tk,os⟩:=s
 have hT:∀tk',(⟨hp,g,d,tk',os⟩:O5).TypeIs (.ref a) "list":=λ_=>{_,hx,rfl}
 have f1:=sub_AttributeError
 have f3:=F.slot_list_getattribute.lookup
 have f4:=F.slot_list_getattribute.bind (.ref a)
 have f5:=am_list_getattr_none
 have hmiss:=vO
 have hname:(["__module__","__name__","__qualname__","__doc__","__annotations__"]:List Str).contains "keys"=false:=by decide+kernel
 unfold getAttr? getAttrBy? getAttrBy
 repeat (any_goals (first|assumption|exact hT _|((with_reducible show wpAny _ _ (call (Value.builtin "list.__getattribute__") _ _) _ _ _);refine Rw F.slot_list_getattribute (hT _) am_entry_list_getattribute (F.args_list_getattribute_2 _ _) (meets_getattribute_miss_list a xs k sl "keys" _ hmiss hname (by decide)) ⟨hx,hA,λh' tk' e hx'=>?_⟩)|wp_step))
 obtain⟨t',u',he⟩:=hx'.there
 have hTe:(⟨h',g,d,tk',os⟩:O5).TypeIs (.ref e) "AttributeError":={_,he,rfl}
 show wpAny _ _ (T7 _ _ _ _ _ _ _) _ _ _
 unfold T7
 repeat (any_goals (first|assumption|wp_step))
 exact h _ _ hx'.keeps
end
end PySem
namespace L2
open PySem PySem.Spec PyProof.Rows
theorem lB:entryFor table "dict.update.loop"=Vn SF.«dict.update.loop»:=entryFor_of_tree (by kernel_rfl)
theorem fo:plainId "dict.update.loop"=true:=by decide+kernel
section
variable{X:Cx}{pins:List (O4×Obj)}{σ:St}{H0:Hp}{A:Pp}
theorem pair_items{prog:Program}{w:Pf}{E:E9->O5->Prop}{s:O5}{t:O4}{its:Array E9}{Q:List E9->O5->Prop}(h:s.heap.IsTuple t its)(q:Q its.toList s):wpAny (Pj prog w) A (SU (.ref t)) Q E s:=by
 obtain⟨o,ho,hc,n,hd⟩:=h;unfold SU;refine O6 (SO ⟨o,ho,hc⟩ ?_);rw[if_pos (by decide)];refine O6 ?_;obtain⟨c,dct,dat,sl⟩:=o;simp only at hc hd;subst hc hd;obtain⟨hp,g,d,tk,os⟩:=s;repeat (any_goals (first|assumption|wp_step))
theorem ze(kvs:List (Key×V))(i:Nat){k:Key}{v:V}(h:kvs[i]?=Vn (k,v)):bu [] (kvs.take (i+1))=Vv (bu [] (kvs.take i)) k v:=by
 unfold bu;rw[Nf,h,ON];rfl
theorem E5(hc:X.calm=true){l p it:O4}{ps:List O4}{kvs:List (Key×V)}{R:UZ->O5->Prop}(hA:A.handled=Vo)(hl:SqL X.K H0 l (ps.map V.ref))(hlen:ps.length=kvs.length)(hn:kvs.length<=1000)
  (hps:∀(i:Nat) t k v,ps[i]?=Vn t->kvs[i]?=Vn (k,v)->SqT X.K H0 t [kV k,v]) (hp:H0 p=Vo)
  (fin:∀s',Inv X pins σ (upd H0 p (.dK (bu [] kvs))) s'->R (.ok (.ret .none)) s') :
  ∀(n i:Nat)(s:O5),n+i=ps.length->Inv X pins σ (upd H0 p (.dK (bu [] (kvs.take i)))) s->tK X pins (upd H0 p (.dK (bu [] (kvs.take i)))) it->s.heap.IsListIter it l i->
   codeAny (Pj X.prog X.w) A (.builtin "dict.update.loop" {[.ref p,.ref it,rawInt i,.none],[]}) R s:=by
 intro n
 induction n with
 |zero=>
  intro i s hi I hf st
  refine RG lB ?_
  rw[QY fo _]
  have sm:=ai.upd hp (.dK (bu [] (kvs.take i)))
  obtain⟨its,rv,pl,hz⟩:=I.list (sm.seq hl)
  have hll:=rv.length
  rw[Mq]at hll
  obtain⟨f0,f1,f2,f3,f4,f5⟩:=hf
  unfold SF.«dict.update.loop»
  refine O6 (SX hA st pl.isList (by simp;lia) λh' eb=>?_)
  have I':Inv X pins σ (upd H0 p (.dK (bu [] (kvs.take i)))) { s with heap:=h' }:=I.turned (t':=s.toks) (λb o hb e=>eb b o hb e) f0 f1 f3 f4 f5
  rw[Nc (by lia)]at I'
  exact O6 (Pc (Pc (fin _ I')))
 |succ n ih=>
  intro i s hi I hf st
  refine RG lB ?_
  rw[QY fo _]
  have sm:=ai.upd hp (.dK (bu [] (kvs.take i)))
  obtain⟨its,rv,pl,hz⟩:=I.list (sm.seq hl)
  have hll:=rv.length
  rw[Mq]at hll
  obtain⟨t,ht⟩:∃t,ps[i]?=Vn t:={ps[i]'(by lia),Mv (by lia)}
  obtain⟨⟨k,v⟩,hk⟩:∃kv,kvs[i]?=Vn kv:={kvs[i]'(by lia),Mv (by lia)}
  obtain⟨u,hu1,hu2⟩:=rv.get (x:=.ref t) (i:=i) (by rw[MM,ht];rfl)
  cases hu2
  obtain⟨f0,f1,f2,f3,f4,f5⟩:=hf
  unfold SF.«dict.update.loop»
  refine O6 (SH st pl.isList (x:=.ref t) (by simpa using hu1) λh' st' sb=>?_)
  have I1:Inv X pins σ (upd H0 p (.dK (bu [] (kvs.take i)))) { s with heap:=h' }:=I.turned (t':=s.toks) (λb o hb e=>(sb.2 b hb).trans e) f0 f1 f3 f4 f5
  obtain⟨jts,rj,pt,_⟩:=I1.tuple (sm.tup (hps i t k v ht hk))
  obtain⟨u1,u2,e12,r1,r2⟩:∃u1 u2,jts=[u1,u2]/\Vr (kV k) u1/\Vr v u2:=by
   cases rj with
   |cons r1 q=>cases q with
    |cons r2 q=>cases q;exact{_,_,rfl,r1,r2}
  subst e12
  refine O6 (wpAny_holding (O6 (wpAny_tryCatch (pair_items pt ?_))))
  show wpAny _ _ (RK [u1,u2] (dictSet p u1 u2)) _ _ _
  refine wpAny_holding ?_
  obtain⟨z,hd,vs,rel,dd⟩:=DV I1.hok (ao (H:=H0) (a:=p) (o:=.dK (bu [] (kvs.take i))))
  have hz':vs.length<=sizeLine:=by rw[<-rel.length];exact z
  have hlk:(bu [] (kvs.take i)).length<=1000:=by
   have:=jH (kvs.take i) [];rw[MT,Ng]at this;lia
  have hlp:(Vv (bu [] (kvs.take i)) k v).length<=sizeLine:=by
   have h1:=iY (bu [] (kvs.take i)) k v;have h2:=aG hlk;lia
  refine wpAny_dictSet_pairs (hsz:=hz') (rR r1) dd λh2 dd' hs=>?_
  have he:∃q,h2.get? p=Vn q:=let ⟨q,_,_,hq,_⟩:=dd';⟨q,hq⟩
  have I2:=rf (t':=s.toks+1) (ob:=.dK (Vv (bu [] (kvs.take i)) k v)) I1 (by rw[ao];exact NA) hs he (yJ hlp hd (rel.put k r2) dd')
  rw[F8,<-ze kvs i hk]at I2
  have hne:it≠p:=λz=>by rw[z,ao]at f0;cases f0
  have f0':upd H0 p (.dK (bu [] (kvs.take (i+1)))) it=Vo:=by
   rw[aY hne]at f0⊢;exact f0
  refine Pc {TL fo _,?_}
  have ec:((i:Int)+1)=((i+1:Nat):Int):=by push_cast;rfl
  rw[ec]
  exact ih (i+1) _ (by lia) I2 ⟨f0',f1,f2,f3,f4,f5⟩ (st'.at λo e=>(hs.2 it hne).trans e)
theorem wI(hc:X.calm=true:=by rfl):dW X (.type "dict") (λxs H Q=>∃(l:O4)(ps:List O4)(kvs:List (Key×V)),xs=[.ref l]/\SqL X.K H l (ps.map V.ref)/\ps.length=kvs.length/\kvs.length<=1000/\
  (∀(i:Nat) t k v,ps[i]?=Vn t->kvs[i]?=Vn (k,v)->SqT X.K H t [kV k,v])/\∀p,H p=Vo->Q (.ref p) (upd H p (.dK (bu [] kvs)))):=by
 intro pins s σ H xs us Q I r h
 obtain⟨l,ps,kvs,rfl,hl,hlen,hn,hps,q⟩:=h
 obtain⟨u,rfl,rfl⟩:=VC r
 have hA:=I.ok.hd hc
 have hp:=I.hok.fresh (Ms s.heap.objs.size)
 have I1:=I.laid (a:=s.heap.objs.size) (o:=.dK []) (t':=s.toks) (h':=s.heap.push { cls:=.type "dict",data:=.dict #[] }) (λ_ _ q=>O9 _ q) (Ms _) (rN s.heap I.big)
 refine callType_codes (Q₁:=λobj s₁=>obj=.ref s.heap.objs.size/\s₁={ s with heap:=s.heap.push { cls:=.type "dict",data:=.dict #[] } }) F.kt_called_dict (F.kt_typeCall_dict_1 _) F.entry_dict_init (kt_code_dict_new _ ⟨rfl,rfl⟩) ?_
 rintro obj s₁ ⟨rfl,rfl⟩
 have hnew:(s.heap.push { cls:=.type "dict",data:=.dict #[] }).DictOf (bR X.prog X.w) s.heap.objs.size []:=UQ s.heap
 have sm:=ai.upd hp (.dK [])
 obtain⟨its,rv,pl,hz⟩:=I1.list (sm.seq hl)
 obtain⟨o,n,ho,hoc,hod,hos⟩:=id pl
 refine{hnew.typeIs,F.args_dict_init_2 _ _,?_}
 unfold SF.«dict.__init__»
 refine O6 ?_
 unfold Builtin.Dict.selfAndRest
 refine O6 (SY hnew.typeIs ?_)
 show wpAny _ _ (pure (s.heap.objs.size,[Py l])) _ _ _
 refine Pc ?_
 show wpAny _ _ (Sv "dict.__init__" s.heap.objs.size (.ref l) [] .none) _ _ _
 unfold Sv
 refine O6 (SO ⟨o,ho,hoc⟩ ?_)
 rw[if_pos (by decide)]
 refine O6 (wQ ho hoc hos hod hA λh2 tk2 k2=>?_)
 have I2:Inv X pins σ (upd H s.heap.objs.size (.dK [])) { s with heap:=h2,toks:=tk2 }:=I1.kept (t':=tk2) k2
 rw[if_pos (show(Vo:Option E9).isNone=true from rfl)]
 obtain⟨its2,rv2,pl2,_⟩:=I2.list (sm.seq hl)
 refine O6 (Rf (O6 (Ul pl2.isList ?_)))
 refine Pc {TL fo _,?_}
 have I3:=I2.kept (h':=h2.push { cls:=.type "list_iterator",data:=.fields #[.ref l,.int 0 0] }) (t':=tk2) λb o e=>O9 _ e
 have fp:=I2.xV (H':=upd H s.heap.objs.size (.dK [])) (Ms _) (I2.hok.fresh (Ms _))
 refine E5 (X:=X) (H0:=H) (A:=X.A.in1) (p:=s.heap.objs.size) (kvs:=kvs) hc hA hl hlen hn hps hp (λs' I'=>?_) ps.length 0 _ rfl I3 fp {_,Po _ rfl,rfl,rfl}
 exact{rfl,.ref s.heap.objs.size,_,I',rfl,q _ hp}
end
section
variable{X:Cx}{pins:List (O4×Obj)}{σ:St}{H:Hp}{s:O5}
theorem Inv.AR{h':PH}{t':Nat}{ch:List O4}(I:Inv X pins σ H s)(hf:∀b∈ch,tK X pins H b)(k:∀b o,b∉ch->s.heap.get? b=Vn o->h'.get? b=Vn o):Inv X pins σ H { s with heap:=h',toks:=t' }:=by
 have nit:∀b u,H b=Vn u->b∉ch:=λb u e z=>by rw[(hf b z).1]at e;cases e
 refine I.step (g':=s.gens) (d':=s.drawn) (ch:=ch) (λb hb=>{(hf b hb).2.2.2.1,(hf b hb).2.1,(hf b hb).2.2.2.2.1,(hf b hb).2.2.2.2.2}) (λb o _ _ hc e _=>k b o hc e) (λb o _ _ hc e _=>⟨o.slots,k b o hc e⟩) (λ_ _ _ _ n=>n)
  (λb o hc e=>⟨o,k b o hc e⟩) (λ_ _ e=>e) (λ_ _ _ e=>e) (λb ps e=>{#[],by rw[e];simp}) (λm hm=>?_) (λb u e=>?_) I.bare
 ·obtain⟨o,es,ep,ho,r⟩:=hm;exact{o,es,ep,k _ o (λz=>(hf _ z).2.1 rfl) ho,r}
 refine(I.hok b u e).yO (λc v hc q=>k c v ?_ q) (λ_ q=>q) λ_ _ q=>q;rcases hc with rfl|hc
 ·exact nit _ _ e
 exact nit _ _ hc
theorem Inv.Kj{T:O4}{u:HO}(I:Inv X pins σ H s)(hf:tK X pins H T)(hz:X.s₀.heap.objs.size<=T)(new:cR X.prog X.w (upd H T u) s.heap T u):Inv X pins σ (upd H T u) s:=by
 obtain⟨f0,f1,f2,f3,f4,f5⟩:=hf;have ne0:∀b o,X.s₀.heap.get? b=Vn o->b≠T:=λb o e=>Na (MV (Pl e) hz);have neS:∀b v,H b=Vn v->b≠T:=λb v e z=>by rw[z,f0]at e;cases e
 refine{I.ok,I.os,I.bare,{I.base.keep,I.base.slot,λb o e n hx=>by rw[aY (ne0 b o e)];exact I.base.free b o e n hx,I.base.there,λb xs e=>by
   have:=I.base.vT b xs e;rw[aY (neS b _ this)];exact this,λb o v e=>by
   have:=I.base.uf b o v e;rw[aY (neS b _ this)];exact this,λb ps e=>by
   obtain⟨more,q⟩:=I.base.vz b ps e;exact{more,by rw[aY (neS b _ q)];exact q}},I.loc,I.cell,by rw[aY (MR f1)];exact I.free,λx c e=>by rw[aY (f4 x c e)];exact I.kU x c e,
  λp hp=>by rw[aY (f5 p hp)];exact I.pin p hp,λb v e=>?_,I.len}
 by_cases hb:b=T
 ·subst hb;rw[ao]at e;cases e;exact new
 rw[aY hb]at e;exact(I.hok b v e).yO (λ_ _ _ q=>q) (λc q=>by rw[aY (neS c _ q)];exact q) λc xs q=>by rw[aY (neS c _ q)];exact q
end
theorem GS{P:Program}{w:Pf}{k:Key}{u:E9}(h:(bR P w).is k u=true):Vr (kV k) u:=by
 cases k with
 |inl i=>obtain⟨t,e⟩:=Ud (show UG i u=true from h);exact⟨t,e⟩
 |inr x=>obtain⟨t,e⟩:=Tu (show TF x u=true from h);exact⟨t,e⟩
section
variable{X:Cx}
end
theorem jF{α β:Type}{F:α->β->Prop}:∀{l₁:List α}{l₂:List β},l₁.length=l₂.length->(∀(i:Nat) a b,l₁[i]?=Vn a->l₂[i]?=Vn b->F a b)->Paired F l₁ l₂
 | [],[],_,_=>.nil
 | [],_::_,h,_=>by simp at h
 |_::_,[],h,_=>by simp at h
 |x::xs,y::ys,h,f=>.cons (f 0 x y rfl rfl) (jF (by simpa using h) λi a b ha hb=>f (i+1) a b (by simpa using ha) (by simpa using hb))
theorem BN{α β:Type}{F:α->β->Prop}{l₁:List α}{l₂:List β}(h:Paired F l₁ l₂):∀{i:Nat}{a:α}{b:β},l₁[i]?=Vn a->l₂[i]?=Vn b->F a b:=by
 induction h with
 |nil=>intro i a b h;simp at h
 |cons r t ih=>
  intro i a b ha hb;cases i with
  |zero=>simp only[Sw,Um]at ha hb;subst ha hb;exact r
  |succ j=>exact ih (by simpa using ha) (by simpa using hb)
section
variable{X:Cx}{tg:Expr}
theorem F3(hc:X.calm=true:=by rfl):dW X (.type "list") (λxs H Q=>∃d kvs,xs=[.ref d]/\Rd H d (.dK kvs)/\∀l,H l=Vo->Q (.ref l) (upd H l (.lst (kvs.map λkv=>kV kv.1)))):=by
 intro pins s σ H xs us Q I r h;obtain⟨d,kvs,rfl,e,q⟩:=h;obtain⟨u,rfl,rfl⟩:=VC r;obtain⟨z,hs,vs,rel,dd⟩:=nu I.hok e;obtain⟨ep,dat⟩:=dd.dictAt;have hl:=rel.length;refine W.kdl_call (W.kdl_dict (knd:=bR X.prog X.w) (kvs:=vs) (ep:=ep) hs) (I.ok.hd hc) dat (by lia) λh' tk acc c hk hS hacc=>?_;have hp:=I.hok.fresh (Ms s.heap.objs.size);refine{.ref s.heap.objs.size,_,I.laid (a:=s.heap.objs.size) (o:=.lst (kvs.map λkv=>kV kv.1)) (t':=tk) hk (Ms _) {by rw[Mq];exact z,acc.toList,c,?_,by simpa using hS},rfl,q _ hp};have hsz:acc.size=vs.length:=hacc.1;refine jF (by simp[hsz,hl]) λi x y hx hy=>?_;rw[MM]at hx;obtain⟨k,v,hv,hk⟩:=hacc.2 i y (by rw[<-MZ];exact hy);cases hkv:kvs[i]? with
 |none=>rw[hkv]at hx;cases hx
 |some kv=>
  rw[hkv]at hx;have hx':kV kv.1=x:=Pn hx;have:=congrArg (λl=>l[i]?) rel.keys;simp only[MM,hkv,hv]at this;have hkk:kv.1=k:=by simpa using this
  rw[<-hx',hkk];exact GS hk
end
section
variable{prog:Program}{w:Pf}{K:Type}[DecidableEq K]{knd:KeyKind prog w K}{A:Pp}{E:E9->O5->Prop}{s:O5}
theorem uK{d:O4}{Q:Unit->O5->Prop}(hd:(d==Qq)=false)(q:Q () s):wpAny (Pj prog w) A (S0 d) Q E s:=by
 unfold S0;rw[if_neg (by rw[hd];exact My)];exact Pc q
theorem yS{k:K}{v:E9}{es:List Ut}{lvs:List (K×E9)}(h:Pairs knd es lvs):valueAt lvs k=Vn v->∃j e,(es.findIdx? λe=>knd.is k e.key)=Vn j/\es[j]?=Vn e/\e.val=v:=by
 induction h with
 |nil=>intro z;cases z
 |@cons e kv es lvs h1 h2 t ih=>
  intro z;by_cases hk:kv.1=k
  ·subst hk;have:valueAt (kv::lvs) kv.1=Vn kv.2:=by simp[valueAt,Nq]
   rw[this]at z;exact{0,e,by rw[T8,if_pos h1],rfl,by rw[h2];exact Pn z}
  have:valueAt (kv::lvs) k=valueAt lvs k:=by simp[valueAt,Nq,hk]
  rw[this]at z;obtain⟨j,f,hj,hf,hv⟩:=ih z;have hn:¬ knd.is k e.key=true:=λq=>hk (knd.inj _ _ _ h1 q);exact{j+1,f,by rw[T8,if_neg hn,hj];rfl,hf,hv}
theorem yP{id:String}{a b:O4}{kvs lvs:List (K×E9)}{Q:Bool->O5->Prop}(hda:(a==Qq)=false)(hdb:(b==Qq)=false)(ha:s.heap.DictOf knd a kvs)(hb:s.heap.DictOf knd b lvs)(hl:kvs.length=lvs.length)
  (hv:∀(i:Nat) k v,kvs[i]?=Vn (k,v)->∃v',valueAt lvs k=Vn v'/\SR A s v v' true) (q:Q true s):wpAny (Pj prog w) A (Rl id a b) Q E s:=by
 obtain⟨o,es,ep,ho,hx,hd,hk,hp,hn⟩:=ha
 obtain⟨o2,es2,ep2,ho2,hx2,hd2,hk2,hp2,hn2⟩:=hb
 have hz:es.size=kvs.length:=by rw[<-hp.length];simp
 have hz2:es2.size=lvs.length:=by rw[<-hp2.length];simp
 unfold Rl
 refine O6 (uK hda ?_)
 refine O6 (uK hdb ?_)
 refine O6 (Rm ho hd ?_)
 refine O6 (Rm ho2 hd2 ?_)
 rw[if_neg (by simp;lia)]
 refine O6 (UR ho hd ?_)
 refine O6 ?_
 rw[Std.Legacy.Range.forIn_eq_forIn_range']
 simp only[Std.Legacy.Range.size,Nat.sub_zero,Nat.add_sub_cancel,Nat.div_one]
 refine wpAny_forIn_list _ (λrest b s'=>b=(Vo,())/\s'=s/\∀i∈rest,i<es.size) _ ?_ ?_ _ _ {rfl,rfl,λi hi=>?_}
 ·rintro i rest c s' ⟨rfl,rfl,hr⟩;have hi:i<es.size:=hr i (by simp);refine O6 (Rm ho hd ?_);rw[Array.getElem?_eq_getElem hi];obtain⟨⟨k,v⟩,hkv⟩:∃kv,kvs[i]?=Vn kv:={kvs[i]'(by lia),Mv (by lia)};obtain⟨hkey,hval⟩:=hp.get? (e:=es[i]) (by simp[hi]) hkv;obtain⟨k',hk',hh⟩:=hk es[i] (Uo hi);obtain⟨v',hv',he⟩:=hv i k v hkv;have hkk:k'=k:=knd.inj _ _ _ hk' hkey;subst hkk;show wpAny _ _ (RK [es[i].key,es[i].val] _>>=_) _ _ _;refine O6 (wpAny_holding ?_);rw[hh,hval];refine O6 (wpAny_dictFind_of hkey ho2 hd2 hk2 ?_);obtain⟨j,f,hj,hf,hfv⟩:=yS hp2 hv';rw[<-List.findIdx?_toArray,Array.toArray_toList]at hj;rw[MZ]at hf;rw[hj];refine O6 (Rm ho2 hd2 ?_);rw[hf];show wpAny _ _ (RK [f.val] (eqBool v f.val)) _ _ _;rw[hfv];refine wpAny_holding (he _ _ _ _ ?_);rw[if_neg (by decide)];refine O6 (UR ho hd ?_);rw[if_neg (by simp)];exact Pc {rfl,rfl,λz hz=>hr z (Mz _ hz)}
 ·rintro c s' ⟨rfl,rfl,_⟩;exact Pc q
 have:=(List.mem_range'_1.mp hi).2
 lia
end
theorem vQ{κ:Type}[DecidableEq κ]:∀{kvs:List (κ×V)}{i:Nat}{k:κ}{v:V},(kvs.map (·.1)).Nodup->kvs[i]?=Vn (k,v)->cb kvs k=Vn v
 | [],i,k,v,_,h=>by simp at h
 |p::r,0,k,v,_,h=>by
  simp only[Sw,Um]at h;subst h;exact cQ (p:=(k,v)) rfl
 |p::r,i+1,k,v,hn,h=>by
  rw[MJ]at hn;have hr:=Ni.mp hn;have hi:r[i]?=Vn (k,v):=by simpa using h
  have hne:¬ p.1=k:=λz=>hr.1 (by rw[z];exact Nw (f:=(·.1)) (ML hi));rw[cI hne];exact vQ hr.2 hi
section
variable{X:Cx}
def CS(K:Pa)(H:Hp)(v v':V):Prop:=(v=v'/\uE v=true)\/∃p q xs,v=.ref p/\v'=.ref q/\SqL K H p xs/\SqL K H q xs/\xs.all uE=true
theorem F7{pins:List (O4×Obj)}{σ:St}{H:Hp}{s:O5}{A:Pp}{v v':V}{u u':E9}(I:Inv X pins σ H s)(hu:A.units<QQ)(h:CS X.K H v v')(r:Vr v u)(r':Vr v' u'):SR A s u u' true:=by
 rcases h with⟨rfl,hf⟩|⟨p,q,xs,rfl,rfl,hp,hq,hf⟩
 ·exact pV hf r r' A s
 cases r;cases r';by_cases hpq:p=q
 ·subst hpq;exact .same _
 obtain⟨its,r1,⟨o,n,e1,c1,_,d1⟩,_⟩:=I.list hp;obtain⟨jts,r2,⟨o2,n2,e2,c2,_,d2⟩,_⟩:=I.list hq;have l1:=r1.length;have l2:=r2.length;have hR:=SeqAt.RcAt.lists (A:=A) (s:=s) (e:=λ_=>true) (l:=p) (b:=q) (items:=its.toArray) (items2:=jts.toArray) ⟨o,e1,c1,n,d1⟩ ⟨o2,e2,c2,n2,d2⟩ (by simp;lia) hu (λj h1 h2=>by
  simp at h1 h2;obtain⟨x,hx⟩:∃x,xs[j]?=Vn x:={xs[j]'(by lia),Mv (by lia)};obtain⟨u1,g1,w1⟩:=r1.get hx;obtain⟨u2,g2,w2⟩:=r2.get hx;have z1:its.toArray[j]'(by simpa using h1)=u1:=by
   have:=Mv h1;rw[g1]at this;simpa using (Pn this).symm
  have z2:jts.toArray[j]'(by simpa using h2)=u2:=by
   have:=Mv h2;rw[g2]at this;simpa using (Pn this).symm
  rw[z1,z2];exact pV (Od.mp hf x (ML hx)) w1 w2 _ _)
 have:((Pu its.toArray.size).all λ_=>true)=true:=by simp
 rw[this]at hR;exact .of_refs hpq hR
theorem K8(hu:X.A.units+64<QQ):OpR X (Pz .Eq) (λx y H Q=>∃a b kvs lvs,x=.ref a/\y=.ref b/\Rd H a (.dK kvs)/\Rd H b (.dK lvs)/\kvs.length=lvs.length/\
  (∀k v,cb kvs k=Vn v->∃v',cb lvs k=Vn v'/\CS X.K H v v')/\Q (.bl true) H):=by
 intro pins s σ H x y v u Q I rx ry h
 obtain⟨a,b,kvs,lvs,rfl,rfl,ha,hb,hl,hv,q⟩:=h
 cases rx
 cases ry
 obtain⟨z,hs,vs,rel,dd⟩:=nu I.hok ha
 obtain⟨z2,hs2,vs2,rel2,dd2⟩:=nu I.hok hb
 have e1:=rel.length
 have e2:=rel2.length
 refine wpAny_richCompare_same_room (op:=.Eq) dd.typeIs dd2.typeIs Td (Rv Td dd.typeIs PySem.F.entry_dict_eq ?_ (PySem.F.args_dict_eq_2 _ _)) (by lia)
 show wpAny _ _ (R9 "__eq__" {[.ref a,.ref b],[]}>>=_) _ _ _
 refine O6 ?_
 unfold R9
 refine O6 (SY dd.typeIs ?_)
 show wpAny _ _ (pure (Py a,Py b)) _ _ _
 refine Pc ?_
 refine O6 (wpAny_isInstance (T:="dict") (b:=true) dd2.typeIs (by rw[isSubtype_type];kernel_rfl) ?_)
 show wpAny _ _ (Rl "dict.__eq__" a b>>=_) _ _ _
 refine O6 (yP hs hs2 dd dd2 (by lia) (λi k v hi=>?_) ?_)
 ·obtain⟨⟨k',v'⟩,hkv⟩:∃kv,kvs[i]?=Vn kv:={kvs[i]'(by have:=(MC.mp hi).1;lia),Mv _};have hr:k'=k/\Vr v' v:=BN rel hkv hi;obtain⟨rfl,hrv⟩:=hr;obtain⟨w',hw,hq⟩:=hv k' v' (vQ (by rw[rel.keys];exact(dd.dictAt.choose_spec).nodup) hkv);have hval:=rel2.val k';rw[hw]at hval;cases hvv:valueAt vs2 k' with
  |none=>rw[hvv]at hval;exact(show False from hval).elim
  |some u'=>
   rw[hvv]at hval;exact{u',rfl,F7 I (show X.A.units+1<QQ by lia) hq hrv hval}
 show wpAny _ _ (ret (.bool true)) _ _ _
 exact Pc {.bool true,rfl,(λz=>nomatch z),.bl true,H,I,rfl,q}
structure rg(z y:Str)(ws:List Str):Prop where
 h1:(decide (z.length<y.length)||decide (Tx z<Tx y))=false
 hy:(y.length==0)=false
 hf:(Qf z y 0 z.length (z.length+1)).isEmpty=false
 hx:z.length<=sizeLine
 hn:ws.length<=sizeLine
 e:Builtin.Str.partsBetween z (Qf z y 0 z.length (z.length+1)) y.length=ws
theorem uy:∀(tk:Nat)(ws:List Str),Vp (ws.map V.str) (strsFrom tk ws)
 |_,[]=>.nil
 |tk,x::r=>.cons {_,rfl} (uy (tk+1) r)
theorem Ef:MtR X "str.split" (λx xs H Q=>∃(z y:Str)(ws:List Str),x=.str z/\xs=[.str y]/\rg z y ws/\∀l,H l=Vo->Q (.ref l) (upd H l (.lst (ws.map V.str)))):=by
 intro pins s σ H x xs v us Q I rx rs h;obtain⟨z,y,ws,rfl,rfl,ok,q⟩:=h;obtain⟨t,rfl⟩:=rx;obtain⟨u,rfl,ru⟩:=rs.one;obtain⟨t2,rfl⟩:=ru;obtain⟨h1,hy,hf,hx,hn,e⟩:=ok;subst e;refine Rw F.slot_str_split (T2 _ _ _) F.entry_str_split (F.args_str_split_2 _ _) (meets_str_split_sep z y t t2 h1 hy hf hx hn) ?_;exact{.ref _,_,I.IS (uy _ _) (by rw[Mq];exact hn),rfl,q _ I.fresh}
theorem VE{o e:Expr}{to:TE}{t:TA}{apos cpos:Pos}(ho:PE X o to)(ha:PA X [e] t)(hbase:Qn o "split" X.env (P7 o X.env)=P7 o X.env:=by rfl)
  (hfew:((Qi cpos (Ph [e] X.env)).all (λx=>!x.1)&&(QK cpos (Qg [] X.env)).all (λx=>x.1.isSome)
   &&decide ([e].length+([]:List Q4).length+(if([]:List Q4).isEmpty then 0 else 1)<30))=true:=by rfl)
  (hline:(apos.endLine==cpos.line)=true:=by rfl) (hs:Ph [e] X.env=(false,P7 e X.env)::Ph [] X.env:=by rfl) (hplain:(Qi cpos (Ph [] X.env)).any (·.1)=false:=by rfl) :
  PE X (.Call (.Attribute o "split" apos) [e] [] cpos) (tBM X.K "str" (λx xs H Q=>∃(z y:Str)(ws:List Str),x=.str z/\xs=[.str y]/\rg z y ws/\∀l,H l=Vo->Q (.ref l) (upd H l (.lst (ws.map V.str)))) to t):=
 EV PySem.F.plainAttrs_str PySem.F.slot_str_split PySem.F.type_str_split Ef ho ha hbase hfew hline hs hplain
noncomputable def KU(z:Str)(n:Int):Str:=if n<1 then Pq else if(n==1||z.length==0)=true then z else⟨(Px n.toNat z.cps).foldl (· ++ ·) #[]⟩
noncomputable def KY:R2:=λx y H Q=>match x,y with
 | .int i,.int j=>BU i j/\Q (.int (i*j)) H
 | .str z,.int n=>n<1000/\-1000<n/\z.length<=1000/\Q (.str (KU z n)) H
 | .ref p,.int k=>∃xs,H p=Vn (.lst xs)/\-(2^63)<=k/\k<2^63/\xs.length*k.toNat<=sizeLine/\∀l,H l=Vo->Q (.ref l) (upd H l (.lst (Px k.toNat xs).flatten))
 |_,_=>False
theorem Bv(xs:List (Array Nat)):∀acc:Array Nat,(xs.foldl (· ++ ·) acc).size=acc.size+(xs.map (·.size)).sum:=by
 induction xs with
 |nil=>intro acc;simp
 |cons x r ih=>intro acc;rw[Ny,ih,Up,MJ,Of];lia
theorem Di(z:Str)(n:Nat):(⟨(Px n z.cps).foldl (· ++ ·) #[]⟩:Str).length=n*z.length:=by
 show((Px n z.cps).foldl (· ++ ·) #[]).size=_;rw[Bv,List.map_replicate];have:∀m k:Nat,(Px m k).sum=m*k:=λm k=>by
  induction m with
  |zero=>simp
  |succ m ih=>rw[NM,Of,ih,Nat.succ_mul];lia
 rw[this];simp[Str.length]
theorem dH:OpR X (Qz .Mult) KY:=by
 intro pins s σ H x y v u Q I rx ry h;cases x with
 |int i=>
  cases y with
  |int j=>exact KW pins s σ H _ _ v u Q I rx ry h
  |_=>exact(show False from h).elim
 |str z=>
  cases y with
  |int n=>
   obtain⟨h1,h2,h3,q⟩:=h;obtain⟨t,rfl⟩:=rx;obtain⟨t2,rfl⟩:=ry;have hb:¬ n<1->n.toNat*z.length<=1000000:=λhn=>by
    have e1:n.toNat<=1000:=by lia
    exact ME (Nat.mul_le_mul e1 h3) (by decide)
   refine P.mul_str (by rw[decide_eq_false (by lia),decide_eq_false (by lia)];rfl) (λhn _=>?_) (λhn _=>?_) ?_
   ·intro z1;have h0:(0:Int)<n:=by lia
    have:=Int.lt_mul_of_ediv_lt h0 z1;have e2:((z.length:Int))*n<=1000*1000:=OV (by lia) (by lia) (by lia) (by decide);lia
   ·unfold Builtin.Str.tooLong;have:=hb hn;rw[Nat.mul_comm]at this;refine decide_eq_false ?_;rw[QV];lia
   unfold KU at q;by_cases c1:n<1
   ·rw[if_pos c1]at q⊢;exact{by decide,.str _,H,I.tok _,{_,rfl},q}
   rw[if_neg c1]at q⊢;by_cases c2:(n==1||z.length==0)=true
   ·rw[if_pos c2]at q⊢;exact{.str _,H,I,{_,rfl},q}
   rw[if_neg c2]at q⊢;refine{?_,.str _,H,I.tok _,{_,rfl},q};rw[Di];have:=hb c1;rw[QV];lia
  |_=>exact(show False from h).elim
 |ref p=>
  cases y with
  |int k=>
   obtain⟨xs,h1,h2,h3,h4,q⟩:=h;exact Ju pins s σ H _ _ v u Q I rx ry ⟨p,k,xs,rfl,rfl,h1,h2,h3,h4,q⟩
  |_=>exact(show False from h).elim
 |_=>cases y<;>exact(show False from h).elim
def IY(K:Pa)(H:Hp)(a b:O4):Prop:=∃kvs lvs,Rd H a (.dK kvs)/\Rd H b (.dK lvs)/\kvs.length=lvs.length/\∀k v,cb kvs k=Vn v->∃v',cb lvs k=Vn v'/\CS K H v v'
noncomputable def Me(K:Pa):R2:=λx y H Q=>match x,y with
 | .ref p,.ref q=>((∃d e,kT K H (.ref p) d/\kT K H (.ref q) e/\P4 d=true/\P4 e=true/\Q (.bl (T6 d e)) H)\/(∃xs,SqL K H p xs/\SqL K H q xs/\xs.all uE=true/\Q (.bl true) H))\/(IY K H p q/\Q (.bl true) H)
 |x,y=>BP x y=true/\Q (.bl (decide (x=y))) H
theorem b4(hu:X.A.units+64<QQ):OpR X (Pz .Eq) (Me X.K):=((Kc hu).or (K8 hu)).imp λx y H Q q=>by
 by_cases hr:∃p q,x=V.ref p/\y=V.ref q
 ·obtain⟨p,q',rfl,rfl⟩:=hr;rcases q with q|⟨⟨kvs,lvs,h1,h2,h3,h4⟩,h5⟩
  ·exact .inl q
  exact .inr ⟨p,q',kvs,lvs,rfl,rfl,h1,h2,h3,h4,h5⟩
 refine .inl ?_;cases x<;>cases y<;>first|exact q|exact absurd {_,_,rfl,rfl} hr
inductive IG(xs:List V)(H:Hp)(Q:VK):Prop
 |mk(a:O4)(kvs:List (Key×V))(h0:xs=[.ref a])(h1:Rd H a (.dK kvs))(q:Q (.int (kvs.length:Nat)) H):IG xs H Q
theorem eO:dW X (.builtin "len") (λxs H Q=>FY X.K xs H Q\/IG xs H Q):=JR.or λpins s σ H xs us Q I r ⟨a,kvs,h0,h1,q⟩=>IQ pins s σ H xs us Q I r ⟨a,kvs,h0,h1,q⟩
theorem q4(hc:X.calm=true:=by rfl):dW X (.type "list") (λxs H Q=>(∃p ys,xs=[.ref p]/\(SqL X.K H p ys\/SqT X.K H p ys)/\∀l,H l=Vo->Q (.ref l) (upd H l (.lst ys)))\/∃d kvs,xs=[.ref d]/\Rd H d (.dK kvs)/\∀l,H l=Vo->Q (.ref l) (upd H l (.lst (kvs.map λkv=>kV kv.1)))):=jv.or (F3 hc)
end
section
variable{X:Cx}{pins:List (O4×Obj)}{σ:St}{H:Hp}{s:O5}
noncomputable def Itz(K:Pa)(a b:O4):It:=
  {λi H=>∃xs ys x y,SqL K H a xs/\SqL K H b ys/\xs[i]?=Vn x/\ys[i]?=Vn y,
   λi H v H'=>∃T x y,v=.ref T/\H T=Vo/\H'=upd H T (.tup [x,y])/\∀xs ys,SqL K H a xs->SqL K H b ys->xs[i]?=Vn x/\ys[i]?=Vn y,
   λi H=>∃xs ys,SqL K H a xs/\SqL K H b ys/\(xs.length<=i\/ys.length<=i)}
def La(z TI TO i1 i2 a b:O4)(i:Nat)(h:PH):Prop:=IsZip h z TI TO .none/\IsPair h TI (.ref i1) (.ref i2)/\(∃u v,IsPair h TO u v)/\h.IsListIter i1 a i/\h.IsListIter i2 b i
theorem EN{P:Program}{w:Pf}{K:Pa}{elts:List Expr}{x1}{pos:Pos}{a b z TI TO i1 i2:O4}(D:ZipApart z TI TO i1 i2 a b) :
  VG P w K (.Tuple elts x1 pos) (Itz K a b) [z,TI,TO,i1,i2] z (La z TI TO i1 i2 a b) where
 mem:=by simp
 obj:=λi h st c hc=>by
  obtain⟨hz,hI,⟨u,v,hO⟩,⟨o1,e1,_,d1⟩,⟨o2,e2,_,d2⟩⟩:=st;simp only[Mw,MQ,or_false]at hc;rcases hc with rfl|rfl|rfl|rfl|rfl
  ·exact{_,hz,λv q=>by cases (show UJ _=Tp v from q)}
  ·exact{_,hI,λv q=>by cases (show Data.seq _ _=Tp v from q)}
  ·exact{_,hO,λv q=>by cases (show Data.seq _ _=Tp v from q)}
  ·exact{o1,e1,λv q=>by rw[d1]at q;cases q}
  exact{o2,e2,λv q=>by rw[d2]at q;cases q}
 keep:=λi h h' st k=>by
  obtain⟨hz,hI,⟨u,v,hO⟩,h1,h2⟩:=st;exact{k z (by simp) _ hz,k TI (by simp) _ hI,{u,v,k TO (by simp) _ hO},h1.at λo e=>k i1 (by simp) o e,h2.at λo e=>k i2 (by simp) o e}
 item:=by
  intro X hP hw hK hc i pins s σ H E I hf st hg;subst hP hw hK;obtain⟨xs,ys,x,y,hq,hq',hx,hy⟩:=hg;obtain⟨its,rv,p,hz'⟩:=I.list hq;obtain⟨its',rv',p',hz''⟩:=I.list hq';obtain⟨u,hu,ru⟩:=rv.get hx;obtain⟨v,hv,rv2⟩:=rv'.get hy;obtain⟨hz,hI,⟨u0,v0,hO⟩,h1,h2⟩:=st;have hT:=I.xV (H':=H) (Ms s.heap.objs.size) (I.hok.fresh (Ms _));have lt:∀{c:O4}{o:Obj},s.heap.get? c=Vn o->s.heap.objs.size≠c:=λe=>N8 (Pl e);refine wpAny_pyNext_zip_item D hz hI hO h1 h2 p.isList p'.isList (x:=u) (y:=v) (by simpa using hu) (by simpa using hv) λh' a1 a2 a3 a4 a5 a6 a7=>?_;have I1:Inv X pins σ H { s with heap:=h',toks:=s.toks }:=I.AR (ch:=[z,TI,TO,i1,i2]) hf λc o hc q=>a7 c o (λe=>hc (by simp[e])) (λe=>hc (by simp[e])) (λe=>hc (by simp[e])) (λe=>hc (by simp[e])) q;have I2:=I1.Kj (u:=.tup [x,y]) hT I.sz {by show 2<=sizeLine;decide,[u,v],.cons ru (.cons rv2 .nil),{_,a5,rfl,_,rfl}};refine⟨_,rfl,wpAny_letOwnedTupleGo_zip (s:={ s with heap:=h' }) a1 λh2' hz2 hs2=>?_⟩;have f0:=hf z (by simp);have hI':h'.get? TI=_:=a7 TI _ D.TIz D.TITO D.TIi1 D.TIi2 hI;have zT:z≠s.heap.objs.size:=MR (lt hz);refine{.ref s.heap.objs.size,_,I2.turned (t':=s.toks) (it:=z) (λc o hc q=>(hs2.2 c hc).trans q) (by rw[aY zT];exact f0.1) f0.2.1 f0.2.2.2.1 f0.2.2.2.2.1 f0.2.2.2.2.2,rfl,
   {_,x,y,rfl,hT.1,rfl,λxs' ys' q q'=>by rw[I.rK q hq,I.rK q' hq'];exact⟨hx,hy⟩},{hz2,(hs2.2 TI D.TIz).trans hI',{u,v,(hs2.2 TO D.TOz).trans a2},a3.at λo q=>(hs2.2 i1 D.i1z).trans q,a4.at λo q=>(hs2.2 i2 D.i2z).trans q},λc hc=>?_}
  have cT:c≠s.heap.objs.size:=by
   simp only[Mw,MQ,or_false]at hc;rcases hc with rfl|rfl|rfl|rfl|rfl
   ·exact zT
   ·exact MR (lt hI)
   ·exact MR (lt hO)
   ·obtain⟨o,e,_⟩:=h1;exact MR (lt e)
   obtain⟨o,e,_⟩:=h2;exact MR (lt e)
  rw[aY cT];exact(hf c hc).1
 done:=by
  intro X hP hw hK hc i pins s σ H E I hf st hg;subst hP hw hK;obtain⟨xs,ys,hq,hq',hx⟩:=hg;obtain⟨its,rv,p,hz'⟩:=I.list hq;obtain⟨its',rv',p',hz''⟩:=I.list hq';obtain⟨hz,hI,⟨u0,v0,hO⟩,h1,h2⟩:=st;have hl:=rv.length;have hl':=rv'.length;refine wpAny_pyNext_zip_end (I.ok.hd hc) D hz hI hO h1 h2 p.isList p'.isList (by simp;lia) λh' eb=>{rfl,?_};exact I.AR (ch:=[z,TI,TO,i1,i2]) hf λc o hc q=>eb c o (λe=>hc (by simp[e])) (λe=>hc (by simp[e])) (λe=>hc (by simp[e])) (λe=>hc (by simp[e])) q
 self:=λ_ _ _ _ _ st h=>UB st.1 h
noncomputable def LM(K:Pa)(ta:TA):TI:=λσ H R=>ta σ H λvs H1=>∃a b,vs=[.ref a,.ref b]/\(∃xs,SqL K H1 a xs)/\(∃ys,SqL K H1 b ys)/\R (Itz K a b) H1
theorem BI:QE "zip"=Vn (.type "zip"):=by decide+kernel
theorem Iq{a b:Expr}{ta:TA}{p pos:Pos}{elts:List Expr}{x1}{pos2:Pos}(hg:Gl X "zip")(hm:X.mg "zip"=Vo)(ha:PA X [a,b] ta)(he:Ph [a,b] X.env=(false,P7 a X.env)::Ph [b] X.env:=by rfl)
  (hpl:(Qi pos (Ph [b] X.env)).any (·.1)=false:=by rfl):PI X (.Tuple elts x1 pos2) (.Call (.Name "zip" p) [a,b] [] pos) (LM X.K ta):=by
 intro pins s σ H R I h
 refine Call_ (p8 I hg hm BI (Qw (thn (ha pos pins s σ H _ I h) λus s1 ⟨vs,H1,I1,r1,q1⟩=>?_) he hpl))
 obtain⟨a,b,e,⟨xs,hq⟩,⟨ys,hq'⟩,q⟩:=q1
 subst e
 obtain⟨u,v,rfl,ru,rv⟩:=VH r1
 cases ru
 cases rv
 obtain⟨its,rv1,p1,hz1⟩:=I1.list hq
 obtain⟨its',rv2,p2,hz2⟩:=I1.list hq'
 have lt:∀{c:O4}{zs:Array E9},s1.heap.IsList c zs->c<s1.heap.objs.size:=λh=>by obtain⟨o,e,_⟩:=h;exact Pl e
 refine call_zip_2 p1.isList p2.isList λh' hz hI hO h1 h2 hsz hk=>?_
 refine UB hz ?_
 refine{s1.heap.objs.size+4,[s1.heap.objs.size+4,s1.heap.objs.size+2,s1.heap.objs.size+3,s1.heap.objs.size,s1.heap.objs.size+1],_,_,H1,rfl,I1.kept (t':=s1.toks) hk,EN (zipApart_new (lt p1.isList) (lt p2.isList)),{hz,hI,{_,_,hO},h1,h2},λc hc=>?_,q}
 have le:s1.heap.objs.size<=c:=by
  simp only[Mw,MQ,or_false]at hc;rcases hc with h|h|h|h|h
  ·rw[h];exact Nt _ _
  ·rw[h];exact Nt _ _
  ·rw[h];exact Nt _ _
  ·rw[h];exact Ms _
  rw[h];exact Nt _ _
 exact I1.xV le (I1.hok.fresh le)
end
theorem GH{K:Q3}{a b:O4}{xs ys:List V}{g:TG}{tb:TS}{D:VD}{σ:St}{H:Hp}(Pv:Nat->St->Hp->Prop)(h0:Pv 0 σ H)(hl:∀i σ H,i<=xs.length->Pv i σ H->SqL K H a xs/\SqL K H b ys)(hle:xs.length=ys.length)
  (hs:∀i x y σ H T,xs[i]?=Vn x->ys[i]?=Vn y->Pv i σ H->H T=Vo->g (.ref T) σ (upd H T (.tup [x,y])) λσ2 H2=>tb { D with nx:=Pv (i+1),ct:=Pv (i+1),bk:=D.nx } σ2 H2) (hd:∀σ H,Pv xs.length σ H->D.nx σ H) :
  ∃W:Nat->Nat->St->Hp->Prop,(∃m,W 0 m σ H)/\∀i m σ H,W i m σ H->
   ((Itz K a b).stop i H/\D.nx σ H)\/((Itz K a b).go i H/\∃N:St->Hp->Prop,(∀σ' H',N σ' H'->∃m',m'<m/\W (i+1) m' σ' H')/\∀x H',(Itz K a b).yld i H x H'->g x σ H' λσ2 H2=>tb { D with nx:=N,ct:=N,bk:=D.nx } σ2 H2):=by
 refine{λi m σ H=>m=xs.length-i/\i<=xs.length/\Pv i σ H,{xs.length,by simp,MF _,h0},?_}
 rintro i m σ H ⟨rfl,hi,p⟩
 obtain⟨q,q'⟩:=hl i σ H hi p
 by_cases hlt:i<xs.length
 ·have hlt':i<ys.length:=by lia
  refine .inr {{xs,ys,xs[i],ys[i],q,q',by simp[hlt],by simp[hlt']},Pv (i+1),λσ' H' p'=>{xs.length-(i+1),by lia,rfl,hlt,p'},λv H' y=>?_};obtain⟨T,x,y,rfl,hT,rfl,h⟩:=y;obtain⟨e1,e2⟩:=h xs ys q q';exact hs i x y σ _ T e1 e2 p hT
 have e:i=xs.length:=by lia
 subst e
 exact .inl {{xs,ys,q,q',MG (Ms _)},hd σ H p}
set_option maxHeartbeats 4000000
section
variable{X:Cx}
theorem CD{o:Expr}{to:TE}{apos cpos:Pos}(ho:PE X o to)(hbase:Qn o "pop" X.env (P7 o X.env)=P7 o X.env:=by rfl)(hline:(apos.endLine==cpos.line)=true:=by rfl) :
  PE X (.Call (.Attribute o "pop" apos) [] [] cpos) (JK X.K "list" Gp to):=
 Jb Rj PySem.F.slot_list_pop PySem.F.type_list_pop Jl ho hbase hline
end
section
variable{X:Cx}{e:Expr}{te:TE}{es:List Expr}{t:Str->TE}{pos:Pos}
def PJ(X:Cx)(es:List Expr)(t:Str->TE):Prop:=
 ∀(acc:Str)(pins:List (O4×Obj))(s:O5)(σ:St)(H:Hp)(Q:VK),Inv X pins σ H s->t acc σ H Q->wpAny (Pj X.prog X.w) X.A (Vj acc (evalEach es X.env)) (EP X pins σ Q) X.xe s
theorem IU:PJ X [] (λacc _ H Q=>acc.length<=sizeLine/\Q (.str acc) H):=λacc pins s σ H Q I h=>by
 show wpAny _ _ (Vj acc []) _ _ _;exact joinParts_nil (Q:=EP X pins σ Q) {.str acc,H,I.tok _,{_,rfl},h.2} h.1
theorem zP(he:PE X e te)(ht:PJ X es t):PJ X (e::es) (λacc σ H Q=>te σ H λv H'=>∃x,v=.str x/\(acc++x).length<=sizeLine/\t (acc++x) σ H' Q):=λacc pins s σ H Q I h=>by
 show wpAny _ _ (Vj acc (P7 e X.env::evalEach es X.env)) _ _ _;refine joinParts_cons (thn (he pins s σ H _ I h) λv s1 z9=>?_);obtain⟨x,H1,I1,r1,y,e1,l1,q1⟩:=z9;subst e1;obtain⟨tk,rfl⟩:=r1;exact{l1,ht _ pins s1 σ H1 Q I1 q1}
theorem F9{a b:Expr}(h:PJ X (a::b::es) t):PE X (.JoinedStr (a::b::es) pos) (λσ H Q=>t Pq σ H Q):=λpins s σ H Q I q=>JoinedStr_many (h Pq pins s σ H Q I q)
theorem Hv(he:PE X e te):PE X (.FormattedValue e (-1) Vo pos) (λσ H Q=>te σ H λv H'=>(∃i:Int,v=.int i/\i.natAbs.log2<1920/\Q (.str (toString i:String)) H')\/∃x,v=.str x/\x.length<=sizeLine/\Q (.str x) H'):=λpins s σ H Q I h=>by
 refine FormattedValue_plain (thn (he pins s σ H _ I h) λv s1 z9=>?_);obtain⟨x,H1,I1,r1,q1⟩:=z9;rcases q1 with⟨i,rfl,hi,q1⟩|⟨y,rfl,hy,q1⟩
 ·obtain⟨tk,rfl⟩:=r1;exact formatField_int_small hi {.str (toString i:String),H1,I1.tok _,{_,rfl},q1}
 obtain⟨tk,rfl⟩:=r1;exact formatField_str (λt' tk=>{.str y,H1,I1.tok _,{_,rfl},q1}) hy
end
section
variable{X:Cx}
theorem fY{o e:Expr}{to:TE}{t:TA}{apos cpos:Pos}(ho:PE X o to)(ha:PA X [e] t)(hbase:Qn o "extend" X.env (P7 o X.env)=P7 o X.env:=by rfl)
  (hfew:((Qi cpos (Ph [e] X.env)).all (λx=>!x.1)&&(QK cpos (Qg [] X.env)).all (λx=>x.1.isSome)
   &&decide ([e].length+([]:List Q4).length+(if([]:List Q4).isEmpty then 0 else 1)<30))=true:=by rfl)
  (hline:(apos.endLine==cpos.line)=true:=by rfl) (hs:Ph [e] X.env=(false,P7 e X.env)::Ph [] X.env:=by rfl) (hplain:(Qi cpos (Ph [] X.env)).any (·.1)=false:=by rfl) :
  PE X (.Call (.Attribute o "extend" apos) [e] [] cpos) (tBM X.K "list" An to t):=
 EV Rj PySem.F.slot_list_extend PySem.F.type_list_extend BD ho ha hbase hfew hline hs hplain
end
section
variable{prog:Program}{w:Pf}{K:Type}[DecidableEq K]{knd:KeyKind prog w K}{A:Pp}{E:E9->O5->Prop}{s:O5}
end
section
variable{X:Cx}
end
section
variable{prog:Program}{w:Pf}{A:Pp}{E:E9->O5->Prop}{s:O5}
end
section
variable{X:Cx}
end
section
variable{K:Pa}{H:Hp}{Q:VK}
theorem tix{p:O4}{xs:List V}{v:V}{j:Nat}(h:SqT K H p xs)(e:xs[j]?=Vn v)(q:Q v H):ixS K p (j:Int) H Q\/dgI p (.int (j:Int)) H Q:=.inl ⟨xs,v,.inr h,iZ e,q⟩
theorem lix{p:O4}{xs:List V}{v:V}{i:Int}(h:SqL K H p xs)(e:atI xs i=Vn v)(q:Q v H):ixS K p i H Q\/dgI p (.int i) H Q:=.inl ⟨xs,v,.inl h,e,q⟩
theorem dgk{d:O4}{kvs:List (Key×V)}{x:Str}{v:V}(h:H d=Vn (.dK kvs))(e:cb kvs (.inr x)=Vn v)(q:Q v H):dgI d (.str x) H Q:={v,e▸nj.k (k:=.inr x) h,q}
theorem fdI{a C dx:O4}{f:Str}{fs:List (Str×V)}{v:V}(h:H a=Vn (.ins C dx fs))(c:Cls K C)(n:aJ K C f)(e:fs.lookup f=Vn v)(q:Q v H):nP K f (.ref a) H Q:=⟨a,C,dx,fs,v,rfl,h,c,n,e,q⟩
theorem lnl{p:O4}{xs:List V}(h:H p=Vn (.lst xs))(q:Q (.int (xs.length:Nat)) H):FY K [.ref p] H Q\/IG [.ref p] H Q:=.inl {_,_,rfl,.inl {_,SqL.of h,rfl},q}
theorem isB{x:V}{D:O4}{t:E9}{b:Bool}{R:Bool->Hp->Prop}(ty:om K H x t)(k:QJ K t (.ref D)=Vn b)(q:R b H):yK K [x,.ref D] H λv H1=>xC K v H1 R:={x,.ref D,t,b,rfl,(λz=>by cases z),ty,k,b,rfl,q}
end
section
variable{X:Cx}
end
def xZ(P:Program)(w:Pf)(K:Pa)(mg:Str->Option E9)(base:PH)(k:Nat)(x:Str)(ps:List Str)(dvs:List V)(sp:Sp):Prop:=
 ∃f fd ds,jY P w K mg base CX0 k f fd ps sp/\Vu K fd ps []/\Vu K fd ps ds/\Vp dvs ds/\Qs K (.ref f)=true/\mg x=Vn (.ref f)/\∃oc od osl,K.lookup f=Vn ⟨oc,od,.func fd,osl⟩
section
variable{P:Program}{w:Pf}{K:Pa}{mg:Str->Option E9}{base:PH}{k:Nat}{x:Str}{ps:List Str}{dvs:List V}{sp:Sp}
theorem xZ.has(D:xZ P w K mg base k x ps dvs sp):Has P w K mg base k x ps sp:=by
 obtain⟨f,fd,ds,F,b,_,_,kp,m,l⟩:=D;exact⟨f,fd,F,b,kp,m,l⟩
structure pX(K:Pa)(mg:Str->Option E9)(x:Str)(st:PB)(ps:List Str)(dvs:List V):Prop where
 ex:∃(f:O4)(oc:E9)(od:Option O4)(dV kV doc pm:E9)(an:Option O4)(cdv ct:E9)(osl:Array (Option E9))(ds:List E9),K.lookup f=Vn {oc,od,.func (Qo x x (bF st) (bh st) (aq st) dV kV doc pm an cdv ct),osl}/\RA K cdv x=true/\Qs K (.ref f)=true/\mg x=Vn (.ref f)/\Vp dvs ds/\
  Vu K (Qo x x (bF st) (bh st) (aq st) dV kV doc pm an cdv ct) ps []/\Vu K (Qo x x (bF st) (bh st) (aq st) dV kV doc pm an cdv ct) ps ds
abbrev pX.Hz{st:PB}(_:pX K mg x st ps dvs)(P:Program)(w:Pf)(base:PH)(k:Nat)(sp:Sp):Prop:=xZ P w K mg base k x ps dvs sp
theorem pX.hs{st:PB}{N:List Str}(F:pX K mg x st ps dvs)(S:aD N ps (aq st))
  (hbody:∀(f:O4)(cdv:E9)(A:Pp)(outer:List Env)(s:O5)(H:Hp)(vs:List V)(Q:VK)(E:XK),dP k (A.deeper (Q6 x (aq st) s.heap.objs.size f cdv))->(A.deeper (Q6 x (aq st) s.heap.objs.size f cdv)).units+64<QQ->sp vs H Q E->
   ∃t,PSs (ub CX0 P w K mg base N x (aq st) f cdv A outer s H E).nox (bh st) t/\t { nx:=λ_ H'=>Q .non H',rt:=Q } (Vx N vs) H) (len:∀vs H Q E,sp vs H Q E->vs.length=ps.length:=by intro _ _ _ _ h;cases h;subst_vars;rfl):xZ P w K mg base (k+1) x ps dvs sp:=by
 obtain⟨f,oc,od,dV,kV,doc,pm,an,cdv,ct,osl,ds,lk,hcd,kp,m,hv,b1,b2⟩:=F.ex
 refine{f,_,ds,DQ lk hcd S len λA outer s H vs Q E hr hsp=>?_,b1,b2,hv,kp,m,oc,od,osl,lk}
 obtain⟨t,h,q⟩:=hbody f cdv A outer s H vs Q E hr hr.units hsp
 exact⟨t,h.nox,q⟩
end
theorem Dg{X:Cx}{j k:Nat}{x:Str}{ps:List Str}{dvs:List V}{sp:Sp}{e:Expr}{es:List Expr}{t:TA}{p pos:Pos}(D:xZ X.prog X.w X.K X.mg X.base j x ps dvs sp)(hr:dP k X.A)(ha:PA X (e::es) t)(hj:j<=k:=by decide)(hg:Gl X x:=by rfl)
  (hdb:(x==("__debug__":Str))=false:=by decide) (he:Ph (e::es) X.env=(false,P7 e X.env)::Ph es X.env:=by rfl) (hpl:(Qi pos (Ph es X.env)).any (·.1)=false:=by rfl) :
  PE X (.Call (.Name x p) (e::es) [] pos) (AY sp dvs E0 t):=by
 obtain⟨f,fd,ds,F,_,b,hv,kp,m,_⟩:=D
 exact AK F (hr.mono hj) hg m kp b hv uP ha hdb he hpl
section
variable{prog:Program}{w:Pf}{A:Pp}{E:E9->O5->Prop}{s:O5}{S:O4}{a b c:Option Tok}{ep:Nat}{led:Bool}
end
structure RkIn(val:Nat->Int)(i:Nat)(a b c:Option Tok):Prop where
 a:a.isSome=(Pu i).any λj=>decide (val j=0)
 b:b.isSome=(Pu i).any λj=>decide (val j=1)
 c:c.isSome=(Pu i).any λj=>decide (val j=2)
section
variable{prog:Program}{w:Pf}{A:Pp}{R:UZ->O5->Prop}{I:O4}{fp wr:List O4}{G:Array So->Array So->Prop}{n:Nat}{P:Nat->E9->Prop}{St:Nat->O5->Prop}{led:Bool}
end
section
variable{prog:Program}{w:Pf}{A:Pp}{E:E9->O5->Prop}{s:O5}
end
section
variable{prog:Program}{w:Pf}{A:Pp}{E:E9->O5->Prop}{s:O5}{S:O4}{a b c:Option Tok}{ep:Nat}
end
theorem Paired.Ld{α β:Type}{F:α->β->Prop}{x:α}{y:β}(h:F x y):∀{a:List α}{b:List β},Paired F a b->Paired F (a++[x]) (b++[y])
 |_,_,.nil=>.cons h .nil
 |_,_,.cons r t=>.cons r (Paired.Ld h t)
theorem lO{α:Type}{K:Pa}{a:O4}{xs:List V}{own:Nat}{fr:List Nat}{g:CB->TG}{tf:CB->TT}{te:CB->TE}{Q:VK}{σ:St}{H1:Hp}(src:List α)(p:α->Bool)(R:α->V->Hp->Prop)(hx:SqL K H1 a xs)(hl:xs.length=src.length)(hn:xs.length<sizeLine)
  (he:∀(b:CB)(i:Nat)(x:V)(e:α)(v0:St)(H:Hp)(N:St->Hp->Prop)(Y:St->V->Hp->Prop),xs[i]?=Vn x->src[i]?=Vn e->v0.length=own->ai H1 H->
   (p e=false->∀v1 H',v1.length=own->ai H H'->N (v1++cFr fr σ) H')->(p e=true->∀v1 y H',v1.length=own->ai H H'->R e y H'->Y (v1++cFr fr σ) y H')->
   g b x (v0++cFr fr σ) H λσ3 H3=>tf b σ3 H3 λk H4=>if k=true then te b σ3 H4 λy H5=>Y σ3 y H5 else N σ3 H4)
  (mono:∀e y H H',ai H H'->R e y H->R e y H') (st:∀e y H D ys zs,H D=Vn (.lst ys)->R e y H->R e y (upd H D (.lst zs)))
  (fin:∀D H ys,H1 D=Vo->ai H1 H->H D=Vn (.lst ys)->Paired (λe y=>R e y H) (src.filter p) ys->Q (.ref D) H):nM (Itl K a) own fr g tf te Q σ H1:=by
 refine⟨λb D hD=>?_⟩
 refine{λi m σ' H'=>m=xs.length-i/\i<=xs.length/\(∃v0,σ'=v0++cFr fr σ/\v0.length=own)/\ai H1 H'/\∃ys,H' D=Vn (.lst ys)/\ys.length<=i/\Paired (λe y=>R e y H') ((src.take i).filter p) ys,{xs.length,rfl,MF _,⟨Px own Vo,rfl,NT ..⟩,ai.upd hD _,[],ao,Ms _,.nil},?_}
 rintro i m σ' H' ⟨rfl,hi,⟨v0,rfl,hv⟩,sm,ys,hL,hy,hR⟩
 by_cases hlt:i<xs.length
 ·have hs:i<src.length:=by lia
  refine .inr {{xs,xs[i],sm.seq hx,Mv hlt},λσ2 H2=>(∃v0,σ2=v0++cFr fr σ/\v0.length=own)/\ai H1 H2/\∃ys,H2 D=Vn (.lst ys)/\ys.length<=i+1/\Paired (λe y=>R e y H2) ((src.take (i+1)).filter p) ys,λσ2 H2 q=>{xs.length-(i+1),by lia,rfl,hlt,q},λv H2 y=>?_};obtain⟨rfl,y2⟩:=y;have e:=y2 xs (sm.seq hx);have tk:src.take (i+1)=src.take i++[src[i]]:=by rw[Nf,Mv hs];rfl
  refine he b i v src[i] v0 _ _ _ e (Mv hs) hv sm (λpf v1 H3 h1 s3=>?_) (λpt v1 y H3 h1 s3 r3=>?_)
  ·refine{⟨v1,rfl,h1⟩,sm.trans s3,ys,s3 _ _ hL,by lia,?_};rw[tk,Nr,Sx (by rw[pf];exact My),Oh,MP];exact Paired.sY hR λe y z=>mono _ _ _ _ s3 z
  have hD4:=s3 _ _ hL;refine{ys,hD4,by lia,⟨v1,rfl,h1⟩,?_,ys++[y],ao,by simp;lia,?_}
  ·intro c o q;by_cases hc:c=D
   ·rw[hc,hD]at q;cases q
   rw[aY hc];exact(sm.trans s3) c o q
  rw[tk,Nr,Sy pt,Oh];exact Paired.Ld (F:=λe y'=>R e y' (upd H3 D (.lst (ys++[y])))) (st _ _ _ _ _ _ hD4 r3) (Paired.sY hR λe y z=>st _ _ _ _ _ _ hD4 (mono _ _ _ _ s3 z))
 have e:i=xs.length:=by lia
 subst e
 rw[hl,M8]at hR
 exact .inl {{xs,sm.seq hx,Ms _},fin D H' ys hD sm hL hR}
theorem Ea{K:Pa}{a:O4}{xs:List V}{own:Nat}{fr:List Nat}{g:CB->TG}{tf:CB->TT}{te:CB->TE}{Q:VK}{σ:St}{H1:Hp}(Pv:O4->Nat->List V->Hp->Prop)(hx:SqL K H1 a xs)(hn:xs.length<sizeLine)(h0:∀D,H1 D=Vo->Pv D 0 [] (upd H1 D (.lst [])))
  (he:∀(b:CB)(D:O4)(i:Nat)(x:V)(v0:St)(H:Hp)(ys:List V)(N:St->Hp->Prop)(Y:St->V->Hp->Prop),xs[i]?=Vn x->v0.length=own->H1 D=Vo->ai H1 H->H D=Vn (.lst ys)->Pv D i ys H->
   (∀v1 H',v1.length=own->ai H H'->Pv D (i+1) ys H'->N (v1++cFr fr σ) H')->(∀v1 y H',v1.length=own->ai H H'->Pv D (i+1) (ys++[y]) (upd H' D (.lst (ys++[y])))->Y (v1++cFr fr σ) y H')->
   g b x (v0++cFr fr σ) H λσ3 H3=>tf b σ3 H3 λk H4=>if k=true then te b σ3 H4 λy H5=>Y σ3 y H5 else N σ3 H4)
  (fin:∀D H ys,H1 D=Vo->ai H1 H->H D=Vn (.lst ys)->Pv D xs.length ys H->Q (.ref D) H):nM (Itl K a) own fr g tf te Q σ H1:=by
 refine⟨λb D hD=>?_⟩
 refine{λi m σ' H'=>m=xs.length-i/\i<=xs.length/\(∃v0,σ'=v0++cFr fr σ/\v0.length=own)/\ai H1 H'/\∃ys,H' D=Vn (.lst ys)/\ys.length<=i/\Pv D i ys H',{xs.length,rfl,MF _,⟨Px own Vo,rfl,NT ..⟩,ai.upd hD _,[],ao,Ms _,h0 D hD},?_}
 rintro i m σ' H' ⟨rfl,hi,⟨v0,rfl,hv⟩,sm,ys,hL,hy,hR⟩
 by_cases hlt:i<xs.length
 ·refine .inr {{xs,xs[i],sm.seq hx,Mv hlt},λσ2 H2=>(∃v0,σ2=v0++cFr fr σ/\v0.length=own)/\ai H1 H2/\∃ys,H2 D=Vn (.lst ys)/\ys.length<=i+1/\Pv D (i+1) ys H2,λσ2 H2 q=>{xs.length-(i+1),by lia,rfl,hlt,q},λv H2 y=>?_};obtain⟨rfl,y2⟩:=y;have e:=y2 xs (sm.seq hx);refine he b D i v v0 _ ys _ _ e hv hD sm hL hR (λv1 H3 h1 s3 p3=>?_) (λv1 y H3 h1 s3 p3=>?_)
  ·exact{⟨v1,rfl,h1⟩,sm.trans s3,ys,s3 _ _ hL,by lia,p3}
  refine{ys,s3 _ _ hL,by lia,⟨v1,rfl,h1⟩,?_,ys++[y],ao,by simp;lia,p3};intro c o q;by_cases hc:c=D
  ·rw[hc,hD]at q;cases q
  rw[aY hc];exact(sm.trans s3) c o q
 have e:i=xs.length:=by lia
 subst e
 exact .inl {{xs,sm.seq hx,Ms _},fin D H' ys hD sm hL hR}
section
variable{X:Cx}
end
section
variable{prog:Program}{w:Pf}{A:Pp}{E:E9->O5->Prop}{s:O5}
end
section
variable{X:Cx}{pins:List (O4×Obj)}{σ:St}{H:Hp}{s:O5}
end
end L2
set_option maxRecDepth 100001
namespace L2
open PySem PyProof.Rows
noncomputable def gal:Bool->Pg->Array Pg->Nat->Nat->Nat->StateT Pr Sem (Option Nat):=sortPriv%PySem.Builtin.gallop
def KLt(prog:Program)(w:Pf)(A:Pp)(s:O5)(κ:KeyKind)(kin:Qt):Prop:=∀(E:E9->O5->Prop)(x y:E9)(a b:κ.α){Q:Bool->O5->Prop},κ.keyOf x=Vn a->κ.keyOf y=Vn b->Q (κ.blt a b) s->wpAny (Pj prog w) A (keyLt' kin x y) Q E s
section
variable{prog:Program}{w:Pf}{A:Pp}{E:E9->O5->Prop}{s:O5}{a₀:Array Pg}{κ:KeyKind}{kin:Qt}
theorem sN(hO:KLt prog w A s κ kin){st:Pr}{x y:Pg}{a b:κ.α}{Q:Option Bool->Pr->Prop}(hk:kindOf st=kin)(ha:κ.keyOf x.1=Vn a)(hb:κ.keyOf y.1=Vn b)(h:Q (Vn (κ.blt a b)) st):wpS (Pj prog w) A E s (lt' x y) Q st:=by
 rw[lt'_eq]
 refine O8 (Rb ?_)
 rw[hk]
 exact O8 (RY (wpAny_attempt (hO _ x.1 y.1 a b ha hb ⟨rfl,Pb h⟩)))
theorem bq{st:Pr}{xs:Array Pg}{i:Nat}{x:Pg}{Q:Pg->Pr->Prop}(e:xs[i]?=Vn x)(h:Q x st):wpS (Pj prog w) A E s (Te xs i) Q st:=by
 rw[elem'_eq,e]
 exact Pb h
noncomputable def byd(κ:KeyKind)(left:Bool)(k:κ.α)(xs:Array Pg)(i:Nat):Bool:=if left then κ.blt (KK κ xs i) k else !κ.blt k (KK κ xs i)
theorem mS(hO:KLt prog w A s κ kin){st:Pr}{left:Bool}{key:Pg}{k:κ.α}{xs:Array Pg}{base n hint:Nat}{Q:Option Nat->Pr->Prop}(hk:kindOf st=kin)(hx:∀i,i<n->∃x a,xs[base+i]?=Vn x/\κ.keyOf x.1=Vn a)(ha:κ.keyOf key.1=Vn k)(hh:hint<n)
    (hm:∀i j,i<=j->j<n->byd κ left k xs (base+j)=true->byd κ left k xs (base+i)=true)
    (h:∀r,r<=n->(∀i,i<r->byd κ left k xs (base+i)=true)->(∀i,r<=i->i<n->byd κ left k xs (base+i)=false)->Q (Vn r) st):wpS (Pj prog w) A E s (gal left key xs base n hint) Q st:=by
  have bd:∀(i:Nat){R:Option Bool->Pr->Prop},i<n->R (Vn (byd κ left k xs (base+i))) st->wpS (Pj prog w) A E s (do let x<-Te xs (base+i);if left=true then lt' x key else do let r<-lt' key x;pure (r.map (!·))) R st:=by
    intro i R hi hR
    obtain⟨x,a,e,hxa⟩:=hx i hi
    have ek:KK κ xs (base+i)=a:=by unfold KK;rw[e];simp[hxa]
    refine O8 (bq e ?_)
    unfold byd at hR
    rw[ek]at hR
    cases left with
    |true=>exact sN hO hk hxa ha hR
    |false=>exact O8 (sN hO hk ha hxa (Pb hR))
  have bin:∀(f:Nat->Option (Option Nat)×Nat×Nat->StateT Pr Sem (ForInStep (Option (Option Nat)×Nat×Nat))),(∀(x l o:Nat)(R:ForInStep (Option (Option Nat)×Nat×Nat)->Pr->Prop),o<=n->(l ≥ o->R (.done (Vo,l,o)) st)->(l<o->byd κ left k xs (base+(l+(o-l)/2))=true->R (.yield (Vo,l+(o-l)/2+1,o)) st)->(l<o->byd κ left k xs (base+(l+(o-l)/2))=false->R (.yield (Vo,l,l+(o-l)/2)) st)->wpS (Pj prog w) A E s (f x (Vo,l,o)) R st)->
      ∀lo hi,lo<=hi->hi<=n->(∀i,i<lo->byd κ left k xs (base+i)=true)->(∀i,hi<=i->i<n->byd κ left k xs (base+i)=false)->wpS (Pj prog w) A E s (forIn [:n] (Vo,lo,hi) f) (λc st'=>st'=st/\∃o,c=(Vo,o,o)/\o<=n/\(∀i,i<o->byd κ left k xs (base+i)=true)/\(∀i,o<=i->i<n->byd κ left k xs (base+i)=false)) st:=by
    intro f hf lo hi h1 h2 h3 h4
    refine PZ (I:=λx c st'=>st'=st/\∃l o,c=(Vo,l,o)/\l<=o/\o<=n/\o-l<=n-x/\(∀i,i<l->byd κ left k xs (base+i)=true)/\(∀i,o<=i->i<n->byd κ left k xs (base+i)=false)) ?s0 ?f0 ⟨rfl,lo,hi,rfl,h1,h2,by lia,h3,h4⟩
    case f0=>
      rintro c st' ⟨rfl,l,o,rfl,g1,g2,g3,g4,g5⟩
      have:l=o:=by lia
      subst this
      exact⟨rfl,l,rfl,g2,g4,g5⟩
    case s0=>
      rintro x c st' _ _ ⟨rfl,l,o,rfl,g1,g2,g3,g4,g5⟩
      refine hf x l o _ g2 (λg=>?_) (λg z=>?_) (λg z=>?_)
      · have:l=o:=by lia
        subst this
        exact⟨rfl,l,rfl,g2,g4,g5⟩
      · exact{rfl,_,o,rfl,by lia,g2,by lia,(λi hi=>hm i (l+(o-l)/2) (by lia) (by lia) z),g5}
      · exact{rfl,l,_,rfl,by lia,by lia,by lia,g4,λi hi hn=>by
            cases y:byd κ left k xs (base+i)with
            |false=>rfl
            |true=>rw[hm _ i hi hn y]at z;cases z}
  have neg:∀i j,i<=j->j<n->byd κ left k xs (base+i)=false->byd κ left k xs (base+j)=false:=λi j hij hj e=>by
    cases z:byd κ left k xs (base+j)with
    |false=>rfl
    |true=>rw[hm i j hij hj z]at e;cases e
  refine O8 (bd hint hh ?_)
  dsimp only
  cases hd:byd κ left k xs (base+hint)with
  |true=>
    rw[if_pos rfl]
    refine O8 (P9 (PZ (I:=λx c st'=>st'=st/\∃l o,c=(Vo,l,o)/\l<o/\x+1<=o/\hint+l<n/\byd κ left k xs (base+(hint+l))=true)
      (Q:=λc st'=>st'=st/\∃l o,c=(Vo,l,o)/\l<o/\hint+l<n/\byd κ left k xs (base+(hint+l))=true/\(n-hint<=o\/byd κ left k xs (base+(hint+o))=false)) ?s1 ?f1 ⟨rfl,0,1,rfl,by lia,by lia,hh,hd⟩) ?p1)
    case f1=>
      rintro c st' ⟨rfl,l,o,rfl,h1,h2,h3,h4⟩
      exact{rfl,l,o,rfl,h1,h3,h4,.inl (by lia)}
    case s1=>
      rintro x c st' _ _ ⟨rfl,l,o,rfl,h1,h2,h3,h4⟩
      dsimp only
      by_cases g:o ≥ n-hint
      · rw[if_pos g]
        exact Pb ⟨rfl,l,o,rfl,h1,h3,h4,.inl g⟩
      · rw[if_neg g]
        refine O8 (bd (hint+o) (by lia) ?_)
        dsimp only
        cases z:byd κ left k xs (base+(hint+o))with
        |false=>exact Pb ⟨rfl,l,o,rfl,h1,h3,h4,.inr z⟩
        |true=>exact Pb {rfl,o,2*o+1,rfl,by lia,by lia,by lia,z}
    case p1=>
      rintro c st' ⟨rfl,l,o,rfl,h1,h3,h4,h5⟩
      dsimp only
      refine O8 (P9 (bin _ (by
        intro x l o R h0 h1 h2 h3
        dsimp only
        by_cases g:l ≥ o
        · rw[if_pos g]
          exact Pb (h1 g)
        · rw[if_neg g]
          refine O8 (bd (l+(o-l)/2) (by lia) ?_)
          dsimp only
          cases z:byd κ left k xs (base+(l+(o-l)/2))with
          |true=>exact Pb (h2 (by lia) z)
          |false=>exact Pb (h3 (by lia) z)) (hint+l+1) (hint+min o (n-hint)) (by lia) (by lia) (λi hi=>hm i (hint+l) (by lia) h3 h4) (λi hi hn=>by
        rcases h5 with h5|h5
        · lia
        · by_cases g:n-hint<=o
          · lia
          · exact neg (hint+o) i (by lia) hn h5)) ?_)
      rintro c st'' ⟨rfl,r,rfl,g2,g4,g5⟩
      exact Pb (h r g2 g4 g5)
  |false=>
    rw[if_neg My]
    refine O8 (P9 (PZ (I:=λx c st'=>st'=st/\∃l o,c=(Vo,l,o)/\l<o/\x+1<=o/\l<=hint/\byd κ left k xs (base+(hint-l))=false)
      (Q:=λc st'=>st'=st/\∃l o,c=(Vo,l,o)/\l<o/\l<=hint/\byd κ left k xs (base+(hint-l))=false/\(hint+1<=o\/byd κ left k xs (base+(hint-o))=true)) ?s2 ?f2 ⟨rfl,0,1,rfl,by lia,by lia,by lia,hd⟩) ?p2)
    case f2=>
      rintro c st' ⟨rfl,l,o,rfl,h1,h2,h3,h4⟩
      exact{rfl,l,o,rfl,h1,h3,h4,.inl (by lia)}
    case s2=>
      rintro x c st' _ _ ⟨rfl,l,o,rfl,h1,h2,h3,h4⟩
      dsimp only
      by_cases g:o ≥ hint+1
      · rw[if_pos g]
        exact Pb ⟨rfl,l,o,rfl,h1,h3,h4,.inl g⟩
      · rw[if_neg g]
        refine O8 (bd (hint-o) (by lia) ?_)
        dsimp only
        cases z:byd κ left k xs (base+(hint-o))with
        |true=>exact Pb ⟨rfl,l,o,rfl,h1,h3,h4,.inr z⟩
        |false=>exact Pb {rfl,o,2*o+1,rfl,by lia,by lia,by lia,z}
    case p2=>
      rintro c st' ⟨rfl,l,o,rfl,h1,h3,h4,h5⟩
      dsimp only
      refine O8 (P9 (bin _ (by
        intro x l o R h0 h1 h2 h3
        dsimp only
        by_cases g:l ≥ o
        · rw[if_pos g]
          exact Pb (h1 g)
        · rw[if_neg g]
          refine O8 (bd (l+(o-l)/2) (by lia) ?_)
          dsimp only
          cases z:byd κ left k xs (base+(l+(o-l)/2))with
          |true=>exact Pb (h2 (by lia) z)
          |false=>exact Pb (h3 (by lia) z)) (hint+1-min o (hint+1)) (hint-l) (by lia) (by lia) (λi hi=>by
        rcases h5 with h5|h5
        · lia
        · by_cases g:hint+1<=o
          · lia
          · exact hm i (hint-o) (by lia) (by lia) h5) (λi hi hn=>neg (hint-l) i (by lia) hn h4)) ?_)
      rintro c st'' ⟨rfl,r,rfl,g2,g4,g5⟩
      exact Pb (h r g2 g4 g5)
end
end L2
namespace L2
open PySem PyProof.Rows
section
variable{κ:KeyKind}{kin:Qt}
noncomputable def ky(κ:KeyKind)(x:Pg):κ.α:=(κ.keyOf x.1).getD κ.dflt
def Srt(κ:KeyKind)(l:List Pg):Prop:=l.Pairwise λx y=>κ.kle (ky κ x) (ky κ y)
theorem Srt.app{l m:List Pg}(h1:Srt κ l)(h2:Srt κ m)(h:∀x∈l,∀y∈m,κ.kle (ky κ x) (ky κ y)):Srt κ (l++m):=NY.mpr ⟨h1,h2,h⟩
theorem Srt.left{l m:List Pg}(h:Srt κ (l++m)):Srt κ l:=(NY.mp h).1
theorem Srt.right{l m:List Pg}(h:Srt κ (l++m)):Srt κ m:=(NY.mp h).2.1
theorem Srt.le{l m:List Pg}(h:Srt κ (l++m)):∀x∈l,∀y∈m,κ.kle (ky κ x) (ky κ y):=(NY.mp h).2.2
structure Mg(κ:KeyKind)(a b o:List Pg)(i j:Nat):Prop where
 pm:o.Perm (a.take i++b.take j)
 sa:Srt κ (o++a.drop i)
 sb:Srt κ (o++b.drop j)
 ha:i<=a.length
 hb:j<=b.length
theorem Mg.chA{a b o:List Pg}{i j:Nat}(h:Mg κ a b o i j)(k:Nat)(hk:i+k<=a.length)(le:∀x∈(a.drop i).take k,∀y∈b.drop j,κ.kle (ky κ x) (ky κ y)):Mg κ a b (o++(a.drop i).take k) (i+k) j:=by
 have e:o++(a.drop i).take k++a.drop (i+k)=o++a.drop i:=by
  rw[MB,<-N9,MO]
 have sa:=h.sa
 refine{?_,by rw[e];exact sa,?_,hk,h.hb}
 ·have e2:a.take (i+k)=a.take i++(a.drop i).take k:=by rw[Oz]
  rw[e2,MB]
  exact(h.pm.append_right _).trans (by
   rw[MB]
   exact PY _ Np)
 ·rw[<-e]at sa
  refine Srt.app sa.left h.sb.right λx hx y hy=>?_
  rcases Mu.mp hx with hx|hx
  ·exact h.sb.le x hx y hy
  ·exact le x hx y hy
theorem Mg.chB{a b o:List Pg}{i j:Nat}(h:Mg κ a b o i j)(k:Nat)(hk:j+k<=b.length)(le:∀x∈(b.drop j).take k,∀y∈a.drop i,κ.kle (ky κ x) (ky κ y)):Mg κ a b (o++(b.drop j).take k) i (j+k):=by
 have e:o++(b.drop j).take k++b.drop (j+k)=o++b.drop j:=by
  rw[MB,<-N9,MO]
 have sb:=h.sb
 refine{?_,?_,by rw[e];exact sb,h.ha,hk}
 ·have e2:b.take (j+k)=b.take j++(b.drop j).take k:=by rw[Oz]
  rw[e2,<-MB]
  exact h.pm.append_right _
 ·rw[<-e]at sb
  refine Srt.app sb.left h.sa.right λx hx y hy=>?_
  rcases Mu.mp hx with hx|hx
  ·exact h.sa.le x hx y hy
  ·exact le x hx y hy
theorem Mg.Mm{a b o:List Pg}{i j:Nat}(h:Mg κ a b o i j)(e:j=b.length):(o++a.drop i++b.drop j).Perm (a++b)/\Srt κ (o++a.drop i++b.drop j):=by
 subst e
 rw[UC,MP]
 refine{?_,h.sa}
 have p:=h.pm
 rw[M8]at p
 refine(p.append_right _).trans ?_
 have q:(a.take i++b++a.drop i).Perm (a.take i++(a.drop i++b)):=by
  rw[MB]
  exact PY _ Np
 rw[<-MB,MO]at q
 exact q
theorem Mg.LN{a b o:List Pg}{i j:Nat}(h:Mg κ a b o i j)(e:i=a.length):(o++a.drop i++b.drop j).Perm (a++b)/\Srt κ (o++a.drop i++b.drop j):=by
 subst e
 rw[UC,MP]
 refine{?_,h.sb}
 have p:=h.pm
 rw[M8]at p
 refine(p.append_right _).trans ?_
 rw[MB,MO]
theorem Mg.last{a b o:List Pg}{i j:Nat}(h:Mg κ a b o i j)(le:∀x∈b,∀y∈a.drop i,κ.kle (ky κ x) (ky κ y)):(o++b.drop j++a.drop i).Perm (a++b)/\Srt κ (o++b.drop j++a.drop i):=by
 constructor
 ·have p1:(o++b.drop j++a.drop i).Perm (a.take i++b.take j++b.drop j++a.drop i):=(h.pm.append_right _).append_right _
  refine p1.trans ?_
  rw[MB (a.take i),MO]
  have q:(a.take i++b++a.drop i).Perm (a.take i++(a.drop i++b)):=by
   rw[MB]
   exact PY _ Np
  rw[<-MB,MO]at q
  exact q
 ·refine Srt.app h.sb h.sa.right λx hx y hy=>?_
  rcases Mu.mp hx with hx|hx
  ·exact h.sa.le x hx y hy
  ·exact le x (Oe hx) y hy
end
end L2
namespace L2
open PySem PyProof.Rows
section
variable{prog:Program}{w:Pf}{A:Pp}{E:E9->O5->Prop}{s:O5}{κ:KeyKind}{kin:Qt}
noncomputable abbrev sGr(st:Pr)(g:Nat):Pr:=T9 (kindOf st) (O7 st) (Pm st) g (QZ st)
theorem oB(xs:Array Pg)(i j:Nat):(xs.extract i j).toList=(xs.toList.drop i).take (j-i):=by
 rw[Array.toList_extract]
theorem uu(xs:Array Pg)(i:Nat):(xs.extract i xs.size).toList=xs.toList.drop i:=by
 rw[oB]
 exact Nc (by rw[Nd,MI];exact Ms _)
theorem kS{xs:Array Pg}(hk:KeysOf κ xs){i:Nat}(h:i<xs.size):∃x,xs[i]?=Vn x/\κ.keyOf x.1=Vn (ky κ x)/\KK κ xs i=ky κ x/\xs.toList.drop i=x::xs.toList.drop (i+1)/\x∈xs.toList:=by
 have e:xs[i]?=Vn xs[i]:=getElem?_pos _ i h
 have m:xs[i]∈xs.toList:=by simp
 obtain⟨a,ha⟩:=hk _ m
 have k:ky κ xs[i]=a:=by unfold ky;rw[ha];rfl
 refine{xs[i],e,by rw[k];exact ha,by unfold KK ky;rw[e],?_,m}
 have hl:i<xs.toList.length:=by rw[MI];exact h
 rw[Oi hl]
 simp
theorem y8{xs:Array Pg}(hk:KeysOf κ xs){i:Nat}{z:Pg}(h:z∈xs.toList.drop i):∃j,i<=j/\j<xs.size/\KK κ xs j=ky κ z:=by
 obtain⟨j,hj⟩:=MS h
 rw[NR]at hj
 have hl:=(MC.mp hj).1
 rw[MI]at hl
 refine{i+j,Nt _ _,hl,?_}
 rw[MZ]at hj
 unfold KK ky
 rw[hj]
theorem jo{xs:Array Pg}(hk:KeysOf κ xs){i k:Nat}{z:Pg}(h:z∈(xs.toList.drop i).take k):∃j,j<k/\i+j<xs.size/\KK κ xs (i+j)=ky κ z:=by
 obtain⟨j,hj⟩:=MS h
 have hl:=(MC.mp hj).1
 rw[MT,Nd,MI]at hl
 rw[Nm (by lia),NR,MZ]at hj
 refine{j,by lia,by lia,?_}
 unfold KK ky
 rw[hj]
theorem Bo{xs:Array Pg}(hs:Srt κ xs.toList){i j:Nat}(hij:i<=j)(hj:j<xs.size):κ.kle (KK κ xs i) (KK κ xs j):=by
 rcases OS i j with h|h
 ·have:=Oj.mp hs i j (by rw[MI];lia) (by rw[MI];exact hj) h
  unfold KK
  rw[getElem?_pos xs i (by lia),getElem?_pos xs j hj]
  simpa [ky] using this
 ·have:i=j:=by lia
  subst this
  exact PQ _
theorem KH(hO:KLt prog w A s κ kin){st:Pr}{a b o:Array Pg}{i j:Nat}{y:Pg}{R:Option Nat->Pr->Prop}(hk:kindOf st=kin)(ka:KeysOf κ a)(sa:Srt κ a.toList)(M:Mg κ a.toList b.toList o.toList i j)(hi:i<a.size)(hy:b.toList.drop j=y::b.toList.drop (j+1))(ky':κ.keyOf y.1=Vn (ky κ y))
  (h:∀k,i+k<=a.size->Mg κ a.toList b.toList (o++a.extract i (i+k)).toList (i+k) j->(∀z∈a.toList.drop (i+k),κ.kle (ky κ y) (ky κ z))->R (Vn k) st):wpS (Pj prog w) A E s (gal false y a i (a.size-i) 0) R st:=by
 refine mS hO hk (λm hm=>?_) ky' (by lia) (λm n hmn hn e=>?_) (λk hk1 h1 h2=>?_)
 ·obtain⟨x,e,kx,_⟩:=kS ka (show i+m<a.size by lia)
  exact{x,_,e,kx}
 ·unfold byd at e⊢
  rw[if_neg My]at e⊢
  have e:κ.kle (KK κ a (i+n)) (ky κ y):=by simpa [Q0] using e
  have:=PC (Bo sa (show i+m<=i+n by lia) (by lia)) e
  simpa [Q0] using this
 ·refine h k (by lia) ?_ ?_
  ·rw[M5,oB,Nk]
   refine M.chA k (by rw[MI];lia) λx hx z hz=>?_
   obtain⟨m,m1,m2,m3⟩:=jo ka hx
   have e:=h1 m m1
   unfold byd at e
   rw[if_neg My]at e
   have e:κ.kle (KK κ a (i+m)) (ky κ y):=by simpa [Q0] using e
   rw[m3]at e
   refine PC e ?_
   rw[hy]at hz
   rcases Mw.mp hz with rfl|hz
   ·exact PQ _
   ·have s:=M.sb.right
    rw[hy]at s
    exact(Oq.mp s).1 z hz
  ·intro z hz
   obtain⟨m,m1,m2,m3⟩:=y8 ka hz
   have e:=h2 (m-i) (by lia) (by lia)
   unfold byd at e
   rw[if_neg My,show i+(m-i)=m by lia,m3]at e
   exact PM (by simpa [Vc] using e)
theorem Ke(hO:KLt prog w A s κ kin){st:Pr}{a b o:Array Pg}{i j:Nat}{x:Pg}{R:Option Nat->Pr->Prop}(hk:kindOf st=kin)(kb:KeysOf κ b)(sb:Srt κ b.toList)(M:Mg κ a.toList b.toList o.toList i j)(hj:j<b.size)(hx:a.toList.drop i=x::a.toList.drop (i+1))(kx':κ.keyOf x.1=Vn (ky κ x))
  (h:∀k,j+k<=b.size->Mg κ a.toList b.toList (o++b.extract j (j+k)).toList i (j+k)->(∀z∈b.toList.drop (j+k),κ.kle (ky κ x) (ky κ z))->R (Vn k) st):wpS (Pj prog w) A E s (gal true x b j (b.size-j) 0) R st:=by
 refine mS hO hk (λm hm=>?_) kx' (by lia) (λm n hmn hn e=>?_) (λk hk1 h1 h2=>?_)
 ·obtain⟨x,e,kx,_⟩:=kS kb (show j+m<b.size by lia)
  exact{x,_,e,kx}
 ·unfold byd at e⊢
  rw[if_pos rfl]at e⊢
  exact Q9 (Bo sb (show j+m<=j+n by lia) (by lia)) e
 ·refine h k (by lia) ?_ ?_
  ·rw[M5,oB,Nk]
   refine M.chB k (by rw[MI];lia) λy hy z hz=>?_
   obtain⟨m,m1,m2,m3⟩:=jo kb hy
   have e:=h1 m m1
   unfold byd at e
   rw[if_pos rfl,m3]at e
   refine PC (PM e) ?_
   rw[hx]at hz
   rcases Mw.mp hz with rfl|hz
   ·exact PQ _
   ·have s:=M.sa.right
    rw[hx]at s
    exact(Oq.mp s).1 z hz
  ·intro z hz
   obtain⟨m,m1,m2,m3⟩:=y8 kb hz
   have e:=h2 (m-j) (by lia) (by lia)
   unfold byd at e
   rw[if_pos rfl,show j+(m-j)=m by lia,m3]at e
   exact e
theorem Mg.pA{a b o:Array Pg}{i j:Nat}{x:Pg}(M:Mg κ a.toList b.toList o.toList i j)(hx:a.toList.drop i=x::a.toList.drop (i+1))(le:∀z∈b.toList.drop j,κ.kle (ky κ x) (ky κ z)):Mg κ a.toList b.toList (o.push x).toList (i+1) j:=by
 have e:(a.toList.drop i).take 1=[x]:=by rw[hx];rfl
 have h:=M.chA 1 (by
  have:=congrArg QF hx
  rw[Nd,Mx]at this
  lia) (λu hu z hz=>by
   rw[e]at hu
   rw[Mp.mp hu]
   exact le z hz)
 rw[e]at h
 rwa [NX]
theorem Mg.pB{a b o:Array Pg}{i j:Nat}{y:Pg}(M:Mg κ a.toList b.toList o.toList i j)(hy:b.toList.drop j=y::b.toList.drop (j+1))(le:∀z∈a.toList.drop i,κ.kle (ky κ y) (ky κ z)):Mg κ a.toList b.toList (o.push y).toList i (j+1):=by
 have e:(b.toList.drop j).take 1=[y]:=by rw[hy];rfl
 have h:=M.chB 1 (by
  have:=congrArg QF hy
  rw[Nd,Mx]at this
  lia) (λu hu z hz=>by
   rw[e]at hu
   rw[Mp.mp hu]
   exact le z hz)
 rw[e]at h
 rwa [NX]
theorem Eh{l:List Pg}{x y:Pg}{r:List Pg}(s:Srt κ l)(e:l=x::r)(h:κ.kle (ky κ y) (ky κ x)):∀z∈l,κ.kle (ky κ y) (ky κ z):=λz hz=>by
 subst e
 rcases Mw.mp hz with rfl|hz
 ·exact h
 ·exact PC h ((Oq.mp s).1 z hz)
end
end L2
namespace L2
open PySem PyProof.Rows
noncomputable def mlo:Array Pg->Array Pg->StateT Pr Sem (Array Pg):=sortPriv%PySem.Builtin.mergeLo
section
variable{prog:Program}{w:Pf}{A:Pp}{E:E9->O5->Prop}{s:O5}{κ:KeyKind}{kin:Qt}
abbrev Gd(κ:KeyKind)(a b r:Array Pg):Prop:=r.toList.Perm (a.toList++b.toList)/\Srt κ r.toList
theorem Mg.dB{a b o:Array Pg}{i j:Nat}(M:Mg κ a.toList b.toList o.toList i j)(e:j=b.size):Gd κ a b (o++a.extract i++b.extract j):=by
 unfold Gd
 rw[M5,M5,uu,uu]
 exact M.Mm (by rw[MI];exact e)
theorem Mg.dA{a b o:Array Pg}{i j:Nat}(M:Mg κ a.toList b.toList o.toList i j)(e:i=a.size):Gd κ a b (o++a.extract i++b.extract j):=by
 unfold Gd
 rw[M5,M5,uu,uu]
 exact M.LN (by rw[MI];exact e)
theorem Mg.dL{a b o:Array Pg}{i j:Nat}(M:Mg κ a.toList b.toList o.toList i j)(le:∀x∈b.toList,∀y∈a.toList.drop (a.size-1),κ.kle (ky κ x) (ky κ y))(e:i+1=a.size):Gd κ a b (o++b.extract j++a.extract i):=by
 unfold Gd
 rw[M5,M5,uu,uu]
 exact M.last (by rw[show i=a.size-1 by lia];exact le)
noncomputable abbrev MSt:=Option (Array Pg)×Array Pg×Nat×Nat×Nat×Nat×Nat
noncomputable def lo2(a b o:Array Pg)(i j mg k k2:Nat):StateT Pr Sem (ForInStep MSt):=do
 let d<-Te a i
 if(i+1+1==a.size)=true then pure (.done (Vn (o.push d++b.extract j++a.extract (i+1)),o.push d,i+1,j,mg,k,k2))
 else if(decide (k<7)&&decide (k2<7))=true then pure (.done (Vo,o.push d,i+1,j,mg,k,k2))
 else pure (.yield (Vo,o.push d,i+1,j,mg,k,k2))
noncomputable def lo1(a b o:Array Pg)(i j mg k bc:Nat):StateT Pr Sem (ForInStep MSt):=do
 let y<-Te b j
 if(j+1==b.size)=true then pure (.done (Vn (o.push y++a.extract i++b.extract (j+1)),o.push y,i,j+1,mg,k,bc))
 else do
  let x<-Te a i
  let r<-gal true x b (j+1) (b.size-(j+1)) 0
  match r with
  |some k2=>
   if k2>0 then
    if(j+1+k2==b.size)=true then pure (.done (Vn (o.push y++b.extract (j+1) (j+1+k2)++a.extract i++b.extract (j+1+k2)),o.push y++b.extract (j+1) (j+1+k2),i,j+1+k2,mg,k,k2))
    else lo2 a b (o.push y++b.extract (j+1) (j+1+k2)) i (j+1+k2) mg k k2
   else lo2 a b (o.push y) i (j+1) mg k k2
  |_=>pure (.done (Vn (o.push y++a.extract i++b.extract (j+1)),o.push y,i,j+1,mg,k,bc))
noncomputable def lo0(a b o:Array Pg)(i j mg ac bc:Nat):StateT Pr Sem (ForInStep MSt):=do
 let y<-Te b j
 let r<-gal false y a i (a.size-i) 0
 match r with
 |some k=>
  if k>0 then
   if(i+k+1==a.size)=true then pure (.done (Vn (o++a.extract i (i+k)++b.extract j++a.extract (i+k)),o++a.extract i (i+k),i+k,j,mg,k,bc))
   else if(i+k==a.size)=true then pure (.done (Vn (o++a.extract i (i+k)++a.extract (i+k)++b.extract j),o++a.extract i (i+k),i+k,j,mg,k,bc))
   else lo1 a b (o++a.extract i (i+k)) (i+k) j mg k bc
  else lo1 a b o i j mg k bc
 |_=>pure (.done (Vn (o++a.extract i++b.extract j),o,i,j,mg,ac,bc))
theorem G2{st:Pr}{a b o:Array Pg}{i j mg k k2:Nat}{xa:Pg}{Q:ForInStep MSt->Pr->Prop}(hi:i+1<a.size)(exa:a[i]?=Vn xa)(M4:Mg κ a.toList b.toList (o.push xa).toList (i+1) j)(hl:∀x∈b.toList,∀y∈a.toList.drop (a.size-1),κ.kle (ky κ x) (ky κ y))(q1:∀r c,Gd κ a b r->Q (.done (Vn r,c)) st)(q2:i+1+1<a.size->Q (.done (Vo,o.push xa,i+1,j,mg,k,k2)) st/\Q (.yield (Vo,o.push xa,i+1,j,mg,k,k2)) st):wpS (Pj prog w) A E s (lo2 a b o i j mg k k2) Q st:=by
 unfold lo2
 refine O8 (bq exa ?_)
 by_cases e5:(i+1+1==a.size)=true
 ·rw[if_pos e5]
  exact Pb (q1 _ _ (M4.dL hl (by simpa using e5)))
 rw[if_neg e5]
 have e5:¬ i+1+1=a.size:=by simpa using e5
 have z:=q2 (by lia)
 split
 ·exact Pb z.1
 ·exact Pb z.2
theorem GX(hO:KLt prog w A s κ kin){st:Pr}{a b o:Array Pg}{i j mg k bc:Nat}{yb:Pg}{Q:ForInStep MSt->Pr->Prop}(hk:kindOf st=kin)(ka:KeysOf κ a)(kb:KeysOf κ b)(sb:Srt κ b.toList)(hl:∀x∈b.toList,∀y∈a.toList.drop (a.size-1),κ.kle (ky κ x) (ky κ y))(hi:i+1<a.size)(hj:j<b.size)(eyb:b[j]?=Vn yb)(dyb:b.toList.drop j=yb::b.toList.drop (j+1))(M:Mg κ a.toList b.toList o.toList i j)(le:∀z∈a.toList.drop i,κ.kle (ky κ yb) (ky κ z))(q1:∀r c,Gd κ a b r->Q (.done (Vn r,c)) st)
  (q2:∀o' j' k2,Mg κ a.toList b.toList (OQ o') (i+1) j'->i+1+1<a.size->j'<b.size->j+1<=j'->Q (.done (Vo,o',i+1,j',mg,k,k2)) st/\Q (.yield (Vo,o',i+1,j',mg,k,k2)) st):wpS (Pj prog w) A E s (lo1 a b o i j mg k bc) Q st:=by
 obtain⟨xa,exa,kxa,_,dxa,_⟩:=kS ka (show i<a.size by lia)
 have M2:=M.pB dyb le
 unfold lo1
 refine O8 (bq eyb ?_)
 by_cases e3:(j+1==b.size)=true
 ·rw[if_pos e3]
  exact Pb (q1 _ _ (M2.dB (by simpa using e3)))
 rw[if_neg e3]
 have e3:¬ j+1=b.size:=by simpa using e3
 refine O8 (bq exa (O8 (Ke hO hk kb sb M2 (by lia) dxa kxa λk2 hk2 M3 le3=>?_)))
 dsimp only
 by_cases k20:k2>0
 ·rw[if_pos k20]
  by_cases e4:(j+1+k2==b.size)=true
  ·rw[if_pos e4]
   exact Pb (q1 _ _ (M3.dB (by simpa using e4)))
  rw[if_neg e4]
  have e4:¬ j+1+k2=b.size:=by simpa using e4
  have M4:=M3.pA dxa le3
  exact G2 hi exa M4 hl q1 λz=>q2 _ _ _ M4 z (by lia) (by lia)
 ·rw[if_neg k20]
  have k2z:k2=0:=by lia
  subst k2z
  rw[show j+1+0=j+1 from rfl]at le3
  have M4:=M2.pA dxa le3
  exact G2 hi exa M4 hl q1 λz=>q2 _ _ _ M4 z (by lia) (by lia)
theorem Kn(hO:KLt prog w A s κ kin){st:Pr}{a b o:Array Pg}{i j mg ac bc:Nat}{Q:ForInStep MSt->Pr->Prop}(hk:kindOf st=kin)(ka:KeysOf κ a)(kb:KeysOf κ b)(sa:Srt κ a.toList)(sb:Srt κ b.toList)(hl:∀x∈b.toList,∀y∈a.toList.drop (a.size-1),κ.kle (ky κ x) (ky κ y))(hi:i+1<a.size)(hj:j<b.size)(M:Mg κ a.toList b.toList o.toList i j)(q1:∀r c,Gd κ a b r->Q (.done (Vn r,c)) st)
  (q2:∀o' i' j' k k2,Mg κ a.toList b.toList (OQ o') i' j'->i'+1<a.size->j'<b.size->i+j+2<=i'+j'->Q (.done (Vo,o',i',j',mg,k,k2)) st/\Q (.yield (Vo,o',i',j',mg,k,k2)) st):wpS (Pj prog w) A E s (lo0 a b o i j mg ac bc) Q st:=by
 obtain⟨yb,eyb,kyb,kkb,dyb,_⟩:=kS kb hj
 unfold lo0
 refine O8 (bq eyb (O8 (KH (o:=o) hO hk ka sa M (by lia) dyb kyb λk hk1 M1 le1=>?_)))
 dsimp only
 by_cases k0:k>0
 ·rw[if_pos k0]
  by_cases e1:(i+k+1==a.size)=true
  ·rw[if_pos e1]
   exact Pb (q1 _ _ (M1.dL hl (by simpa using e1)))
  rw[if_neg e1]
  by_cases e2:(i+k==a.size)=true
  ·rw[if_pos e2]
   exact Pb (q1 _ _ (M1.dA (by simpa using e2)))
  rw[if_neg e2]
  have e1:¬ i+k+1=a.size:=by simpa using e1
  have e2:¬ i+k=a.size:=by simpa using e2
  exact GX hO hk ka kb sb hl (by lia) hj eyb dyb M1 le1 q1 λo' j' k2 M' h1 h2 h3=>q2 _ _ _ _ _ M' h1 h2 (by lia)
 ·rw[if_neg k0]
  have kz:k=0:=by lia
  subst kz
  exact GX hO hk ka kb sb hl hi hj eyb dyb M le1 q1 λo' j' k2 M' h1 h2 h3=>q2 _ _ _ _ _ M' h1 h2 (by lia)
theorem F1(hO:KLt prog w A s κ kin){st:Pr}{a b:Array Pg}{Q:Array Pg->Pr->Prop}(hk:kindOf st=kin)(ka:KeysOf κ a)(kb:KeysOf κ b)(sa:Srt κ a.toList)(sb:Srt κ b.toList)(a1:1<=a.size)(b1:1<=b.size)(h0:κ.kle (KK κ b 0) (KK κ a 0))(hl:∀x∈b.toList,∀y∈a.toList.drop (a.size-1),κ.kle (ky κ x) (ky κ y))
  (h:∀r g,Gd κ a b r->Q r (sGr st g)):wpS (Pj prog w) A E s (mlo a b) Q st:=by
 obtain⟨y0,ey0,ky0,kk0,dy0,_⟩:=kS kb (show 0<b.size by lia)
 obtain⟨x0,ex0,kx0,kkx,dx0,_⟩:=kS ka (show 0<a.size by lia)
 have M0:Mg κ a.toList b.toList (#[y0]:Array Pg).toList 0 1:=by
  have M:Mg κ a.toList b.toList (#[]:Array Pg).toList 0 0:={by simp,by simpa using sa,by simpa using sb,MF _,MF _}
  have:=M.pB (y:=y0) dy0 (Eh (by simpa using sa) dx0 (by rw[<-kk0,<-kkx];exact h0))
  simpa using this
 refine O8 (RY (Rf {rfl,?_}))
 dsimp only
 refine O8 (bq ey0 ?_)
 by_cases c1:(1==b.size)=true
 ·rw[if_pos c1]
  exact Pb (h _ (Tf st) (M0.dB (by simpa using c1)))
 rw[if_neg c1]
 by_cases c2:(0+1==a.size)=true
 ·rw[if_pos c2]
  exact Pb (h _ (Tf st) (M0.dL hl (by simpa using c2)))
 rw[if_neg c2]
 have b2:1<b.size:=by
  have:¬ 1=b.size:=by simpa using c1
  lia
 have a2:0+1<a.size:=by
  have:¬ 1=a.size:=by simpa using c2
  lia
 refine O8 (Rb ?_)
 refine O8 (P9 (PZ (I:=λx c st'=>∃o i j mg g,c=(Vo,o,i,j,mg)/\st'=sGr st g/\Mg κ a.toList b.toList o.toList i j/\i+1<a.size/\j<b.size/\x+1<=i+j)
  (Q:=λc st'=>∃r g,c.1=Vn r/\st'=sGr st g/\Gd κ a b r) ?s1 ?f1 {_,_,_,_,Tf st,rfl,rfl,M0,a2,b2,by lia}) ?p1)
 case f1=>
  rintro c st' ⟨o,i,j,mg,g,rfl,rfl,M,hi,hj,hx⟩
  lia
 case p1=>
  rintro⟨c,cc⟩ st' ⟨r,g,e,rfl,hg⟩
  cases e
  exact Pb (h r g hg)
 case s1=>
  rintro x c st' _ hx ⟨o,i,j,mg,g,rfl,rfl,M,hi,hj,hx'⟩
  dsimp only
  refine O8 (P9 (PZ (I:=λy c st'=>∃o i j ac bc,c=(Vo,o,i,j,ac,bc)/\st'=sGr st g/\Mg κ a.toList b.toList o.toList i j/\i+1<a.size/\j<b.size/\x+1+min y 1<=i+j)
   (Q:=λc st'=>st'=sGr st g/\((∃r,c.1=Vn r/\Gd κ a b r)\/∃o i j ac bc,c=(Vo,o,i,j,ac,bc)/\Mg κ a.toList b.toList o.toList i j/\i+1<a.size/\j<b.size/\x+2<=i+j)) ?s2 ?f2 ⟨o,i,j,0,0,rfl,rfl,M,hi,hj,by lia⟩) ?p2)
  case f2=>
   rintro c st' ⟨o,i,j,ac,bc,rfl,rfl,M,hi,hj,hx⟩
   exact{rfl,.inr ⟨o,i,j,ac,bc,rfl,M,hi,hj,by lia⟩}
  case s2=>
   rintro y c st' _ hy ⟨o,i,j,ac,bc,rfl,rfl,M,hi,hj,hx⟩
   obtain⟨yb,eyb,kyb,kkb,dyb,_⟩:=kS kb hj
   obtain⟨xa,exa,kxa,kkx,dxa,_⟩:=kS ka (show i<a.size by lia)
   dsimp only
   refine O8 (bq eyb ?_)
   refine O8 (bq exa ?_)
   refine O8 (sN hO hk kyb kxa ?_)
   dsimp only
   cases z:κ.blt (ky κ yb) (ky κ xa)with
   |true=>
    rw[if_pos rfl]
    have M':=M.pB dyb (Eh M.sa.right dxa (PM z))
    refine O8 (bq eyb ?_)
    by_cases e1:(j+1==b.size)=true
    ·rw[if_pos e1]
     exact Pb {rfl,.inl {_,rfl,M'.dB (by simpa using e1)}}
    ·rw[if_neg e1]
     have e1:¬ j+1=b.size:=by simpa using e1
     split
     ·exact Pb {rfl,.inr {_,_,_,_,_,rfl,M',hi,by lia,by lia}}
     ·exact Pb {_,_,_,_,_,rfl,rfl,M',hi,by lia,by lia}
   |false=>
    rw[if_neg My]
    have M':=M.pA dxa (Eh M.sb.right dyb (show κ.kle _ _ from z))
    refine O8 (bq exa ?_)
    by_cases e1:(i+1+1==a.size)=true
    ·rw[if_pos e1]
     exact Pb {rfl,.inl {_,rfl,M'.dL hl (by simpa using e1)}}
    ·rw[if_neg e1]
     have e1:¬ i+1+1=a.size:=by simpa using e1
     split
     ·exact Pb {rfl,.inr {_,_,_,_,_,rfl,M',by lia,hj,by lia}}
     ·exact Pb {_,_,_,_,_,rfl,rfl,M',by lia,hj,by lia}
  case p2=>
   rintro c st' ⟨rfl,⟨r,e,hg⟩|⟨o,i,j,ac,bc,rfl,M,hi,hj,hx⟩⟩
   ·obtain⟨c,cc⟩:=c
    cases e
    exact Pb ⟨r,g,rfl,rfl,hg⟩
   ·dsimp only
    refine O8 (RY (Rf {rfl,?_}))
    refine O8 (P9 (PZ (I:=λy c st'=>∃o i j mg ac bc g,c=(Vo,o,i,j,mg,ac,bc)/\st'=sGr st g/\Mg κ a.toList b.toList o.toList i j/\i+1<a.size/\j<b.size/\x+2<=i+j)
     (Q:=λc st'=>∃g,st'=sGr st g/\((∃r,c.1=Vn r/\Gd κ a b r)\/∃o i j mg ac bc,c=(Vo,o,i,j,mg,ac,bc)/\Mg κ a.toList b.toList o.toList i j/\i+1<a.size/\j<b.size/\x+2<=i+j)) ?s3 ?f3 {o,i,j,_,ac,bc,g,rfl,rfl,M,hi,hj,hx}) ?p3)
    case f3=>
     rintro c st' ⟨o,i,j,mg,ac,bc,g,rfl,rfl,M,hi,hj,hx⟩
     exact{g,rfl,.inr ⟨o,i,j,mg,ac,bc,rfl,M,hi,hj,hx⟩}
    case p3=>
     rintro c st' ⟨g,rfl,⟨r,e,hg⟩|⟨o,i,j,mg,ac,bc,rfl,M,hi,hj,hx⟩⟩
     ·obtain⟨c,cc⟩:=c
      cases e
      exact Pb ⟨r,g,rfl,rfl,hg⟩
     ·dsimp only
      exact O8 (PX (Pb {o,i,j,_,_,rfl,rfl,M,hi,hj,by lia}))
    case s3=>
     clear M hi hj hx
     rintro y c st' _ hy ⟨o,i,j,mg,ac,bc,g,rfl,rfl,M,hi,hj,hx⟩
     dsimp only
     rcases OS 1 mg with mc|mc
     all_goals
      first|rw[if_pos (show mg>1 from mc)]|rw[if_neg (show ¬ mg>1 from O3.mpr mc)]
      refine O8 (PX ?_)
      exact Kn hO hk ka kb sa sb hl hi hj M (λr c g=>{_,rfl,.inl {_,rfl,g}}) λo' i' j' k k2 M' h1 h2 h3=>{{_,rfl,.inr {_,_,_,_,_,_,rfl,M',h1,h2,by lia}},{_,_,_,_,_,_,_,rfl,rfl,M',h1,h2,by lia}}
end
end L2
namespace L2
open PySem PyProof.Rows
section
variable{prog:Program}{w:Pf}{A:Pp}{E:E9->O5->Prop}{s:O5}{κ:KeyKind}{kin:Qt}
structure Mh(κ:KeyKind)(a b r:List Pg)(i j:Nat):Prop where
 pm:r.Perm (a.drop i++b.drop j)
 sa:Srt κ (a.take i++r)
 sb:Srt κ (b.take j++r)
 ha:i<=a.length
 hb:j<=b.length
theorem iP{l:List Pg}{t i:Nat}(h:t<=i):l.take i=l.take t++(l.drop t).take (i-t):=by
 have:=Oz (l:=l) (i:=t) (j:=i-t)
 rwa [show t+(i-t)=i by lia]at this
theorem tq{l:List Pg}{t i:Nat}(h:t<=i):l.drop t=(l.drop t).take (i-t)++l.drop i:=by
 have:=MO (i-t) (l.drop t)
 rw[N9,show t+(i-t)=i by lia]at this
 exact this.symm
theorem Mh.chA{a b r:List Pg}{i j:Nat}(h:Mh κ a b r i j)(t:Nat)(ht:t<=i)(le:∀x∈b.take j,∀y∈(a.drop t).take (i-t),κ.kle (ky κ x) (ky κ y)):Mh κ a b ((a.drop t).take (i-t)++r) t j:=by
 have sa:=h.sa
 rw[iP ht,MB]at sa
 refine{?_,sa,?_,ME ht h.ha,h.hb}
 ·have p:((a.drop t).take (i-t)++r).Perm ((a.drop t).take (i-t)++(a.drop i++b.drop j)):=PY _ h.pm
  rwa [<-MB,<-tq ht]at p
 ·refine Srt.app h.sb.left sa.right λx hx y hy=>?_
  rcases Mu.mp hy with hy|hy
  ·exact le x hx y hy
  ·exact h.sb.le x hx y hy
theorem Mh.chB{a b r:List Pg}{i j:Nat}(h:Mh κ a b r i j)(t:Nat)(ht:t<=j)(le:∀x∈a.take i,∀y∈(b.drop t).take (j-t),κ.kle (ky κ x) (ky κ y)):Mh κ a b ((b.drop t).take (j-t)++r) i t:=by
 have sb:=h.sb
 rw[iP ht,MB]at sb
 refine{?_,?_,sb,h.ha,ME ht h.hb}
 ·have p:((b.drop t).take (j-t)++r).Perm ((b.drop t).take (j-t)++(a.drop i++b.drop j)):=PY _ h.pm
  refine p.trans ?_
  have q:((b.drop t).take (j-t)++a.drop i++b.drop j).Perm (a.drop i++(b.drop t).take (j-t)++b.drop j):=Qx _ Np
  rwa [MB,MB (a.drop i),<-tq ht]at q
 ·refine Srt.app h.sa.left sb.right λx hx y hy=>?_
  rcases Mu.mp hy with hy|hy
  ·exact le x hx y hy
  ·exact h.sa.le x hx y hy
theorem Mh.end{a b r:List Pg}{i j:Nat}(h:Mh κ a b r i j)(e:i=0\/j=0):(a.take i++b.take j++r).Perm (a++b)/\Srt κ (a.take i++b.take j++r):=by
 constructor
 ·have p:(a.take i++b.take j++r).Perm (a.take i++b.take j++(a.drop i++b.drop j)):=PY _ h.pm
  refine p.trans ?_
  have q:(a.take i++(b.take j++a.drop i++b.drop j)).Perm (a.take i++(a.drop i++b.take j++b.drop j)):=PY _ (Qx _ Np)
  have e1:a.take i++b.take j++(a.drop i++b.drop j)=a.take i++(b.take j++a.drop i++b.drop j):=by simp
  have e2:a.take i++(a.drop i++b.take j++b.drop j)=a++b:=by
   rw[MB (a.drop i),MO,<-MB,MO]
  rw[e1,<-e2]
  exact q
 ·rcases e with e|e
  ·subst e
   rw[Oa,MX]
   exact h.sb
  ·subst e
   rw[Oa,MP]
   exact h.sa
theorem Mh.first{a b r:List Pg}{i j:Nat}(h:Mh κ a b r i j)(le:∀x∈b.take j,∀y∈a,κ.kle (ky κ x) (ky κ y)):(b.take j++a.take i++r).Perm (a++b)/\Srt κ (b.take j++a.take i++r):=by
 constructor
 ·have p:(b.take j++a.take i++r).Perm (b.take j++a.take i++(a.drop i++b.drop j)):=PY _ h.pm
  refine p.trans ?_
  have e1:b.take j++a.take i++(a.drop i++b.drop j)=b.take j++a++b.drop j:=by
   rw[MB,<-MB (a.take i),MO,MB]
  rw[e1]
  have q:(b.take j++a++b.drop j).Perm (a++b.take j++b.drop j):=Qx _ Np
  rwa [MB a,MO]at q
 ·rw[MB]
  refine Srt.app h.sb.left h.sa λx hx y hy=>?_
  rcases Mu.mp hy with hy|hy
  ·exact le x hx y (Nu hy)
  ·exact h.sb.le x hx y hy
theorem A6(xs:Array Pg)(i:Nat):(xs.extract 0 i).toList=xs.toList.take i:=by
 rw[oB,List.drop_zero,Nat.sub_zero]
theorem Kh{xs:Array Pg}(hk:KeysOf κ xs){i:Nat}(h:i<xs.size){x:Pg}(e:xs[i]?=Vn x):xs.toList.take (i+1)=xs.toList.take i++[x]:=by
 rw[Nf,MZ,e]
 rfl
theorem wc{xs:Array Pg}{i:Nat}{z:Pg}(h:z∈xs.toList.take i):∃j,j<i/\j<xs.size/\KK κ xs j=ky κ z:=by
 obtain⟨j,hj⟩:=MS h
 have hl:=(MC.mp hj).1
 rw[MT,MI]at hl
 rw[Nm (by lia),MZ]at hj
 refine{j,by lia,by lia,?_}
 unfold KK ky
 rw[hj]
theorem IE(hO:KLt prog w A s κ kin){st:Pr}{a b o:Array Pg}{i j:Nat}{y:Pg}{R:Option Nat->Pr->Prop}(hk:kindOf st=kin)(ka:KeysOf κ a)(sa:Srt κ a.toList)(M:Mh κ a.toList b.toList o.reverse.toList i j)(hi:1<=i)(ia:i<=a.size)(hy:b.toList.take j=b.toList.take (j-1)++[y])(ky':κ.keyOf y.1=Vn (ky κ y))
  (h:∀t,t<=i->Mh κ a.toList b.toList (o++(a.extract t i).reverse).reverse.toList t j->(∀z∈a.toList.take t,κ.kle (ky κ z) (ky κ y))->R (Vn t) st):wpS (Pj prog w) A E s (gal false y a 0 i (i-1)) R st:=by
 refine mS hO hk (λm hm=>?_) ky' (by lia) (λm n hmn hn e=>?_) (λt hk1 h1 h2=>?_)
 ·obtain⟨x,e,kx,_⟩:=kS ka (show 0+m<a.size by lia)
  exact{x,_,e,kx}
 ·unfold byd at e⊢
  rw[if_neg My]at e⊢
  have e:κ.kle (KK κ a (0+n)) (ky κ y):=by simpa [Q0] using e
  have:=PC (Bo sa (show 0+m<=0+n by lia) (by lia)) e
  simpa [Q0] using this
 ·refine h t hk1 ?_ ?_
  ·have e:(o++(a.extract t i).reverse).reverse.toList=(a.toList.drop t).take (i-t)++o.reverse.toList:=by
    rw[Tg,S8,M5,oB]
   rw[e]
   refine M.chA t hk1 λx hx z hz=>?_
   obtain⟨m,m1,m2,m3⟩:=jo ka hz
   have e:=h2 (t+m) (by lia) (by lia)
   unfold byd at e
   rw[if_neg My,show 0+(t+m)=t+m by lia,m3]at e
   have e:κ.kle (ky κ y) (ky κ z):=PM (by simpa [Vc] using e)
   refine PC ?_ e
   rw[hy]at hx
   rcases Mu.mp hx with hx|hx
   ·have s:=M.sb.left
    rw[hy]at s
    exact s.le x hx y (Mp.mpr rfl)
   ·rw[Mp.mp hx]
    exact PQ _
  ·intro z hz
   obtain⟨m,m1,m2,m3⟩:=wc (κ:=κ) hz
   have e:=h1 m m1
   unfold byd at e
   rw[if_neg My,show 0+m=m by lia,m3]at e
   simpa [Q0] using e
theorem Ih(hO:KLt prog w A s κ kin){st:Pr}{a b o:Array Pg}{i j:Nat}{x:Pg}{R:Option Nat->Pr->Prop}(hk:kindOf st=kin)(kb:KeysOf κ b)(sb:Srt κ b.toList)(M:Mh κ a.toList b.toList o.reverse.toList i j)(hj:1<=j)(jb:j<=b.size)(hx:a.toList.take i=a.toList.take (i-1)++[x])(kx':κ.keyOf x.1=Vn (ky κ x))
  (h:∀t,t<=j->Mh κ a.toList b.toList (o++(b.extract t j).reverse).reverse.toList i t->(∀z∈b.toList.take t,κ.kle (ky κ z) (ky κ x))->R (Vn t) st):wpS (Pj prog w) A E s (gal true x b 0 j (j-1)) R st:=by
 refine mS hO hk (λm hm=>?_) kx' (by lia) (λm n hmn hn e=>?_) (λt hk1 h1 h2=>?_)
 ·obtain⟨x,e,kx,_⟩:=kS kb (show 0+m<b.size by lia)
  exact{x,_,e,kx}
 ·unfold byd at e⊢
  rw[if_pos rfl]at e⊢
  exact Q9 (Bo sb (show 0+m<=0+n by lia) (by lia)) e
 ·refine h t hk1 ?_ ?_
  ·have e:(o++(b.extract t j).reverse).reverse.toList=(b.toList.drop t).take (j-t)++o.reverse.toList:=by
    rw[Tg,S8,M5,oB]
   rw[e]
   refine M.chB t hk1 λu hu z hz=>?_
   obtain⟨m,m1,m2,m3⟩:=jo kb hz
   have e:=h2 (t+m) (by lia) (by lia)
   unfold byd at e
   rw[if_pos rfl,show 0+(t+m)=t+m by lia,m3]at e
   refine PC ?_ (show κ.kle (ky κ x) (ky κ z)from e)
   rw[hx]at hu
   rcases Mu.mp hu with hu|hu
   ·have s:=M.sa.left
    rw[hx]at s
    exact s.le u hu x (Mp.mpr rfl)
   ·rw[Mp.mp hu]
    exact PQ _
  ·intro z hz
   obtain⟨m,m1,m2,m3⟩:=wc (κ:=κ) hz
   have e:=h1 m m1
   unfold byd at e
   rw[if_pos rfl,show 0+m=m by lia,m3]at e
   exact PM e
theorem DZ(o:Array Pg)(x:Pg):(o.push x).reverse.toList=x::o.reverse.toList:=by simp
theorem ES{l:List Pg}{i:Nat}{x:Pg}(h:l.take (i+1)=l.take i++[x]):(l.drop i).take 1=[x]:=by
 have e:=iP (l:=l) (show i<=i+1 by lia)
 rw[Nk,h]at e
 exact(List.append_cancel_left e).symm
theorem Mh.pA{a b o:Array Pg}{i j:Nat}{x:Pg}(M:Mh κ a.toList b.toList o.reverse.toList (i+1) j)(hx:a.toList.take (i+1)=a.toList.take i++[x])(le:∀z∈b.toList.take j,κ.kle (ky κ z) (ky κ x)):Mh κ a.toList b.toList (o.push x).reverse.toList i j:=by
 have e:=ES hx
 have h:=M.chA i (by lia) (λu hu z hz=>by
  rw[Nk,e]at hz
  rw[Mp.mp hz]
  exact le u hu)
 rw[Nk,e]at h
 rw[DZ]
 exact h
theorem Mh.pB{a b o:Array Pg}{i j:Nat}{y:Pg}(M:Mh κ a.toList b.toList o.reverse.toList i (j+1))(hy:b.toList.take (j+1)=b.toList.take j++[y])(le:∀z∈a.toList.take i,κ.kle (ky κ z) (ky κ y)):Mh κ a.toList b.toList (o.push y).reverse.toList i j:=by
 have e:=ES hy
 have h:=M.chB j (by lia) (λu hu z hz=>by
  rw[Nk,e]at hz
  rw[Mp.mp hz]
  exact le u hu)
 rw[Nk,e]at h
 rw[DZ]
 exact h
theorem G9{l m:List Pg}{x y:Pg}(s:Srt κ l)(e:l=m++[x])(h:κ.kle (ky κ x) (ky κ y)):∀z∈l,κ.kle (ky κ z) (ky κ y):=λz hz=>by
 subst e
 rcases Mu.mp hz with hz|hz
 ·exact PC (s.le z hz x (Mp.mpr rfl)) h
 ·rw[Mp.mp hz]
  exact h
end
end L2
namespace L2
open PySem PyProof.Rows
noncomputable def mhi:Array Pg->Array Pg->StateT Pr Sem (Array Pg):=sortPriv%PySem.Builtin.mergeHi
section
variable{prog:Program}{w:Pf}{A:Pp}{E:E9->O5->Prop}{s:O5}{κ:KeyKind}{kin:Qt}
theorem C5{xs:Array Pg}(hk:KeysOf κ xs){i:Nat}(h:1<=i)(hi:i<=xs.size):∃x,xs[i-1]?=Vn x/\κ.keyOf x.1=Vn (ky κ x)/\xs.toList.take i=xs.toList.take (i-1)++[x]:=by
 obtain⟨x,e,kx,_⟩:=kS hk (show i-1<xs.size by lia)
 refine{x,e,kx,?_}
 have:=Kh hk (show i-1<xs.size by lia) e
 rwa [show i-1+1=i by lia]at this
theorem Mh.qA{a b o:Array Pg}{i j:Nat}{x:Pg}(M:Mh κ a.toList b.toList o.reverse.toList i j)(hi:1<=i)(hx:a.toList.take i=a.toList.take (i-1)++[x])(le:∀z∈b.toList.take j,κ.kle (ky κ z) (ky κ x)):Mh κ a.toList b.toList (o.push x).reverse.toList (i-1) j:=by
 obtain⟨i,rfl⟩:∃k,i=k+1:={i-1,by lia}
 exact M.pA hx le
theorem Mh.qB{a b o:Array Pg}{i j:Nat}{y:Pg}(M:Mh κ a.toList b.toList o.reverse.toList i j)(hj:1<=j)(hy:b.toList.take j=b.toList.take (j-1)++[y])(le:∀z∈a.toList.take i,κ.kle (ky κ z) (ky κ y)):Mh κ a.toList b.toList (o.push y).reverse.toList i (j-1):=by
 obtain⟨j,rfl⟩:∃k,j=k+1:={j-1,by lia}
 exact M.pB hy le
theorem Mh.dE{a b o:Array Pg}{i j:Nat}(M:Mh κ a.toList b.toList o.reverse.toList i j)(e:i=0\/j=0):Gd κ a b (a.extract 0 i++b.extract 0 j++o.reverse):=by
 unfold Gd
 rw[M5,M5,A6,A6]
 exact M.end e
theorem Mh.dF{a b o:Array Pg}{i j:Nat}(M:Mh κ a.toList b.toList o.reverse.toList i j)(le:∀x∈b.toList.take 1,∀y∈a.toList,κ.kle (ky κ x) (ky κ y))(e:j=1):Gd κ a b (b.extract 0 j++a.extract 0 i++o.reverse):=by
 unfold Gd
 rw[M5,M5,A6,A6]
 subst e
 exact M.first le
noncomputable abbrev MHt:=Option (Array Pg)×Nat×Nat×Array Pg×Nat×Nat×Nat
noncomputable def hi2(a b o:Array Pg)(i j mg k k2:Nat):StateT Pr Sem (ForInStep MHt):=do
 let d<-Te a (i-1)
 if(i-1==0)=true then pure (.done (Vn (a.extract 0 (i-1)++b.extract 0 j++(o.push d).reverse),i-1,j,o.push d,mg,k,k2))
 else if(decide (k<7)&&decide (k2<7))=true then pure (.done (Vo,i-1,j,o.push d,mg,k,k2))
 else pure (.yield (Vo,i-1,j,o.push d,mg,k,k2))
noncomputable def hi1(a b o:Array Pg)(i j mg k bc:Nat):StateT Pr Sem (ForInStep MHt):=do
 let y<-Te b (j-1)
 if(j-1==1)=true then pure (.done (Vn (b.extract 0 (j-1)++a.extract 0 i++(o.push y).reverse),i,j-1,o.push y,mg,k,bc))
 else do
  let x<-Te a (i-1)
  let r<-gal true x b 0 (j-1) (j-1-1)
  match r with
  |some u=>
   if j-1-u>0 then
    if(u==1)=true then pure (.done (Vn (b.extract 0 u++a.extract 0 i++(o.push y++(b.extract u (j-1)).reverse).reverse),i,u,o.push y++(b.extract u (j-1)).reverse,mg,k,j-1-u))
    else if(u==0)=true then pure (.done (Vn (a.extract 0 i++b.extract 0 u++(o.push y++(b.extract u (j-1)).reverse).reverse),i,u,o.push y++(b.extract u (j-1)).reverse,mg,k,j-1-u))
    else hi2 a b (o.push y++(b.extract u (j-1)).reverse) i u mg k (j-1-u)
   else hi2 a b (o.push y) i (j-1) mg k (j-1-u)
  |_=>pure (.done (Vn (a.extract 0 i++b.extract 0 (j-1)++(o.push y).reverse),i,j-1,o.push y,mg,k,bc))
noncomputable def hi0(a b o:Array Pg)(i j mg ac bc:Nat):StateT Pr Sem (ForInStep MHt):=do
 let y<-Te b (j-1)
 let r<-gal false y a 0 i (i-1)
 match r with
 |some t=>
  if i-t>0 then
   if(t==0)=true then pure (.done (Vn (a.extract 0 t++b.extract 0 j++(o++(a.extract t i).reverse).reverse),t,j,o++(a.extract t i).reverse,mg,i-t,bc))
   else hi1 a b (o++(a.extract t i).reverse) t j mg (i-t) bc
  else hi1 a b o i j mg (i-t) bc
 |_=>pure (.done (Vn (a.extract 0 i++b.extract 0 j++o.reverse),i,j,o,mg,ac,bc))
theorem GZ{st:Pr}{a b o:Array Pg}{i j mg k k2:Nat}{xa:Pg}{Q:ForInStep MHt->Pr->Prop}(exa:a[i-1]?=Vn xa)(M4:Mh κ a.toList b.toList (o.push xa).reverse.toList (i-1) j)(q1:∀r c,Gd κ a b r->Q (.done (Vn r,c)) st)(q2:1<=i-1->Q (.done (Vo,i-1,j,o.push xa,mg,k,k2)) st/\Q (.yield (Vo,i-1,j,o.push xa,mg,k,k2)) st):wpS (Pj prog w) A E s (hi2 a b o i j mg k k2) Q st:=by
 unfold hi2
 refine O8 (bq exa ?_)
 by_cases e6:(i-1==0)=true
 ·rw[if_pos e6]
  exact Pb (q1 _ _ (M4.dE (.inl (by simpa using e6))))
 rw[if_neg e6]
 have e6:¬ i-1=0:=by simpa using e6
 have z:=q2 (by lia)
 split
 ·exact Pb z.1
 ·exact Pb z.2
theorem G8(hO:KLt prog w A s κ kin){st:Pr}{a b o:Array Pg}{i j mg k bc:Nat}{yb:Pg}{Q:ForInStep MHt->Pr->Prop}(hk:kindOf st=kin)(ka:KeysOf κ a)(kb:KeysOf κ b)(sb:Srt κ b.toList)(hf:∀x∈b.toList.take 1,∀y∈a.toList,κ.kle (ky κ x) (ky κ y))(hi:1<=i)(ia:i<=a.size)(hj:2<=j)(jb:j<=b.size)(eyb:b[j-1]?=Vn yb)(dyb:b.toList.take j=b.toList.take (j-1)++[yb])(M:Mh κ a.toList b.toList o.reverse.toList i j)(le:∀z∈a.toList.take i,κ.kle (ky κ z) (ky κ yb))(q1:∀r c,Gd κ a b r->Q (.done (Vn r,c)) st)
  (q2:∀o' j' k2,Mh κ a.toList b.toList (Array.reverse o').toList (i-1) j'->1<=i-1->2<=j'->j'+1<=j->Q (.done (Vo,i-1,j',o',mg,k,k2)) st/\Q (.yield (Vo,i-1,j',o',mg,k,k2)) st):wpS (Pj prog w) A E s (hi1 a b o i j mg k bc) Q st:=by
 have M2:=M.qB (show 1<=j by lia) dyb le
 obtain⟨xa,exa,kxa,dxa⟩:=C5 ka hi ia
 unfold hi1
 refine O8 (bq eyb ?_)
 by_cases e3:(j-1==1)=true
 ·rw[if_pos e3]
  exact Pb (q1 _ _ (M2.dF hf (by simpa using e3)))
 rw[if_neg e3]
 have e3:¬ j-1=1:=by simpa using e3
 refine O8 (bq exa (O8 (Ih hO hk kb sb M2 (by lia) (by lia) dxa kxa λu hk2 M3 le3=>?_)))
 dsimp only
 by_cases k20:j-1-u>0
 ·rw[if_pos k20]
  by_cases e4:(u==1)=true
  ·rw[if_pos e4]
   exact Pb (q1 _ _ (M3.dF hf (by simpa using e4)))
  rw[if_neg e4]
  have e4:¬ u=1:=by simpa using e4
  by_cases e5:(u==0)=true
  ·rw[if_pos e5]
   exact Pb (q1 _ _ (M3.dE (.inr (by simpa using e5))))
  rw[if_neg e5]
  have e5:¬ u=0:=by simpa using e5
  have M4:=M3.qA hi dxa le3
  exact GZ exa M4 q1 λz=>q2 _ _ _ M4 z (by lia) (by lia)
 ·rw[if_neg k20]
  have uz:u=j-1:=by lia
  rw[uz]at le3
  have M4:=M2.qA hi dxa le3
  exact GZ exa M4 q1 λz=>q2 _ _ _ M4 z (by lia) (by lia)
theorem JL(hO:KLt prog w A s κ kin){st:Pr}{a b o:Array Pg}{i j mg ac bc:Nat}{Q:ForInStep MHt->Pr->Prop}(hk:kindOf st=kin)(ka:KeysOf κ a)(kb:KeysOf κ b)(sa:Srt κ a.toList)(sb:Srt κ b.toList)(hf:∀x∈b.toList.take 1,∀y∈a.toList,κ.kle (ky κ x) (ky κ y))(hi:1<=i)(ia:i<=a.size)(hj:2<=j)(jb:j<=b.size)(M:Mh κ a.toList b.toList o.reverse.toList i j)(q1:∀r c,Gd κ a b r->Q (.done (Vn r,c)) st)
  (q2:∀o' i' j' k k2,Mh κ a.toList b.toList (Array.reverse o').toList i' j'->1<=i'->i'<=a.size->2<=j'->j'<=b.size->i'+j'+2<=i+j->Q (.done (Vo,i',j',o',mg,k,k2)) st/\Q (.yield (Vo,i',j',o',mg,k,k2)) st):wpS (Pj prog w) A E s (hi0 a b o i j mg ac bc) Q st:=by
 obtain⟨yb,eyb,kyb,dyb⟩:=C5 kb (show 1<=j by lia) jb
 unfold hi0
 refine O8 (bq eyb (O8 (IE (o:=o) hO hk ka sa M hi ia dyb kyb λt hk1 M1 le1=>?_)))
 dsimp only
 by_cases k0:i-t>0
 ·rw[if_pos k0]
  by_cases e1:(t==0)=true
  ·rw[if_pos e1]
   exact Pb (q1 _ _ (M1.dE (.inl (by simpa using e1))))
  rw[if_neg e1]
  have e1:¬ t=0:=by simpa using e1
  exact G8 hO hk ka kb sb hf (by lia) (by lia) hj jb eyb dyb M1 le1 q1 λo' j' k2 M' h1 h2 h3=>q2 _ _ _ _ _ M' h1 (by lia) h2 (by lia) (by lia)
 ·rw[if_neg k0]
  have tz:t=i:=by lia
  rw[tz]at le1
  exact G8 hO hk ka kb sb hf hi ia hj jb eyb dyb M le1 q1 λo' j' k2 M' h1 h2 h3=>q2 _ _ _ _ _ M' h1 (by lia) h2 (by lia) (by lia)
theorem Fx(hO:KLt prog w A s κ kin){st:Pr}{a b:Array Pg}{Q:Array Pg->Pr->Prop}(hk:kindOf st=kin)(ka:KeysOf κ a)(kb:KeysOf κ b)(sa:Srt κ a.toList)(sb:Srt κ b.toList)(a1:1<=a.size)(b1:1<=b.size)(hf:∀x∈b.toList.take 1,∀y∈a.toList,κ.kle (ky κ x) (ky κ y))(hl:∀x∈b.toList,∀y∈a.toList.drop (a.size-1),κ.kle (ky κ x) (ky κ y))
  (h:∀r g,Gd κ a b r->Q r (sGr st g)):wpS (Pj prog w) A E s (mhi a b) Q st:=by
 obtain⟨x0,ex0,kx0,tx0⟩:=C5 ka a1 (Ms _)
 have M0:Mh κ a.toList b.toList (#[x0]:Array Pg).reverse.toList (a.size-1) b.size:=by
  have ta:a.toList.take a.size=a.toList:=Nc (by rw[MI];exact Ms _)
  have tb:b.toList.take b.size=b.toList:=Nc (by rw[MI];exact Ms _)
  have M:Mh κ a.toList b.toList (#[]:Array Pg).reverse.toList a.size b.size:={by rw[SV (by rw[MI];exact Ms _),SV (by rw[MI];exact Ms _)];simp,by rw[ta];simpa using sa,by rw[tb];simpa using sb,by rw[MI];exact Ms _,by rw[MI];exact Ms _}
  refine M.qA a1 tx0 λz hz=>hl z (Nu hz) x0 ?_
  obtain⟨x1,ex1,_,_,dx1,_⟩:=kS ka (show a.size-1<a.size by lia)
  rw[ex0]at ex1
  cases ex1
  rw[dx1]
  exact MA
 refine O8 (RY (Rf {rfl,?_}))
 dsimp only
 refine O8 (bq ex0 ?_)
 by_cases c1:(a.size-1==0)=true
 ·rw[if_pos c1]
  exact Pb (h _ (Tf st) (M0.dE (.inl (by simpa using c1))))
 rw[if_neg c1]
 by_cases c2:(b.size==1)=true
 ·rw[if_pos c2]
  exact Pb (h _ (Tf st) (M0.dF hf (by simpa using c2)))
 rw[if_neg c2]
 have c1:¬ a.size-1=0:=by simpa using c1
 have c2:¬ b.size=1:=by simpa using c2
 refine O8 (Rb ?_)
 refine O8 (P9 (PZ (I:=λx c st'=>∃o i j mg g,c=(Vo,i,j,o,mg)/\st'=sGr st g/\Mh κ a.toList b.toList o.reverse.toList i j/\1<=i/\i<=a.size/\2<=j/\j<=b.size/\x+1+i+j<=a.size+b.size)
  (Q:=λc st'=>∃r g,c.1=Vn r/\st'=sGr st g/\Gd κ a b r) ?s1 ?f1 {_,_,_,_,Tf st,rfl,rfl,M0,by lia,by lia,by lia,Ms _,by lia}) ?p1)
 case f1=>
  rintro c st' ⟨o,i,j,mg,g,rfl,rfl,M,hi,ia,hj,jb,hx⟩
  lia
 case p1=>
  rintro⟨c,cc⟩ st' ⟨r,g,e,rfl,hg⟩
  cases e
  exact Pb (h r g hg)
 case s1=>
  rintro x c st' _ hx ⟨o,i,j,mg,g,rfl,rfl,M,hi,ia,hj,jb,hx'⟩
  dsimp only
  refine O8 (P9 (PZ (I:=λy c st'=>∃o i j ac bc,c=(Vo,i,j,o,ac,bc)/\st'=sGr st g/\Mh κ a.toList b.toList o.reverse.toList i j/\1<=i/\i<=a.size/\2<=j/\j<=b.size/\x+1+min y 1+i+j<=a.size+b.size)
   (Q:=λc st'=>st'=sGr st g/\((∃r,c.1=Vn r/\Gd κ a b r)\/∃o i j ac bc,c=(Vo,i,j,o,ac,bc)/\Mh κ a.toList b.toList o.reverse.toList i j/\1<=i/\i<=a.size/\2<=j/\j<=b.size/\x+2+i+j<=a.size+b.size)) ?s2 ?f2 ⟨o,i,j,0,0,rfl,rfl,M,hi,ia,hj,jb,by lia⟩) ?p2)
  case f2=>
   rintro c st' ⟨o,i,j,ac,bc,rfl,rfl,M,hi,ia,hj,jb,hx⟩
   exact{rfl,.inr ⟨o,i,j,ac,bc,rfl,M,hi,ia,hj,jb,by lia⟩}
  case s2=>
   rintro y c st' _ hy ⟨o,i,j,ac,bc,rfl,rfl,M,hi,ia,hj,jb,hx⟩
   obtain⟨yb,eyb,kyb,dyb⟩:=C5 kb (show 1<=j by lia) jb
   obtain⟨xa,exa,kxa,dxa⟩:=C5 ka hi ia
   dsimp only
   refine O8 (bq eyb ?_)
   refine O8 (bq exa ?_)
   refine O8 (sN hO hk kyb kxa ?_)
   dsimp only
   cases z:κ.blt (ky κ yb) (ky κ xa)with
   |true=>
    rw[if_pos rfl]
    have M':=M.qA hi dxa (G9 M.sb.left dyb (PM z))
    refine O8 (bq exa ?_)
    by_cases e1:(i-1==0)=true
    ·rw[if_pos e1]
     exact Pb {rfl,.inl {_,rfl,M'.dE (.inl (by simpa using e1))}}
    ·rw[if_neg e1]
     have e1:¬ i-1=0:=by simpa using e1
     split
     ·exact Pb {rfl,.inr {_,_,_,_,_,rfl,M',by lia,by lia,hj,jb,by lia}}
     ·exact Pb {_,_,_,_,_,rfl,rfl,M',by lia,by lia,hj,jb,by lia}
   |false=>
    rw[if_neg My]
    have M':=M.qB (by lia) dyb (G9 M.sa.left dxa (show κ.kle _ _ from z))
    refine O8 (bq eyb ?_)
    by_cases e1:(j-1==1)=true
    ·rw[if_pos e1]
     exact Pb {rfl,.inl {_,rfl,M'.dF hf (by simpa using e1)}}
    ·rw[if_neg e1]
     have e1:¬ j-1=1:=by simpa using e1
     split
     ·exact Pb {rfl,.inr {_,_,_,_,_,rfl,M',hi,ia,by lia,by lia,by lia}}
     ·exact Pb {_,_,_,_,_,rfl,rfl,M',hi,ia,by lia,by lia,by lia}
  case p2=>
   rintro c st' ⟨rfl,⟨r,e,hg⟩|⟨o,i,j,ac,bc,rfl,M,hi,ia,hj,jb,hx⟩⟩
   ·obtain⟨c,cc⟩:=c
    cases e
    exact Pb ⟨r,g,rfl,rfl,hg⟩
   ·dsimp only
    refine O8 (RY (Rf {rfl,?_}))
    refine O8 (P9 (PZ (I:=λy c st'=>∃o i j mg ac bc g,c=(Vo,i,j,o,mg,ac,bc)/\st'=sGr st g/\Mh κ a.toList b.toList o.reverse.toList i j/\1<=i/\i<=a.size/\2<=j/\j<=b.size/\x+2+i+j<=a.size+b.size)
     (Q:=λc st'=>∃g,st'=sGr st g/\((∃r,c.1=Vn r/\Gd κ a b r)\/∃o i j mg ac bc,c=(Vo,i,j,o,mg,ac,bc)/\Mh κ a.toList b.toList o.reverse.toList i j/\1<=i/\i<=a.size/\2<=j/\j<=b.size/\x+2+i+j<=a.size+b.size)) ?s3 ?f3 {o,i,j,_,ac,bc,g,rfl,rfl,M,hi,ia,hj,jb,hx}) ?p3)
    case f3=>
     rintro c st' ⟨o,i,j,mg,ac,bc,g,rfl,rfl,M,hi,ia,hj,jb,hx⟩
     exact{g,rfl,.inr ⟨o,i,j,mg,ac,bc,rfl,M,hi,ia,hj,jb,hx⟩}
    case p3=>
     rintro c st' ⟨g,rfl,⟨r,e,hg⟩|⟨o,i,j,mg,ac,bc,rfl,M,hi,ia,hj,jb,hx⟩⟩
     ·obtain⟨c,cc⟩:=c
      cases e
      exact Pb ⟨r,g,rfl,rfl,hg⟩
     ·dsimp only
      exact O8 (PX (Pb {o,i,j,_,_,rfl,rfl,M,hi,ia,hj,jb,by lia}))
    case s3=>
     clear M hi hj hx ia jb
     rintro y c st' _ hy ⟨o,i,j,mg,ac,bc,g,rfl,rfl,M,hi,ia,hj,jb,hx⟩
     dsimp only
     rcases OS 1 mg with mc|mc
     all_goals
      first|rw[if_pos (show mg>1 from mc)]|rw[if_neg (show ¬ mg>1 from O3.mpr mc)]
      refine O8 (PX ?_)
      exact JL hO hk ka kb sa sb hf hi ia hj jb M (λr c g=>{_,rfl,.inl {_,rfl,g}}) λo' i' j' k k2 M' h1 h2 h3 h4 h5=>{{_,rfl,.inr {_,_,_,_,_,_,rfl,M',h1,h2,h3,h4,by lia}},{_,_,_,_,_,_,_,rfl,rfl,M',h1,h2,h3,h4,by lia}}
end
end L2
namespace L2
open PySem PyProof.Rows
section
variable{prog:Program}{w:Pf}{A:Pp}{E:E9->O5->Prop}{s:O5}{κ:KeyKind}{kin:Qt}
noncomputable def A8(xs:Array Pg)(i:Nat)(m:List (Pg×Nat)):Array Pg:=m.foldl (λa p=>a.setIfInBounds (i+p.2) p.1) xs
theorem AF(i:Nat):∀(m:List Pg)(k:Nat)(xs:Array Pg),i+k+m.length<=xs.size->(A8 xs i (m.zipIdx k)).toList=xs.toList.take (i+k)++m++xs.toList.drop (i+k+m.length)
 | [],k,xs,h=>by
  show xs.toList=_
  simp
 |x::m,k,xs,h=>by
  rw[Mx]at h
  rw[List.zipIdx_cons]
  show(A8 (xs.setIfInBounds (i+k) x) i (m.zipIdx (k+1))).toList=_
  rw[AF i m (k+1) _ (by rw[Array.size_setIfInBounds];lia),RZ]
  have hl:i+k<xs.toList.length:=by rw[MI];lia
  have e1:(xs.toList.set (i+k) x).take (i+(k+1))=xs.toList.take (i+k)++[x]:=by
   rw[show i+(k+1)=i+k+1 by lia,Nf,List.take_set_of_le (Ms _),Ow hl]
   rfl
  have e2:(xs.toList.set (i+k) x).drop (i+(k+1)+m.length)=xs.toList.drop (i+k+(m.length+1)):=by
   rw[List.drop_set_of_lt (by lia)]
   congr 1
   lia
  rw[e1,e2,Mx]
  simp
theorem FA{σ:Type}{M:Model}{Q:PUnit->σ->Prop}{st st':σ}(h:Q ⟨⟩ st'):wpS M A E s (set st':StateT σ Sem PUnit) Q st:=by
 unfold wpS
 rw[StateT.run_set]
 exact Pc ⟨rfl,h⟩
def Seg(κ:KeyKind)(xs:Array Pg)(i n:Nat):Prop:=∀p q,i<=p->p<=q->q<i+n->κ.kle (KK κ xs p) (KK κ xs q)
theorem K6{xs:Array Pg}{i:Nat}{x:Pg}(h:xs.toList[i]?=Vn x):KK κ xs i=ky κ x:=by
 rw[MZ]at h
 unfold KK ky
 rw[h]
theorem oZ{xs:Array Pg}{i n:Nat}(h:Seg κ xs i n)(hl:i+n<=xs.size):Srt κ ((xs.toList.drop i).take n):=by
 refine Oj.mpr λp q hp hq hpq=>?_
 rw[MT,Nd,MI]at hp hq
 have g:∀r (hr:r<((xs.toList.drop i).take n).length),KK κ xs (i+r)=ky κ (((xs.toList.drop i).take n)[r]):=λr hr=>by
  refine K6 ?_
  rw[<-NR,<-Mv hr,Nm (by rw[MT,Nd,MI]at hr;lia)]
 rw[<-g p,<-g q]
 exact h _ _ (by lia) (by lia) (by lia)
theorem F2{xs:Array Pg}{P M S:List Pg}{i n:Nat}(e:xs.toList=P++M++S)(hi:P.length=i)(hn:M.length=n)(h:Srt κ M):Seg κ xs i n:=by
 intro p q hp hpq hq
 have g:∀r,r<n->∃x,M[r]?=Vn x/\KK κ xs (i+r)=ky κ x:=λr hr=>by
  refine{M[r]'(by lia),Mv (by lia),K6 ?_}
  rw[e,MB,MU (by lia),MW (by lia),show i+r-P.length=r by lia]
  exact Mv (by lia)
 obtain⟨x,hx,kx⟩:=g (p-i) (by lia)
 obtain⟨y,hy,kyy⟩:=g (q-i) (by lia)
 rw[show i+(p-i)=p by lia]at kx
 rw[show i+(q-i)=q by lia]at kyy
 rw[kx,kyy]
 rcases OS p q with hlt|hge
 ·obtain⟨l1,g1⟩:=MC.mp hx
  obtain⟨l2,g2⟩:=MC.mp hy
  rw[<-g1,<-g2]
  exact Oj.mp h (p-i) (q-i) l1 l2 (by lia)
 ·have:p=q:=by lia
  subst this
  rw[hx]at hy
  cases hy
  exact PQ _
theorem Fy{A1 A2 B1 B2 m:List Pg}(sA:Srt κ (A1++A2))(sB:Srt κ (B1++B2))(pm:m.Perm (A2++B1))(sm:Srt κ m)(fA:∀x∈A1,∀y∈B1++B2,κ.kle (ky κ x) (ky κ y))(fB:∀x∈A2,∀y∈B2,κ.kle (ky κ x) (ky κ y)):Srt κ (A1++m++B2)/\(A1++m++B2).Perm (A1++A2++(B1++B2)):=by
 constructor
 ·rw[MB]
  refine Srt.app sA.left (Srt.app sm sB.right λx hx y hy=>?_) λx hx y hy=>?_
  ·rcases Mu.mp (pm.mem_iff.mp hx)with hx|hx
   ·exact fB x hx y hy
   ·exact sB.le x hx y hy
  ·rcases Mu.mp hy with hy|hy
   ·rcases Mu.mp (pm.mem_iff.mp hy)with hy|hy
    ·exact sA.le x hx y hy
    ·exact fA x hx y (MK _ hy)
   ·exact fA x hx y (MD _ hy)
 ·have e:A1++A2++(B1++B2)=A1++(A2++B1)++B2:=by simp
  rw[e]
  exact Qx _ (PY _ pm)
theorem wb{xs:Array Pg}{i j p:Nat}(h:p<j-i)(hj:j<=xs.size):KK κ (xs.extract i j) p=KK κ xs (i+p):=by
 refine KK_congr ?_
 rw[Array.getElem?_extract,if_pos (by lia)]
theorem yk{xs:Array Pg}(hk:KeysOf κ xs)(i j:Nat):KeysOf κ (xs.extract i j):=λp hp=>by
 rw[oB]at hp
 exact hk p (Oe (Nu hp))
end
end L2
namespace L2
open PySem PyProof.Rows
section
variable{prog:Program}{w:Pf}{A:Pp}{E:E9->O5->Prop}{s:O5}{κ:KeyKind}{kin:Qt}
theorem Fi(hO:KLt prog w A s κ kin){st:Pr}{i sa na pw nb pw2:Nat}{Q:Bool->Pr->Prop}(hk:kindOf st=kin)(hf:QZ st=Vo)(kx:KeysOf κ (O7 st))(h1:(Pm st)[i]?=Vn (sa,na,pw))(h2:(Pm st)[i+1]?=Vn (sa+na,nb,pw2))(a1:1<=na)(b1:1<=nb)(hsz:sa+na+nb<=(O7 st).size)(gA:Seg κ (O7 st) sa na)(gB:Seg κ (O7 st) (sa+na) nb)
  (h:∀st' M,kindOf st'=kin->QZ st'=Vo->Pm st'=((Pm st).setIfInBounds i (sa,na+nb,pw)).eraseIdxIfInBounds (i+1)->(O7 st').toList=(O7 st).toList.take sa++M++(O7 st).toList.drop (sa+na+nb)->Srt κ M->M.Perm (((O7 st).toList.drop sa).take (na+nb))->Q true st'):wpS (Pj prog w) A E s (mergeAt' i) Q st:=by
 refine O8 (Rb ?_)
 dsimp only
 rw[h1,h2]
 dsimp only
 refine O8 (FA ?_)
 have lsz:(O7 st).toList.length=(O7 st).size:=MI
 have fin:∀(k u:Nat)(m:List Pg)(st':Pr),k<=na->u<=nb->kindOf st'=kin->QZ st'=Vo->Pm st'=((Pm st).setIfInBounds i (sa,na+nb,pw)).eraseIdxIfInBounds (i+1)->(O7 st').toList=(O7 st).toList.take (sa+k)++m++(O7 st).toList.drop (sa+na+u)->m.Perm (((O7 st).toList.drop (sa+k)).take (na-k)++((O7 st).toList.drop (sa+na)).take u)->Srt κ m->
   (∀x∈((O7 st).toList.drop sa).take k,∀y∈((O7 st).toList.drop (sa+na)).take nb,κ.kle (ky κ x) (ky κ y))->(∀x∈((O7 st).toList.drop (sa+k)).take (na-k),∀y∈((O7 st).toList.drop (sa+na+u)).take (nb-u),κ.kle (ky κ x) (ky κ y))->Q true st':=by
  intro k u m st' hk1 hu1 g1 g2 g3 g4 pm sm fA fB
  have sA:=oZ gA (by lia)
  have sB:=oZ gB (by lia)
  have eA:((O7 st).toList.drop sa).take na=((O7 st).toList.drop sa).take k++((O7 st).toList.drop (sa+k)).take (na-k):=by
   have:=iP (l:=(O7 st).toList.drop sa) hk1
   rwa [N9]at this
  have eB:((O7 st).toList.drop (sa+na)).take nb=((O7 st).toList.drop (sa+na)).take u++((O7 st).toList.drop (sa+na+u)).take (nb-u):=by
   have:=iP (l:=(O7 st).toList.drop (sa+na)) hu1
   rwa [N9]at this
  have eAB:((O7 st).toList.drop sa).take (na+nb)=((O7 st).toList.drop sa).take na++((O7 st).toList.drop (sa+na)).take nb:=by
   have:=iP (l:=(O7 st).toList.drop sa) (show na<=na+nb by lia)
   rwa [N9,Nk]at this
  rw[eA]at sA
  rw[eB]at sB fA
  obtain⟨r1,r2⟩:=Fy sA sB pm sm fA fB
  refine h st' _ g1 g2 g3 ?_ r1 ?_
  ·have e3:=tq (l:=(O7 st).toList) (show sa+na+u<=sa+na+nb by lia)
   rw[show sa+na+nb-(sa+na+u)=nb-u by lia]at e3
   rw[g4,Oz]
   conv=>lhs;rw[e3]
   simp
  ·rw[eAB,eA,eB]
   exact r2
 obtain⟨y0,ey0,ky0,kk0,dy0,_⟩:=kS kx (show sa+na<(O7 st).size by lia)
 refine O8 (bq ey0 ?_)
 refine O8 (mS hO hk (λm hm=>?_) ky0 (by lia) (λm n hmn hn e=>?_) (λk hk1 g1 g2=>?_))
 ·obtain⟨x,e,kx,_⟩:=kS kx (show sa+m<(O7 st).size by lia)
  exact{x,_,e,kx}
 ·unfold byd at e⊢
  rw[if_neg My]at e⊢
  have e:κ.kle (KK κ (O7 st) (sa+n)) (ky κ y0):=by simpa [Q0] using e
  have:=PC (gA (sa+m) (sa+n) (by lia) (by lia) (by lia)) e
  simpa [Q0] using this
 dsimp only
 have le1:∀x∈((O7 st).toList.drop sa).take k,∀y∈((O7 st).toList.drop (sa+na)).take nb,κ.kle (ky κ x) (ky κ y):=λx hx y hy=>by
  obtain⟨m,m1,m2,m3⟩:=jo kx hx
  obtain⟨n,n1,n2,n3⟩:=jo kx hy
  have e:=g1 m m1
  unfold byd at e
  rw[if_neg My,m3]at e
  have e:κ.kle (ky κ x) (ky κ y0):=by simpa [Q0] using e
  refine PC e ?_
  rw[<-kk0,<-n3]
  exact gB _ _ (by lia) (by lia) (by lia)
 have lt1:∀m,k<=m->m<na->κ.klt (ky κ y0) (KK κ (O7 st) (sa+m)):=λm m1 m2=>by
  have e:=g2 m m1 m2
  unfold byd at e
  rw[if_neg My]at e
  simpa [Vc] using e
 by_cases c1:(na-k==0)=true
 ·rw[if_pos c1]
  have c1:na-k=0:=by simpa using c1
  refine Pb (fin k 0 [] _ hk1 (MF _) hk hf rfl ?_ (by rw[c1];simp) Si le1 (λx hx=>by rw[c1,Oa]at hx;cases hx))
  rw[MP,show sa+k=sa+na by lia]
  exact(MO (sa+na) _).symm
 rw[if_neg c1]
 have c1:¬ na-k=0:=by simpa using c1
 obtain⟨x1,ex1,kx1,kkx1,_,_⟩:=kS kx (show sa+k+(na-k)-1<(O7 st).size by lia)
 refine O8 (bq ex1 ?_)
 refine O8 (mS hO hk (λm hm=>?_) kx1 (by lia) (λm n hmn hn e=>?_) (λu hu1 f1 f2=>?_))
 ·obtain⟨x,e,kx,_⟩:=kS kx (show sa+na+m<(O7 st).size by lia)
  exact{x,_,e,kx}
 ·unfold byd at e⊢
  rw[if_pos rfl]at e⊢
  exact Q9 (gB (sa+na+m) (sa+na+n) (by lia) (by lia) (by lia)) e
 dsimp only
 have fB:∀x∈((O7 st).toList.drop (sa+k)).take (na-k),∀y∈((O7 st).toList.drop (sa+na+u)).take (nb-u),κ.kle (ky κ x) (ky κ y):=λx hx y hy=>by
  obtain⟨m,m1,m2,m3⟩:=jo kx hx
  obtain⟨n,n1,n2,n3⟩:=jo kx hy
  have e:=f2 (u+n) (by lia) (by lia)
  unfold byd at e
  rw[if_pos rfl,<-NU,n3]at e
  refine PC ?_ (show κ.kle (ky κ x1) (ky κ y)from e)
  rw[<-m3,<-kkx1]
  exact gA _ _ (by lia) (by lia) (by lia)
 by_cases c2:(u==0)=true
 ·rw[if_pos c2]
  have c2:u=0:=by simpa using c2
  subst c2
  refine Pb (fin k 0 (((O7 st).toList.drop (sa+k)).take (na-k)) _ hk1 (MF _) hk hf rfl ?_ (by simp) (oZ (λp q h1 h2 h3=>gA p q (by lia) h2 (by lia)) (by lia)) le1 fB)
  have e:=iP (l:=(O7 st).toList) (show sa+k<=sa+na by lia)
  rw[show sa+na-(sa+k)=na-k by lia]at e
  rw[<-e]
  exact(MO (sa+na) _).symm
 rw[if_neg c2]
 have c2:¬ u=0:=by simpa using c2
 have ea:((O7 st).extract (sa+k) (sa+na)).toList=((O7 st).toList.drop (sa+k)).take (na-k):=by rw[oB,show sa+na-(sa+k)=na-k by lia]
 have eb:((O7 st).extract (sa+na) (sa+na+u)).toList=((O7 st).toList.drop (sa+na)).take u:=by rw[oB,Nk]
 have za:((O7 st).extract (sa+k) (sa+na)).size=na-k:=by rw[Ua];lia
 have zb:((O7 st).extract (sa+na) (sa+na+u)).size=u:=by rw[Ua];lia
 have sA2:Srt κ ((O7 st).extract (sa+k) (sa+na)).toList:=by
  rw[ea]
  exact oZ (λp q h1 h2 h3=>gA p q (by lia) h2 (by lia)) (by lia)
 have sB1:Srt κ ((O7 st).extract (sa+na) (sa+na+u)).toList:=by
  rw[eb]
  exact oZ (λp q h1 h2 h3=>gB p q (by lia) h2 (by lia)) (by lia)
 have kA:=yk kx (sa+k) (sa+na)
 have kB:=yk kx (sa+na) (sa+na+u)
 have hl:∀x∈((O7 st).extract (sa+na) (sa+na+u)).toList,∀y∈((O7 st).extract (sa+k) (sa+na)).toList.drop (((O7 st).extract (sa+k) (sa+na)).size-1),κ.kle (ky κ x) (ky κ y):=λx hx y hy=>by
  rw[eb]at hx
  obtain⟨m,m1,m2,m3⟩:=jo kx hx
  obtain⟨n,n1,n2,n3⟩:=y8 kA hy
  rw[za]at n1 n2
  have e:=f1 m m1
  unfold byd at e
  rw[if_pos rfl,m3]at e
  rw[wb (by lia) (by lia),show sa+k+n=sa+k+(na-k)-1 by lia,kkx1]at n3
  rw[<-n3]
  exact PM e
 have hfst:∀x∈((O7 st).extract (sa+na) (sa+na+u)).toList.take 1,∀y∈((O7 st).extract (sa+k) (sa+na)).toList,κ.kle (ky κ x) (ky κ y):=λx hx y hy=>by
  obtain⟨m,m1,m2,m3⟩:=wc (κ:=κ) hx
  rw[ea]at hy
  obtain⟨n,n1,n2,n3⟩:=jo kx hy
  rw[wb (by lia) (by lia),show sa+na+m=sa+na by lia,kk0]at m3
  rw[<-m3,<-n3,NU]
  exact PM (lt1 (k+n) (by lia) (by lia))
 have h0:κ.kle (KK κ ((O7 st).extract (sa+na) (sa+na+u)) 0) (KK κ ((O7 st).extract (sa+k) (sa+na)) 0):=by
  rw[wb (by lia) (by lia),wb (by lia) (by lia),Nat.add_zero,Nat.add_zero,kk0]
  exact PM (lt1 k (Ms _) (by lia))
 have out:∀(r:Array Pg)(g:Nat),Gd κ ((O7 st).extract (sa+k) (sa+na)) ((O7 st).extract (sa+na) (sa+na+u)) r->Q true (T9 (kindOf st) (A8 (O7 st) (sa+k) r.toList.zipIdx) (((Pm st).setIfInBounds i (sa,na+nb,pw)).eraseIdxIfInBounds (i+1)) g (QZ st)):=by
  intro r g ⟨p1,p2⟩
  rw[ea,eb]at p1
  have rl:r.toList.length=na-k+u:=by
   rw[p1.length_eq,Mo,MT,MT,Nd,Nd,lsz]
   lia
  refine fin k u r.toList _ hk1 hu1 hk hf rfl ?_ p1 p2 le1 fB
  show(A8 (O7 st) (sa+k) r.toList.zipIdx).toList=_
  rw[AF (sa+k) r.toList 0 (O7 st) (by rw[rl];lia),rl,show sa+k+0+(na-k+u)=sa+na+u by lia]
  rfl
 by_cases c3:na-k<=u
 ·rw[if_pos c3]
  refine O8 (F1 hO hk kA kB sA2 sB1 (by rw[za];lia) (by rw[zb];lia) h0 hl λr g hg=>?_)
  refine O8 (PX ?_)
  refine O8 (Rb (Pb ?_))
  have:=out r g hg
  rw[show(QZ st).isNone=true by rw[hf];rfl]
  exact this
 ·rw[if_neg c3]
  refine O8 (Fx hO hk kA kB sA2 sB1 (by rw[za];lia) (by rw[zb];lia) hfst hl λr g hg=>?_)
  refine O8 (PX ?_)
  refine O8 (Rb (Pb ?_))
  have:=out r g hg
  rw[show(QZ st).isNone=true by rw[hf];rfl]
  exact this
end
end L2
namespace L2
open PySem PyProof.Rows
section
variable{prog:Program}{w:Pf}{A:Pp}{E:E9->O5->Prop}{s:O5}{κ:KeyKind}{kin:Qt}
structure Chg(st0 st:Pr)(lo:Nat):Prop where
 kd:kindOf st=kindOf st0
 fl:QZ st=Vo
 pd:Pm st=Pm st0
 pm:(O7 st).Perm (O7 st0)
 fr:∀p,p<lo->(O7 st)[p]?=(O7 st0)[p]?
theorem Chg.sz{st0 st:Pr}{lo:Nat}(C:Chg st0 st lo):(O7 st).size=(O7 st0).size:=C.pm.size_eq
theorem wK{xs ys:Array Pg}(h:KeysOf κ ys)(p:xs.Perm ys):KeysOf κ xs:=λq hq=>h q ((Array.perm_iff_toList_perm.mp p).mem_iff.mp hq)
theorem Chg.set{st0 st:Pr}{lo:Nat}(C:Chg st0 st lo){xs:Array Pg}(p:xs.Perm (O7 st))(f:∀q,q<lo->xs[q]?=(O7 st)[q]?):Chg st0 (Ub st xs) lo:={C.kd,C.fl,C.pd,p.trans C.pm,λq hq=>(f q hq).trans (C.fr q hq)}
theorem sO{st0 st:Pr}(hO:KLt prog w A s κ (kindOf st0)){lo i j:Nat}{Q:Option Bool->Pr->Prop}(C:Chg st0 st lo)(k0:KeysOf κ (O7 st0))(hi:i<(O7 st0).size)(hj:j<(O7 st0).size)(h:Q (Vn (κ.blt (KK κ (O7 st) i) (KK κ (O7 st) j))) st):wpS (Pj prog w) A E s (ltAt' i j) Q st:=by
 have kx:=wK k0 C.pm
 obtain⟨x,ex,kx1,kkx,_⟩:=kS kx (show i<(O7 st).size by rw[C.sz];exact hi)
 obtain⟨y,ey,ky1,kky,_⟩:=kS kx (show j<(O7 st).size by rw[C.sz];exact hj)
 rw[kkx,kky]at h
 rw[ltAt'_eq]
 refine O8 (Rb ?_)
 show wpS _ _ _ _ (do let x<-Te (O7 st) i;let y<-Te (O7 st) j;lt' x y) Q st
 exact O8 (bq ex (O8 (bq ey (sN hO C.kd kx1 ky1 h))))
theorem Gn{st0 st:Pr}(hO:KLt prog w A s κ (kindOf st0)){lo n ok:Nat}{Q:Bool->Pr->Prop}(k0:KeysOf κ (O7 st0))(hn:lo+n<=(O7 st0).size)(hok:ok<=n)(C:Chg st0 st lo)(hs:Seg κ (O7 st) lo ok)
  (h:∀st',Chg st0 st' lo->Seg κ (O7 st') lo n->Q true st'):wpS (Pj prog w) A E s (binarySort' lo n ok) Q st:=by
 refine O8 (P9 (PZ (I:=λk c st'=>c=(Vo,())/\Chg st0 st' lo/\Seg κ (O7 st') lo (min k n)) (Q:=λc st'=>c=(Vo,())/\Chg st0 st' lo/\Seg κ (O7 st') lo n) ?s1 ?f1 {rfl,C,?i1}) ?p1)
 case p1=>
  rintro c st' ⟨rfl,C',g⟩
  exact Pb (h st' C' g)
 case i1=>
  intro p q hp hpq hq
  by_cases z:ok=0
  ·have:p=q:=by lia
   rw[this]
   exact PQ _
  ·exact hs p q hp hpq (by lia)
 case f1=>
  rintro c st' ⟨hc,C',g⟩
  rw[show min (max (max ok 1) n) n=n by lia]at g
  exact⟨hc,C',g⟩
 case s1=>
  rintro k c st1 hak hkn ⟨rfl,C1,g⟩
  rw[show min k n=k by lia]at g
  refine O8 (P9 (PZ (I:=λx c st2=>st2=st1/\∃l r,c=(Vo,l,r)/\l<=r/\r<=k/\r-l<=k-x/\(∀p,p<l->κ.kle (KK κ (O7 st1) (lo+p)) (KK κ (O7 st1) (lo+k)))/\(∀p,r<=p->p<k->κ.kle (KK κ (O7 st1) (lo+k)) (KK κ (O7 st1) (lo+p))))
   (Q:=λc st2=>st2=st1/\∃l,c=(Vo,l,l)/\l<=k/\(∀p,p<l->κ.kle (KK κ (O7 st1) (lo+p)) (KK κ (O7 st1) (lo+k)))/\(∀p,l<=p->p<k->κ.kle (KK κ (O7 st1) (lo+k)) (KK κ (O7 st1) (lo+p)))) ?s2 ?f2 {rfl,0,k,rfl,MF _,Ms _,by lia,λp hp=>absurd hp (Nat.not_lt_zero _),λp h1 h2=>by lia}) ?p2)
  case f2=>
   rintro c st2 ⟨rfl,l,r,rfl,h1,h2,h3,h4,h5⟩
   have:l=r:=by lia
   subst this
   exact⟨rfl,l,rfl,h2,h4,h5⟩
  case s2=>
   rintro x c st2 _ hx ⟨rfl,l,r,rfl,h1,h2,h3,h4,h5⟩
   dsimp only
   by_cases z:l ≥ r
   ·rw[if_pos z]
    have:l=r:=by lia
    subst this
    exact Pb ⟨rfl,l,rfl,h2,h4,h5⟩
   ·rw[if_neg z]
    refine O8 (sO hO C1 k0 (show lo+k<_ by lia) (show lo+(l+r)/2<_ by lia) ?_)
    dsimp only
    cases y:κ.blt (KK κ (O7 st2) (lo+k)) (KK κ (O7 st2) (lo+(l+r)/2))with
    |true=>exact Pb {rfl,l,(l+r)/2,rfl,by lia,by lia,by lia,h4,λp p1 p2=>PC (PM y) (g _ _ (by lia) (by lia) (by lia))}
    |false=>exact Pb {rfl,(l+r)/2+1,r,rfl,by lia,by lia,by lia,λp p1=>PC (g _ (lo+(l+r)/2) (by lia) (by lia) (by lia)) y,h5}
  case p2=>
   rintro c st2 ⟨rfl,l,rfl,h2,h4,h5⟩
   have hks:lo+k<(O7 st2).size:=by rw[C1.sz];lia
   refine O8 (PX (Pb {rfl,C1.set (bubble_perm _ _ _) (λq hq=>?_),?_}))
   ·show(bubble (O7 st2) (lo+k) (lo+k-(lo+l)))[q]?=_
    rw[getElem?_bubble hks (lo+k-(lo+l)) (by lia),if_neg (by lia),if_neg (by lia)]
   ·rw[show min (k+1) n=k+1 by lia]
    intro p q hp hpq hq
    show κ.kle (KK κ (bubble (O7 st2) (lo+k) (lo+k-(lo+l))) p) (KK κ (bubble (O7 st2) (lo+k) (lo+k-(lo+l))) q)
    rw[KK_bubble hks (by lia),KK_bubble hks (by lia),show lo+k-(lo+k-(lo+l))=lo+l by lia]
    by_cases a1:p=lo+l
    ·rw[if_pos a1]
     by_cases b1:q=lo+l
     ·rw[if_pos b1]
      exact PQ _
     ·rw[if_neg b1,if_pos (by lia)]
      have:=h5 (q-1-lo) (by lia) (by lia)
      rwa [show lo+(q-1-lo)=q-1 by lia]at this
    ·rw[if_neg a1]
     by_cases a2:lo+l<p/\p<=lo+k
     ·rw[if_pos a2,if_neg (show ¬ q=lo+l by lia),if_pos (by lia)]
      exact g _ _ (by lia) (by lia) (by lia)
     ·rw[if_neg a2]
      by_cases b1:q=lo+l
      ·rw[if_pos b1]
       have:=h4 (p-lo) (by lia)
       rwa [show lo+(p-lo)=p by lia]at this
      ·rw[if_neg b1]
       by_cases b2:lo+l<q/\q<=lo+k
       ·rw[if_pos b2]
        exact g _ _ (by lia) (by lia) (by lia)
       ·rw[if_neg b2]
        exact g _ _ (by lia) (by lia) (by lia)
end
end L2
namespace L2
open PySem PyProof.Rows
section
variable{prog:Program}{w:Pf}{A:Pp}{E:E9->O5->Prop}{s:O5}{κ:KeyKind}{kin:Qt}
def Dec(κ:KeyKind)(xs:Array Pg)(lo n:Nat):Prop:=∀p q,lo<=p->p<=q->q<lo+n->κ.kle (KK κ xs q) (KK κ xs p)
theorem mB{xs:Array Pg}{i j lo:Nat}(hj:j<=xs.size)(hi:lo<=i)(q:Nat)(hq:q<lo):(Qb xs i j ((j-i)/2))[q]?=xs[q]?:=by
 rw[getElem?_mirror_all hj,if_neg (by lia)]
theorem xK{st:Pr}{lo a nrem:Nat}{f:Nat->Option (Option Nat)×Nat->StateT Pr Sem (ForInStep (Option (Option Nat)×Nat))}(ha:1<=a)(han:a<=nrem)(g:Seg κ (O7 st) lo a)
  (hf:∀(x n:Nat)(R:ForInStep (Option (Option Nat)×Nat)->Pr->Prop),1<=n->n<nrem->(κ.blt (KK κ (O7 st) (lo+n)) (KK κ (O7 st) (lo+n-1))=true->R (.done (Vo,n)) st)->(κ.blt (KK κ (O7 st) (lo+n)) (KK κ (O7 st) (lo+n-1))=false->R (.yield (Vo,n+1)) st)->wpS (Pj prog w) A E s (f x (Vo,n)) R st) :
  wpS (Pj prog w) A E s (forIn [a:nrem] (Vo,a) f) (λc st'=>st'=st/\∃m,c=(Vo,m)/\a<=m/\m<=nrem/\Seg κ (O7 st) lo m/\(m=nrem\/κ.klt (KK κ (O7 st) (lo+m)) (KK κ (O7 st) (lo+m-1)))) st:=by
 refine PZ (I:=λx c st'=>st'=st/\c=(Vo,x)/\Seg κ (O7 st) lo x) ?s1 ?f1 ⟨rfl,rfl,g⟩
 case f1=>
  rintro c st' ⟨rfl,rfl,g⟩
  rw[show max a nrem=nrem by lia]at g⊢
  exact{rfl,nrem,rfl,han,Ms _,g,.inl rfl}
 case s1=>
  rintro x c st' hax hx ⟨rfl,rfl,g⟩
  refine hf x x _ (by lia) hx (λz=>?_) (λz=>?_)
  ·exact⟨rfl,x,rfl,hax,by lia,g,.inr z⟩
  ·refine{rfl,rfl,λp q hp hpq hq=>?_}
   by_cases hqx:q<lo+x
   ·exact g p q hp hpq hqx
   ·have e:q=lo+x:=by lia
    subst e
    by_cases hpx:p=lo+x
    ·rw[hpx]
     exact PQ _
    ·exact PC (g p (lo+x-1) hp (by lia) (by lia)) z
theorem qR{xs:Array Pg}{lo n:Nat}(hj:lo+n<=xs.size)(d:Dec κ xs lo n):Seg κ (Qb xs lo (lo+n) ((lo+n-lo)/2)) lo n:=λp q hp hpq hq=>by
 rw[KK_mirror hj,KK_mirror hj,if_pos (by lia),if_pos (by lia)]
 exact d _ _ (by lia) (by lia) (by lia)
theorem Ff{st0 st:Pr}{lo n nrem:Nat}{f:Nat->Option (Option Nat)×Nat×Nat->StateT Pr Sem (ForInStep (Option (Option Nat)×Nat×Nat))}(h1:1<=n)(hn:n<=nrem)(hl:lo+nrem<=(O7 st0).size)(C:Chg st0 st lo)(d:Dec κ (O7 st) lo n)
  (hf:∀(x n e:Nat)(st:Pr)(R:ForInStep (Option (Option Nat)×Nat×Nat)->Pr->Prop),Chg st0 st lo->1<=n->n<nrem->(κ.blt (KK κ (O7 st) (lo+n)) (KK κ (O7 st) (lo+n-1))=true->R (.yield (Vo,n+1,0)) (if e>0 then Ub st (Qb (O7 st) (lo+n-(e+1)) (lo+n) ((lo+n-(lo+n-(e+1)))/2))else st))->(κ.blt (KK κ (O7 st) (lo+n)) (KK κ (O7 st) (lo+n-1))=false->κ.blt (KK κ (O7 st) (lo+n-1)) (KK κ (O7 st) (lo+n))=true->R (.done (Vo,n,e)) st)->(κ.blt (KK κ (O7 st) (lo+n)) (KK κ (O7 st) (lo+n-1))=false->κ.blt (KK κ (O7 st) (lo+n-1)) (KK κ (O7 st) (lo+n))=false->R (.yield (Vo,n+1,e+1)) st)->wpS (Pj prog w) A E s (f x (Vo,n,e)) R st) :
  wpS (Pj prog w) A E s (forIn [n:nrem] (Vo,n,0) f) (λc st'=>∃m e,c=(Vo,m,e)/\Chg st0 st' lo/\n<=m/\m<=nrem/\Dec κ (O7 st') lo m/\e+1<=m/\∀p,lo+m-(e+1)<=p->p<lo+m->KK κ (O7 st') p=KK κ (O7 st') (lo+m-1)) st:=by
 refine PZ (I:=λx c st'=>∃e,c=(Vo,x,e)/\Chg st0 st' lo/\Dec κ (O7 st') lo x/\e+1<=x/\∀p,lo+x-(e+1)<=p->p<lo+x->KK κ (O7 st') p=KK κ (O7 st') (lo+x-1)) ?s1 ?f1 {0,rfl,C,d,h1,λp a b=>by congr 1;lia}
 case f1=>
  rintro c st' ⟨e,rfl,C',d',he,eq⟩
  rw[show max n nrem=nrem by lia]at d' he eq⊢
  exact{nrem,e,rfl,C',hn,Ms _,d',he,eq}
 case s1=>
  rintro x c st' hax hx ⟨e,rfl,C',d',he,eq⟩
  have ext:∀{ys:Array Pg},(∀p,KK κ ys p=KK κ (O7 st') p)->κ.kle (KK κ (O7 st') (lo+x)) (KK κ (O7 st') (lo+x-1))->Dec κ ys lo (x+1):=λ{ys} hy z p q hp hpq hq=>by
   rw[hy,hy]
   by_cases hqx:q<lo+x
   ·exact d' p q hp hpq hqx
   ·have e:q=lo+x:=by lia
    subst e
    by_cases hpx:p=lo+x
    ·rw[hpx]
     exact PQ _
    ·exact PC z (d' p (lo+x-1) hp (by lia) (by lia))
  refine hf x x e st' _ C' (by lia) hx (λz=>?_) (λz y=>?_) (λz y=>?_)
  ·have hz:lo+x<=(O7 st').size:=by rw[C'.sz];lia
   by_cases e0:e>0
   ·rw[if_pos e0]
    have k:∀p,KK κ (Qb (O7 st') (lo+x-(e+1)) (lo+x) ((lo+x-(lo+x-(e+1)))/2)) p=KK κ (O7 st') p:=RH hz eq
    exact{0,rfl,C'.set (Q1 _ _ _ _) (mB hz (by lia)),ext k (PM z),by lia,λp a b=>by congr 1;lia}
   ·rw[if_neg e0]
    exact{0,rfl,C',ext (λ_=>rfl) (PM z),by lia,λp a b=>by congr 1;lia}
  ·exact⟨x,e,rfl,C',hax,by lia,d',he,eq⟩
  ·have q:=Tz (show κ.kle (KK κ (O7 st') (lo+x-1)) (KK κ (O7 st') (lo+x))from z) y
   refine{e+1,rfl,C',ext (λ_=>rfl) y,by lia,λp a b=>?_}
   rw[show lo+(x+1)-1=lo+x by lia]
   by_cases px:p=lo+x
   ·rw[px]
   ·rw[<-q]
    exact eq p (by lia) (by lia)
end
end L2
namespace L2
open PySem PyProof.Rows
section
variable{prog:Program}{w:Pf}{A:Pp}{E:E9->O5->Prop}{s:O5}{κ:KeyKind}{kin:Qt}
theorem Gg{st0 st:Pr}(hO:KLt prog w A s κ (kindOf st0)){lo nrem:Nat}{Q:Option Nat->Pr->Prop}(k0:KeysOf κ (O7 st0))(h1:1<=nrem)(hl:lo+nrem<=(O7 st0).size)(C:Chg st0 st lo)
  (h:∀m st',Chg st0 st' lo->1<=m->m<=nrem->Seg κ (O7 st') lo m->Q (Vn m) st'):wpS (Pj prog w) A E s (countRun' lo nrem) Q st:=by
 refine O8 (P9 (xK (κ:=κ) (lo:=lo) (Ms 1) h1 (λp q hp hpq hq=>?_) ?_) ?_)
 ·have:p=q:=by lia
  rw[this]
  exact PQ _
 ·intro x n R n1 nr a1 a2
  dsimp only
  refine O8 (sO hO C k0 (show lo+n<_ by lia) (show lo+n-1<_ by lia) ?_)
  dsimp only
  cases z:κ.blt (KK κ (O7 st) (lo+n)) (KK κ (O7 st) (lo+n-1))with
  |true=>exact Pb (a1 z)
  |false=>exact Pb (a2 z)
 rintro c st' ⟨rfl,m,rfl,m1,m2,g,hm⟩
 dsimp only
 by_cases e:(m==nrem)=true
 ·rw[if_pos e]
  exact Pb (h m _ C m1 m2 g)
 rw[if_neg e]
 have e:¬ m=nrem:=by simpa using e
 have hm:κ.klt (KK κ (O7 st') (lo+m)) (KK κ (O7 st') (lo+m-1)):=hm.elim (λz=>absurd z e) id
 have hz0:lo+m<=(O7 st').size:=by rw[C.sz];lia
 by_cases mm:m>1
 ·rw[if_pos mm]
  refine O8 (sO hO C k0 (show lo<_ by lia) (show lo+m-1<_ by lia) ?_)
  dsimp only
  cases z:κ.blt (KK κ (O7 st') lo) (KK κ (O7 st') (lo+m-1))with
  |true=>exact Pb (h m _ C m1 m2 g)
  |false=>
   rw[if_neg My]
   have eqs:∀p,lo<=p->p<lo+m->KK κ (O7 st') p=KK κ (O7 st') (lo+m-1):=λp p1 p2=>Tz (g p _ p1 (by lia) (by lia)) (PC (show κ.kle _ (KK κ (O7 st') lo)from z) (g lo p (Ms _) p1 p2))
   have k:∀p,KK κ (Qb (O7 st') lo (lo+m) ((lo+m-lo)/2)) p=KK κ (O7 st') p:=RH hz0 eqs
   have C1:=C.set (Q1 (O7 st') lo (lo+m) ((lo+m-lo)/2)) (mB hz0 (Ms _))
   have d1:Dec κ (Qb (O7 st') lo (lo+m) ((lo+m-lo)/2)) lo (m+1):=λp q hp hpq hq=>by
    rw[k,k]
    by_cases qm:q<lo+m
    ·rw[eqs p hp (by lia),eqs q (by lia) qm]
     exact PQ _
    ·have:q=lo+m:=by lia
     subst this
     by_cases pm:p=lo+m
     ·rw[pm]
      exact PQ _
     ·rw[eqs p hp (by lia)]
      exact PM hm
   refine O8 (PX ?_)
   refine O8 (RY (Rf {rfl,?_}))
   refine O8 (P9 (Ff (κ:=κ) (st0:=st0) (by lia) (by lia) hl C1 d1 ?_) ?_)
   ·intro x n e st R C n1 nr a1 a2 a3
    dsimp only
    refine O8 (sO hO C k0 (show lo+n<_ by lia) (show lo+n-1<_ by lia) ?_)
    dsimp only
    cases z:κ.blt (KK κ (O7 st) (lo+n)) (KK κ (O7 st) (lo+n-1))with
    |true=>
     have a1:=a1 z
     rw[if_pos rfl]
     by_cases e0:e>0
     ·rw[if_pos e0]at a1⊢
      exact O8 (PX (Pb a1))
     ·rw[if_neg e0]at a1⊢
      exact Pb a1
    |false=>
     rw[if_neg My]
     refine O8 (sO hO C k0 (show lo+n-1<_ by lia) (show lo+n<_ by lia) ?_)
     dsimp only
     cases y:κ.blt (KK κ (O7 st) (lo+n-1)) (KK κ (O7 st) (lo+n))with
     |true=>exact Pb (a2 z y)
     |false=>exact Pb (a3 z y)
   ·rintro c st2 ⟨r,e,rfl,C2,r1,r2,d2,e1,eq⟩
    dsimp only
    have hz:lo+r<=(O7 st2).size:=by rw[C2.sz];lia
    by_cases e0:e>0
    ·rw[if_pos e0]
     have k:∀p,KK κ (Qb (O7 st2) (lo+r-(e+1)) (lo+r) ((lo+r-(lo+r-(e+1)))/2)) p=KK κ (O7 st2) p:=RH hz eq
     have C3:=C2.set (Q1 (O7 st2) (lo+r-(e+1)) (lo+r) ((lo+r-(lo+r-(e+1)))/2)) (mB hz (by lia))
     have d3:Dec κ (Qb (O7 st2) (lo+r-(e+1)) (lo+r) ((lo+r-(lo+r-(e+1)))/2)) lo r:=λp q hp hpq hq=>by rw[k,k];exact d2 p q hp hpq hq
     refine O8 (PX ?_)
     have hy:lo+r<=_:=(show lo+r<=(Qb (O7 st2) (lo+r-(e+1)) (lo+r) ((lo+r-(lo+r-(e+1)))/2)).size by rw[mirror_size];exact hz)
     refine O8 (PX ?_)
     have C4:=C3.set (Q1 (Qb (O7 st2) (lo+r-(e+1)) (lo+r) ((lo+r-(lo+r-(e+1)))/2)) lo (lo+r) ((lo+r-lo)/2)) (mB hy (Ms _))
     refine O8 (P9 (xK (κ:=κ) (lo:=lo) (st:=Ub (Ub st2 (Qb (O7 st2) (lo+r-(e+1)) (lo+r) ((lo+r-(lo+r-(e+1)))/2))) (Qb (Qb (O7 st2) (lo+r-(e+1)) (lo+r) ((lo+r-(lo+r-(e+1)))/2)) lo (lo+r) ((lo+r-lo)/2))) (show 1<=r by lia) r2 (qR hy d3) ?_) ?_)
     ·intro x n R n1 nr a1 a2
      dsimp only
      refine O8 (sO hO C4 k0 (show lo+n<_ by lia) (show lo+n-1<_ by lia) ?_)
      dsimp only
      cases z:κ.blt (KK κ (Qb (Qb (O7 st2) (lo+r-(e+1)) (lo+r) ((lo+r-(lo+r-(e+1)))/2)) lo (lo+r) ((lo+r-lo)/2)) (lo+n)) (KK κ (Qb (Qb (O7 st2) (lo+r-(e+1)) (lo+r) ((lo+r-(lo+r-(e+1)))/2)) lo (lo+r) ((lo+r-lo)/2)) (lo+n-1))with
      |true=>exact Pb (a1 z)
      |false=>exact Pb (a2 z)
     ·rintro c st3 ⟨rfl,v,rfl,v1,v2,g3,_⟩
      exact Pb (h v _ C4 (by lia) v2 g3)
    ·rw[if_neg e0]
     have hy:lo+r<=_:=hz
     refine O8 (PX ?_)
     have C4:=C2.set (Q1 (O7 st2) lo (lo+r) ((lo+r-lo)/2)) (mB hy (Ms _))
     refine O8 (P9 (xK (κ:=κ) (lo:=lo) (st:=Ub st2 (Qb (O7 st2) lo (lo+r) ((lo+r-lo)/2))) (show 1<=r by lia) r2 (qR hy d2) ?_) ?_)
     ·intro x n R n1 nr a1 a2
      dsimp only
      refine O8 (sO hO C4 k0 (show lo+n<_ by lia) (show lo+n-1<_ by lia) ?_)
      dsimp only
      cases z:κ.blt (KK κ (Qb (O7 st2) lo (lo+r) ((lo+r-lo)/2)) (lo+n)) (KK κ (Qb (O7 st2) lo (lo+r) ((lo+r-lo)/2)) (lo+n-1))with
      |true=>exact Pb (a1 z)
      |false=>exact Pb (a2 z)
     ·rintro c st3 ⟨rfl,v,rfl,v1,v2,g3,_⟩
      exact Pb (h v _ C4 (by lia) v2 g3)
 ·rw[if_neg mm]
  have C1:=C
  have d1:Dec κ (O7 st') lo (m+1):=λp q hp hpq hq=>by
   by_cases pq:p=q
   ·rw[pq]
    exact PQ _
   ·rw[show q=lo+m by lia,show p=lo+m-1 by lia]
    exact PM hm
  refine O8 (RY (Rf {rfl,?_}))
  refine O8 (P9 (Ff (κ:=κ) (st0:=st0) (by lia) (by lia) hl C1 d1 ?_) ?_)
  ·intro x n e st R C n1 nr a1 a2 a3
   dsimp only
   refine O8 (sO hO C k0 (show lo+n<_ by lia) (show lo+n-1<_ by lia) ?_)
   dsimp only
   cases z:κ.blt (KK κ (O7 st) (lo+n)) (KK κ (O7 st) (lo+n-1))with
   |true=>
    have a1:=a1 z
    rw[if_pos rfl]
    by_cases e0:e>0
    ·rw[if_pos e0]at a1⊢
     exact O8 (PX (Pb a1))
    ·rw[if_neg e0]at a1⊢
     exact Pb a1
   |false=>
    rw[if_neg My]
    refine O8 (sO hO C k0 (show lo+n-1<_ by lia) (show lo+n<_ by lia) ?_)
    dsimp only
    cases y:κ.blt (KK κ (O7 st) (lo+n-1)) (KK κ (O7 st) (lo+n))with
    |true=>exact Pb (a2 z y)
    |false=>exact Pb (a3 z y)
  ·rintro c st2 ⟨r,e,rfl,C2,r1,r2,d2,e1,eq⟩
   dsimp only
   have hz:lo+r<=(O7 st2).size:=by rw[C2.sz];lia
   by_cases e0:e>0
   ·rw[if_pos e0]
    have k:∀p,KK κ (Qb (O7 st2) (lo+r-(e+1)) (lo+r) ((lo+r-(lo+r-(e+1)))/2)) p=KK κ (O7 st2) p:=RH hz eq
    have C3:=C2.set (Q1 (O7 st2) (lo+r-(e+1)) (lo+r) ((lo+r-(lo+r-(e+1)))/2)) (mB hz (by lia))
    have d3:Dec κ (Qb (O7 st2) (lo+r-(e+1)) (lo+r) ((lo+r-(lo+r-(e+1)))/2)) lo r:=λp q hp hpq hq=>by rw[k,k];exact d2 p q hp hpq hq
    refine O8 (PX ?_)
    have hy:lo+r<=_:=(show lo+r<=(Qb (O7 st2) (lo+r-(e+1)) (lo+r) ((lo+r-(lo+r-(e+1)))/2)).size by rw[mirror_size];exact hz)
    refine O8 (PX ?_)
    have C4:=C3.set (Q1 (Qb (O7 st2) (lo+r-(e+1)) (lo+r) ((lo+r-(lo+r-(e+1)))/2)) lo (lo+r) ((lo+r-lo)/2)) (mB hy (Ms _))
    refine O8 (P9 (xK (κ:=κ) (lo:=lo) (st:=Ub (Ub st2 (Qb (O7 st2) (lo+r-(e+1)) (lo+r) ((lo+r-(lo+r-(e+1)))/2))) (Qb (Qb (O7 st2) (lo+r-(e+1)) (lo+r) ((lo+r-(lo+r-(e+1)))/2)) lo (lo+r) ((lo+r-lo)/2))) (show 1<=r by lia) r2 (qR hy d3) ?_) ?_)
    ·intro x n R n1 nr a1 a2
     dsimp only
     refine O8 (sO hO C4 k0 (show lo+n<_ by lia) (show lo+n-1<_ by lia) ?_)
     dsimp only
     cases z:κ.blt (KK κ (Qb (Qb (O7 st2) (lo+r-(e+1)) (lo+r) ((lo+r-(lo+r-(e+1)))/2)) lo (lo+r) ((lo+r-lo)/2)) (lo+n)) (KK κ (Qb (Qb (O7 st2) (lo+r-(e+1)) (lo+r) ((lo+r-(lo+r-(e+1)))/2)) lo (lo+r) ((lo+r-lo)/2)) (lo+n-1))with
     |true=>exact Pb (a1 z)
     |false=>exact Pb (a2 z)
    ·rintro c st3 ⟨rfl,v,rfl,v1,v2,g3,_⟩
     exact Pb (h v _ C4 (by lia) v2 g3)
   ·rw[if_neg e0]
    have hy:lo+r<=_:=hz
    refine O8 (PX ?_)
    have C4:=C2.set (Q1 (O7 st2) lo (lo+r) ((lo+r-lo)/2)) (mB hy (Ms _))
    refine O8 (P9 (xK (κ:=κ) (lo:=lo) (st:=Ub st2 (Qb (O7 st2) lo (lo+r) ((lo+r-lo)/2))) (show 1<=r by lia) r2 (qR hy d2) ?_) ?_)
    ·intro x n R n1 nr a1 a2
     dsimp only
     refine O8 (sO hO C4 k0 (show lo+n<_ by lia) (show lo+n-1<_ by lia) ?_)
     dsimp only
     cases z:κ.blt (KK κ (Qb (O7 st2) lo (lo+r) ((lo+r-lo)/2)) (lo+n)) (KK κ (Qb (O7 st2) lo (lo+r) ((lo+r-lo)/2)) (lo+n-1))with
     |true=>exact Pb (a1 z)
     |false=>exact Pb (a2 z)
    ·rintro c st3 ⟨rfl,v,rfl,v1,v2,g3,_⟩
     exact Pb (h v _ C4 (by lia) v2 g3)
end
end L2
namespace L2
open PySem PyProof.Rows
section
variable{prog:Program}{w:Pf}{A:Pp}{E:E9->O5->Prop}{s:O5}{κ:KeyKind}{kin:Qt}
noncomputable def Rns(κ:KeyKind)(xs:Array Pg):Nat->List (Nat×Nat×Nat)->Nat->Prop
 |a,[],lo=>a=lo
 |a,(b,n,_)::r,lo=>b=a/\1<=n/\Seg κ xs a n/\Rns κ xs (a+n) r lo
theorem Rns.le{xs:Array Pg}:∀{r:List (Nat×Nat×Nat)}{a lo:Nat},Rns κ xs a r lo->a+r.length<=lo
 | [],a,lo,h=>OE h
 | (b,n,p)::r,a,lo,h=>by
  have:=h.2.2.2.le
  have:=h.2.1
  rw[Mx]
  lia
theorem Rns.app{xs:Array Pg}{v:List (Nat×Nat×Nat)}{lo:Nat}:∀{u:List (Nat×Nat×Nat)}{a:Nat},Rns κ xs a (u++v) lo->∃m,Rns κ xs a u m/\Rns κ xs m v lo
 | [],a,h=>⟨a,rfl,h⟩
 | (b,n,p)::u,a,h=>by
  obtain⟨m,h1,h2⟩:=Rns.app (u:=u) h.2.2.2
  exact{m,⟨h.1,h.2.1,h.2.2.1,h1⟩,h2}
theorem Rns.cat{xs:Array Pg}{v:List (Nat×Nat×Nat)}{m lo:Nat}:∀{u:List (Nat×Nat×Nat)}{a:Nat},Rns κ xs a u m->Rns κ xs m v lo->Rns κ xs a (u++v) lo
 | [],a,h,h2=>by rw[show a=m from h];exact h2
 | (b,n,p)::u,a,h,h2=>⟨h.1,h.2.1,h.2.2.1,Rns.cat h.2.2.2 h2⟩
theorem yH{xs ys:Array Pg}{i n:Nat}(h:Seg κ xs i n)(e:∀p,i<=p->p<i+n->ys[p]?=xs[p]?):Seg κ ys i n:=λp q hp hpq hq=>by
 rw[KK_congr (e p hp (by lia)),KK_congr (e q (by lia) hq)]
 exact h p q hp hpq hq
theorem Rns.cg{xs ys:Array Pg}:∀{r:List (Nat×Nat×Nat)}{a lo:Nat},Rns κ xs a r lo->(∀p,a<=p->p<lo->ys[p]?=xs[p]?)->Rns κ ys a r lo
 | [],a,lo,h,_=>h
 | (b,n,p)::r,a,lo,h,e=>by
  have:=h.2.2.2.le
  exact{h.1,h.2.1,yH h.2.2.1 (λp p1 p2=>e p p1 (by lia)),Rns.cg h.2.2.2 λp p1 p2=>e p (by lia) p2}
theorem E6{α:Type}{a b x:α}:∀(u v:List α),((u++a::b::v).set u.length x).eraseIdx (u.length+1)=u++x::v
 | [],v=>rfl
 |c::u,v=>by
  show c::((u++a::b::v).set u.length x).eraseIdx (u.length+1)=_
  rw[E6 u v]
  rfl
structure Sb(st0 st:Pr):Prop where
 kd:kindOf st=kindOf st0
 fl:QZ st=Vo
 pm:(O7 st).Perm (O7 st0)
theorem DU{st0 st:Pr}(hO:KLt prog w A s κ (kindOf st0)){lo i:Nat}{rs:List (Nat×Nat×Nat)}{Q:Bool->Pr->Prop}(k0:KeysOf κ (O7 st0))(S:Sb st0 st)(pe:(Pm st).toList=rs)(R:Rns κ (O7 st) 0 rs lo)(hlo:lo<=(O7 st0).size)(hi:i+1<rs.length)
  (h:∀st' rs',Sb st0 st'->(Pm st').toList=rs'->Rns κ (O7 st') 0 rs' lo->rs'.length+1=rs.length->(∀p,lo<=p->(O7 st')[p]?=(O7 st)[p]?)->Q true st'):wpS (Pj prog w) A E s (mergeAt' i) Q st:=by
 have sz:(O7 st).size=(O7 st0).size:=S.pm.size_eq
 obtain⟨⟨sa,na,pw⟩,ea⟩:∃x,rs[i]?=Vn x:={_,Mv (by lia)}
 obtain⟨⟨sb,nb,pw2⟩,eb⟩:∃x,rs[i+1]?=Vn x:={_,Mv hi}
 have es:rs=rs.take i++(sa,na,pw)::(sb,nb,pw2)::rs.drop (i+2):=by
  have e1:=Oi (l:=rs) (i:=i) (by lia)
  have e2:=Oi (l:=rs) (i:=i+1) hi
  rw[(MC.mp ea).2]at e1
  rw[(MC.mp eb).2]at e2
  conv=>lhs;rw[<-MO i rs,e1,e2]
 have R':=R
 rw[es]at R'
 obtain⟨m,R1,z1,n1,g1,z2,n2,g2,R3⟩:=R'.app
 subst z1
 subst z2
 have l3:=R3.le
 have l1:=R1.le
 refine Fi hO S.kd S.fl (wK k0 S.pm) (by rw[<-MZ,pe];exact ea) (by rw[<-MZ,pe];exact eb) n1 n2 (by rw[sz];lia) g1 g2 λst' M h1 h2 h3 h4 h5 h6=>?_
 have lsz:(O7 st).toList.length=(O7 st).size:=MI
 have lM:M.length=na+nb:=by
  rw[h6.length_eq,MT,Nd,lsz,sz]
  lia
 have lt:((O7 st).toList.take sa).length=sa:=by rw[MT,lsz,sz];lia
 have pm:(O7 st').Perm (O7 st):=by
  rw[Array.perm_iff_toList_perm,h4]
  have e:(O7 st).toList=(O7 st).toList.take sa++((O7 st).toList.drop sa).take (na+nb)++(O7 st).toList.drop (sa+na+nb):=by
   rw[NU,<-Oz,MO]
  have p:=((h6.append_left ((O7 st).toList.take sa)).append_right ((O7 st).toList.drop (sa+na+nb)))
  rwa [<-e]at p
 have lo1:∀p,p<sa->(O7 st')[p]?=(O7 st)[p]?:=λp hp=>by
  rw[<-MZ,<-MZ,h4,MB,MW (by lia),Nm hp]
 have hi1:∀p,sa+na+nb<=p->(O7 st')[p]?=(O7 st)[p]?:=λp hp=>by
  rw[<-MZ,<-MZ,h4,MU (by rw[Mo,lt,lM];lia),Mo,lt,lM,NR]
  congr 1
  lia
 have il:(rs.take i).length=i:=by rw[MT];lia
 have ne:(Pm st').toList=rs.take i++(sa,na+nb,pw)::rs.drop (i+2):=by
  rw[h3,Array.toList_eraseIdxIfInBounds,RZ,pe]
  have e:=E6 (a:=(sa,na,pw)) (b:=(sa+na,nb,pw2)) (x:=(sa,na+nb,pw)) (rs.take i) (rs.drop (i+2))
  rwa [il,<-es]at e
 refine h st' _ ⟨h1,h2,pm.trans S.pm⟩ ne (Rns.cat (R1.cg λp _ hp=>lo1 p hp) {rfl,by lia,F2 h4 lt lM h5,?_}) ?_ (λp hp=>hi1 p (by lia))
 ·rw[<-NU]
  exact R3.cg λp hp _=>hi1 p hp
 ·rw[Mo,Mx,il,Nd]
  lia
end
end L2
namespace L2
open PySem PyProof.Rows
section
variable{prog:Program}{w:Pf}{A:Pp}{E:E9->O5->Prop}{s:O5}{κ:KeyKind}{kin:Qt}
theorem Rns.mod{xs:Array Pg}{f:Nat×Nat×Nat->Nat×Nat×Nat}:∀{r:List (Nat×Nat×Nat)}{a lo:Nat}(i:Nat),(∀y,(f y).1=y.1/\(f y).2.1=y.2.1)->Rns κ xs a r lo->Rns κ xs a (r.modify i f) lo
 | [],a,lo,0,hf,h=>h
 | [],a,lo,i+1,hf,h=>h
 | (b,n,p)::r,a,lo,0,hf,h=>by
  obtain⟨e1,e2⟩:=hf (b,n,p)
  show Rns κ xs a (f (b,n,p)::r) lo
  rcases hy:f (b,n,p)with⟨b',n',p'⟩
  rw[hy]at e1 e2
  have e1:b'=b:=e1
  have e2:n'=n:=e2
  subst e1
  subst e2
  exact h
 | (b,n,p)::r,a,lo,i+1,hf,h=>⟨h.1,h.2.1,h.2.2.1,Rns.mod i hf h.2.2.2⟩
theorem Fo(hO:KLt prog w A s κ kin){st:Pr}{Q:Unit->Pr->Prop}(kd:kindOf st=kin)(fl:QZ st=Vo)(pd:Pm st=#[])(k0:KeysOf κ (O7 st))
  (h:∀st',(O7 st').Perm (O7 st)->QZ st'=Vo->Vk κ (O7 st') (O7 st).size->Q () st'):wpS (Pj prog w) A E s sortRuns' Q st:=by
 subst kd
 rw[sortRuns'_eq]
 refine O8 (Rb ?_)
 dsimp only
 refine O8 (P9 (PZ (I:=λx c st'=>∃lo rs,c=(Vo,lo)/\Sb st st'/\(Pm st').toList=rs/\Rns κ (O7 st') 0 rs lo/\lo<=(O7 st).size/\x<=lo)
  (Q:=λc st'=>∃rs,c=(Vo,(O7 st).size)/\Sb st st'/\(Pm st').toList=rs/\Rns κ (O7 st') 0 rs (O7 st).size) ?s1 ?f1 {0,[],rfl,{rfl,fl,SW _},by rw[pd],rfl,MF _,MF _}) ?p1)
 case f1=>
  rintro c st' ⟨lo,rs,rfl,S,pe,R,h1,h2⟩
  have:lo=(O7 st).size:=by
   have:max 0 (O7 st).size<=lo:=h2
   lia
  subst this
  exact⟨rs,rfl,S,pe,R⟩
 case p1=>
  rintro c st' ⟨rs,rfl,S,pe,R⟩
  dsimp only
  refine O8 (P9 (PZ (I:=λx c st4=>c=(Vo,())/\∃rs4,Sb st st4/\(Pm st4).toList=rs4/\Rns κ (O7 st4) 0 rs4 (O7 st).size/\(rs4.length<=1\/rs4.length+x<=(O7 st).size))
   (Q:=λc st4=>c=(Vo,())/\∃rs4,Sb st st4/\Rns κ (O7 st4) 0 rs4 (O7 st).size/\rs4.length<=1) ?s2 ?f2 {rfl,rs,S,pe,R,.inr (by have:=R.le;lia)}) ?p2)
  case f2=>
   rintro c st4 ⟨rfl,rs4,S4,pe4,R4,l4⟩
   refine{rfl,rs4,S4,R4,?_}
   have:max 0 (O7 st).size=(O7 st).size:=by lia
   lia
  case s2=>
   rintro x c st4 _ hx ⟨rfl,rs4,S4,pe4,R4,l4⟩
   have z4:(Pm st4).size=rs4.length:=by rw[<-pe4,MI]
   refine O8 (Rb ?_)
   by_cases c4:(Pm st4).size<=1
   ·rw[if_pos c4]
    exact Pb ⟨rfl,rs4,S4,R4,by lia⟩
   ·rw[if_neg c4]
    refine O8 (DU hO k0 S4 pe4 R4 (Ms _) ?_ λst5 rs5 S5 pe5 R5 l5 _=>?_)
    ·have hh:∀(P:Prop) [Decidable P],(if P then(Pm st4).size-2-1 else(Pm st4).size-2)+1<rs4.length:=λP _=>by split<;>lia
     exact hh _
    ·rw[if_neg (by decide)]
     exact Pb ⟨rfl,rs5,S5,pe5,R5,by lia⟩
  case p2=>
   rintro c st4 ⟨rfl,rs4,S4,R4,l4⟩
   refine Pb (h st4 S4.pm S4.fl λi j hij hj=>?_)
   match rs4,R4,l4 with
   | [],e,_=>
    have:0=(O7 st).size:=e
    lia
   | [(b,n,p)],⟨e1,e2,g,e3⟩,_=>
    have e3:0+n=(O7 st).size:=e3
    exact g i j (MF _) hij (by lia)
 case s1=>
  rintro x c st' _ hx ⟨lo,rs,rfl,S,pe,R,h1,h2⟩
  dsimp only
  by_cases c1:lo ≥ (O7 st).size
  ·rw[if_pos c1]
   have:lo=(O7 st).size:=by lia
   subst this
   exact Pb ⟨rs,rfl,S,pe,R⟩
  rw[if_neg c1]
  have z':(O7 st').size=(O7 st).size:=S.pm.size_eq
  have k':=wK k0 S.pm
  have hO':KLt prog w A s κ (kindOf st'):=by rw[S.kd];exact hO
  refine O8 (Gg (st0:=st') hO' k' (by lia) (by rw[z'];lia) {rfl,S.fl,rfl,SW _,λ_ _=>rfl} λm st2 C2 m1 m2 g2=>?_)
  dsimp only
  split
  ·next hlt=>
   refine O8 (RY (Rf {rfl,?_}))
   refine O8 (Gn (st0:=st') hO' k' (by rw[z'];lia) (by lia) C2 g2 λst3 C3 g3=>?_)
   rw[if_neg (by decide)]
   generalize hN:min ((O7 st).size-lo) (minRun' (O7 st).size (O7 st).size 0)=N3 at g3⊢
   have hmr:m<minRun' (O7 st).size (O7 st).size 0:=hlt
   have hn1:1<=N3:=by lia
   have hn2:lo+N3<=(O7 st).size:=by lia
   have S3:Sb st st3:=⟨C3.kd.trans S.kd,C3.fl,C3.pm.trans S.pm⟩
   have pe3:(Pm st3).toList=rs:=by rw[C3.pd];exact pe
   have R3:Rns κ (O7 st3) 0 rs lo:=R.cg λp _ hp=>C3.fr p hp
   refine O8 (Rb ?_)
   rcases eb:(Pm st3).back? with _|⟨s1,n1,p1⟩
   ·dsimp only
    refine O8 (PX (Pb {lo+N3,rs++[(lo,N3,0)],rfl,⟨S3.kd,S3.fl,S3.pm⟩,?_,Rns.cat R3 ⟨rfl,hn1,g3,rfl⟩,hn2,by lia}))
    show((Pm st3).push (lo,N3,0)).toList=_
    rw[NX,pe3]
   ·dsimp only
    refine O8 (P9 (PZ (I:=λ_ c st4=>c=(Vo,())/\∃rs4,Sb st st4/\(Pm st4).toList=rs4/\Rns κ (O7 st4) 0 rs4 lo/\Seg κ (O7 st4) lo N3) (Q:=λc st4=>c=(Vo,())/\∃rs4,Sb st st4/\(Pm st4).toList=rs4/\Rns κ (O7 st4) 0 rs4 lo/\Seg κ (O7 st4) lo N3) ?_ (λc st4 z=>z) ⟨rfl,rs,S3,pe3,R3,g3⟩) ?_)
    ·rintro x4 c st4 _ _ ⟨rfl,rs4,S4,pe4,R4,g4⟩
     refine O8 (Rb ?_)
     have l4:(Pm st4).size=rs4.length:=by rw[<-pe4,MI]
     by_cases c4:(Pm st4).size>1
     ·rw[if_pos c4,getElem?_pos (Pm st4) ((Pm st4).size-2) (by lia)]
      rcases(Pm st4)[(Pm st4).size-2]'(by lia)with⟨o1,o2,o3⟩
      dsimp only
      split
      ·exact Pb ⟨rfl,rs4,S4,pe4,R4,g4⟩
      ·refine O8 (DU hO k0 S4 pe4 R4 (by lia) (show(Pm st4).size-2+1<rs4.length by lia) λst5 rs5 S5 pe5 R5 _ fr5=>?_)
       rw[if_neg (by decide)]
       exact Pb {rfl,rs5,S5,pe5,R5,yH g4 λp p1 _=>fr5 p p1}
     ·rw[if_neg c4]
      exact Pb ⟨rfl,rs4,S4,pe4,R4,g4⟩
    ·rintro c st6 ⟨rfl,rs6,S6,pe6,R6,g6⟩
     dsimp only
     refine O8 (PX ?_)
     refine O8 (PX (Pb {lo+N3,rs6.modify ((Pm st6).size-1) (λy:Nat×Nat×Nat=>(y.1,y.2.1,power' (O7 st).size (2*s1+n1) (2*s1+n1+n1+N3) (O7 st).size))++[(lo,N3,0)],rfl,⟨S6.kd,S6.fl,S6.pm⟩,?_,Rns.cat (R6.mod (f:=(λy:Nat×Nat×Nat=>(y.1,y.2.1,power' (O7 st).size (2*s1+n1) (2*s1+n1+n1+N3) (O7 st).size))) _ (λy=>⟨rfl,rfl⟩)) (show Rns κ (O7 st6) lo [(lo,N3,0)] (lo+N3)from⟨rfl,hn1,g6,rfl⟩),hn2,by lia}))
     show(((Pm st6).modify _ _).push (lo,N3,0)).toList=_
     rw[NX,TB,pe6]
  ·have C3:=C2
   have g3:=g2
   have hn1:=m1
   have hn2:lo+m<=(O7 st).size:=by lia
   have S3:Sb st st2:=⟨C3.kd.trans S.kd,C3.fl,C3.pm.trans S.pm⟩
   have pe3:(Pm st2).toList=rs:=by rw[C3.pd];exact pe
   have R3:Rns κ (O7 st2) 0 rs lo:=R.cg λp _ hp=>C3.fr p hp
   refine O8 (Rb ?_)
   rcases eb:(Pm st2).back? with _|⟨s1,n1,p1⟩
   ·dsimp only
    refine O8 (PX (Pb {lo+m,rs++[(lo,m,0)],rfl,⟨S3.kd,S3.fl,S3.pm⟩,?_,Rns.cat R3 ⟨rfl,hn1,g3,rfl⟩,hn2,by lia}))
    show((Pm st2).push (lo,m,0)).toList=_
    rw[NX,pe3]
   ·dsimp only
    refine O8 (P9 (PZ (I:=λ_ c st4=>c=(Vo,())/\∃rs4,Sb st st4/\(Pm st4).toList=rs4/\Rns κ (O7 st4) 0 rs4 lo/\Seg κ (O7 st4) lo m) (Q:=λc st4=>c=(Vo,())/\∃rs4,Sb st st4/\(Pm st4).toList=rs4/\Rns κ (O7 st4) 0 rs4 lo/\Seg κ (O7 st4) lo m) ?_ (λc st4 z=>z) ⟨rfl,rs,S3,pe3,R3,g3⟩) ?_)
    ·rintro x4 c st4 _ _ ⟨rfl,rs4,S4,pe4,R4,g4⟩
     refine O8 (Rb ?_)
     have l4:(Pm st4).size=rs4.length:=by rw[<-pe4,MI]
     by_cases c4:(Pm st4).size>1
     ·rw[if_pos c4,getElem?_pos (Pm st4) ((Pm st4).size-2) (by lia)]
      rcases(Pm st4)[(Pm st4).size-2]'(by lia)with⟨o1,o2,o3⟩
      dsimp only
      split
      ·exact Pb ⟨rfl,rs4,S4,pe4,R4,g4⟩
      ·refine O8 (DU hO k0 S4 pe4 R4 (by lia) (show(Pm st4).size-2+1<rs4.length by lia) λst5 rs5 S5 pe5 R5 _ fr5=>?_)
       rw[if_neg (by decide)]
       exact Pb {rfl,rs5,S5,pe5,R5,yH g4 λp p1 _=>fr5 p p1}
     ·rw[if_neg c4]
      exact Pb ⟨rfl,rs4,S4,pe4,R4,g4⟩
    ·rintro c st6 ⟨rfl,rs6,S6,pe6,R6,g6⟩
     dsimp only
     refine O8 (PX ?_)
     refine O8 (PX (Pb {lo+m,rs6.modify ((Pm st6).size-1) (λy:Nat×Nat×Nat=>(y.1,y.2.1,power' (O7 st).size (2*s1+n1) (2*s1+n1+n1+m) (O7 st).size))++[(lo,m,0)],rfl,⟨S6.kd,S6.fl,S6.pm⟩,?_,Rns.cat (R6.mod (f:=(λy:Nat×Nat×Nat=>(y.1,y.2.1,power' (O7 st).size (2*s1+n1) (2*s1+n1+n1+m) (O7 st).size))) _ (λy=>⟨rfl,rfl⟩)) (show Rns κ (O7 st6) lo [(lo,m,0)] (lo+m)from⟨rfl,hn1,g6,rfl⟩),hn2,by lia}))
     show(((Pm st6).modify _ _).push (lo,m,0)).toList=_
     rw[NX,TB,pe6]
end
end L2
namespace L2
open PySem PyProof.Rows
section
variable{prog:Program}{w:Pf}{A:Pp}{E:E9->O5->Prop}{s:O5}{κ:KeyKind}{kin:Qt}
def KKi(prog:Program)(w:Pf)(A:Pp)(s:O5)(kin:Qt)(xs:List E9):Prop:=∀(E:E9->O5->Prop) x y r {Q:Qt->O5->Prop},xs=x::y::r->Q kin s->wpAny (Pj prog w) A (keyKind' (x::y::r).toArray) Q E s
theorem CH{q:O4}{xs:List E9}(hO:∀h',(∀b o,b≠q->s.heap.get? b=Vn o->h'.get? b=Vn o)->KLt prog w A { s with heap:=h' } κ kin/\KKi prog w A { s with heap:=h' } kin xs){n:Nat}{P:Fin->O5->Prop}(hq:s.heap.get? q=Vn (Ry "list" xs.toArray n))(k0:KeysOf κ (Uq xs))(hs:xs.length<=sizeLine)
  (fin:∀st':Pr,(O7 st').Perm (Uq xs)->Vk κ (O7 st') (Uq xs).size->P (.done (.ret .none)) { s with heap:=sortedHeap s.heap q xs ((O7 st').map (·.2)) }):wpAny (Pj prog w) A (SF.«list.sort» ⟨[.ref q],[]⟩) P E s:=by
 have lt:=Pl hq
 obtain⟨e1,h1⟩:∃e1,(s.heap.update q (QX λ_=>#[])).get? q=Vn (Ry "list" #[] e1):={_,get?_update_seq hq (λ_=>#[])}
 have h6:(((s.heap.update q (QX λ_=>#[])).push (Ry "tuple" xs.toArray 0)).push (Ry "list" #[] 0)).get? q=Vn (Ry "list" #[] e1):=(Rn _ _ _ (by rw[size_push',Rz];exact Na (NV lt))).trans ((Rn _ _ _ (by rw[Rz];exact Na lt)).trans h1)
 have zz:xs.toArray.size=xs.length:=by simp
 have hK:=hO (((s.heap.update q (QX λ_=>#[])).push (Ry "tuple" xs.toArray 0)).push (Ry "list" #[] 0)) λb o hb hg=>by
  have lb:=Pl hg
  exact(Rn _ _ _ (by rw[size_push',Rz];exact Na (NV lb))).trans ((Rn _ _ _ (by rw[Rz];exact Na lb)).trans ((Rk _ _ (MR hb)).trans hg))
 clear hO
 rw[list_sort_plain]
 refine O6 (listItems_at hq rfl (O6 (TM hq rfl (O6 (UN h1 rfl (O6 (wpAny_newTuple (O6 (wpAny_newList (wpAny_holding ?_))))))))))
 show wpAny (Pj prog w) A _ P E { s with heap:=((s.heap.update q (QX λ_=>#[])).push (Ry "tuple" xs.toArray 0)).push (Ry "list" #[] 0) }
 dsimp only
 by_cases c:xs.toArray.size<2
 ·rw[if_pos c,if_pos c]
  refine O6 (Pc ?_)
  rw[StateT.run_pure]
  refine O6 (Pc (O6 (UN h6 rfl (O6 (TM h6 rfl ?_ (hsz2:=by rw[Vd];show(Uq xs).size<=_;rw[Ur];exact N6 hs))))))
  simp only[bne_self_eq_false,Oo,if_false]
  refine Pc (fin (T9 general' (xs.toArray.zip xs.toArray) #[] 7 Vo) (SW _) λi j hij hj=>?_)
  rw[Ur]at hj
  rw[show i=j by lia]
  exact PQ _
 ·rw[if_neg c,if_neg c]
  match xs,zz,c,hq,k0,hK,hs,fin,h6 with
  | [],_,c,_,_,_,_,_,_=>exact absurd (by decide) c
  | [_],_,c,_,_,_,_,_,_=>exact absurd (by simp) c
  |x::y::r,_,_,hq,k0,hK,hs,fin,h6=>
   refine O6 (hK.2 _ _ _ _ rfl (O6 (Qy (Fo (κ:=κ) hK.1 (st:=T9 kin ((x::y::r).toArray.zip (x::y::r).toArray) #[] 7 Vo) (Q:=λ_ st'=>(O7 st').Perm (Uq (x::y::r))/\QZ st'=Vo/\Vk κ (O7 st') (Uq (x::y::r)).size) rfl rfl rfl k0 λst' a1 a2 a3=>⟨a1,a2,a3⟩) ?_ λ_ _ e=>e)))
   rintro⟨⟨⟩,st'⟩ s' ⟨rfl,hp,hf,g⟩
   dsimp only
   refine O6 (UN h6 rfl (O6 (TM h6 rfl ?_ (hsz2:=ME (OE ((Vd ..).trans (hp.size_eq.trans (Ur _)))) (N6 hs)))))
   rw[hf]
   simp only[bne_self_eq_false,Oo,if_false]
   exact Pc (fin st' hp g)
end
end L2
namespace L2
open PySem PySem.Spec PyProof.Rows
set_option maxRecDepth 100000
theorem uA:∀{ss:List Str}{us:List E9},Vp (ss.map V.str) us->UU us ss
 | [],_,h=>by cases h;exact .nil
 |n::ss,_,h=>by
  cases h with
  |cons h r=>
   obtain⟨t,rfl⟩:=h;exact .cons _ _ (uA r)
theorem uM:∀{us:List E9}{ss:List Str},UU us ss->Vp (ss.map V.str) us
 |_,_,.nil=>.nil
 |_,_,.cons _ t r=>.cons ⟨t,rfl⟩ (uM r)
theorem Be:∀(p:Str)(l:List Str),risingS p l=true->(p::l).Pairwise λa b=>a.cps.toList<=b.cps.toList
 |p,[],_=>Sz _ _
 |p,x::r,h=>by
  have h:(!ltCps x.cps.toList p.cps.toList&&risingS x r)=true:=h;rw[NO,Bool.not_eq_true',ltCps_eq,decide_eq_false_iff_not]at h;have ih:=Be x r h.2;have le:p.cps.toList<=x.cps.toList:=h.1;refine Oq.mpr {λy hy=>?_,ih};rcases Mw.mp hy with rfl|hy
  ·exact le
  exact List.le_trans le (List.rel_of_pairwise_cons ih hy)
theorem zS:∀(l:List Str),sortedS l=true->l.Pairwise λa b=>a.cps.toList<=b.cps.toList
 | [],_=>.nil
 |x::r,h=>Be x r h
theorem C8{a b:List Str}(p:a.Perm b)(ha:sortedS a=true)(hb:sortedS b=true):a=b:=
 List.Perm.eq_of_pairwise (le:=λa b=>a.cps.toList<=b.cps.toList) (λx y _ _ h1 h2=>by
  have e:x.cps.toList=y.cps.toList:=List.le_antisymm h1 h2;obtain⟨⟨x⟩⟩:=x;obtain⟨⟨y⟩⟩:=y;cases e;rfl) (zS a ha) (zS b hb) p
section
variable{prog:Program}{w:Pf}{A:Pp}{s:O5}{κ:KeyKind}
theorem Gr(h:κ.OneLt):KLt prog w A s κ oneType':=λE x y a b Q ha hb q=>h prog w A E s x y a b ha hb q
theorem Ck{xs:List E9}{ss:List Str}(h:UU xs ss):KKi prog w A s oneType' xs:=λE x y r Q e q=>by
 rw[keyKind_strs (by rw[<-e];exact h)];exact Pc q
end
section
variable{X:Cx}
end
set_option maxHeartbeats 1000000
section
variable{prog:Program}{w:Pf}{A:Pp}{E:E9->O5->Prop}{s:O5}{T:String}{r d:O4}{n:Nat}{P:Nat->E9->Prop}{OK:PH->Prop}
theorem zE{Q:List E9->O5->Prop}(K:W.KdlSrc prog w T r d n P OK)(hh:A.handled=Vo)(hok:OK s.heap)(hn:n<=sizeLine)
  (q:∀(h':PH)(tk:Nat)(acc:Array E9),(∀b o,s.heap.get? b=Vn o->h'.get? b=Vn o)->s.heap.objs.size<=h'.objs.size->ItemsOf P acc n->Q acc.toList { s with heap:=h',toks:=tk }):wpAny (Pj prog w) A (collect (.ref r)) Q E s:=by
 have lt:=K.there _ hok
 unfold collect
 refine O6 (wpAny_runValue (RG PySem.F.entry_proto_collect ?_))
 rw[QY PySem.F.plain_proto_collect _]
 refine O6 (m:=newList []) (P2 ?_)
 refine Pc {TL SD _,RG PySem.F.entry_list_iadd ?_}
 rw[QY SD _]
 show wpAny _ A.in1 (Builtin.List.listExtendWith (.ref s.heap.objs.size) (.ref r) (.ref s.heap.objs.size)) _ _ _
 have hS:(s.heap.push { cls:=.type "list",data:=.seq #[] }).get? s.heap.objs.size=Vn { cls:=.type "list",data:=.seq #[] }:=Po _ rfl
 refine W.kdl_extend (R:=λr s'=>match r with
  | .ok (.ret v)=>wpAny (Pj prog w) A (match v with| .ref a=>(do let o<-load a;match o.data with| .seq xs _=>pure xs.toList|_=>unsupported "internal:collect")|_=>unsupported "internal:collect") Q E s'
  | .ok _=>False
  | .error e=>E e s') (s:={ s with heap:=s.heap.push { cls:=.type "list",data:=.seq #[] } }) K hh (K.keep _ _ hok λb _ o e=>O9 _ e) _ (N8 lt.1) (N8 lt.2) _ 0 hS (λh' tk acc' c' hk hL hacc=>?_) hn
 show wpAny _ A (load s.heap.objs.size>>=_) _ _ { s with heap:=h',toks:=tk }
 refine O6 (wpAny_load hL (Pc ?_))
 exact q h' tk acc' (λb o e=>hk b o (Na (Pl e)) (O9 _ e)) (Om (Pl hL)) hacc
theorem BR{ss:List Str}{Q:E9->O5->Prop}(K:W.KdlSrc prog w T r d n P OK)(hh:A.handled=Vo)(hok:OK s.heap)(hn:n<=sizeLine)(hP:∀acc:Array E9,ItemsOf P acc n->UU acc.toList ss)
  (q:∀(h':PH)(tk:Nat)(L e:O4)(out:Array E9)(ss':List Str),(∀b o,s.heap.get? b=Vn o->h'.get? b=Vn o)->s.heap.objs.size<=L->h'.get? L=Vn (Ry "list" out e)->UU out.toList ss'->ss'.Perm ss->sortedS ss'=true->Q (.ref L) { s with heap:=h',toks:=tk }) :
  wpAny (Pj prog w) A (call (.builtin "sorted") [.ref r]) Q E s:=by
 refine Calls.call_function_entry kind_sorted plain_sorted entry_sorted (args_sorted1 _) ?_
 unfold SF.«sorted»
 refine O6 (m:=checkCount "sorted" 1 1 _) (Pc ?_)
 refine O6 (zE K (by simp[hh]) hok hn λh1 tk acc old sz hacc=>?_)
 have hI:=hP acc hacc
 have hz:acc.toList.length<=sizeLine:=by
  rw[MI,hacc.1];exact hn
 generalize acc.toList=vs at hI hz
 refine O6 (wpAny_newList ?_)
 have hL:(h1.push (Ry "list" vs.toArray 0)).get? h1.objs.size=Vn (Ry "list" vs.toArray 0):=Po _ rfl
 refine O6 (wpAny_holding (Rv slot_list_sort {_,hL,rfl} entry_list_sort (CH (λ_ _=>⟨Gr strKind_oneLt,Ck hI⟩) hL hI.keysOf hz λst' p1 p2=>{_,rfl,?_}) (args_list_sort _)))
 obtain⟨ss',a1,a2,a3⟩:=sorted_out_str hI p1 p2
 have lt:h1.objs.size<(h1.push (Ry "list" vs.toArray 0)).objs.size:=Pl hL
 generalize (O7 st').map (·.2)=out at a1⊢
 obtain⟨e,he⟩:=sortedHeap_at (out:=out) hL
 refine Pc {_,rfl,?_}
 refine q (sortedHeap (h1.push (Ry "list" vs.toArray 0)) h1.objs.size vs out) tk h1.objs.size e out ss' (λb o hb=>?_) sz he a1 a2 a3
 have hb1:=old b o hb
 have lb:=Pl hb1
 exact(sortedHeap_old (Na lb) (OZ lb lt)).trans (O9 _ hb1)
end
section
variable{X:Cx}
theorem uO(hc:X.calm=true:=by rfl):dW X (.builtin "sorted") (λxs H Q=>∃(d:O4)(kvs:List (Key×V))(ss:List Str),xs=[.ref d]/\Rd H d (.dK kvs)/\kvs.map (·.1)=ss.map MY/\∀(l:O4)(ss':List Str),ss'.Perm ss->sortedS ss'=true->H l=Vo->Q (.ref l) (upd H l (.lst (ss'.map V.str)))):=by
 intro pins s σ H xs us Q I r h;obtain⟨d,kvs,ss,rfl,e,ks,q⟩:=h;obtain⟨u,rfl,rfl⟩:=VC r;obtain⟨z,hs,vs,rel,dd⟩:=nu I.hok e;obtain⟨ep,dat⟩:=dd.dictAt;have hl:=rel.length;have lk:kvs.length=ss.length:=by
  have:=congrArg QF ks;simpa using this
 refine BR (ss:=ss) (W.kdl_dict (knd:=bR X.prog X.w) (kvs:=vs) (ep:=ep) hs) (I.ok.hd hc) dat (by lia) (λacc hacc=>?_) λh' tk L e out ss' hk sz hL a1 a2 a3=>?_
 ·refine uA (jF ?_ λi x y hx hy=>?_)
  ·have h1:acc.size=vs.length:=hacc.1;rw[Mq];show ss.length=acc.toList.length;simp[h1];lia
  obtain⟨k,v,hv,hk⟩:=hacc.2 i y (by rw[<-MZ];exact hy);have:=congrArg (λl=>l[i]?) rel.keys;have h2:=congrArg (λl=>l[i]?) ks;simp only[MM,hv]at this h2 hx;cases hs':ss[i]? with
  |none=>rw[hs']at hx;cases hx
  |some t=>
   rw[hs']at hx h2;cases hx;cases hkv:kvs[i]? with
   |none=>rw[hkv]at h2;cases h2
   |some kv=>
    rw[hkv]at this h2;have e1:kv.1=k:=by simpa using this
    have e2:kv.1=MY t:=by simpa using h2
    have:=GS hk;rw[<-e1,e2]at this;exact this
 have hN:H L=Vo:=I.hok.fresh sz;refine{.ref L,_,I.laid (a:=L) (o:=.lst (ss'.map V.str)) (t':=tk) hk sz {by rw[Mq,a2.length_eq,<-lk];exact z,out.toList,e,uM a1,by simpa using hL},rfl,q L ss' a2 a3 hN}
end
noncomputable def IP(ta:TA):TI:=λσ H R=>ta σ H λvs H1=>∃i j c:Int,vs=[.int i,.int j,.int c]/\RI i j c=true/\-1000<c/\c≠0/\c<1000/\0<=P5 i j c/\R (CF i c (mn i j c)) H1
section
variable{X:Cx}{tg:Expr}
theorem yU{a b c:Expr}{ta:TA}{p pos:Pos}(hg:Gl X "range")(hm:X.mg "range"=Vo)(ha:PA X [a,b,c] ta)(hs:Ph [a,b,c] X.env=[(false,P7 a X.env),(false,P7 b X.env),(false,P7 c X.env)]:=by rfl)(hs2:Ph [b,c] X.env=[(false,P7 b X.env),(false,P7 c X.env)]:=by rfl) :
  PI X tg (.Call (.Name "range" p) [a,b,c] [] pos) (IP ta):=by
 intro pins s σ H R I h
 refine Call_ (p8 I hg hm boot_range (Qw (thn (ha pos pins s σ H _ I h) λus s1 ⟨vs,H1,I1,r1,q1⟩=>?_) (by rw[hs,hs2]) (by rw[hs2];rfl)))
 obtain⟨i,j,k,e,sm,k2,k0,k1,z0,q⟩:=q1
 subst e
 cases r1 with
 |cons r rr=>
  cases rr with
  |cons r' rr=>
   cases rr with
   |cons r'' rr=>
    cases rr
    obtain⟨t,rfl⟩:=r
    obtain⟨t',rfl⟩:=r'
    obtain⟨t'',rfl⟩:=r''
    refine call_range_3 (by lia) ?_ (MG (PyProof.noPylong_small (by lia)))
    refine TX (IsRange.new ..) sm ?_
    have I2:Inv X pins σ H1 { s1 with heap:=s1.heap.push { cls:=.type "range",data:=.fields #[.int i t,.int j t',.int k t''] },toks:=s1.toks }:=I1.kept λb o z=>O9 _ z
    refine{(s1.heap.push { cls:=.type "range",data:=.fields #[.int i t,.int j t',.int k t''] }).objs.size,[(s1.heap.push { cls:=.type "range",data:=.fields #[.int i t,.int j t',.int k t''] }).objs.size],_,_,H1,rfl,I2.kept (t':=s1.toks) λb o z=>O9 _ z,x6 _ i k (mn i j k),?_,λb hb=>?_,q}
    ·have e1:i+((0:Nat):Int)*k=i:=by simp
     have e2:((mn i j k:Nat):Int)-((0:Nat):Int)=P5 i j k:=by unfold mn;lia
     show Tb _ _ (i+((0:Nat):Int)*k) (((mn i j k:Nat):Int)-((0:Nat):Int)) k;rw[e1,e2];exact Po _ rfl
    have e:b=(s1.heap.push { cls:=.type "range",data:=.fields #[.int i t,.int j t',.int k t''] }).objs.size:=by simpa using hb
    subst e
    exact I2.xV (Ms _) (I2.hok.fresh (Ms _))
end
theorem yN{i j:Int}(h:j<=i)(h0:-1<=j)(h1:i<1000):RI i j (-1)=true/\0<=P5 i j (-1)/\mn i j (-1)=(i-j).toNat:=by
 have e:P5 i j (-1)=i-j:=by
  unfold P5;simp;lia
 refine{?_,by rw[e];lia,by unfold mn;rw[e]};have sm:∀x:Int,-1000<=x->x<=1001->RO x=true:=λx a b=>by
  unfold RO;rw[NO,decide_eq_true_iff,decide_eq_true_iff];lia
 unfold RI;rw[e];simp only[sm i (by lia) (by lia),sm j (by lia) (by lia),sm (i-j) (by lia) (by lia),sm (-1) (by decide) (by decide),sm (j+(-1+1)) (by lia) (by lia),OW,Bool.and_true];simp
noncomputable abbrev gK(us ws:List E9):List E9:=us++ws.take 1
noncomputable abbrev gKV(vs zs:List V):List V:=vs++zs.take 1
def vZ(P:Program)(w:Pf)(K:Pa)(mg:Str->Option E9)(base:PH)(k:Nat)(x:Str)(ps:List Str)(dvs:List V)(sp:Sp):Prop:=
 ∃f fd ds,jY P w K mg base CX0 k f fd ps sp/\Vu K fd ps []/\Vu K fd ps ds/\Vp dvs ds/\Qs K (.ref f)=true/\mg x=Vn (.ref f)/\(∃oc od osl,K.lookup f=Vn ⟨oc,od,.func fd,osl⟩)/\wM K fd ps [ps.getLastD Pq] gK gKV
section
variable{P:Program}{w:Pf}{K:Pa}{mg:Str->Option E9}{base:PH}{k:Nat}{x:Str}{ps:List Str}{dvs:List V}{sp:Sp}
theorem vZ.d(D:vZ P w K mg base k x ps dvs sp):xZ P w K mg base k x ps dvs sp:=by
 obtain⟨f,fd,ds,F,b,b2,v,kp,m,l,_⟩:=D;exact⟨f,fd,ds,F,b,b2,v,kp,m,l⟩
theorem vZ.has(D:vZ P w K mg base k x ps dvs sp):Has P w K mg base k x ps sp:=D.d.has
structure pF(K:Pa)(mg:Str->Option E9)(x:Str)(st:PB)(ps:List Str)(dvs:List V):Prop where
 ex:∃(f:O4)(oc:E9)(od:Option O4)(dV kV doc pm:E9)(an:Option O4)(cdv ct:E9)(osl:Array (Option E9))(ds:List E9),K.lookup f=Vn {oc,od,.func (Qo x x (bF st) (bh st) (aq st) dV kV doc pm an cdv ct),osl}/\RA K cdv x=true/\Qs K (.ref f)=true/\mg x=Vn (.ref f)/\Vp dvs ds/\
  Vu K (Qo x x (bF st) (bh st) (aq st) dV kV doc pm an cdv ct) ps []/\Vu K (Qo x x (bF st) (bh st) (aq st) dV kV doc pm an cdv ct) ps ds/\wM K (Qo x x (bF st) (bh st) (aq st) dV kV doc pm an cdv ct) ps [ps.getLastD Pq] gK gKV
abbrev pF.Hz{st:PB}(_:pF K mg x st ps dvs)(P:Program)(w:Pf)(base:PH)(k:Nat)(sp:Sp):Prop:=vZ P w K mg base k x ps dvs sp
theorem pF.hs{st:PB}{N:List Str}(F:pF K mg x st ps dvs)(S:aD N ps (aq st))
  (hbody:∀(f:O4)(cdv:E9)(A:Pp)(outer:List Env)(s:O5)(H:Hp)(vs:List V)(Q:VK)(E:XK),dP k (A.deeper (Q6 x (aq st) s.heap.objs.size f cdv))->(A.deeper (Q6 x (aq st) s.heap.objs.size f cdv)).units+64<QQ->sp vs H Q E->
   ∃t,PSs (ub CX0 P w K mg base N x (aq st) f cdv A outer s H E).nox (bh st) t/\t { nx:=λ_ H'=>Q .non H',rt:=Q } (Vx N vs) H) (len:∀vs H Q E,sp vs H Q E->vs.length=ps.length:=by intro _ _ _ _ h;cases h;subst_vars;rfl):vZ P w K mg base (k+1) x ps dvs sp:=by
 obtain⟨f,oc,od,dV,kV,doc,pm,an,cdv,ct,osl,ds,lk,hcd,kp,m,hv,b1,b2,b3⟩:=F.ex
 refine{f,_,ds,DQ lk hcd S len λA outer s H vs Q E hr hsp=>?_,b1,b2,hv,kp,m,⟨oc,od,osl,lk⟩,b3}
 obtain⟨t,h,q⟩:=hbody f cdv A outer s H vs Q E hr hr.units hsp
 exact⟨t,h.nox,q⟩
end
theorem BE{X:Cx}{j k:Nat}{x nm:Str}{ps:List Str}{dvs:List V}{sp:Sp}{e v:Expr}{es:List Expr}{t:TA}{tv:TE}{p pos kpos:Pos}(D:vZ X.prog X.w X.K X.mg X.base j x ps dvs sp)(hr:dP k X.A)(ha:PA X (e::es) t)(hv:PE X v tv)(hj:j<=k:=by decide)(hn:ps.getLastD Pq=nm:=by rfl)(hg:Gl X x:=by rfl)
  (hdb:(x==("__debug__":Str))=false:=by decide) (he:Ph (e::es) X.env=(false,P7 e X.env)::Ph es X.env:=by rfl) (hpl:((Qi pos (Ph (e::es) X.env)).any (·.1)||(QK pos (Qg [⟨Vn nm,v,kpos⟩] X.env)).any (·.1.isNone))=false:=by rfl) :
  PE X (.Call (.Name x p) (e::es) [⟨Vn nm,v,kpos⟩] pos) (Cu sp gKV E0 t (DT tv Fw)):=by
 obtain⟨f,fd,ds,F,_,_,_,kp,m,_,b⟩:=D
 subst hn
 exact CI F (hr.mono hj) hg m kp b uP ha (Gu hv Hq) rfl rfl hdb he hpl
end L2
set_option maxHeartbeats 4000000
namespace K33
open PySem L2
local macro_rules|`($a^ae)=>`(aa $a ae)
local macro_rules|`($a^$b^$c)=>`(aa $a ($b^$c))
local macro_rules|`(())=>`(by first|lia|omega)
local macro_rules|`(∅)=>`(by decide)
theorem scM{N P:List Str}{sc:Rg}(k:sc.kind=.function:=by rfl)(c:sc.isCoroutine=false:=by rfl)(g:sc.isGenerator=false:=by rfl)(n:N.Nodup:=by decide+kernel)(p:N.take P.length=P:=by rfl)(q:∀x∈P,sc.names.lookup x=Vn .local\/sc.names.lookup x=Vn .cell:=by decide+kernel)(f:∀y∈sc.names,y.2≠ .free:=by decide+kernel):aD N P sc:=⟨k,c,g,n,p,q,f⟩
theorem px{X:Cx}{a b:Expr}{ta tb:TE}{pos:Pos}(hu:X.A.units+64<QQ)(ha:PE X a ta)(hb:PE X b tb)(hs:zW b:=by exact λ_ _=>rfl):PE X (.Subscript a b pos) (tOp (J0 X.K) ta tb):=KD (Hs hu) ha hb hs
theorem pgn{X:Cx}{pos:Pos}{i:Nat}{x:Str}(hN:X.N.Nodup)(hi:X.N[i]?=Vn x)(hx:Loc X.env.scope x:=by first|exact MG rfl|exact NF rfl)(hf:X.fn x=true\/X.env.scope.names.lookup x=Vn .local:=by first|exact .inl rfl|exact .inr rfl|assumption):PG X (.Name x pos) (nB i):=Bp hN hi hx hf
theorem pst{X:Cx}(i:Nat){x:Str}{e:Expr}{te:TE}{pos pos':Pos}(hN:X.N.Nodup)(he:PE X e te)(hi:X.N[i]?=Vn x:=by rfl)(hx:Loc X.env.scope x:=by first|exact MG rfl|exact NF rfl)(hs:To e (Vn (.Name x pos')) pos.line X.env=pure false:=by rfl)(hf:X.fn x=true\/X.env.scope.names.lookup x=Vn .local:=by first|exact .inl rfl|exact .inr rfl|assumption):PS X (.Assign [.Name x pos'] e pos) (FF te (nB i)):=HE hN hi hx he hs hf
theorem pcB{X:Cx}{id:String}{r:List V->Hp->VK->Prop}{x:Str}{e:Expr}{es:List Expr}{t:TA}{p pos:Pos}(hc:dW X (.builtin id) r)(hm:X.mg x=Vo)(ha:PA X (e::es) t)(hg:Gl X x:=by rfl)(hv:QE x=Vn (.builtin id):=by boot_by_name)(hn:x≠"__name__":=by decide)(hdb:(x==("__debug__":Str))=false:=by decide)(he:Ph (e::es) X.env=(false,P7 e X.env)::Ph es X.env:=by rfl)(hpl:(Qi pos (Ph es X.env)).any (·.1)=false:=by rfl):PE X (.Call (.Name x p) (e::es) [] pos) (tCB r t):=Dp hc hg hm hv ha hn hdb he hpl
theorem pcT{X:Cx}{T:String}{r:List V->Hp->VK->Prop}{x:Str}{e:Expr}{es:List Expr}{t:TA}{p pos:Pos}(hc:dW X (.type T) r)(hm:X.mg x=Vo)(ha:PA X (e::es) t)(hg:Gl X x:=by rfl)(hv:QE x=Vn (.type T):=by boot_by_name)(hn:x≠"__name__":=by decide)(hdb:(x==("__debug__":Str))=false:=by decide)(he:Ph (e::es) X.env=(false,P7 e X.env)::Ph es X.env:=by rfl)(hpl:(Qi pos (Ph es X.env)).any (·.1)=false:=by rfl):PE X (.Call (.Name x p) (e::es) [] pos) (tCB r t):=BY hc hg hm hv ha hn hdb he hpl
theorem ptc{X:Cx}{a b:Expr}{ta tb:TE}{pos:Pos}{op:CmpOp}{r:R2}(ho:OpR X (Pz op) r)(ha:PE X a ta)(hb:PE X b tb)(hm:Q8 op b=false:=by exact E8 _):PT X (.Compare a [op] [b] pos) (G5 (tOp r ta tb)):=F4 ho ha hb hm
theorem pec{X:Cx}{a b:Expr}{ta tb:TE}{pos:Pos}{op:CmpOp}{r:R2}(ho:OpR X (Pz op) r)(ha:PE X a ta)(hb:PE X b tb)(hm:Q8 op b=false:=by exact E8 _):PE X (.Compare a [op] [b] pos) (tOp r ta tb):=Gw ho ha hb hm
noncomputable abbrev nJ:PB:=top 2
theorem lU:aD ["value","names","thing"] ["value"] (aq nJ):=scM
noncomputable abbrev lJ:PB:=top 4
theorem j5:aD ["names","found","name"] ["names"] (aq lJ):=scM
noncomputable abbrev nY:PB:=top 21
theorem cV:aD ["rows","known","steps","row","more"] ["rows","known"] (aq nY):=scM
noncomputable abbrev iH:PB:=top 22
theorem qF:aD ["row","known"] ["row","known"] (aq iH):=scM
noncomputable abbrev oi:PB:=top 23
theorem yj:aD ["steps"] ["steps"] (aq oi):=scM
noncomputable abbrev jd:PB:=top 24
theorem hZ:aD ["row","known","one","other"] ["row","known"] (aq jd):=scM
noncomputable abbrev gn:PB:=top 25
theorem jR:aD ["row","known","steps"] ["row","known"] (aq gn):=scM
noncomputable abbrev oe:PB:=top 26
theorem w9:aD ["row","known"] ["row","known"] (aq oe):=scM
noncomputable abbrev sZ:PB:=top 27
theorem pL:aD ["program","known","deed"] ["program"] (aq sZ):=scM
noncomputable abbrev mC:PB:=top 30
theorem wg:aD ["number"] ["number"] (aq mC):=scM
noncomputable abbrev lL:PB:=top 31
theorem gH:aD ["rows","place","loop","found","row"] ["rows","place","loop"] (aq lL):=scM
noncomputable abbrev jC:PB:=top 32
theorem kW:aD ["row","loop","here"] ["row","loop"] (aq jC):=scM
noncomputable abbrev iC:PB:=top 33
theorem gr:aD ["program","found","deed"] ["program"] (aq iC):=scM
noncomputable abbrev og:PB:=top 34
theorem xw:aD ["row"] ["row"] (aq og):=scM
noncomputable abbrev jM:PB:=top 35
theorem hJ:aD ["heads","found","head"] ["heads"] (aq jM):=scM
noncomputable abbrev rZ:PB:=top 36
theorem gM:aD ["program","found","deed","row","place","loop"] ["program"] (aq rZ):=scM
noncomputable abbrev wH:PB:=top 38
theorem CW:aD ["froms","into","kind","number"] ["froms","into","kind","number"] (aq wH):=scM
noncomputable abbrev lX:PB:=top 39
theorem o5:aD ["row","place","loop","parts_of","here"] ["row","place","loop","parts_of"] (aq lX):=scM
noncomputable abbrev km:PB:=top 40
theorem nE:aD ["row","place","found"] ["row","place"] (aq km):=scM
noncomputable abbrev iN:PB:=top 41
theorem cZ:aD ["row","place","parts","found","thing","part","into"] ["row","place","parts"] (aq iN):=scM
noncomputable abbrev kD:PB:=top 42
theorem ny:aD ["row","known","here"] ["row","known"] (aq kD):=scM
noncomputable abbrev vY:PB:=top 43
theorem hU:aD ["program","steps","parts_of","known","found","row","place","loop"] ["program","steps"] (aq vY):=scM
noncomputable abbrev qg:PB:=top 45
theorem zJ:aD ["program"] ["program"] (aq qg):=scM
noncomputable abbrev pR:PB:=top 46
theorem oa:aD ["program","steps","ways","link"] ["program","steps"] (aq pR):=scM
noncomputable abbrev nQ:PB:=top 47
theorem dC:aD ["ways","starts","came","waiting","at","here","link"] ["ways","starts"] (aq nQ):=scM
noncomputable abbrev qb:PB:=top 48
theorem zd:aD ["program","name","steps"] ["program","name","steps"] (aq qb):=scM
noncomputable abbrev jD:PB:=top 50
theorem iD:aD ["_law_script","_law_k","_law_cell"] ["_law_script","_law_k"] (aq jD):=scM
noncomputable abbrev oh:PB:=top 51
theorem xN:aD ["_law_script","_law_at","_law_many"] ["_law_script","_law_at","_law_many"] (aq oh):=scM
noncomputable abbrev pT:PB:=top 52
theorem iI:aD ["_law_cell","_law_k","_law_digits","_law_ahead","_law_number"] ["_law_cell","_law_k"] (aq pT):=scM
noncomputable abbrev mE:PB:=top 53
theorem bK:aD ["_law_cell","_law_other","_law_many","_law_words","_law_letters","_law_step","_law_found","_law_k","_law_number","_law_word"] ["_law_cell","_law_other","_law_many"] (aq mE):=scM
noncomputable abbrev nU:PB:=top 54
theorem xh:aD ["_law_some","_law_number"] ["_law_some","_law_number"] (aq nU):=scM
noncomputable abbrev lG:PB:=top 55
theorem cX:aD ["_law_names_here","_law_cell","_law_ranks","_law_rows","_law_turn"] ["_law_names_here","_law_cell"] (aq lG):=scM
noncomputable abbrev mQ:PB:=top 56
theorem j7:aD ["_law_names_here","_law_parts","_law_targets","_law_found"] ["_law_names_here","_law_parts"] (aq mQ):=scM
noncomputable abbrev kY:PB:=top 57
theorem wC:aD ["_law_number","_law_scope_here"] ["_law_number","_law_scope_here"] (aq kY):=scM
noncomputable abbrev lI:PB:=top 58
theorem gI:aD ["_law_cell","_law_scope_here","_law_one","_law_other","_law_number"] ["_law_cell","_law_scope_here"] (aq lI):=scM
noncomputable abbrev lC:PB:=top 59
theorem fm:aD ["_law_state","_law_cell","_law_scope_here","_law_way","_law_value_here","_law_number","_law_target"] ["_law_state","_law_cell","_law_scope_here"] (aq lC):=scM
noncomputable abbrev kE:PB:=top 60
theorem da:aD ["_law_state","_law_cell","_law_scope_here","_law_loop","_law_number","_law_left","_law_right","_law_many"] ["_law_state","_law_cell","_law_scope_here","_law_loop"] (aq kE):=scM
noncomputable abbrev j8:PB:=top 61
theorem tW:aD ["_law_state"] ["_law_state"] (aq j8):=scM
noncomputable abbrev pH:PB:=top 62
theorem ib:aD ["_law_state","_law_cell","_law_scope_here","_law_way","_law_name","_law_many","_law_cost"] ["_law_state","_law_cell","_law_scope_here"] (aq pH):=scM
noncomputable abbrev nX:PB:=top 63
theorem mI:aD ["_law_state","_law_cells","_law_scope_here","_law_room","_law_found","_law_cell"] ["_law_state","_law_cells","_law_scope_here","_law_room"] (aq nX):=scM
noncomputable abbrev ou:PB:=top 64
theorem bJ:aD ["_law_script","_law_names_here","_law_cell","_law_state","_law_rows","_law_at","_law_k","_law_start","_law_name","_law_parts","_law_many","_law_cells"] ["_law_script","_law_names_here"] (aq ou):=scM
noncomputable abbrev iB:PB:=top 65
theorem qE:aD ["_law_row_here","_law_number"] ["_law_row_here","_law_number"] (aq iB):=scM
noncomputable abbrev gz:PB:=top 66
theorem aV:aD ["_law_flat_here","_law_at","_law_found","_law_row_here","_law_number","_law_first","_law_other","_law_body_here"] ["_law_flat_here","_law_at"] (aq gz):=scM
noncomputable abbrev jk:PB:=top 67
theorem br:aD ["_law_flat_here","_law_heads_here","_law_deeds","_law_at","_law_number","_law_body_here","_law_end","_law_main"] ["_law_flat_here"] (aq jk):=scM
noncomputable abbrev mJ:PB:=top 68
theorem aR:aD ["_law_flat_here","_law_at","_law_known","_law_total","_law_row_here","_law_more_here","_law_one","_law_other"] ["_law_flat_here","_law_at","_law_known"] (aq mJ):=scM
noncomputable abbrev hE:PB:=top 69
theorem bE:aD ["_law_flat_here","_law_at","_law_known","_law_row_here","_law_one","_law_end","_law_other","_law_high"] ["_law_flat_here","_law_at","_law_known"] (aq hE):=scM
noncomputable abbrev gh:PB:=top 70
theorem bG:aD ["_law_flat_here","_law_cell","_law_known","_law_begins","_law_k","_law_at","_law_total","_law_end"] ["_law_flat_here","_law_cell"] (aq gh):=scM
noncomputable abbrev fI:PB:=top 71
theorem bT:aD ["_law_some","_law_name","_law_met","_law_grown","_law_link"] ["_law_some","_law_name"] (aq fI):=scM
noncomputable abbrev js:PB:=top 72
theorem dM:aD ["_law_program_here","_law_flat_here","_law_due","_law_found","_law_k","_law_one"] ["_law_program_here","_law_flat_here"] (aq js):=scM
noncomputable abbrev tG:PB:=top 73
theorem jt:aD ["_law_script","_law_names_here","_law_flat_here","_law_known","_law_program_here","_law_by","_law_some","_law_name","_law_due","_law_found"] ["_law_script"] (aq tG):=scM
noncomputable abbrev fC:PB:=Vq (top 5) 0
theorem yA:aD ["self","number"] ["self","number"] (aq fC):=scM
noncomputable abbrev gT:PB:=Vq (top 6) 0
theorem qP:aD ["self","number","name","rank"] ["self","number","name","rank"] (aq gT):=scM
noncomputable abbrev gg:PB:=Vq (top 7) 0
theorem pS:aD ["self","number","name","rank","size"] ["self","number","name","rank","size"] (aq gg):=scM
noncomputable abbrev jh:PB:=Vq (top 8) 0
theorem rO:aD ["self","number","name","size"] ["self","number","name","size"] (aq jh):=scM
noncomputable abbrev jg:PB:=Vq (top 9) 0
theorem r9:aD ["self","number","name","rank"] ["self","number","name","rank"] (aq jg):=scM
noncomputable abbrev jL:PB:=Vq (top 10) 0
theorem rJ:aD ["self","number","name","value"] ["self","number","name","value"] (aq jL):=scM
noncomputable abbrev iQ:PB:=Vq (top 10) 2
theorem qN:aD ["self"] ["self"] (aq iQ):=scM
noncomputable abbrev ju:PB:=Vq (top 11) 0
theorem sW:aD ["self","number","name","place","value"] ["self","number","name","place","value"] (aq ju):=scM
noncomputable abbrev iu:PB:=Vq (top 11) 2
theorem qO:aD ["self"] ["self"] (aq iu):=scM
noncomputable abbrev iS:PB:=Vq (top 12) 0
theorem qC:aD ["self","number","name","value"] ["self","number","name","value"] (aq iS):=scM
noncomputable abbrev gb:PB:=Vq (top 12) 2
theorem pN:aD ["self"] ["self"] (aq gb):=scM
noncomputable abbrev jy:PB:=Vq (top 13) 0
theorem rT:aD ["self","number","name","value","mark"] ["self","number","name","value","mark"] (aq jy):=scM
noncomputable abbrev ip:PB:=Vq (top 14) 0
theorem qL:aD ["self","number","name","things"] ["self","number","name","things"] (aq ip):=scM
noncomputable abbrev kj:PB:=Vq (top 16) 0
theorem tX:aD ["self","number","value","first","other","left","right"] ["self","number","value","first","other","left","right"] (aq kj):=scM
noncomputable abbrev jq:PB:=Vq (top 16) 2
theorem tI:aD ["self"] ["self"] (aq jq):=scM
noncomputable abbrev gS:PB:=Vq (top 17) 0
theorem qG:aD ["self","number","thing","most","body","left","right"] ["self","number","thing","most","body","left","right"] (aq gS):=scM
noncomputable abbrev gq:PB:=Vq (top 17) 2
theorem p5:aD ["self"] ["self"] (aq gq):=scM
noncomputable abbrev iO:PB:=Vq (top 18) 0
theorem qw:aD ["self","number","name","parts","body"] ["self","number","name","parts","body"] (aq iO):=scM
noncomputable abbrev ij:PB:=Vq (top 19) 0
theorem qD:aD ["self","heads","deeds","main"] ["self","heads","deeds","main"] (aq ij):=scM
structure Adr where
 Row:O4
 cu:O4
 bI:O4
 du:O4
 dw:O4
 cO:O4
 cz:O4
 bS:O4
 cN:O4
 cq:O4
 dy:O4
 cP:O4
 bx:O4
 bO:O4
 Program:O4
structure Txt(K:Pa)(mg:Str->Option E9)(A:Adr):Prop where
 sV:bf K mg "names_in" nJ ["value"]
 p6:bf K mg "each_once" lJ ["names"]
 dQ:bf K mg "exact_of" nY ["rows","known"]
 eV:bf K mg "exact_of_row" iH ["row","known"]
 rn:bf K mg "one_more" oi ["steps"]
 i5:bf K mg "exact_of_if" jd ["row","known"]
 fQ:bf K mg "exact_of_loop" gn ["row","known"]
 balanced:bf K mg "balanced" oe ["row","known"]
 yM:bf K mg "exacts" sZ ["program"]
 pD:bf K mg "row_place" mC ["number"]
 gO:bf K mg "laid_rows" lL ["rows","place","loop"]
 i4:bf K mg "laid_inside" jC ["row","loop"]
 j4:bf K mg "laid_program" iC ["program"]
 tS:bf K mg "is_place" og ["row"]
 mf:bf K mg "head_places" jM ["heads"]
 places:bf K mg "places" rZ ["program"]
 drawn:bf K mg "drawn" wH ["froms","into","kind","number"]
 pv:bf K mg "row_links" lX ["row","place","loop","parts_of"]
 nS:bf K mg "said_links" km ["row","place"]
 j6:bf K mg "called_links" iN ["row","place","parts"]
 nI:bf K mg "step_links" kD ["row","known"]
 links:pX K mg "links" vY ["program","steps"] [.bl false]
 sources:bf K mg "sources" qg ["program"]
 wY:bf K mg "ways_of" pR ["program","steps"]
 rH:bf K mg "arrivals" nQ ["ways","starts"]
 vA:pF K mg "reached" qb ["program","name","steps"] [.bl false]
 lR:bf K mg "_law_cell_at" jD ["_law_script","_law_k"]
 rB:bf K mg "_law_more" oh ["_law_script","_law_at","_law_many"]
 vU:bf K mg "_law_mix" pT ["_law_cell","_law_k"]
 qh:bf K mg "_law_names" mE ["_law_cell","_law_other","_law_many"]
 rL:bf K mg "_law_pick" nU ["_law_some","_law_number"]
 qe:bf K mg "_law_heads" lG ["_law_names_here","_law_cell"]
 pE:bf K mg "_law_scope" mQ ["_law_names_here","_law_parts"]
 qa:bf K mg "_law_thing" kY ["_law_number","_law_scope_here"]
 pM:bf K mg "_law_value" lI ["_law_cell","_law_scope_here"]
 pj:bf K mg "_law_plain" lC ["_law_state","_law_cell","_law_scope_here"]
 nW:bf K mg "_law_opened" kE ["_law_state","_law_cell","_law_scope_here","_law_loop"]
 nN:bf K mg "_law_closed" j8 ["_law_state"]
 wG:bf K mg "_law_row" pH ["_law_state","_law_cell","_law_scope_here"]
 tN:bf K mg "_law_body" nX ["_law_state","_law_cells","_law_scope_here","_law_room"]
 rW:bf K mg "_law_flat" ou ["_law_script","_law_names_here"]
 kg:bf K mg "_law_row_made" iB ["_law_row_here","_law_number"]
 dh:bf K mg "_law_rows_made" gz ["_law_flat_here","_law_at"]
 kZ:bf K mg "_law_program" jk ["_law_flat_here"]
 gN:bf K mg "_law_exact" mJ ["_law_flat_here","_law_at","_law_known"]
 kr:bf K mg "_law_even_row" hE ["_law_flat_here","_law_at","_law_known"]
 jr:bf K mg "_law_evened_by" gh ["_law_flat_here","_law_cell"]
 gU:bf K mg "_law_closed_set" fI ["_law_some","_law_name"]
 lT:bf K mg "_law_sources" js ["_law_program_here","_law_flat_here"]
 wu:mg "bool"=Vo
 qi:mg "dict"=Vo
 zU:mg "int"=Vo
 aE:mg "isinstance"=Vo
 fX:mg "len"=Vo
 dm:mg "list"=Vo
 Bj:mg "max"=Vo
 dz:mg "range"=Vo
 mK:mg "sorted"=Vo
 yv:mg "str"=Vo
 q0:mg "tuple"=Vo
 Af:mg "zip"=Vo
 qV:∃t,mg "CLOCK"=Vn (.str "the clock" t)
 jW:eT K mg A.Row "Row" [A.Row]
 su:MFn K A.Row "__init__" "Row.__init__" fC ["self","number"]
 jQ:eT K mg A.cu "HandRow" [A.cu,A.Row]
 iL:MFn K A.cu "__init__" "HandRow.__init__" gT ["self","number","name","rank"]
 lr:aJ K A.cu "name"
 lK:aJ K A.cu "rank"
 fu:aJ K A.cu "number"
 cL:eT K mg A.bI "GivenRow" [A.bI,A.Row]
 gc:MFn K A.bI "__init__" "GivenRow.__init__" gg ["self","number","name","rank","size"]
 dY:aJ K A.bI "name"
 gj:aJ K A.bI "rank"
 kP:aJ K A.bI "size"
 eZ:aJ K A.bI "number"
 hX:eT K mg A.du "OwnRow" [A.du,A.Row]
 i6:MFn K A.du "__init__" "OwnRow.__init__" jh ["self","number","name","size"]
 jE:aJ K A.du "name"
 nG:aJ K A.du "size"
 gi:aJ K A.du "number"
 dX:eT K mg A.dw "LetRow" [A.dw,A.Row]
 jw:MFn K A.dw "__init__" "LetRow.__init__" jg ["self","number","name","rank"]
 fM:aJ K A.dw "name"
 ja:aJ K A.dw "rank"
 gy:aJ K A.dw "number"
 eU:eT K mg A.cO "SetRow" [A.cO,A.Row]
 jj:MFn K A.cO "__init__" "SetRow.__init__" jL ["self","number","name","value"]
 iw:MFn K A.cO "reads" "SetRow.reads" iQ ["self"]
 je:aJ K A.cO "name"
 iA:aJ K A.cO "value"
 gC:aJ K A.cO "number"
 dU:eT K mg A.cz "PutRow" [A.cz,A.Row]
 jB:MFn K A.cz "__init__" "PutRow.__init__" ju ["self","number","name","place","value"]
 iF:MFn K A.cz "reads" "PutRow.reads" iu ["self"]
 jA:aJ K A.cz "name"
 gY:aJ K A.cz "place"
 iE:aJ K A.cz "value"
 gw:aJ K A.cz "number"
 dg:eT K mg A.bS "SendRow" [A.bS,A.Row]
 gW:MFn K A.bS "__init__" "SendRow.__init__" iS ["self","number","name","value"]
 f9:MFn K A.bS "reads" "SendRow.reads" gb ["self"]
 lF:aJ K A.bS "name"
 gk:aJ K A.bS "value"
 fE:aJ K A.bS "number"
 b8:eT K mg A.cN "SayRow" [A.cN,A.Row]
 jf:MFn K A.cN "__init__" "SayRow.__init__" jy ["self","number","name","value","mark"]
 fK:aJ K A.cN "name"
 lg:aJ K A.cN "value"
 i7:aJ K A.cN "mark"
 bU:aJ K A.cN "number"
 cD:eT K mg A.cq "CallRow" [A.cq,A.Row]
 iz:MFn K A.cq "__init__" "CallRow.__init__" ip ["self","number","name","things"]
 dJ:aJ K A.cq "name"
 fF:aJ K A.cq "things"
 cU:aJ K A.cq "number"
 gL:eT K mg A.dy "LastRow" [A.dy,A.Row]
 lZ:MFn K A.dy "__init__" "Row.__init__" fC ["self","number"]
 fD:aJ K A.dy "number"
 bY:eT K mg A.cP "IfRow" [A.cP,A.Row]
 kq:MFn K A.cP "__init__" "IfRow.__init__" kj ["self","number","value","first","other","left","right"]
 jJ:MFn K A.cP "reads" "IfRow.reads" jq ["self"]
 jm:aJ K A.cP "value"
 fS:aJ K A.cP "first"
 fP:aJ K A.cP "other"
 gE:aJ K A.cP "left"
 jI:aJ K A.cP "right"
 gZ:aJ K A.cP "number"
 bA:eT K mg A.bx "LoopRow" [A.bx,A.Row]
 ic:MFn K A.bx "__init__" "LoopRow.__init__" gS ["self","number","thing","most","body","left","right"]
 gm:MFn K A.bx "reads" "LoopRow.reads" gq ["self"]
 gu:aJ K A.bx "thing"
 iy:aJ K A.bx "most"
 fe:aJ K A.bx "body"
 gX:aJ K A.bx "left"
 ez:aJ K A.bx "right"
 fH:aJ K A.bx "number"
 b7:eT K mg A.bO "DeedRow" [A.bO,A.Row]
 ig:MFn K A.bO "__init__" "DeedRow.__init__" iO ["self","number","name","parts","body"]
 cS:aJ K A.bO "name"
 eg:aJ K A.bO "parts"
 eY:aJ K A.bO "body"
 fw:aJ K A.bO "number"
 df:eT K mg A.Program "Program" [A.Program]
 gP:MFn K A.Program "__init__" "Program.__init__" ij ["self","heads","deeds","main"]
 dZ:aJ K A.Program "heads"
 cB:aJ K A.Program "deeds"
 gQ:aJ K A.Program "main"
 bH:OfC K A.Row "__init__"
 nd:[A.Row,A.cu,A.bI,A.du,A.dw,A.cO,A.cz,A.bS,A.cN,A.cq,A.dy,A.cP,A.bx,A.bO,A.Program].Nodup
section
variable{P:Program}{w:Pf}{K:Pa}{mg:Str->Option E9}{base:PH}{A:Adr}
theorem alc{H:Hp}{p:O4}(h:H p=Vo)(o:HO):ai H (upd H p o)/\upd H p o p=Vn o:=⟨ai.upd h o,ao⟩
theorem IF:QJ K (.type "int") (.type "int")=Vn true:=by kernel_rfl!
theorem HN:QJ K (.type "int") (.type "bool")=Vn false:=by kernel_rfl!
theorem Ik:QJ K (.type "tuple") (.type "tuple")=Vn true:=by kernel_rfl!
theorem E1:QJ K (.type "list") (.type "list")=Vn true:=by kernel_rfl!
theorem sz{n:Nat}(h:n<=1000):n<=sizeLine:=Om (aG h)
theorem bP(x:Int){m:Int}(hm:0<m):0<=x%m/\x%m<m:={Int.emod_nonneg x (show m≠0 by lia),Int.emod_lt_of_pos x hm}
theorem Ah{α:Type}{xs:List α}{k:Int}(h0:0<=k)(h1:k<(xs.length:Int)):∃x,xs[k.toNat]?=Vn x/\atI xs k=Vn x:=by
 have hk:k.toNat<xs.length:=()
 have e:=iZ (xs:=xs) (j:=k.toNat) (Mv hk);rw[show((k.toNat:Nat):Int)=k by lia]at e;exact{_,Mv hk,e}
theorem Gk(i j:Int):decide (V.int i=V.int j)=decide (i=j):=decide_eq_decide.mpr {λh=>V.int.inj h,λh=>by rw[h]}
theorem Lm(i j:Str):decide (V.str i=V.str j)=decide (i=j):=decide_eq_decide.mpr {λh=>V.str.inj h,λh=>by rw[h]}
theorem mN{α:Type}(xs:List α):xs.filter (λ_=>true)=xs:=List.filter_eq_self.mpr λ_ _=>rfl
theorem BH{a b:Int}(h0:-(2^64)<a)(h1:a<2^64):BU a b:=MG ⟨h0,h1⟩
theorem ai.out{H0 H:Hp}(s:ai H0 H){x:O4}(h:H0 x=Vo)(u:HO):ai H0 (upd H x u):=λa o q=>by
 rw[aY (λz=>by rw[z,h]at q;cases q)];exact s a o q
theorem aw{H:Hp}{x a:O4}{u o:HO}(n:a≠x)(e:H a=Vn o):upd H x u a=Vn o:=by rw[aY n];exact e
theorem Vt{H:Hp}{x y:O4}{o:HO}(h:H x=Vo)(e:H y=Vn o):x≠y:=λz=>by rw[z,e]at h;cases h
noncomputable def Ks(H0:Hp)(x:O4)(H:Hp):List (O4×HO)->Prop
 | []=>True
 |p::ks=>(H p.1=Vn p.2/\p.1≠x/\H0 p.1=Vo)/\Ks H0 x H ks
theorem Ks.imp{H0 H H':Hp}{x:O4}(f:∀a o,a≠x->H a=Vn o->H' a=Vn o):∀{ks:List (O4×HO)},Ks H0 x H ks->Ks H0 x H' ks
 | [],_=>trivial
 |_::_,⟨⟨h1,h2,h3⟩,t⟩=>{{f _ _ h2 h1,h2,h3},Ks.imp f t}
structure IA(K:Pa)(H0:Hp)(x C dx:O4)(fs:List (Str×V))(m:Nat)(ks:List (O4×HO))(H:Hp):Prop where
 s:ai H0 H
 i:H x=Vn (.ins C dx fs)
 k:Ks H0 x H ks
 x:H0 x=Vo
 c:Cls K C
 l:fs.length<=m
theorem IA.one{H:Hp}{x C dx:O4}(hx:H x=Vo)(hd:H dx=Vo)(c:Cls K C):IA K H x C dx [] 0 [] (upd (upd H dx (.own x)) x (.ins C dx [])):={ai.out (ai.upd hd _) hx _,ao,trivial,hx,c,Ms _}
section
variable{H0 H:Hp}{x C dx:O4}{fs:List (Str×V)}{m:Nat}{ks:List (O4×HO)}
theorem zO(f:Str)(v:V):∀fs:List (Str×V),(iJ f v fs).length<=fs.length+1
 | []=>Ms _
 | (g,x)::r=>by
  unfold iJ;split
  ·exact Ox _
  exact OT (zO f v r)
theorem IA.put(a:IA K H0 x C dx fs m ks H)(f:Str)(v:V):IA K H0 x C dx (iJ f v fs) (m+1) ks (upd H x (.ins C dx (iJ f v fs))):={ai.out a.s a.x _,ao,a.k.imp λ_ _ h e=>aw h e,a.x,a.c,ME (zO f v fs) (OT a.l)}
theorem IA.fld{f:Str}{v:V}{Q:Hp->Prop}(a:IA K H0 x C dx fs m ks H)(n:aJ K C f)(k:∀H',IA K H0 x C dx (iJ f v fs) (m+1) ks H'->Q H')(l:m<1000:=by decide):JH K f v (.ref x) H Q:={x,C,dx,fs,rfl,a.i,a.c,n,OH a.l l,k _ (a.put _ _)}
theorem IA.nw{n:O4}(a:IA K H0 x C dx fs m ks H)(hn:H n=Vo)(o:HO):IA K H0 x C dx fs m ((n,o)::ks) (upd H n o):=
 have e:n≠x:=λz=>by rw[z,a.i]at hn;cases hn
 {a.s.trans (ai.upd hn _),aw e.symm a.i,{⟨ao,e,ai.free a.s hn⟩,a.k.imp λ_ _ _ h=>ai.upd hn _ _ _ h},a.x,a.c,a.l}
end
inductive fV(K:Pa)(A:Adr)(vs:List V)(H:Hp)(Q:VK)(Z:XK):Prop
 |mk(x C dx:O4)(fs:List (Str×V))(n:V):vs=[.ref x,n]->H x=Vn (.ins C dx fs)->Cls K C->aJ K C "number"->fs.length<1000->Q .non (upd H x (.ins C dx (iJ "number" n fs)))->fV K A vs H Q Z
theorem nF{C:O4}(F:MFn K C "__init__" "Row.__init__" fC ["self","number"]):yx P w K mg base 2 C "__init__" ["self","number"] (fV K A):=by
 refine F.hs (k:=1) yA (λf cdv A' outer s H vs Q E hr hu h=>?_);obtain⟨x,C,dx,fs,n,rfl,hx,c,na,hl,q⟩:=h;exact{_,(aj (bg (fv 0) (fv 1) rfl)),⟨x,C,dx,fs,rfl,hx,c,na,hl,q⟩}
theorem bV(T:Txt K mg A):yx P w K mg base 2 A.Row "__init__" ["self","number"] (fV K A):=nF T.su
theorem IA.row{H0 H:Hp}{x C dx:O4}{ks:List (O4×HO)}{v:V}{Q:VK}(a:IA K H0 x C dx [] 0 ks H)(n:aJ K C "number")(k:∀H',IA K H0 x C dx (iJ "number" v []) 1 ks H'->Q .non H'):fV K A [.ref x,v] H Q E0:={x,C,dx,[],v,rfl,a.i,a.c,n,∅,k _ (a.put _ _)}
inductive kK(K:Pa)(A:Adr)(vs:List V)(G:Hp)(R:VK)(Z:XK):Prop
 |mk(x dx:O4)(v0 v1 v2:V)(H:Hp):vs=[.ref x,v0,v1,v2]->G=upd (upd H dx (.own x)) x (.ins A.cu dx [])->H x=Vo->H dx=Vo->(∀(H':Hp),ai H H'->H' x=Vn (.ins A.cu dx [("number",v0),("name",v1),("rank",v2)])->R .non H')->kK K A vs G R Z
theorem r8(T:Txt K mg A):T.iL.Hz P w mg base 3 (kK K A):=by
 refine T.iL.hs (k:=2) qP (λf cdv A' outer s G vs R E hr hu h=>?_);obtain⟨x,dx,v0,v1,v2,H,rfl,rfl,hx,hd,q⟩:=h;refine{_,(ab (aO (cC T.jW T.bH (bV T) hr (fv 0^fv 1^ae)))
 (ab (bg (fv 0) (fv 2) rfl)
 (aj (bg (fv 0) (fv 3) rfl)))),?_}
 exact(IA.one (C:=A.cu) hx hd T.jQ.cl).row T.fu λH a=>a.fld T.lr λH a=>a.fld T.lK λH a=>q _ a.s a.i
inductive jT(K:Pa)(A:Adr)(vs:List V)(G:Hp)(R:VK)(Z:XK):Prop
 |mk(x dx:O4)(v0 v1 v2 v3:V)(H:Hp):vs=[.ref x,v0,v1,v2,v3]->G=upd (upd H dx (.own x)) x (.ins A.bI dx [])->H x=Vo->H dx=Vo->(∀(H':Hp),ai H H'->H' x=Vn (.ins A.bI dx [("number",v0),("name",v1),("rank",v2),("size",v3)])->R .non H')->jT K A vs G R Z
theorem qI(T:Txt K mg A):T.gc.Hz P w mg base 3 (jT K A):=by
 refine T.gc.hs (k:=2) pS (λf cdv A' outer s G vs R E hr hu h=>?_);obtain⟨x,dx,v0,v1,v2,v3,H,rfl,rfl,hx,hd,q⟩:=h;refine{_,(ab (aO (cC T.jW T.bH (bV T) hr (fv 0^fv 1^ae)))
 (ab (bg (fv 0) (fv 2) rfl)
 (ab (bg (fv 0) (fv 3) rfl)
 (aj (bg (fv 0) (fv 4) rfl))))),?_}
 exact(IA.one (C:=A.bI) hx hd T.cL.cl).row T.eZ λH a=>a.fld T.dY λH a=>a.fld T.gj λH a=>a.fld T.kP λH a=>q _ a.s a.i
inductive lP(K:Pa)(A:Adr)(vs:List V)(G:Hp)(R:VK)(Z:XK):Prop
 |mk(x dx:O4)(v0 v1 v2:V)(H:Hp):vs=[.ref x,v0,v1,v2]->G=upd (upd H dx (.own x)) x (.ins A.du dx [])->H x=Vo->H dx=Vo->(∀(H':Hp),ai H H'->H' x=Vn (.ins A.du dx [("number",v0),("name",v1),("size",v2)])->R .non H')->lP K A vs G R Z
theorem ua(T:Txt K mg A):T.i6.Hz P w mg base 3 (lP K A):=by
 refine T.i6.hs (k:=2) rO (λf cdv A' outer s G vs R E hr hu h=>?_);obtain⟨x,dx,v0,v1,v2,H,rfl,rfl,hx,hd,q⟩:=h;refine{_,(ab (aO (cC T.jW T.bH (bV T) hr (fv 0^fv 1^ae)))
 (ab (bg (fv 0) (fv 2) rfl)
 (aj (bg (fv 0) (fv 3) rfl)))),?_}
 exact(IA.one (C:=A.du) hx hd T.hX.cl).row T.gi λH a=>a.fld T.jE λH a=>a.fld T.nG λH a=>q _ a.s a.i
inductive lN(K:Pa)(A:Adr)(vs:List V)(G:Hp)(R:VK)(Z:XK):Prop
 |mk(x dx:O4)(v0 v1 v2:V)(H:Hp):vs=[.ref x,v0,v1,v2]->G=upd (upd H dx (.own x)) x (.ins A.dw dx [])->H x=Vo->H dx=Vo->(∀(H':Hp),ai H H'->H' x=Vn (.ins A.dw dx [("number",v0),("name",v1),("rank",v2)])->R .non H')->lN K A vs G R Z
theorem tV(T:Txt K mg A):T.jw.Hz P w mg base 3 (lN K A):=by
 refine T.jw.hs (k:=2) r9 (λf cdv A' outer s G vs R E hr hu h=>?_);obtain⟨x,dx,v0,v1,v2,H,rfl,rfl,hx,hd,q⟩:=h;refine{_,(ab (aO (cC T.jW T.bH (bV T) hr (fv 0^fv 1^ae)))
 (ab (bg (fv 0) (fv 2) rfl)
 (aj (bg (fv 0) (fv 3) rfl)))),?_}
 exact(IA.one (C:=A.dw) hx hd T.dX.cl).row T.gy λH a=>a.fld T.fM λH a=>a.fld T.ja λH a=>q _ a.s a.i
inductive mH(K:Pa)(A:Adr)(vs:List V)(G:Hp)(R:VK)(Z:XK):Prop
 |mk(x dx:O4)(v0 v1 v2:V)(H:Hp):vs=[.ref x,v0,v1,v2]->G=upd (upd H dx (.own x)) x (.ins A.cO dx [])->H x=Vo->H dx=Vo->(∀(H':Hp),ai H H'->H' x=Vn (.ins A.cO dx [("number",v0),("name",v1),("value",v2)])->R .non H')->mH K A vs G R Z
theorem tU(T:Txt K mg A):T.jj.Hz P w mg base 3 (mH K A):=by
 refine T.jj.hs (k:=2) rJ (λf cdv A' outer s G vs R E hr hu h=>?_);obtain⟨x,dx,v0,v1,v2,H,rfl,rfl,hx,hd,q⟩:=h;refine{_,(ab (aO (cC T.jW T.bH (bV T) hr (fv 0^fv 1^ae)))
 (ab (bg (fv 0) (fv 2) rfl)
 (aj (bg (fv 0) (fv 3) rfl)))),?_}
 exact(IA.one (C:=A.cO) hx hd T.eU.cl).row T.gC λH a=>a.fld T.je λH a=>a.fld T.iA λH a=>q _ a.s a.i
inductive lV(K:Pa)(A:Adr)(vs:List V)(G:Hp)(R:VK)(Z:XK):Prop
 |mk(x dx:O4)(v0 v1 v2 v3:V)(H:Hp):vs=[.ref x,v0,v1,v2,v3]->G=upd (upd H dx (.own x)) x (.ins A.cz dx [])->H x=Vo->H dx=Vo->(∀(H':Hp),ai H H'->H' x=Vn (.ins A.cz dx [("number",v0),("name",v1),("place",v2),("value",v3)])->R .non H')->lV K A vs G R Z
theorem ue(T:Txt K mg A):T.jB.Hz P w mg base 3 (lV K A):=by
 refine T.jB.hs (k:=2) sW (λf cdv A' outer s G vs R E hr hu h=>?_);obtain⟨x,dx,v0,v1,v2,v3,H,rfl,rfl,hx,hd,q⟩:=h;refine{_,(ab (aO (cC T.jW T.bH (bV T) hr (fv 0^fv 1^ae)))
 (ab (bg (fv 0) (fv 2) rfl)
 (ab (bg (fv 0) (fv 3) rfl)
 (aj (bg (fv 0) (fv 4) rfl))))),?_}
 exact(IA.one (C:=A.cz) hx hd T.dU.cl).row T.gw λH a=>a.fld T.jA λH a=>a.fld T.gY λH a=>a.fld T.iE λH a=>q _ a.s a.i
inductive kJ(K:Pa)(A:Adr)(vs:List V)(G:Hp)(R:VK)(Z:XK):Prop
 |mk(x dx:O4)(v0 v1 v2:V)(H:Hp):vs=[.ref x,v0,v1,v2]->G=upd (upd H dx (.own x)) x (.ins A.bS dx [])->H x=Vo->H dx=Vo->(∀(H':Hp),ai H H'->H' x=Vn (.ins A.bS dx [("number",v0),("name",v1),("value",v2)])->R .non H')->kJ K A vs G R Z
theorem rM(T:Txt K mg A):T.gW.Hz P w mg base 3 (kJ K A):=by
 refine T.gW.hs (k:=2) qC (λf cdv A' outer s G vs R E hr hu h=>?_);obtain⟨x,dx,v0,v1,v2,H,rfl,rfl,hx,hd,q⟩:=h;refine{_,(ab (aO (cC T.jW T.bH (bV T) hr (fv 0^fv 1^ae)))
 (ab (bg (fv 0) (fv 2) rfl)
 (aj (bg (fv 0) (fv 3) rfl)))),?_}
 exact(IA.one (C:=A.bS) hx hd T.dg.cl).row T.fE λH a=>a.fld T.lF λH a=>a.fld T.gk λH a=>q _ a.s a.i
inductive kX(K:Pa)(A:Adr)(vs:List V)(G:Hp)(R:VK)(Z:XK):Prop
 |mk(x dx:O4)(v0 v1 v2 v3:V)(H:Hp):vs=[.ref x,v0,v1,v2,v3]->G=upd (upd H dx (.own x)) x (.ins A.cN dx [])->H x=Vo->H dx=Vo->(∀(H':Hp),ai H H'->H' x=Vn (.ins A.cN dx [("number",v0),("name",v1),("value",v2),("mark",v3)])->R .non H')->kX K A vs G R Z
theorem tZ(T:Txt K mg A):T.jf.Hz P w mg base 3 (kX K A):=by
 refine T.jf.hs (k:=2) rT (λf cdv A' outer s G vs R E hr hu h=>?_);obtain⟨x,dx,v0,v1,v2,v3,H,rfl,rfl,hx,hd,q⟩:=h;refine{_,(ab (aO (cC T.jW T.bH (bV T) hr (fv 0^fv 1^ae)))
 (ab (bg (fv 0) (fv 2) rfl)
 (ab (bg (fv 0) (fv 3) rfl)
 (aj (bg (fv 0) (fv 4) rfl))))),?_}
 exact(IA.one (C:=A.cN) hx hd T.b8.cl).row T.bU λH a=>a.fld T.fK λH a=>a.fld T.lg λH a=>a.fld T.i7 λH a=>q _ a.s a.i
inductive kM(K:Pa)(A:Adr)(vs:List V)(G:Hp)(R:VK)(Z:XK):Prop
 |mk(x dx:O4)(v0 v1:V)(t0:O4)(l0:List V)(H:Hp):vs=[.ref x,v0,v1,.ref t0]->G=upd (upd H dx (.own x)) x (.ins A.cq dx [])->H x=Vo->H dx=Vo->SqL K H t0 l0->(∀(n0:O4)(H':Hp),H n0=Vo->ai H H'->H' n0=Vn (.lst l0)->H' x=Vn (.ins A.cq dx [("number",v0),("name",v1),("things",.ref n0)])->R .non H')->kM K A vs G R Z
theorem sr(T:Txt K mg A):T.iz.Hz P w mg base 3 (kM K A):=by
 refine T.iz.hs (k:=2) qL (λf cdv A' outer s G vs R E hr hu h=>?_);obtain⟨x,dx,v0,v1,t0,l0,H,rfl,rfl,hx,hd,s0,q⟩:=h;refine{_,(ab (aO (cC T.jW T.bH (bV T) hr (fv 0^fv 1^ae)))
 (ab (bg (fv 0) (fv 2) rfl)
 (aj (bg (fv 0) (pcT jv T.dm (fv 3^ae)) rfl)))),?_}
 refine(IA.one (C:=A.cq) hx hd T.cD.cl).row T.cU λH a=>a.fld T.dJ λH a=>{_,l0,rfl,.inl (a.s.seq s0),λn0 f=>?_};replace a:=a.nw f (.lst l0);exact a.fld T.fF λH a=>q n0 _ a.k.1.2.2 a.s a.k.1.1 a.i
inductive nA(K:Pa)(A:Adr)(vs:List V)(G:Hp)(R:VK)(Z:XK):Prop
 |mk(x dx:O4)(v0 v1 v2 v3:V)(t0 t1:O4)(l0 l1:List V)(H:Hp):vs=[.ref x,v0,v1,.ref t0,.ref t1,v2,v3]->G=upd (upd H dx (.own x)) x (.ins A.cP dx [])->H x=Vo->H dx=Vo->SqL K H t0 l0->SqL K H t1 l1->(∀(n0 n1:O4)(H':Hp),H n0=Vo->H n1=Vo->ai H H'->H' n0=Vn (.lst l0)->H' n1=Vn (.lst l1)->H' x=Vn (.ins A.cP dx [("number",v0),("value",v1),("first",.ref n0),("other",.ref n1),("left",v2),("right",v3)])->R .non H')->nA K A vs G R Z
theorem wO(T:Txt K mg A):T.kq.Hz P w mg base 3 (nA K A):=by
 refine T.kq.hs (k:=2) tX (λf cdv A' outer s G vs R E hr hu h=>?_);obtain⟨x,dx,v0,v1,v2,v3,t0,t1,l0,l1,H,rfl,rfl,hx,hd,s0,s1,q⟩:=h;refine{_,(ab (aO (cC T.jW T.bH (bV T) hr (fv 0^fv 1^ae)))
 (ab (bg (fv 0) (fv 2) rfl)
 (ab (bg (fv 0) (pcT jv T.dm (fv 3^ae)) rfl)
 (ab (bg (fv 0) (pcT jv T.dm (fv 4^ae)) rfl)
 (ab (bg (fv 0) (fv 5) rfl)
 (aj (bg (fv 0) (fv 6) rfl))))))),?_}
 refine(IA.one (C:=A.cP) hx hd T.bY.cl).row T.gZ λH a=>a.fld T.jm λH a=>{_,l0,rfl,.inl (a.s.seq s0),λn0 f=>?_};replace a:=a.nw f (.lst l0);refine a.fld T.fS λH a=>{_,l1,rfl,.inl (a.s.seq s1),λn1 f=>?_};replace a:=a.nw f (.lst l1);exact a.fld T.fP λH a=>a.fld T.gE λH a=>a.fld T.jI λH a=>q n0 n1 _ a.k.2.1.2.2 a.k.1.2.2 a.s a.k.2.1.1 a.k.1.1 a.i
inductive kN(K:Pa)(A:Adr)(vs:List V)(G:Hp)(R:VK)(Z:XK):Prop
 |mk(x dx:O4)(v0 v1 v2 v3 v4:V)(t0:O4)(l0:List V)(H:Hp):vs=[.ref x,v0,v1,v2,.ref t0,v3,v4]->G=upd (upd H dx (.own x)) x (.ins A.bx dx [])->H x=Vo->H dx=Vo->SqL K H t0 l0->(∀(n0:O4)(H':Hp),H n0=Vo->ai H H'->H' n0=Vn (.lst l0)->H' x=Vn (.ins A.bx dx [("number",v0),("thing",v1),("most",v2),("body",.ref n0),("left",v3),("right",v4)])->R .non H')->kN K A vs G R Z
theorem sv(T:Txt K mg A):T.ic.Hz P w mg base 3 (kN K A):=by
 refine T.ic.hs (k:=2) qG (λf cdv A' outer s G vs R E hr hu h=>?_);obtain⟨x,dx,v0,v1,v2,v3,v4,t0,l0,H,rfl,rfl,hx,hd,s0,q⟩:=h;refine{_,(ab (aO (cC T.jW T.bH (bV T) hr (fv 0^fv 1^ae)))
 (ab (bg (fv 0) (fv 2) rfl)
 (ab (bg (fv 0) (fv 3) rfl)
 (ab (bg (fv 0) (pcT jv T.dm (fv 4^ae)) rfl)
 (ab (bg (fv 0) (fv 5) rfl)
 (aj (bg (fv 0) (fv 6) rfl))))))),?_}
 refine(IA.one (C:=A.bx) hx hd T.bA.cl).row T.fH λH a=>a.fld T.gu λH a=>a.fld T.iy λH a=>{_,l0,rfl,.inl (a.s.seq s0),λn0 f=>?_};replace a:=a.nw f (.lst l0);exact a.fld T.fe λH a=>a.fld T.gX λH a=>a.fld T.ez λH a=>q n0 _ a.k.1.2.2 a.s a.k.1.1 a.i
inductive kI(K:Pa)(A:Adr)(vs:List V)(G:Hp)(R:VK)(Z:XK):Prop
 |mk(x dx:O4)(v0 v1:V)(t0 t1:O4)(l0 l1:List V)(H:Hp):vs=[.ref x,v0,v1,.ref t0,.ref t1]->G=upd (upd H dx (.own x)) x (.ins A.bO dx [])->H x=Vo->H dx=Vo->SqL K H t0 l0->SqL K H t1 l1->(∀(n0 n1:O4)(H':Hp),H n0=Vo->H n1=Vo->ai H H'->H' n0=Vn (.lst l0)->H' n1=Vn (.lst l1)->H' x=Vn (.ins A.bO dx [("number",v0),("name",v1),("parts",.ref n0),("body",.ref n1)])->R .non H')->kI K A vs G R Z
theorem rC(T:Txt K mg A):T.ig.Hz P w mg base 3 (kI K A):=by
 refine T.ig.hs (k:=2) qw (λf cdv A' outer s G vs R E hr hu h=>?_);obtain⟨x,dx,v0,v1,t0,t1,l0,l1,H,rfl,rfl,hx,hd,s0,s1,q⟩:=h;refine{_,(ab (aO (cC T.jW T.bH (bV T) hr (fv 0^fv 1^ae)))
 (ab (bg (fv 0) (fv 2) rfl)
 (ab (bg (fv 0) (pcT jv T.dm (fv 3^ae)) rfl)
 (aj (bg (fv 0) (pcT jv T.dm (fv 4^ae)) rfl))))),?_}
 refine(IA.one (C:=A.bO) hx hd T.b7.cl).row T.fw λH a=>a.fld T.cS λH a=>{_,l0,rfl,.inl (a.s.seq s0),λn0 f=>?_};replace a:=a.nw f (.lst l0);refine a.fld T.eg λH a=>{_,l1,rfl,.inl (a.s.seq s1),λn1 f=>?_};replace a:=a.nw f (.lst l1);exact a.fld T.eY λH a=>q n0 n1 _ a.k.2.1.2.2 a.k.1.2.2 a.s a.k.2.1.1 a.k.1.1 a.i
inductive kO(K:Pa)(A:Adr)(vs:List V)(G:Hp)(R:VK)(Z:XK):Prop
 |mk(x dx:O4)(t0 t1 t2:O4)(l0 l1 l2:List V)(H:Hp):vs=[.ref x,.ref t0,.ref t1,.ref t2]->G=upd (upd H dx (.own x)) x (.ins A.Program dx [])->H x=Vo->H dx=Vo->SqL K H t0 l0->SqL K H t1 l1->SqL K H t2 l2->(∀(n0 n1 n2:O4)(H':Hp),H n0=Vo->H n1=Vo->H n2=Vo->ai H H'->H' n0=Vn (.lst l0)->H' n1=Vn (.lst l1)->H' n2=Vn (.lst l2)->H' x=Vn (.ins A.Program dx [("heads",.ref n0),("deeds",.ref n1),("main",.ref n2)])->R .non H')->kO K A vs G R Z
theorem tM(T:Txt K mg A):T.gP.Hz P w mg base 3 (kO K A):=by
 refine T.gP.hs (k:=2) qD (λf cdv A' outer s G vs R E hr hu h=>?_);obtain⟨x,dx,t0,t1,t2,l0,l1,l2,H,rfl,rfl,hx,hd,s0,s1,s2,q⟩:=h;refine{_,(ab (bg (fv 0) (pcT jv T.dm (fv 1^ae)) rfl)
 (ab (bg (fv 0) (pcT jv T.dm (fv 2^ae)) rfl)
 (aj (bg (fv 0) (pcT jv T.dm (fv 3^ae)) rfl)))),?_}
 have a:=IA.one (C:=A.Program) hx hd T.df.cl;refine{_,l0,rfl,.inl (a.s.seq s0),λn0 f=>?_};replace a:=a.nw f (.lst l0);refine a.fld T.dZ λH a=>{_,l1,rfl,.inl (a.s.seq s1),λn1 f=>?_};replace a:=a.nw f (.lst l1);refine a.fld T.cB λH a=>{_,l2,rfl,.inl (a.s.seq s2),λn2 f=>?_};replace a:=a.nw f (.lst l2);exact a.fld T.gQ λH a=>q n0 n1 n2 _ a.k.2.2.1.2.2 a.k.2.1.2.2 a.k.1.2.2 a.s a.k.2.2.1.1 a.k.2.1.1 a.k.1.1 a.i
end
section
variable{P:Program}{w:Pf}{K:Pa}{mg:Str->Option E9}{base:PH}{A:Adr}{N:Nat->Str}
theorem ag{t u:TS}{D:VD}{σ:St}{H:Hp}(h:∀N:St->Hp->Prop,(∀σ H,u D σ H->N σ H)->t { D with nx:=N } σ H):JX t u D σ H:=h (u D) λ_ _ z=>z
theorem j2{α β:Type}{F:α->β->Prop}:∀{l₁:List α}{l₂:List β}{i:Nat}{a:α},Paired F l₁ l₂->l₁[i]?=Vn a->∃b,l₂[i]?=Vn b/\F a b
 |_,_,_,_,.nil,h=>by cases h
 |_,_,0,_,.cons h _,e=>by cases e;exact{_,rfl,h}
 |_,_,i+1,_,.cons _ r,e=>by
  have:∃b,_:=j2 (i:=i) r e;exact this
theorem b5{α β:Type}{F:α->β->Prop}:∀{l₁:List α}{l₂:List β}{i:Nat}{b:β},Paired F l₁ l₂->l₂[i]?=Vn b->∃a,l₁[i]?=Vn a/\F a b
 |_,_,_,_,.nil,h=>by cases h
 |_,_,0,_,.cons h _,e=>by cases e;exact{_,rfl,h}
 |_,_,i+1,_,.cons _ r,e=>by
  have:∃a,_:=b5 (i:=i) r e;exact this
theorem mW{α β:Type}(f:β->α->β)(b:β){xs:List α}{i:Nat}{x:α}(h:xs[i]?=Vn x):(xs.take (i+1)).foldl f b=f ((xs.take i).foldl f b) x:=by
 rw[Nf,h,ON];rfl
noncomputable abbrev cls(A:Adr):List O4:=[A.Row,A.cu,A.bI,A.du,A.dw,A.cO,A.cz,A.bS,A.cN,A.cq,A.dy,A.cP,A.bx,A.bO,A.Program]
theorem Jw(T:Txt K mg A)(i j:Nat)(hi:i<15:=by decide)(hj:j<15:=by decide)(h:i≠j:=by decide):(cls A)[i]'hi≠(cls A)[j]'hj:=λe=>h ((OP T.nd).mp e)
theorem LY{C:O4}{x:Str}{up:List O4}(O:eT K mg C x up)(hs:C∈up:=by exact MA):QJ K (.ref C) (.ref C)=Vn true:=by
 rw[O.kit O hs,decide_eq_true hs]
theorem LW{C D R:O4}{x y:Str}{vp:List O4}(O:eT K mg C x [C,R])(U:eT K mg D y vp)(h1:D≠C)(h2:D≠R):QJ K (.ref C) (.ref D)=Vn false:=by
 rw[O.kit U MA,decide_eq_false];intro m;rcases Mw.mp m with e|m
 ·exact h1 e
 rcases Mw.mp m with e|m
 ·exact h2 e
 cases m
noncomputable def sk(ks:List Key)(f:Key->V):List (Key×V):=ks.map λk=>(k,f k)
theorem Cj{f:Key->V}{k:Key}:∀{ks:List Key},k∈ks->L2.cb (sk ks f) k=Vn (f k)
 |j::r,m=>by
  by_cases e:j=k
  ·subst e;exact cQ rfl
  refine(cI (r:=sk r f) e).trans (Cj ?_);rcases Mw.mp m with z|z
  ·exact absurd z.symm e
  exact z
theorem GP{f:Key->V}{k:Key}:∀{ks:List Key},k∉ks->L2.cb (sk ks f) k=Vo
 | [],_=>rfl
 |j::r,m=>by
  have e:¬ j=k:=λe=>m (by rw[e];exact MA);exact(cI (p:=(j,f j)) (r:=sk r f) e).trans (GP λz=>m (Mz _ z))
instance memK(k:Key)(ks:List Key):Decidable (k∈ks):=decidable_of_iff ((ks.any λj=>decide (j=k))=true) (by
 rw[OU];exact{λ⟨j,m,e⟩=>of_decide_eq_true e▸m,λm=>⟨k,m,decide_eq_true rfl⟩})
theorem Hm{f:Key->V}(k:Key)(ks:List Key):(L2.cb (sk ks f) k).isSome=decide (k∈ks):=by
 by_cases m:k∈ks
 ·rw[Cj m,decide_eq_true m];rfl
 rw[GP m,decide_eq_false m];rfl
noncomputable def xy(f:Key->V)(k:Key)(v:V):Key->V:=λj=>if j=k then v else f j
noncomputable def C0(ks:List Key)(k:Key):List Key:=if k∈ks then ks else ks++[k]
theorem CK{f g:Key->V}{ks:List Key}(h:∀k∈ks,f k=g k):sk ks f=sk ks g:=NZ λk hk=>by rw[h k hk]
theorem Je{f:Key->V}{k:Key}{v:V}{ks:List Key}:Vv (sk ks f) k v=sk (C0 ks k) (xy f k v):=by
 unfold Vv C0;rw[ir,Hm];by_cases m:k∈ks
 ·rw[if_pos (decide_eq_true m),if_pos m];unfold sk;rw[NJ];refine NZ λj _=>?_;show(if j=k then(j,v)else(j,f j))=(j,xy f k v j);unfold xy;split<;>rfl
 rw[if_neg (by rw[decide_eq_false m];exact My),if_neg m];unfold sk;rw[M6];show _=_++[(k,xy f k v k)];rw[show xy f k v k=v from if_pos rfl];congr 1;refine NZ λj hj=>?_;show(j,f j)=(j,xy f k v j);rw[show xy f k v j=f j from if_neg λ(e:j=k)=>m (e▸hj)]
theorem Gm{f:Key->V}{k:Key}{ks:List Key}:Vv (sk ks f) k (f k)=sk (C0 ks k) f:=by
 rw[Je];refine CK λj _=>?_;unfold xy;split
 ·next e=>rw[e]
 rfl
theorem JI(f:Key->V)(ks:List Key):(sk ks f).length=ks.length:=Mq _
theorem wZ(kvs:List (Key×V))(k:Key)(v:V):(Vv kvs k v).length<=kvs.length+1:=by
 unfold Vv;split
 ·rw[Mq];lia
 simp
noncomputable def clI(A:Adr)(i:Nat):O4:=(cls A).getD i 0
theorem DP(T:Txt K mg A){i j:Nat}(hi:i<15)(hj:j<15)(h:i≠j):clI A i≠clI A j:=by
 unfold clI;rw[M9,M9,Mv (show i<(cls A).length from hi),Mv (show j<(cls A).length from hj)];exact Jw T i j hi hj h
theorem vX(T:Txt K mg A)(i:Nat)(h:i<14)(h0:0<i):∃x,eT K mg (clI A i) x [clI A i,A.Row]:=by
 match i,h,h0 with
 |1,_,_=>exact{_,T.jQ}
 |2,_,_=>exact{_,T.cL}
 |3,_,_=>exact{_,T.hX}
 |4,_,_=>exact{_,T.dX}
 |5,_,_=>exact{_,T.eU}
 |6,_,_=>exact{_,T.dU}
 |7,_,_=>exact{_,T.dg}
 |8,_,_=>exact{_,T.b8}
 |9,_,_=>exact{_,T.cD}
 |10,_,_=>exact{_,T.gL}
 |11,_,_=>exact{_,T.bY}
 |12,_,_=>exact{_,T.bA}
 |13,_,_=>exact{_,T.b7}
theorem EL(T:Txt K mg A)(i j:Nat)(hi:i<14)(hj:j<14)(i0:0<i)(j0:0<j):QJ K (.ref (clI A i)) (.ref (clI A j))=Vn (decide (i=j)):=by
 obtain⟨x,O⟩:=vX T i hi i0;obtain⟨y,U⟩:=vX T j hj j0;by_cases e:i=j
 ·subst e;rw[decide_eq_true rfl];exact LY O
 rw[decide_eq_false e];exact LW O U (DP T () () (λz=>e z.symm)) (DP T (j:=0) () () ())
end
section
variable{P:Program}{w:Pf}{K:Pa}{mg:Str->Option E9}{base:PH}{A:Adr}{N:Nat->Str}
seal PE PA PS PSs PT PW
inductive Th where
 |i (n:Int)|x (a:Nat)
inductive Val where
 |one (a:Th)|op (a:Th) (w:Str) (b:Th)
noncomputable def Th.v(N:Nat->Str):Th->V
 | .i n=>.int n
 | .x a=>.str (N a)
noncomputable def vV(N:Nat->Str):Val->List V
 | .one a=>[a.v N]
 | .op a w b=>[a.v N,.str w,b.v N]
inductive Lr where
 |hand (i:Nat) (r:Int)|giv (i:Nat) (r z:Int)|own (i:Nat) (z:Int)|lt (i:Nat) (r:Int)
 |set (x:Nat) (v:Val)|put (x:Nat) (p:Th) (v:Val)|snd (h:Nat) (v:Val)|say (x:Nat) (v:Val) (m:Nat)
 |call (i:Nat) (ts:List Th)|last
noncomputable def Lr.ci:Lr->Nat
 | .hand _ _=>1| .giv _ _ _=>2| .own _ _=>3| .lt _ _=>4| .set _ _=>5| .put _ _ _=>6| .snd _ _=>7| .say _ _ _=>8
 | .call _ _=>9| .last=>10
noncomputable abbrev nV(N:Nat->Str)(ns:List Nat):List V:=ns.map λi=>V.str (N i)
noncomputable def Lr.fs(N:Nat->Str)(p:O4):Lr->List (Str×V)
 | .hand i r=>[("name",.str (N i)),("rank",.int r)]
 | .giv i r z=>[("name",.str (N i)),("rank",.int r),("size",.int z)]
 | .own i z=>[("name",.str (N i)),("size",.int z)]
 | .lt i r=>[("name",.str (N i)),("rank",.int r)]
 | .set x _=>[("name",.str (N x)),("value",.ref p)]
 | .put x t _=>[("name",.str (N x)),("place",t.v N),("value",.ref p)]
 | .snd h _=>[("name",.str (N h)),("value",.ref p)]
 | .say x _ m=>[("name",.str (N x)),("value",.ref p),("mark",.str (N m))]
 | .call i _=>[("name",.str (N i)),("things",.ref p)]
 | .last=>[]
noncomputable def Lr.ob(N:Nat->Str):Lr->Option HO
 | .set _ v=>Vn (.tup (vV N v))
 | .put _ _ v=>Vn (.tup (vV N v))
 | .snd _ v=>Vn (.tup (vV N v))
 | .say _ v _=>Vn (.tup (vV N v))
 | .call _ ts=>Vn (.lst (ts.map (Th.v N)))
 |_=>Vo
inductive Pt where
 |leaf (n:Int) (r:Lr)
 |iff (n:Int) (v:Val) (l r:Int) (f o:List Pt)
 |loop (n:Int) (t:Th) (m l r:Int) (b:List Pt)
 |bj (n:Int) (i:Nat) (ps:List Nat) (b:List Pt)
noncomputable def Pt.no:Pt->Int
 | .leaf n _=>n
 | .iff n _ _ _ _ _=>n
 | .loop n _ _ _ _ _=>n
 | .bj n _ _ _=>n
noncomputable def Pt.ci:Pt->Nat
 | .leaf _ r=>r.ci
 | .iff _ _ _ _ _ _=>11
 | .loop _ _ _ _ _ _=>12
 | .bj _ _ _ _=>13
def LG(A:Adr)(N:Nat->Str)(X:Hp)(v:V)(n:Int)(r:Lr):Prop:=∃a dx p,v=.ref a/\X a=Vn (.ins (clI A r.ci) dx (("number",.int n)::r.fs N p))/\∀o,r.ob N=Vn o->X p=Vn o
mutual
noncomputable def ba(A:Adr)(N:Nat->Str)(X:Hp):V->Pt->Prop
 |v,.leaf n r=>LG A N X v n r
 |v,.iff n val l r f o=>∃a dx p pf po xf xo,v=.ref a/\X a=Vn (.ins A.cP dx [("number",.int n),("value",.ref p),("first",.ref pf),("other",.ref po),("left",.int l),("right",.int r)])/\X p=Vn (.tup (vV N val))/\X pf=Vn (.lst xf)/\X po=Vn (.lst xo)/\aI A N X xf f/\aI A N X xo o
 |v,.loop n t m l r b=>∃a dx pb xb,v=.ref a/\X a=Vn (.ins A.bx dx [("number",.int n),("thing",t.v N),("most",.int m),("body",.ref pb),("left",.int l),("right",.int r)])/\X pb=Vn (.lst xb)/\aI A N X xb b
 |v,.bj n i ps b=>∃a dx pp pb xb,v=.ref a/\X a=Vn (.ins A.bO dx [("number",.int n),("name",.str (N i)),("parts",.ref pp),("body",.ref pb)])/\X pp=Vn (.lst (nV N ps))/\X pb=Vn (.lst xb)/\aI A N X xb b
noncomputable def aI(A:Adr)(N:Nat->Str)(X:Hp):List V->List Pt->Prop
 |vs,[]=>vs=[]
 |vs,t::ts=>∃x xs,vs=x::xs/\ba A N X x t/\aI A N X xs ts
end
mutual
theorem ba.same{X X':Hp}(s:ai X X'):∀(t:Pt)(v:V),ba A N X v t->ba A N X' v t
 | .leaf n r,v,h=>by
  unfold ba at h⊢;obtain⟨a,dx,p,e,h1,h2⟩:=h;exact{a,dx,p,e,s _ _ h1,λo ho=>s _ _ (h2 o ho)}
 | .iff n val l r f o,v,h=>by
  unfold ba at h⊢;obtain⟨a,dx,p,pf,po,xf,xo,e,h1,h2,h3,h4,h5,h6⟩:=h;exact{a,dx,p,pf,po,xf,xo,e,s _ _ h1,s _ _ h2,s _ _ h3,s _ _ h4,aI.same s f _ h5,aI.same s o _ h6}
 | .loop n t m l r b,v,h=>by
  unfold ba at h⊢;obtain⟨a,dx,pb,xb,e,h1,h2,h3⟩:=h;exact{a,dx,pb,xb,e,s _ _ h1,s _ _ h2,aI.same s b _ h3}
 | .bj n i ps b,v,h=>by
  unfold ba at h⊢;obtain⟨a,dx,pp,pb,xb,e,h1,h2,h3,h4⟩:=h;exact{a,dx,pp,pb,xb,e,s _ _ h1,s _ _ h2,s _ _ h3,aI.same s b _ h4}
theorem aI.same{X X':Hp}(s:ai X X'):∀(ts:List Pt)(vs:List V),aI A N X vs ts->aI A N X' vs ts
 | [],vs,h=>by
  unfold aI at h⊢;exact h
 |t::ts,vs,h=>by
  unfold aI at h⊢;obtain⟨x,xs,e,h1,h2⟩:=h;exact{x,xs,e,ba.same s t _ h1,aI.same s ts _ h2}
end
theorem aI.nil{X:Hp}:aI A N X [] []:=by
 unfold aI;rfl
theorem aI.cons{X:Hp}{x:V}{t:Pt}{ts:List Pt}{vs:List V}(h:ba A N X x t)(h':aI A N X vs ts):aI A N X (x::vs) (t::ts):=by
 unfold aI;exact⟨x,vs,rfl,h,h'⟩
theorem aI.one{X:Hp}{x:V}{t:Pt}(h:ba A N X x t):aI A N X [x] [t]:=aI.cons h aI.nil
theorem aI.len{X:Hp}:∀{ts:List Pt}{vs:List V},aI A N X vs ts->vs.length=ts.length
 | [],vs,h=>by
  unfold aI at h;rw[h];rfl
 |t::ts,vs,h=>by
  unfold aI at h;obtain⟨y,ys,e,h1,h2⟩:=h;subst e;simp[aI.len h2]
theorem aI.get{X:Hp}:∀{ts:List Pt}{vs:List V}{i:Nat}{v:V},aI A N X vs ts->vs[i]?=Vn v->∃t,ts[i]?=Vn t/\ba A N X v t
 | [],vs,i,v,h,e=>by
  unfold aI at h;rw[h]at e;cases e
 |t::ts,vs,i,v,h,e=>by
  unfold aI at h;obtain⟨y,ys,e',h1,h2⟩:=h;subst e';cases i with
  |zero=>cases e;exact⟨t,rfl,h1⟩
  |succ i=>exact aI.get (i:=i) h2 e
theorem nH(p:Pt):0<p.ci/\p.ci<14:=by
 cases p with
 |leaf n r=>cases r<;>simp[Pt.ci,Lr.ci]
 |_=>simp[Pt.ci]
theorem KA(T:Txt K mg A)(p:Pt):Cls K (clI A p.ci)/\aJ K (clI A p.ci) "number":=by
 cases p with
 |leaf n r=>
  cases r with
  |hand _ _=>exact⟨T.jQ.cl,T.fu⟩
  |giv _ _ _=>exact⟨T.cL.cl,T.eZ⟩
  |own _ _=>exact⟨T.hX.cl,T.gi⟩
  |lt _ _=>exact⟨T.dX.cl,T.gy⟩
  |set _ _=>exact⟨T.eU.cl,T.gC⟩
  |put _ _ _=>exact⟨T.dU.cl,T.gw⟩
  |snd _ _=>exact⟨T.dg.cl,T.fE⟩
  |say _ _ _=>exact⟨T.b8.cl,T.bU⟩
  |call _ _=>exact⟨T.cD.cl,T.cU⟩
  |_=>exact⟨T.gL.cl,T.fD⟩
 |iff _ _ _ _ _ _=>exact⟨T.bY.cl,T.gZ⟩
 |loop _ _ _ _ _ _=>exact⟨T.bA.cl,T.fH⟩
 |bj _ _ _ _=>exact⟨T.b7.cl,T.fw⟩
theorem Ct{X:Hp}{v:V}{p:Pt}(h:ba A N X v p):∃a dx fs,v=.ref a/\X a=Vn (.ins (clI A p.ci) dx (("number",.int p.no)::fs)):=by
 cases p with
 |leaf n r=>
  unfold ba at h;obtain⟨a,dx,p,e,h1,h2⟩:=h;exact{a,dx,_,e,h1}
 |iff n val l r f o=>
  unfold ba at h;obtain⟨a,dx,p,pf,po,xf,xo,e,h1,_⟩:=h;exact{a,dx,_,e,h1}
 |loop n t m l r b=>
  unfold ba at h;obtain⟨a,dx,pb,xb,e,h1,_⟩:=h;exact{a,dx,_,e,h1}
 |bj n i ps b=>
  unfold ba at h;obtain⟨a,dx,pp,pb,xb,e,h1,_⟩:=h;exact{a,dx,_,e,h1}
theorem uv(T:Txt K mg A){X H:Hp}(s:ai X H){v:V}{p:Pt}(h:ba A N X v p)(j:Nat)(j0:0<j)(hj:j<14){R:Bool->Hp->Prop}(q:R (decide (p.ci=j)) H):yK K [v,.ref (clI A j)] H λv H1=>xC K v H1 R:=by
 obtain⟨a,dx,fs,rfl,ha⟩:=Ct h;obtain⟨x,O⟩:=vX T p.ci (nH p).2 (nH p).1;exact isB (O.K7 (s _ _ ha)) (EL T p.ci j (nH p).2 hj (nH p).1 j0) q
theorem ke(T:Txt K mg A){X H:Hp}(s:ai X H){v:V}{p:Pt}(h:ba A N X v p){j:Nat}(e:p.ci=j){R:Bool->Hp->Prop}(q:R true H):yK K [v,.ref (clI A j)] H λv H1=>xC K v H1 R:=uv T s h j (e▸(nH p).1) (e▸(nH p).2) (by rw[decide_eq_true e];exact q)
theorem gv(T:Txt K mg A){X H:Hp}(s:ai X H){v:V}{p:Pt}(h:ba A N X v p){j:Nat}(e:p.ci≠j){R:Bool->Hp->Prop}(q:R false H)(j0:0<j:=by decide)(hj:j<14:=by decide):yK K [v,.ref (clI A j)] H λv H1=>xC K v H1 R:=uv T s h j j0 hj (by rw[decide_eq_false e];exact q)
theorem vP(T:Txt K mg A){X H:Hp}(s:ai X H){v:V}{p:Pt}(h:ba A N X v p)(j:Nat)(j0:0<j)(hj:j<14){Q:VK}(q:Q (.bl (decide (p.ci=j))) H):yK K [v,.ref (clI A j)] H Q:=by
 obtain⟨a,dx,fs,rfl,ha⟩:=Ct h;obtain⟨x,O⟩:=vX T p.ci (nH p).2 (nH p).1;exact{_,_,_,_,rfl,(λz=>by cases z),O.K7 (s _ _ ha),EL T p.ci j (nH p).2 hj (nH p).1 j0,q}
theorem eG(T:Txt K mg A){X H:Hp}(s:ai X H){v:V}{p:Pt}(h:ba A N X v p){Q:VK}(q:Q (.int p.no) H):nP K "number" v H Q:=by
 obtain⟨a,dx,fs,rfl,ha⟩:=Ct h;obtain⟨c1,c2⟩:=KA T p;exact fdI (s _ _ ha) c1 c2 rfl q
noncomputable def aX(n:Int):Str:=Pq++("row ":Str)++RN (toString n)
noncomputable def Jx(s:Str):Nat:=(s.cps.toList.drop 4).foldl (λa c=>10*a+(c-48)) 0
theorem mY:∀n:Fin 1001,((n.val:Int).natAbs.log2<1920)/\(RN (toString (n.val:Int))).length<=20/\Jx (aX (n.val:Int))=n.val/\(aX (n.val:Int)).cps[0]?=Vn 114:=by decide+kernel
theorem Fp{a b:Int}(a0:0<=a)(a1:a<=1000)(b0:0<=b)(b1:b<=1000)(h:aX a=aX b):a=b:=by
 obtain⟨a,rfl⟩:∃k:Nat,a=(k:Int):={a.toNat,()};obtain⟨b,rfl⟩:∃k:Nat,b=(k:Int):={b.toNat,()};have h1:=(mY {a,()}).2.2.1;have h2:=(mY {b,()}).2.2.1;rw[show Jx (aX (a:Int))=Jx (aX (b:Int)) by rw[h]]at h1;have:b=a:=h2.symm.trans h1;rw[this]
theorem GB{a:Int}(a0:0<=a)(a1:a<=1000){x:Str}(hx:x.cps[0]?≠Vn 114):aX a≠x:=by
 obtain⟨a,rfl⟩:∃k:Nat,a=(k:Int):={a.toNat,()};intro e;exact hx (e▸(mY {a,()}).2.2.2)
theorem iV(a b:Str):(a++b).length=a.length+b.length:=Up
inductive yi(vs:List V)(H:Hp)(Q:VK)(Z:XK):Prop
 |mk(n:Int):vs=[.int n]->0<=n->n<=1000->Q (.str (aX n)) H->yi vs H Q Z
theorem o9(T:Txt K mg A):T.pD.Hz P w base 1 yi:=by
 refine T.pD.hs wg (λf cdv A' outer s H vs Q E' hr hu h=>?_);obtain⟨n,rfl,h0,h1,q⟩:=h;obtain⟨n,rfl⟩:∃k:Nat,n=(k:Int):={n.toNat,()};obtain⟨k1,k2,_⟩:=mY {n,()};refine{_,(aj (aC (F9 (zP au (zP (Hv (fv 0)) IU))))),{_,rfl,∅,MG {_,rfl,k1,_,rfl,?_}}};have l:(aX (n:Int)).length<=sizeLine:=by
  unfold aX;rw[iV];exact ME (Nat.add_le_add_left k2 _) ∅
 exact⟨l,l,q⟩
end
section
variable{P:Program}{w:Pf}{K:Pa}{mg:Str->Option E9}{base:PH}{A:Adr}{N:Nat->Str}
seal PE PA PS PSs PT PW
theorem Paired.two{α β:Type}{F:α->β->Prop}:∀{xs zs:List α}{ys ws:List β},Paired F xs ys->Paired F zs ws->Paired F (xs++zs) (ys++ws)
 |_,_,_,_,.nil,h=>h
 |_,_,_,_,.cons g r,h=>.cons g (Paired.two r h)
noncomputable abbrev Le:=Pt×Option Str×Option Str
noncomputable def oS:Option Str->V
 |none=>.non
 |some x=>.str x
mutual
noncomputable def dj(lp:Option Str):Pt->List Le
 | .leaf _ _=>[]
 | .iff n _ _ _ f o=>bC (Vn (aX n)) lp f++bC (Vn (aX n)) lp o
 | .loop n _ _ _ _ b=>bC (Vn (aX n)) (Vn (aX n)) b
 | .bj _ _ _ _=>[]
noncomputable def bC(pl lp:Option Str):List Pt->List Le
 | []=>[]
 |t::ts=>(t,pl,lp)::(dj lp t++bC pl lp ts)
end
mutual
noncomputable def dep:Pt->Nat
 | .leaf _ _=>0
 | .iff _ _ _ _ f o=>max (ni f) (ni o)+1
 | .loop _ _ _ _ _ b=>ni b+1
 | .bj _ _ _ b=>0
noncomputable def ni:List Pt->Nat
 | []=>0
 |t::ts=>max (dep t) (ni ts)
end
theorem rQ{t:Pt}:∀{ts:List Pt},t∈ts->dep t<=ni ts
 |t'::ts,m=>by
  unfold ni;rcases Mw.mp m with rfl|m
  ·exact Nat.le_max_left _ _
  exact ME (rQ m) (Nat.le_max_right _ _)
theorem rq{pl lp:Option Str}:∀(a b:List Pt),bC pl lp (a++b)=bC pl lp a++bC pl lp b
 | [],b=>by simp[bC]
 |t::a,b=>by
  have h1:bC pl lp (t::(a++b))=(t,pl,lp)::(dj lp t++bC pl lp (a++b)):=by rw[bC]
  have h2:bC pl lp (t::a)=(t,pl,lp)::(dj lp t++bC pl lp a):=by rw[bC]
  show bC pl lp (t::(a++b))=_;rw[h1,h2,rq a b];simp
theorem vg{pl lp:Option Str}{ts:List Pt}{t:Pt}{i:Nat}(h:ts[i]?=Vn t):bC pl lp (ts.take (i+1))=bC pl lp (ts.take i)++(t,pl,lp)::dj lp t:=by
 rw[Nf,h,rq];show bC pl lp (ts.take i)++bC pl lp [t]=_;rw[show bC pl lp [t]=(t,pl,lp)::dj lp t by simp[bC]]
theorem Cw{pl lp:Option Str}{ts:List Pt}{t:Pt}{i:Nat}(h:ts[i]?=Vn t):bC pl lp ts=bC pl lp (ts.take i)++((t,pl,lp)::dj lp t)++bC pl lp (ts.drop (i+1)):=by
 rw[<-vg h,<-rq,MO]
def Nb(es:List Le):Prop:=∀e∈es,0<=e.1.no/\e.1.no<=1000
def LyE(A:Adr)(N:Nat->Str)(X:Hp)(e:Le)(y:V)(H:Hp):Prop:=∃tp v,y=V.ref tp/\H tp=Vn (.tup [v,oS e.2.1,oS e.2.2])/\ba A N X v e.1
def Ly(A:Adr)(N:Nat->Str)(X H:Hp)(es:List Le)(ys:List V):Prop:=Paired (λe y=>LyE A N X e y H) es ys
theorem Ly.same{X H H':Hp}(s:∀x w,H x=Vn (.tup w)->H' x=Vn (.tup w)){es:List Le}{ys:List V}(h:Ly A N X H es ys):Ly A N X H' es ys:=Paired.sY h λ_ _ ⟨tp,v,e,h1,h2⟩=>{tp,v,e,s _ _ h1,h2}
inductive ra(A:Adr)(d:Nat)(vs:List V)(H:Hp)(Q:VK)(Z:XK):Prop
 |mk(N:Nat->Str)(X:Hp)(L:O4)(xs:List V)(pl lp:Option Str)(ts:List Pt)(z0:vs=[.ref L,oS pl,oS lp])(z1:ai X H)(z2:X L=Vn (.lst xs))(z3:aI A N X xs ts)(z4:ni ts<=d)(z5:Nb (bC pl lp ts))(z6:(bC pl lp ts).length<=900)
  (z7:∀(R:O4)(ys:List V)(H':Hp),ai H H'->H R=Vo->H' R=Vn (.lst ys)->Ly A N X H' (bC pl lp ts) ys->Q (.ref R) H'):ra A d vs H Q Z
inductive pk(A:Adr)(d:Nat)(vs:List V)(H:Hp)(Q:VK)(Z:XK):Prop
 |mk(N:Nat->Str)(X:Hp)(v:V)(lp:Option Str)(t:Pt)(z0:vs=[v,oS lp])(z1:ai X H)(z2:ba A N X v t)(z3:dep t<=d)(z4:0<=t.no/\t.no<=1000)(z5:Nb (dj lp t))(z6:(dj lp t).length<=900)
  (z7:∀(R:O4)(ys:List V)(H':Hp),ai H H'->H R=Vo->H' R=Vn (.lst ys)->Ly A N X H' (dj lp t) ys->Q (.ref R) H'):pk A d vs H Q Z
noncomputable def D7(A:Adr):Nat->Sp
 |0=>λ_ _ _ _=>False
 |d+1=>ra A d
theorem zX(T:Txt K mg A)(d j:Nat)(gA:T.i4.Hz P w base j (pk A d)):T.gO.Hz P w base (j+1) (ra A d):=by
 refine T.gO.hs (k:=j) gH (λf cdv A' outer s H vs Q E' hr hu h=>?_);obtain⟨N,X,L,xs,pl,lp,ts,rfl,s0,hL,pt,dp,nb,ln,q⟩:=h;refine{_,(ab (pst 3 gH.nd (aN ae))
  (ab (cf Pk rfl (b9 (fv 0)) (pgn (i:=4) gH.nd rfl)
   (ab (aO (bt (fv 3) (aS (fv 4^fv 1^fv 2^ae)^ae)))
   (aj (aO (fY (fv 3) ((ak (hj:=by lia) gA hr (fv 4^fv 2^ae))^ae))))))
  (aj (aC (fv 3))))),?_}
 refine ag λM1 K1=>{MF _,λR hR=>?_};obtain⟨s1,e1⟩:=alc hR (HO.lst []);generalize upd H R _=H1 at s1 e1⊢;refine K1 _ _ ?_;clear K1 M1;try dsimp only
 refine ag λM1 K1=>MG {{_,SqL.of ((s0.trans s1) _ _ hL)},cn (K:=K) (xs:=xs) (λi σ Hc=>∃(ys:List V)(v4:Option V),σ=[Vn (.ref L),Vn (oS pl),Vn (oS lp),Vn (.ref R),v4]/\ai H Hc/\Hc R=Vn (.lst ys)/\Ly A N X Hc (bC pl lp (ts.take i)) ys) {[],Vo,rfl,s1,e1,by rw[show bC pl lp (ts.take 0)=[] by show bC pl lp []=[];rw[bC]];exact .nil} (λi σ Hc _ ⟨_,_,_,z,_⟩=>SqL.of ((s0.trans z) _ _ hL)) ?_ ?_}
 ·rintro i v σ Hc hv ⟨ys,v4,rfl,sc,hRc,ly⟩;obtain⟨t,ht,pa⟩:=pt.get hv;have mt:t∈ts:=ML ht;have e:=Cw (pl:=pl) (lp:=lp) ht;have le:(bC pl lp (ts.take i)).length+(1+(dj lp t).length)<=900:=by
   rw[e]at ln;simp at ln;lia
  have n1:∀z∈((t,pl,lp)::dj lp t),0<=z.1.no/\z.1.no<=1000:=λz hz=>nb z (by rw[e];exact MK _ (MD _ hz));have lly:=Pd ly;try dsimp only
  refine ag λN1 J1=>{MG {rfl,_,SqL.of hRc},by show 3<=sizeLine;decide,λtp htp=>?_};have tpR:tp≠R:=Vt htp hRc;refine{_,_,_,rfl,rfl,aw tpR.symm hRc,aG (),?_};have s2:ai H (upd (upd Hc tp (.tup [v,oS pl,oS lp])) R (.lst (ys++[.ref tp]))):=ai.out (sc.trans (ai.upd htp _)) hR _;have e2:upd (upd Hc tp (.tup [v,oS pl,oS lp])) R (.lst (ys++[.ref tp])) R=Vn (.lst (ys++[.ref tp])):=ao;have l2:Ly A N X (upd (upd Hc tp (.tup [v,oS pl,oS lp])) R (.lst (ys++[.ref tp]))) (bC pl lp (ts.take i)++[(t,pl,lp)]) (ys++[.ref tp]):=by
   refine Paired.two (ly.same λx w e=>?_) (.cons ⟨tp,v,rfl,aw tpR ao,pa⟩ .nil);exact aw (λy=>by rw[y,hRc]at e;cases e) (aw (λy=>by rw[y,htp]at e;cases e) e)
  generalize upd (upd Hc tp (.tup [v,oS pl,oS lp])) R (.lst (ys++[.ref tp]))=Hd at s2 e2 l2⊢;refine J1 _ _ ?_;clear J1 N1;try dsimp only
  refine{MG {rfl,_,SqL.of e2},N,X,v,lp,t,rfl,s0.trans s2,pa,ME (rQ mt) dp,n1 _ MA,λz hz=>n1 z (Mz _ hz),(),λR2 zs He s3 hR2 eR2 l3=>?_};have lz:=Pd l3;refine{_,_,_,_,rfl,rfl,s3 _ _ e2,eR2,sz (by rw[Mo,<-lz,<-lly];simp;lia),{_,_,rfl,ai.out (s2.trans s3) hR _,ao,?_}};rw[vg ht,show bC pl lp (ts.take i)++(t,pl,lp)::dj lp t=bC pl lp (ts.take i)++[(t,pl,lp)]++dj lp t by simp];have dR:∀x w,He x=Vn (.tup w)->upd He R (.lst (ys++[.ref tp]++zs)) x=Vn (.tup w):=λx w e=>aw (λy=>by rw[y,s3 _ _ e2]at e;cases e) e;exact Paired.two (l2.same λx w e=>dR x w (s3 _ _ e)) (l3.same dR)
 rintro σ Hc ⟨ys,v4,rfl,sc,hRc,ly⟩;rw[show ts.take xs.length=ts by rw[pt.len];exact M8]at ly;exact K1 _ _ (q R ys Hc sc hR hRc ly)
theorem uZ(T:Txt K mg A)(d j:Nat)(dF:T.gO.Hz P w base (j+1) (D7 A d)):T.i4.Hz P w base (j+2) (pk A d):=by
 refine T.i4.hs (k:=j+1) kW (λf cdv A' outer s H vs Q E' hr hu h=>?_);obtain⟨N,X,v,lp,t,rfl,s0,pa,dp,nt,nb,ln,q⟩:=h;refine{_,(ab (pst 2 kW.nd (ak (hj:=by lia) (o9 T) hr (aH (fv 0) rfl^ae)))
  (ab (aQ (bw (pcB aT T.aE (fv 0^bD T.bY.mg^ae)) (λ_=>rfl))
   (aj (aC (aB aL (ak (hj:=by lia) dF hr (aH (fv 0) rfl^fv 2^fv 1^ae)) (ak (hj:=by lia) dF hr (aH (fv 0) rfl^fv 2^fv 1^ae)))))
   aF)
  (ab (aQ (bw (pcB aT T.aE (fv 0^bD T.bA.mg^ae)) (λ_=>rfl))
   (aj (aC (ak (hj:=by lia) dF hr (aH (fv 0) rfl^fv 2^fv 2^ae))))
   aF)
  (aj (aC (aN ae)))))),?_}
 refine ag λM1 K1=>eG T s0 pa {_,rfl,nt.1,nt.2,K1 _ _ ?_};clear K1 M1;try dsimp only
 refine ag λM1 K1=>uv T s0 pa 11 ∅ ∅ ?_;cases t with
 |iff n val l r f o=>
  refine bN ?_;unfold ba at pa;obtain⟨a,dx,p,pf,po,xf,xo,rfl,h1,h2,h3,h4,h5,h6⟩:=pa;unfold dep at dp;cases d with
  |zero=>lia
  |succ d=>
  unfold dj at nb ln q;have nf:Nb (bC (Vn (aX n)) lp f):=λy hy=>nb y (MK _ hy);have no:Nb (bC (Vn (aX n)) lp o):=λy hy=>nb y (MD _ hy);rw[Mo]at ln;refine fdI (s0 _ _ h1) T.bY.cl T.fS rfl {N,X,pf,xf,Vn (aX n),lp,f,rfl,s0,h3,h5,(),nf,(),λR1 y1 H1 s1 n1 e1 l1=>fdI ((s0.trans s1) _ _ h1) T.bY.cl T.fP rfl {N,X,po,xo,Vn (aX n),lp,o,rfl,s0.trans s1,h4,h6,(),no,(),λR2 y2 H2 s2 n2 e2 l2=>?_}};have z1:=Pd l1;have z2:=Pd l2;refine{R1,R2,_,_,rfl,rfl,s2 _ _ e1,e2,sz (),λR hR=>?_};have s3:ai H2 (upd H2 R (.lst (y1++y2))):=ai.upd hR _;exact q R _ _ ((s1.trans s2).trans s3) (ai.free (s1.trans s2) hR) ao (Paired.two (l1.same λx w e=>s3 _ _ (s2 _ _ e)) (l2.same λx w e=>s3 _ _ e))
 |loop n t m l r b=>
  refine aZ (K1 _ _ ?_);clear K1 M1;try dsimp only
  refine ag λM1 K1=>uv T s0 pa 12 ∅ ∅ (bN ?_);unfold ba at pa;obtain⟨a,dx,pb,xb,rfl,h1,h2,h3⟩:=pa;unfold dep at dp;cases d with
  |zero=>lia
  |succ d=>
  unfold dj at nb ln q;exact fdI (s0 _ _ h1) T.bA.cl T.fe rfl {N,X,pb,xb,Vn (aX n),Vn (aX n),b,rfl,s0,h2,h3,(),nb,ln,λR1 y1 H1 s1 n1 e1 l1=>q R1 y1 H1 s1 n1 e1 l1}
 |leaf n r=>
  have e11:decide ((Pt.leaf n r).ci=11)=false:=by cases r<;>rfl
  have e12:decide ((Pt.leaf n r).ci=12)=false:=by cases r<;>rfl
  rw[e11];refine aZ (K1 _ _ ?_);clear K1 M1;try dsimp only
  refine ag λM1 K1=>uv T s0 pa 12 ∅ ∅ ?_;rw[e12];refine aZ (K1 _ _ ?_);clear K1 M1;refine{MF _,λR hR=>q R [] _ (ai.upd hR _) hR ao ?_};unfold dj;exact .nil
 |bj n i ps b=>
  refine aZ (K1 _ _ ?_);clear K1 M1;try dsimp only
  refine ag λM1 K1=>uv T s0 pa 12 ∅ ∅ (aZ (K1 _ _ ?_));clear K1 M1;refine{MF _,λR hR=>q R [] _ (ai.upd hR _) hR ao ?_};unfold dj;exact .nil
theorem zK(T:Txt K mg A):∀d,T.gO.Hz P w base (2*d+3) (ra A d)
 |0=>zX T 0 2 (uZ T 0 0 (T.gO.hs (k:=0) gH (λ_ _ _ _ _ _ _ _ _ _ _ h=>h.elim) (λ_ _ _ _ h=>h.elim)))
 |d+1=>zX T (d+1) (2*d+4) (uZ T (d+1) (2*d+2) (zK T d))
end
section
variable{P:Program}{w:Pf}{K:Pa}{mg:Str->Option E9}{base:PH}{A:Adr}{N:Nat->Str}
seal PE PA PS PSs PT PW
noncomputable def nv:Pt->List Pt
 | .bj _ _ _ b=>b
 |_=>[]
noncomputable def dNm(N:Nat->Str):Pt->Str
 | .bj _ i _ _=>N i
 |_=>Pq
noncomputable def dPs(N:Nat->Str):Pt->List Str
 | .bj _ _ ps _=>ps.map N
 |_=>[]
noncomputable def DK:Pt->Prop
 | .bj _ _ _ _=>True
 |_=>False
noncomputable def ft(N:Nat->Str)(ds:List Pt):List Le:=ds.flatMap λp=>bC (Vn (dNm N p)) Vo (nv p)
theorem sP{ts:List Pt}{t:Pt}{i:Nat}(h:ts[i]?=Vn t):ft N (ts.take (i+1))=ft N (ts.take i)++bC (Vn (dNm N t)) Vo (nv t):=by
 unfold ft;rw[Nf,h];simp
theorem Bw{ts:List Pt}{t:Pt}{i:Nat}(h:ts[i]?=Vn t):ft N ts=ft N (ts.take i)++bC (Vn (dNm N t)) Vo (nv t)++ft N (ts.drop (i+1)):=by
 rw[<-sP h];unfold ft;rw[<-Nx,MO]
def wX(A:Adr)(N:Nat->Str)(X:Hp)(v:V)(hs ds ms:List Pt):Prop:=∃a dx n0 n1 n2 x0 x1 x2,v=.ref a/\X a=Vn (.ins A.Program dx [("heads",.ref n0),("deeds",.ref n1),("main",.ref n2)])/\X n0=Vn (.lst x0)/\X n1=Vn (.lst x1)/\X n2=Vn (.lst x2)/\aI A N X x0 hs/\aI A N X x1 ds/\aI A N X x2 ms
noncomputable def bX(N:Nat->Str)(ds ms:List Pt):List Le:=ft N ds++bC Vo Vo ms
noncomputable def hPl(N:Nat->Str):Pt->Option Str
 | .leaf _ (.giv i _ _)=>Vn (N i)
 | .leaf _ (.own i _)=>Vn (N i)
 | .leaf _ (.lt i _)=>Vn (N i)
 |_=>Vo
noncomputable def oK(p:Pt):Bool:=decide (p.ci=11)||(decide (p.ci=12)||(decide (p.ci=7)||decide (p.ci=8)))
noncomputable def eN(es:List Le):List Str:=(es.filter λe=>oK e.1).map λe=>aX e.1.no
noncomputable def aU(N:Nat->Str)(hs ds ms:List Pt):List Str:=hs.filterMap (hPl N)++(ds.flatMap λp=>dNm N p::dPs N p)++eN (bX N ds ms)++[("the clock":Str)]
structure Ok(N:Nat->Str)(d:Nat)(hs ds ms:List Pt):Prop where
 bj:∀p∈ds,DK p/\ni (nv p)<=d
 main:ni ms<=d
 nb:Nb (bX N ds ms)
 ln:(bX N ds ms).length<=300
 hl:hs.length<=300
 pl:(aU N hs ds ms).length<=900
 nd:(aU N hs ds ms).Nodup
noncomputable abbrev sS(xs:List Str):List V:=xs.map V.str
inductive yw(A:Adr)(d:Nat)(vs:List V)(H:Hp)(Q:VK)(Z:XK):Prop
 |mk(N:Nat->Str)(X:Hp)(v:V)(hs ds ms:List Pt)(z0:vs=[v])(z1:ai X H)(z2:wX A N X v hs ds ms)(z3:Ok N d hs ds ms)
  (z7:∀(R:O4)(ys:List V)(H':Hp),ai H H'->H R=Vo->H' R=Vn (.lst ys)->Ly A N X H' (bX N ds ms) ys->Q (.ref R) H'):yw A d vs H Q Z
theorem Bb(T:Txt K mg A)(d:Nat):T.j4.Hz P w base (2*d+4) (yw A d):=by
 refine T.j4.hs (k:=2*d+3) gr (λf cdv A' outer s H vs Q E' hr hu h=>?_);obtain⟨N,X,v,hs,ds,ms,rfl,s0,⟨a,dx,n0,n1,n2,x0,x1,x2,rfl,ha,e0,e1,e2,p0,p1,p2⟩,ok,q⟩:=h;have ln:=ok.ln;have nb:=ok.nb;unfold bX at ln nb;rw[Mo]at ln;refine{_,(ab (pst 1 gr.nd (aN ae))
  (ab (cf Pk rfl (b9 (aH (fv 0) rfl)) (pgn (i:=2) gr.nd rfl)
   (aj (aO (fY (fv 1) ((ak (hj:=by lia) (zK T d) hr (aH (fv 2) rfl^aH (fv 2) rfl^bQ^ae))^ae)))))
  (aj (aC (aB aL (fv 1) (ak (hj:=by lia) (zK T d) hr (aH (fv 0) rfl^bQ^bQ^ae))))))),?_}
 refine ag λM1 K1=>{MF _,λR hR=>?_};obtain⟨s1,eR⟩:=alc hR (HO.lst []);generalize upd H R _=H1 at s1 eR⊢;refine K1 _ _ ?_;clear K1 M1;try dsimp only
 refine ag λM1 K1=>fdI ((s0.trans s1) _ _ ha) T.df.cl T.cB rfl (MG {{_,SqL.of ((s0.trans s1) _ _ e1)},cn (K:=K) (xs:=x1) (λi σ Hc=>∃(ys:List V)(v2:Option V),σ=[Vn (.ref a),Vn (.ref R),v2]/\ai H Hc/\Hc R=Vn (.lst ys)/\Ly A N X Hc (ft N (ds.take i)) ys) {[],Vo,rfl,s1,eR,.nil} (λi σ Hc _ ⟨_,_,_,z,_⟩=>SqL.of ((s0.trans z) _ _ e1)) ?_ ?_})
 ·rintro i v σ Hc hv ⟨ys,v2,rfl,sc,hRc,ly⟩;obtain⟨t,ht,pa⟩:=p1.get hv;have mt:t∈ds:=ML ht;obtain⟨dt,dd⟩:=ok.bj t mt;cases t with
  |bj n i' ps b=>
   unfold ba at pa;obtain⟨a',dx',pp,pb,xb,rfl,h1,h2,h3,h4⟩:=pa;have e:=Bw (N:=N) ht;have le:(ft N (ds.take i)).length+(bC (Vn (N i')) Vo b).length<=300:=by
    have:=congrArg QF e;simp only[Mo]at this;have z:bC (Vn (dNm N (.bj n i' ps b))) Vo (nv (.bj n i' ps b))=bC (Vn (N i')) Vo b:=rfl;rw[z]at this;lia
   have nbb:Nb (bC (Vn (N i')) Vo b):=λy hy=>nb y (MK _ (by rw[e];exact MK _ (MD _ hy)));have lly:=Pd ly;refine{MG {rfl,_,SqL.of hRc},fdI ((s0.trans sc) _ _ h1) T.b7.cl T.eY rfl (fdI ((s0.trans sc) _ _ h1) T.b7.cl T.cS rfl {N,X,pb,xb,Vn (N i'),Vo,b,rfl,s0.trans sc,h3,h4,dd,nbb,(),λR2 zs He s3 hR2 eR2 l3=>?_})};have lz:=Pd l3;refine{_,_,_,_,rfl,rfl,s3 _ _ hRc,eR2,sz (),{_,_,rfl,ai.out (sc.trans s3) hR _,ao,?_}};rw[sP ht];have dR:∀x w,He x=Vn (.tup w)->upd He R (.lst (ys++zs)) x=Vn (.tup w):=λx w e=>aw (λy=>by rw[y,s3 _ _ hRc]at e;cases e) e;exact Paired.two (ly.same λx w e=>dR x w (s3 _ _ e)) (l3.same dR)
  |_=>exact dt.elim
 rintro σ Hc ⟨ys,v2,rfl,sc,hRc,ly⟩;rw[show ds.take x1.length=ds by rw[p1.len];exact M8]at ly;refine K1 _ _ ?_;have lly:=Pd ly;try dsimp only
 refine fdI ((s0.trans sc) _ _ ha) T.df.cl T.gQ rfl {N,X,n2,x2,Vo,Vo,ms,rfl,s0.trans sc,e2,p2,ok.main,λy hy=>nb y (MD _ hy),(),λR2 zs He s3 hR2 eR2 l3=>?_};have lz:=Pd l3;refine{R,R2,_,_,rfl,rfl,s3 _ _ hRc,eR2,sz (),λR3 hR3=>?_};have s4:ai He (upd He R3 (.lst (ys++zs))):=ai.upd hR3 _;exact q R3 _ _ ((sc.trans s3).trans s4) (ai.free (sc.trans s3) hR3) ao (Paired.two (ly.same λx w e=>s4 _ _ (s3 _ _ e)) (l3.same λx w e=>s4 _ _ e))
inductive tO(A:Adr)(vs:List V)(H:Hp)(Q:VK)(Z:XK):Prop
 |mk(N:Nat->Str)(X:Hp)(v:V)(t:Pt):vs=[v]->ai X H->ba A N X v t->Q (.bl (oK t)) H->tO A vs H Q Z
theorem BX(T:Txt K mg A):T.tS.Hz P w base 1 (tO A):=by
 refine T.tS.hs xw (λf cdv A' outer s H vs Q E' hr hu h=>?_);obtain⟨N,X,v,t,rfl,s0,pa,q⟩:=h;refine{_,(aj (aC (Ax (pcB aT T.aE (fv 0^bD T.bY.mg^ae)) (Ax (pcB aT T.aE (fv 0^bD T.bA.mg^ae)) (Ax (pcB aT T.aE (fv 0^bD T.dg.mg^ae)) (EW (pcB aT T.aE (fv 0^bD T.b8.mg^ae)))))))),?_};unfold oK at q;refine vP T s0 pa 11 ∅ ∅ {_,rfl,?_};cases e1:decide (t.ci=11)with
 |true=>rw[e1]at q;exact bN q
 |false=>
 rw[e1]at q;refine aZ (vP T s0 pa 12 ∅ ∅ {_,rfl,?_});cases e2:decide (t.ci=12)with
 |true=>rw[e2]at q;exact bN q
 |false=>
 rw[e2]at q;refine aZ (vP T s0 pa 7 ∅ ∅ {_,rfl,?_});cases e3:decide (t.ci=7)with
 |true=>rw[e3]at q;exact bN q
 |false=>
 rw[e3]at q;exact aZ (vP T s0 pa 8 ∅ ∅ q)
def Sm(M:List O4)(H H':Hp):Prop:=∀a o,a∉M->H a=Vn o->H' a=Vn o
theorem Sm.refl(M:List O4)(H:Hp):Sm M H H:=λ_ _ _ h=>h
theorem Sm.trans{M:List O4}{H H' H'':Hp}(h:Sm M H H')(h':Sm M H' H''):Sm M H H'':=λa o m e=>h' a o m (h a o m e)
theorem Sm.new{M:List O4}{H H':Hp}(s:ai H H'):Sm M H H':=λa o _ e=>s a o e
theorem Sm.at{M:List O4}{H:Hp}{a:O4}(m:a∈M)(o:HO):Sm M H (upd H a o):=λb u hb e=>aw (λz=>hb (z▸m)) e
theorem Sm.same{M:List O4}{X H H':Hp}(h:Sm M H H')(s:ai X H)(n:∀m∈M,X m=Vo):ai X H':=λa o e=>h a o (λm=>by rw[n a m]at e;cases e) (s a o e)
theorem Ic(N:Nat->Str)(t:Pt):(hPl N t).isSome=(decide (t.ci=2)||(decide (t.ci=3)||decide (t.ci=4))):=by
 cases t with
 |leaf n r=>cases r<;>rfl
 |_=>rfl
theorem zi(T:Txt K mg A){X H:Hp}(s:ai X H){v:V}{t:Pt}(h:ba A N X v t){x:Str}(e:hPl N t=Vn x){Q:VK}(q:Q (.str x) H):nP K "name" v H Q:=by
 cases t with
 |leaf n r=>
  unfold ba at h;obtain⟨a,dx,p,rfl,h1,h2⟩:=h;cases r with
  |giv i _ _=>cases e;exact fdI (s _ _ h1) T.cL.cl T.dY rfl q
  |own i _=>cases e;exact fdI (s _ _ h1) T.hX.cl T.jE rfl q
  |lt i _=>cases e;exact fdI (s _ _ h1) T.dX.cl T.fM rfl q
  |_=>cases e
 |_=>cases e
theorem Gb{α β:Type}(f:α->Option β){xs:List α}{i:Nat}{x:α}(h:xs[i]?=Vn x):(xs.take (i+1)).filterMap f=(xs.take i).filterMap f++(f x).toList:=by
 rw[Nf,h,List.filterMap_append];show _++List.filterMap f [x]=_;rw[ND];cases f x<;>rfl
inductive vm(A:Adr)(vs:List V)(H:Hp)(Q:VK)(Z:XK):Prop
 |mk(N:Nat->Str)(X:Hp)(L:O4)(xs:List V)(hs:List Pt)(z0:vs=[.ref L])(z1:ai X H)(z2:X L=Vn (.lst xs))(z3:aI A N X xs hs)(z4:hs.length<=900)
  (z5:∀(R:O4)(H':Hp),ai H H'->H R=Vo->H' R=Vn (.lst (sS (hs.filterMap (hPl N))))->Q (.ref R) H'):vm A vs H Q Z
theorem C6(T:Txt K mg A):T.mf.Hz P w base 1 (vm A):=by
 refine T.mf.hs hJ (λf cdv A' outer s H vs Q E' hr hu h=>?_);obtain⟨N,X,L,xs,hs,rfl,s0,hL,pt,ln,q⟩:=h;refine{_,(ab (pst 1 hJ.nd (aN ae))
  (ab (cf Pk rfl (b9 (fv 0)) (pgn (i:=2) hJ.nd rfl)
   (aj (aQ (PW.pt (pw_or (bw (pcB aT T.aE (fv 2^bD T.cL.mg^ae)) (λ_=>rfl)) (pw_or (bw (pcB aT T.aE (fv 2^bD T.hX.mg^ae)) (λ_=>rfl)) (pw_or1 (bw (pcB aT T.aE (fv 2^bD T.dX.mg^ae)) (λ_=>rfl))))))
    (aj (aO (bt (fv 1) (aH (fv 2) rfl^ae))))
    aF)))
  (aj (aC (fv 1))))),?_}
 refine ag λM1 K1=>{MF _,λR hR=>?_};obtain⟨s1,e1⟩:=alc hR (HO.lst []);generalize upd H R _=H1 at s1 e1⊢;refine K1 _ _ ?_;clear K1 M1;try dsimp only
 refine ag λM1 K1=>MG {{_,SqL.of ((s0.trans s1) _ _ hL)},cn (K:=K) (xs:=xs) (λi σ Hc=>∃(v2:Option V),σ=[Vn (.ref L),Vn (.ref R),v2]/\ai H Hc/\Hc R=Vn (.lst (sS ((hs.take i).filterMap (hPl N))))) ⟨Vo,rfl,s1,e1⟩ (λi σ Hc _ ⟨_,_,z,_⟩=>SqL.of ((s0.trans z) _ _ hL)) ?_ ?_}
 ·rintro i v σ Hc hv ⟨v2,rfl,sc,hRc⟩;obtain⟨t,ht,pa⟩:=pt.get hv;have hi:=Ic N t;have st:=Gb (hPl N) ht;have il:i<hs.length:=(MC.mp ht).1;have l1:=Sl (hPl N) (hs.take i);rw[MT]at l1;have yes:∀x,hPl N t=Vn x->upd Hc R (.lst (sS ((hs.take i).filterMap (hPl N))++[.str x])) R=Vn (.lst (sS ((hs.take (i+1)).filterMap (hPl N)))):=λx e=>by
   rw[ao,st,e];simp[sS]
  have no:hPl N t=Vo->Hc R=Vn (.lst (sS ((hs.take (i+1)).filterMap (hPl N)))):=λe=>by
   rw[st,e];simpa using hRc
  try dsimp only
  have s2:=s0.trans sc;cases e:hPl N t with
  |none=>
   rw[e]at hi;have c2:t.ci≠2:=λz=>by rw[z]at hi;cases hi
   have c3:t.ci≠3:=λz=>by rw[z]at hi;cases hi
   have c4:t.ci≠4:=λz=>by rw[z]at hi;cases hi
   exact gv T s2 pa c2 (aZ (gv T s2 pa c3 (aZ (gv T s2 pa c4 (aZ {_,rfl,sc,no e})))))
  |some x=>
   rw[e]at hi;have lz:(sS ((hs.take i).filterMap (hPl N))).length<sizeLine:=aG (by rw[Mq];lia);by_cases c2:t.ci=2
   ·exact ke T s2 pa c2 (bN {MG {rfl,_,SqL.of hRc},zi T s2 pa e {_,_,_,rfl,rfl,hRc,lz,_,rfl,ai.out sc hR _,yes x e}})
   by_cases c3:t.ci=3
   ·exact gv T s2 pa c2 (aZ (ke T s2 pa c3 (bN {MG {rfl,_,SqL.of hRc},zi T s2 pa e {_,_,_,rfl,rfl,hRc,lz,_,rfl,ai.out sc hR _,yes x e}})))
   by_cases c4:t.ci=4
   ·exact gv T s2 pa c2 (aZ (gv T s2 pa c3 (aZ (ke T s2 pa c4 (bN {MG {rfl,_,SqL.of hRc},zi T s2 pa e {_,_,_,rfl,rfl,hRc,lz,_,rfl,ai.out sc hR _,yes x e}})))))
   rw[decide_eq_false c2,decide_eq_false c3,decide_eq_false c4]at hi;cases hi
 rintro σ Hc ⟨v2,rfl,sc,hRc⟩;rw[show hs.take xs.length=hs by rw[pt.len];exact M8]at hRc;exact K1 _ _ (q R Hc sc hR hRc)
theorem oY{α β:Type}(f:α->List β){xs:List α}{i:Nat}{x:α}(h:xs[i]?=Vn x):(xs.take (i+1)).flatMap f=(xs.take i).flatMap f++f x:=by
 rw[Nf,h];simp
theorem Fd{α β:Type}(f:α->List β){xs:List α}{i:Nat}{x:α}(h:xs[i]?=Vn x):((xs.take i).flatMap f).length+(f x).length<=(xs.flatMap f).length:=by
 have e:xs.flatMap f=(xs.take (i+1)).flatMap f++(xs.drop (i+1)).flatMap f:=by rw[<-Nx,MO]
 rw[e,oY f h];simp only[Mo];lia
theorem y6{es:List Le}{i:Nat}{e:Le}(h:es[i]?=Vn e):eN (es.take (i+1))=eN (es.take i)++(if oK e.1=true then[aX e.1.no]else[]):=by
 unfold eN;rw[Nf,h,Nr,M6];congr 1;show List.map _ (List.filter _ [e])=_;rw[OB,Oh];split<;>rfl
theorem uD(es:List Le):(eN es).length<=es.length:=by
 unfold eN;rw[Mq];exact NG _ _
inductive uL(A:Adr)(d:Nat)(vs:List V)(H:Hp)(Q:VK)(Z:XK):Prop
 |mk(N:Nat->Str)(X:Hp)(v:V)(hs ds ms:List Pt)(z0:vs=[v])(z1:ai X H)(z2:wX A N X v hs ds ms)(z3:Ok N d hs ds ms)
  (z7:∀(R:O4)(H':Hp),ai H H'->H R=Vo->H' R=Vn (.lst (sS (aU N hs ds ms)))->Q (.ref R) H'):uL A d vs H Q Z
theorem EM(T:Txt K mg A)(d:Nat):T.places.Hz P w base (2*d+5) (uL A d):=by
 refine T.places.hs (k:=2*d+4) gM (λf cdv A' outer s H vs Q E' hr hu h=>?_);obtain⟨N,X,v,hs,ds,ms,rfl,s0,pg,ok,q⟩:=h;obtain⟨a,dx,n0,n1,n2,x0,x1,x2,rfl,ha,e0,e1,e2,p0,p1,p2⟩:=id pg;refine{_,(ab (pst 1 gM.nd (ak (hj:=by lia) (C6 T) hr (aH (fv 0) rfl^ae)))
  (ab (cf Pk rfl (b9 (aH (fv 0) rfl)) (pgn (i:=2) gM.nd rfl)
   (aj (aO (fY (fv 1) (aB aL (aN (aH (fv 2) rfl^ae)) (aH (fv 2) rfl)^ae)))))
  (ab (cf Pk rfl (b9 (ak (hj:=by lia) (Bb T d) hr (fv 0^ae))) (dG rfl (aP (pgn (i:=3) gM.nd rfl) (aP (pgn (i:=4) gM.nd rfl) (aP (pgn (i:=5) gM.nd rfl) cF))))
   (aj (aQ (bw (ak (hj:=by lia) (BX T) hr (fv 3^ae)) (λ_=>rfl))
    (aj (aO (bt (fv 1) ((ak (hj:=by lia) (o9 T) hr (aH (fv 3) rfl^ae))^ae))))
    aF)))
  (aj (aC (aB aL (fv 1) (aN (vJ T.qV^ae)))))))),?_}
 have pl:=ok.pl;unfold aU at pl q;simp only[Mo,Mr]at pl;have hl:=ok.hl;refine ag λM1 K1=>fdI (s0 _ _ ha) T.df.cl T.dZ rfl {N,X,n0,x0,hs,rfl,s0,e0,p0,(),λR H1 s1 hR eR=>K1 _ _ ?_};clear K1 M1;try dsimp only
 generalize hs.filterMap (hPl N)=B0 at eR pl q;refine ag λM1 K1=>fdI ((s0.trans s1) _ _ ha) T.df.cl T.cB rfl (MG {{_,SqL.of ((s0.trans s1) _ _ e1)},cn (K:=K) (xs:=x1) (λi σ Hc=>∃(v2:Option V),σ=[Vn (.ref a),Vn (.ref R),v2,Vo,Vo,Vo]/\ai H Hc/\Hc R=Vn (.lst (sS (B0++(ds.take i).flatMap λp=>dNm N p::dPs N p)))) {Vo,rfl,s1,by rw[Oa,List.flatMap_nil,MP];exact eR} (λi σ Hc _ ⟨_,_,z,_⟩=>SqL.of ((s0.trans z) _ _ e1)) ?_ ?_})
 ·rintro i v σ Hc hv ⟨v2,rfl,sc,hRc⟩;obtain⟨t,ht,pa⟩:=p1.get hv;have mt:t∈ds:=ML ht;obtain⟨dt,dd⟩:=ok.bj t mt;have st:=oY (λp=>dNm N p::dPs N p) ht;have sl:=Fd (λp=>dNm N p::dPs N p) ht;cases t with
  |bj n i' ps b=>
   unfold ba at pa;obtain⟨a',dx',pp,pb,xb,rfl,h1,h2,h3,h4⟩:=pa;have sX:=s0.trans sc;have lp:B0.length+((ds.take i).flatMap λp=>dNm N p::dPs N p).length+(1+ps.length)<=900:=by
    have z:(dNm N (Pt.bj n i' ps b)::dPs N (Pt.bj n i' ps b)).length=ps.length+1:=by simp[dPs]
    rw[z]at sl;lia
   refine{MG {rfl,_,SqL.of hRc},fdI (sX _ _ h1) T.b7.cl T.cS rfl {by show 1<=sizeLine;decide,λq1 hq1=>?_}};have n1:q1≠R:=Vt hq1 hRc;have sq:ai Hc (upd Hc q1 (.lst [.str (N i')])):=ai.upd hq1 _;refine fdI ((sX.trans sq) _ _ h1) T.b7.cl T.eg rfl {q1,pp,_,_,rfl,rfl,ao,(sX.trans sq) _ _ h2,sz (by rw[Mq,Mr];lia),λq2 hq2=>?_};have sq2:=ai.upd hq2 (.lst ([V.str (N i')]++nV N ps));have n2:q2≠R:=Vt hq2 (sq _ _ hRc);refine{_,_,_,_,rfl,rfl,sq2 _ _ (sq _ _ hRc),ao,sz (by simp only[Mo,Mq,Mr];lia),{_,rfl,ai.out ((sc.trans sq).trans sq2) hR _,?_}};rw[ao,st];simp[sS,dNm,dPs,nV,Us]
  |_=>exact dt.elim
 rintro σ Hc ⟨v2,rfl,sc,hRc⟩;rw[show ds.take x1.length=ds by rw[p1.len];exact M8]at hRc;refine K1 _ _ ?_;clear K1 M1;try dsimp only
 rw[<-Mo]at pl;generalize B0++(ds.flatMap λp=>dNm N p::dPs N p)=B1 at hRc pl q;refine ag λM1 K1=>{N,X,.ref a,hs,ds,ms,rfl,s0.trans sc,pg,ok,λL ys H2 s2 hL eL ly=>?_};have nL:L≠R:=Vt hL hRc;have nb:=ok.nb;generalize bX N ds ms=es at ly nb pl q;have lly:=Pd ly;refine MG {{_,SqL.of eL},cn (K:=K) (xs:=ys) (λi σ Hd=>∃(v3 v4 v5:Option V),σ=[Vn (.ref a),Vn (.ref R),v2,v3,v4,v5]/\Sm [R] H2 Hd/\Hd R=Vn (.lst (sS (B1++eN (es.take i))))) {Vo,Vo,Vo,rfl,Sm.refl _ _,by rw[Oa];show _=Vn (HO.lst (sS (B1++[])));rw[MP];exact s2 _ _ hRc} (λi σ Hd _ ⟨_,_,_,_,z,_⟩=>SqL.of (z _ _ (λm=>nL (Mp.mp m)) eL)) ?_ ?_}
 ·rintro i y σ Hd hy ⟨v3,v4,v5,rfl,sd,hRd⟩;obtain⟨e,he,tp,v,rfl,etp,pa⟩:=b5 ly hy;have etp':=sd _ _ (λm=>by rw[Mp.mp m,s2 _ _ hRc]at etp;cases etp) etp;have sX:ai X Hd:=sd.same ((s0.trans sc).trans s2) (λm hm=>by
   rw[Mp.mp hm];exact ai.free s0 hR)
  have ne:=nb e (ML he);have st:=y6 he;have rl:=uD (es.take i);have rl2:(eN (es.take i)).length<=(eN es).length:=by
   have:eN es=eN (es.take i)++eN (es.drop i):=by
    unfold eN;rw[<-M6,<-Nr,MO]
   rw[this];simp
  try dsimp only
  refine{tp,_,rfl,SqT.of etp',rfl,_,_,rfl,_,_,rfl,_,_,rfl,rfl,{N,X,v,e.1,rfl,sX,pa,_,rfl,?_}};cases c:oK e.1 with
  |true=>
   rw[c,if_pos rfl]at st;refine bN {MG {rfl,_,SqL.of hRd},eG T sX pa {_,rfl,ne.1,ne.2,{_,_,_,rfl,rfl,hRd,aG (by simp only[sS,Mq,Mo];lia),{_,_,_,rfl,sd.trans (Sm.at (Mp.mpr rfl) _),?_}}}};rw[ao,st];simp[sS]
  |false=>
   rw[c,if_neg My,MP]at st;exact aZ {_,_,_,rfl,sd,by rw[st];exact hRd}
 rintro σ Hd ⟨v3,v4,v5,rfl,sd,hRd⟩;rw[show es.take ys.length=es by rw[<-lly];exact M8]at hRd;refine K1 _ _ ?_;have s3:ai H Hd:=sd.same (sc.trans s2) (λm hm=>by rw[Mp.mp hm];exact hR);refine{by show 1<=sizeLine;decide,λq1 hq1=>?_};have sq:ai Hd (upd Hd q1 (.lst [.str "the clock"])):=ai.upd hq1 _;refine{R,q1,_,_,rfl,rfl,sq _ _ hRd,ao,sz (by simp only[sS,Mq,Mo,Mr];lia),λq2 hq2=>q q2 _ ((s3.trans sq).trans (ai.upd hq2 _)) (ai.free (s3.trans sq) hq2) ?_};rw[ao];simp[sS]
theorem DH:QJ K (.type "str") (.type "str")=Vn true:=by kernel_rfl!
theorem Dh:QJ K (.type "int") (.type "str")=Vn false:=by kernel_rfl!
noncomputable def rdS(N:Nat->Str)(acc:List Str):Th->List Str
 | .i _=>acc
 | .x a=>if N a∈acc then acc else acc++[N a]
noncomputable def rds(N:Nat->Str)(ts:List Th):List Str:=ts.foldl (rdS N) []
theorem mX(N:Nat->Str):∀(ts:List Th)(acc:List Str),(ts.foldl (rdS N) acc).length<=ts.length+acc.length
 | [],acc=>by simp
 |t::ts,acc=>by
  have h:=mX N ts (rdS N acc t);have h2:(rdS N acc t).length<=acc.length+1:=by
   cases t with
   |i n=>exact Ox _
   |x a=>unfold rdS;dsimp only;split<;>simp
  rw[Ny,Mx];lia
theorem oM(x:Str)(acc:List Str):inV (.str x) (sS acc)=decide (x∈acc):=by
 unfold inV sS;rw[List.any_map,NS,OU,decide_eq_true_iff];constructor
 ·rintro⟨y,m,e⟩;have e:decide (y=x)=true:=e;exact of_decide_eq_true e▸m
 intro m;exact⟨x,m,decide_eq_true rfl⟩
theorem pI(acc:List Str):(sS acc).all lW=true:=by
 unfold sS;rw[List.all_map,Od];exact λ_ _=>rfl
noncomputable def vTh:Val->List Th
 | .one a=>[a]
 | .op a _ b=>[a,b]
theorem p7(N:Nat->Str)(v:Val):gD (vV N v)=(vTh v).map (Th.v N):=by
 cases v<;>kernel_rfl
inductive yF(K:Pa)(vs:List V)(H:Hp)(Q:VK)(Z:XK):Prop
 |mk(N:Nat->Str)(t:O4)(xs:List V)(ts:List Th)(z0:vs=[.ref t])(z1:SqT K H t xs)(z2:gD xs=ts.map (Th.v N))(z3:ts.length<=100)
  (z4:∀(p:O4)(H':Hp),H p=Vo->ai H H'->H' p=Vn (.lst (sS (rds N ts)))->Q (.ref p) H'):yF K vs H Q Z
theorem mU(T:Txt K mg A):T.sV.Hz P w base 1 (yF K):=by
 refine T.sV.hs lU (λf cdv A' outer s H vs Q E' hr hu h=>?_);obtain⟨N,t,xs,ts,rfl,hT,ev,hl,q⟩:=h;refine{_,(ab (pst 1 lU.nd (aN ae))
  (ab (cf Pk rfl (b9 (EA (fv 0))) (pgn (i:=2) lU.nd rfl)
   (aj (aQ (PW.pt (pw_and (bw (pcB aT T.aE (fv 2^(kH (v:=.ty "str") rfl T.yv (by boot_by_name) rfl)^ae)) (λ_=>rfl)) (pw_and1 (ptc (iG hu) (fv 2) (fv 1) ((by with_unfolding_all rfl))))))
    (aj (aO (bt (fv 1) (fv 2^ae))))
    aF)))
  (aj (aC (fv 1))))),?_}
 refine{(by decide:0<=sizeLine),λp hp=>{t,xs,rfl,(ai.upd hp _).tup hT,λe he=>NF {{_,SqT.of ao},?_}}};have hpe:p≠e:=λz=>by
  rw[<-z,ao]at he;cases he
 rw[ev];refine Fj (K:=K) (xs:=ts.map (Th.v N)) (λi σ H3=>ai H H3/\H3 e=Vn (.tup (ts.map (Th.v N)))/\H3 p=Vn (.lst (sS (rds N (ts.take i))))/\∃v,σ=[Vn (.ref t),Vn (.ref p),v]) {(ai.upd hp _).trans (ai.upd he _),ao,?_,Vo,rfl} (λi σ H3 _ h=>SqT.of h.2.1) ?_ ?_
 ·rw[aY hpe,ao];rfl
 ·rintro i x σ H3 hi ⟨s3,h3e,h3p,v,rfl⟩;rw[MM]at hi;cases ht:ts[i]? with
  |none=>rw[ht]at hi;cases hi
  |some th=>
  rw[ht]at hi;cases hi;have nx:rds N (ts.take (i+1))=rdS N (rds N (ts.take i)) th:=mW (rdS N) [] ht;have ll:=mX N (ts.take i) [];rw[MT,Ng]at ll;cases th with
  |i n=>
   exact{_,_,_,false,rfl,(λz=>by cases z),.int n,Dh,false,rfl,aZ (aZ {s3,h3e,by rw[h3p,nx];rfl,_,rfl})}
  |x a=>
   refine{_,_,_,true,rfl,(λz=>by cases z),.str _,DH,true,rfl,bN (MG {_,MG (SqL.of h3p),rfl,pI _,_,rfl,?_})};have nx:rds N (ts.take (i+1))=if N a∈rds N (ts.take i)then rds N (ts.take i)else rds N (ts.take i)++[N a]:=nx
   by_cases m:N a∈rds N (ts.take i)
   ·rw[if_pos m]at nx;exact a9 (λc=>absurd c (by show ¬ (!inV (V.str (N a)) (sS (rds N (ts.take i))))=true;rw[oM,decide_eq_true m];decide)) (λ_=>{s3,h3e,by rw[h3p,nx],_,rfl})
   rw[if_neg m]at nx;refine a9 (λ_=>?_) (λc=>absurd (by show(!inV (V.str (N a)) (sS (rds N (ts.take i))))=true;rw[oM,decide_eq_false m];rfl) c);refine{MG {rfl,_,SqL.of h3p},_,_,_,rfl,rfl,h3p,aG (by rw[Mq];unfold rds;lia),{ai.out s3 hp _,aw hpe.symm h3e,?_,_,rfl}};rw[ao,nx];simp[sS,Th.v]
 rintro σ H3 ⟨s3,h3e,h3p,v,rfl⟩;rw[show ts.take (ts.map (Th.v N)).length=ts by rw[Mq];exact M8]at h3p;exact q p H3 hp s3 h3p
noncomputable def tTh:Pt->List Th
 | .leaf _ (.set _ v)=>vTh v
 | .leaf _ (.snd _ v)=>vTh v
 | .leaf _ (.put _ t v)=>t::vTh v
 | .iff _ v _ _ _ _=>vTh v
 | .loop _ t _ _ _ _=>[t]
 |_=>[]
theorem gJ(v:Val):(vTh v).length<=2:=by cases v<;>simp[vTh]
theorem A0(t:Pt):(tTh t).length<=3:=by
 cases t with
 |leaf n r=>
  cases r with
  |set _ v=>exact N6 (gJ v)
  |snd _ v=>exact N6 (gJ v)
  |put _ _ v=>exact OT (gJ v)
  |_=>simp[tTh]
 |iff n v _ _ _ _=>exact N6 (gJ v)
 |_=>simp[tTh]
noncomputable def iT(acc:List Str)(x:Str):List Str:=if x∈acc then acc else acc++[x]
noncomputable def cW(acc xs:List Str):List Str:=xs.foldl iT acc
theorem vf:∀(xs acc:List Str),(cW acc xs).length<=xs.length+acc.length
 | [],acc=>by simp[cW]
 |x::xs,acc=>by
  have h:=vf xs (iT acc x);have h2:(iT acc x).length<=acc.length+1:=by
   unfold iT;split<;>simp
  show(cW (iT acc x) xs).length<=_;rw[Mx];lia
theorem E3(N:Nat->Str)(t:Th)(v:Val):cW [] (rds N [t]++rds N (vTh v))=rds N (t::vTh v):=by
 cases t with
 |i n=>
  show cW [] ([]++rds N (vTh v))=rds N (vTh v);rw[MX];cases v with
  |one b=>cases b<;>simp[vTh,rds,rdS,cW,iT]
  |op b x c=>
   cases b with
   |i m=>cases c<;>simp[vTh,rds,rdS,cW,iT]
   |x b=>
    cases c with
    |i m=>simp[vTh,rds,rdS,cW,iT]
    |x c=>
     by_cases e:N c=N b
     ·simp[vTh,rds,rdS,cW,iT,e]
     simp[vTh,rds,rdS,cW,iT,e]
 |x a=>
  cases v with
  |one b=>
   cases b with
   |i m=>simp[vTh,rds,rdS,cW,iT]
   |x b=>simp[vTh,rds,rdS,cW,iT]
  |op b y c=>
   cases b with
   |i m=>cases c<;>simp[vTh,rds,rdS,cW,iT]
   |x b=>
    cases c with
    |i m=>simp[vTh,rds,rdS,cW,iT]
    |x c=>
     by_cases e:N c=N b
     ·by_cases e2:N b=N a
      ·simp[vTh,rds,rdS,cW,iT,e,e2]
      simp[vTh,rds,rdS,cW,iT,e,e2]
     by_cases e2:N b=N a
     ·have e3:¬ N c=N a:=λz=>e (z.trans e2.symm);simp[vTh,rds,rdS,cW,iT,e2,e3]
     by_cases e3:N c=N a
     ·have e4:¬ N a=N b:=λz=>e2 z.symm;simp[vTh,rds,rdS,cW,iT,e2,e3,e4]
     simp[vTh,rds,rdS,cW,iT,e,e2,e3]
inductive c0(A:Adr)(i:Nat)(vs:List V)(H:Hp)(Q:VK)(Z:XK):Prop
 |mk(N:Nat->Str)(X:Hp)(v:V)(t:Pt)(z0:vs=[v])(z1:ai X H)(z2:ba A N X v t)(z3:t.ci=i)
  (z4:∀(p:O4)(H':Hp),H p=Vo->ai H H'->H' p=Vn (.lst (sS (rds N (tTh t))))->Q (.ref p) H'):c0 A i vs H Q Z
inductive Aa(K:Pa)(vs:List V)(H:Hp)(Q:VK)(Z:XK):Prop
 |mk(t:O4)(xs:List Str)(z0:vs=[.ref t])(z1:SqL K H t (sS xs))(z3:xs.length<=100)
  (z4:∀(p:O4)(H':Hp),H p=Vo->ai H H'->H' p=Vn (.lst (sS (cW [] xs)))->Q (.ref p) H'):Aa K vs H Q Z
theorem HJ(T:Txt K mg A):T.p6.Hz P w base 1 (Aa K):=by
 refine T.p6.hs j5 (λf cdv A' outer s H vs Q E' hr hu h=>?_);obtain⟨t,xs,rfl,hT,hl,q⟩:=h;refine{_,(ab (pst 1 j5.nd (aN ae))
  (ab (cf Pk rfl (b9 (fv 0)) (pgn (i:=2) j5.nd rfl)
   (aj (aQ (ptc (iG hu) (fv 2) (fv 1) ((by with_unfolding_all rfl)))
    (aj (aO (bt (fv 1) (fv 2^ae))))
    aF)))
  (aj (aC (fv 1))))),?_}
 refine ag λM1 K1=>{MF _,λp hp=>?_};obtain⟨s1,e1⟩:=alc hp (HO.lst []);generalize upd H p _=H1 at s1 e1⊢;refine K1 _ _ ?_;clear K1 M1;try dsimp only
 refine ag λM1 K1=>MG {{_,s1.seq hT},cn (K:=K) (xs:=sS xs) (λi σ H3=>ai H H3/\H3 p=Vn (.lst (sS (cW [] (xs.take i))))/\∃v,σ=[Vn (.ref t),Vn (.ref p),v]) ⟨s1,e1,Vo,rfl⟩ (λi σ H3 _ h=>h.1.seq hT) ?_ ?_}
 ·rintro i x σ H3 hi ⟨s3,h3p,v,rfl⟩;rw[MM]at hi;cases ht:xs[i]? with
  |none=>rw[ht]at hi;cases hi
  |some y=>
  rw[ht]at hi;cases hi;have nx:cW [] (xs.take (i+1))=iT (cW [] (xs.take i)) y:=mW iT [] ht;have ll:=vf (xs.take i) [];rw[MT,Ng]at ll;try dsimp only
  refine MG {_,MG (SqL.of h3p),rfl,pI _,_,rfl,?_};unfold iT at nx;by_cases m:y∈cW [] (xs.take i)
  ·rw[if_pos m]at nx;exact a9 (λc=>absurd c (by show ¬ (!inV (V.str y) (sS (cW [] (xs.take i))))=true;rw[oM,decide_eq_true m];decide)) (λ_=>{s3,by rw[h3p,nx],_,rfl})
  rw[if_neg m]at nx;refine a9 (λ_=>?_) (λc=>absurd (by show(!inV (V.str y) (sS (cW [] (xs.take i))))=true;rw[oM,decide_eq_false m];rfl) c);refine{MG {rfl,_,SqL.of h3p},_,_,_,rfl,rfl,h3p,aG (by rw[Mq];lia),{ai.out s3 hp _,?_,_,rfl}};rw[ao,nx];simp[sS]
 rintro σ H3 ⟨s3,h3p,v,rfl⟩;rw[show xs.take (sS xs).length=xs by rw[Mq];exact M8]at h3p;exact K1 _ _ (q p H3 hp s3 h3p)
theorem sG(T:Txt K mg A):T.iw.Hz P w mg base 2 (c0 A 5):=by
 refine T.iw.hs (k:=1) qN (λf cdv A' outer s H vs Q E' hr hu h=>?_);obtain⟨N,X,v,t,rfl,s0,pa,ec,q⟩:=h;refine{_,(aj (aC (ak (mU T) hr (aH (fv 0) rfl^ae)))),?_};cases t with
 |leaf n r=>
  unfold ba at pa;obtain⟨a,dx,p,rfl,h1,h2⟩:=pa;cases r with
  |set h val=>exact fdI (s0 _ _ h1) T.eU.cl T.iA rfl {N,p,_,vTh val,rfl,SqT.of (s0 _ _ (h2 _ rfl)),p7 N val,ME (gJ val) ∅,q}
  |_=>cases ec
 |_=>cases ec
theorem tL(T:Txt K mg A):T.iF.Hz P w mg base 2 (c0 A 6):=by
 refine T.iF.hs (k:=1) qO (λf cdv A' outer s H vs Q E' hr hu h=>?_);obtain⟨N,X,v,t,rfl,s0,pa,ec,q⟩:=h;refine{_,(aj (aC (ak (HJ T) hr (aB aL (ak (mU T) hr (aS (aH (fv 0) rfl^ae)^ae)) (ak (mU T) hr (aH (fv 0) rfl^ae))^ae)))),?_};cases t with
 |leaf n r=>
  unfold ba at pa;obtain⟨a,dx,p,rfl,h1,h2⟩:=pa;cases r with
  |put h pl val=>
   refine fdI (s0 _ _ h1) T.dU.cl T.gY rfl {by show 1<=sizeLine;decide,λtp htp=>?_};obtain⟨s1,e1⟩:=alc htp (HO.tup [pl.v N]);generalize upd H tp _=H1 at s1 e1⊢;refine{N,tp,_,[pl],rfl,SqT.of e1,p7 N (.one pl),by simp,λL1 H2 f2 s2 e2=>?_};have s12:=s1.trans s2;refine fdI ((s0.trans s12) _ _ h1) T.dU.cl T.iE rfl {N,p,_,vTh val,rfl,SqT.of ((s0.trans s12) _ _ (h2 _ rfl)),p7 N val,ME (gJ val) ∅,λL2 H3 f3 s3 e3=>?_};have l1:=mX N [pl] [];have l2:=mX N (vTh val) [];have l3:=gJ val;simp only[Mr,Ng]at l1 l2;refine{L1,L2,_,_,rfl,rfl,s3 _ _ e2,e3,sz (by rw[Mq,Mq];unfold rds;lia),λL3 hL3=>?_};obtain⟨s4,e4⟩:=alc hL3 (HO.lst (sS (rds N [pl])++sS (rds N (vTh val))));generalize upd H3 L3 _=H4 at s4 e4⊢;have t4:=s12.trans (s3.trans s4);refine{L3,rds N [pl]++rds N (vTh val),rfl,SqL.of (by rw[e4];simp[sS]),by rw[Mo];unfold rds;lia,λR H5 f5 s5 e5=>q R H5 (ai.free t4 f5) (t4.trans s5) (by rw[e5,E3];rfl)}
  |_=>cases ec
 |_=>cases ec
theorem qJ(T:Txt K mg A):T.f9.Hz P w mg base 2 (c0 A 7):=by
 refine T.f9.hs (k:=1) pN (λf cdv A' outer s H vs Q E' hr hu h=>?_);obtain⟨N,X,v,t,rfl,s0,pa,ec,q⟩:=h;refine{_,(aj (aC (ak (mU T) hr (aH (fv 0) rfl^ae)))),?_};cases t with
 |leaf n r=>
  unfold ba at pa;obtain⟨a,dx,p,rfl,h1,h2⟩:=pa;cases r with
  |snd h val=>exact fdI (s0 _ _ h1) T.dg.cl T.gk rfl {N,p,_,vTh val,rfl,SqT.of (s0 _ _ (h2 _ rfl)),p7 N val,ME (gJ val) ∅,q}
  |_=>cases ec
 |_=>cases ec
theorem uq(T:Txt K mg A):T.jJ.Hz P w mg base 2 (c0 A 11):=by
 refine T.jJ.hs (k:=1) tI (λf cdv A' outer s H vs Q E' hr hu h=>?_);obtain⟨N,X,v,t,rfl,s0,pa,ec,q⟩:=h;refine{_,(aj (aC (ak (mU T) hr (aH (fv 0) rfl^ae)))),?_};cases t with
 |iff n val l r f o=>
  unfold ba at pa;obtain⟨a,dx,p,pf,po,xf,xo,rfl,h1,h2,_⟩:=pa;exact fdI (s0 _ _ h1) T.bY.cl T.jm rfl {N,p,_,vTh val,rfl,SqT.of (s0 _ _ h2),p7 N val,ME (gJ val) ∅,q}
 |leaf n r=>cases r<;>cases ec
 |_=>cases ec
theorem qM(T:Txt K mg A):T.gm.Hz P w mg base 2 (c0 A 12):=by
 refine T.gm.hs (k:=1) p5 (λf cdv A' outer s H vs Q E' hr hu h=>?_);obtain⟨N,X,v,t,rfl,s0,pa,ec,q⟩:=h;refine{_,(aj (aC (ak (mU T) hr (aS (aH (fv 0) rfl^ae)^ae)))),?_};cases t with
 |loop n t m l r b=>
  unfold ba at pa;obtain⟨a,dx,pb,xb,rfl,h1,_⟩:=pa;exact fdI (s0 _ _ h1) T.bA.cl T.gu rfl {by show 1<=sizeLine;decide,λtp htp=>{N,tp,_,[t],rfl,SqT.of ao,p7 N (.one t),by simp,λp H' hp s1 e1=>q p H' (ai.free (ai.upd htp _) hp) ((ai.upd htp _).trans s1) e1}}
 |leaf n r=>cases r<;>cases ec
 |_=>cases ec
def Js(A:Adr)(C:O4)(sp:Sp):Prop:=∃i,(i=5\/i=6\/i=7\/i=11\/i=12)/\C=clI A i/\sp=c0 A i
theorem F6(T:Txt K mg A):∀C sp,Js A C sp->Cls K C/\∃ps,yx P w K mg base 2 C "reads" ps sp:=by
 rintro C sp ⟨i,rfl|rfl|rfl|rfl|rfl,rfl,rfl⟩
 ·exact{T.eU.cl,_,sG T}
 ·exact{T.dU.cl,_,tL T}
 ·exact{T.dg.cl,_,qJ T}
 ·exact{T.bY.cl,_,uq T}
 exact{T.bA.cl,_,qM T}
structure Lk where
 fr:Str
 to:Str
 kd:Str
 no:Int
noncomputable def Lk.vs(l:Lk):List V:=[.str l.fr,.str l.to,.str l.kd,.int l.no]
def LkR(l:Lk)(y:V)(H:Hp):Prop:=∃t,y=V.ref t/\H t=Vn (.tup l.vs)
def Lks(H:Hp)(ls:List Lk)(ys:List V):Prop:=Paired (λl y=>LkR l y H) ls ys
theorem Lks.same{H H':Hp}(s:∀x w,H x=Vn (.tup w)->H' x=Vn (.tup w)){ls:List Lk}{ys:List V}(h:Lks H ls ys):Lks H' ls ys:=Paired.sY h λ_ _ ⟨t,e,h1⟩=>{t,e,s _ _ h1}
theorem nT{α β γ:Type}{F:α->β->Prop}(g:γ->α):∀{l:List γ}{m:List β},Paired (λx y=>F (g x) y) l m->Paired F (l.map g) m
 |_,_,.nil=>.nil
 |_,_,.cons h r=>.cons h (nT g r)
noncomputable def drP(into:Str):Option Str->Bool
 |none=>false
 |some x=>!decide (x=into)
noncomputable def drw(fs:List (Option Str))(into kd:Str)(n:Int):List Lk:=(fs.filter (drP into)).map λf=>⟨f.getD Pq,into,kd,n⟩
theorem cv(fs:List (Option Str))(into kd:Str)(n:Int):(drw fs into kd n).length<=fs.length:=by
 unfold drw;rw[Mq];exact NG _ _
inductive jV(K:Pa)(vs:List V)(H:Hp)(Q:VK)(Z:XK):Prop
 |mk(L:O4)(fs:List (Option Str))(into kd:Str)(n:Int)(z0:vs=[.ref L,.str into,.str kd,.int n])(z1:SqL K H L (fs.map oS))(z2:fs.length<=100)
  (z3:∀(R:O4)(ys:List V)(H':Hp),ai H H'->H R=Vo->H' R=Vn (.lst ys)->Lks H' (drw fs into kd n) ys->Q (.ref R) H'):jV K vs H Q Z
theorem qT(T:Txt K mg A):T.drawn.Hz P w base 1 (jV K):=by
 refine T.drawn.hs CW (λf cdv A' outer s H vs Q E' hr hu h=>?_);obtain⟨L,fs,into,kd,n,rfl,hL,hl,q⟩:=h;refine{_,(aj (aC (fO (N:=["one","into","kind","number"]) (own:=1) (fr:=[1,2,3]) (cA.of (by kernel_rfl!)) rfl (b9 (fv 0)) (λb=>pgn (i:=0) (show Qe (["one","into","kind","number"]:List QN) by decide+kernel) rfl) (λb=>wB (PW.pt (pw_and (ptc fL (fv 0) bQ) (pw_and1 (ptc (oR hu) (fv 0) (fv 1)))))) (λb=>aS (fv 0^fv 1^fv 2^fv 3^ae))))),MG {{_,hL},lO (K:=K) (own:=1) fs (drP into) (λf y H=>LkR ⟨f.getD Pq,into,kd,n⟩ y H) hL (Mq _) (by rw[Mq];exact aG ()) ?_ ?_ ?_ ?_}}
 ·intro b i x e v0 H1 Nn Y hx he hv s1 no yes;obtain⟨u0,rfl⟩:∃u0,v0=[u0]:=by
   match v0,hv with
   | [u],_=>exact⟨u,rfl⟩
  rw[MM,he]at hx;cases hx;cases e with
  |none=>exact{rfl,_,rfl,aZ (aZ (no rfl [Vn .non] _ rfl (ai.refl _)))}
  |some x=>
   refine{rfl,_,rfl,bN {rfl,_,rfl,?_}};by_cases c:x=into
   ·subst c;exact a9 (λz=>absurd z (by show ¬ (!decide (V.str x=V.str x))=true;rw[decide_eq_true rfl];decide)) (λ_=>no (by show(!decide (x=x))=false;rw[decide_eq_true rfl];rfl) [Vn (.str x)] _ rfl (ai.refl _))
   refine a9 (λ_=>?_) (λz=>absurd (by show(!decide (V.str x=V.str into))=true;rw[Lm,decide_eq_false c];rfl) z);exact{by show 4<=sizeLine;decide,λtp htp=>yes (by show(!decide (x=into))=true;rw[decide_eq_false c];rfl) [Vn (.str x)] _ _ rfl (ai.upd htp _) ⟨tp,rfl,ao⟩}
 ·rintro e y H1 H2 s1 ⟨t,e1,h1⟩;exact{t,e1,s1 _ _ h1}
 ·rintro e y H1 D ys zs hD ⟨t,e1,h1⟩;exact{t,e1,aw (λz=>by rw[z,hD]at h1;cases h1) h1}
 intro D H1 ys hD s1 e1 pr;exact q D ys H1 s1 hD e1 (nT _ pr)
noncomputable def yc(N:Nat->Str)(n:Int)(tp:Th×Str):List Lk:=match tp.1 with
 | .i _=>[]
 | .x a=>drw [Vn (N a)] tp.2 "value" n
noncomputable def clA(N:Nat->Str)(n:Int)(l:List (Th×Str)):List Lk:=l.flatMap (yc N n)
noncomputable def clB(pl:Option Str)(n:Int)(l:List Str):List Lk:=l.flatMap λinto=>drw [pl] into "under" n
theorem uR{α β:Type}(f:α->List β)(h:∀x,(f x).length<=1):∀l:List α,(l.flatMap f).length<=l.length
 | []=>Ms _
 |x::l=>by
  have h1:=uR f h l;have h2:=h x;rw[NB,Mo,Mx];lia
theorem wF(n:Int)(tp:Th×Str):(yc N n tp).length<=1:=by
 unfold yc;split
 ·simp
 exact cv _ _ _ _
theorem o6{H Hc He:Hp}{R R2:O4}{ls ms:List Lk}{ys zs:List V}(s3:ai Hc He)(hRc:Hc R=Vn (.lst ys))(ly:Lks Hc ls ys)(l3:Lks He ms zs):Lks (upd He R (.lst (ys++zs))) (ls++ms) (ys++zs):=by
 have dR:∀x w,He x=Vn (.tup w)->upd He R (.lst (ys++zs)) x=Vn (.tup w):=λx w e=>aw (λy=>by rw[y,s3 _ _ hRc]at e;cases e) e;exact Paired.two (ly.same λx w e=>dR x w (s3 _ _ e)) (l3.same dR)
inductive vk(A:Adr)(vs:List V)(H:Hp)(Q:VK)(Z:XK):Prop
 |mk(N:Nat->Str)(X:Hp)(v:V)(n:Int)(i:Nat)(ts:List Th)(pl:Option Str)(pp:O4)(ps:List Str)(z0:vs=[v,oS pl,.ref pp])(z1:ai X H)(z2:ba A N X v (.leaf n (.call i ts)))(z3:X pp=Vn (.lst (sS ps)))(z4:ts.length=ps.length)(z5:ps.length<=100)
  (z6:∀(R:O4)(ys:List V)(H':Hp),ai H H'->H R=Vo->H' R=Vn (.lst ys)->Lks H' (clA N n (ts.zip ps)++clB pl n (ps++[N i])) ys->Q (.ref R) H'):vk A vs H Q Z
theorem Ed(T:Txt K mg A):T.j6.Hz P w base 2 (vk A):=by
 refine T.j6.hs (k:=1) cZ (λf cdv A' outer s H vs Q E' hr hu h=>?_);obtain⟨N,X,v,n,i,ts,pl,pp,ps,rfl,s0,pa,hpp,tl,pl1,q⟩:=h;unfold ba at pa;obtain⟨a,dx,p,rfl,h1,h2⟩:=pa;have h2:=h2 _ rfl;refine{_,(ab (pst 3 cZ.nd (aN ae))
  (ab (cf Pk rfl (Iq rfl T.Af (aH (fv 0) rfl^fv 2^ae)) (dG rfl (aP (pgn (i:=4) cZ.nd rfl) (aP (pgn (i:=5) cZ.nd rfl) cF)))
   (aj (aQ (bw (pcB aT T.aE (fv 4^(kH (v:=.ty "str") rfl T.yv (by boot_by_name) rfl)^ae)) (λ_=>rfl))
    (aj (aO (fY (fv 3) (ak (qT T) hr (aN (fv 4^ae)^fv 5^au^aH (fv 0) rfl^ae)^ae))))
    aF)))
  (ab (cf Pk rfl (b9 (aB aL (fv 2) (aN (aH (fv 0) rfl^ae)))) (pgn (i:=6) cZ.nd rfl)
   (aj (aO (fY (fv 3) (ak (qT T) hr (aN (fv 1^ae)^fv 6^au^aH (fv 0) rfl^ae)^ae)))))
  (aj (aC (fv 3)))))),?_}
 refine ag λM1 K1=>{MF _,λR hR=>?_};obtain⟨s1,e1⟩:=alc hR (HO.lst []);generalize upd H R _=H1 at s1 e1⊢;refine K1 _ _ ?_;clear K1 M1;try dsimp only
 refine ag λM1 K1=>?_;have sX1:=s0.trans s1;refine fdI (sX1 _ _ h1) T.cD.cl T.fF rfl {_,_,rfl,{_,SqL.of (sX1 _ _ h2)},{_,SqL.of (sX1 _ _ hpp)},GH (K:=K) (xs:=ts.map (Th.v N)) (ys:=sS ps) (λj σ Hc=>∃(ys:List V)(v4 v5:Option V),σ=[Vn (.ref a),Vn (oS pl),Vn (.ref pp),Vn (.ref R),v4,v5,Vo]/\ai H Hc/\Hc R=Vn (.lst ys)/\Lks Hc (clA N n ((ts.zip ps).take j)) ys) {[],Vo,Vo,rfl,s1,e1,.nil} (λj σ Hc _ ⟨_,_,_,_,z,_⟩=>{SqL.of ((s0.trans z) _ _ h2),SqL.of ((s0.trans z) _ _ hpp)}) (by rw[Mq,Mq];exact tl) ?_ ?_}
 ·rintro j x y σ Hc tp hx hy ⟨ys,v4,v5,rfl,sc,hRc,ly⟩ htp;rw[MM]at hx hy;cases ht:ts[j]? with
  |none=>rw[ht]at hx;cases hx
  |some th=>
  cases hp:ps[j]? with
  |none=>rw[hp]at hy;cases hy
  |some pn=>
  rw[ht]at hx;rw[hp]at hy;cases hx;cases hy;have hz:(ts.zip ps)[j]?=Vn (th,pn):=List.getElem?_zip_eq_some.mpr ⟨ht,hp⟩;have st:clA N n ((ts.zip ps).take (j+1))=clA N n ((ts.zip ps).take j)++yc N n (th,pn):=oY (yc N n) hz;have sl:=uR (yc N n) (wF n) ((ts.zip ps).take j);rw[MT,N0]at sl;have lly:=Pd ly;unfold clA at lly;have sp:=ai.upd htp (.tup [th.v N,.str pn]);have tR:tp≠R:=Vt htp hRc;try dsimp only
  refine{tp,_,rfl,SqT.of ao,rfl,_,_,rfl,_,_,rfl,rfl,?_};cases th with
  |i m=>
   refine{_,_,_,false,rfl,(λz=>by cases z),.int m,Dh,false,rfl,aZ {ys,_,_,rfl,sc.trans sp,sp _ _ hRc,?_}};rw[st];show Lks _ (_++[]) ys;rw[MP];exact ly.same λx w e=>sp _ _ e
  |x b=>
   refine{_,_,_,true,rfl,(λz=>by cases z),.str _,DH,true,rfl,bN {MG {rfl,_,SqL.of (sp _ _ hRc)},by show 1<=sizeLine;decide,λq1 hq1=>?_}};have sq:=ai.upd hq1 (.lst [Th.v N (.x b)]);refine fdI ((((s0.trans sc).trans sp).trans sq) _ _ h1) T.cD.cl T.cU rfl {q1,[Vn (N b)],pn,"value",n,rfl,SqL.of ao,by simp,λR2 zs He s3 hR2 eR2 l3=>?_};have lz:=Pd l3;have dl:=cv [Vn (N b)] pn "value" n;have s4:=(sp.trans sq).trans s3;refine{_,_,_,_,rfl,rfl,s4 _ _ hRc,eR2,sz (by simp only[Mr]at dl;lia),{_,_,_,rfl,ai.out (sc.trans s4) hR _,ao,?_}};rw[st];exact o6 (H:=H) (R2:=R2) s4 hRc ly l3
 rintro σ Hc ⟨ys,v4,v5,rfl,sc,hRc,ly⟩;rw[show(ts.zip ps).take (ts.map (Th.v N)).length=ts.zip ps by rw[Mq];exact Nc (by rw[N0];lia)]at ly;have l1:(clA N n (ts.zip ps)).length<=100:=ME (uR (yc N n) (wF n) _) (by rw[N0];lia);refine K1 _ _ ?_;clear K1 M1;generalize clA N n (ts.zip ps)=LA at ly l1 q;try dsimp only
 refine ag λM1 K1=>?_;have sX:=s0.trans sc;refine fdI (sX _ _ h1) T.cD.cl T.dJ rfl {by show 1<=sizeLine;decide,λq1 hq1=>?_};have sq:=ai.upd hq1 (.lst [.str (N i)]);refine{pp,q1,_,_,rfl,rfl,(sX.trans sq) _ _ hpp,ao,sz (by rw[Mq,Mr];lia),λq2 hq2=>?_};have sq2:=ai.upd hq2 (.lst (sS ps++[.str (N i)]));have es:sS ps++[V.str (N i)]=sS (ps++[N i]):=by simp[sS]
 rw[es]at sq2⊢;have eq2:upd (upd Hc q1 (.lst [.str (N i)])) q2 (.lst (sS (ps++[N i]))) q2=Vn (.lst (sS (ps++[N i]))):=ao;have sc2:=sq.trans sq2;have q2R:q2≠R:=Vt hq2 (sq _ _ hRc);generalize upd (upd Hc q1 (.lst [.str (N i)])) q2 (.lst (sS (ps++[N i])))=H2 at sc2 eq2⊢;have is1:(ps++[N i]).length<=101:=by simp;lia
 generalize ps++[N i]=is at eq2 is1 q;refine MG {{_,SqL.of eq2},cn (K:=K) (xs:=sS is) (λj σ Hd=>∃(zs:List V)(v6:Option V),σ=[Vn (.ref a),Vn (oS pl),Vn (.ref pp),Vn (.ref R),v4,v5,v6]/\Sm [R] H2 Hd/\Hd R=Vn (.lst zs)/\Lks Hd (LA++clB pl n (is.take j)) zs) {ys,Vo,rfl,Sm.refl _ _,sc2 _ _ hRc,by show Lks _ (_++[]) _;rw[MP];exact ly.same λx w e=>sc2 _ _ e} (λj σ Hd _ ⟨_,_,_,z,_⟩=>SqL.of (z _ _ (λm=>q2R (Mp.mp m)) eq2)) ?_ ?_}
 ·rintro j x σ Hd hx ⟨zs,v6,rfl,sd,hRd,lz⟩;rw[MM]at hx;cases hi:is[j]? with
  |none=>rw[hi]at hx;cases hx
  |some into=>
  rw[hi]at hx;cases hx;have st:clB pl n (is.take (j+1))=clB pl n (is.take j)++drw [pl] into "under" n:=oY _ hi;have sl:=uR (λinto=>drw [pl] into "under" n) (λx=>cv _ _ _ _) (is.take j);rw[MT]at sl;have llz:=Pd lz;unfold clB at llz;rw[Mo]at llz;have sX2:ai H Hd:=sd.same (sc.trans sc2) (λm hm=>by rw[Mp.mp hm];exact hR);try dsimp only
  refine{MG {rfl,_,SqL.of hRd},by show 1<=sizeLine;decide,λq3 hq3=>?_};have sq3:=ai.upd hq3 (.lst [oS pl]);refine fdI (((s0.trans sX2).trans sq3) _ _ h1) T.cD.cl T.cU rfl {q3,[pl],into,"under",n,rfl,SqL.of ao,by simp,λR2 ws He s3 hR2 eR2 l3=>?_};have lw:=Pd l3;have dl:=cv [pl] into "under" n;have s4:=sq3.trans s3;refine{_,_,_,_,rfl,rfl,s4 _ _ hRd,eR2,sz (by simp only[Mr]at dl;lia),{_,_,rfl,(sd.trans (Sm.new s4)).trans (Sm.at (Mp.mpr rfl) _),ao,?_}};rw[st,<-MB];exact o6 (H:=H) (R2:=R2) s4 hRd lz l3
 rintro σ Hd ⟨zs,v6,rfl,sd,hRd,lz⟩;rw[show is.take (sS is).length=is by rw[Mq];exact M8]at lz;exact K1 _ _ (q R zs Hd (sd.same (sc.trans sc2) (λm hm=>by rw[Mp.mp hm];exact hR)) hR hRd lz)
noncomputable def k5:Pt->Bool
 | .leaf _ (.set _ _)=>true
 | .leaf _ (.put _ _ _)=>true
 | .leaf _ (.snd _ _)=>true
 | .leaf _ (.say _ _ _)=>true
 | .leaf _ (.call _ _)=>true
 | .leaf _ .last=>true
 | .iff _ _ _ _ _ _=>true
 | .loop _ _ _ _ _ _=>true
 |_=>false
noncomputable def drI(N:Nat->Str)(t:Pt)(into kd:Str)(pl:Option Str):List Lk:=drw ((rds N (tTh t)).map Vn) into kd t.no++drw [pl] into "under" t.no
noncomputable def saL(pl:Option Str)(x m:Str)(n:Int):List Lk:=drw [Vn m] x "value" n++drw [pl] x "under" n++drw [pl] (aX n) "under" n
noncomputable def wN(N:Nat->Str)(po:Str->List Str)(t:Pt)(pl lp:Option Str):List Lk:=match t with
 | .leaf n (.set x v)=>drI N (.leaf n (.set x v)) (N x) "value" pl
 | .leaf n (.put x p v)=>drI N (.leaf n (.put x p v)) (N x) "value" pl
 | .leaf n (.call i ts)=>clA N n (ts.zip (po (N i)))++clB pl n (po (N i)++[N i])
 | .leaf n (.snd h v)=>drI N (.leaf n (.snd h v)) (aX n) "value" pl
 | .leaf n (.say x _ m)=>saL pl (N x) (N m) n
 | .leaf n .last=>drw [pl] (lp.getD Pq) "under" n
 | .iff n v l r f o=>drI N (.iff n v l r f o) (aX n) "test" pl
 | .loop n t m l r b=>drI N (.loop n t m l r b) (aX n) "test" pl
 |_=>[]
theorem wW(t:Pt)(into kd:Str)(pl:Option Str):(drI N t into kd pl).length<=4:=by
 unfold drI;have h1:=cv ((rds N (tTh t)).map Vn) into kd t.no;have h2:=cv [pl] into "under" t.no;have h3:=mX N (tTh t) [];have h4:=A0 t;rw[Mq]at h1;rw[Mo];simp only[Mr,Ng]at h2 h3;unfold rds at h1⊢;lia
def lOk(t:Pt)(lp:Option Str):Prop:=t.ci=10->lp.isSome=true
def EX(X H:Hp)(D:O4)(po:Str->List Str)(nm:List Str):Prop:=∃kvs,H D=Vn (.dK kvs)/\∀x∈nm,(po x).length<=100/\∃pp,L2.cb kvs (.inr x)=Vn (.ref pp)/\X pp=Vn (.lst (sS (po x)))
theorem EX.same{X H H':Hp}{D:O4}{po:Str->List Str}{nm:List Str}(h:EX X H D po nm)(e:∀kvs,H D=Vn (.dK kvs)->H' D=Vn (.dK kvs)):EX X H' D po nm:=by
 obtain⟨kvs,h1,h2⟩:=h;exact{kvs,e _ h1,h2}
noncomputable def Cs(N:Nat->Str)(po:Str->List Str)(nm:List Str):Pt->Prop
 | .leaf _ (.call i ts)=>N i∈nm/\ts.length=(po (N i)).length
 |_=>True
inductive A5(A:Adr)(vs:List V)(H:Hp)(Q:VK)(Z:XK):Prop
 |mk(N:Nat->Str)(X:Hp)(v:V)(t:Pt)(pl lp:Option Str)(D:O4)(po:Str->List Str)(nm:List Str)(z0:vs=[v,oS pl,oS lp,.ref D])(z1:ai X H)(z2:ba A N X v t)(z3:k5 t=true)(z4:0<=t.no/\t.no<=1000)(z8:lOk t lp)(z5:EX X H D po nm)(z6:Cs N po nm t)
  (z7:∀(R:O4)(ys:List V)(H':Hp),ai H H'->H R=Vo->H' R=Vn (.lst ys)->Lks H' (wN N po t pl lp) ys->Q (.ref R) H'):A5 A vs H Q Z
inductive AH(A:Adr)(vs:List V)(H:Hp)(Q:VK)(Z:XK):Prop
 |mk(N:Nat->Str)(X:Hp)(v:V)(n:Int)(x m:Nat)(val:Val)(pl:Option Str)(z0:vs=[v,oS pl])(z1:ai X H)(z2:ba A N X v (.leaf n (.say x val m)))(z4:0<=n/\n<=1000)
  (z7:∀(R:O4)(ys:List V)(H':Hp),ai H H'->H R=Vo->H' R=Vn (.lst ys)->Lks H' (saL pl (N x) (N m) n) ys->Q (.ref R) H'):AH A vs H Q Z
theorem HC(T:Txt K mg A):T.nS.Hz P w base 2 (AH A):=by
 have cc:=@qT P w _ _ base _ T;refine T.nS.hs (k:=1) nE (λf cdv A' outer s H vs Q E' hr hu h=>?_);obtain⟨N,X,v,n,x,m,val,pl,rfl,s0,pa,nt,q⟩:=h;unfold ba at pa;obtain⟨a,dx,p,rfl,h1,_⟩:=pa;refine{_,(ab (pst 2 nE.nd (ak cc hr (aN (aH (fv 0) rfl^ae)^aH (fv 0) rfl^au^aH (fv 0) rfl^ae)))
  (ab (aO (fY (fv 2) (ak cc hr (aN (fv 1^ae)^aH (fv 0) rfl^au^aH (fv 0) rfl^ae)^ae)))
  (aj (aC (aB aL (fv 2) (ak cc hr (aN (fv 1^ae)^ak (o9 T) hr (aH (fv 0) rfl^ae)^au^aH (fv 0) rfl^ae))))))),?_}
 refine ag λM1 K1=>fdI (s0 _ _ h1) T.b8.cl T.i7 rfl {by show 1<=sizeLine;decide,λq1 hq1=>?_};have s1:=ai.upd hq1 (.lst [V.str (N m)]);have sX1:=s0.trans s1;refine fdI (sX1 _ _ h1) T.b8.cl T.fK rfl (fdI (sX1 _ _ h1) T.b8.cl T.bU rfl {q1,[Vn (N m)],N x,"value",n,rfl,SqL.of ao,by simp,λR y1 H2 s2 n2 e2 l2=>K1 _ _ ?_});clear K1 M1;have t2:=s1.trans s2;have hR:H R=Vo:=ai.free s1 n2;have a1:=Pd l2;have b1:=cv [Vn (N m)] (N x) "value" n;try dsimp only
 refine ag λM1 K1=>{MG {rfl,_,SqL.of e2},by show 1<=sizeLine;decide,λq3 hq3=>?_};have s3:=ai.upd hq3 (.lst [oS pl]);have sX3:=s0.trans (t2.trans s3);refine fdI (sX3 _ _ h1) T.b8.cl T.fK rfl (fdI (sX3 _ _ h1) T.b8.cl T.bU rfl {q3,[pl],N x,"under",n,rfl,SqL.of ao,by simp,λR2 y2 H4 s4 n4 e4 l4=>?_});have s24:=s3.trans s4;have a2:=Pd l4;have b2:=cv [pl] (N x) "under" n;simp only[Mr]at b1 b2;refine{_,_,_,_,rfl,rfl,s24 _ _ e2,e4,sz (),?_};have l5:=o6 (H:=H) (R2:=R2) s24 e2 l2 l4;have s5:ai H (upd H4 R (.lst (y1++y2))):=ai.out (t2.trans s24) hR _;have e5:upd H4 R (.lst (y1++y2)) R=Vn (.lst (y1++y2)):=ao;generalize upd H4 R (.lst (y1++y2))=H5 at l5 s5 e5⊢;refine K1 _ _ ?_;clear K1 M1;try dsimp only
 refine{by show 1<=sizeLine;decide,λq6 hq6=>?_};have s6:=ai.upd hq6 (.lst [oS pl]);have sX6:=s0.trans (s5.trans s6);refine fdI (sX6 _ _ h1) T.b8.cl T.bU rfl {_,rfl,nt.1,nt.2,fdI (sX6 _ _ h1) T.b8.cl T.bU rfl {q6,[pl],aX n,"under",n,rfl,SqL.of ao,by simp,λR3 y3 H7 s7 n7 e7 l7=>?_}};have s57:=s6.trans s7;have a3:=Pd l7;have b3:=cv [pl] (aX n) "under" n;simp only[Mr]at b3;refine{R,R3,_,_,rfl,rfl,s57 _ _ e5,e7,sz (by rw[Mo];lia),λR4 hR4=>?_};have s8:=ai.upd hR4 (.lst (y1++y2++y3));exact q R4 _ _ (s5.trans (s57.trans s8)) (ai.free (s5.trans s57) hR4) ao (Paired.two (l5.same λz w e=>(s57.trans s8) _ _ e) (l7.same λz w e=>s8 _ _ e))
theorem Lb{X:Hp}{v:V}{p:Pt}(h:ba A N X v p):∃a dx fs,v=.ref a/\X a=Vn (.ins (clI A p.ci) dx fs)/\fs.lookup ("reads":Str)=Vo:=by
 cases p with
 |leaf n r=>
  unfold ba at h;obtain⟨a,dx,p,e,h1,h2⟩:=h;exact{a,dx,_,e,h1,by cases r<;>rfl}
 |iff n val l r f o=>
  unfold ba at h;obtain⟨a,dx,p,pf,po,xf,xo,e,h1,_⟩:=h;exact{a,dx,_,e,h1,rfl}
 |loop n t m l r b=>
  unfold ba at h;obtain⟨a,dx,pb,xb,e,h1,_⟩:=h;exact{a,dx,_,e,h1,rfl}
 |bj n i ps b=>
  unfold ba at h;obtain⟨a,dx,pp,pb,xb,e,h1,_⟩:=h;exact{a,dx,_,e,h1,rfl}
theorem Jk(T:Txt K mg A):T.pv.Hz P w base 3 (A5 A):=by
 have cc:=@qT P w _ _ base _ T;have M_reads:=F6 (P:=P) (w:=w) (mg:=mg) (base:=base) T;refine T.pv.hs (k:=2) o5 (λf cdv A' outer s H vs Q E' hr hu h=>?_);obtain⟨N,X,v,t,pl,lp,D,po,nm,rfl,s0,pa,hk,nt,hlp,hD,hc,q⟩:=h;refine{_,(ab (pst 4 o5.nd (ak (o9 T) hr (aH (fv 0) rfl^ae)))
  (ab (aQ (PW.pt (pw_or (bw (pcB aT T.aE (fv 0^bD T.eU.mg^ae)) (λ_=>rfl)) (pw_or1 (bw (pcB aT T.aE (fv 0^bD T.dU.mg^ae)) (λ_=>rfl)))))
   (aj (aC (aB aL (ak cc hr (pZ (fv 0) M_reads hr^aH (fv 0) rfl^au^aH (fv 0) rfl^ae)) (ak cc hr (aN (fv 1^ae)^aH (fv 0) rfl^au^aH (fv 0) rfl^ae)))))
   aF)
  (ab (aQ (bw (pcB aT T.aE (fv 0^bD T.dg.mg^ae)) (λ_=>rfl))
   (aj (aC (aB aL (ak cc hr (pZ (fv 0) M_reads hr^fv 4^au^aH (fv 0) rfl^ae)) (ak cc hr (aN (fv 1^ae)^fv 4^au^aH (fv 0) rfl^ae)))))
   aF)
  (ab (aQ (bw (pcB aT T.aE (fv 0^bD T.b8.mg^ae)) (λ_=>rfl))
   (aj (aC (ak (HC T) hr (fv 0^fv 1^ae))))
   aF)
  (ab (aQ (PW.pt (pw_or (bw (pcB aT T.aE (fv 0^bD T.bY.mg^ae)) (λ_=>rfl)) (pw_or1 (bw (pcB aT T.aE (fv 0^bD T.bA.mg^ae)) (λ_=>rfl)))))
   (aj (aC (aB aL (ak cc hr (pZ (fv 0) M_reads hr^fv 4^au^aH (fv 0) rfl^ae)) (ak cc hr (aN (fv 1^ae)^fv 4^au^aH (fv 0) rfl^ae)))))
   aF)
  (ab (aQ (bw (pcB aT T.aE (fv 0^bD T.gL.mg^ae)) (λ_=>rfl))
   (aj (aC (ak cc hr (aN (fv 1^ae)^fv 2^au^aH (fv 0) rfl^ae))))
   aF)
  (aj (aC (ak (Ed T) hr (fv 0^fv 1^px hu (fv 3) (aH (fv 0) rfl)^ae)))))))))),?_}
 refine ag λM1 K1=>eG T s0 pa {_,rfl,nt.1,nt.2,K1 _ _ ?_};clear K1 M1;try dsimp only
 have ob:=Lb pa;have jn:∀(kd into:Str)(R:VK),(∀(R':O4)(ys:List V)(H':Hp),ai H H'->H R'=Vo->H' R'=Vn (.lst ys)->Lks H' (drI N t into kd pl) ys->R (.ref R') H')->
   ∀(R1 R2:O4)(y1 y2:List V)(H2 H3:Hp),ai H H2->H2 R1=Vn (.lst y1)->Lks H2 (drw ((rds N (tTh t)).map Vn) into kd t.no) y1->ai H2 H3->H3 R2=Vn (.lst y2)->Lks H3 (drw [pl] into "under" t.no) y2->Fn (.ref R1) (.ref R2) H3 R:=by
  intro kd into R qq R1 R2 y1 y2 H2 H3 s2 e2 l2 s3 e3 l3
  have d:=wW (N:=N) t into kd pl
  have a1:=Pd l2
  have a2:=Pd l3
  unfold drI at d
  rw[Mo]at d
  refine{R1,R2,_,_,rfl,rfl,s3 _ _ e2,e3,sz (),λR hR=>?_}
  have s5:=ai.upd hR (.lst (y1++y2))
  exact qq R _ _ ((s2.trans s3).trans s5) (ai.free (s2.trans s3) hR) ao (Paired.two (l2.same λx w e=>s5 _ _ (s3 _ _ e)) (l3.same λx w e=>s5 _ _ e))
 have rl:∀{p:O4}{H1:Hp},H1 p=Vn (.lst (sS (rds N (tTh t))))->SqL K H1 p (((rds N (tTh t)).map Vn).map oS)/\((rds N (tTh t)).map Vn).length<=100:=λe1=>by
  have h3:=mX N (tTh t) [];have h4:=A0 t;simp only[Ng]at h3;exact{SqL.of (by rw[e1,NJ];rfl),by rw[Mq];unfold rds;lia}
 have two:∀(kd:Str)(R:VK),(∀(R':O4)(ys:List V)(H':Hp),ai H H'->H R'=Vo->H' R'=Vn (.lst ys)->Lks H' (drI N t (aX t.no) kd pl) ys->R (.ref R') H')->∀(p:O4)(H1:Hp),H p=Vo->ai H H1->H1 p=Vn (.lst (sS (rds N (tTh t))))->
   jV K [.ref p,.str (aX t.no),.str kd,.int t.no] H1 (λx H2=>1<=sizeLine/\∀q3,H2 q3=Vo->nP K "number" v (upd H2 q3 (.lst [oS pl])) λu H3=>jV K [.ref q3,.str (aX t.no),.str "under",u] H3 (λy H4=>Fn x y H4 R) E0) E0:=by
  intro kd R qq p H1 hp s1 e1
  refine{p,(rds N (tTh t)).map Vn,aX t.no,kd,t.no,rfl,(rl e1).1,(rl e1).2,λR1 y1 H2 s2 n2 e2 l2=>{∅,λq3 hq3=>?_}}
  have sq3:=ai.upd hq3 (.lst [oS pl])
  exact eG T (((s0.trans s1).trans s2).trans sq3) pa {q3,[pl],aX t.no,"under",t.no,rfl,SqL.of ao,by simp,λR2 y2 H3 s3 n3 e3 l3=>jn kd _ R qq R1 R2 y1 y2 H2 H3 (s1.trans s2) e2 l2 (sq3.trans s3) e3 l3}
 have twoN:∀(into:Str)(R:VK),(∀(H':Hp){Q:VK},ai X H'->Q (.str into) H'->nP K "name" v H' Q)->(∀(R':O4)(ys:List V)(H':Hp),ai H H'->H R'=Vo->H' R'=Vn (.lst ys)->Lks H' (drI N t into "value" pl) ys->R (.ref R') H')->∀(p:O4)(H1:Hp),H p=Vo->ai H H1->H1 p=Vn (.lst (sS (rds N (tTh t))))->
   nP K "name" v H1 λi1 H1'=>nP K "number" v H1' λm1 H1''=>jV K [.ref p,i1,.str "value",m1] H1'' (λx H2=>1<=sizeLine/\∀q3,H2 q3=Vo->nP K "name" v (upd H2 q3 (.lst [oS pl])) λi2 H3'=>nP K "number" v H3' λu H3=>jV K [.ref q3,i2,.str "under",u] H3 (λy H4=>Fn x y H4 R) E0) E0:=by
  intro into R nf qq p H1 hp s1 e1
  refine nf H1 (s0.trans s1) (eG T (s0.trans s1) pa {p,(rds N (tTh t)).map Vn,into,"value",t.no,rfl,(rl e1).1,(rl e1).2,λR1 y1 H2 s2 n2 e2 l2=>{∅,λq3 hq3=>?_}})
  have sq3:=ai.upd hq3 (.lst [oS pl])
  have sX3:=((s0.trans s1).trans s2).trans sq3
  exact nf _ sX3 (eG T sX3 pa {q3,[pl],into,"under",t.no,rfl,SqL.of ao,by simp,λR2 y2 H3 s3 n3 e3 l3=>jn "value" _ R qq R1 R2 y1 y2 H2 H3 (s1.trans s2) e2 l2 (sq3.trans s3) e3 l3})
 obtain⟨a,dx,fs,rfl,h1,hno⟩:=ob;refine ag λM1 K1=>?_;by_cases c5:t.ci=5
 ·refine ke T s0 pa c5 (bN ?_);have rr:∀{Q:VK},(∀(p:O4)(H':Hp),H p=Vo->ai H H'->H' p=Vn (.lst (sS (rds N (tTh t))))->Q (.ref p) H')->c0 A 5 [.ref a] H Q E0:=λk=>{N,X,_,_,rfl,s0,pa,c5,k};refine{a,_,dx,_,_,rfl,s0 _ _ h1,hno,{5,∅,by rw[c5],rfl},rr ?_};clear two jn rl rr;cases t with
  |leaf n r=>
   cases r with
   |set x val=>
    have pa':=pa;unfold ba at pa';obtain⟨a',dx',p',e',h1',_⟩:=pa';cases e';exact twoN (N x) _ (λH' Q sx k=>fdI (sx _ _ h1') T.eU.cl T.je rfl k) q
   |_=>cases c5
  |_=>cases c5
 refine gv T s0 pa c5 (aZ ?_);by_cases c6:t.ci=6
 ·refine ke T s0 pa c6 (bN ?_);have rr:∀{Q:VK},(∀(p:O4)(H':Hp),H p=Vo->ai H H'->H' p=Vn (.lst (sS (rds N (tTh t))))->Q (.ref p) H')->c0 A 6 [.ref a] H Q E0:=λk=>{N,X,_,_,rfl,s0,pa,c6,k};refine{a,_,dx,_,_,rfl,s0 _ _ h1,hno,{6,∅,by rw[c6],rfl},rr ?_};clear two jn rl rr;cases t with
  |leaf n r=>
   cases r with
   |put x pt val=>
    have pa':=pa;unfold ba at pa';obtain⟨a',dx',p',e',h1',_⟩:=pa';cases e';exact twoN (N x) _ (λH' Q sx k=>fdI (sx _ _ h1') T.dU.cl T.jA rfl k) q
   |_=>cases c6
  |_=>cases c6
 refine gv T s0 pa c6 (aZ (K1 _ _ ?_));clear K1 M1 twoN;refine ag λM1 K1=>?_;by_cases c7:t.ci=7
 ·refine ke T s0 pa c7 (bN ?_);have rr:∀{Q:VK},(∀(p:O4)(H':Hp),H p=Vo->ai H H'->H' p=Vn (.lst (sS (rds N (tTh t))))->Q (.ref p) H')->c0 A 7 [.ref a] H Q E0:=λk=>{N,X,_,_,rfl,s0,pa,c7,k};refine{a,_,dx,_,_,rfl,s0 _ _ h1,hno,{7,∅,by rw[c7],rfl},rr λp H1 hp s1 e1=>eG T (s0.trans s1) pa (two "value" _ ?_ p H1 hp s1 e1)};clear two jn rl rr;cases t with
  |leaf n r=>
   cases r with
   |snd x val=>exact q
   |_=>cases c7
  |_=>cases c7
 refine gv T s0 pa c7 (aZ (K1 _ _ ?_));clear K1 M1;refine ag λM1 K1=>?_;by_cases c8:t.ci=8
 ·refine ke T s0 pa c8 (bN ?_);clear two jn rl;cases t with
  |leaf n r=>
   cases r with
   |say x val m=>exact{N,X,_,n,x,m,val,pl,rfl,s0,pa,nt,q}
   |_=>cases c8
  |_=>cases c8
 refine gv T s0 pa c8 (aZ (K1 _ _ ?_));clear K1 M1;refine ag λM1 K1=>?_;by_cases c11:t.ci=11
 ·refine ke T s0 pa c11 (bN ?_);have rr:∀{Q:VK},(∀(p:O4)(H':Hp),H p=Vo->ai H H'->H' p=Vn (.lst (sS (rds N (tTh t))))->Q (.ref p) H')->c0 A 11 [.ref a] H Q E0:=λk=>{N,X,_,_,rfl,s0,pa,c11,k};refine{a,_,dx,_,_,rfl,s0 _ _ h1,hno,{11,∅,by rw[c11],rfl},rr λp H1 hp s1 e1=>eG T (s0.trans s1) pa (two "test" _ ?_ p H1 hp s1 e1)};clear two jn rl rr;cases t with
  |leaf n r=>cases r<;>cases c11
  |iff n val l r fs os=>exact q
  |_=>cases c11
 refine gv T s0 pa c11 (aZ ?_);by_cases c12:t.ci=12
 ·refine ke T s0 pa c12 (bN ?_);have rr:∀{Q:VK},(∀(p:O4)(H':Hp),H p=Vo->ai H H'->H' p=Vn (.lst (sS (rds N (tTh t))))->Q (.ref p) H')->c0 A 12 [.ref a] H Q E0:=λk=>{N,X,_,_,rfl,s0,pa,c12,k};refine{a,_,dx,_,_,rfl,s0 _ _ h1,hno,{12,∅,by rw[c12],rfl},rr λp H1 hp s1 e1=>eG T (s0.trans s1) pa (two "test" _ ?_ p H1 hp s1 e1)};clear two jn rl rr;cases t with
  |leaf n r=>cases r<;>cases c12
  |loop n th m l r b=>exact q
  |_=>cases c12
 refine gv T s0 pa c12 (aZ (K1 _ _ ?_));clear K1 M1 two jn rl;refine ag λM1 K1=>?_;by_cases c10:t.ci=10
 ·refine ke T s0 pa c10 (bN ?_);cases lp with
  |none=>exact absurd (hlp c10) ∅
  |some lq=>
  refine{by show 1<=sizeLine;decide,λq3 hq3=>?_};have sq3:=ai.upd hq3 (.lst [oS pl]);refine eG T (s0.trans sq3) pa {q3,[pl],lq,"under",t.no,rfl,SqL.of ao,by simp,λR2 y2 H3 s3 n3 e3 l3=>q R2 y2 H3 (sq3.trans s3) (ai.free sq3 n3) e3 ?_};cases t with
  |leaf n r=>
   cases r with
   |last=>exact l3
   |_=>cases c10
  |_=>cases c10
 refine gv T s0 pa c10 (aZ (K1 _ _ ?_));clear K1 M1;cases t with
 |leaf n r=>
  cases r with
  |call i ts=>
   have pa':=pa;unfold ba at pa';obtain⟨a',dx',p,e',h1',_⟩:=pa';cases e';obtain⟨kvs,eD,hd⟩:=hD;obtain⟨c1,c2⟩:=hc;obtain⟨l1,pp,e1,e2⟩:=hd _ c1;exact fdI (s0 _ _ h1') T.cD.cl T.dJ rfl (dgk eD e1 {N,X,_,n,i,ts,pl,pp,po (N i),rfl,s0,pa,e2,c2,l1,q})
  |set _ _=>exact absurd rfl c5
  |put _ _ _=>exact absurd rfl c6
  |snd _ _=>exact absurd rfl c7
  |say _ _ _=>exact absurd rfl c8
  |last=>exact absurd rfl c10
  |_=>cases hk
 |iff _ _ _ _ _ _=>exact absurd rfl c11
 |loop _ _ _ _ _ _=>exact absurd rfl c12
 |bj n i ps b=>cases hk
noncomputable def oI:Option Int->V
 |none=>.non
 |some n=>.int n
noncomputable def KQ(l r:Int):Option Int->Option Int->Option Int
 |some a,Vn b=>if l+a=r+b then Vn (1+l+a)else Vo
 |_,_=>Vo
noncomputable def K5(m l r:Int):Option Int->Option Int
 |some a=>if l+a=r then Vn (1+m*r)else Vo
 |none=>Vo
noncomputable def BL(a:Int):Option Int->Option Int
 |some b=>Vn (a+b)
 |none=>Vo
noncomputable def iW:Option Int->Option Int->Option Int
 |some a,x=>BL a x
 |none,_=>Vo
mutual
noncomputable def exP(kn:Nat->Option Int):Pt->Option Int
 | .leaf _ (.call i _)=>BL 1 (kn i)
 | .leaf _ _=>Vn 1
 | .iff _ _ l r f o=>KQ l r (cE kn f) (cE kn o)
 | .loop _ _ m l r b=>K5 m l r (cE kn b)
 | .bj _ _ _ _=>Vn 1
noncomputable def cE(kn:Nat->Option Int):List Pt->Option Int
 | []=>Vn 0
 |t::ts=>iW (exP kn t) (cE kn ts)
end
theorem qk(a b c:Option Int):iW (iW a b) c=iW a (iW b c):=by
 cases a with
 |none=>rfl
 |some a=>cases b with
  |none=>rfl
  |some b=>cases c with
   |none=>rfl
   |some c=>show Vn (a+b+c)=Vn (a+(b+c));rw[OX]
theorem zp(a:Option Int):iW (Vn 0) a=a:=by
 cases a with
 |none=>rfl
 |some a=>show Vn (0+a)=Vn a;rw[O2]
theorem rE(kn:Nat->Option Int):∀(a b:List Pt),cE kn (a++b)=iW (cE kn a) (cE kn b)
 | [],b=>by rw[MX,show cE kn []=Vn 0 by rw[cE],zp]
 |t::a,b=>by
  rw[M7,cE,cE,rE kn a b,qk]
theorem Ek(kn:Nat->Option Int)(t:Pt):cE kn [t]=exP kn t:=by
 rw[cE,cE];cases exP kn t with
 |none=>rfl
 |some a=>show Vn (a+0)=Vn a;rw[Int.add_zero]
theorem ve(kn:Nat->Option Int){ts:List Pt}{i:Nat}{t:Pt}(h:ts[i]?=Vn t):cE kn (ts.take (i+1))=iW (cE kn (ts.take i)) (exP kn t):=by
 rw[Nf,h,rE];show iW _ (cE kn [t])=_;rw[Ek]
theorem EF(kn:Nat->Option Int){ts:List Pt}{i:Nat}{t:Pt}(h:ts[i]?=Vn t)(e:exP kn t=Vo):cE kn ts=Vo:=by
 have:=rE kn (ts.take (i+1)) (ts.drop (i+1));rw[MO,ve kn h,e]at this;rw[this];cases cE kn (ts.take i)<;>rfl
mutual
noncomputable def cOk(idx:List Nat):Pt->Prop
 | .leaf _ (.call i _)=>i∈idx
 | .leaf _ _=>True
 | .iff _ _ _ _ f o=>rD idx f/\rD idx o
 | .loop _ _ m _ _ b=>0<=m/\m<=1000/\rD idx b
 | .bj _ _ _ _=>True
noncomputable def rD(idx:List Nat):List Pt->Prop
 | []=>True
 |t::ts=>cOk idx t/\rD idx ts
end
theorem xR{idx:List Nat}{t:Pt}:∀{ts:List Pt},rD idx ts->t∈ts->cOk idx t
 |t'::ts,h,m=>by
  unfold rD at h;rcases Mw.mp m with rfl|m
  ·exact h.1
  exact xR h.2 m
def kR(N:Nat->Str)(H:Hp)(D:O4)(idx:List Nat)(kn:Nat->V):Prop:=∃kvs,H D=Vn (.dK kvs)/\∀i∈idx,L2.cb kvs (.inr (N i))=Vn (kn i)
inductive Ab(vs:List V)(H:Hp)(Q:VK)(Z:XK):Prop
 |mk(x:Option Int):vs=[oI x]->Q (oI (BL 1 x)) H->Ab vs H Q Z
theorem Hu(T:Txt K mg A):T.rn.Hz P w base 1 Ab:=by
 refine T.rn.hs yj (λf cdv A' outer s H vs Q E' hr hu h=>?_);obtain⟨x,rfl,q⟩:=h;refine{_,(aj (aC (Dy (ptc C9 (fv 0) bQ) bQ (aB aL af (fv 0))))),?_};cases x with
 |none=>exact{rfl,_,rfl,bN q}
 |some n=>exact{rfl,_,rfl,aZ q}
inductive jZ(A:Adr)(d:Nat)(vs:List V)(H:Hp)(Q:VK)(Z:XK):Prop
 |mk(N:Nat->Str)(X:Hp)(L D:O4)(xs:List V)(ts:List Pt)(idx:List Nat)(kn:Nat->Option Int):vs=[.ref L,.ref D]->ai X H->X L=Vn (.lst xs)->aI A N X xs ts->ni ts<=d->rD idx ts->(kR N H D idx λi=>oI (kn i))->Q (oI (cE kn ts)) H->jZ A d vs H Q Z
inductive mT(A:Adr)(d:Nat)(vs:List V)(H:Hp)(Q:VK)(Z:XK):Prop
 |mk(N:Nat->Str)(X:Hp)(v:V)(D:O4)(t:Pt)(idx:List Nat)(kn:Nat->Option Int):vs=[v,.ref D]->ai X H->ba A N X v t->dep t<=d->cOk idx t->(kR N H D idx λi=>oI (kn i))->Q (oI (exP kn t)) H->mT A d vs H Q Z
noncomputable def spN(sp:Nat->Sp):Nat->Sp
 |0=>λ_ _ _ _=>False
 |d+1=>sp d
inductive jP(A:Adr)(d c:Nat)(vs:List V)(H:Hp)(Q:VK)(Z:XK):Prop
 |mk(N:Nat->Str)(X:Hp)(v:V)(D:O4)(t:Pt)(idx:List Nat)(kn:Nat->Option Int):vs=[v,.ref D]->ai X H->ba A N X v t->dep t<=d->cOk idx t->(kR N H D idx λi=>oI (kn i))->t.ci=c->Q (oI (exP kn t)) H->jP A d c vs H Q Z
theorem xm(T:Txt K mg A)(d j:Nat)(fA:T.eV.Hz P w base j (mT A d)):T.dQ.Hz P w base (j+1) (jZ A d):=by
 refine T.dQ.hs (k:=j) cV (λf cdv A' outer s H vs Q E' hr hu h=>?_);obtain⟨N,X,L,D,xs,ts,idx,kn,rfl,s0,hL,pt,dp,ck,hD,q⟩:=h;refine{_,(ab (pst 2 cV.nd af)
  (ab (cf Pk rfl (b9 (fv 0)) (pgn (i:=3) cV.nd rfl)
   (ab (pst 4 cV.nd (ak (hj:=by lia) fA hr (fv 3^fv 1^ae)))
   (ab (aQ (ptc C9 (fv 4) bQ)
    (aj (aC bQ))
    aF)
   (aj (Dl (i:=2) cV.nd rfl (by first|exact MG rfl|exact NF rfl) (fv 4) Dm)))))
  (aj (aC (fv 2))))),?_}
 refine ag λM1 K1=>K1 _ _ ?_;clear K1 M1;try dsimp only
 refine ag λM1 K1=>MG {{_,SqL.of (s0 _ _ hL)},cn (K:=K) (xs:=xs) (λi σ Hc=>∃(a:Int)(v3 v4:Option V),σ=[Vn (.ref L),Vn (.ref D),Vn (.int a),v3,v4]/\Hc=H/\cE kn (ts.take i)=Vn a) {0,Vo,Vo,rfl,rfl,by rw[Oa,cE]} (λi σ Hc _ ⟨_,_,_,_,z,_⟩=>z▸SqL.of (s0 _ _ hL)) ?_ ?_}
 ·rintro i v σ Hc hv ⟨a,v3,v4,rfl,rfl,ea⟩;obtain⟨t,ht,pa⟩:=pt.get hv;have mt:t∈ts:=ML ht;try dsimp only
  refine ag λN1 J1=>{N,X,v,D,t,idx,kn,rfl,s0,pa,ME (rQ mt) dp,xR ck mt,hD,?_};have st:=ve kn ht;rw[ea]at st;refine J1 _ _ ?_;clear J1 N1;try dsimp only
  refine ag λN1 J1=>?_;cases e:exP kn t with
  |none=>
   rw[EF kn ht e]at q;exact{rfl,_,rfl,bN q}
  |some b=>
   rw[e]at st;exact{rfl,_,rfl,aZ (J1 _ _ {_,rfl,a,b,rfl,rfl,a+b,_,_,rfl,rfl,st})}
 rintro σ Hc ⟨a,v3,v4,rfl,rfl,ea⟩;rw[show ts.take xs.length=ts by rw[pt.len];exact M8]at ea;rw[ea]at q;exact K1 _ _ q
end
section
variable{P:Program}{w:Pf}{K:Pa}{mg:Str->Option E9}{base:PH}{A:Adr}{N:Nat->Str}
seal PE PA PS PSs PT PW
theorem vK(T:Txt K mg A)(d j:Nat)(dE:T.dQ.Hz P w base j (spN (jZ A) d)):T.i5.Hz P w base (j+1) (jP A d 11):=by
 refine T.i5.hs (k:=j) hZ (λf cdv A' outer s H vs Q E' hr hu h=>?_);obtain⟨N,X,v,D,t,idx,kn,rfl,s0,pa,dp,ck,hD,ec,q⟩:=h;refine{_,(ab (pst 2 hZ.nd (ak (hj:=by lia) dE hr (aH (fv 0) rfl^fv 1^ae)))
  (ab (pst 3 hZ.nd (ak (hj:=by lia) dE hr (aH (fv 0) rfl^fv 1^ae)))
  (ab (aQ (PW.pt (pw_or (ptc C9 (fv 2) bQ) (pw_or (ptc C9 (fv 3) bQ) (pw_or1 (ptc (oR hu) (aB aL (aH (fv 0) rfl) (fv 2)) (aB aL (aH (fv 0) rfl) (fv 3)))))))
   (aj (aC bQ))
   aF)
  (aj (aC (aB aL (aB aL af (aH (fv 0) rfl)) (fv 2))))))),?_}
 cases t with
 |leaf n r=>cases r<;>cases ec
 |loop _ _ _ _ _ _=>cases ec
 |bj _ _ _ _=>cases ec
 |iff n val l r fs os=>
 unfold ba at pa;obtain⟨a,dx,p,pf,po,xf,xo,rfl,h1,h2,h3,h4,h5,h6⟩:=pa;unfold dep at dp;unfold cOk at ck;unfold exP at q;cases d with
 |zero=>lia
 |succ d=>
 refine ag λM1 K1=>fdI (s0 _ _ h1) T.bY.cl T.fS rfl {N,X,pf,D,xf,fs,idx,kn,rfl,s0,h3,h5,(),ck.1,hD,K1 _ _ ?_};clear K1 M1;try dsimp only
 refine ag λM1 K1=>fdI (s0 _ _ h1) T.bY.cl T.fP rfl {N,X,po,D,xo,os,idx,kn,rfl,s0,h4,h6,(),ck.2,hD,?_};generalize cE kn fs=ef at q;generalize cE kn os=eo at q;refine K1 _ _ ?_;clear K1 M1;try dsimp only
 refine ag λM1 K1=>?_;cases ef with
 |none=>exact{rfl,_,rfl,bN q}
 |some b=>
 refine{rfl,_,rfl,aZ ?_};cases eo with
 |none=>exact{rfl,_,rfl,bN q}
 |some c=>
 refine{rfl,_,rfl,aZ (fdI (s0 _ _ h1) T.bY.cl T.gE rfl (fdI (s0 _ _ h1) T.bY.cl T.jI rfl {rfl,_,rfl,?_}))};by_cases e:l+b=r+c
 ·refine a9 (λz=>absurd z (by show ¬ (!decide (V.int (l+b)=V.int (r+c)))=true;rw[Gk,decide_eq_true e];decide)) (λ_=>K1 _ _ ?_);have q:Q (oI (if l+b=r+c then Vn (1+l+b)else Vo)) H:=q;rw[if_pos e]at q;exact fdI (s0 _ _ h1) T.bY.cl T.gE rfl q
 refine a9 (λ_=>?_) (λz=>absurd (by show(!decide (V.int (l+b)=V.int (r+c)))=true;rw[Gk,decide_eq_false e];rfl) z);have q:Q (oI (if l+b=r+c then Vn (1+l+b)else Vo)) H:=q;rw[if_neg e]at q;exact q
theorem vI(T:Txt K mg A)(d j:Nat)(dE:T.dQ.Hz P w base j (spN (jZ A) d)):T.fQ.Hz P w base (j+1) (jP A d 12):=by
 refine T.fQ.hs (k:=j) jR (λf cdv A' outer s H vs Q E' hr hu h=>?_);obtain⟨N,X,v,D,t,idx,kn,rfl,s0,pa,dp,ck,hD,ec,q⟩:=h;refine{_,(ab (pst 2 jR.nd (ak (hj:=by lia) dE hr (aH (fv 0) rfl^fv 1^ae)))
  (ab (aQ (PW.pt (pw_or (ptc C9 (fv 2) bQ) (pw_or1 (ptc (oR hu) (aB aL (aH (fv 0) rfl) (fv 2)) (aH (fv 0) rfl)))))
   (aj (aC bQ))
   aF)
  (aj (aC (aB aL af (aB dH (aH (fv 0) rfl) (aH (fv 0) rfl))))))),?_}
 cases t with
 |leaf n r=>cases r<;>cases ec
 |iff _ _ _ _ _ _=>cases ec
 |bj _ _ _ _=>cases ec
 |loop n th m l r b=>
 unfold ba at pa;obtain⟨a,dx,pb,xb,rfl,h1,h2,h3⟩:=pa;unfold dep at dp;unfold cOk at ck;unfold exP at q;cases d with
 |zero=>lia
 |succ d=>
 refine ag λM1 K1=>fdI (s0 _ _ h1) T.bA.cl T.fe rfl {N,X,pb,D,xb,b,idx,kn,rfl,s0,h2,h3,(),ck.2.2,hD,?_};generalize cE kn b=ef at q;refine K1 _ _ ?_;clear K1 M1;try dsimp only
 refine ag λM1 K1=>?_;cases ef with
 |none=>exact{rfl,_,rfl,bN q}
 |some b=>
 refine{rfl,_,rfl,aZ (fdI (s0 _ _ h1) T.bA.cl T.gX rfl (fdI (s0 _ _ h1) T.bA.cl T.ez rfl {rfl,_,rfl,?_}))};have q:Q (oI (if l+b=r then Vn (1+m*r)else Vo)) H:=q;by_cases e:l+b=r
 ·refine a9 (λz=>absurd z (by show ¬ (!decide (V.int (l+b)=V.int r))=true;rw[Gk,decide_eq_true e];decide)) (λ_=>K1 _ _ ?_);rw[if_pos e]at q;exact fdI (s0 _ _ h1) T.bA.cl T.iy rfl (fdI (s0 _ _ h1) T.bA.cl T.ez rfl {BH () (),q})
 refine a9 (λ_=>?_) (λz=>absurd (by show(!decide (V.int (l+b)=V.int r))=true;rw[Gk,decide_eq_false e];rfl) z);rw[if_neg e]at q;exact q
theorem yZ(T:Txt K mg A)(d j:Nat)(gB:T.i5.Hz P w base (j+1) (jP A d 11))(eA:T.fQ.Hz P w base (j+1) (jP A d 12)):T.eV.Hz P w base (j+2) (mT A d):=by
 refine T.eV.hs (k:=j+1) qF (λf cdv A' outer s H vs Q E' hr hu h=>?_);obtain⟨N,X,v,D,t,idx,kn,rfl,s0,pa,dp,ck,hD,q⟩:=h;refine{_,(ab (aQ (bw (pcB aT T.aE (fv 0^bD T.cD.mg^ae)) (λ_=>rfl))
   (aj (aC (ak (hj:=by lia) (Hu T) hr (px hu (fv 1) (aH (fv 0) rfl)^ae))))
   aF)
  (ab (aQ (bw (pcB aT T.aE (fv 0^bD T.bY.mg^ae)) (λ_=>rfl))
   (aj (aC (ak (hj:=by lia) gB hr (fv 0^fv 1^ae))))
   aF)
  (ab (aQ (bw (pcB aT T.aE (fv 0^bD T.bA.mg^ae)) (λ_=>rfl))
   (aj (aC (ak (hj:=by lia) eA hr (fv 0^fv 1^ae))))
   aF)
  (aj (aC af))))),?_}
 by_cases c9:t.ci=9
 ·refine ag λM1 K1=>ke T s0 pa c9 (bN ?_);cases t with
  |leaf n r=>
   cases r with
   |call i ts=>
    unfold ba at pa;obtain⟨a,dx,p,rfl,h1,_⟩:=pa;unfold cOk at ck;unfold exP at q;obtain⟨kvs,e1,e2⟩:=hD;exact fdI (s0 _ _ h1) T.cD.cl T.dJ rfl (dgk e1 (e2 i ck) ⟨kn i,rfl,q⟩)
   |_=>cases c9
  |_=>cases c9
 refine ag λM1 K1=>gv T s0 pa c9 (aZ (K1 _ _ ?_));clear K1 M1;by_cases c11:t.ci=11
 ·exact ag λM1 K1=>ke T s0 pa c11 (bN ⟨N,X,v,D,t,idx,kn,rfl,s0,pa,dp,ck,hD,c11,q⟩)
 refine ag λM1 K1=>gv T s0 pa c11 (aZ (K1 _ _ ?_));clear K1 M1;by_cases c12:t.ci=12
 ·exact ag λM1 K1=>ke T s0 pa c12 (bN ⟨N,X,v,D,t,idx,kn,rfl,s0,pa,dp,ck,hD,c12,q⟩)
 refine ag λM1 K1=>gv T s0 pa c12 (aZ (?_));have e:exP kn t=Vn 1:=by
  cases t with
  |leaf n r=>
   cases r with
   |call i ts=>exact absurd rfl c9
   |_=>simp[exP]
  |iff _ _ _ _ _ _=>exact absurd rfl c11
  |loop _ _ _ _ _ _=>exact absurd rfl c12
  |bj _ _ _ _=>rw[exP]
 rw[e]at q;exact K1 _ _ q
theorem q5(T:Txt K mg A):∀d,T.dQ.Hz P w base (3*d+4) (jZ A d)
 |0=>xm T 0 3 (yZ T 0 1 (vK T 0 1 (T.dQ.hs (k:=0) cV (λ_ _ _ _ _ _ _ _ _ _ _ h=>h.elim) (λ_ _ _ _ h=>h.elim))) (vI T 0 1 (T.dQ.hs (k:=0) cV (λ_ _ _ _ _ _ _ _ _ _ _ h=>h.elim) (λ_ _ _ _ h=>h.elim))))
 |d+1=>xm T (d+1) (3*d+6) (yZ T (d+1) (3*d+4) (vK T (d+1) (3*d+4) (q5 T d)) (vI T (d+1) (3*d+4) (q5 T d)))
theorem GW(T:Txt K mg A):∀d,T.dQ.Hz P w base (3*d+4) (spN (jZ A) d)
 |0=>T.dQ.hs (k:=3) cV (λ_ _ _ _ _ _ _ _ _ _ _ h=>h.elim) (λ_ _ _ _ h=>h.elim)
 |d+1=>(q5 T d).mono ()
theorem E4(T:Txt K mg A)(d:Nat):T.eV.Hz P w base (3*d+6) (mT A d):=
 yZ T d (3*d+4) (vK T d (3*d+4) (GW T d)) (vI T d (3*d+4) (GW T d))
inductive DE(A:Adr)(d:Nat)(vs:List V)(H:Hp)(Q:VK)(Z:XK):Prop
 |mk(N:Nat->Str)(X:Hp)(v:V)(D:O4)(t:Pt)(idx:List Nat)(kn:Nat->Option Int):vs=[v,.ref D]->ai X H->ba A N X v t->dep t<=d->cOk idx t->(kR N H D idx λi=>oI (kn i))->Q (.bl (exP kn t).isSome) H->DE A d vs H Q Z
theorem KN(T:Txt K mg A)(d:Nat):T.balanced.Hz P w base (3*d+7) (DE A d):=by
 refine T.balanced.hs (k:=3*d+6) w9 (λf cdv A' outer s H vs Q E' hr hu h=>?_);obtain⟨N,X,v,D,t,idx,kn,rfl,s0,pa,dp,ck,hD,q⟩:=h;refine{_,(aj (aC (pec fL (ak (hj:=by lia) (E4 T d) hr (fv 0^fv 1^ae)) bQ))),{N,X,v,D,t,idx,kn,rfl,s0,pa,dp,ck,hD,rfl,?_}};cases e:exP kn t with
 |none=>rw[e]at q;exact q
 |some n=>rw[e]at q;exact q
noncomputable def dIx:Pt->Nat
 | .bj _ i _ _=>i
 |_=>0
noncomputable def knF{α:Type}(g:(Nat->α)->List Pt->α)(kn:Nat->α)(p:Pt):Nat->α:=λj=>if j=dIx p then g kn (nv p)else kn j
noncomputable def knA{α:Type}(g:(Nat->α)->List Pt->α)(z:α)(ds:List Pt):Nat->α:=ds.foldl (knF g) λ_=>z
structure IC(N:Nat->Str)(d:Nat)(ds:List Pt):Prop where
 bj:∀p∈ds,DK p
 dp:∀p∈ds,ni (nv p)<=d
 ck:∀(i:Nat)(p:Pt),ds[i]?=Vn p->rD ((ds.take i).map dIx) (nv p)
 nm:∀(i j:Nat)(p q:Pt),ds[i]?=Vn p->ds[j]?=Vn q->N (dIx p)=N (dIx q)->i=j
 ln:ds.length<=900
theorem Fl{α:Type}(g:(Nat->α)->List Pt->α)(z:α)(vl:α->V){ds:List Pt}{d i:Nat}{p:Pt}(O:IC N d ds)(hp:ds[i]?=Vn p){kvs:List (Key×V)}(h:∀k∈(ds.take i).map dIx,L2.cb kvs (.inr (N k))=Vn (vl (knA g z (ds.take i) k))) :
  ∀k∈(ds.take (i+1)).map dIx,L2.cb (Vv kvs (.inr (N (dIx p))) (vl (g (knA g z (ds.take i)) (nv p)))) (.inr (N k))=Vn (vl (knA g z (ds.take (i+1)) k)):=by
 intro k hk
 have st:knA g z (ds.take (i+1))=knF g (knA g z (ds.take i)) p:=mW (knF g) (λ_=>z) hp
 rw[yr,st]
 rw[Nf,hp,M6]at hk
 show(if(MY (N k):Key)=MY (N (dIx p))then _ else _)=Vn (vl (if k=dIx p then _ else _))
 by_cases e:k=dIx p
 ·rw[if_pos (by rw[e]),if_pos e]
 have m:k∈(ds.take i).map dIx:=by
  rcases Mu.mp hk with m|m
  ·exact m
  exact absurd (Mp.mp m) e
 rw[if_neg e,if_neg,h k m]
 intro z
 obtain⟨q,mq,rfl⟩:=MH.mp m
 obtain⟨j,hj⟩:=MS mq
 have jl:j<i:=by
  have:=(MC.mp hj).1;rw[MT]at this;lia
 rw[Nm jl]at hj
 have:=O.nm j i q p hj hp (MY.inj z)
 lia
inductive vc(A:Adr)(d:Nat)(vs:List V)(H:Hp)(Q:VK)(Z:XK):Prop
 |mk(N:Nat->Str)(X:Hp)(v:V)(hs ds ms:List Pt)(z0:vs=[v])(z1:ai X H)(z2:wX A N X v hs ds ms)(z3:IC N d ds)
  (z4:∀(D:O4)(H':Hp),ai H H'->H D=Vo->kR N H' D (ds.map dIx) (λi=>oI (knA cE Vo ds i))->Q (.ref D) H'):vc A d vs H Q Z
theorem EJ(T:Txt K mg A)(d:Nat):T.yM.Hz P w base (3*d+5) (vc A d):=by
 refine T.yM.hs (k:=3*d+4) pL (λf cdv A' outer s H vs Q E' hr hu h=>?_);obtain⟨N,X,v,hs,ds,ms,rfl,s0,⟨a,dx,n0,n1,n2,x0,x1,x2,rfl,ha,e0,e1,e2,p0,p1,p2⟩,O,q⟩:=h;refine{_,(ab (pst 1 pL.nd (xH))
  (ab (cf Pk rfl (b9 (aH (fv 0) rfl)) (pgn (i:=2) pL.nd rfl)
   (aj (bW (ak (hj:=by lia) (q5 T d) hr (aH (fv 2) rfl^fv 1^ae)) (ik (fv 1) (aH (fv 2) rfl) (iR hu Vs)))))
  (aj (aC (fv 1))))),?_}
 refine ag λM1 K1 D hD=>?_;obtain⟨s1,eD⟩:=alc hD (HO.dK []);generalize upd H D _=H1 at s1 eD⊢;refine K1 _ _ ?_;clear K1 M1;try dsimp only
 refine ag λM1 K1=>fdI ((s0.trans s1) _ _ ha) T.df.cl T.cB rfl (MG {{_,SqL.of ((s0.trans s1) _ _ e1)},cn (K:=K) (xs:=x1) (λi σ Hc=>∃(v2:Option V)(kvs:List (Key×V)),σ=[Vn (.ref a),Vn (.ref D),v2]/\ai H Hc/\Hc D=Vn (.dK kvs)/\kvs.length<=i/\∀k∈(ds.take i).map dIx,L2.cb kvs (.inr (N k))=Vn (oI (knA cE Vo (ds.take i) k))) {Vo,[],rfl,s1,eD,Ms _,by simp} (λi σ Hc _ ⟨_,_,_,z,_⟩=>SqL.of ((s0.trans z) _ _ e1)) ?_ ?_})
 ·rintro i v σ Hc hv ⟨v2,kvs,rfl,sc,eDc,kl,hk⟩;obtain⟨t,ht,pa⟩:=p1.get hv;have mt:t∈ds:=ML ht;have il:i<ds.length:=(MC.mp ht).1;have dt:=O.bj t mt;have st:=Fl cE Vo oI O ht hk;have ln:=O.ln;cases t with
  |bj n i' ps b=>
   have pa':=pa;unfold ba at pa';obtain⟨a',dx',pp,pb,xb,rfl,h1,h2,h3,h4⟩:=pa';have sX:=s0.trans sc;refine fdI (sX _ _ h1) T.b7.cl T.eY rfl {N,X,pb,D,xb,b,(ds.take i).map dIx,knA cE Vo (ds.take i),rfl,sX,h3,h4,O.dp _ mt,O.ck i _ ht,⟨kvs,eDc,hk⟩,fdI (sX _ _ h1) T.b7.cl T.cS rfl {_,oX.k (k:=.inr (N i')) eDc (aG ()),{_,_,rfl,ai.out sc hD _,ao,?_,st}}};have:(Vv kvs (.inr (N i')) (oI (cE (knA cE Vo (ds.take i)) b))).length<=kvs.length+1:=wZ _ _ _;lia
  |_=>exact dt.elim
 rintro σ Hc ⟨v2,kvs,rfl,sc,eDc,kl,hk⟩;rw[show ds.take x1.length=ds by rw[p1.len];exact M8]at hk;exact K1 _ _ (q D Hc sc hD ⟨kvs,eDc,hk⟩)
theorem EZ{kvs:List (Key×V)}{k:Key}(h:k∉kvs.map (·.1)):L2.cb kvs k=Vo:=by
 unfold L2.cb;rw[List.find?_eq_none.mpr λkv m=>by
  rw[decide_eq_true_iff];exact λe=>h (e▸Nw m)]
 rfl
theorem o8:∀(kvs acc:List (Key×V)),((acc++kvs).map (·.1)).Nodup->bu acc kvs=acc++kvs
 | [],acc,_=>by rw[MP];rfl
 | (k,v)::kvs,acc,h=>by
  have nk:k∉acc.map (·.1):=λm=>by
   rw[M6,MJ]at h;exact(NK.mp h).2.2 k m k MA rfl
  show bu (Vv acc k v) kvs=_;rw[xr v (EZ nk),o8 kvs (acc++[(k,v)]) (by simpa using h)];simp
noncomputable def poM(N:Nat->Str)(ds:List Pt)(x:Str):List Str:=match ds.find? (λp=>decide (dNm N p=x))with
 |some p=>dPs N p
 |none=>[]
noncomputable def zA(t:Pt):Bool:=decide (t.ci=7)||decide (t.ci=8)
noncomputable def xt(t:Pt):Bool:=decide (t.ci=11)||decide (t.ci=12)
noncomputable def uc(kn:Nat->Option Int)(t:Pt):List Lk:=if zA t=true then[{"the clock",aX t.no,"steps",t.no}]else if xt t=true/\(exP kn t).isSome=false then[{aX t.no,"the clock","steps",t.no}]else[]
theorem CJ(kn:Nat->Option Int)(t:Pt):(uc kn t).length<=1:=by
 unfold uc;split
 ·exact Ms _
 split<;>simp
noncomputable def ud(b:Bool)(kn:Nat->Option Int)(t:Pt):List Lk:=if b=true then uc kn t else[]
noncomputable def um(N:Nat->Str)(b:Bool)(ds:List Pt)(e:Le):List Lk:=wN N (poM N ds) e.1 e.2.1 e.2.2++ud b (knA cE Vo ds) e.1
noncomputable def dq(N:Nat->Str)(b:Bool)(ds ms:List Pt):List Lk:=(bX N ds ms).flatMap (um N b ds)
structure OkL(N:Nat->Str)(d:Nat)(hs ds ms:List Pt):Prop where
 ok:Ok N d hs ds ms
 dk:IC N d ds
 nn:(ds.map (dNm N)).Nodup
 pn:∀p∈ds,(dPs N p).length<=100
 k5:∀e∈bX N ds ms,k5 e.1=true
 lo:∀e∈bX N ds ms,lOk e.1 e.2.2
 cal:∀e∈bX N ds ms,Cs N (poM N ds) (ds.map (dNm N)) e.1
 ll:∀b,(dq N b ds ms).length<=900
 ck:∀e∈bX N ds ms,cOk (ds.map dIx) e.1/\dep e.1<=d
def PoE(N:Nat->Str)(X:Hp)(p:Pt)(y:V)(H:Hp):Prop:=∃t pp,y=V.ref t/\H t=Vn (.tup [.str (dNm N p),.ref pp])/\X pp=Vn (.lst (sS (dPs N p)))
theorem CZ{X H:Hp}:∀{ds:List Pt}{ys:List V},Paired (λp y=>PoE N X p y H) ds ys->∃(ps:List O4)(kvs:List (Key×V)),ys=ps.map V.ref/\ps.length=kvs.length/\kvs.map (·.1)=ds.map (λp=>MY (dNm N p))/\(∀(i:Nat) t k v,ps[i]?=Vn t->kvs[i]?=Vn (k,v)->H t=Vn (.tup [kV k,v]))/\∀p∈ds,∃pp,(MY (dNm N p),V.ref pp)∈kvs/\X pp=Vn (.lst (sS (dPs N p)))
 |_,_,.nil=>{[],[],rfl,rfl,rfl,(λi t k v h=>by simp at h),(λp m=>by cases m)}
 |_,_,.cons (b:=y) (a:=p) h r=>by
  obtain⟨t,pp,rfl,h1,h2⟩:=h;obtain⟨ps,kvs,e1,e2,e3,e4,e5⟩:=CZ r;refine{t::ps,(MY (dNm N p),V.ref pp)::kvs,by rw[e1];rfl,by simp[e2],by rw[MJ,MJ,e3],λi t' k v ht hk=>?_,λq hq=>?_}
  ·cases i with
   |zero=>cases ht;cases hk;exact h1
   |succ i=>exact e4 i t' k v ht hk
  rcases Mw.mp hq with rfl|hq
  ·exact⟨pp,MA,h2⟩
  obtain⟨pp',m,z⟩:=e5 q hq;exact{pp',Mz _ m,z}
theorem AN{kvs:List (Key×V)}{k:Key}{v:V}(nd:(kvs.map (·.1)).Nodup)(m:(k,v)∈kvs):L2.cb kvs k=Vn v:=by
 obtain⟨i,hi⟩:=MS m;exact vQ nd hi
theorem As{ds:List Pt}(nn:(ds.map (dNm N)).Nodup){p:Pt}(m:p∈ds):poM N ds (dNm N p)=dPs N p:=by
 have:ds.find? (λq=>decide (dNm N q=dNm N p))=Vn p:=by
  induction ds with
  |nil=>cases m
  |cons q r ih=>
   rw[MJ,Ni]at nn;rw[Nq];by_cases e:dNm N q=dNm N p
   ·rw[decide_eq_true e];rcases Mw.mp m with z|z
    ·rw[z]
    exact absurd (e▸Nw z) nn.1
   rw[decide_eq_false e];rcases Mw.mp m with z|z
   ·exact absurd (by rw[z]) e
   exact ih nn.2 z
 unfold poM;rw[this]
inductive AL(A:Adr)(d:Nat)(vs:List V)(H:Hp)(Q:VK)(Z:XK):Prop
 |mk(N:Nat->Str)(X:Hp)(v:V)(D:O4)(t:Pt)(idx:List Nat)(kn:Nat->Option Int)(z0:vs=[v,.ref D])(z1:ai X H)(z2:ba A N X v t)(z3:0<=t.no/\t.no<=1000)(z4:dep t<=d)(z5:cOk idx t)(z6:kR N H D idx λi=>oI (kn i))
  (z7:∀(R:O4)(ys:List V)(H':Hp),ai H H'->H R=Vo->H' R=Vn (.lst ys)->Lks H' (uc kn t) ys->Q (.ref R) H'):AL A d vs H Q Z
theorem HH(T:Txt K mg A)(d:Nat):T.nI.Hz P w base (3*d+8) (AL A d):=by
 refine T.nI.hs (k:=3*d+7) ny (λf cdv A' outer s H vs Q E' hr hu h=>?_);obtain⟨N,X,v,D,t,idx,kn,rfl,s0,pa,nt,dp,ck,hD,q⟩:=h;refine{_,(ab (pst 2 ny.nd (ak (hj:=by lia) (o9 T) hr (aH (fv 0) rfl^ae)))
  (ab (aQ (PW.pt (pw_or (bw (pcB aT T.aE (fv 0^bD T.dg.mg^ae)) (λ_=>rfl)) (pw_or1 (bw (pcB aT T.aE (fv 0^bD T.b8.mg^ae)) (λ_=>rfl)))))
   (aj (aC (aN (aS (vJ T.qV^fv 2^au^aH (fv 0) rfl^ae)^ae))))
   aF)
  (ab (aQ (PW.pt (pw_and (PW.pt (pw_or (bw (pcB aT T.aE (fv 0^bD T.bY.mg^ae)) (λ_=>rfl)) (pw_or1 (bw (pcB aT T.aE (fv 0^bD T.bA.mg^ae)) (λ_=>rfl))))) (pw_and1 (qf (bw (ak (hj:=by lia) (KN T d) hr (fv 0^fv 1^ae)) (λ_=>rfl))))))
   (aj (aC (aN (aS (fv 2^vJ T.qV^au^aH (fv 0) rfl^ae)^ae))))
   aF)
  (aj (aC (aN ae)))))),?_}
 refine ag λM1 K1=>eG T s0 pa {_,rfl,nt.1,nt.2,K1 _ _ ?_};clear K1 M1;try dsimp only
 refine ag λM1 K1=>?_;have sd:zA t=true->4<=sizeLine/\∀p,H p=Vo->1<=sizeLine/\∀l,upd H p (.tup [V.str "the clock",V.str (aX t.no),V.str "steps",V.int t.no]) l=Vo->Q (.ref l) (upd (upd H p (.tup [V.str "the clock",V.str (aX t.no),V.str "steps",V.int t.no])) l (.lst [V.ref p])):=λz=>by
  refine{∅,λp hp=>{∅,λl hl=>?_}};have s1:=ai.upd hp (HO.tup [V.str "the clock",V.str (aX t.no),V.str "steps",V.int t.no]);have s2:=ai.upd hl (HO.lst [V.ref p]);refine q l [V.ref p] _ (s1.trans s2) (ai.free s1 hl) ao ?_;unfold uc;rw[if_pos z];exact .cons {p,rfl,s2 _ _ ao} .nil
 have no:zA t=false->M1 [Vn v,Vn (.ref D),Vn (.str (aX t.no))] H:=λz=>K1 _ _ (by
  clear K1 M1 sd;try dsimp only
  refine ag λM1 K1=>?_;have un:xt t=true->(exP kn t).isSome=false->4<=sizeLine/\∀p,H p=Vo->1<=sizeLine/\∀l,upd H p (.tup [V.str (aX t.no),V.str "the clock",V.str "steps",V.int t.no]) l=Vo->Q (.ref l) (upd (upd H p (.tup [V.str (aX t.no),V.str "the clock",V.str "steps",V.int t.no])) l (.lst [V.ref p])):=λy ex=>by
   refine{∅,λp hp=>{∅,λl hl=>?_}};have s1:=ai.upd hp (HO.tup [V.str (aX t.no),V.str "the clock",V.str "steps",V.int t.no]);have s2:=ai.upd hl (HO.lst [V.ref p]);refine q l [V.ref p] _ (s1.trans s2) (ai.free s1 hl) ao ?_;unfold uc;rw[z,if_neg My,if_pos ⟨y,ex⟩];exact .cons {p,rfl,s2 _ _ ao} .nil
  have nil:¬ (xt t=true/\(exP kn t).isSome=false)->M1 [Vn v,Vn (.ref D),Vn (.str (aX t.no))] H:=λy=>K1 _ _ (by
   refine{MF _,λR hR=>q R [] _ (ai.upd hR _) hR ao ?_};unfold uc;rw[z,if_neg My,if_neg y];exact .nil)
  have bal:∀b,b=(exP kn t).isSome->xt t=true->(b=true->M1 [Vn v,Vn (.ref D),Vn (.str (aX t.no))] H)/\(b=false->4<=sizeLine/\∀p,H p=Vo->1<=sizeLine/\∀l,upd H p (.tup [V.str (aX t.no),V.str "the clock",V.str "steps",V.int t.no]) l=Vo->Q (.ref l) (upd (upd H p (.tup [V.str (aX t.no),V.str "the clock",V.str "steps",V.int t.no])) l (.lst [V.ref p]))):=λb eb y=>{λz=>nil λw=>(by rw[<-eb,z]at w;cases w.2),λz=>un y (by rw[<-eb,z])};clear K1;by_cases c11:t.ci=11
  ·have b:=bal _ rfl (by unfold xt;rw[decide_eq_true c11];rfl);refine ke T s0 pa c11 (bN {N,X,v,D,t,idx,kn,rfl,s0,pa,dp,ck,hD,_,rfl,?_});cases e:(exP kn t).isSome with
   |true=>exact aZ (b.1 e)
   |false=>exact bN (eG T s0 pa (b.2 e))
  by_cases c12:t.ci=12
  ·have b:=bal _ rfl (by unfold xt;rw[decide_eq_true c12,decide_eq_false c11];rfl);refine gv T s0 pa c11 (aZ (ke T s0 pa c12 (bN {N,X,v,D,t,idx,kn,rfl,s0,pa,dp,ck,hD,_,rfl,?_})));cases e:(exP kn t).isSome with
   |true=>exact aZ (b.1 e)
   |false=>exact bN (eG T s0 pa (b.2 e))
  exact gv T s0 pa c11 (aZ (gv T s0 pa c12 (aZ (nil λw=>by
   have w:=w.1;unfold xt at w;rw[decide_eq_false c11,decide_eq_false c12]at w;cases w)))))
 clear K1;by_cases c7:t.ci=7
 ·exact ke T s0 pa c7 (bN (eG T s0 pa (sd (by unfold zA;rw[decide_eq_true c7];rfl))))
 by_cases c8:t.ci=8
 ·exact gv T s0 pa c7 (aZ (ke T s0 pa c8 (bN (eG T s0 pa (sd (by unfold zA;rw[decide_eq_true c8,decide_eq_false c7];rfl))))))
 exact gv T s0 pa c7 (aZ (gv T s0 pa c8 (aZ (no (by unfold zA;rw[decide_eq_false c7,decide_eq_false c8];rfl)))))
inductive ye(A:Adr)(d:Nat)(vs:List V)(H:Hp)(Q:VK)(Z:XK):Prop
 |mk(N:Nat->Str)(X:Hp)(v:V)(b:Bool)(hs ds ms:List Pt)(z0:vs=[v,.bl b])(z1:ai X H)(z2:wX A N X v hs ds ms)(z3:OkL N d hs ds ms)
  (z4:∀(R:O4)(ys:List V)(H':Hp),ai H H'->H R=Vo->H' R=Vn (.lst ys)->Lks H' (dq N b ds ms) ys->Q (.ref R) H'):ye A d vs H Q Z
theorem Aw(T:Txt K mg A)(d:Nat):T.links.Hz P w base (3*d+9) (ye A d):=by
 refine T.links.hs (k:=3*d+8) hU (λf cdv A' outer s H vs Q E' hr hu h=>?_);obtain⟨N,X,v,b,hs,ds,ms,rfl,s0,pg,O,q⟩:=h;obtain⟨a,dx,n0,n1,n2,x0,x1,x2,rfl,ha,e0,e1,e2,p0,p1,p2⟩:=id pg;have pn:∀i p,ds[i]?=Vn p->∀v,x1[i]?=Vn v->ba A N X v p:=λi p hp v hv=>by
  obtain⟨t,ht,pa⟩:=p1.get hv;rw[hp]at ht;cases ht;exact pa
 refine{_,(ab (pst 2 hU.nd (pcT wI T.qi ((fO (N:=["deed"]) (own:=1) (fr:=[]) (cA.of (by kernel_rfl!)) rfl (b9 (aH (fv 0) rfl)) (λb=>pgn (i:=0) (show Qe (["deed"]:List QN) by decide+kernel) rfl) (λb=>lH) (λb=>aS (aH (fv 0) rfl^aH (fv 0) rfl^ae)))^ae)))
  (ab (pst 3 hU.nd (ak (hj:=by lia) (EJ T d) hr (fv 0^ae)))
  (ab (pst 4 hU.nd (aN ae))
  (ab (cf Pk rfl (b9 (ak (hj:=by lia) (Bb T d) hr (fv 0^ae))) (dG rfl (aP (pgn (i:=5) hU.nd rfl) (aP (pgn (i:=6) hU.nd rfl) (aP (pgn (i:=7) hU.nd rfl) cF))))
   (ab (aO (fY (fv 4) ((ak (hj:=by lia) (Jk T) hr (fv 5^fv 6^fv 7^fv 2^ae))^ae)))
   (aj (aQ (bw (fv 1) (λ_=>rfl))
    (aj (aO (fY (fv 4) ((ak (hj:=by lia) (HH T d) hr (fv 5^fv 3^ae))^ae))))
    aF))))
  (aj (aC (fv 4))))))),?_}
 have lx:=p1.len;have dln:=O.dk.ln;refine ag λM1 K1=>fdI (s0 _ _ ha) T.df.cl T.cB rfl (MG {{_,SqL.of (s0 _ _ e1)},lO (K:=K) (own:=1) ds (λ_=>true) (PoE N X) (SqL.of (s0 _ _ e1)) lx (aG ()) ?_ ?_ ?_ ?_})
 ·intro b i x p v0 H1 Nn Y hx he hv s1 no yes;obtain⟨u0,rfl⟩:∃u0,v0=[u0]:=by
   match v0,hv with
   | [u],_=>exact⟨u,rfl⟩
  have pa:=pn i p he x hx;have dt:=O.dk.bj p (ML he);cases p with
  |bj n i' ps b'=>
   unfold ba at pa;obtain⟨a',dx',pp,pb,xb,rfl,h1,h2,h3,h4⟩:=pa;have sX:=s0.trans s1;exact fdI (sX _ _ h1) T.b7.cl T.cS rfl (fdI (sX _ _ h1) T.b7.cl T.eg rfl {by show 2<=sizeLine;decide,λtp htp=>yes rfl [Vn (.ref a')] _ _ rfl (ai.upd htp _) {tp,pp,rfl,ao,by rw[h2];simp[sS,dPs,nV,Us]}})
  |_=>exact dt.elim
 ·rintro e y H1 H2 s1 ⟨t,pp,e1,h1,h2⟩;exact{t,pp,e1,s1 _ _ h1,h2}
 ·rintro e y H1 D ys zs hD ⟨t,pp,e1,h1,h2⟩;exact{t,pp,e1,aw (λz=>by rw[z,hD]at h1;cases h1) h1,h2}
 intro L1 H1 ys hL1 s1 eL1 pr;rw[mN]at pr;obtain⟨ps,kvs,rfl,k2,k3,k4,k5'⟩:=CZ pr;have kl:kvs.length=ds.length:=by
  have:=congrArg QF k3;simpa using this
 have knd:(kvs.map (·.1)).Nodup:=by
  rw[k3];have h:=O.nn;unfold Qe at h⊢;rw[N7]at h⊢;exact h.imp λn e=>n (MY.inj e)
 refine{L1,ps,kvs,rfl,SqL.of eL1,k2,(),λi t k v ht hk=>SqT.of (k4 i t k v ht hk),λD hD=>?_};obtain⟨s2,eD⟩:=alc hD (HO.dK (bu [] kvs));generalize upd H1 D _=H2 at s2 eD⊢;rw[o8 kvs [] (by simpa using knd),MX]at eD;have PO:EX X H2 D (poM N ds) (ds.map (dNm N)):=by
  refine{kvs,eD,λx hx=>?_};obtain⟨p,mp,rfl⟩:=MH.mp hx;rw[As O.nn mp];obtain⟨pp,m,z⟩:=k5' p mp;exact⟨O.pn p mp,pp,AN knd m,z⟩
 have t2:=s1.trans s2;refine K1 _ _ ?_;clear K1 M1;try dsimp only
 refine ag λM1 K1=>{N,X,.ref a,hs,ds,ms,rfl,s0.trans t2,pg,O.dk,λD2 H3 s3 hD2 kD2=>K1 _ _ ?_};clear K1 M1;try dsimp only
 refine ag λM1 K1=>{MF _,λF hF=>?_};obtain⟨s4,eF⟩:=alc hF (HO.lst []);generalize upd H3 F _=H4 at s4 eF⊢;have t4:=(t2.trans s3).trans s4;have hF0:H F=Vo:=ai.free (t2.trans s3) hF;have eD4:=s4 _ _ (s3 _ _ eD);have FD:F≠D:=Vt hF (s3 _ _ eD);refine K1 _ _ ?_;clear K1 M1;try dsimp only
 refine ag λM1 K1=>{N,X,.ref a,hs,ds,ms,rfl,s0.trans t4,pg,O.ok,λL zs H5 s5 hL eL ly=>?_};have LF:L≠F:=Vt hL eF;have nb:=O.ok.nb;have ok5:=O.k5;have okc:=O.cal;have okl:=O.lo;have oll:=O.ll b;have ock:=O.ck;unfold dq at oll q;generalize bX N ds ms=es at ly nb ok5 okc okl oll ock q;have lly:=Pd ly;refine MG {{_,SqL.of eL},cn (K:=K) (xs:=zs) (λi σ Hd=>∃(ws:List V)(v5 v6 v7:Option V),σ=[Vn (.ref a),Vn (.bl b),Vn (.ref D),Vn (.ref D2),Vn (.ref F),v5,v6,v7]/\Sm [F] H5 Hd/\Hd F=Vn (.lst ws)/\Lks Hd ((es.take i).flatMap (um N b ds)) ws) {[],Vo,Vo,Vo,rfl,Sm.refl _ _,s5 _ _ eF,.nil} (λi σ Hd _ ⟨_,_,_,_,_,z,_⟩=>SqL.of (z _ _ (λm=>LF (Mp.mp m)) eL)) ?_ ?_}
 ·rintro i y σ Hd hy ⟨ws,v5,v6,v7,rfl,sd,hFd,lw⟩;obtain⟨e,he,tp,v,rfl,etp,pa⟩:=b5 ly hy;have etp':=sd _ _ (λm=>by rw[Mp.mp m,s5 _ _ eF]at etp;cases etp) etp;have sX:ai X Hd:=sd.same ((s0.trans t4).trans s5) (λm hm=>by
   rw[Mp.mp hm];exact ai.free s0 hF0)
  have me:=ML he;have ne:=nb e me;have eDd:Hd D=Vn (.dK kvs):=sd _ _ (λm=>FD (Mp.mp m).symm) (s5 _ _ eD4);have st:=oY (um N b ds) he;have sl:=Fd (um N b ds) he;have llw:=Pd lw;have kDd:kR N Hd D2 (ds.map dIx) λi=>oI (knA cE Vo ds i):=by
   obtain⟨kw,k1,k2⟩:=kD2;exact{kw,sd _ _ (λm=>by rw[Mp.mp m]at k1;rw[k1]at hF;cases hF) ((s4.trans s5) _ _ k1),k2}
  have slB:(um N b ds e).length=(wN N (poM N ds) e.1 e.2.1 e.2.2).length+(ud b (knA cE Vo ds) e.1).length:=Mo;try dsimp only
  refine{tp,_,rfl,SqT.of etp',rfl,_,_,rfl,_,_,rfl,_,_,rfl,rfl,ag λN1 J1=>{MG {rfl,_,SqL.of hFd},N,X,v,e.1,e.2.1,e.2.2,D,poM N ds,ds.map (dNm N),rfl,sX,pa,ok5 e me,ne,okl e me,PO.same (λkvs' h=>by rw[eD]at h;cases h;exact eDd),okc e me,λR2 us He s6 hR2 eR2 l6=>?_}};have lu:=Pd l6;refine{_,_,_,_,rfl,rfl,s6 _ _ hFd,eR2,sz (),J1 _ _ ?_};clear J1 N1;have sd1:=(sd.trans (Sm.new s6)).trans (Sm.at (H:=He) (Mp.mpr rfl) (.lst (ws++us)));have hF1:upd He F (.lst (ws++us)) F=Vn (.lst (ws++us)):=ao;have lw1:=o6 (H:=H) (R2:=R2) s6 hFd lw l6;have kD1:kR N (upd He F (.lst (ws++us))) D2 (ds.map dIx) λi=>oI (knA cE Vo ds i):=by
   obtain⟨kw,k1,k2⟩:=kDd;exact{kw,aw (λz=>by rw[z,hFd]at k1;cases k1) (s6 _ _ k1),k2}
  generalize upd He F (.lst (ws++us))=H6 at sd1 hF1 lw1 kD1⊢;have sX1:ai X H6:=sd1.same ((s0.trans t4).trans s5) (λm hm=>by
   rw[Mp.mp hm];exact ai.free s0 hF0)
  obtain⟨oc1,oc2⟩:=ock e me;cases b with
  |false=>
   refine{_,rfl,aZ {_,_,_,_,rfl,sd1,hF1,?_}};rw[st,show um N false ds e=wN N (poM N ds) e.1 e.2.1 e.2.2 from MP _];exact lw1
  |true=>
   refine{_,rfl,bN {MG {rfl,_,SqL.of hF1},N,X,v,D2,e.1,ds.map dIx,knA cE Vo ds,rfl,sX1,pa,ne,oc2,oc1,kD1,λR3 u3 H7 s7 hR3 eR3 l7=>?_}};have lu3:=Pd l7;have slB':(ud true (knA cE Vo ds) e.1).length=(uc (knA cE Vo ds) e.1).length:=rfl;refine{_,_,_,_,rfl,rfl,s7 _ _ hF1,eR3,sz (by rw[Mo];lia),{_,_,_,_,rfl,(sd1.trans (Sm.new s7)).trans (Sm.at (Mp.mpr rfl) _),ao,?_}};rw[st,show um N true ds e=wN N (poM N ds) e.1 e.2.1 e.2.2++uc (knA cE Vo ds) e.1 from rfl,<-MB];exact o6 (H:=H) (R2:=R3) s7 hF1 lw1 l7
 rintro σ Hd ⟨ws,v5,v6,v7,rfl,sd,hFd,lw⟩;rw[show es.take zs.length=es by rw[<-lly];exact M8]at lw;exact K1 _ _ (q F ws Hd (sd.same (t4.trans s5) (λm hm=>by rw[Mp.mp hm];exact hF0)) hF0 hFd lw)
noncomputable def qr(t:Pt):Bool:=decide (t.ci=2)||decide (t.ci=4)
noncomputable def sOf(N:Nat->Str):Pt->Str×Int
 | .leaf _ (.giv i r _)=>(N i,r)
 | .leaf _ (.lt i r)=>(N i,r)
 |_=>(Pq,0)
noncomputable def EY(N:Nat->Str)(hs:List Pt):List (Str×Int):=(hs.filter qr).map (sOf N)
def SrE(s:Str×Int)(y:V)(H:Hp):Prop:=∃t,y=V.ref t/\H t=Vn (.tup [.str s.1,.int s.2])
theorem I0(T:Txt K mg A){X H:Hp}(s:ai X H){v:V}{t:Pt}(h:ba A N X v t)(e:qr t=true){Q Q2:VK}(q:(∀{R:VK},R (.int (sOf N t).2) H->nP K "rank" v H R)->Q (.str (sOf N t).1) H):nP K "name" v H Q:=by
 cases t with
 |leaf n r=>
  unfold ba at h;obtain⟨a,dx,p,rfl,h1,h2⟩:=h;cases r with
  |giv i _ _=>exact fdI (s _ _ h1) T.cL.cl T.dY rfl (q λr=>fdI (s _ _ h1) T.cL.cl T.gj rfl r)
  |lt i _=>exact fdI (s _ _ h1) T.dX.cl T.fM rfl (q λr=>fdI (s _ _ h1) T.dX.cl T.ja rfl r)
  |_=>cases e
 |_=>cases e
inductive tB(A:Adr)(vs:List V)(H:Hp)(Q:VK)(Z:XK):Prop
 |mk(N:Nat->Str)(X:Hp)(v:V)(hs ds ms:List Pt)(z0:vs=[v])(z1:ai X H)(z2:wX A N X v hs ds ms)(z3:hs.length<=300)
  (z4:∀(R:O4)(ys:List V)(H':Hp),ai H H'->H R=Vo->H' R=Vn (.lst ys)->Paired (λs y=>SrE s y H') (EY N hs) ys->Q (.ref R) H'):tB A vs H Q Z
theorem BO(T:Txt K mg A):T.sources.Hz P w base 1 (tB A):=by
 refine T.sources.hs zJ (λf cdv A' outer s H vs Q E' hr hu h=>?_);obtain⟨N,X,v,hs,ds,ms,rfl,s0,⟨a,dx,n0,n1,n2,x0,x1,x2,rfl,ha,e0,e1,e2,p0,p1,p2⟩,hl,q⟩:=h;refine{_,(aj (aC (fO (N:=["head"]) (own:=1) (fr:=[]) (cA.of (by kernel_rfl!)) rfl (b9 (aH (fv 0) rfl)) (λb=>pgn (i:=0) (show Qe (["head"]:List QN) by decide+kernel) rfl) (λb=>wB (PW.pt (pw_or (bw (pcB aT T.aE (fv 0^bD T.cL.mg^ae)) (λ_=>rfl)) (pw_or1 (bw (pcB aT T.aE (fv 0^bD T.dX.mg^ae)) (λ_=>rfl)))))) (λb=>aS (aH (fv 0) rfl^aH (fv 0) rfl^ae))))),fdI (s0 _ _ ha) T.df.cl T.dZ rfl (MG {{_,SqL.of (s0 _ _ e0)},lO (K:=K) (own:=1) hs qr (λt y H=>SrE (sOf N t) y H) (SqL.of (s0 _ _ e0)) p0.len (aG (by rw[p0.len];lia)) ?_ ?_ ?_ ?_})}
 ·intro b i x t v0 H1 Nn Y hx he hv s1 no yes;obtain⟨u0,rfl⟩:∃u0,v0=[u0]:=by
   match v0,hv with
   | [u],_=>exact⟨u,rfl⟩
  obtain⟨t',ht,pa⟩:=p0.get hx;rw[he]at ht;cases ht;have sX:=s0.trans s1;have go:qr t=true->nP K "name" x H1 λv1 H2=>nP K "rank" x H2 λv2 H3=>2<=sizeLine/\∀p,H3 p=Vo->Y [Vn x] (.ref p) (upd H3 p (.tup [v1,v2])):=λe=>by
   exact I0 T sX pa e (Q2:=Q) λrk=>rk {∅,λtp htp=>yes e [Vn x] _ _ rfl (ai.upd htp _) ⟨tp,rfl,ao⟩}
  by_cases c2:t.ci=2
  ·exact ke T sX pa c2 (bN (bN (go (by unfold qr;rw[decide_eq_true c2];rfl))))
  by_cases c4:t.ci=4
  ·exact gv T sX pa c2 (aZ (ke T sX pa c4 (bN (go (by unfold qr;rw[decide_eq_true c4,Bool.or_true])))))
  exact gv T sX pa c2 (aZ (gv T sX pa c4 (aZ (no (by unfold qr;rw[decide_eq_false c2,decide_eq_false c4];rfl) [Vn x] _ rfl (ai.refl _)))))
 ·rintro e y H1 H2 s1 ⟨t,e1,h1⟩;exact{t,e1,s1 _ _ h1}
 ·rintro e y H1 D ys zs hD ⟨t,e1,h1⟩;exact{t,e1,aw (λz=>by rw[z,hD]at h1;cases h1) h1}
 intro R H1 ys hR s1 e1 pr;exact q R ys H1 s1 hR e1 (nT _ pr)
noncomputable def iM(ls:List Lk)(x:Str):List Lk:=ls.filter λl=>decide (l.fr=x)
structure i9(H:Hp)(W:O4)(kvs:List (Key×V))(pls:List Str)(wa:Str->O4)(ls:List Lk):Prop where
 d:H W=Vn (.dK kvs)
 v:∀x∈pls,L2.cb kvs (.inr x)=Vn (.ref (wa x))
 i:∀x∈pls,∀y∈pls,wa x=wa y->x=y
 l:∀x∈pls,∃ys,H (wa x)=Vn (.lst ys)/\Lks H (iM ls x) ys
theorem i9.same{H H':Hp}{W:O4}{kvs:List (Key×V)}{pls:List Str}{wa:Str->O4}{ls:List Lk}(h:i9 H W kvs pls wa ls)(s:ai H H'):i9 H' W kvs pls wa ls:=
 {s _ _ h.d,h.v,h.i,λx hx=>by
  obtain⟨ys,e,l⟩:=h.l x hx;exact{ys,s _ _ e,l.same λ_ _ z=>s _ _ z}}
theorem i9.push{H:Hp}{W:O4}{kvs:List (Key×V)}{pls:List Str}{wa:Str->O4}{ls:List Lk}(h:i9 H W kvs pls wa ls){l:Lk}{t:O4}(ht:H t=Vn (.tup l.vs))(hl:l.fr∈pls){ys:List V}(e:H (wa l.fr)=Vn (.lst ys))(pr:Lks H (iM ls l.fr) ys) :
  i9 (upd H (wa l.fr) (.lst (ys++[.ref t]))) W kvs pls wa (ls++[l]):=by
 have kp:∀x w,H x=Vn (.tup w)->upd H (wa l.fr) (.lst (ys++[.ref t])) x=Vn (.tup w):=λx w z=>aw (λy=>by rw[y,e]at z;cases z) z
 refine{aw (λz=>by have:=h.d;rw[z,e]at this;cases this) h.d,h.v,h.i,λx hx=>?_}
 by_cases c:x=l.fr
 ·subst c;refine{_,ao,?_};have:iM (ls++[l]) l.fr=iM ls l.fr++[l]:=by
   unfold iM;rw[Nr,Sy (by exact decide_eq_true rfl),Oh]
  rw[this];exact Paired.two (pr.same kp) (.cons {t,rfl,kp _ _ ht} .nil)
 obtain⟨zs,e2,p2⟩:=h.l x hx
 have:iM (ls++[l]) x=iM ls x:=by
  unfold iM;rw[Nr,Sx (by simp;exact λz=>c z.symm),Oh,MP]
 rw[this]
 exact{zs,aw (λz=>c (h.i x hx _ hl z)) e2,p2.same kp}
structure WyP(G:Hp)(pls:List Str)(D:O4)(i:Nat)(ys:List V)(H:Hp)(ls:List O4):Prop where
 n:ls.length=i
 m:ys.length=i
 nd:ls.Nodup
 nD:D∉ls
 e:∀l∈ls,H l=Vn (.lst [])
 f:∀l∈ls,G l=Vo
 t:∀(j:Nat) y x l,ys[j]?=Vn y->pls[j]?=Vn x->ls[j]?=Vn l->∃t,y=V.ref t/\H t=Vn (.tup [.str x,.ref l])
theorem Co{H:Hp}:∀{pls:List Str}{ls:List O4}{ys:List V},ls.length=pls.length->ys.length=pls.length->(∀(j:Nat) y x l,ys[j]?=Vn y->pls[j]?=Vn x->ls[j]?=Vn l->∃t,y=V.ref t/\H t=Vn (.tup [.str x,.ref l]))->
  ∃ps:List O4,ys=ps.map V.ref/\ps.length=pls.length/\∀(i:Nat) t k v,ps[i]?=Vn t->((pls.zip ls).map λxl=>((MY xl.1:Key),V.ref xl.2))[i]?=Vn (k,v)->H t=Vn (.tup [kV k,v])
 | [],ls,ys,h1,h2,h3=>by
  cases ys with
  |nil=>exact{[],rfl,rfl,λi t k v h=>by simp at h}
  |cons y r=>cases h2
 |x::pls,l::ls,y::ys,h1,h2,h3=>by
  obtain⟨t,e,ht⟩:=h3 0 y x l rfl rfl rfl;obtain⟨ps,e1,e2,e3⟩:=Co (pls:=pls) (ls:=ls) (ys:=ys) (by simpa using h1) (by simpa using h2) (λj y' x' l' a b c=>h3 (j+1) y' x' l' a b c);refine{t::ps,by rw[e,e1];rfl,by simp[e2],λi t' k v a b=>?_};cases i with
  |zero=>cases a;cases b;exact ht
  |succ i=>exact e3 i t' k v a b
 |x::pls,[],ys,h1,_,_=>by cases h1
 |x::pls,l::ls,[],_,h2,_=>by cases h2
theorem VF{x y:Str}{l:O4}:∀{pls:List Str}{ls:List O4},ls.Nodup->(x,l)∈pls.zip ls->(y,l)∈pls.zip ls->x=y
 |p::pls,q::ls,nd,h1,h2=>by
  rw[Ni]at nd;rw[List.zip_cons_cons,Mw]at h1 h2;rcases h1 with h1|h1<;>rcases h2 with h2|h2
  ·cases h1;cases h2;rfl
  ·cases h1;exact absurd (NH h2).2 nd.1
  ·cases h2;exact absurd (NH h1).2 nd.1
  exact VF nd.2 h1 h2
 | [],_,_,h1,_=>by simp at h1
 |_::_,[],_,h1,_=>by simp at h1
noncomputable def waO(kvs:List (Key×V))(x:Str):O4:=match L2.cb kvs (.inr x)with
 |some (.ref l)=>l
 |_=>0
inductive zV(A:Adr)(d:Nat)(vs:List V)(H:Hp)(Q:VK)(Z:XK):Prop
 |mk(N:Nat->Str)(X:Hp)(v:V)(b:Bool)(hs ds ms:List Pt)(z0:vs=[v,.bl b])(z1:ai X H)(z2:wX A N X v hs ds ms)(z3:OkL N d hs ds ms)(z5:∀l∈dq N b ds ms,l.fr∈aU N hs ds ms)
  (z4:∀(W:O4)(kvs:List (Key×V))(wa:Str->O4)(H':Hp),ai H H'->i9 H' W kvs (aU N hs ds ms) wa (dq N b ds ms)->Q (.ref W) H'):zV A d vs H Q Z
theorem HY(T:Txt K mg A)(d:Nat):T.wY.Hz P w base (3*d+10) (zV A d):=by
 refine T.wY.hs (k:=3*d+9) oa (λf cdv A' outer s H vs Q E' hr hu h=>?_);obtain⟨N,X,v,b,hs,ds,ms,rfl,s0,pg,O,frp,q⟩:=h;refine{_,(ab (pst 2 oa.nd (pcT wI T.qi ((fO (N:=["place"]) (own:=1) (fr:=[]) (cA.of (by kernel_rfl!)) rfl (b9 (ak (hj:=by lia) (EM T d) hr (fv 0^ae))) (λb=>pgn (i:=0) (show Qe (["place"]:List QN) by decide+kernel) rfl) (λb=>lH) (λb=>aS (fv 0^aN ae^ae)))^ae)))
  (ab (cf Pk rfl (b9 (ak (hj:=by lia) (xZ.has (Aw T d)) hr (fv 0^fv 1^ae))) (pgn (i:=3) oa.nd rfl)
   (aj (aO (bt (px hu (fv 2) (px hu (fv 3) af)) (fv 3^ae)))))
  (aj (aC (fv 2))))),?_}
 have pln:=O.ok.pl;have pnd:=O.ok.nd;refine ag λM1 K1=>{N,X,v,hs,ds,ms,rfl,s0,pg,O.ok,λL1 H1 s1 hL1 eL1=>?_};generalize aU N hs ds ms=pls at eL1 pln pnd frp q;refine MG {{_,SqL.of eL1},Ea (K:=K) (own:=1) (λD i ys H=>∃ls,WyP H1 pls D i ys H ls) (SqL.of eL1) (aG (by rw[Mq];lia)) (λD hD=>{[],rfl,rfl,Ot,by simp,by simp,by simp,λj y x l h=>by simp at h}) ?_ ?_}
 ·rintro b D i x v0 Hc ys Nn Y hx hv hD sc eD ⟨ls,w⟩ no yes;obtain⟨u0,rfl⟩:∃u0,v0=[u0]:=by
   match v0,hv with
   | [u],_=>exact⟨u,rfl⟩
  refine show _/\∀p,Hc p=Vo->_ from{by show 0<=sizeLine;decide,λl hl=>?_};obtain⟨s2,el⟩:=alc hl (HO.lst []);refine{by show 2<=sizeLine;decide,λtp htp=>?_};obtain⟨s3,et⟩:=alc htp (HO.tup [x,.ref l]);refine yes [Vn x] _ _ rfl (s2.trans s3) {ls++[l],?_};have lD:l≠D:=Vt hl eD;have tD:tp≠D:=Vt htp (s2 _ _ eD);have lls:l∉ls:=λm=>by rw[w.e l m]at hl;cases hl
  rw[MM]at hx;have tk:∀z u,Hc z=Vn u->z≠D->upd (upd (upd Hc l (.lst [])) tp (.tup [x,.ref l])) D (.lst (ys++[.ref tp])) z=Vn u:=λz u h n=>aw n (s3 _ _ (s2 _ _ h));refine{by simp[w.n],by simp[w.m],NK.mpr {w.nd,by simp,λa ma b mb e=>by rw[Mp]at mb;exact lls (mb▸e▸ma)},λm=>?_,λa ma=>?_,λa ma=>?_,λj y x' l' hy hx' hl'=>?_}
  ·rcases Mu.mp m with m|m
   ·exact w.nD m
   exact lD (Mp.mp m).symm
  ·rcases Mu.mp ma with m|m
   ·exact tk _ _ (w.e a m) (λz=>w.nD (z▸m))
   rw[Mp.mp m];exact aw lD (s3 _ _ el)
  ·rcases Mu.mp ma with m|m
   ·exact w.f a m
   rw[Mp.mp m];exact ai.free sc hl
  by_cases jl:j<i
  ·rw[MW (by rw[w.m];exact jl)]at hy;rw[MW (by rw[w.n];exact jl)]at hl';obtain⟨t,e,ht⟩:=w.t j y x' l' hy hx' hl';exact{t,e,tk _ _ ht (λz=>by rw[z,eD]at ht;cases ht)}
  have ji:j=i:=by
   have:=(MC.mp hy).1;rw[Mo,w.m,Mr]at this;lia
  subst ji;rw[MU (by rw[w.m];exact Ms _),w.m,Nz]at hy;rw[MU (by rw[w.n];exact Ms _),w.n,Nz]at hl';cases hy;cases hl';rw[hx']at hx;cases hx;exact⟨tp,rfl,aw tD et⟩
 rintro D H2 ys hD s2 eD ⟨ls,w⟩;have wn:=w.n;have wm:=w.m;rw[Mq]at wn wm;obtain⟨ps,rfl,k1,k2⟩:=Co wn wm w.t;generalize hkv:((pls.zip ls).map λxl=>((MY xl.1:Key),V.ref xl.2))=kvs at k2;have kl:kvs.length=pls.length:=by rw[<-hkv,Mq,N0,wn,Nat.min_self]
 have kf:kvs.map (·.1)=pls.map MY:=by
  rw[<-hkv,NJ];show(pls.zip ls).map (λxl=>(MY xl.1:Key))=_;rw[show(λxl:Str×O4=>(MY xl.1:Key))=MY∘Prod.fst from rfl,<-NJ,List.map_fst_zip ()]
 have knd:(kvs.map (·.1)).Nodup:=by
  rw[kf];unfold Qe at pnd⊢;rw[N7];exact pnd.imp λn e=>n (MY.inj e)
 refine{D,ps,kvs,rfl,SqL.of eD,(),(),λi t k v ht hk=>SqT.of (k2 i t k v ht hk),λW hW=>?_};obtain⟨s3,eW⟩:=alc hW (HO.dK (bu [] kvs));generalize upd H2 W _=H3 at s3 eW⊢;rw[o8 kvs [] (by simpa using knd),MX]at eW;have inj:∀x∈pls,∃l∈ls,L2.cb kvs (.inr x)=Vn (.ref l)/\(x,l)∈pls.zip ls:=λx hx=>by
  obtain⟨j,hj,e⟩:=List.getElem_of_mem hx;have hl:j<ls.length:=()
  have m:(x,ls[j])∈pls.zip ls:=List.mem_iff_getElem.mpr {j,by rw[N0];lia,by rw[List.getElem_zip,e]};exact{ls[j],OR hl,AN knd (by rw[<-hkv];exact MH.mpr {(x,ls[j]),m,rfl}),m}
 have wv:∀x∈pls,L2.cb kvs (.inr x)=Vn (.ref (waO kvs x))/\(x,waO kvs x)∈pls.zip ls:=λx hx=>by
  obtain⟨l,ml,e,m⟩:=inj x hx;have:waO kvs x=l:=by unfold waO;rw[e]
  rw[this];exact⟨e,m⟩
 have wl:∀x∈pls,waO kvs x∈ls:=λx hx=>(NH (wv x hx).2).2;have t3:=(s1.trans s2).trans s3;have W0:i9 H3 W kvs pls (waO kvs) []:={eW,λx hx=>(wv x hx).1,λx hx y hy e=>VF w.nd (wv x hx).2 (e▸(wv y hy).2),λx hx=>{[],s3 _ _ (w.e _ (wl x hx)),.nil}};generalize waO kvs=wa at wl W0;have wf:∀m∈pls.map wa,H m=Vo:=λm hm=>by
  obtain⟨x,hx,rfl⟩:=MH.mp hm;exact ai.free s1 (w.f _ (wl x hx))
 refine K1 _ _ ?_;clear K1 M1;try dsimp only
 refine ag λM1 K1=>{N,X,v,b,hs,ds,ms,rfl,s0.trans t3,pg,O,λR zs H4 s4 hR eR lk=>?_};have W4:=W0.same s4;have nR:R∉pls.map wa:=λm=>by
  obtain⟨x,hx,rfl⟩:=MH.mp m;obtain⟨ys,e,_⟩:=W0.l x hx;rw[hR]at e;cases e
 have nt:∀t u,H4 t=Vn (.tup u)->t∉pls.map wa:=λt u e m=>by
  obtain⟨x,hx,rfl⟩:=MH.mp m;obtain⟨ys,e2,_⟩:=W4.l x hx;rw[e]at e2;cases e2
 have ll:=O.ll b;generalize dq N b ds ms=ks at lk frp ll q;have lln:=Pd lk;refine MG {{_,SqL.of eR},cn (K:=K) (xs:=zs) (λi σ Hd=>∃(v3:Option V),σ=[Vn v,Vn (.bl b),Vn (.ref W),v3]/\Sm (pls.map wa) H4 Hd/\i9 Hd W kvs pls wa (ks.take i)) {Vo,rfl,Sm.refl _ _,W4} (λi σ Hd _ ⟨_,_,z,_⟩=>SqL.of (z _ _ nR eR)) ?_ ?_}
 ·rintro i y σ Hd hy ⟨v3,rfl,sd,Wd⟩;obtain⟨l,hl,t,rfl,et⟩:=b5 lk hy;have ml:=ML hl;have et':=sd _ _ (nt _ _ et) et;obtain⟨us,eu,pu⟩:=Wd.l _ (frp l ml);have lu:=Pd pu;have lw:(iM (ks.take i) l.fr).length<=900:=by
   have:=NG (λm:Lk=>decide (m.fr=l.fr)) (ks.take i);rw[MT]at this;unfold iM;lia
  try dsimp only
  refine tix (j:=0) (SqT.of et') rfl (dgk Wd.d (Wd.v _ (frp l ml)) {MG {rfl,_,SqL.of eu},{_,_,_,rfl,rfl,eu,aG (),{_,rfl,sd.trans (Sm.at (Nw (frp l ml)) _),?_}}});rw[Nf,hl];exact Wd.push et' (frp l ml) eu pu
 rintro σ Hd ⟨v3,rfl,sd,Wd⟩;rw[show ks.take zs.length=ks by rw[<-lln];exact M8]at Wd;exact K1 _ _ (q W kvs wa Hd (sd.same (t3.trans s4) wf) Wd)
noncomputable def stA(cs:List Str)(l:Lk):List Str:=if l.to∈cs then cs else cs++[l.to]
noncomputable def fT(ls:List Lk):Nat->Nat->List Str->List Str
 |0,_,cs=>cs
 |n+1,i,cs=>match cs[i]? with
  |none=>cs
  |some x=>fT ls n (i+1) ((iM ls x).foldl stA cs)
theorem FJ(ls:List Lk)(n i:Nat)(cs:List Str)(h:cs.length<=i):fT ls n i cs=cs:=by
 cases n with
 |zero=>rfl
 |succ n=>
  unfold fT;rw[Nj h]
theorem gR:∀{cs pls:List Str},cs.Nodup->(∀x∈cs,x∈pls)->cs.length<=pls.length
 | [],_,_,_=>MF _
 |x::r,pls,nd,h=>by
  rw[Ni]at nd;have m:=h x MA;have:=gR (cs:=r) (pls:=pls.erase x) nd.2 λy hy=>by
   rw[List.mem_erase_of_ne λ(e:y=x)=>nd.1 (e▸hy)];exact h y (Mz _ hy)
  rw[List.length_erase_of_mem m]at this;have:=List.length_pos_of_mem m;rw[Mx];lia
theorem zQ:∀(l:List Lk)(cs:List Str),cs.length<=(l.foldl stA cs).length
 | [],cs=>Ms _
 |k::l,cs=>by
  refine ME ?_ (zQ l (stA cs k));unfold stA;split
  ·exact Ms _
  simp
structure rA(H:Hp)(C Q:O4)(pls cs:List Str)(kvs:List (Key×V)):Prop where
 c:H C=Vn (.dK kvs)
 k:kvs.map (·.1)=cs.map MY
 q:H Q=Vn (.lst (sS cs))
 nd:cs.Nodup
 s:∀x∈cs,x∈pls
theorem rA.has{H:Hp}{C Q:O4}{pls cs:List Str}{kvs:List (Key×V)}(h:rA H C Q pls cs kvs)(x:Str):(L2.cb kvs (.inr x)).isSome=decide (x∈cs):=by
 rw[<-ir,NS,OU,decide_eq_true_iff];constructor
 ·rintro⟨kv,m,e⟩;have:kv.1∈cs.map MY:=h.k▸Nw m;rw[of_decide_eq_true e]at this;obtain⟨y,my,ey⟩:=MH.mp this;exact MY.inj ey▸my
 intro m;have:(MY x:Key)∈kvs.map (·.1):=by rw[h.k];exact Nw m
 obtain⟨kv,mk,e⟩:=MH.mp this;exact⟨kv,mk,decide_eq_true e⟩
theorem rA.len{H:Hp}{C Q:O4}{pls cs:List Str}{kvs:List (Key×V)}(h:rA H C Q pls cs kvs):kvs.length=cs.length/\cs.length<=pls.length:=by
 have:=congrArg QF h.k;simp only[Mq]at this;exact⟨this,gR h.nd h.s⟩
theorem rA.put{H:Hp}{C Q:O4}{pls cs:List Str}{kvs:List (Key×V)}(h:rA H C Q pls cs kvs){x:Str}{v:V}(n:x∉cs)(hp:x∈pls):rA (upd (upd H C (.dK (Vv kvs (.inr x) v))) Q (.lst (sS cs++[.str x]))) C Q pls (cs++[x]) (kvs++[((MY x:Key),v)]):=by
 have CQ:C≠Q:=λe=>by have:=h.c;rw[e,h.q]at this;cases this
 have hv:L2.cb kvs (.inr x)=Vo:=by
  have:=h.has x;rw[decide_eq_false n]at this;exact Option.isSome_eq_false_iff.mp this |> Ol.mp
 refine{?_,by rw[M6,h.k,M6];rfl,?_,?_,λy hy=>?_}
 ·rw[aY CQ,ao,xr v hv]
 ·rw[ao];simp[sS]
 ·exact NK.mpr {h.nd,by simp,λa ma b mb e=>by rw[Mp]at mb;exact n (mb▸e▸ma)}
 rcases Mu.mp hy with m|m
 ·exact h.s y m
 rw[Mp.mp m];exact hp
inductive CU(A:Adr)(vs:List V)(H:Hp)(Q:VK)(Z:XK):Prop
 |mk(W S:O4)(kw:List (Key×V))(pls:List Str)(wa:Str->O4)(ls:List Lk)(st:List Str)(z0:vs=[.ref W,.ref S])(z1:i9 H W kw pls wa ls)(z2:H S=Vn (.lst (sS st)))(z3:st.Nodup)(z4:∀x∈st,x∈pls)(z5:∀l∈ls,l.to∈pls)(z6:pls.length<=900)
  (z7:∀(C:O4)(kvs:List (Key×V))(H':Hp),ai H H'->H C=Vo->H' C=Vn (.dK kvs)->kvs.map (·.1)=(fT ls pls.length 0 st).map MY->Q (.ref C) H'):CU A vs H Q Z
theorem AS{H:Hp}:∀{st:List Str}{ys:List V},Paired (λx y=>∃t,y=V.ref t/\H t=Vn (.tup [.str x,.non])) st ys->∃ps:List O4,ys=ps.map V.ref/\ps.length=st.length/\∀(i:Nat) t k v,ps[i]?=Vn t->(st.map λx=>((MY x:Key),V.non))[i]?=Vn (k,v)->H t=Vn (.tup [kV k,v])
 |_,_,.nil=>{[],rfl,rfl,(λi t k v h=>by simp at h)}
 |_,_,.cons h r=>by
  obtain⟨t,rfl,h1⟩:=h;obtain⟨ps,e1,e2,e3⟩:=AS r;refine{t::ps,by rw[e1];rfl,by simp[e2],λi t' k v ht hk=>?_};cases i with
  |zero=>cases ht;cases hk;exact h1
  |succ i=>exact e3 i t' k v ht hk
inductive A9(pls:List Str)(W:O4)(S:O4)(C:O4)(Qa:O4)(H3:Hp)(ls:List Lk)(st:List Str)(m:Nat)(σ:St)(Hd:Hp):Prop
 |mk(i:Nat)(cs:List Str)(kvs:List (Key×V))(v5 v6:Option V):m=pls.length-i->σ=[Vn (.ref W),Vn (.ref S),Vn (.ref C),Vn (.ref Qa),Vn (.int i),v5,v6]->Sm [C,Qa] H3 Hd->rA Hd C Qa pls cs kvs->i<=cs.length->fT ls (pls.length-i) i cs=fT ls pls.length 0 st->A9 pls W S C Qa H3 ls st m σ Hd
inductive zR(W:O4)(S:O4)(C:O4)(Qa:O4)(i:Nat)(H3:Hp)(pls:List Str)(ls:List Lk)(st:List Str)(σ':St)(H':Hp):Prop
 |mk(cs':List Str)(kvs':List (Key×V))(v5 v6:Option V):σ'=[Vn (.ref W),Vn (.ref S),Vn (.ref C),Vn (.ref Qa),Vn (.int ((i:Int)+1)),v5,v6]->Sm [C,Qa] H3 H'->rA H' C Qa pls cs' kvs'->i+1<=cs'.length->fT ls (pls.length-(i+1)) (i+1) cs'=fT ls pls.length 0 st->zR W S C Qa i H3 pls ls st σ' H'
inductive AB(W:O4)(S:O4)(C:O4)(Qa:O4)(i:Nat)(x:Str)(H3:Hp)(pls:List Str)(ls:List Lk)(cs:List Str)(j:Nat)(σ:St)(He:Hp):Prop
 |mk(cs':List Str)(kvs':List (Key×V))(v6:Option V):σ=[Vn (.ref W),Vn (.ref S),Vn (.ref C),Vn (.ref Qa),Vn (.int (i:Int)),Vn (.str x),v6]->Sm [C,Qa] H3 He->rA He C Qa pls cs' kvs'->cs'=((iM ls x).take j).foldl stA cs->AB W S C Qa i x H3 pls ls cs j σ He
theorem J9(T:Txt K mg A):T.rH.Hz P w base 1 (CU A):=by
 refine T.rH.hs dC (λf cdv A' outer s H vs Q E' hr hu h=>?_);obtain⟨W,S,kw,pls,wa,ls,st,rfl,hW,hS,snd,ssub,tos,pln,q⟩:=h;have stl:=gR snd ssub;refine{_,(ab (pst 2 dC.nd (pcT wI T.qi ((fO (N:=["place"]) (own:=1) (fr:=[]) (cA.of (by kernel_rfl!)) rfl (b9 (fv 1)) (λb=>pgn (i:=0) (show Qe (["place"]:List QN) by decide+kernel) rfl) (λb=>lH) (λb=>aS (fv 0^bQ^ae)))^ae)))
  (ab (pst 3 dC.nd (pcT q4 T.dm (fv 1^ae)))
  (ab (pst 4 dC.nd af)
  (ab (fW Pk (ptc xU (fv 4) (pcB eO T.fX (fv 3^ae)))
   (ab (pst 5 dC.nd (px hu (fv 3) (fv 4)))
   (ab (cf Pk rfl (b9 (px hu (fv 0) (fv 5))) (pgn (i:=6) dC.nd rfl)
    (aj (aQ (ptc (iG hu) (px hu (fv 6) af) (fv 2) ((by with_unfolding_all rfl)))
     (ab (bW (fv 6) (ik (fv 2) (px hu (fv 6) af) (iR hu Vs)))
     (aj (aO (bt (fv 3) (px hu (fv 6) af^ae)))))
     aF)))
   (aj (Dl (i:=4) dC.nd rfl (by first|exact MG rfl|exact NF rfl) af Dm)))))
  (aj (aC (fv 2))))))),?_}
 refine ag λM1 K1=>MG {{_,SqL.of hS},lO (K:=K) (own:=1) st (λ_=>true) (λx y H=>∃t,y=V.ref t/\H t=Vn (.tup [.str x,.non])) (SqL.of hS) (Mq _) (aG (by rw[Mq];lia)) ?_ ?_ ?_ ?_}
 ·intro b i x e v0 H1 Nn Y hx he hv s1 no yes;obtain⟨u0,rfl⟩:∃u0,v0=[u0]:=by
   match v0,hv with
   | [u],_=>exact⟨u,rfl⟩
  rw[MM,he]at hx;cases hx;refine show _/\∀p,H1 p=Vo->_ from{by show 2<=sizeLine;decide,λtp htp=>?_};exact yes rfl [Vn (.str e)] _ _ rfl (ai.upd htp _) ⟨tp,rfl,ao⟩
 ·rintro e y H1 H2 s1 ⟨t,e1,h1⟩;exact{t,e1,s1 _ _ h1}
 ·rintro e y H1 D ys zs hD ⟨t,e1,h1⟩;exact{t,e1,aw (λz=>by rw[z,hD]at h1;cases h1) h1}
 intro L1 H1 ys hL1 s1 eL1 pr;rw[mN]at pr;obtain⟨ps,rfl,k1,k2⟩:=AS pr;generalize hkv:(st.map λx=>((MY x:Key),V.non))=kv0 at k2;have kf:kv0.map (·.1)=st.map MY:=by rw[<-hkv,NJ];rfl
 have kl:kv0.length=st.length:=by rw[<-hkv,Mq]
 have knd:(kv0.map (·.1)).Nodup:=by
  rw[kf];have h:=snd;unfold Qe at h⊢;rw[N7];exact h.imp λn e=>n (MY.inj e)
 refine{L1,ps,kv0,rfl,SqL.of eL1,(),(),λi t k v ht hk=>SqT.of (k2 i t k v ht hk),λC hC=>?_};obtain⟨s2,eC⟩:=alc hC (HO.dK (bu [] kv0));generalize upd H1 C _=H2 at s2 eC⊢;rw[o8 kv0 [] (by simpa using knd),MX]at eC;have t2:=s1.trans s2;have hC0:H C=Vo:=ai.free s1 hC;refine K1 _ _ ?_;clear K1 M1;try dsimp only
 refine ag λM1 K1=>MG {S,_,rfl,MG (SqL.of (t2 _ _ hS)),λQa hQ=>?_};obtain⟨s3,eQ⟩:=alc hQ (HO.lst (sS st));generalize upd H2 Qa _=H3 at s3 eQ⊢;have t3:=t2.trans s3;have hQ0:H Qa=Vo:=ai.free t2 hQ;have nf:∀m∈[C,Qa],H m=Vo:=λm hm=>by
  rcases Mw.mp hm with e|hm
  ·rw[e];exact hC0
  rw[Mp.mp hm];exact hQ0
 have hm:C∈[C,Qa]/\Qa∈[C,Qa]:={MA,Mz _ MA};have cm3:rA H3 C Qa pls st kv0:={s3 _ _ eC,kf,eQ,snd,ssub};refine K1 _ _ ?_;clear K1 M1;try dsimp only
 refine ag λM1 K1=>K1 _ _ ?_;clear K1 M1;try dsimp only
 refine ag λM1 K1=>{A9 pls W S C Qa H3 ls st,{_,0,st,kv0,Vo,Vo,rfl,rfl,Sm.refl _ _,cm3,MF _,rfl},?_};rintro m σ Hd ⟨i,cs,kvs,v5,v6,rfl,rfl,sd,cm,il,ar⟩;have cl:=cm.len;refine lnl cm.q ?_;rw[Mq];refine{_,rfl,a9 (λc=>?_) (λc=>?_)}
 ·have il2:i<cs.length:=by have:=of_decide_eq_true c;lia
  obtain⟨x,hx⟩:∃x,cs[i]?=Vn x:={_,Mv il2};have mx:x∈pls:=cm.s x (ML hx);refine{zR W S C Qa i H3 pls ls st,?_,?_}
  ·rintro σ' H' ⟨cs',kvs',v5,v6,rfl,a1,a2,a3,a4⟩;exact{pls.length-(i+1),(),i+1,cs',kvs',v5,v6,rfl,rfl,a1,a2,a3,a4}
  have ar2:fT ls (pls.length-(i+1)) (i+1) ((iM ls x).foldl stA cs)=fT ls pls.length 0 st:=by
   rw[<-ar,show pls.length-i=pls.length-(i+1)+1 by lia];conv=>rhs;unfold fT
   rw[hx]
  try dsimp only
  refine ag λN1 J1=>lix (SqL.of cm.q) (iZ (by rw[MM,hx];rfl)) (?_);have sH:ai H Hd:=sd.same t3 nf;have hWd:=hW.same sH;obtain⟨us,eu,pu⟩:=hW.l x mx;have lus:=Pd pu;refine J1 _ _ ?_;clear J1 N1;try dsimp only
  refine ag λN1 J1=>dgk hWd.d (hWd.v x mx) (MG {{_,SqL.of (sH _ _ eu)},cn (K:=K) (xs:=us) (AB W S C Qa i x H3 pls ls cs) ⟨cs,kvs,v6,rfl,sd,cm,rfl⟩ (λj σ He _ ⟨_,_,_,_,z,_,_⟩=>SqL.of ((z.same t3 nf) _ _ eu)) ?_ ?_})
  ·rintro j y σ He hy ⟨cs',kvs',v6,rfl,se,ce,rfl⟩;obtain⟨l,hl,t,rfl,et⟩:=b5 pu hy;have ml:l∈ls:=(Nh.mp (ML hl)).1;have sHe:=se.same t3 nf;have et':=SqT.of (K:=K) (sHe _ _ et);have stp:((iM ls x).take (j+1)).foldl stA cs=stA (((iM ls x).take j).foldl stA cs) l:=mW stA cs hl;generalize ((iM ls x).take j).foldl stA cs=cj at ce stp;have cl2:=ce.len;try dsimp only
   refine tix (j:=1) et' rfl (NF {C,_,rfl,nj.k (k:=.inr l.to) ce.c,_,rfl,?_});rw[ce.has];unfold stA at stp;by_cases m:l.to∈cj
   ·rw[if_pos m]at stp;rw[decide_eq_true m];exact aZ {_,_,_,rfl,se,ce,stp.symm}
   rw[if_neg m]at stp;rw[decide_eq_false m];refine bN (ag λO1 I1=>tix (j:=1) et' rfl {_,oX.k (k:=.inr l.to) ce.c (aG ()),I1 _ _ ?_});clear I1 O1;have tC:t≠C:=λz=>by have:=sHe _ _ et;rw[z,ce.c]at this;cases this
   have QC:Qa≠C:=λz=>by have:=ce.q;rw[z,ce.c]at this;cases this
   have eq2:upd He C (.dK (Vv kvs' (.inr l.to) (.ref t))) Qa=Vn (.lst (sS cj)):=aw QC ce.q;have et2:SqT K (upd He C (.dK (Vv kvs' (.inr l.to) (.ref t)))) t l.vs:=SqT.of (aw tC (sHe _ _ et));try dsimp only
   exact{MG {rfl,_,SqL.of eq2},tix (j:=1) et2 rfl {_,_,_,rfl,rfl,eq2,aG (by rw[Mq];lia),{_,_,_,rfl,(se.trans (Sm.at hm.1 _)).trans (Sm.at hm.2 _),ce.put m (tos l ml),stp.symm}}}
  rintro σ He ⟨cs',kvs',v6,rfl,se,ce,ecs⟩;rw[show(iM ls x).take us.length=iM ls x by rw[<-lus];exact M8]at ecs;refine J1 _ _ ?_;have sl:=zQ (iM ls x) cs;rw[<-ecs]at sl ar2;exact{_,rfl,i,1,rfl,rfl,cs',kvs',_,_,rfl,se,ce,(),ar2}
 have ie:i=cs.length:=by
  have:¬ ((i:Int)<(cs.length:Int)):=λz=>c (decide_eq_true z);lia
 rw[FJ ls _ i cs ()]at ar;exact K1 _ _ (q C kvs Hd (sd.same t3 nf) hC0 cm.c (by rw[cm.k,ar]))
theorem Ec{H:Hp}(ns:List Int):gx K H (ns.map V.int) (ns.map Ve)/\Qj (ns.map Ve)=true/\Qr (ns.map Ve)=0:=by
 induction ns with
 |nil=>exact⟨.nil,rfl,rfl⟩
 |cons n r ih=>
  obtain⟨h1,h2,h3⟩:=ih;exact{.cons (.int n) h1,by rw[MJ];simp[Qj,QO,h2],by rw[MJ];simp[Qr,Ro,h3]}
theorem oE{H:Hp}{xs:List Str}(ok:∀x∈xs,P1 x=true):gx K H (sS xs) (xs.map R7)/\Qj (xs.map R7)=true/\Qr (xs.map R7)=0:=by
 induction xs with
 |nil=>exact⟨.nil,rfl,rfl⟩
 |cons n r ih=>
  obtain⟨h1,h2,h3⟩:=ih λx hx=>ok x (Mz _ hx);exact{.cons (.str n) h1,by rw[MJ];simp[Qj,QO,h2,ok n MA],by rw[MJ];simp[Qr,Ro,h3]}
theorem VB{H:Hp}{p q:O4}{xs:List V}{ds:List Sk}(hp:SqL K H p xs)(hq:SqL K H q [])(r:gx K H xs ds/\Qj ds=true/\Qr ds=0){Q:VK}(k:Q (.bl (!xs.isEmpty)) H):fNe K (.ref p) (.ref q) H Q:=by
 obtain⟨h1,h2,h3⟩:=r;refine{.list ds,.list [],.lst hp h1,.lst hq .nil,by simp[P4,QO,Ro,h2,h3],rfl,?_};cases h1 with
 |nil=>exact k
 |cons _ _=>exact k
inductive zY(K:Pa)(vs:List V)(H:Hp)(Q:VK)(Z:XK):Prop
 |mk(a:O4)(ns:List Int)(k:Int):vs=[.ref a,.int k]->SqL K H a (ns.map V.int)->0<=k->k<1000->(∀(c:Int)(H':Hp),ai H H'->Q (.int c) H')->zY K vs H Q Z
theorem DN{ns:List Int}{k:Int}(h0:0<=k)(h1:k<(ns.length:Int)):∃c,atI (ns.map V.int) k=Vn (.int c):=by
 have hk:k.toNat<ns.length:=()
 refine{ns[k.toNat],?_};have e:=iZ (xs:=ns.map V.int) (j:=k.toNat) (v:=.int ns[k.toNat]) (by rw[MM,Mv hk];rfl);rw[show((k.toNat:Nat):Int)=k by lia]at e;exact e
theorem zB(T:Txt K mg A):T.lR.Hz P w base 1 (zY K):=by
 refine T.lR.hs iD (λf cdv A' outer s H vs Q E hr hu h=>?_);obtain⟨a,ns,k,rfl,hS,h0,h1,q⟩:=h;have el:(((ns.map V.int).length:Nat):Int)=(ns.length:Int):=by rw[Mq]
 refine{_,(ab (aQ (ptc xU (fv 1) (pcB eO T.fX (fv 0^ae)))
   (aj (aC (px hu (fv 0) (fv 1))))
   aF)
  (ab (pst 2 iD.nd af)
  (ab (aQ (ptc (oR hu) (fv 0) (aN ae))
   (aj (pst 2 iD.nd (px hu (fv 0) (aB bM (fv 1) (pcB eO T.fX (fv 0^ae))))))
   aF)
  (aj (aC (aB bM (aB dH (aB aL (aB aL (aB bM (fv 2) af) (aB dH af (fv 1))) af) af) af)))))),?_}
 refine ag λM1 K1=>MG {_,_,rfl,MG {_,hS,rfl},_,rfl,a9 (λc=>?_) (λc=>K1 _ _ ?_)}
 ·have c':k<(((ns.map V.int).length:Nat):Int):=of_decide_eq_true c;rw[el]at c';obtain⟨x,hx⟩:=DN h0 c';exact lix hS hx (q x H (ai.refl _))
 clear K1 M1;try dsimp only
 refine ag λM1 K1=>K1 _ _ ?_;clear K1 M1;try dsimp only
 refine ag λM1 K1=>?_;have fin:∀(c:Int)(H':Hp),ai H H'->M1 [Vn (.ref a),Vn (.int k),Vn (.int c)] H':=λc H' s'=>K1 _ _ {by show(0:Int)<1000003;decide,.inl {∅,()},.inr {∅,∅},by show(0:Int)<2147483647;decide,q _ H' s'};refine{MF _,λR hR=>?_};obtain⟨s1,e1⟩:=alc hR (HO.lst []);generalize upd H R _=H1 at s1 e1⊢;refine VB (s1.seq hS) (SqL.of e1) (Ec ns) {_,rfl,?_};cases ns with
 |nil=>exact aZ (fin 0 H1 s1)
 |cons n r=>
  refine bN ?_;have m:=bP k (show(0:Int)<(((n::r).map V.int).length:Int) by rw[Mq,Mx];lia);obtain⟨x,hx⟩:=DN (ns:=n::r) m.1 (Int.lt_of_lt_of_le m.2 (Int.le_of_eq el));exact MG {_,_,rfl,MG {_,s1.seq hS,rfl},by show(0:Int)<(((n::r).map V.int).length:Int);rw[Mq,Mx];lia,lix (s1.seq hS) hx (fin x H1 s1)}
inductive xS(K:Pa)(vs:List V)(H:Hp)(Q:VK)(Z:XK):Prop
 |mk(a:O4)(ns:List Int)(k:Int)(n:Nat)(z0:vs=[.ref a,.int k,.int n])(z1:SqL K H a (ns.map V.int))(z2:0<=k)(z4:k+n<1000)
  (z3:∀(R:O4)(cs:List Int)(H':Hp),ai H H'->H R=Vo->H' R=Vn (.lst (cs.map V.int))->cs.length=n->Q (.ref R) H'):xS K vs H Q Z
theorem GA{ys:List V}(h:∀(i:Nat) y,ys[i]?=Vn y->∃c,y=V.int c):∃cs:List Int,ys=cs.map V.int:=by
 induction ys with
 |nil=>exact{[],rfl}
 |cons y r ih=>
  obtain⟨c,rfl⟩:=h 0 y rfl;obtain⟨cs,rfl⟩:=ih λi z hz=>h (i+1) z hz;exact{c::cs,rfl}
theorem A7(T:Txt K mg A):T.rB.Hz P w base 2 (xS K):=by
 refine T.rB.hs (k:=1) xN (λf cdv A' outer s H vs Q E hr hu h=>?_);obtain⟨a,ns,k,n,rfl,hS,h0,h1,q⟩:=h;refine{_,(aj (aC (fO (N:=["_law_k","_law_script","_law_at"]) (own:=1) (fr:=[0,1]) (cA.of (by kernel_rfl!)) rfl (di rfl T.dz (fv 2^ae)) (λb=>pgn (i:=0) (show Qe (["_law_k","_law_script","_law_at"]:List QN) by decide+kernel) rfl) (λb=>lH) (λb=>ak (zB T) hr (fv 1^aB aL (fv 2) (fv 0)^ae))))),{_,rfl,(),(),?_}};rw[OO];refine sC (n:=n) (x:=λi=>.int (0+(i:Int))) (λj y H=>∃c,y=V.int c) (aG ()) (λ_ _=>Ms _) (λ_ _ h _=>h) (λ_ _ _ _ _ _ y=>y) (λb j H1 G hj s1 kk=>{a,ns,_,rfl,s1.seq hS,(),(),λc H' s'=>kk _ H' s' ⟨c,rfl⟩}) (λj y H1 H2 s1 h=>h) (λj y H1 D ys zs hD h=>h) (λD H1 ys hD s1 e1 ly hy=>?_);obtain⟨cs,rfl⟩:=GA hy;exact q D cs H1 s1 hD e1 (by rw[<-ly,Mq])
theorem FN{m:Int}(h:0<m):∀x:Int,0<=x%m/\x%m<m:=λx=>bP x h
inductive Et(vs:List V)(H:Hp)(Q:VK)(Z:XK):Prop
 |mk(c k:Int):vs=[.int c,.int k]->0<=k->k<1000->(∀m:Int,0<=m->m<1000000000000000->Q (.int m) H)->Et vs H Q Z
theorem oV(T:Txt K mg A):T.vU.Hz P w base 1 Et:=by
 refine T.vU.hs iI (λf cdv A' outer s H vs Q E hr hu h=>?_);obtain⟨c,k,rfl,h0,h1,q⟩:=h;refine{_,(ab (aQ (PW.pt (pw_and (ptc (b4 hu) (aB bM (fv 0) af) af) (pw_and1 (ptc zD (fv 0) (aB uG af af)))))
   (ab (pst 2 iI.nd (aB eX (fv 0) af))
   (ab (cf Pk rfl (di rfl T.dz (fv 1^ae)) (pgn (i:=3) iI.nd rfl)
    (aj (pst 2 iI.nd (aB eX (fv 2) (aB uG af af)))))
   (aj (aQ (ptc zD (fv 2) af)
    (aj (aC (aB bM (fv 2) (aB uG af af))))
    aF))))
   aF)
  (ab (pst 4 iI.nd (aB bM (aB dH (aB aL (aB bM (fv 0) af) af) (aB aL (aB dH (fv 1) (fv 1)) af)) af))
  (aj (aC (aB bM (aB dH (fv 4) (aB aL (aB bM (fv 4) af) af)) af))))),?_}
 refine ag λM1 K1=>?_;have fin:∀(v2 v3 v4:Option V),M1 [Vn (.int c),Vn (.int k),v2,v3,v4] H:=λv2 v3 v4=>K1 _ _ (by
  refine ag λM2 K2=>?_;have kk:-(2^64)<k*k+7919/\k*k+7919<2^64:=by
   have a1:0<=k*k:=Vf h0 h0;have a2:k*k<=1000*1000:=OV () () h0 ∅;lia
  refine{by show(0:Int)<1000003;decide,.inl {(),()},.inr kk,by show(0:Int)<2147483647;decide,?_};obtain⟨m0,m1⟩:=bP ((c%1000003+17)*(k*k+7919)) (show(0:Int)<2147483647 by decide);refine K2 _ _ ?_;clear K2 M2;try dsimp only
  have m2:=FN (show(0:Int)<2147483647 by decide);exact{by show(0:Int)<65521;decide,.inl {(),()},by show(0:Int)<2147483647;decide,q _ (m2 _).1 (Int.lt_trans (m2 _).2 ∅)})
 refine{by show(0:Int)<2;decide,rfl,_,rfl,a9 (λ_=>?_) (λ_=>aZ (fin Vo Vo Vo))};refine{{∅,∅,∅},_,rfl,a9 (λ_=>?_) (λ_=>fin Vo Vo Vo)};refine ag λM2 K2=>{{∅,∅},K2 _ _ ?_};clear K2 M2;try dsimp only
 refine ag λM2 K2=>{_,rfl,(),(),jU (λi σ Hc=>∃(d:Int)(v3:Option V),σ=[Vn (.int c),Vn (.int k),Vn (.int d),v3,Vo]/\Hc=H) {_,Vo,rfl,rfl} ?_ ?_}
 ·rintro i σ Hc hi ⟨d,v3,rfl,rfl⟩;exact{{∅,∅,∅},{∅,∅},_,_,rfl,rfl}
 rintro σ Hc ⟨d,v3,rfl,rfl⟩;refine K2 _ _ ?_;try dsimp only
 refine{_,rfl,a9 (λ_=>?_) (λ_=>fin _ _ _)};obtain⟨e0,e1⟩:=bP d (show(0:Int)<10^15 by decide);exact{{∅,∅,∅},by show(0:Int)<10^15;decide,q _ e0 e1}
inductive Bn(K:Pa)(vs:List V)(H:Hp)(Q:VK)(Z:XK):Prop
 |mk(a:O4)(xs:List V)(n:Int):vs=[.ref a,.int n]->SqL K H a xs->0<xs.length->(∀x∈xs,Q x H)->Bn K vs H Q Z
theorem pW(T:Txt K mg A):T.rL.Hz P w base 1 (Bn K):=by
 refine T.rL.hs xh (λf cdv A' outer s H vs Q E hr hu h=>?_);obtain⟨a,xs,n,rfl,hS,h0,q⟩:=h;refine{_,(aj (aC (px hu (fv 0) (aB bM (fv 1) (pcB eO T.fX (fv 0^ae)))))),?_};have m:=bP n (show(0:Int)<(xs.length:Int) by lia);obtain⟨x,hx,ax⟩:=Ah m.1 m.2;exact MG {_,_,rfl,MG {_,hS,rfl},by show(0:Int)<(xs.length:Int);lia,lix hS ax (q x (ML hx))}
structure jz(N:Nat->Str):Prop where
 inj:∀i j,i<24->j<24->N i=N j->i=j
 ch:∀i,i<24->∀c∈(N i).cps.toList,97<=c/\c<=122
noncomputable abbrev LET:Str:="abcdefghijklmnopqrstuvwxyz"
noncomputable def yo(k:Int):Nat:=(97+k).toNat
theorem HZ{k:Int}(h0:0<=k)(h1:k<26):atI LET.cps.toList k=Vn (yo k):=by
 obtain⟨n,rfl⟩:∃n:Nat,k=(n:Int):={k.toNat,()};have h:∀m:Fin 26,atI LET.cps.toList ((m.val:Nat):Int)=Vn (yo ((m.val:Nat):Int)):=by decide+kernel
 exact h {n,()}
noncomputable abbrev JE:Str:="set if by at idle most end else main over rest last"
noncomputable abbrev JJ:Str:="loop given hand own put say send call deed let open house closed"
noncomputable def vM:List Str:=["set","if","by","at","idle","most","end","else","main","over","rest","last"]
noncomputable def vx:List Str:=["loop","given","hand","own","put","say","send","call","deed","let","open","house","closed"]
noncomputable def Vw:List Str:=vM++vx
theorem Cb:rg JE " " vM:={by decide+kernel,by decide+kernel,by decide+kernel,by decide+kernel,∅,by decide+kernel}
theorem By:rg JJ " " vx:={by decide+kernel,by decide+kernel,by decide+kernel,by decide+kernel,∅,by decide+kernel}
theorem Eo:Vw.Nodup:=by decide+kernel
theorem Dx:∀x∈Vw,∀c∈x.cps.toList,97<=c/\c<=122:=by decide+kernel
theorem FE(o:Int):jz λk=>Vw.getD ((o+(0+(k:Int)))%25).toNat Pq:=by
 have g:∀k:Nat,∃j,j<25/\((o+(0+(k:Int)))%25).toNat=j:=λk=>{_,by have:=bP (o+(0+(k:Int))) (show(0:Int)<25 by decide);lia,rfl};have e:∀j,j<25->Vw.getD j Pq∈Vw:=λj h=>by
  rw[M9,Mv (show j<Vw.length from h)];exact OR _
 refine{λi j hi hj h=>?_,λi hi=>?_}
 ·obtain⟨a,ha,ea⟩:=g i;obtain⟨b,hb,eb⟩:=g j;have h:Vw.getD ((o+(0+(i:Int)))%25).toNat Pq=Vw.getD ((o+(0+(j:Int)))%25).toNat Pq:=h;rw[ea,eb,M9,M9,Mv (show a<Vw.length from ha),Mv (show b<Vw.length from hb)]at h;have:=(OP Eo).mp h;lia
 obtain⟨a,ha,ea⟩:=g i;show ∀c∈(Vw.getD ((o+(0+(i:Int)))%25).toNat Pq).cps.toList,_;rw[ea];exact Dx _ (e a ha)
noncomputable def dec(v:Int)(cs:List Nat):Int:=cs.foldl (λv (c:Nat)=>(v+1)*26+((c:Int)-97)) v
theorem D3{n:Int}(cs:List Nat):dec (n/26-1) (yo (n%26)::cs)=dec n cs:=by
 unfold dec;rw[Ny];congr 1;have m:=bP n (show(0:Int)<26 by decide);have e:((yo (n%26):Nat):Int)-97=n%26:=by
  unfold yo;lia
 rw[e];lia
def K0(n:Int)(x:Str):Prop:=dec (-1) x.cps.toList=n/\∀c∈x.cps.toList,97<=c/\c<=122
theorem Mn{N:Nat->Str}{c s:Int}(hs:1<=s)(h:∀k:Nat,k<24->K0 (c+(k:Int)*s) (N k)):jz N:=by
 refine{λi j hi hj e=>?_,λi hi=>(h i hi).2};have h1:=(h i hi).1;rw[e,(h j hj).1]at h1;have h2:(j:Int)*s=(i:Int)*s:=()
 have:=Int.eq_of_mul_eq_mul_right () h2;lia
theorem Dw{a:Nat}{x:Str}:((⟨#[a]⟩:Str)++x).cps.toList=a::x.cps.toList:=by
 show(#[a]++x.cps).toList=_;rw[M5];rfl
theorem LB{n:Int}{j:Nat}(h0:0<=n)(h:n+1<26^(j+1)):n/26-1+1<26^j:=by
 have e:(26:Int)^(j+1)=26^j*26:=Int.pow_succ _ _;rw[e]at h;have:=Int.ediv_lt_of_lt_mul (by decide:(0:Int)<26) (show n<26^j*26 by lia);lia
inductive uQ(vs:List V)(H:Hp)(Q:VK)(Z:XK):Prop
 |mk(c o:Int)(z0:vs=[.int c,.int o,.int 24])
  (z1:∀(R:O4)(N:Nat->Str)(H':Hp),ai H H'->H R=Vo->H' R=Vn (.lst (sS ((Pu 24).map N)))->jz N->Q (.ref R) H'):uQ vs H Q Z
theorem Eu(T:Txt K mg A):T.qh.Hz P w base 1 uQ:=by
 refine T.qh.hs bK (λf cdv A' outer s H vs Q E hr hu h=>?_);obtain⟨c,o,rfl,q⟩:=h;refine{_,(ab (pst 3 bK.nd (VE au (au^ae)))
  (ab (pst 3 bK.nd (aB aL (fv 3) (VE au (au^ae))))
  (ab (aQ (ptc (b4 hu) (aB bM (fv 0) af) af)
   (aj (aC (fO (N:=["_law_k","_law_words","_law_other"]) (own:=1) (fr:=[3,1]) (cA.of (by kernel_rfl!)) rfl (di rfl T.dz (fv 2^ae)) (λb=>pgn (i:=0) (show Qe (["_law_k","_law_words","_law_other"]:List QN) by decide+kernel) rfl) (λb=>lH) (λb=>px hu (fv 1) (aB bM (aB aL (fv 2) (fv 0)) (pcB eO T.fX (fv 1^ae)))))))
   aF)
  (ab (pst 4 bK.nd au)
  (ab (pst 5 bK.nd (px hu (aN (af^af^af^af^aB aL af (aB bM (fv 1) (aB uG af af))^ae)) (aB bM (aB eX (fv 0) af) af)))
  (ab (pst 6 bK.nd (aN ae))
  (ab (cf Pk rfl (di rfl T.dz (fv 2^ae)) (pgn (i:=7) bK.nd rfl)
   (ab (pst 8 bK.nd (aB aL (aB bM (aB eX (fv 0) af) (aB uG af af)) (aB dH (fv 7) (fv 5))))
   (ab (pst 9 bK.nd au)
   (ab (fW Pk (ptc Mi (fv 8) af)
    (ab (pst 9 bK.nd (aB aL (px hu (fv 4) (aB bM (fv 8) af)) (fv 9)))
    (aj (pst 8 bK.nd (aB oU (aB eX (fv 8) af) af)))))
   (aj (aO (bt (fv 6) (fv 9^ae))))))))
  (aj (aC (fv 6)))))))))),?_}
 refine ag λM1 K1=>{rfl,_,_,_,rfl,rfl,Cb,λL1 hL1=>?_};obtain⟨s1,e1⟩:=alc hL1 (HO.lst (vM.map V.str));generalize upd H L1 _=H1 at s1 e1⊢;refine K1 _ _ ?_;clear K1 M1;try dsimp only
 refine ag λM1 K1=>{rfl,_,_,_,rfl,rfl,By,λL2 hL2=>?_};obtain⟨s2,e2⟩:=alc hL2 (HO.lst (vx.map V.str));generalize upd H1 L2 _=H2 at s2 e2⊢;refine{L1,L2,_,_,rfl,rfl,s2 _ _ e1,e2,∅,λL3 hL3=>?_};obtain⟨s3,e3⟩:=alc hL3 (HO.lst (vM.map V.str++vx.map V.str));generalize upd H2 L3 _=H3 at s3 e3⊢;have t3:=(s1.trans s2).trans s3;have e3:H3 L3=Vn (.lst (sS Vw)):=by rw[e3,<-M6];rfl
 refine K1 _ _ ?_;clear K1 M1;try dsimp only
 refine ag λM1 K1=>{by show(0:Int)<4;decide,rfl,_,rfl,a9 (λ_=>?_) (λ_=>K1 _ _ ?_)}
 ·refine{_,rfl,∅,∅,tF (n:=24) (λ_=>true) (λk=>.str (Vw.getD ((o+(0+(k:Int)))%25).toNat Pq)) ∅ (λb i H4 R hi s4 k=>k H4 (ai.refl _)) (λb i H4 R hi _ s4 k=>?_) (λD H4 hD s4 e4=>?_)}
  ·have m:=bP (o+(0+(i:Int))) (show(0:Int)<25 by decide);have g:((o+(0+(i:Int)))%25).toNat<Vw.length:=by show _<25;lia
   have ax:=iZ (xs:=sS Vw) (j:=((o+(0+(i:Int)))%25).toNat) (v:=.str (Vw.getD ((o+(0+(i:Int)))%25).toNat Pq)) (by rw[MM,M9,Mv g];rfl);rw[show((((o+(0+(i:Int)))%25).toNat:Nat):Int)=(o+(0+(i:Int)))%25 by lia]at ax;exact lnl (s4 _ _ e3) {by show(0:Int)<25;decide,lix (SqL.of (s4 _ _ e3)) ax (k H4 (ai.refl _))}
  refine q D _ H4 (t3.trans s4) (ai.free t3 hD) ?_ (FE o);rw[e4,mN];simp[sS]
 clear K1 M1;try dsimp only
 refine ag λM1 K1=>K1 _ _ ?_;clear K1 M1;try dsimp only
 refine ag λM1 K1=>?_;obtain⟨o0,o1⟩:=bP o (show(0:Int)<10^9 by decide);refine{{∅,∅,∅},by show(0:Int)<10^9;decide,by show 5<=sizeLine;decide,λL4 hL4=>?_};obtain⟨s4,e4⟩:=alc hL4 (HO.lst [.int 1,.int 26,.int 27,.int 676,.int (1+o%10^(9:Int).toNat)]);generalize upd H3 L4 _=H4 at s4 e4⊢;have t4:=t3.trans s4;refine{{∅,∅},by show(0:Int)<5;decide,?_};obtain⟨st,ax,st0,st1⟩:∃st:Int,atI [V.int 1,.int 26,.int 27,.int 676,.int (1+o%10^(9:Int).toNat)] (c/4%5)=Vn (.int st)/\1<=st/\st<=1000000000:=by
  obtain⟨m0,m1⟩:=bP (c/4) (show(0:Int)<5 by decide);generalize c/4%5=j at m0 m1;have cs:j=0\/j=1\/j=2\/j=3\/j=4:=()
  rcases cs with rfl|rfl|rfl|rfl|rfl
  ·exact{1,rfl,∅,∅}
  ·exact{26,rfl,∅,∅}
  ·exact{27,rfl,∅,∅}
  ·exact{676,rfl,∅,∅}
  have o1':o%10^(9:Int).toNat<1000000000:=o1;have o0':0<=o%10^(9:Int).toNat:=o0;exact{_,rfl,(),()}
 refine lix (SqL.of e4) ax (K1 _ _ ?_);clear K1 M1;try dsimp only
 refine ag λM1 K1=>{MF _,λR hR=>?_};obtain⟨s5,e5⟩:=alc hR (HO.lst []);generalize upd H4 R _=H5 at s5 e5⊢;have t5:=t4.trans s5;have hR0:H R=Vo:=ai.free t4 hR;obtain⟨b0,b1⟩:=bP (c/20) (show(0:Int)<10^10 by decide);refine K1 _ _ ?_;clear K1 M1;try dsimp only
 refine ag λM1 K1=>{_,rfl,∅,∅,jU (λi σ Hc=>∃(xs:List Str)(v7 v8 v9:Option V),σ=[Vn (.int c),Vn (.int o),Vn (.int 24),Vn (.ref L3),Vn (.str LET),Vn (.int st),Vn (.ref R),v7,v8,v9]/\ai H Hc/\Hc R=Vn (.lst (sS xs))/\xs.length=i/\∀(k:Nat) x,xs[k]?=Vn x->K0 (c/20%10^(10:Int).toNat+(k:Int)*st) x) {[],Vo,Vo,Vo,rfl,t5,e5,rfl,λk x hx=>by cases hx} ?_ ?_}
 ·rintro i σ Hc hi ⟨xs,v7,v8,v9,rfl,sc,hRc,lx,wd⟩;have hi24:i<24:=hi;have ei:(0:Int)+(i:Int)=(i:Int):=()
  rw[ei];try dsimp only
  refine ag λN1 J1=>{{∅,∅},{∅,∅,∅},by show(0:Int)<10^10;decide,.inl {(),()},J1 _ _ ?_};clear J1 N1;try dsimp only
  refine ag λN1 J1=>J1 _ _ ?_;clear J1 N1;try dsimp only
  refine ag λN1 J1=>?_;have bb:c/20%10^(10:Int).toNat+(i:Int)*st+1<26^8:=by
   have b1':c/20%10^(10:Int).toNat<10000000000:=b1;have m1:(i:Int)*st<=23*1000000000:=OV () st1 () ∅;have:(26:Int)^8=208827064576:=∅
   lia
  have b0':0<=c/20%10^(10:Int).toNat:=b0;have m0:0<=(i:Int)*st:=Vf () ();have ww:0<=c/20%10^(10:Int).toNat+(i:Int)*st:=Int.add_nonneg b0' m0;generalize ew:c/20%10^(10:Int).toNat+(i:Int)*st=wn at bb ww;refine{λm σ' Hd=>∃(n:Int)(x:Str),σ'=[Vn (.int c),Vn (.int o),Vn (.int 24),Vn (.ref L3),Vn (.str LET),Vn (.int st),Vn (.ref R),Vn (.int (i:Int)),Vn (.int n),Vn (.str x)]/\Hc=Hd/\-1<=n/\n+1<26^m/\m+x.length<=8/\dec n x.cps.toList=wn/\∀c∈x.cps.toList,97<=c/\c<=122,{8,wn,"",rfl,rfl,(),bb,∅,rfl,λc hc=>by cases hc},?_};rintro m σ' Hd ⟨n,x,rfl,rfl,n0,n1,lm,dx,cx⟩;refine{_,rfl,a9 (λz=>?_) (λz=>J1 _ _ ?_)}
  ·have z:0<=n:=of_decide_eq_true z;cases m with
   |zero=>rw[Int.pow_zero]at n1;lia
   |succ m=>
   refine{λσ' Hd=>∃(n:Int)(x:Str),σ'=[Vn (.int c),Vn (.int o),Vn (.int 24),Vn (.ref L3),Vn (.str LET),Vn (.int st),Vn (.ref R),Vn (.int (i:Int)),Vn (.int n),Vn (.str x)]/\Hc=Hd/\-1<=n/\n+1<26^m/\m+x.length<=8/\dec n x.cps.toList=wn/\∀c∈x.cps.toList,97<=c/\c<=122,λσ' Hd h=>{m,Oc _,h},ag λN2 J2=>?_};obtain⟨l0,l1⟩:=bP n (show(0:Int)<26 by decide);have lx':(Str.mk #[yo (n%26)]++x).length=1+x.length:=iV _ _;refine{by show(0:Int)<26;decide,{yo (n%26),by decide+kernel,HZ l0 l1,{by show 1+x.length<=sizeLine;exact Om (aG ()),J2 _ _ {{∅,∅},_,_,rfl,rfl,(),LB z n1,by rw[lx'];lia,?_,?_}}}}
   ·rw[Dw,D3];exact dx
   rw[Dw];intro d hd;rcases Mw.mp hd with rfl|hd
   ·unfold yo;lia
   exact cx d hd
  have z:¬ 0<=n:=of_decide_eq_false (NW.mpr z);have en:n=-1:=()
  subst en;refine{MG {rfl,_,SqL.of hRc},_,_,_,rfl,rfl,hRc,aG (by rw[Mq];lia),{xs++[x],_,_,_,rfl,ai.out sc hR0 _,by rw[ao];simp[sS],by rw[Mo,lx];rfl,λk y hy=>?_}};by_cases hk:k<xs.length
  ·rw[MW hk]at hy;exact wd k y hy
  have ek:k=xs.length:=by
   have:=(MC.mp hy).1;rw[Mo,Mr]at this;lia
  subst ek;rw[MU (Ms _),Nz]at hy;cases hy;rw[lx,ew];exact⟨dx,cx⟩
 rintro σ Hc ⟨xs,v7,v8,v9,rfl,sc,hRc,lx,wd⟩;have lx:xs.length=24:=lx;refine K1 _ _ ?_;have ex:xs=(Pu 24).map λk=>xs.getD k Pq:=by
  refine Ov λk=>?_;rw[MM];by_cases hk:k<24
  ·rw[NN hk,Mv ()];show _=Vn (xs.getD k Pq);rw[M9,Mv ()];rfl
  rw[Nj (),Nj (by rw[Nv];lia)];rfl
 refine q R (λk=>xs.getD k Pq) Hc sc hR0 (by rw[hRc];exact congrArg (λz=>Vn (HO.lst (sS z))) ex) (Mn st0 λk hk=>wd k _ ?_);rw[M9,Mv ()];rfl
noncomputable def Lr.wd:Lr->Str
 | .hand _ _=>"hand"| .giv _ _ _=>"given"| .own _ _=>"own"| .lt _ _=>"let"| .set _ _=>"set"| .put _ _ _=>"put"| .snd _ _=>"send"| .say _ _ _=>"say"
 | .call _ _=>"call"| .last=>"last"
inductive Fr where
 |leaf (r:Lr)|bj (i:Nat) (ps:List Nat)|main|iff (v:Val) (l r:Int)|loop (t:Th) (m l r:Int)|els|fin
noncomputable def Fr.wd:Fr->Str
 | .leaf r=>r.wd| .bj _ _=>"deed"| .main=>"main"| .iff _ _ _=>"if"| .loop _ _ _ _=>"loop"| .els=>"else"| .fin=>"end"
noncomputable def Fr.ts(N:Nat->Str)(p:O4):Fr->List V
 | .leaf r=>(r.fs N p).map (·.2)| .bj i _=>[.str (N i),.ref p]| .iff _ l r=>[.ref p,.int l,.int r]| .loop t m l r=>[t.v N,.int m,.int l,.int r]|_=>[]
noncomputable def Fr.ob(N:Nat->Str):Fr->Option HO
 | .leaf r=>r.ob N| .bj _ ps=>Vn (.lst (nV N ps))| .iff v _ _=>Vn (.tup (vV N v))|_=>Vo
def kF(N:Nat->Str)(X:Hp)(v:V)(f:Fr):Prop:=∃a p,v=.ref a/\X a=Vn (.tup (.str f.wd::f.ts N p))/\∀o,f.ob N=Vn o->X p=Vn o
theorem kF.same{X X':Hp}(s:ai X X'){v:V}{f:Fr}(h:kF N X v f):kF N X' v f:=by
 obtain⟨a,p,e,h1,h2⟩:=h;exact{a,p,e,s _ _ h1,λo ho=>s _ _ (h2 o ho)}
def aW(N:Nat->Str)(X:Hp)(fs:List Fr)(vs:List V):Prop:=Paired (λf v=>kF N X v f) fs vs
theorem aW.same{X X':Hp}(s:ai X X'){fs:List Fr}{vs:List V}(h:aW N X fs vs):aW N X' fs vs:=Paired.sY h λ_ _ z=>kF.same s z
theorem fr0{X:Hp}{a:O4}{f:Fr}(h:X a=Vn (.tup (.str f.wd::f.ts N a)))(e:f.ob N=Vo):kF N X (.ref a) f:={a,a,rfl,h,λo ho=>by rw[e]at ho;cases ho}
noncomputable def ug(N:Nat->Str):List Str:=(Pu 24).map N
theorem DS{j:Nat}(h:j<24):(sS (ug N))[j]?=Vn (.str (N j)):=by
 unfold ug;rw[MM,MM,NN h];rfl
theorem lxn{H:Hp}{p:O4}{xs:List V}{v:V}{Q:VK}{j:Nat}(h:SqL K H p xs)(e:xs[j]?=Vn v)(q:Q v H):ixS K p (j:Int) H Q\/dgI p (.int (j:Int)) H Q:=lix h (iZ e) q
theorem nmx{H:Hp}{p:O4}{Q:VK}{j:Nat}(h:SqL K H p (sS (ug N)))(q:Q (.str (N j)) H)(hj:j<24:=by decide):ixS K p (j:Int) H Q\/dgI p (.int (j:Int)) H Q:=lxn h (DS hj) q
theorem qU{n t:Nat}(d:Nat)(h:t<=n):HT.sIx n d (Vn (t:Int))=t:=by
 unfold HT.sIx;show(if(t:Int)<0 then((t:Int)+n).toNat else min (t:Int).toNat n)=t;rw[if_neg (),OO];lia
theorem Iu{xs:List V}{t:Nat}(h:t<=xs.length):qz xs (Vn (t:Int)) Vo=xs.drop t:=by
 unfold qz;rw[qU _ h,show HT.sIx xs.length xs.length Vo=xs.length from rfl];exact Nc (by rw[Nd];lia)
theorem ID{xs:List V}{t:Nat}(h:t<=xs.length):qz xs Vo (Vn (t:Int))=xs.take t:=by
 unfold qz;rw[qU _ h,show HT.sIx xs.length 0 Vo=0 from rfl];rfl
noncomputable def pG(rk:Nat->Int)(z:Int):List Lr:=[.hand 0 (rk 0),.giv 1 (rk 1) 0,.giv 2 (rk 2) 3,.own 3 0,.own 4 z,.lt 5 (rk 3),.lt 6 (rk 4),.own 7 0,.hand 8 (rk 5),.giv 19 (rk 6) 0,.own 20 0]
noncomputable def rF(t:Nat)(xs:List Lr):List Lr:=xs.drop t++xs.take t
theorem qj{α β:Type}{F:α->β->Prop}:∀{l:List α}{m:List β}(t:Nat),Paired F l m->Paired F (l.drop t) (m.drop t)
 |_,_,0,h=>h
 |_,_,t+1,.nil=>.nil
 |_,_,t+1,.cons _ r=>qj t r
theorem lE{α β:Type}{F:α->β->Prop}:∀{l:List α}{m:List β}(t:Nat),Paired F l m->Paired F (l.take t) (m.take t)
 |_,_,0,_=>.nil
 |_,_,t+1,.nil=>.nil
 |_,_,t+1,.cons h r=>.cons h (lE t r)
inductive uY(K:Pa)(vs:List V)(H:Hp)(Q:VK)(Z:XK):Prop
 |mk(N:Nat->Str)(nl:O4)(c:Int)(z0:vs=[.ref nl,.int c])(z1:H nl=Vn (.lst (sS (ug N))))
  (z2:∀(R:O4)(rk:Nat->Int)(z:Int)(t:Nat)(ys:List V)(H':Hp),ai H H'->H R=Vo->H' R=Vn (.lst ys)->aW N H' ((rF t (pG rk z)).map Fr.leaf) ys->(∀i,rk i=0\/rk i=1\/rk i=2)->1<=z->z<=4->t<=11->Q (.ref R) H'):uY K vs H Q Z
theorem CP(T:Txt K mg A):T.qe.Hz P w base 2 (uY K):=by
 have bc:=@oV P w _ _ base _ T;refine T.qe.hs (k:=1) cX (λf cdv A' outer s H vs Q E hr hu h=>?_);obtain⟨N,nl,c,rfl,hN,q⟩:=h;refine{_,(ab (rX (j:=2) (N:=["_law_k","_law_cell"]) (own:=1) (fr:=[1]) (cA.of (by kernel_rfl!)) rfl cX.nd rfl (MG rfl) (di rfl T.dz (af^ae)) (λb=>pgn (i:=0) (show Qe (["_law_k","_law_cell"]:List QN) by decide+kernel) rfl) (λb=>lH) (λb=>aB bM (ak bc hr (fv 1^aB aL af (fv 0)^ae)) af))
  (ab (pst 3 cX.nd (aN (aS (au^px hu (fv 0) af^px hu (fv 2) af^ae)^aS (au^px hu (fv 0) af^px hu (fv 2) af^af^ae)^aS (au^px hu (fv 0) af^px hu (fv 2) af^af^ae)^ae)))
  (ab (pst 3 cX.nd (aB aL (fv 3) (aN (aS (au^px hu (fv 0) af^af^ae)^aS (au^px hu (fv 0) af^aB aL af (aB bM (ak bc hr (fv 1^af^ae)) af)^ae)^aS (au^px hu (fv 0) af^px hu (fv 2) af^ae)^ae))))
  (ab (pst 3 cX.nd (aB aL (fv 3) (aN (aS (au^px hu (fv 0) af^px hu (fv 2) af^ae)^aS (au^px hu (fv 0) af^af^ae)^aS (au^px hu (fv 0) af^px hu (fv 2) af^ae)^ae))))
  (ab (pst 3 cX.nd (aB aL (fv 3) (aN (aS (au^px hu (fv 0) af^px hu (fv 2) af^af^ae)^aS (au^px hu (fv 0) af^af^ae)^ae))))
  (ab (pst 4 cX.nd (aB bM (ak bc hr (fv 1^af^ae)) af))
  (aj (aC (aB aL (tP zN (fv 3) (qQ (fv 4)) AG) (tP zN (fv 3) AG (qQ (fv 4)))))))))))),?_}
 refine ag λM1 K1=>{_,rfl,∅,∅,sC (n:=7) (x:=λi=>.int (0+(i:Int))) (λj y H=>∃c:Int,y=V.int c/\(c=0\/c=1\/c=2)) ∅ (λ_ _=>Ms _) (λ_ _ h _=>h) (λ_ _ _ _ _ _ y=>y) (λb j H1 G hj s1 kk=>?_) (λj y H1 H2 s1 h=>h) (λj y H1 D ys zs hD h=>h) (λLK H0 ys hLK s0 eK ly hy=>K1 _ _ ?_)}
 ·refine{c,_,rfl,(),(),λm m0 m1=>{by show(0:Int)<3;decide,kk _ H1 (ai.refl _) {_,rfl,?_}}};have:=bP m (show(0:Int)<3 by decide);lia
 clear K1 M1;obtain⟨rk,hrk,ey⟩:∃rk:Nat->Int,(∀i,rk i=0\/rk i=1\/rk i=2)/\ys=(Pu 7).map λi=>V.int (rk i):=by
  refine⟨λi=>match ys[i]? with|some (.int c)=>c|_=>0,λi=>?_,Ov λi=>?_⟩
  ·dsimp only;cases e:ys[i]? with
   |none=>exact .inl rfl
   |some y=>
    obtain⟨c,rfl,hc⟩:=hy i y e;exact hc
  rw[MM];by_cases hi:i<7
  ·rw[NN hi];obtain⟨y,e⟩:∃y,ys[i]?=Vn y:={_,Mv ()};obtain⟨c,rfl,hc⟩:=hy i y e;show _=Vn (V.int (match ys[i]? with|some (.int c)=>c|_=>0));rw[e]
  rw[Nj (),Nj (by rw[Nv];lia)];rfl
 subst ey;have d0:=s0;try dsimp only
 refine ag λM1 K1=>?_;have e0:ai H0 H0:=ai.refl _;refine nmx (j:=0) (SqL.of (d0 _ _ hN)) (lxn (j:=0) (SqL.of (e0 _ _ eK)) rfl ({by show 3<=sizeLine;decide,λt0 ht0=>?_}));obtain⟨c1,g0⟩:=alc ht0 (HO.tup [V.str "hand",.str (N 0),.int (rk 0)]);generalize upd H0 t0 _=H1 at c1 g0⊢;have d1:=d0.trans c1;have e1:=e0.trans c1;refine nmx (j:=1) (SqL.of (d1 _ _ hN)) (lxn (j:=1) (SqL.of (e1 _ _ eK)) rfl ({by show 4<=sizeLine;decide,λt1 ht1=>?_}));obtain⟨c2,g1⟩:=alc ht1 (HO.tup [V.str "given",.str (N 1),.int (rk 1),.int 0]);generalize upd H1 t1 _=H2 at c2 g1⊢;have d2:=d1.trans c2;have e2:=e1.trans c2;refine nmx (j:=2) (SqL.of (d2 _ _ hN)) (lxn (j:=2) (SqL.of (e2 _ _ eK)) rfl ({by show 4<=sizeLine;decide,λt2 ht2=>?_}));obtain⟨c3,g2⟩:=alc ht2 (HO.tup [V.str "given",.str (N 2),.int (rk 2),.int 3]);generalize upd H2 t2 _=H3 at c3 g2⊢;have d3:=d2.trans c3;have e3:=e2.trans c3;refine{by show 3<=sizeLine;decide,λl0 hl0=>?_};obtain⟨c4,a0⟩:=alc hl0 (HO.lst [V.ref t0,V.ref t1,V.ref t2]);generalize upd H3 l0 _=H4 at c4 a0⊢;have d4:=d3.trans c4;have e4:=e3.trans c4;refine K1 _ _ ?_;clear K1 M1;try dsimp only
 refine ag λM1 K1=>nmx (j:=3) (SqL.of (d4 _ _ hN)) ({by show 3<=sizeLine;decide,λt3 ht3=>?_});obtain⟨c5,g3⟩:=alc ht3 (HO.tup [V.str "own",.str (N 3),.int 0]);generalize upd H4 t3 _=H5 at c5 g3⊢;have d5:=d4.trans c5;have e5:=e4.trans c5;refine nmx (j:=4) (SqL.of (d5 _ _ hN)) ({c,27,rfl,∅,∅,λm m0 m1=>{by show(0:Int)<4;decide,{by show 3<=sizeLine;decide,λt4 ht4=>?_}}});obtain⟨c6,g4⟩:=alc ht4 (HO.tup [V.str "own",.str (N 4),.int (1+m%4)]);generalize upd H5 t4 _=H6 at c6 g4⊢;have d6:=d5.trans c6;have e6:=e5.trans c6;refine nmx (j:=5) (SqL.of (d6 _ _ hN)) (lxn (j:=3) (SqL.of (e6 _ _ eK)) rfl ({by show 3<=sizeLine;decide,λt5 ht5=>?_}));obtain⟨c7,g5⟩:=alc ht5 (HO.tup [V.str "let",.str (N 5),.int (rk 3)]);generalize upd H6 t5 _=H7 at c7 g5⊢;have d7:=d6.trans c7;have e7:=e6.trans c7;refine{by show 3<=sizeLine;decide,λl1 hl1=>?_};obtain⟨c8,a1⟩:=alc hl1 (HO.lst [V.ref t3,V.ref t4,V.ref t5]);generalize upd H7 l1 _=H8 at c8 a1⊢;have d8:=d7.trans c8;have e8:=e7.trans c8;have f1:ai H4 H8:=λa o h=>c8 _ _ (c7 _ _ (c6 _ _ (c5 _ _ h)));refine{l0,l1,_,_,rfl,rfl,f1 _ _ a0,a1,by show 6<=sizeLine;decide,λb1 hb1=>?_};obtain⟨c9,q1⟩:=alc hb1 (HO.lst ([V.ref t0,V.ref t1,V.ref t2]++[V.ref t3,V.ref t4,V.ref t5]));generalize upd H8 b1 _=H9 at c9 q1⊢;have q1:H9 b1=Vn (.lst [V.ref t0,V.ref t1,V.ref t2,V.ref t3,V.ref t4,V.ref t5]):=q1;have d9:=d8.trans c9;have e9:=e8.trans c9;refine K1 _ _ ?_;clear K1 M1;try dsimp only
 refine ag λM1 K1=>nmx (j:=6) (SqL.of (d9 _ _ hN)) (lxn (j:=4) (SqL.of (e9 _ _ eK)) rfl ({by show 3<=sizeLine;decide,λt6 ht6=>?_}));obtain⟨c10,g6⟩:=alc ht6 (HO.tup [V.str "let",.str (N 6),.int (rk 4)]);generalize upd H9 t6 _=H10 at c10 g6⊢;have d10:=d9.trans c10;have e10:=e9.trans c10;refine nmx (j:=7) (SqL.of (d10 _ _ hN)) ({by show 3<=sizeLine;decide,λt7 ht7=>?_});obtain⟨c11,g7⟩:=alc ht7 (HO.tup [V.str "own",.str (N 7),.int 0]);generalize upd H10 t7 _=H11 at c11 g7⊢;have d11:=d10.trans c11;have e11:=e10.trans c11;refine nmx (j:=8) (SqL.of (d11 _ _ hN)) (lxn (j:=5) (SqL.of (e11 _ _ eK)) rfl ({by show 3<=sizeLine;decide,λt8 ht8=>?_}));obtain⟨c12,g8⟩:=alc ht8 (HO.tup [V.str "hand",.str (N 8),.int (rk 5)]);generalize upd H11 t8 _=H12 at c12 g8⊢;have d12:=d11.trans c12;have e12:=e11.trans c12;refine{by show 3<=sizeLine;decide,λl2 hl2=>?_};obtain⟨c13,a2⟩:=alc hl2 (HO.lst [V.ref t6,V.ref t7,V.ref t8]);generalize upd H12 l2 _=H13 at c13 a2⊢;have d13:=d12.trans c13;have e13:=e12.trans c13;have f2:ai H9 H13:=λa o h=>c13 _ _ (c12 _ _ (c11 _ _ (c10 _ _ h)));refine{b1,l2,_,_,rfl,rfl,f2 _ _ q1,a2,by show 9<=sizeLine;decide,λb2 hb2=>?_};obtain⟨c14,q2⟩:=alc hb2 (HO.lst ([V.ref t0,V.ref t1,V.ref t2,V.ref t3,V.ref t4,V.ref t5]++[V.ref t6,V.ref t7,V.ref t8]));generalize upd H13 b2 _=H14 at c14 q2⊢;have q2:H14 b2=Vn (.lst [V.ref t0,V.ref t1,V.ref t2,V.ref t3,V.ref t4,V.ref t5,V.ref t6,V.ref t7,V.ref t8]):=q2;have d14:=d13.trans c14;have e14:=e13.trans c14;refine K1 _ _ ?_;clear K1 M1;try dsimp only
 refine ag λM1 K1=>nmx (j:=19) (SqL.of (d14 _ _ hN)) (lxn (j:=6) (SqL.of (e14 _ _ eK)) rfl ({by show 4<=sizeLine;decide,λt9 ht9=>?_}));obtain⟨c15,g9⟩:=alc ht9 (HO.tup [V.str "given",.str (N 19),.int (rk 6),.int 0]);generalize upd H14 t9 _=H15 at c15 g9⊢;have d15:=d14.trans c15;have e15:=e14.trans c15;refine nmx (j:=20) (SqL.of (d15 _ _ hN)) ({by show 3<=sizeLine;decide,λt10 ht10=>?_});obtain⟨c16,g10⟩:=alc ht10 (HO.tup [V.str "own",.str (N 20),.int 0]);generalize upd H15 t10 _=H16 at c16 g10⊢;have d16:=d15.trans c16;have e16:=e15.trans c16;refine{by show 2<=sizeLine;decide,λl3 hl3=>?_};obtain⟨c17,a3⟩:=alc hl3 (HO.lst [V.ref t9,V.ref t10]);generalize upd H16 l3 _=H17 at c17 a3⊢;have d17:=d16.trans c17;have e17:=e16.trans c17;have f3:ai H14 H17:=λa o h=>c17 _ _ (c16 _ _ (c15 _ _ h));refine{b2,l3,_,_,rfl,rfl,f3 _ _ q2,a3,by show 11<=sizeLine;decide,λb3 hb3=>?_};obtain⟨c18,q3⟩:=alc hb3 (HO.lst ([V.ref t0,V.ref t1,V.ref t2,V.ref t3,V.ref t4,V.ref t5,V.ref t6,V.ref t7,V.ref t8]++[V.ref t9,V.ref t10]));generalize upd H17 b3 _=H18 at c18 q3⊢;have q3:H18 b3=Vn (.lst [V.ref t0,V.ref t1,V.ref t2,V.ref t3,V.ref t4,V.ref t5,V.ref t6,V.ref t7,V.ref t8,V.ref t9,V.ref t10]):=q3;have d18:=d17.trans c18;have e18:=e17.trans c18;have z1:=bP m (show(0:Int)<4 by decide);have pr:aW N H18 ((pG rk (1+m%4)).map Fr.leaf) [V.ref t0,V.ref t1,V.ref t2,V.ref t3,V.ref t4,V.ref t5,V.ref t6,V.ref t7,V.ref t8,V.ref t9,V.ref t10]:=by
  have k0:H18 t0=_:=c18 _ _ (c17 _ _ (c16 _ _ (c15 _ _ (c14 _ _ (c13 _ _ (c12 _ _ (c11 _ _ (c10 _ _ (c9 _ _ (c8 _ _ (c7 _ _ (c6 _ _ (c5 _ _ (c4 _ _ (c3 _ _ (c2 _ _ g0))))))))))))))));have k1:H18 t1=_:=c18 _ _ (c17 _ _ (c16 _ _ (c15 _ _ (c14 _ _ (c13 _ _ (c12 _ _ (c11 _ _ (c10 _ _ (c9 _ _ (c8 _ _ (c7 _ _ (c6 _ _ (c5 _ _ (c4 _ _ (c3 _ _ g1)))))))))))))));have k2:H18 t2=_:=c18 _ _ (c17 _ _ (c16 _ _ (c15 _ _ (c14 _ _ (c13 _ _ (c12 _ _ (c11 _ _ (c10 _ _ (c9 _ _ (c8 _ _ (c7 _ _ (c6 _ _ (c5 _ _ (c4 _ _ g2))))))))))))));have k3:H18 t3=_:=c18 _ _ (c17 _ _ (c16 _ _ (c15 _ _ (c14 _ _ (c13 _ _ (c12 _ _ (c11 _ _ (c10 _ _ (c9 _ _ (c8 _ _ (c7 _ _ (c6 _ _ g3))))))))))));have k4:H18 t4=_:=c18 _ _ (c17 _ _ (c16 _ _ (c15 _ _ (c14 _ _ (c13 _ _ (c12 _ _ (c11 _ _ (c10 _ _ (c9 _ _ (c8 _ _ (c7 _ _ g4)))))))))));have k5:H18 t5=_:=c18 _ _ (c17 _ _ (c16 _ _ (c15 _ _ (c14 _ _ (c13 _ _ (c12 _ _ (c11 _ _ (c10 _ _ (c9 _ _ (c8 _ _ g5))))))))));have k6:H18 t6=_:=c18 _ _ (c17 _ _ (c16 _ _ (c15 _ _ (c14 _ _ (c13 _ _ (c12 _ _ (c11 _ _ g6)))))));have k7:H18 t7=_:=c18 _ _ (c17 _ _ (c16 _ _ (c15 _ _ (c14 _ _ (c13 _ _ (c12 _ _ g7))))));have k8:H18 t8=_:=c18 _ _ (c17 _ _ (c16 _ _ (c15 _ _ (c14 _ _ (c13 _ _ g8)))));have k9:H18 t9=_:=c18 _ _ (c17 _ _ (c16 _ _ g9));have k10:H18 t10=_:=c18 _ _ (c17 _ _ g10);exact .cons (fr0 k0 rfl) (.cons (fr0 k1 rfl) (.cons (fr0 k2 rfl) (.cons (fr0 k3 rfl) (.cons (fr0 k4 rfl) (.cons (fr0 k5 rfl) (.cons (fr0 k6 rfl) (.cons (fr0 k7 rfl) (.cons (fr0 k8 rfl) (.cons (fr0 k9 rfl) (.cons (fr0 k10 rfl) (.nil)))))))))))
 refine K1 _ _ ?_;clear K1 M1;try dsimp only
 refine ag λM1 K1=>{c,1,rfl,∅,∅,λm' m0' m1'=>{by show(0:Int)<11;decide,K1 _ _ ?_}};clear K1 M1;have z2:=bP m' (show(0:Int)<11 by decide);obtain⟨t,ht⟩:∃t:Nat,m'%11=(t:Int):={(m'%11).toNat,()};have t11:t<=11:=()
 dsimp only[nB,List.set];rw[ht];have lp:=Pd pr;generalize hys:[V.ref t0,V.ref t1,V.ref t2,V.ref t3,V.ref t4,V.ref t5,V.ref t6,V.ref t7,V.ref t8,V.ref t9,V.ref t10]=ys at q3 pr lp;have ly:ys.length=11:=by rw[<-hys];rfl
 refine{_,rfl,MG {b3,_,rfl,SqL.of q3,λp1 hp1=>?_}};rw[Iu ()];obtain⟨s24,e24⟩:=alc hp1 (HO.lst (ys.drop t));generalize upd H18 p1 _=X24 at s24 e24⊢;refine{_,rfl,MG {b3,_,rfl,SqL.of (s24 _ _ q3),λp2 hp2=>?_}};rw[ID ()];obtain⟨s25,e25⟩:=alc hp2 (HO.lst (ys.take t));generalize upd X24 p2 _=X25 at s25 e25⊢;refine{p1,p2,_,_,rfl,rfl,s25 _ _ e24,e25,sz (by rw[Nd,MT];lia),λLR hLR=>?_};have s26:=ai.upd hLR (.lst (ys.drop t++ys.take t));refine q LR rk (1+m%4) t _ _ (d18.trans (s24.trans (s25.trans s26))) (ai.free (d18.trans (s24.trans s25)) hLR) ao ?_ hrk () () t11;unfold rF;rw[M6,List.map_drop,OJ];exact aW.same (s24.trans (s25.trans s26)) (Paired.two (qj t pr) (lE t pr))
noncomputable def del(X:List O4)(H:Hp):Hp:=λa=>if a∈X then Vo else H a
theorem cG{X:List O4}{H:Hp}:ai (del X H) H:=λa o h=>by
 unfold del at h;split at h
 ·cases h
 exact h
theorem aK{X:List O4}{H:Hp}{a:O4}{o:HO}(h:a∉X)(e:H a=Vn o):del X H a=Vn o:=by
 unfold del;rw[if_neg h];exact e
theorem cw{X:List O4}{H:Hp}{a:O4}{o:HO}(h:del X H a=Vn o):a∉X/\H a=Vn o:=by
 unfold del at h;split at h
 ·cases h
 exact⟨by assumption,h⟩
noncomputable abbrev S3:List Nat:=[3,7,20]
noncomputable abbrev S7:List Nat:=[1,2,3,4,7,19,20]
def oF(ps:List Nat)(t:Th):Prop:=∀a,t=.x a->a∈S7++ps
def vOk(ps:List Nat)(v:Val):Prop:=∀t∈vTh v,oF ps t
def qx(N:Nat->Str)(X:Hp)(sc:O4)(ps:List Nat):Prop:=∃a1 a2 a3 a4,X sc=Vn (.dK [(.inr "targets",.ref a1),(.inr "things",.ref a2),(.inr "lists",.ref a3),(.inr "hands",.ref a4)])/\X a1=Vn (.lst (nV N (S3++ps)))/\X a2=Vn (.lst (nV N ([1,19]++(S3++ps))))/\X a3=Vn (.lst (nV N [2,4]))/\X a4=Vn (.lst (nV N [0,8]))
theorem qx.same{X X':Hp}(s:ai X X'){sc:O4}{ps:List Nat}(h:qx N X sc ps):qx N X' sc ps:=by
 obtain⟨a1,a2,a3,a4,h1,h2,h3,h4,h5⟩:=h;exact{a1,a2,a3,a4,s _ _ h1,s _ _ h2,s _ _ h3,s _ _ h4,s _ _ h5}
inductive yC(vs:List V)(H:Hp)(Q:VK)(Z:XK):Prop
 |mk(N:Nat->Str)(nl pp:O4)(ps:List Nat)(z0:vs=[.ref nl,.ref pp])(z1:H nl=Vn (.lst (sS (ug N))))(z2:H pp=Vn (.lst (nV N ps)))(z3:ps.length<=10)
  (z4:∀(sc:O4)(H':Hp),ai H H'->H sc=Vo->(∀M:List O4,(∀x∈M,H x≠Vo)->qx N (del M H') sc ps)->Q (.ref sc) H'):yC vs H Q Z
theorem AD(T:Txt K mg A):T.pE.Hz P w base 1 yC:=by
 refine T.pE.hs j7 (λf cdv A' outer s H vs Q E hr hu h=>?_);obtain⟨N,nl,pp,ps,rfl,hN,hP,lp,q⟩:=h;have lv:(nV N ps).length=ps.length:=Mq _;refine{_,(ab (pst 2 j7.nd (aB aL (aN (px hu (fv 0) af^px hu (fv 0) af^px hu (fv 0) af^ae)) (fv 1)))
  (ab (pst 3 j7.nd (wx (fb au (fv 2) (fb au (aB aL (aN (px hu (fv 0) af^px hu (fv 0) af^ae)) (fv 2)) (fb au (aN (px hu (fv 0) af^px hu (fv 0) af^ae)) (wy)))) rfl rfl (by intro z;cases z) ∅))
  (ab (bW (aN (px hu (fv 0) af^px hu (fv 0) af^ae)) (ik (fv 3) au (iR hu Vs)))
  (aj (aC (fv 3)))))),?_}
 refine ag λM1 K1=>nmx (j:=3) (SqL.of hN) (nmx (j:=7) (SqL.of hN) (nmx (j:=20) (SqL.of hN) {by show 3<=sizeLine;decide,λl0 h0=>?_}));obtain⟨s0,e0⟩:=alc h0 (HO.lst [.str (N 3),.str (N 7),.str (N 20)]);generalize upd H l0 _=H0 at s0 e0⊢;refine{l0,pp,_,_,rfl,rfl,e0,s0 _ _ hP,sz (by rw[lv];show 3+ps.length<=1000;lia),λa1 ha1=>?_};obtain⟨s1,e1⟩:=alc ha1 (HO.lst ([.str (N 3),.str (N 7),.str (N 20)]++nV N ps));generalize upd H0 a1 _=H1 at s1 e1⊢;have e1:H1 a1=Vn (.lst (nV N (S3++ps))):=e1;have t1:=s0.trans s1;refine K1 _ _ ?_;clear K1 M1;try dsimp only
 refine ag λM1 K1 D hD=>?_;obtain⟨s2,e2⟩:=alc hD (HO.dK []);generalize upd H1 D _=H2 at s2 e2⊢;have t2:=t1.trans s2;refine nmx (j:=1) (SqL.of (t2 _ _ hN)) (nmx (j:=19) (SqL.of (t2 _ _ hN)) {by show 2<=sizeLine;decide,λl3 h3=>?_});obtain⟨s3,e3⟩:=alc h3 (HO.lst [.str (N 1),.str (N 19)]);generalize upd H2 l3 _=H3 at s3 e3⊢;refine{l3,a1,_,_,rfl,rfl,e3,(s2.trans s3) _ _ e1,sz (by rw[Mq,Mo];show 2+(3+ps.length)<=1000;lia),λa2 ha2=>?_};obtain⟨s4,e4⟩:=alc ha2 (HO.lst ([.str (N 1),.str (N 19)]++nV N (S3++ps)));generalize upd H3 a2 _=H4 at s4 e4⊢;have e4:H4 a2=Vn (.lst (nV N ([1,19]++(S3++ps)))):=e4;have t4:=t2.trans (s3.trans s4);refine nmx (j:=2) (SqL.of (t4 _ _ hN)) (nmx (j:=4) (SqL.of (t4 _ _ hN)) {by show 2<=sizeLine;decide,λa3 ha3=>?_});obtain⟨s5,e5⟩:=alc ha3 (HO.lst [.str (N 2),.str (N 4)]);generalize upd H4 a3 _=H5 at s5 e5⊢;have t5:=t4.trans s5;have s25:=s3.trans (s4.trans s5);refine{s25 _ _ e2,[(.inr "targets",.ref a1),(.inr "things",.ref a2),(.inr "lists",.ref a3)],rfl,by show 3<=15;decide,?_};have D1:H1 D=Vo:=hD;have s15:ai H1 (upd H5 D (.dK (bu [] [(.inr "targets",.ref a1),(.inr "things",.ref a2),(.inr "lists",.ref a3)]))):=ai.out (s2.trans s25) D1 _;have n2:a2≠D:=λz=>by rw[z,s3 _ _ e2]at ha2;cases ha2
 have n3:a3≠D:=λz=>by rw[z,(s3.trans s4) _ _ e2]at ha3;cases ha3
 have k1:=s15 _ _ e1;have k2:upd H5 D (.dK (bu [] [(.inr "targets",.ref a1),(.inr "things",.ref a2),(.inr "lists",.ref a3)])) a2=_:=aw n2 (s5 _ _ e4);have k3:upd H5 D (.dK (bu [] [(.inr "targets",.ref a1),(.inr "things",.ref a2),(.inr "lists",.ref a3)])) a3=_:=aw n3 e5;have eD:upd H5 D (.dK (bu [] [(.inr "targets",.ref a1),(.inr "things",.ref a2),(.inr "lists",.ref a3)])) D=Vn (.dK [(.inr "targets",.ref a1),(.inr "things",.ref a2),(.inr "lists",.ref a3)]):=ao;generalize upd H5 D _=H6 at s15 k1 k2 k3 eD⊢;have t6:=t1.trans s15;refine K1 _ _ ?_;clear K1 M1;try dsimp only
 refine ag λM1 K1=>nmx (j:=0) (SqL.of (t6 _ _ hN)) (nmx (j:=8) (SqL.of (t6 _ _ hN)) {by show 2<=sizeLine;decide,λa4 ha4=>?_});obtain⟨s7,e7⟩:=alc ha4 (HO.lst [.str (N 0),.str (N 8)]);generalize upd H6 a4 _=H7 at s7 e7⊢;refine{_,oX.k (k:=.inr "hands") (s7 _ _ eD) (show 3<sizeLine by decide),K1 _ _ ?_};clear K1 M1;have o1:a1≠D:=λz=>by rw[z,D1]at e1;cases e1
 have o2:a2≠D:=n2;have o4:a4≠D:=λz=>by rw[z,eD]at ha4;cases ha4
 refine q D _ (t1.trans (ai.out (s15.trans s7) D1 _)) (ai.free t1 D1) λM hM=>?_;have nw:∀{x:O4},H x=Vo->x∉M:=λh m=>hM _ m h;exact{a1,a2,a3,a4,aK (nw (ai.free t1 D1)) ao,aK (nw (ai.free s0 ha1)) (aw o1 (s7 _ _ k1)),aK (nw (ai.free (t2.trans s3) ha2)) (aw o2 (s7 _ _ k2)),aK (nw (ai.free t4 ha3)) (aw n3 (s7 _ _ k3)),aK (nw (ai.free t6 ha4)) (aw o4 e7)}
theorem GQ{a:Nat}{ps:List Nat}(h:a∈[1,19]++(S3++ps)):a∈S7++ps:=by
 rcases Mu.mp h with m|m
 ·exact MK _ ((show ∀x∈([1,19]:List Nat),x∈S7 by decide) a m)
 rcases Mu.mp m with m|m
 ·exact MK _ ((show ∀x∈S3,x∈S7 by decide) a m)
 exact MD _ m
inductive uI(vs:List V)(H:Hp)(Q:VK)(Z:XK):Prop
 |mk(N:Nat->Str)(sc:O4)(ps:List Nat)(n:Int)(z0:vs=[.int n,.ref sc])(z1:0<=n)(z2:n<1000000000000000)(z3:qx N H sc ps)
  (z4:∀(t:Th)(H':Hp),ai H H'->oF ps t->Q (t.v N) H'):uI vs H Q Z
theorem mP(T:Txt K mg A):T.qa.Hz P w base 2 uI:=by
 refine T.qa.hs (k:=1) wC (λf cdv A' outer s H vs Q E hr hu h=>?_);obtain⟨N,sc,ps,n,rfl,h0,h1,hS,q⟩:=h;refine{_,(ab (aQ (ptc (b4 hu) (aB bM (fv 0) af) af)
   (aj (aC (aB bM (aB dH (aB eX (fv 0) af) af) (px hu (aN (af^aB uG af af^ae)) (aB bM (aB eX (fv 0) af) af)))))
   aF)
  (aj (aC (ak (pW T) hr (px hu (fv 1) au^aB eX (fv 0) af^ae))))),?_}
 refine ag λM1 K1=>{by show(0:Int)<2;decide,rfl,_,rfl,a9 (λ_=>?_) (λ_=>K1 _ _ ?_)}
 ·refine{{∅,∅},.inr {∅,∅},{∅,∅,∅},by show 2<=sizeLine;decide,λL hL=>?_};obtain⟨s1,e1⟩:=alc hL (HO.lst [.int 4,.int (10^(12:Int).toNat)]);generalize upd H L _=H1 at s1 e1⊢;obtain⟨m0,m1⟩:=bP (n/2) (show(0:Int)<2 by decide);refine{{∅,∅},by show(0:Int)<2;decide,?_};obtain⟨y,ay,y0⟩:∃y:Int,atI [V.int 4,.int (10^(12:Int).toNat)] (n/2%2)=Vn (.int y)/\0<y:=by
   generalize n/2%2=j at m0 m1;have cs:j=0\/j=1:=()
   rcases cs with rfl|rfl
   ·exact{4,rfl,∅}
   exact{_,rfl,∅}
  exact lix (SqL.of e1) ay {y0,q (.i _) H1 s1 (λa z=>by cases z)}
 clear K1 M1;try dsimp only
 obtain⟨a1,a2,a3,a4,h1,h2,h3,h4,h5⟩:=hS;refine dgk h1 rfl {{∅,∅},a2,_,_,rfl,SqL.of h3,by simp,λx hx=>?_};obtain⟨a,ma,rfl⟩:=MH.mp hx;refine q (.x a) H (ai.refl _) λb z=>?_;cases z;exact GQ ma
inductive Ar(vs:List V)(H:Hp)(Q:VK)(Z:XK):Prop
 |mk(N:Nat->Str)(sc:O4)(ps:List Nat)(c:Int)(z0:vs=[.int c,.ref sc])(z3:qx N H sc ps)
  (z4:∀(p:O4)(v:Val)(H':Hp),ai H H'->H p=Vo->H' p=Vn (.tup (vV N v))->vOk ps v->Q (.ref p) H'):Ar vs H Q Z
theorem LX{ps:List Nat}{t:Th}(h:oF ps t):vOk ps (.one t):=λu hu=>by
 rw[Mp.mp hu];exact h
theorem KO{ps:List Nat}{t u:Th}{x:Str}(h:oF ps t)(h':oF ps u):vOk ps (.op t x u):=λv hv=>by
 simp only[vTh,Mw,MQ,or_false]at hv;rcases hv with rfl|rfl
 ·exact h
 exact h'
theorem CY(T:Txt K mg A):T.pM.Hz P w base 3 Ar:=by
 have bc:=@oV P w _ _ base _ T;refine T.pM.hs (k:=2) gI (λf cdv A' outer s H vs Q E hr hu h=>?_);obtain⟨N,sc,ps,c,rfl,hS,q⟩:=h;refine{_,(ab (pst 2 gI.nd (ak (hj:=by lia) (mP T) hr ((ak (hj:=by lia) bc hr (fv 0^af^ae))^fv 1^ae)))
  (ab (pst 3 gI.nd (ak (hj:=by lia) (mP T) hr ((ak (hj:=by lia) bc hr (fv 0^af^ae))^fv 1^ae)))
  (ab (pst 4 gI.nd (ak (hj:=by lia) bc hr (fv 0^af^ae)))
  (ab (aQ (ptc xU (aB bM (fv 4) af) af)
   (aj (aC (aS (fv 2^ae))))
   aF)
  (ab (aQ (ptc (b4 hu) (aB bM (fv 4) af) af)
   (aj (aC (aS ((ak (hj:=by lia) (pW T) hr (px hu (fv 1) au^aB eX (fv 4) af^ae))^au^fv 3^ae))))
   aF)
  (aj (aC (aS (fv 2^(ak (hj:=by lia) (pW T) hr (aN (au^au^au^au^au^au^au^ae)^aB eX (fv 4) af^ae))^fv 3^ae))))))))),?_}
 refine ag λM1 K1=>{c,28,rfl,∅,∅,λm m0 m1=>{N,sc,ps,m,rfl,m0,m1,hS,λt1 H1 s1 o1=>K1 _ _ ?_}};clear K1 M1;try dsimp only
 refine ag λM1 K1=>{c,29,rfl,∅,∅,λm2 m20 m21=>{N,sc,ps,m2,rfl,m20,m21,hS.same s1,λt2 H2 s2 o2=>K1 _ _ ?_}};clear K1 M1;have t2':=s1.trans s2;try dsimp only
 refine ag λM1 K1=>{c,30,rfl,∅,∅,λn n0 n1=>K1 _ _ ?_};clear K1 M1;try dsimp only
 refine ag λM1 K1=>{by show(0:Int)<4;decide,_,rfl,a9 (λ_=>?_) (λ_=>K1 _ _ ?_)}
 ·exact{by show 1<=sizeLine;decide,λp hp=>q p (.one t1) _ (t2'.trans (ai.upd hp _)) (ai.free t2' hp) ao (LX o1)}
 clear K1 M1;try dsimp only
 refine ag λM1 K1=>{by show(0:Int)<4;decide,rfl,_,rfl,a9 (λ_=>?_) (λ_=>K1 _ _ ?_)}
 ·obtain⟨a1,a2,a3,a4,h1,h2,h3,h4,h5⟩:=hS.same t2';refine dgk h1 rfl {{∅,∅},a3,_,_,rfl,SqL.of h4,by simp,λx hx=>?_};obtain⟨a,ma,rfl⟩:=MH.mp hx;refine{by show 3<=sizeLine;decide,λp hp=>q p (.op (.x a) "at" t2) _ (t2'.trans (ai.upd hp _)) (ai.free t2' hp) ao (KO (λb z=>?_) o2)};cases z;exact MK _ ((show ∀x∈([2,4]:List Nat),x∈S7 by decide) a ma)
 clear K1 M1;try dsimp only
 refine{by show 7<=sizeLine;decide,λL hL=>?_};obtain⟨s3,e3⟩:=alc hL (HO.lst [.str "+",.str "-",.str "*",.str "over",.str "rest",.str "<",.str "="]);generalize upd H2 L _=H3 at s3 e3⊢;refine{{∅,∅},L,_,_,rfl,SqL.of e3,∅,λx hx=>?_};obtain⟨y,rfl⟩:∃y:Str,x=.str y:=by
  simp only[Mw,MQ,or_false]at hx;rcases hx with e|e|e|e|e|e|e<;>exact{_,e}
 refine{by show 3<=sizeLine;decide,λp hp=>?_};have t3:=t2'.trans s3;exact q p (.op t1 y t2) _ (t3.trans (ai.upd hp _)) (ai.free t3 hp) ao (KO o1 o2)
theorem Sm.del{M:List O4}{H H':Hp}(s:Sm M H H'):ai (del M H) (del M H'):=λa o h=>by
 obtain⟨h1,h2⟩:=cw h;exact aK h1 (s a o h1 h2)
theorem Sm.mono{M M':List O4}{H H':Hp}(s:Sm M H H')(m:∀a∈M,a∈M'):Sm M' H H':=λa o h e=>s a o (λz=>h (m a z)) e
structure Sa where
 S:O4
 o:O4
 t:O4
 m:O4
 d:O4
 F:O4
noncomputable abbrev Sa.M(s:Sa):List O4:=[s.S,s.o,s.t,s.m,s.d,s.F]
noncomputable abbrev Sa.Q(s:Sa):List O4:=[s.S,s.o,s.t,s.m,s.d]
def Sn(s:Sa)(H H':Hp):Prop:=Sm s.Q H H'
theorem Sa.qm{s:Sa}{a:O4}(h:a∈s.Q):a∈s.M:=by
 simp only[Sa.Q,Sa.M,Mw,MQ,or_false]at h⊢;rcases h with h|h|h|h|h<;>simp[h]
theorem Sn.del{s:Sa}{H H':Hp}(h:Sn s H H'):ai (del s.M H) (del s.M H'):=Sm.del (Sm.mono h λ_=>Sa.qm)
theorem Sn.trans{s:Sa}{H H' H'':Hp}(h:Sn s H H')(h':Sn s H' H''):Sn s H H'':=Sm.trans h h'
theorem Sn.new{s:Sa}{H H':Hp}(h:ai H H'):Sn s H H':=Sm.new h
theorem Sn.at{s:Sa}{H:Hp}{a:O4}(m:a∈s.Q)(o:HO):Sn s H (upd H a o):=Sm.at m o
noncomputable def stK(s:Sa)(room:Int):List (Key×V):=[(.inr "open",.ref s.o),(.inr "times",.ref s.t),(.inr "marks",.ref s.m),(.inr "deeds",.ref s.d),(.inr "room",.int room)]
structure Sg where
 op:List Str
 tm:List Int
 ma:List Nat
 dd:List (Nat×Nat×Int)
 room:Int
def wt(N:Nat->Str)(X:Hp)(dd:List (Nat×Nat×Int))(vs:List V):Prop:=Paired (λ(e:Nat×Nat×Int) v=>∃a,v=V.ref a/\X a=Vn (.tup [.str (N e.1),.int e.2.1,.int e.2.2])) dd vs
theorem wt.same{X X':Hp}(s:ai X X'){dd:List (Nat×Nat×Int)}{vs:List V}(h:wt N X dd vs):wt N X' dd vs:=Paired.sY h λ_ _ ⟨a,e,z⟩=>{a,e,s _ _ z}
structure SAt(N:Nat->Str)(H:Hp)(s:Sa)(g:Sg):Prop where
 hS:H s.S=Vn (.dK (stK s g.room))
 ho:H s.o=Vn (.lst (sS g.op))
 ht:H s.t=Vn (.lst (g.tm.map V.int))
 hm:H s.m=Vn (.lst (nV N g.ma))
 hd:∃ds,H s.d=Vn (.lst ds)/\wt N (del s.M H) g.dd ds
 nd:s.M.Nodup
 hF:∃ys,H s.F=Vn (.lst ys)
 mo:∀m∈g.ma,m=5\/m=6
 nm:jz N
theorem SAt.in{H:Hp}{s:Sa}{g:Sg}(h:SAt N H s g){a:O4}(m:a∈s.M):H a≠Vo:=by
 obtain⟨ds,hd,_⟩:=h.hd;obtain⟨ys,hF⟩:=h.hF;simp only[Mw,MQ,or_false]at m;rcases m with rfl|rfl|rfl|rfl|rfl|rfl
 ·rw[h.hS];simp
 ·rw[h.ho];simp
 ·rw[h.ht];simp
 ·rw[h.hm];simp
 ·rw[hd];simp
 rw[hF];simp
theorem SAt.new{H:Hp}{s:Sa}{g:Sg}(h:SAt N H s g){a:O4}(e:H a=Vo):a∉s.M:=λm=>h.in m e
theorem SAt.same{H H':Hp}{s:Sa}{g:Sg}(h:SAt N H s g)(e:ai H H'):SAt N H' s g:=by
 obtain⟨ds,hd,dd⟩:=h.hd;exact{e _ _ h.hS,e _ _ h.ho,e _ _ h.ht,e _ _ h.hm,{ds,e _ _ hd,dd.same (Sn.del (Sn.new e))},h.nd,h.hF.imp λ_ z=>e _ _ z,h.mo,h.nm}
theorem SAt.ne{H:Hp}{s:Sa}{g:Sg}(h:SAt N H s g):(s.S≠s.o/\s.S≠s.t/\s.S≠s.m/\s.S≠s.d/\s.o≠s.t/\s.o≠s.m/\s.o≠s.d/\s.t≠s.m/\s.t≠s.d/\s.m≠s.d)/\s.F≠s.S/\s.F≠s.o/\s.F≠s.t/\s.F≠s.m/\s.F≠s.d:=by
 have nd:=h.nd;simp only[Sa.M,Ni,Mw,MQ,or_false,not_or,Ot,and_true,not_false_eq_true]at nd;obtain⟨⟨a,b,c,d,x1⟩,⟨e,f,i,x2⟩,⟨j,k,x3⟩,⟨l,x4⟩,x5⟩:=nd;exact{⟨a,b,c,d,e,f,i,j,k,l⟩,MR x1,MR x2,MR x3,MR x4,MR x5}
theorem SAt.marks{H:Hp}{s:Sa}{g:Sg}(h:SAt N H s g){mk:List Nat}(e:∀m∈mk,m=5\/m=6):SAt N (upd H s.m (.lst (nV N mk))) s { g with ma:=mk }:=by
 obtain⟨⟨a,b,c,d,e',f,i,j,k,l⟩,x1,x2,x3,x4,x5⟩:=h.ne;obtain⟨ds,hd,dd⟩:=h.hd;exact{aw c h.hS,aw f h.ho,aw j h.ht,ao,{ds,aw (MR l) hd,dd.same (Sn.del (Sn.at (by simp) _))},h.nd,h.hF.imp λ_ z=>aw x4 z,e,h.nm}
theorem SAt.pJ{H:Hp}{s:Sa}{g:Sg}(h:SAt N H s g)(r:Int):SAt N (upd H s.S (.dK (stK s r))) s { g with room:=r }:=by
 obtain⟨⟨a,b,c,d,e',f,i,j,k,l⟩,x1,x2,x3,x4,x5⟩:=h.ne;obtain⟨ds,hd,dd⟩:=h.hd;exact{ao,aw (MR a) h.ho,aw (MR b) h.ht,aw (MR c) h.hm,{ds,aw (MR d) hd,dd.same (Sn.del (Sn.at (by simp) _))},h.nd,h.hF.imp λ_ z=>aw x1 z,h.mo,h.nm}
theorem SAt.opened{H:Hp}{s:Sa}{g:Sg}(h:SAt N H s g)(op:List Str):SAt N (upd H s.o (.lst (sS op))) s { g with op:=op }:=by
 obtain⟨⟨a,b,c,d,e',f,i,j,k,l⟩,x1,x2,x3,x4,x5⟩:=h.ne;obtain⟨ds,hd,dd⟩:=h.hd;exact{aw a h.hS,ao,aw (MR e') h.ht,aw (MR f) h.hm,{ds,aw (MR i) hd,dd.same (Sn.del (Sn.at (by simp) _))},h.nd,h.hF.imp λ_ z=>aw x2 z,h.mo,h.nm}
theorem SAt.G3{H:Hp}{s:Sa}{g:Sg}(h:SAt N H s g)(tm:List Int):SAt N (upd H s.t (.lst (tm.map V.int))) s { g with tm:=tm }:=by
 obtain⟨⟨a,b,c,d,e',f,i,j,k,l⟩,x1,x2,x3,x4,x5⟩:=h.ne;obtain⟨ds,hd,dd⟩:=h.hd;exact{aw b h.hS,aw e' h.ho,ao,aw (MR j) h.hm,{ds,aw (MR k) hd,dd.same (Sn.del (Sn.at (by simp) _))},h.nd,h.hF.imp λ_ z=>aw x3 z,h.mo,h.nm}
theorem jz.str(h:jz N)(i:Nat)(hi:i<24):P1 (N i)=true:=by
 unfold P1;rw[Array.all_eq_true'];intro c hc;have:=h.ch i hi c (OD.mpr hc);exact decide_eq_true ()
theorem HV{H:Hp}{p:O4}{xs:List V}{y:V}{Q:VK}(h:H p=Vn (.lst (xs++[y])))(q:Q y (upd H p (.lst xs))):Gp (.ref p) [] H Q:={p,_,y,rfl,rfl,h,by simp,by rw[List.dropLast_concat];exact q}
noncomputable def zx(ps:List Nat)(dd:List (Nat×Nat))(lp:Bool):Lr->Prop
 | .set x v=>x∈S7++ps/\vOk ps v
 | .put x t v=>x∈S7++ps/\oF ps t/\vOk ps v
 | .snd h v=>(h=0\/h=8)/\vOk ps v
 | .say x v m=>x∈S7++ps/\vOk ps v/\(m=5\/m=6)
 | .call i ts=>(i,ts.length)∈dd/\∀t∈ts,oF ps t
 | .last=>lp=true
 |_=>False
theorem Ka{a:Nat}{ps:List Nat}(h:a∈S3++ps):a∈S7++ps:=GQ (MD _ h)
theorem fr1{X:Hp}{a p:O4}{f:Fr}{o:HO}(h:X a=Vn (.tup (.str f.wd::f.ts N p)))(e:f.ob N=Vn o)(hp:X p=Vn o):kF N X (.ref a) f:={a,p,rfl,h,λo' ho=>by rw[e]at ho;cases ho;exact hp}
inductive vn(vs:List V)(H:Hp)(Q:VK)(Z:XK):Prop
 |mk(N:Nat->Str)(s:Sa)(g:Sg)(c:Int)(sc:O4)(ps:List Nat)(z0:vs=[.ref s.S,.int c,.ref sc])(z1:SAt N H s g)(z2:qx N (del s.M H) sc ps)
  (z3:∀(v:V)(r:Lr)(mk:List Nat)(H':Hp),Sn s H H'->SAt N H' s { g with ma:=mk }->kF N (del s.M H') v (.leaf r)->(∀dd lp,zx ps dd lp r)->Q v H'):vn vs H Q Z
theorem Cq(T:Txt K mg A):T.pj.Hz P w base 4 vn:=by
 have bc:=@oV P w _ _ base _ T;refine T.pj.hs (k:=3) fm (λf cdv A' outer s' H vs Q E hr hu h=>?_);obtain⟨N,s,g,c,sc,ps,rfl,hA,hS,q⟩:=h;refine{_,(ab (pst 3 fm.nd (aB bM (ak (hj:=by lia) bc hr (fv 1^af^ae)) af))
  (ab (pst 4 fm.nd (ak (hj:=by lia) (CY T) hr (fv 1^fv 2^ae)))
  (ab (pst 5 fm.nd (ak (hj:=by lia) bc hr (fv 1^af^ae)))
  (ab (pst 6 fm.nd (ak (hj:=by lia) (pW T) hr (px hu (fv 2) au^fv 5^ae)))
  (ab (aQ (PW.pt (pw_and (ptc (b4 hu) (fv 3) af) (pw_and1 (ptc (oR hu) (px hu (fv 0) au) (aN ae)))))
   (aj (aC (aS (au^fv 6^fv 4^CD (px hu (fv 0) au)^ae))))
   aF)
  (ab (aQ (ptc xU (fv 3) af)
   (aj (aC (aS (au^(ak (hj:=by lia) (pW T) hr (px hu (fv 2) au^fv 5^ae))^fv 4^ae))))
   aF)
  (ab (aQ (ptc (b4 hu) (fv 3) af)
   (aj (aC (aS (au^px hu (px hu (fv 2) au) af^(ak (hj:=by lia) (mP T) hr ((ak (hj:=by lia) bc hr (fv 1^af^ae))^fv 2^ae))^fv 4^ae))))
   aF)
  (aj (aC (aS (au^fv 6^fv 4^ae))))))))))),?_}
 refine ag λM1 K1=>{c,4,rfl,∅,∅,λm m0 m1=>{by show(0:Int)<8;decide,K1 _ _ ?_}};clear K1 M1;try dsimp only
 refine ag λM1 K1=>{N,sc,ps,c,rfl,hS.same cG,λp v H1 s1 f1 e1 ov=>K1 _ _ ?_};clear K1 M1;have A1:=hA.same s1;have S1:=hS.same (Sn.del (Sn.new s1));have p1:p∉s.M:=hA.new f1;try dsimp only
 refine ag λM1 K1=>{c,6,rfl,∅,∅,λn n0 n1=>?_};obtain⟨a1,a2,a3,a4,h1,h2,h3,h4,h5⟩:=S1;refine K1 _ _ ?_;clear K1 M1;try dsimp only
 refine ag λM1 K1=>dgk (cG _ _ h1) rfl {a1,_,n,rfl,SqL.of (cG _ _ h2),by simp,λx hx=>K1 _ _ ?_};clear K1 M1;obtain⟨a,ma,rfl⟩:=MH.mp hx;have ma':=Ka ma;have ep:∀{H':Hp},ai H1 H'->del s.M H' p=Vn (.tup (vV N v)):=λe=>aK p1 (e _ _ e1);have fin:∀(r:Lr)(t:O4)(mk:List Nat)(H2:Hp),Sn s H H2->SAt N H2 s { g with ma:=mk }->H2 t=Vo->(∀H',ai H2 H'->H' t=Vn (.tup (.str r.wd::(r.fs N p).map (·.2)))->kF N (del s.M H') (.ref t) (.leaf r))->(∀dd lp,zx ps dd lp r)->Q (.ref t) (upd H2 t (.tup (.str r.wd::(r.fs N p).map (·.2)))):=λr t mk H2 s2 A2 ht fr ok=>q _ r mk _ (s2.trans (Sn.new (ai.upd ht _))) (A2.same (ai.upd ht _)) (fr _ (ai.upd ht _) ao) ok;have go:∀(r:Lr)(t:O4)(H2:Hp),ai H1 H2->H2 t=Vo->r.ob N=Vn (.tup (vV N v))->(∀dd lp,zx ps dd lp r)->Q (.ref t) (upd H2 t (.tup (.str r.wd::(r.fs N p).map (·.2)))):=λr t H2 s2 ht eo ok=>fin r t g.ma H2 (Sn.new (s1.trans s2)) ((A1.same s2)) ht (λH' e et=>fr1 (p:=p) (aK (hA.new (ai.free (s1.trans s2) ht)) et) eo (ep (s2.trans e))) ok;try dsimp only
 refine ag λM1 K1=>?_;have rest:∀(H2:Hp),ai H1 H2->M1 [Vn (.ref s.S),Vn (.int c),Vn (.ref sc),Vn (.int (m%8)),Vn (.ref p),Vn (.int n),Vn (.str (N a))] H2:=λH2 s2=>K1 _ _ (by
  try dsimp only
  have S2:=λx o (e:del s.M H1 x=Vn o)=>s2 _ _ (cG _ _ e);refine ag λM2 K2=>{_,rfl,a9 (λ_=>?_) (λ_=>K2 _ _ ?_)}
  ·refine dgk (S2 _ _ h1) rfl {a4,_,n,rfl,SqL.of (S2 _ _ h5),by simp,λx hx=>?_};obtain⟨b,mb,rfl⟩:=MH.mp hx;refine{by show 3<=sizeLine;decide,λt ht=>go (.snd b v) t H2 s2 ht rfl λdd lp=>{?_,ov}};simpa using mb
  clear K2 M2;try dsimp only
  refine ag λM2 K2=>{rfl,_,rfl,a9 (λ_=>?_) (λ_=>K2 _ _ ?_)}
  ·refine dgk (S2 _ _ h1) rfl (lxn (j:=1) (SqL.of (S2 _ _ h4)) rfl {c,9,rfl,∅,∅,λm' m0' m1'=>{N,sc,ps,m',rfl,m0',m1',{a1,a2,a3,a4,S2 _ _ h1,S2 _ _ h2,S2 _ _ h3,S2 _ _ h4,S2 _ _ h5},λth H3 s3 oth=>{by show 4<=sizeLine;decide,λt ht=>go (.put 4 th v) t H3 (s2.trans s3) ht rfl λdd lp=>{by simp[S7],oth,ov}}}})
  try dsimp only
  refine{by show 3<=sizeLine;decide,λt ht=>go (.set a v) t H2 s2 ht rfl λdd lp=>⟨ma',ov⟩})
 refine{rfl,_,rfl,a9 (λ_=>?_) (λ_=>aZ (rest H1 (ai.refl _)))};refine dgk A1.hS rfl {MF _,λL hL=>?_};obtain⟨s2,e2⟩:=alc hL (HO.lst []);generalize upd H1 L _=H2 at s2 e2⊢;have A2:=A1.same s2;have ok:∀x∈g.ma.map N,P1 x=true:=λx hx=>by
  obtain⟨i,mi,rfl⟩:=MH.mp hx;rcases A2.mo i mi with rfl|rfl<;>exact A2.nm.str _ ∅
 refine VB (SqL.of A2.hm) (SqL.of e2) ((show nV N g.ma=sS (g.ma.map N) by simp[sS])▸oE ok) {_,rfl,?_};by_cases e0:g.ma=[]
 ·rw[e0];exact aZ (rest H2 s2)
 obtain⟨ks,k0,ek⟩:∃ks k0,g.ma=ks++[k0]:={g.ma.dropLast,g.ma.getLast e0,(Ob e0).symm};have en:(!(nV N g.ma).isEmpty)=true:=by
  cases hg:g.ma with
  |nil=>exact absurd hg e0
  |cons x r=>rfl
 rw[en];have hm:=A2.hm;rw[ek]at hm;have hm:H2 s.m=Vn (.lst (nV N ks++[.str (N k0)])):=by rw[hm];simp
 have mks:∀x∈ks,x=5\/x=6:=λx hx=>A2.mo x (by rw[ek];exact MK _ hx);have mk0:k0=5\/k0=6:=A2.mo k0 (by rw[ek];simp);have A3:=A2.marks mks;refine bN (dgk A2.hS rfl {MG {rfl,_,SqL.of hm},HV hm ?_});have s3:Sn s H2 (upd H2 s.m (.lst (nV N ks))):=Sn.at (by simp) _;refine{by show 4<=sizeLine;decide,λt ht=>fin (.say a v k0) t ks _ ((Sn.new (s1.trans s2)).trans s3) A3 ht (λH' e et=>?_) λdd lp=>⟨ma',ov,mk0⟩};have tm:t∉s.M:=A3.new ht;exact fr1 (p:=p) (aK tm et) rfl (aK p1 (e _ _ (s3 _ _ (λm=>p1 (Sa.qm m)) (s2 _ _ e1))))
inductive Tr where
 |leaf (r:Lr)|iff (v:Val) (l r:Int) (f o:List Tr)|loop (t:Th) (m l r:Int) (b:List Tr)
mutual
noncomputable def flT:Tr->List Fr
 | .leaf r=>[.leaf r]
 | .iff v l r f o=>.iff v l r::(aA f++ .els::(aA o++[.fin]))
 | .loop t m l r b=>.loop t m l r::(aA b++[.fin])
noncomputable def aA:List Tr->List Fr
 | []=>[]
 |t::ts=>flT t++aA ts
end
mutual
noncomputable def okT(ps:List Nat)(dd:List (Nat×Nat))(lp:Bool):Tr->Prop
 | .leaf r=>zx ps dd lp r
 | .iff v _ _ f o=>vOk ps v/\cM ps dd lp f/\cM ps dd lp o
 | .loop t m _ _ b=>oF ps t/\1<=m/\m<=4/\cM ps dd true b
noncomputable def cM(ps:List Nat)(dd:List (Nat×Nat))(lp:Bool):List Tr->Prop
 | []=>True
 |t::ts=>okT ps dd lp t/\cM ps dd lp ts
end
mutual
noncomputable def dpT:Tr->Nat
 | .leaf _=>0
 | .iff _ _ _ f o=>max (cy f) (cy o)+1
 | .loop _ _ _ _ b=>cy b+1
noncomputable def cy:List Tr->Nat
 | []=>0
 |t::ts=>max (dpT t) (cy ts)
end
theorem dD:∀(a b:List Tr),aA (a++b)=aA a++aA b
 | [],b=>by rw[MX,aA,MX]
 |t::a,b=>by rw[M7,aA,aA,dD a b,MB]
theorem ox(t:Tr):aA [t]=flT t:=by rw[aA,aA,MP]
theorem sy{ps:List Nat}{dd:List (Nat×Nat)}{lp:Bool}:∀{a b:List Tr},cM ps dd lp a->cM ps dd lp b->cM ps dd lp (a++b)
 | [],b,_,h=>h
 |t::a,b,h,h'=>by
  rw[cM]at h;rw[M7,cM];exact⟨h.1,sy h.2 h'⟩
theorem xX{ps:List Nat}{dd:List (Nat×Nat)}{lp:Bool}{t:Tr}(h:okT ps dd lp t):cM ps dd lp [t]:=by
 rw[cM,cM];exact⟨h,trivial⟩
theorem lQ:∀(a b:List Tr),cy (a++b)=max (cy a) (cy b)
 | [],b=>by rw[MX,cy];lia
 |t::a,b=>by rw[M7,cy,cy,lQ a b];lia
theorem xP(t:Tr):cy [t]=dpT t:=by rw[cy,cy];lia
inductive Op where
 |lp (t:Th) (m l r:Int)|i1 (v:Val) (l r:Int)|i2 (v:Val) (l r:Int) (f:List Tr)
noncomputable def Op.wd:Op->Str
 | .lp _ _ _ _=>"loop"| .i1 _ _ _=>"if"| .i2 _ _ _ _=>"other"
noncomputable def Op.fl:Op->List Fr
 | .lp t m l r=>[.loop t m l r]
 | .i1 v l r=>[.iff v l r]
 | .i2 v l r f=>.iff v l r::(aA f++[.els])
noncomputable def Op.Kw:Op->Bool
 | .lp _ _ _ _=>true
 |_=>false
noncomputable abbrev Zp:=List (List Tr×Op)
noncomputable def flZ:Zp->List Tr->List Fr
 | [],cur=>aA cur
 | (pa,op)::z,cur=>flZ z pa++(op.fl++aA cur)
noncomputable def iq(z:Zp):List Str:=(z.map λe=>e.2.wd).reverse
noncomputable def lpZ(z:Zp):Bool:=z.any λe=>e.2.Kw
noncomputable def Kb(ps:List Nat)(dd:List (Nat×Nat))(lp:Bool)(k:Nat):Op->Prop
 | .lp t m _ _=>oF ps t/\1<=m/\m<=4
 | .i1 v _ _=>vOk ps v
 | .i2 v _ _ f=>vOk ps v/\cM ps dd lp f/\cy f+k+1<=6
noncomputable def okZ(ps:List Nat)(dd:List (Nat×Nat)):Zp->Prop
 | []=>True
 | (pa,op)::z=>cM ps dd (lpZ z) pa/\cy pa+z.length<=6/\Kb ps dd (lpZ z) z.length op/\okZ ps dd z
noncomputable def Op.mu:Op->Nat
 | .i1 _ _ _=>2
 |_=>1
noncomputable def muZ(z:Zp):Nat:=(z.map λe=>e.2.mu).sum
theorem Ae(z:Zp)(a b:List Tr):flZ z (a++b)=flZ z a++aA b:=by
 cases z with
 |nil=>exact dD a b
 |cons e z=>
  obtain⟨pa,op⟩:=e;show flZ z pa++(op.fl++aA (a++b))=flZ z pa++(op.fl++aA a)++aA b;rw[dD];simp only[MB]
theorem Cr:∀z:Zp,muZ z<=2*z.length
 | []=>Ms _
 | (pa,op)::z=>by
  have:=Cr z;have h:op.mu<=2:=by cases op<;>simp[Op.mu]
  unfold muZ at this⊢;rw[MJ,Of,Mx];show op.mu+_<=_;lia
structure BAt(N:Nat->Str)(H:Hp)(s:Sa)(g:Sg)(ps:List Nat)(dd:List (Nat×Nat))(z:Zp)(cur:List Tr):Prop where
 a:SAt N H s g
 op:g.op=iq z
 tl:g.tm.length=z.length+1
 tb:∀x∈g.tm,1<=x/\x<=6
 de:g.dd.map (λe=>(e.1,e.2.1))=dd
 oz:okZ ps dd z
 oc:cM ps dd (lpZ z) cur
 zl:z.length<=6
 dc:cy cur+z.length<=6
theorem oO(e:List Tr×Op)(z:Zp):iq (e::z)=iq z++[e.2.wd]:=by
 unfold iq;rw[MJ,List.reverse_cons]
theorem iX{xs:List V}{y:V}:atI (xs++[y]) (-1)=Vn y:=by
 have e:ixN (xs++[y]).length (-1)=Vn xs.length:=by
  unfold ixN;rw[if_neg ∅,if_pos (by rw[Mo,Mr];lia),Mo,Mr];congr 1;lia
 unfold atI;rw[e];simp
theorem Fg{xs:List V}{y:V}:ixN (xs++[y]).length (-1)=Vn xs.length:=by
 unfold ixN;rw[if_neg ∅,if_pos (by rw[Mo,Mr];lia),Mo,Mr];congr 1;lia
theorem DD{xs:List V}{y v:V}:(xs++[y]).set xs.length v=xs++[v]:=by
 rw[OC _ _ (Ms _),Nz];rfl
theorem Cg(e:List Tr×Op)(z:Zp):lpZ (e::z)=(e.2.Kw||lpZ z):=rfl
theorem wV(a:List Str)(x:Str):sS (a++[x])=sS a++[.str x]:=by simp[sS]
inductive ur(vs:List V)(H:Hp)(Q:VK)(Z:XK):Prop
 |mk(N:Nat->Str)(s:Sa)(g:Sg)(ps:List Nat)(dd:List (Nat×Nat))(z:Zp)(cur:List Tr)(z0:vs=[.ref s.S])(z1:BAt N H s g ps dd z cur)(z2:z≠[])
  (z3:∀(v:V)(f:Fr)(g':Sg)(z':Zp)(cur':List Tr)(H':Hp),Sn s H H'->BAt N H' s g' ps dd z' cur'->g'.dd=g.dd->flZ z' cur'=flZ z cur++[f]->muZ z'+1=muZ z->kF N (del s.M H') v f->Q v H'):ur vs H Q Z
theorem xI(T:Txt K mg A):T.nN.Hz P w base 1 ur:=by
 refine T.nN.hs tW (λf cdv A' outer s' H vs Q E hr hu h=>?_);obtain⟨N,s,g,ps,dd,z,cur,rfl,B,hz,q⟩:=h;cases z with
 |nil=>exact absurd rfl hz
 |cons e z=>
 obtain⟨pa,op⟩:=e;have ho:=B.a.ho;rw[B.op,oO,wV]at ho;have oz:=B.oz;unfold okZ at oz;obtain⟨o1,o2,o3,o4⟩:=oz;have oc:=B.oc;have dc:=B.dc;have zl:=B.zl;rw[Mx]at dc zl;refine{_,(ab (aQ (ptc (b4 hu) (px hu (px hu (fv 0) au) (nC jN af)) au)
   (ab (bW au (ik (px hu (fv 0) au) (nC jN af) (iR hu Vs)))
   (aj (aC (aS (au^ae)))))
   aF)
  (ab (aO (CD (px hu (fv 0) au)))
  (ab (aO (CD (px hu (fv 0) au)))
  (aj (aC (aS (au^ae))))))),?_}
 refine ag λM1 K1=>dgk B.a.hS rfl {_,rfl,lix (SqL.of ho) iX {rfl,_,rfl,?_}};have fin:∀(t:Tr),op.mu=1->flT t=op.fl++(aA cur++[.fin])->okT ps dd (lpZ z) t->dpT t+z.length<=6->M1 [Vn (.ref s.S)] H:=by
  intro t em ef ok dt;refine K1 _ _ ?_;clear K1 M1;obtain⟨ts,t0,et⟩:∃ts t0,g.tm=ts++[t0]:=by
   have:g.tm≠[]:=λz=>by
    have:=B.tl;rw[z]at this;cases this
   exact{g.tm.dropLast,g.tm.getLast this,(Ob this).symm}
  have A1:=B.a.opened (iq z);have tl:=B.tl;rw[et,Mo,Mr,Mx]at tl;refine ag λM1 K1=>dgk B.a.hS rfl {MG {rfl,_,SqL.of ho},HV ho (K1 _ _ ?_)};clear K1 M1;have ht:=A1.ht;have ht:upd H s.o (.lst (sS (iq z))) s.t=Vn (.lst (ts.map V.int++[.int t0])):=by rw[ht];show Vn (HO.lst (g.tm.map V.int))=_;rw[et];simp
  have A2:=A1.G3 ts;have s1:Sn s H (upd H s.o (.lst (sS (iq z)))):=Sn.at (by simp) _;have s2:Sn s (upd H s.o (.lst (sS (iq z)))) (upd (upd H s.o (.lst (sS (iq z)))) s.t (.lst (ts.map V.int))):=Sn.at (by simp) _;try dsimp only
  refine ag λM1 K1=>dgk A1.hS rfl {MG {rfl,_,SqL.of ht},HV ht (K1 _ _ ?_)};clear K1 M1;try dsimp only
  refine{by show 1<=sizeLine;decide,λr hr=>?_};have s3:=ai.upd hr (.tup [V.str "end"]);refine q _ .fin { g with op:=iq z,tm:=ts } z (pa++[t]) _ ((s1.trans s2).trans (Sn.new s3)) ⟨A2.same s3,rfl,by show ts.length=_;lia,λx hx=>B.tb x (by rw[et];exact MK _ hx),B.de,o4,sy o1 (xX ok),(),?_⟩ rfl ?_ ?_ (fr0 (aK (A2.new hr) ao) rfl)
  ·rw[lQ,xP];lia
  ·rw[Ae,ox,ef];show _=flZ z pa++(op.fl++aA cur)++[.fin];simp only[MB]
  unfold muZ;rw[MJ,Of];show _=op.mu+_;rw[em];lia
 cases op with
 |lp t m l r=>
  refine a9 (λz=>absurd z (show ¬ decide (V.str "loop"=V.str "if")=true by decide)) (λ_=>fin (.loop t m l r cur) rfl (by rw[flT];rfl) (by rw[okT];exact⟨o3.1,o3.2.1,o3.2.2,oc⟩) (by rw[dpT];lia))
 |i2 v l r f=>
  refine a9 (λz=>absurd z (show ¬ decide (V.str "other"=V.str "if")=true by decide)) (λ_=>fin (.iff v l r f cur) rfl (by rw[flT];simp[Op.fl]) (by rw[okT];exact⟨o3.1,o3.2.1,oc⟩) ?_);rw[dpT];have:=o3.2.2;lia
 |i1 v l r=>
  clear fin K1;refine a9 (λ_=>?_) (λz=>absurd (show decide (V.str "if"=V.str "if")=true from decide_eq_true rfl) z);have A1:=B.a.opened (iq z++[("other":Str)]);have s1:Sn s H (upd H s.o (.lst (sS (iq z++[("other":Str)])))):=Sn.at (by simp) _;refine ag λM2 K2=>dgk B.a.hS rfl {_,rfl,MG {_,_,ho,Fg,?_}};rw[DD,<-wV];refine K2 _ _ ?_;clear K2;try dsimp only
  refine{by show 1<=sizeLine;decide,λr' hr=>?_};have s3:=ai.upd hr (.tup [V.str "else"]);refine q _ .els { g with op:=iq z++[("other":Str)] } ((pa,.i2 v l r cur)::z) [] _ (s1.trans (Sn.new s3)) ⟨A1.same s3,by rw[oO];rfl,B.tl,B.tb,B.de,{o1,o2,{o3,oc,()},o4},by rw[cM];trivial,by rw[Mx];lia,by rw[cy,Mx];lia⟩ rfl ?_ ?_ (fr0 (aK (A1.new hr) ao) rfl)
  ·show flZ z pa++(Op.fl (.i2 v l r cur)++aA [])=flZ z pa++(Op.fl (.i1 v l r)++aA cur)++[.els];rw[aA];simp[Op.fl]
  unfold muZ;rw[MJ,Of,MJ,Of];show 1+_+1=2+_;lia
end
section
variable{P:Program}{w:Pf}{K:Pa}{mg:Str->Option E9}{base:PH}{A:Adr}{N:Nat->Str}
seal PE PA PS PSs PT PW
theorem BAt.times{H:Hp}{s:Sa}{g:Sg}{ps:List Nat}{dd:List (Nat×Nat)}{z:Zp}{cur:List Tr}(B:BAt N H s g ps dd z cur):∃ts t0,g.tm=ts++[t0]/\1<=t0/\t0<=6:=by
 have:g.tm≠[]:=λz=>by
  have:=B.tl;rw[z]at this;cases this
 have e:=(Ob this).symm;have m:=B.tb (g.tm.getLast this) (List.getLast_mem _);exact{_,_,e,m.1,m.2}
theorem yT{ts:List Int}{t0:Int}:(ts++[t0]).map V.int=ts.map V.int++[.int t0]:=by simp
theorem BAt.pJ{H:Hp}{s:Sa}{g:Sg}{ps:List Nat}{dd:List (Nat×Nat)}{z:Zp}{cur:List Tr}(B:BAt N H s g ps dd z cur)(r:Int):BAt N (upd H s.S (.dK (stK s r))) s { g with room:=r } ps dd z cur:=⟨B.a.pJ r,B.op,B.tl,B.tb,B.de,B.oz,B.oc,B.zl,B.dc⟩
theorem BAt.same{H H':Hp}{s:Sa}{g:Sg}{ps:List Nat}{dd:List (Nat×Nat)}{z:Zp}{cur:List Tr}(B:BAt N H s g ps dd z cur)(e:ai H H'):BAt N H' s g ps dd z cur:=⟨B.a.same e,B.op,B.tl,B.tb,B.de,B.oz,B.oc,B.zl,B.dc⟩
theorem ow(s:Sa)(r r':Int):Vv (stK s r) (.inr "room") (.int r')=stK s r':=rfl
inductive uH(vs:List V)(H:Hp)(Q:VK)(Z:XK):Prop
 |mk(N:Nat->Str)(s:Sa)(g:Sg)(ps:List Nat)(dd:List (Nat×Nat))(z:Zp)(cur:List Tr)(c:Int)(sc:O4)(b:Bool)(z0:vs=[.ref s.S,.int c,.ref sc,.bl b])(z1:BAt N H s g ps dd z cur)(z2:z.length<6)(z4:qx N (del s.M H) sc ps)
  (z3:∀(v:V)(f:Fr)(g':Sg)(z':Zp)(cur':List Tr)(H':Hp),Sn s H H'->BAt N H' s g' ps dd z' cur'->g'.dd=g.dd->flZ z' cur'=flZ z cur++[f]->kF N (del s.M H') v f->Q v H'):uH vs H Q Z
theorem CN(T:Txt K mg A):T.nW.Hz P w base 4 uH:=by
 refine T.nW.hs (k:=3) da (λf cdv A' outer s' H vs Q E hr hu h=>?_);obtain⟨N,s,g,ps,dd,z,cur,c,sc,b,rfl,B,zl,hS,q⟩:=h;obtain⟨ts,t0,et,t1,t6⟩:=B.times;have htm:H s.t=Vn (.lst (ts.map V.int++[.int t0])):=by rw[B.a.ht,et,yT]
 refine{_,(ab (pst 4 da.nd (ak (hj:=by lia) (oV T) hr (fv 1^af^ae)))
  (ab (pst 5 da.nd (aB dH (aB bM (fv 4) af) (aB bM (aB eX (fv 4) af) af)))
  (ab (pst 6 da.nd (aB dH (aB bM (aB eX (fv 4) af) af) (aB bM (aB eX (fv 4) af) af)))
  (ab (pst 7 da.nd (aB aL af (aB bM (aB eX (fv 4) af) af)))
  (ab (aQ (ptc zD (aB dH (px hu (px hu (fv 0) au) (nC jN af)) (fv 7)) af)
   (aj (pst 7 da.nd af))
   aF)
  (ab (bW (aB oU (px hu (fv 0) au) (aB dH (aB dH (px hu (px hu (fv 0) au) (nC jN af)) (fv 7)) (aB aL (fv 5) (fv 6)))) (ik (fv 0) au (iR hu Vs)))
  (ab (aQ (bw (fv 3) (λ_=>rfl))
   (ab (aO (bt (px hu (fv 0) au) (au^ae)))
   (ab (aO (bt (px hu (fv 0) au) (aB dH (px hu (px hu (fv 0) au) (nC jN af)) (fv 7)^ae)))
   (aj (aC (aS (au^(ak (hj:=by lia) (mP T) hr ((ak (hj:=by lia) (oV T) hr (fv 1^af^ae))^fv 2^ae))^fv 7^fv 5^fv 6^ae))))))
   aF)
  (ab (aO (bt (px hu (fv 0) au) (au^ae)))
  (ab (aO (bt (px hu (fv 0) au) (px hu (px hu (fv 0) au) (nC jN af)^ae)))
  (aj (aC (aS (au^(ak (hj:=by lia) (CY T) hr (fv 1^fv 2^ae))^fv 5^fv 6^ae))))))))))))),?_}
 refine ag λM1 K1=>{c,7,rfl,∅,∅,λn n0 n1=>?_};have sm:∀{x:Int},0<=x->x<100->-(2^64)<x/\x<2^64:=λa b=>()
 obtain⟨a0,a1⟩:=bP n (show(0:Int)<3 by decide);obtain⟨b0,b1⟩:=bP (n/12) (show(0:Int)<3 by decide);refine K1 _ _ ?_;clear K1 M1;try dsimp only
 refine ag λM1 K1=>{by show(0:Int)<3;decide,{∅,∅},by show(0:Int)<4;decide,.inl (sm a0 ()),K1 _ _ ?_};clear K1 M1;try dsimp only
 refine ag λM1 K1=>{{∅,∅},by show(0:Int)<3;decide,{∅,∅},by show(0:Int)<4;decide,.inl (sm b0 ()),?_};obtain⟨m0,m1⟩:=bP (n/144) (show(0:Int)<4 by decide);refine K1 _ _ ?_;clear K1 M1;try dsimp only
 refine ag λM1 K1=>{{∅,∅},by show(0:Int)<4;decide,K1 _ _ ?_};clear K1 M1;try dsimp only
 refine ag λM1 K1=>?_;have fin:∀(mm l r:Int),1<=mm->mm<=4->t0*mm<=6->M1 [Vn (.ref s.S),Vn (.int c),Vn (.ref sc),Vn (.bl b),Vn (.int n),Vn (.int l),Vn (.int r),Vn (.int mm)] H:=by
  intro mm l r h1 h4 h6;have tp:1<=t0*mm:=Int.mul_pos () ();refine K1 _ _ ?_;clear K1 M1;try dsimp only
  refine ag λM1 K1=>dgk B.a.hS rfl (dgk B.a.hS rfl {_,rfl,lix (SqL.of htm) iX {.inl (sm () ()),.inl (sm () ()),{_,oX.k (k:=.inr "room") B.a.hS (show 5<sizeLine by decide),K1 _ _ ?_}}});clear K1 M1;rw[ow];have A1:=B.a.pJ (g.room-t0*mm*(l+r));have s1:Sn s H (upd H s.S (.dK (stK s (g.room-t0*mm*(l+r))))):=Sn.at (by simp) _;have nn:=B.a.ne;have ht1:upd H s.S (.dK (stK s (g.room-t0*mm*(l+r)))) s.t=Vn (.lst (ts.map V.int++[.int t0])):=aw (MR nn.1.2.1) htm;have ho1:=A1.ho;generalize upd H s.S _=H1 at A1 s1 ht1 ho1⊢;have lo:g.op.length=z.length:=by rw[B.op];simp[iq]
  have ltm:g.tm.length=z.length+1:=B.tl;have tll:ts.length=z.length:=by rw[et,Mo,Mr]at ltm;lia
  have push:∀(op:Op)(tn:Int),1<=tn->tn<=6->Kb ps dd (lpZ z) z.length op->BAt N (upd (upd H1 s.o (.lst (sS (g.op++[op.wd])))) s.t (.lst ((g.tm++[tn]).map V.int))) s { g with room:=g.room-t0*mm*(l+r),op:=g.op++[op.wd],tm:=g.tm++[tn] } ps dd ((cur,op)::z) []:=λop tn h1 h6 ok=>by
   refine{(A1.opened (g.op++[op.wd])).G3 (g.tm++[tn]),by show g.op++[op.wd]=_;rw[oO,B.op],by show(g.tm++[tn]).length=_;rw[Mo,Mr,Mx];lia,λx hx=>?_,B.de,⟨B.oc,B.dc,ok,B.oz⟩,by rw[cM];trivial,by rw[Mx];lia,by rw[cy,Mx];lia};rcases Mu.mp hx with m|m
   ·exact B.tb x m
   rw[Mp.mp m];exact⟨h1,h6⟩
  have fl:∀(op:Op)(f:Fr),op.fl=[f]->flZ ((cur,op)::z) []=flZ z cur++[f]:=λop f e=>by
   show flZ z cur++(op.fl++aA [])=_;rw[e,aA,MP]
  have S1:=hS.same (Sn.del s1);cases b with
  |true=>
   refine ag λM1 K1=>{_,rfl,bN ?_};have A2:=A1.opened (g.op++[("loop":Str)]);have s2:Sn s H1 (upd H1 s.o (.lst (sS (g.op++[("loop":Str)])))):=Sn.at (by simp) _;have ht2:upd H1 s.o (.lst (sS (g.op++[("loop":Str)]))) s.t=Vn (.lst (ts.map V.int++[.int t0])):=aw (MR nn.1.2.2.2.2.1) ht1;refine ag λM2 K2=>dgk A1.hS rfl {MG {rfl,_,SqL.of ho1},_,_,_,rfl,rfl,ho1,aG (by rw[Mq];show g.op.length<=1000;lia),?_};rw[<-wV];refine K2 _ _ ?_;clear K2 M2;try dsimp only
   refine ag λM2 K2=>dgk A2.hS rfl {MG {rfl,_,SqL.of ht2},dgk A2.hS rfl {_,rfl,lix (SqL.of ht2) iX {.inl (sm () ()),{_,_,_,rfl,rfl,ht2,aG (by rw[Mo,Mq,Mr];lia),K2 _ _ ?_}}}};clear K2 M2;rw[show ts.map V.int++[.int t0]++[.int (t0*mm)]=(g.tm++[t0*mm]).map V.int by rw[et];simp];have s3:Sn s (upd H1 s.o (.lst (sS (g.op++[("loop":Str)])))) (upd (upd H1 s.o (.lst (sS (g.op++[("loop":Str)])))) s.t (.lst ((g.tm++[t0*mm]).map V.int))):=Sn.at (by simp) _;have t3:=(s1.trans s2).trans s3;have S3:=hS.same (Sn.del t3);try dsimp only
   refine{c,8,rfl,∅,∅,λm' m0' m1'=>{N,sc,ps,m',rfl,m0',m1',S3.same cG,λth H4 s4 oth=>?_}};have B4:=(push (.lp th mm l r) (t0*mm) tp h6 ⟨oth,h1,h4⟩).same s4;refine{by show 5<=sizeLine;decide,λrr hrr=>?_};have s5:=ai.upd hrr (.tup [V.str "loop",th.v N,.int mm,.int l,.int r]);exact q _ (.loop th mm l r) _ _ _ _ (t3.trans (Sn.new (s4.trans s5))) (B4.same s5) rfl (fl _ _ rfl) (fr0 (aK (B4.a.new hrr) ao) rfl)
  |false=>
   refine ag λM1 K1=>{_,rfl,aZ (K1 _ _ ?_)};clear K1 M1;try dsimp only
   have A2:=A1.opened (g.op++[("if":Str)]);have s2:Sn s H1 (upd H1 s.o (.lst (sS (g.op++[("if":Str)])))):=Sn.at (by simp) _;have ht2:upd H1 s.o (.lst (sS (g.op++[("if":Str)]))) s.t=Vn (.lst (ts.map V.int++[.int t0])):=aw (MR nn.1.2.2.2.2.1) ht1;refine ag λM2 K2=>dgk A1.hS rfl {MG {rfl,_,SqL.of ho1},_,_,_,rfl,rfl,ho1,aG (by rw[Mq];show g.op.length<=1000;lia),?_};rw[<-wV];refine K2 _ _ ?_;clear K2 M2;try dsimp only
   refine ag λM2 K2=>dgk A2.hS rfl {MG {rfl,_,SqL.of ht2},dgk A2.hS rfl {_,rfl,lix (SqL.of ht2) iX {_,_,_,rfl,rfl,ht2,aG (by rw[Mo,Mq,Mr];lia),K2 _ _ ?_}}};clear K2 M2;rw[show ts.map V.int++[.int t0]++[.int t0]=(g.tm++[t0]).map V.int by rw[et];simp];have s3:Sn s (upd H1 s.o (.lst (sS (g.op++[("if":Str)])))) (upd (upd H1 s.o (.lst (sS (g.op++[("if":Str)])))) s.t (.lst ((g.tm++[t0]).map V.int))):=Sn.at (by simp) _;have t3:=(s1.trans s2).trans s3;have S3:=hS.same (Sn.del t3);try dsimp only
   refine{N,sc,ps,c,rfl,S3.same cG,λp v H4 s4 f4 e4 ov=>?_};have B3:=push (.i1 v l r) t0 t1 t6 ov;have p4:p∉s.M:=B3.a.new f4;have B4:=B3.same s4;refine{by show 4<=sizeLine;decide,λrr hrr=>?_};have s5:=ai.upd hrr (.tup [V.str "if",.ref p,.int l,.int r]);exact q _ (.iff v l r) _ _ _ _ (t3.trans (Sn.new (s4.trans s5))) (B4.same s5) rfl (fl _ _ rfl) (fr1 (p:=p) (aK (B4.a.new hrr) ao) rfl (aK p4 (s5 _ _ e4)))
 refine dgk B.a.hS rfl {_,rfl,lix (SqL.of htm) iX {.inl (sm () ()),_,rfl,a9 (λ_=>fin 1 _ _ ∅ ∅ ()) (λz=>fin _ _ _ () () ?_)}};have:=of_decide_eq_false (NW.mpr z);lia
theorem GG{H:Hp}{p q:O4}{xs:List V}{ds:List Sk}(hp:SqL K H p xs)(hq:SqL K H q [])(h1:gx K H xs ds)(sh:P4 (.list ds)=true){Q:VK}(k:Q (.bl (!xs.isEmpty)) H):fNe K (.ref p) (.ref q) H Q:=by
 refine{.list ds,.list [],.lst hp h1,.lst hq .nil,sh,rfl,?_};cases h1 with
 |nil=>exact k
 |cons _ _=>exact k
noncomputable def ddD(N:Nat->Str)(e:Nat×Nat×Int):Sk:=.tuple [.str (N e.1),.int e.2.1,.int e.2.2]
theorem Du(nm:jz N){X H:Hp}(s:ai X H):∀{dd:List (Nat×Nat×Int)}{ds:List V},wt N X dd ds->(∀e∈dd,e.1<24)->gx K H ds (dd.map (ddD N))/\Qj (dd.map (ddD N))=true/\Qr (dd.map (ddD N))<=1
 |_,_,.nil,_=>{.nil,rfl,MF _}
 |e::dd,_,.cons h r,ok=>by
  obtain⟨a,rfl,ha⟩:=h;obtain⟨h1,h2,h3⟩:=Du nm s r λe he=>ok e (Mz _ he);have so:=nm.str e.1 (ok e MA);refine{.cons (.tup (SqT.of (s _ _ ha)) (.cons (.str _) (.cons (.int _) (.cons (.int _) .nil)))) h1,?_,?_}
  ·rw[MJ];simp[ddD,Qj,QO,h2,so]
  rw[MJ];simp[ddD,Qr,Ro];lia
theorem Ht(z:Zp):decide (("loop":Str)∈iq z)=lpZ z:=by
 induction z with
 |nil=>rfl
 |cons e z ih=>
  rw[oO,Cg,<-ih];obtain⟨pa,op⟩:=e;cases op with
  |lp _ _ _ _=>
   show decide (_∈iq z++[("loop":Str)])=(true||_);rw[decide_eq_true (by simp)];rfl
  |i1 _ _ _=>
   show decide (_∈iq z++[("if":Str)])=(false||_);rw[OI];refine decide_eq_decide.mpr ⟨λh=>?_,λh=>MK _ h⟩;rcases Mu.mp h with h|h
   ·exact h
   exact absurd (Mp.mp h) ∅
  |i2 _ _ _ _=>
   show decide (_∈iq z++[("other":Str)])=(false||_);rw[OI];refine decide_eq_decide.mpr ⟨λh=>?_,λh=>MK _ h⟩;rcases Mu.mp h with h|h
   ·exact h
   exact absurd (Mp.mp h) ∅
theorem CT(op:Op):P1 op.wd=true:=by
 cases op with
 |lp _ _ _ _=>exact(by decide+kernel:P1 ("loop":Str)=true)
 |i1 _ _ _=>exact(by decide+kernel:P1 ("if":Str)=true)
 |i2 _ _ _ _=>exact(by decide+kernel:P1 ("other":Str)=true)
inductive AX(vs:List V)(H:Hp)(Q:VK)(Z:XK):Prop
 |mk(N:Nat->Str)(s:Sa)(g:Sg)(ps:List Nat)(dd:List (Nat×Nat))(z:Zp)(cur:List Tr)(c:Int)(sc:O4)(z0:vs=[.ref s.S,.int c,.ref sc])(z1:BAt N H s g ps dd z cur)(z4:qx N (del s.M H) sc ps)(z5:∀e∈g.dd,e.1<24/\e.2.1<=4)
  (z3:∀(v:V)(f:Fr)(g':Sg)(z':Zp)(cur':List Tr)(H':Hp),Sn s H H'->BAt N H' s g' ps dd z' cur'->g'.dd=g.dd->flZ z' cur'=flZ z cur++[f]->kF N (del s.M H') v f->Q v H'):AX vs H Q Z
theorem BAt.leaf{H:Hp}{s:Sa}{g:Sg}{ps:List Nat}{dd:List (Nat×Nat)}{z:Zp}{cur:List Tr}(B:BAt N H s g ps dd z cur){r:Lr}(ok:zx ps dd (lpZ z) r):BAt N H s g ps dd z (cur++[.leaf r])/\flZ z (cur++[.leaf r])=flZ z cur++[.leaf r]:=by
 refine{{B.a,B.op,B.tl,B.tb,B.de,B.oz,sy B.oc (xX (by rw[okT];exact ok)),B.zl,?_},?_}
 ·rw[lQ,xP,dpT];have:=B.dc;lia
 rw[Ae,ox,flT]
theorem Il{ps:List Nat}{ys:List V}(h:∀(i:Nat) y,ys[i]?=Vn y->∃t:Th,y=t.v N/\oF ps t):∃ts:List Th,ys=ts.map (Th.v N)/\∀t∈ts,oF ps t:=by
 induction ys with
 |nil=>exact{[],rfl,λt ht=>by cases ht}
 |cons y r ih=>
  obtain⟨t,rfl,ht⟩:=h 0 y rfl;obtain⟨ts,rfl,hts⟩:=ih λi z hz=>h (i+1) z hz;refine{t::ts,rfl,λu hu=>?_};rcases Mw.mp hu with rfl|hu
  ·exact ht
  exact hts u hu
theorem HI(T:Txt K mg A):T.wG.Hz P w base 5 AX:=by
 refine T.wG.hs (k:=4) ib (λf cdv A' outer s' H vs Q E hr hu h=>?_);obtain⟨N,s,g,ps,dd,z,cur,c,sc,rfl,B,hS,hdd,q⟩:=h;refine{_,(ab (pst 3 ib.nd (aB bM (fv 1) af))
  (ab (aQ (PW.pt (pw_and (ptc zD (fv 3) af) (pw_and1 (ptc (oR hu) (px hu (fv 0) au) (aN ae)))))
   (aj (aC (ak (hj:=by lia) (xI T) hr (fv 0^ae))))
   aF)
  (ab (bW (aB oU (px hu (fv 0) au) (px hu (px hu (fv 0) au) (nC jN af))) (ik (fv 0) au (iR hu Vs)))
  (ab (aQ (PW.pt (pw_and (ptc zD (fv 3) af) (pw_and (ptc xU (fv 3) af) (pw_and (ptc xU (pcB eO T.fX (px hu (fv 0) au^ae)) af) (pw_and1 (ptc zD (px hu (fv 0) au) af))))))
   (aj (aC (ak (hj:=by lia) (CN T) hr (fv 0^fv 1^fv 2^pec xU (fv 3) af^ae))))
   aF)
  (ab (aQ (PW.pt (pw_and (ptc (b4 hu) (fv 3) af) (pw_and1 (ptc (oR hu) (px hu (fv 0) au) (aN ae)))))
   (ab (bW (ak (hj:=by lia) (pW T) hr (px hu (fv 0) au^(ak (hj:=by lia) (oV T) hr (fv 1^af^ae))^ae)) (dG rfl (aP (pgn (i:=4) ib.nd rfl) (aP (pgn (i:=5) ib.nd rfl) (aP (pgn (i:=6) ib.nd rfl) cF)))))
   (aj (aQ (ptc zD (px hu (fv 0) au) (aB dH (px hu (px hu (fv 0) au) (nC jN af)) (fv 6)))
    (ab (bW (aB oU (px hu (fv 0) au) (aB dH (px hu (px hu (fv 0) au) (nC jN af)) (fv 6))) (ik (fv 0) au (iR hu Vs)))
    (aj (aC (aS (au^fv 4^(fO (N:=["_law_k","_law_scope_here","_law_cell"]) (own:=1) (fr:=[2,1]) (cA.of (by kernel_rfl!)) rfl (di rfl T.dz (fv 5^ae)) (λb=>pgn (i:=0) (show Qe (["_law_k","_law_scope_here","_law_cell"]:List QN) by decide+kernel) rfl) (λb=>lH) (λb=>ak (hj:=by lia) (mP T) hr ((ak (hj:=by lia) (oV T) hr (fv 2^aB aL af (fv 0)^ae))^fv 1^ae)))^ae)))))
    aF)))
   aF)
  (ab (aQ (PW.pt (pw_and (ptc (b4 hu) (fv 3) af) (pw_and1 (ptc (AA hu) au (px hu (fv 0) au) ((by with_unfolding_all rfl))))))
   (aj (aC (aS (au^ae))))
   aF)
  (aj (aC (ak (hj:=by lia) (Cq T) hr (fv 0^fv 1^fv 2^ae)))))))))),?_}
 refine ag λM1 K1=>{by show(0:Int)<11;decide,K1 _ _ ?_};clear K1 M1;try dsimp only
 refine ag λM1 K1=>?_;have go:∀H1,ai H H1->M1 [Vn (.ref s.S),Vn (.int c),Vn (.ref sc),Vn (.int (c%11)),Vo,Vo,Vo] H1:=by
  intro H1 s1;refine K1 _ _ ?_;clear K1 M1;have B1:=B.same s1;obtain⟨ts,t0,et,t1,t6⟩:=B.times;have htm:H1 s.t=Vn (.lst (ts.map V.int++[.int t0])):=by rw[B1.a.ht,et,yT]
  try dsimp only
  refine ag λM1 K1=>dgk B1.a.hS rfl (dgk B1.a.hS rfl {_,rfl,lix (SqL.of htm) iX {_,oX.k (k:=.inr "room") B1.a.hS (show 5<sizeLine by decide),K1 _ _ ?_}});clear K1 M1;rw[ow];have B2:=B1.pJ (g.room-t0);have s2:Sn s H1 (upd H1 s.S (.dK (stK s (g.room-t0)))):=Sn.at (by simp) _;have htm2:upd H1 s.S (.dK (stK s (g.room-t0))) s.t=Vn (.lst (ts.map V.int++[.int t0])):=by rw[B2.a.ht];show Vn (HO.lst (g.tm.map V.int))=_;rw[et,yT]
  have t2:Sn s H (upd H1 s.S (.dK (stK s (g.room-t0)))):=(Sn.new s1).trans s2;generalize upd H1 s.S _=H2 at B2 s2 htm2 t2⊢;generalize g.room-t0=rm at B2;have S2:=hS.same (Sn.del t2);have ho2:=B2.a.ho;have lo:g.op.length=z.length:=by rw[B.op];simp[iq]
  try dsimp only
  refine ag λM1 K1=>?_;have go2:M1 [Vn (.ref s.S),Vn (.int c),Vn (.ref sc),Vn (.int (c%11)),Vo,Vo,Vo] H2:=by
   refine K1 _ _ ?_;clear K1 M1;try dsimp only
   refine ag λM1 K1=>?_;have go3:∀(v4 v5 v6:Option V)(H3:Hp),ai H2 H3->M1 [Vn (.ref s.S),Vn (.int c),Vn (.ref sc),Vn (.int (c%11)),v4,v5,v6] H3:=by
    intro v4 v5 v6 H3 s3;refine K1 _ _ ?_;clear K1 M1;have B3:=B2.same s3;have S3:=S2.same (Sn.del (Sn.new s3));have t3:=t2.trans (Sn.new s3);try dsimp only
    refine ag λM1 K1=>?_;have pl:∀H4,ai H3 H4->M1 [Vn (.ref s.S),Vn (.int c),Vn (.ref sc),Vn (.int (c%11)),v4,v5,v6] H4:=λH4 s4=>K1 _ _ {N,s,_,c,sc,ps,rfl,(B3.same s4).a,S3.same (Sn.del (Sn.new s4)),λv r mk H' s' a' fr ok=>by
     have B':BAt N H' s { g with room:=rm,ma:=mk } ps dd z cur:=⟨a',B3.op,B3.tl,B3.tb,B3.de,B3.oz,B3.oc,B3.zl,B3.dc⟩;obtain⟨b1,b2⟩:=B'.leaf (ok dd (lpZ z));exact q v (.leaf r) _ z _ H' (t3.trans ((Sn.new s4).trans s')) b1 rfl b2 fr}
    refine{rfl,_,rfl,a9 (λ_=>?_) (λ_=>aZ (pl H3 (ai.refl _)))};refine dgk B3.a.hS rfl (MG {_,MG (SqL.of B3.a.ho),rfl,pI _,_,rfl,?_});have el:inV (V.str "loop") (sS g.op)=lpZ z:=by rw[oM,B.op,Ht]
    refine a9 (λz9=>?_) (λ_=>pl H3 (ai.refl _));have z9:inV (V.str "loop") (sS g.op)=true:=z9;rw[el]at z9;refine{by show 1<=sizeLine;decide,λr hr=>?_};have s4:=ai.upd hr (.tup [V.str "last"]);obtain⟨b1,b2⟩:=(B3.same s4).leaf (r:=.last) z9;exact q _ (.leaf .last) _ z _ _ (t3.trans (Sn.new s4)) b1 rfl b2 (fr0 (aK (B3.a.new hr) ao) rfl)
   refine{rfl,_,rfl,a9 (λ_=>?_) (λ_=>aZ (go3 Vo Vo Vo H2 (ai.refl _)))};refine dgk B2.a.hS rfl {MF _,λL hL=>?_};obtain⟨s3,e3⟩:=alc hL (HO.lst []);generalize upd H2 L _=H3 at s3 e3⊢;have B3:=B2.same s3;obtain⟨ds,hd3,dd3⟩:=B3.a.hd;have dl:=Pd dd3;have RR:gx K H3 ds (g.dd.map (ddD N))/\Qj (g.dd.map (ddD N))=true/\Qr (g.dd.map (ddD N))<=1:=Du (K:=K) B3.a.nm (cG (X:=s.M) (H:=H3)) dd3 λe he=>(hdd e he).1;obtain⟨r1,r2,r3⟩:=RR;refine GG (SqL.of hd3) (SqL.of e3) r1 (by simp[P4,QO,Ro,r2];lia) {_,rfl,?_};by_cases e0:ds=[]
   ·rw[e0];exact aZ (go3 Vo Vo Vo H3 s3)
   have en:(!ds.isEmpty)=true:=by
    cases hg:ds with
    |nil=>exact absurd hg e0
    |cons x r=>rfl
   rw[en];refine bN (ag λM2 K2=>dgk B3.a.hS rfl {c,1,rfl,∅,∅,λm m0 m1=>{s.d,_,m,rfl,SqL.of hd3,List.length_pos_iff.mpr e0,λx hx=>?_}});obtain⟨j,hj⟩:=MS hx;obtain⟨e,he,a,rfl,ha⟩:=b5 dd3 hj;have me:e∈g.dd:=ML he;obtain⟨e24,e4⟩:=hdd e me;refine{a,_,rfl,SqT.of (cG _ _ ha),rfl,_,_,rfl,_,_,rfl,_,_,rfl,rfl,K2 _ _ ?_};clear K2 M2;have htm3:=s3 _ _ htm2;have sm:∀{x:Int},0<=x->x<100->-(2^64)<x/\x<2^64:=λa b=>()
   try dsimp only
   refine dgk B3.a.hS rfl (dgk B3.a.hS rfl {_,rfl,lix (SqL.of htm3) iX {.inl (sm () ()),_,rfl,a9 (λ_=>?_) (λ_=>go3 _ _ _ H3 s3)}});refine ag λM2 K2=>dgk B3.a.hS rfl (dgk B3.a.hS rfl {_,rfl,lix (SqL.of htm3) iX {.inl (sm () ()),{_,oX.k (k:=.inr "room") B3.a.hS (show 5<sizeLine by decide),K2 _ _ ?_}}});clear K2 M2;rw[ow];have B4:=B3.pJ (rm-t0*e.2.2);have s4:Sn s H3 (upd H3 s.S (.dK (stK s (rm-t0*e.2.2)))):=Sn.at (by simp) _;have t4:Sn s H (upd H3 s.S (.dK (stK s (rm-t0*e.2.2)))):=(t2.trans (Sn.new s3)).trans s4;generalize upd H3 s.S _=H4 at B4 s4 t4⊢;have S4:=hS.same (Sn.del t4);try dsimp only
   refine{_,rfl,(),(),?_};rw[OO];refine sC (n:=e.2.1) (x:=λi=>.int (0+(i:Int))) (λj y H=>∃t:Th,y=t.v N/\oF ps t) (aG ()) (λ_ _=>Ms _) (λ_ _ h _=>h) (λ_ _ _ _ _ _ y=>y) (λb j H5 G hj s5 kk=>{c,_,rfl,(),(),λm' m0' m1'=>{N,sc,ps,m',rfl,m0',m1',(S4.same cG).same s5,λth H6 s6 oth=>kk _ H6 s6 ⟨th,rfl,oth⟩}}) (λj y H1 H2 s1 h=>h) (λj y H1 D ys zs hD h=>h) (λD H5 ys hD s5 e5 ly hy=>?_);obtain⟨tls,rfl,ot⟩:=Il hy;have B5:=B4.same s5;have D5:D∉s.M:=B4.a.new hD;refine{by show 3<=sizeLine;decide,λr hr=>?_};have s6:=ai.upd hr (.tup [V.str "call",.str (N e.1),.ref D]);have mem:(e.1,tls.length)∈dd:=by
    rw[<-B.de];refine MH.mpr {e,me,?_};rw[show tls.length=e.2.1 by rw[<-ly,Mq]]
   obtain⟨b1,b2⟩:=(B5.same s6).leaf (r:=.call e.1 tls) ⟨mem,ot⟩;exact q _ (.leaf (.call e.1 tls)) _ z _ _ (t4.trans (Sn.new (s5.trans s6))) b1 rfl b2 (fr1 (p:=D) (aK (B5.a.new hr) ao) rfl (aK D5 (s6 _ _ e5)))
  refine{_,rfl,a9 (λ_=>?_) (λ_=>aZ go2)};refine{_,rfl,a9 (λ_=>?_) (λ_=>aZ go2)};refine dgk B2.a.hS rfl (lnl ho2 {_,rfl,a9 (λz6=>?_) (λ_=>aZ go2)});refine dgk B2.a.hS rfl {_,rfl,a9 (λ_=>?_) (λ_=>go2)};have z6:(((sS g.op).length:Nat):Int)<6:=of_decide_eq_true z6;rw[Mq]at z6;exact{N,s,_,ps,dd,z,cur,c,sc,_,rfl,B2,(),S2,λv f g' z' cur' H' s' B' ed fl fr=>q v f g' z' cur' H' (t2.trans s') B' ed fl fr}
 refine{_,rfl,a9 (λ_=>?_) (λ_=>aZ (go H (ai.refl _)))};refine dgk B.a.hS rfl {MF _,λL hL=>?_};obtain⟨s1,e1⟩:=alc hL (HO.lst []);generalize upd H L _=H1 at s1 e1⊢;have B1:=B.same s1;have okw:∀x∈g.op,P1 x=true:=λx hx=>by
  rw[B.op]at hx;unfold iq at hx;rw[UD]at hx;obtain⟨⟨pa,op⟩,_,rfl⟩:=MH.mp hx;exact CT op
 refine VB (SqL.of B1.a.ho) (SqL.of e1) (oE okw) {_,rfl,?_};by_cases e0:z=[]
 ·have e2:g.op=[]:=by rw[B.op,e0];rfl
  rw[e2];exact aZ (go H1 s1)
 have en:(!(sS g.op).isEmpty)=true:=by
  have l1:g.op.length=z.length:=by rw[B.op];simp[iq]
  cases hg:g.op with
  |nil=>
   rw[hg]at l1;exact absurd (List.length_eq_zero_iff.mp l1.symm) e0
  |cons x r=>rfl
 rw[en];exact bN {N,s,g,ps,dd,z,cur,rfl,B1,e0,λv f g' z' cur' H' s' B' ed fl mu fr=>q v f g' z' cur' H' ((Sn.new s1).trans s') B' ed fl fr}
theorem SAt.grown{H:Hp}{s:Sa}{g:Sg}(h:SAt N H s g)(ys:List V):SAt N (upd H s.F (.lst ys)) s g:=by
 obtain⟨⟨a,b,c,d,e',f,i,j,k,l⟩,x1,x2,x3,x4,x5⟩:=h.ne;obtain⟨ds,hd,dd⟩:=h.hd;exact{aw (MR x1) h.hS,aw (MR x2) h.ho,aw (MR x3) h.ht,aw (MR x4) h.hm,{ds,aw (MR x5) hd,dd.same (Sm.del (Sm.at (by simp) _))},h.nd,⟨ys,ao⟩,h.mo,h.nm}
theorem BAt.grown{H:Hp}{s:Sa}{g:Sg}{ps:List Nat}{dd:List (Nat×Nat)}{z:Zp}{cur:List Tr}(B:BAt N H s g ps dd z cur)(ys:List V):BAt N (upd H s.F (.lst ys)) s g ps dd z cur:=⟨B.a.grown ys,B.op,B.tl,B.tb,B.de,B.oz,B.oc,B.zl,B.dc⟩
theorem SAt.fq{H:Hp}{s:Sa}{g:Sg}(h:SAt N H s g):s.F∉s.Q:=by
 obtain⟨_,x1,x2,x3,x4,x5⟩:=h.ne;simp only[Sa.Q,Mw,MQ,or_false,not_or];exact⟨x1,x2,x3,x4,x5⟩
theorem Sn.m{s:Sa}{H H':Hp}(h:Sn s H H'):Sm s.M H H':=Sm.mono h λ_=>Sa.qm
inductive xc(vs:List V)(H:Hp)(Q:VK)(Z:XK):Prop
 |mk(N:Nat->Str)(s:Sa)(g:Sg)(ps:List Nat)(dd:List (Nat×Nat))(cl sc:O4)(cs:List Int)(rm:Int)(z0:vs=[.ref s.S,.ref cl,.ref sc,.int rm])(z1:BAt N H s g ps dd [] [])(z2:del s.M H cl=Vn (.lst (cs.map V.int)))(z3:cs.length<=40)(z4:qx N (del s.M H) sc ps)(z5:∀e∈g.dd,e.1<24/\e.2.1<=4)
  (z6:∀(R:O4)(ys:List V)(ts:List Tr)(g':Sg)(H':Hp),Sn s H H'->H R=Vo->H' R=Vn (.lst ys)->aW N (del s.Q H') (aA ts++[.fin]) ys->cM ps dd false ts->cy ts<=6->(aA ts).length<=cs.length+12->BAt N H' s g' ps dd [] []->g'.dd=g.dd->Q (.ref R) H'):xc vs H Q Z
inductive Ez(s:Sa)(cl:O4)(sc:O4)(rm:Int)(F:O4)(H2:Hp)(N:Nat->Str)(ps:List Nat)(dd:List (Nat×Nat))(g:Sg)(i:Nat)(σ:St)(Hc:Hp):Prop
 |mk(v5:Option V)(ys:List V)(g':Sg)(z:Zp)(cur:List Tr):σ=[Vn (.ref s.S),Vn (.ref cl),Vn (.ref sc),Vn (.int rm),Vn (.ref F),v5]->Sm s.M H2 Hc->Hc F=Vn (.lst ys)->aW N (del s.M Hc) (flZ z cur) ys->ys.length=i->BAt N Hc s g' ps dd z cur->g'.dd=g.dd->Ez s cl sc rm F H2 N ps dd g i σ Hc
inductive Ee(s:Sa)(cl:O4)(sc:O4)(rm:Int)(F:O4)(v5:Option V)(H2:Hp)(N:Nat->Str)(cs:List Int)(ps:List Nat)(dd:List (Nat×Nat))(g:Sg)(m:Nat)(σ':St)(Hd:Hp):Prop
 |mk(ys:List V)(g':Sg)(z:Zp)(cur:List Tr):σ'=[Vn (.ref s.S),Vn (.ref cl),Vn (.ref sc),Vn (.int rm),Vn (.ref F),v5]->Sm s.M H2 Hd->Hd F=Vn (.lst ys)->aW N (del s.M Hd) (flZ z cur) ys->muZ z=m->ys.length+m<=cs.length+12->BAt N Hd s g' ps dd z cur->g'.dd=g.dd->Ee s cl sc rm F v5 H2 N cs ps dd g m σ' Hd
inductive Ep(m:Nat)(s:Sa)(cl:O4)(sc:O4)(rm:Int)(F:O4)(v5:Option V)(H2:Hp)(N:Nat->Str)(cs:List Int)(ps:List Nat)(dd:List (Nat×Nat))(g:Sg)(σ':St)(Hd:Hp):Prop
 |mk(ys:List V)(g':Sg)(z:Zp)(cur:List Tr)(m':Nat):m'<m->σ'=[Vn (.ref s.S),Vn (.ref cl),Vn (.ref sc),Vn (.int rm),Vn (.ref F),v5]->Sm s.M H2 Hd->Hd F=Vn (.lst ys)->aW N (del s.M Hd) (flZ z cur) ys->muZ z=m'->ys.length+m'<=cs.length+12->BAt N Hd s g' ps dd z cur->g'.dd=g.dd->Ep m s cl sc rm F v5 H2 N cs ps dd g σ' Hd
theorem AW(T:Txt K mg A):T.tN.Hz P w base 6 xc:=by
 refine T.tN.hs (k:=5) mI (λf cdv A' outer s' H vs Q E hr hu h=>?_);obtain⟨N,s0,g,ps,dd,cl,sc,cs,rm,rfl,B,hcl,lc,hS,hdd,q⟩:=h;refine{_,(ab (bW (fv 3) (ik (fv 0) au (iR hu Vs)))
  (ab (pst 4 mI.nd (aN ae))
  (ab (cf Pk rfl (b9 (fv 1)) (pgn (i:=5) mI.nd rfl)
   (aj (aO (bt (fv 4) ((ak (hj:=by lia) (HI T) hr (fv 0^fv 5^fv 2^ae))^ae)))))
  (ab (fW Pk (ptc (oR hu) (px hu (fv 0) au) (aN ae))
   (aj (aO (bt (fv 4) ((ak (hj:=by lia) (xI T) hr (fv 0^ae))^ae)))))
  (aj (aC (aB aL (fv 4) (aN (aS (au^ae)^ae))))))))),?_}
 refine ag λM1 K1=>{_,oX.k (k:=.inr "room") B.a.hS (show 5<sizeLine by decide),K1 _ _ ?_};clear K1 M1;rw[ow];have B1:=B.pJ rm;have s1:Sn s0 H (upd H s0.S (.dK (stK s0 rm))):=Sn.at (by simp) _;have n1:∀x,upd H s0.S (.dK (stK s0 rm)) x=Vo->H x=Vo:=λx hx=>by
  by_cases e:x=s0.S
  ·rw[e,ao]at hx;cases hx
  rw[aY e]at hx;exact hx
 generalize upd H s0.S _=H1 at B1 s1 n1⊢;try dsimp only
 refine ag λM1 K1=>{MF _,λF hF=>K1 _ _ ?_};clear K1 M1;obtain⟨s2,e2⟩:=alc hF (HO.lst []);generalize upd H1 F _=H2 at s2 e2⊢;have HF:H F=Vo:=n1 _ hF;have F0:F∉s0.M:=B1.a.new hF;have B2:=B1.same s2;obtain⟨s,es⟩:∃s:Sa,s={ s0 with F:=F }:=⟨_,rfl⟩;have eS:s.S=s0.S:=by rw[es]
 have eF:s.F=F:=by rw[es]
 have eQ:s.Q=s0.Q:=by rw[es]
 have eM:∀a∈s.M,a∈s0.Q\/a=F:=λa m=>by
  rw[es]at m;simp only[Sa.M,Sa.Q,Mw,MQ,or_false]at m⊢;rcases m with h|h|h|h|h|h<;>simp[h]
 have B2':BAt N H2 s { g with room:=rm } ps dd [] []:=by
  obtain⟨ds,hd,dda⟩:=B1.a.hd;have nn:=B1.a.ne;have h5:F≠s0.S/\F≠s0.o/\F≠s0.t/\F≠s0.m/\F≠s0.d:=by
   simp only[Sa.M,Mw,MQ,or_false,not_or]at F0;exact⟨F0.1,F0.2.1,F0.2.2.1,F0.2.2.2.1,F0.2.2.2.2.1⟩
  have dda':wt N (del s.M H2) g.dd ds:=dda.same λa o h=>by
   obtain⟨h1,h2⟩:=cw h;refine aK (λm=>?_) (s2 _ _ h2);rcases eM a m with z|z
   ·exact h1 (Sa.qm z)
   rw[z,hF]at h2;cases h2
  have nd:s.M.Nodup:=by
   rw[es];obtain⟨⟨a,b,c,d,e,f,i,j,k,l⟩,_⟩:=nn;simp only[Sa.M,Ni,Mw,MQ,or_false,not_or,Ot,and_true,not_false_eq_true];exact{⟨a,b,c,d,MR h5.1⟩,⟨e,f,i,MR h5.2.1⟩,⟨j,k,MR h5.2.2.1⟩,⟨l,MR h5.2.2.2.1⟩,MR h5.2.2.2.2}
  subst es;exact{{B2.a.hS,B2.a.ho,B2.a.ht,B2.a.hm,{ds,s2 _ _ hd,dda'},nd,{[],e2},B2.a.mo,B2.a.nm},B2.op,B2.tl,B2.tb,B2.de,B2.oz,B2.oc,B2.zl,B2.dc}
 have out:∀{H':Hp},Sm s.M H2 H'->Sn s0 H H':=λ{H'} sm a o ha e=>sm a o (λm=>by
  rcases eM a m with z|z
  ·exact ha z
  rw[z,HF]at e;cases e) (s2 _ _ (s1 a o ha e))
 have dn:ai (del s0.M H) (del s.M H2):=λx o e=>by
  obtain⟨h1,h2⟩:=cw e;refine aK (λm=>?_) (s2 _ _ (s1 _ _ (λm=>h1 (Sa.qm m)) h2));rcases eM x m with z|z
  ·exact h1 (Sa.qm z)
  rw[z,HF]at h2;cases h2
 have hcl2:=dn _ _ hcl;have hS2:qx N (del s.M H2) sc ps:=hS.same dn;rw[<-eS];try dsimp only
 refine ag λM1 K1=>MG {{_,SqL.of (cG _ _ hcl2)},cn (K:=K) (xs:=cs.map V.int) (Ez s cl sc rm F H2 N ps dd g) {Vo,[],{ g with room:=rm },[],[],rfl,Sm.refl _ _,e2,by show aW N _ (aA []) _;rw[aA];exact .nil,rfl,B2',rfl} (λi σ Hc _ ⟨_,_,_,_,_,_,z,_,_,_,_,_⟩=>SqL.of (cG _ _ (Sm.del z _ _ hcl2))) ?_ ?_}
 ·rintro i x σ Hc hx ⟨v5,ys,g',z,cur,rfl,sc',hFc,fr,ly,Bc,gd⟩;rw[MM]at hx;cases hc:cs[i]? with
  |none=>rw[hc]at hx;cases hx
  |some c=>
  rw[hc]at hx;cases hx;have il:i<cs.length:=(MC.mp hc).1;try dsimp only
  refine{MG {rfl,_,SqL.of hFc},N,s,g',ps,dd,z,cur,c,sc,rfl,Bc,hS2.same (Sm.del sc'),λe he=>hdd e (gd▸he),λv f g2 z2 cur2 H3 s3 B3 gd2 fl3 fr3=>?_};have hF3:H3 F=Vn (.lst ys):=s3 _ _ (by have:=Bc.a.fq;rw[eF]at this;exact this) hFc;have s4:Sm s.M H3 (upd H3 F (.lst (ys++[v]))):=Sm.at (by rw[<-eF];simp) _;have B4:=B3.grown (ys++[v]);rw[eF]at B4;refine{_,_,_,rfl,rfl,hF3,aG (),_,ys++[v],g2,z2,cur2,rfl,(sc'.trans s3.m).trans s4,ao,?_,by rw[Mo,ly];rfl,B4,gd2.trans gd};rw[fl3];exact Paired.two (aW.same (Sm.del (s3.m.trans s4)) fr) (.cons (kF.same (Sm.del s4) fr3) .nil)
 rintro σ Hc ⟨v5,ys,g',z,cur,rfl,sc',hFc,fr,ly,Bc,gd⟩;rw[Mq]at ly;refine K1 _ _ ?_;clear K1 M1;try dsimp only
 refine ag λM1 K1=>{Ee s cl sc rm F v5 H2 N cs ps dd g,{muZ z,ys,g',z,cur,rfl,sc',hFc,fr,rfl,by have:=Cr z;have:=Bc.zl;lia,Bc,gd},?_};clear fr ly Bc gd hFc sc';rintro m σ' Hd ⟨ys,g',z,cur,rfl,sc',hFc,fr,em,lm,Bc,gd⟩;refine dgk Bc.a.hS rfl {MF _,λL hL=>?_};obtain⟨s5,e5⟩:=alc hL (HO.lst []);generalize upd Hd L _=H5 at s5 e5⊢;have B5:=Bc.same s5;have okw:∀x∈g'.op,P1 x=true:=λx hx=>by
  rw[Bc.op]at hx;unfold iq at hx;rw[UD]at hx;obtain⟨⟨pa,op⟩,_,rfl⟩:=MH.mp hx;exact CT op
 refine VB (SqL.of B5.a.ho) (SqL.of e5) (oE okw) {_,rfl,?_};have fr5:=aW.same (Sm.del (Sm.new s5)) fr;have hF5:=s5 _ _ hFc;have sc5:=sc'.trans (Sm.new s5);by_cases e0:z=[]
 ·have eo:g'.op=[]:=by rw[Bc.op,e0];rfl
  rw[eo];refine aZ (K1 _ _ ?_);clear K1 M1;subst e0;try dsimp only
  refine{by show 1<=sizeLine;decide,λt ht=>?_};obtain⟨s6,e6⟩:=alc ht (HO.tup [V.str "end"]);generalize upd H5 t _=H6 at s6 e6⊢;refine{by show 1<=sizeLine;decide,λl hl=>?_};obtain⟨s7,e7⟩:=alc hl (HO.lst [V.ref t]);generalize upd H6 l _=H7 at s7 e7⊢;refine{F,l,_,_,rfl,rfl,(s6.trans s7) _ _ hF5,e7,sz (by rw[Mr];lia),λR hR=>?_};have s8:=ai.upd hR (.lst (ys++[V.ref t]));have t58:=s6.trans (s7.trans s8);have sR:Sm s.M H2 (upd H7 R (.lst (ys++[V.ref t]))):=sc5.trans (Sm.new t58);have B8:=B5.same t58;have B8':BAt N (upd H7 R (.lst (ys++[V.ref t]))) s0 g' ps dd [] []:=by
   obtain⟨ys0,f0⟩:=B.a.hF;have k0:upd H7 R (.lst (ys++[V.ref t])) s0.F=Vn (.lst ys0):=out sR _ _ B.a.fq f0;obtain⟨ds,hd,dda⟩:=B8.a.hd;have dda':wt N (del s0.M (upd H7 R (.lst (ys++[V.ref t])))) g'.dd ds:=Paired.sY dda λe v ⟨a,ea,ha⟩=>{a,ea,by
    obtain⟨h1,h2⟩:=cw ha;refine aK (λm=>?_) h2;simp only[Sa.M,Mw,MQ,or_false]at m;rcases m with h|h|h|h|h|h
    ·exact h1 (by rw[h,es];simp)
    ·exact h1 (by rw[h,es];simp)
    ·exact h1 (by rw[h,es];simp)
    ·exact h1 (by rw[h,es];simp)
    ·exact h1 (by rw[h,es];simp)
    rw[h,k0]at h2;cases h2}
   subst es;exact{{B8.a.hS,B8.a.ho,B8.a.ht,B8.a.hm,⟨ds,hd,dda'⟩,B.a.nd,⟨ys0,k0⟩,B8.a.mo,B8.a.nm},B8.op,B8.tl,B8.tb,B8.de,trivial,by rw[cM];trivial,MF _,by rw[cy];exact MF _}
  have fin:aW N (del s.M (upd H7 R (.lst (ys++[V.ref t])))) (aA cur++[.fin]) (ys++[V.ref t]):=Paired.two (aW.same (Sm.del (Sm.new t58)) fr5) (.cons (fr0 (aK (B5.a.new ht) ((s7.trans s8) _ _ e6)) rfl) .nil);have lf:=Pd fr5;have lf:(aA cur).length=ys.length:=lf;have dcz:=Bc.dc;have HR:H R=Vo:=by
   cases e:H R with
   |none=>rfl
   |some o=>
    by_cases mR:R∈s0.Q
    ·exact absurd hR ((B5.same (s6.trans s7)).a.in (by rw[<-eQ]at mR;exact Sa.qm mR))
    have:=(out (sc5.trans (Sm.new (s6.trans s7)))) R o mR e;rw[hR]at this;cases this
  refine q R _ cur g' _ (out sR) HR ao ?_ Bc.oc (by have:=Bc.dc;rw[Ng]at this;lia) () B8' gd;rw[<-eQ];exact aW.same (λa o h=>aK (λm=>(cw h).1 (Sa.qm m)) (cw h).2) fin
 have en:(!(sS g'.op).isEmpty)=true:=by
  have l1:g'.op.length=z.length:=by rw[Bc.op];simp[iq]
  cases hg:g'.op with
  |nil=>
   rw[hg]at l1;exact absurd (List.length_eq_zero_iff.mp l1.symm) e0
  |cons x r=>rfl
 rw[en];refine bN {Ep m s cl sc rm F v5 H2 N cs ps dd g,λσ' Hd ⟨ys,g',z,cur,m',hm',h1,h2,h3,h4,h5,h6,h7,h8⟩=>⟨m',hm',ys,g',z,cur,h1,h2,h3,h4,h5,h6,h7,h8⟩,{MG {rfl,_,SqL.of hF5},N,s,g',ps,dd,z,cur,rfl,B5,e0,λv f g2 z2 cur2 H6 s6 B6 gd2 fl6 mu6 fr6=>?_}};have hF6:H6 F=Vn (.lst ys):=s6 _ _ (by have:=Bc.a.fq;rw[eF]at this;exact this) hF5;have s7:Sm s.M H6 (upd H6 F (.lst (ys++[v]))):=Sm.at (by rw[<-eF];simp) _;have B7:=B6.grown (ys++[v]);rw[eF]at B7;refine{_,_,_,rfl,rfl,hF6,aG (),ys++[v],g2,z2,cur2,muZ z2,(),rfl,(sc5.trans s6.m).trans s7,ao,?_,rfl,by rw[Mo,Mr];lia,B7,gd2.trans gd};rw[fl6];exact Paired.two (aW.same (Sm.del (s6.m.trans s7)) fr5) (.cons (kF.same (Sm.del s7) fr6) .nil)
noncomputable abbrev De:=Nat×List Nat×List Tr
noncomputable def flD(d:De):List Fr:=.bj d.1 d.2.1::(aA d.2.2++[.fin])
noncomputable def bB(ds:List De):List Fr:=ds.flatMap flD
noncomputable def iU(ds:List De):List (Nat×Nat):=ds.map λd=>(d.1,d.2.1.length)
noncomputable def dnI(k:Nat):Nat:=if k=0 then 9 else if k=1 then 10 else 21
noncomputable def stI(k:Nat):Nat:=if k=0 then 11 else if k=1 then 15 else 22
noncomputable def mxI(k:Nat):Nat:=if k=0 then 5 else if k=1 then 5 else 3
noncomputable def psI(k n:Nat):List Nat:=(Pu n).map (stI k+ ·)
structure Kt(ds:List De):Prop where
 at':∀(k:Nat) d,ds[k]?=Vn d->d.1=dnI k/\(∃n,n<mxI k/\d.2.1=psI k n)/\cM d.2.1 (iU (ds.take k)) false d.2.2/\cy d.2.2<=6/\(aA d.2.2).length<=17
structure eJ(hs:List Lr)(ds:List De)(mb:List Tr):Prop where
 hd:∃rk z t,hs=rF t (pG rk z)/\(∀i,rk i=0\/rk i=1\/rk i=2)/\1<=z/\z<=4/\t<=11
 dl:ds.length=3
 de:Kt ds
 mo:cM [] (iU ds) false mb
 md:cy mb<=6
 ml:(aA mb).length<=48
noncomputable def flA(hs:List Lr)(ds:List De)(mb:List Tr):List Fr:=hs.map Fr.leaf++bB ds++ .main::(aA mb++[.fin])
theorem SAt.Kf{H:Hp}{s:Sa}{g:Sg}(h:SAt N H s g){ds:List V}(dd:List (Nat×Nat×Int))(e:wt N (del s.M H) dd ds):SAt N (upd H s.d (.lst ds)) s { g with dd:=dd }:=by
 obtain⟨⟨a,b,c,d,e',f,i,j,k,l⟩,x1,x2,x3,x4,x5⟩:=h.ne;exact{aw d h.hS,aw i h.ho,aw k h.ht,aw l h.hm,{ds,ao,e.same (Sm.del (Sm.at (by simp) _))},h.nd,h.hF.imp λ_ z=>aw x5 z,h.mo,h.nm}
theorem SAt.put{H:Hp}{s:Sa}{g:Sg}(h:SAt N H s g){R:O4}(m:R∉s.M){xs ys:List V}(hR:H R=Vn (.lst xs)):SAt N (upd H R (.lst ys)) s g:=by
 have nn:∀a∈s.M,a≠R:=λa ha e=>m (e▸ha);obtain⟨ds,hd,dd⟩:=h.hd;refine{aw (nn _ (by simp)) h.hS,aw (nn _ (by simp)) h.ho,aw (nn _ (by simp)) h.ht,aw (nn _ (by simp)) h.hm,{ds,aw (nn _ (by simp)) hd,Paired.sY dd λe v ⟨a,ea,ha⟩=>{a,ea,?_}},h.nd,h.hF.imp λ_ z=>aw (nn _ (by simp)) z,h.mo,h.nm};obtain⟨h1,h2⟩:=cw ha;exact aK h1 (aw (λe=>by rw[e,hR]at h2;cases h2) h2)
theorem BAt.idle{H:Hp}{s:Sa}{g:Sg}{ps:List Nat}{dd:List (Nat×Nat)}(B:BAt N H s g ps dd [] [])(ps':List Nat):BAt N H s g ps' dd [] []:={B.a,B.op,B.tl,B.tb,B.de,trivial,by rw[cM];trivial,B.zl,B.dc}
theorem BAt.with{H H':Hp}{s:Sa}{g:Sg}{ps:List Nat}{dd:List (Nat×Nat)}(B:BAt N H s g ps dd [] [])(a:SAt N H' s g):BAt N H' s g ps dd [] []:=⟨a,B.op,B.tl,B.tb,B.de,B.oz,B.oc,B.zl,B.dc⟩
theorem aW.fresh{M:List O4}{H:Hp}{R:O4}(hR:H R=Vo){o:HO}{fs:List Fr}{vs:List V}(h:aW N (del M H) fs vs):aW N (del (R::M) (upd H R o)) fs vs:=aW.same (λa x e=>by
 obtain⟨h1,h2⟩:=cw e;have n:a≠R:=λz=>by rw[z,hR]at h2;cases h2
 exact aK (λm=>by
  rcases Mw.mp m with z|z
  ·exact n z
  exact h1 z) (aw n h2)) h
theorem B9{k:Nat}(h:k<3):k=0\/k=1\/k=2:=()
theorem Ge{xs:List V}{a n:Nat}(h:a+n<=xs.length):qz xs (Vn (a:Int)) (Vn ((a:Int)+(n:Int)))=(xs.drop a).take n:=by
 unfold qz;rw[qU _ (),show((a:Int)+(n:Int))=((a+n:Nat):Int) by push_cast;rfl,qU _ h];congr 1;lia
theorem Jd{a n:Nat}(h:a+n<=24):((sS (ug N)).drop a).take n=nV N ((Pu n).map (a+ ·)):=by
 refine Ov λi=>?_;by_cases hi:i<n
 ·rw[Nm hi,NR,DS (),MM,MM,NN hi];rfl
 rw[Nj (by rw[MT];lia),Nj (by rw[Mq,Mq,Nv];lia)]
theorem Ai{M:List O4}{H:Hp}(h:∀x∈M,∀xs,H x≠Vn (.tup xs)):∀{fs:List Fr}{vs:List V},aW N H fs vs->(∀f∈fs,f.ob N=Vo)->aW N (del M H) fs vs
 |_,_,.nil,_=>.nil
 |f::fs,_,.cons g r,e=>by
  obtain⟨a,p,ev,h1,h2⟩:=g;refine .cons {a,p,ev,aK (λm=>h a m _ h1) h1,λo ho=>?_} (Ai h r λf hf=>e f (Mz _ hf));rw[e f MA]at ho;cases ho
inductive Ad(K:Pa)(vs:List V)(H:Hp)(Q:VK)(Z:XK):Prop
 |mk(N:Nat->Str)(a nl:O4)(ns:List Int)(z0:vs=[.ref a,.ref nl])(z1:SqL K H a (ns.map V.int))(z2:H nl=Vn (.lst (sS (ug N))))(z3:jz N)
  (z4:∀(R:O4)(ys:List V)(hs:List Lr)(ds:List De)(mb:List Tr)(H':Hp),ai H H'->H R=Vo->H' R=Vn (.lst ys)->aW N H' (flA hs ds mb) ys->eJ hs ds mb->Q (.ref R) H'):Ad K vs H Q Z
inductive CA(a:O4)(s:Sa)(c:Int)(H:Hp)(N:Nat->Str)(hs:List Lr)(i:Nat)(σ:St)(Hc:Hp):Prop
 |mk(R:O4)(v6 v7 v8 v9 v10:Option V)(des:List De)(g:Sg)(ys:List V)(av:Int):σ=[Vn (.ref a),Vn (.ref s.F),Vn (.int c),Vn (.ref s.S),Vn (.ref R),Vn (.int av),v6,v7,v8,v9,v10,Vo]->ai H Hc->H R=Vo->R∉s.M->Hc R=Vn (.lst ys)->aW N (del (R::s.Q) Hc) (hs.map Fr.leaf++bB des) ys->des.length=i->Kt des->BAt N Hc s g [] (iU des) [] []->(∀e∈g.dd,e.1<24/\e.2.1<=4)->8<=av->av<=8+5*(i:Int)->ys.length<=11+19*i->CA a s c H N hs i σ Hc
theorem Jc(T:Txt K mg A):T.rW.Hz P w base 7 (Ad K):=by
 have bc:=@oV P w _ _ base _ T;refine T.rW.hs (k:=6) bJ (λf cdv A' outer s' H vs Q E hr hu h=>?_);obtain⟨N,a,nl,ns,rfl,hA,hN,nm,q⟩:=h;refine{_,(ab (pst 2 bJ.nd (ak (hj:=by lia) (zB T) hr (fv 0^af^ae)))
  (ab (pst 3 bJ.nd (wx (fb au (aN ae) (fb au (aN (af^ae)) (fb au (aN (px hu (fv 1) af^px hu (fv 1) af^ae)) (fb au (aN ae) (fb au af (wy)))))) rfl rfl (by intro z;cases z) ∅))
  (ab (pst 4 bJ.nd (ak (hj:=by lia) (CP T) hr (fv 1^fv 2^ae)))
  (ab (pst 5 bJ.nd af)
  (ab (cf Pk rfl (di rfl T.dz (af^ae)) (pgn (i:=6) bJ.nd rfl)
   (ab (pst 7 bJ.nd (px hu (aN (af^af^af^ae)) (fv 6)))
   (ab (pst 8 bJ.nd (px hu (fv 1) (px hu (aN (af^af^af^ae)) (fv 6))))
   (ab (pst 9 bJ.nd (tP zN (fv 1) (qQ (fv 7)) (qQ (aB aL (fv 7) (aB bM (ak (hj:=by lia) bc hr (fv 2^aB aL af (fv 6)^ae)) (px hu (aN (af^af^af^ae)) (fv 6)))))))
   (ab (aO (bt (fv 4) (aS (au^fv 8^fv 9^ae)^ae)))
   (ab (pst 10 bJ.nd (aB bM (ak (hj:=by lia) bc hr (fv 2^aB aL af (fv 6)^ae)) af))
   (ab (pst 4 bJ.nd (aB aL (fv 4) (ak (hj:=by lia) (AW T) hr (fv 3^(ak (hj:=by lia) (A7 T) hr (fv 0^fv 5^fv 10^ae))^(ak (hj:=by lia) (AD T) hr (fv 1^fv 9^ae))^af^ae))))
   (ab (aO (bt (px hu (fv 3) au) (aS (fv 8^pcB eO T.fX (fv 9^ae)^aB oU af (px hu (fv 3) au)^ae)^ae)))
   (aj (pst 5 bJ.nd (aB aL (fv 5) (fv 10))))))))))))
  (ab (aO (bt (fv 4) (aS (au^ae)^ae)))
  (ab (pst 11 bJ.nd (ak (hj:=by lia) (A7 T) hr (fv 0^fv 5^(aB aL af (aB bM (ak (hj:=by lia) bc hr (fv 2^af^ae)) af))^ae)))
  (aj (aC (aB aL (fv 4) (ak (hj:=by lia) (AW T) hr (fv 3^fv 11^(ak (hj:=by lia) (AD T) hr (fv 1^aN ae^ae))^af^ae)))))))))))),?_}
 refine ag λM1 K1=>{a,ns,2,rfl,hA,∅,∅,λc H0 s0=>K1 _ _ ?_};clear K1 M1;try dsimp only
 refine ag λM1 K1 S hS=>?_;obtain⟨s1,e1⟩:=alc hS (HO.dK []);generalize upd H0 S _=H1 at s1 e1⊢;refine{MF _,λo ho=>?_};obtain⟨s2,e2⟩:=alc ho (HO.lst []);generalize upd H1 o _=H2 at s2 e2⊢;refine{by show 1<=sizeLine;decide,λt ht=>?_};obtain⟨s3,e3⟩:=alc ht (HO.lst [.int 1]);generalize upd H2 t _=H3 at s3 e3⊢;have t3:=(s0.trans s1).trans (s2.trans s3);refine nmx (j:=5) (SqL.of (t3 _ _ hN)) (nmx (j:=6) (SqL.of (t3 _ _ hN)) {by show 2<=sizeLine;decide,λm hm=>?_});obtain⟨s4,e4⟩:=alc hm (HO.lst [.str (N 5),.str (N 6)]);generalize upd H3 m _=H4 at s4 e4⊢;refine{MF _,λd hd=>?_};obtain⟨s5,e5⟩:=alc hd (HO.lst []);generalize upd H4 d _=H5 at s5 e5⊢;have s15:=(s2.trans s3).trans (s4.trans s5);have h05:=(s0.trans s1).trans s15;let s:Sa:=⟨S,o,t,m,d,nl⟩
 refine{s15 _ _ e1,stK s 0,rfl,by show 5<=15;decide,K1 _ _ ?_};clear K1 M1;have HS:H S=Vo:=ai.free s0 hS;have s6:ai H (upd H5 S (.dK (bu [] (stK s 0)))):=ai.out h05 HS _;have eS:upd H5 S (.dK (bu [] (stK s 0))) S=Vn (.dK (stK s 0)):=ao;have no:o≠S:=λz=>by rw[z,e1]at ho;cases ho
 have nt:t≠S:=λz=>by rw[z,s2 _ _ e1]at ht;cases ht
 have nmm:m≠S:=λz=>by rw[z,(s2.trans s3) _ _ e1]at hm;cases hm
 have nd:d≠S:=λz=>by rw[z,((s2.trans s3).trans s4) _ _ e1]at hd;cases hd
 have to':t≠o:=λz=>by rw[z,e2]at ht;cases ht
 have mo':m≠o:=λz=>by rw[z,s3 _ _ e2]at hm;cases hm
 have do':d≠o:=λz=>by rw[z,(s3.trans s4) _ _ e2]at hd;cases hd
 have mt':m≠t:=λz=>by rw[z,e3]at hm;cases hm
 have dt':d≠t:=λz=>by rw[z,s4 _ _ e3]at hd;cases hd
 have dm':d≠m:=λz=>by rw[z,e4]at hd;cases hd
 have lS:nl≠S:=λz=>by rw[z,HS]at hN;cases hN
 have lo:nl≠o:=λz=>by rw[z,ai.free (s0.trans s1) ho]at hN;cases hN
 have lt:nl≠t:=λz=>by rw[z,ai.free ((s0.trans s1).trans s2) ht]at hN;cases hN
 have lm:nl≠m:=λz=>by rw[z,ai.free t3 hm]at hN;cases hN
 have ld:nl≠d:=λz=>by rw[z,ai.free (t3.trans s4) hd]at hN;cases hN
 have qH:∀x∈s.Q,H x=Vo:=λx hx=>by
  simp only[Sa.Q,s,Mw,MQ,or_false]at hx;rcases hx with rfl|rfl|rfl|rfl|rfl
  ·exact HS
  ·exact ai.free (s0.trans s1) ho
  ·exact ai.free ((s0.trans s1).trans s2) ht
  ·exact ai.free t3 hm
  exact ai.free (t3.trans s4) hd
 have B6:BAt N (upd H5 S (.dK (bu [] (stK s 0)))) s {[],[1],[5,6],[],0} [] [] [] []:=by
  refine{{eS,aw no ((s3.trans (s4.trans s5)) _ _ e2),aw nt ((s4.trans s5) _ _ e3),aw nmm (s5 _ _ e4),{[],aw nd e5,.nil},?_,{_,aw lS (h05 _ _ hN)},(λx hx=>by simpa using hx),nm},rfl,rfl,(λx hx=>by rw[Mp.mp hx];exact{∅,∅}),rfl,trivial,by rw[cM];trivial,MF _,by rw[cy];exact MF _};simp only[s,Sa.M,Ni,Mw,MQ,or_false,not_or,Ot,and_true,not_false_eq_true];exact{⟨MR no,MR nt,MR nmm,MR nd,MR lS⟩,⟨MR to',MR mo',MR do',MR lo⟩,⟨MR mt',MR dt',MR lt⟩,⟨MR dm',MR lm⟩,MR ld}
 generalize upd H5 S _=H6 at B6 s6 eS⊢;have esS:s.S=S:=rfl;have esF:s.F=nl:=rfl;have esd:s.d=d:=rfl;clear_value s;subst esS esF;clear e1 e2 e3 e4 e5 s1 s2 s3 s4 s5 t3 s15 h05 no nt nmm nd to' mo' do' mt' dt' dm' lS lo lt lm ld hS ho ht hm hd HS;try dsimp only
 refine ag λM1 K1=>{N,s.F,c,rfl,s6 _ _ hN,λR rk z tt ys H7 s7 hR7 eR7 fr7 hrk z1 z4 t11=>K1 _ _ ?_};clear K1 M1;have B7:=B6.same s7;have t7:=s6.trans s7;have R0:H R=Vo:=ai.free s6 hR7;have RM:R∉s.M:=B6.a.new hR7;have fr7':aW N (del (R::s.Q) H7) ((rF tt (pG rk z)).map Fr.leaf) ys:=by
  refine Ai (λx hx xs e=>?_) fr7 (λf hf=>?_)
  ·obtain⟨ds,hd,_⟩:=B7.a.hd;simp only[Sa.Q,Mw,MQ,or_false]at hx;rcases hx with rfl|rfl|rfl|rfl|rfl|rfl
   ·rw[eR7]at e;cases e
   ·rw[B7.a.hS]at e;cases e
   ·rw[B7.a.ho]at e;cases e
   ·rw[B7.a.ht]at e;cases e
   ·rw[B7.a.hm]at e;cases e
   rw[hd]at e;cases e
  obtain⟨r,hr,rfl⟩:=MH.mp hf;have hr:r∈pG rk z:=by
   unfold rF at hr;rcases Mu.mp hr with h|h
   ·exact Oe h
   exact Nu h
  unfold pG at hr;simp only[Mw,MQ,or_false]at hr;rcases hr with rfl|rfl|rfl|rfl|rfl|rfl|rfl|rfl|rfl|rfl|rfl<;>rfl
 have ly7:ys.length=11:=by
  have:=Pd fr7;rw[Mq]at this;unfold rF at this;rw[Mo,Nd,MT,show(pG rk z).length=11 from rfl]at this;lia
 obtain⟨hs,ehs⟩:∃hs,hs=rF tt (pG rk z):={_,rfl};rw[<-ehs]at fr7';try dsimp only
 refine ag λM1 K1=>K1 _ _ ?_;clear K1 M1;try dsimp only
 refine ag λM1 K1=>{_,rfl,∅,∅,jU (CA a s c H N hs) {R,Vo,Vo,Vo,Vo,Vo,[],_,ys,8,rfl,t7,R0,RM,eR7,by rw[show bB []=[]from rfl,MP];exact fr7',rfl,⟨λk d h=>by simp at h⟩,B7,(λe he=>by cases he),∅,∅,()} ?_ ?_}
 ·clear fr7 fr7' ly7 eR7 R0 RM hR7 B7 t7 s7;rintro i σ Hc hi ⟨R,v6,v7,v8,v9,v10,des,g,ys,av,rfl,tc,R0,RM,eR,fr,dl,dk,B,hdd,a8,aM,yl⟩;have hi3:i<3:=hi;have ei:(0:Int)+(i:Int)=(i:Int):=()
  rw[ei];have RQ:R∉s.Q:=λm=>RM (Sa.qm m);have st24:stI i+mxI i<=25/\dnI i<24/\mxI i<=5/\0<mxI i:=by
   rcases B9 hi3 with rfl|rfl|rfl<;>decide
  try dsimp only
  refine ag λN1 J1=>{by show 3<=sizeLine;decide,λL1 hL1=>?_};obtain⟨sa,ea⟩:=alc hL1 (HO.lst [.int 11,.int 15,.int 22]);generalize upd Hc L1 _=Ha at sa ea⊢;refine lxn (j:=i) (v:=.int (stI i)) (SqL.of ea) (by rcases B9 hi3 with rfl|rfl|rfl<;>rfl) (J1 _ _ ?_);clear J1 N1;try dsimp only
  refine ag λN1 J1=>{by show 3<=sizeLine;decide,λL2 hL2=>?_};obtain⟨sb,eb⟩:=alc hL2 (HO.lst [.int 9,.int 10,.int 21]);generalize upd Ha L2 _=Hb at sb eb⊢;have tb:=tc.trans (sa.trans sb);refine lxn (j:=i) (v:=.int (dnI i)) (SqL.of eb) (by rcases B9 hi3 with rfl|rfl|rfl<;>rfl) (nmx (j:=dnI i) (SqL.of (tb _ _ hN)) (J1 _ _ ?_) st24.2.1);clear J1 N1;try dsimp only
  refine ag λN1 J1=>{_,rfl,c,_,rfl,(),(),λm1 m10 m11=>{by show 3<=sizeLine;decide,λL3 hL3=>?_}};obtain⟨sd,ed⟩:=alc hL3 (HO.lst [.int 5,.int 5,.int 3]);generalize upd Hb L3 _=Hd at sd ed⊢;refine lxn (j:=i) (v:=.int (mxI i)) (SqL.of ed) (by rcases B9 hi3 with rfl|rfl|rfl<;>rfl) {by show(0:Int)<(mxI i:Int);lia,?_};obtain⟨n,en⟩:∃n:Nat,m1%(mxI i:Int)=(n:Int):={(m1%(mxI i:Int)).toNat,by have:=bP m1 (show(0:Int)<(mxI i:Int) by lia);lia};have nlt:n<mxI i:=by have:=bP m1 (show(0:Int)<(mxI i:Int) by lia);lia
  dsimp only;rw[en];have td:=tb.trans sd;refine{_,rfl,MG {s.F,_,rfl,SqL.of (td _ _ hN),λpp hpp=>?_}};rw[Ge (by rw[Mq];show stI i+n<=(ug N).length;rw[show(ug N).length=24 by simp[ug]];lia),Jd ()];obtain⟨se,ee⟩:=alc hpp (HO.lst (nV N ((Pu n).map (stI i+ ·))));generalize upd Hd pp _=He at se ee⊢;have ee:He pp=Vn (.lst (nV N (psI i n))):=ee;have ppM:pp∉s.M:=(B.same ((sa.trans sb).trans sd)).a.new hpp;have pl:(psI i n).length=n:=by unfold psI;rw[Mq,Nv]
  generalize hps:psI i n=ps at ee pl;refine J1 _ _ ?_;clear J1 N1;have sce:=((sa.trans sb).trans sd).trans se;have te:=tc.trans sce;try dsimp only
  refine ag λN1 J1=>?_;have eRe:=sce _ _ eR;refine{MG {rfl,_,SqL.of eRe},by show 3<=sizeLine;decide,λtdd htd=>?_};obtain⟨sf,ef⟩:=alc htd (HO.tup [V.str "deed",.str (N (dnI i)),.ref pp]);generalize upd He tdd _=Hf at sf ef⊢;have scf:=sce.trans sf;refine{_,_,_,rfl,rfl,sf _ _ eRe,aG (),?_};have Bf:=B.same scf;have Ag:=Bf.a.put RM (ys:=ys++[V.ref tdd]) (scf _ _ eR);have sg:ai H (upd Hf R (.lst (ys++[V.ref tdd]))):=ai.out (tc.trans scf) R0 _;have eRg:upd Hf R (.lst (ys++[V.ref tdd])) R=Vn (.lst (ys++[V.ref tdd])):=ao;have mg:Sm (R::s.Q) Hf (upd Hf R (.lst (ys++[V.ref tdd]))):=Sm.at MA _;have fg:aW N (del (R::s.Q) (upd Hf R (.lst (ys++[V.ref tdd])))) (hs.map Fr.leaf++bB des++[.bj (dnI i) ps]) (ys++[V.ref tdd]):=by
   refine Paired.two (aW.same (Sm.del ((Sm.new scf).trans mg)) fr) (.cons ?_ .nil);have n1:tdd∉R::s.Q:=λm=>by
    rcases Mw.mp m with z|z
    ·rw[z,eRe]at htd;cases htd
    exact(B.same sce).a.new htd (Sa.qm z)
   have n2:pp∉R::s.Q:=λm=>by
    rcases Mw.mp m with z|z
    ·rw[z,((sa.trans sb).trans sd) _ _ eR]at hpp;cases hpp
    exact(B.same ((sa.trans sb).trans sd)).a.new hpp (Sa.qm z)
   refine fr1 (p:=pp) (aK n1 (mg _ _ n1 ef)) rfl (aK n2 (mg _ _ n2 (sf _ _ ee)))
  have epg:upd Hf R (.lst (ys++[V.ref tdd])) pp=Vn (.lst (nV N ps)):=aw (λz=>by rw[z,((sa.trans sb).trans sd) _ _ eR]at hpp;cases hpp) (sf _ _ ee);have Bg:BAt N (upd Hf R (.lst (ys++[V.ref tdd]))) s g [] (iU des) [] []:=B.with Ag;generalize upd Hf R (.lst (ys++[V.ref tdd]))=Hg at sg eRg fg epg Bg⊢;clear Ag mg Bf;refine J1 _ _ ?_;clear J1 N1;try dsimp only
  refine ag λN1 J1=>{c,_,rfl,(),(),λm2 m20 m21=>{by show(0:Int)<6;decide,?_}};obtain⟨k6,ek6⟩:∃n:Nat,m2%6=(n:Int):={(m2%6).toNat,by have:=bP m2 (show(0:Int)<6 by decide);lia};have k6l:k6<=5:=by have:=bP m2 (show(0:Int)<6 by decide);lia
  dsimp only;rw[ek6];refine J1 _ _ ?_;clear J1 N1;try dsimp only
  refine ag λN1 J1=>{a,ns,av,k6,rfl,sg.seq hA,(),(),λCL cs Hh sh fh eh lh=>{N,s.F,pp,ps,rfl,(sg.trans sh) _ _ hN,sh _ _ epg,(),λsc Hi si fi eSc=>?_}};have sgi:=sh.trans si;have Bi:=(Bg.same sgi).idle ps;have ki:∀{x:O4}{o:HO},Hg x=Vo->Hi x=Vn o->del s.M Hi x=Vn o:=λ{x o} h e=>aK (Bg.a.new h) e;have scd:qx N (del s.M Hi) sc ps:=eSc s.M λx hx=>(Bg.same sh).a.in hx;refine{N,s,g,ps,iU des,CL,sc,cs,200,rfl,Bi,ki fh (si _ _ eh),(),scd,hdd,λR2 zs ts g2 Hj sj hR2 eR2 fr2 ok2 dp2 ln2 B2 gd2=>?_};have tj:ai H Hj:=Sm.same sj (sg.trans sgi) qH;have eRj:Hj R=Vn (.lst (ys++[V.ref tdd])):=sj _ _ RQ (sgi _ _ eRg);have lz:=Pd fr2;rw[Mo,Mr]at lz;refine{R,R2,_,_,rfl,rfl,eRj,eR2,sz (by rw[Mo,Mr];lia),λR3 hR3=>?_};have sk:=ai.upd hR3 (.lst (ys++[V.ref tdd]++zs));have tk:=tj.trans sk;have fj:aW N (del s.Q Hj) (hs.map Fr.leaf++bB des++[.bj (dnI i) ps]++(aA ts++[.fin])) (ys++[V.ref tdd]++zs):=by
   refine Paired.two (aW.same (λx o h=>?_) fg) fr2;obtain⟨h1,h2⟩:=cw h;have h1':x∉s.Q:=λm=>h1 (Mz _ m);exact aK h1' (sj _ _ h1' (sgi _ _ h2))
  have fk:=aW.fresh hR3 (o:=.lst (ys++[V.ref tdd]++zs)) fj;have eRk:upd Hj R3 (.lst (ys++[V.ref tdd]++zs)) R3=Vn (.lst (ys++[V.ref tdd]++zs)):=ao;have R3M:R3∉s.M:=B2.a.new hR3;have R30:H R3=Vo:=ai.free tj hR3;have Bk:=B2.same sk;generalize upd Hj R3 (.lst (ys++[V.ref tdd]++zs))=Hk at sk tk fk eRk Bk⊢;have epk:=sk _ _ (sj _ _ (λm=>ppM (Sa.qm m)) (sgi _ _ epg));refine J1 _ _ ?_;clear J1 N1;try dsimp only
  refine ag λN1 J1=>?_;obtain⟨dvs,hdk,ddk⟩:=Bk.a.hd;refine dgk Bk.a.hS rfl {MG {rfl,_,SqL.of hdk},lnl epk (dgk Bk.a.hS rfl {by show 3<=sizeLine;decide,λte hte=>?_})};have lpv:(nV N ps).length=n:=by rw[Mq,pl]
  rw[lpv];obtain⟨sl,el⟩:=alc hte (HO.tup [V.str (N (dnI i)),.int (n:Int),.int (201-g2.room)]);generalize upd Hk te _=Hl at sl el⊢;have dlen:=Pd ddk;have Bl:=Bk.same sl;have gl:g2.dd.length=des.length:=by
   have:=congrArg QF B2.de;unfold iU at this;rw[Mq,Mq]at this;exact this
  refine{_,_,_,rfl,rfl,sl _ _ hdk,aG (),?_};have teM:te∉s.M:=Bk.a.new hte;have Am:=Bl.a.Kf (ds:=dvs++[V.ref te]) (g2.dd++[(dnI i,n,201-g2.room)]) (Paired.two (wt.same (Sm.del (Sm.new sl)) ddk) (.cons ⟨te,rfl,aK teM el⟩ .nil));have sdQ:s.d∈s.Q:=by simp
  have mm:Sm (R3::s.Q) Hl (upd Hl s.d (.lst (dvs++[V.ref te]))):=Sm.at (Mz _ sdQ) _;have tm:ai H (upd Hl s.d (.lst (dvs++[V.ref te]))):=ai.out (tk.trans sl) (qH _ sdQ) _;have dnew:iU (des++[(dnI i,ps,ts)])=iU des++[(dnI i,n)]:=by
   unfold iU;rw[M6];simp[pl]
  refine J1 _ _ ?_;clear J1 N1;refine{R3,_,_,_,_,_,des++[(dnI i,ps,ts)],{ g2 with dd:=g2.dd++[(dnI i,n,201-g2.room)] },ys++[V.ref tdd]++zs,av+k6,rfl,tm,R30,R3M,aw (λz=>R3M (z▸Sa.qm sdQ)) (sl _ _ eRk),?_,by rw[Mo,dl];rfl,⟨λk d hd=>?_⟩,{Am,B2.op,B2.tl,B2.tb,?_,trivial,by rw[cM];trivial,MF _,by rw[cy];exact MF _},λe he=>?_,(),by push_cast;lia,?_}
  ·rw[show hs.map Fr.leaf++bB (des++[(dnI i,ps,ts)])=hs.map Fr.leaf++bB des++[.bj (dnI i) ps]++(aA ts++[.fin]) by unfold bB;rw[Nx];simp[flD]];exact aW.same (Sm.del ((Sm.new sl).trans mm)) fk
  ·by_cases hk:k<des.length
   ·rw[MW hk]at hd;have:=dk.at' k d hd;rw[N5 ()];exact this
   have ek:k=des.length:=by
    have:=(MC.mp hd).1;rw[Mo,Mr]at this;lia
   subst ek;rw[MU (Ms _),Nz]at hd;cases hd;rw[US,dl]
   ·exact{rfl,⟨n,nlt,hps.symm⟩,ok2,dp2,by show(aA ts).length<=17;lia}
   rfl
  ·show List.map _ (g2.dd++[(dnI i,n,201-g2.room)])=_;rw[dnew,M6,B2.de];rfl
  ·rcases Mu.mp he with m|m
   ·exact hdd e (gd2▸m)
   rw[Mp.mp m];exact{st24.2.1,by show n<=4;lia}
  rw[Mo,Mo,Mr];lia
 rintro σ Hc ⟨R,v6,v7,v8,v9,v10,des,g,ys,av,rfl,tc,R0,RM,eR,fr,dl,dk,B,hdd,a8,aM,yl⟩;have dl:des.length=3:=dl;have aM:av<=8+5*3:=aM;have yl:ys.length<=11+19*3:=yl;refine K1 _ _ ?_;clear K1 M1;have RQ:R∉s.Q:=λm=>RM (Sa.qm m);try dsimp only
 refine ag λM1 K1=>{MG {rfl,_,SqL.of eR},by show 1<=sizeLine;decide,λtdd htd=>?_};obtain⟨sf,ef⟩:=alc htd (HO.tup [V.str "main"]);generalize upd Hc tdd _=Hf at sf ef⊢;refine{_,_,_,rfl,rfl,sf _ _ eR,aG (),?_};have Ag:=(B.same sf).a.put RM (ys:=ys++[V.ref tdd]) (sf _ _ eR);have sg:ai H (upd Hf R (.lst (ys++[V.ref tdd]))):=ai.out (tc.trans sf) R0 _;have eRg:upd Hf R (.lst (ys++[V.ref tdd])) R=Vn (.lst (ys++[V.ref tdd])):=ao;have mg:Sm (R::s.Q) Hf (upd Hf R (.lst (ys++[V.ref tdd]))):=Sm.at MA _;have fg:aW N (del (R::s.Q) (upd Hf R (.lst (ys++[V.ref tdd])))) (hs.map Fr.leaf++bB des++[.main]) (ys++[V.ref tdd]):=by
  refine Paired.two (aW.same (Sm.del ((Sm.new sf).trans mg)) fr) (.cons ?_ .nil);have n1:tdd∉R::s.Q:=λm=>by
   rcases Mw.mp m with z|z
   ·rw[z,eR]at htd;cases htd
   exact B.a.new htd (Sa.qm z)
  exact fr0 (aK n1 (mg _ _ n1 ef)) rfl
 have Bg:BAt N (upd Hf R (.lst (ys++[V.ref tdd]))) s g [] (iU des) [] []:=B.with Ag;generalize upd Hf R (.lst (ys++[V.ref tdd]))=Hg at sg eRg fg Bg⊢;clear Ag mg;refine K1 _ _ ?_;clear K1 M1;try dsimp only
 refine ag λM1 K1=>{c,19,rfl,∅,∅,λm2 m20 m21=>{by show(0:Int)<33;decide,?_}};obtain⟨k6,ek6⟩:∃n:Nat,4+m2%33=(n:Int):={(4+m2%33).toNat,by have:=bP m2 (show(0:Int)<33 by decide);lia};have k6l:k6<=36:=by have:=bP m2 (show(0:Int)<33 by decide);lia
 refine{a,ns,av,k6,by rw[<-ek6];rfl,sg.seq hA,(),(),λCL cs Hh sh fh eh lh=>K1 _ _ ?_};clear K1 M1;try dsimp only
 refine{MF _,λpp hpp=>?_};obtain⟨sp,ep⟩:=alc hpp (HO.lst []);generalize upd Hh pp _=Hp' at sp ep⊢;refine{N,s.F,pp,[],rfl,(sg.trans (sh.trans sp)) _ _ hN,ep,∅,λsc Hi si fi eSc=>?_};have sgi:=(sh.trans sp).trans si;have Bi:=Bg.same sgi;refine{N,s,g,[],iU des,CL,sc,cs,800,rfl,Bi,aK (Bg.a.new fh) ((sp.trans si) _ _ eh),(),eSc s.M λx hx=>(Bg.same (sh.trans sp)).a.in hx,hdd,λR2 zs ts g2 Hj sj hR2 eR2 fr2 ok2 dp2 ln2 B2 gd2=>?_};have tj:ai H Hj:=Sm.same sj (sg.trans sgi) qH;have eRj:Hj R=Vn (.lst (ys++[V.ref tdd])):=sj _ _ RQ (sgi _ _ eRg);have lz:=Pd fr2;rw[Mo,Mr]at lz;refine{R,R2,_,_,rfl,rfl,eRj,eR2,sz (by rw[Mo,Mr];lia),λR3 hR3=>?_};have sk:=ai.upd hR3 (.lst (ys++[V.ref tdd]++zs));refine q R3 _ hs des ts _ (tj.trans sk) (ai.free tj hR3) ao ?_ {⟨rk,z,tt,ehs,hrk,z1,z4,t11⟩,dl,dk,ok2,dp2,()};unfold flA;rw[show hs.map Fr.leaf++bB des++ .main::(aA ts++[.fin])=hs.map Fr.leaf++bB des++[.main]++(aA ts++[.fin]) by simp];refine Paired.two (aW.same (λx o h=>?_) fg) (aW.same (λx o h=>sk _ _ (cw h).2) fr2);obtain⟨h1,h2⟩:=cw h;exact sk _ _ (sj _ _ (λm=>h1 (Mz _ m)) (sgi _ _ h2))
noncomputable def rsH(X H H':Hp):Hp:=λb=>if((X b).isSome||(H b).isNone)=true then H' b else Vo
theorem rP{X H H':Hp}{b:O4}{o:HO}(h:rsH X H H' b=Vn o):((X b).isSome||(H b).isNone)=true/\H' b=Vn o:=by
 unfold rsH at h;split at h
 ·next c=>exact⟨c,h⟩
 cases h
theorem w8{X H H':Hp}{b:O4}{o:HO}(c:((X b).isSome||(H b).isNone)=true)(h:H' b=Vn o):rsH X H H' b=Vn o:=by
 unfold rsH;rw[if_pos c];exact h
theorem vG{X H H':Hp}:ai (rsH X H H') H':=λb o h=>(rP h).2
theorem fN{X H H' H'':Hp}(s:ai H' H''):ai (rsH X H H') (rsH X H H''):=λb o h=>w8 (rP h).1 (s _ _ (rP h).2)
theorem oQ{X H H1 H':Hp}(d:∀b,H1 b=Vo->H b=Vo):ai (rsH X H1 H') (rsH X H H'):=λb o h=>by
 obtain⟨c,e⟩:=rP h;refine w8 ?_ e;rcases Bool.or_eq_true_iff.mp c with c|c
 ·rw[c];rfl
 rw[d b (Ol.mp c)];simp
theorem kh{X H H':Hp}(s:ai X H'):ai X (rsH X H H'):=λb o h=>w8 (by rw[h];rfl) (s _ _ h)
theorem cY{X H H':Hp}{b:O4}{o:HO}(n:H b=Vo)(h:H' b=Vn o):rsH X H H' b=Vn o:=w8 (by rw[n];simp) h
theorem nK{X H H':Hp}{D:O4}{o:HO}(n:X D=Vo)(e:H D≠Vo):ai (rsH X H H') (rsH X H (upd H' D o)):=λb u h=>by
 obtain⟨c,z⟩:=rP h;refine w8 c (aw (λy=>?_) z);rw[y,n]at c;rcases Bool.or_eq_true_iff.mp c with c|c
 ·cases c
 exact e (Ol.mp c)
theorem VA{H H':Hp}(s:ai H H'):∀b,H' b=Vo->H b=Vo:=λb h=>ai.free s h
noncomputable def wdI(j:Nat):Str:=(["","hand","given","own","let","set","put","send","say","call","last"]:List Str).getD j ""
theorem AZ(r:Lr):r.wd=wdI r.ci:=by cases r<;>rfl
theorem Az(r:Lr):1<=r.ci/\r.ci<=10:=by cases r<;>simp[Lr.ci]
theorem Ft:∀i:Fin 11,∀j:Fin 11,wdI i.val=wdI j.val->i.val=j.val:=by decide+kernel
theorem oP{r:Lr}{j:Nat}(z:decide (V.str r.wd=V.str (wdI j))=true)(hj:j<11:=by decide):r.ci=j:=by
 have h:=V.str.inj (of_decide_eq_true z);rw[AZ]at h;have:=Az r;exact Ft {r.ci,()} ⟨j,hj⟩ h
theorem oA{r:Lr}{j:Nat}(z:¬ decide (V.str r.wd=V.str (wdI j))=true):r.ci≠j:=λe=>z (decide_eq_true (by rw[AZ,e]))
inductive yz(A:Adr)(vs:List V)(H:Hp)(Q:VK)(Z:XK):Prop
 |mk(N:Nat->Str)(X:Hp)(v:V)(n:Int)(r:Lr)(z0:vs=[v,.int n])(z1:ai X H)(z2:kF N X v (.leaf r))
  (z3:∀(a:O4)(H':Hp),ai H H'->H a=Vo->ba A N (rsH X H H') (.ref a) (.leaf n r)->Q (.ref a) H'):yz A vs H Q Z
theorem zf{H:Hp}{x dx:O4}{R:VK}{v0:V}(T:Txt K mg A)(hx:H x=Vo)(hd:H dx=Vo)(q:∀(H':Hp),ai H H'->H' x=Vn (.ins A.dy dx [("number",v0)])->R .non H'):fV K A (.ref x::([v0]++[])) (upd (upd H dx (.own x)) x (.ins A.dy dx [])) R E0:=
 {x,A.dy,dx,[],_,rfl,ao,T.gL.cl,T.fD,∅,q _ (ai.out (ai.out (ai.upd hd _) hx _) hx _) ao}
theorem AE(T:Txt K mg A):T.kg.Hz P w base 5 (yz A):=by
 have fB:=nF (P:=P) (w:=w) (mg:=mg) (base:=base) (A:=A) T.lZ;refine T.kg.hs (k:=4) qE (λf cdv A' outer s H vs Q E hr hu h=>?_);obtain⟨N,X,v,n,r,rfl,s0,⟨a,p,rfl,h1,h2⟩,q⟩:=h;have hT:=SqT.of (K:=K) (s0 _ _ h1);refine{_,(ab (aQ (ptc (b4 hu) (px hu (fv 0) af) au)
   (aj (aC (cK T.jQ (r8 T) hr (fv 1^px hu (fv 0) af^px hu (fv 0) af^ae))))
   aF)
  (ab (aQ (ptc (b4 hu) (px hu (fv 0) af) au)
   (aj (aC (cK T.cL (qI T) hr (fv 1^px hu (fv 0) af^px hu (fv 0) af^px hu (fv 0) af^ae))))
   aF)
  (ab (aQ (ptc (b4 hu) (px hu (fv 0) af) au)
   (aj (aC (cK T.hX (ua T) hr (fv 1^px hu (fv 0) af^px hu (fv 0) af^ae))))
   aF)
  (ab (aQ (ptc (b4 hu) (px hu (fv 0) af) au)
   (aj (aC (cK T.dX (tV T) hr (fv 1^px hu (fv 0) af^px hu (fv 0) af^ae))))
   aF)
  (ab (aQ (ptc (b4 hu) (px hu (fv 0) af) au)
   (aj (aC (cK T.eU (tU T) hr (fv 1^px hu (fv 0) af^px hu (fv 0) af^ae))))
   aF)
  (ab (aQ (ptc (b4 hu) (px hu (fv 0) af) au)
   (aj (aC (cK T.dU (ue T) hr (fv 1^px hu (fv 0) af^px hu (fv 0) af^px hu (fv 0) af^ae))))
   aF)
  (ab (aQ (ptc (b4 hu) (px hu (fv 0) af) au)
   (aj (aC (cK T.dg (rM T) hr (fv 1^px hu (fv 0) af^px hu (fv 0) af^ae))))
   aF)
  (ab (aQ (ptc (b4 hu) (px hu (fv 0) af) au)
   (aj (aC (cK T.b8 (tZ T) hr (fv 1^px hu (fv 0) af^px hu (fv 0) af^px hu (fv 0) af^ae))))
   aF)
  (ab (aQ (ptc (b4 hu) (px hu (fv 0) af) au)
   (aj (aC (cK T.cD (sr T) hr (fv 1^px hu (fv 0) af^pcT q4 T.dm (px hu (fv 0) af^ae)^ae))))
   aF)
  (aj (aC (cK T.gL fB hr (fv 1^ae))))))))))))),?_}
 refine ag λM1 K1=>tix (j:=0) hT rfl {rfl,_,rfl,a9 (λz=>?_) (λz1=>K1 _ _ ?_)}
 ·have ec:=oP (j:=1) z;cases r with
  |hand i r=>
   refine tix (j:=1) hT rfl (tix (j:=2) hT rfl (λr6 dx6 hr6 hd_ hne_=>{_,_,_,_,_,_,rfl,rfl,hr6,hd_,λH6 s6 hx=>{rfl,q r6 H6 s6 hr6 ?_}}));unfold ba;exact{r6,dx6,p,rfl,cY hr6 hx,λo ho=>kh (s0.trans s6) _ _ (h2 o ho)}
  |_=>cases ec
 clear K1 M1;refine ag λM1 K1=>tix (j:=0) hT rfl {rfl,_,rfl,a9 (λz=>?_) (λz2=>K1 _ _ ?_)}
 ·have ec:=oP (j:=2) z;cases r with
  |giv i r z=>
   refine tix (j:=1) hT rfl (tix (j:=2) hT rfl (tix (j:=3) hT rfl (λr6 dx6 hr6 hd_ hne_=>{_,_,_,_,_,_,_,rfl,rfl,hr6,hd_,λH6 s6 hx=>{rfl,q r6 H6 s6 hr6 ?_}})));unfold ba;exact{r6,dx6,p,rfl,cY hr6 hx,λo ho=>kh (s0.trans s6) _ _ (h2 o ho)}
  |_=>cases ec
 clear K1 M1;refine ag λM1 K1=>tix (j:=0) hT rfl {rfl,_,rfl,a9 (λz=>?_) (λz3=>K1 _ _ ?_)}
 ·have ec:=oP (j:=3) z;cases r with
  |own i z=>
   refine tix (j:=1) hT rfl (tix (j:=2) hT rfl (λr6 dx6 hr6 hd_ hne_=>{_,_,_,_,_,_,rfl,rfl,hr6,hd_,λH6 s6 hx=>{rfl,q r6 H6 s6 hr6 ?_}}));unfold ba;exact{r6,dx6,p,rfl,cY hr6 hx,λo ho=>kh (s0.trans s6) _ _ (h2 o ho)}
  |_=>cases ec
 clear K1 M1;refine ag λM1 K1=>tix (j:=0) hT rfl {rfl,_,rfl,a9 (λz=>?_) (λz4=>K1 _ _ ?_)}
 ·have ec:=oP (j:=4) z;cases r with
  |lt i r=>
   refine tix (j:=1) hT rfl (tix (j:=2) hT rfl (λr6 dx6 hr6 hd_ hne_=>{_,_,_,_,_,_,rfl,rfl,hr6,hd_,λH6 s6 hx=>{rfl,q r6 H6 s6 hr6 ?_}}));unfold ba;exact{r6,dx6,p,rfl,cY hr6 hx,λo ho=>kh (s0.trans s6) _ _ (h2 o ho)}
  |_=>cases ec
 clear K1 M1;refine ag λM1 K1=>tix (j:=0) hT rfl {rfl,_,rfl,a9 (λz=>?_) (λz5=>K1 _ _ ?_)}
 ·have ec:=oP (j:=5) z;cases r with
  |set x v=>
   refine tix (j:=1) hT rfl (tix (j:=2) hT rfl (λr6 dx6 hr6 hd_ hne_=>{_,_,_,_,_,_,rfl,rfl,hr6,hd_,λH6 s6 hx=>{rfl,q r6 H6 s6 hr6 ?_}}));unfold ba;exact{r6,dx6,p,rfl,cY hr6 hx,λo ho=>kh (s0.trans s6) _ _ (h2 o ho)}
  |_=>cases ec
 clear K1 M1;refine ag λM1 K1=>tix (j:=0) hT rfl {rfl,_,rfl,a9 (λz=>?_) (λz6=>K1 _ _ ?_)}
 ·have ec:=oP (j:=6) z;cases r with
  |put x t v=>
   refine tix (j:=1) hT rfl (tix (j:=2) hT rfl (tix (j:=3) hT rfl (λr6 dx6 hr6 hd_ hne_=>{_,_,_,_,_,_,_,rfl,rfl,hr6,hd_,λH6 s6 hx=>{rfl,q r6 H6 s6 hr6 ?_}})));unfold ba;exact{r6,dx6,p,rfl,cY hr6 hx,λo ho=>kh (s0.trans s6) _ _ (h2 o ho)}
  |_=>cases ec
 clear K1 M1;refine ag λM1 K1=>tix (j:=0) hT rfl {rfl,_,rfl,a9 (λz=>?_) (λz7=>K1 _ _ ?_)}
 ·have ec:=oP (j:=7) z;cases r with
  |snd h v=>
   refine tix (j:=1) hT rfl (tix (j:=2) hT rfl (λr6 dx6 hr6 hd_ hne_=>{_,_,_,_,_,_,rfl,rfl,hr6,hd_,λH6 s6 hx=>{rfl,q r6 H6 s6 hr6 ?_}}));unfold ba;exact{r6,dx6,p,rfl,cY hr6 hx,λo ho=>kh (s0.trans s6) _ _ (h2 o ho)}
  |_=>cases ec
 clear K1 M1;refine ag λM1 K1=>tix (j:=0) hT rfl {rfl,_,rfl,a9 (λz=>?_) (λz8=>K1 _ _ ?_)}
 ·have ec:=oP (j:=8) z;cases r with
  |say x v m=>
   refine tix (j:=1) hT rfl (tix (j:=2) hT rfl (tix (j:=3) hT rfl (λr6 dx6 hr6 hd_ hne_=>{_,_,_,_,_,_,_,rfl,rfl,hr6,hd_,λH6 s6 hx=>{rfl,q r6 H6 s6 hr6 ?_}})));unfold ba;exact{r6,dx6,p,rfl,cY hr6 hx,λo ho=>kh (s0.trans s6) _ _ (h2 o ho)}
  |_=>cases ec
 clear K1 M1;refine ag λM1 K1=>tix (j:=0) hT rfl {rfl,_,rfl,a9 (λz=>?_) (λz9=>K1 _ _ ?_)}
 ·have ec:=oP (j:=9) z;cases r with
  |call i ts=>
   have hp:=h2 _ rfl;refine tix (j:=1) hT rfl (tix (j:=2) hT rfl (MG {p,_,rfl,MG (SqL.of (s0 _ _ hp)),λl hl=>?_}));obtain⟨s1,e1⟩:=alc hl (HO.lst (ts.map (Th.v N)));generalize upd H l _=H1 at s1 e1⊢;refine λr6 dx6 hr6 hd_ hne_=>{_,_,_,_,_,_,_,rfl,rfl,hr6,hd_,SqL.of e1,λn6 H6 f6 s6 h6 hx=>{rfl,q r6 H6 (s1.trans s6) (ai.free s1 hr6) ?_}};unfold ba;exact{r6,dx6,n6,rfl,cY (ai.free s1 hr6) hx,λo ho=>by cases ho;exact cY (ai.free s1 f6) h6}
  |_=>cases ec
 clear K1 M1;have c:=Az r;have e10:r.ci=10:=by
  have:=oA (j:=1) z1;have:=oA (j:=2) z2;have:=oA (j:=3) z3;have:=oA (j:=4) z4;have:=oA (j:=5) z5;have:=oA (j:=6) z6;have:=oA (j:=7) z7;have:=oA (j:=8) z8;have:=oA (j:=9) z9;lia
 cases r with
 |last=>
  refine λr6 dx6 hr6 hd_ hne_=>zf T hr6 hd_ λH6 s6 hx=>{rfl,q r6 H6 s6 hr6 ?_};unfold ba;exact{r6,dx6,p,rfl,cY hr6 hx,λo ho=>by cases ho}
 |_=>cases e10
mutual
noncomputable def ptT(n:Int):Tr->Pt
 | .leaf r=>.leaf n r
 | .iff v l r f o=>.iff n v l r (bp (n+1) f) (bp (n+2+((aA f).length:Nat)) o)
 | .loop t m l r b=>.loop n t m l r (bp (n+1) b)
noncomputable def bp(n:Int):List Tr->List Pt
 | []=>[]
 |t::ts=>ptT n t::bp (n+((flT t).length:Nat)) ts
end
theorem xM:∀(a:List Tr)(n:Int)(b:List Tr),bp n (a++b)=bp n a++bp (n+((aA a).length:Nat)) b
 | [],n,b=>by
  rw[MX,bp,aA,MX];congr 1;simp
 |t::a,n,b=>by
  rw[M7,bp,bp,xM a,aA,Mo,M7];congr 3;push_cast
  lia
theorem D6(n:Int)(t:Tr):bp n [t]=[ptT n t]:=by rw[bp,bp]
theorem yg:∀(a:List Tr)(n:Int),(bp n a).length=a.length
 | [],n=>by rw[bp];rfl
 |t::a,n=>by rw[bp,Mx,Mx,yg a]
noncomputable def hdF:Tr->Fr
 | .leaf r=>.leaf r
 | .iff v l r _ _=>.iff v l r
 | .loop t m l r _=>.loop t m l r
theorem Ej(t:Tr):∃tl,flT t=hdF t::tl:=by
 cases t with
 |leaf r=>exact{[],by rw[flT];rfl}
 |iff v l r f o=>exact{_,by rw[flT];rfl}
 |loop t m l r b=>exact{_,by rw[flT];rfl}
theorem AJ:∀a:List Tr,a.length<=(aA a).length
 | []=>MF _
 |t::a=>by
  obtain⟨tl,e⟩:=Ej t;have:=AJ a;rw[aA,e,Mo,Mx,Mx];lia
theorem aI.snoc{X:Hp}:∀{ts:List Pt}{vs:List V}{x:V}{t:Pt},aI A N X vs ts->ba A N X x t->aI A N X (vs++[x]) (ts++[t])
 | [],vs,x,t,h,h'=>by
  unfold aI at h;subst h;exact aI.one h'
 |u::ts,vs,x,t,h,h'=>by
  unfold aI at h;obtain⟨y,ys,rfl,h1,h2⟩:=h;exact aI.cons h1 (aI.snoc h2 h')
theorem hV{X:Hp}{fs:List Fr}{xs:List V}(h:aW N X fs xs){a b:List Fr}{f:Fr}(e:fs=a++f::b):∃v,atI xs (a.length:Int)=Vn v/\kF N X v f:=by
 obtain⟨v,hv,fv⟩:=j2 (i:=a.length) (a:=f) h (by rw[e,MU (Ms _),Nz];rfl);exact⟨v,iZ hv,fv⟩
noncomputable def xG(f:Fr):Bool:=match f with
 | .els=>true
 | .fin=>true
 |_=>false
theorem qS(f:Fr):inV (V.str f.wd) [V.str "else",V.str "end"]=xG f:=by
 cases f with
 |leaf r=>cases r<;>rfl
 |_=>rfl
theorem Gz{F:O4}{H H':Hp}(s:Sm [F] H H')(hF:H' F≠Vo):∀b,H' b=Vo->H b=Vo:=λb h=>by
 cases e:H b with
 |none=>rfl
 |some o=>
  by_cases z:b=F
  ·rw[z]at h;exact absurd h hF
  rw[s b o (λm=>z (Mp.mp m)) e]at h;cases h
theorem GD:∀i:Fin 11,wdI i.val≠"if"/\wdI i.val≠"loop":=by decide+kernel
theorem la(r:Lr):¬ decide (V.str r.wd=V.str "if")=true/\¬ decide (V.str r.wd=V.str "loop")=true:=by
 have:=Az r;have h:=GD {r.ci,()};rw[AZ];exact{λz=>h.1 (V.str.inj (of_decide_eq_true z)),λz=>h.2 (V.str.inj (of_decide_eq_true z))}
inductive qX(A:Adr)(d:Nat)(vs:List V)(H:Hp)(Q:VK)(Z:XK):Prop
 |mk(N:Nat->Str)(X:Hp)(L:O4)(xs:List V)(fs pre post:List Fr)(ts:List Tr)(st:Fr)(z0:vs=[.ref L,.int (pre.length:Nat)])(z1:ai X H)(z2:X L=Vn (.lst xs))(z3:aW N X fs xs)(z4:fs=pre++aA ts++st::post)(z5:xG st=true)(z6:cy ts<=d)(z7:xs.length<=300)
  (z8:∀(p R:O4)(ys:List V)(H':Hp),ai H H'->H' p=Vn (.tup [.ref R,.int ((pre.length+(aA ts).length:Nat):Int)])->H' R=Vn (.lst ys)->aI A N (rsH X H H') ys (bp ((pre.length:Nat)+1) ts)->Q (.ref p) H'):qX A d vs H Q Z
inductive E7(ts:List Tr)(L:O4)(pre:List Fr)(F:O4)(H1:Hp)(A:Adr)(N:Nat->Str)(X:Hp)(m:Nat)(σ:St)(Hc:Hp):Prop
 |mk(dn rest:List Tr)(ys:List V)(v3 v4 v5 v6 v7:Option V):ts=dn++rest->rest.length=m->σ=[Vn (.ref L),Vn (.int ((pre.length+(aA dn).length:Nat):Int)),Vn (.ref F),v3,v4,v5,v6,v7]->Sm [F] H1 Hc->Hc F=Vn (.lst ys)->aI A N (rsH X H1 Hc) ys (bp ((pre.length:Nat)+1) dn)->E7 ts L pre F H1 A N X m σ Hc
inductive Dv(m:Nat)(ts:List Tr)(L:O4)(pre:List Fr)(F:O4)(H1:Hp)(A:Adr)(N:Nat->Str)(X:Hp)(σ:St)(Hc:Hp):Prop
 |mk(dn rest:List Tr)(ys:List V)(v3 v4 v5 v6 v7:Option V)(m':Nat):m'<m->ts=dn++rest->rest.length=m'->σ=[Vn (.ref L),Vn (.int ((pre.length+(aA dn).length:Nat):Int)),Vn (.ref F),v3,v4,v5,v6,v7]->Sm [F] H1 Hc->Hc F=Vn (.lst ys)->aI A N (rsH X H1 Hc) ys (bp ((pre.length:Nat)+1) dn)->Dv m ts L pre F H1 A N X σ Hc
theorem AU(T:Txt K mg A)(d j:Nat)(hj:5<=j)(dB:T.dh.Hz P w base j (spN (qX A) d)):T.dh.Hz P w base (j+1) (qX A d):=by
 refine T.dh.hs (k:=j) aV (λf cdv A' outer s H vs Q E hr hu h=>?_);obtain⟨N,X,L,xs,fs,pre,post,ts,st,rfl,s0,hL,fr,efs,hst,dp,lx,q⟩:=h;have lfs:fs.length<=300:=by rw[Pd fr];exact lx
 refine{_,(ab (pst 2 aV.nd (aN ae))
  (ab (fW Pk (ptc (iG hu) (px hu (px hu (fv 0) (fv 1)) af) (aS (au^au^ae)) ((by with_unfolding_all rfl)))
   (ab (pst 3 aV.nd (px hu (fv 0) (fv 1)))
   (ab (pst 4 aV.nd (aB aL (fv 1) af))
   (ab (aQ (ptc (b4 hu) (px hu (fv 3) af) au)
    (ab (bW (ak (hj:=by lia) dB hr (fv 0^aB aL (fv 1) af^ae)) (dG rfl (aP (pgn (i:=5) aV.nd rfl) (aP (pgn (i:=1) aV.nd rfl) cF))))
    (ab (bW (ak (hj:=by lia) dB hr (fv 0^aB aL (fv 1) af^ae)) (dG rfl (aP (pgn (i:=6) aV.nd rfl) (aP (pgn (i:=1) aV.nd rfl) cF))))
    (aj (aO (bt (fv 2) ((cK (hj:=by lia) T.bY (wO T) hr (fv 4^px hu (fv 3) af^fv 5^fv 6^px hu (fv 3) af^px hu (fv 3) af^ae))^ae))))))
    (aj (aQ (ptc (b4 hu) (px hu (fv 3) af) au)
     (ab (bW (ak (hj:=by lia) dB hr (fv 0^aB aL (fv 1) af^ae)) (dG rfl (aP (pgn (i:=7) aV.nd rfl) (aP (pgn (i:=1) aV.nd rfl) cF))))
     (aj (aO (bt (fv 2) ((cK (hj:=by lia) T.bA (sv T) hr (fv 4^px hu (fv 3) af^px hu (fv 3) af^fv 7^px hu (fv 3) af^px hu (fv 3) af^ae))^ae)))))
     (aj (aO (bt (fv 2) ((ak (hj:=by lia) (AE T) hr (fv 3^fv 4^ae))^ae)))))))
   (aj (pst 1 aV.nd (aB aL (fv 1) af)))))))
  (aj (aC (aS (fv 2^fv 1^ae)))))),?_}
 refine ag λM1 K1=>{MF _,λF hF=>?_};obtain⟨s1,e1⟩:=alc hF (HO.lst []);generalize upd H F _=H1 at s1 e1⊢;have XF:X F=Vo:=ai.free s0 hF;have H1F:H1 F≠Vo:=by rw[e1];simp
 have FL:L≠F:=λz=>by rw[z,XF]at hL;cases hL
 refine K1 _ _ ?_;clear K1 M1;try dsimp only
 refine ag λM1 K1=>{E7 ts L pre F H1 A N X,{ts.length,[],ts,[],Vo,Vo,Vo,Vo,Vo,rfl,rfl,rfl,Sm.refl _ _,e1,by rw[bp];exact aI.nil},?_};rintro m σ Hc ⟨dn,rest,ys,v3,v4,v5,v6,v7,ets,em,rfl,sc,hFc,pt⟩;have sX:ai X Hc:=sc.same (s0.trans s1) (λm hm=>by rw[Mp.mp hm];exact XF);have sH:ai H Hc:=sc.same s1 (λm hm=>by rw[Mp.mp hm];exact hF);have hLc:=SqL.of (K:=K) (sX _ _ hL);have nb:=Gz sc (by rw[hFc];simp);cases rest with
 |nil=>
  rw[MP]at ets;subst ets;obtain⟨v,av,⟨a,p,rfl,ha,_⟩⟩:=hV fr (a:=pre++aA ts) (f:=st) (b:=post) efs;rw[Mo]at av;refine lix hLc av (tix (j:=0) (SqT.of (sX _ _ ha)) rfl {by show 2<=sizeLine;decide,λtp htp=>?_});have st':=ai.upd htp (.tup [V.str "else",.str "end"]);refine MG {_,NF (SqT.of ao),rfl,rfl,_,rfl,a9 (λz=>absurd z (by show ¬ (!inV (V.str st.wd) [V.str "else",V.str "end"])=true;rw[qS,hst];decide)) (λ_=>K1 _ _ {by show 2<=sizeLine;decide,λp hp=>?_})};have s5:=ai.upd hp (.tup [V.ref F,.int ((pre.length+(aA ts).length:Nat):Int)]);exact q p F ys _ (sH.trans (st'.trans s5)) ao ((st'.trans s5) _ _ hFc) (aI.same (oQ (VA s1)) _ _ (aI.same (fN (st'.trans s5)) _ _ pt))
 |cons t rest=>
 clear K1;obtain⟨tl,et⟩:=Ej t;have efs':fs=(pre++aA dn)++hdF t::(tl++aA rest++st::post):=by
  rw[efs,ets,dD,aA,et];simp
 obtain⟨v,av,fv'⟩:=hV fr efs';rw[Mo]at av;have fv0:=fv';obtain⟨a,p,rfl,ha,hob⟩:=fv';have nstop:xG (hdF t)=false:=by cases t<;>rfl
 refine lix hLc av (tix (j:=0) (SqT.of (sX _ _ ha)) rfl {by show 2<=sizeLine;decide,λtp htp=>?_});obtain⟨s2,e2⟩:=alc htp (HO.tup [V.str "else",.str "end"]);generalize upd Hc tp _=H2 at s2 e2⊢;refine MG {_,NF (SqT.of e2),rfl,rfl,_,rfl,a9 (λ_=>?_) (λz=>absurd (by show(!inV (V.str (hdF t).wd) [V.str "else",V.str "end"])=true;rw[qS,nstop];rfl) z)};refine{Dv m ts L pre F H1 A N X,λσ Hc ⟨dn,rest,ys,v3,v4,v5,v6,v7,m',hm',h1,h2,h3,h4,h5,h6⟩=>⟨m',hm',dn,rest,ys,v3,v4,v5,v6,v7,h1,h2,h3,h4,h5,h6⟩,?_};have sX2:=sX.trans s2;have dlen:=AJ dn;have lf:pre.length+(aA dn).length+1<=fs.length:=by
  have:=congrArg QF efs';simp only[Mo,Mx]at this;lia
 have ly:ys.length=dn.length:=by rw[pt.len,yg]
 have dpt:dpT t<=d:=by
  rw[ets,lQ,cy]at dp;lia
 try dsimp only
 refine ag λN1 J1=>lix (s2.seq hLc) av (J1 _ _ ?_);clear J1 N1;try dsimp only
 refine ag λN1 J1=>J1 _ _ ?_;clear J1 N1;try dsimp only
 refine ag λN1 J1=>?_;have hF2:=s2 _ _ hFc;have fin:∀(x:V)(H4:Hp)(u5 u6 u7:Option V)(at':Int),ai H2 H4->ba A N (rsH X H2 H4) x (ptT (((pre.length+(aA dn).length:Nat):Int)+1) t)->at'+1=((pre.length+(aA dn).length+(flT t).length:Nat):Int)->
   N1 [Vn (.ref L),Vn (.int at'),Vn (.ref F),Vn (.ref a),Vn (.int (((pre.length+(aA dn).length:Nat):Int)+1)),u5,u6,u7] (upd H4 F (.lst (ys++[x]))):=by
  intro x H4 u5 u6 u7 at' s4 pa ea
  refine J1 _ _ ?_
  have s5:Sm [F] H4 (upd H4 F (.lst (ys++[x]))):=Sm.at (Mp.mpr rfl) _
  have em':rest.length+1=m:=em
  refine{dn++[t],rest,ys++[x],Vn (.ref a),Vn (.int (((pre.length+(aA dn).length:Nat):Int)+1)),u5,u6,u7,rest.length,(),by rw[ets];simp,rfl,?_,(sc.trans (Sm.new (s2.trans s4))).trans s5,ao,?_}
  ·show[_,Vn (V.int (at'+1)),_,_,_,_,_,_]=_;rw[ea,dD,ox,Mo,NU]
  rw[xM,D6,show((pre.length:Nat):Int)+1+((aA dn).length:Nat)=((pre.length+(aA dn).length:Nat):Int)+1 by push_cast;lia]
  refine aI.snoc (aI.same (nK XF H1F) _ _ (aI.same (fN (s2.trans s4)) _ _ pt)) (ba.same (nK XF H1F) _ _ (ba.same (oQ λb h=>nb b (ai.free s2 h)) _ _ pa))
 clear J1;have hT2:=SqT.of (K:=K) (sX2 _ _ ha);have szy:∀{n:Nat},n=ys.length->n<sizeLine:=λe=>aG ();cases t with
 |leaf r=>
  refine tix (j:=0) hT2 rfl {rfl,_,rfl,a9 (λz=>absurd z (la r).1) (λ_=>tix (j:=0) hT2 rfl {rfl,_,rfl,a9 (λz=>absurd z (la r).2) (λ_=>{MG {rfl,_,SqL.of hF2},N,X,_,_,r,rfl,sX2,fv0,λb H4 s4 hb pb=>{_,_,_,rfl,rfl,s4 _ _ hF2,szy rfl,fin _ H4 _ _ _ _ s4 (by rw[ptT];exact pb) (by rw[flT];push_cast;rfl)}})})}
 |iff vv l r ff oo=>
  have hp:=hob _ rfl;rw[dpT]at dpt;cases d with
  |zero=>lia
  |succ d=>
  refine tix (j:=0) hT2 rfl {rfl,_,rfl,a9 (λ_=>?_) (λz=>absurd (show decide (V.str "if"=V.str "if")=true from decide_eq_true rfl) z)};have e1':fs=(pre++aA dn++[.iff vv l r])++aA ff++ .els::(aA oo++ .fin::(aA rest++st::post)):=by
   rw[efs,ets,dD,aA,flT];simp
  have e2':fs=(pre++aA dn++[.iff vv l r]++aA ff++[.els])++aA oo++ .fin::(aA rest++st::post):=by
   rw[e1'];simp
  have l1:(pre++aA dn++[Fr.iff vv l r]).length=pre.length+(aA dn).length+1:=by simp only[Mo,Mr]
  have l2:(pre++aA dn++[Fr.iff vv l r]++aA ff++[Fr.els]).length=pre.length+(aA dn).length+1+(aA ff).length+1:=by simp only[Mo,Mr]
  refine ag λN2 J2=>{N,X,L,xs,fs,_,_,ff,.els,by rw[l1];push_cast;rfl,sX2,hL,fr,e1',rfl,(),lx,λp1 R1 y1 H3 s3 ep1 eR1 pt1=>{p1,_,rfl,SqT.of ep1,rfl,_,_,rfl,_,_,rfl,rfl,J2 _ _ ?_}};clear J2 N2;have sX3:=sX2.trans s3;try dsimp only
  refine ag λN2 J2=>{N,X,L,xs,fs,_,_,oo,.fin,by rw[l1,l2];push_cast;rfl,sX3,hL,fr,e2',rfl,(),lx,λp2 R2 y2 H4 s4 ep2 eR2 pt2=>{p2,_,rfl,SqT.of ep2,rfl,_,_,rfl,_,_,rfl,rfl,J2 _ _ ?_}};clear J2 N2;have s34:=s3.trans s4;have hT4:=s34.tup hT2;try dsimp only
  refine{MG {rfl,_,SqL.of (s34 _ _ hF2)},tix (j:=1) hT4 rfl (tix (j:=2) hT4 rfl (tix (j:=3) hT4 rfl (λr6 dx6 hr6 hd_ hne_=>{_,_,_,_,_,_,_,_,_,_,_,rfl,rfl,hr6,hd_,SqL.of (s4 _ _ eR1),SqL.of eR2,λn6 n7 H6 f6 f7 s6 h6 h7 hx=>{rfl,?_}})))};have s26:=s34.trans s6;refine{_,_,_,rfl,rfl,s26 _ _ hF2,szy rfl,fin _ H6 _ _ _ _ s26 ?_ ?_}
  ·rw[ptT];unfold ba;rw[l1]at pt1;rw[l2]at pt2;refine{r6,dx6,p,n6,n7,y1,y2,rfl,cY (ai.free s34 hr6) hx,kh (sX2.trans s26) _ _ hp,cY (ai.free s34 f6) h6,cY (ai.free s34 f7) h7,?_,?_}
   ·have:=aI.same (fN (s4.trans s6)) _ _ pt1;push_cast at this⊢
    exact this
   have:=aI.same (oQ (VA s3)) _ _ (aI.same (fN s6) _ _ pt2);push_cast at this⊢
   rw[show(↑pre.length+ ↑(aA dn).length+1+2+ ↑(aA ff).length:Int)=↑pre.length+ ↑(aA dn).length+1+ ↑(aA ff).length+1+1 by lia];exact this
  rw[l2,flT];simp only[Mx,Mo,Ng];push_cast
  lia
 |loop th mm l r bb=>
  rw[dpT]at dpt;cases d with
  |zero=>lia
  |succ d=>
  refine tix (j:=0) hT2 rfl {rfl,_,rfl,a9 (λz=>absurd z (show ¬ decide (V.str "loop"=V.str "if")=true by decide)) (λ_=>tix (j:=0) hT2 rfl {rfl,_,rfl,a9 (λ_=>?_) (λz=>absurd (show decide (V.str "loop"=V.str "loop")=true from decide_eq_true rfl) z)})};have e1':fs=(pre++aA dn++[.loop th mm l r])++aA bb++ .fin::(aA rest++st::post):=by
   rw[efs,ets,dD,aA,flT];simp
  have l1:(pre++aA dn++[Fr.loop th mm l r]).length=pre.length+(aA dn).length+1:=by simp only[Mo,Mr]
  refine ag λN2 J2=>{N,X,L,xs,fs,_,_,bb,.fin,by rw[l1];push_cast;rfl,sX2,hL,fr,e1',rfl,(),lx,λp1 R1 y1 H3 s3 ep1 eR1 pt1=>{p1,_,rfl,SqT.of ep1,rfl,_,_,rfl,_,_,rfl,rfl,J2 _ _ ?_}};clear J2 N2;have hT3:=s3.tup hT2;try dsimp only
  refine{MG {rfl,_,SqL.of (s3 _ _ hF2)},tix (j:=1) hT3 rfl (tix (j:=2) hT3 rfl (tix (j:=3) hT3 rfl (tix (j:=4) hT3 rfl (λr6 dx6 hr6 hd_ hne_=>{_,_,_,_,_,_,_,_,_,_,rfl,rfl,hr6,hd_,SqL.of eR1,λn6 H6 f6 s6 h6 hx=>{rfl,?_}}))))};have s26:=s3.trans s6;refine{_,_,_,rfl,rfl,s26 _ _ hF2,szy rfl,fin _ H6 _ _ _ _ s26 ?_ ?_}
  ·rw[ptT];unfold ba;rw[l1]at pt1;refine{r6,dx6,n6,y1,rfl,cY (ai.free s3 hr6) hx,cY (ai.free s3 f6) h6,?_};have:=aI.same (fN s6) _ _ pt1;push_cast at this⊢
   exact this
  rw[l1,flT];simp only[Mx,Mo,Ng];push_cast
  lia
theorem yL(T:Txt K mg A):∀d,T.dh.Hz P w base (d+6) (qX A d)
 |0=>AU T 0 5 (Ms _) (T.dh.hs (k:=4) aV (λ_ _ _ _ _ _ _ _ _ _ _ h=>h.elim) (λ_ _ _ _ h=>h.elim))
 |d+1=>AU T (d+1) (d+6) () (yL T d)
end
section
variable{P:Program}{w:Pf}{K:Pa}{mg:Str->Option E9}{base:PH}{A:Adr}{N:Nat->Str}
seal PE PA PS PSs PT PW
noncomputable def hdP(n:Int):List Lr->List Pt
 | []=>[]
 |r::rs=>.leaf n r::hdP (n+1) rs
noncomputable def deP(n:Int):List De->List Pt
 | []=>[]
 |d::ds=>.bj n d.1 d.2.1 (bp (n+1) d.2.2)::deP (n+((flD d).length:Nat)) ds
theorem Ao:∀(a:List Lr)(n:Int)(b:List Lr),hdP n (a++b)=hdP n a++hdP (n+(a.length:Nat)) b
 | [],n,b=>by
  rw[MX,hdP,MX];congr 1;simp
 |r::a,n,b=>by
  rw[M7,hdP,hdP,Ao a,Mx,M7];congr 3;push_cast
  lia
theorem Au:∀(a:List De)(n:Int)(b:List De),deP n (a++b)=deP n a++deP (n+((bB a).length:Nat)) b
 | [],n,b=>by
  rw[MX,deP,MX];congr 1;simp[bB]
 |d::a,n,b=>by
  rw[M7,deP,deP,Au a,show bB (d::a)=flD d++bB a from rfl,Mo,M7];congr 3;push_cast
  lia
theorem qY:∀(a:List Lr)(n:Int),(hdP n a).length=a.length
 | [],n=>rfl
 |r::a,n=>by rw[hdP,Mx,Mx,qY a]
theorem qZ:∀(a:List De)(n:Int),(deP n a).length=a.length
 | [],n=>rfl
 |r::a,n=>by rw[deP,Mx,Mx,qZ a]
theorem xn{M:List O4}{H H':Hp}(s:Sm M H H')(hF:∀m∈M,H' m≠Vo):∀b,H' b=Vo->H b=Vo:=λb h=>by
 cases e:H b with
 |none=>rfl
 |some o=>
  by_cases z:b∈M
  ·exact absurd h (hF b z)
  rw[s b o z e]at h;cases h
noncomputable def dmF(f:Fr):Bool:=match f with
 | .bj _ _=>true
 | .main=>true
 |_=>false
theorem Dj(f:Fr):inV (V.str f.wd) [V.str "deed",V.str "main"]=dmF f:=by
 cases f with
 |leaf r=>cases r<;>rfl
 |_=>rfl
noncomputable def msN(hs:List Lr)(ds:List De):Int:=((hs.length+(bB ds).length:Nat):Int)+2
inductive xi(A:Adr)(vs:List V)(H:Hp)(Q:VK)(Z:XK):Prop
 |mk(N:Nat->Str)(X:Hp)(L:O4)(xs:List V)(hs:List Lr)(ds:List De)(mb:List Tr)(z0:vs=[.ref L])(z1:ai X H)(z2:X L=Vn (.lst xs))(z3:aW N X (flA hs ds mb) xs)(z4:eJ hs ds mb)(z7:xs.length<=300)
  (z8:∀(v:V)(H':Hp),ai H H'->wX A N H' v (hdP 1 hs) (deP ((hs.length:Nat)+1) ds) (bp (msN hs ds) mb)->Q v H'):xi A vs H Q Z
inductive EU(hs:List Lr)(L:O4)(F:O4)(G:O4)(H2:Hp)(A:Adr)(N:Nat->Str)(X:Hp)(m:Nat)(σ:St)(Hc:Hp):Prop
 |mk(dn rest:List Lr)(ys:List V):hs=dn++rest->rest.length=m->σ=[Vn (.ref L),Vn (.ref F),Vn (.ref G),Vn (.int (dn.length:Nat)),Vo,Vo,Vo,Vo]->Sm [F,G] H2 Hc->Hc F=Vn (.lst ys)->Hc G=Vn (.lst [])->aI A N (rsH X H2 Hc) ys (hdP 1 dn)->EU hs L F G H2 A N X m σ Hc
inductive Eb(m:Nat)(hs:List Lr)(L:O4)(F:O4)(G:O4)(H2:Hp)(A:Adr)(N:Nat->Str)(X:Hp)(σ:St)(Hc:Hp):Prop
 |mk(dn rest:List Lr)(ys:List V)(m':Nat):m'<m->hs=dn++rest->rest.length=m'->σ=[Vn (.ref L),Vn (.ref F),Vn (.ref G),Vn (.int (dn.length:Nat)),Vo,Vo,Vo,Vo]->Sm [F,G] H2 Hc->Hc F=Vn (.lst ys)->Hc G=Vn (.lst [])->aI A N (rsH X H2 Hc) ys (hdP 1 dn)->Eb m hs L F G H2 A N X σ Hc
inductive Dq(ds:List De)(L:O4)(F:O4)(G:O4)(hs:List Lr)(H2:Hp)(ys:List V)(A:Adr)(N:Nat->Str)(X:Hp)(m:Nat)(σ:St)(Hc:Hp):Prop
 |mk(dn rest:List De)(zs:List V)(v4 v5 v6:Option V):ds=dn++rest->rest.length=m->σ=[Vn (.ref L),Vn (.ref F),Vn (.ref G),Vn (.int ((hs.length+(bB dn).length:Nat):Int)),v4,v5,v6,Vo]->Sm [F,G] H2 Hc->Hc F=Vn (.lst ys)->Hc G=Vn (.lst zs)->aI A N (rsH X H2 Hc) ys (hdP 1 hs)->aI A N (rsH X H2 Hc) zs (deP ((hs.length:Nat)+1) dn)->Dq ds L F G hs H2 ys A N X m σ Hc
inductive El(m:Nat)(ds:List De)(L:O4)(F:O4)(G:O4)(hs:List Lr)(H2:Hp)(ys:List V)(A:Adr)(N:Nat->Str)(X:Hp)(σ:St)(Hc:Hp):Prop
 |mk(dn rest:List De)(zs:List V)(v4 v5 v6:Option V)(m':Nat):m'<m->ds=dn++rest->rest.length=m'->σ=[Vn (.ref L),Vn (.ref F),Vn (.ref G),Vn (.int ((hs.length+(bB dn).length:Nat):Int)),v4,v5,v6,Vo]->Sm [F,G] H2 Hc->Hc F=Vn (.lst ys)->Hc G=Vn (.lst zs)->aI A N (rsH X H2 Hc) ys (hdP 1 hs)->aI A N (rsH X H2 Hc) zs (deP ((hs.length:Nat)+1) dn)->El m ds L F G hs H2 ys A N X σ Hc
theorem Fu(T:Txt K mg A):T.kZ.Hz P w base 13 (xi A):=by
 refine T.kZ.hs (k:=12) br (λf cdv A' outer s H vs Q E hr hu h=>?_);obtain⟨N,X,L,xs,hs,ds,mb,rfl,s0,hL,fr,O,lx,q⟩:=h;have lfs:(flA hs ds mb).length<=300:=by rw[Pd fr];exact lx
 have lfs':hs.length+(bB ds).length+(aA mb).length+2=(flA hs ds mb).length:=by unfold flA;simp;lia
 refine{_,(ab (pst 1 br.nd (aN ae))
  (ab (pst 2 br.nd (aN ae))
  (ab (pst 3 br.nd af)
  (ab (fW Pk (ptc (iG hu) (px hu (px hu (fv 0) (fv 3)) af) (aS (au^au^ae)) ((by with_unfolding_all rfl)))
   (ab (aO (bt (fv 1) ((ak (hj:=by lia) (AE T) hr (px hu (fv 0) (fv 3)^aB aL (fv 3) af^ae))^ae)))
   (aj (pst 3 br.nd (aB aL (fv 3) af)))))
  (ab (fW Pk (ptc (b4 hu) (px hu (px hu (fv 0) (fv 3)) af) au)
   (ab (pst 4 br.nd (aB aL (fv 3) af))
   (ab (bW (ak (hj:=by lia) (yL T 6) hr (fv 0^aB aL (fv 3) af^ae)) (dG rfl (aP (pgn (i:=5) br.nd rfl) (aP (pgn (i:=6) br.nd rfl) cF))))
   (ab (aO (bt (fv 2) ((cK (hj:=by lia) T.b7 (rC T) hr (fv 4^px hu (px hu (fv 0) (fv 3)) af^pcT q4 T.dm (px hu (px hu (fv 0) (fv 3)) af^ae)^fv 5^ae))^ae)))
   (aj (pst 3 br.nd (aB aL (fv 6) af)))))))
  (ab (bW (ak (hj:=by lia) (yL T 6) hr (fv 0^aB aL (fv 3) af^ae)) (dG rfl (aP (pgn (i:=7) br.nd rfl) (aP (pgn (i:=6) br.nd rfl) cF))))
  (aj (aC (cK (hj:=by lia) T.df (tM T) hr (fv 1^fv 2^fv 7^ae)))))))))),?_}
 refine ag λM1 K1=>{MF _,λF hF=>?_};obtain⟨s1,e1⟩:=alc hF (HO.lst []);generalize upd H F _=H1 at s1 e1⊢;refine K1 _ _ ?_;clear K1 M1;try dsimp only
 refine ag λM1 K1=>{MF _,λG hG=>?_};obtain⟨s2,e2⟩:=alc hG (HO.lst []);generalize upd H1 G _=H2 at s2 e2⊢;have XF:X F=Vo:=ai.free s0 hF;have XG:X G=Vo:=ai.free (s0.trans s1) hG;have GF:G≠F:=λz=>by rw[z,e1]at hG;cases hG
 have H2F:H2 F≠Vo:=by rw[s2 _ _ e1];simp
 have H2G:H2 G≠Vo:=by rw[e2];simp
 have e1':=s2 _ _ e1;have t2:=s1.trans s2;have fxq:∀{Hc:Hp},Sm [F,G] H2 Hc->ai X Hc:=λsc=>sc.same (s0.trans t2) (λm hm=>by
  simp only[Mw,MQ,or_false]at hm;rcases hm with rfl|rfl
  ·exact XF
  exact XG)
 have fhq:∀{Hc:Hp},Sm [F,G] H2 Hc->ai H Hc:=λsc=>sc.same t2 (λm hm=>by
  simp only[Mw,MQ,or_false]at hm;rcases hm with rfl|rfl
  ·exact hF
  exact ai.free s1 hG)
 have mF:F∈[F,G]:=MA;have mG:G∈[F,G]:=Mz _ MA;refine K1 _ _ ?_;clear K1 M1;try dsimp only
 refine ag λM1 K1=>K1 _ _ ?_;clear K1 M1;try dsimp only
 refine ag λM1 K1=>{EU hs L F G H2 A N X,{hs.length,[],hs,[],rfl,rfl,rfl,Sm.refl _ _,e1',e2,aI.nil},?_};rintro m σ Hc ⟨dn,rest,ys,ehs,em,rfl,sc,hFc,hGc,pt⟩;have sX:=fxq sc;have hLc:=SqL.of (K:=K) (sX _ _ hL);cases rest with
 |cons r rest=>
  clear K1;have efs:flA hs ds mb=dn.map Fr.leaf++ .leaf r::(rest.map Fr.leaf++bB ds++ .main::(aA mb++[.fin])):=by
   unfold flA;rw[ehs];simp
  obtain⟨v,av,fv'⟩:=hV fr efs;rw[Mq]at av;have fv0:=fv';obtain⟨a,p,rfl,ha,hob⟩:=fv';refine lix hLc av (tix (j:=0) (SqT.of (sX _ _ ha)) rfl {by show 2<=sizeLine;decide,λtp htp=>?_});obtain⟨s3,e3⟩:=alc htp (HO.tup [V.str "deed",.str "main"]);generalize upd Hc tp _=H3 at s3 e3⊢;refine MG {_,NF (SqT.of e3),rfl,rfl,_,rfl,a9 (λ_=>?_) (λz=>absurd (by show(!inV (V.str (Fr.leaf r).wd) [V.str "deed",V.str "main"])=true;rw[Dj];rfl) z)};refine{Eb m hs L F G H2 A N X,λσ Hc ⟨dn,rest,ys,m',hm',h1,h2,h3,h4,h5,h6,h7⟩=>⟨m',hm',dn,rest,ys,h1,h2,h3,h4,h5,h6,h7⟩,?_};have sX3:=sX.trans s3;have hF3:=s3 _ _ hFc;try dsimp only
  refine ag λN1 J1=>{MG {rfl,_,SqL.of hF3},lix (SqL.of (sX3 _ _ hL)) av {N,X,_,_,r,rfl,sX3,fv0,λb H4 s4 hb pb=>?_}};have ly:ys.length=dn.length:=by rw[pt.len,qY]
  have ld:dn.length+1<=hs.length:=by rw[ehs];simp
  refine{_,_,_,rfl,rfl,s4 _ _ hF3,aG (),J1 _ _ ?_};have s5:Sm [F,G] H4 (upd H4 F (.lst (ys++[V.ref b]))):=Sm.at mF _;have em':rest.length+1=m:=em;refine{dn++[r],rest,ys++[V.ref b],rest.length,(),by rw[ehs];simp,rfl,?_,(sc.trans (Sm.new (s3.trans s4))).trans s5,ao,aw GF ((s3.trans s4) _ _ hGc),?_}
  ·rw[Mo,Mr];rfl
  rw[Ao,hdP,hdP,show(1:Int)+(dn.length:Nat)=((dn.length:Nat):Int)+1 by lia];have nb:=xn sc (by
   intro m hm;simp only[Mw,MQ,or_false]at hm;rcases hm with rfl|rfl
   ·rw[hFc];simp
   rw[hGc];simp)
  exact aI.snoc (aI.same (nK XF H2F) _ _ (aI.same (fN (s3.trans s4)) _ _ pt)) (ba.same (nK XF H2F) _ _ (ba.same (oQ λb h=>nb b (ai.free s3 h)) _ _ pb))
 |nil=>
 rw[MP]at ehs;subst ehs;obtain⟨gf,gtl,egf,hgf⟩:∃gf gtl,bB ds++ .main::(aA mb++[Fr.fin])=gf::gtl/\dmF gf=true:=by
  cases ds with
  |nil=>exact{.main,_,rfl,rfl}
  |cons d r=>exact{.bj d.1 d.2.1,_,rfl,rfl}
 have efs:flA hs ds mb=hs.map Fr.leaf++gf::gtl:=by
  unfold flA;rw[MB,egf]
 obtain⟨v,av,⟨a,p,rfl,ha,hob⟩⟩:=hV fr efs;rw[Mq]at av;refine lix hLc av (tix (j:=0) (SqT.of (sX _ _ ha)) rfl {by show 2<=sizeLine;decide,λtp htp=>?_});obtain⟨s3,e3⟩:=alc htp (HO.tup [V.str "deed",.str "main"]);generalize upd Hc tp _=H3 at s3 e3⊢;refine MG {_,NF (SqT.of e3),rfl,rfl,_,rfl,a9 (λz=>absurd z (by show ¬ (!inV (V.str gf.wd) [V.str "deed",V.str "main"])=true;rw[Dj,hgf];decide)) (λ_=>K1 _ _ ?_)};clear K1 M1;have sc3:=sc.trans (Sm.new s3);have hF3:=s3 _ _ hFc;have hG3:=s3 _ _ hGc;have pt3:=aI.same (fN s3) _ _ pt;clear pt hFc hGc sc sX hLc htp e3 av ha hob efs egf hgf;try dsimp only
 refine ag λM1 K1=>{Dq ds L F G hs H2 ys A N X,{ds.length,[],ds,[],Vo,Vo,Vo,rfl,rfl,rfl,sc3,hF3,hG3,pt3,aI.nil},?_};clear hF3 hG3 pt3 sc3 s3 m em;clear hG hF;rintro m σ Hd ⟨dn,rest,zs,v4,v5,v6,eds,em,rfl,sc,hFc,hGc,pt,pz⟩;have sX:=fxq sc;have hLc:=SqL.of (K:=K) (sX _ _ hL);have nb:=xn sc (by
  intro m hm;simp only[Mw,MQ,or_false]at hm;rcases hm with rfl|rfl
  ·rw[hFc];simp
  rw[hGc];simp)
 cases rest with
 |cons d rest=>
  clear K1;have efs:flA hs ds mb=(hs.map Fr.leaf++bB dn)++ .bj d.1 d.2.1::(aA d.2.2++ .fin::(bB rest++ .main::(aA mb++[.fin]))):=by
   unfold flA bB;rw[eds];simp[flD]
  have efs2:flA hs ds mb=(hs.map Fr.leaf++bB dn++[.bj d.1 d.2.1])++aA d.2.2++ .fin::(bB rest++ .main::(aA mb++[.fin])):=by
   rw[efs];simp
  have l2:(hs.map Fr.leaf++bB dn++[Fr.bj d.1 d.2.1]).length=hs.length+(bB dn).length+1:=by simp only[Mo,Mq,Mr]
  obtain⟨v,av,fv'⟩:=hV fr efs;rw[Mo,Mq]at av;obtain⟨a,p,rfl,ha,hob⟩:=fv';have hp:=hob _ rfl;refine lix hLc av (tix (j:=0) (SqT.of (sX _ _ ha)) rfl {rfl,_,rfl,a9 (λ_=>?_) (λz=>absurd (show decide (V.str "deed"=V.str "deed")=true from decide_eq_true rfl) z)});refine{El m ds L F G hs H2 ys A N X,λσ Hc ⟨dn,rest,ys,v4,v5,v6,m',hm',h1,h2,h3,h4,h5,h6,h7,h8⟩=>⟨m',hm',dn,rest,ys,v4,v5,v6,h1,h2,h3,h4,h5,h6,h7,h8⟩,?_};have dpd:cy d.2.2<=6:=by
   have:=O.de.at' dn.length d (by rw[eds,MU (Ms _),Nz];rfl);exact this.2.2.2.1
  try dsimp only
  refine ag λN1 J1=>J1 _ _ ?_;clear J1 N1;try dsimp only
  refine ag λN1 J1=>{N,X,L,xs,_,_,_,d.2.2,.fin,by rw[l2];push_cast;rfl,sX,hL,fr,efs2,rfl,dpd,lx,λp1 R1 y1 H4 s4 ep1 eR1 pt1=>{p1,_,rfl,SqT.of ep1,rfl,_,_,rfl,_,_,rfl,rfl,J1 _ _ ?_}};clear J1 N1;have sX4:=sX.trans s4;have hL4:=SqL.of (K:=K) (sX4 _ _ hL);have hT4:=SqT.of (K:=K) (sX4 _ _ ha);try dsimp only
  refine ag λN1 J1=>{MG {rfl,_,SqL.of (s4 _ _ hGc)},lix hL4 av (tix (j:=1) hT4 rfl (lix hL4 av (tix (j:=2) hT4 rfl (MG {p,_,rfl,MG (SqL.of (sX4 _ _ hp)),λl hl=>?_}))))};obtain⟨s5,e5⟩:=alc hl (HO.lst (nV N d.2.1));generalize upd H4 l _=H5 at s5 e5⊢;refine λr6 dx6 hr6 hd_ hne_=>{_,_,_,_,_,_,_,_,_,rfl,rfl,hr6,hd_,SqL.of e5,SqL.of (s5 _ _ eR1),λn6 n7 H6 f6 f7 s6 h6 h7 hx=>{rfl,?_}};have s36:=s4.trans (s5.trans s6);have lz:zs.length=dn.length:=by rw[pz.len,qZ]
  have ld:dn.length<=3:=by
   have:=O.dl;rw[eds,Mo]at this;lia
  refine{_,_,_,rfl,rfl,s36 _ _ hGc,aG (),J1 _ _ ?_};have s7:Sm [F,G] H6 (upd H6 G (.lst (zs++[V.ref r6]))):=Sm.at mG _;have em':rest.length+1=m:=em;have sn:ai Hd H4:=s4;refine{dn++[d],rest,zs++[V.ref r6],Vn (.int (((hs.length+(bB dn).length:Nat):Int)+1)),Vn (.ref R1),Vn (.int (((hs.map Fr.leaf++bB dn++[Fr.bj d.1 d.2.1]).length+(aA d.2.2).length:Nat):Int)),rest.length,(),by rw[eds];simp,rfl,?_,(sc.trans (Sm.new s36)).trans s7,aw (MR GF) (s36 _ _ hFc),ao,aI.same (nK XG H2G) _ _ (aI.same (fN s36) _ _ pt),?_}
  ·have:(((hs.map Fr.leaf++bB dn++[Fr.bj d.1 d.2.1]).length+(aA d.2.2).length:Nat):Int)+1=((hs.length+(bB (dn++[d])).length:Nat):Int):=by
    rw[l2];unfold bB;rw[Nx,Mo];simp[flD];lia
   rw[<-this];rfl
  rw[Au,deP,deP];refine aI.snoc (aI.same (nK XG H2G) _ _ (aI.same (fN s36) _ _ pz)) (ba.same (nK XG H2G) _ _ (ba.same (oQ nb) _ _ (X:=rsH X Hd H6) ?_));unfold ba;rw[l2]at pt1;have e9:(((hs.length:Nat):Int)+1+((bB dn).length:Nat))=((hs.length+(bB dn).length:Nat):Int)+1:=by push_cast;lia
  rw[e9];refine{r6,dx6,n6,n7,y1,rfl,cY (ai.free (s4.trans s5) hr6) hx,cY (ai.free (s4.trans s5) f6) h6,cY (ai.free (s4.trans s5) f7) h7,?_};have:=aI.same (fN (s5.trans s6)) _ _ pt1;push_cast at this⊢
  exact this
 |nil=>
 rw[MP]at eds;subst eds;have efs:flA hs ds mb=(hs.map Fr.leaf++bB ds)++ .main::(aA mb++[.fin]):=rfl;have efs2:flA hs ds mb=(hs.map Fr.leaf++bB ds++[.main])++aA mb++ .fin::[]:=by
  rw[efs];simp
 have l2:(hs.map Fr.leaf++bB ds++[Fr.main]).length=hs.length+(bB ds).length+1:=by simp only[Mo,Mq,Mr]
 obtain⟨v,av,⟨a,p,rfl,ha,hob⟩⟩:=hV fr efs;rw[Mo,Mq]at av;refine lix hLc av (tix (j:=0) (SqT.of (sX _ _ ha)) rfl {rfl,_,rfl,a9 (λz=>absurd z (show ¬ decide (V.str "main"=V.str "deed")=true by decide)) (λ_=>K1 _ _ ?_)});clear K1 M1;try dsimp only
 refine ag λM1 K1=>{N,X,L,xs,_,_,_,mb,.fin,by rw[l2];push_cast;rfl,sX,hL,fr,efs2,rfl,O.md,lx,λp1 R1 y1 H4 s4 ep1 eR1 pt1=>{p1,_,rfl,SqT.of ep1,rfl,_,_,rfl,_,_,rfl,rfl,K1 _ _ ?_}};clear K1 M1;try dsimp only
 refine λr6 dx6 hr6 hd_ hne_=>{_,_,_,_,_,_,_,_,_,rfl,rfl,hr6,hd_,SqL.of (s4 _ _ hFc),SqL.of (s4 _ _ hGc),SqL.of eR1,λn6 n7 n8 H6 f6 f7 f8 s6 h6 h7 h8 hx=>{rfl,q _ H6 ((fhq sc).trans (s4.trans s6)) ?_}};rw[l2]at pt1;refine{r6,dx6,n6,n7,n8,_,_,_,rfl,hx,h6,h7,h8,aI.same (vG.trans (s4.trans s6)) _ _ pt,aI.same (vG.trans (s4.trans s6)) _ _ pz,?_};have:=aI.same (vG.trans s6) _ _ pt1;unfold msN;push_cast at this⊢
 rw[show(↑hs.length+ ↑(bB ds).length+2:Int)=↑hs.length+ ↑(bB ds).length+1+1 by lia];exact this
end
section
variable{P:Program}{w:Pf}{K:Pa}{mg:Str->Option E9}{base:PH}{A:Adr}{N:Nat->Str}
noncomputable def isB:Fr->Bool
 | .leaf r=>decide (5<=r.ci)
 | .iff _ _ _=>true
 | .loop _ _ _ _=>true
 |_=>false
noncomputable def stp(N:Nat->Str)(s:List (Option Str))(n:Int):Fr->List (Option Str)
 | .bj i _=>[Vn (N i)]
 | .main=>[Vo]
 | .fin=>s.tail
 | .iff _ _ _=>Vn (aX n)::s
 | .loop _ _ _ _=>Vn (aX n)::s
 |_=>s
noncomputable def IV(l:List Str)(n:Int):Fr->List Str
 | .loop _ _ _ _=>aX n::l
 | .iff _ _ _=>Pq::l
 | .fin=>l.tail
 |_=>l
noncomputable def lpO(l:List Str):Option Str:=l.find? λx=>decide (x≠Pq)
noncomputable abbrev En:=Fr×Int×Option Str×Str
noncomputable def bL(N:Nat->Str):List (Option Str)->List Str->Int->List Fr->List En
 |_,_,_,[]=>[]
 |s,l,n,f::fs=>(if isB f=true then[(f,n,s.headD Vo,(lpO l).getD Pq)]else[])++bL N (stp N s n f) (IV l n f) (n+1) fs
noncomputable def gd(N:Nat->Str):List (Option Str)->Int->List Fr->Prop
 |_,_,[]=>True
 |s,n,f::fs=>((isB f=true\/f=.fin)->s≠[])/\gd N (stp N s n f) (n+1) fs
noncomputable def frP:Pt->Fr
 | .leaf _ r=>.leaf r
 | .iff _ v l r _ _=>.iff v l r
 | .loop _ t m l r _=>.loop t m l r
 | .bj _ i ps _=>.bj i ps
noncomputable def eF(e:Le):En:=(frP e.1,e.1.no,e.2.1,e.2.2.getD Pq)
theorem Gx(n:Int):4<=(aX n).length:=by
 unfold aX;rw[iV,iV];exact ME (show 4<=(Str.empty.length+("row ":Str).length) by decide) (Nt _ _)
theorem IJ(n:Int):aX n≠Pq:=λe=>by
 have:=Gx n;rw[e]at this;exact absurd this ∅
theorem FC(n:Int)(l:List Str):lpO (aX n::l)=Vn (aX n):=by
 unfold lpO;rw[Nq,decide_eq_true (IJ n)]
theorem Ig(l:List Str):lpO (Pq::l)=lpO l:=by
 unfold lpO;rw[Nq,decide_eq_false λz=>z rfl]
theorem Lo{ps:List Nat}{dd:List (Nat×Nat)}{lp:Bool}{r:Lr}(h:zx ps dd lp r):isB (.leaf r)=true:=by
 cases r<;>first|rfl|exact h.elim
theorem CC{lp:Option Str}{t:Pt}{ts:List Pt}{pl:Option Str}:bC pl lp (t::ts)=(t,pl,lp)::(dj lp t++bC pl lp ts):=by rw[bC]
mutual
theorem Iw{ps:List Nat}{dd:List (Nat×Nat)}:∀(t:Tr)(lp:Bool)(pl:Option Str)(s:List (Option Str))(l:List Str)(n:Int)(rest:List Fr),okT ps dd lp t->
  bL N (pl::s) l n (flT t++rest)=((ptT n t,pl,lpO l)::dj (lpO l) (ptT n t)).map eF++bL N (pl::s) l (n+((flT t).length:Nat)) rest
 | .leaf r,lp,pl,s,l,n,rest,ok=>by
  rw[okT]at ok;rw[flT,ptT,dj];show bL N _ _ _ (.leaf r::rest)=_;rw[bL,if_pos (Lo ok)];rfl
 | .iff v a b f o,lp,pl,s,l,n,rest,ok=>by
  rw[okT]at ok;rw[flT,ptT,dj];have e:(Fr.iff v a b::(aA f++ .els::(aA o++[.fin])))++rest=.iff v a b::(aA f++(.els::(aA o++(.fin::rest)))):=by simp
  rw[e,bL,if_pos (show isB _=true from rfl)];have h1:=kG f lp (Vn (aX n)) (pl::s) (Pq::l) (n+1) (.els::(aA o++(.fin::rest))) ok.2.1;have h2:=kG o lp (Vn (aX n)) (pl::s) (Pq::l) (n+1+((aA f).length:Nat)+1) (.fin::rest) ok.2.2;rw[Ig]at h1 h2;show _++bL N (Vn (aX n)::pl::s) (Pq::l) (n+1) _=_;rw[h1,bL,if_neg ∅];show _++(_++([]++bL N (Vn (aX n)::pl::s) (Pq::l) _ _))=_;rw[h2,bL,if_neg ∅];show _++(_++([]++(_++([]++bL N (pl::s) l _ rest))))=_;rw[show n+2+((aA f).length:Nat)=n+1+((aA f).length:Nat)+1 by lia,Mx,Mo,Mx,Mo,Mr];rw[show n+1+((aA f).length:Nat)+1+((aA o).length:Nat)+1=n+(((aA f).length+((aA o).length+1+1)+1:Nat):Int) by push_cast;lia];rw[MJ,M6];simp only[MX,MB,M7];rfl
 | .loop t m a b c,lp,pl,s,l,n,rest,ok=>by
  rw[okT]at ok;rw[flT,ptT,dj];have e:(Fr.loop t m a b::(aA c++[.fin]))++rest=.loop t m a b::(aA c++(.fin::rest)):=by simp
  rw[e,bL,if_pos (show isB _=true from rfl)];have h1:=kG c true (Vn (aX n)) (pl::s) (aX n::l) (n+1) (.fin::rest) ok.2.2.2;rw[FC]at h1;show _++bL N (Vn (aX n)::pl::s) (aX n::l) (n+1) _=_;rw[h1,bL,if_neg ∅];show _++(_++([]++bL N (pl::s) l _ rest))=_;rw[Mx,Mo,Mr,show n+1+((aA c).length:Nat)+1=n+(((aA c).length+1+1:Nat):Int) by push_cast;lia,MJ];simp only[MX,MB,M7];rfl
theorem kG{ps:List Nat}{dd:List (Nat×Nat)}:∀(ts:List Tr)(lp:Bool)(pl:Option Str)(s:List (Option Str))(l:List Str)(n:Int)(rest:List Fr),cM ps dd lp ts->
  bL N (pl::s) l n (aA ts++rest)=(bC pl (lpO l) (bp n ts)).map eF++bL N (pl::s) l (n+((aA ts).length:Nat)) rest
 | [],lp,pl,s,l,n,rest,ok=>by
  rw[aA,bp,bC];simp
 |t::ts,lp,pl,s,l,n,rest,ok=>by
  rw[cM]at ok;rw[aA,bp,CC,MB,Iw t lp pl s l n _ ok.1,kG ts lp pl s l _ rest ok.2,Mo];rw[show n+((flT t).length:Nat)+((aA ts).length:Nat)=n+(((flT t).length+(aA ts).length:Nat):Int) by push_cast;lia];simp only[MJ,M6,MB,M7]
end
mutual
theorem Lg:∀(t:Tr)(pl:Option Str)(s:List (Option Str))(n:Int)(rest:List Fr),gd N (pl::s) (n+((flT t).length:Nat)) rest->gd N (pl::s) n (flT t++rest)
 | .leaf r,pl,s,n,rest,h=>by
  rw[flT]at h⊢;show gd N _ _ (.leaf r::rest);exact{λ_ z=>(by cases z),h}
 | .iff v a b f o,pl,s,n,rest,h=>by
  rw[flT]at h⊢;have e:(Fr.iff v a b::(aA f++ .els::(aA o++[.fin])))++rest=.iff v a b::(aA f++(.els::(aA o++(.fin::rest)))):=by simp
  rw[e];refine{λ_ z=>(by cases z),uF f (Vn (aX n)) (pl::s) (n+1) _ {λ_ z=>(by cases z),uF o (Vn (aX n)) (pl::s) _ _ {λ_ z=>(by cases z),?_}}};rw[Mx,Mo,Mx,Mo,Mr,show n+(((aA f).length+((aA o).length+1+1)+1:Nat):Int)=n+1+((aA f).length:Nat)+1+((aA o).length:Nat)+1 by push_cast;lia]at h;exact h
 | .loop t m a b c,pl,s,n,rest,h=>by
  rw[flT]at h⊢;have e:(Fr.loop t m a b::(aA c++[.fin]))++rest=.loop t m a b::(aA c++(.fin::rest)):=by simp
  rw[e];refine{λ_ z=>(by cases z),uF c (Vn (aX n)) (pl::s) (n+1) _ {λ_ z=>(by cases z),?_}};rw[Mx,Mo,Mr,show n+(((aA c).length+1+1:Nat):Int)=n+1+((aA c).length:Nat)+1 by push_cast;lia]at h;exact h
theorem uF:∀(ts:List Tr)(pl:Option Str)(s:List (Option Str))(n:Int)(rest:List Fr),gd N (pl::s) (n+((aA ts).length:Nat)) rest->gd N (pl::s) n (aA ts++rest)
 | [],pl,s,n,rest,h=>by
  rw[aA]at h⊢;simpa using h
 |t::ts,pl,s,n,rest,h=>by
  rw[aA]at h⊢;rw[MB];refine Lg t pl s n _ (uF ts pl s _ rest ?_);rw[Mo,show n+(((flT t).length+(aA ts).length:Nat):Int)=n+((flT t).length:Nat)+((aA ts).length:Nat) by push_cast;lia]at h;exact h
end
theorem zZ:∀(hs:List Lr)(n:Int)(rest:List Fr),(∀r∈hs,r.ci<5)->bL N [] [] n (hs.map Fr.leaf++rest)=bL N [] [] (n+(hs.length:Nat)) rest/\(gd N [] (n+(hs.length:Nat)) rest->gd N [] n (hs.map Fr.leaf++rest))
 | [],n,rest,_=>by simp
 |r::hs,n,rest,h=>by
  have c:=h r MA;have nb:¬ isB (.leaf r)=true:=λz=>by
   have:5<=r.ci:=of_decide_eq_true z;lia
  obtain⟨h1,h2⟩:=zZ hs (n+1) rest λr hr=>h r (Mz _ hr);have e:n+((r::hs).length:Nat)=n+1+(hs.length:Nat):=by rw[Mx];push_cast;lia
  rw[e];refine{?_,λg=>{λz=>?_,h2 g}}
  ·rw[MJ,M7,bL,if_neg nb,MX,<-h1];rfl
  rcases z with z|z
  ·exact absurd z nb
  cases z
theorem Ap(ddA:List De->List (Nat×Nat)):∀(ds:List De)(n:Int)(rest:List Fr),(∀d∈ds,∃dd,cM d.2.1 dd false d.2.2)->
  bL N [] [] n (bB ds++rest)=(ft N (deP n ds)).map eF++bL N [] [] (n+((bB ds).length:Nat)) rest/\(gd N [] (n+((bB ds).length:Nat)) rest->gd N [] n (bB ds++rest))
 | [],n,rest,_=>by simp[bB,deP,ft]
 |d::ds,n,rest,h=>by
  obtain⟨dd,ok⟩:=h d MA;obtain⟨h1,h2⟩:=Ap ddA ds (n+((flD d).length:Nat)) rest λd hd=>h d (Mz _ hd);have e:bB (d::ds)++rest=.bj d.1 d.2.1::(aA d.2.2++(.fin::(bB ds++rest))):=by
   show flD d++bB ds++rest=_;simp[flD]
  have el:n+((bB (d::ds)).length:Nat)=n+((flD d).length:Nat)+((bB ds).length:Nat):=by
   show n+((flD d++bB ds).length:Nat)=_;rw[Mo];push_cast
   lia
  have ef:n+1+((aA d.2.2).length:Nat)+1=n+((flD d).length:Nat):=by
   unfold flD;rw[Mx,Mo,Mr];push_cast
   lia
  rw[e,el];constructor
  ·rw[bL,if_neg (by show ¬ false=true;decide)];show[]++bL N (Vn (N d.1)::[]) [] (n+1) _=_;rw[kG d.2.2 false (Vn (N d.1)) [] [] (n+1) _ ok,bL,if_neg ∅];show[]++(_++([]++bL N [] [] (n+1+((aA d.2.2).length:Nat)+1) (bB ds++rest)))=_;rw[ef,h1,deP];show _=List.map eF (bC (Vn (N d.1)) Vo (bp (n+1) d.2.2)++ft N (deP _ ds))++_;rw[M6];simp only[MX,MB];rfl
  intro g;refine{λz=>?_,?_}
  ·rcases z with z|z<;>cases z
  show gd N (Vn (N d.1)::[]) (n+1) _;refine uF d.2.2 _ _ _ _ {λ_ z=>(by cases z),?_};show gd N [] (n+1+((aA d.2.2).length:Nat)+1) (bB ds++rest);rw[ef];exact h2 g
theorem Df{hs:List Lr}{ds:List De}{mb:List Tr}(O:eJ hs ds mb):bL N [] [] 1 (flA hs ds mb)=(bX N (deP ((hs.length:Nat)+1) ds) (bp (msN hs ds) mb)).map eF/\gd N [] 1 (flA hs ds mb):=by
 have hd:∀r∈hs,r.ci<5:=by
  obtain⟨rk,z,t,rfl,_⟩:=O.hd;intro r hr;have hr:r∈pG rk z:=by
   unfold rF at hr;rcases Mu.mp hr with h|h
   ·exact Oe h
   exact Nu h
  unfold pG at hr;simp only[Mw,MQ,or_false]at hr;rcases hr with rfl|rfl|rfl|rfl|rfl|rfl|rfl|rfl|rfl|rfl|rfl<;>simp[Lr.ci]
 have okd:∀d∈ds,∃dd,cM d.2.1 dd false d.2.2:=λd m=>by
  obtain⟨k,hk⟩:=MS m;exact{_,(O.de.at' k d hk).2.2.1}
 have e:flA hs ds mb=hs.map Fr.leaf++(bB ds++(.main::(aA mb++(.fin::[])))):=by
  unfold flA;simp
 obtain⟨a1,a2⟩:=zZ (N:=N) hs 1 (bB ds++(.main::(aA mb++(.fin::[])))) hd;obtain⟨b1,b2⟩:=Ap (N:=N) iU ds (1+(hs.length:Nat)) (.main::(aA mb++(.fin::[]))) okd;have en:(1:Int)+(hs.length:Nat)=(hs.length:Nat)+1:=()
 have em:(1:Int)+(hs.length:Nat)+((bB ds).length:Nat)+1=msN hs ds:=by unfold msN;push_cast;lia
 rw[e];constructor
 ·rw[a1,b1,bL,if_neg ∅];show _++([]++bL N (Vo::[]) [] _ _)=_;rw[em,kG mb false Vo [] [] _ _ O.mo,bL,if_neg ∅];show _++([]++(_++([]++bL N [] [] _ [])))=_;rw[bL,en];unfold bX;rw[M6];simp only[MX,MP];rfl
 refine a2 (b2 {λz=>?_,?_})
 ·rcases z with z|z<;>cases z
 show gd N (Vo::[]) _ _;exact uF mb _ _ _ _ {λ_ z=>(by cases z),trivial}
end
section
variable{P:Program}{w:Pf}{K:Pa}{mg:Str->Option E9}{base:PH}{A:Adr}{N:Nat->Str}
mutual
theorem G4:∀(t:Tr)(n:Int),dep (ptT n t)=dpT t
 | .leaf r,n=>by rw[ptT,dep,dpT]
 | .iff v a c f o,n=>by rw[ptT,dep,dpT,nO f,nO o]
 | .loop t m a c d,n=>by rw[ptT,dep,dpT,nO d]
theorem nO:∀(ts:List Tr)(n:Int),ni (bp n ts)=cy ts
 | [],n=>by rw[bp,ni,cy]
 |t::ts,n=>by rw[bp,ni,cy,G4 t,nO ts]
end
theorem va(N:Nat->Str):∀(fs:List Fr)(s:List (Option Str))(l:List Str)(n:Int),(bL N s l n fs).length<=fs.length
 | [],s,l,n=>by rw[bL];exact Ms _
 |f::fs,s,l,n=>by
  have h:=va N fs (stp N s n f) (IV l n f) (n+1);rw[bL,Mo,Mx];have:(if isB f=true then[(f,n,s.headD Vo,(lpO l).getD Pq)]else[]).length<=1:=by split<;>simp
  lia
theorem oJ{ps:List Nat}{dd:List (Nat×Nat)}{ts:List Tr}{b:Bool}(ok:cM ps dd b ts)(pl:Option Str)(n:Int):(bC pl Vo (bp n ts)).length<=(aA ts).length:=by
 have h:=kG (N:=λ_=>Pq) ts b pl [] [] n [] ok;have h2:=va (λ_=>Pq) (aA ts++[]) [pl] [] n;rw[h,bL,MP,Mq,MP]at h2;exact h2
theorem dO:∀{ds:List De}{n:Int}{k:Nat}{p:Pt},(deP n ds)[k]?=Vn p->∃d n',ds[k]?=Vn d/\n<=n'/\n'+((flD d).length:Nat)<=n+((bB ds).length:Nat)/\p=.bj n' d.1 d.2.1 (bp (n'+1) d.2.2)
 | [],n,k,p,h=>by rw[deP]at h;simp at h
 |d::ds,n,0,p,h=>by
  rw[deP]at h;cases h;refine{d,n,rfl,OG _,?_,rfl};show _<=n+(((flD d++bB ds).length:Nat):Int);rw[Mo];push_cast
  lia
 |d::ds,n,k+1,p,h=>by
  rw[deP]at h;obtain⟨d',n',h1,h2,h3,h4⟩:=dO (ds:=ds) (k:=k) h;refine{d',n',h1,(),?_,h4};show _<=n+(((flD d++bB ds).length:Nat):Int);rw[Mo];push_cast
  push_cast at h3
  lia
theorem yd:∀(ds:List De)(n:Int)(k:Nat),(deP n ds).take k=deP n (ds.take k)
 | [],n,k=>by simp[deP]
 |d::ds,n,0=>by simp[deP]
 |d::ds,n,k+1=>by rw[deP,TC,TC,deP,yd ds]
theorem vD:∀(ds:List De)(n:Int),(deP n ds).map (dNm N)=ds.map λd=>N d.1
 | [],n=>rfl
 |d::ds,n=>by rw[deP,MJ,MJ,vD ds];rfl
theorem yI{k:Nat}:dnI k<24:=by unfold dnI;split;decide;split<;>decide
theorem Fh{i j:Nat}(hi:i<3)(hj:j<3)(h:dnI i=dnI j):i=j:=by
 rcases B9 hi with rfl|rfl|rfl<;>rcases B9 hj with rfl|rfl|rfl<;>first|rfl|exact absurd h ∅
theorem Jn{k n:Nat}(h:n<mxI k):(psI k n).length<=4:=by
 unfold psI;rw[Mq,Nv];unfold mxI at h;split at h
 ·lia
 split at h<;>lia
theorem Er{α β:Type}{f:α->β}{l:List α}(h:l.Nodup)(i:∀x∈l,∀y∈l,f x=f y->x=y):(l.map f).Nodup:=by
 induction l with
 |nil=>exact Ot
 |cons x r ih=>
  rw[Ni]at h;rw[MJ,Ni];refine{λm=>?_,ih h.2 λa ha b hb=>i a (Mz _ ha) b (Mz _ hb)};obtain⟨y,my,e⟩:=MH.mp m;have:=i y (Mz _ my) x MA e;exact h.1 (this▸my)
theorem eJ.ix{hs:List Lr}{ds:List De}{mb:List Tr}(O:eJ hs ds mb):∃n0 n1 n2:Nat,∃t0 t1 t2,ds=[(9,psI 0 n0,t0),(10,psI 1 n1,t1),(21,psI 2 n2,t2)]:=by
 have dl:=O.dl;match ds,dl with
 | [a,b,c],_=>
  have h0:=O.de.at' 0 a rfl;have h1:=O.de.at' 1 b rfl;have h2:=O.de.at' 2 c rfl;obtain⟨e0,⟨n0,_,p0⟩,_⟩:=h0;obtain⟨e1,⟨n1,_,p1⟩,_⟩:=h1;obtain⟨e2,⟨n2,_,p2⟩,_⟩:=h2;refine{n0,n1,n2,a.2.2,b.2.2,c.2.2,?_};rw[<-p0,<-p1,<-p2,show(9:Nat)=dnI 0 from rfl,show(10:Nat)=dnI 1 from rfl,show(21:Nat)=dnI 2 from rfl,<-e0,<-e1,<-e2]
theorem GY(nm:jz N){hs:List Lr}{ds:List De}{mb:List Tr}(O:eJ hs ds mb):(ds.map λd=>N d.1).Nodup:=by
 obtain⟨n0,n1,n2,t0,t1,t2,rfl⟩:=O.ix;show([9,10,21].map N).Nodup;refine Er ∅ λx hx y hy e=>nm.inj x y ?_ ?_ e
 ·simp only[Mw,MQ,or_false]at hx;lia
 simp only[Mw,MQ,or_false]at hy;lia
theorem yf{hs:List Lr}{ds:List De}{mb:List Tr}(O:eJ hs ds mb){d:De}(m:d∈ds):d.2.1.length<=4:=by
 obtain⟨k,hk⟩:=MS m;obtain⟨_,⟨n,hn,e⟩,_⟩:=O.de.at' k d hk;rw[e];exact Jn hn
theorem qW{hs:List Lr}{ds:List De}{mb:List Tr}(O:eJ hs ds mb):hs.length=11/\(bB ds).length<=57/\(aA mb).length<=48:=by
 refine{?_,?_,O.ml}
 ·obtain⟨rk,z,t,rfl,_,_,_,ht⟩:=O.hd;unfold rF;rw[Mo,Nd,MT,show(pG rk z).length=11 from rfl];lia
 have dl:=O.dl;match ds,dl with
 | [a,b,c],_=>
  have h0:=(O.de.at' 0 a rfl).2.2.2.2;have h1:=(O.de.at' 1 b rfl).2.2.2.2;have h2:=(O.de.at' 2 c rfl).2.2.2.2;show(flD a++(flD b++(flD c++[]))).length<=57;unfold flD;simp only[Mo,Mx,Ng];lia
theorem vN{hs:List Lr}{ds:List De}{mb:List Tr}(O:eJ hs ds mb):(bX N (deP ((hs.length:Nat)+1) ds) (bp (msN hs ds) mb)).length<=99:=by
 unfold bX;rw[Mo];have h1:=oJ O.mo Vo (msN hs ds);have h2:=O.ml;have h3:(ft N (deP ((hs.length:Nat)+1) ds)).length<=51:=by
  generalize ((hs.length:Nat):Int)+1=n;have dl:=O.dl;match ds,dl with
  | [a,b,c],_=>
   obtain⟨_,_,o0,_,h0⟩:=O.de.at' 0 a rfl;obtain⟨_,_,o1,_,h1⟩:=O.de.at' 1 b rfl;obtain⟨_,_,o2,_,h2⟩:=O.de.at' 2 c rfl;rw[deP,deP,deP,deP];show(bC (Vn (N a.1)) Vo (bp _ a.2.2)++(bC (Vn (N b.1)) Vo (bp _ b.2.2)++(bC (Vn (N c.1)) Vo (bp _ c.2.2)++[]))).length<=51;simp only[Mo,Ng];have:=oJ o0 (Vn (N a.1)) (n+1);have:=oJ o1 (Vn (N b.1)) (n+((flD a).length:Nat)+1);have:=oJ o2 (Vn (N c.1)) (n+((flD a).length:Nat)+((flD b).length:Nat)+1);lia
 lia
end
section
variable{P:Program}{w:Pf}{K:Pa}{mg:Str->Option E9}{base:PH}{A:Adr}{N:Nat->Str}
noncomputable def Jy(ps:List Nat)(dd:List (Nat×Nat)):Fr->Prop
 | .leaf r=>∃lp,zx ps dd lp r
 | .bj _ _=>False
 | .main=>False
 |_=>True
mutual
theorem Lz{ps:List Nat}{dd:List (Nat×Nat)}:∀(t:Tr)(b:Bool),okT ps dd b t->∀f∈flT t,Jy ps dd f
 | .leaf r,b,ok=>by
  rw[okT]at ok;rw[flT];intro f hf;rw[Mp.mp hf];exact⟨b,ok⟩
 | .iff v a c f o,b,ok=>by
  rw[okT]at ok;rw[flT];intro e he;rcases Mw.mp he with rfl|he
  ·trivial
  rcases Mu.mp he with he|he
  ·exact vb f b ok.2.1 e he
  rcases Mw.mp he with rfl|he
  ·trivial
  rcases Mu.mp he with he|he
  ·exact vb o b ok.2.2 e he
  rw[Mp.mp he];trivial
 | .loop t m a c d,b,ok=>by
  rw[okT]at ok;rw[flT];intro e he;rcases Mw.mp he with rfl|he
  ·trivial
  rcases Mu.mp he with he|he
  ·exact vb d true ok.2.2.2 e he
  rw[Mp.mp he];trivial
theorem vb{ps:List Nat}{dd:List (Nat×Nat)}:∀(ts:List Tr)(b:Bool),cM ps dd b ts->∀f∈aA ts,Jy ps dd f
 | [],b,ok=>by
  rw[aA];intro f hf;cases hf
 |t::ts,b,ok=>by
  rw[cM]at ok;rw[aA];intro f hf;rcases Mu.mp hf with hf|hf
  ·exact Lz t b ok.1 f hf
  exact vb ts b ok.2 f hf
end
theorem Hr(nm:jz N){x:Nat}(hx:x<24){n:Int}(h0:0<=n)(h1:n<=1000):N x≠aX n:=λe=>by
 have h:32∈(aX n).cps.toList:=by
  unfold aX;show 32∈(((Pq++("row ":Str)).cps++(RN (toString n)).cps)).toList;rw[M5];exact MK _ ∅
 rw[<-e]at h;have:=(nm.ch x hx 32 h).1;lia
end
section
variable{P:Program}{w:Pf}{K:Pa}{mg:Str->Option E9}{base:PH}{A:Adr}{N:Nat->Str}
theorem xB:∀(fs:List Fr)(s:List (Option Str))(l:List Str)(n:Int),(bL N s l n fs).Pairwise (λa b=>a.2.1<b.2.1)/\∀e∈bL N s l n fs,n<=e.2.1/\e.2.1<n+(fs.length:Nat)
 | [],s,l,n=>{Si,λe h=>by cases h}
 |f::fs,s,l,n=>by
  obtain⟨h1,h2⟩:=xB fs (stp N s n f) (IV l n f) (n+1);rw[bL,Mx];split
  ·refine{NY.mpr {Sz _ _,h1,λa ha b hb=>?_},λe he=>?_}
   ·rw[Mp.mp ha];have:=(h2 b hb).1;show n<b.2.1;lia
   rcases Mu.mp he with he|he
   ·rw[Mp.mp he];exact{OG _,by show n<_;lia}
   have:=h2 e he;lia
  exact{h1,λe he=>by have:=h2 e he;lia}
theorem wq{hs:List Lr}{ds:List De}{mb:List Tr}(O:eJ hs ds mb):(flA hs ds mb).length<=118:=by
 obtain⟨l1,l2,l3⟩:=qW O;unfold flA;rw[Mo,Mo,Mq,Mx,Mo,Mr];lia
theorem Cm{hs:List Lr}{ds:List De}{mb:List Tr}(O:eJ hs ds mb):(bX N (deP ((hs.length:Nat)+1) ds) (bp (msN hs ds) mb)).Pairwise (λa b=>a.1.no<b.1.no)/\∀e∈bX N (deP ((hs.length:Nat)+1) ds) (bp (msN hs ds) mb),1<=e.1.no/\e.1.no<=300:=by
 obtain⟨b1,_⟩:=Df (N:=N) O;obtain⟨h1,h2⟩:=xB (N:=N) (flA hs ds mb) [] [] 1;rw[b1]at h1 h2;rw[N7]at h1;have l:=wq O;refine{h1,λe he=>?_};have:1<=e.1.no/\e.1.no<1+((flA hs ds mb).length:Nat):=h2 (eF e) (Nw he);lia
noncomputable def ixH:Lr->List Nat
 | .giv i _ _=>[i]
 | .own i _=>[i]
 | .lt i _=>[i]
 |_=>[]
noncomputable def ixA(hs:List Lr)(ds:List De):List Nat:=hs.flatMap ixH++ds.flatMap λd=>d.1::d.2.1
theorem GN:∀(hs:List Lr)(n:Int),(hdP n hs).filterMap (hPl N)=(hs.flatMap ixH).map N
 | [],n=>by simp[hdP]
 |r::hs,n=>by
  rw[hdP,ND,NB,M6,<-GN hs (n+1)];cases r<;>rfl
theorem GV:∀(ds:List De)(n:Int),((deP n ds).flatMap λp=>dNm N p::dPs N p)=(ds.flatMap λd=>d.1::d.2.1).map N
 | [],n=>by simp[deP]
 |d::ds,n=>by
  rw[deP,NB,NB,M6,<-GV ds];rfl
theorem Jo:∀n0,n0<5->∀n1,n1<5->∀n2,n2<3->([1,2,3,4,5,6,7,19,20]++((9::psI 0 n0)++((10::psI 1 n1)++((21::psI 2 n2)++[])))).Nodup/\∀i∈[1,2,3,4,5,6,7,19,20]++((9::psI 0 n0)++((10::psI 1 n1)++((21::psI 2 n2)++[]))),i<24:=∅
theorem yW{hs:List Lr}{ds:List De}{mb:List Tr}(O:eJ hs ds mb):(ixA hs ds).Nodup/\(∀i∈ixA hs ds,i<24)/\(ixA hs ds).length<=22:=by
 obtain⟨rk,z,t,e1,_⟩:=O.hd;have ed:∃n0 n1 n2,n0<5/\n1<5/\n2<3/\(ds.flatMap λd=>d.1::d.2.1)=(9::psI 0 n0)++((10::psI 1 n1)++((21::psI 2 n2)++[])):=by
  have hl:=O.dl;match ds,hl,O.de with
  | [a,b,c],_,de=>
   obtain⟨a1,⟨n0,h0,a2⟩,_⟩:=de.at' 0 a rfl;obtain⟨b1,⟨n1,h1,b2⟩,_⟩:=de.at' 1 b rfl;obtain⟨c1,⟨n2,h2,c2⟩,_⟩:=de.at' 2 c rfl;refine{n0,n1,n2,h0,h1,h2,?_};rw[NB,NB,NB,a1,a2,b1,b2,c1,c2];rfl
 obtain⟨n0,n1,n2,h0,h1,h2,ed⟩:=ed;have pm:(ixA hs ds).Perm ([1,2,3,4,5,6,7,19,20]++((9::psI 0 n0)++((10::psI 1 n1)++((21::psI 2 n2)++[])))):=by
  unfold ixA;rw[ed];refine Qx _ ?_;rw[e1];unfold rF;have:(pG rk z).flatMap ixH=[1,2,3,4,5,6,7,19,20]:=rfl;rw[<-this];refine SE _ (Np.trans ?_);rw[MO]
 obtain⟨d1,d2⟩:=Jo n0 h0 n1 h1 n2 h2;refine{pm.nodup_iff.mpr d1,λi hi=>d2 i (pm.mem_iff.mp hi),?_};rw[pm.length_eq];simp[psI];lia
theorem mV{hs:List Lr}{ds:List De}(ms:List Pt)(n:Int):aU N (hdP 1 hs) (deP n ds) ms=(ixA hs ds).map N++eN (bX N (deP n ds) ms)++[("the clock":Str)]:=by
 unfold aU ixA;rw[GN,GV,M6]
theorem BJ{n:Int}(h0:0<=n)(h1:n<=1000):aX n≠"the clock":=GB h0 h1 ∅
theorem DB(nm:jz N){x:Nat}(hx:x<24):N x≠"the clock":=λe=>by
 have h:32∈("the clock":Str).cps.toList:=∅
 rw[<-e]at h;have:=(nm.ch x hx 32 h).1;lia
theorem Hn{hs:List Lr}{ds:List De}{mb:List Tr}(O:eJ hs ds mb):(aU N (hdP 1 hs) (deP ((hs.length:Nat)+1) ds) (bp (msN hs ds) mb)).length<=130:=by
 rw[mV,Mo,Mo,Mq,Mr];have h1:=(yW O).2.2;have h2:=uD (bX N (deP ((hs.length:Nat)+1) ds) (bp (msN hs ds) mb));have h3:=vN (N:=N) O;lia
theorem JO(nm:jz N){hs:List Lr}{ds:List De}{mb:List Tr}(O:eJ hs ds mb):(aU N (hdP 1 hs) (deP ((hs.length:Nat)+1) ds) (bp (msN hs ds) mb)).Nodup:=by
 rw[mV];obtain⟨d1,d2,_⟩:=yW O;obtain⟨r1,r2⟩:=Cm (N:=N) O;generalize bX N (deP ((hs.length:Nat)+1) ds) (bp (msN hs ds) mb)=es at r1 r2;have rm:∀x∈eN es,∃n:Int,x=aX n/\0<=n/\n<=1000:=λx hx=>by
  obtain⟨e,he,rfl⟩:=MH.mp hx;have:=r2 e (Nh.mp he).1;exact{_,rfl,(),()}
 have nmM:((ixA hs ds).map N).Nodup:=Er d1 λx hx y hy e=>nm.inj x y (d2 x hx) (d2 y hy) e;have rwM:(eN es).Nodup:=by
  unfold eN Qe;rw[N7];refine(r1.filter _).imp_of_mem λ{a b} ha hb h e=>?_;have a1:=r2 a (Nh.mp ha).1;have b1:=r2 b (Nh.mp hb).1;have:=Fp () () () () e;lia
 refine NK.mpr {NK.mpr {nmM,rwM,λa ha b hb e=>?_},by simp,λa ha b hb e=>?_}
 ·obtain⟨i,hi,rfl⟩:=MH.mp ha;obtain⟨n,rfl,n0,n1⟩:=rm b hb;exact Hr nm (d2 i hi) n0 n1 e
 rw[Mp.mp hb]at e;rcases Mu.mp ha with ha|ha
 ·obtain⟨i,hi,rfl⟩:=MH.mp ha;exact DB nm (d2 i hi) e
 obtain⟨n,rfl,n0,n1⟩:=rm a ha;exact BJ n0 n1 e
theorem Kl(nm:jz N){hs:List Lr}{ds:List De}{mb:List Tr}(O:eJ hs ds mb):Ok N 6 (hdP 1 hs) (deP ((hs.length:Nat)+1) ds) (bp (msN hs ds) mb) where
 bj:=λp m=>by
  obtain⟨k,hk⟩:=MS m;obtain⟨d,n',h1,_,_,rfl⟩:=dO hk;refine{trivial,?_};show ni (bp (n'+1) d.2.2)<=6;rw[nO];exact(O.de.at' k d h1).2.2.2.1
 main:=by rw[nO];exact O.md
 nb:=λe he=>by
  have:=(Cm (N:=N) O).2 e he;exact{(),()}
 ln:=ME (vN O) ∅
 hl:=by rw[qY,(qW O).1];decide
 pl:=ME (Hn O) ∅
 nd:=JO nm O
theorem Jf(nm:jz N){x:Nat}(hx:x<24):P1 (N x)=true:=by
 unfold P1;rw[Array.all_eq_true];intro i hi;have:=nm.ch x hx (N x).cps[i] (by rw[OD];exact Uo hi);exact decide_eq_true ()
theorem EB:∀n:Fin 301,P1 (aX (n.val:Int))=true:=by decide+kernel
theorem zr(nm:jz N){hs:List Lr}{ds:List De}{mb:List Tr}(O:eJ hs ds mb):∀x∈aU N (hdP 1 hs) (deP ((hs.length:Nat)+1) ds) (bp (msN hs ds) mb),P1 x=true:=by
 rw[mV];obtain⟨d1,d2,_⟩:=yW O;obtain⟨r1,r2⟩:=Cm (N:=N) O;intro x hx;rcases Mu.mp hx with hx|hx
 ·rcases Mu.mp hx with hx|hx
  ·obtain⟨i,hi,rfl⟩:=MH.mp hx;exact Jf nm (d2 i hi)
  obtain⟨e,he,rfl⟩:=MH.mp hx;have:=r2 e (Nh.mp he).1;have h:=EB {e.1.no.toNat,()};rwa [show((e.1.no.toNat:Nat):Int)=e.1.no by lia]at h
 rw[Mp.mp hx];decide+kernel
noncomputable def HL(dd:List (Nat×Nat)):Pt->Prop
 | .leaf _ (.call i us)=>(i,us.length)∈dd
 |_=>True
def Pe(dd:List (Nat×Nat))(a z:Int)(e:Le):Prop:=k5 e.1=true/\lOk e.1 e.2.2/\HL dd e.1/\a<=e.1.no/\e.1.no<z
theorem Pe.mono{dd:List (Nat×Nat)}{a z a' z':Int}{e:Le}(h:Pe dd a z e)(ha:a'<=a)(hz:z<=z'):Pe dd a' z' e:={h.1,h.2.1,h.2.2.1,by have:=h.2.2.2.1;lia,by have:=h.2.2.2.2;lia}
mutual
theorem Li{ps:List Nat}{dd:List (Nat×Nat)}:∀(t:Tr)(b:Bool)(pl lp:Option Str)(n:Int),okT ps dd b t->(b=true->lp.isSome=true)->∀e∈(ptT n t,pl,lp)::dj lp (ptT n t),Pe dd n (n+((flT t).length:Nat)) e
 | .leaf r,b,pl,lp,n,ok,hb=>by
  rw[okT]at ok;rw[ptT,dj,flT];intro e he;rw[Mp.mp he];refine{?_,λz=>?_,?_,OG _,by show n<n+((1:Nat):Int);lia}
  ·cases r<;>first|rfl|exact ok.elim
  ·cases r with
   |last=>exact hb ok
   |_=>cases z
  cases r with
  |call i us=>exact ok.1
  |_=>trivial
 | .iff v a c f o,b,pl,lp,n,ok,hb=>by
  rw[okT]at ok;rw[ptT,dj,flT,Mx,Mo,Mx,Mo,Mr];intro e he;rcases Mw.mp he with rfl|he
  ·exact{rfl,(λz=>by cases z),trivial,OG _,by show n<_;lia}
  rcases Mu.mp he with he|he
  ·exact(uB f b _ lp (n+1) ok.2.1 hb e he).mono () (by push_cast;lia)
  exact(uB o b _ lp _ ok.2.2 hb e he).mono () (by push_cast;lia)
 | .loop t m a c d,b,pl,lp,n,ok,hb=>by
  rw[okT]at ok;rw[ptT,dj,flT,Mx,Mo,Mr];intro e he;rcases Mw.mp he with rfl|he
  ·exact{rfl,(λz=>by cases z),trivial,OG _,by show n<_;lia}
  exact(uB d true _ _ (n+1) ok.2.2.2 (λ_=>rfl) e he).mono () (by push_cast;lia)
theorem uB{ps:List Nat}{dd:List (Nat×Nat)}:∀(ts:List Tr)(b:Bool)(pl lp:Option Str)(n:Int),cM ps dd b ts->(b=true->lp.isSome=true)->∀e∈bC pl lp (bp n ts),Pe dd n (n+((aA ts).length:Nat)) e
 | [],b,pl,lp,n,ok,hb=>by
  rw[bp,bC];intro e he;cases he
 |t::ts,b,pl,lp,n,ok,hb=>by
  rw[cM]at ok;rw[bp,CC,aA,Mo];intro e he;rw[<-M7]at he;rcases Mu.mp he with he|he
  ·exact(Li t b pl lp n ok.1 hb e he).mono () (by push_cast;lia)
  exact(uB ts b pl lp _ ok.2 hb e he).mono () (by push_cast;lia)
end
mutual
theorem GR{ps:List Nat}{dd:List (Nat×Nat)}{idx:List Nat}(hi:∀e∈dd,e.1∈idx):∀(t:Tr)(b:Bool)(n:Int),okT ps dd b t->cOk idx (ptT n t)
 | .leaf r,b,n,ok=>by
  rw[okT]at ok;rw[ptT];cases r with
  |call i us=>
   rw[cOk];exact hi _ ok.1
  |_=>simp[cOk]
 | .iff v a c f o,b,n,ok=>by
  rw[okT]at ok;rw[ptT,cOk];exact{sJ hi f b _ ok.2.1,sJ hi o b _ ok.2.2}
 | .loop t m a c d,b,n,ok=>by
  rw[okT]at ok;rw[ptT,cOk];exact{by have:=ok.2.1;lia,by have:=ok.2.2.1;lia,sJ hi d true _ ok.2.2.2}
theorem sJ{ps:List Nat}{dd:List (Nat×Nat)}{idx:List Nat}(hi:∀e∈dd,e.1∈idx):∀(ts:List Tr)(b:Bool)(n:Int),cM ps dd b ts->rD idx (bp n ts)
 | [],b,n,ok=>by rw[bp,rD];trivial
 |t::ts,b,n,ok=>by
  rw[cM]at ok;rw[bp,rD];exact{GR hi t b n ok.1,sJ hi ts b _ ok.2}
end
theorem zo:∀(ds:List De)(n:Int),(deP n ds).map dIx=ds.map (·.1)
 | [],n=>rfl
 |d::ds,n=>by rw[deP,MJ,MJ,zo ds];rfl
theorem D8(nm:jz N){hs:List Lr}{ds:List De}{mb:List Tr}(O:eJ hs ds mb){d:De}(m:d∈ds)(n:Int):poM N (deP n ds) (N d.1)=d.2.1.map N:=by
 obtain⟨k,hk⟩:=MS m;have kl:k<(deP n ds).length:=by rw[qZ];exact(MC.mp hk).1
 obtain⟨p,hp⟩:∃p,(deP n ds)[k]?=Vn p:={_,Mv kl};obtain⟨d',n',h1,_,_,rfl⟩:=dO hp;rw[hk]at h1;cases h1;exact As (N:=N) (ds:=deP n ds) (by rw[vD];exact GY nm O) (ML hp)
theorem tu(nm:jz N){hs:List Lr}{ds:List De}{mb:List Tr}(O:eJ hs ds mb):∀e∈bX N (deP ((hs.length:Nat)+1) ds) (bp (msN hs ds) mb),k5 e.1=true/\lOk e.1 e.2.2/\HL (iU ds) e.1/\1<=e.1.no/\e.1.no<=1000:=by
 obtain⟨l1,l2,l3⟩:=qW O;intro e he;unfold bX at he;rcases Mu.mp he with he|he
 ·unfold ft at he;obtain⟨p,mp,he⟩:=Nl.mp he;obtain⟨k,hk⟩:=MS mp;obtain⟨d,n',h1,h2,h3,rfl⟩:=dO hk;obtain⟨_,_,ok,_⟩:=O.de.at' k d h1;obtain⟨a1,a2,a3,a4,a5⟩:=uB d.2.2 false (Vn (N d.1)) Vo (n'+1) ok (λz=>by cases z) e he;have lf:(flD d).length=(aA d.2.2).length+2:=by unfold flD;simp
  refine{a1,a2,?_,(),()};revert a3
  cases e.1 with
  |leaf m r=>
   cases r with
   |call i us=>
    intro a3;obtain⟨d',md,e'⟩:=MH.mp a3;exact MH.mpr ⟨d',Nu md,e'⟩
   |_=>exact id
  |_=>exact id
 obtain⟨a1,a2,a3,a4,a5⟩:=uB mb false Vo Vo (msN hs ds) O.mo (λz=>by cases z) e he;unfold msN at a4 a5;exact{a1,a2,a3,(),()}
theorem IH(nm:jz N){hs:List Lr}{ds:List De}{mb:List Tr}(O:eJ hs ds mb)(n:Int){t:Pt}(h:HL (iU ds) t):Cs N (poM N (deP n ds)) ((deP n ds).map (dNm N)) t:=by
 cases t with
 |leaf m r=>
  cases r with
  |call i us=>
   obtain⟨d,md,e⟩:=MH.mp h;obtain⟨e1,e2⟩:=Sd e;subst e1;refine{?_,?_}
   ·rw[vD];exact MH.mpr ⟨d,md,rfl⟩
   rw[D8 nm O md,Mq];exact e2.symm
  |_=>trivial
 |_=>trivial
theorem CV{po:Str->List Str}{t:Pt}{pl lp:Option Str}(h:∀m i us,t=.leaf m (.call i us)->us.length=(po (N i)).length/\(po (N i)).length<=4):(wN N po t pl lp).length<=9:=by
 have d:=λinto kd=>wW (N:=N) t into kd pl;cases t with
 |leaf m r=>
  cases r with
  |call i us=>
   obtain⟨h1,h2⟩:=h m i us rfl;show(clA N m (us.zip (po (N i)))++clB pl m (po (N i)++[N i])).length<=9;have a:=uR (yc N m) (wF m) (us.zip (po (N i)));have b:=uR (λinto=>drw [pl] into "under" m) (λx=>cv _ _ _ _) (po (N i)++[N i]);rw[N0]at a;rw[Mo,Mr]at b;unfold clA clB;rw[Mo];lia
  |set x v=>exact ME (d _ _) ∅
  |put x p v=>exact ME (d _ _) ∅
  |snd x v=>exact ME (d _ _) ∅
  |say x v k=>
   show(saL pl (N x) (N k) m).length<=9;unfold saL;have a:=cv [Vn (N k)] (N x) "value" m;have b:=cv [pl] (N x) "under" m;have c:=cv [pl] (aX m) "under" m;simp only[Mr]at a b c;rw[Mo,Mo];lia
  |last=>exact ME (cv [pl] _ _ _) (by show 1<=9;decide)
  |_=>exact MF _
 |iff _ _ _ _ _ _=>exact ME (d _ _) ∅
 |loop _ _ _ _ _ _=>exact ME (d _ _) ∅
 |bj _ _ _ _=>exact MF _
theorem DJ{b:Bool}{ds:List Pt}{e:Le}(h:∀m i us,e.1=.leaf m (.call i us)->us.length=(poM N ds (N i)).length/\(poM N ds (N i)).length<=4):(um N b ds e).length<=9:=by
 have h9:=CV (N:=N) (pl:=e.2.1) (lp:=e.2.2) h;have s1:(ud b (knA cE Vo ds) e.1).length<=1:=by
  unfold ud;split
  ·exact CJ _ _
  exact MF _
 unfold um;rw[Mo];obtain⟨t,pl,lp⟩:=e;have d:=λinto kd=>wW (N:=N) t into kd pl;have cut:(wN N (poM N ds) t pl lp).length<=8->(wN N (poM N ds) t pl lp).length+(ud b (knA cE Vo ds) t).length<=9:=λz=>by
  have s1:(ud b (knA cE Vo ds) t).length<=1:=s1;lia
 show(wN N (poM N ds) t pl lp).length+(ud b (knA cE Vo ds) t).length<=9;cases t with
 |leaf m r=>
  cases r with
  |call i us=>
   have:ud b (knA cE Vo ds) (.leaf m (.call i us))=[]:=by cases b<;>rfl
   rw[this];exact h9
  |set x v=>exact cut (ME (d _ _) ∅)
  |put x p v=>exact cut (ME (d _ _) ∅)
  |snd x v=>exact cut (ME (d _ _) ∅)
  |say x v k=>
   refine cut ?_;show(saL pl (N x) (N k) m).length<=8;unfold saL;have a:=cv [Vn (N k)] (N x) "value" m;have b:=cv [pl] (N x) "under" m;have c:=cv [pl] (aX m) "under" m;simp only[Mr]at a b c;rw[Mo,Mo];lia
  |last=>exact cut (ME (cv [pl] _ _ _) (by show 1<=8;decide))
  |_=>exact cut (MF _)
 |iff _ _ _ _ _ _=>exact cut (ME (d _ _) ∅)
 |loop _ _ _ _ _ _=>exact cut (ME (d _ _) ∅)
 |bj _ _ _ _=>exact cut (MF _)
def FO(ps:List Nat)(dd:List (Nat×Nat))(k:Nat)(p:Pt):Prop:=∃(t:Tr)(n:Int)(b:Bool),p=ptT n t/\okT ps dd b t/\dpT t<=k
mutual
theorem JS{ps:List Nat}{dd:List (Nat×Nat)}:∀(t:Tr)(b:Bool)(pl lp:Option Str)(n:Int),okT ps dd b t->∀e∈(ptT n t,pl,lp)::dj lp (ptT n t),FO ps dd (dpT t) e.1
 | .leaf r,b,pl,lp,n,ok=>by
  intro e he;rw[ptT,dj]at he;rw[Mp.mp he];exact{.leaf r,n,b,by rw[ptT],ok,Ms _}
 | .iff v a c f o,b,pl,lp,n,ok=>by
  intro e he;rcases Mw.mp he with rfl|he
  ·exact{_,n,b,rfl,ok,Ms _}
  rw[okT]at ok;rw[ptT,dj]at he;rw[dpT];rcases Mu.mp he with he|he
  ·obtain⟨t,m,b',h1,h2,h3⟩:=l8 f b _ lp _ ok.2.1 e he;exact{t,m,b',h1,h2,()}
  obtain⟨t,m,b',h1,h2,h3⟩:=l8 o b _ lp _ ok.2.2 e he;exact{t,m,b',h1,h2,()}
 | .loop t m a c d,b,pl,lp,n,ok=>by
  intro e he;rcases Mw.mp he with rfl|he
  ·exact{_,n,b,rfl,ok,Ms _}
  rw[okT]at ok;rw[ptT,dj]at he;rw[dpT];obtain⟨t,m,b',h1,h2,h3⟩:=l8 d true _ _ _ ok.2.2.2 e he;exact{t,m,b',h1,h2,()}
theorem l8{ps:List Nat}{dd:List (Nat×Nat)}:∀(ts:List Tr)(b:Bool)(pl lp:Option Str)(n:Int),cM ps dd b ts->∀e∈bC pl lp (bp n ts),FO ps dd (cy ts) e.1
 | [],b,pl,lp,n,ok=>by
  intro e he;rw[bp,bC]at he;cases he
 |t::ts,b,pl,lp,n,ok=>by
  intro e he;rw[cM]at ok;rw[bp,CC]at he;rw[cy];rcases Mu.mp (show e∈((ptT n t,pl,lp)::dj lp (ptT n t))++bC pl lp (bp (n+((flT t).length:Nat)) ts)from he)with he|he
  ·obtain⟨t,m,b',h1,h2,h3⟩:=JS t b pl lp n ok.1 e he;exact{t,m,b',h1,h2,()}
  obtain⟨t,m,b',h1,h2,h3⟩:=l8 ts b pl lp _ ok.2 e he;exact{t,m,b',h1,h2,()}
end
theorem K9{hs:List Lr}{ds:List De}{mb:List Tr}(O:eJ hs ds mb):∀e∈bX N (deP ((hs.length:Nat)+1) ds) (bp (msN hs ds) mb),cOk ((deP ((hs.length:Nat)+1) ds).map dIx) e.1/\dep e.1<=6:=by
 intro e he;rw[zo];have go:∀{ps:List Nat}{dd:List (Nat×Nat)}{k:Nat},FO ps dd k e.1->(∀x∈dd,x.1∈ds.map (·.1))->k<=6->cOk (ds.map (·.1)) e.1/\dep e.1<=6:=by
  intro ps dd k ⟨t,n,b,h1,h2,h3⟩ hd hk;rw[h1];exact{GR hd t b n h2,by rw[G4];lia}
 unfold bX at he;rcases Mu.mp he with he|he
 ·unfold ft at he;obtain⟨p,mp,he⟩:=Nl.mp he;obtain⟨k,hk⟩:=MS mp;obtain⟨d,n',h1,h2,h3,rfl⟩:=dO hk;obtain⟨_,_,ok,dpd,_⟩:=O.de.at' k d h1;refine go (l8 d.2.2 false _ _ _ ok e he) (λx hx=>?_) dpd;obtain⟨d',m',rfl⟩:=MH.mp hx;exact MH.mpr ⟨d',Nu m',rfl⟩
 refine go (l8 mb false _ _ _ O.mo e he) (λx hx=>?_) O.md;obtain⟨d',m',rfl⟩:=MH.mp hx;exact MH.mpr ⟨d',m',rfl⟩
theorem G1{α β:Type}(f:α->List β)(k:Nat):∀(l:List α),(∀x∈l,(f x).length<=k)->(l.flatMap f).length<=k*l.length
 | [],_=>MF _
 |x::l,h=>by
  have h1:=G1 f k l λy hy=>h y (Mz _ hy);have h2:=h x MA;rw[NB,Mo,Mx,Nat.mul_succ];lia
theorem Jp(nm:jz N){hs:List Lr}{ds:List De}{mb:List Tr}(O:eJ hs ds mb):OkL N 6 (hdP 1 hs) (deP ((hs.length:Nat)+1) ds) (bp (msN hs ds) mb) where
 ok:=Kl nm O
 dk:={
  bj:=λp m=>by
   obtain⟨k,hk⟩:=MS m;obtain⟨d,n',h1,_,_,rfl⟩:=dO hk;trivial
  dp:=λp m=>by
   obtain⟨k,hk⟩:=MS m;obtain⟨d,n',h1,_,_,rfl⟩:=dO hk;show ni (bp (n'+1) d.2.2)<=6;rw[nO];exact(O.de.at' k d h1).2.2.2.1
  ck:=λk p hk=>by
   obtain⟨d,n',h1,_,_,rfl⟩:=dO hk;rw[yd,zo];refine sJ (λe he=>?_) d.2.2 false _ (O.de.at' k d h1).2.2.1;obtain⟨d',m',rfl⟩:=MH.mp he;exact MH.mpr ⟨d',m',rfl⟩
  nm:=λi j p q hp hq e=>by
   obtain⟨d,n',h1,_,_,rfl⟩:=dO hp;obtain⟨d',n'',h2,_,_,rfl⟩:=dO hq;have e:N d.1=N d'.1:=e;have i3:i<3:=by rw[<-O.dl];exact(MC.mp h1).1
   have j3:j<3:=by rw[<-O.dl];exact(MC.mp h2).1
   rw[(O.de.at' i d h1).1,(O.de.at' j d' h2).1]at e;exact Fh i3 j3 (nm.inj _ _ yI yI e)
  ln:=by rw[qZ,O.dl];decide }
 nn:=by rw[vD];exact GY nm O
 pn:=λp m=>by
  obtain⟨k,hk⟩:=MS m;obtain⟨d,n',h1,_,_,rfl⟩:=dO hk;show(d.2.1.map N).length<=100;rw[Mq];exact ME (yf O (ML h1)) ∅
 k5:=λe he=>(tu nm O e he).1
 lo:=λe he=>(tu nm O e he).2.1
 cal:=λe he=>IH nm O _ (tu nm O e he).2.2.1
 ck:=K9 O
 ll:=λb=>by
  unfold dq;refine ME (G1 _ 9 _ λe he=>DJ λm i us ee=>?_) (ME (Nat.mul_le_mul_left 9 (vN O)) ∅);have h:=(tu nm O e he).2.2.1;rw[ee]at h;obtain⟨d,md,e'⟩:=MH.mp h;obtain⟨e1,e2⟩:=Sd e';subst e1;rw[D8 nm O md,Mq];exact⟨e2.symm,yf O md⟩
end
section
variable{P:Program}{w:Pf}{K:Pa}{mg:Str->Option E9}{base:PH}{A:Adr}{N:Nat->Str}
seal PE PA PS PSs PT PW
mutual
noncomputable def exT(kn:Nat->Option Int):Tr->Option Int
 | .leaf (.call i _)=>BL 1 (kn i)
 | .leaf _=>Vn 1
 | .iff _ l r f o=>KQ l r (fU kn f) (fU kn o)
 | .loop _ m l r b=>K5 m l r (fU kn b)
noncomputable def fU(kn:Nat->Option Int):List Tr->Option Int
 | []=>Vn 0
 |t::ts=>iW (exT kn t) (fU kn ts)
end
mutual
noncomputable def cT(idx:List Nat):Tr->Prop
 | .leaf (.call i _)=>i∈idx
 | .leaf _=>True
 | .iff _ _ _ f o=>cTs idx f/\cTs idx o
 | .loop _ m _ _ b=>0<=m/\m<=1000/\cTs idx b
noncomputable def cTs(idx:List Nat):List Tr->Prop
 | []=>True
 |t::ts=>cT idx t/\cTs idx ts
end
mutual
theorem JV{ps:List Nat}{dd:List (Nat×Nat)}{idx:List Nat}(hi:∀e∈dd,e.1∈idx):∀(t:Tr)(b:Bool),okT ps dd b t->cT idx t
 | .leaf r,b,ok=>by
  rw[okT]at ok;cases r with
  |call i us=>
   rw[cT];exact hi _ ok.1
  |_=>simp[cT]
 | .iff v a c f o,b,ok=>by
  rw[okT]at ok;rw[cT];exact⟨qc hi f b ok.2.1,qc hi o b ok.2.2⟩
 | .loop t m a c d,b,ok=>by
  rw[okT]at ok;rw[cT];exact{by have:=ok.2.1;lia,by have:=ok.2.2.1;lia,qc hi d true ok.2.2.2}
theorem qc{ps:List Nat}{dd:List (Nat×Nat)}{idx:List Nat}(hi:∀e∈dd,e.1∈idx):∀(ts:List Tr)(b:Bool),cM ps dd b ts->cTs idx ts
 | [],b,ok=>by rw[cTs];trivial
 |t::ts,b,ok=>by
  rw[cM]at ok;rw[cTs];exact⟨JV hi t b ok.1,qc hi ts b ok.2⟩
end
theorem AM{idx:List Nat}:∀{a b:List Tr},cTs idx (a++b)->cTs idx a/\cTs idx b
 | [],b,h=>{by rw[cTs];trivial,h}
 |t::a,b,h=>by
  rw[M7,cTs]at h;have:=AM h.2;exact{by rw[cTs];exact⟨h.1,this.1⟩,this.2}
theorem Lx(x:Option Int):iW x (Vn 0)=x:=by
 cases x with
 |none=>rfl
 |some a=>
  show Vn (a+0)=Vn a;rw[Int.add_zero]
theorem Lv(x:Option Int):iW (Vn 0) x=x:=by
 cases x with
 |none=>rfl
 |some a=>
  show Vn (0+a)=Vn a;rw[O2]
theorem uW(kn:Nat->Option Int)(t:Tr):∀a:List Tr,fU kn (a++[t])=iW (fU kn a) (exT kn t)
 | []=>by
  rw[MX];simp only[fU];rw[Lx,Lv]
 |u::a=>by rw[M7,fU,fU,uW kn t a,qk]
theorem Dn:∀i:Fin 11,i.val≠9->wdI i.val≠"call":=by decide+kernel
theorem Fs(r:Lr):(∃i us,r=.call i us)\/(¬ decide (V.str r.wd=V.str "call")=true/\∀kn,exT kn (.leaf r)=Vn 1):=by
 by_cases c:r.ci=9
 ·cases r<;>first|exact .inl {_,_,rfl}|cases c
 refine .inr {λz=>?_,λkn=>?_}
 ·have:=Az r;have e:=V.str.inj (of_decide_eq_true z);rw[AZ]at e;exact Dn {r.ci,()} c e
 cases r with
 |call _ _=>exact absurd rfl c
 |_=>simp[exT]
theorem kR.mono{H H':Hp}{D:O4}{idx:List Nat}{kn:Nat->V}(h:kR N H D idx kn)(s:ai H H'):kR N H' D idx kn:=by
 obtain⟨kvs,h1,h2⟩:=h;exact{kvs,s _ _ h1,h2}
inductive mZ(d:Nat)(vs:List V)(H:Hp)(Q:VK)(Z:XK):Prop
 |mk(N:Nat->Str)(X:Hp)(L:O4)(xs:List V)(fs pre post:List Fr)(ts:List Tr)(st:Fr)(D:O4)(idx:List Nat)(kn:Nat->Option Int)(z0:vs=[.ref L,.int (pre.length:Nat),.ref D])(z1:ai X H)(z2:X L=Vn (.lst xs))(z3:aW N X fs xs)(z4:fs=pre++aA ts++st::post)(z5:xG st=true)(z6:cy ts<=d)(z7:cTs idx ts)(z8:kR N H D idx λi=>oI (kn i))(z9:xs.length<=300)
  (z10:∀(p:O4)(H':Hp),ai H H'->H' p=Vn (.tup [oI (fU kn ts),.int ((pre.length+(aA ts).length:Nat):Int)])->Q (.ref p) H'):mZ d vs H Q Z
inductive Dt(ts:List Tr)(L:O4)(pre:List Fr)(D:O4)(kn:Nat->Option Int)(H:Hp)(m:Nat)(σ:St)(Hc:Hp):Prop
 |mk(dn rest:List Tr)(v4 v5 v6 v7:Option V):ts=dn++rest->rest.length=m->σ=[Vn (.ref L),Vn (.int ((pre.length+(aA dn).length:Nat):Int)),Vn (.ref D),Vn (oI (fU kn dn)),v4,v5,v6,v7]->ai H Hc->Dt ts L pre D kn H m σ Hc
inductive Dd(m:Nat)(ts:List Tr)(L:O4)(pre:List Fr)(D:O4)(kn:Nat->Option Int)(H:Hp)(σ:St)(Hc:Hp):Prop
 |mk(dn rest:List Tr)(v4 v5 v6 v7:Option V)(m':Nat):m'<m->ts=dn++rest->rest.length=m'->σ=[Vn (.ref L),Vn (.int ((pre.length+(aA dn).length:Nat):Int)),Vn (.ref D),Vn (oI (fU kn dn)),v4,v5,v6,v7]->ai H Hc->Dd m ts L pre D kn H σ Hc
theorem uN(T:Txt K mg A)(d j:Nat)(bq:T.gN.Hz P w base j (spN mZ d)):T.gN.Hz P w base (j+1) (mZ d):=by
 refine T.gN.hs (k:=j) aR (λf cdv A' outer s H vs Q E hr hu h=>?_);obtain⟨N,X,L,xs,fs,pre,post,ts,st,D,idx,kn,rfl,s0,hL,fr,efs,hst,dp,ck,hD,lx,q⟩:=h;have lfs:fs.length<=300:=by rw[Pd fr];exact lx
 refine{_,(ab (pst 3 aR.nd af)
  (ab (fW Pk (ptc (iG hu) (px hu (px hu (fv 0) (fv 1)) af) (aS (au^au^ae)) ((by with_unfolding_all rfl)))
   (ab (pst 4 aR.nd (px hu (fv 0) (fv 1)))
   (ab (pst 5 aR.nd af)
   (ab (aQ (ptc (b4 hu) (px hu (fv 4) af) au)
    (aj (pst 5 aR.nd (px hu (fv 2) (px hu (fv 4) af))))
    (aj (aQ (ptc (b4 hu) (px hu (fv 4) af) au)
     (ab (bW (ak (hj:=by lia) bq hr (fv 0^aB aL (fv 1) af^fv 2^ae)) (dG rfl (aP (pgn (i:=6) aR.nd rfl) (aP (pgn (i:=1) aR.nd rfl) cF))))
     (ab (bW (ak (hj:=by lia) bq hr (fv 0^aB aL (fv 1) af^fv 2^ae)) (dG rfl (aP (pgn (i:=7) aR.nd rfl) (aP (pgn (i:=1) aR.nd rfl) cF))))
     (ab (pst 5 aR.nd bQ)
     (aj (aQ (PW.pt (pw_and (ptc fL (fv 6) bQ) (pw_and (ptc fL (fv 7) bQ) (pw_and1 (ptc (b4 hu) (aB aL (px hu (fv 4) af) (fv 6)) (aB aL (px hu (fv 4) af) (fv 7)))))))
      (aj (pst 5 aR.nd (aB aL (px hu (fv 4) af) (fv 6))))
      aF)))))
     (aj (aQ (ptc (b4 hu) (px hu (fv 4) af) au)
      (ab (bW (ak (hj:=by lia) bq hr (fv 0^aB aL (fv 1) af^fv 2^ae)) (dG rfl (aP (pgn (i:=6) aR.nd rfl) (aP (pgn (i:=1) aR.nd rfl) cF))))
      (ab (pst 5 aR.nd bQ)
      (aj (aQ (PW.pt (pw_and (ptc fL (fv 6) bQ) (pw_and1 (ptc (b4 hu) (aB aL (px hu (fv 4) af) (fv 6)) (px hu (fv 4) af)))))
       (aj (pst 5 aR.nd (aB dH (px hu (fv 4) af) (px hu (fv 4) af))))
       aF))))
      aF)))))
   (ab (aQ (PW.pt (pw_and (ptc fL (fv 3) bQ) (pw_and1 (ptc fL (fv 5) bQ))))
    (aj (pst 3 aR.nd (aB aL (aB aL (fv 3) af) (fv 5))))
    (aj (pst 3 aR.nd bQ)))
   (aj (pst 1 aR.nd (aB aL (fv 1) af))))))))
  (aj (aC (aS (fv 3^fv 1^ae)))))),?_}
 refine ag λM1 K1=>K1 _ _ ?_;clear K1 M1;try dsimp only
 refine ag λM1 K1=>{Dt ts L pre D kn H,{ts.length,[],ts,Vo,Vo,Vo,Vo,rfl,rfl,by rw[aA,fU];rfl,ai.refl _},?_};rintro m σ Hc ⟨dn,rest,v4,v5,v6,v7,ets,em,rfl,sH⟩;have sX:=s0.trans sH;have hLc:=SqL.of (K:=K) (sX _ _ hL);cases rest with
 |nil=>
  rw[MP]at ets;subst ets;obtain⟨v,av,⟨a,p,rfl,ha,_⟩⟩:=hV fr (a:=pre++aA ts) (f:=st) (b:=post) efs;rw[Mo]at av;refine lix hLc av (tix (j:=0) (SqT.of (sX _ _ ha)) rfl {by show 2<=sizeLine;decide,λtp htp=>?_});have st':=ai.upd htp (.tup [V.str "else",.str "end"]);exact MG {_,NF (SqT.of ao),rfl,rfl,_,rfl,a9 (λz=>absurd z (by show ¬ (!inV (V.str st.wd) [V.str "else",V.str "end"])=true;rw[qS,hst];decide)) (λ_=>K1 _ _ {by show 2<=sizeLine;decide,λp hp=>q p _ (sH.trans (st'.trans (ai.upd hp _))) ao})}
 |cons t rest=>
 clear K1;obtain⟨tl,et⟩:=Ej t;have efs':fs=(pre++aA dn)++hdF t::(tl++aA rest++st::post):=by
  rw[efs,ets,dD,aA,et];simp
 obtain⟨v,av,fv'⟩:=hV fr efs';rw[Mo]at av;obtain⟨a,p,rfl,ha,hob⟩:=fv';have nstop:xG (hdF t)=false:=by cases t<;>rfl
 refine lix hLc av (tix (j:=0) (SqT.of (sX _ _ ha)) rfl {by show 2<=sizeLine;decide,λtp htp=>?_});obtain⟨s2,e2⟩:=alc htp (HO.tup [V.str "else",.str "end"]);generalize upd Hc tp _=H2 at s2 e2⊢;refine MG {_,NF (SqT.of e2),rfl,rfl,_,rfl,a9 (λ_=>?_) (λz=>absurd (by show(!inV (V.str (hdF t).wd) [V.str "else",V.str "end"])=true;rw[qS,nstop];rfl) z)};refine{Dd m ts L pre D kn H,λσ Hc ⟨dn,rest,v4,v5,v6,v7,m',hm',h1,h2,h3,h4⟩=>⟨m',hm',dn,rest,v4,v5,v6,v7,h1,h2,h3,h4⟩,?_};have sX2:=sX.trans s2;have sH2:=sH.trans s2;have dpt:dpT t<=d:=by
  rw[ets,lQ,cy]at dp;lia
 have ckt:cT idx t:=by
  rw[ets]at ck;have:=(AM ck).2;rw[cTs]at this;exact this.1
 try dsimp only
 refine ag λN1 J1=>lix (s2.seq hLc) av (J1 _ _ ?_);clear J1 N1;try dsimp only
 refine ag λN1 J1=>J1 _ _ ?_;clear J1 N1;try dsimp only
 refine ag λN1 J1=>?_;have fin:∀(x:Option Int)(H4:Hp)(u6 u7:Option V)(at':Int),ai H2 H4->exT kn t=BL 1 x->at'+1=((pre.length+(aA dn).length+(flT t).length:Nat):Int)->
   N1 [Vn (.ref L),Vn (.int at'),Vn (.ref D),Vn (oI (fU kn dn)),Vn (.ref a),Vn (oI x),u6,u7] H4:=by
  intro x H4 u6 u7 at' s4 ex ea
  refine J1 _ _ ?_
  clear J1 N1
  refine ag λN2 J2=>?_
  have em':rest.length+1=m:=em
  have fin2:N2 [Vn (.ref L),Vn (.int at'),Vn (.ref D),Vn (oI (fU kn (dn++[t]))),Vn (.ref a),Vn (oI x),u6,u7] H4:=by
   refine J2 _ _ {dn++[t],rest,Vn (.ref a),Vn (oI x),u6,u7,rest.length,(),by rw[ets];simp,rfl,?_,sH2.trans s4};show[_,Vn (V.int (at'+1)),_,_,_,_,_,_]=_;rw[ea,dD,ox,Mo,NU]
  clear J2
  rw[uW,ex]at fin2
  cases hb:fU kn dn with
  |none=>
   rw[hb]at fin2;exact{rfl,_,rfl,aZ (aZ fin2)}
  |some b=>
   rw[hb]at fin2;refine{rfl,_,rfl,bN ?_};cases x with
   |none=>exact{rfl,_,rfl,aZ fin2}
   |some c=>
    refine{rfl,_,rfl,bN ?_};have e:oI (iW (Vn b) (BL 1 (Vn c)))=V.int (b+1+c):=by
     show V.int (b+(1+c))=_;rw[OX]
    rw[e]at fin2;exact fin2
 clear J1;have hT2:=SqT.of (K:=K) (sX2 _ _ ha);cases t with
 |leaf r=>
  rcases Fs r with⟨i,us,rfl⟩|⟨nc,e1⟩
  ·refine tix (j:=0) hT2 rfl {rfl,_,rfl,a9 (λ_=>?_) (λz=>absurd (decide_eq_true rfl) z)};rw[cT]at ckt;obtain⟨kvs,k1,k2⟩:=hD;exact tix (j:=1) hT2 rfl {oI (kn i),.inl {kvs,.inr (N i),.inl (sH2 _ _ k1),rfl,(k2 i ckt).symm},fin (kn i) H2 _ _ _ (ai.refl _) (by rw[exT]) (by rw[flT];push_cast;rfl)}
  exact tix (j:=0) hT2 rfl {rfl,_,rfl,a9 (λz=>absurd z nc) (λ_=>tix (j:=0) hT2 rfl {rfl,_,rfl,a9 (λz=>absurd z (la r).1) (λ_=>tix (j:=0) hT2 rfl {rfl,_,rfl,a9 (λz=>absurd z (la r).2) (λ_=>fin (Vn 0) H2 _ _ _ (ai.refl _) (e1 kn) (by rw[flT];push_cast;rfl))})})}
 |iff vv l r ff oo=>
  rw[dpT]at dpt;rw[cT]at ckt;cases d with
  |zero=>lia
  |succ d=>
  refine tix (j:=0) hT2 rfl {rfl,_,rfl,a9 (λz=>absurd z (show ¬ decide (V.str "if"=V.str "call")=true by decide)) (λ_=>tix (j:=0) hT2 rfl {rfl,_,rfl,a9 (λ_=>?_) (λz=>absurd (show decide (V.str "if"=V.str "if")=true from decide_eq_true rfl) z)})};have e1':fs=(pre++aA dn++[.iff vv l r])++aA ff++ .els::(aA oo++ .fin::(aA rest++st::post)):=by
   rw[efs,ets,dD,aA,flT];simp
  have e2':fs=(pre++aA dn++[.iff vv l r]++aA ff++[.els])++aA oo++ .fin::(aA rest++st::post):=by
   rw[e1'];simp
  have l1:(pre++aA dn++[Fr.iff vv l r]).length=pre.length+(aA dn).length+1:=by simp only[Mo,Mr]
  have l2:(pre++aA dn++[Fr.iff vv l r]++aA ff++[Fr.els]).length=pre.length+(aA dn).length+1+(aA ff).length+1:=by simp only[Mo,Mr]
  try dsimp only
  refine ag λN2 J2=>{N,X,L,xs,fs,_,_,ff,.els,D,idx,kn,by rw[l1];push_cast;rfl,sX2,hL,fr,e1',rfl,(),ckt.1,kR.mono hD sH2,lx,λp1 H3 s3 ep1=>{p1,_,rfl,SqT.of ep1,rfl,_,_,rfl,_,_,rfl,rfl,J2 _ _ ?_}};clear J2 N2;have sX3:=sX2.trans s3;try dsimp only
  refine ag λN2 J2=>{N,X,L,xs,fs,_,_,oo,.fin,D,idx,kn,by rw[l1,l2];push_cast;rfl,sX3,hL,fr,e2',rfl,(),ckt.2,kR.mono hD (sH2.trans s3),lx,λp2 H4 s4 ep2=>{p2,_,rfl,SqT.of ep2,rfl,_,_,rfl,_,_,rfl,rfl,?_}};have s34:=s3.trans s4;have hT4:=s34.tup hT2;have ea:((((pre++aA dn++[Fr.iff vv l r]++aA ff++[Fr.els]).length+(aA oo).length:Nat):Int))+1=((pre.length+(aA dn).length+(flT (.iff vv l r ff oo)).length:Nat):Int):=by
   rw[l2,flT];simp only[Mx,Mo,Ng];push_cast
   lia
  refine J2 _ _ ?_;clear J2 N2;try dsimp only
  refine ag λN2 J2=>J2 _ _ ?_;clear J2 N2;try dsimp only
  have fi:=λx u6 u7 e=>fin x H4 u6 u7 _ s34 e ea;clear fin;rw[exT]at fi;cases h1:fU kn ff with
  |none=>
   rw[h1]at fi;exact{rfl,_,rfl,aZ (aZ (fi Vo _ _ rfl))}
  |some x1=>
   rw[h1]at fi;refine{rfl,_,rfl,bN ?_};cases h2:fU kn oo with
   |none=>
    rw[h2]at fi;exact{rfl,_,rfl,aZ (fi Vo _ _ rfl)}
   |some x2=>
    rw[h2]at fi;refine{rfl,_,rfl,bN (tix (j:=2) hT4 rfl (tix (j:=3) hT4 rfl {rfl,_,rfl,a9 (λz=>?_) (λz=>?_)}))}
    ·have z:=V.int.inj (of_decide_eq_true z);refine tix (j:=2) hT4 rfl (fi (Vn (l+x1)) _ _ ?_);show(if l+x1=r+x2 then Vn (1+l+x1)else Vo)=Vn (1+(l+x1));rw[if_pos z,OX]
    refine fi Vo _ _ ?_;show(if l+x1=r+x2 then Vn (1+l+x1)else Vo)=Vo;rw[if_neg λe=>z (decide_eq_true (by rw[e]))]
 |loop th mm l r bb=>
  rw[dpT]at dpt;rw[cT]at ckt;cases d with
  |zero=>lia
  |succ d=>
  refine tix (j:=0) hT2 rfl {rfl,_,rfl,a9 (λz=>absurd z (show ¬ decide (V.str "loop"=V.str "call")=true by decide)) (λ_=>tix (j:=0) hT2 rfl {rfl,_,rfl,a9 (λz=>absurd z (show ¬ decide (V.str "loop"=V.str "if")=true by decide)) (λ_=>tix (j:=0) hT2 rfl {rfl,_,rfl,a9 (λ_=>?_) (λz=>absurd (show decide (V.str "loop"=V.str "loop")=true from decide_eq_true rfl) z)})})};have e1':fs=(pre++aA dn++[.loop th mm l r])++aA bb++ .fin::(aA rest++st::post):=by
   rw[efs,ets,dD,aA,flT];simp
  have l1:(pre++aA dn++[Fr.loop th mm l r]).length=pre.length+(aA dn).length+1:=by simp only[Mo,Mr]
  try dsimp only
  refine ag λN2 J2=>{N,X,L,xs,fs,_,_,bb,.fin,D,idx,kn,by rw[l1];push_cast;rfl,sX2,hL,fr,e1',rfl,(),ckt.2.2,kR.mono hD sH2,lx,λp1 H3 s3 ep1=>{p1,_,rfl,SqT.of ep1,rfl,_,_,rfl,_,_,rfl,rfl,?_}};have hT3:=s3.tup hT2;have ea:((((pre++aA dn++[Fr.loop th mm l r]).length+(aA bb).length:Nat):Int))+1=((pre.length+(aA dn).length+(flT (.loop th mm l r bb)).length:Nat):Int):=by
   rw[l1,flT];simp only[Mx,Mo,Ng];push_cast
   lia
  refine J2 _ _ ?_;clear J2 N2;try dsimp only
  refine ag λN2 J2=>J2 _ _ ?_;clear J2 N2;try dsimp only
  have fi:=λx u6 u7 e=>fin x H3 u6 u7 _ s3 e ea;clear fin;rw[exT]at fi;cases h1:fU kn bb with
  |none=>
   rw[h1]at fi;exact{rfl,_,rfl,aZ (aZ (fi Vo _ _ rfl))}
  |some x1=>
   rw[h1]at fi;refine{rfl,_,rfl,bN (tix (j:=3) hT3 rfl (tix (j:=4) hT3 rfl {rfl,_,rfl,a9 (λz=>?_) (λz=>?_)}))}
   ·have z:=V.int.inj (of_decide_eq_true z);refine tix (j:=2) hT3 rfl (tix (j:=4) hT3 rfl {.inl {(),()},fi (Vn (mm*r)) _ _ ?_});show(if l+x1=r then Vn (1+mm*r)else Vo)=Vn (1+mm*r);rw[if_pos z]
   refine fi Vo _ _ ?_;show(if l+x1=r then Vn (1+mm*r)else Vo)=Vo;rw[if_neg λe=>z (decide_eq_true (by rw[e]))]
theorem tT(T:Txt K mg A):∀d,T.gN.Hz P w base (d+2) (mZ d)
 |0=>uN T 0 1 (T.gN.hs (k:=0) aR (λ_ _ _ _ _ _ _ _ _ _ _ h=>h.elim) (λ_ _ _ _ h=>h.elim))
 |d+1=>uN T (d+1) (d+2) (tT T d)
end
section
variable{P:Program}{w:Pf}{K:Pa}{mg:Str->Option E9}{base:PH}{A:Adr}{N:Nat->Str}
noncomputable def eqI:Fr->Fr->Prop
 | .iff v _ _,.iff v' _ _=>v=v'
 | .loop t m _ _,.loop t' m' _ _=>t=t'/\m=m'
 | .leaf r,.leaf r'=>r=r'
 | .bj i ps,.bj i' ps'=>i=i'/\ps=ps'
 | .main,.main=>True
 | .els,.els=>True
 | .fin,.fin=>True
 |_,_=>False
theorem lj(f:Fr):eqI f f:=by
 cases f<;>simp[eqI]
mutual
noncomputable def dv:Tr->Tr->Prop
 | .leaf r,.leaf r'=>r=r'
 | .iff v _ _ f o,.iff v' _ _ f' o'=>v=v'/\cH f f'/\cH o o'
 | .loop t m _ _ b,.loop t' m' _ _ b'=>t=t'/\m=m'/\cH b b'
 |_,_=>False
noncomputable def cH:List Tr->List Tr->Prop
 | [],[]=>True
 |t::ts,t'::ts'=>dv t t'/\cH ts ts'
 |_,_=>False
end
theorem fz{α β:Type}{F:α->β->Prop}:∀{a c:List α}{g:List β},Paired F (a++c) g->∃g1 g2,g=g1++g2/\Paired F a g1/\Paired F c g2
 | [],c,g,h=>{[],g,rfl,.nil,h}
 |x::a,c,_,.cons (l₂:=g) h r=>by
  obtain⟨g1,g2,e,h1,h2⟩:=fz r;exact{_::g1,g2,by rw[e];rfl,.cons h h1,h2}
theorem oG{α β:Type}{F:α->β->Prop}{x:α}{g:List β}(h:Paired F [x] g):∃y,g=[y]/\F x y:=by
 cases h with
 |cons h r=>
  cases r;exact{_,rfl,h}
theorem wj{g:Fr}(h:eqI .fin g):g=.fin:=by
 cases g<;>first|rfl|exact h.elim
theorem Gf{g:Fr}(h:eqI .els g):g=.els:=by
 cases g<;>first|rfl|exact h.elim
mutual
theorem Jg:∀(t:Tr)(g:List Fr),Paired eqI (flT t) g->∃t',g=flT t'/\dv t t'
 | .leaf r,g,h=>by
  rw[flT]at h;obtain⟨y,rfl,e⟩:=oG h;cases y with
  |leaf r'=>
   have e:r=r':=e;subst e;exact{.leaf r,by rw[flT],by rw[dv]}
  |_=>exact e.elim
 | .iff v a c f o,g,h=>by
  rw[flT]at h;cases h with
  |cons h r=>
   rename_i y g;obtain⟨g1,g2,rfl,h1,h2⟩:=fz r;obtain⟨f',rfl,s1⟩:=o7 f g1 h1;cases h2 with
   |cons h2 r2=>
    obtain⟨g3,g4,rfl,h3,h4⟩:=fz r2;obtain⟨o',rfl,s2⟩:=o7 o g3 h3;obtain⟨z,rfl,h5⟩:=oG h4;rw[Gf h2,wj h5];cases y with
    |iff v' a' c'=>
     have e:v=v':=h;subst e;exact{.iff v a' c' f' o',by rw[flT],by rw[dv];exact⟨rfl,s1,s2⟩}
    |_=>exact h.elim
 | .loop t m a c b,g,h=>by
  rw[flT]at h;cases h with
  |cons h r=>
   rename_i y g;obtain⟨g1,g2,rfl,h1,h2⟩:=fz r;obtain⟨b',rfl,s1⟩:=o7 b g1 h1;obtain⟨z,rfl,h5⟩:=oG h2;rw[wj h5];cases y with
   |loop t' m' a' c'=>
    have e:t=t'/\m=m':=h;obtain⟨rfl,rfl⟩:=e;exact{.loop t m a' c' b',by rw[flT],by rw[dv];exact⟨rfl,rfl,s1⟩}
   |_=>exact h.elim
theorem o7:∀(ts:List Tr)(g:List Fr),Paired eqI (aA ts) g->∃ts',g=aA ts'/\cH ts ts'
 | [],g,h=>by
  rw[aA]at h;cases h;exact{[],by rw[aA],by rw[cH];trivial}
 |t::ts,g,h=>by
  rw[aA]at h;obtain⟨g1,g2,rfl,h1,h2⟩:=fz h;obtain⟨t',rfl,s1⟩:=Jg t g1 h1;obtain⟨ts',rfl,s2⟩:=o7 ts g2 h2;exact{t'::ts',by rw[aA],by rw[cH];exact⟨s1,s2⟩}
end
mutual
theorem K4{ps:List Nat}{dd:List (Nat×Nat)}:∀(t t':Tr),dv t t'->(∀b,okT ps dd b t->okT ps dd b t')/\dpT t'=dpT t/\(flT t').length=(flT t).length
 | .leaf r,.leaf r',h=>by
  rw[dv]at h;subst h;exact{λ_ h=>h,rfl,rfl}
 | .iff v a c f o,.iff v' a' c' f' o',h=>by
  rw[dv]at h;obtain⟨rfl,h1,h2⟩:=h;obtain⟨a1,a2,a3⟩:=jK f f' h1;obtain⟨b1,b2,b3⟩:=jK o o' h2;refine{λb h=>?_,by rw[dpT,dpT,a2,b2],by rw[flT,flT];simp[a3,b3]};rw[okT]at h⊢;exact⟨h.1,a1 b h.2.1,b1 b h.2.2⟩
 | .loop t m a c b,.loop t' m' a' c' b',h=>by
  rw[dv]at h;obtain⟨rfl,rfl,h1⟩:=h;obtain⟨a1,a2,a3⟩:=jK b b' h1;refine{λb h=>?_,by rw[dpT,dpT,a2],by rw[flT,flT];simp[a3]};rw[okT]at h⊢;exact⟨h.1,h.2.1,h.2.2.1,a1 true h.2.2.2⟩
 | .leaf _,.iff _ _ _ _ _,h=>by simp[dv]at h
 | .leaf _,.loop _ _ _ _ _,h=>by simp[dv]at h
 | .iff _ _ _ _ _,.leaf _,h=>by simp[dv]at h
 | .iff _ _ _ _ _,.loop _ _ _ _ _,h=>by simp[dv]at h
 | .loop _ _ _ _ _,.leaf _,h=>by simp[dv]at h
 | .loop _ _ _ _ _,.iff _ _ _ _ _,h=>by simp[dv]at h
theorem jK{ps:List Nat}{dd:List (Nat×Nat)}:∀(t t':List Tr),cH t t'->(∀b,cM ps dd b t->cM ps dd b t')/\cy t'=cy t/\(aA t').length=(aA t).length
 | [],[],h=>{λ_ h=>h,rfl,rfl}
 |t::ts,t'::ts',h=>by
  rw[cH]at h;obtain⟨a1,a2,a3⟩:=K4 t t' h.1;obtain⟨b1,b2,b3⟩:=jK ts ts' h.2;refine{λb h=>?_,by rw[cy,cy,a2,b2],by rw[aA,aA,Mo,Mo,a3,b3]};rw[cM]at h⊢;exact⟨a1 b h.1,b1 b h.2⟩
 | [],_::_,h=>by simp[cH]at h
 |_::_,[],h=>by simp[cH]at h
end
theorem pK{α:Type}{F:α->α->Prop}(h:∀x,F x x):∀l:List α,Paired F l l
 | []=>.nil
 |x::l=>.cons (h x) (pK h l)
theorem xj{α:Type}{F:α->α->Prop}(h:∀x,F x x):∀{l:List α}{i:Nat}{x y:α},l[i]?=Vn x->F x y->Paired F l (l.set i y)
 |x'::l,0,x,y,e,f=>by
  cases e;exact .cons f (pK h l)
 |x'::l,i+1,x,y,e,f=>.cons (h x') (xj (l:=l) (i:=i) h e f)
mutual
theorem BK:∀t:Tr,dv t t
 | .leaf r=>by rw[dv]
 | .iff v a c f o=>by rw[dv];exact⟨rfl,eE f,eE o⟩
 | .loop t m a c b=>by rw[dv];exact⟨rfl,rfl,eE b⟩
theorem eE:∀ts:List Tr,cH ts ts
 | []=>by rw[cH];trivial
 |t::ts=>by rw[cH];exact⟨BK t,eE ts⟩
end
mutual
theorem zj:∀(a b c:Tr),dv a b->dv b c->dv a c
 | .leaf r,b,c,h1,h2=>by
  cases b with
  |leaf r'=>
   rw[dv]at h1;rw[h1];exact h2
  |_=>simp[dv]at h1
 | .iff v l r f o,b,c,h1,h2=>by
  cases b with
  |iff v' l' r' f' o'=>
   cases c with
   |iff v2 l2 r2 f2 o2=>
    rw[dv]at h1 h2⊢;exact⟨h1.1.trans h2.1,eI f f' f2 h1.2.1 h2.2.1,eI o o' o2 h1.2.2 h2.2.2⟩
   |_=>simp[dv]at h2
  |_=>simp[dv]at h1
 | .loop t m l r x,b,c,h1,h2=>by
  cases b with
  |loop t' m' l' r' x'=>
   cases c with
   |loop t2 m2 l2 r2 x2=>
    rw[dv]at h1 h2⊢;exact⟨h1.1.trans h2.1,h1.2.1.trans h2.2.1,eI x x' x2 h1.2.2 h2.2.2⟩
   |_=>simp[dv]at h2
  |_=>simp[dv]at h1
theorem eI:∀(a b c:List Tr),cH a b->cH b c->cH a c
 | [],b,c,h1,h2=>by
  cases b with
  |nil=>exact h2
  |cons _ _=>simp[cH]at h1
 |t::ts,b,c,h1,h2=>by
  cases b with
  |nil=>simp[cH]at h1
  |cons t' ts'=>
   cases c with
   |nil=>simp[cH]at h2
   |cons t2 ts2=>
    rw[cH]at h1 h2⊢;exact⟨zj t t' t2 h1.1 h2.1,eI ts ts' ts2 h1.2 h2.2⟩
end
def yY(k:Nat)(idx:List Nat)(f:Fr)(post:List Fr):Prop:=match f with
 | .loop _ m _ _=>∃c p2,post=aA c++ .fin::p2/\cy c<=k/\cTs idx c
 | .iff _ _ _=>∃c o p2,post=aA c++ .els::(aA o++ .fin::p2)/\cy c<=k/\cy o<=k/\cTs idx c/\cTs idx o
 |_=>True
theorem yY.app{k:Nat}{idx:List Nat}{f:Fr}{post q:List Fr}(h:yY k idx f post):yY k idx f (post++q):=by
 cases f with
 |loop _ _ _ _=>
  obtain⟨c,p2,rfl,h⟩:=h;exact{c,p2++q,by simp,h}
 |iff _ _ _=>
  obtain⟨c,o,p2,rfl,h⟩:=h;exact{c,o,p2++q,by simp,h}
 |_=>trivial
theorem oT{α:Type}{f:α}:∀{a c p q:List α},a++c=p++f::q->(∃q1,a=p++f::q1/\q=q1++c)\/(∃p1,p=a++p1/\c=p1++f::q)
 | [],c,p,q,h=>.inr ⟨p,rfl,h⟩
 |x::a,c,[],q,h=>by
  cases h;exact .inl ⟨a,rfl,rfl⟩
 |x::a,c,y::p,q,h=>by
  injection h with h1 h2;subst h1;rcases oT h2 with⟨q1,e1,e2⟩|⟨p1,e1,e2⟩
  ·exact .inl {q1,by rw[e1];rfl,e2}
  exact .inr {p1,by rw[e1];rfl,e2}
theorem vW{f g:Fr}{p q:List Fr}(h:[g]=p++f::q):f=g:=by
 cases p with
 |nil=>cases h;rfl
 |cons y p=>
  injection h with _ h;cases p<;>cases h
mutual
theorem Ki{k:Nat}{idx:List Nat}:∀(t:Tr)(pre:List Fr)(f:Fr)(post:List Fr),flT t=pre++f::post->dpT t<=k->cT idx t->yY k idx f post
 | .leaf r,pre,f,post,e,hd,hc=>by
  rw[flT]at e;rw[vW e];trivial
 | .iff v a c ff oo,pre,f,post,e,hd,hc=>by
  rw[flT]at e;rw[dpT]at hd;rw[cT]at hc;cases pre with
  |nil=>
   injection e with e1 e2;rw[<-e1,<-e2];exact{ff,oo,[],rfl,(),(),hc.1,hc.2}
  |cons y pre=>
   injection e with _ e;rcases oT e with⟨q1,e1,e2⟩|⟨p1,e1,e2⟩
   ·rw[e2];exact(sL ff pre f q1 e1 () hc.1).app
   cases p1 with
   |nil=>
    injection e2 with e3 _;rw[<-e3];trivial
   |cons y p1=>
    injection e2 with _ e2;rcases oT e2 with⟨q1,e1,e3⟩|⟨p2,e1,e3⟩
    ·rw[e3];exact(sL oo p1 f q1 e1 () hc.2).app
    rw[vW e3];trivial
 | .loop t m a c b,pre,f,post,e,hd,hc=>by
  rw[flT]at e;rw[dpT]at hd;rw[cT]at hc;cases pre with
  |nil=>
   injection e with e1 e2;rw[<-e1,<-e2];exact{b,[],rfl,(),hc.2.2}
  |cons y pre=>
   injection e with _ e;rcases oT e with⟨q1,e1,e2⟩|⟨p1,e1,e2⟩
   ·rw[e2];exact(sL b pre f q1 e1 () hc.2.2).app
   rw[vW e2];trivial
theorem sL{k:Nat}{idx:List Nat}:∀(ts:List Tr)(pre:List Fr)(f:Fr)(post:List Fr),aA ts=pre++f::post->cy ts<=k->cTs idx ts->yY k idx f post
 | [],pre,f,post,e,hd,hc=>by
  rw[aA]at e;cases pre<;>cases e
 |t::ts,pre,f,post,e,hd,hc=>by
  rw[aA]at e;rw[cy]at hd;rw[cTs]at hc;rcases oT e with⟨q1,e1,e2⟩|⟨p1,e1,e2⟩
  ·rw[e2];exact(Ki t pre f q1 e1 () hc.1).app
  exact sL ts p1 f post e2 () hc.2
end
mutual
theorem Jh{idx:List Nat}:∀(t t':Tr),dv t t'->cT idx t->cT idx t'
 | .leaf r,t',h,c=>by
  cases t' with
  |leaf r'=>
   rw[dv]at h;rw[<-h];exact c
  |_=>simp[dv]at h
 | .iff v a c f o,t',h,hc=>by
  cases t' with
  |iff v' a' c' f' o'=>
   rw[dv]at h;rw[cT]at hc⊢;exact⟨ku f f' h.2.1 hc.1,ku o o' h.2.2 hc.2⟩
  |_=>simp[dv]at h
 | .loop t m a c b,t',h,hc=>by
  cases t' with
  |loop t' m' a' c' b'=>
   rw[dv]at h;obtain⟨_,rfl,h⟩:=h;rw[cT]at hc⊢;exact⟨hc.1,hc.2.1,ku b b' h hc.2.2⟩
  |_=>simp[dv]at h
theorem ku{idx:List Nat}:∀(ts ts':List Tr),cH ts ts'->cTs idx ts->cTs idx ts'
 | [],ts',h,hc=>by
  cases ts' with
  |nil=>exact hc
  |cons _ _=>simp[cH]at h
 |t::ts,ts',h,hc=>by
  cases ts' with
  |nil=>simp[cH]at h
  |cons t' ts'=>
   rw[cH]at h;rw[cTs]at hc⊢;exact⟨Jh t t' h.1 hc.1,ku ts ts' h.2 hc.2⟩
end
end
section
variable{P:Program}{w:Pf}{K:Pa}{mg:Str->Option E9}{base:PH}{A:Adr}{N:Nat->Str}
seal PE PA PS PSs PT PW
theorem JD(f:Fr):decide (V.str f.wd=V.str "if")=(match f with| .iff _ _ _=>true|_=>false):=by
 cases f with
 |leaf r=>exact NW.mpr (la r).1
 |_=>rfl
theorem Jz(f:Fr):decide (V.str f.wd=V.str "loop")=(match f with| .loop _ _ _ _=>true|_=>false):=by
 cases f with
 |leaf r=>exact NW.mpr (la r).2
 |_=>rfl
inductive w6(vs:List V)(H:Hp)(Q:VK)(Z:XK):Prop
 |mk(N:Nat->Str)(M:List O4)(L:O4)(xs:List V)(fs pre post:List Fr)(f:Fr)(D:O4)(idx:List Nat)(kn:Nat->Option Int)(z0:vs=[.ref L,.int (pre.length:Nat),.ref D])(z1:H L=Vn (.lst xs))(z2:aW N (del M H) fs xs)(z3:fs=pre++f::post)(z4:yY 6 idx f post)(z5:kR N H D idx λi=>oI (kn i))(z6:xs.length<=300)(z7:∀m∈M,H m≠Vo)
  (z8:∀(v:V)(f':Fr)(H':Hp),ai H H'->eqI f f'->kF N (del M H') v f'->Q v H'):w6 vs H Q Z
theorem FW(T:Txt K mg A):T.kr.Hz P w base 9 w6:=by
 have bq:=tT (P:=P) (w:=w) (base:=base) T 6;refine T.kr.hs (k:=8) bE (λg cdv A' outer s H vs Q E hr hu h=>?_);obtain⟨N,M,L,xs,fs,pre,post,f,D,idx,kn,rfl,hL,fr,efs,cut,hD,lx,hM,q⟩:=h;have frH:=aW.same cG fr;have dS:∀{H':Hp},ai H H'->ai (del M H) (del M H'):=λs a o e=>by
  obtain⟨h1,h2⟩:=cw e;exact aK h1 (s _ _ h2)
 have dN:∀{H':Hp}{a:O4}{o:HO},ai H H'->H a=Vo->H' a=Vn o->del M H' a=Vn o:=λ{H' a o} s h e=>aK (λm=>hM a m h) e;obtain⟨v,av,fv0⟩:=hV frH efs;obtain⟨v2,av2,fvD⟩:=hV fr efs;have:v2=v:=by rw[av2]at av;exact Pn av
 subst this;have fvD0:=fvD;obtain⟨a,p,rfl,haD,hobD⟩:=fvD;have ha:=(cw haD).2;have hLS:=SqL.of (K:=K) hL;refine{_,(ab (pst 3 bE.nd (px hu (fv 0) (fv 1)))
  (ab (aQ (ptc (b4 hu) (px hu (fv 3) af) au)
   (ab (bW (ak (hj:=by lia) bq hr (fv 0^aB aL (fv 1) af^fv 2^ae)) (dG rfl (aP (pgn (i:=4) bE.nd rfl) (aP (pgn (i:=5) bE.nd rfl) cF))))
   (aj (aQ (ptc fL (fv 4) bQ)
    (aj (aC (aS (au^px hu (fv 3) af^px hu (fv 3) af^px hu (fv 3) af^aB aL (px hu (fv 3) af) (fv 4)^ae))))
    aF)))
   aF)
  (ab (aQ (ptc (b4 hu) (px hu (fv 3) af) au)
   (ab (bW (ak (hj:=by lia) bq hr (fv 0^aB aL (fv 1) af^fv 2^ae)) (dG rfl (aP (pgn (i:=4) bE.nd rfl) (aP (pgn (i:=5) bE.nd rfl) cF))))
   (ab (bW (ak (hj:=by lia) bq hr (fv 0^aB aL (fv 5) af^fv 2^ae)) (dG rfl (aP (pgn (i:=6) bE.nd rfl) (aP (pgn (i:=5) bE.nd rfl) cF))))
   (aj (aQ (PW.pt (pw_and (ptc fL (fv 4) bQ) (pw_and1 (ptc fL (fv 6) bQ))))
    (ab (pst 7 bE.nd (pcB KS T.Bj (aB aL (px hu (fv 3) af) (fv 4)^aB aL (px hu (fv 3) af) (fv 6)^ae)))
    (aj (aC (aS (au^px hu (fv 3) af^aB oU (fv 7) (fv 4)^aB oU (fv 7) (fv 6)^ae)))))
    aF))))
   aF)
  (aj (aC (fv 3)))))),?_}
 refine ag λM1 K1=>lix hLS av (K1 _ _ ?_);clear K1 M1;try dsimp only
 refine ag λM1 K1=>?_;have b1:(match f with| .loop _ _ _ _=>True|_=>False)->∀(u4 u5:Option V)(H1:Hp),ai H H1->M1 [Vn (.ref L),Vn (.int (pre.length:Nat)),Vn (.ref D),Vn (.ref a),u4,u5,Vo,Vo] H1:=by
  intro hf u4 u5 H1 s1;refine K1 _ _ ?_;cases f with
  |loop t m l r=>
   exact tix (j:=0) (SqT.of (s1 _ _ ha)) rfl {rfl,_,rfl,a9 (λz=>absurd z (show ¬ decide (V.str "loop"=V.str "if")=true by decide)) (λ_=>q _ _ H1 s1 (lj _) (fvD0.same (dS s1)))}
  |_=>exact hf.elim
 cases f with
 |loop t m l r=>
  obtain⟨c,p2,ep,dpc,ckc⟩:=cut;clear K1;refine tix (j:=0) (SqT.of ha) rfl {rfl,_,rfl,a9 (λ_=>?_) (λz=>absurd (show decide (V.str "loop"=V.str "loop")=true from decide_eq_true rfl) z)};have e1':fs=(pre++[.loop t m l r])++aA c++ .fin::p2:=by
   rw[efs,ep];simp
  have l1:(pre++[Fr.loop t m l r]).length=pre.length+1:=by simp
  try dsimp only
  refine ag λN2 J2=>{N,H,L,xs,fs,_,_,c,.fin,D,idx,kn,by rw[l1];push_cast;rfl,ai.refl _,hL,frH,e1',rfl,dpc,ckc,hD,lx,λp1 H3 s3 ep1=>{p1,_,rfl,SqT.of ep1,rfl,_,_,rfl,_,_,rfl,rfl,J2 _ _ ?_}};clear J2 N2;try dsimp only
  cases ex:fU kn c with
  |none=>exact{rfl,_,rfl,aZ (b1 trivial _ _ H3 s3)}
  |some x=>
   have hT:=SqT.of (K:=K) (s3 _ _ ha);refine{rfl,_,rfl,bN (tix (j:=1) hT rfl (tix (j:=2) hT rfl (tix (j:=3) hT rfl (tix (j:=3) hT rfl {by show 5<=sizeLine;decide,λn hn=>?_}))))};have s4:=ai.upd hn (HO.tup [V.str "loop",t.v N,V.int m,V.int l,V.int (l+x)]);refine q (.ref n) (.loop t m l (l+x)) _ (s3.trans s4) ⟨rfl,rfl⟩ {n,n,rfl,dN (s3.trans s4) (ai.free s3 hn) ao,λo ho=>by cases ho}
 |iff v l r=>
  obtain⟨c,o,p2,ep,dpc,dpo,ckc,cko⟩:=cut;clear b1;refine tix (j:=0) (SqT.of ha) rfl {rfl,_,rfl,a9 (λz=>absurd z (show ¬ decide (V.str "if"=V.str "loop")=true by decide)) (λ_=>K1 _ _ ?_)};clear K1 M1;try dsimp only
  refine ag λM1 K1=>?_;have b2:∀(u4 u5 u6:Option V)(H1:Hp),ai H H1->M1 [Vn (.ref L),Vn (.int (pre.length:Nat)),Vn (.ref D),Vn (.ref a),u4,u5,u6,Vo] H1:=λu4 u5 u6 H1 s1=>K1 _ _ (q _ _ H1 s1 (lj _) (fvD0.same (dS s1)));clear K1;refine tix (j:=0) (SqT.of ha) rfl {rfl,_,rfl,a9 (λ_=>?_) (λz=>absurd (show decide (V.str "if"=V.str "if")=true from decide_eq_true rfl) z)};have e1':fs=(pre++[.iff v l r])++aA c++ .els::(aA o++ .fin::p2):=by
   rw[efs,ep];simp
  have e2':fs=(pre++[.iff v l r]++aA c++[.els])++aA o++ .fin::p2:=by
   rw[e1'];simp
  have l1:(pre++[Fr.iff v l r]).length=pre.length+1:=by simp
  have l2:(pre++[Fr.iff v l r]++aA c++[Fr.els]).length=pre.length+1+(aA c).length+1:=by simp only[Mo,Mr]
  try dsimp only
  refine ag λN2 J2=>{N,H,L,xs,fs,_,_,c,.els,D,idx,kn,by rw[l1];push_cast;rfl,ai.refl _,hL,frH,e1',rfl,dpc,ckc,hD,lx,λp1 H3 s3 ep1=>{p1,_,rfl,SqT.of ep1,rfl,_,_,rfl,_,_,rfl,rfl,J2 _ _ ?_}};clear J2 N2;try dsimp only
  refine ag λN2 J2=>{N,H,L,xs,fs,_,_,o,.fin,D,idx,kn,by rw[l1,l2];push_cast;rfl,s3,hL,frH,e2',rfl,dpo,cko,kR.mono hD s3,lx,λp2 H4 s4 ep2=>{p2,_,rfl,SqT.of ep2,rfl,_,_,rfl,_,_,rfl,rfl,J2 _ _ ?_}};clear J2 N2;have s34:=s3.trans s4;try dsimp only
  cases ex:fU kn c with
  |none=>exact{rfl,_,rfl,aZ (aZ (b2 _ _ _ H4 s34))}
  |some x=>
   refine{rfl,_,rfl,bN ?_};cases ey:fU kn o with
   |none=>exact{rfl,_,rfl,aZ (b2 _ _ _ H4 s34)}
   |some y=>
    have hT:=SqT.of (K:=K) (s34 _ _ ha);refine{rfl,_,rfl,bN ?_};try dsimp only
    refine ag λN2 J2=>tix (j:=2) hT rfl (tix (j:=3) hT rfl {_,_,rfl,?_});generalize (if r+y>l+x then r+y else l+x)=hi;refine J2 _ _ ?_;try dsimp only
    refine tix (j:=1) hT rfl {by show 4<=sizeLine;decide,λn hn=>?_};have s5:=ai.upd hn (HO.tup [V.str "if",V.ref p,V.int (hi-x),V.int (hi-y)]);exact q (.ref n) (.iff v (hi-x) (hi-y)) _ (s34.trans s5) rfl {n,p,rfl,dN (s34.trans s5) (ai.free s34 hn) ao,λo ho=>(dS (s34.trans s5)) _ _ (hobD o ho)}
 |leaf r=>
  clear b1;refine tix (j:=0) (SqT.of ha) rfl {rfl,_,rfl,a9 (λz=>absurd z (la r).2) (λ_=>K1 _ _ ?_)};clear K1 M1;try dsimp only
  exact tix (j:=0) (SqT.of ha) rfl {rfl,_,rfl,a9 (λz=>absurd z (la r).1) (λ_=>q _ _ H (ai.refl _) (lj _) fvD0)}
 |_=>
  clear b1;refine tix (j:=0) (SqT.of ha) rfl {rfl,_,rfl,a9 (λz=>absurd z (by rw[Jz];exact My)) (λ_=>K1 _ _ ?_)};clear K1 M1;try dsimp only
  exact tix (j:=0) (SqT.of ha) rfl {rfl,_,rfl,a9 (λz=>absurd z (by rw[JD];exact My)) (λ_=>q _ _ H (ai.refl _) (lj _) fvD0)}
end
section
variable{P:Program}{w:Pf}{K:Pa}{mg:Str->Option E9}{base:PH}{A:Adr}{N:Nat->Str}
noncomputable abbrev Sec:=Fr×List Tr
noncomputable def rh(s:Sec):List Fr:=s.1::(aA s.2++[.fin])
noncomputable def flS(ss:List Sec):List Fr:=ss.flatMap rh
noncomputable def j9(ds:List De)(mb:List Tr):List Sec:=ds.map (λd=>(.bj d.1 d.2.1,d.2.2))++[(.main,mb)]
theorem xv(hs:List Lr)(ds:List De)(mb:List Tr):flA hs ds mb=hs.map Fr.leaf++flS (j9 ds mb):=by
 have h:∀ds:List De,bB ds=flS (ds.map λd=>(.bj d.1 d.2.1,d.2.2)):=λds=>by
  unfold bB flS;rw[List.flatMap_map];rfl
 unfold flA j9;rw[h];unfold flS;rw[Nx,MB];simp[rh]
theorem Av(a b:List Sec):flS (a++b)=flS a++flS b:=Nx
theorem mM(s:Sec)(b:List Sec):flS (s::b)=rh s++flS b:=rfl
def Jm(s s':Sec):Prop:=s.1=s'.1/\cH s.2 s'.2
def ng(a b:List Sec):Prop:=Paired Jm a b
theorem Cv{s s':Sec}(h:Jm s s'):(rh s').length=(rh s).length:=by
 have:=(jK (ps:=[]) (dd:=[]) _ _ h.2).2.2;unfold rh;simp[this]
theorem ng.len:∀{a b:List Sec},ng a b->(flS b).length=(flS a).length
 |_,_,.nil=>rfl
 |_,_,.cons h r=>by
  rw[mM,mM,Mo,Mo,Cv h,ng.len r]
noncomputable def hIx:Fr->List Nat
 | .bj i _=>[i]
 |_=>[]
noncomputable def kC(ss:List Sec):List Nat:=ss.flatMap λs=>hIx s.1
theorem ng.idx:∀{a b:List Sec},ng a b->kC b=kC a
 |_,_,.nil=>rfl
 |_,_,.cons h r=>by
  show hIx _++kC _=hIx _++kC _;rw[h.1,ng.idx r]
noncomputable def knE(kn:Nat->Option Int)(s:Sec):Nat->Option Int:=match s.1 with
 | .bj i _=>λj=>if j=i then fU kn s.2 else kn j
 |_=>kn
noncomputable def knS(ss:List Sec):Nat->Option Int:=ss.foldl knE λ_=>Vo
theorem x8(ss:List Sec)(s:Sec):knS (ss++[s])=knE (knS ss) s:=by
 unfold knS;rw[ON];rfl
noncomputable def mv:Nat->List Fr->List Nat
 |_,[]=>[]
 |n,f::fs=>(if dmF f=true then[n]else[])++mv (n+1) fs
theorem tw:∀(a b:List Fr)(n:Nat),mv n (a++b)=mv n a++mv (n+a.length) b
 | [],b,n=>by simp[mv]
 |f::a,b,n=>by
  show _++mv (n+1) (a++b)=(_++mv (n+1) a)++_;rw[tw a b,Mx,MB,show n+1+a.length=n+(a.length+1) by lia]
theorem vR:∀{a:List Fr}{n:Nat},(∀f∈a,dmF f=false)->mv n a=[]
 | [],n,h=>rfl
 |f::a,n,h=>by
  show(if dmF f=true then[n]else[])++mv (n+1) a=[];rw[h f MA,vR λx hx=>h x (Mz _ hx)];rfl
mutual
theorem LO:∀(t:Tr),∀f∈flT t,dmF f=false
 | .leaf r,f,h=>by
  rw[flT]at h;rw[Mp.mp h];rfl
 | .iff v a c ff o,f,h=>by
  rw[flT]at h;rcases Mw.mp h with rfl|h
  ·rfl
  rcases Mu.mp h with h|h
  ·exact xu ff f h
  rcases Mw.mp h with rfl|h
  ·rfl
  rcases Mu.mp h with h|h
  ·exact xu o f h
  rw[Mp.mp h];rfl
 | .loop t m a c b,f,h=>by
  rw[flT]at h;rcases Mw.mp h with rfl|h
  ·rfl
  rcases Mu.mp h with h|h
  ·exact xu b f h
  rw[Mp.mp h];rfl
theorem xu:∀(ts:List Tr),∀f∈aA ts,dmF f=false
 | [],f,h=>by
  rw[aA]at h;cases h
 |t::ts,f,h=>by
  rw[aA]at h;rcases Mu.mp h with h|h
  ·exact LO t f h
  exact xu ts f h
end
theorem Cp{s:Sec}(h:dmF s.1=true)(n:Nat):mv n (rh s)=[n]:=by
 show(if dmF s.1=true then[n]else[])++mv (n+1) (aA s.2++[.fin])=[n];have e:∀f∈aA s.2++[Fr.fin],dmF f=false:=λf hf=>by
  rcases Mu.mp hf with hf|hf
  ·exact xu _ f hf
  rw[Mp.mp hf];rfl
 rw[if_pos h,vR e];rfl
theorem Ci:∀{ss:List Sec}{n:Nat},(∀s∈ss,dmF s.1=true)->mv n (flS ss)=(Pu ss.length).map λk=>n+(flS (ss.take k)).length
 | [],n,_=>rfl
 |s::ss,n,h=>by
  rw[mM,tw,Cp (h s MA),Ci λx hx=>h x (Mz _ hx),Mx,List.range_succ_eq_map,MJ,NJ];show n::_=(n+(flS ([]:List Sec)).length)::_;congr 1;refine NZ λk _=>?_;show n+(rh s).length+(flS (ss.take k)).length=n+(flS (s::ss.take k)).length;rw[mM,Mo,NU]
theorem xD:∀(fs:List Fr)(n:Nat),(List.range' n fs.length).filter (λi=>dmF (fs.getD (i-n) .fin))=mv n fs
 | [],n=>rfl
 |f::fs,n=>by
  rw[Mx,List.range'_succ,OB];have e:(List.range' (n+1) fs.length).filter (λi=>dmF ((f::fs).getD (i-n) .fin))=mv (n+1) fs:=by
   rw[<-xD fs (n+1)];refine List.filter_congr λi hi=>?_;have:=(List.mem_range'_1.mp hi).1;rw[show i-n=(i-(n+1))+1 by lia];rfl
  rw[e,Nz];show(if dmF f=true then n::mv (n+1) fs else mv (n+1) fs)=(if dmF f=true then[n]else[])++mv (n+1) fs;split<;>rfl
theorem Bu{hs:List Lr}{ss:List Sec}(h:∀s∈ss,dmF s.1=true):(Pu (hs.map Fr.leaf++flS ss).length).filter (λi=>dmF ((hs.map Fr.leaf++flS ss).getD i .fin))=(Pu ss.length).map λk=>hs.length+(flS (ss.take k)).length:=by
 have:=xD (hs.map Fr.leaf++flS ss) 0;rw[<-List.range_eq_range',tw,vR (a:=hs.map Fr.leaf) (by
  intro f hf;obtain⟨r,_,rfl⟩:=MH.mp hf;rfl),Ci h,MX,Mq]at this
 simpa using this
theorem xY{α β:Type}{F:α->β->Prop}{y z:β}{C:List β}(h:∀x,F x z->F x y):∀{A:List β}{l:List α},Paired F l (A++z::C)->Paired F l (A++y::C)
 | [],_,.cons e r=>.cons (h _ e) r
 |_::A,_,.cons e r=>.cons e (xY h (A:=A) r)
theorem uV{α β:Type}{F:α->β->Prop}{x:α}{y:β}(h:F x y):∀{i:Nat}{xs:List α}{ys:List β},Paired F xs ys->Paired F (xs.set i x) (ys.set i y)
 |_,_,_,.nil=>.nil
 |0,_,_,.cons _ r=>.cons h r
 |i+1,_,_,.cons e r=>.cons e (uV h (i:=i) r)
theorem pO{α β:Type}{F:α->β->Prop}{a:List α}{b:List β}(h:Paired F a b)(k:Nat):Paired F (a.take k) (b.take k):=lE k h
theorem vw{α:Type}{l:List α}{i:Nat}{x:α}(h:l[i]?=Vn x):l=l.take i++x::l.drop (i+1):=by
 obtain⟨hi,e⟩:=MC.mp h;rw[<-e,List.getElem_cons_drop,MO]
theorem Fq{n j:Nat}(h:j<n):ixN n (j:Int)=Vn j:=by
 unfold ixN;rw[if_pos (),if_pos ()];simp
structure GU(N:Nat->Str)(ss:List Sec):Prop where
 hd:∀s∈ss,dmF s.1=true
 bo:∀(k:Nat) s,ss[k]?=Vn s->cy s.2<=6/\cTs (kC (ss.take k)) s.2
 ix:∀i∈kC ss,i<24
 ln:ss.length<=10
theorem FX{hs:List Lr}{ds:List De}{mb:List Tr}(O:eJ hs ds mb):GU N (j9 ds mb) where
 hd:=λs m=>by
  rcases Mu.mp m with m|m
  ·obtain⟨d,_,rfl⟩:=MH.mp m;rfl
  rw[Mp.mp m];rfl
 bo:=λk s hk=>by
  have idt:∀l:List De,kC (l.map λd=>(.bj d.1 d.2.1,d.2.2))=l.map (·.1):=λl=>by
   induction l with
   |nil=>rfl
   |cons d l ih=>
    show[d.1]++kC _=_;rw[ih];rfl
  unfold j9 at hk⊢;by_cases c:k<ds.length
  ·rw[MW (by simpa using c),MM]at hk;cases hd:ds[k]? with
   |none=>rw[hd]at hk;cases hk
   |some d=>
   rw[hd]at hk;cases hk;obtain⟨_,_,ok,dpd,_⟩:=O.de.at' k d hd;refine{dpd,?_};rw[N5 (by rw[Mq];lia),<-OJ,idt];refine qc (λe he=>?_) d.2.2 false ok;obtain⟨d',m',rfl⟩:=MH.mp he;exact MH.mpr ⟨d',m',rfl⟩
  have hk':=(MC.mp hk).1;rw[Mo,Mq,Mr]at hk';have ek:k=ds.length:=()
  subst ek;rw[MU (by rw[Mq];exact Ms _),Mq,Nz]at hk;cases hk;refine{O.md,?_};rw[N5 (by rw[Mq];exact Ms _),Nc (by rw[Mq];exact Ms _),idt];refine qc (λe he=>?_) mb false O.mo;obtain⟨d',m',rfl⟩:=MH.mp he;exact MH.mpr ⟨d',m',rfl⟩
 ix:=λi hi=>by
  obtain⟨s,ms,hi⟩:=Nl.mp hi;rcases Mu.mp ms with m|m
  ·obtain⟨d,md,rfl⟩:=MH.mp m;obtain⟨k,hk⟩:=MS md;rw[Mp.mp hi,(O.de.at' k d hk).1];exact yI
  rw[Mp.mp m]at hi;cases hi
 ln:=by
  unfold j9;rw[Mo,Mq,O.dl];show 4<=10;decide
theorem Ca{hs:List Lr}{ds:List De}{mb:List Tr}(O:eJ hs ds mb){ss':List Sec}(h:ng (j9 ds mb) ss'):∃ds' mb',ss'=j9 ds' mb'/\eJ hs ds' mb'/\ds'.map (λd=>(d.1,d.2.1))=ds.map λd=>(d.1,d.2.1):=by
 unfold j9 ng at h;obtain⟨g1,g2,rfl,h1,h2⟩:=fz h;obtain⟨m',rfl,e2⟩:=oG h2;obtain⟨mh,mb'⟩:=m';have e0:Fr.main=mh:=e2.1;subst e0;have key:∀(ds:List De)(g:List Sec),Paired Jm (ds.map λd=>(Fr.bj d.1 d.2.1,d.2.2)) g->∃ds':List De,g=ds'.map (λd=>(Fr.bj d.1 d.2.1,d.2.2))/\ds'.map (λd=>(d.1,d.2.1))=ds.map (λd=>(d.1,d.2.1))/\∀(k:Nat) d',ds'[k]?=Vn d'->∃d,ds[k]?=Vn d/\d'.1=d.1/\d'.2.1=d.2.1/\cH d.2.2 d'.2.2:=by
  intro ds;induction ds with
  |nil=>
   intro g hg;cases hg;exact{[],rfl,rfl,λk d h=>by simp at h}
  |cons d ds ih=>
   intro g hg;cases hg with
   |cons e r=>
    rename_i y g;obtain⟨ds',rfl,e1,e2⟩:=ih g r;obtain⟨yh,yb⟩:=y;have e3:Fr.bj d.1 d.2.1=yh:=e.1;subst e3;refine{(d.1,d.2.1,yb)::ds',rfl,by rw[MJ,MJ,e1],λk d' hk=>?_};cases k with
    |zero=>
     cases hk;exact⟨d,rfl,rfl,rfl,e.2⟩
    |succ k=>exact e2 k d' hk
 obtain⟨ds',rfl,em,ea⟩:=key ds g1 h1;have dl:ds'.length=ds.length:=by
  have:=congrArg QF em;simpa using this
 have ddt:∀k,iU (ds'.take k)=iU (ds.take k):=λk=>by
  have h:∀l:List De,iU l=(l.map λd=>(d.1,d.2.1)).map λx=>(x.1,x.2.length):=λl=>by
   unfold iU;rw[NJ];rfl
  rw[h,h];congr 1;rw[OJ,OJ,em]
 have dda:iU ds'=iU ds:=by
  have:=ddt ds.length;rwa [Nc (),Nc (Ms _)]at this
 obtain⟨m1,m2,m3⟩:=jK (ps:=[]) (dd:=iU ds) _ _ e2.2;refine{ds',mb',rfl,{O.hd,dl.trans O.dl,⟨λk d' hk=>?_⟩,by rw[dda];exact m1 false O.mo,by rw[m2];exact O.md,by rw[m3];exact O.ml},em};obtain⟨d,hd,e1,e2,e3⟩:=ea k d' hk;obtain⟨a1,a2,a3,a4,a5⟩:=O.de.at' k d hd;obtain⟨b1,b2,b3⟩:=jK (ps:=d.2.1) (dd:=iU (ds.take k)) _ _ e3;refine{e1.trans a1,by rw[e2];exact a2,by rw[e2,ddt];exact b1 false a3,by rw[b2];exact a4,by rw[b3];exact a5}
end
section
variable{P:Program}{w:Pf}{K:Pa}{mg:Str->Option E9}{base:PH}{A:Adr}{N:Nat->Str}
seal PE PA PS PSs PT PW
theorem zF{hs:List Lr}{a c:List Sec}{h:Fr}{b:List Tr}:hs.map Fr.leaf++flS (a++(h,b)::c)=(hs.map Fr.leaf++flS a++[h])++(aA b++ .fin::flS c):=by
 rw[Av,mM];simp[rh]
theorem FP{hs:List Lr}{a:List Sec}{h:Fr}:(hs.map Fr.leaf++flS a++[h]).length=hs.length+(flS a).length+1:=by
 simp only[Mo,Mq,Mr]
theorem GC{b:List Tr}{Q:List Fr}{j:Nat}{f f':Fr}(hj:j<=(aA b).length)(e:(aA b++ .fin::Q)[j]?=Vn f)(h:eqI f f'):∃b',(aA b++ .fin::Q).set j f'=aA b'++ .fin::Q/\cH b b':=by
 by_cases c:j<(aA b).length
 ·rw[MW c]at e;obtain⟨b',e1,s1⟩:=o7 b _ (xj lj e h);exact{b',by rw[List.set_append_left _ _ c,e1],s1}
 have ej:j=(aA b).length:=()
 subst ej;rw[MU (Ms _),Nz]at e;cases e;rw[wj h];refine{b,?_,eE b};rw[OC _ _ (Ms _),Nz];rfl
theorem C7{b:List Tr}{Q:List Fr}{j k:Nat}{idx:List Nat}{f:Fr}(hj:j<=(aA b).length)(e:(aA b++ .fin::Q)[j]?=Vn f)(hd:cy b<=k)(hc:cTs idx b):yY k idx f ((aA b++ .fin::Q).drop (j+1)):=by
 by_cases c:j<(aA b).length
 ·rw[MW c]at e;rw[List.drop_append_of_le_length ()];exact(sL b _ f _ (vw e) hd hc).app
 have ej:j=(aA b).length:=()
 subst ej;rw[MU (Ms _),Nz]at e;cases e;trivial
noncomputable def bgV(hs:List Lr)(ss:List Sec):List V:=(Pu (ss.length+1)).map λk=>V.int ((hs.length+(flS (ss.take k)).length:Nat):Int)
theorem Dc{hs:List Lr}{ss:List Sec}{k:Nat}(h:k<=ss.length):(bgV hs ss)[k]?=Vn (V.int ((hs.length+(flS (ss.take k)).length:Nat):Int)):=by
 unfold bgV;rw[MM,NN ()];rfl
theorem JN{hs:List Lr}{ss:List Sec}(h:∀s∈ss,dmF s.1=true):(((Pu (hs.map Fr.leaf++flS ss).length).filter (λi=>dmF ((hs.map Fr.leaf++flS ss).getD i .fin))).map λ(i:Nat)=>V.int (0+(i:Int)))++[V.int (((hs.map Fr.leaf++flS ss).length:Nat):Int)]=bgV hs ss:=by
 rw[Bu h];unfold bgV;rw[UP,M6,NJ];congr 1
 ·refine NZ λk _=>?_;show V.int (0+((hs.length+(flS (ss.take k)).length:Nat):Int))=_;rw[O2]
 show[_]=[V.int ((hs.length+(flS (ss.take ss.length)).length:Nat):Int)];rw[M8,Mo,Mq]
inductive ya(vs:List V)(H:Hp)(Q:VK)(Z:XK):Prop
 |mk(N:Nat->Str)(L0:O4)(c:Int)(xs:List V)(hs:List Lr)(ss:List Sec)(z0:vs=[.ref L0,.int c])(z1:H L0=Vn (.lst xs))(z2:aW N H (hs.map Fr.leaf++flS ss) xs)(z3:GU N ss)(z4:jz N)(z5:xs.length<=300)
  (z8:∀(p L D:O4)(xs':List V)(ss':List Sec)(H':Hp),ai H H'->H' p=Vn (.tup [.ref L,.ref D])->H' L=Vn (.lst xs')->ng ss ss'->aW N H' (hs.map Fr.leaf++flS ss') xs'->kR N H' D (kC ss') (λi=>oI (knS ss' i))->Q (.ref p) H'):ya vs H Q Z
inductive Aj(L:O4)(c:Int)(D:O4)(B3:O4)(H4:Hp)(ss:List Sec)(N:Nat->Str)(hs:List Lr)(k:Nat)(σ:St)(Hc:Hp):Prop
 |mk(ss':List Sec)(xs':List V)(kvs:List (Key×V))(v4 v5 v6 v7:Option V):σ=[Vn (.ref L),Vn (.int c),Vn (.ref D),Vn (.ref B3),v4,v5,v6,v7]->Sm [L,D] H4 Hc->Hc L=Vn (.lst xs')->ng ss ss'->aW N (del [L,D] Hc) (hs.map Fr.leaf++flS ss') xs'->Hc D=Vn (.dK kvs)->kvs.length<=k->(∀i∈kC (ss'.take k),L2.cb kvs (.inr (N i))=Vn (oI (knS (ss'.take k) i)))->Aj L c D B3 H4 ss N hs k σ Hc
inductive Bd(L:O4)(c:Int)(D:O4)(B3:O4)(k:Nat)(v6:Option V)(v7:Option V)(H4:Hp)(kvs:List (Key×V))(b:List Tr)(N:Nat->Str)(PR:List Fr)(SC:List Sec)(i:Nat)(σ:St)(Hd:Hp):Prop
 |mk(b':List Tr)(xs'':List V)(v5:Option V):σ=[Vn (.ref L),Vn (.int c),Vn (.ref D),Vn (.ref B3),Vn (.int (k:Int)),v5,v6,v7]->Sm [L,D] H4 Hd->Hd L=Vn (.lst xs'')->Hd D=Vn (.dK kvs)->cH b b'->aW N (del [L,D] Hd) (PR++(aA b'++ .fin::flS SC)) xs''->Bd L c D B3 k v6 v7 H4 kvs b N PR SC i σ Hd
theorem Gy(T:Txt K mg A):T.jr.Hz P w base 10 ya:=by
 refine T.jr.hs (k:=9) bG (λg cdv A' outer s H vs Q E hr hu h=>?_);obtain⟨N,L0,c,xs,hs,ss,rfl,hL0,fr,O,nm,lx,q⟩:=h;have lf:=Pd fr;have sln:=O.ln;refine{_,(ab (pst 0 bG.nd (pcT q4 T.dm (fv 0^ae)))
  (ab (pst 2 bG.nd (xH))
  (ab (pst 3 bG.nd (aB aL (fO (N:=["_law_at","_law_flat_here"]) (own:=1) (fr:=[0]) (cA.of (by kernel_rfl!)) rfl (di rfl T.dz (pcB eO T.fX (fv 0^ae)^ae)) (λb=>pgn (i:=0) (show Qe (["_law_at","_law_flat_here"]:List QN) by decide+kernel) rfl) (λb=>wB (ptc (AA hu) (px hu (px hu (fv 1) (fv 0)) af) (aS (au^au^ae)) ((by with_unfolding_all rfl)))) (λb=>fv 0)) (aN (pcB eO T.fX (fv 0^ae)^ae))))
  (ab (cf Pk rfl (di rfl T.dz (aB oU (pcB eO T.fX (fv 3^ae)) af^ae)) (pgn (i:=4) bG.nd rfl)
   (ab (cf Pk rfl (yU rfl T.dz (aB oU (px hu (fv 3) (aB aL (fv 4) af)) af^px hu (fv 3) (fv 4)^nC jN af^ae)) (pgn (i:=5) bG.nd rfl)
    (aj (aQ (ptc xU (aB bM (ak (hj:=by lia) (oV T) hr (fv 1^fv 5^ae)) af) (aB bM (fv 1) af))
     (aj (bW (ak (hj:=by lia) (FW T) hr (fv 0^fv 5^fv 2^ae)) (ik (fv 0) (fv 5) (iR hu Vs))))
     aF)))
   (ab (bW (ak (hj:=by lia) (tT T 6) hr (fv 0^aB aL (px hu (fv 3) (fv 4)) af^fv 2^ae)) (dG rfl (aP (pgn (i:=6) bG.nd rfl) (aP (pgn (i:=7) bG.nd rfl) cF))))
   (aj (aQ (ptc (b4 hu) (px hu (px hu (fv 0) (px hu (fv 3) (fv 4))) af) au)
    (aj (bW (fv 6) (ik (fv 2) (px hu (px hu (fv 0) (px hu (fv 3) (fv 4))) af) (iR hu Vs))))
    aF)))))
  (aj (aC (aS (fv 0^fv 2^ae)))))))),?_}
 refine ag λM1 K1=>MG {L0,xs,rfl,MG (SqL.of hL0),λL hL=>?_};obtain⟨s1,e1⟩:=alc hL (HO.lst xs);generalize upd H L _=H1 at s1 e1⊢;refine K1 _ _ ?_;clear K1 M1;try dsimp only
 refine ag λM1 K1 D hD=>K1 _ _ ?_;clear K1 M1;obtain⟨s2,e2⟩:=alc hD (HO.dK []);have DL:D≠L:=λz=>by rw[z,e1]at hD;cases hD
 generalize upd H1 D _=H2 at s2 e2⊢;have e1':=s2 _ _ e1;have t2:=s1.trans s2;have HD:H D=Vo:=ai.free s1 hD;try dsimp only
 refine ag λM1 K1=>lnl e1' {_,rfl,(),(),?_};rw[show((xs.length:Nat):Int).toNat=(hs.map Fr.leaf++flS ss).length by rw[lf];simp];refine tF (n:=(hs.map Fr.leaf++flS ss).length) (λi=>dmF ((hs.map Fr.leaf++flS ss).getD i .fin)) (λi=>V.int (0+(i:Int))) (aG ()) (λb i Hc R hi sc k=>?_) (λb i Hc R hi _ sc k=>k Hc (ai.refl _)) (λB Hc hB sc eB=>?_)
 ·obtain⟨f,hf⟩:∃f,(hs.map Fr.leaf++flS ss)[i]?=Vn f:={_,Mv hi};obtain⟨v,hv,a,p,rfl,ha,hob⟩:=j2 (i:=i) (a:=f) fr hf;have ej:(0:Int)+(i:Int)=(i:Int):=()
  have ed:(hs.map Fr.leaf++flS ss).getD i .fin=f:=by rw[M9,hf];rfl
  rw[ej];rw[ed]at k;refine lxn (SqL.of (sc _ _ e1')) hv (tix (j:=0) (SqT.of ((t2.trans sc) _ _ ha)) rfl {by show 2<=sizeLine;decide,λtp htp=>?_});obtain⟨s3,e3⟩:=alc htp (HO.tup [V.str "deed",V.str "main"]);generalize upd Hc tp _=H3 at s3 e3⊢;refine MG {_,NF (SqT.of e3),rfl,rfl,_,rfl,?_};rw[show(if false=true then !inV (V.str f.wd) [V.str "deed",V.str "main"]else inV (V.str f.wd) [V.str "deed",V.str "main"])=dmF f from Dj f];exact k H3 s3
 have e1c:=sc _ _ e1';have e2c:=sc _ _ e2;refine lnl e1c {by show 1<=sizeLine;decide,λB2 hB2=>?_};have s3:=ai.upd hB2 (HO.lst [V.int (xs.length:Nat)]);refine{B,B2,_,_,rfl,rfl,s3 _ _ eB,ao,sz (by rw[Mq,Mr];have:=NG (λi=>dmF ((hs.map Fr.leaf++flS ss).getD i .fin)) (Pu (hs.map Fr.leaf++flS ss).length);rw[Nv]at this;lia),λB3 hB3=>K1 _ _ ?_};clear K1 M1;have eb:(((Pu (hs.map Fr.leaf++flS ss).length).filter (λi=>dmF ((hs.map Fr.leaf++flS ss).getD i .fin))).map λ(i:Nat)=>V.int (0+(i:Int)))++[V.int ((xs.length:Nat):Int)]=bgV hs ss:=by
  rw[<-lf];exact JN O.hd
 rw[eb];have s34:=s3.trans (ai.upd hB3 (HO.lst (bgV hs ss)));have eB3:upd (upd Hc B2 (HO.lst [V.int (xs.length:Nat)])) B3 (HO.lst (bgV hs ss)) B3=Vn (.lst (bgV hs ss)):=ao;generalize upd (upd Hc B2 (HO.lst [V.int (xs.length:Nat)])) B3 (HO.lst (bgV hs ss))=H4 at s34 eB3⊢;have t4:ai H H4:=t2.trans (sc.trans s34);have L4:=s34 _ _ e1c;have D4:=s34 _ _ e2c;have BM:B3∉[L,D]:=λm=>by
  simp only[Mw,MQ,or_false]at m;rcases m with m|m
  ·rw[m]at hB3;rw[s3 _ _ e1c]at hB3;cases hB3
  rw[m]at hB3;rw[s3 _ _ e2c]at hB3;cases hB3
 have HM:∀a o,H a=Vn o->a∉[L,D]:=λa o e m=>by
  simp only[Mw,MQ,or_false]at m;rcases m with m|m
  ·rw[m,hL]at e;cases e
  rw[m,HD]at e;cases e
 have mL:L∈[L,D]:=MA;have mD:D∈[L,D]:=Mz _ MA;have fr4:aW N (del [L,D] H4) (hs.map Fr.leaf++flS ss) xs:=aW.same (λa o e=>aK (HM a o e) (t4 a o e)) fr;have bl:(bgV hs ss).length=ss.length+1:=by unfold bgV;rw[Mq,Nv]
 clear hB3 hB2 s3 eB hB e1c e2c sc s34 eb;try dsimp only
 refine ag λM1 K1=>lnl eB3 {_,rfl,(),(),?_};rw[show((((bgV hs ss).length:Nat):Int)-1).toNat=ss.length by rw[bl];lia];refine jU (Aj L c D B3 H4 ss N hs) {ss,xs,[],Vo,Vo,Vo,Vo,rfl,Sm.refl _ _,L4,pK (λs=>⟨rfl,eE s.2⟩) ss,fr4,D4,Ms _,λi hi=>by cases hi} ?_ ?_
 ·clear K1;rintro k σ Hc hk ⟨ss',xs',kvs,v4,v5,v6,v7,rfl,sc,hLc,sim,frc,hDc,kl,kv⟩;have ej:(0:Int)+(k:Int)=(k:Int):=()
  rw[ej];have l':=Pd sim;obtain⟨s',hs'⟩:∃s',ss'[k]?=Vn s':={_,Mv ()};obtain⟨s0,hs0,se0⟩:=b5 sim hs';obtain⟨h,b⟩:=s';obtain⟨SA,SC,eS,lA⟩:∃SA SC,ss'=SA++(h,b)::SC/\SA.length=k:={ss'.take k,ss'.drop (k+1),vw hs',by rw[MT];lia};have tk:ss'.take k=SA:=by rw[eS,<-lA,US];rfl
  have tk1:ss'.take (k+1)=SA++[(h,b)]:=by
   rw[eS,UE,Nc (),lA,show k+1-k=1 by lia];rfl
  have lenA:=ng.len (pO sim k);have lenA1:=ng.len (pO sim (k+1));have idA:=ng.idx (pO sim k);rw[tk]at lenA kv idA;rw[tk1,Av,Mo]at lenA1;have ls1:(flS [(h,b)]).length=(aA b).length+2:=by
   show(rh (h,b)++[]).length=_;simp[rh]
  rw[ls1]at lenA1;obtain⟨bo1,bo2⟩:=O.bo k s0 hs0;rw[<-idA]at bo2;have dpb:cy b<=6:=by rw[(jK (ps:=[]) (dd:=[]) _ _ se0.2).2.1];exact bo1
  have ckb:cTs (kC SA) b:=ku _ _ se0.2 bo2;have dmh:dmF h=true:=by
   have e:s0.1=h:=se0.1;rw[<-e];exact O.hd s0 (ML hs0)
  have lt':(flS ss').length=(flS ss).length:=ng.len sim;rw[eS,zF]at frc;have PL:=FP (hs:=hs) (a:=SA) (h:=h);have lxc:=Pd frc;have lxt:(hs.map Fr.leaf++flS SA++[h]).length+((aA b).length+1+(flS SC).length)<=300:=by
   have e9:(hs.map Fr.leaf++flS ss').length=(hs.map Fr.leaf++flS ss).length:=by rw[Mo,Mo,lt']
   rw[eS,zF]at e9;simp only[Mo,Mx,Mq]at e9 lf⊢;lia
  have hBc:=SqL.of (K:=K) (sc _ _ BM eB3);have a0:=Dc (hs:=hs) (ss:=ss) (k:=k) ();have a1:=Dc (hs:=hs) (ss:=ss) (k:=k+1) ();rw[<-lenA]at a0;rw[<-lenA1]at a1;have ax1:=iZ a1;rw[show(((k+1:Nat)):Int)=(k:Int)+1 by lia]at ax1;generalize hPR:hs.map Fr.leaf++flS SA++[h]=PR at frc PL lxc lxt;generalize hpA:hs.length+(flS SA).length=pA at a0 PL;rw[<-NU,hpA]at ax1;try dsimp only
  refine ag λN1 J1=>?_;obtain⟨r1,r2,r3⟩:=yN (i:=((pA+((aA b).length+2):Nat):Int)-1) (j:=(pA:Int)) () () ();refine lix hBc ax1 (lxn hBc a0 {_,rfl,_,_,_,rfl,r1,∅,∅,∅,r2,?_});rw[show mn (((pA+((aA b).length+2):Nat):Int)-1) (pA:Int) (-1)=(aA b).length+1 by rw[r3];lia];refine zy (Bd L c D B3 k v6 v7 H4 kvs b N PR SC) ⟨b,xs',v5,rfl,sc,hLc,hDc,eE b,frc⟩ ?_ ?_
  ·clear J1;rintro i σ Hd hi ⟨b',xs'',u5,rfl,sd,hLd,hDd,sb,frd⟩;obtain⟨_,dpb',lb'⟩:=jK (ps:=[]) (dd:=[]) _ _ sb;have ckb':=ku _ _ sb ckb;have ea:((pA+((aA b).length+2):Nat):Int)-1+(i:Int)* -1=((PR.length+((aA b).length-i):Nat):Int):=()
   rw[ea];generalize hj:(aA b).length-i=j;have jl:j<=(aA b').length:=()
   obtain⟨f,hf⟩:∃f,(aA b'++ .fin::flS SC)[j]?=Vn f:={_,Mv (by rw[Mo,Mx];lia)};have lxd:=Pd frd;rw[Mo,Mo,Mx]at lxd;have hM:∀m∈[L,D],Hd m≠Vo:=λm hm=>by
    simp only[Mw,MQ,or_false]at hm;rcases hm with rfl|rfl
    ·rw[hLd];simp
    rw[hDd];simp
   try dsimp only
   refine{c,_,rfl,(),(),λm m0 m1=>{by show(0:Int)<4;decide,by show(0:Int)<5;decide,_,rfl,a9 (λ_=>?_) (λ_=>{b',xs'',_,rfl,sd,hLd,hDd,sb,frd})}};have efs:PR++(aA b'++ .fin::flS SC)=(PR++(aA b'++ .fin::flS SC).take j)++f::(aA b'++ .fin::flS SC).drop (j+1):=by
    rw[MB,<-vw hf]
   have lp:(PR++(aA b'++ .fin::flS SC).take j).length=PR.length+j:=by
    rw[Mo,MT,Nat.min_eq_left (by rw[Mo];lia)]
   refine{N,[L,D],L,xs'',_,_,_,f,D,kC SA,knS SA,by rw[lp];rfl,hLd,frd,efs,C7 jl hf (by rw[dpb'];exact dpb) ckb',⟨kvs,hDd,kv⟩,(),hM,λv f' He se ei fve=>MG (stL.mk xs'' (PR.length+j) (se _ _ hLd) (Fq ()) ?_)};obtain⟨b3,e3,sb3⟩:=GC jl hf ei;have sU:ai (del [L,D] He) (del [L,D] (upd He L (.lst (xs''.set (PR.length+j) v)))):=λa o e=>by
    obtain⟨n1,n2⟩:=cw e;exact aK n1 (aw (λz=>n1 (z▸mL)) n2)
   have sE:ai (del [L,D] Hd) (del [L,D] He):=λa o e=>by
    obtain⟨n1,n2⟩:=cw e;exact aK n1 (se _ _ n2)
   refine{b3,xs''.set (PR.length+j) v,_,rfl,(sd.trans (Sm.new se)).trans (Sm.at mL _),ao,aw DL (se _ _ hDd),eI _ _ _ sb sb3,?_};generalize upd He L (.lst (xs''.set (PR.length+j) v))=HU at sU⊢;have h9:aW N (del [L,D] HU) ((PR++(aA b'++ .fin::flS SC)).set (PR.length+j) f') (xs''.set (PR.length+j) v):=uV (F:=λf u=>kF N (del [L,D] HU) u f) (fve.same sU) (aW.same (sE.trans sU) frd);rw[OC _ _ (),show PR.length+j-PR.length=j by lia,e3]at h9;exact h9
  rintro σ Hd ⟨b',xs'',u5,rfl,sd,hLd,hDd,sb,frd⟩;refine J1 _ _ ?_;clear J1 N1;obtain⟨_,dpb',lb'⟩:=jK (ps:=[]) (dd:=[]) _ _ sb;have ckb':=ku _ _ sb ckb;have lxd:=Pd frd;rw[Mo,Mo,Mx]at lxd;have frH:=aW.same cG frd;have hBd:=SqL.of (K:=K) (sd _ _ BM eB3);try dsimp only
  refine ag λN1 J1=>lxn hBd a0 {N,Hd,L,xs'',_,PR,flS SC,b',.fin,D,kC SA,knS SA,by rw[PL];push_cast;rfl,ai.refl _,hLd,frH,(MB ..).symm,rfl,by rw[dpb'];exact dpb,ckb',⟨kvs,hDd,kv⟩,(),λp1 H5 s5 ep1=>{p1,_,rfl,SqT.of ep1,rfl,_,_,rfl,_,_,rfl,rfl,?_}};have sd5:=sd.trans (Sm.new (M:=[L,D]) s5);have hL5:=s5 _ _ hLd;have hD5:=s5 _ _ hDd;have fr5:aW N (del [L,D] H5) (PR++(aA b'++ .fin::flS SC)) xs'':=aW.same (λa o e=>by
   obtain⟨n1,n2⟩:=cw e;exact aK n1 (s5 _ _ n2)) frd
  have eP:PR++(aA b'++ .fin::flS SC)=(hs.map Fr.leaf++flS SA)++h::(aA b'++ .fin::flS SC):=by
   rw[<-hPR];simp
  obtain⟨vh,avh,⟨ah,ph,rfl,hah,_⟩⟩:=hV fr5 eP;rw[Mo,Mq,hpA]at avh;have hah:=(cw hah).2;have hB5:=s5.seq hBd;have hLS:=SqL.of (K:=K) hL5;have sim2:ng ss (SA++(h,b')::SC):=by
   rw[eS]at sim;exact xY (λx hx=>{hx.1,eI _ _ _ hx.2 sb}) sim
  have tk2:(SA++(h,b')::SC).take (k+1)=SA++[(h,b')]:=by
   rw[UE,Nc (),lA,show k+1-k=1 by lia];rfl
  have fr6:∀{H6:Hp},ai (del [L,D] H5) (del [L,D] H6)->aW N (del [L,D] H6) (hs.map Fr.leaf++flS (SA++(h,b')::SC)) xs'':=λs6=>by
   rw[zF,hPR];exact aW.same s6 fr5
  have ixh:∀j∈kC SA++hIx h,j<24:=λj hj=>by
   refine O.ix j ?_;have:=ng.idx sim2;rw[<-this];show j∈kC (SA++(h,b')::SC);unfold kC at hj⊢;rw[Nx];rcases Mu.mp hj with m|m
   ·exact MK _ m
   exact MD _ (MK _ m)
  have idn:kC (SA++[(h,b')])=kC SA++hIx h:=by
   unfold kC;rw[Nx,List.flatMap_singleton]
  refine J1 _ _ ?_;clear J1 N1;try dsimp only
  cases h with
  |bj i ps=>
   refine lxn hB5 a0 (lix hLS avh (tix (j:=0) (SqT.of hah) rfl {rfl,_,rfl,a9 (λ_=>?_) (λz=>absurd (show decide (V.str "deed"=V.str "deed")=true from decide_eq_true rfl) z)}));refine lxn hB5 a0 (lix hLS avh (tix (j:=1) (SqT.of hah) rfl {_,oX.k (k:=.inr (N i)) hD5 (aG ()),?_}));have sU:ai (del [L,D] H5) (del [L,D] (upd H5 D (.dK (Vv kvs (.inr (N i)) (oI (fU (knS SA) b')))))):=λa o e=>by
    obtain⟨n1,n2⟩:=cw e;exact aK n1 (aw (λz=>n1 (z▸mD)) n2)
   refine{SA++(.bj i ps,b')::SC,xs'',_,_,_,_,_,rfl,sd5.trans (Sm.at mD _),aw (MR DL) hL5,sim2,fr6 sU,ao,ME (wZ _ _ _) (),λj hj=>?_};rw[tk2,idn]at hj;rw[tk2,x8,yr];show(if(MY (N j):Key)=.inr (N i)then Vn (oI (fU (knS SA) b'))else L2.cb kvs (.inr (N j)))=Vn (oI (if j=i then fU (knS SA) b' else knS SA j));by_cases e:j=i
   ·rw[if_pos (by rw[e]),if_pos e]
   rw[if_neg e,if_neg λz=>e (nm.inj j i (ixh j hj) (ixh i (MD _ MA)) (MY.inj z))];rcases Mu.mp hj with m|m
   ·exact kv j m
   exact absurd (Mp.mp m) e
  |main=>
   refine lxn hB5 a0 (lix hLS avh (tix (j:=0) (SqT.of hah) rfl {rfl,_,rfl,a9 (λz=>absurd z (show ¬ decide (V.str "main"=V.str "deed")=true by decide)) (λ_=>{SA++(.main,b')::SC,xs'',kvs,_,_,_,_,rfl,sd5,hL5,sim2,fr6 (ai.refl _),hD5,(),λj hj=>?_})}));rw[tk2,idn]at hj;rw[tk2,x8];rcases Mu.mp hj with m|m
   ·exact kv j m
   cases m
  |_=>cases dmh
 rintro σ Hc ⟨ss',xs',kvs,v4,v5,v6,v7,rfl,sc,hLc,sim,frc,hDc,kl,kv⟩;refine K1 _ _ ?_;have l':=Pd sim;rw[Nc ()]at kv;refine{by show 2<=sizeLine;decide,λp hp=>?_};have s9:=ai.upd hp (HO.tup [V.ref L,V.ref D]);have tH:ai H Hc:=λa o e=>sc a o (HM a o e) (t4 a o e);exact q p L D xs' ss' _ (tH.trans s9) ao (s9 _ _ hLc) sim (aW.same (cG.trans s9) frc) {kvs,s9 _ _ hDc,kv}
end
section
variable{P:Program}{w:Pf}{K:Pa}{mg:Str->Option E9}{base:PH}{A:Adr}{N:Nat->Str}
theorem GK{fs:List (Option Str)}{into kd:Str}{n:Int}{l:Lk}:l∈drw fs into kd n↔∃x,Vn x∈fs/\x≠into/\l=⟨x,into,kd,n⟩:=by
 unfold drw;rw[MH];constructor
 ·rintro⟨f,hf,rfl⟩;obtain⟨h1,h2⟩:=Nh.mp hf;cases f with
  |none=>cases h2
  |some x=>exact{x,h1,(λe=>(by rw[show drP into (Vn x)=!decide (x=into)from rfl,decide_eq_true e]at h2;cases h2)),rfl}
 rintro⟨x,h1,h2,rfl⟩;exact{Vn x,Nh.mpr {h1,by show(!decide (x=into))=true;rw[decide_eq_false h2];rfl},rfl}
theorem CG{x:Str}:∀(ts:List Th)(acc:List Str),x∈ts.foldl (rdS N) acc↔x∈acc\/∃a,Th.x a∈ts/\N a=x
 | [],acc=>by
  show x∈acc↔_;simp
 |t::ts,acc=>by
  rw[Ny,CG ts];cases t with
  |i n=>
   show x∈acc\/_↔_;constructor
   ·rintro(h|⟨a,h,e⟩)
    ·exact .inl h
    exact .inr {a,Mz _ h,e}
   rintro(h|⟨a,h,e⟩)
   ·exact .inl h
   rcases Mw.mp h with h|h
   ·cases h
   exact .inr ⟨a,h,e⟩
  |x b=>
   have m:x∈rdS N acc (.x b)↔x∈acc\/N b=x:=by
    show x∈(if N b∈acc then acc else acc++[N b])↔_;split
    ·next h=>exact{.inl,λz=>z.elim id λe=>e▸h}
    rw[Mu,Mp];exact or_congr_right eq_comm
   rw[m];constructor
   ·rintro((h|h)|⟨a,h,e⟩)
    ·exact .inl h
    ·exact .inr ⟨b,MA,h⟩
    exact .inr {a,Mz _ h,e}
   rintro(h|⟨a,h,e⟩)
   ·exact .inl (.inl h)
   rcases Mw.mp h with h|h
   ·cases h;exact .inl (.inr e)
   exact .inr ⟨a,h,e⟩
theorem FV{ts:List Th}{x:Str}:x∈rds N ts↔∃a,Th.x a∈ts/\N a=x:=by
 unfold rds;rw[CG];simp
def GdP(PN:List Str)(o:Option Str):Prop:=∀y,o=Vn y->y∈PN
def GdE(PN:List Str)(e:Le):Prop:=GdP PN e.2.1/\GdP PN e.2.2
theorem rS{PN:List Str}{x:Str}(h:x∈PN):GdP PN (Vn x):=λy e=>by cases e;exact h
theorem rY{PN:List Str}:GdP PN Vo:=λy e=>by cases e
mutual
theorem KI{PN:List Str}:∀(t:Pt)(lp:Option Str),GdP PN lp->(oK t=true->aX t.no∈PN)->(∀e∈dj lp t,oK e.1=true->aX e.1.no∈PN)->∀e∈dj lp t,GdE PN e
 | .leaf _ _,lp,hl,h0,h,e,he=>by
  rw[dj]at he;cases he
 | .bj _ _ _ _,lp,hl,h0,h,e,he=>by
  rw[dj]at he;cases he
 | .iff n v l r f o,lp,hl,h0,h,e,he=>by
  rw[dj]at he h;have r0:GdP PN (Vn (aX n)):=rS (h0 rfl);rcases Mu.mp he with he|he
  ·exact pY f _ lp r0 hl (λx hx=>h x (MK _ hx)) e he
  exact pY o _ lp r0 hl (λx hx=>h x (MD _ hx)) e he
 | .loop n t m l r b,lp,hl,h0,h,e,he=>by
  rw[dj]at he h;have r0:GdP PN (Vn (aX n)):=rS (h0 rfl);exact pY b _ _ r0 r0 h e he
theorem pY{PN:List Str}:∀(ts:List Pt)(pl lp:Option Str),GdP PN pl->GdP PN lp->(∀e∈bC pl lp ts,oK e.1=true->aX e.1.no∈PN)->∀e∈bC pl lp ts,GdE PN e
 | [],pl,lp,hp,hl,h,e,he=>by
  rw[bC]at he;cases he
 |t::ts,pl,lp,hp,hl,h,e,he=>by
  rw[bC]at he h;rcases Mw.mp he with rfl|he
  ·exact⟨hp,hl⟩
  rcases Mu.mp he with he|he
  ·exact KI t lp hl (h (t,pl,lp) MA) (λx hx=>h x (Mz _ (MK _ hx))) e he
  exact pY ts pl lp hp hl (λx hx=>h x (Mz _ (MD _ hx))) e he
end
structure LL(N:Nat->Str)(PN:List Str)(ds:List De):Prop where
 s7:∀x∈S7++[5,6],N x∈PN
 dn:∀d∈ds,N d.1∈PN
 dp:∀d∈ds,∀x∈d.2.1,N x∈PN
 ck:("the clock":Str)∈PN
theorem Ko{hs:List Lr}{ds:List De}{mb:List Tr}(O:eJ hs ds mb):∀x∈S7++[5,6],x∈ixA hs ds:=by
 obtain⟨rk,z,t,e1,_⟩:=O.hd;intro x hx;unfold ixA;refine MK _ ?_;have pm:(hs.flatMap ixH).Perm [1,2,3,4,5,6,7,19,20]:=by
  rw[e1];unfold rF;have:(pG rk z).flatMap ixH=[1,2,3,4,5,6,7,19,20]:=rfl;rw[<-this];refine SE _ (Np.trans ?_);rw[MO]
 rw[pm.mem_iff];revert x
 decide
theorem Cf{hs:List Lr}{ds:List De}{mb:List Tr}(O:eJ hs ds mb):LL N (aU N (hdP 1 hs) (deP ((hs.length:Nat)+1) ds) (bp (msN hs ds) mb)) ds:=by
 rw[mV];have nmi:∀x∈ixA hs ds,N x∈(ixA hs ds).map N++eN (bX N (deP ((hs.length:Nat)+1) ds) (bp (msN hs ds) mb))++[("the clock":Str)]:=λx hx=>MK _ (MK _ (Nw hx));refine{λx hx=>nmi x (Ko O x hx),λd hd=>nmi _ ?_,λd hd x hx=>nmi _ ?_,MD _ MA}
 ·unfold ixA;exact MD _ (Nl.mpr ⟨d,hd,MA⟩)
 unfold ixA;exact MD _ (Nl.mpr {d,hd,Mz _ hx})
theorem Dk{hs ds ms:List Pt}{e:Le}(m:e∈bX N ds ms)(h:oK e.1=true):aX e.1.no∈aU N hs ds ms:=by
 unfold aU;refine MK _ (MD _ ?_);unfold eN;exact MH.mpr {e,Nh.mpr ⟨m,h⟩,rfl}
theorem Ji{hs:List Lr}{ds:List De}{mb:List Tr}(O:eJ hs ds mb):∀e∈bX N (deP ((hs.length:Nat)+1) ds) (bp (msN hs ds) mb),GdE (aU N (hdP 1 hs) (deP ((hs.length:Nat)+1) ds) (bp (msN hs ds) mb)) e:=by
 have I:=Cf (N:=N) O;have R:∀e∈bX N (deP ((hs.length:Nat)+1) ds) (bp (msN hs ds) mb),oK e.1=true->aX e.1.no∈aU N (hdP 1 hs) (deP ((hs.length:Nat)+1) ds) (bp (msN hs ds) mb):=λe he h=>Dk he h;generalize aU N (hdP 1 hs) (deP ((hs.length:Nat)+1) ds) (bp (msN hs ds) mb)=PN at I R;intro e he;unfold bX at he R;rcases Mu.mp he with he|he
 ·unfold ft at he R;obtain⟨p,mp,he⟩:=Nl.mp he;have R2:∀x∈bC (Vn (dNm N p)) Vo (nv p),oK x.1=true->aX x.1.no∈PN:=λx hx=>R x (MK _ (Nl.mpr ⟨p,mp,hx⟩));obtain⟨k,hk⟩:=MS mp;obtain⟨d,n',h1,h2,h3,rfl⟩:=dO hk;exact pY _ _ _ (rS (I.dn d (ML h1))) rY R2 e he
 exact pY _ _ _ rY rY (λx hx=>R x (MD _ hx)) e he
theorem FQ{hs:List Lr}{ds:List De}{mb:List Tr}(O:eJ hs ds mb):∀e∈bX N (deP ((hs.length:Nat)+1) ds) (bp (msN hs ds) mb),∃ps dd k,FO ps dd k e.1/\(∀x∈ps,∃d∈ds,x∈d.2.1)/\∀x∈dd,∃d∈ds,x=(d.1,d.2.1.length):=by
 intro e he;unfold bX at he;rcases Mu.mp he with he|he
 ·unfold ft at he;obtain⟨p,mp,he⟩:=Nl.mp he;obtain⟨k,hk⟩:=MS mp;obtain⟨d,n',h1,h2,h3,rfl⟩:=dO hk;obtain⟨_,_,ok,dpd,_⟩:=O.de.at' k d h1;refine{_,_,_,l8 d.2.2 false _ _ _ ok e he,λx hx=>⟨d,ML h1,hx⟩,λx hx=>?_};obtain⟨d',m',rfl⟩:=MH.mp hx;exact⟨d',Nu m',rfl⟩
 refine{_,_,_,l8 mb false _ _ _ O.mo e he,(λx hx=>by cases hx),λx hx=>?_};obtain⟨d',m',rfl⟩:=MH.mp hx;exact⟨d',m',rfl⟩
theorem FI(nm:jz N){hs:List Lr}{ds:List De}{mb:List Tr}(O:eJ hs ds mb)(b:Bool):∀l∈dq N b (deP ((hs.length:Nat)+1) ds) (bp (msN hs ds) mb),l.fr∈aU N (hdP 1 hs) (deP ((hs.length:Nat)+1) ds) (bp (msN hs ds) mb)/\l.to∈aU N (hdP 1 hs) (deP ((hs.length:Nat)+1) ds) (bp (msN hs ds) mb):=by
 have I:=Cf (N:=N) O;have G:=Ji (N:=N) O;have S:=FQ (N:=N) O;have L:=λe he=>(tu nm O e he).2.1;have R:∀e∈bX N (deP ((hs.length:Nat)+1) ds) (bp (msN hs ds) mb),oK e.1=true->aX e.1.no∈aU N (hdP 1 hs) (deP ((hs.length:Nat)+1) ds) (bp (msN hs ds) mb):=λe he h=>Dk he h;have PO:∀d∈ds,poM N (deP ((hs.length:Nat)+1) ds) (N d.1)=d.2.1.map N:=λd m=>D8 nm O m _;generalize aU N (hdP 1 hs) (deP ((hs.length:Nat)+1) ds) (bp (msN hs ds) mb)=PN at I G R⊢;intro l hl;unfold dq at hl;obtain⟨e,he,hl⟩:=Nl.mp hl;have ge:=G e he;have re:=R e he;have le:=L e he;obtain⟨ps,dd,k,⟨t,n,bb,et,ok,_⟩,hps,hdd⟩:=S e he;have nin:∀x∈S7++ps,N x∈PN:=λx hx=>by
  rcases Mu.mp hx with h|h
  ·exact I.s7 x (MK _ h)
  obtain⟨d,md,mx⟩:=hps x h;exact I.dp d md x mx
 have thn:∀{ts:List Th},(∀t∈ts,oF ps t)->∀y∈rds N ts,y∈PN:=λh y hy=>by
  obtain⟨a,ma,rfl⟩:=FV.mp hy;exact nin a (h _ ma a rfl)
 have dr:∀{fs:List (Option Str)}{into kd:Str}{n:Int},(∀y,Vn y∈fs->y∈PN)->into∈PN->l∈drw fs into kd n->l.fr∈PN/\l.to∈PN:=λh1 h2 h=>by
  obtain⟨x,mx,_,rfl⟩:=GK.mp h;exact⟨h1 x mx,h2⟩
 have dpl:∀{into kd:Str}{n:Int},into∈PN->l∈drw [e.2.1] into kd n->l.fr∈PN/\l.to∈PN:=λh2 h=>dr (λy my=>ge.1 y (Mp.mp my).symm) h2 h;have dI:∀{ts:List Th}{into kd:Str}{n:Int},(∀t∈ts,oF ps t)->into∈PN->l∈drw ((rds N ts).map Vn) into kd n->l.fr∈PN/\l.to∈PN:=λh1 h2 h=>dr (λy my=>by
  obtain⟨z,mz,e⟩:=MH.mp my;cases e;exact thn h1 y mz) h2 h
 obtain⟨p,pl,lp⟩:=e;unfold um at hl;have et:p=ptT n t:=et;subst et;rcases Mu.mp hl with hl|hl
 ·cases t with
  |leaf r=>
   rw[okT]at ok;rw[ptT]at hl le re;cases r with
   |set x v=>
    rcases Mu.mp (show l∈drw ((rds N (vTh v)).map Vn) (N x) "value" n++drw [pl] (N x) "under" n from hl)with h|h
    ·exact dI ok.2 (nin x ok.1) h
    exact dpl (nin x ok.1) h
   |put x p v=>
    rcases Mu.mp (show l∈drw ((rds N (p::vTh v)).map Vn) (N x) "value" n++drw [pl] (N x) "under" n from hl)with h|h
    ·exact dI (λt ht=>by
      rcases Mw.mp ht with rfl|ht
      ·exact ok.2.1
      exact ok.2.2 t ht) (nin x ok.1) h
    exact dpl (nin x ok.1) h
   |snd x v=>
    have rr:aX n∈PN:=re rfl;rcases Mu.mp (show l∈drw ((rds N (vTh v)).map Vn) (aX n) "value" n++drw [pl] (aX n) "under" n from hl)with h|h
    ·exact dI ok.2 rr h
    exact dpl rr h
   |say x v m=>
    have rr:aX n∈PN:=re rfl;have mm:N m∈PN:=I.s7 m (by rcases ok.2.2 with rfl|rfl<;>decide);rcases Mu.mp (show l∈(drw [Vn (N m)] (N x) "value" n++drw [pl] (N x) "under" n)++drw [pl] (aX n) "under" n from hl)with h|h
    ·rcases Mu.mp h with h|h
     ·exact dr (λy my=>by cases Mp.mp my;exact mm) (nin x ok.1) h
     exact dpl (nin x ok.1) h
    exact dpl rr h
   |call i us=>
    obtain⟨d,md,ed⟩:=hdd _ ok.1;obtain⟨e1,e2⟩:=Sd ed;subst e1;have hl:l∈clA N n (us.zip (poM N (deP ((hs.length:Nat)+1) ds) (N d.1)))++clB pl n (poM N (deP ((hs.length:Nat)+1) ds) (N d.1)++[N d.1]):=hl;rw[PO d md]at hl;have pin:∀y∈d.2.1.map N,y∈PN:=λy hy=>by
     obtain⟨a,ma,rfl⟩:=MH.mp hy;exact I.dp d md a ma
    rcases Mu.mp hl with h|h
    ·unfold clA at h;obtain⟨tp,mt,h⟩:=Nl.mp h;obtain⟨t1,t2⟩:=tp;have m1:=(NH mt).1;have m2:=(NH mt).2;cases t1 with
     |i _=>cases h
     |x a=>exact dr (λy my=>by cases Mp.mp my;exact nin a (ok.2 _ m1 a rfl)) (pin _ m2) h
    unfold clB at h;obtain⟨into,mi,h⟩:=Nl.mp h;refine dpl ?_ h;rcases Mu.mp mi with mi|mi
    ·exact pin _ mi
    rw[Mp.mp mi];exact I.dn d md
   |last=>
    have hs':lp.isSome=true:=le rfl;obtain⟨y,hy⟩:=NI.mp hs';have hl:l∈drw [pl] (lp.getD Pq) "under" n:=hl;rw[hy]at hl;exact dpl (ge.2 y hy) hl
   |_=>exact ok.elim
  |iff v l r f o=>
   rw[okT]at ok;rw[ptT]at hl re;have rr:aX n∈PN:=re rfl;rcases Mu.mp hl with h|h
   ·exact dI (ts:=vTh v) ok.1 rr h
   exact dpl rr h
  |loop th m l r bd=>
   rw[okT]at ok;rw[ptT]at hl re;have rr:aX n∈PN:=re rfl;rcases Mu.mp hl with h|h
   ·exact dI (ts:=[th]) (λt ht=>by rw[Mp.mp ht];exact ok.1) rr h
   exact dpl rr h
 unfold ud at hl;split at hl
 ·unfold uc at hl;split at hl
  ·next z=>
   rw[Mp.mp hl];refine{I.ck,re ?_};unfold oK;unfold zA at z;rw[z];simp
  split at hl
  ·next z=>
   rw[Mp.mp hl];refine{re ?_,I.ck};have z:=z.1;unfold oK;unfold xt at z;rw[<-Bool.or_assoc,z];rfl
  cases hl
 cases hl
end
section
variable{N:Nat->Str}
theorem wA:∀(l:List Lk)(cs:List Str),∃r,l.foldl stA cs=cs++r
 | [],cs=>{[],by simp}
 |k::l,cs=>by
  obtain⟨r,e⟩:=wA l (stA cs k);rw[Ny,e];unfold stA;split
  ·exact⟨r,rfl⟩
  exact{k.to::r,by simp}
theorem G7:∀(l:List Lk)(cs:List Str)(k:Lk),k∈l->k.to∈l.foldl stA cs
 |j::l,cs,k,m=>by
  rw[Ny];rcases Mw.mp m with e|m
  ·subst e;obtain⟨r,e⟩:=wA l (stA cs k);rw[e];refine MK _ ?_;unfold stA;split
   ·next h=>exact h
   simp
  exact G7 l _ k m
theorem ED:∀(l:List Lk)(cs:List Str),cs.Nodup->(l.foldl stA cs).Nodup
 | [],cs,h=>h
 |k::l,cs,h=>by
  rw[Ny];refine ED l _ ?_;unfold stA;split
  ·exact h
  next n=>exact NK.mpr {h,by simp,λa ma b mb e=>by rw[Mp]at mb;exact n (mb▸e▸ma)}
theorem Eg{ls:List Lk}{pls:List Str}(to:∀l∈ls,l.to∈pls):∀(l:List Lk),(∀k∈l,k∈ls)->∀cs:List Str,(∀x∈cs,x∈pls)->∀x∈l.foldl stA cs,x∈pls
 | [],_,cs,h=>h
 |k::l,hl,cs,h=>by
  rw[Ny];refine Eg to l (λk' m=>hl k' (Mz _ m)) _ λx hx=>?_;unfold stA at hx;split at hx
  ·exact h x hx
  rcases Mu.mp hx with m|m
  ·exact h x m
  rw[Mp.mp m];exact to k (hl k MA)
theorem yq{ls:List Lk}:∀(n i:Nat)(cs:List Str),∀x∈cs,x∈fT ls n i cs
 |0,_,_,x,h=>h
 |n+1,i,cs,x,h=>by
  unfold fT;split
  ·exact h
  next y _=>
  obtain⟨r,e⟩:=wA (iM ls y) cs;refine yq n (i+1) _ x ?_;rw[e];exact MK _ h
theorem rV{ls:List Lk}{pls:List Str}(to:∀l∈ls,l.to∈pls):∀(n i:Nat)(cs:List Str),cs.Nodup->(∀x∈cs,x∈pls)->pls.length<=n+i->(∀(j:Nat) x,j<i->cs[j]?=Vn x->∀l∈ls,l.fr=x->l.to∈cs)->∀l∈ls,l.fr∈fT ls n i cs->l.to∈fT ls n i cs
 |0,i,cs,nd,sb,le,h,l,ml,m=>by
  obtain⟨j,hj⟩:=MS m;have jl:=(MC.mp hj).1;have:=gR nd sb;exact h j _ (by have:fT ls 0 i cs=cs:=rfl;rw[this]at jl;lia) hj l ml rfl
 |n+1,i,cs,nd,sb,le,h,l,ml,m=>by
  unfold fT at m⊢;split at m
  ·next hn=>
   obtain⟨j,hj⟩:=MS m;have jl:=(MC.mp hj).1;have:=Og.mp hn;exact h j _ () hj l ml rfl
  next y hy=>
  obtain⟨r,er⟩:=wA (iM ls y) cs;have il:=(MC.mp hy).1;refine rV to n (i+1) ((iM ls y).foldl stA cs) (ED _ _ nd) (Eg to (iM ls y) (λk hk=>(Nh.mp hk).1) _ sb) () (λj x hj hx k mk ek=>?_) l ml m;by_cases ji:j<i
  ·rw[er,MW ()]at hx;rw[er];exact MK _ (h j x ji hx k mk ek)
  have:j=i:=()
  subst this;rw[er,MW il,hy]at hx;cases hx;exact G7 _ _ k (Nh.mpr ⟨mk,decide_eq_true ek⟩)
inductive Rch(ls:List Lk)(S:List Str):Str->Prop
 |base {x:Str} (h:x∈S):Rch ls S x
 |step {l:Lk} (h:l∈ls) (r:Rch ls S l.fr):Rch ls S l.to
theorem EH{ls:List Lk}{S:List Str}:∀(l:List Lk),(∀k∈l,k∈ls/\Rch ls S k.fr)->∀cs:List Str,(∀x∈cs,Rch ls S x)->∀x∈l.foldl stA cs,Rch ls S x
 | [],_,cs,h=>h
 |k::l,hk,cs,h=>by
  rw[Ny];refine EH l (λj hj=>hk j (Mz _ hj)) _ λx hx=>?_;unfold stA at hx;split at hx
  ·exact h x hx
  rcases Mu.mp hx with hx|hx
  ·exact h x hx
  rw[Mp.mp hx];exact .step (hk k MA).1 (hk k MA).2
theorem Bh{ls:List Lk}{S:List Str}:∀(n i:Nat)(cs:List Str),(∀x∈cs,Rch ls S x)->∀x∈fT ls n i cs,Rch ls S x
 |0,_,_,h=>h
 |n+1,i,cs,h=>by
  unfold fT;cases e:cs[i]? with
  |none=>exact h
  |some y=>
   refine Bh n (i+1) _ (EH _ (λk hk=>?_) cs h);obtain⟨h1,h2⟩:=Nh.mp hk;refine{h1,?_};rw[of_decide_eq_true h2];exact h y (ML e)
theorem zL{ls:List Lk}:∀(n i:Nat)(cs:List Str),cs.Nodup->(fT ls n i cs).Nodup
 |0,_,_,h=>h
 |n+1,i,cs,h=>by
  unfold fT;cases e:cs[i]? with
  |none=>exact h
  |some y=>exact zL n (i+1) _ (ED _ _ h)
theorem Ak{ls:List Lk}{pls S:List Str}(to:∀l∈ls,l.to∈pls)(nd:S.Nodup)(sb:∀x∈S,x∈pls)(x:Str):x∈fT ls pls.length 0 S↔Rch ls S x:=by
 refine{Bh _ _ _ (λy hy=>.base hy) x,λh=>?_};induction h with
 |base h=>exact yq _ _ _ _ h
 |step h _ ih=>exact rV to _ _ _ nd sb () (λj y hj=>()) _ h ih
end
section
variable{P:Program}{w:Pf}{K:Pa}{mg:Str->Option E9}{base:PH}{A:Adr}{N:Nat->Str}
seal PE PA PS PSs PT PW
inductive oj(A:Adr)(vs:List V)(H:Hp)(Q:VK)(Z:XK):Prop
 |mk(N:Nat->Str)(X:Hp)(v:V)(x:Str)(b:Bool)(hs ds ms:List Pt)(z0:vs=[v,.str x,.bl b])(z1:ai X H)(z2:wX A N X v hs ds ms)(z3:OkL N 6 hs ds ms)(z4:∀l∈dq N b ds ms,l.fr∈aU N hs ds ms/\l.to∈aU N hs ds ms)(z5:x∈aU N hs ds ms)
  (z8:∀(R:O4)(ss:List Str)(H':Hp),ai H H'->H R=Vo->H' R=Vn (.lst (sS ss))->ss.Perm (fT (dq N b ds ms) (aU N hs ds ms).length 0 [x])->Qp ss=true->Q (.ref R) H'):oj A vs H Q Z
theorem qd(T:Txt K mg A):T.vA.Hz P w base 29 (oj A):=by
 refine T.vA.hs (k:=28) zd (λf cdv A' outer s H vs Q E' hr hu h=>?_);obtain⟨N,X,v,x,b,hs,ds,ms,rfl,s0,pg,O,en,xp,q⟩:=h;refine{_,(aj (aC (pcB uO T.mK ((ak (hj:=by lia) (J9 T) hr ((ak (hj:=by lia) (HY T 6) hr (fv 0^fv 2^ae))^aN (fv 1^ae)^ae))^ae)))),{N,X,v,b,hs,ds,ms,rfl,s0,pg,O,λl hl=>(en l hl).1,λW kw wa H1 s1 hW=>{by show 1<=sizeLine;decide,λS hS=>?_}}};have s2:=ai.upd hS (HO.lst [V.str x]);refine{W,S,kw,_,wa,_,[x],rfl,hW.same s2,ao,by simp,(λy hy=>by rw[Mp.mp hy];exact xp),λl hl=>(en l hl).2,O.ok.pl,λC kc H2 s3 hC eC kk=>{C,kc,_,rfl,.inl eC,kk,λl ss' pm so hl=>?_}};have t3:=(s1.trans s2).trans s3;exact q l ss' _ (t3.trans (ai.upd hl _)) (ai.free t3 hl) ao pm so
theorem JC{x:Str}:bu [] [((MY x:Key),V.bl true)]=sk [.inr x] λ_=>.bl true:=rfl
inductive oq(vs:List V)(H:Hp)(Q:VK)(Z:XK):Prop
 |mk(S:O4)(x:Str)(ys:List V)(ls:List Lk)(pls:List Str)(z0:vs=[.ref S,.str x])(z1:H S=Vn (.lst ys))(z2:Lks H ls ys)(z3:∀l∈ls,l.to∈pls)(z4:x∈pls)(z5:pls.length<=900)(z6:ls.length<=900)
  (z8:∀(R:O4)(ss ks:List Str)(H':Hp),ai H H'->H R=Vo->H' R=Vn (.lst (sS ss))->ss.Perm ks->Qp ss=true->ks.Nodup->(∀y,y∈ks↔Rch ls [x] y)->Q (.ref R) H'):oq vs H Q Z
theorem AQ{x:Str}{ks:List Str}:(MY x:Key)∈ks.map MY↔x∈ks:=by
 rw[MH];exact{λ⟨y,m,e⟩=>MY.inj e▸m,λm=>⟨x,m,rfl⟩}
theorem CM{f:Key->V}(x:Str)(ks:List Str):(L2.cb (sk (ks.map MY) f) (.inr x)).isSome=decide (x∈ks):=by
 rw[Hm,NS,decide_eq_true_iff,decide_eq_true_iff];exact AQ
theorem FZ{x:Str}{ks:List Str}(h:x∉ks):C0 (ks.map MY) (.inr x)=(ks++[x]).map MY:=by
 unfold C0;rw[if_neg λm=>h (AQ.mp m),M6];rfl
structure ClS(ls:List Lk)(x:Str)(pls ks:List Str):Prop where
 nd:ks.Nodup
 ix:x∈ks
 rc:∀y∈ks,Rch ls [x] y
 sb:∀y∈ks,y∈pls
theorem ClS.put{ls:List Lk}{x:Str}{pls ks:List Str}(h:ClS ls x pls ks){l:Lk}(hl:l∈ls)(hf:l.fr∈ks)(ht:l.to∉ks)(hp:l.to∈pls):ClS ls x pls (ks++[l.to]) where
 nd:=NK.mpr {h.nd,by simp,λa ha b hb e=>by rw[Mp.mp hb]at e;exact ht (e▸ha)}
 ix:=MK _ h.ix
 rc:=λy hy=>by
  rcases Mu.mp hy with hy|hy
  ·exact h.rc y hy
  rw[Mp.mp hy];exact .step hl (h.rc _ hf)
 sb:=λy hy=>by
  rcases Mu.mp hy with hy|hy
  ·exact h.sb y hy
  rw[Mp.mp hy];exact hp
theorem DY{α:Type}{xs:List α}{i:Nat}{x:α}(h:xs[i]?=Vn x):xs.take (i+1)=xs.take i++[x]:=by rw[Nf,h];rfl
theorem HP{X H:Hp}{R:O4}(s:ai X H)(h:X R=Vo)(o:HO):ai X (upd H R o):=λa u e=>aw (λz=>by rw[z,h]at e;cases e) (s a u e)
theorem ux(T:Txt K mg A):T.gU.Hz P w base 1 oq:=by
 refine T.gU.hs bT (λf cdv A' outer s H vs Q E' hr hu h=>?_);obtain⟨S,x,ys,ls,pls,rfl,hS,lk,to,xp,pl,ll,q⟩:=h;have ly:=Pd lk;refine{_,(ab (pst 2 bT.nd (wx (fb (fv 1) kL (wy)) rfl rfl (by intro z;cases z) ∅))
  (ab (pst 3 bT.nd kL)
  (ab (fW Pk (bw (fv 3) (λ_=>rfl))
   (ab (pst 3 bT.nd kL)
   (aj (cf Pk rfl (b9 (fv 0)) (pgn (i:=4) bT.nd rfl)
    (aj (aQ (PW.pt (pw_and (ptc (AA hu) (px hu (fv 4) af) (fv 2) ((by with_unfolding_all rfl))) (pw_and1 (ptc (iG hu) (px hu (fv 4) af) (fv 2) ((by with_unfolding_all rfl))))))
     (ab (bW kL (ik (fv 2) (px hu (fv 4) af) (iR hu Vs)))
     (aj (pst 3 bT.nd kL)))
     aF))))))
  (aj (aC (pcB uO T.mK (fv 2^ae))))))),?_}
 refine ag λM1 K1 Mt hMt=>{ao,[(.inr x,.bl true)],rfl,by show 1<=15;decide,K1 _ _ ?_};clear K1 M1;rw[JC];have s1:ai H (upd (upd H Mt (.dK [])) Mt (.dK (sk [.inr x] λ_=>.bl true))):=HP (ai.upd hMt _) hMt _;have e1:upd (upd H Mt (.dK [])) Mt (.dK (sk [.inr x] λ_=>.bl true)) Mt=Vn (.dK (sk ([x].map MY) λ_=>.bl true)):=ao;generalize upd (upd H Mt (.dK [])) Mt (.dK (sk [.inr x] λ_=>.bl true))=H1 at s1 e1⊢;have SM:S≠Mt:=λz=>by rw[<-z,hS]at hMt;cases hMt
 try dsimp only
 refine ag λM1 K1=>K1 _ _ ?_;clear K1 M1;try dsimp only
 refine ag λM1 K1=>?_;refine{λm σ Hc=>∃(g:Bool)(ks:List Str)(v4:Option V),m=(if g=true then(pls.length-ks.length)+1 else 0)/\σ=[Vn (.ref S),Vn (.str x),Vn (.ref Mt),Vn (.bl g),v4]/\ai H Hc/\Hc Mt=Vn (.dK (sk (ks.map MY) λ_=>.bl true))/\ClS ls x pls ks/\(g=false->∀l∈ls,l.fr∈ks->l.to∈ks),{_,true,[x],Vo,rfl,rfl,s1,e1,{by simp,by simp,λy hy=>.base hy,λy hy=>by rw[Mp.mp hy];exact xp},λz=>by cases z},?_};rintro m σ Hc ⟨g,ks,v4,em,rfl,sc,hMc,cl,cg⟩;cases g with
 |false=>
  refine{_,rfl,aZ (K1 _ _ {Mt,_,ks,rfl,.inl hMc,?_,λl ss' pm so hl=>?_})}
  ·unfold sk;rw[NJ];show(ks.map MY).map (λk=>k)=_;rw[List.map_id']
  refine q l ss' ks _ (sc.trans (ai.upd hl _)) (ai.free sc hl) ao pm so cl.nd λy=>{cl.rc y,λh=>?_};induction h with
  |base h=>rw[Mp.mp h];exact cl.ix
  |step h _ ih=>exact cg rfl _ h ih
 |true=>
  clear K1;refine{_,rfl,bN ?_};rw[if_pos rfl]at em;refine{λσ Hc=>∃(g:Bool)(ks:List Str)(v4:Option V)(m':Nat),m'<m/\m'=(if g=true then(pls.length-ks.length)+1 else 0)/\σ=[Vn (.ref S),Vn (.str x),Vn (.ref Mt),Vn (.bl g),v4]/\ai H Hc/\Hc Mt=Vn (.dK (sk (ks.map MY) λ_=>.bl true))/\ClS ls x pls ks/\(g=false->∀l∈ls,l.fr∈ks->l.to∈ks),λσ Hc ⟨g,ks,v4,m',hm',h⟩=>⟨m',hm',g,ks,v4,h⟩,?_};try dsimp only
  refine ag λN1 J1=>J1 _ _ ?_;clear J1 N1;try dsimp only
  have SMc:=sc _ _ hS;refine MG {{_,SqL.of SMc},cn (K:=K) (xs:=ys) (λj σ Hd=>∃(g:Bool)(k2:List Str)(v4:Option V),σ=[Vn (.ref S),Vn (.str x),Vn (.ref Mt),Vn (.bl g),v4]/\ai H Hd/\Hd Mt=Vn (.dK (sk (k2.map MY) λ_=>.bl true))/\ClS ls x pls k2/\(g=false->k2=ks/\∀l∈ls.take j,l.fr∈ks->l.to∈ks)/\(g=true->ks.length<k2.length)) {false,ks,v4,rfl,sc,hMc,cl,(λ_=>{rfl,λl hl=>by cases hl}),λz=>by cases z} (λj σ Hd _ ⟨_,_,_,_,z,_⟩=>SqL.of (z _ _ hS)) ?_ ?_}
  ·rintro j y σ Hd hy ⟨g,k2,w4,rfl,sd,hMd,cl2,c1,c2⟩;obtain⟨l,hl,tp,rfl,etp⟩:=b5 lk hy;have ml:=ML hl;have hT:=SqT.of (K:=K) (sd _ _ etp);have tk:=DY hl;have l2:=gR cl2.nd cl2.sb;try dsimp only
   refine tix (j:=0) hT rfl (NF {Mt,_,rfl,nj.k (k:=.inr l.fr) hMd,_,rfl,?_});rw[CM];by_cases c:l.fr∈k2
   ·rw[decide_eq_true c];refine bN (tix (j:=1) hT rfl (NF {Mt,_,rfl,nj.k (k:=.inr l.to) hMd,_,rfl,?_}));rw[CM];by_cases d:l.to∈k2
    ·rw[decide_eq_true d];refine aZ {g,k2,_,rfl,sd,hMd,cl2,λz=>{(c1 z).1,λk hk hf=>?_},c2};rw[tk]at hk;rcases Mu.mp hk with hk|hk
     ·exact(c1 z).2 k hk hf
     rw[Mp.mp hk,<-(c1 z).1];exact d
    rw[decide_eq_false d];refine bN (ag λN1 J1=>tix (j:=1) hT rfl {_,oX.k (k:=.inr l.to) hMd (aG (by rw[JI,Mq];lia)),J1 _ _ ?_});rw[Gm (f:=λ_=>V.bl true),FZ d];refine{true,k2++[l.to],_,rfl,HP sd hMt _,ao,cl2.put ml c d (to l ml),(λz=>by cases z),λ_=>?_};rw[Mo,Mr];cases g with
    |false=>rw[(c1 rfl).1];lia
    |true=>have:=c2 rfl;lia
   rw[decide_eq_false c];refine aZ (aZ {g,k2,_,rfl,sd,hMd,cl2,λz=>{(c1 z).1,λk hk hf=>?_},c2});rw[tk]at hk;rcases Mu.mp hk with hk|hk
   ·exact(c1 z).2 k hk hf
   rw[Mp.mp hk,<-(c1 z).1]at hf;exact absurd hf c
  rintro σ Hd ⟨g,k2,w4,rfl,sd,hMd,cl2,c1,c2⟩;rw[show ls.take ys.length=ls by rw[<-ly];exact M8]at c1;have l2:=gR cl2.nd cl2.sb;refine{g,k2,w4,_,?_,rfl,rfl,sd,hMd,cl2,λz l hl hf=>?_}
  ·cases g with
   |false=>rw[if_neg My];lia
   |true=>
    have:=c2 rfl;rw[if_pos rfl];lia
  obtain⟨e,h⟩:=c1 z;rw[e]at hf⊢;exact h l hl hf
noncomputable def gp:Fr->Bool
 | .leaf (.giv _ _ _)=>true
 | .leaf (.lt _ _)=>true
 |_=>false
noncomputable def sF(N:Nat->Str):Fr->Str×Int
 | .leaf (.giv i r _)=>(N i,r)
 | .leaf (.lt i r)=>(N i,r)
 |_=>(Pq,0)
theorem Jt(f:Fr):inV (V.str f.wd) [V.str "given",V.str "let"]=gp f:=by
 cases f with
 |leaf r=>cases r<;>rfl
 |_=>rfl
theorem Es{ps:List Nat}{dd:List (Nat×Nat)}{f:Fr}(h:Jy ps dd f):gp f=false:=by
 cases f with
 |leaf r=>
  obtain⟨lp,h⟩:=h;cases r<;>first|rfl|exact h.elim
 |bj _ _=>exact h.elim
 |_=>rfl
theorem D9:∀(hs:List Lr)(n:Int),EY N (hdP n hs)=((hs.map Fr.leaf).filter gp).map (sF N)
 | [],n=>rfl
 |r::hs,n=>by
  have ih:=D9 hs (n+1);unfold EY at ih⊢;rw[hdP,MJ,OB,OB];cases r<;>first
   | (show((Pt.leaf n _::(hdP (n+1) hs).filter qr).map (sOf N))=((Fr.leaf _::(hs.map Fr.leaf).filter gp).map (sF N));rw[MJ,MJ,ih];rfl)
   |exact ih
theorem A4{α:Type}{p:α->Bool}{l:List α}(h:∀x∈l,p x=false):l.filter p=[]:=List.filter_eq_nil_iff.mpr λx hx=>by rw[h x hx];decide
theorem Jq{hs:List Lr}{ds:List De}{mb:List Tr}(O:eJ hs ds mb):EY N (hdP 1 hs)=((flA hs ds mb).filter gp).map (sF N):=by
 rw[D9];congr 1;unfold flA;rw[Nr,Nr];have h1:(bB ds).filter gp=[]:=A4 λf hf=>by
  unfold bB at hf;obtain⟨d,md,hf⟩:=Nl.mp hf;unfold flD at hf;rcases Mw.mp hf with rfl|hf
  ·rfl
  rcases Mu.mp hf with hf|hf
  ·obtain⟨k,hk⟩:=MS md;exact Es (vb _ _ (O.de.at' k d hk).2.2.1 f hf)
  rw[Mp.mp hf];rfl
 have h2:(Fr.main::(aA mb++[.fin])).filter gp=[]:=A4 λf hf=>by
  rcases Mw.mp hf with rfl|hf
  ·rfl
  rcases Mu.mp hf with hf|hf
  ·exact Es (vb _ _ O.mo f hf)
  rw[Mp.mp hf];rfl
 rw[h1,h2,MP,MP]
theorem IK{f:Fr}(p:O4)(h:gp f=true):∃ts,V.str f.wd::f.ts N p=V.str f.wd::V.str (sF N f).1::V.int (sF N f).2::ts:=by
 cases f with
 |leaf r=>cases r<;>first|exact{_,rfl}|cases h
 |_=>cases h
inductive qu(A:Adr)(vs:List V)(H:Hp)(Q:VK)(Z:XK):Prop
 |mk(N:Nat->Str)(X:Hp)(v:V)(hs ds ms:List Pt)(L:O4)(xs:List V)(fs:List Fr)(z0:vs=[v,.ref L])(z1:ai X H)(z2:wX A N X v hs ds ms)(z3:hs.length<=300)(z4:X L=Vn (.lst xs))(z5:aW N X fs xs)(z6:xs.length<=300)(z7:EY N hs=(fs.filter gp).map (sF N))
  (z8:∀H',ai H H'->Q (.bl true) H'):qu A vs H Q Z
theorem zc(T:Txt K mg A):T.lT.Hz P w base 2 (qu A):=by
 refine T.lT.hs (k:=1) dM (λf cdv A' outer s H vs Q E' hr hu h=>?_);obtain⟨N,X,v,hs,ds,ms,L,xs,fs,rfl,s0,pg,hl,hL,fr,lx,es,q⟩:=h;have lf:=Pd fr;refine{_,(ab (rX (j:=2) (N:=["_law_row_here"]) (own:=1) (fr:=[]) (cA.of (by kernel_rfl!)) rfl dM.nd rfl (MG rfl) (b9 (fv 1)) (λb=>pgn (i:=0) (show Qe (["_law_row_here"]:List QN) by decide+kernel) rfl) (λb=>wB (ptc (AA hu) (px hu (fv 0) af) (aS (au^au^ae)) ((by with_unfolding_all rfl)))) (λb=>fv 0))
  (ab (pst 3 dM.nd (ak (BO T) hr (fv 0^ae)))
  (ab (aQ (PW.pt (pw_or (qf (bw (pcB aT T.aE (fv 3^(kH (v:=.ty "list") rfl T.dm (by boot_by_name) rfl)^ae)) (λ_=>rfl))) (pw_or1 (ptc (oR hu) (pcB eO T.fX (fv 3^ae)) (pcB eO T.fX (fv 2^ae))))))
   (aj (aC kL))
   aF)
  (ab (cf Pk rfl (di rfl T.dz (pcB eO T.fX (fv 2^ae)^ae)) (pgn (i:=4) dM.nd rfl)
   (ab (pst 5 dM.nd (px hu (fv 3) (fv 4)))
   (ab (aQ (PW.pt (pw_or (qf (bw (pcB aT T.aE (fv 5^(kH (v:=.ty "tuple") rfl T.q0 (by boot_by_name) rfl)^ae)) (λ_=>rfl))) (pw_or (ptc (oR hu) (pcB eO T.fX (fv 5^ae)) af) (pw_or (ptc (oR hu) (px hu (fv 5) af) (px hu (px hu (fv 2) (fv 4)) af)) (pw_or1 (ptc (oR hu) (px hu (fv 5) af) (px hu (px hu (fv 2) (fv 4)) af)))))))
    (aj (aC kL))
    aF)
   (aj (aQ (PW.pt (pw_or (qf (bw (pcB aT T.aE (px hu (fv 5) af^(kH (v:=.ty "int") rfl T.zU (by boot_by_name) rfl)^ae)) (λ_=>rfl))) (pw_or1 (bw (pcB aT T.aE (px hu (fv 5) af^(kH (v:=.ty "bool") rfl T.wu (by boot_by_name) rfl)^ae)) (λ_=>rfl)))))
    (aj (aC kL))
    aF)))))
  (aj (aC kL)))))),?_}
 refine ag λM1 K1=>MG {{_,SqL.of (s0 _ _ hL)},lO (K:=K) (own:=1) fs gp (λf y _=>kF N X y f) (SqL.of (s0 _ _ hL)) lf.symm (aG ()) ?_ (λ_ _ _ _ _ h=>h) (λ_ _ _ _ _ _ _ h=>h) ?_}
 ·intro b i x e v0 H1 Nn Y hx he hv s1 no yes;obtain⟨u0,rfl⟩:∃u0,v0=[u0]:=by
   match v0,hv with
   | [u],_=>exact⟨u,rfl⟩
  obtain⟨f',hf',fa⟩:=b5 fr hx;rw[he]at hf';cases hf';have fa0:=fa;obtain⟨a,p,rfl,ha,hob⟩:=fa;refine tix (j:=0) (SqT.of ((s0.trans s1) _ _ ha)) rfl {by show 2<=sizeLine;decide,λtp htp=>?_};obtain⟨s3,e3⟩:=alc htp (HO.tup [V.str "given",V.str "let"]);generalize upd H1 tp _=H3 at s3 e3⊢;refine MG {_,NF (SqT.of e3),rfl,rfl,_,rfl,?_};rw[show(if false=true then !inV (V.str e.wd) [V.str "given",V.str "let"]else inV (V.str e.wd) [V.str "given",V.str "let"])=gp e from Jt e];refine a9 (λz=>yes z [Vn (.ref a)] _ _ rfl s3 fa0) (λz=>?_);exact no (NW.mpr z) [Vn (.ref a)] _ rfl s3
 intro D2 H2 zs hD2 s2 eD2 pz;refine K1 _ _ ?_;clear K1 M1;have lz:=Pd pz;have lz2:=NG gp fs;try dsimp only
 refine ag λM1 K1=>{N,X,v,hs,ds,ms,rfl,s0.trans s2,pg,hl,λF ys H3 s3 hF eF pr=>?_};rw[es]at pr;have ly:=Pd pr;rw[Mq]at ly;have eD3:=s3 _ _ eD2;refine K1 _ _ ?_;clear K1 M1;try dsimp only
 refine ag λM1 K1=>{_,_,_,true,rfl,(λz=>by cases z),.lst eF,E1,true,rfl,aZ (lnl eF (lnl eD3 {rfl,_,rfl,?_}))};have el:((ys.length:Nat):Int)=((zs.length:Nat):Int):=by rw[<-ly,lz]
 refine a9 (λz=>absurd z (by rw[el,decide_eq_true rfl];decide)) λ_=>K1 _ _ ?_;clear K1 M1;try dsimp only
 refine ag λM1 K1=>lnl eD3 {_,rfl,(),(),?_};rw[show((zs.length:Nat):Int).toNat=zs.length by simp];refine jU (λi σ Hc=>∃(v4 v5:Option V),σ=[Vn v,Vn (.ref L),Vn (.ref D2),Vn (.ref F),v4,v5]/\Hc=H3) ⟨Vo,Vo,rfl,rfl⟩ ?_ ?_
 ·clear K1;rintro i σ Hc hi ⟨v4,v5,rfl,rfl⟩;have ej:(0:Int)+(i:Int)=(i:Int):=()
  rw[ej];obtain⟨y,hy⟩:∃y,zs[i]?=Vn y:={_,Mv hi};obtain⟨g,hg,fa⟩:=b5 pz hy;have sg:=(Nh.mp (ML hg)).2;obtain⟨y2,hy2,tp,rfl,etp⟩:=j2 (i:=i) (a:=sF N g) pr (by rw[MM,hg];rfl);obtain⟨a,p,rfl,ha,_⟩:=fa;obtain⟨ts,ets⟩:=IK (N:=N) p sg;rw[ets]at ha;have hA:=SqT.of (K:=K) ((s0.trans (s2.trans s3)) _ _ ha);have hT:=SqT.of (K:=K) etp;have hD:=SqL.of (K:=K) eD3;try dsimp only
  refine ag λM2 K2=>lxn (SqL.of eF) hy2 (K2 _ _ ?_);clear K2 M2;try dsimp only
  refine ag λM2 K2=>{_,_,_,true,rfl,(λz=>by cases z),.tup etp,Ik,true,rfl,aZ (MG {_,_,rfl,NF {_,hT,rfl},{rfl,_,rfl,aZ (tix (j:=0) hT rfl (lxn hD hy (tix (j:=1) hA rfl {rfl,_,rfl,a9 (λz=>absurd z (by rw[decide_eq_true rfl];decide)) λ_=>tix (j:=1) hT rfl (lxn hD hy (tix (j:=2) hA rfl {rfl,_,rfl,a9 (λz=>absurd z (by rw[decide_eq_true rfl];decide)) λ_=>K2 _ _ ?_}))})))}})};clear K2 M2;try dsimp only
  exact tix (j:=1) hT rfl {_,_,_,true,rfl,(λz=>by cases z),.int _,IF,true,rfl,aZ (tix (j:=1) hT rfl {_,_,_,false,rfl,(λz=>by cases z),.int _,HN,false,rfl,aZ {_,_,rfl,rfl}})}
 rintro σ Hc ⟨v4,v5,rfl,rfl⟩;exact K1 _ _ (q _ (s2.trans s3))
theorem sT{H:Hp}{p q:O4}{xs:List Str}(hp:SqL K H p (sS xs))(hq:SqL K H q (sS xs))(ok:∀x∈xs,P1 x=true):∃d e,kT K H (.ref p) d/\kT K H (.ref q) e/\P4 d=true/\P4 e=true/\T6 d e=true:=by
 obtain⟨h1,h2,h3⟩:=oE (K:=K) (H:=H) ok;have sh:P4 (.list (xs.map R7))=true:=by simp[P4,QO,Ro,h2,h3]
 exact{.list (xs.map R7),.list (xs.map R7),.lst hp h1,.lst hq h1,sh,sh,SeqAt.eqv_refl _ (by simp[QO,h2])}
noncomputable def nmF(N:Nat->Str):V->V
 | .int k=>.str (N k.toNat)
 |v=>v
noncomputable abbrev I5:List Int:=[1,2,5,6,19]
theorem Dz{ls:List Lk}{pls S ks:List Str}(to:∀l∈ls,l.to∈pls)(nd:S.Nodup)(sb:∀x∈S,x∈pls)(kn:ks.Nodup)(h:∀y,y∈ks↔Rch ls S y):(fT ls pls.length 0 S).Perm ks:=
 (List.perm_ext_iff_of_nodup (zL _ _ _ nd) kn).mpr λy=>(Ak to nd sb y).trans (h y).symm
theorem EO:∀i∈I5,i.toNat∈S7++[5,6]/\0<=i/\i.toNat<24:=∅
noncomputable def vE(K:Pa):Sp:=λvs H Q _=>∃(a:O4)(ns:List Int),vs=[.ref a]/\SqL K H a (ns.map V.int)/\ns.length<=63/\∀H',Q (.bl true) H'
theorem Kd(T:Txt K mg A)(F:bf K mg "law" tG ["_law_script"]):Has P w K mg base 30 "law" ["_law_script"] (vE K):=by
 have dA:=@zB P w _ _ base _ T;have E_links:=xZ.has (Aw (P:=P) (w:=w) (base:=base) T 6);have G_reached:=vZ.d (qd (P:=P) (w:=w) (base:=base) T);have E_reached:=vZ.has (qd (P:=P) (w:=w) (base:=base) T);refine F.hs (k:=29) jt (λf cdv A' outer s0 H vs Q E hr hu h=>?_) (λvs H Q E h=>by obtain⟨a,ns,rfl,_⟩:=h;rfl);obtain⟨sc,ns,rfl,hS,_,q⟩:=h;refine{_,(ab (pst 1 jt.nd (ak (hj:=by lia) (Eu T) hr ((ak (hj:=by lia) dA hr (fv 0^af^ae))^(ak (hj:=by lia) dA hr (fv 0^af^ae))^af^ae)))
  (ab (bW (ak (hj:=by lia) (Gy T) hr ((ak (hj:=by lia) (Jc T) hr (fv 0^fv 1^ae))^(ak (hj:=by lia) dA hr (fv 0^af^ae))^ae)) (dG rfl (aP (pgn (i:=2) jt.nd rfl) (aP (pgn (i:=3) jt.nd rfl) cF))))
  (ab (pst 4 jt.nd (ak (hj:=by lia) (Fu T) hr (fv 2^ae)))
  (ab (pst 5 jt.nd (pec (b4 hu) (aB bM (ak (hj:=by lia) dA hr (fv 0^af^ae)) af) af))
  (ab (aQ (qf (bw (ak (hj:=by lia) (zc T) hr (fv 4^fv 2^ae)) (λ_=>rfl)))
   (aj (aC kL))
   aF)
  (ab (pst 6 jt.nd (ak (hj:=by lia) E_links hr (fv 4^fv 5^ae)))
  (ab (cf Pk rfl (b9 (fO (N:=["_law_k","_law_names_here"]) (own:=1) (fr:=[1]) (cA.of (by kernel_rfl!)) rfl (b9 (aS (af^af^af^af^af^ae))) (λb=>pgn (i:=0) (show Qe (["_law_k","_law_names_here"]:List QN) by decide+kernel) rfl) (λb=>lH) (λb=>px hu (fv 1) (fv 0)))) (pgn (i:=7) jt.nd rfl)
   (ab (pst 8 jt.nd (ak (hj:=by lia) (ux T) hr (fv 6^fv 7^ae)))
   (ab (pst 9 jt.nd (ak (hj:=by lia) E_reached hr (fv 4^fv 7^fv 5^ae)))
   (ab (aQ (PW.pt (pw_or (qf (bw (pcB aT T.aE (fv 9^(kH (v:=.ty "list") rfl T.dm (by boot_by_name) rfl)^ae)) (λ_=>rfl))) (pw_or1 (ptc (oR hu) (fv 9) (fv 8)))))
    (aj (aC kL))
    aF)
   (ab (aO (bt (fv 9) (au^ae)))
   (aj (aQ (PW.pt (pw_and (ptc (b4 hu) (fv 7) (px hu (fv 1) (px hu (aN (af^af^af^af^af^ae)) (aB bM (ak (hj:=by lia) dA hr (fv 0^af^ae)) af)))) (pw_and1 (ptc (oR hu) (BE (hj:=by lia) (qd T) hr (fv 4^fv 7^ae) (fv 5)) (fv 8)))))
    (aj (aC kL))
    aF)))))))
  (aj (aC (Ax (fv 5) (EW (pec (b4 hu) (Dg (hj:=by lia) G_reached hr (fv 4^px hu (fv 1) af^ae)) (ak (hj:=by lia) (ux T) hr (fv 6^px hu (fv 1) af^ae)))))))))))))),?_}
 refine ag λM1 K1=>{sc,ns,0,rfl,hS,∅,∅,λc1 H1 s1=>{sc,ns,1,rfl,s1.seq hS,∅,∅,λc2 H2 s2=>{c1,c2,rfl,λnl N H3 s3 hnl enl nm=>K1 _ _ ?_}}};clear K1 M1;have t3:=s1.trans (s2.trans s3);try dsimp only
 refine ag λM1 K1=>{N,sc,nl,ns,rfl,t3.seq hS,enl,nm,λL0 xs0 hs ds0 mb0 H4 s4 hL0 eL0 fr0 O0=>?_};have lx0:xs0.length<=300:=by
  have:=wq O0;rw[<-Pd fr0];lia
 rw[xv]at fr0;refine{sc,ns,3,rfl,(t3.trans s4).seq hS,∅,∅,λc3 H5 s5=>{N,L0,c3,xs0,hs,j9 ds0 mb0,rfl,s5 _ _ eL0,aW.same s5 fr0,FX O0,nm,lx0,λp L D xs ss H6 s6 ep eL sim fr kn=>{p,_,rfl,SqT.of ep,rfl,_,_,rfl,_,_,rfl,rfl,?_}}};obtain⟨ds,mb,rfl,O,_⟩:=Ca O0 sim;rw[<-xv]at fr;have t6:=t3.trans (s4.trans (s5.trans s6));have lf:=wq O;have lx':=Pd fr;have lx:xs.length<=300:=()
 clear fr0 O0 sim kn ep lx0 eL0 hL0;refine K1 _ _ ?_;clear K1 M1;try dsimp only
 refine ag λM1 K1=>{N,H6,L,xs,hs,ds,mb,rfl,ai.refl _,eL,fr,O,lx,λv H7 s7 pg=>?_};have OL:=Jp nm O;have st:=zr nm O;have en:=FI nm O;have I:=Cf (N:=N) O;have pl:=Hn (N:=N) O;have es:=Jq (N:=N) O;have hl7:(hdP 1 hs).length<=300:=by rw[qY,(qW O).1];decide
 have ll:=OL.ll;generalize hdP 1 hs=hs' at pg OL st en I pl es hl7;generalize deP ((hs.length:Nat)+1) ds=ds' at pg OL st en I pl ll;generalize bp (msN hs ds) mb=ms' at pg OL st en I pl ll;generalize flA hs ds mb=fs at fr es lf lx';have t7:=t6.trans s7;refine K1 _ _ ?_;clear K1 M1;try dsimp only
 refine ag λM1 K1=>{sc,ns,4,rfl,t7.seq hS,∅,∅,λc4 H8 s8=>{by show(0:Int)<2;decide,rfl,?_}};generalize decide (V.int (c4%2)=V.int 1)=b;refine K1 _ _ ?_;clear K1 M1;try dsimp only
 refine ag λM1 K1=>{N,H7,v,hs',ds',ms',L,xs,fs,rfl,s8,pg,hl7,s7 _ _ eL,aW.same s7 fr,lx,es,λH9 s9=>{_,rfl,aZ (K1 _ _ ?_)}};clear K1 M1;have t89:=s8.trans s9;try dsimp only
 refine ag λM1 K1=>{N,H7,v,b,hs',ds',ms',rfl,t89,pg,OL,λS ys H10 s10 hS10 eS lk=>K1 _ _ ?_};clear K1 M1;have t10:=t89.trans s10;have tA:=t7.trans t10;have enl10:=(s4.trans (s5.trans (s6.trans (s7.trans t10)))) _ _ enl;have to:∀l∈dq N b ds' ms',l.to∈aU N hs' ds' ms':=λl hl=>(en b l hl).2;have same:∀(x:Str)(ss ss2 ks:List Str),x∈aU N hs' ds' ms'->ss.Perm ks->Qp ss=true->ks.Nodup->(∀y,y∈ks↔Rch (dq N b ds' ms') [x] y)->ss2.Perm (fT (dq N b ds' ms') (aU N hs' ds' ms').length 0 [x])->Qp ss2=true->ss2=ss/\∀y∈ss,P1 y=true:=by
  intro x ss ss2 ks xp pm so kn hk pm2 so2;have sb:∀y∈[x],y∈aU N hs' ds' ms':=λy hy=>by rw[Mp.mp hy];exact xp
  have pa:=Dz to (by simp) sb kn hk;refine{L2.C8 (pm2.trans (pa.trans pm.symm)) so2 so,λy hy=>st y ?_};have h:=(hk y).mp (pm.mem_iff.mp hy);cases h with
  |base h=>exact sb _ h
  |step h _=>exact to _ h
 try dsimp only
 refine ag λM1 K1=>{by show 5<=sizeLine;decide,λtp htp=>?_};obtain⟨s11,e11⟩:=alc htp (HO.tup [V.int 1,V.int 2,V.int 5,V.int 6,V.int 19]);generalize upd H10 tp _=H11 at s11 e11⊢;have e11:H11 tp=Vn (.tup (I5.map V.int)):=e11;refine NF {{_,SqT.of e11},Ex (K:=K) (λ_=>true) (nmF N) (SqT.of e11) ∅ (λb x Hc G hx sc' k=>k Hc (ai.refl _)) (λb' x Hc G hx _ sc' k=>?_) (λLn Hc hLn sc' eLn=>?_)}
 ·obtain⟨i,mi,rfl⟩:=MH.mp hx;obtain⟨_,i0,i24⟩:=EO i mi;obtain⟨j,rfl⟩:∃j:Nat,i=(j:Int):={i.toNat,()};exact nmx (SqL.of ((s11.trans sc') _ _ enl10)) (k Hc (ai.refl _)) (by simpa using i24)
 have eLn:Hc Ln=Vn (.lst (sS (I5.map λi=>N i.toNat))):=by
  rw[eLn,List.filter_eq_self.mpr λ_ _=>rfl];rfl
 have s12:=s11.trans sc';clear htp;have eSc:=s12 _ _ eS;have lkc:Lks Hc (dq N b ds' ms') ys:=lk.same λx w e=>s12 _ _ e;have enlc:=s12 _ _ enl10;have sX:ai H7 Hc:=t10.trans s12;have hSc:=(tA.trans s12).seq hS;have pl9:(aU N hs' ds' ms').length<=900:=()
 have again:∀(x:Str),x∈aU N hs' ds' ms'->∀{Hd:Hp},ai Hc Hd->∀{Q2:VK}{E2:XK}(c:List V),c=[v,.str x,.bl b]->(∀(R:O4)(ss:List Str)(H':Hp),ai Hd H'->Hd R=Vo->H' R=Vn (.lst (sS ss))->ss.Perm (fT (dq N b ds' ms') (aU N hs' ds' ms').length 0 [x])->Qp ss=true->Q2 (.ref R) H')->oj A c Hd Q2 E2:=λx xp Hd sd Q2 E2 c ec k=>⟨N,H7,v,x,b,hs',ds',ms',ec,sX.trans sd,pg,OL,en b,xp,k⟩;have own:∀(x:Str),x∈aU N hs' ds' ms'->∀{Hd:Hp},ai Hc Hd->∀{Q2:VK}{E2:XK}(c:List V),c=[.ref S,.str x]->(∀(R:O4)(ss ks:List Str)(H':Hp),ai Hd H'->Hd R=Vo->H' R=Vn (.lst (sS ss))->ss.Perm ks->Qp ss=true->ks.Nodup->(∀y,y∈ks↔Rch (dq N b ds' ms') [x] y)->Q2 (.ref R) H')->oq c Hd Q2 E2:=λx xp Hd sd Q2 E2 c ec k=>{S,x,ys,_,_,ec,sd _ _ eSc,lkc.same λx w e=>sd _ _ e,to,xp,pl9,ll b,k};refine MG {{_,SqL.of eLn},cn (K:=K) (xs:=sS (I5.map λi=>N i.toNat)) (λi σ Hd=>∃(v7 v8 v9:Option V),σ=[Vn (.ref sc),Vn (.ref nl),Vn (.ref L),Vn (.ref D),Vn v,Vn (.bl b),Vn (.ref S),v7,v8,v9]/\ai Hc Hd) {Vo,Vo,Vo,rfl,ai.refl _} (λi σ Hd _ ⟨_,_,_,_,z⟩=>SqL.of (z _ _ eLn)) ?_ ?_}
 ·clear K1;rintro i y σ Hd hy ⟨v7,v8,v9,rfl,sd⟩;obtain⟨j,mj,ey⟩:∃j∈I5,y=V.str (N j.toNat):=by
   rw[MM,MM]at hy;cases hj:I5[i]? with
   |none=>rw[hj]at hy;cases hy
   |some j=>
    rw[hj]at hy;cases hy;exact⟨j,ML hj,rfl⟩
  subst ey;have xp:N j.toNat∈aU N hs' ds' ms':=I.s7 _ (EO j mj).1;generalize N j.toNat=x at xp;try dsimp only
  refine ag λM2 K2=>own x xp sd _ rfl λR ss ks H13 s13 hR eR pm so kn hk=>K2 _ _ ?_;clear K2 M2;try dsimp only
  refine ag λM2 K2=>again x xp (sd.trans s13) _ rfl λR2 ss2 H14 s14 hR2 eR2 pm2 so2=>K2 _ _ ?_;clear K2 M2;obtain⟨e2,ok⟩:=same x ss ss2 ks xp pm so kn hk pm2 so2;subst e2;have eR':=s14 _ _ eR;have RR:R≠R2:=λz=>by rw[<-z,eR]at hR2;cases hR2
  try dsimp only
  refine ag λM2 K2=>{_,_,_,true,rfl,(λz=>by cases z),.lst eR2,E1,true,rfl,aZ ?_};obtain⟨d,e,g1,g2,g3,g4,g5⟩:=sT (K:=K) (SqL.of eR2) (SqL.of eR') ok;refine{d,e,g1,g2,g3,g4,?_};rw[g5];refine{_,rfl,aZ (K2 _ _ ?_)};clear K2 M2 g1 g2;have l9:ss2.length<=900:=by
   have h1:=pm2.length_eq;have h2:=gR (zL (ls:=dq N b ds' ms') (aU N hs' ds' ms').length 0 [x] (by simp)) (λy hy=>by
    have h:=(Ak to (by simp) (λz hz=>by rw[Mp.mp hz];exact xp) y).mp hy;cases h with
    |base h=>rw[Mp.mp h];exact xp
    |step h _=>exact to _ h)
   lia
  try dsimp only
  refine ag λM2 K2=>{MG {rfl,_,SqL.of eR2},_,_,_,rfl,rfl,eR2,aG (by rw[Mq];lia),?_};have s15:ai H13 (upd H14 R2 (.lst (sS ss2++[V.str "more"]))):=HP s14 hR2 _;generalize upd H14 R2 _=H15 at s15⊢;have eR15:=s15 _ _ eR;have u15:=sd.trans (s13.trans s15);refine K2 _ _ ?_;clear K2 M2;try dsimp only
  refine{by show 5<=sizeLine;decide,λl5 hl5=>?_};obtain⟨s16,e16⟩:=alc hl5 (HO.lst [V.int 1,V.int 2,V.int 5,V.int 6,V.int 19]);generalize upd H15 l5 _=H16 at s16 e16⊢;have e16:H16 l5=Vn (.lst (I5.map V.int)):=e16;have u16:=u15.trans s16;refine{sc,ns,5,rfl,u16.seq hSc,∅,∅,λc5 H17 s17=>{by show(0:Int)<5;decide,?_}};have u17:=u16.trans s17;have m5:=bP c5 (show(0:Int)<5 by decide);obtain⟨z,hz,az⟩:=Ah (xs:=I5.map V.int) m5.1 m5.2;obtain⟨k,mk,rfl⟩:=MH.mp (ML hz);obtain⟨_,k0,k24⟩:=EO k mk;obtain⟨k',rfl⟩:∃k':Nat,k=(k':Int):={k.toNat,()};refine lix (SqL.of (s17 _ _ e16)) az (nmx (SqL.of (u17 _ _ enlc)) {rfl,_,rfl,a9 (λ_=>?_) (λ_=>aZ {_,_,_,rfl,u17})} (by simpa using k24));refine again x xp u17 _ rfl λR3 ss3 H18 s18 hR3 eR3 pm3 so3=>?_;obtain⟨e3,_⟩:=same x ss2 ss3 ks xp pm so kn hk pm3 so3;subst e3;obtain⟨d',e',g1,g2,g3,g4,g5⟩:=sT (K:=K) (SqL.of eR3) (SqL.of ((s16.trans (s17.trans s18)) _ _ eR15)) ok;refine{d',e',g1,g2,g3,g4,?_};rw[g5];exact{_,rfl,aZ {_,_,_,rfl,u17.trans s18}}
 rintro σ Hd ⟨v7,v8,v9,rfl,sd⟩;refine K1 _ _ ?_;clear K1 M1;try dsimp only
 refine{b,rfl,?_};cases b with
 |true=>exact bN (q _)
 |false=>
  refine aZ ?_;have xp:N 1∈aU N hs' ds' ms':=I.s7 _ ∅;refine nmx (j:=1) (SqL.of (sd _ _ enlc)) (again (N 1) xp sd _ rfl λR2 ss2 H13 s13 hR2 eR2 pm2 so2=>nmx (j:=1) (SqL.of ((sd.trans s13) _ _ enlc)) (own (N 1) xp (sd.trans s13) _ rfl λR ss ks H14 s14 hR eR pm so kn hk=>?_));obtain⟨e2,ok⟩:=same (N 1) ss ss2 ks xp pm so kn hk pm2 so2;subst e2;obtain⟨d,e,g1,g2,g3,g4,g5⟩:=sT (K:=K) (SqL.of (s14 _ _ eR2)) (SqL.of eR) ok;refine MG (MG {d,e,g1,g2,g3,g4,?_});rw[g5];exact q _
end
inductive FnI(K:Pa)(f:O4)(x y:Str)(s:PB):Prop
 |mk(oc:E9)(od:Option O4)(kV dc pm:E9)(an:Option O4)(cd ct:E9)(sl:Array (Option E9))(l:K.lookup f=Vn {oc,od,.func (Qo x y (bF s) (bh s) (aq s) .none kV dc pm an cd ct),sl})(c:RA K cd y=true)(k:Qs K (.ref f)=true):FnI K f x y s
abbrev bZ(K:Pa)(x:Str)(s:PB):Prop:=∃f,Vb K Pw x=Vn (Vn (.ref f))/\FnI K f x x s
abbrev jx(K:Pa)(C:O4)(m q:Str)(s:PB):Prop:=∃f,Qm K (.ref C) m=Vn (Vn (.ref f))/\Vl K (.ref f)=true/\FnI K f m q s
abbrev nq(K:Pa)(C:O4)(x:Str)(up:List O4):Prop:=Vb K Pw x=Vn (Vn (.ref C))/\(∃cd,W.clsIn K C=Vn cd/\cd.mro=up.map Py++[Rr "object"])/\SK K C Pq=true/\Tc K C=true/\UK K C=true/\Qm K (.ref C) "__setattr__"=Vn (Vn (.builtin "object.__setattr__"))/\W.typeIn K (.ref C)=Vn (.type "type")/\Qm K (.ref C) "__class__"=Vn (Vn (.builtin "object.__class__"))/\Uy K C=true/\Qs K (.ref C)=true
abbrev NsI(K:Pa)(x:Str):Prop:=Vb K Pw x=Vn Vo
abbrev NoI(K:Pa)(C:O4)(x:Str):Prop:=Qm K (.ref C) x=Vn Vo
section
variable{K:Pa}{mg:Str->Option E9}{h:PH}{x m q:Str}{s:PB}{ps:List Str}{C:O4}{up:List O4}
theorem b6(X:K.In h)(G:h.Ns Pw mg)(t:bZ K x s)(b:∀(kV doc pm:E9)(an:Option O4)(cdv ct:E9)(us:List E9),us.length=ps.length->bindArgs (Qo x x (bF s) (bh s) (aq s) .none kV doc pm an cdv ct) {us,[]}=pure (ps.zip us)):bf K mg x s ps:=by
 obtain⟨f,a,_,_,_,_,_,_,_,_,_,l,c,k⟩:=t;exact Ei X G a l c k b
theorem jS(t:jx K C m q s)(b:∀(kV doc pm:E9)(an:Option O4)(cdv ct:E9)(us:List E9),us.length=ps.length->bindArgs (Qo m q (bF s) (bh s) (aq s) .none kV doc pm an cdv ct) {us,[]}=pure (ps.zip us)):MFn K C m q s ps:=by
 obtain⟨f,a,i,_,_,_,_,_,_,_,_,_,l,c,k⟩:=t;exact HA a i l c k b
theorem nZ(X:K.In h)(G:h.Ns Pw mg)(cg:Rh K (.builtin "object.__class__") "__get__"=Vn (Vn (.builtin "getset_descriptor.__get__")))(ct:Uz K (.builtin "object.__class__")=Vn true)(t:nq K C x up):eT K mg C x up:=by
 obtain⟨a,b,c,d,e,f,g,i,j,k⟩:=t;exact{Ts X G a,⟨c,d,e,f⟩,b,g,i,cg,ct,j,k}
end
theorem ar0{p:List E9->Prop}(h:p []):∀us:List E9,us.length=0->p us:=λus e=>by
 cases us with
 |nil=>exact h
 |cons b t=>cases e
theorem arS{p:List E9->Prop}{n:Nat}(h:∀a,∀us:List E9,us.length=n->p (a::us)):∀us:List E9,us.length=n+1->p us:=λus e=>by
 cases us with
 |nil=>cases e
 |cons b t=>exact h b t (Nat.succ.inj e)
abbrev Ay(K:Pa)(x:Str)(s:PB)(d:V):Prop:=∃(f T:O4)(v oc:E9)(od:Option O4)(kV dc pm:E9)(an:Option O4)(cd ct:E9)(sl tl:Array (Option E9))(n:Nat),Vb K Pw x=Vn (Vn (.ref f))/\K.lookup f=Vn {oc,od,.func (Qo x x (bF s) (bh s) (aq s) (.ref T) kV dc pm an cd ct),sl}/\RA K cd x=true/\Qs K (.ref f)=true/\K.lookup T=Vn {.type "tuple",Vo,.seq #[v] n,tl}/\Vr d v
theorem Kz{K:Pa}{mg:Str->Option E9}{h:PH}{x a b:Str}{s:PB}{d:V}(X:K.In h)(G:h.Ns Pw mg)(t:Ay K x s d)
  (b1:∀(T:O4)(v kV dc pm:E9)(an:Option O4)(cd ct u u':E9),∃k,bindArgs (Qo x x (bF s) (bh s) (aq s) (.ref T) kV dc pm an cd ct) {[u,u'],[]}=Tt (.ref T)>>=k/\k (Vn #[v])=pure [(a,u),(b,u')])
  (b2:∀(T:O4)(v kV dc pm:E9)(an:Option O4)(cd ct u:E9),∃k,bindArgs (Qo x x (bF s) (bh s) (aq s) (.ref T) kV dc pm an cd ct) {[u],[]}=Tt (.ref T)>>=k/\k (Vn #[v])=pure [(a,u),(b,v)]):pX K mg x s [a,b] [d]:=by
 obtain⟨f,T,v,oc,od,kV,dc,pm,an,cd,ct,sl,tl,n,q,l,c,k,lt,r⟩:=t
 refine{f,oc,od,.ref T,kV,dc,pm,an,cd,ct,sl,[v],l,c,k,Ts X G q,.cons r .nil,λs' us hi hl=>?_,λs' us hi hl=>?_}
 ·rcases us with _|⟨u,_|⟨u',_|⟨_,_⟩⟩⟩
  ·cases hl
  ·cases hl
  ·obtain⟨g,e1,e2⟩:=b1 T v kV dc pm an cd ct u u';exact Qu rfl (hi T _ lt) rfl e1 e2
  simp at hl
 rcases us with _|⟨u,_|⟨_,_⟩⟩
 ·cases hl
 ·obtain⟨g,e1,e2⟩:=b2 T v kV dc pm an cd ct u;exact Qu rfl (hi T _ lt) rfl e1 e2
 simp at hl
noncomputable abbrev FnE(x:Str)(s:PB)(T:O4)(kV dc pm:E9)(an:Option O4)(cd ct:E9):QA:=Qo x x (bF s) (bh s) (aq s) (.ref T) kV dc pm an cd ct
theorem JM{K:Pa}{mg:Str->Option E9}{h:PH}{x:Str}{ps:List Str}{s:PB}{d:V}(X:K.In h)(G:h.Ns Pw mg)(t:Ay K x s d)
  (b1:∀(T:O4)(v kV dc pm:E9)(an:Option O4)(cd ct:E9)(us:List E9),us.length=ps.length->∃k,bindArgs (FnE x s T kV dc pm an cd ct) {us,[]}=Tt (.ref T)>>=k/\k (Vn #[v])=pure (ps.zip us))
  (b2:∀(T:O4)(v kV dc pm:E9)(an:Option O4)(cd ct:E9)(us:List E9),us.length=ps.length-1->∃k,bindArgs (FnE x s T kV dc pm an cd ct) {us,[]}=Tt (.ref T)>>=k/\k (Vn #[v])=pure (ps.zip (us++[v])))
  (b3:∀(T:O4)(v kV dc pm:E9)(an:Option O4)(cd ct u:E9)(us:List E9),us.length=ps.length-1->∃k,bindArgs (FnE x s T kV dc pm an cd ct) {us,[(ps.getLastD Pq,u)]}=Tt (.ref T)>>=k/\k (Vn #[v])=pure (ps.zip (us++[u]))):pF K mg x s ps [d]:=by
 obtain⟨f,T,v,oc,od,kV,dc,pm,an,cd,ct,sl,tl,n,q,l,c,k,lt,r⟩:=t
 refine{f,oc,od,.ref T,kV,dc,pm,an,cd,ct,sl,[v],l,c,k,Ts X G q,.cons r .nil,λs' us hi hl=>?_,λs' us hi hl=>?_,{λs' us ws hi hl=>?_,λa b=>a.append (b.take 1)}}
 ·rw[MP]at hl⊢;obtain⟨g,e1,e2⟩:=b1 T v kV dc pm an cd ct us hl;exact Qu rfl (hi T _ lt) rfl e1 e2
 ·rw[Mo,Mr]at hl;obtain⟨g,e1,e2⟩:=b2 T v kV dc pm an cd ct us ();exact Qu rfl (hi T _ lt) rfl e1 e2
 cases ws with
 |nil=>
  have hl:(us++[]).length=ps.length:=hl
  rw[MP]at hl
  show SN _ _ {us,[]} (ps.zip (us++[]))
  rw[MP]
  obtain⟨g,e1,e2⟩:=b1 T v kV dc pm an cd ct us hl
  exact Qu rfl (hi T _ lt) rfl e1 e2
 |cons u r=>
  have hl:(us++[u]).length=ps.length:=hl
  rw[Mo,Mr]at hl
  obtain⟨g,e1,e2⟩:=b3 T v kV dc pm an cd ct u us ()
  exact Qu rfl (hi T _ lt) rfl e1 e2
theorem ar1{p:List E9->Prop}(h:∀a0,p [a0]):∀us:List E9,us.length=1->p us:=arS λa0=>ar0 (h a0)
theorem ar2{p:List E9->Prop}(h:∀a0 a1,p [a0,a1]):∀us:List E9,us.length=2->p us:=arS λa0=>arS λa1=>ar0 (h a0 a1)
theorem ar3{p:List E9->Prop}(h:∀a0 a1 a2,p [a0,a1,a2]):∀us:List E9,us.length=3->p us:=arS λa0=>arS λa1=>arS λa2=>ar0 (h a0 a1 a2)
theorem ar4{p:List E9->Prop}(h:∀a0 a1 a2 a3,p [a0,a1,a2,a3]):∀us:List E9,us.length=4->p us:=arS λa0=>arS λa1=>arS λa2=>arS λa3=>ar0 (h a0 a1 a2 a3)
theorem ar5{p:List E9->Prop}(h:∀a0 a1 a2 a3 a4,p [a0,a1,a2,a3,a4]):∀us:List E9,us.length=5->p us:=arS λa0=>arS λa1=>arS λa2=>arS λa3=>arS λa4=>ar0 (h a0 a1 a2 a3 a4)
theorem ar7{p:List E9->Prop}(h:∀a0 a1 a2 a3 a4 a5 a6,p [a0,a1,a2,a3,a4,a5,a6]):∀us:List E9,us.length=7->p us:=arS λa0=>arS λa1=>arS λa2=>arS λa3=>arS λa4=>arS λa5=>arS λa6=>ar0 (h a0 a1 a2 a3 a4 a5 a6)
theorem all_mk{l:Uu}{w:Pf}{K:Pa}{h:PH}{mg:Str->Option E9}{fa:O4}(A:Adr)(X:K.In h)(G:h.Ns Pw mg)(hfa:mg "law"=Vn (.ref fa))
 (t1:bZ K "names_in" nJ) (t2:bZ K "each_once" lJ) (t3:bZ K "exact_of" nY) (t4:bZ K "exact_of_row" iH)
 (t5:bZ K "one_more" oi) (t6:bZ K "exact_of_if" jd) (t7:bZ K "exact_of_loop" gn) (t8:bZ K "balanced" oe)
 (t9:bZ K "exacts" sZ) (t10:bZ K "row_place" mC) (t11:bZ K "laid_rows" lL) (t12:bZ K "laid_inside" jC)
 (t13:bZ K "laid_program" iC) (t14:bZ K "is_place" og) (t15:bZ K "head_places" jM) (t16:bZ K "places" rZ)
 (t17:bZ K "drawn" wH) (t18:bZ K "row_links" lX) (t19:bZ K "said_links" km) (t20:bZ K "called_links" iN)
 (t21:bZ K "step_links" kD) (t22:Ay K "links" vY (.bl false)) (t23:bZ K "sources" qg) (t24:bZ K "ways_of" pR)
 (t25:bZ K "arrivals" nQ) (t26:Ay K "reached" qb (.bl false)) (t27:bZ K "_law_cell_at" jD) (t28:bZ K "_law_more" oh)
 (t29:bZ K "_law_mix" pT) (t30:bZ K "_law_names" mE) (t31:bZ K "_law_pick" nU) (t32:bZ K "_law_heads" lG)
 (t33:bZ K "_law_scope" mQ) (t34:bZ K "_law_thing" kY) (t35:bZ K "_law_value" lI) (t36:bZ K "_law_plain" lC)
 (t37:bZ K "_law_opened" kE) (t38:bZ K "_law_closed" j8) (t39:bZ K "_law_row" pH) (t40:bZ K "_law_body" nX)
 (t41:bZ K "_law_flat" ou) (t42:bZ K "_law_row_made" iB) (t43:bZ K "_law_rows_made" gz) (t44:bZ K "_law_program" jk)
 (t45:bZ K "_law_exact" mJ) (t46:bZ K "_law_even_row" hE) (t47:bZ K "_law_evened_by" gh) (t48:bZ K "_law_closed_set" fI)
 (t49:bZ K "_law_sources" js) (t50:bZ K "law" tG) (wu:NsI K "bool") (qi:NsI K "dict")
 (zU:NsI K "int") (aE:NsI K "isinstance") (fX:NsI K "len") (dm:NsI K "list")
 (Bj:NsI K "max") (dz:NsI K "range") (mK:NsI K "sorted") (yv:NsI K "str")
 (q0:NsI K "tuple") (Af:NsI K "zip") (g_CLOCK:∃k:Tok,Vb K Pw "CLOCK"=Vn (Vn (.str "the clock" k))) (cg:Rh K (.builtin "object.__class__") "__get__"=Vn (Vn (.builtin "getset_descriptor.__get__")))
 (ct:Uz K (.builtin "object.__class__")=Vn true) (x_Row:nq K A.Row "Row" [A.Row]) (x_HandRow:nq K A.cu "HandRow" [A.cu,A.Row]) (x_GivenRow:nq K A.bI "GivenRow" [A.bI,A.Row])
 (x_OwnRow:nq K A.du "OwnRow" [A.du,A.Row]) (x_LetRow:nq K A.dw "LetRow" [A.dw,A.Row]) (x_SetRow:nq K A.cO "SetRow" [A.cO,A.Row]) (x_PutRow:nq K A.cz "PutRow" [A.cz,A.Row])
 (x_SendRow:nq K A.bS "SendRow" [A.bS,A.Row]) (x_SayRow:nq K A.cN "SayRow" [A.cN,A.Row]) (x_CallRow:nq K A.cq "CallRow" [A.cq,A.Row]) (x_LastRow:nq K A.dy "LastRow" [A.dy,A.Row])
 (x_IfRow:nq K A.cP "IfRow" [A.cP,A.Row]) (x_LoopRow:nq K A.bx "LoopRow" [A.bx,A.Row]) (x_DeedRow:nq K A.bO "DeedRow" [A.bO,A.Row]) (x_Program:nq K A.Program "Program" [A.Program])
 (m1:jx K A.Row "__init__" "Row.__init__" fC) (m2:jx K A.cu "__init__" "HandRow.__init__" gT) (m3:jx K A.bI "__init__" "GivenRow.__init__" gg) (m4:jx K A.du "__init__" "OwnRow.__init__" jh)
 (m5:jx K A.dw "__init__" "LetRow.__init__" jg) (m6:jx K A.cO "__init__" "SetRow.__init__" jL) (m7:jx K A.cO "reads" "SetRow.reads" iQ) (m8:jx K A.cz "__init__" "PutRow.__init__" ju)
 (m9:jx K A.cz "reads" "PutRow.reads" iu) (m10:jx K A.bS "__init__" "SendRow.__init__" iS) (m11:jx K A.bS "reads" "SendRow.reads" gb) (m12:jx K A.cN "__init__" "SayRow.__init__" jy)
 (m13:jx K A.cq "__init__" "CallRow.__init__" ip) (m14:jx K A.dy "__init__" "Row.__init__" fC) (m15:jx K A.cP "__init__" "IfRow.__init__" kj) (m16:jx K A.cP "reads" "IfRow.reads" jq)
 (m17:jx K A.bx "__init__" "LoopRow.__init__" gS) (m18:jx K A.bx "reads" "LoopRow.reads" gq) (m19:jx K A.bO "__init__" "DeedRow.__init__" iO) (m20:jx K A.Program "__init__" "Program.__init__" ij)
 (n1:NoI K A.cu "name") (n2:NoI K A.cu "rank") (n3:NoI K A.cu "number") (n4:NoI K A.bI "name")
 (n5:NoI K A.bI "rank") (n6:NoI K A.bI "size") (n7:NoI K A.bI "number") (n8:NoI K A.du "name")
 (n9:NoI K A.du "size") (n10:NoI K A.du "number") (n11:NoI K A.dw "name") (n12:NoI K A.dw "rank")
 (n13:NoI K A.dw "number") (n14:NoI K A.cO "name") (n15:NoI K A.cO "value") (n16:NoI K A.cO "number")
 (n17:NoI K A.cz "name") (n18:NoI K A.cz "place") (n19:NoI K A.cz "value") (n20:NoI K A.cz "number")
 (n21:NoI K A.bS "name") (n22:NoI K A.bS "value") (n23:NoI K A.bS "number") (n24:NoI K A.cN "name")
 (n25:NoI K A.cN "value") (n26:NoI K A.cN "mark") (n27:NoI K A.cN "number") (n28:NoI K A.cq "name")
 (n29:NoI K A.cq "things") (n30:NoI K A.cq "number") (n31:NoI K A.dy "number") (n32:NoI K A.cP "value")
 (n33:NoI K A.cP "first") (n34:NoI K A.cP "other") (n35:NoI K A.cP "left") (n36:NoI K A.cP "right")
 (n37:NoI K A.cP "number") (n38:NoI K A.bx "thing") (n39:NoI K A.bx "most") (n40:NoI K A.bx "body")
 (n41:NoI K A.bx "left") (n42:NoI K A.bx "right") (n43:NoI K A.bx "number") (n44:NoI K A.bO "name")
 (n45:NoI K A.bO "parts") (n46:NoI K A.bO "body") (n47:NoI K A.bO "number") (n48:NoI K A.Program "heads")
 (n49:NoI K A.Program "deeds") (n50:NoI K A.Program "main") (y_Row_init:Rh K (.ref A.Row) "__getattribute__"=Vn (Vn (.builtin "type.__getattribute__"))/\W.readsIn K A.Row (.type "type")=true/\∃f,Qm K (.ref A.Row) "__init__"=Vn (Vn (.ref f))/\W.findCls K (.ref A.Row) (.type "type") "__init__"=Vn (.val (.ref f))) (nod:[A.Row,A.cu,A.bI,A.du,A.dw,A.cO,A.cz,A.bS,A.cN,A.cq,A.dy,A.cP,A.bx,A.bO,A.Program].Nodup)
:∃fd:QA,(∀(s:O5)(v:E9),SN s fd {[v],[]} [("_law_script",v)])/\∀base:PH,K.In base->base.Ns Pw mg->jY l.prog w K mg base CX0 30 fa fd ["_law_script"] (vE K):=by
 have T:Txt K mg A:={
  sV:=b6 X G t1 λ_ _ _ _ _ _=>ar1 λ_=>rfl,p6:=b6 X G t2 λ_ _ _ _ _ _=>ar1 λ_=>rfl,dQ:=b6 X G t3 λ_ _ _ _ _ _=>ar2 λ_ _=>rfl,
  eV:=b6 X G t4 λ_ _ _ _ _ _=>ar2 λ_ _=>rfl,rn:=b6 X G t5 λ_ _ _ _ _ _=>ar1 λ_=>rfl,i5:=b6 X G t6 λ_ _ _ _ _ _=>ar2 λ_ _=>rfl,
  fQ:=b6 X G t7 λ_ _ _ _ _ _=>ar2 λ_ _=>rfl,balanced:=b6 X G t8 λ_ _ _ _ _ _=>ar2 λ_ _=>rfl,yM:=b6 X G t9 λ_ _ _ _ _ _=>ar1 λ_=>rfl,
  pD:=b6 X G t10 λ_ _ _ _ _ _=>ar1 λ_=>rfl,gO:=b6 X G t11 λ_ _ _ _ _ _=>ar3 λ_ _ _=>rfl,i4:=b6 X G t12 λ_ _ _ _ _ _=>ar2 λ_ _=>rfl,
  j4:=b6 X G t13 λ_ _ _ _ _ _=>ar1 λ_=>rfl,tS:=b6 X G t14 λ_ _ _ _ _ _=>ar1 λ_=>rfl,mf:=b6 X G t15 λ_ _ _ _ _ _=>ar1 λ_=>rfl,
  places:=b6 X G t16 λ_ _ _ _ _ _=>ar1 λ_=>rfl,drawn:=b6 X G t17 λ_ _ _ _ _ _=>ar4 λ_ _ _ _=>rfl,pv:=b6 X G t18 λ_ _ _ _ _ _=>ar4 λ_ _ _ _=>rfl,
  nS:=b6 X G t19 λ_ _ _ _ _ _=>ar2 λ_ _=>rfl,j6:=b6 X G t20 λ_ _ _ _ _ _=>ar3 λ_ _ _=>rfl,nI:=b6 X G t21 λ_ _ _ _ _ _=>ar2 λ_ _=>rfl,
  links:=Kz X G t22 (λ_ _ _ _ _ _ _ _ _ _=>{_,rfl,rfl}) (λ_ _ _ _ _ _ _ _ _=>{_,rfl,rfl}),sources:=b6 X G t23 λ_ _ _ _ _ _=>ar1 λ_=>rfl,wY:=b6 X G t24 λ_ _ _ _ _ _=>ar2 λ_ _=>rfl,
  rH:=b6 X G t25 λ_ _ _ _ _ _=>ar2 λ_ _=>rfl,vA:=JM X G t26 (λ_ _ _ _ _ _ _ _=>ar3 λ_ _ _=>{_,rfl,rfl}) (λ_ _ _ _ _ _ _ _=>ar2 λ_ _=>{_,rfl,rfl}) (λ_ _ _ _ _ _ _ _ _=>ar2 λ_ _=>{_,rfl,rfl}),lR:=b6 X G t27 λ_ _ _ _ _ _=>ar2 λ_ _=>rfl,
  rB:=b6 X G t28 λ_ _ _ _ _ _=>ar3 λ_ _ _=>rfl,vU:=b6 X G t29 λ_ _ _ _ _ _=>ar2 λ_ _=>rfl,qh:=b6 X G t30 λ_ _ _ _ _ _=>ar3 λ_ _ _=>rfl,
  rL:=b6 X G t31 λ_ _ _ _ _ _=>ar2 λ_ _=>rfl,qe:=b6 X G t32 λ_ _ _ _ _ _=>ar2 λ_ _=>rfl,pE:=b6 X G t33 λ_ _ _ _ _ _=>ar2 λ_ _=>rfl,
  qa:=b6 X G t34 λ_ _ _ _ _ _=>ar2 λ_ _=>rfl,pM:=b6 X G t35 λ_ _ _ _ _ _=>ar2 λ_ _=>rfl,pj:=b6 X G t36 λ_ _ _ _ _ _=>ar3 λ_ _ _=>rfl,
  nW:=b6 X G t37 λ_ _ _ _ _ _=>ar4 λ_ _ _ _=>rfl,nN:=b6 X G t38 λ_ _ _ _ _ _=>ar1 λ_=>rfl,wG:=b6 X G t39 λ_ _ _ _ _ _=>ar3 λ_ _ _=>rfl,
  tN:=b6 X G t40 λ_ _ _ _ _ _=>ar4 λ_ _ _ _=>rfl,rW:=b6 X G t41 λ_ _ _ _ _ _=>ar2 λ_ _=>rfl,kg:=b6 X G t42 λ_ _ _ _ _ _=>ar2 λ_ _=>rfl,
  dh:=b6 X G t43 λ_ _ _ _ _ _=>ar2 λ_ _=>rfl,kZ:=b6 X G t44 λ_ _ _ _ _ _=>ar1 λ_=>rfl,gN:=b6 X G t45 λ_ _ _ _ _ _=>ar3 λ_ _ _=>rfl,
  kr:=b6 X G t46 λ_ _ _ _ _ _=>ar3 λ_ _ _=>rfl,jr:=b6 X G t47 λ_ _ _ _ _ _=>ar2 λ_ _=>rfl,gU:=b6 X G t48 λ_ _ _ _ _ _=>ar2 λ_ _=>rfl,
  lT:=b6 X G t49 λ_ _ _ _ _ _=>ar2 λ_ _=>rfl,wu:=Qk X G wu,qi:=Qk X G qi,
  zU:=Qk X G zU,aE:=Qk X G aE,fX:=Qk X G fX,
  dm:=Qk X G dm,Bj:=Qk X G Bj,dz:=Qk X G dz,
  mK:=Qk X G mK,yv:=Qk X G yv,q0:=Qk X G q0,
  Af:=Qk X G Af,qV:=g_CLOCK.imp λ_ e=>Ts X G e,jW:=nZ X G cg ct x_Row,
  su:=jS m1 λ_ _ _ _ _ _=>ar2 λ_ _=>rfl,jQ:=nZ X G cg ct x_HandRow,iL:=jS m2 λ_ _ _ _ _ _=>ar4 λ_ _ _ _=>rfl,
  lr:=n1,lK:=n2,fu:=n3,
  cL:=nZ X G cg ct x_GivenRow,gc:=jS m3 λ_ _ _ _ _ _=>ar5 λ_ _ _ _ _=>rfl,dY:=n4,
  gj:=n5,kP:=n6,eZ:=n7,
  hX:=nZ X G cg ct x_OwnRow,i6:=jS m4 λ_ _ _ _ _ _=>ar4 λ_ _ _ _=>rfl,jE:=n8,
  nG:=n9,gi:=n10,dX:=nZ X G cg ct x_LetRow,
  jw:=jS m5 λ_ _ _ _ _ _=>ar4 λ_ _ _ _=>rfl,fM:=n11,ja:=n12,
  gy:=n13,eU:=nZ X G cg ct x_SetRow,jj:=jS m6 λ_ _ _ _ _ _=>ar4 λ_ _ _ _=>rfl,
  iw:=jS m7 λ_ _ _ _ _ _=>ar1 λ_=>rfl,je:=n14,iA:=n15,
  gC:=n16,dU:=nZ X G cg ct x_PutRow,jB:=jS m8 λ_ _ _ _ _ _=>ar5 λ_ _ _ _ _=>rfl,
  iF:=jS m9 λ_ _ _ _ _ _=>ar1 λ_=>rfl,jA:=n17,gY:=n18,
  iE:=n19,gw:=n20,dg:=nZ X G cg ct x_SendRow,
  gW:=jS m10 λ_ _ _ _ _ _=>ar4 λ_ _ _ _=>rfl,f9:=jS m11 λ_ _ _ _ _ _=>ar1 λ_=>rfl,lF:=n21,
  gk:=n22,fE:=n23,b8:=nZ X G cg ct x_SayRow,
  jf:=jS m12 λ_ _ _ _ _ _=>ar5 λ_ _ _ _ _=>rfl,fK:=n24,lg:=n25,
  i7:=n26,bU:=n27,cD:=nZ X G cg ct x_CallRow,
  iz:=jS m13 λ_ _ _ _ _ _=>ar4 λ_ _ _ _=>rfl,dJ:=n28,fF:=n29,
  cU:=n30,gL:=nZ X G cg ct x_LastRow,lZ:=jS m14 λ_ _ _ _ _ _=>ar2 λ_ _=>rfl,
  fD:=n31,bY:=nZ X G cg ct x_IfRow,kq:=jS m15 λ_ _ _ _ _ _=>ar7 λ_ _ _ _ _ _ _=>rfl,
  jJ:=jS m16 λ_ _ _ _ _ _=>ar1 λ_=>rfl,jm:=n32,fS:=n33,
  fP:=n34,gE:=n35,jI:=n36,
  gZ:=n37,bA:=nZ X G cg ct x_LoopRow,ic:=jS m17 λ_ _ _ _ _ _=>ar7 λ_ _ _ _ _ _ _=>rfl,
  gm:=jS m18 λ_ _ _ _ _ _=>ar1 λ_=>rfl,gu:=n38,iy:=n39,
  fe:=n40,gX:=n41,ez:=n42,
  fH:=n43,b7:=nZ X G cg ct x_DeedRow,ig:=jS m19 λ_ _ _ _ _ _=>ar5 λ_ _ _ _ _=>rfl,
  cS:=n44,eg:=n45,eY:=n46,
  fw:=n47,df:=nZ X G cg ct x_Program,gP:=jS m20 λ_ _ _ _ _ _=>ar4 λ_ _ _ _=>rfl,
  dZ:=n48,cB:=n49,gQ:=n50,
  bH:=⟨y_Row_init.1,y_Row_init.2.1,y_Row_init.2.2⟩,nd:=nod }
 have F:bf K mg "law" tG ["_law_script"]:=b6 X G t50 λ_ _ _ _ _ _=>ar1 λ_=>rfl;obtain⟨f,a,oc,od,kV,dc,pm,an,cd,ct,sl,lk,_,_⟩:=t50;refine{Qo "law" "law" (bF tG) (bh tG) (aq tG) .none kV dc pm an cd ct,λs v=>.of_eq rfl,λbase _ _=>?_};have e:=hfa.symm.trans (Ts X G a);cases e;exact II (Kd (P:=l.prog) (w:=w) (base:=base) T F) (Ts X G a) lk
theorem walk{l:Uu}{q:Program}{loose:List Str}{XP:(Str->Option E9)->PH->Prop}{YP:Pf->PH->Prop}{d:DefRec}{K:QR->Pa}(hn:l.most=Vn 63)(hdf:d.params.defaults=[])(hY:∀(w:Pf)(h:PH),YP w h->(K w.params).In h)
  (F:∀(w:Pf)(mg:Str->Option E9)(fa:O4)(h:PH),(K w.params).In h->h.Ns Pw mg->mg d.name=Vn (.ref fa)->∃fd:QA,(∀(s:O5)(u:E9),SN s fd {[u],[]} [("_law_script",u)])/\∀base:PH,(K w.params).In base->base.Ns Pw mg->jY l.prog w (K w.params) mg base CX0 30 fa fd ["_law_script"] (vE (K w.params))) :
  W.WalkO q loose XP YP l.row.toRowW d [] (λf vs=>U7 f vs):=
 L2.Fv (n:=63) (k:=30) (x:="_law_script") (CX:=λ_=>CX0) (sp:=λw=>vE (K w.params)) hn ∅ hdf {rfl,∅,∅} hY F (λ_ _ a ns hl _ hS=>{a,ns,rfl,hS,hl,λ_=>rfl}) λ_ _ _ _ _ z=>z
end K33
open PySem PySem.W PyProof.Rows
set_option maxRecDepth 100000 in
set_option maxHeartbeats 0 in
theorem PySem.Challenge.cw_hushrow_k33_reached_holds : PySem.Challenge.rw_hushrow_k33_reached.Holds := by
 w_on;o_law
 refine W.holds_open (q:=K33.fZ) (loose:=["links","reached"]) (Xt:=K33.test) (XP:=W.XL K33.fZ []) (Yf:=(Uc K33.heapK K33.qt K33.jO).obs) (Ya:=(Uc K33.heapK K33.qt K33.jO).val) (YP:=(Uc K33.heapK K33.qt K33.jO).says) (N:=12266) K33.left (Uc K33.heapK K33.qt K33.jO).of (Uc K33.heapK K33.qt K33.jO).keeps
  (λs e=>W.xl_of s (Bool.and_eq_true_iff.mp e).1) W.XL.keeps (by rfl) (by rfl) (by rfl) (λs e=>W.recFacts_of (Bool.and_eq_true_iff.mp e).2) ?h4 ?h5 ?h6 {rfl,rfl,rfl,rfl,rfl,by decide+kernel} ?hw ?hc
 (case h4=>rfl);(case h5=>first|assumption|decide+kernel);(case h6=>decide+kernel);(case hw=>w_witness2)
 k_fill
 refine K33.walk (l:=PySem.Challenge.rw_hushrow_k33_reached) rfl rfl (λw h Y=>W.kIn_of Y) ?F;case F=>
  intro w mg fa h KX G hmg;refine K33.all_mk ⟨66,94,120,146,172,212,252,285,325,356,375,408,441,467,486⟩ KX G hmg ?_ ?_ ?_ ?_ ?_ ?_ ?_ ?_ ?_ ?_ ?_ ?_ ?_ ?_ ?_ ?_ ?_ ?_ ?_ ?_ ?_ ?_ ?_ ?_ ?_ ?_ ?_ ?_ ?_ ?_ ?_ ?_ ?_ ?_ ?_ ?_ ?_ ?_ ?_ ?_ ?_ ?_ ?_ ?_ ?_ ?_ ?_ ?_ ?_ ?_ ?_ ?_ ?_ ?_ ?_ ?_ ?_ ?_ ?_ ?_ ?_ ?_ ?_ ?_ ?_ ?_ ?_ ?_ ?_ ?_ ?_ ?_ ?_ ?_ ?_ ?_ ?_ ?_ ?_ ?_ ?_ ?_ ?_ ?_ ?_ ?_ ?_ ?_ ?_ ?_ ?_ ?_ ?_ ?_ ?_ ?_ ?_ ?_ ?_ ?_ ?_ ?_ ?_ ?_ ?_ ?_ ?_ ?_ ?_ ?_ ?_ ?_ ?_ ?_ ?_ ?_ ?_ ?_ ?_ ?_ ?_ ?_ ?_ ?_ ?_ ?_ ?_ ?_ ?_ ?_ ?_ ?_ ?_ ?_ ?_ ?_ ?_ ?_ ?_ ?_ ?_ ?_ ?_ ?_ ?_ ?_ ?_ ?_ ?_ ?_ ?_ ?_;iterate 21 exact{_,by k_is,_,_,_,_,_,_,_,_,_,by k_is,by k_is,by k_is}
  iterate 1 exact{_,_,_,_,_,_,_,_,_,_,_,_,_,_,by k_is,by k_is,by k_is,by k_is,by k_is,by first|rfl|exact{_,rfl}}
  iterate 3 exact{_,by k_is,_,_,_,_,_,_,_,_,_,by k_is,by k_is,by k_is}
  iterate 1 exact{_,_,_,_,_,_,_,_,_,_,_,_,_,_,by k_is,by k_is,by k_is,by k_is,by k_is,by first|rfl|exact{_,rfl}}
  iterate 24 exact{_,by k_is,_,_,_,_,_,_,_,_,_,by k_is,by k_is,by k_is}
  iterate 12 (show _=_;k_is)
  iterate 1 exact{_,by k_is}
  iterate 2 (show _=_;k_is)
  iterate 15 exact{by k_is,{_,by k_is,rfl},by k_is,by k_is,by k_is,by k_is,by k_is,by k_is,by k_is,by k_is}
  iterate 20 exact{_,by k_is,by k_is,_,_,_,_,_,_,_,_,_,by k_is,by k_is,by k_is}
  iterate 50 (show _=_;k_is)
  iterate 1 exact{by k_is,by k_is,_,by k_is,by k_is}
  iterate 1 decide

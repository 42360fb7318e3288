import PyProof.Rows.All
import Wide.All
import OpenK.AllK
import PySem.Challenge.RW_hushrow_k63_told_apart
open PySem renaming Addr->OW,Value->OX,wpAny_bind->OY,Shared->O0,wpAny_pure->O4,starEach->O5,World->O7,model->Pb,mainGlobals->Pf,compareOp->Pg,mem_of_lookup->Ph,Stmt->Pj,Heap->Pk,importedModules->Pl,treeTable->Pp,Around->Py,cellsFrom->Pz,sysModules->PB,eval->PD,wpAny_truthy_bool->PJ,binaryOp->PK,wpAny_dictEntries->PM,backTo->PR,Str->PU,OsState->P0,bootBuiltins->P1,attributeBase->P4,wpAny_mono->P5,wpAny_passesOwn->P8,cLine->P9,FuncData->Qa,NameKind->Qc,wpAny_getItem_str_slice->Qd,wpAny_Call_Name_kw->Qh,Params->Qj,wpAny_notOrdered_dict->Qk,wpAny_newObj_type->Ql,wpAny_richCompare_same_room->Qm,sizeLine_eq->Qo,keywordEach->Qq,behindInMarks->Qx,holding->QA,pushCells_keeps->QB,tupleKind_room_in1->QC,sliceBounds->QE,wpAny_call_entry->QP,pushCells->QQ,Keyword->QS,wpAny_execs_nil->QV,letOwnedTupleGo->QW,post_val_or_str->QZ,codeAny_builtin->Q0,Spec->Q7,Scope->Q8,assignEach->Rb,backToKw->Rh,call_meets->Ro,PyData->Rp,wpAny_pyIter_list->Rv,plainId_quiet->RC,tupleKind->RH,wpAny_isInstance->RN,Builtin->RO,builtinsNs->RQ,wpAny_pyNext_list_item->RT,codeAny_mono->RW,wpAny_dictEpoch->Sb,wpAny_pyNext_list_end->Sd,wpAny_loadName_local->So,bindArgs->Sr,isSubtype_type->Sw,swapsWith->SH,getMethod->SJ,BindsTo->SK,getItem->SM,callerA->SN,wpAny_loadName_cell->SQ,wpAny_standAt->SX,IsPart->S9,typeIs_str->Ta,wpAny_pyIter_tuple->Ti,getattributeRaised->Ts,Within->TJ,standAt->TK,wpAny_typeOf->TV,seqIndex_neg->TY,call_meetsIn->Ua,wpAny_pyIter_enum->Uc,wpAny_dictFind_of->Ud,argBest->Ug,intItems->Uh,wpAny_execs_cons->Ul,noFill_tuple_add->Up,wpAny_forIn_list->Us,wpAny_pyIter_zip->Ut,wpAny_field->UD,seqIndex_of->UE,atKey->UG,GenState->UP,wpAny_Name->UQ,recursionLimit->UT,bindL->UU,bindC->UW,typeIs_int->UY,call->U0,newFunctionEnv->U1,compPost->U2,DictEntry->U8,storeName->U9,inplaceOp->Va
open PySem.W renaming Frag->OZ,mg_none_of->Pn,kitOne->PL,findIn->PQ,emptyDict->Qf,topStub->Qg,kia_one->Qi,Frag->Qu,openSeen->Qw,keepIn->Qy,specialIn->QD,fnOf->QF,boot_drawn->QL,instObj->QN,cellsFrom_some->QO,boot_toks->Q3,openGood->RF,boot_heap->RG,plainGet->RU,mg_of->R7,hasDictIn->Sq,codeIn->Ss,plainGet_of->SY,nsIn->To,kHook->TF,callWith_K->TU,OpenLaw->Uj,boot_o_0->Uk,makesIn->Um,takesIn->Uo,methodObj->Uz,plainOver->UB,namesBound->UO,lookIn->US,staticsOk->U7,takerIn->Vb,isFn->Vc,mroIn->Vd
open Option.some renaming inj->O1,injEq->QH
open PySem.Heap renaming get?_push_of_some->O2,lt_size->O6,get?_push_size->Pe,size_push->P6,SameBut->Q2,get?_update_other->R0
open PySem.Paired renaming length->O3,snoc->Pm,snoc->Qn
open PySem.Value renaming ref->O8,type->QM,int->Q4,bool->RP,str->SG,isStrOf_shape->SO,isStrOf->SW,none->S4,isInt_shape->TH,isInt->Ux,float->Uy
open PySem.PassesOwn renaming never->O9
open List renaming range->Pc,replicate->Pd,Nodup->PC,lookup->Qp,take_append_of_le_length->QU,mem_of_find?_eq_some->Rt,getElem?_take_of_lt->Rz,eq_of_mem_replicate->RE,getElem?_replicate->RI,getElem?_set_self->RR,findIdx?_toArray->Si,getElem?_set_ne->Sn,dropLast_concat->Sz,mem_of_mem_drop->SD,mem_of_mem_take->SE,range_eq_range'->SF,filter_append->Tn,findIdx?_cons->Tt,map_replicate->Tv,zip_cons_cons->Tz,find?_eq_none->TB,length_zipIdx->TC,any_eq_false->TL,foldl_append->Ub,append_inj'->Uu,getElem_map->Uw,length->UC,length_set->UH,nil_append->UJ,foldl->UZ,nodup_nil->U5
open PySem.NameKind renaming cell->Po,free->PH
open PySem.SeqAt renaming shaped->Pq,EqAt->Rk
open PySem.Builtin.Dict renaming samePairs->Pu,dictSlotArgs->Px,updateFrom->RM,pairItems->R9,showsAll->Se
open PySem.PyData renaming strOk->Pw,eqv->QR,canLayAll0->Ui,depthAll->UN,canLay0->U6
open Option renaming none->PV,isSome_some->Tg,isSome_map->T9,getD_none->Uq,getD_some->Ur,some->Ve,none->Vf
open PySem.Builtin.Str renaming occurrences->PX,strKind->SR
open False renaming elim->PY
open PySem.MeetsSeq renaming plain_contains_loop->PZ,entry_contains_loop->Q1
open PyProof.Rows renaming callWith_type1->P2,slot_tuple_getitem->QJ,envOfC->QX,AllBare->Ru,subscriptTail_builtinR->RY,subscriptTail->S1,IntsAre->TX,slicePart_none->UX
open PySem.Builtin.Slice renaming slicePlaces->P7,sliceAdjust->Qv,sliceApplied->Ri
open PySem.Builtin.Tuple renaming tupleExact->Qb
open PySem.AutoSeq1 renaming wpAny_loadPart'->Qe
open PySem.Around renaming under_plainId->Qr,under->TM
open Std.Legacy.Range renaming forIn_eq_forIn_range'->Qs,size->Sh
open PySem.F renaming slot_dict_eq->Qt,slot_dict_get->QK,slot_list_contains->Rq,args_tuple_add_2->RA,entry_tuple_add->RJ,plainAttrs_list->RK,args_dict_get_2->RL,slot_tuple_add->RX,entry_dict_get->R8,args_dict_eq_2->Sa,entry_dict_eq->Sm,slot_dict_ne->Sx,slot_int_rmul->UK
open PySem.Builtin.List renaming listTooLong->Qz
open PySem.Calls renaming callWith_builtin->QG,Name_function_global->Q9,evalArgs_plain->Su,spliced_cons->S7,spliced_nil->TQ
open List.Sublist renaming refl->QI
open PySem.Value.ref renaming inj->QT
open ForInStep renaming yield->QY
open PySem.Str renaming empty->Q5
open Prod renaming ext->Q6
open Int renaming fdiv_eq_ediv_of_nonneg->Rc,toNat_of_nonneg->SU,emod_lt_of_pos->Tw,natCast_succ->Uv,emod_nonneg->UM
open PySem.SeqAt.EqAt renaming int_int->Rm,int_str->S2,str_int->S3,str_str->Te,same->UI
open Array renaming getElem?_eq_getElem->Rr,toArray_toList->Sv,toList_append->SS,size_append->Ue,size_map->U4
open List.cons renaming inj->RB
open PySem.Obj renaming mapSeq->RZ
open Nat renaming add_le_add_right->Sy,add_sub_cancel->Tu
open PySem.Data renaming cell->SI,fields->UA
open Bool renaming false_eq_true->Tf,false_and->UR
open PySem.Txt renaming slice_le->Tx
open PySem.Code renaming isFrame->TN
open List.Pairwise renaming nil->TZ
open PySem.Heap.DictOf renaming new->UL
open PySem.Walks renaming strAscii->U3
open List renaming mem_cons->Mf,mem_cons_self->Mg,getElem?_eq_getElem->Mh,mem_cons_of_mem->Mi,length_map->Mj,getElem?_eq_some_iff->Ml,length_append->Mn,mem_append->Mp,mem_singleton->Mq,mem_of_getElem?->Mr,not_mem_nil->Ms,getElem?_map->Mu,map_cons->Mv,nodup_cons->Mx,size_toArray->My,mem_map->Mz,mem_append_right->MA,length_cons->MD,getElem?_of_mem->ME,flatMap_cons->MG,map_append->MI,append_assoc->MK,mem_append_left->MN,nodup_append->MP,getD_eq_getElem?_getD->MQ,append_nil->MR,length_singleton->MS,mem_range->MV,getElem?_eq_none->MW,replicate_succ->MX,mem_filter->MY,filter_cons->MZ,find?_cons->Na,length_take->Nb,take_length->Nc,length_filter_le->Nd,take_add_one->Nf,take_of_length_le->Nh,any_eq_true->Ni,mem_flatMap->Nj,getElem?_append_left->Nn,flatMap_append->Np,getElem?_append_right->Nt,reverse_cons->Nw,length_replicate->Nz,getElem?_zip_eq_some->NA,lookup_cons->NC,take_append_drop->ND,any_cons->NF,sum_cons->NG,drop_eq_getElem_cons->NH,range'->NI,length_drop->NK,all_eq_true->NL,getElem?_range->NM,getElem?_cons_zero->NN,flatten_cons->NO,map_map->NV,getElem_inj->NW,flatMap_nil->NX,getElem?_zipIdx->NY,mem_map_of_mem->N0,map_congr_left->Oa,getElem?_eq_none_iff->Oc,length_range'->Og,take_zero->Oh,getElem?_cons_succ->Oi,length_range->Oj,ext_getElem?->Ol,map_nil->Ot,foldl_cons->Ou,filter_map->Ov,length_nil->Ow,map_id'->Ox,length_zip->Oy,filterMap_cons->OB,length_pos_iff->OD,mem_filterMap->OG,mem_range'_1->OI,cons_append->OK,of_mem_zip->OL,range_succ->OM,any_map->OR
open Nat renaming le_refl->Mo,zero_le->MB,le_trans->MC,lt_of_lt_of_le->MH,le_succ_of_le->ML,ne_of_lt->MU,le_add_right->Nv,lt_irrefl->Ny,lt_succ_self->NJ,lt_succ_of_lt->NP,ne_of_gt->NT,le_succ->NZ,lt_of_le_of_lt->Oe,succ_le_succ->Oo,le_of_lt->OJ,le_of_eq->OP,sub_zero->OQ,min_self->OS
open Or renaming inl->Mt,inr->MJ
open Bool renaming false_ne_true->Mw,eq_iff_iff->Nx,and_eq_true->NB,eq_false_iff->NQ,noConfusion->Oq,and_eq_true_iff->OA,true_and->OO
open Int renaming le_refl->MF,mul_le_mul_of_nonneg_left->MM,mul_nonneg->MT,toNat_natCast->Nq,mul_le_mul_of_nonneg_right->Nu,zero_add->Of,le_trans->Oz,mul_add->OF,one_mul->ON,add_mul->OT
open True renaming intro->MO
open Option renaming map_eq_some_iff->Ng,map_some->Ob,isSome_iff_exists->Od
open Ne renaming symm->Nm
open Sum renaming inr->Nr,inl->OE
open Array renaming getElem?_toList->NU,mk->Om,length_toList->OC,getElem_mem->OH
set_option Elab.async false
set_option linter.all false
set_option genSizeOf false
set_option bootstrap.genMatcherCode false
set_option compiler.extract_closed false
set_option maxRecDepth 100000
namespace Hd
open PySem PySem.W PySem.Calls PyProof.Rows
noncomputable def lV(tb:String->Option RO)(p:Program)(w:O7)(n₀:Nat)(ann:Option OX):Nat->SharedT->Thread->Option SharedT
 |0,_,_=>Vf
 |n+1,s,t=>match through t with
  |true=>Ve s
  |false=>match stepOk n₀ ann t with
   |false=>Vf
   |true=>match stepT (denote tb) p w s t with
    |some (s',t')=>lV tb p w n₀ ann n s' t'
    |none=>Vf
theorem DA{tb:String->Option RO}{p:Program}{w:O7}{n₀:Nat}{ann:Option OX}:∀{n:Nat}{s s':SharedT}{t:Thread},
  lV tb p w n₀ ann n s t=Ve s'->topRun tb p w n₀ ann n s.abs t=Ve s'.abs
 |0,_,_,_,h=>by cases h
 |n+1,s,s',t,h=>by
  unfold lV at h;unfold topRun;cases he:through t with
  |true=>rw[he]at h;cases h;rfl
  |false=>
   rw[he]at h;cases hk:stepOk n₀ ann t with
   |false=>rw[hk]at h;cases h
   |true=>
    rw[hk]at h;cases hs:stepT (denote tb) p w s t with
    |none=>rw[hs]at h;cases h
    |some r=>obtain⟨s₂,t₂⟩:=r;rw[hs]at h;rw[stepT_spec hs];exact DA h
noncomputable def Kg(p q:Program)(loose:List Str)(Xt:O0->Bool){α:Type}(Yf:O0->α)(g0:Bool)(H:Pk)(s:O0):=
 (U7 (Pl p.main.body) H s.heap&&UO p s.heap&&gensDone s&&laidKept H s.heap,Qw q loose (Pl p.main.body) Xt g0 s,Yf s)
def Dy(p:Program)(H:Pk)(s:O0):=U7 (Pl p.main.body) H s.heap&&UO p s.heap&&gensDone s&&laidKept H s.heap
def treeOf:List Obj->Nat->BT->BT
 | [],_,t=>t
 |o::r,i,t=>treeOf r (i+1) (t.ins i o)
theorem Gf{p q:Program}{loose:List Str}{Xt:O0->Bool}{α:Type}{Yf:O0->α}{Ya:O7->α}{N:Nat}{g0:Bool}{H₀:Qj->Pk}{gs₀:Array UP}{d₀:Drawn}{k₀ m₀ n₀:Nat}{ann:Option OX}{T₀:Qj->BT}{life:Life}
  (opn:∀w:O7,(fencedOpening Pp p w N).map (λs=>(s.heap,s.gens,s.drawn,s.toks))=Ve (H₀ w.params,gs₀,d₀,k₀))
  (size:∀w:O7,((H₀ w.params).isNs Pf&&gs₀.size==0,(H₀ w.params).objs.size,(H₀ w.params).nsMap Pf "__annotations__")=(true,m₀,ann))
  (tree:∀P:Qj,absHeap (T₀ P) n₀ life=H₀ P)
  (look:∀(w:O7)(os:P0),(lV Pp p w m₀ ann N ⟨T₀ w.params,n₀,life,gs₀,d₀,k₀,os⟩ (Qg p)).map (λs=>Kg p q loose Xt Yf g0 (H₀ w.params) s.abs)=Ve (true,RF q loose,Ya w)) :
  LeftO p q loose Xt Yf Ya N g0:=λw=>by
 obtain⟨⟨h,gs,d,k,os⟩,e,e'⟩:=Ng.mp (opn w)
 obtain⟨rfl,rfl,rfl,rfl⟩:h=H₀ w.params/\gs=gs₀/\d=d₀/\k=k₀:=by simpa using e'
 obtain⟨z1,z2,z3⟩:_/\_/\_:=by simpa only[Prod.mk.injEq] using size w
 obtain⟨s,hs,hl⟩:=Ng.mp (look w os)
 obtain⟨l1,l23⟩:=Prod.mk.inj hl
 obtain⟨l2,l3⟩:=Prod.mk.inj l23
 have r:=DA hs
 have t:topFrom Pp p w N ⟨H₀ w.params,gs,d,k,os⟩=Ve s.abs:=by
  unfold topFrom;dsimp only;rw[z1,z2,z3];unfold SharedT.abs at r;dsimp only at r;rw[tree w.params]at r;show(topRun Pp p w m₀ ann N ⟨H₀ w.params,gs,d,k,os⟩ (Qg p)).bind _=_;rw[r];show(match U7 (Pl p.main.body) (H₀ w.params) s.abs.heap&&UO p s.abs.heap&&gensDone s.abs&&laidKept (H₀ w.params) s.abs.heap with|true=>_|false=>_)=_;rw[l1];rfl
 unfold openEnds
 rw[e]
 show(topFrom Pp p w N _).map _=_
 rw[t]
 exact congrArg Ve (Q6 l2 l3)
theorem CD{p q:Program}{loose:List Str}{Xt:O0->Bool}{α:Type}{Yf:O0->α}{Ya:O7->α}{N:Nat}{g0:Bool}{H₀:Qj->Pk}{gs₀:Array UP}{d₀:Drawn}{k₀ m₀ n₀:Nat}{ann:Option OX}{T₀:Qj->BT}{life:Life}
  (opn:∀w:O7,(fencedOpening Pp p w N).map (λs=>(s.heap,s.gens,s.drawn,s.toks))=Ve (H₀ w.params,gs₀,d₀,k₀))
  (size:∀w:O7,((H₀ w.params).isNs Pf&&gs₀.size==0,(H₀ w.params).objs.size,(H₀ w.params).nsMap Pf "__annotations__")=(true,m₀,ann))
  (tree:∀P:Qj,absHeap (T₀ P) n₀ life=H₀ P)
  (look1:∀(w:O7)(os:P0),(lV Pp p w m₀ ann N ⟨T₀ w.params,n₀,life,gs₀,d₀,k₀,os⟩ (Qg p)).map (λs=>Dy p (H₀ w.params) s.abs)=Ve true)
  (look3:∀(w:O7)(os:P0),(lV Pp p w m₀ ann N ⟨T₀ w.params,n₀,life,gs₀,d₀,k₀,os⟩ (Qg p)).map (λs=>(Qw q loose (Pl p.main.body) Xt g0 s.abs).1)=Ve (RF q loose).1)
  (look7:∀(w:O7)(os:P0),(lV Pp p w m₀ ann N ⟨T₀ w.params,n₀,life,gs₀,d₀,k₀,os⟩ (Qg p)).map (λs=>(Qw q loose (Pl p.main.body) Xt g0 s.abs).2.1)=Ve (RF q loose).2.1)
  (look5:∀(w:O7)(os:P0),(lV Pp p w m₀ ann N ⟨T₀ w.params,n₀,life,gs₀,d₀,k₀,os⟩ (Qg p)).map (λs=>(Qw q loose (Pl p.main.body) Xt g0 s.abs).2.2.1)=Ve true)
  (look6:∀(w:O7)(os:P0),(lV Pp p w m₀ ann N ⟨T₀ w.params,n₀,life,gs₀,d₀,k₀,os⟩ (Qg p)).map (λs=>(Qw q loose (Pl p.main.body) Xt g0 s.abs).2.2.2.1)=Ve true)
  (look4:∀(w:O7)(os:P0),(lV Pp p w m₀ ann N ⟨T₀ w.params,n₀,life,gs₀,d₀,k₀,os⟩ (Qg p)).map (λs=>(Qw q loose (Pl p.main.body) Xt g0 s.abs).2.2.2.2)=Ve (RF q loose).2.2.2.2)
  (look2:∀(w:O7)(os:P0),(lV Pp p w m₀ ann N ⟨T₀ w.params,n₀,life,gs₀,d₀,k₀,os⟩ (Qg p)).map (λs=>Yf s.abs)=Ve (Ya w)) :
  LeftO p q loose Xt Yf Ya N g0:=Gf opn size tree λw os=>by
 obtain⟨s,hs,h1⟩:=Ng.mp (look1 w os)
 have h2:=look2 w os
 have h3:=look3 w os
 have h4:=look4 w os
 have h5:=look5 w os
 have h6:=look6 w os
 have h7:=look7 w os
 rw[hs]at h2 h3 h4 h5 h6 h7⊢
 exact congrArg Ve (Q6 h1 (Q6 (Q6 (O1 h3) (Q6 (O1 h7) (Q6 (O1 h5) (Q6 (O1 h6) (O1 h4))))) (O1 h2)))
end Hd
namespace L2
open PySem PySem.Spec PyProof.Rows
def Vk(s:Pj)(j:Nat):Pj:=match s with
 | .ClassDef _ _ _ body _ _ _ _ _ _ _=>body.getD j (.Pass ⟨0,0,0,0⟩)
 |_=>.Pass ⟨0,0,0,0⟩
def eP(s:Pj):Arguments:=match s with
 | .FunctionDef _ a _ _ _ _ _ _ _ _=>a
 |_=>{ posonlyargs:=[],args:=[],vararg:=Vf,kwonlyargs:=[],kw_defaults:=[],kwarg:=Vf,defaults:=[] }
def dB(s:Pj):List Pj:=match s with
 | .FunctionDef _ _ b _ _ _ _ _ _ _=>b
 |_=>[]
def av(s:Pj):Q8:=match s with
 | .FunctionDef _ _ _ _ _ _ sc _ _ _=>sc
 |_=>{ kind:=.function,names:=[],isGenerator:=false,isCoroutine:=false }
end L2
namespace K63
open PySem
def top(i:Nat):Pj:=PySem.Challenge.pw_hushrow_k63_told_apart.main.body.getD i (.Pass ⟨0,0,0,0⟩)
end K63
set_option maxHeartbeats 0
namespace K63
open PySem L2 PySem.W
noncomputable abbrev Ey(P:Qj)(x:Str)(t:Nat)(v:OX):U8:=⟨PyData.keyHash P x,.str x t,v⟩
noncomputable abbrev FL(P:Qj)(a:Nat)(l:Int)(b:Nat):=Ey P "__firstlineno__" a (.int l b)
noncomputable abbrev SA(P:Qj)(a b:Nat):=Ey P "__static_attributes__" a (.ref b)
noncomputable abbrev DO(P:Qj)(a:Nat):=Ey P "__doc__" a .none
noncomputable abbrev M3O(P:Qj)(a:Nat):=Ey P "__module__" a (.str "hushrow.rows" 239)
noncomputable abbrev ER(P:Qj)(x:Str)(a b:Nat):=Ey P x a (.ref b)
noncomputable abbrev DI(x:Array U8)(n:Nat):Obj:=⟨.type "dict",Vf,.dict x n,#[]⟩
noncomputable abbrev WR(x:Str)(a b:Nat)(y:String):Obj:=⟨.type "getset_descriptor",Vf,.fields #[.str x a,.ref b,.builtin y,.none],#[]⟩
noncomputable abbrev CX(n:Str)(a c:Nat)(bs m s:List OX)(d:Option OX)(u v:Nat)(w:String):Obj:=⟨.type "type",Vf,.cls { name:=n,bases:=bs,mro:=.ref a::m,ns:=c,qualname:=n,hasDict:=true,slotNames:=[],subclasses:=s,abstract:=false,collection:=Vf,hasDel:=false },#[d,Vf,Ve (.str n u),Ve (.str n v),Ve (.builtin w),Ve (.bool true)]⟩
noncomputable abbrev CR(n:Str)(a c d u:Nat):Obj:=CX n a c [.ref 84] [.ref 84,.type "object"] [] (Ve (.ref d)) u (u+8) "object.__new__"
noncomputable abbrev CO(n q:Str)(t:Nat)(l a:Int)(r:Nat)(m:Nat):Obj:=⟨.type "code",Vf,.fields #[.str n t,.str q (t+1),.str "/claim/cut.py" (t+2),.int l 0,.int a 0,.int 0 0,.int 0 0,.int 3 0,.ref r,.bool true,.int 181 0,.ref (r+1),.none,.ref (r+2),.ref (r+3),.ref (r+4),.int m 0,.int l 0,.str "/claim/cut.py" (m+1)],#[]⟩
noncomputable abbrev FU(n q:Str)(s:Pj)(m:Str)(t c:Nat):Obj:=⟨.type "function",Vf,.func (QF n q (eP s) (dB s) (av s) .none .none .none (.str m t) Vf (.ref c) .none),#[]⟩
noncomputable abbrev F7T(x:Str)(i c:Nat):=FU x x (top i) "hushrow.gifts" 895 c
noncomputable abbrev F8T(x:Str)(i c:Nat):=FU x x (top i) "hushrow.pairs" 1102 c
noncomputable abbrev F9T(x:Str)(i c:Nat):=FU x x (top i) "hushrow.tries" 1140 c
noncomputable abbrev gP(x:Str)(i c:Nat):=FU x x (top i) "law_hushrow_k63_told_apart" 1186 c
noncomputable abbrev oY(x y:Str)(i j c:Nat):=FU x y (Vk (top i) j) "hushrow.rows" 239 c
noncomputable abbrev rM(x y:Str)(i j c:Nat):=FU x y (Vk (top i) j) "hushrow.runner" 961 c
noncomputable def heapK(P:Qj):OZ:=
 (nat_lit 2,⟨.none,Vf,.dict #[] 0,#[]⟩)::
 (nat_lit 3,DI #[Ey P "__name__" 165 (.str "law_hushrow_k63_told_apart" 1186),DO P 166,Ey P "__package__" 167 .none,Ey P "__loader__" 168 (.builtin "__main__.__loader__#opaque"),Ey P "__spec__" 169 .none,ER P "__annotations__" 170 6,ER P "__builtins__" 171 4,Ey P "__file__" 173 (.str "/claim/cut.py" 172),Ey P "__cached__" 174 .none,ER P "_wall" 193 21,ER P "HushError" 213 31,ER P "NoGift" 238 51,ER P "Row" 283 84,ER P "HandRow" 318 112,ER P "GivenRow" 355 138,ER P "OwnRow" 390 164,ER P "LetRow" 425 190,ER P "SetRow" 474 230,ER P "PutRow" 525 270,ER P "SendRow" 567 303,ER P "SayRow" 618 343,ER P "CallRow" 660 376,ER P "LastRow" 683 395,ER P "IfRow" 731 428,ER P "LoopRow" 779 461,ER P "DeedRow" 816 487,ER P "Program" 849 506,ER P "ranks_told" 860 517,ER P "Book" 894 534,Ey P "MOST_NUMBER" 898 (.int (999999999999) 897),ER P "is_number" 905 545,ER P "is_good" 911 550,ER P "given_cell" 920 557,ER P "own_cell" 927 564,ER P "cells_of" 939 571,Ey P "ROUND" 943 (.int (1000000000000) 942),ER P "reckon" 952 578,ER P "round_place" 960 585,ER P "Run" 1085 670,ER P "ends_of" 1091 679,ER P "run" 1101 686,ER P "seen" 1109 691,ER P "letter_at" 1117 698,ER P "told_by" 1124 705,ER P "laid" 1139 712,ER P "BEGINS" 1146 713,ER P "MORES" 1150 714,ER P "gift_made" 1156 719,ER P "gifts_made" 1162 724,ER P "tried" 1173 731,ER P "told_apart" 1185 738,ER P "_law_cell_at" 1195 745,ER P "_law_mix" 1205 752,ER P "_law_name" 1219 759,ER P "_law_number" 1226 766,ER P "_law_heads" 1232 771,ER P "_law_fit" 1238 776,ER P "_law_thing" 1250 783,ER P "_law_value" 1263 790,ER P "_law_add" 1273 797,ER P "_law_said" 1279 802,ER P "_law_plain" 1295 809,ER P "_law_opened" 1301 814,ER P "_law_closed" 1312 821,ER P "_law_else" 1320 828,ER P "_law_called" 1336 835,ER P "_law_turned" 1342 840,ER P "_law_body" 1355 847,ER P "_law_drawn" 1375 854,ER P "_law_plain_row" 1384 861,ER P "_law_nested_row" 1393 868,ER P "_law_tree" 1407 875,ER P "_law_try" 1413 880,ER P "_law_letters" 1419 885,ER P "_law_due" 1437 892,ER P "_law_alike" 1445 899,ER P "law" 1451 904] 77)::
 (nat_lit 30,DI #[Ey P "__module__" 203 (.str "hushrow.errors" 194),FL P 207 5 206,SA P 208 29,ER P "__weakref__" 210 32,DO P 211] 3)::
 (nat_lit 31,CX "HushError" 31 30 [.type "ValueError"] [.type "ValueError",.type "Exception",.type "BaseException",.type "object"] [.ref 51] (Ve (.ref 22)) 196 204 "ValueError.__new__")::
 (nat_lit 32,WR "__weakref__" 209 31 "ExceptionGroup.__weakref__")::
 (nat_lit 50,DI #[Ey P "__module__" 221 (.str "hushrow.errors" 194),FL P 225 7 224,ER P "__init__" 233 48,SA P 235 49,DO P 236] 2)::
 (nat_lit 51,CX "NoGift" 51 50 [.ref 31] [.ref 31,.type "ValueError",.type "Exception",.type "BaseException",.type "object"] [] (Ve (.ref 35)) 214 222 "ValueError.__new__")::
 (nat_lit 66,CO "__init__" "Row.__init__" 253 14 2 61 258)::
 (nat_lit 67,oY "__init__" "Row.__init__" 5 0 66)::
 (nat_lit 83,DI #[M3O P 248,FL P 252 12 251,ER P "__init__" 260 67,ER P "reads" 267 74,ER P "target" 274 81,SA P 276 82,ER P "__dict__" 278 85,ER P "__weakref__" 280 86,DO P 281] 4)::
 (nat_lit 84,CX "Row" 84 83 [.type "object"] [.type "object"] [.ref 112,.ref 138,.ref 164,.ref 190,.ref 230,.ref 270,.ref 303,.ref 343,.ref 376,.ref 395,.ref 428,.ref 461,.ref 487] Vf 241 249 "object.__new__")::
 (nat_lit 85,⟨(.type "getset_descriptor"),Vf,.fields #[(.str "__dict__" 277),(.ref 84),(.builtin "function.__dict__"),(.builtin "function.__dict__#set")],#[]⟩)::
 (nat_lit 86,WR "__weakref__" 279 84 "ExceptionGroup.__weakref__")::
 (nat_lit 101,CO "__init__" "HandRow.__init__" 296 24 4 96 303)::
 (nat_lit 102,oY "__init__" "HandRow.__init__" 6 0 101)::
 (nat_lit 111,DI #[M3O P 291,FL P 295 22 294,ER P "__init__" 305 102,ER P "shown" 312 109,SA P 315 110,DO P 316] 2)::
 (nat_lit 112,CR "HandRow" 112 111 89 284)::
 (nat_lit 127,CO "__init__" "GivenRow.__init__" 331 33 5 122 339)::
 (nat_lit 128,oY "__init__" "GivenRow.__init__" 7 0 127)::
 (nat_lit 137,DI #[M3O P 326,FL P 330 31 329,ER P "__init__" 341 128,ER P "shown" 348 135,SA P 352 136,DO P 353] 2)::
 (nat_lit 138,CR "GivenRow" 138 137 115 319)::
 (nat_lit 153,CO "__init__" "OwnRow.__init__" 368 43 4 148 375)::
 (nat_lit 154,oY "__init__" "OwnRow.__init__" 8 0 153)::
 (nat_lit 163,DI #[M3O P 363,FL P 367 41 366,ER P "__init__" 377 154,ER P "shown" 384 161,SA P 387 162,DO P 388] 2)::
 (nat_lit 164,CR "OwnRow" 164 163 141 356)::
 (nat_lit 179,CO "__init__" "LetRow.__init__" 403 52 4 174 410)::
 (nat_lit 180,oY "__init__" "LetRow.__init__" 9 0 179)::
 (nat_lit 189,DI #[M3O P 398,FL P 402 50 401,ER P "__init__" 412 180,ER P "shown" 419 187,SA P 422 188,DO P 423] 2)::
 (nat_lit 190,CR "LetRow" 190 189 167 391)::
 (nat_lit 205,CO "__init__" "SetRow.__init__" 438 61 4 200 445)::
 (nat_lit 206,oY "__init__" "SetRow.__init__" 10 0 205)::
 (nat_lit 229,DI #[M3O P 433,FL P 437 59 436,ER P "__init__" 447 206,ER P "shown" 454 213,ER P "reads" 461 220,ER P "target" 468 227,SA P 471 228,DO P 472] 2)::
 (nat_lit 230,CR "SetRow" 230 229 193 426)::
 (nat_lit 245,CO "__init__" "PutRow.__init__" 487 76 5 240 495)::
 (nat_lit 246,oY "__init__" "PutRow.__init__" 11 0 245)::
 (nat_lit 269,DI #[M3O P 482,FL P 486 74 485,ER P "__init__" 497 246,ER P "shown" 504 253,ER P "reads" 511 260,ER P "target" 518 267,SA P 522 268,DO P 523] 2)::
 (nat_lit 270,CR "PutRow" 270 269 233 475)::
 (nat_lit 285,CO "__init__" "SendRow.__init__" 538 92 4 280 545)::
 (nat_lit 286,oY "__init__" "SendRow.__init__" 12 0 285)::
 (nat_lit 302,DI #[M3O P 533,FL P 537 90 536,ER P "__init__" 547 286,ER P "shown" 554 293,ER P "reads" 561 300,SA P 564 301,DO P 565] 2)::
 (nat_lit 303,CR "SendRow" 303 302 273 526)::
 (nat_lit 318,CO "__init__" "SayRow.__init__" 580 104 5 313 588)::
 (nat_lit 319,oY "__init__" "SayRow.__init__" 13 0 318)::
 (nat_lit 342,DI #[M3O P 575,FL P 579 102 578,ER P "__init__" 590 319,ER P "shown" 597 326,ER P "reads" 604 333,ER P "target" 611 340,SA P 615 341,DO P 616] 2)::
 (nat_lit 343,CR "SayRow" 343 342 306 568)::
 (nat_lit 358,CO "__init__" "CallRow.__init__" 631 120 4 353 638)::
 (nat_lit 359,oY "__init__" "CallRow.__init__" 14 0 358)::
 (nat_lit 375,DI #[M3O P 626,FL P 630 118 629,ER P "__init__" 640 359,ER P "shown" 647 366,ER P "reads" 654 373,SA P 657 374,DO P 658] 2)::
 (nat_lit 376,CR "CallRow" 376 375 346 619)::
 (nat_lit 394,DI #[M3O P 668,FL P 672 130 671,ER P "shown" 679 392,SA P 680 393,DO P 681] 2)::
 (nat_lit 395,CR "LastRow" 395 394 379 661)::
 (nat_lit 410,CO "__init__" "IfRow.__init__" 696 136 7 405 706)::
 (nat_lit 411,oY "__init__" "IfRow.__init__" 16 0 410)::
 (nat_lit 427,DI #[M3O P 691,FL P 695 134 694,ER P "__init__" 708 411,ER P "shown" 715 418,ER P "reads" 722 425,SA P 728 426,DO P 729] 2)::
 (nat_lit 428,CR "IfRow" 428 427 398 684)::
 (nat_lit 443,CO "__init__" "LoopRow.__init__" 744 151 7 438 754)::
 (nat_lit 444,oY "__init__" "LoopRow.__init__" 17 0 443)::
 (nat_lit 460,DI #[M3O P 739,FL P 743 149 742,ER P "__init__" 756 444,ER P "shown" 763 451,ER P "reads" 770 458,SA P 776 459,DO P 777] 2)::
 (nat_lit 461,CR "LoopRow" 461 460 431 732)::
 (nat_lit 476,CO "__init__" "DeedRow.__init__" 792 166 5 471 800)::
 (nat_lit 477,oY "__init__" "DeedRow.__init__" 18 0 476)::
 (nat_lit 486,DI #[M3O P 787,FL P 791 164 790,ER P "__init__" 802 477,ER P "shown" 809 484,SA P 813 485,DO P 814] 2)::
 (nat_lit 487,CR "DeedRow" 487 486 464 780)::
 (nat_lit 502,CO "__init__" "Program.__init__" 829 176 4 497 836)::
 (nat_lit 503,oY "__init__" "Program.__init__" 19 0 502)::
 (nat_lit 505,DI #[M3O P 824,FL P 828 174 827,ER P "__init__" 838 503,SA P 842 504,ER P "__dict__" 844 507,ER P "__weakref__" 846 508,DO P 847] 4)::
 (nat_lit 506,CX "Program" 506 505 [.type "object"] [.type "object"] [] Vf 817 825 "object.__new__")::
 (nat_lit 507,⟨(.type "getset_descriptor"),Vf,.fields #[(.str "__dict__" 843),(.ref 506),(.builtin "function.__dict__"),(.builtin "function.__dict__#set")],#[]⟩)::
 (nat_lit 508,WR "__weakref__" 845 506 "ExceptionGroup.__weakref__")::
 (nat_lit 516,CO "ranks_told" "ranks_told" 852 181 1 511 858)::
 (nat_lit 517,FU "ranks_told" "ranks_told" (top 21) "hushrow.looker" 850 516)::
 (nat_lit 530,CO "__init__" "Book.__init__" 875 190 1 525 879)::
 (nat_lit 531,FU "__init__" "Book.__init__" (Vk (top 23) 0) "hushrow.books" 861 530)::
 (nat_lit 533,DI #[Ey P "__module__" 870 (.str "hushrow.books" 861),FL P 874 188 873,ER P "__init__" 881 531,SA P 887 532,ER P "__dict__" 889 535,ER P "__weakref__" 891 536,DO P 892] 4)::
 (nat_lit 534,CX "Book" 534 533 [.type "object"] [.type "object"] [] Vf 863 871 "object.__new__")::
 (nat_lit 535,⟨(.type "getset_descriptor"),Vf,.fields #[(.str "__dict__" 888),(.ref 534),(.builtin "function.__dict__"),(.builtin "function.__dict__#set")],#[]⟩)::
 (nat_lit 536,WR "__weakref__" 890 534 "ExceptionGroup.__weakref__")::
 (nat_lit 544,CO "is_number" "is_number" 899 198 1 539 903)::
 (nat_lit 545,F7T "is_number" 26 544)::
 (nat_lit 549,⟨(.type "code"),Vf,.fields #[(.str "is_good" 906),(.str "is_good" 907),(.str "/claim/cut.py" 908),(.int (202) 0),(.int (2) 0),(.int (0) 0),(.int (0) 0),(.int (3) 0),(.ref 546),(.bool true),(.int (181) 0),(.ref 547),.none,.none,.none,(.ref 548),(.int (909) 0),(.int (202) 0),(.str "/claim/cut.py" 910)],#[]⟩)::
 (nat_lit 550,F7T "is_good" 27 549)::
 (nat_lit 556,CO "given_cell" "given_cell" 912 206 2 551 918)::
 (nat_lit 557,F7T "given_cell" 28 556)::
 (nat_lit 563,CO "own_cell" "own_cell" 921 211 1 558 925)::
 (nat_lit 564,F7T "own_cell" 29 563)::
 (nat_lit 570,CO "cells_of" "cells_of" 928 213 2 565 937)::
 (nat_lit 571,F7T "cells_of" 30 570)::
 (nat_lit 577,CO "reckon" "reckon" 944 226 3 572 950)::
 (nat_lit 578,FU "reckon" "reckon" (top 33) "hushrow.sums" 940 577)::
 (nat_lit 584,CO "round_place" "round_place" 953 240 2 579 958)::
 (nat_lit 585,FU "round_place" "round_place" (top 34) "hushrow.sums" 940 584)::
 (nat_lit 598,CO "__init__" "Run.__init__" 975 245 3 593 982)::
 (nat_lit 599,rM "__init__" "Run.__init__" 36 0 598)::
 (nat_lit 605,CO "number_at" "Run.number_at" 985 252 2 600 990)::
 (nat_lit 606,rM "number_at" "Run.number_at" 36 1 605)::
 (nat_lit 612,CO "number_for" "Run.number_for" 993 255 2 607 1000)::
 (nat_lit 613,rM "number_for" "Run.number_for" 36 2 612)::
 (nat_lit 619,CO "number_told" "Run.number_told" 1003 264 2 614 1008)::
 (nat_lit 620,rM "number_told" "Run.number_told" 36 3 619)::
 (nat_lit 626,CO "pass_steps" "Run.pass_steps" 1011 269 2 621 1017)::
 (nat_lit 627,rM "pass_steps" "Run.pass_steps" 36 4 626)::
 (nat_lit 633,CO "do_rows" "Run.do_rows" 1020 273 2 628 1027)::
 (nat_lit 634,rM "do_rows" "Run.do_rows" 36 5 633)::
 (nat_lit 640,CO "do_row" "Run.do_row" 1030 280 2 635 1037)::
 (nat_lit 641,rM "do_row" "Run.do_row" 36 6 640)::
 (nat_lit 647,CO "do_put" "Run.do_put" 1040 302 2 642 1046)::
 (nat_lit 648,rM "do_put" "Run.do_put" 36 7 647)::
 (nat_lit 652,⟨(.type "code"),Vf,.fields #[(.str "do_call" 1049),(.str "Run.do_call" 1050),(.str "/claim/cut.py" 1051),(.int (306) 0),(.int (2) 0),(.int (0) 0),(.int (0) 0),(.int (3) 0),(.ref 649),(.bool true),(.int (181) 0),(.ref 650),.none,.none,.none,(.ref 651),(.int (1052) 0),(.int (306) 0),(.str "/claim/cut.py" 1053)],#[]⟩)::
 (nat_lit 653,rM "do_call" "Run.do_call" 36 8 652)::
 (nat_lit 659,CO "do_if" "Run.do_if" 1055 313 2 654 1061)::
 (nat_lit 660,rM "do_if" "Run.do_if" 36 9 659)::
 (nat_lit 666,CO "do_loop" "Run.do_loop" 1064 322 2 661 1072)::
 (nat_lit 667,rM "do_loop" "Run.do_loop" 36 10 666)::
 (nat_lit 669,DI #[Ey P "__module__" 970 (.str "hushrow.runner" 961),FL P 974 243 973,ER P "__init__" 984 599,ER P "number_at" 992 606,ER P "number_for" 1002 613,ER P "number_told" 1010 620,ER P "pass_steps" 1019 627,ER P "do_rows" 1029 634,ER P "do_row" 1039 641,ER P "do_put" 1048 648,ER P "do_call" 1054 653,ER P "do_if" 1063 660,ER P "do_loop" 1074 667,SA P 1078 668,ER P "__dict__" 1080 671,ER P "__weakref__" 1082 672,DO P 1083] 4)::
 (nat_lit 670,CX "Run" 670 669 [.type "object"] [.type "object"] [] Vf 963 971 "object.__new__")::
 (nat_lit 671,⟨(.type "getset_descriptor"),Vf,.fields #[(.str "__dict__" 1079),(.ref 670),(.builtin "function.__dict__"),(.builtin "function.__dict__#set")],#[]⟩)::
 (nat_lit 672,WR "__weakref__" 1081 670 "ExceptionGroup.__weakref__")::
 (nat_lit 678,⟨(.type "code"),Vf,.fields #[(.str "ends_of" 1086),(.str "ends_of" 1087),(.str "/claim/cut.py" 1088),(.int (332) 0),(.int (2) 0),(.int (0) 0),(.int (0) 0),(.int (3) 0),(.ref 675),(.bool true),(.int (181) 0),(.ref 676),.none,.none,.none,(.ref 677),(.int (1089) 0),(.int (332) 0),(.str "/claim/cut.py" 1090)],#[]⟩)::
 (nat_lit 679,FU "ends_of" "ends_of" (top 37) "hushrow.runner" 961 678)::
 (nat_lit 685,CO "run" "run" 1092 334 2 680 1099)::
 (nat_lit 686,FU "run" "run" (top 38) "hushrow.runner" 961 685)::
 (nat_lit 690,⟨(.type "code"),Vf,.fields #[(.str "seen" 1104),(.str "seen" 1105),(.str "/claim/cut.py" 1106),(.int (341) 0),(.int (3) 0),(.int (0) 0),(.int (0) 0),(.int (3) 0),(.ref 687),(.bool true),(.int (181) 0),(.ref 688),.none,.none,.none,(.ref 689),(.int (1107) 0),(.int (341) 0),(.str "/claim/cut.py" 1108)],#[]⟩)::
 (nat_lit 691,F8T "seen" 40 690)::
 (nat_lit 697,CO "letter_at" "letter_at" 1110 344 2 692 1115)::
 (nat_lit 698,F8T "letter_at" 41 697)::
 (nat_lit 704,CO "told_by" "told_by" 1118 346 1 699 1122)::
 (nat_lit 705,F8T "told_by" 42 704)::
 (nat_lit 711,CO "laid" "laid" 1125 348 4 706 1137)::
 (nat_lit 712,F8T "laid" 43 711)::
 (nat_lit 713,⟨(.type "tuple"),Vf,.seq #[(.int (0) 1142),(.int (1) 1143),(.int (2) 1144),(.int (3) 1145)] 0,#[]⟩)::
 (nat_lit 714,⟨(.type "tuple"),Vf,.seq #[(.int (1) 1147),(.int (2) 1148),(.int (5) 1149)] 0,#[]⟩)::
 (nat_lit 718,⟨(.type "code"),Vf,.fields #[(.str "gift_made" 1151),(.str "gift_made" 1152),(.str "/claim/cut.py" 1153),(.int (360) 0),(.int (2) 0),(.int (0) 0),(.int (0) 0),(.int (3) 0),(.ref 715),(.bool true),(.int (181) 0),(.ref 716),.none,.none,.none,(.ref 717),(.int (1154) 0),(.int (360) 0),(.str "/claim/cut.py" 1155)],#[]⟩)::
 (nat_lit 719,F9T "gift_made" 47 718)::
 (nat_lit 723,⟨(.type "code"),Vf,.fields #[(.str "gifts_made" 1157),(.str "gifts_made" 1158),(.str "/claim/cut.py" 1159),(.int (364) 0),(.int (4) 0),(.int (0) 0),(.int (0) 0),(.int (3) 0),(.ref 720),(.bool true),(.int (181) 0),(.ref 721),.none,.none,.none,(.ref 722),(.int (1160) 0),(.int (364) 0),(.str "/claim/cut.py" 1161)],#[]⟩)::
 (nat_lit 724,F9T "gifts_made" 48 723)::
 (nat_lit 730,CO "tried" "tried" 1163 373 2 725 1171)::
 (nat_lit 731,F9T "tried" 49 730)::
 (nat_lit 737,CO "told_apart" "told_apart" 1174 379 3 732 1183)::
 (nat_lit 738,F9T "told_apart" 50 737)::
 (nat_lit 744,CO "_law_cell_at" "_law_cell_at" 1188 386 2 739 1193)::
 (nat_lit 745,gP "_law_cell_at" 52 744)::
 (nat_lit 751,CO "_law_mix" "_law_mix" 1196 390 3 746 1203)::
 (nat_lit 752,gP "_law_mix" 53 751)::
 (nat_lit 758,CO "_law_name" "_law_name" 1206 396 2 753 1217)::
 (nat_lit 759,gP "_law_name" 54 758)::
 (nat_lit 765,CO "_law_number" "_law_number" 1220 408 1 760 1224)::
 (nat_lit 766,gP "_law_number" 55 765)::
 (nat_lit 770,⟨(.type "code"),Vf,.fields #[(.str "_law_heads" 1227),(.str "_law_heads" 1228),(.str "/claim/cut.py" 1229),(.int (414) 0),(.int (2) 0),(.int (0) 0),(.int (0) 0),(.int (3) 0),(.ref 767),(.bool true),(.int (181) 0),(.ref 768),.none,.none,.none,(.ref 769),(.int (1230) 0),(.int (414) 0),(.str "/claim/cut.py" 1231)],#[]⟩)::
 (nat_lit 771,gP "_law_heads" 56 770)::
 (nat_lit 775,⟨(.type "code"),Vf,.fields #[(.str "_law_fit" 1233),(.str "_law_fit" 1234),(.str "/claim/cut.py" 1235),(.int (431) 0),(.int (5) 0),(.int (0) 0),(.int (0) 0),(.int (3) 0),(.ref 772),(.bool true),(.int (181) 0),(.ref 773),.none,.none,.none,(.ref 774),(.int (1236) 0),(.int (431) 0),(.str "/claim/cut.py" 1237)],#[]⟩)::
 (nat_lit 776,gP "_law_fit" 57 775)::
 (nat_lit 782,CO "_law_thing" "_law_thing" 1239 433 4 777 1248)::
 (nat_lit 783,gP "_law_thing" 58 782)::
 (nat_lit 789,CO "_law_value" "_law_value" 1251 439 3 784 1261)::
 (nat_lit 790,gP "_law_value" 59 789)::
 (nat_lit 796,CO "_law_add" "_law_add" 1264 449 3 791 1271)::
 (nat_lit 797,gP "_law_add" 60 796)::
 (nat_lit 801,⟨(.type "code"),Vf,.fields #[(.str "_law_said" 1274),(.str "_law_said" 1275),(.str "/claim/cut.py" 1276),(.int (457) 0),(.int (3) 0),(.int (0) 0),(.int (0) 0),(.int (3) 0),(.ref 798),(.bool true),(.int (181) 0),(.ref 799),.none,.none,.none,(.ref 800),(.int (1277) 0),(.int (457) 0),(.str "/claim/cut.py" 1278)],#[]⟩)::
 (nat_lit 802,gP "_law_said" 61 801)::
 (nat_lit 808,CO "_law_plain" "_law_plain" 1280 467 4 803 1293)::
 (nat_lit 809,gP "_law_plain" 62 808)::
 (nat_lit 813,⟨(.type "code"),Vf,.fields #[(.str "_law_opened" 1296),(.str "_law_opened" 1297),(.str "/claim/cut.py" 1298),(.int (482) 0),(.int (4) 0),(.int (0) 0),(.int (0) 0),(.int (3) 0),(.ref 810),(.bool true),(.int (181) 0),(.ref 811),.none,.none,.none,(.ref 812),(.int (1299) 0),(.int (482) 0),(.str "/claim/cut.py" 1300)],#[]⟩)::
 (nat_lit 814,gP "_law_opened" 63 813)::
 (nat_lit 820,CO "_law_closed" "_law_closed" 1302 501 1 815 1310)::
 (nat_lit 821,gP "_law_closed" 64 820)::
 (nat_lit 827,CO "_law_else" "_law_else" 1313 516 2 822 1318)::
 (nat_lit 828,gP "_law_else" 65 827)::
 (nat_lit 834,CO "_law_called" "_law_called" 1321 520 3 829 1334)::
 (nat_lit 835,gP "_law_called" 66 834)::
 (nat_lit 839,⟨(.type "code"),Vf,.fields #[(.str "_law_turned" 1337),(.str "_law_turned" 1338),(.str "/claim/cut.py" 1339),(.int (534) 0),(.int (4) 0),(.int (0) 0),(.int (0) 0),(.int (3) 0),(.ref 836),(.bool true),(.int (181) 0),(.ref 837),.none,.none,.none,(.ref 838),(.int (1340) 0),(.int (534) 0),(.str "/claim/cut.py" 1341)],#[]⟩)::
 (nat_lit 840,gP "_law_turned" 67 839)::
 (nat_lit 846,CO "_law_body" "_law_body" 1343 545 4 841 1353)::
 (nat_lit 847,gP "_law_body" 68 846)::
 (nat_lit 853,CO "_law_drawn" "_law_drawn" 1356 563 4 848 1373)::
 (nat_lit 854,gP "_law_drawn" 69 853)::
 (nat_lit 860,CO "_law_plain_row" "_law_plain_row" 1376 589 2 855 1382)::
 (nat_lit 861,gP "_law_plain_row" 70 860)::
 (nat_lit 867,CO "_law_nested_row" "_law_nested_row" 1385 610 1 862 1391)::
 (nat_lit 868,gP "_law_nested_row" 71 867)::
 (nat_lit 874,CO "_law_tree" "_law_tree" 1394 618 1 869 1405)::
 (nat_lit 875,gP "_law_tree" 72 874)::
 (nat_lit 879,⟨(.type "code"),Vf,.fields #[(.str "_law_try" 1408),(.str "_law_try" 1409),(.str "/claim/cut.py" 1410),(.int (642) 0),(.int (4) 0),(.int (0) 0),(.int (0) 0),(.int (3) 0),(.ref 876),(.bool true),(.int (181) 0),(.ref 877),.none,.none,.none,(.ref 878),(.int (1411) 0),(.int (642) 0),(.str "/claim/cut.py" 1412)],#[]⟩)::
 (nat_lit 880,gP "_law_try" 73 879)::
 (nat_lit 884,⟨(.type "code"),Vf,.fields #[(.str "_law_letters" 1414),(.str "_law_letters" 1415),(.str "/claim/cut.py" 1416),(.int (653) 0),(.int (4) 0),(.int (0) 0),(.int (0) 0),(.int (3) 0),(.ref 881),(.bool true),(.int (181) 0),(.ref 882),.none,.none,.none,(.ref 883),(.int (1417) 0),(.int (653) 0),(.str "/claim/cut.py" 1418)],#[]⟩)::
 (nat_lit 885,gP "_law_letters" 74 884)::
 (nat_lit 891,CO "_law_due" "_law_due" 1420 659 4 886 1435)::
 (nat_lit 892,gP "_law_due" 75 891)::
 (nat_lit 898,CO "_law_alike" "_law_alike" 1438 673 2 893 1443)::
 (nat_lit 899,gP "_law_alike" 76 898)::
 (nat_lit 903,⟨(.type "code"),Vf,.fields #[(.str "law" 1446),(.str "law" 1447),(.str "/claim/cut.py" 1448),(.int (679) 0),(.int (1) 0),(.int (0) 0),(.int (0) 0),(.int (3) 0),(.ref 900),(.bool true),(.int (181) 0),(.ref 901),.none,.none,.none,(.ref 902),(.int (1449) 0),(.int (679) 0),(.str "/claim/cut.py" 1450)],#[]⟩)::
 (nat_lit 904,gP "law" 77 903)::[]
noncomputable def qJ:List OW:=[2,3,30,31,32,50,51,66,67,83,84,85,86,101,102,111,112,127,128,137,138,153,154,163,164,179,180,189,190,205,206,229,230,245,246,269,270,285,286,302,303,318,319,342,343,358,359,375,376,394,395,410,411,427,428,443,444,460,461,476,477,486,487,502,503,505,506,507,508,516,517,530,531,533,534,535,536,544,545,549,550,556,557,563,564,570,571,577,578,584,585,598,599,605,606,612,613,619,620,626,627,633,634,640,641,647,648,652,653,659,660,666,667,669,670,671,672,678,679,685,686,690,691,697,698,704,705,711,712,713,714,718,719,723,724,730,731,737,738,744,745,751,752,758,759,765,766,770,771,775,776,782,783,789,790,796,797,801,802,808,809,813,814,820,821,827,828,834,835,839,840,846,847,853,854,860,861,867,868,874,875,879,880,884,885,891,892,898,899,903,904]
theorem kx(P:Qj):qJ=(heapK P).map (·.1):=by kernel_rfl
noncomputable abbrev prog:Program:=PySem.Challenge.pw_hushrow_k63_told_apart
noncomputable abbrev law:Uj:=PySem.Challenge.rw_hushrow_k63_told_apart
noncomputable def gY:Program:={ prog with main:={ prog.main with body:=[top 0,top 2,top 3,top 5,top 6,top 7,top 8,top 9,top 10,top 11,top 12,top 13,top 14,top 15,top 16,top 17,top 18,top 19,top 21,top 23,top 25,top 26,top 27,top 28,top 29,top 30,top 32,top 33,top 34,top 36,top 37,top 38,top 40,top 41,top 42,top 43,top 45,top 46,top 47,top 48,top 49,top 50,top 52,top 53,top 54,top 55,top 56,top 57,top 58,top 59,top 60,top 61,top 62,top 63,top 64,top 65,top 66,top 67,top 68,top 69,top 70,top 71,top 72,top 73,top 74,top 75,top 76,top 77] } }
noncomputable abbrev hook:W.Hook:=TF heapK qJ kx
noncomputable abbrev test:O0->Bool:=λs=>xlAt gY [] s&&recOk (RowW.records law.row.toRowW) s
noncomputable abbrev Kk:O0->List (Option Obj):=λs=>qJ.map s.heap.get?
noncomputable abbrev LB:O7->List (Option Obj):=λw=>(heapK w.params).map λp=>Ve p.2
noncomputable def T₀(P:Qj):BT:=Hd.treeOf (RG P).objs.toList 0 .nil
noncomputable def lookL(w:O7)(os:P0):=(Hd.lV Pp prog w 11 (Ve (.ref 6)) 14456 ⟨T₀ w.params,11,{},Om [],QL,Q3,os⟩ (Qg prog)).map λs=>Hd.Dy prog (RG w.params) s.abs
noncomputable def u4(w:O7)(os:P0):=Ve true
noncomputable def lookO(w:O7)(os:P0):=(Hd.lV Pp prog w 11 (Ve (.ref 6)) 14456 ⟨T₀ w.params,11,{},Om [],QL,Q3,os⟩ (Qg prog)).map λs=>(Qw gY [] (Pl prog.main.body) test true s.abs).1
noncomputable def lookQ(w:O7)(os:P0):=Ve (RF gY []).1
noncomputable def lookY(w:O7)(os:P0):=(Hd.lV Pp prog w 11 (Ve (.ref 6)) 14456 ⟨T₀ w.params,11,{},Om [],QL,Q3,os⟩ (Qg prog)).map λs=>(Qw gY [] (Pl prog.main.body) test true s.abs).2.1
noncomputable def lookB(w:O7)(os:P0):=Ve (RF gY []).2.1
noncomputable def lookW(w:O7)(os:P0):=(Hd.lV Pp prog w 11 (Ve (.ref 6)) 14456 ⟨T₀ w.params,11,{},Om [],QL,Q3,os⟩ (Qg prog)).map λs=>(Qw gY [] (Pl prog.main.body) test true s.abs).2.2.1
noncomputable def lookX(w:O7)(os:P0):=(Hd.lV Pp prog w 11 (Ve (.ref 6)) 14456 ⟨T₀ w.params,11,{},Om [],QL,Q3,os⟩ (Qg prog)).map λs=>(Qw gY [] (Pl prog.main.body) test true s.abs).2.2.2.1
noncomputable def lookU(w:O7)(os:P0):=(Hd.lV Pp prog w 11 (Ve (.ref 6)) 14456 ⟨T₀ w.params,11,{},Om [],QL,Q3,os⟩ (Qg prog)).map λs=>(Qw gY [] (Pl prog.main.body) test true s.abs).2.2.2.2
noncomputable def lookV(w:O7)(os:P0):=Ve (RF gY []).2.2.2.2
noncomputable def lookM(w:O7)(os:P0):=(Hd.lV Pp prog w 11 (Ve (.ref 6)) 14456 ⟨T₀ w.params,11,{},Om [],QL,Q3,os⟩ (Qg prog)).map λs=>Kk s.abs
noncomputable def lookS(w:O7)(os:P0):=Ve (LB w)
theorem lookL_self:lookL=lookL:=rfl
theorem lookO_self:lookO=lookO:=rfl
theorem lookQ_self:lookQ=lookQ:=rfl
theorem lookY_self:lookY=lookY:=rfl
theorem lookB_self:lookB=lookB:=rfl
theorem lookW_self:lookW=lookW:=rfl
theorem lookX_self:lookX=lookX:=rfl
theorem lookU_self:lookU=lookU:=rfl
theorem lookV_self:lookV=lookV:=rfl
theorem lookM_self:lookM=lookM:=rfl
theorem lookS_self:lookS=lookS:=rfl
end K63
noncomputable def PySem.W.Fast.tw14598715356260435866:PySem.Params->PySem.Obj:=Uk
theorem PySem.W.Fast.te14598715356260435866:Uk=PySem.W.Fast.tw14598715356260435866:=rfl
noncomputable def PySem.W.Fast.tw11926674454158175739:PySem.Program:=PySem.Challenge.pw_hushrow_k63_told_apart
theorem PySem.W.Fast.te11926674454158175739:PySem.Challenge.pw_hushrow_k63_told_apart=PySem.W.Fast.tw11926674454158175739:=rfl
noncomputable def PySem.W.Fast.tw16527810820075304296:PySem.Params->Qu:=K63.heapK
theorem PySem.W.Fast.te16527810820075304296:K63.heapK=PySem.W.Fast.tw16527810820075304296:=rfl
lay_quick K63.lookL K63.lookO K63.lookQ K63.lookY K63.lookB K63.lookW K63.lookX K63.lookU K63.lookV K63.lookM K63.lookS
name_quick K63lookL for K63.lookL by K63.lookL_self
name_quick K63lookO for K63.lookO by K63.lookO_self
name_quick K63lookQ for K63.lookQ by K63.lookQ_self
name_quick K63lookY for K63.lookY by K63.lookY_self
name_quick K63lookB for K63.lookB by K63.lookB_self
name_quick K63lookW for K63.lookW by K63.lookW_self
name_quick K63lookX for K63.lookX by K63.lookX_self
name_quick K63lookU for K63.lookU by K63.lookU_self
name_quick K63lookV for K63.lookV by K63.lookV_self
name_quick K63lookM for K63.lookM by K63.lookM_self
name_quick K63lookS for K63.lookS by K63.lookS_self
namespace K63
open PySem L2 PySem.W
theorem vZ:W.Fast.K63lookY=W.Fast.K63lookB:=by kernel_rfl
theorem vS:W.Fast.K63lookM=W.Fast.K63lookS:=by kernel_rfl
theorem vW:W.Fast.K63lookO=W.Fast.K63lookQ:=by kernel_rfl
theorem yq:W.Fast.K63lookL=u4:=by kernel_rfl
theorem xw:lookY=lookB:=W.Fast.K63lookY_eq.trans (vZ.trans W.Fast.K63lookB_eq.symm)
theorem wU:W.Fast.K63lookW=u4:=by kernel_rfl
theorem yT:lookW=u4:=W.Fast.K63lookW_eq.trans wU
theorem vB:W.Fast.K63lookX=u4:=by kernel_rfl
theorem yZ:lookX=u4:=W.Fast.K63lookX_eq.trans vB
theorem wy:W.Fast.K63lookU=W.Fast.K63lookV:=by kernel_rfl
theorem xT:lookU=lookV:=W.Fast.K63lookU_eq.trans (wy.trans W.Fast.K63lookV_eq.symm)
theorem yN:lookO=lookQ:=W.Fast.K63lookO_eq.trans (vW.trans W.Fast.K63lookQ_eq.symm)
theorem Al:lookL=u4:=W.Fast.K63lookL_eq.trans yq
theorem yS:lookM=lookS:=W.Fast.K63lookM_eq.trans (vS.trans W.Fast.K63lookS_eq.symm)
theorem FI(P:Qj):absHeap (T₀ P) 11 {}=RG P:=by kernel_rfl
theorem E5(w:O7):((RG w.params).isNs Pf&&(Om []:Array UP).size==0,(RG w.params).objs.size,(RG w.params).nsMap Pf "__annotations__")=(true,11,Ve (.ref 6)):=by kernel_rfl
theorem left:LeftO prog gY [] test hook.obs hook.val 14456:=Hd.CD (boot_open (p:=prog) (N:=14456) (by kernel_rfl) rfl (λ_=>rfl)) E5 FI (λw os=>congrFun (congrFun Al w) os) (λw os=>congrFun (congrFun yN w) os) (λw os=>congrFun (congrFun xw w) os) (λw os=>congrFun (congrFun yT w) os) (λw os=>congrFun (congrFun yZ w) os) (λw os=>congrFun (congrFun xT w) os) (λw os=>congrFun (congrFun yS w) os)
end K63
namespace L2
open PySem PySem.Spec PyProof.Rows
abbrev Key:=Sum Int Str
noncomputable def uO:Key->OX->Bool
 | .inl k,v=>Ux k v
 | .inr x,v=>SW x v
def Lo(w:O7):Key->Int
 | .inl k=>hashInt k
 | .inr x=>hashStr w x
theorem dh:∀{k:Key}{v:OX},uO k v=true->(∃i t,k=OE i/\v=Q4 i t)\/(∃x t,k=Nr x/\v=SG x t)
 | .inl i,v,h=>by
  obtain⟨t,e⟩:=TH (k:=i) (v:=v) h;exact .inl ⟨i,t,rfl,e⟩
 | .inr x,v,h=>by
  obtain⟨t,e⟩:=SO (x:=x) (v:=v) h;exact .inr ⟨x,t,rfl,e⟩
theorem Cd(i:Int)(t:Tok):uO (.inl i) (.int i t)=true:=by simp[uO,Ux]
theorem Cj(x:Str)(t:Tok):uO (.inr x) (.str x t)=true:=by simp[uO,SW]
theorem G8(a b:Int):decide ((OE a:Key)=OE b)=(a==b):=by
 by_cases e:a=b
 ·subst e;simp
 have h:¬ (OE a:Key)=OE b:=λq=>e (OE.inj q);rw[decide_eq_false h];exact(beq_eq_false_iff_ne.mpr e).symm
theorem Hu(a b:Str):decide ((Nr a:Key)=Nr b)=decide (a=b):=by
 by_cases e:a=b
 ·subst e;simp
 have h:¬ (Nr a:Key)=Nr b:=λq=>e (Nr.inj q);rw[decide_eq_false h,decide_eq_false e]
theorem Iw(a:Int)(b:Str):decide ((OE a:Key)=Nr b)=false:=decide_eq_false (λq=>nomatch q)
theorem IJ(a:Str)(b:Int):decide ((Nr a:Key)=OE b)=false:=decide_eq_false (λq=>nomatch q)
noncomputable def cE(prog:Program)(w:O7):PySem.KeyKind prog w Key where
 is:=uO
 hash:=Lo w
 inj:=λv a b ha hb=>by
  rcases dh ha with⟨i,t,rfl,rfl⟩|⟨x,t,rfl,rfl⟩
  ·rcases dh hb with⟨j,u,rfl,e⟩|⟨y,u,rfl,e⟩
   ·injection e with e1 _;rw[e1]
   exact nomatch e
  rcases dh hb with⟨j,u,rfl,e⟩|⟨y,u,rfl,e⟩
  ·exact nomatch e
  injection e with e1 _;rw[e1]
 byValue:=λk v h=>by
  rcases dh h with⟨i,t,rfl,rfl⟩|⟨x,t,rfl,rfl⟩<;>rfl
 pyHash:=λhv h=>by
  rcases dh hv with⟨i,t,rfl,rfl⟩|⟨x,t,rfl,rfl⟩
  ·exact wpAny_pyHash_int h
  exact wpAny_pyHash_str h
 eqBool:=λhu hv h=>by
  rcases dh hu with⟨i,t,rfl,rfl⟩|⟨x,t,rfl,rfl⟩
  ·rcases dh hv with⟨j,u,rfl,rfl⟩|⟨y,u,rfl,rfl⟩
   ·rw[G8]at h;exact wpAny_eqBool_int h
   rw[Iw]at h;exact S2 i t y u _ _ _ _ h
  rcases dh hv with⟨j,u,rfl,rfl⟩|⟨y,u,rfl,rfl⟩
  ·rw[IJ]at h;exact S3 x t j u _ _ _ _ h
  rw[Hu]at h;exact wpAny_eqBool_str h
 «strs»:=λk x t v h=>by
  rcases dh h with⟨i,u,rfl,e⟩|⟨y,u,rfl,e⟩
  ·exact nomatch e
  injection e with e1 _;subst e1;cases v<;>rfl
theorem yJ(prog:Program)(w:O7)(i:Int)(t:Tok):(cE prog w).is (.inl i) (.int i t)=true:=Cd i t
theorem yX(prog:Program)(w:O7)(x:Str)(t:Tok):(cE prog w).is (.inr x) (.str x t)=true:=Cj x t
inductive V where
 |non|bl (b:Bool)|int (i:Int)|str (x:Str)|byt (b:Array UInt8)|flt (b:UInt64)|ref (a:OW)|ty (n:String)
 deriving DecidableEq
def Vo:V->OX->Prop
 | .non,u=>u=S4
 | .bl b,u=>u=RP b
 | .int i,u=>∃t,u=Q4 i t
 | .str x,u=>∃t,u=SG x t
 | .byt b,u=>∃t,u=Value.bytes b t
 | .flt b,u=>∃t,u=Uy b t
 | .ref a,u=>u=O8 a
 | .ty n,u=>u=QM n
abbrev Vn:List V->List OX->Prop:=Paired Vo
theorem Vn.length(r:Vn xs us):xs.length=us.length:=O3 r
theorem Vn.get:∀{xs:List V}{us:List OX}{i:Nat}{x:V},Vn xs us->xs[i]?=Ve x->∃u,us[i]?=Ve u/\Vo x u
 |_,_,_,_,.nil,e=>by simp at e
 |_,_,0,_,.cons r _,e=>by simp at e;subst e;exact⟨_,rfl,r⟩
 |_,_,i+1,x,.cons _ t,e=>by
  obtain⟨u,h1,h2⟩:=Vn.get (i:=i) (x:=x) t (by simpa using e);exact⟨u,by simpa using h1,h2⟩
theorem Vn.set(r:Vo x u):∀{xs:List V}{us:List OX}(i:Nat),Vn xs us->Vn (xs.set i x) (us.set i u)
 |_,_,_,.nil=>.nil
 |_,_,0,.cons _ t=>.cons r t
 |_,_,i+1,.cons q t=>.cons q (Vn.set r i t)
theorem Vn.append:∀{xs ys:List V}{us ws:List OX},Vn xs us->Vn ys ws->Vn (xs++ys) (us++ws)
 |_,_,_,_,.nil,s=>s
 |_,_,_,_,.cons r t,s=>.cons r (Vn.append t s)
theorem Vn.take:∀{xs:List V}{us:List OX}(n:Nat),Vn xs us->Vn (xs.take n) (us.take n)
 |_,_,0,_=>.nil
 |_,_,_+1,.nil=>.nil
 |_,_,n+1,.cons r t=>.cons r (Vn.take n t)
theorem Vn.drop:∀{xs:List V}{us:List OX}(n:Nat),Vn xs us->Vn (xs.drop n) (us.drop n)
 |_,_,0,r=>r
 |_,_,_+1,.nil=>.nil
 |_,_,n+1,.cons _ t=>Vn.drop n t
def lW:Option V->Option OX->Prop
 |some v,Ve u=>Vo v u
 |none,Vf=>True
 |_,_=>False
def KV{κ:Type}:List (κ×V)->List (κ×OX)->Prop:=Paired λ(p:κ×V)(q:κ×OX)=>p.1=q.1/\Vo p.2 q.2
def kV:Key->V
 | .inl i=>.int i
 | .inr x=>.str x
inductive HO where
 |lst (xs:List V)
 |tup (xs:List V)
 |dK (kvs:List (Key×V))|dT (kvs:List (List Key×V))
 |set (S:Int->Bool) (n:Nat)
 |ins (C dx:OW) (fs:List (Str×V))
 |own (x:OW)
 |xd (fs:List (Str×V))
 |met (f x:OW)
 |rng (lo hi:Int)
 |frz (o:Obj) (u:HO)
 |tbl (ps:Array OX)
 |ext (φ:Pk->Prop)
abbrev Hp:=OW->Option HO
def upd(H:Hp)(a:OW)(o:HO):Hp:=λb=>if b=a then Ve o else H b
theorem aj:upd H a o a=Ve o:=by unfold upd;rw[if_pos rfl]
theorem aw(h:b≠a):upd H a o b=H b:=by unfold upd;rw[if_neg h]
theorem lD:upd (upd H a o) a u=upd H a u:=by
 funext b;unfold upd;split<;>rfl
theorem KA{H:Hp}(h:H a=Ve o)(h':H b=Ve u)(d:o≠u):a≠b:=by
 intro e;subst e;rw[h]at h';exact d (O1 h')
theorem cz{H:Hp}(h:H a=Ve o)(h':H b=Vf):a≠b:=by
 intro e;subst e;rw[h]at h';cases h'
section
variable(P:Program)(w:O7)
def dH(H:Hp)(h:Pk)(a:OW):HO->Prop
 | .lst xs=>xs.length<=sizeLine/\∃(its:List OX)(n:Nat),Vn xs its/\h.get? a=Ve { cls:=.type "list",data:=.seq its.toArray n }
 | .tup xs=>xs.length<=sizeLine/\∃its:List OX,Vn xs its/\IsTup h a its.toArray
 | .dK kvs=>kvs.length<=sizeLine/\(a==PB)=false/\∃vs,KV kvs vs/\h.DictOf (cE P w) a vs
 | .dT kvs=>kvs.length<=sizeLine/\(a==PB)=false/\∃xs:List (List Key×OW×OX),
   Paired (λ(p:List Key×V)(q:List Key×OW×OX)=>p.1=q.1/\H q.2.1=Ve (.tup (p.1.map kV))/\Vo p.2 q.2.2) kvs xs/\
   ∃o es ep,h.get? a=Ve o/\o.ExactDict/\o.data=.dict es ep/\es.toList=xs.map (entryOfKey (RH (cE P w)))/\(xs.map (·.1)).Nodup
 | .set S n=>h.SetOf (intKind P w) a S n
 | .ins C dx fs=>H dx=Ve (.own a)/\fs.length<=1000/\dx≠a/\h.get? a=Ve (QN C dx)/\
   ∃mA,h.Ns1 dx mA/\(∀f,lW (fs.lookup f) (mA f))/\TJ mA (fs.map (·.1))
 | .own _=>∃o,h.get? a=Ve o
 | .xd fs=>∃mA,h.Ns1 a mA/\∀f,lW (fs.lookup f) (mA f)
 | .rng lo hi=>∃t u v,h.get? a=Ve { cls:=.type "range",data:=.fields #[.int lo t,.int hi u,.int 1 v] }
 | .frz o u=>h.get? a=Ve o/\dH H h a u
 | .tbl ps=>h.get? a=Ve { cls:=.none,data:=.fields ps }
 | .met f x=>h.get? a=Ve (Uz (.ref f) (.ref x))
 | .ext φ=>φ h/\(∃o,h.get? a=Ve o)/\∀h1 h2:Pk,φ h1->(∀o,h1.get? a=Ve o->h2.get? a=Ve o)->φ h2
def HOk(H:Hp)(h:Pk):Prop:=∀a o,H a=Ve o->dH P w H h a o
end
section
variable{P:Program}{w:O7}{H H':Hp}{h h':Pk}{a:OW}{o:HO}
theorem dH.lt(x:dH P w H h a o):a<h.objs.size:=by
 cases o with
 |lst xs=>obtain⟨_,_,_,_,e⟩:=x;exact O6 e
 |tup xs=>obtain⟨_,_,_,p⟩:=x;exact p.lt
 |dK kvs=>obtain⟨_,_,_,_,o,_,_,e,_⟩:=x;exact O6 e
 |dT kvs=>obtain⟨_,_,_,_,o,_,_,e,_⟩:=x;exact O6 e
 |set S n=>obtain⟨o,_,_,_,e,_⟩:=x;exact O6 e
 |ins C dx fs=>obtain⟨_,_,_,e,_⟩:=x;exact O6 e
 |own y=>obtain⟨_,e⟩:=x;exact O6 e
 |xd fs=>obtain⟨_,⟨_,_,_,e,_⟩,_⟩:=x;exact O6 e
 |rng lo hi=>obtain⟨_,_,_,e⟩:=x;exact O6 e
 |frz ob u=>obtain⟨e,_⟩:=x;exact O6 e
 |tbl ps=>exact O6 (show h.get? a=Ve _ from x)
 |met f y=>exact O6 (show h.get? a=Ve _ from x)
 |ext φ=>obtain⟨_,⟨_,e⟩,_⟩:=x;exact O6 e
theorem Paired.cI{α β:Type}{F G:α->β->Prop}:∀{l₁:List α}{l₂:List β},Paired F l₁ l₂->(∀a b,F a b->G a b)->Paired G l₁ l₂
 |_,_,.nil,_=>.nil
 |_,_,.cons r t,f=>.cons (f _ _ r) (Paired.cI t f)
theorem dH.zI(x:dH P w H h a o)(k:∀b u,(b=a\/H b=Ve (.own a))->h.get? b=Ve u->h'.get? b=Ve u)
  (ho:∀b,H b=Ve (.own a)->H' b=Ve (.own a)) (ht:∀b xs,H b=Ve (.tup xs)->H' b=Ve (.tup xs)):dH P w H' h' a o:=by
 induction o with
 |lst xs=>obtain⟨z,its,n,r,e⟩:=x;exact⟨z,its,n,r,k _ _ (.inl rfl) e⟩
 |tup xs=>obtain⟨z,its,r,ob,e,c⟩:=x;exact⟨z,its,r,ob,k _ _ (.inl rfl) e,c⟩
 |dK kvs=>obtain⟨z,y,vs,r,ob,es,ep,e,c⟩:=x;exact⟨z,y,vs,r,ob,es,ep,k _ _ (.inl rfl) e,c⟩
 |dT kvs=>
  obtain⟨z,y,xs,r,ob,es,ep,e,c⟩:=x
  exact⟨z,y,xs,Paired.cI r λp q z=>⟨z.1,ht _ _ z.2.1,z.2.2⟩,ob,es,ep,k _ _ (.inl rfl) e,c⟩
 |set S n=>obtain⟨ob,es,ep,t,e,c⟩:=x;exact⟨ob,es,ep,t,k _ _ (.inl rfl) e,c⟩
 |ins C dx fs=>
  obtain⟨d,z,ne,e,mA,⟨od,es,ep,e2,c⟩,r⟩:=x
  exact⟨ho _ d,z,ne,k _ _ (.inl rfl) e,mA,⟨od,es,ep,k _ _ (.inr d) e2,c⟩,r⟩
 |own y=>obtain⟨ob,e⟩:=x;exact⟨ob,k _ _ (.inl rfl) e⟩
 |xd fs=>obtain⟨mA,⟨od,es,ep,e,c⟩,r⟩:=x;exact⟨mA,⟨od,es,ep,k _ _ (.inl rfl) e,c⟩,r⟩
 |rng lo hi=>obtain⟨t,u,v,e⟩:=x;exact⟨t,u,v,k _ _ (.inl rfl) e⟩
 |frz ob u ih=>obtain⟨e,q⟩:=x;exact⟨k _ _ (.inl rfl) e,ih q⟩
 |tbl ps=>
  have e:h.get? a=Ve { cls:=.none,data:=.fields ps }:=x
  show h'.get? a=Ve { cls:=.none,data:=.fields ps }
  exact k a _ (.inl rfl) e
 |met f y=>
  have e:h.get? a=Ve (Uz (.ref f) (.ref y)):=x
  show h'.get? a=Ve (Uz (.ref f) (.ref y))
  exact k a _ (.inl rfl) e
 |ext φ=>obtain⟨p,⟨o,e⟩,st⟩:=x;exact⟨st _ _ p λo q=>k _ _ (.inl rfl) q,⟨o,k _ _ (.inl rfl) e⟩,st⟩
theorem HOk.lt(x:HOk P w H h)(e:H a=Ve o):a<h.objs.size:=(x a o e).lt
theorem HOk.fresh(x:HOk P w H h)(e:h.objs.size<=a):H a=Vf:=by
 cases q:H a with
 |none=>rfl
 |some u=>exact absurd (MH (x.lt q) e) (Ny _)
theorem HOk.kept(x:HOk P w H h)(k:∀b u,h.get? b=Ve u->h'.get? b=Ve u):HOk P w H h':=λa o e=>
 (x a o e).zI (λb u _ q=>k b u q) (λ_ q=>q) λ_ _ q=>q
theorem HOk.laid(x:HOk P w H h)(k:∀b u,h.get? b=Ve u->h'.get? b=Ve u)(hp:h.objs.size<=a)(new:dH P w (upd H a o) h' a o):HOk P w (upd H a o) h':=λb u e=>by
 have hn:=x.fresh hp;by_cases hb:b=a
 ·subst hb;rw[aj]at e;cases e;exact new
 rw[aw hb]at e;exact(x b u e).zI (λc v _ q=>k c v q) (λc q=>by rw[aw (cz q hn)];exact q) λc xs q=>by rw[aw (cz q hn)];exact q
end
def Rd(H:Hp)(a:OW)(u:HO):Prop:=H a=Ve u\/∃o,H a=Ve (.frz o u)
theorem Rd.of(h:H a=Ve u):Rd H a u:=.inl h
theorem Rd.ok(r:Rd H a u)(x:HOk P w H h):dH P w H h a u:=by
 rcases r with r|⟨o,r⟩
 ·exact x a u r
 obtain⟨_,q⟩:=x a _ r;exact q
def Mut:Option HO->Prop
 |some (.lst _)=>True
 |some (.dK _)=>True
 |some (.dT _)=>True
 |some (.set _ _)=>True
 |some (.ins _ _ _)=>True
 |some (.ext _)=>True
 |_=>False
section
variable{P:Program}{w:O7}{H:Hp}{h h':Pk}{x e:OW}{o':HO}
theorem HOk.write(ok:HOk P w H h)(mu:Mut (H x))(he:e=x\/H e=Ve (.own x))(k:∀b u,b≠e->h.get? b=Ve u->h'.get? b=Ve u)(heo:∃u,h'.get? e=Ve u)
  (new:dH P w (upd H x o') h' x o'):HOk P w (upd H x o') h':=λb u q=>by
 have nown:∀c y,H c=Ve (.own y)->c≠x:=λc y r z=>by subst z;rw[r]at mu;exact mu
 have ntup:∀c xs,H c=Ve (.tup xs)->c≠x:=λc xs r z=>by subst z;rw[r]at mu;exact mu
 by_cases hb:b=x
 ·subst hb;rw[aj]at q;cases q;exact new
 rw[aw hb]at q
 by_cases hbe:b=e
 ·have q':H b=Ve (.own x):=by
   rcases he with z|z
   ·exact absurd (hbe.trans z) hb
   rw[hbe];exact z
  rw[q]at q';cases q';obtain⟨v,hv⟩:=heo;exact⟨v,by rw[hbe];exact hv⟩
 refine(ok b u q).zI (λc v hc r=>k c v ?_ r) (λc r=>by rw[aw (nown c b r)];exact r) λc xs r=>by rw[aw (ntup c xs r)];exact r
 rcases hc with rfl|hc
 ·exact hbe
 rintro rfl
 rcases he with z|z
 ·exact nown c b hc z
 rw[hc]at z;cases z;exact hb rfl
end
structure Un(fs ex:List OW)(H H':Hp)(h h':Pk):Prop where
 keep:∀b o,h.get? b=Ve o->H b=Vf->b∉fs->b∉ex->h'.get? b=Ve o
 slot:∀b o,h.get? b=Ve o->H b=Vf->b∈fs->b∉ex->∃sl,h'.get? b=Ve { o with slots:=sl }
 free:∀b o,h.get? b=Ve o->H b=Vf->b∉ex->H' b=Vf
 there:∀b o,h.get? b=Ve o->b∉ex->∃o',h'.get? b=Ve o'
 wu:∀b xs,H b=Ve (.tup xs)->H' b=Ve (.tup xs)
 uu:∀b o u,H b=Ve (.frz o u)->H' b=Ve (.frz o u)
 wY:∀b ps,H b=Ve (.tbl ps)->∃more,H' b=Ve (.tbl (ps++more))
section
variable{fs fs' ex ex':List OW}{H H1 H2:Hp}{h h1 h2 h':Pk}{a x e:OW}{o:HO}
theorem Un.any(u:Un fs ex H H1 h h1)(q:h.get? b=Ve ob)(n:H b=Vf)(hx:b∉ex):∃sl,h1.get? b=Ve { ob with slots:=sl }:=by
 by_cases hb:b∈fs
 ·exact u.slot b ob q n hb hx
 exact⟨ob.slots,u.keep b ob q n hb hx⟩
theorem Un.kept(k:∀b u,h.get? b=Ve u->h'.get? b=Ve u):Un fs ex H H h h':=
 ⟨λb ob q _ _ _=>k b ob q,λb ob q _ _ _=>⟨ob.slots,k b ob q⟩,λ_ _ _ n _=>n,λb ob q _=>⟨ob,k b ob q⟩,λ_ _ q=>q,λ_ _ _ q=>q,λ_ ps q=>⟨#[],by rw[q];simp⟩⟩
theorem Un.refl:Un fs ex H H h h:=Un.kept λ_ _ q=>q
theorem Un.laid(k:∀b u,h.get? b=Ve u->h'.get? b=Ve u)(hp:h.objs.size<=a)(hn:H a=Vf):Un fs ex H (upd H a o) h h' where
 keep:=λb u q _ _ _=>k b u q
 slot:=λb u q _ _ _=>⟨u.slots,k b u q⟩
 free:=λb u q n _=>by rw[aw (MU (MH (O6 q) hp))];exact n
 there:=λb u q _=>⟨u,k b u q⟩
 wu:=λb xs q=>by rw[aw (cz q hn)];exact q
 uu:=λb u xs q=>by rw[aw (cz q hn)];exact q
 wY:=λb ps q=>⟨#[],by rw[aw (cz q hn),q];simp⟩
theorem Un.write(mu:Mut (H x))(he:e=x\/H e=Ve (.own x))(k:∀b u,b≠e->h.get? b=Ve u->h'.get? b=Ve u)(heo:∃u,h'.get? e=Ve u):Un fs ex H (upd H x o) h h':=by
 have hx:∀b,H b=Vf->b≠x:=λb n z=>by subst z;rw[n]at mu;exact mu
 have hb:∀b,H b=Vf->b≠e:=λb n z=>by
  subst z;rcases he with r|r
  ·exact hx b n r
  rw[n]at r;cases r
 have hm:∀b u,H b=Ve u->¬ Mut (Ve u)->b≠x:=λb u q nm z=>by subst z;rw[q]at mu;exact nm mu
 refine⟨λb u q n _ _=>k b u (hb b n) q,λb u q n _ _=>⟨u.slots,k b u (hb b n) q⟩,λb u q n _=>by rw[aw (hx b n)];exact n,λb u q _=>?_,
  λb xs q=>by rw[aw (hm b _ q λz=>z)];exact q,λb u xs q=>by rw[aw (hm b _ q λz=>z)];exact q,λb ps q=>⟨#[],by rw[aw (hm b _ q λz=>z),q];simp⟩⟩
 by_cases hbe:b=e
 ·subst hbe;exact heo
 exact⟨u,k b u hbe q⟩
end
noncomputable def trk(h:Pk)(H:Hp):List OW:=(Pc h.objs.size).filter λa=>(H a).isSome
noncomputable def vI(h:Pk)(H:Hp):Pk:=W.hideAll h (trk h H)
theorem Cy(h:Pk)(H:Hp):(vI h H).objs.size=h.objs.size:=W.hideAll_size _ _
theorem Ds(e:h.get? b=Ve o)(n:H b=Vf):(vI h H).get? b=Ve o:=
 W.hideAll_get _ e λhm=>by
  have q:(H b).isSome=true:=(MY.mp hm).2;rw[n]at q;simp at q
theorem Ga(e:(vI h H).get? b=Ve o):h.get? b=Ve o/\H b=Vf:=by
 have e':h.get? b=Ve o:=W.of_hideAll (trk h H) e;refine⟨e',?_⟩;cases q:H b with
 |none=>rfl
 |some x=>
  have hm:b∈trk h H:=MY.mpr ⟨MV.mpr (O6 e'),by simp[q]⟩;have z:(vI h H).get? b=Vf:=W.hideAll_none (trk h H) hm;rw[z]at e;cases e
structure Mod(K:OZ)(mg:Str->Option OX)(base:Pk):Prop where
 kin:K.In base
 glob:base.Ns Pf mg
 blt:∃mb,base.Ns RQ mb/\∀x:Str,x≠"__name__"->mb x=P1 x
 nolimit:base.NoLimit
structure Cx where
 prog:Program
 w:O7
 K:OZ
 mg:Str->Option OX
 base:Pk
 A:Py
 N:List Str
 s₀:O0
 H₀:Hp
 env:Env
 outer:List Env
 stack:List Env
 ex:List OW
 fn:Str->Bool
 calm:Bool
 pn:List (OW×Obj)
 xe:OX->O0->Prop
def frs(l:List Env):List OW:=l.filterMap (·.frame)
abbrev Cx.fs(X:Cx):List OW:=frs X.outer
def Vis(sc:Q8)(x:Str):Prop:=sc.names.lookup x=Ve .local\/sc.names.lookup x=Ve .cell\/sc.names.lookup x=Ve .free
def Loc(sc:Q8)(x:Str):Prop:=sc.names.lookup x=Ve .local\/sc.names.lookup x=Ve .cell
def VN(env:Env)(h:Pk)(m:Str->Option OX)(x:Str)(u:OX):Prop:=
 (env.kindOf x=Ve .local/\m x=Ve u)\/((env.kindOf x=Ve .cell\/env.kindOf x=Ve .free)/\∃c,env.cells.lookup x=Ve c/\h.IsCell c (Ve u))
structure Cx.Ok(X:Cx):Prop where
 mod:Mod X.K X.mg X.base
 kind:X.env.scope.kind=.function
 glob:X.env.globals=Pf
 blt:X.env.builtins=RQ
 above:X.s₀.heap.objs.size<=X.env.locals
 inj:∀x y c,X.env.cells.lookup x=Ve c->X.env.cells.lookup y=Ve c->x=y
 has:∀x,(X.env.kindOf x=Ve .cell\/X.env.kindOf x=Ve .free)->∃c,X.env.cells.lookup x=Ve c
 cab:∀x c,X.fn x=true->X.env.cells.lookup x=Ve c->X.s₀.heap.objs.size<=c
 hd:X.calm=true->X.A.handled=Vf
 frames:X.A.frames=Ve X.stack
 stk:X.stack=X.outer\/(X.stack=X.env::X.outer/\X.env.frame=Ve X.env.locals)
 exf:∀b∈X.ex,b≠X.env.locals/\∀x c,X.env.cells.lookup x=Ve c->c≠b
 bs:∀b o,X.base.get? b=Ve o->X.s₀.heap.get? b=Ve o/\X.H₀ b=Vf
 bsz:X.base.objs.size<=X.s₀.heap.objs.size
 DY:∀b o,X.base.get? b=Ve o->b∉X.ex
 Ef:∀b∈X.ex,b∉X.fs
 qL:X.s₀.heap.FunFrames X.base X.outer
 frf:∀b∈X.fs,X.H₀ b=Vf
structure Inv(X:Cx)(pins:List (OW×Obj))(σ:List (Option V))(H:Hp)(s:O0):Prop where
 ok:X.Ok
 os:s.os=X.s₀.os
 bare:Ru s.gens
 base:Un X.fs X.ex X.H₀ H X.s₀.heap s.heap
 loc:∃m,s.heap.Ns X.env.locals m/\∀(i:Nat)(x:Str)(v:V),X.N[i]?=Ve x->σ[i]?=Ve (Ve v)->Vis X.env.scope x->∃u,Vo v u/\VN X.env s.heap m x u
 cell:∀x c,X.env.cells.lookup x=Ve c->∃v,s.heap.IsCell c v
 free:H X.env.locals=Vf
 mQ:∀x c,X.env.cells.lookup x=Ve c->H c=Vf
 pin:∀p∈X.pn++pins,s.heap.get? p.1=Ve p.2/\H p.1=Vf/\p.1≠X.env.locals/\p.1∉X.fs/\∀v,p.2.data≠ .cell v
 hok:HOk X.prog X.w H s.heap
 len:σ.length=X.N.length
section
variable{X:Cx}{pins:List (OW×Obj)}{σ:List (Option V)}{H H':Hp}{s:O0}{h':Pk}
theorem Cx.Ok.Lv(ok:X.Ok)(e:X.base.get? b=Ve o):b∉X.fs:=λhb=>by
 have:=(ok.qL.mem hb).1;rw[e]at this;cases this
theorem Inv.bs(I:Inv X pins σ H s):∀b o,X.base.get? b=Ve o->s.heap.get? b=Ve o/\H b=Vf:=λb o e=>
 ⟨I.base.keep b o (I.ok.bs b o e).1 (I.ok.bs b o e).2 (I.ok.Lv e) (I.ok.DY b o e),I.base.free b o (I.ok.bs b o e).1 (I.ok.bs b o e).2 (I.ok.DY b o e)⟩
theorem Inv.bk(I:Inv X pins σ H s):∀b o,X.base.get? b=Ve o->s.heap.get? b=Ve o:=λb o e=>(I.bs b o e).1
theorem Inv.mod(I:Inv X pins σ H s):Mod X.K X.mg X.base:=I.ok.mod
theorem Inv.kIn(I:Inv X pins σ H s):X.K.In s.heap:=I.ok.mod.kin.keeps I.bk
theorem Inv.lt(I:Inv X pins σ H s):X.env.locals<s.heap.objs.size:=let ⟨_,hn,_⟩:=I.loc;hn.lt
theorem Inv.sz(I:Inv X pins σ H s):X.s₀.heap.objs.size<=s.heap.objs.size:=MC I.ok.above (OJ I.lt)
theorem Inv.JJ(I:Inv X pins σ H s)(h:s.heap.objs.size<=a):a∉X.fs:=λhb=>by
 obtain⟨_,o,ho,_⟩:=I.ok.qL.mem hb;exact absurd (MH (O6 ho) (MC I.sz h)) (Ny _)
theorem Inv.cne(I:Inv X pins σ H s):∀x c,X.env.cells.lookup x=Ve c->c≠X.env.locals:=λx c e z=>by
 obtain⟨v,o,ho,hd⟩:=I.cell x c e;obtain⟨m,⟨o',es,ep,ho',hd',_⟩,_⟩:=I.loc;rw[z,ho']at ho;cases ho;rw[hd']at hd;cases hd
theorem Inv.qL(I:Inv X pins σ H s):s.heap.FunFrames X.base X.outer:=by
 have all:∀(l:List Env),(∀b∈frs l,b∈X.fs)->X.s₀.heap.FunFrames X.base l->s.heap.FunFrames X.base l:=by
  intro l;induction l with
  |nil=>intro _ _;trivial
  |cons env r ih=>
   intro hs hl;obtain⟨hk,⟨L,o,hf,hn,ho,hd⟩,hr⟩:=hl;have hL:L∈X.fs:=hs L (by unfold frs;rw[OB,hf];exact Mg);obtain⟨sl,e⟩:=I.base.slot L o ho (I.ok.frf L hL) hL λz=>I.ok.Ef L z hL;exact⟨hk,⟨L,_,hf,hn,e,hd⟩,ih (λb hb=>hs b (by unfold frs;rw[OB,hf];exact Mi _ hb)) hr⟩
 exact all X.outer (λ_ hb=>hb) I.ok.qL
theorem Inv.stack(I:Inv X pins σ H s):s.heap.FunFrames X.base X.stack:=by
 rcases I.ok.stk with e|⟨e,hf⟩
 ·rw[e];exact I.qL
 rw[e];obtain⟨m,hn,_⟩:=I.loc;refine .cons (by rw[I.ok.kind];decide) hf hn ?_ I.qL;exact Heap.get?_none_of_le (MC I.ok.bsz I.ok.above)
theorem Inv.Ai(I:Inv X pins σ H s):∀b∈frs X.stack,b∈X.env.locals::X.fs:=λb hb=>by
 rcases I.ok.stk with e|⟨e,hf⟩
 ·rw[e]at hb;exact Mi _ hb
 rw[e]at hb;unfold frs at hb;rw[OB,hf]at hb;exact hb
theorem Inv.Aw(I:Inv X pins σ H s):∀b∈frs X.stack,H b=Vf:=λb hb=>by
 rcases Mf.mp (I.Ai b hb)with e|hb
 ·rw[e];exact I.free
 obtain⟨_,o,ho,_⟩:=I.ok.qL.mem hb;exact I.base.free b o ho (I.ok.frf b hb) λz=>I.ok.Ef b z hb
theorem Inv.step{g':Array UP}{t':Nat}{d':Drawn}{ch:List OW}(I:Inv X pins σ H s)
  (hch:∀b∈ch,(b∈X.ex\/X.s₀.heap.objs.size<=b)/\b≠X.env.locals/\(∀x c,X.env.cells.lookup x=Ve c->c≠b)/\∀p∈X.pn++pins,p.1≠b)
  (keep:∀b o,b≠X.env.locals->b∉X.fs->b∉ch->s.heap.get? b=Ve o->H b=Vf->h'.get? b=Ve o)
  (slot:∀b o,b≠X.env.locals->b∈X.fs->b∉ch->s.heap.get? b=Ve o->H b=Vf->∃sl,h'.get? b=Ve { o with slots:=sl }) (free:∀b o,b∉ch->s.heap.get? b=Ve o->H b=Vf->H' b=Vf)
  (there:∀b o,b∉ch->s.heap.get? b=Ve o->∃o',h'.get? b=Ve o')
  (wu:∀b xs,H b=Ve (.tup xs)->H' b=Ve (.tup xs)) (uu:∀b o u,H b=Ve (.frz o u)->H' b=Ve (.frz o u)) (wY:∀b ps,H b=Ve (.tbl ps)->∃more,H' b=Ve (.tbl (ps++more)))
  (ns:∀m,s.heap.Ns X.env.locals m->h'.Ns X.env.locals m) (hok:HOk X.prog X.w H' h') (hg:Ru g') :
  Inv X pins σ H' { s with heap:=h',gens:=g',drawn:=d',toks:=t' }:=by
 have neL:∀b o,X.s₀.heap.get? b=Ve o->b≠X.env.locals:=λb o e=>MU (MH (O6 e) I.ok.above)
 have neC:∀b o,X.s₀.heap.get? b=Ve o->b∉X.ex->b∉ch:=λb o e hx hb=>by
  rcases(hch b hb).1 with z|z
  ·exact hx z
  exact absurd (MH (O6 e) z) (Ny _)
 have cellK:∀x c,X.env.cells.lookup x=Ve c->∀v,s.heap.IsCell c v->h'.IsCell c v:=λx c e v ⟨o,ho,hd⟩=>by
  have nch:c∉ch:=λz=>(hch c z).2.2.1 x c e rfl;by_cases hc:c∈X.fs
  ·obtain⟨sl,q⟩:=slot c o (I.cne x c e) hc nch ho (I.mQ x c e);exact⟨_,q,hd⟩
  exact⟨o,keep c o (I.cne x c e) hc nch ho (I.mQ x c e),hd⟩
 refine⟨I.ok,I.os,hg,⟨λb o e n hb hx=>?_,λb o e n hb hx=>?_,λb o e n hx=>?_,λb o e hx=>?_,λb xs e=>wu b xs (I.base.wu b xs e),λb o xs e=>uu b o xs (I.base.uu b o xs e),λb ps e=>?_⟩,?_,λx c e=>?_,?_,λx c e=>?_,λp hp=>?_,hok,I.len⟩
 ·exact keep b o (neL b o e) hb (neC b o e hx) (I.base.keep b o e n hb hx) (I.base.free b o e n hx)
 ·obtain⟨sl,e1⟩:=I.base.slot b o e n hb hx;obtain⟨sl',e2⟩:=slot b _ (neL b o e) hb (neC b o e hx) e1 (I.base.free b o e n hx);exact⟨sl',e2⟩
 ·obtain⟨o',e1⟩:=I.base.there b o e hx;exact free b o' (neC b o e hx) e1 (I.base.free b o e n hx)
 ·obtain⟨o',e1⟩:=I.base.there b o e hx;exact there b o' (neC b o e hx) e1
 ·obtain⟨m1,e1⟩:=I.base.wY b ps e;obtain⟨m2,e2⟩:=wY b _ e1;exact⟨m1++m2,by rw[e2,Array.append_assoc]⟩
 ·obtain⟨m,hn,hl⟩:=I.loc;refine⟨m,ns m hn,λi x v e1 e2 e3=>?_⟩;obtain⟨u,r,l⟩:=hl i x v e1 e2 e3;refine⟨u,r,?_⟩;rcases l with l|⟨k,c,e,z⟩
  ·exact .inl l
  exact .inr ⟨k,c,e,cellK x c e _ z⟩
 ·obtain⟨v,z⟩:=I.cell x c e;exact⟨v,cellK x c e v z⟩
 ·obtain⟨m,⟨o,_,_,ho,_⟩,_⟩:=I.loc;exact free _ o (λz=>(hch _ z).2.1 rfl) ho I.free
 ·obtain⟨v,o,ho,hd⟩:=I.cell x c e;exact free c o (λz=>(hch c z).2.2.1 x c e rfl) ho (I.mQ x c e)
 obtain⟨e,n,ne,nf,d⟩:=I.pin p hp
 have nch:p.1∉ch:=λz=>(hch p.1 z).2.2.2 p hp rfl
 exact⟨keep p.1 p.2 ne nf nch e n,free p.1 p.2 nch e n,ne,nf,d⟩
theorem Inv.un(I:Inv X pins σ H s)(u:Un X.fs [] H H' s.heap h')(hok:HOk X.prog X.w H' h'):Inv X pins σ H' { s with heap:=h',toks:=t' }:=by
 obtain⟨m,⟨o,es,ep,ho,r⟩,_⟩:=id I.loc;obtain⟨sl,hL⟩:=u.any ho I.free (by simp);exact I.step (g':=s.gens) (d':=s.drawn) (ch:=[]) (λ_ z=>nomatch z) (λb o _ hb _ e n=>u.keep b o e n hb (by simp)) (λb o _ hb _ e n=>u.slot b o e n hb (by simp)) (λb o _ e n=>u.free b o e n (by simp)) (λb o _ e=>u.there b o e (by simp)) u.wu u.uu u.wY (λm' hm=>by
  obtain⟨o',es',ep',ho',r'⟩:=hm;rw[ho]at ho';cases ho';exact⟨_,es',ep',hL,r'⟩) hok I.bare
theorem Inv.call(I:Inv X pins σ H s)(u:Un (frs X.stack) ch H H' s.heap h')(hok:HOk X.prog X.w H' h')(hg:Ru g')
  (hch:∀b∈ch,(b∈X.ex\/X.s₀.heap.objs.size<=b)/\b≠X.env.locals/\(∀x c,X.env.cells.lookup x=Ve c->c≠b)/\∀p∈X.pn++pins,p.1≠b) :
  Inv X pins σ H' { s with heap:=h',gens:=g',drawn:=d',toks:=t' }:=by
 obtain⟨m,⟨o,es,ep,ho,r⟩,_⟩:=id I.loc
 obtain⟨sl,hL⟩:=u.any ho I.free λz=>(hch _ z).2.1 rfl
 exact I.step (ch:=ch) hch (λb o hL hb hc e n=>u.keep b o e n (λz=>(Mf.mp (I.Ai b z)).elim hL hb) hc) (λb o _ _ hc e n=>u.any e n hc) (λb o hc e n=>u.free b o e n hc) (λb o hc e=>u.there b o e hc) u.wu u.uu u.wY (λm' hm=>by
  obtain⟨o',es',ep',ho',r'⟩:=hm;rw[ho]at ho';cases ho';exact⟨_,es',ep',hL,r'⟩) hok hg
theorem Inv.turned(I:Inv X pins σ H s)(k:∀b o,b≠it->s.heap.get? b=Ve o->h'.get? b=Ve o)(hn:H it=Vf)(hL:it≠X.env.locals)
  (h1:it∈X.ex\/X.s₀.heap.objs.size<=it) (h2:∀x c,X.env.cells.lookup x=Ve c->c≠it) (h3:∀p∈X.pn++pins,p.1≠it):Inv X pins σ H { s with heap:=h',toks:=t' }:=by
 have nit:∀b u,H b=Ve u->b≠it:=λb u e z=>by rw[z,hn]at e;cases e
 refine I.step (g':=s.gens) (d':=s.drawn) (ch:=[it]) (λb hb=>?_) (λb o _ _ hc e _=>k b o (λz=>hc (by simp[z])) e) (λb o _ _ hc e _=>⟨o.slots,k b o (λz=>hc (by simp[z])) e⟩) (λ_ _ _ _ n=>n)
  (λb o hc e=>⟨o,k b o (λz=>hc (by simp[z])) e⟩) (λ_ _ e=>e) (λ_ _ _ e=>e) (λb ps e=>⟨#[],by rw[e];simp⟩) (λm hm=>?_) (λb u e=>?_) I.bare
 ·have e:b=it:=by simpa using hb
  subst e;exact⟨h1,hL,h2,h3⟩
 ·obtain⟨o,es,ep,ho,r⟩:=hm;exact⟨o,es,ep,k _ o (Nm hL) ho,r⟩
 refine(I.hok b u e).zI (λc v hc q=>k c v ?_ q) (λ_ q=>q) λ_ _ q=>q
 rcases hc with z|z
 ·rw[z];exact nit b u e
 exact nit c _ z
theorem Inv.tok(I:Inv X pins σ H s)(t:Nat):Inv X pins σ H { s with toks:=t }:=I.un (h':=s.heap) (t':=t) Un.refl I.hok
theorem Inv.kept(I:Inv X pins σ H s)(k:∀b u,s.heap.get? b=Ve u->h'.get? b=Ve u):Inv X pins σ H { s with heap:=h',toks:=t' }:=I.un (Un.kept k) (I.hok.kept k)
theorem Inv.laid(I:Inv X pins σ H s)(k:∀b u,s.heap.get? b=Ve u->h'.get? b=Ve u)(hp:s.heap.objs.size<=a)(new:dH X.prog X.w (upd H a o) h' a o) :
  Inv X pins σ (upd H a o) { s with heap:=h',toks:=t' }:=I.un (Un.laid k hp (I.hok.fresh hp)) (I.hok.laid k hp new)
theorem Inv.write(I:Inv X pins σ H s)(mu:Mut (H x))(he:e=x\/H e=Ve (.own x))(k:∀b u,b≠e->s.heap.get? b=Ve u->h'.get? b=Ve u)(heo:∃u,h'.get? e=Ve u)
  (new:dH X.prog X.w (upd H x o) h' x o):Inv X pins σ (upd H x o) { s with heap:=h',toks:=t' }:=I.un (Un.write mu he k heo) (I.hok.write mu he k heo new)
theorem Inv.w8(I:Inv X pins σ H s)(h:∀p∈pins',s.heap.get? p.1=Ve p.2/\H p.1=Vf/\p.1≠X.env.locals/\p.1∉X.fs/\∀v,p.2.data≠ .cell v):Inv X pins' σ H s:=
 ⟨I.ok,I.os,I.bare,I.base,I.loc,I.cell,I.free,I.mQ,λp hp=>(Mp.mp hp).elim (λz=>I.pin p (MN _ z)) (h p),I.hok,I.len⟩
theorem xq{N:List Str}(hN:N.Nodup){i j:Nat}{x:Str}(a:N[i]?=Ve x)(b:N[j]?=Ve x):i=j:=by
 obtain⟨h1,e1⟩:=Ml.mp a;obtain⟨h2,e2⟩:=Ml.mp b;exact(NW hN).mp (e1.trans e2.symm)
theorem Ci(I:Inv X pins σ H s)(hN:X.N.Nodup)(hi:X.N[i]?=Ve x)(hx:Loc X.env.scope x)(r:Vo v u)
  (h:∀s',Inv X pins (σ.set i (Ve v)) H s'->(∃a,Q2 a s.heap s'.heap/\(a=X.env.locals\/X.env.cells.lookup x=Ve a))->Q () s') (hf:X.fn x=true\/X.env.scope.names.lookup x=Ve .local:=by first|exact .inl rfl|exact .inr rfl|assumption):wpAny M A (U9 X.env x u) Q E s:=by
 obtain⟨m,hn,hl⟩:=id I.loc
 have hcls:(X.env.scope.kind== .class||(X.env.scope.kind== .module&&X.env.locals !=X.env.globals))=false:=by rw[I.ok.kind];rfl
 have hiσ:i<σ.length:=by rw[I.len];exact(Ml.mp hi).1
 have cne:=I.cne
 have tracked:∀{a:OW}{h':Pk},(∃o,s.heap.get? a=Ve o/\H a=Vf)->Q2 a s.heap h'->HOk X.prog X.w H h':=λ{a h'} ha hs b ob e=>by
  obtain⟨_,_,hfree⟩:=ha;refine(I.hok b ob e).zI (λc w' hc q=>(hs.2 c ?_).trans q) (λ_ q=>q) λ_ _ q=>q;rintro rfl;rcases hc with rfl|hc
  ·rw[hfree]at e;cases e
  rw[hfree]at hc;cases hc
 rcases hx with hk|hk
 ·refine wpAny_storeName_local hk hn (λh' hn' hs=>?_) hcls;obtain⟨oL,_,_,hoL,_⟩:=id hn;refine h _ ⟨I.ok,I.os,I.bare,⟨λb o e n hb hx=>?_,λb o e n hb hx=>?_,I.base.free,λb o e hx=>?_,I.base.wu,I.base.uu,I.base.wY⟩,⟨_,hn',λj y v' e1 e2 e3=>?_⟩,λy c e=>?_,I.free,I.mQ,λp hp=>?_,tracked ⟨oL,hoL,I.free⟩ hs,by simpa using I.len⟩ ⟨_,hs,.inl rfl⟩
  ·exact(hs.2 b (MU (MH (O6 e) I.ok.above))).trans (I.base.keep b o e n hb hx)
  ·obtain⟨sl,e1⟩:=I.base.slot b o e n hb hx;exact⟨sl,(hs.2 b (MU (MH (O6 e) I.ok.above))).trans e1⟩
  ·obtain⟨o',e1⟩:=I.base.there b o e hx;exact⟨o',(hs.2 b (MU (MH (O6 e) I.ok.above))).trans e1⟩
  ·by_cases hj:j=i
   ·subst hj;rw[hi]at e1;cases e1;rw[RR hiσ]at e2;cases e2;exact⟨u,r,.inl ⟨hk,by simp⟩⟩
   rw[Sn (Nm hj)]at e2;obtain⟨u',r',q⟩:=hl j y v' e1 e2 e3;refine⟨u',r',?_⟩;rcases q with⟨k,e⟩|⟨k,c,e,z⟩
   ·refine .inl ⟨k,?_⟩;have:y≠x:=λe=>hj (xq hN e1 (e▸hi));simp[this,e]
   exact .inr ⟨k,c,e,z.sameBut hs (cne y c e)⟩
  ·obtain⟨w',z⟩:=I.cell y c e;exact⟨w',z.sameBut hs (cne y c e)⟩
  obtain⟨e,n,ne,nf,d⟩:=I.pin p hp;exact⟨(hs.2 p.1 ne).trans e,n,ne,nf,d⟩
 have hfn:X.fn x=true:=by
  rcases hf with z|z
  ·exact z
  rw[z]at hk;cases hk
 obtain⟨c,hc⟩:=I.ok.has x (.inl hk)
 obtain⟨w',z⟩:=I.cell x c hc
 refine wpAny_storeName_cell I.ok.kind hk hc z (λh' hc' hs=>?_)
 obtain⟨oc,hoc,hocd⟩:=id z
 refine h { s with heap:=h' } ⟨I.ok,I.os,I.bare,⟨λb o e n hb hx=>?_,λb o e n hb hx=>?_,I.base.free,λb o e hx=>?_,I.base.wu,I.base.uu,I.base.wY⟩,⟨m,hn.sameBut hs (Nm (cne x c hc)),λj y v' e1 e2 e3=>?_⟩,λy c' e=>?_,I.free,I.mQ,λp hp=>?_,tracked ⟨oc,hoc,I.mQ x c hc⟩ hs,by simpa using I.len⟩ ⟨c,hs,.inr hc⟩
 ·exact(hs.2 b (MU (MH (O6 e) (I.ok.cab x c hfn hc)))).trans (I.base.keep b o e n hb hx)
 ·obtain⟨sl,e1⟩:=I.base.slot b o e n hb hx;exact⟨sl,(hs.2 b (MU (MH (O6 e) (I.ok.cab x c hfn hc)))).trans e1⟩
 ·obtain⟨o',e1⟩:=I.base.there b o e hx;exact⟨o',(hs.2 b (MU (MH (O6 e) (I.ok.cab x c hfn hc)))).trans e1⟩
 ·by_cases hj:j=i
  ·subst hj;rw[hi]at e1;cases e1;rw[RR hiσ]at e2;cases e2;exact⟨u,r,.inr ⟨.inl hk,c,hc,hc'⟩⟩
  rw[Sn (Nm hj)]at e2;obtain⟨u',r',q⟩:=hl j y v' e1 e2 e3;refine⟨u',r',?_⟩;rcases q with q|⟨k,c',e,z'⟩
  ·exact .inl q
  refine .inr ⟨k,c',e,z'.sameBut hs ?_⟩;rintro rfl;exact hj (xq hN e1 (I.ok.inj _ _ _ e hc▸hi))
 ·by_cases hcc:c'=c
  ·subst hcc;exact⟨_,hc'⟩
  obtain⟨w2,z2⟩:=I.cell y c' e;exact⟨w2,z2.sameBut hs hcc⟩
 obtain⟨e,n,ne,nf,d⟩:=I.pin p hp
 refine⟨(hs.2 p.1 ?_).trans e,n,ne,nf,d⟩
 intro q
 rw[q,hoc]at e
 have q':oc=p.2:=O1 e
 exact d w' (by rw[<-q'];exact hocd)
theorem rX(I:Inv X pins σ H s)(hN:X.N.Nodup)(hi:X.N[i]?=Ve x)(hx:Loc X.env.scope x)(r:Vo v u)
  (h:∀s',Inv X pins (σ.set i (Ve v)) H s'->Q () s') (hf:X.fn x=true\/X.env.scope.names.lookup x=Ve .local:=by first|exact .inl rfl|exact .inr rfl|assumption):wpAny M A (U9 X.env x u) Q E s:=
 Ci I hN hi hx r (λs' I' _=>h s' I') hf
theorem Inv.JR(I:Inv X pins σ H s)(ho:s'.os=s.os)(u:Un (frs X.stack) ch H H' s.heap s'.heap)(hok:HOk X.prog X.w H' s'.heap)(hg:Ru s'.gens)
  (hch:∀b∈ch,(b∈X.ex\/X.s₀.heap.objs.size<=b)/\b≠X.env.locals/\(∀x c,X.env.cells.lookup x=Ve c->c≠b)/\∀p∈X.pn++pins,p.1≠b):Inv X pins σ H' s':=by
 obtain⟨h',g',d',t',o'⟩:=s'
 have e:o'=s.os:=ho
 subst e
 exact I.call (g':=g') (t':=t') (d':=d') u hok hg hch
end
abbrev XK:=OX->Option OW->Hp->Prop
abbrev St:=List (Option V)
abbrev VK:=V->Hp->Prop
abbrev TE:=St->Hp->VK->Prop
abbrev TT:=St->Hp->(Bool->Hp->Prop)->Prop
abbrev TA:=St->Hp->(List V->Hp->Prop)->Prop
structure VE where
 nx:St->Hp->Prop
 rt:VK
 bk:St->Hp->Prop:=λ_ _=>False
 ct:St->Hp->Prop:=λ_ _=>False
abbrev TS:=VE->St->Hp->Prop
def EP(X:Cx)(pins:List (OW×Obj))(σ:St)(Q:VK)(u:OX)(s':O0):Prop:=∃v H',Inv X pins σ H' s'/\Vo v u/\Q v H'
def TP(X:Cx)(pins:List (OW×Obj))(σ:St)(Q:Bool->Hp->Prop)(b:Bool)(s':O0):Prop:=∃H',Inv X pins σ H' s'/\Q b H'
def AP(X:Cx)(pins:List (OW×Obj))(σ:St)(Q:List V->Hp->Prop)(us:List OX)(s':O0):Prop:=∃vs H',Inv X pins σ H' s'/\Vn vs us/\Q vs H'
def SP(X:Cx)(pins:List (OW×Obj))(D:VE)(f:Flow)(s':O0):Prop:=
 match f with
 | .next=>∃σ' H',Inv X pins σ' H' s'/\D.nx σ' H'
 | .brk=>∃σ' H',Inv X pins σ' H' s'/\D.bk σ' H'
 | .cont=>∃σ' H',Inv X pins σ' H' s'/\D.ct σ' H'
 | .ret u=>∃v σ' H',Inv X pins σ' H' s'/\Vo v u/\D.rt v H'
def PE(X:Cx)(e:Expr)(t:TE):Prop:=
 ∀(pins:List (OW×Obj))(s:O0)(σ:St)(H:Hp)(Q:VK),Inv X pins σ H s->t σ H Q->wpAny (Pb X.prog X.w) X.A (PD e X.env) (EP X pins σ Q) X.xe s
def PT(X:Cx)(e:Expr)(t:TT):Prop:=
 ∀(pins:List (OW×Obj))(s:O0)(σ:St)(H:Hp)(Q:Bool->Hp->Prop),Inv X pins σ H s->t σ H Q->wpAny (Pb X.prog X.w) X.A (isTrue e X.env (PD e X.env)) (TP X pins σ Q) X.xe s
def PW(X:Cx)(e:Expr)(t:TT):Prop:=
 ∀(whole:Sem OX)(pins:List (OW×Obj))(s:O0)(σ:St)(H:Hp)(Q:Bool->Hp->Prop),Inv X pins σ H s->t σ H Q->wpAny (Pb X.prog X.w) X.A (isTrue e X.env whole) (TP X pins σ Q) X.xe s
theorem PW.pt(h:PW X e t):PT X e t:=h _
def PA(X:Cx)(es:List Expr)(t:TA):Prop:=
 ∀(pos:Pos)(pins:List (OW×Obj))(s:O0)(σ:St)(H:Hp)(Q:List V->Hp->Prop),Inv X pins σ H s->t σ H Q->wpAny (Pb X.prog X.w) X.A (spliced (PR pos (O5 es X.env))) (AP X pins σ Q) X.xe s
def PS(X:Cx)(st:Pj)(t:TS):Prop:=
 ∀(pins:List (OW×Obj))(s:O0)(σ:St)(H:Hp)(D:VE),Inv X pins σ H s->t D σ H->wpAny (Pb X.prog X.w) X.A (exec st X.env) (SP X pins D) X.xe s
def PSs(X:Cx)(st:List Pj)(t:TS):Prop:=
 ∀(pins:List (OW×Obj))(s:O0)(σ:St)(H:Hp)(D:VE),Inv X pins σ H s->t D σ H->wpAny (Pb X.prog X.w) X.A (execs st X.env) (SP X pins D) X.xe s
theorem thn(h:wpAny M A t Q E s)(hQ:∀a s,Q a s->Q' a s):wpAny M A t Q' E s:=P5 h hQ λ_ _ x=>x
section
variable{X:Cx}
def LX(i:Nat):TE:=λσ H Q=>∃v,σ[i]?=Ve (Ve v)/\Q v H
def tC(v:V):TE:=λ_ H Q=>Q v H
theorem Jn(hN:X.N[i]?=Ve x)(hv:Vis X.env.scope x)(hd:(x==("__debug__":Str))=false:=by decide)(hcd:(x==("__classdict__":Str))=false:=by decide):PE X (.Name x pos) (LX i):=by
 intro pins s σ H Q I h;obtain⟨v,e,h⟩:=h;obtain⟨m,hn,hl⟩:=I.loc;obtain⟨u,r,l⟩:=hl i x v hN e hv;have fin:EP X pins σ Q u s:=⟨v,H,I,r,h⟩;rcases l with⟨hk,hm⟩|⟨hk,c,hc,hcell⟩
 ·exact UQ (So I.ok.kind hk hn hm fin) hd
 rcases hk with hk|hk
 ·exact UQ (SQ I.ok.kind hk hc hcell fin) hd
 exact UQ (wpAny_loadName_free I.ok.kind hk hc hcell fin hcd) hd
theorem ae{i j pos}:PE X (.Constant (.int i) j pos) (tC (.int i)):=λ_ _ _ H _ I h=>wpAny_Constant_int ⟨.int i,H,I.tok _,⟨_,rfl⟩,h⟩
theorem lL{b j pos}:PE X (.Constant (.bool b) j pos) (tC (.bl b)):=λ_ _ _ H _ I h=>Constant_bool ⟨.bl b,H,I,rfl,h⟩
theorem dF{j pos}:PE X (.Constant .none j pos) (tC .non):=λ_ _ _ H _ I h=>Constant_none ⟨.non,H,I,rfl,h⟩
theorem ak{x j pos}:PE X (.Constant (.str x) j pos) (tC (.str x)):=λ_ _ _ H _ I h=>Calls.Constant_str ⟨.str x,H,I.tok _,⟨_,rfl⟩,h⟩
def Gl(X:Cx)(x:Str):Prop:=X.env.kindOf x=Ve .globalImplicit
theorem pe(I:Inv X pins σ H s)(hg:Gl X x)(hm:X.mg x=Ve u)(h:Q u s)
  (hd:(x==("__debug__":Str))=false:=by decide):wpAny (Pb X.prog X.w) X.A (PD (.Name x pos) X.env) Q E s:=
 Q9 I.ok.kind hg (Calls.loadGlobal_global (by rw[I.ok.glob];exact I.mod.glob.keeps I.bk) hm h) hd
theorem pW(I:Inv X pins σ H s)(hg:Gl X x)(hm:X.mg x=Vf)(hv:P1 x=Ve u)(h:Q u s)
  (hn:x≠"__name__":=by decide) (hd:(x==("__debug__":Str))=false:=by decide):wpAny (Pb X.prog X.w) X.A (PD (.Name x pos) X.env) Q E s:=by
 obtain⟨mb,h1,h2⟩:=I.mod.blt
 exact Q9 I.ok.kind hg (Calls.loadGlobal_builtin (by rw[I.ok.glob];exact I.mod.glob.keeps I.bk) hm (by rw[I.ok.blt];exact h1.keeps I.bk) ((h2 x hn).trans hv) h) hd
theorem Bj(hg:Gl X x)(hm:X.mg x=Ve u)(r:Vo v u)(hd:(x==("__debug__":Str))=false:=by decide):PE X (.Name x pos) (tC v):=
 λ_ _ _ H _ I h=>pe I hg hm ⟨v,H,I,r,h⟩ hd
theorem iw(hg:Gl X x)(hm:X.mg x=Vf)(hv:P1 x=Ve u)(r:Vo v u)(hn:x≠"__name__":=by decide)(hd:(x==("__debug__":Str))=false:=by decide):PE X (.Name x pos) (tC v):=
 λ_ _ _ H _ I h=>pW I hg hm hv ⟨v,H,I,r,h⟩ hn hd
variable{a b:Expr}{ta tb:TE}{pos:Pos}
variable{tA tB':TT}{rest:List Expr}
def LF(t u:TT):TT:=λσ H Q=>t σ H λc H1=>if c=true then u σ H1 Q else Q false H1
def tOr(t u:TT):TT:=λσ H Q=>t σ H λc H1=>if c=true then Q true H1 else u σ H1 Q
def LI(t:TT):TT:=λσ H Q=>t σ H λc H1=>Q (!c) H1
theorem pw_and1(ha:PT X a tA):PW X (.BoolOp .And [a] pos) tA:=by
 intro wh pins s σ H Q I h;refine isTrue_and (thn (ha pins s σ H Q I h) λc s1 e=>?_);cases c with
 |true=>exact isTrue_and_nil e
 |false=>exact e
theorem pw_or1(ha:PT X a tA):PW X (.BoolOp .Or [a] pos) tA:=by
 intro wh pins s σ H Q I h;refine isTrue_or (thn (ha pins s σ H Q I h) λc s1 e=>?_);cases c with
 |false=>exact isTrue_or_nil e
 |true=>exact e
theorem pw_and(ha:PT X a tA)(hb:PW X (.BoolOp .And (b::rest) pos) tB'):PW X (.BoolOp .And (a::b::rest) pos) (LF tA tB'):=by
 intro wh pins s σ H Q I h;refine isTrue_and (thn (ha pins s σ H _ I h) λc s1 ⟨H1,I1,q1⟩=>?_);cases c with
 |true=>exact hb wh pins s1 σ H1 Q I1 q1
 |false=>exact⟨H1,I1,q1⟩
theorem pw_or(ha:PT X a tA)(hb:PW X (.BoolOp .Or (b::rest) pos) tB'):PW X (.BoolOp .Or (a::b::rest) pos) (tOr tA tB'):=by
 intro wh pins s σ H Q I h;refine isTrue_or (thn (ha pins s σ H _ I h) λc s1 ⟨H1,I1,q1⟩=>?_);cases c with
 |true=>exact⟨H1,I1,q1⟩
 |false=>exact hb wh pins s1 σ H1 Q I1 q1
theorem xp(ha:PT X a tA):PT X (.UnaryOp .Not a pos) (LI tA):=by
 intro pins s σ H Q I h;exact isTrue_not (ha pins s σ H (λc H1=>Q (!c) H1) I h)
def Km(ta tb:TE):TE:=λσ H Q=>ta σ H λx H1=>∃c,x=.bl c/\if c=true then tb σ H1 Q else Q (.bl false) H1
def Ls(ta tb:TE):TE:=λσ H Q=>ta σ H λx H1=>∃c,x=.bl c/\if c=true then Q (.bl true) H1 else tb σ H1 Q
theorem sg{op}(h:PE X a t):PE X (.BoolOp op [a] pos) t:=λpins s σ H Q I hw=>BoolOp_one (h pins s σ H Q I hw)
theorem oG(ha:PE X a ta)(hb:PE X (.BoolOp .And (b::rest) pos) tb):PE X (.BoolOp .And (a::b::rest) pos) (Km ta tb):=by
 intro pins s σ H Q I h;refine BoolOp_and (thn (ha pins s σ H _ I h) λv s1 ⟨x,H1,I1,r1,q1⟩=>?_);obtain⟨c,rfl,q1⟩:=q1;cases r1;refine PJ ?_;cases c with
 |true=>exact hb pins s1 σ H1 Q I1 q1
 |false=>exact⟨.bl false,H1,I1,rfl,q1⟩
theorem KU(ha:PE X a ta)(hb:PE X (.BoolOp .Or (b::rest) pos) tb):PE X (.BoolOp .Or (a::b::rest) pos) (Ls ta tb):=by
 intro pins s σ H Q I h;refine BoolOp_or (thn (ha pins s σ H _ I h) λv s1 ⟨x,H1,I1,r1,q1⟩=>?_);obtain⟨c,rfl,q1⟩:=q1;cases r1;refine PJ ?_;cases c with
 |false=>exact hb pins s1 σ H1 Q I1 q1
 |true=>exact⟨.bl true,H1,I1,rfl,q1⟩
def tIf(t:TT)(ta tb:TE):TE:=λσ H Q=>t σ H λc H1=>if c=true then ta σ H1 Q else tb σ H1 Q
theorem fG(hc:PT X c tA)(ha:PE X a ta)(hb:PE X b tb):PE X (.IfExp c a b pos) (tIf tA ta tb):=by
 intro pins s σ H Q I h;refine wpAny_IfExp (thn (hc pins s σ H _ I h) λd s1 ⟨H1,I1,q1⟩=>?_);cases d with
 |true=>exact ha pins s1 σ H1 Q I1 q1
 |false=>exact hb pins s1 σ H1 Q I1 q1
end
def SqL(K:OZ)(H:Hp)(a:OW)(xs:List V):Prop:=
 Rd H a (.lst xs)\/
  ∃(o:Obj)(its:Array OX)(n:Nat),K.lookup a=Ve o/\o.cls=.type "list"/\o.dict=Vf/\o.data=.seq its n/\its.size<=sizeLine/\Vn xs its.toList
def SqT(K:OZ)(H:Hp)(a:OW)(xs:List V):Prop:=
 Rd H a (.tup xs)\/
  ∃(o:Obj)(its:Array OX)(n:Nat),K.lookup a=Ve o/\o.cls=.type "tuple"/\o.data=.seq its n/\its.size<=sizeLine/\Vn xs its.toList
noncomputable def Cq:OX->Option V
 | .none=>Ve .non
 | .bool b=>Ve (.bl b)
 | .int i _=>Ve (.int i)
 | .str x _=>Ve (.str x)
 | .bytes b _=>Ve (.byt b)
 | .float b _=>Ve (.flt b)
 | .ref a=>Ve (.ref a)
 | .type n=>Ve (.ty n)
 |_=>Vf
theorem Vo.abs(r:Vo x u):Cq u=Ve x:=by
 cases x with
 |non=>cases r;rfl
 |bl _=>cases r;rfl
 |int _=>obtain⟨t,rfl⟩:=r;rfl
 |str _=>obtain⟨t,rfl⟩:=r;rfl
 |byt _=>obtain⟨t,rfl⟩:=r;rfl
 |flt _=>obtain⟨t,rfl⟩:=r;rfl
 |ref _=>cases r;rfl
 |ty _=>cases r;rfl
theorem Vo.inj(r:Vo x u)(q:Vo y u):x=y:=O1 (r.abs.symm.trans q.abs)
theorem Vn.inj:∀{xs ys:List V}{us:List OX},Vn xs us->Vn ys us->xs=ys
 |_,_,_,.nil,.nil=>rfl
 |_,_,_,.cons r t,.cons r' t'=>by rw[r.inj r',Vn.inj t t']
section
variable{X:Cx}{pins:List (OW×Obj)}{σ:St}{H:Hp}{s:O0}{a:OW}{xs ys:List V}
theorem SqL.of{K:OZ}(h:H a=Ve (.lst xs)):SqL K H a xs:=.inl (.inl h)
theorem SqT.of{K:OZ}(h:H a=Ve (.tup xs)):SqT K H a xs:=.inl (.inl h)
theorem Inv.list(I:Inv X pins σ H s)(h:SqL X.K H a xs):∃its:List OX,Vn xs its/\PlainL s.heap a its.toArray/\xs.length<=sizeLine:=by
 rcases h with h|⟨o,its,n,hk,hc,hd,hs,hz,r⟩
 ·obtain⟨z,its,n,r,e⟩:=h.ok I.hok;exact⟨its,r,⟨_,n,e,rfl,rfl,rfl⟩,z⟩
 refine⟨its.toList,r,⟨o,n,I.kIn a o hk,hc,hd,by simpa using hs⟩,?_⟩;have e:=r.length;simp only[OC]at e;omega
theorem Inv.tuple(I:Inv X pins σ H s)(h:SqT X.K H a xs):∃its:List OX,Vn xs its/\IsTup s.heap a its.toArray/\xs.length<=sizeLine:=by
 rcases h with h|⟨o,its,n,hk,hc,hs,hz,r⟩
 ·obtain⟨z,its,r,p⟩:=h.ok I.hok;exact⟨its,r,p,z⟩
 refine⟨its.toList,r,⟨o,I.kIn a o hk,hc,n,by simpa using hs⟩,?_⟩;have e:=r.length;simp only[OC]at e;omega
theorem Inv.oV(I:Inv X pins σ H s)(h:SqL X.K H a xs)(h':SqL X.K H a ys):xs=ys:=by
 obtain⟨its,r,⟨o,n,e,_,_,d⟩,_⟩:=I.list h;obtain⟨its',r',⟨o',n',e',_,_,d'⟩,_⟩:=I.list h';rw[e]at e';cases e';rw[d]at d';injection d' with d1 _;have:its=its':=by simpa using congrArg Array.toList d1
 subst this;exact r.inj r'
theorem Inv.BJ(I:Inv X pins σ H s)(h:SqT X.K H a xs)(h':SqT X.K H a ys):xs=ys:=by
 obtain⟨its,r,⟨o,e,_,n,d⟩,_⟩:=I.tuple h;obtain⟨its',r',⟨o',e',_,n',d'⟩,_⟩:=I.tuple h';rw[e]at e';cases e';rw[d]at d';injection d' with d1 _;have:its=its':=by simpa using congrArg Array.toList d1
 subst this;exact r.inj r'
end
noncomputable abbrev Cx.uA(X:Cx)(E:OX->O0->Prop):Cx:={ X with xe:=E }
noncomputable abbrev Cx.nox(X:Cx):Cx:=X.uA λ_ _=>False
theorem Cx.Ok.uA{X:Cx}(ok:X.Ok)(E:OX->O0->Prop):(X.uA E).Ok:=
 ⟨ok.mod,ok.kind,ok.glob,ok.blt,ok.above,ok.inj,ok.has,ok.cab,ok.hd,ok.frames,ok.stk,ok.exf,ok.bs,ok.bsz,ok.DY,ok.Ef,ok.qL,ok.frf⟩
theorem Cx.Ok.mS{X:Cx}{E:OX->O0->Prop}(ok:(X.uA E).Ok):X.Ok:=
 ⟨ok.mod,ok.kind,ok.glob,ok.blt,ok.above,ok.inj,ok.has,ok.cab,ok.hd,ok.frames,ok.stk,ok.exf,ok.bs,ok.bsz,ok.DY,ok.Ef,ok.qL,ok.frf⟩
section
variable{X:Cx}{pins:List (OW×Obj)}{σ:St}{H:Hp}{s:O0}{E:OX->O0->Prop}
theorem Inv.uA(I:Inv X pins σ H s)(E:OX->O0->Prop):Inv (X.uA E) pins σ H s:=⟨I.ok.uA E,I.os,I.bare,I.base,I.loc,I.cell,I.free,I.mQ,I.pin,I.hok,I.len⟩
theorem Inv.mS(I:Inv (X.uA E) pins σ H s):Inv X pins σ H s:=⟨I.ok.mS,I.os,I.bare,I.base,I.loc,I.cell,I.free,I.mQ,I.pin,I.hok,I.len⟩
theorem SP.mS(h:SP (X.uA E) pins D f s'):SP X pins D f s':=by
 cases f with
 |next=>obtain⟨σ',H',I,q⟩:=h;exact⟨σ',H',I.mS,q⟩
 |brk=>obtain⟨σ',H',I,q⟩:=h;exact⟨σ',H',I.mS,q⟩
 |cont=>obtain⟨σ',H',I,q⟩:=h;exact⟨σ',H',I.mS,q⟩
 |ret u=>obtain⟨v,σ',H',I,r,q⟩:=h;exact⟨v,σ',H',I.mS,r,q⟩
theorem PSs.nox{st:List Pj}{t:TS}(h:PSs X.nox st t):PSs X st t:=λpins s σ H D I hw=>
 P5 (h pins s σ H D (I.uA _) hw) (λ_ _ q=>q.mS) λ_ _ z=>PY z
end
section
variable{X:Cx}{st:Pj}{rest:List Pj}{t u:TS}{e:Expr}{te:TE}{pos:Pos}
def EO:TS:=λD σ H=>D.nx σ H
def xU(t u:TS):TS:=λD σ H=>t { D with nx:=u D } σ H
theorem aD:PSs X [] EO:=λ_ _ σ H _ I h=>QV ⟨σ,H,I,h⟩
theorem ab(h1:PS X st t)(h2:PSs X rest u):PSs X (st::rest) (xU t u):=by
 intro pins s σ H D I h;refine Ul (thn (h1 pins s σ H { D with nx:=u D } I h) λf s1 q=>?_);cases f with
 |next=>
  obtain⟨σ',H',I',q⟩:=q;exact h2 pins s1 σ' H' D I' q
 |ret v=>exact q
 |brk=>exact q
 |cont=>exact q
theorem ah(h1:PS X st t):PSs X [st] t:=by
 intro pins s σ H D I h;refine Ul (thn (h1 pins s σ H D I h) λf s1 q=>?_);cases f with
 |next=>exact QV q
 |ret v=>exact q
 |brk=>exact q
 |cont=>exact q
def IY:TS:=λD σ H=>D.bk σ H
theorem xN:PS X (.Break pos) IY:=λ_ _ σ H _ I h=>wpAny_Break ⟨σ,H,I,h⟩
theorem Inv.quiet(I:Inv X pins σ H s):interactive X.env=false:=by simp[interactive,I.ok.kind]
def JY(te:TE):TS:=λD σ H=>te σ H λ_ H1=>D.nx σ H1
theorem aK(he:PE X e te)(hs:SH e Vf pos.line X.env=pure false:=by rfl):PS X (.Expr e pos) (JY te):=by
 intro pins s σ H D I h;exact wpAny_Expr_any (thn (he pins s σ H _ I h) λv s1 ⟨x,H1,I1,r1,q1⟩=>⟨σ,H1,I1,q1⟩) I.quiet hs
def LJ(te:TE):TS:=λD σ H=>te σ H D.rt
theorem aA(he:PE X e te):PS X (.Return (Ve e) pos) (LJ te):=by
 intro pins s σ H D I h;exact wpAny_Return_some (thn (he pins s σ H _ I h) λv s1 ⟨x,H1,I1,r1,q1⟩=>⟨x,σ,H1,I1,r1,q1⟩)
def KP:TS:=λD _ H=>D.rt .non H
theorem xn:PS X (.Return Vf pos) KP:=λ_ _ σ H _ I h=>wpAny_Return_none ⟨.non,σ,H,I,rfl,h⟩
def zr(c:TT)(t u:TS):TS:=λD σ H=>c σ H λb H1=>if b=true then t D σ H1 else u D σ H1
theorem aP(hc:PT X c tc)(ha:PSs X a t)(hb:PSs X b u):PS X (.If c a b pos) (zr tc t u):=by
 intro pins s σ H D I h;refine wpAny_If (thn (hc pins s σ H _ I h) λd s1 ⟨H1,I1,q1⟩=>?_);cases d with
 |true=>exact ha pins s1 σ H1 D I1 q1
 |false=>exact hb pins s1 σ H1 D I1 q1
def Ig:TS:=λ_ _ _=>False
theorem Cn:PSs X sts Ig:=λ_ _ _ _ _ _ h=>h.elim
end
abbrev TG:=V->St->Hp->(St->Hp->Prop)->Prop
abbrev TGs:=List V->St->Hp->(St->Hp->Prop)->Prop
def PG(X:Cx)(target:Expr)(t:TG):Prop:=
 ∀(pins:List (OW×Obj))(s:O0)(σ:St)(H:Hp)(v:V)(u:OX)(Q:St->Hp->Prop),Inv X pins σ H s->Vo v u->t v σ H Q->
  wpAny (Pb X.prog X.w) X.A (assign target X.env u) (λ_ s'=>∃σ' H',Inv X pins σ' H' s'/\Q σ' H') X.xe s
def PGs(X:Cx)(ts:List Expr)(t:TGs):Prop:=
 ∀(pins:List (OW×Obj))(s:O0)(σ:St)(H:Hp)(vs:List V)(us:List OX)(Q:St->Hp->Prop),Inv X pins σ H s->Vn vs us->t vs σ H Q->
  wpAny (Pb X.prog X.w) X.A (assignInOrder ((Rb ts X.env).map (·.2)) us) (λ_ s'=>∃σ' H',Inv X pins σ' H' s'/\Q σ' H') X.xe s
abbrev Jy:=V->V->V->Hp->(Hp->Prop)->Prop
def DU(X:Cx)(t:Jy):Prop:=
 ∀(pins:List (OW×Obj))(s:O0)(σ:St)(H:Hp)(o i v:V)(ov iv u:OX)(Q:Hp->Prop),Inv X pins σ H s->Vo o ov->Vo i iv->Vo v u->t o i v H Q->
  wpAny (Pb X.prog X.w) X.A (setItem ov iv u) (λ_ s'=>∃H',Inv X pins σ H' s'/\Q H') X.xe s
abbrev TIp:=V->V->Hp->VK->Prop
def PIp(X:Cx)(op:Operator)(t:TIp):Prop:=
 ∀(pins:List (OW×Obj))(s:O0)(σ:St)(H:Hp)(x y:V)(v u:OX)(Q:VK),Inv X pins σ H s->Vo x v->Vo y u->t x y H Q->
  wpAny (Pb X.prog X.w) X.A (Va op v u) (EP X pins σ Q) X.xe s
section
variable{X:Cx}{pos:Pos}
def jq(i:Nat):TG:=λv σ H Q=>Q (σ.set i (Ve v)) H
theorem AQ(hN:X.N.Nodup)(hi:X.N[i]?=Ve x)(hx:Loc X.env.scope x)(hf:X.fn x=true\/X.env.scope.names.lookup x=Ve .local:=by first|exact .inl rfl|exact .inr rfl|assumption):PG X (.Name x pos) (jq i):=by
 intro pins s σ H v u Q I r h;exact wpAny_assign_Name (rX I hN hi hx r (λs' I'=>⟨_,H,I',h⟩) hf)
def Lj:TGs:=λvs σ H Q=>vs=[]/\Q σ H
def Kc(t:TG)(u:TGs):TGs:=λvs σ H Q=>∃v r,vs=v::r/\t v σ H λσ' H'=>u r σ' H' Q
theorem rb:PGs X [] Lj:=by
 intro pins s σ H vs us Q I r h;obtain⟨e,h⟩:=h;subst e;cases r;exact assignInOrder_nil ⟨σ,H,I,h⟩
theorem gM(h1:PG X e t)(h2:PGs X es u)
  (hs:(Rb (e::es) X.env).map (·.2)=assign e X.env::(Rb es X.env).map (·.2):=by rfl):PGs X (e::es) (Kc t u):=by
 intro pins s σ H vs us Q I r h
 obtain⟨v,vr,e1,h⟩:=h
 subst e1
 cases r with
 |cons r rr=>
  rw[hs]
  refine assignInOrder_cons (thn (h1 pins s σ H _ _ _ I r h) λ_ s1 ⟨σ1,H1,I1,q1⟩=>?_)
  exact h2 pins s1 σ1 H1 _ _ Q I1 rr q1
inductive KH(K:OZ)(n:Nat)(v:V)(H:Hp)(R:List V->Prop):Prop
 |mk(a:OW)(xs:List V)(h0:v=.ref a)(h1:SqT K H a xs)(h2:xs.length=n)(q:R xs):KH K n v H R
def LY(K:OZ)(n:Nat)(t:TGs):TG:=λv σ H Q=>KH K n v H (λxs=>t xs σ H Q)
theorem wg(hc:X.calm=true)(h:PGs X es t)
  (hn:(Rb es X.env).length=n:=by rfl) (hst:(Rb es X.env).findIdx? (·.1)=Vf:=by rfl):PG X (.Tuple es k pos) (LY X.K n t):=by
 intro pins s σ H v u Q I r hw
 obtain⟨a,xs,e1,hq,hl,hw⟩:=hw
 subst e1
 cases r
 obtain⟨its,rv,ht,hz⟩:=I.tuple hq
 refine assign_Tuple_tuple (I.ok.hd hc) ht (by simp[hn,<-hl,rv.length]) hst λh' hx=>?_
 have I1:Inv X pins σ H { s with heap:=h' }:=I.kept (t':=s.toks) λb o e=>hx b o (MU (O6 e)) e
 exact h pins _ σ H xs _ Q I1 (by simpa using rv) hw
def LW(to ti:TE)(t:Jy):TG:=λv σ H Q=>to σ H λo H1=>ti σ H1 λi H2=>t o i v H2 λH3=>Q σ H3
theorem bz(ho:PE X o to)(hi:PE X i ti)(hs:DU X t)
  (ha:∀v,assign (.Subscript o i pos) X.env v=(do
   let ov<-QA [v] (PD o X.env)
   let iv<-QA [v,ov] (PD i X.env)
   TK pos
   QA [v,ov,iv] (setItem ov iv v)
   release [v,ov,iv] []):=by intro _;rfl):PG X (.Subscript o i pos) (LW to ti t):=by
 intro pins s σ H v u Q I r h
 rw[ha]
 refine OY (wpAny_holding (thn (ho pins s σ H _ I h) λov s1 ⟨x,H1,I1,r1,q1⟩=>?_))
 refine OY (wpAny_holding (thn (hi pins s1 σ H1 _ I1 q1) λiv s2 ⟨y,H2,I2,r2,q2⟩=>?_))
 refine OY (SX (OY (wpAny_holding (thn (hs pins s2 σ H2 x y v ov iv u _ I2 r1 r2 r q2) λ_ s3 ⟨H3,I3,q3⟩=>?_))))
 exact wpAny_release ⟨σ,H3,I3,q3⟩
def DJ(te:TE)(g:TG):TS:=λD σ H=>te σ H λx H1=>g x σ H1 D.nx
theorem bA(he:PE X e te)(hg:PG X tg g)(hs:swapsWithSole [tg] e pos.line X.env=pure false:=by rfl)(hw:swappedStores [tg] e X.env=pure Vf:=by rfl)
  (h1:(Rb [tg] X.env).map (·.2)=[assign tg X.env]:=by rfl):PS X (.Assign [tg] e pos) (DJ te g):=by
 intro pins s σ H D I h
 refine wpAny_Assign_stores (thn (he pins s σ H _ I h) λv s1 ⟨x,H1,I1,r1,q1⟩=>?_) hs hw
 rw[h1]
 exact thn (hg pins s1 σ H1 x v _ I1 r1 q1) λ_ s2 q=>q
theorem Ij(hN:X.N.Nodup)(hi:X.N[i]?=Ve x)(hx:Loc X.env.scope x)(he:PE X e te)(hs:SH e (Ve (.Name x pos')) pos.line X.env=pure false:=by rfl)(hf:X.fn x=true\/X.env.scope.names.lookup x=Ve .local:=by first|exact .inl rfl|exact .inr rfl|assumption) :
  PS X (.Assign [.Name x pos'] e pos) (DJ te (jq i)):=by
 intro pins s σ H D I h
 refine wpAny_Assign_Name (thn (he pins s σ H _ I h) λv s1 ⟨y,H1,I1,r1,q1⟩=>?_) hs
 exact rX I1 hN hi hx r1 (λs2 I2=>⟨_,H1,I2,q1⟩) hf
def Lw(i:Nat)(te:TE)(ti:TIp):TS:=λD σ H=>∃x,σ[i]?=Ve (Ve x)/\te σ H λy H1=>ti x y H1 λz H2=>D.nx (σ.set i (Ve z)) H2
theorem CH(hN:X.N.Nodup)(hi:X.N[i]?=Ve x)(hx:Loc X.env.scope x)(he:PE X e te)(ho:PIp X op ti)(hf:X.fn x=true\/X.env.scope.names.lookup x=Ve .local:=by first|exact .inl rfl|exact .inr rfl|assumption) :
  PS X (.AugAssign (.Name x pos') op e pos) (Lw i te ti):=by
 intro pins s σ H D I h
 obtain⟨v,e1,h⟩:=h
 obtain⟨m,hn,hl⟩:=I.loc
 have vis:Vis X.env.scope x:=by rcases hx with k|k;exact .inl k;exact .inr (.inl k)
 obtain⟨u,r,l⟩:=hl i x v hi e1 vis
 refine wpAny_AugAssign_Name ?_
 have go:wpAny (Pb X.prog X.w) X.A (PD e X.env) (λw s₂=>wpAny (Pb X.prog X.w) X.A (Va op u w) (λr s₃=>wpAny (Pb X.prog X.w) X.A (U9 X.env x r) (λ_=>SP X pins D .next) X.xe s₃) X.xe s₂) X.xe s:=by
  refine thn (he pins s σ H _ I h) λw s1 ⟨y,H1,I1,r1,q1⟩=>?_;refine thn (ho pins s1 σ H1 v y u w _ I1 r r1 q1) λz s2 ⟨zv,H2,I2,r2,q2⟩=>?_;exact rX I2 hN hi hx r2 (λs3 I3=>⟨_,H2,I3,q2⟩) hf
 rcases l with⟨hk,hm⟩|⟨hk,c,hc,hcell⟩
 ·exact So I.ok.kind hk hn hm go
 rcases hk with hk|hk
 ·exact SQ I.ok.kind hk hc hcell go
 rcases hx with k|k
 ·have:X.env.scope.names.lookup x=Ve .free:=hk;rw[k]at this;cases this
 have:X.env.scope.names.lookup x=Ve .free:=hk
 rw[k]at this;cases this
def ipI(f:Int->Int->Int):TIp:=λx y H Q=>∃i j,x=.int i/\y=.int j/\Q (.int (f i j)) H
theorem EG:PIp X .Add (ipI λi j=>i+j):=by
 intro pins s σ H x y v u Q I r1 r2 h;obtain⟨i,j,e1,e2,q⟩:=h;subst e1;subst e2;obtain⟨t,rfl⟩:=r1;obtain⟨t',rfl⟩:=r2;exact iadd_int ⟨.int _,H,I.tok _,⟨_,rfl⟩,q⟩
def HP(c:TT)(tb:TS):TS:=λD σ H=>∃W:Nat->St->Hp->Prop,(∃m,W m σ H)/\∀m σ H,W m σ H->
 c σ H λb H1=>if b=true then ∃N:St->Hp->Prop,(∀σ' H',N σ' H'->∃m',m'<m/\W m' σ' H')/\tb { D with nx:=N,ct:=N,bk:=D.nx } σ H1 else D.nx σ H1
theorem yj(hp:PassesOwn (Pb X.prog X.w) X.A X.env X.xe)(hc:PT X c tc)(hb:PSs X body tb):PS X (.While c body [] pos) (HP tc tb):=by
 intro pins s σ H D I h;obtain⟨W,⟨m0,w0⟩,turn⟩:=h;refine wpAny_While (codeAny_whileLoop (λn s'=>∃σ' H',Inv X pins σ' H' s'/\W n σ' H') ?_ m0 ⟨σ,H,I,w0⟩);rintro n s1 ⟨σ1,H1,I1,w1⟩;refine P8 hp (thn (hc pins s1 σ1 H1 _ I1 (turn n σ1 H1 w1)) λb s2 ⟨H2,I2,q2⟩=>?_);cases b with
 |true=>
  obtain⟨N,hN,q2⟩:=q2;rw[if_pos rfl];refine P8 hp (thn (hb pins s2 σ1 H2 _ I2 q2) λf s3 q3=>?_);cases f with
  |next=>
   obtain⟨σ3,H3,I3,n3⟩:=q3;obtain⟨m',hm,w3⟩:=hN σ3 H3 n3;exact⟨m',hm,σ3,H3,I3,w3⟩
  |cont=>
   obtain⟨σ3,H3,I3,n3⟩:=q3;obtain⟨m',hm,w3⟩:=hN σ3 H3 n3;exact⟨m',hm,σ3,H3,I3,w3⟩
  |brk=>exact q3
  |ret v=>exact q3
 |false=>
  rw[if_neg Mw];exact QV ⟨σ1,H2,I2,q2⟩
end
structure It where
 go:Nat->Hp->Prop
 yld:Nat->Hp->V->Hp->Prop
 stop:Nat->Hp->Prop
def tH(X:Cx)(pins:List (OW×Obj))(H:Hp)(b:OW):Prop:=
 H b=Vf/\b≠X.env.locals/\b∉X.fs/\(b∈X.ex\/X.s₀.heap.objs.size<=b)/\(∀x c,X.env.cells.lookup x=Ve c->c≠b)/\∀p∈X.pn++pins,p.1≠b
theorem Inv.uE(I:Inv X pins σ H s)(hb:s.heap.objs.size<=b)(hn:H' b=Vf):tH X pins H' b:=by
 refine⟨hn,NT (MH I.lt hb),I.JJ hb,.inr (MC I.sz hb),λx c e z=>?_,λp hp z=>?_⟩
 ·obtain⟨v,q⟩:=I.cell x c e;exact absurd (MH q.lt (by rw[z];exact hb)) (Ny _)
 exact absurd (MH (O6 (I.pin p hp).1) (by rw[z];exact hb)) (Ny _)
structure VH(P:Program)(w:O7)(K:OZ)(tg:Expr)(J:It)(fp:List OW)(it:OW)(tn:Nat->Pk->Prop):Prop where
 mem:it∈fp
 obj:∀i h,tn i h->∀b∈fp,∃o,h.get? b=Ve o/\∀v,o.data≠ .cell v
 keep:∀i h h',tn i h->(∀b∈fp,∀o,h.get? b=Ve o->h'.get? b=Ve o)->tn i h'
 item:∀(X:Cx),X.prog=P->X.w=w->X.K=K->X.calm=true->∀(i:Nat)(pins:List (OW×Obj))(s:O0)(σ:St)(H:Hp)(E:OX->O0->Prop),Inv X pins σ H s->(∀b∈fp,tH X pins H b)->tn i s.heap->J.go i H->
  wpAny (Pb P w) X.A (pyNext (.ref it)) (λr s1=>∃u,r=Ve u/\
   wpAny (Pb P w) X.A (QW tg (.ref it) u) (λ_ s2=>∃x H',Inv X pins σ H' s2/\Vo x u/\J.yld i H x H'/\tn (i+1) s2.heap/\∀b∈fp,H' b=Vf) E s1) E s
 done:∀(X:Cx),X.prog=P->X.w=w->X.K=K->X.calm=true->∀(i:Nat)(pins:List (OW×Obj))(s:O0)(σ:St)(H:Hp)(E:OX->O0->Prop),Inv X pins σ H s->(∀b∈fp,tH X pins H b)->tn i s.heap->J.stop i H->
  wpAny (Pb P w) X.A (pyNext (.ref it)) (λr s1=>r=Vf/\Inv X pins σ H s1) E s
 self:∀(A:Py)(i:Nat)(s:O0)(Q:OX->O0->Prop)(E:OX->O0->Prop),tn i s.heap->Q (.ref it) s->wpAny (Pb P w) A (pyIter (.ref it)) Q E s
abbrev TI:=St->Hp->(It->Hp->Prop)->Prop
def PIE(X:Cx)(pins:List (OW×Obj))(σ:St)(tg:Expr)(R:It->Hp->Prop)(itv:OX)(s2:O0):Prop:=
 ∃(it:OW)(fp:List OW)(tn:Nat->Pk->Prop)(J:It)(H':Hp),itv=.ref it/\Inv X pins σ H' s2/\VH X.prog X.w X.K tg J fp it tn/\tn 0 s2.heap/\(∀b∈fp,tH X pins H' b)/\R J H'
def PI(X:Cx)(tg iter:Expr)(wi:TI):Prop:=
 ∀(pins:List (OW×Obj))(s:O0)(σ:St)(H:Hp)(R:It->Hp->Prop),Inv X pins σ H s->wi σ H R->
  wpAny (Pb X.prog X.w) X.A (PD iter X.env) (λv s1=>wpAny (Pb X.prog X.w) X.A (pyIter v) (PIE X pins σ tg R) X.xe s1) X.xe s
theorem A8(ho:s.heap.get? it=Ve o)(hc:o.cls=.type n)(hd:o.data=.fields vs)
    (hn:["enumerate","zip","dict_itemiterator","dict_reverseitemiterator","odict_iterator","itertools.zip_longest","itertools.pairwise"].contains n=false) (hQ:Q () s):wpAny M A (QW tg (.ref it) u) Q E s:=by
  unfold QW
  cases tg<;>first
    |exact O4 hQ
    | (cases u<;>first
        |exact O4 hQ
        | (refine OY (wpAny_load ho ?_)
           rw[hc,hd]
           show wpAny M A (if(["enumerate","zip","dict_itemiterator","dict_reverseitemiterator","odict_iterator","itertools.zip_longest","itertools.pairwise"].contains n&&vs[0]?==Ve (rawInt _))=true then _ else _) Q E s
           rw[if_neg (by intro h;rw[hn,UR]at h;cases h)]
           exact O4 hQ))
def Itl(K:OZ)(a:OW):It:=
 ⟨λi H=>∃xs x,SqL K H a xs/\xs[i]?=Ve x,λi H x H'=>H'=H/\∀xs,SqL K H a xs->xs[i]?=Ve x,λi H=>∃xs,SqL K H a xs/\xs.length<=i⟩
def Itt(K:OZ)(a:OW):It:=
 ⟨λi H=>∃xs x,SqT K H a xs/\xs[i]?=Ve x,λi H x H'=>H'=H/\∀xs,SqT K H a xs->xs[i]?=Ve x,λi H=>∃xs,SqT K H a xs/\xs.length<=i⟩
def Itr(lo:Int)(n:Nat):It:=⟨λi _=>i<n,λi H x H'=>H'=H/\x=.int (lo+i),λi _=>n<=i⟩
theorem BF{P:Program}{w:O7}{K:OZ}{tg:Expr}(a it:OW):VH P w K tg (Itl K a) [it] it (λi h=>h.IsListIter it a i) where
 mem:=by simp
 obj:=λi h st b hb=>by
  have e:b=it:=by simpa using hb
  subst e;obtain⟨o,e,c,d⟩:=st;exact⟨o,e,λv z=>by rw[d]at z;cases z⟩
 keep:=λi h h' st k=>st.at λo e=>k it (by simp) o e
 item:=by
  intro X hP hw hK hc i pins s σ H E I hf st hg;subst hP hw hK;obtain⟨xs,x,hq,hx⟩:=hg;obtain⟨its,rv,p,hz⟩:=I.list hq;obtain⟨u,hu,ru⟩:=rv.get hx;obtain⟨f0,f1,f2,f3,f4,f5⟩:=hf it (by simp);refine RT st p.isList (x:=u) (by simpa using hu) λh' st' sb=>?_;have I1:Inv X pins σ H { s with heap:=h' }:=I.turned (t':=s.toks) (λb o hb e=>(sb.2 b hb).trans e) f0 f1 f3 f4 f5;obtain⟨o,e,c,d⟩:=id st';exact⟨u,rfl,A8 (s:={ s with heap:=h' }) e c d (by decide) ⟨x,H,I1,ru,⟨rfl,λys hy=>by rw[I.oV hy hq];exact hx⟩,st',λb hb=>(hf b hb).1⟩⟩
 done:=by
  intro X hP hw hK hc i pins s σ H E I hf st hg;subst hP hw hK;obtain⟨xs,hq,hx⟩:=hg;obtain⟨its,rv,p,hz⟩:=I.list hq;obtain⟨f0,f1,f2,f3,f4,f5⟩:=hf it (by simp);have hl:=rv.length;exact Sd (I.ok.hd hc) st p.isList (by simp;omega) λh' eb=>⟨rfl,I.turned (t':=s.toks) (λb o hb e=>eb b o hb e) f0 f1 f3 f4 f5⟩
 self:=λ_ _ _ _ _ st h=>wpAny_pyIter_listiter st h
theorem Aa{P:Program}{w:O7}{K:OZ}{tg:Expr}(a it:OW):VH P w K tg (Itt K a) [it] it (λi h=>h.IsTupleIter it a i) where
 mem:=by simp
 obj:=λi h st b hb=>by
  have e:b=it:=by simpa using hb
  subst e;obtain⟨o,e,c,d⟩:=st;exact⟨o,e,λv z=>by rw[d]at z;cases z⟩
 keep:=λi h h' st k=>st.at λo e=>k it (by simp) o e
 item:=by
  intro X hP hw hK hc i pins s σ H E I hf st hg;subst hP hw hK;obtain⟨xs,x,hq,hx⟩:=hg;obtain⟨its,rv,p,hz⟩:=I.tuple hq;obtain⟨u,hu,ru⟩:=rv.get hx;obtain⟨f0,f1,f2,f3,f4,f5⟩:=hf it (by simp);refine wpAny_pyNext_tuple_item st (show s.heap.IsTuple a its.toArray from p) (x:=u) (by simpa using hu) λh' st' sb=>?_;have I1:Inv X pins σ H { s with heap:=h' }:=I.turned (t':=s.toks) (λb o hb e=>(sb.2 b hb).trans e) f0 f1 f3 f4 f5;obtain⟨o,e,c,d⟩:=id st';exact⟨u,rfl,A8 (s:={ s with heap:=h' }) e c d (by decide) ⟨x,H,I1,ru,⟨rfl,λys hy=>by rw[I.BJ hy hq];exact hx⟩,st',λb hb=>(hf b hb).1⟩⟩
 done:=by
  intro X hP hw hK hc i pins s σ H E I hf st hg;subst hP hw hK;obtain⟨xs,hq,hx⟩:=hg;obtain⟨its,rv,p,hz⟩:=I.tuple hq;obtain⟨f0,f1,f2,f3,f4,f5⟩:=hf it (by simp);have hl:=rv.length;exact wpAny_pyNext_tuple_end (I.ok.hd hc) st (show s.heap.IsTuple a its.toArray from p) (by simp;omega) λh' eb=>⟨rfl,I.turned (t':=s.toks) (λb o hb e=>eb b o hb e) f0 f1 f3 f4 f5⟩
 self:=λ_ _ _ _ _ st h=>wpAny_pyIter_tupleiter st h
theorem Af{P:Program}{w:O7}{K:Qu}{tg:Expr}(it:OW)(lo:Int)(n:Nat):VH P w K tg (Itr lo n) [it] it (λi h=>IsRangeIter h it (lo+(i:Nat)*1) ((n:Int)-(i:Nat)) 1) where
 mem:=by simp
 obj:=λi h st b hb=>by
  have e:b=it:=by simpa using hb
  subst e;exact⟨_,st,λv z=>by
   have z':UA _=SI v:=z;cases z'⟩
 keep:=λi h h' st k=>k it (by simp) _ st
 item:=by
  intro X hP hw hK hc i pins s σ H E I hf st hg;subst hP hw hK;obtain⟨f0,f1,f2,f3,f4,f5⟩:=hf it (by simp);have W:=Walks.range (prog:=X.prog) (w:=X.w) (I.ok.hd hc) it lo 1 n;refine W.item i s _ _ hg st λv h' tk hv st' kk=>?_;obtain⟨t,rfl⟩:=hv;have I1:Inv X pins σ H { s with heap:=h',toks:=tk }:=I.turned (λb o hb e=>kk b o (by simpa using hb) e) f0 f1 f3 f4 f5;refine⟨_,rfl,A8 (s:={ s with heap:=h',toks:=tk }) (n:="range_iterator") st' rfl rfl (by decide) ⟨.int (lo+i),H,I1,⟨t,?_⟩,⟨rfl,rfl⟩,st',λb hb=>(hf b hb).1⟩⟩;rw[Int.mul_one]
 done:=by
  intro X hP hw hK hc i pins s σ H E I hf st hg;subst hP hw hK;obtain⟨f0,f1,f2,f3,f4,f5⟩:=hf it (by simp);exact wpAny_pyNext_range_end (I.ok.hd hc) st (by have:n<=i:=hg;omega) λh' eb=>⟨rfl,I.turned (t':=s.toks) (λb o hb e=>eb b o hb e) f0 f1 f3 f4 f5⟩
 self:=λ_ _ _ _ _ st h=>wpAny_pyIter_rangeiter st h
section
variable{X:Cx}{tg:Expr}
theorem Ep{pins:List (OW×Obj)}{σ:St}{H:Hp}{s:O0}{R:It->Hp->Prop}{E:OX->O0->Prop}{lo hi:Int}{t u v:Tok}{tk:Nat}(I:Inv X pins σ H s)(h1:-(2^62)<=lo)(h2:lo<2^62)(h3:-(2^62)<=hi)(h4:hi<2^62)
  (q:R (Itr lo (hi-lo).toNat) H):wpAny (Pb X.prog X.w) X.A (pyIter (.ref s.heap.objs.size)) (PIE X pins σ tg R) E { s with heap:=s.heap.push { cls:=.type "range",data:=.fields #[.int lo t,.int hi u,.int 1 v] },toks:=tk }:=by
 refine wpAny_pyIter_range (IsRange.new ..) (small_one h1 h2 h3 h4) ?_
 have I1:Inv X pins σ H { s with heap:=s.heap.push { cls:=.type "range",data:=.fields #[.int lo t,.int hi u,.int 1 v] },toks:=tk }:=I.kept λb o e=>O2 _ e
 refine⟨(s.heap.push { cls:=.type "range",data:=.fields #[.int lo t,.int hi u,.int 1 v] }).objs.size,[(s.heap.push { cls:=.type "range",data:=.fields #[.int lo t,.int hi u,.int 1 v] }).objs.size],_,_,H,rfl,
  I1.kept (t':=tk) λb o e=>O2 _ e,Af _ lo (hi-lo).toNat,?_,λb hb=>?_,q⟩
 ·have e1:lo+((0:Nat):Int)*1=lo:=by simp
  have e2:(((hi-lo).toNat:Nat):Int)-((0:Nat):Int)=Builtin.Range.rangeSize lo hi 1:=by rw[rangeSize_one];split<;>omega
  show IsRangeIter _ _ (lo+((0:Nat):Int)*1) ((((hi-lo).toNat:Nat):Int)-((0:Nat):Int)) 1;rw[e1,e2];exact Pe _ rfl
 have e:b=(s.heap.push { cls:=.type "range",data:=.fields #[.int lo t,.int hi u,.int 1 v] }).objs.size:=by simpa using hb
 subst e
 exact I1.uE (Mo _) (I1.hok.fresh (Mo _))
inductive Ld(vs:List V)(H:Hp)(R:It->Hp->Prop):Prop
 |mk(j:Int)(h0:vs=[.int j])(h1:-(2^62)<=j)(h2:j<2^62)(q:R (Itr 0 j.toNat) H):Ld vs H R
def KO(ta:TA):TI:=λσ H R=>ta σ H λvs H1=>Ld vs H1 R
theorem eQ(hg:Gl X "range")(hm:X.mg "range"=Vf)(ha:PA X [a] ta)(hs:O5 [a] X.env=[(false,PD a X.env)]:=by rfl):PI X tg (.Call (.Name "range" p) [a] [] pos) (KO ta):=by
 intro pins s σ H R I h;refine Call_ (pW I hg hm boot_range (P2 (thn (ha pos pins s σ H _ I h) λus s1 ⟨vs,H1,I1,r1,q1⟩=>?_) hs rfl));obtain⟨j,e,q1,q2,q⟩:=q1;subst e;cases r1 with
 |cons r rr=>
  cases rr;obtain⟨t,rfl⟩:=r;exact call_range_1 (Ep I1 (by omega) (by omega) q1 q2 (by simpa using q))
def Lm(wi:TI)(g:TG)(tb:TS):TS:=λD σ H=>wi σ H λJ H1=>∃W:Nat->Nat->St->Hp->Prop,(∃m,W 0 m σ H1)/\∀i m σ H,W i m σ H->
 (J.stop i H/\D.nx σ H)\/(J.go i H/\∃N:St->Hp->Prop,(∀σ' H',N σ' H'->∃m',m'<m/\W (i+1) m' σ' H')/\∀x H',J.yld i H x H'->g x σ H' λσ2 H2=>tb { D with nx:=N,ct:=N,bk:=D.nx } σ2 H2)
def tB(fp:List OW)(h:Pk):List (OW×Obj):=fp.filterMap λb=>(h.get? b).map λo=>(b,o)
theorem lE(hb:b∈fp)(e:h.get? b=Ve o):(b,o)∈tB fp h:=OG.mpr ⟨b,hb,by rw[e];rfl⟩
theorem Cp(hp:p∈tB fp h):p.1∈fp/\h.get? p.1=Ve p.2:=by
 obtain⟨b,hb,e⟩:=OG.mp hp;cases q:h.get? b with
 |none=>rw[q]at e;cases e
 |some o=>
  rw[q]at e;have e':(b,o)=p:=O1 e;subst e';exact⟨hb,q⟩
theorem Inv.pinned(I:Inv X pins σ H s)(hf:∀b∈fp,tH X pins H b)(ho:∀b∈fp,∃o,s.heap.get? b=Ve o/\∀v,o.data≠ .cell v):Inv X (pins++tB fp s.heap) σ H s:=
 I.w8 λp hp=>(Mp.mp hp).elim (λz=>I.pin p (MA _ z)) λz=>by
  obtain⟨hb,e⟩:=Cp z;obtain⟨f0,f1,f2,_⟩:=hf p.1 hb;obtain⟨o,e',d⟩:=ho p.1 hb;rw[e]at e';cases e';exact⟨e,f0,f1,f2,d⟩
theorem Inv.mW(I:Inv X (pins++pl) σ H s):Inv X pins σ H s:=I.w8 λp hp=>I.pin p (MA _ (MN _ hp))
theorem cR(hp:PassesOwn (Pb X.prog X.w) X.A X.env X.xe)(hc:X.calm=true)(hi:PI X tg iter wi)(hg:PG X tg g)(hb:PSs X body tb)
  (hs:∀x,foldedSetIterable iter X.env x=pure x:=by intro _;rfl):PS X (.For tg iter body [] pos) (Lm wi g tb):=by
 intro pins s σ H D I h
 refine wpAny_For (thn (hi pins s σ H _ I h) λv s1 h1=>thn h1 λitv s2 h2=>?_) hs
 obtain⟨it,fp,tn,J,H2,e,I2,T,st2,f2,W,⟨m0,w0⟩,turn⟩:=h2
 subst e
 have stat:∀{H':Hp},(∀b∈fp,H' b=Vf)->∀b∈fp,tH X pins H' b:=λhn b hb=>⟨hn b hb,(f2 b hb).2⟩
 refine codeAny_forLoop_any (λn s'=>∃i σ' H',Inv X pins σ' H' s'/\tn i s'.heap/\(∀b∈fp,H' b=Vf)/\W i n σ' H') ?_ m0 ⟨0,σ,H2,I2,st2,λb hb=>(f2 b hb).1,w0⟩
 rintro n s3 ⟨i,σ3,H3,I3,st3,fr3,w3⟩
 rcases turn i n σ3 H3 w3 with⟨stop,qn⟩|⟨go,N,hN,step⟩
 ·refine P8 hp (thn (T.done X rfl rfl rfl hc i pins s3 σ3 H3 X.xe I3 (stat fr3) st3 stop) λr s4 ⟨hr,I4⟩=>?_);subst hr;exact QV ⟨σ3,H3,I4,qn⟩
 refine P8 hp (thn (T.item X rfl rfl rfl hc i pins s3 σ3 H3 X.xe I3 (stat fr3) st3 go) λr s4 ⟨u,hr,h4⟩=>?_)
 subst hr
 refine P8 hp (thn h4 λ_ s5 ⟨x,H5,I5,r5,y5,st5,fr5⟩=>?_)
 have I5':=I5.pinned (stat fr5) (T.obj _ _ st5)
 refine P8 hp (thn (hg _ s5 σ3 H5 x u _ I5' r5 (step x H5 y5)) λ_ s6 ⟨σ6,H6,I6,q6⟩=>?_)
 refine P8 hp (thn (hb _ s6 σ6 H6 _ I6 q6) λf s7 q7=>?_)
 have again:∀{σ7:St}{H7:Hp},Inv X (pins++tB fp s5.heap) σ7 H7 s7->N σ7 H7->∃m,m<n/\∃i σ' H',Inv X pins σ' H' s7/\tn i s7.heap/\(∀b∈fp,H' b=Vf)/\W i m σ' H':=λ{σ7 H7} I7 n7=>by
  obtain⟨m',hm,w7⟩:=hN σ7 H7 n7;refine⟨m',hm,i+1,σ7,H7,I7.mW,T.keep _ _ _ st5 λb hb o e=>(I7.pin (b,o) (MA _ (MA _ (lE hb e)))).1,λb hb=>?_,w7⟩;obtain⟨o,e,d⟩:=T.obj _ _ st5 b hb;exact(I7.pin (b,o) (MA _ (MA _ (lE hb e)))).2.1
 cases f with
 |next=>obtain⟨σ7,H7,I7,n7⟩:=q7;exact again I7 n7
 |cont=>obtain⟨σ7,H7,I7,n7⟩:=q7;exact again I7 n7
 |brk=>obtain⟨σ7,H7,I7,q7⟩:=q7;exact⟨σ7,H7,I7.mW,q7⟩
 |ret v=>obtain⟨x7,σ7,H7,I7,r7,q7⟩:=q7;exact⟨x7,σ7,H7,I7.mW,r7,q7⟩
end
theorem dI{K:Qu}{a:OW}{xs:List V}{g:TG}{tb:TS}{D:VE}{σ:St}{H:Hp}(Pv:Nat->St->Hp->Prop)(h0:Pv 0 σ H)(hl:∀i σ H,i<=xs.length->Pv i σ H->SqL K H a xs)
  (hs:∀i x σ H,xs[i]?=Ve x->Pv i σ H->g x σ H λσ2 H2=>tb { D with nx:=Pv (i+1),ct:=Pv (i+1),bk:=D.nx } σ2 H2) (hd:∀σ H,Pv xs.length σ H->D.nx σ H) :
  ∃W:Nat->Nat->St->Hp->Prop,(∃m,W 0 m σ H)/\∀i m σ H,W i m σ H->
   ((Itl K a).stop i H/\D.nx σ H)\/((Itl K a).go i H/\∃N:St->Hp->Prop,(∀σ' H',N σ' H'->∃m',m'<m/\W (i+1) m' σ' H')/\∀x H',(Itl K a).yld i H x H'->g x σ H' λσ2 H2=>tb { D with nx:=N,ct:=N,bk:=D.nx } σ2 H2):=by
 refine⟨λi m σ H=>m=xs.length-i/\i<=xs.length/\Pv i σ H,⟨xs.length,by simp,MB _,h0⟩,?_⟩
 rintro i m σ H ⟨rfl,hi,p⟩
 have q:=hl i σ H hi p
 by_cases hlt:i<xs.length
 ·refine .inr ⟨⟨xs,xs[i],q,by simp[hlt]⟩,Pv (i+1),λσ' H' p'=>⟨xs.length-(i+1),by omega,rfl,hlt,p'⟩,λx H' y=>?_⟩;obtain⟨e,y⟩:=y;subst e;exact hs i x σ _ (y xs q) p
 have e:i=xs.length:=by omega
 subst e
 exact .inl ⟨⟨xs,q,Mo _⟩,hd σ H p⟩
theorem AS{K:Qu}{a:OW}{xs:List V}{g:TG}{tb:TS}{D:VE}{σ:St}{H:Hp}(Pv:Nat->St->Hp->Prop)(h0:Pv 0 σ H)(hl:∀i σ H,i<=xs.length->Pv i σ H->SqT K H a xs)
  (hs:∀i x σ H,xs[i]?=Ve x->Pv i σ H->g x σ H λσ2 H2=>tb { D with nx:=Pv (i+1),ct:=Pv (i+1),bk:=D.nx } σ2 H2) (hd:∀σ H,Pv xs.length σ H->D.nx σ H) :
  ∃W:Nat->Nat->St->Hp->Prop,(∃m,W 0 m σ H)/\∀i m σ H,W i m σ H->
   ((Itt K a).stop i H/\D.nx σ H)\/((Itt K a).go i H/\∃N:St->Hp->Prop,(∀σ' H',N σ' H'->∃m',m'<m/\W (i+1) m' σ' H')/\∀x H',(Itt K a).yld i H x H'->g x σ H' λσ2 H2=>tb { D with nx:=N,ct:=N,bk:=D.nx } σ2 H2):=by
 refine⟨λi m σ H=>m=xs.length-i/\i<=xs.length/\Pv i σ H,⟨xs.length,by simp,MB _,h0⟩,?_⟩
 rintro i m σ H ⟨rfl,hi,p⟩
 have q:=hl i σ H hi p
 by_cases hlt:i<xs.length
 ·refine .inr ⟨⟨xs,xs[i],q,by simp[hlt]⟩,Pv (i+1),λσ' H' p'=>⟨xs.length-(i+1),by omega,rfl,hlt,p'⟩,λx H' y=>?_⟩;obtain⟨e,y⟩:=y;subst e;exact hs i x σ _ (y xs q) p
 have e:i=xs.length:=by omega
 subst e
 exact .inl ⟨⟨xs,q,Mo _⟩,hd σ H p⟩
theorem kH{lo:Int}{n:Nat}{g:TG}{tb:TS}{D:VE}{σ:St}{H:Hp}(Pv:Nat->St->Hp->Prop)(h0:Pv 0 σ H)
  (hs:∀i σ H,i<n->Pv i σ H->g (.int (lo+i)) σ H λσ2 H2=>tb { D with nx:=Pv (i+1),ct:=Pv (i+1),bk:=D.nx } σ2 H2) (hd:∀σ H,Pv n σ H->D.nx σ H) :
  ∃W:Nat->Nat->St->Hp->Prop,(∃m,W 0 m σ H)/\∀i m σ H,W i m σ H->
   ((Itr lo n).stop i H/\D.nx σ H)\/((Itr lo n).go i H/\∃N:St->Hp->Prop,(∀σ' H',N σ' H'->∃m',m'<m/\W (i+1) m' σ' H')/\∀x H',(Itr lo n).yld i H x H'->g x σ H' λσ2 H2=>tb { D with nx:=N,ct:=N,bk:=D.nx } σ2 H2):=by
 refine⟨λi m σ H=>m=n-i/\i<=n/\Pv i σ H,⟨n,by simp,MB _,h0⟩,?_⟩
 rintro i m σ H ⟨rfl,hi,p⟩
 by_cases hlt:i<n
 ·refine .inr ⟨hlt,Pv (i+1),λσ' H' p'=>⟨n-(i+1),by omega,rfl,hlt,p'⟩,λx H' y=>?_⟩;obtain⟨e,y⟩:=y;subst e y;exact hs i σ _ hlt p
 have e:i=n:=by omega
 subst e
 exact .inl ⟨Mo _,hd σ H p⟩
abbrev R2:=V->V->Hp->VK->Prop
def OpR(X:Cx)(f:OX->OX->Sem OX)(r:R2):Prop:=
 ∀(pins:List (OW×Obj))(s:O0)(σ:St)(H:Hp)(x y:V)(v u:OX)(Q:VK),Inv X pins σ H s->Vo x v->Vo y u->r x y H Q->
  wpAny (Pb X.prog X.w) X.A (f v u) (EP X pins σ Q) X.xe s
def UnR(X:Cx)(f:OX->Sem OX)(r:V->Hp->VK->Prop):Prop:=
 ∀(pins:List (OW×Obj))(s:O0)(σ:St)(H:Hp)(x:V)(v:OX)(Q:VK),Inv X pins σ H s->Vo x v->r x H Q->
  wpAny (Pb X.prog X.w) X.A (f v) (EP X pins σ Q) X.xe s
def dR(X:Cx)(f:OX)(r:List V->Hp->VK->Prop):Prop:=
 ∀(pins:List (OW×Obj))(s:O0)(σ:St)(H:Hp)(xs:List V)(us:List OX)(Q:VK),Inv X pins σ H s->Vn xs us->r xs H Q->
  wpAny (Pb X.prog X.w) X.A (call f us) (EP X pins σ Q) X.xe s
def LZ(X:Cx)(r:V->Hp->(Bool->Hp->Prop)->Prop):Prop:=
 ∀(pins:List (OW×Obj))(s:O0)(σ:St)(H:Hp)(x:V)(v:OX)(Q:Bool->Hp->Prop),Inv X pins σ H s->Vo x v->r x H Q->
  wpAny (Pb X.prog X.w) X.A (truthy v) (TP X pins σ Q) X.xe s
def tOp(r:R2)(ta tb:TE):TE:=λσ H Q=>ta σ H λx H1=>tb σ H1 λy H2=>r x y H2 Q
def tUn(r:V->Hp->VK->Prop)(ta:TE):TE:=λσ H Q=>ta σ H λx H1=>r x H1 Q
def rI(C:Int->Int->Prop)(g:Int->Int->V):R2:=λx y H Q=>∃i j,x=.int i/\y=.int j/\C i j/\Q (g i j) H
def rI0(g:Int->Int->V):R2:=λx y H Q=>∃i j,x=.int i/\y=.int j/\Q (g i j) H
def rU(g:Int->V):V->Hp->VK->Prop:=λx H Q=>∃i,x=.int i/\Q (g i) H
section
variable{X:Cx}{a b c:Expr}{ta tb tc:TE}{pos:Pos}
theorem Iv(ha:PE X a ta)(hb:PE X b tb){σ:St}{H:Hp}{R:V->V->Hp->Prop}(I:Inv X pins σ H s)
  (h:ta σ H λx H1=>tb σ H1 λy H2=>R x y H2) {Q:OX->O0->Prop}{f:OX->OX->Sem OX}
  (hf:∀v u s2 x y H2,Inv X pins σ H2 s2->Vo x v->Vo y u->R x y H2->wpAny (Pb X.prog X.w) X.A (f v u) Q X.xe s2) :
  wpAny (Pb X.prog X.w) X.A (PD a X.env) (λv s₁=>wpAny (Pb X.prog X.w) X.A (PD b X.env) (λu s₂=>wpAny (Pb X.prog X.w) X.A (f v u) Q X.xe s₂) X.xe s₁) X.xe s:=by
 refine thn (ha pins s σ H _ I h) λv s1 ⟨x,H1,I1,r1,q1⟩=>?_
 refine thn (hb pins s1 σ H1 _ I1 q1) λu s2 ⟨y,H2,I2,r2,q2⟩=>?_
 exact hf v u s2 x y H2 I2 r1 r2 q2
theorem ax(ho:OpR X (PK op) r)(ha:PE X a ta)(hb:PE X b tb):PE X (.BinOp a op b pos) (tOp r ta tb):=by
 intro pins s σ H Q I h;exact wpAny_BinOp (Iv ha hb I h λv u s2 x y H2 I2 rx ry q=>ho pins s2 σ H2 x y v u Q I2 rx ry q)
theorem iW(ho:UnR X (unaryOp op) r)(ha:PE X a ta):PE X (.UnaryOp op a pos) (tUn r ta):=by
 intro pins s σ H Q I h;exact UnaryOp_ (thn (ha pins s σ H _ I h) λv s1 ⟨x,H1,I1,r1,q1⟩=>ho pins s1 σ H1 x v Q I1 r1 q1)
theorem opI{f:OX->OX->Sem OX}{C:Int->Int->Prop}{g:Int->Int->Int}
  (rule:∀(i j:Int)(t u:Tok)(s:O0)(Q:OX->O0->Prop)(E:OX->O0->Prop),C i j->Q (.int (g i j) s.toks) { s with toks:=s.toks+1 }->wpAny (Pb X.prog X.w) X.A (f (.int i t) (.int j u)) Q E s) :
  OpR X f (rI C λi j=>.int (g i j)):=by
 intro pins s σ H x y v u Q I rx ry h
 obtain⟨i,j,rfl,rfl,hc,q⟩:=h
 obtain⟨t,rfl⟩:=rx
 obtain⟨t',rfl⟩:=ry
 exact rule i j t t' s _ _ hc ⟨.int (g i j),H,I.tok _,⟨_,rfl⟩,q⟩
theorem Kp{f:OX->OX->Sem OX}{g:Int->Int->Int}
  (rule:∀(i j:Int)(t u:Tok)(s:O0)(Q:OX->O0->Prop)(E:OX->O0->Prop),Q (.int (g i j) s.toks) { s with toks:=s.toks+1 }->wpAny (Pb X.prog X.w) X.A (f (.int i t) (.int j u)) Q E s) :
  OpR X f (rI0 λi j=>.int (g i j)):=by
 intro pins s σ H x y v u Q I rx ry h
 obtain⟨i,j,rfl,rfl,q⟩:=h
 obtain⟨t,rfl⟩:=rx
 obtain⟨t',rfl⟩:=ry
 exact rule i j t t' s _ _ ⟨.int (g i j),H,I.tok _,⟨_,rfl⟩,q⟩
theorem FY{f:OX->OX->Sem OX}{g:Int->Int->Bool}
  (rule:∀(i j:Int)(t u:Tok)(s:O0)(Q:OX->O0->Prop)(E:OX->O0->Prop),Q (.bool (g i j)) s->wpAny (Pb X.prog X.w) X.A (f (.int i t) (.int j u)) Q E s) :
  OpR X f (rI0 λi j=>.bl (g i j)):=by
 intro pins s σ H x y v u Q I rx ry h
 obtain⟨i,j,rfl,rfl,q⟩:=h
 obtain⟨t,rfl⟩:=rx
 obtain⟨t',rfl⟩:=ry
 exact rule i j t t' s _ _ ⟨.bl (g i j),H,I,rfl,q⟩
def Kl(i j:Int):Prop:=0<=j/\j<=1000000/\i.natAbs<2^64
def BC(i j:Int):Prop:=(-(2^64)<i/\i<2^64)\/(-(2^64)<j/\j<2^64)
theorem BC.ok(h:BC i j):IntMulOk i j:=by
 rcases h with⟨h1,h2⟩|⟨h1,h2⟩
 ·exact .of_left (intBits_le_64 h1 h2)
 exact .of_right (intBits_le_64 h1 h2)
theorem zh(k:Nat):(0:Int)<=2^k:=by
 rw[two_pow_cast];exact Int.natCast_nonneg _
theorem Il:OpR X (PK .Add) (rI0 λi j=>.int (i+j)):=Kp λ_ _ _ _ _ _ _ q=>add_int q
theorem I0:OpR X (PK .Sub) (rI0 λi j=>.int (i-j)):=Kp λ_ _ _ _ _ _ _ q=>sub_int q
theorem Jq:OpR X (PK .Mult) (rI BC λi j=>.int (i*j)):=opI λ_ _ _ _ _ _ _ hc q=>mul_int q hc.ok
theorem Jl:OpR X (PK .Mod) (rI (λ_ j=>0<j) λi j=>.int (i%j)):=opI λi j _ _ _ _ _ hc q=>by
 have h1:(0:Int)<j:=hc;exact mod_int' (by omega) (by rw[Int.fmod_eq_emod_of_nonneg i (by omega)];exact q)
theorem HZ:OpR X (PK .Pow) (rI Kl λi j=>.int (i^j.toNat)):=opI λ_ _ _ _ _ _ _ hc q=>pow_int_small hc.1 hc.2.1 hc.2.2 q
theorem IP:OpR X (PK .RShift) (rI (λ_ j=>0<=j) λi j=>.int (i/2^j.toNat)):=opI λi j _ _ _ _ _ hc q=>
 rshift_int hc (by rw[Rc i (zh _)];exact q)
theorem unI{f:OX->Sem OX}{g:Int->Int}
  (rule:∀(i:Int)(t:Tok)(s:O0)(Q:OX->O0->Prop)(E:OX->O0->Prop),Q (.int (g i) s.toks) { s with toks:=s.toks+1 }->wpAny (Pb X.prog X.w) X.A (f (.int i t)) Q E s) :
  UnR X f (rU λi=>.int (g i)):=by
 intro pins s σ H x v Q I rx h
 obtain⟨i,rfl,q⟩:=h
 obtain⟨t,rfl⟩:=rx
 exact rule i t s _ _ ⟨.int (g i),H,I.tok _,⟨_,rfl⟩,q⟩
theorem fq:UnR X (unaryOp .USub) (rU λi=>.int (-i)):=unI λ_ _ _ _ _ q=>neg_int q
end
noncomputable def BG:V->V->Bool
 | .non,.non=>true| .non,.int _=>true| .int _,.non=>true| .non,.bl _=>true| .bl _,.non=>true| .non,.str _=>true| .str _,.non=>true
 | .int _,.int _=>true| .bl _,.bl _=>true| .str _,.str _=>true| .byt _,.byt _=>true
 | .int _,.str _=>true| .str _,.int _=>true| .bl _,.str _=>true| .str _,.bl _=>true
 |_,_=>false
def rEq:R2:=λx y H Q=>BG x y=true/\Q (.bl (decide (x=y))) H
def rNe:R2:=λx y H Q=>BG x y=true/\Q (.bl (!decide (x=y))) H
theorem A1:decide (V.int i=V.int j)=(i==j):=by
 rw[Nx];simp
theorem EA:decide (V.bl i=V.bl j)=(i==j):=by
 rw[Nx];simp
theorem AU:decide (V.str i=V.str j)=(i==j):=by
 rw[Nx];simp
theorem AB:decide (V.byt i=V.byt j)=(i.toList==j.toList):=by
 rw[Nx];cases i;cases j;simp
section
variable{X:Cx}{a b c:Expr}{ta tb tc:TE}{pos:Pos}
theorem bS(I:Inv X pins σ H s)(q:Q (.bl k) H)(e:k=k'):EP X pins σ Q (.bool k') s:=by
 subst e;exact⟨.bl k,H,I,rfl,q⟩
theorem Lb:OpR X (Pg .Eq) rEq:=by
 intro pins s σ H x y v u Q I rx ry h;obtain⟨hs,q⟩:=h;cases x with
 |non=>
  cases rx;cases y with
  |non=>cases ry;exact PySem.EqNone.eq_none_none (bS I q (by simp))
  |bl j=>cases ry;exact PySem.EqNone.eq_none_bool (bS I q (by simp))
  |int j=>obtain⟨t',rfl⟩:=ry;exact PySem.EqNone.eq_none_int (bS I q (by simp))
  |str j=>obtain⟨t',rfl⟩:=ry;exact PySem.EqNone.eq_none_str (bS I q (by simp))
  |_=>exact absurd (show false=true from hs) Mw
 |bl i=>
  cases rx;cases y with
  |non=>cases ry;exact PySem.EqNone.eq_bool_none (bS I q (by simp))
  |bl j=>cases ry;exact eq_bool (bS I q EA)
  |str j=>obtain⟨t',rfl⟩:=ry;exact PySem.EqMixed.eq_bool_str (bS I q (by simp))
  |_=>exact absurd (show false=true from hs) Mw
 |int i=>
  obtain⟨t,rfl⟩:=rx;cases y with
  |non=>cases ry;exact PySem.EqNone.eq_int_none (bS I q (by simp))
  |int j=>obtain⟨t',rfl⟩:=ry;exact eq_int (bS I q A1)
  |str j=>obtain⟨t',rfl⟩:=ry;exact PySem.EqMixed.eq_int_str (bS I q (by simp))
  |_=>exact absurd (show false=true from hs) Mw
 |str i=>
  obtain⟨t,rfl⟩:=rx;cases y with
  |non=>cases ry;exact PySem.EqNone.eq_str_none (bS I q (by simp))
  |bl j=>cases ry;exact PySem.EqMixed.eq_str_bool (bS I q (by simp))
  |int j=>obtain⟨t',rfl⟩:=ry;exact PySem.EqMixed.eq_str_int (bS I q (by simp))
  |str j=>obtain⟨t',rfl⟩:=ry;exact eq_str (bS I q AU)
  |_=>exact absurd (show false=true from hs) Mw
 |byt i=>
  obtain⟨t,rfl⟩:=rx;cases y with
  |byt j=>obtain⟨t',rfl⟩:=ry;exact W.eq_bytes (bS I q AB)
  |_=>exact absurd (show false=true from hs) Mw
 |_=>cases y<;>exact absurd (show false=true from hs) Mw
theorem JT:OpR X (Pg .NotEq) rNe:=by
 intro pins s σ H x y v u Q I rx ry h;obtain⟨hs,q⟩:=h;cases x with
 |non=>
  cases rx;cases y with
  |non=>cases ry;exact PySem.EqNone.ne_none_none (bS I q (by simp))
  |bl j=>cases ry;exact PySem.EqNone.ne_none_bool (bS I q (by simp))
  |int j=>obtain⟨t',rfl⟩:=ry;exact PySem.EqNone.ne_none_int (bS I q (by simp))
  |str j=>obtain⟨t',rfl⟩:=ry;exact PySem.EqNone.ne_none_str (bS I q (by simp))
  |_=>exact absurd (show false=true from hs) Mw
 |bl i=>
  cases rx;cases y with
  |non=>cases ry;exact PySem.EqNone.ne_bool_none (bS I q (by simp))
  |bl j=>cases ry;exact ne_bool (bS I q (congrArg not EA))
  |str j=>obtain⟨t',rfl⟩:=ry;exact PySem.EqMixed.ne_bool_str (bS I q (by simp))
  |_=>exact absurd (show false=true from hs) Mw
 |int i=>
  obtain⟨t,rfl⟩:=rx;cases y with
  |non=>cases ry;exact PySem.EqNone.ne_int_none (bS I q (by simp))
  |int j=>obtain⟨t',rfl⟩:=ry;exact ne_int (bS I q (congrArg not A1))
  |str j=>obtain⟨t',rfl⟩:=ry;exact PySem.EqMixed.ne_int_str (bS I q (by simp))
  |_=>exact absurd (show false=true from hs) Mw
 |str i=>
  obtain⟨t,rfl⟩:=rx;cases y with
  |non=>cases ry;exact PySem.EqNone.ne_str_none (bS I q (by simp))
  |bl j=>cases ry;exact PySem.EqMixed.ne_str_bool (bS I q (by simp))
  |int j=>obtain⟨t',rfl⟩:=ry;exact PySem.EqMixed.ne_str_int (bS I q (by simp))
  |str j=>obtain⟨t',rfl⟩:=ry;exact ne_str (bS I q (congrArg not AU))
  |_=>exact absurd (show false=true from hs) Mw
 |byt i=>
  obtain⟨t,rfl⟩:=rx;cases y with
  |byt j=>obtain⟨t',rfl⟩:=ry;exact W.ne_bytes (bS I q (congrArg not AB))
  |_=>exact absurd (show false=true from hs) Mw
 |_=>cases y<;>exact absurd (show false=true from hs) Mw
theorem Kz:OpR X (Pg .Lt) (rI0 λi j=>.bl (decide (i<j))):=FY λ_ _ _ _ _ _ _ q=>lt_int q
theorem Kx:OpR X (Pg .LtE) (rI0 λi j=>.bl (decide (i<=j))):=FY λ_ _ _ _ _ _ _ q=>le_int q
theorem JK:OpR X (Pg .Gt) (rI0 λi j=>.bl (decide (j<i))):=FY λ_ _ _ _ _ _ _ q=>gt_int q
theorem Ka:OpR X (Pg .GtE) (rI0 λi j=>.bl (decide (j<=i))):=FY λ_ _ _ _ _ _ _ q=>ge_int q
theorem BM:OpR X (Pg .In) (λx y H Q=>∃i j,x=.str i/\y=.str j/\Q (.bl (!(PX j i 0 j.length 1).isEmpty)) H):=by
 intro pins s σ H x y v u Q I rx ry h;obtain⟨i,j,rfl,rfl,q⟩:=h;obtain⟨t,rfl⟩:=rx;obtain⟨t',rfl⟩:=ry;exact in_str (bS I q rfl)
theorem Ip:OpR X (Pg .Is) (λx y H Q=>y=.non/\Q (.bl (decide (x=.non))) H):=by
 intro pins s σ H x y v u Q I rx ry h;obtain⟨rfl,q⟩:=h;cases ry;refine is_none_gen (bS I q ?_);cases x<;>first
  | (cases rx;rfl)
  | (obtain⟨t,rfl⟩:=rx;rfl)
theorem Gv:OpR X (Pg .IsNot) (λx y H Q=>y=.non/\Q (.bl (!decide (x=.non))) H):=by
 intro pins s σ H x y v u Q I rx ry h;obtain⟨rfl,q⟩:=h;cases ry;refine isnot_none_gen (bS I q ?_);cases x<;>first
  | (cases rx;rfl)
  | (obtain⟨t,rfl⟩:=rx;rfl)
theorem OpR.or(h:OpR X f r)(h':OpR X f r'):OpR X f (λx y H Q=>r x y H Q\/r' x y H Q):=by
 intro pins s σ H x y v u Q I rx ry q;rcases q with q|q
 ·exact h pins s σ H x y v u Q I rx ry q
 exact h' pins s σ H x y v u Q I rx ry q
theorem DE(b:Expr)(h:op≠ .In:=by decide)(h2:op≠ .NotIn:=by decide):Qx op b=false:=by
 have e1:(op==CmpOp.In)=false:=by cases op<;>first|rfl|exact absurd rfl h
 have e2:(op==CmpOp.NotIn)=false:=by cases op<;>first|rfl|exact absurd rfl h2
 cases b<;>simp[Qx,e1,e2]
theorem Gs(ho:OpR X (Pg op) r)(ha:PE X a ta)(hb:PE X b tb)(hm:Qx op b=false):PE X (.Compare a [op] [b] pos) (tOp r ta tb):=by
 intro pins s σ H Q I h;exact wpAny_Compare1 (Iv ha hb I h λv u s2 x y H2 I2 rx ry q=>ho pins s2 σ H2 x y v u Q I2 rx ry q) hm
inductive blI(x:V)(H:Hp)(Q:Bool->Hp->Prop):Prop
 |mk(k:Bool)(h:x=.bl k)(q:Q k H):blI x H Q
def vA(t:TE):TT:=λσ H Q=>t σ H λx H'=>blI x H' Q
theorem Fo(ho:OpR X (Pg op) r)(ha:PE X a ta)(hb:PE X b tb)(hm:Qx op b=false):PT X (.Compare a [op] [b] pos) (vA (tOp r ta tb)):=by
 intro pins s σ H Q I h;refine wpAny_isTrue_Compare1 (thn (ha pins s σ H _ I h) λv s1 ⟨x,H1,I1,r1,q1⟩=>thn (hb pins s1 σ H1 _ I1 q1) λu s2 ⟨y,H2,I2,r2,q2⟩=>
  thn (ho pins s2 σ H2 x y v u _ I2 r1 r2 q2) λc s3 ⟨z,H3,I3,r3,k,e,q3⟩=>?_) hm
 subst e;cases r3;exact PJ ⟨H3,I3,q3⟩
def Jm(r r':R2)(ta tb tc:TE):TE:=λσ H Q=>ta σ H λx H1=>tb σ H1 λy H2=>r x y H2 λz H3=>∃k,z=.bl k/\
 (if k=true then tc σ H3 λw' H4=>r' y w' H4 Q else Q (.bl false) H3)
theorem DH(ho:OpR X (Pg op) r)(ho':OpR X (Pg op') r')(ha:PE X a ta)(hb:PE X b tb)(hc:PE X c tc)
  (hm:lastMarks [op,op'] [b,c]=false:=by with_unfolding_all rfl):PE X (.Compare a [op,op'] [b,c] pos) (Jm r r' ta tb tc):=by
 intro pins s σ H Q I h
 refine Compare_chain (thn (ha pins s σ H _ I h) λv s1 ⟨x,H1,I1,r1,q1⟩=>chain_link (thn (hb pins s1 σ H1 _ I1 q1) λu s2 ⟨y,H2,I2,r2,q2⟩=>
  thn (ho pins s2 σ H2 x y v u _ I2 r1 r2 q2) λd s3 ⟨z,H3,I3,r3,k,e,q3⟩=>?_)) hm
 subst e
 cases r3
 refine PJ ?_
 cases k with
 |false=>exact ite_ff ⟨.bl false,H3,I3,rfl,q3⟩
 |true=>exact ite_tt (chain_last (thn (hc pins s3 σ H3 _ I3 q3) λw' s4 ⟨z',H4,I4,r4,q4⟩=>ho' pins s4 σ H4 y z' u w' Q I4 r2 r4 q4))
def Kv(K:OZ)(x:V)(H:Hp)(k:Bool):Prop:=
 match x with
 | .non=>k=false
 | .bl b=>k=b
 | .int i=>k=(i !=0)
 | .str y=>y.length<=sizeLine/\k=((y.length:Int)!=0)
 | .byt y=>y.size<=sizeLine/\k=((y.size:Int)!=0)
 | .ref p=>(∃xs,SqL K H p xs/\k=!xs.isEmpty)\/(∃xs,SqT K H p xs/\k=!xs.isEmpty)\/∃kvs,H p=Ve (.dK kvs)/\k=!kvs.isEmpty
 |_=>False
theorem zH(r:KV kvs vs):(!vs.isEmpty)=!kvs.isEmpty:=by
 cases r<;>rfl
theorem sk(r:Vn xs its):(!its.toArray.isEmpty)=!xs.isEmpty:=by
 cases r<;>simp
theorem pU:(sizeLine:Nat)<2^63:=by rw[Qo];decide
inductive Ei(K:OZ)(x:V)(H:Hp)(Q:Bool->Hp->Prop):Prop
 |mk(k:Bool)(h:Kv K x H k)(q:Q k H):Ei K x H Q
theorem CF:LZ X (Ei X.K):=by
 intro pins s σ H x v Q I rx h;obtain⟨k,e,q⟩:=h;have hl:=pU;have hs:sizeLine=16777216:=Qo;cases x with
 |non=>
  cases rx;have e':k=false:=e;subst e';exact truthy_none ⟨H,I,q⟩
 |bl b=>
  cases rx;have e':k=b:=e;subst e';exact PJ ⟨H,I,q⟩
 |int i=>
  obtain⟨t,rfl⟩:=rx;have e':k=(i !=0):=e;subst e';exact PySem.P.truthy_int ⟨H,I,q⟩
 |str y=>
  obtain⟨t,rfl⟩:=rx;obtain⟨hy,e'⟩:y.length<=sizeLine/\k=((y.length:Int)!=0):=e;subst e';exact PySem.P.truthy_str (by omega) ⟨H,I.tok _,q⟩
 |byt y=>
  obtain⟨t,rfl⟩:=rx;obtain⟨hy,e'⟩:y.size<=sizeLine/\k=((y.size:Int)!=0):=e;subst e';exact W.truthy_bytes (by omega) ⟨H,I.tok _,q⟩
 |ref p=>
  cases rx;have e':(∃xs,SqL X.K H p xs/\k=!xs.isEmpty)\/(∃xs,SqT X.K H p xs/\k=!xs.isEmpty)\/∃kvs,H p=Ve (.dK kvs)/\k=!kvs.isEmpty:=e;rcases e' with⟨xs,hx,e'⟩|⟨xs,hx,e'⟩|⟨kvs,hx,e'⟩
  ·subst e';obtain⟨its,r,pl,hz⟩:=I.list hx;have hlen:=r.length;exact wpAny_truthy_list pl.isList (by simp only[My];omega) ⟨H,I.tok _,by rw[sk r];exact q⟩
  ·subst e';obtain⟨its,r,pl,hz⟩:=I.tuple hx;have hlen:=r.length;exact truthy_tuple pl (by simp only[My];omega) ⟨H,I.tok _,by rw[sk r];exact q⟩
  subst e';obtain⟨hz,hS,vs,r,m⟩:kvs.length<=sizeLine/\(p==PB)=false/\∃vs,KV kvs vs/\s.heap.DictOf (cE X.prog X.w) p vs:=I.hok p _ hx;have hlen:kvs.length=vs.length:=O3 r;exact wpAny_truthy_dict hS m (by omega) ⟨H,I.tok _,by rw[zH r];exact q⟩
 |_=>exact(show False from e).elim
theorem Et(ha:PE X a ta)(he:∀whole,isTrue a X.env whole=(do let v<-whole;TK a.pos;QA [v] (truthy v))) :
  PT X a (λσ H Q=>ta σ H λx H'=>Ei X.K x H' Q):=by
 intro pins s σ H Q I h
 exact isTrue_plain (thn (ha pins s σ H _ I h) λv s1 ⟨x,H1,I1,r1,q1⟩=>CF pins s1 σ H1 x v Q I1 r1 q1) (he _)
theorem zW:OpR X (PK .Add) (λx y H Q=>∃i j,x=.str i/\y=.str j/\i.length+j.length<=sizeLine/\Q (.str (i++j)) H):=by
 intro pins s σ H x y v u Q I rx ry h;obtain⟨i,j,rfl,rfl,hz,q⟩:=h;obtain⟨t,rfl⟩:=rx;obtain⟨t',rfl⟩:=ry;exact add_str (λt' tk=>⟨.str (i++j),H,I.tok _,⟨_,rfl⟩,q⟩) hz
theorem Vy(r:Vn [x] us):∃u,us=[u]/\Vo x u:=by
 cases r with
 |cons r1 r2=>cases r2;exact⟨_,rfl,r1⟩
theorem VD(r:Vn [x,y] us):∃u w',us=[u,w']/\Vo x u/\Vo y w':=by
 cases r with
 |cons r1 r2=>
  cases r2 with
  |cons r3 r4=>cases r4;exact⟨_,_,rfl,r1,r3⟩
theorem Cc(hc:X.calm=true):dR X (.builtin "max") (λxs H Q=>∃i j,xs=[.int i,.int j]/\Q (.int (if j>i then j else i)) H):=by
 intro pins s σ H xs us Q I r h;obtain⟨i,j,rfl,q⟩:=h;obtain⟨u,w',rfl,⟨t,rfl⟩,⟨t',rfl⟩⟩:=VD r;refine max_two_ints (I.ok.hd hc) λh' tk k=>⟨_,H,I.kept k,?_,q⟩;by_cases hj:j>i
 ·rw[if_pos hj,if_pos hj];exact⟨_,rfl⟩
 rw[if_neg hj,if_neg hj];exact⟨_,rfl⟩
theorem Cw(hc:X.calm=true):dR X (.builtin "min") (λxs H Q=>∃i j,xs=[.int i,.int j]/\Q (.int (if j<i then j else i)) H):=by
 intro pins s σ H xs us Q I r h;obtain⟨i,j,rfl,q⟩:=h;obtain⟨u,w',rfl,⟨t,rfl⟩,⟨t',rfl⟩⟩:=VD r;refine min_two_ints (I.ok.hd hc) λh' tk k=>⟨_,H,I.kept k,?_,q⟩;by_cases hj:j<i
 ·rw[if_pos hj,if_pos hj];exact⟨_,rfl⟩
 rw[if_neg hj,if_neg hj];exact⟨_,rfl⟩
def Ku(K:OZ)(x:V)(H:Hp)(n:Nat):Prop:=
 match x with
 | .str y=>y.length<=sizeLine/\n=y.length
 | .byt y=>y.size<=sizeLine/\n=y.size
 | .ref p=>(∃xs,SqL K H p xs/\n=xs.length)\/∃xs,SqT K H p xs/\n=xs.length
 |_=>False
theorem EE:dR X (.builtin "len") (λxs H Q=>∃x n,xs=[x]/\Ku X.K x H n/\Q (.int n) H):=by
 intro pins s σ H xs us Q I r h;obtain⟨x,n,rfl,e,q⟩:=h;obtain⟨u,rfl,rx⟩:=Vy r;have hl:=pU;have hs:sizeLine=16777216:=Qo;cases x with
 |str y=>
  obtain⟨t,rfl⟩:=rx;obtain⟨hy,e'⟩:y.length<=sizeLine/\n=y.length:=e;subst e';exact len_str (by omega) ⟨.int _,H,I.tok _,⟨_,rfl⟩,q⟩
 |byt y=>
  obtain⟨t,rfl⟩:=rx;obtain⟨hy,e'⟩:y.size<=sizeLine/\n=y.size:=e;subst e';exact W.len_bytes (by omega) ⟨.int _,H,I.tok _,⟨_,rfl⟩,q⟩
 |ref p=>
  cases rx;have e':(∃xs,SqL X.K H p xs/\n=xs.length)\/∃xs,SqT X.K H p xs/\n=xs.length:=e;rcases e' with⟨xs,hx,e'⟩|⟨xs,hx,e'⟩
  ·subst e';obtain⟨its,r',pl,hz⟩:=I.list hx;have hlen:=r'.length;exact Calls.call_len_list pl.isList (by simp only[My];omega) ⟨.int xs.length,H,I.tok _,⟨_,by simp only[My];rw[hlen]⟩,q⟩
  subst e';obtain⟨its,r',pl,hz⟩:=I.tuple hx;have hlen:=r'.length;exact len_tuple pl (by simp only[My];omega) ⟨.int xs.length,H,I.tok _,⟨_,by simp only[My];rw[hlen]⟩,q⟩
 |_=>exact(show False from e).elim
end
structure Ap(h:Pk)(x dx C:OW)(mA:Str->Option OX):Prop where
 obj:h.get? x=Ve (QN C dx)
 ns:h.Ns1 dx mA
 ne:dx≠x
theorem Cb{h:Pk}{mA:Str->Option OX}(n:h.Ns1 dx mA):∃od,h.get? dx=Ve od/\∀name,US name od=Ve (mA name):=by
 obtain⟨o,es,ep,ho,hd,hk,_,hm⟩:=n;refine⟨o,ho,λname=>?_⟩;have e:=hm name;unfold nsFind findBy at e;rw[<-Array.find?_toList]at e;unfold US;rw[hd];dsimp only;split
 ·rename_i y q;rw[q]at e;exact congrArg Ve e
 rename_i q;rw[q]at e;have a:es.toList.any (·.refKey)=false:=by
  rw[TL];intro y hy;obtain⟨z,t,hkey⟩:=hk y (Array.mem_toList_iff.mp hy);simp[DictEntry.refKey,hkey]
 have a':¬ es.toList.any (·.refKey)=true:=by rw[a];exact Mw
 rw[if_neg a'];exact congrArg Ve e
theorem Ap.look(I:Ap h x dx C mA):∃od,W.InstAt h x (QN C dx) C (Ve od)/\∀name,US name od=Ve (mA name):=
 let ⟨od,ho,hl⟩:=Cb I.ns
 ⟨od,⟨I.obj,rfl,rfl,ho⟩,hl⟩
section
variable{prog:Program}{w:O7}{A:Py}{E:OX->O0->Prop}{s:O0}{K:OZ}{x dx C f:OW}{mA:Str->Option OX}{name:Str}{v:OX}
theorem get_map(X:K.In s.heap)(I:Ap s.heap x dx C mA)(hg:RU K C name=true)(hh:Sq K C=true)
  (ha:PQ K (.ref C) name=Ve Vf) (hv:mA name=Ve v) (hv':W.handedIn v=true) (h:Q v { s with toks:=s.toks+1 }) :
  wpAny (Pb prog w) A (getAttr (.ref x) name expr) Q E s:=by
 obtain⟨od,J,hl⟩:=I.look
 exact W.get_value X J (SY hg).1 (W.findObj_own hh ha rfl (by rw[hl,hv])) hv' h
theorem ET(X:K.In s.heap)(I:Ap s.heap x dx C mA)(hg:RU K C name=true)
  (hf:PQ K (.ref C) name=Ve (Ve (.ref f))) (ht:Vc K (.ref f)=true) (hv:mA name=Vf) (h:Q (.ref f,[.ref x]) s) :
  wpAny (Pb prog w) A (SJ (.ref x) name pl) Q E s:=by
 obtain⟨od,J,hl⟩:=I.look
 exact W.method_fn X J (SY hg).1 (SY hg).2 hf (beq_iff_eq.mp ht) (by show(US name od).map (·.isSome)=Ve false;rw[hl,hv];rfl) h
theorem Gh(X:K.In s.heap)(I:Ap s.heap x dx C mA)
  (hs:PQ K (.ref C) "__setattr__"=Ve (Ve (.builtin "object.__setattr__"))) (hp:UB K C=true) (ht:Vb K C name=Ve Vf) (hh:Sq K C=true)
  (hw:TJ mA ns) (hsz:ns.length<=sizeLine)
  (h:∀h',Ap h' x dx C (λy=>if y=name then Ve v else mA y)->Q2 dx s.heap h'->Q () { s with heap:=h',toks:=s.toks+2 }) :
  wpAny (Pb prog w) A (setAttr (.ref x) name v) Q E s:=by
 obtain⟨od,J,hl⟩:=I.look
 refine W.set_plain X J hs (W.osa_open (s:={ s with toks:=s.toks+1 }) (r:=Vf) X J hp ht λb=>?_)
 obtain⟨cd,hc,hd'⟩:=W.any_some hh
 have hx:s.heap.get? x=Ve ⟨.ref C,Ve dx,.plain,#[]⟩:=I.obj
 refine OY (O4 (OY (OY (wpAny_loadPart hx (OY (W.Looks.here (s:={ s with toks:=s.toks+1 }) (W.looks_clsIn X hc) ?_))))))
 rw[hd']
 refine O4 (a:=Ve dx) (OY (O4 (OY ?_)))
 refine wpAny_nsSet1 (s:={ s with toks:=s.toks+1 }) I.ns λh' hn2 hs2=>?_
 obtain⟨oD,esD,epD,hoD,hdD,hcD⟩:=hn2.count (PySem.Within.cons name v hw)
 refine OY (wpAny_lookBehind hoD (by rw[hdD];exact pastItsLine_dict (MC hcD (by rw[MD];omega))) ?_)
 exact O4 (h _ ⟨(hs2.2 _ (Nm I.ne)).trans I.obj,hn2,I.ne⟩ hs2)
theorem Eg(X:K.In s.heap)(hm:Um K C=true)
  (hi:PQ K (.ref C) "__init__"=Ve (Ve (.ref f))) (hf:W.typeIn K (.ref f)=Ve (.type "function"))
  (h:codeAny (Pb prog w) (A.under (.builtin "type.__call__" ⟨.ref C::vs,kw⟩)) (.call (.ref f) ⟨.ref (s.heap.objs.size+1)::vs,kw⟩) (W.InitBack (s.heap.objs.size+1) R)
   { s with heap:=(s.heap.push Qf).push (QN C s.heap.objs.size) }) :
  codeAny (Pb prog w) A (.call (.ref C) ⟨vs,kw⟩) R s:=by
 obtain⟨hh,g,d,t,os⟩:=s
 exact W.make_core (W.makes_of X hm) (W.looks_findIn X hi) (λself=>W.bind_fn X self hf) (.inl rfl) h
end
noncomputable def eF(f:Str)(v:V):List (Str×V)->List (Str×V)
 | []=>[(f,v)]
 | (g,x)::r=>if g=f then(g,v)::r else(g,x)::eF f v r
theorem qD(f g:Str)(v:V):∀fs:List (Str×V),(eF f v fs).lookup g=if g=f then Ve v else fs.lookup g
 | []=>by
  show Qp g [(f,v)]=_;by_cases h:g=f
  ·have hb:(g==f)=true:=beq_iff_eq.mpr h;simp only[Qp,hb,if_pos h]
  have hb:(g==f)=false:=beq_eq_false_iff_ne.mpr h;simp only[Qp,hb,if_neg h]
 | (k,x)::r=>by
  have ih:=qD f g v r;rw[show eF f v ((k,x)::r)=(if k=f then(k,v)::r else(k,x)::eF f v r)from rfl];by_cases hk:k=f
  ·rw[if_pos hk];by_cases h:g=k
   ·have hb:(g==k)=true:=beq_iff_eq.mpr h;simp only[Qp,hb,if_pos (h.trans hk)]
   have hb:(g==k)=false:=beq_eq_false_iff_ne.mpr h;simp only[Qp,hb,if_neg (λe:g=f=>h (e.trans hk.symm))]
  rw[if_neg hk];by_cases h:g=k
  ·have hb:(g==k)=true:=beq_iff_eq.mpr h;simp only[Qp,hb,if_neg (λe:g=f=>hk (h.symm.trans e))]
  have hb:(g==k)=false:=beq_eq_false_iff_ne.mpr h;simp only[Qp,hb];exact ih
theorem qc(f:Str)(v:V):∀fs:List (Str×V),f∈(eF f v fs).map (·.1)/\∀g,g∈fs.map (·.1)->g∈(eF f v fs).map (·.1)
 | []=>⟨by simp[eF],λg h=>by simp at h⟩
 | (k,x)::r=>by
  obtain⟨i1,i2⟩:=qc f v r;rw[show eF f v ((k,x)::r)=(if k=f then(k,v)::r else(k,x)::eF f v r)from rfl];by_cases hk:k=f
  ·rw[if_pos hk];subst hk;exact⟨by simp,λg h=>by simpa using h⟩
  rw[if_neg hk];refine⟨?_,λg h=>?_⟩
  ·rw[Mv];exact Mi _ i1
  rw[Mv]at h⊢;rcases Mf.mp h with e|e
  ·exact Mf.mpr (.inl e)
  exact Mi _ (i2 g e)
theorem qH(f:Str)(v:V):∀fs:List (Str×V),(eF f v fs).length<=fs.length+1
 | []=>by simp[eF]
 | (k,x)::r=>by
  have ih:=qH f v r;rw[show eF f v ((k,x)::r)=(if k=f then(k,v)::r else(k,x)::eF f v r)from rfl];by_cases hk:k=f
  ·rw[if_pos hk,MD,MD];omega
  rw[if_neg hk,MD,MD];omega
theorem lW.some_of(r:lW (Ve v) o):∃u,o=Ve u/\Vo v u:=by
 cases o with
 |none=>exact(show False from r).elim
 |some u=>exact⟨u,rfl,r⟩
theorem lW.none_of(r:lW Vf o):o=Vf:=by
 cases o with
 |none=>rfl
 |some u=>exact(show False from r).elim
theorem BL(r:Vo v u):W.handedIn u=true:=by
 cases v with
 |non=>cases (show u=S4 from r);rfl
 |bl b=>cases (show u=RP b from r);rfl
 |int i=>obtain⟨t,e⟩:=(show ∃t,u=Q4 i t from r);cases e;rfl
 |str x=>obtain⟨t,e⟩:=(show ∃t,u=SG x t from r);cases e;rfl
 |byt b=>obtain⟨t,e⟩:=(show ∃t,u=Value.bytes b t from r);cases e;rfl
 |flt b=>obtain⟨t,e⟩:=(show ∃t,u=Uy b t from r);cases e;rfl
 |ref a=>cases (show u=O8 a from r);rfl
 |ty n=>cases (show u=QM n from r);rfl
section
variable{P:Program}{w:O7}{H H':Hp}{h h':Pk}{a C dx:OW}{fs fs':List (Str×V)}
theorem rD(hok:HOk P w H h)(e:H a=Ve (.ins C dx fs)):∃mA,Ap h a dx C mA/\(∀f,lW (fs.lookup f) (mA f))/\TJ mA (fs.map (·.1))/\fs.length<=1000/\H dx=Ve (.own a):=by
 obtain⟨d,z,ne,ob,mA,n,r,q⟩:=(show dH P w H h a (.ins C dx fs)from hok a _ e);exact⟨mA,⟨ob,n,ne⟩,r,q,z,d⟩
end
structure Cls(K:OZ)(C:OW):Prop where
 pg:RU K C Q5=true
 hd:Sq K C=true
 po:UB K C=true
 sa:PQ K (.ref C) "__setattr__"=Ve (Ve (.builtin "object.__setattr__"))
theorem Cls.get{K:OZ}{C:OW}(c:Cls K C)(f:Str):RU K C f=true:=c.pg
def aJ(K:OZ)(C:OW)(f:Str):Prop:=PQ K (.ref C) f=Ve Vf
theorem aJ.Kw{K:OZ}{C:OW}{f:Str}(n:aJ K C f):Vb K C f=Ve Vf:=by
 unfold Vb;rw[show PQ K (.ref C) f=Ve Vf from n];rfl
structure Con(K:OZ)(C:OW)(f:Str)(v:V)(u:OX):Prop where
 at_:PQ K (.ref C) f=Ve (Ve u)
 rel:Vo v u
 get:QD K u "__get__"=Ve Vf
 cp:W.copiedNames.contains f=false
structure VL(K:OZ)(C:OW)(m:Str)(f:OW):Prop where
 at_:PQ K (.ref C) m=Ve (Ve (.ref f))
 fn:Vc K (.ref f)=true
 kp:Qy K (.ref f)=true
section
variable{X:Cx}{pins:List (OW×Obj)}{σ:St}{H:Hp}{s:O0}{a C dx:OW}{fs:List (Str×V)}{f:Str}{v:V}{A:Py}{E:OX->O0->Prop}
theorem tV(I:Inv X pins σ H s)(e:H a=Ve (.ins C dx fs))(c:Cls X.K C)(n:aJ X.K C f)(l:fs.lookup f=Ve v)
  (h:∀u s',Inv X pins σ H s'->Vo v u->Q u s'):wpAny (Pb X.prog X.w) A (getAttr (.ref a) f b) Q E s:=by
 obtain⟨mA,O,r,_,_,_⟩:=rD I.hok e
 obtain⟨u,hu,ru⟩:=lW.some_of (v:=v) (o:=mA f) (by rw[<-l];exact r f)
 exact get_map I.kIn O (c.get f) c.hd n hu (BL ru) (h u _ (I.tok _) ru)
theorem zV(I:Inv X pins σ H s)(e:H a=Ve (.ins C dx fs))(c:Cls X.K C)(k:VL X.K C m g)(l:fs.lookup m=Vf)
  (h:Q (.ref g,[.ref a]) s):wpAny (Pb X.prog X.w) A (SJ (.ref a) m pl) Q E s:=by
 obtain⟨mA,O,r,_,_,_⟩:=rD I.hok e
 have hn:mA m=Vf:=lW.none_of (by rw[<-l];exact r m)
 exact ET I.kIn O (c.get m) k.at_ k.fn hn h
theorem sr(I:Inv X pins σ H s)(e:H a=Ve (.ins C dx fs))(c:Cls X.K C)(n:aJ X.K C f)(hl:fs.length<1000)(ry:Vo y u)
  (h:∀s',Inv X pins σ (upd H a (.ins C dx (eF f y fs))) s'->Q () s'):wpAny (Pb X.prog X.w) A (setAttr (.ref a) f u) Q E s:=by
 obtain⟨mA,O,r,wi,_,ho⟩:=rD I.hok e
 have hz:(fs.map (·.1)).length<=sizeLine:=by rw[Mj,Qo];omega
 refine Gh I.kIn O c.sa c.po n.Kw c.hd wi hz λh' O' sb=>h _ ?_
 have hd:∃o,h'.get? dx=Ve o:=let ⟨o,_,_,e',_⟩:=O'.ns;⟨o,e'⟩
 refine I.write (x:=a) (e:=dx) (by rw[e];exact MO) (.inr ho) (λb q hb z=>(sb.2 b hb).trans z) hd ?_
 refine⟨by rw[aw O.ne];exact ho,?_,O.ne,O'.obj,_,O'.ns,λg=>?_,λg hg=>?_⟩
 ·have:=qH f y fs;omega
 ·show lW ((eF f y fs).lookup g) (if g=f then Ve u else mA g);rw[qD];by_cases q:g=f
  ·rw[if_pos q,if_pos q];exact ry
  rw[if_neg q,if_neg q];exact r g
 by_cases q:g=f
 ·rw[q];exact(qc f y fs).1
 refine(qc f y fs).2 g (wi g λz=>hg ?_)
 show(if g=f then Ve u else mA g)=Vf
 rw[if_neg q];exact z
theorem Inv.made(I:Inv X pins σ H s):Inv X pins σ (upd (upd H s.heap.objs.size (.own (s.heap.objs.size+1))) (s.heap.objs.size+1) (.ins C s.heap.objs.size []))
  { s with heap:=(s.heap.push Qf).push (QN C s.heap.objs.size) }:=by
 have e1:(s.heap.push Qf).get? s.heap.objs.size=Ve Qf:=Pe s.heap rfl
 have e2:((s.heap.push Qf).push (QN C s.heap.objs.size)).get? (s.heap.objs.size+1)=Ve (QN C s.heap.objs.size):=by
  have:=Pe (s.heap.push Qf) (o:=QN C s.heap.objs.size) rfl;rwa [P6]at this
 have e3:(s.heap.push Qf).Ns s.heap.objs.size (λ_=>Vf):=⟨Qf,#[],_,e1,rfl,(λe he=>absurd he (by simp)),λ_=>rfl⟩
 have I1:=I.laid (a:=s.heap.objs.size) (o:=.own (s.heap.objs.size+1)) (h':=s.heap.push Qf) (t':=s.toks) (λb u q=>O2 _ q) (Mo _) ⟨_,e1⟩
 refine I1.laid (a:=s.heap.objs.size+1) (o:=.ins C s.heap.objs.size []) (t':=s.toks) (λb u q=>O2 _ q) (OP (P6 _ _)) ?_
 have ne:s.heap.objs.size≠s.heap.objs.size+1:=MU (NJ _)
 refine⟨by rw[aw ne,aj],MB _,ne,e2,λ_=>Vf,(Heap.Ns1.of_empty e3).at λo q=>O2 _ q,λ_=>MO,λy hy=>absurd rfl hy⟩
theorem FN(hb:P4 e f env (PD e env)=PD e env)
  (h:wpAny (Pb prog w) A (PD e env) (λo s₁=>wpAny (Pb prog w) A (getAttr o f true) Q E s₁) E s):wpAny (Pb prog w) A (PD (.Attribute e f pos) env) Q E s:=
 Attribute_any_ h (by rw[arm_eval_Attribute,hb])
end
inductive Jg(K:OZ)(f:Str)(x:V)(H:Hp)(Q:VK):Prop
 |mk(a C dx:OW)(fs:List (Str×V))(v:V)(h0:x=.ref a)(h1:H a=Ve (.ins C dx fs))(h2:Cls K C)(h3:aJ K C f)(h4:fs.lookup f=Ve v)(q:Q v H):Jg K f x H Q
def LQ(K:OZ)(ta:TE)(f:Str):TE:=λσ H Q=>ta σ H λx H1=>Jg K f x H1 Q
inductive HI(K:OZ)(f:Str)(y x:V)(H:Hp)(Q:Hp->Prop):Prop
 |mk(a C dx:OW)(fs:List (Str×V))(h0:x=.ref a)(h1:H a=Ve (.ins C dx fs))(h2:Cls K C)(h3:aJ K C f)(h4:fs.length<1000)(q:Q (upd H a (.ins C dx (eF f y fs)))):HI K f y x H Q
def Mb(K:OZ)(ta tv:TE)(f:Str):TS:=λD σ H=>tv σ H λy H1=>ta σ H1 λx H2=>HI K f y x H2 (D.nx σ)
def Kf(X:Cx)(op:Operator)(rd:V->V->Hp->VK->Prop):Prop:=
 ∀(pins:List (OW×Obj))(s:O0)(σ:St)(H:Hp)(x y:V)(u v:OX)(Q:VK),Inv X pins σ H s->Vo x u->Vo y v->rd x y H Q->wpAny (Pb X.prog X.w) X.A (Va op u v) (EP X pins σ Q) X.xe s
def Gr(K:OZ)(ta tv:TE)(rd:V->V->Hp->VK->Prop)(f:Str):TS:=λD σ H=>ta σ H λx H1=>∃a C dx fs v,x=.ref a/\H1 a=Ve (.ins C dx fs)/\Cls K C/\aJ K C f/\fs.lookup f=Ve v/\
 tv σ H1 λy H2=>rd v y H2 λz H3=>∃dx' fs',H3 a=Ve (.ins C dx' fs')/\fs'.length<1000/\D.nx σ (upd H3 a (.ins C dx' (eF f z fs')))
section
variable{X:Cx}{o e value:Expr}{f:Str}{pos pos' tpos:Pos}{ta tv:TE}
theorem aI(he:PE X e ta)(hb:P4 e f X.env (PD e X.env)=PD e X.env):PE X (.Attribute e f pos) (LQ X.K ta f):=by
 intro pins s σ H Q I h;refine FN hb (thn (he pins s σ H _ I h) λu s1 ⟨x,H1,I1,rx,a,C,dx,fs,v,ex,ea,c,n,l,q⟩=>?_);subst ex;obtain rfl:u=O8 a:=rx;exact tV I1 ea c n l λu' s2 I2 ru=>⟨v,H1,I2,ru,q⟩
theorem aY(ha:PE X o ta)(hv:PE X value tv)(hs:SH value (Ve (.Attribute o f pos')) pos.line X.env=pure false):PS X (.Assign [.Attribute o f pos'] value pos) (Mb X.K ta tv f):=by
 intro pins s σ H D I h;refine plainObj_wpAny_Assign_Attribute (thn (hv pins s σ H _ I h) λu s1 ⟨y,H1,I1,ry,q⟩=>thn (ha pins s1 σ H1 _ I1 q) λov s2 ⟨x,H2,I2,rx,a,C,dx,fs,ex,ea,c,n,l,q2⟩=>?_) hs;subst ex;obtain rfl:ov=O8 a:=rx;exact sr I2 ea c n l ry λs3 I3=>⟨σ,_,I3,q2⟩
theorem BO(ha:PE X o ta)(hv:PE X value tv)(hop:Kf X op rd):PS X (.AugAssign (.Attribute o f tpos) op value pos) (Gr X.K ta tv rd f):=by
 intro pins s σ H D I h;refine wpAny_AugAssign_AttributeAny (thn (ha pins s σ H _ I h) λov s1 ⟨x,H1,I1,rx,a,C,dx,fs,v,ex,ea,c,n,l,q⟩=>?_);subst ex;obtain rfl:ov=O8 a:=rx;refine tV I1 ea c n l λu s2 I2 ru=>thn (hv pins s2 σ H1 _ I2 q) λw3 s3 ⟨y,H2,I3,ry,q3⟩=>thn (hop pins s3 σ H2 v y u w3 _ I3 ru ry q3) λw4 s4 ⟨z,H3,I4,rz,dx',fs',ea',l',q4⟩=>?_;exact sr I4 ea' c n l' rz λs5 I5=>⟨σ,_,I5,q4⟩
def LO:V->V->Hp->VK->Prop:=λx y H Q=>∃i j,x=.int i/\y=.int j/\Q (.int (i+j)) H
theorem Js:Kf X .Add LO:=by
 rintro pins s σ H x y u v Q I rx ry ⟨i,j,rfl,rfl,q⟩;obtain⟨t,rfl⟩:=(show ∃t,u=Q4 i t from rx);obtain⟨t',rfl⟩:=(show ∃t',v=Q4 j t' from ry);exact PyProof.Rows.iadd_int ⟨.int (i+j),H,I.tok _,⟨_,rfl⟩,q⟩
end
section
variable{X:Cx}{pins:List (OW×Obj)}{σ:St}{H:Hp}{s:O0}{A:Py}{E:OX->O0->Prop}{Q:OX->O0->Prop}{c:OX}{b:Bool}
inductive lU(K:OZ)(H:Hp):V->OX->Prop where
 |non:lU K H .non (.type "NoneType")
 |bl (x:Bool):lU K H (.bl x) (.type "bool")
 |int (i:Int):lU K H (.int i) (.type "int")
 |str (x:Str):lU K H (.str x) (.type "str")
 |flt (x:UInt64):lU K H (.flt x) (.type "float")
 |lst {a:OW}{xs:List V} (e:H a=Ve (.lst xs)):lU K H (.ref a) (.type "list")
 |frz {a:OW}{o:Obj}{xs:List V} (e:H a=Ve (.frz o (.lst xs))):lU K H (.ref a) (.type "list")
 |tup {a:OW}{xs:List V} (e:H a=Ve (.tup xs)):lU K H (.ref a) (.type "tuple")
 |dK {a:OW}{kvs:List (Key×V)} (e:H a=Ve (.dK kvs)):lU K H (.ref a) (.type "dict")
 |dT {a:OW}{kvs:List (List Key×V)} (e:H a=Ve (.dT kvs)):lU K H (.ref a) (.type "dict")
 |ins {a C dx:OW}{fs:List (Str×V)} (e:H a=Ve (.ins C dx fs)) (cl:Cls K C) (ha:PQ K (.ref C) "__class__"=Ve (Ve (.builtin "object.__class__")))
   (hn:QD K (.builtin "object.__class__") "__get__"=Ve (Ve (.builtin "getset_descriptor.__get__"))) (htk:Uo K (.builtin "object.__class__")=Ve true)
   (hm:Vd K C (.type "object")=Ve true):lU K H (.ref a) (.ref C)
theorem BW(I:Inv X pins σ H s)(rx:Vo x u)(ty:lU X.K H x t)(e:PL X.K t c=Ve b)(h:∀tk,Q (.bool b) { s with toks:=tk }) :
  wpAny (Pb X.prog X.w) A (call (.builtin "isinstance") [u,c]) Q E s:=by
 cases ty with
 |non=>cases (show u=S4 from rx);exact Qi W.kitx_none I.kIn MO e (λz=>nomatch z) h
 |bl y=>cases (show u=RP y from rx);exact Qi W.kitx_bool I.kIn MO e (λz=>nomatch z) h
 |int i=>obtain⟨t,q⟩:=(show ∃t,u=Q4 i t from rx);cases q;exact Qi W.kitx_int I.kIn MO e (λz=>nomatch z) h
 |str y=>obtain⟨t,q⟩:=(show ∃t,u=SG y t from rx);cases q;exact Qi W.kitx_str I.kIn MO e (λz=>nomatch z) h
 |flt y=>obtain⟨t,q⟩:=(show ∃t,u=Uy y t from rx);cases q;exact Qi W.kitx_float I.kIn MO e (λz=>nomatch z) h
 |@lst a xs ea=>
  cases (show u=O8 a from rx)
  obtain⟨_,_,n,_,h1⟩:=(show dH X.prog X.w H s.heap a (.lst xs)from I.hok a _ ea)
  exact Qi W.kitx_list I.kIn ⟨_,h1,rfl⟩ e (λz=>nomatch z) h
 |@frz a ob xs ea=>
  cases (show u=O8 a from rx)
  obtain⟨_,_,_,n,_,h1⟩:=(show dH X.prog X.w H s.heap a (.frz ob (.lst xs))from I.hok a _ ea)
  exact Qi W.kitx_list I.kIn ⟨_,h1,rfl⟩ e (λz=>nomatch z) h
 |@tup a xs ea=>
  cases (show u=O8 a from rx)
  obtain⟨_,_,_,p⟩:=(show dH X.prog X.w H s.heap a (.tup xs)from I.hok a _ ea)
  obtain⟨o,h1,h2,_⟩:=p
  exact Qi W.kitx_tuple I.kIn ⟨o,h1,h2⟩ e (λz=>nomatch z) h
 |@dK a kvs ea=>
  cases (show u=O8 a from rx)
  obtain⟨_,_,vs,_,p⟩:=(show dH X.prog X.w H s.heap a (.dK kvs)from I.hok a _ ea)
  obtain⟨o,es,ep,h1,h2,_⟩:=p
  exact Qi W.kitx_dict I.kIn ⟨o,h1,h2.1⟩ e (λz=>nomatch z) h
 |@dT a kvs ea=>
  cases (show u=O8 a from rx)
  obtain⟨_,_,xs,_,o,es,ep,h1,h2,_⟩:=(show dH X.prog X.w H s.heap a (.dT kvs)from I.hok a _ ea)
  exact Qi W.kitx_dict I.kIn ⟨o,h1,h2.1⟩ e (λz=>nomatch z) h
 |@ins a C dx fs ea cl ha hn htk hm=>
  cases (show u=O8 a from rx)
  obtain⟨mA,O,_⟩:=rD I.hok ea
  obtain⟨od,J,_⟩:=O.look
  exact Qi (W.kitx_own (cl.get _) cl.hd ha hn htk hm) I.kIn J e (λz=>nomatch z) h
end
structure ft(k:Nat)(A:Py):Prop where
 hd:A.handled=Vf
 dp:A.depth+3*k+5<UT
 un:A.units+16*k+200<P9
theorem ft.mono(r:ft k A)(h:j<=k):ft j A:=⟨r.hd,by have:=r.dp;omega,by have:=r.un;omega⟩
theorem ft.deeper(r:ft (k+1) A)(env:Env):ft k (A.deeper env):=
 ⟨r.hd,by have:=r.dp;show A.depth+1+3*k+5<_;omega,by have:=r.un;show A.units+3+16*k+200<_;omega⟩
theorem zK{A:Py}{C:OW}{us:List OX}{kw:List (Str×OX)}:(A.under (.builtin "type.__call__" ⟨.ref C::us,kw⟩)).depth=A.depth+1:=by
 first|rfl|simp[TM,Code.weight,Code.isCreation,Code.isGuard,Code.isCaller,Code.frames,TN,guardIds]
theorem Ad{A:Py}{C:OW}{us:List OX}{kw:List (Str×OX)}:(A.under (.builtin "type.__call__" ⟨.ref C::us,kw⟩)).units=A.units+1:=by
 first|rfl|simp[TM,Code.cUnits,Code.frames,TN]
theorem ft.make(r:ft (k+1) A)(C:OW)(us:List OX)(kw:List (Str×OX)):ft k (A.under (.builtin "type.__call__" ⟨.ref C::us,kw⟩)):=
 ⟨r.hd,by have:=r.dp;rw[zK];omega,by have:=r.un;rw[Ad];omega⟩
theorem ft.depth(r:ft k A):A.depth<UT:=by have:=r.dp;omega
theorem ft.units(r:ft k A):A.units+64<P9:=by have:=r.un;omega
def Gu:TA:=λ_ H Q=>Q [] H
def Gy(ta:TE)(tr:TA):TA:=λσ H Q=>ta σ H λx H1=>tr σ H1 λxs H2=>Q (x::xs) H2
section
variable{X:Cx}{e:Expr}{es:List Expr}{te:TE}{t:TA}{pos:Pos}
theorem af:PA X [] Gu:=λ_ _ _ _ H Q I h=>TQ ⟨[],H,I,.nil,h⟩
theorem aa(ha:PE X e te)(hr:PA X es t)(hs:O5 (e::es) X.env=(false,PD e X.env)::O5 es X.env:=by rfl):PA X (e::es) (Gy te t):=by
 intro pos pins s σ H Q I h;rw[hs];show wpAny _ _ (spliced ((false,PD e X.env)::PR pos (O5 es X.env))) _ _ s;refine S7 (thn (ha pins s σ H _ I h) λu s1 ⟨x,H1,I1,r1,q1⟩=>?_);exact thn (hr pos pins s1 σ H1 _ I1 q1) λus s2 ⟨xs,H2,I2,r2,q2⟩=>⟨x::xs,H2,I2,.cons r1 r2,q2⟩
def LS(t:TA):TE:=λσ H Q=>t σ H λxs H1=>xs.length<=sizeLine/\∀p,H1 p=Vf->Q (.ref p) (upd H1 p (.tup xs))
def Lp(t:TA):TE:=λσ H Q=>t σ H λxs H1=>xs.length<=sizeLine/\∀p,H1 p=Vf->Q (.ref p) (upd H1 p (.lst xs))
theorem bf{x1}(h:PA X es t):PE X (.Tuple es x1 pos) (LS t):=by
 intro pins s σ H Q I hq;refine wpAny_Tuple_spliced (thn (h pos pins s σ H _ I hq) λus s1 ⟨xs,H1,I1,r,z,q⟩=>⟨by rw[<-r.length];exact z,?_⟩);have hf:H1 s1.heap.objs.size=Vf:=I1.hok.fresh (Mo _);refine⟨.ref s1.heap.objs.size,upd H1 s1.heap.objs.size (.tup xs),I1.laid (t':=s1.toks) (λb u e=>O2 _ e) (Mo _) ?_,rfl,q _ hf⟩;exact⟨z,us,r,⟨_,Pe _ rfl,rfl,_,rfl⟩⟩
theorem bI(h:PA X es t):PE X (.List es pos) (Lp t):=by
 intro pins s σ H Q I hq;refine wpAny_List_spliced (thn (h pos pins s σ H _ I hq) λus s1 ⟨xs,H1,I1,r,z,q⟩=>⟨by rw[<-r.length];exact z,?_⟩);have hf:H1 s1.heap.objs.size=Vf:=I1.hok.fresh (Mo _);refine⟨.ref s1.heap.objs.size,upd H1 s1.heap.objs.size (.lst xs),I1.laid (t':=s1.toks) (λb u e=>O2 _ e) (Mo _) ?_,rfl,q _ hf⟩;exact⟨z,us,0,r,Pe _ rfl⟩
end
abbrev Sp:=List V->Hp->VK->XK->Prop
abbrev CXT:=List Env->Hp->O0->XK->OX->O0->Prop
structure zN(P:Program)(w:O7)(K:OZ)(mg:Str->Option OX)(base:Pk)(A:Py)(outer:List Env)(s:O0)(H:Hp):Prop where
 frames:A.frames=Ve outer
 mod:Mod K mg base
 bs:∀b o,base.get? b=Ve o->s.heap.get? b=Ve o/\H b=Vf
 bsz:base.objs.size<=s.heap.objs.size
 qL:s.heap.FunFrames base outer
 frf:∀b∈frs outer,H b=Vf
 hok:HOk P w H s.heap
 bare:Ru s.gens
def CE(outer:List Env)(P:Program)(w:O7)(H:Hp)(s:O0)(Q:VK)(u:OX)(s':O0):Prop:=
 ∃v H',s'.os=s.os/\Ru s'.gens/\Un (frs outer) [] H H' s.heap s'.heap/\HOk P w H' s'.heap/\Vo v u/\Q v H'
def CR(CX:CXT)(outer:List Env)(P:Program)(w:O7)(H:Hp)(s:O0)(Q:VK)(E:XK)(r:Result)(s':O0):Prop:=
 match r with
 | .ok (.ret u)=>CE outer P w H s Q u s'
 | .ok _=>False
 | .error e=>CX outer H s E e s'
structure kX(P:Program)(w:O7)(K:OZ)(mg:Str->Option OX)(base:Pk)(CX:CXT)(k:Nat)(f:OW)(fd:Qa)(ps:List Str)(sp:Sp):Prop where
 len:∀vs H Q E,sp vs H Q E->vs.length=ps.length
 run:∀(A:Py)(outer:List Env)(s:O0)(H:Hp)(args:Args)(us:List OX)(vs:List V)(Q:VK)(E:XK),ft k A->zN P w K mg base A outer s H->SK s fd args (ps.zip us)->Vn vs us->sp vs H Q E->
  codeAny (Pb P w) A (.call (.ref f) args) (CR CX outer P w H s Q E) s
theorem kX.imp{P:Program}{w:O7}{K:OZ}{mg:Str->Option OX}{base:Pk}{CX:CXT}{k:Nat}{f:OW}{fd:Qa}{ps:List Str}{sp sp':Sp}(F:kX P w K mg base CX k f fd ps sp)
  (h:∀vs H Q E,sp' vs H Q E->sp vs H Q E):kX P w K mg base CX k f fd ps sp':=
 ⟨λvs H Q E q=>F.len vs H Q E (h _ _ _ _ q),λA outer s H args us vs Q E hr he hb hv hs=>F.run A outer s H args us vs Q E hr he hb hv (h _ _ _ _ hs)⟩
theorem zN.make{P:Program}{w:O7}{K:OZ}{mg:Str->Option OX}{base:Pk}{A:Py}{outer:List Env}{s:O0}{H:Hp}(e:zN P w K mg base A outer s H)(C:OW)(us:List OX)(kw:List (Str×OX)) :
  zN P w K mg base (A.under (.builtin "type.__call__" ⟨.ref C::us,kw⟩)) outer s H:=⟨by first|exact e.frames|(simpa [TM,Code.envs,TN,pushEnvs] using e.frames),e.mod,e.bs,e.bsz,e.qL,e.frf,e.hok,e.bare⟩
section
variable{X:Cx}{pins:List (OW×Obj)}{σ:St}{H:Hp}{s s':O0}
theorem Inv.FZ(I:Inv X pins σ H s):zN X.prog X.w X.K X.mg X.base X.A X.stack s H:=
 ⟨I.ok.frames,I.ok.mod,I.bs,MC I.ok.bsz I.sz,I.stack,I.Aw,I.hok,I.bare⟩
theorem Inv.after(I:Inv X pins σ H s)(h:CE X.stack X.prog X.w H s Q u s'):EP X pins σ Q u s':=by
 obtain⟨v,H',os,bare,un,hok,r,q⟩:=h;obtain⟨hh,g,d,t,os'⟩:=s';obtain rfl:os'=s.os:=os;exact⟨v,H',I.call (h':=hh) (g':=g) (d':=d) (t':=t) (ch:=[]) un hok bare (λb z=>absurd z (by simp)),r,q⟩
end
def Dv(sp:Sp)(dvs:List V)(E:XK)(t:TA):TE:=λσ H Q=>t σ H λvs H1=>sp (vs++dvs) H1 Q E
inductive Lg(C:OW)(m:Str)(x:V)(H:Hp)(R:Prop):Prop
 |mk(a dx:OW)(fs:List (Str×V))(h0:x=.ref a)(h1:H a=Ve (.ins C dx fs))(h2:fs.lookup m=Vf)(q:R):Lg C m x H R
def GF(C:OW)(m:Str)(sp:Sp)(dvs:List V)(E:XK)(ta:TE)(t:TA):TE:=λσ H Q=>ta σ H λx H1=>Lg C m x H1 (t σ H1 λvs H2=>sp (x::(vs++dvs)) H2 Q E)
def Bi(C:OW)(sp:Sp)(dvs:List V)(E:XK)(t:TA):TE:=λσ H Q=>t σ H λvs H1=>∀x dx,H1 x=Vf->H1 dx=Vf->dx≠x->
 sp (.ref x::(vs++dvs)) (upd (upd H1 dx (.own x)) x (.ins C dx [])) (λv H2=>v=.non/\Q (.ref x) H2) E
def Vr(K:OZ)(fd:Qa)(ps:List Str)(ds:List OX):Prop:=
 ∀(s:O0)(us:List OX),K.In s.heap->(us++ds).length=ps.length->SK s fd ⟨us,[]⟩ (ps.zip (us++ds))
theorem Vr.all{K:OZ}{fd:Qa}{ps:List Str}(h:∀us:List OX,us.length=ps.length->Sr fd ⟨us,[]⟩=pure (ps.zip us)):Vr K fd ps []:=λs us _ hl=>by
 rw[MR]at hl⊢;exact .of_eq (h us hl)
def Vt(CX:CXT)(X:Cx)(E:XK):Prop:=∀(pins:List (OW×Obj))(σ:St)(H:Hp)(s:O0)(e:OX)(s':O0),Inv X pins σ H s->CX X.stack H s E e s'->X.xe e s'
section
variable{X:Cx}{CX:CXT}{k:Nat}{f C:OW}{fd:Qa}{ps:List Str}{sp:Sp}{dvs:List V}{ds:List OX}{E:XK}{x m:Str}{p pos apos:Pos}{e o:Expr}{es:List Expr}{ta:TE}{t:TA}
theorem zS(F:kX X.prog X.w X.K X.mg X.base CX k f fd ps sp)(hr:ft k X.A)(hb:Vr X.K fd ps ds)(hd:Vn dvs ds)(hx:Vt CX X E)
  (I:Inv X pins σ H s) (r:Vn vs us) (h:sp (vs++dvs) H Q E):wpAny (Pb X.prog X.w) X.A (call (.ref f) us) (EP X pins σ Q) X.xe s:=by
 have r2:Vn (vs++dvs) (us++ds):=r.append hd
 have hl:(us++ds).length=ps.length:=by rw[<-r2.length];exact F.len _ _ _ _ h
 refine wpAny_call (RW (F.run X.A X.stack s H ⟨us,[]⟩ (us++ds) (vs++dvs) Q E hr I.FZ (hb s us I.kIn hl) r2 h) λr s' hq=>?_)
 cases r with
 |error e=>exact hx pins σ H s e s' I hq
 |ok fl=>
  cases fl with
  |ret u=>exact I.after hq
  |next=>exact PY hq
  |brk=>exact PY hq
  |cont=>exact PY hq
theorem FJ(F:kX X.prog X.w X.K X.mg X.base CX k f fd ps sp)(hr:ft k X.A)(hg:Gl X x)(hm:X.mg x=Ve (.ref f))(hk:Qy X.K (.ref f)=true)(hb:Vr X.K fd ps ds)(hd:Vn dvs ds)(hx:Vt CX X E)
  (ha:PA X (e::es) t) (hdb:(x==("__debug__":Str))=false:=by decide) (he:O5 (e::es) X.env=(false,PD e X.env)::O5 es X.env:=by rfl) (hpl:(PR pos (O5 es X.env)).any (·.1)=false:=by rfl) :
  PE X (.Call (.Name x p) (e::es) [] pos) (Dv sp dvs E t):=by
 intro pins s σ H Q I h
 refine Qh (pe I hg hm ?_ hdb)
 refine TU (h₀:=X.base) I.ok.mod.kin hk (thn (ha pos pins s σ H _ I h) λus s1 ⟨vs,H1,I1,r,q⟩=>⟨I1.kIn,?_⟩) he hpl
 exact zS F hr hb hd hx I1 r q
theorem Fp(he:PE X o ta)(c:Cls X.K C)(hm:VL X.K C m f)(F:kX X.prog X.w X.K X.mg X.base CX k f fd ps sp)(hr:ft k X.A)(hb:Vr X.K fd ps ds)(hd:Vn dvs ds)(hx:Vt CX X E)(ha:PA X (e::es) t)
  (hst:O5 (e::es) X.env=(false,PD e X.env)::O5 es X.env:=by rfl) (hpl:(PR pos (O5 es X.env)).any (·.1)=false:=by rfl)
  (ht:PD (.Call (.Attribute o m apos) (e::es) [] pos) X.env=(do
   let ov<-PD o X.env
   TK apos.atName
   let (f,first)<-QA [ov] (SJ ov m pl)
   callWith pos f first (PR pos (O5 (e::es) X.env)) (Rh pos (Qq [] X.env))):=by rfl) :
  PE X (.Call (.Attribute o m apos) (e::es) [] pos) (GF C m sp dvs E ta t):=by
 intro pins s σ H Q I h
 refine W.methodCall_KW (pl:=pl) (thn (he pins s σ H _ I h) λu s1 ⟨x,H1,I1,rx,a,dx,fs,ex,ea,l,q⟩=>?_) ht
 subst ex
 obtain rfl:u=O8 a:=rx
 refine zV I1 ea c hm l ?_
 refine TU (first:=[.ref a]) (h₀:=X.base) I.ok.mod.kin hm.kp (thn (ha pos pins s1 σ H1 _ I1 q) λus s2 ⟨vs,H2,I2,r,q2⟩=>⟨I2.kIn,?_⟩) hst hpl
 exact zS (us:=.ref a::us) (vs:=.ref a::vs) F hr hb hd hx I2 (.cons rfl r) q2
structure Mk(K:OZ)(C f:OW):Prop where
 makes:Um K C=true
 init:PQ K (.ref C) "__init__"=Ve (Ve (.ref f))
 fn:Vc K (.ref f)=true
 kp:Qy K (.ref C)=true
theorem yy(M:Mk X.K C f)(F:kX X.prog X.w X.K X.mg X.base CX k f fd ps sp)(hr:ft (k+1) X.A)(hb:Vr X.K fd ps ds)(hd:Vn dvs ds)
  (hx:Vt CX X E) (I:Inv X pins σ H s) (r:Vn vs us)
  (h:∀x dx,H x=Vf->H dx=Vf->dx≠x->sp (.ref x::(vs++dvs)) (upd (upd H dx (.own x)) x (.ins C dx [])) (λv H2=>v=.non/\Q (.ref x) H2) E) :
  wpAny (Pb X.prog X.w) X.A (call (.ref C) us) (EP X pins σ Q) X.xe s:=by
 have hq:=h (s.heap.objs.size+1) s.heap.objs.size (I.hok.fresh (NZ _)) (I.hok.fresh (Mo _)) (MU (NJ _))
 have I2:=Inv.made (C:=C) I
 have r2:Vn (V.ref (s.heap.objs.size+1)::(vs++dvs)) (O8 (s.heap.objs.size+1)::(us++ds)):=.cons rfl (r.append hd)
 have hl:(O8 (s.heap.objs.size+1)::us++ds).length=ps.length:=by
  have e:=r2.length;rw[F.len _ _ _ _ hq]at e;exact e.symm
 refine wpAny_call (Eg (f:=f) I.kIn M.makes M.init (beq_iff_eq.mp M.fn) (RW (F.run _ X.stack _ _ ⟨O8 (s.heap.objs.size+1)::us,[]⟩ (O8 (s.heap.objs.size+1)::(us++ds)) _ _ E (hr.make C us [])
  (I2.FZ.make C us []) (hb _ (O8 (s.heap.objs.size+1)::us) I2.kIn hl) r2 hq) λr s' hq'=>?_))
 cases r with
 |error e=>exact hx pins σ _ _ e s' I2 hq'
 |ok fl=>
  cases fl with
  |ret u=>
   obtain⟨v,H',I3,rv,ev,q3⟩:=I2.after hq'
   subst ev
   exact⟨rv,⟨V.ref (s.heap.objs.size+1),H',I3,rfl,q3⟩⟩
  |next=>exact PY hq'
  |brk=>exact PY hq'
  |cont=>exact PY hq'
theorem Fi(M:Mk X.K C f)(F:kX X.prog X.w X.K X.mg X.base CX k f fd ps sp)(hr:ft (k+1) X.A)(hg:Gl X x)(hm:X.mg x=Ve (.ref C))(hb:Vr X.K fd ps ds)(hd:Vn dvs ds)(hx:Vt CX X E)
  (ha:PA X (e::es) t) (hdb:(x==("__debug__":Str))=false:=by decide) (he:O5 (e::es) X.env=(false,PD e X.env)::O5 es X.env:=by rfl) (hpl:(PR pos (O5 es X.env)).any (·.1)=false:=by rfl) :
  PE X (.Call (.Name x p) (e::es) [] pos) (Bi C sp dvs E t):=by
 intro pins s σ H Q I h
 refine Qh (pe I hg hm ?_ hdb)
 refine TU (h₀:=X.base) I.ok.mod.kin M.kp (thn (ha pos pins s σ H _ I h) λus s1 ⟨vs,H1,I1,r,q⟩=>⟨I1.kIn,?_⟩) he hpl
 exact yy M F hr hb hd hx I1 r q
theorem DN(M:Mk X.K C f)(F:kX X.prog X.w X.K X.mg X.base CX k f fd ps sp)(hr:ft (k+1) X.A)(hg:Gl X x)(hm:X.mg x=Ve (.ref C))(hb:Vr X.K fd ps ds)(hd:Vn dvs ds)(hx:Vt CX X E)
  (hdb:(x==("__debug__":Str))=false:=by decide):PE X (.Call (.Name x p) [] [] pos) (Bi C sp dvs E Gu):=by
 intro pins s σ H Q I h
 refine Qh (pe I hg hm ?_ hdb)
 exact W.callWith_K0 I.kIn M.kp (yy (us:=[]) M F hr hb hd hx I .nil h)
end
section
variable{X:Cx}{CX:CXT}{k:Nat}{f C:OW}{fd:Qa}{ps ks:List Str}{sp:Sp}{E:XK}{x m:Str}{p pos apos kpos:Pos}{e o:Expr}{es:List Expr}{kws:List QS}{te ta:TE}{t tk:TA}{nm:Option Str}
structure KBinds(K:OZ)(fd:Qa)(ps ks:List Str)(g:List OX->List OX->List OX)(gV:List V->List V->List V):Prop where
 to:∀(s:O0)(us ws:List OX),K.In s.heap->(g us ws).length=ps.length->SK s fd ⟨us,ks.zip ws⟩ (ps.zip (g us ws))
 rel:∀{vs:List V}{us:List OX}{zs:List V}{ws:List OX},Vn vs us->Vn zs ws->Vn (gV vs zs) (g us ws)
variable{g:List OX->List OX->List OX}{gV:List V->List V->List V}
end
structure az(N P:List Str)(sc:Q8):Prop where
 kind:sc.kind=.function
 co:sc.isCoroutine=false
 gen:sc.isGenerator=false
 nd:N.Nodup
 pre:N.take P.length=P
 par:∀x∈P,sc.names.lookup x=Ve .local\/sc.names.lookup x=Ve .cell
 Jr:∀y∈sc.names,y.2≠ .free
theorem uV{kindOf:Str->Option Qc}:∀{binds:List (Str×OX)}{m:Str->Option OX},(∀v,(x,v)∉binds)->UU kindOf binds m x=m x
 | [],_,_=>rfl
 | (n,v)::r,m,h=>by
  unfold UU;rw[uV λw hw=>h w (Mi _ hw)];split
  ·have:x≠n:=by rintro rfl;exact h v Mg
   simp[this]
  rfl
theorem uF{kindOf:Str->Option Qc}:∀{binds:List (Str×OX)}{m:Str->Option OX},(∀v,(x,v)∉binds)->UW kindOf binds m x=m x
 | [],_,_=>rfl
 | (n,v)::r,m,h=>by
  unfold UW;rw[uF λw hw=>h w (Mi _ hw)];split
  ·rfl
  have:x≠n:=by rintro rfl;exact h v Mg
  simp[this]
theorem u5{kindOf:Str->Option Qc}:∀{P:List Str}{vs:List OX}{i:Nat}{m:Str->Option OX},P.Nodup->P[i]?=Ve x->vs[i]?=Ve v->kindOf x=Ve .local->
  UU kindOf (P.zip vs) m x=Ve v
 | [],_,_,_,_,h,_,_=>by simp at h
 |_::_,[],_,_,_,_,h,_=>by simp at h
 |p::P,w::vs,0,m,nd,h1,h2,hk=>by
  simp at h1 h2;subst h1;subst h2;show UU kindOf ((p,w)::P.zip vs) m p=_;unfold UU;rw[uV λv hv=>(Mx.mp nd).1 (OL hv).1,if_pos hk];simp
 |p::P,w::vs,i+1,m,nd,h1,h2,hk=>by
  show UU kindOf ((p,w)::P.zip vs) m x=_;unfold UU;exact u5 (i:=i) (Mx.mp nd).2 (by simpa using h1) (by simpa using h2) hk
theorem uI{kindOf:Str->Option Qc}:∀{P:List Str}{vs:List OX}{i:Nat}{m:Str->Option OX},P.Nodup->P[i]?=Ve x->vs[i]?=Ve v->kindOf x≠Ve .local->
  UW kindOf (P.zip vs) m x=Ve v
 | [],_,_,_,_,h,_,_=>by simp at h
 |_::_,[],_,_,_,_,h,_=>by simp at h
 |p::P,w::vs,0,m,nd,h1,h2,hk=>by
  simp at h1 h2;subst h1;subst h2;show UW kindOf ((p,w)::P.zip vs) m p=_;unfold UW;rw[uF λv hv=>(Mx.mp nd).1 (OL hv).1,if_neg hk];simp
 |p::P,w::vs,i+1,m,nd,h1,h2,hk=>by
  show UW kindOf ((p,w)::P.zip vs) m x=_;unfold UW;exact uI (i:=i) (Mx.mp nd).2 (by simpa using h1) (by simpa using h2) hk
noncomputable def Vv(N:List Str)(vs:List V):St:=vs.map Ve++Pd (N.length-vs.length) Vf
noncomputable def y9(CX:CXT)(P:Program)(w:O7)(K:OZ)(mg:Str->Option OX)(base:Pk)(N:List Str)(qual:Str)(scope:Q8)(f:OW)(cd:OX)(A:Py)(outer:List Env)(s:O0)(H:Hp)(E:XK):Cx where
 prog:=P
 w:=w
 K:=K
 mg:=mg
 base:=base
 A:=A.deeper (QX qual scope s.heap.objs.size f cd)
 N:=N
 s₀:=s
 H₀:=H
 env:=QX qual scope s.heap.objs.size f cd
 outer:=outer
 stack:=QX qual scope s.heap.objs.size f cd::outer
 ex:=[]
 calm:=true
 fn:=λ_=>true
 pn:=[]
 xe:=λe s'=>wpAny (Pb P w) (A.deeper (QX qual scope s.heap.objs.size f cd)) (leaving (QX qual scope s.heap.objs.size f cd) e) (λ_ s''=>CX outer H s E e s'') (λe' s''=>CX outer H s E e' s'') s'
theorem xQ{sc:Q8}{n:Nat}{x:Str}(h:sc.names.lookup x=Ve .cell):∃c,(Pz n sc.names []).lookup x=Ve c:=by
 have q:=QO sc.names n [] (.inl h);exact Od.mp q
theorem Cz{CX:CXT}{P:Program}{w:O7}{K:OZ}{mg:Str->Option OX}{base:Pk}{N ps:List Str}{qual:Str}{scope:Q8}{f:OW}{cd:OX}{A:Py}{outer:List Env}{s s1:O0}{H:Hp}{E:XK}{us:List OX}{vs:List V}
  (S:az N ps scope) (hd:A.handled=Vf) (e0:zN P w K mg base A outer s H) (hl:vs.length=ps.length) (r:Vn vs us)
  (x:InCallC s s.heap.objs.size (UU (QX qual scope s.heap.objs.size f cd).kindOf (ps.zip us) λ_=>Vf) (Pz (s.heap.objs.size+1) scope.names []) (UW (QX qual scope s.heap.objs.size f cd).kindOf (ps.zip us) λ_=>Vf) s1) :
  Inv (y9 CX P w K mg base N qual scope f cd A outer s H E) [] (Vv N vs) H s1:=by
 have hpl:ps.length<=N.length:=by have:=congrArg UC S.pre;rw[Nb]at this;omega
 obtain⟨h1,tk,rfl,hk⟩:=x.done
 have noA:∀b:OW,b∉(y9 CX P w K mg base N qual scope f cd A outer s H E).ex:=λb z=>absurd (show b∈([]:List OW)from z) (by simp)
 refine⟨⟨e0.mod,S.kind,rfl,rfl,Mo _,λy z c h1 h2=>?_,λy hy=>?_,λy c _ h=>?_,λ_=>hd,Around.frames_deeper e0.frames,.inr ⟨rfl,rfl⟩,λb z=>absurd z (noA b),e0.bs,e0.bsz,λb _ _=>noA b,λb z=>absurd z (noA b),e0.qL,e0.frf⟩,
  rfl,e0.bare,Un.kept hk,⟨_,x.toInCall.ns,λi y v h1 h2 h3=>?_⟩,λy c h=>⟨_,x.cell y c h⟩,e0.hok.fresh (Mo _),λy c h=>?_,λp hp=>absurd (show p∈([]:List (OW×Obj))from hp) (by simp),e0.hok.kept hk,?_⟩
 ·exact name_of_addr x.apart (Ph h1) (Ph h2)
 ·have hy:scope.names.lookup y=Ve .cell\/scope.names.lookup y=Ve .free:=hy;rcases hy with hy|hy
  ·exact xQ hy
  exact absurd rfl (S.Jr _ (Ph hy))
 ·exact OJ (x.above y c (Ph h))
 ·have hi:i<vs.length:=by
   unfold Vv at h2;by_cases hi:i<vs.length
   ·exact hi
   rw[Nt (by simpa using hi)]at h2;rw[RI]at h2;split at h2<;>cases h2
  have ha:vs[i]?=Ve v:=by
   unfold Vv at h2;rw[Nn (by simpa using hi),Mu]at h2;cases e:vs[i]? with
   |none=>rw[e]at h2;cases h2
   |some a=>rw[e]at h2;cases h2;rfl
  obtain⟨u,hu,rv⟩:=r.get ha;have hp:ps[i]?=Ve y:=by
   rw[<-S.pre,Rz (by omega)];exact h1
  have ndP:ps.Nodup:=by rw[<-S.pre];exact S.nd.sublist (List.take_sublist _ _)
  refine⟨u,rv,?_⟩;rcases S.par y (Mr hp)with k|k
  ·exact .inl ⟨k,u5 ndP hp hu k⟩
  obtain⟨c,e⟩:=xQ (n:=s.heap.objs.size+1) k;refine .inr ⟨.inl k,c,e,?_⟩;have q:=x.cell y c e;rw[uI ndP hp hu (by show scope.names.lookup y≠_;rw[k];decide)]at q;exact q
 ·exact e0.hok.fresh (OJ (x.above y c (Ph h)))
 unfold Vv
 show _=N.length
 rw[Mn,Mj,Nz]
 omega
theorem Kb{CX:CXT}{P:Program}{w:O7}{K:OZ}{mg:Str->Option OX}{base:Pk}{k:Nat}{f:OW}{name qual:Str}{params:Arguments}{body:List Pj}{scope:Q8}{dV kV doc pm cdv ct oc:OX}{an od:Option OW}
  {osl:Array (Option OX)}{N ps:List Str}{sp:Sp} (lk:K.lookup f=Ve ⟨oc,od,.func (QF name qual params body scope dV kV doc pm an cdv ct),osl⟩) (hcd:Ss K cdv qual=true) (S:az N ps scope)
  (len:∀vs H Q E,sp vs H Q E->vs.length=ps.length)
  (hbody:∀(A:Py)(outer:List Env)(s:O0)(H:Hp)(vs:List V)(Q:VK)(E:XK),ft k (A.deeper (QX qual scope s.heap.objs.size f cdv))->sp vs H Q E->
   ∃t,PSs (y9 CX P w K mg base N qual scope f cdv A outer s H E) body t/\t { nx:=λ_ H'=>Q .non H',rt:=Q } (Vv N vs) H) :
  kX P w K mg base CX (k+1) f (QF name qual params body scope dV kV doc pm an cdv ct) ps sp:=by
 refine⟨len,λA outer s H args us vs Q E hr e0 hb r hsp=>?_⟩
 have hl:=len _ _ _ _ hsp
 have KX:K.In s.heap:=e0.mod.kin.keeps λb o e=>(e0.bs b o e).1
 have lim:s.heap.NoLimit:=e0.mod.nolimit.keeps λb o e=>(e0.bs b o e).1
 have hkind:∀y∈ps.zip us,scope.names.lookup y.1=Ve .local\/(scope.names.lookup y.1=Ve .cell/\((Pz (s.heap.objs.size+1) scope.names []).lookup y.1).isSome=true):=λ⟨n,v⟩ hy=>by
  rcases S.par n (OL hy).1 with q|q
  ·exact .inl q
  exact .inr ⟨q,QO _ _ _ (.inl q)⟩
 refine codeAny_call_function hr.depth (KX _ _ lk) rfl S.co S.gen rfl (W.codeRec_of KX hcd) (hb _ _ _ _ ?_)
 refine wpAny_newFunctionEnv_cells S.kind hkind λenv he s1 x=>?_
 subst he
 refine⟨lim.keeps x.toInCall.keep,codeAny_func ?_⟩
 obtain⟨t,ht,hq⟩:=hbody A outer s H vs Q E (hr.deeper _) hsp
 have I:Inv (y9 CX P w K mg base N qual scope f cdv A outer s H E) [] (Vv N vs) H s1:=Cz S hr.hd e0 hl r x
 refine P5 (ht [] s1 (Vv N vs) H _ I hq) (λfl s' hs=>?_) λe s' hs=>hs
 have fin:∀{σ':St}{H':Hp}{v:V}{u:OX},Inv (y9 CX P w K mg base N qual scope f cdv A outer s H E) [] σ' H' s'->Vo v u->Q v H'->CE outer P w H s Q u s':=
  λ{σ' H' v u} J rv q=>⟨v,H',J.os,J.bare,J.base,J.hok,rv,q⟩
 cases fl with
 |ret u=>
  obtain⟨v,σ',H',J,rv,q⟩:=hs
  exact fin J rv q
 |next=>
  obtain⟨σ',H',J,q⟩:=hs
  exact fin (v:=V.non) (u:=S4) J rfl q
 |brk=>
  obtain⟨_,_,_,q⟩:=hs
  exact PY q
 |cont=>
  obtain⟨_,_,_,q⟩:=hs
  exact PY q
section
variable{X:Cx}{x:Str}{p pos:Pos}{e:Expr}{es:List Expr}{t:TA}{id T:String}{r:List V->Hp->VK->Prop}
def tCB(r:List V->Hp->VK->Prop)(t:TA):TE:=λσ H Q=>t σ H λvs H1=>r vs H1 Q
theorem Dg(hc:dR X (.builtin id) r)(hg:Gl X x)(hm:X.mg x=Vf)(hv:P1 x=Ve (.builtin id))(ha:PA X (e::es) t)(hn:x≠"__name__":=by decide)(hdb:(x==("__debug__":Str))=false:=by decide)
  (he:O5 (e::es) X.env=(false,PD e X.env)::O5 es X.env:=by rfl) (hpl:(PR pos (O5 es X.env)).any (·.1)=false:=by rfl):PE X (.Call (.Name x p) (e::es) [] pos) (tCB r t):=by
 intro pins s σ H Q I h
 refine Qh (pW I hg hm hv ?_ hn hdb)
 exact PyProof.Rows.callWith_builtin1 (thn (ha pos pins s σ H _ I h) λus s1 ⟨vs,H1,I1,r1,q1⟩=>hc pins s1 σ H1 vs us Q I1 r1 q1) he hpl
theorem Cg(hc:dR X (.type T) r)(hg:Gl X x)(hm:X.mg x=Vf)(hv:P1 x=Ve (.type T))(ha:PA X (e::es) t)(hn:x≠"__name__":=by decide)(hdb:(x==("__debug__":Str))=false:=by decide)
  (he:O5 (e::es) X.env=(false,PD e X.env)::O5 es X.env:=by rfl) (hpl:(PR pos (O5 es X.env)).any (·.1)=false:=by rfl):PE X (.Call (.Name x p) (e::es) [] pos) (tCB r t):=by
 intro pins s σ H Q I h
 refine Qh (pW I hg hm hv ?_ hn hdb)
 exact P2 (thn (ha pos pins s σ H _ I h) λus s1 ⟨vs,H1,I1,r1,q1⟩=>hc pins s1 σ H1 vs us Q I1 r1 q1) he hpl
end
end L2
namespace HT
open PySem PyProof.Rows
section
open PySem.SeqAt
open PySem.AutoSeq1 (wpAny_loadPart')
open PySem.MeetsSeq PySem.MeetsSeq2 PySem.MeetsSeq3
end
section
variable{prog:Program}{w:O7}{A:Py}{E:OX->O0->Prop}{s:O0}
theorem F1(ht:IsTup s.heap t vs.toArray)(hb:IsTup s.heap b ws.toArray)(hv:vs≠[])
  (h1:ws=[]->Q (.ref t) s) (h2:ws≠[]->Q (.ref s.heap.objs.size) { s with heap:=s.heap.push { cls:=.type "tuple",data:=.seq (vs++ws).toArray } })
  (hsz:vs.length+ws.length<=sizeLine):wpAny (Pb prog w) A (PK .Add (.ref t) (.ref b)) Q E s:=by
 obtain⟨⟨cls,dd,data,sl⟩,ho,hc,n,hd⟩:=id ht
 obtain⟨⟨cls2,dd2,data2,sl2⟩,ho2,hc2,n2,hd2⟩:=id hb
 simp only at hc hd hc2 hd2
 subst hc hd hc2 hd2
 have e:vs.toArray++ws.toArray=(vs++ws).toArray:=by simp
 by_cases hw:ws=[]
 ·exact concat_meets ⟨_,ho,rfl⟩ ⟨_,ho2,rfl⟩ Up seq_tuple_add RX RJ (RA _ _)
   (tuple_addW1 t b vs.toArray ws.toArray n n2 dd dd2 sl sl2 (by simpa using hv) (by simp[hw])) ⟨ho,ho2,h1 hw⟩
 refine concat_meets ⟨_,ho,rfl⟩ ⟨_,ho2,rfl⟩ Up seq_tuple_add RX RJ (RA _ _)
  (tuple_addW2 t b vs.toArray ws.toArray n n2 dd dd2 sl sl2 (by simpa using hv) (by simpa using hw) (by rw[My,My];exact hsz)) ⟨ho,ho2,?_⟩
 rw[e]
 exact h2 hw
noncomputable def sIx(n d:Nat):Option Int->Nat
 |none=>d
 |some v=>if v<0 then(v+(n:Int)).toNat else min v.toNat n
theorem qZ(n d k:Nat):sIx n d (Ve (k:Int))=min k n:=by
 show(if(k:Int)<0 then((k:Int)+(n:Int)).toNat else min (k:Int).toNat n)=min k n;rw[if_neg (by omega),Nq]
theorem JA(n d:Nat)(hd:d<=n)(o:Option Int):sIx n d o<=n:=by
 cases o with
 |none=>exact hd
 |some v=>
  show(if v<0 then(v+(n:Int)).toNat else min v.toNat n)<=n;by_cases hv:v<0
  ·rw[if_pos hv];omega
  rw[if_neg hv];exact Nat.min_le_right _ _
theorem Bq(v:Int)(n d:Nat):(if v<0 then max (v+(n:Int)) 0 else min v (n:Int))=((sIx n d (Ve v):Nat):Int):=by
 show(if v<0 then max (v+(n:Int)) 0 else min v (n:Int))=(((if v<0 then(v+(n:Int)).toNat else min v.toNat n):Nat):Int);by_cases hv:v<0
 ·simp only[if_pos hv];omega
 simp only[if_neg hv];omega
theorem zt(lo hi:Option Int)(n:Nat):Qv lo hi 1 (n:Int)=(((sIx n 0 lo:Nat):Int),((sIx n n hi:Nat):Int)):=by
 have h1:¬ ((1:Int)<0):=by omega
 unfold Qv;simp only[h1,if_false];refine Q6 ?_ ?_
 ·cases lo with
  |none=>rfl
  |some v=>exact Bq v n 0
 cases hi with
 |none=>rfl
 |some v=>exact Bq v n n
theorem zc(i j:Nat):P7 (i:Int) (j:Int) 1=j-i:=by
 unfold P7;have h1:(1:Int)>0:=by omega
 simp only[h1,if_true,Int.ediv_one];split<;>omega
theorem tU(p:S9 v o)(h:Q o s):wpAny (Pb prog w) A (Builtin.Slice.slicePartIndex v) Q E s:=by
 cases p with
 |none=>exact UX h
 |int i t=>exact slicePart_int h
theorem qb{sl:OW}{vl vu:OX}{lo hi:Option Int}{n:Nat}{Q:Int×Int×Nat->O0->Prop}(hs:s.heap.IsSliceOf sl vl vu .none)(pl:S9 vl lo)(pu:S9 vu hi)
  (h:Q (((sIx n 0 lo:Nat):Int),1,sIx n n hi-sIx n 0 lo) s):wpAny (Pb prog w) A (Ri (.ref sl) (pure (n:Int))) Q E s:=by
 obtain⟨os,hos,hcs,hds⟩:=id hs
 unfold Ri Builtin.Slice.sliceFields
 refine OY (OY (UD hos hds (x:=vl) rfl (OY (UD hos hds (x:=vu) rfl (OY (UD hos hds (x:=.none) rfl (O4 ?_)))))))
 refine OY (UX ?_)
 show wpAny _ _ (if((1:Int)==0)=true then _ else _) _ _ s
 rw[if_neg (by decide)]
 refine OY (tU pl (OY (tU pu (OY (O4 ?_)))))
 show wpAny _ _ (match Qv lo hi 1 (n:Int)with|(lo,hi)=>pure (lo,(1:Int),P7 lo hi 1)) _ _ s
 rw[zt lo hi n]
 show wpAny _ _ (pure (((sIx n 0 lo:Nat):Int),(1:Int),P7 ((sIx n 0 lo:Nat):Int) ((sIx n n hi:Nat):Int) 1)) _ _ s
 rw[zc]
 exact O4 h
theorem EK(xs:Array OX)(i k:Nat):((Pc k).filterMap λ(m:Nat)=>xs[((i:Int)+(m:Int)*1).toNat]?).toArray=((xs.toList.drop i).take k).toArray:=by
 have e:(λ(m:Nat)=>xs[((i:Int)+(m:Int)*1).toNat]?)=λm=>xs[i+m]?:=by
  funext m
  have:((i:Int)+(m:Int)*1).toNat=i+m:=by omega
  rw[this]
 rw[e];have:=pick_run xs i k;rw[List.filterMap_map]at this;have e2:((λx=>xs[x]?)∘λx=>i+x)=λm=>xs[i+m]?:=rfl;rw[e2]at this;rw[this]
theorem pG{t sl:OW}{items:Array OX}{vl vu:OX}{lo hi:Option Int}{Q:OX->O0->Prop}(ht:IsTup s.heap t items)(hs:s.heap.IsSliceOf sl vl vu .none)(pl:S9 vl lo)(pu:S9 vu hi)
  (hw:¬ (sIx items.size 0 lo=0/\sIx items.size items.size hi=items.size))
  (h:Q (.ref s.heap.objs.size) { s with heap:=s.heap.push { cls:=.type "tuple",data:=.seq ((items.toList.drop (sIx items.size 0 lo)).take (sIx items.size items.size hi-sIx items.size 0 lo)).toArray } })
  (hsz:items.size<=sizeLine):wpAny (Pb prog w) A (SM (.ref t) (.ref sl)) Q E s:=by
 have htake:sizeOk (.seq ((items.toList.drop (sIx items.size 0 lo)).take (sIx items.size items.size hi-sIx items.size 0 lo)).toArray):=by
  show((items.toList.drop (sIx items.size 0 lo)).take (sIx items.size items.size hi-sIx items.size 0 lo)).toArray.size<=sizeLine;rw[My,Nb,NK,OC];omega
 have hj:sIx items.size items.size hi<=items.size:=JA _ _ (Mo _) hi
 obtain⟨os,hos,hcs,hds⟩:=id hs
 have hTs:s.TypeIs (.ref sl) "slice":=⟨os,hos,hcs⟩
 unfold SM
 try with_reducible refine wpAny_holding ?_
 first|refine OY (O4 ?_)|skip
 refine OY (wpAny_sequenceKey ht.typeIs (by decide) ?_)
 refine OY (wpAny_callSpecial?_slot (name:=Str.ofString "__getitem__") ht.typeIs QJ
  (QP QJ ht.typeIs entry_tuple_getitem ?_ (args_tuple_getitem _ _)))
 show wpAny _ _ (Builtin.Tuple.tupleItemsOf (.ref t)>>=_) _ _ s
 refine OY (tupleItemsOf_ ht ?_)
 refine OY (TV hTs ?_)
 rw[if_pos (by decide)]
 refine OY (qb hs pl pu ?_)
 have hno:¬ ((((sIx items.size 0 lo:Nat):Int)==0&&(1:Int)==1&&(sIx items.size items.size hi-sIx items.size 0 lo)==items.size)=true):=by
  intro q;rw[NB,NB]at q;have q1:((sIx items.size 0 lo:Nat):Int)=0:=eq_of_beq q.1.1;have q2:sIx items.size items.size hi-sIx items.size 0 lo=items.size:=eq_of_beq q.2;exact hw ⟨by omega,by omega⟩
 show wpAny _ _ (if(((sIx items.size 0 lo:Nat):Int)==0&&(1:Int)==1&&(sIx items.size items.size hi-sIx items.size 0 lo)==items.size)=true then _ else _) _ _ s
 rw[if_neg hno,EK]
 first
  |exact OY (m:=Qb _) (Ql (O4 ⟨_,rfl,O4 h⟩) htake)
  |exact OY (m:=Qb _) (Ql (OY (O4 (O4 ⟨_,rfl,O4 h⟩))) htake)
  |exact OY (OY (m:=Qb _) (Ql (O4 (O4 ⟨_,rfl,O4 h⟩)) htake))
  |exact OY (OY (m:=Qb _) (Ql (O4 ⟨_,rfl,O4 h⟩) htake))
end
end HT
namespace L2
open PySem PySem.Spec PyProof.Rows
abbrev TO:=St->Hp->(Option Int->Hp->Prop)->Prop
def PO(X:Cx)(e:Option Expr)(t:TO):Prop:=
 ∀(pins:List (OW×Obj))(s:O0)(σ:St)(H:Hp)(Q:Option Int->Hp->Prop),Inv X pins σ H s->t σ H Q->
  wpAny (Pb X.prog X.w) X.A (evalPart e X.env) (λu s'=>∃o H',Inv X pins σ H' s'/\S9 u o/\Q o H') X.xe s
def Fm:TO:=λ_ H Q=>Q Vf H
inductive Lf(x:V)(H:Hp)(Q:Option Int->Hp->Prop):Prop
 |mk(i:Int)(h:x=.int i)(q:Q (Ve i) H):Lf x H Q
def KJ(t:TE):TO:=λσ H Q=>t σ H λx H1=>Lf x H1 Q
theorem Vx:∀{us:List OX},Vn (ns.map V.int) us->TX us ns:=by
 induction ns with
 |nil=>intro us r;rw[Ot]at r;cases r;exact .nil
 |cons n ns ih=>
  intro us r;rw[Mv]at r;cases r with
  |cons r1 r2=>
   obtain⟨t,e⟩:=r1;subst e;exact .cons n t (ih r2)
section
variable{X:Cx}{e:Expr}{te:TE}{lo hi:Option Expr}{tl th:TO}{pos p2:Pos}
theorem gH:PO X Vf Fm:=by
 intro pins s σ H Q I h;rw[evalPart_none];exact O4 ⟨Vf,H,I,.none,h⟩
theorem bH(h:PE X e te):PO X (Ve e) (KJ te):=by
 intro pins s σ H Q I hw;rw[evalPart_some];refine thn (h pins s σ H _ I hw) λu s1 ⟨x,H1,I1,r1,q1⟩=>?_;obtain⟨i,rfl,q⟩:=q1;obtain⟨t,rfl⟩:=r1;exact⟨Ve i,H1,I1,.int i t,q⟩
def SlR(X:Cx)(r:V->Option Int->Option Int->Hp->VK->Prop):Prop:=
 ∀(pins:List (OW×Obj))(s:O0)(σ:St)(H:Hp)(x:V)(v vl vu:OX)(lo hi:Option Int)(sl:OW)(Q:VK),Inv X pins σ H s->Vo x v->s.heap.IsSliceOf sl vl vu .none->S9 vl lo->S9 vu hi->r x lo hi H Q->
  ∃T id,typeLookup (.type T) "__getitem__"=pure (Ve (.builtin id))/\s.TypeIs v T/\wpAny (Pb X.prog X.w) X.A (SM v (.ref sl)) (EP X pins σ Q) X.xe s
theorem SlR.or(h:SlR X r)(h':SlR X r'):SlR X (λx lo hi H Q=>r x lo hi H Q\/r' x lo hi H Q):=by
 intro pins s σ H x v vl vu lo hi sl Q I rx hs pl pu q;rcases q with q|q
 ·exact h pins s σ H x v vl vu lo hi sl Q I rx hs pl pu q
 exact h' pins s σ H x v vl vu lo hi sl Q I rx hs pl pu q
def tSl(r:V->Option Int->Option Int->Hp->VK->Prop)(te:TE)(tl th:TO):TE:=λσ H Q=>te σ H λx H1=>tl σ H1 λl H2=>th σ H2 λu H3=>r x l u H3 Q
theorem cw(hr:SlR X r)(he:PE X e te)(hl:PO X lo tl)(hu:PO X hi th):PE X (.Subscript e (.Slice lo hi Vf p2) pos) (tSl r te tl th):=by
 intro pins s σ H Q I h;refine Subscript_ (thn (he pins s σ H _ I h) λv s1 ⟨x,H1,I1,r1,q1⟩=>?_);refine wpAny_Slice (thn (hl pins s1 σ H1 _ I1 q1) λvl s2 ⟨l,H2,I2,pl,q2⟩=>thn (hu pins s2 σ H2 _ I2 q2) λvu s3 ⟨u,H3,I3,pu,q3⟩=>?_);rw[evalPart_none];refine O4 ?_;have I4:Inv X pins σ H3 { s3 with heap:=s3.heap.push { cls:=.type "slice",data:=.fields #[vl,vu,.none] } }:=I3.kept (t':=s3.toks) λb ob q=>O2 _ q;obtain⟨T,id,hT,ht,hg⟩:=hr pins { s3 with heap:=s3.heap.push { cls:=.type "slice",data:=.fields #[vl,vu,.none] } } σ H3 x v vl vu l u s3.heap.objs.size Q I4 r1 (Heap.IsSliceOf.new ..) pl pu q3;show wpAny (Pb X.prog X.w) X.A (S1 e (.Slice lo hi Vf p2) v (.ref s3.heap.objs.size)) (EP X pins σ Q) X.xe { s3 with heap:=s3.heap.push { cls:=.type "slice",data:=.fields #[vl,vu,.none] } };exact tail_any (ops:=[.ref s3.heap.objs.size,v]) ht hT hg (by with_unfolding_all rfl)
noncomputable def hE(xs:List V)(lo hi:Option Int):List V:=(xs.drop (HT.sIx xs.length 0 lo)).take (HT.sIx xs.length xs.length hi-HT.sIx xs.length 0 lo)
theorem qE(xs:List V)(lo hi:Option Int):(hE xs lo hi).length<=xs.length:=by
 unfold hE;rw[Nb,NK];omega
def HX(K:OZ):V->Option Int->Option Int->Hp->VK->Prop:=λx lo hi H Q=>∃a xs,x=.ref a/\SqT K H a xs/\
 ¬ (HT.sIx xs.length 0 lo=0/\HT.sIx xs.length xs.length hi=xs.length)/\∀p,H p=Vf->Q (.ref p) (upd H p (.tup (hE xs lo hi)))
theorem Jx:SlR X (HX X.K):=by
 intro pins s σ H x v vl vu lo hi sl Q I rx hs pl pu h;obtain⟨a,xs,rfl,hx,hw,q⟩:=h;cases rx;obtain⟨its,r,ht,hz⟩:=I.tuple hx;have hlen:its.toArray.size=xs.length:=by rw[My];exact r.length.symm
 refine⟨"tuple",_,PyProof.Rows.slot_tuple_getitem.lookup,ht.typeIs,?_⟩;refine HT.pG ht hs pl pu (by rw[hlen];exact hw) ?_ (by rw[hlen];exact hz);rw[hlen];refine⟨.ref s.heap.objs.size,_,I.laid (t':=s.toks) (o:=.tup (hE xs lo hi)) (λb ob q=>O2 _ q) (Mo _) ?_,rfl,q _ (I.hok.fresh (Mo _))⟩;exact⟨MC (qE xs lo hi) hz,_,(r.drop (HT.sIx xs.length 0 lo)).take (HT.sIx xs.length xs.length hi-HT.sIx xs.length 0 lo),IsTup.new _ _⟩
def JC(K:OZ):R2:=λx y H Q=>∃a b xs ys,x=.ref a/\y=.ref b/\SqT K H a xs/\SqT K H b ys/\xs≠[]/\xs.length+ys.length<=sizeLine/\
 (ys=[]->Q (.ref a) H)/\(ys≠[]->∀p,H p=Vf->Q (.ref p) (upd H p (.tup (xs++ys))))
theorem Vn.vU(r:Vn xs us):us=[]↔xs=[]:=by
 cases r with
 |nil=>simp
 |cons _ _=>simp
theorem wG:OpR X (PK .Add) (JC X.K):=by
 intro pins s σ H x y v u Q I rx ry h;obtain⟨a,b,xs,ys,rfl,rfl,ha,hb,hx,hz,q1,q2⟩:=h;cases rx;cases ry;obtain⟨its,r1,p1,_⟩:=I.tuple ha;obtain⟨its2,r2,p2,_⟩:=I.tuple hb;refine HT.F1 p1 p2 (λz=>hx (r1.vU.mp z)) (λz=>⟨.ref a,H,I,rfl,q1 (r2.vU.mp z)⟩) (λz=>?_) (by rw[<-r1.length,<-r2.length];exact hz);refine⟨.ref s.heap.objs.size,_,I.laid (t':=s.toks) (o:=.tup (xs++ys)) (λb ob q=>O2 _ q) (Mo _) ?_,rfl,q2 (λw=>z (r2.vU.mpr w)) _ (I.hok.fresh (Mo _))⟩;exact⟨by rw[Mn];exact hz,_,r1.append r2,IsTup.new _ _⟩
end
noncomputable def ixN(n:Nat)(i:Int):Option Nat:=if 0<=i then(if i<n then Ve i.toNat else Vf)else if -(n:Int)<=i then Ve (i+n).toNat else Vf
noncomputable def atI{α:Type}(xs:List α)(i:Int):Option α:=(ixN xs.length i).bind λj=>xs[j]?
theorem Az(h:ixN n i=Ve j):seqIndex? i n=Ve j/\j<n/\-(n:Int)<=i/\i<n:=by
 unfold ixN at h;by_cases h0:0<=i
 ·rw[if_pos h0]at h;by_cases h1:i<n
  ·rw[if_pos h1]at h;have e:i.toNat=j:=O1 h;exact⟨by rw[UE h0 h1,e],by omega,by omega,h1⟩
  rw[if_neg h1]at h;cases h
 rw[if_neg h0]at h;by_cases h1:-(n:Int)<=i
 ·rw[if_pos h1]at h;have e:(i+n).toNat=j:=O1 h;exact⟨by rw[TY (by omega) h1,e],by omega,h1,by omega⟩
 rw[if_neg h1]at h;cases h
theorem xc(h:atI xs i=Ve v):∃j,seqIndex? i xs.length=Ve j/\xs[j]?=Ve v/\j<xs.length/\-(xs.length:Int)<=i/\i<xs.length:=by
 unfold atI at h;cases e:ixN xs.length i with
 |none=>rw[e]at h;cases h
 |some j=>
  rw[e]at h;obtain⟨h1,h2,h3,h4⟩:=Az e;exact⟨j,h1,h,h2,h3,h4⟩
theorem dA{α:Type}{xs:List α}{j:Nat}{v:α}(h:xs[j]?=Ve v):atI xs (j:Int)=Ve v:=by
 have hj:j<xs.length:=(Ml.mp h).1;have e:ixN xs.length (j:Int)=Ve j:=by
  unfold ixN;rw[if_pos (by omega),if_pos (by omega)];simp
 unfold atI;rw[e];exact h
theorem sN{α:Type}(xs:List α)(v:α):atI (xs++[v]) (-1)=Ve v:=by
 have hl:(xs++[v]).length=xs.length+1:=by simp
 have e:ixN (xs++[v]).length (-1)=Ve xs.length:=by
  unfold ixN;rw[hl,if_neg (by decide),if_pos (by omega)];congr 1;omega
 unfold atI;rw[e];show(xs++[v])[xs.length]?=Ve v;simp
def Bu(b:Expr):Prop:=∀o i,subscripted b false o i=operate [o,i] (SM o i)
def IxR(X:Cx)(r:R2):Prop:=
 ∀(value slice:Expr)(pins:List (OW×Obj))(s:O0)(σ:St)(H:Hp)(x y:V)(v u:OX)(Q:VK),Inv X pins σ H s->Vo x v->Vo y u->r x y H Q->
  subscripted slice false v u=operate [v,u] (SM v u)->wpAny (Pb X.prog X.w) X.A (S1 value slice v u) (EP X pins σ Q) X.xe s
def MtR(X:Cx)(id:String)(r:V->List V->Hp->VK->Prop):Prop:=
 ∀(pins:List (OW×Obj))(s:O0)(σ:St)(H:Hp)(x:V)(xs:List V)(v:OX)(us:List OX)(Q:VK),Inv X pins σ H s->Vo x v->Vn xs us->r x xs H Q->
  wpAny (Pb X.prog X.w) X.A (call (.builtin id) (v::us)) (EP X pins σ Q) X.xe s
section
variable{X:Cx}{a b:Expr}{ta tb:TE}{pos:Pos}
theorem Le(hr:IxR X r)(ha:PE X a ta)(hb:PE X b tb)(hs:Bu b):PE X (.Subscript a b pos) (tOp r ta tb):=by
 intro pins s σ H Q I h;exact Subscript_ (Iv ha hb I h λv u s2 x y H2 I2 rx ry q=>hr a b pins s2 σ H2 x y v u Q I2 rx ry q (hs _ _))
def Me(K:OZ):R2:=λx y H Q=>∃p xs i v,x=.ref p/\y=.int i/\SqL K H p xs/\atI xs i=Ve v/\Q v H
def Lu(K:OZ):R2:=λx y H Q=>∃p xs i v,x=.ref p/\y=.int i/\SqT K H p xs/\atI xs i=Ve v/\Q v H
def LP:R2:=λx y H Q=>∃z i c,x=.str z/\y=.int i/\z.length<=sizeLine/\atI z.cps.toList i=Ve c/\Q (.str ⟨#[c]⟩) H
theorem FX:IxR X (Me X.K):=by
 intro value slice pins s σ H x y v u Q I rx ry h hs;obtain⟨p,xs,i,z,rfl,rfl,hq,he,q⟩:=h;cases rx;obtain⟨t,rfl⟩:=ry;obtain⟨its,r,pl,hz⟩:=I.list hq;obtain⟨j,h1,h2,h3,h4,h5⟩:=xc he;obtain⟨w,ew,rw'⟩:=r.get h2;have hl:=r.length;have hn:=pU;have fin:EP X pins σ Q w s:=⟨z,H,I,rw',q⟩;by_cases h0:0<=i
 ·have hj:i.toNat=j:=by
   rw[UE h0 h5]at h1;exact O1 h1
  exact item_listR pl.isList h0 (by omega) (by rw[hj];simpa using ew) fin hs
 have hj:(i+(its.toArray.size:Int)).toNat=j:=by
  rw[TY (by omega) h4]at h1;rw[My,<-hl];exact O1 h1
 exact RY (x:=w) pl.isList.typeIs slot_list_getitem.lookup
  (wpAny_getItem_list_neg (Q:=λr s'=>r=w/\EP X pins σ Q r s') pl.isList (by omega) (by rw[My]<;>omega) (by omega) (by rw[hj];simpa using ew) ⟨rfl,fin⟩) hs
theorem HQ:IxR X (Lu X.K):=by
 intro value slice pins s σ H x y v u Q I rx ry h hs;obtain⟨p,xs,i,z,rfl,rfl,hq,he,q⟩:=h;cases rx;obtain⟨t,rfl⟩:=ry;obtain⟨its,r,pl,hz⟩:=I.tuple hq;obtain⟨j,h1,h2,h3,h4,h5⟩:=xc he;obtain⟨w,ew,rw'⟩:=r.get h2;have hl:=r.length;have hn:=pU;have fin:EP X pins σ Q w s:=⟨z,H,I,rw',q⟩;exact RY (x:=w) pl.typeIs slot_tuple_getitem.lookup
  (getItem_tuple (j:=j) (Q:=λr s'=>r=w/\EP X pins σ Q r s') pl (by omega) (by omega) (by rw[My,<-hl];exact h1) (by simpa using ew) ⟨rfl,fin⟩) hs
theorem JB:IxR X LP:=by
 intro value slice pins s σ H x y v u Q I rx ry h hs;obtain⟨z,i,c,rfl,rfl,hz,he,q⟩:=h;obtain⟨t,rfl⟩:=rx;obtain⟨t',rfl⟩:=ry;obtain⟨j,h1,h2,h3,h4,h5⟩:=xc he;have hl:z.cps.toList.length=z.length:=by simp[Str.length]
 rw[hl]at h1 h4 h5;have hn:=pU;exact tail_any (Ta s z t) slot_str_getitem.lookup (getItem_str (c:=c) (by
  have e1:decide (i< -(2^63:Int))=false:=decide_eq_false (by omega);have e2:decide (i ≥ 2^63)=false:=decide_eq_false (by omega);rw[e1,e2,Bool.or_false]) (by rw[h1];simpa using h2) ⟨.str ⟨#[c]⟩,H,I.tok _,⟨_,rfl⟩,q⟩) hs
theorem Ah(its:List OX)(n j:Nat)(u:OX):RZ (·.setIfInBounds j u) { cls:=.type "list",data:=.seq its.toArray n }={ cls:=.type "list",data:=.seq (its.set j u).toArray n }:=by
 simp[RZ]
theorem Inv.lst(I:Inv X pins σ H s)(h:H p=Ve (.lst xs)) :
  ∃(its:List OX)(n:Nat),Vn xs its/\s.heap.get? p=Ve { cls:=.type "list",data:=.seq its.toArray n }/\xs.length<=sizeLine:=by
 obtain⟨z,its,n,r,e⟩:=I.hok p _ h
 exact⟨its,n,r,e,z⟩
theorem Inv.Hv{pins:List (OW×Obj)}{σ:St}{H:Hp}{s:O0}{p:OW}{xs ys:List V}{its its':List OX}{n n':Nat}{f:Obj->Obj}(I:Inv X pins σ H s)(h:H p=Ve (.lst xs))
  (ho:s.heap.get? p=Ve { cls:=.type "list",data:=.seq its.toArray n }) (hf:f { cls:=.type "list",data:=.seq its.toArray n }={ cls:=.type "list",data:=.seq its'.toArray n' }) (r:Vn ys its') (hz:ys.length<=sizeLine) (t:Nat) :
  Inv X pins σ (upd H p (.lst ys)) { s with heap:=s.heap.update p f,toks:=t }:=by
 have e:(s.heap.update p f).get? p=Ve { cls:=.type "list",data:=.seq its'.toArray n' }:=by
  rw[Heap.get?_update_self f ho (by rw[hf]<;>rfl),hf]
 refine I.write (x:=p) (e:=p) (by rw[h];trivial) (.inl rfl) (λb u hb q=>(R0 _ _ (Nm hb)).trans q) ⟨_,e⟩ ?_
 exact⟨hz,its',n',r,e⟩
def GD:V->V->V->Hp->(Hp->Prop)->Prop:=λo i v H Q=>∃p xs k j,o=.ref p/\i=.int k/\H p=Ve (.lst xs)/\ixN xs.length k=Ve j/\Q (upd H p (.lst (xs.set j v)))
theorem Vi:DU X GD:=by
 intro pins s σ H o i v ov iv u Q I ro ri rv h;obtain⟨p,xs,k,j,rfl,rfl,hp,hj,q⟩:=h;cases ro;obtain⟨t,rfl⟩:=ri;obtain⟨its,n,r,ho,hz⟩:=I.lst hp;obtain⟨h1,h2,h3,h4⟩:=Az hj;have hl:=r.length;have hn:=pU;have I':Inv X pins σ (upd H p (.lst (xs.set j v))) { s with heap:=s.heap.update p (RZ (·.setIfInBounds j u)) }:=
  I.Hv hp ho (Ah its n j u) (r.set rv j) (by rw[UH];exact hz) s.toks
 by_cases h0:0<=k
 ·have hk:k.toNat=j:=by
   rw[UE h0 h4]at h1;exact O1 h1
  exact W.ki_setAt ho h0 (by omega) (by rw[My,<-hl];exact h4) (by rw[hk];exact⟨_,I',q⟩)
 have hk:(k+(its.toArray.size:Int)).toNat=j:=by
  rw[TY (by omega) h3]at h1;rw[My,<-hl];exact O1 h1
 exact W.ki_setBack ho (by omega) (by rw[My,<-hl];exact h3) (by omega) (by rw[hk];exact⟨_,I',q⟩)
theorem wj(lo hi:Option Int)(n:Nat):(QE lo hi Vf n).1=((HT.sIx n 0 lo:Nat):Int)/\(QE lo hi Vf n).2.1=((HT.sIx n n hi:Nat):Int)/\(QE lo hi Vf n).2.2=1:=by
 refine⟨?_,?_,rfl⟩
 ·cases lo with
  |none=>simp[QE,HT.sIx]
  |some i=>
   simp only[QE,HT.sIx,Uq,show(1:Int)>0 by decide,if_true];by_cases h:i<0
   ·simp only[h,if_true]<;>omega
   simp only[h,if_false]<;>omega
 cases hi with
 |none=>simp[QE,HT.sIx]
 |some i=>
  simp only[QE,HT.sIx,Uq,show(1:Int)>0 by decide,if_true];by_cases h:i<0
  ·simp only[h,if_true]<;>omega
  simp only[h,if_false]<;>omega
theorem uC(its:List OX)(lo hi:Option Int):slicePick its.toArray lo hi Vf=((its.drop (HT.sIx its.length 0 lo)).take (HT.sIx its.length its.length hi-HT.sIx its.length 0 lo)).toArray:=by
 obtain⟨h1,h2,h3⟩:=wj lo hi its.toArray.size;unfold slicePick;rw[h1,h2,h3];simp only[sliceRange_one,pick_run,My]<;>rfl
def G9(K:OZ):V->Option Int->Option Int->Hp->VK->Prop:=λx lo hi H Q=>∃a xs,x=.ref a/\SqL K H a xs/\∀p,H p=Vf->Q (.ref p) (upd H p (.lst (hE xs lo hi)))
theorem Fb:SlR X (G9 X.K):=by
 intro pins s σ H x v vl vu lo hi sl Q I rx hs pl pu h;obtain⟨a,xs,rfl,hx,q⟩:=h;cases rx;obtain⟨its,r,ht,hz⟩:=I.list hx;have hlen:=r.length;refine⟨"list",_,slot_list_getitem.lookup,ht.isList.typeIs,?_⟩;refine wpAny_getItem_list_slice ht.isList hs pl pu .none (by simp) ?_ (by rw[My]<;>omega);rw[uC,<-hlen];refine⟨.ref s.heap.objs.size,_,I.laid (t':=s.toks) (o:=.lst (hE xs lo hi)) (λb ob q=>O2 _ q) (Mo _) ?_,rfl,q _ (I.hok.fresh (Mo _))⟩;exact⟨MC (qE xs lo hi) hz,_,0,(r.drop (HT.sIx xs.length 0 lo)).take (HT.sIx xs.length xs.length hi-HT.sIx xs.length 0 lo),Pe _ rfl⟩
def og:V->Bool
 | .non=>true
 | .bl _=>true
 | .int _=>true
 | .str _=>true
 |_=>false
noncomputable def eqV:V->V->Bool
 | .non,.non=>true
 | .bl a,.bl b=>a==b
 | .bl a,.int b=>(if a then 1 else 0)==b
 | .int a,.bl b=>a==(if b then 1 else 0)
 | .int a,.int b=>a==b
 | .str a,.str b=>a==b
 |_,_=>false
theorem IK(ry:Vo y u)(rx:Vo x v)(fy:og y=true)(fx:og x=true):Rk A s u v (eqV y x):=by
 cases y with
 |non=>
  cases ry;cases x with
  |non=>cases rx;exact UI _
  |bl b=>cases rx;exact SeqAt.EqAt.none_bool b
  |int b=>obtain⟨t,rfl⟩:=rx;exact SeqAt.EqAt.none_int b t
  |str b=>obtain⟨t,rfl⟩:=rx;exact SeqAt.EqAt.none_str b t
  |_=>exact absurd (show false=true from fx) Mw
 |bl a=>
  cases ry;cases x with
  |non=>cases rx;exact SeqAt.EqAt.bool_none a
  |bl b=>cases rx;exact SeqAt.EqAt.bool_bool a b
  |int b=>obtain⟨t,rfl⟩:=rx;exact SeqAt.EqAt.bool_int a b t
  |str b=>obtain⟨t,rfl⟩:=rx;exact SeqAt.EqAt.bool_str a b t
  |_=>exact absurd (show false=true from fx) Mw
 |int a=>
  obtain⟨t',rfl⟩:=ry;cases x with
  |non=>cases rx;exact SeqAt.EqAt.int_none a t'
  |bl b=>cases rx;exact SeqAt.EqAt.int_bool a t' b
  |int b=>obtain⟨t,rfl⟩:=rx;exact Rm a t' b t
  |str b=>obtain⟨t,rfl⟩:=rx;exact S2 a t' b t
  |_=>exact absurd (show false=true from fx) Mw
 |str a=>
  obtain⟨t',rfl⟩:=ry;cases x with
  |non=>cases rx;exact SeqAt.EqAt.str_none a t'
  |bl b=>cases rx;exact SeqAt.EqAt.str_bool a t' b
  |int b=>obtain⟨t,rfl⟩:=rx;exact S3 a t' b t
  |str b=>obtain⟨t,rfl⟩:=rx;exact Te a t' b t
  |_=>exact absurd (show false=true from fx) Mw
 |_=>exact absurd (show false=true from fy) Mw
noncomputable def eqU(x:V)(u:OX):Bool:=match u with
 | .none=>eqV .non x
 | .bool b=>eqV (.bl b) x
 | .int i _=>eqV (.int i) x
 | .str z _=>eqV (.str z) x
 |_=>false
theorem Ee(r:Vo y u)(f:og y=true):eqU x u=eqV y x:=by
 cases y with
 |non=>cases r;rfl
 |bl b=>cases r;rfl
 |int i=>obtain⟨t,rfl⟩:=r;rfl
 |str z=>obtain⟨t,rfl⟩:=r;rfl
 |_=>exact absurd (show false=true from f) Mw
theorem xa:∀{xs:List V}{us:List OX},Vn xs us->xs.all og=true->us.any (eqU x)=xs.any λy=>eqV y x
 |_,_,.nil,_=>rfl
 |y::xs,u::us,.cons r t,f=>by
  rw[List.all_cons,NB]at f;rw[NF,NF,Ee r f.1,xa t f.2]
theorem su(rx:Vo x v)(fx:og x=true):∀{xs:List V}{us:List OX},Vn xs us->xs.all og=true->∀u∈us,Rk A s u v (eqU x u)
 |_,_,.nil,_=>λu hu=>by cases hu
 |y::xs,u::us,.cons r t,f=>λu' hu=>by
  rw[List.all_cons,NB]at f;rcases Mf.mp hu with rfl|hu
  ·rw[Ee r f.1];exact IK r rx f.1 fx
  exact su rx fx t f.2 u' hu
noncomputable def inV(x:V)(xs:List V):Bool:=xs.any λy=>eqV y x
def rIn(K:OZ)(neg:Bool):R2:=λx y H Q=>∃p xs,y=.ref p/\(SqL K H p xs\/SqT K H p xs)/\og x=true/\xs.all og=true/\Q (.bl (if neg then !inV x xs else inV x xs)) H
theorem BD:OpR X (Pg .In) (rIn X.K false):=by
 intro pins s σ H x y v u Q I rx ry h;obtain⟨p,xs,rfl,hq,fx,fs,q⟩:=h;cases ry;rcases hq with hq|hq
 ·obtain⟨its,r,pl,hz⟩:=I.list hq;refine SeqAt.in_listAt (eqU x) pl.isList (λw hw=>su rx fx r fs w (by simpa using hw)) ⟨.bl _,H,I,rfl,?_⟩;rw[show its.toArray.any (eqU x)=its.any (eqU x) by simp,xa r fs];exact q
 obtain⟨its,r,pl,hz⟩:=I.tuple hq;refine SeqAt.in_tupleAt (eqU x) pl (λw hw=>su rx fx r fs w (by simpa using hw)) ⟨.bl _,H,I,rfl,?_⟩;rw[show its.toArray.any (eqU x)=its.any (eqU x) by simp,xa r fs];exact q
theorem dR.or(h:dR X f r)(h':dR X f r'):dR X f (λxs H Q=>r xs H Q\/r' xs H Q):=by
 intro pins s σ H xs us Q I rs q;rcases q with q|q
 ·exact h pins s σ H xs us Q I rs q
 exact h' pins s σ H xs us Q I rs q
theorem xi:dR X (.type "list") (λxs H Q=>∃p ys,xs=[.ref p]/\(SqL X.K H p ys\/SqT X.K H p ys)/\∀l,H l=Vf->Q (.ref l) (upd H l (.lst ys))):=by
 intro pins s σ H xs us Q I r h;obtain⟨p,ys,rfl,hq,q⟩:=h;obtain⟨u,rfl,rx⟩:=Vy r;cases rx;have fin:∀(its:List OX),Vn ys its->ys.length<=sizeLine->∀(h':Pk)(c':Nat),(∀b o',s.heap.get? b=Ve o'->h'.get? b=Ve o')->
   h'.get? s.heap.objs.size=Ve { cls:=.type "list",dict:=Vf,data:=.seq its.toArray c',slots:=#[] }->EP X pins σ Q (.ref s.heap.objs.size) { s with heap:=h' }:=λits r' hz h' c' kp e=>
  ⟨.ref s.heap.objs.size,_,I.laid (t':=s.toks) kp (Mo _) (show dH X.prog X.w _ h' _ (.lst ys)from⟨hz,its,c',r',e⟩),rfl,q _ (I.hok.fresh (Mo _))⟩
 rcases hq with hq|hq
 ·obtain⟨its,r',pl,hz⟩:=I.list hq;have hlen:=r'.length;obtain⟨o,ho,hc,n,hd⟩:=pl.isList;exact call_list_seq p (.inl rfl) ho hc hd (λh' c' kp e=>fin its r' hz h' c' kp e) (by simp only[My]<;>omega)
 obtain⟨its,r',pl,hz⟩:=I.tuple hq;have hlen:=r'.length;obtain⟨o,ho,hc,n,hd⟩:=pl;exact call_list_seq p (.inr rfl) ho hc hd (λh' c' kp e=>fin its r' hz h' c' kp e) (by simp only[My]<;>omega)
def tyV(K:OZ)(T:String)(x:V)(H:Hp):Prop:=match x with
 | .str _=>T="str"
 | .int _=>T="int"
 | .ref p=>(T="list"/\∃xs,SqL K H p xs)\/(T="tuple"/\∃o,K.lookup p=Ve o/\o.cls=.type "tuple"/\o.dict=Vf)\/
   (T="dict"/\((∃kvs,H p=Ve (.dK kvs))\/∃kvs,H p=Ve (.dT kvs)))\/(T="set"/\∃S n,H p=Ve (.set S n))
 |_=>False
theorem Ed(I:Inv X pins σ H s)(r:Vo x v)(ty:tyV X.K T x H) :
  s.TypeIs v T/\∀a,v=.ref a->∃ob,s.heap.get? a=Ve ob/\ob.dict=Vf:=by
 cases x with
 |str z=>
  obtain⟨t,rfl⟩:=r
  cases (show T="str" from ty)
  exact⟨Ta s z t,λ_ e=>nomatch e⟩
 |int i=>
  obtain⟨t,rfl⟩:=r
  cases (show T="int" from ty)
  exact⟨UY s i t,λ_ e=>nomatch e⟩
 |ref p=>
  cases r
  rcases ty with⟨rfl,xs,hq⟩|⟨rfl,o,hk,hc,hd⟩|⟨rfl,hk⟩|⟨rfl,S,n,hk⟩
  ·obtain⟨its,_,pl,_⟩:=I.list hq;refine⟨pl.isList.typeIs,λa e=>?_⟩;cases e;obtain⟨o,n,e,c,hd,_⟩:=pl;exact⟨o,e,hd⟩
  ·refine⟨⟨o,I.kIn p o hk,hc⟩,λa e=>?_⟩;cases e;exact⟨o,I.kIn _ o hk,hd⟩
  ·have z:∃o,s.heap.get? p=Ve o/\o.ExactDict:=by
    rcases hk with⟨kvs,hk⟩|⟨kvs,hk⟩
    ·obtain⟨_,_,_,_,o,_,_,e,ex,_⟩:=I.hok p _ hk;exact⟨o,e,ex⟩
    obtain⟨_,_,_,_,o,_,_,e,ex,_⟩:=I.hok p _ hk;exact⟨o,e,ex⟩
   obtain⟨o,e,ex⟩:=z;refine⟨⟨o,e,ex.1⟩,λa e2=>?_⟩;cases e2;exact⟨o,e,ex.2.1⟩
  obtain⟨o,_,_,_,e,ex,_⟩:=I.hok p _ hk
  refine⟨⟨o,e,ex.1⟩,λa e2=>?_⟩
  cases e2
  exact⟨o,e,ex.2.1⟩
 |_=>exact PY ty
def JO(K:OZ)(T:String)(r:V->List V->Hp->VK->Prop)(to:TE):TE:=λσ H Q=>to σ H λx H1=>tyV K T x H1/\r x [] H1 Q
def tBM(K:OZ)(T:String)(r:V->List V->Hp->VK->Prop)(to:TE)(t:TA):TE:=λσ H Q=>to σ H λx H1=>tyV K T x H1/\t σ H1 λxs H2=>r x xs H2 Q
variable{o e:Expr}{es:List Expr}{to:TE}{t:TA}{name:Str}{apos cpos:Pos}{T id:String}{r:V->List V->Hp->VK->Prop}
theorem IL(pa:PlainAttrs T)(slot:Slot T name id)(hty:typeOf (.builtin id)=pure (.type "method_descriptor"))(hm:MtR X id r)(ho:PE X o to)
  (hbase:P4 o name X.env (PD o X.env)=PD o X.env:=by rfl) (hline:(apos.endLine==cpos.line)=true:=by rfl):PE X (.Call (.Attribute o name apos) [] [] cpos) (JO X.K T r to):=by
 intro pins s σ H Q I h
 refine wpAny_Call_method0_late hbase hline (thn (ho pins s σ H _ I h) λv s1 ⟨x,H1,I1,r1,ty,q1⟩=>?_)
 obtain⟨h1,h2⟩:=Ed I1 r1 ty
 exact⟨T,id,pa,slot,hty,h1,h2,QG rfl (PySem.evalArgs_none (hm pins s1 σ H1 x [] v [] Q I1 r1 .nil q1))⟩
theorem GX(pa:PlainAttrs T)(slot:Slot T name id)(hty:typeOf (.builtin id)=pure (.type "method_descriptor"))(hm:MtR X id r)(ho:PE X o to)(ha:PA X (e::es) t)
  (hbase:P4 o name X.env (PD o X.env)=PD o X.env:=by rfl)
  (hfew:((PR cpos (O5 (e::es) X.env)).all (λx=>!x.1)&&(Rh cpos (Qq [] X.env)).all (λx=>x.1.isSome)
   &&decide ((e::es).length+([]:List QS).length+(if([]:List QS).isEmpty then 0 else 1)<30))=true:=by rfl)
  (hline:(apos.endLine==cpos.line)=true:=by rfl) (hs:O5 (e::es) X.env=(false,PD e X.env)::O5 es X.env:=by rfl) (hplain:(PR cpos (O5 es X.env)).any (·.1)=false:=by rfl) :
  PE X (.Call (.Attribute o name apos) (e::es) [] cpos) (tBM X.K T r to t):=by
 intro pins s σ H Q I h
 refine wpAny_Call_method_late hbase hfew hline rfl (thn (ho pins s σ H _ I h) λv s1 ⟨x,H1,I1,r1,ty,q1⟩=>?_)
 obtain⟨h1,h2⟩:=Ed I1 r1 ty
 refine⟨T,id,pa,slot,hty,h1,h2,?_⟩
 have hA:=ha cpos pins s1 σ H1 _ I1 q1
 rw[hs]at hA⊢
 refine QG (by show(false||(PR cpos (O5 es X.env)).any (·.1))=false;rw[hplain]<;>rfl) (Su ?_)
 exact thn hA λus s2 ⟨vs,H2,I2,r2,q2⟩=>hm pins s2 σ H2 x vs v us Q I2 r1 r2 q2
end
def MtM(X:Cx)(id:String)(r:V->List V->Hp->VK->Prop):Prop:=
 ∀(pins:List (OW×Obj))(s:O0)(σ:St)(H:Hp)(x:V)(xs:List V)(v:OX)(us:List OX)(Q:VK),Inv X pins σ H s->Vo x v->Vn xs us->r x xs H Q->
  wpAny (Pb X.prog X.w) X.A (call (.builtin id) (v::us)) (EP X pins σ Q) X.xe s
theorem Vn.one:∀{x:V}{us:List OX},Vn [x] us->∃u,us=[u]/\Vo x u
 |_,_,.cons r .nil=>⟨_,rfl,r⟩
theorem Vn.zero:∀{us:List OX},Vn [] us->us=[]
 |_,.nil=>rfl
theorem Vn.dropLast(h:Vn xs us):Vn xs.dropLast us.dropLast:=by
 induction h with
 |nil=>exact .nil
 |cons r t ih=>
  cases t with
  |nil=>exact .nil
  |cons q t'=>exact .cons r ih
theorem Vn.rep(h:Vn xs us):∀k:Nat,Vn (Pd k xs).flatten (Pd k us).flatten
 |0=>.nil
 |k+1=>by
  rw[MX,MX,NO,NO];exact Vn.append h (Vn.rep h k)
theorem Ab{α:Type}(l:List α):l.eraseIdx (l.length-1)=l.dropLast:=by
 induction l with
 |nil=>rfl
 |cons a r ih=>
  cases r with
  |nil=>rfl
  |cons b r=>
   have e:(a::b::r).length-1=((b::r).length-1)+1:=by
    have h1:(a::b::r).length=r.length+2:=rfl;have h2:(b::r).length=r.length+1:=rfl;omega
   rw[e,List.eraseIdx_cons_succ,ih];all_goals rfl
theorem VA(its:List OX):∀(k:Nat)(acc:List OX),
  UZ (λx1 x2=>x1++x2) acc.toArray (Pd k its.toArray)=(acc++(Pd k its).flatten).toArray
 |0,acc=>by simp
 |k+1,acc=>by
  have e:acc.toArray++its.toArray=(acc++its).toArray:=by simp
  have e2:(acc++its)++(Pd k its).flatten=acc++(Pd (k+1) its).flatten:=by
   rw[MX,NO,MK]
  rw[<-e2,<-VA its k (acc++its),<-e,MX,Ou]
section
variable{X:Cx}{pins:List (OW×Obj)}{σ:St}{H:Hp}{s:O0}{l b:OW}{xs ys zs:List V}
theorem Inv.Ki{its its':List OX}{n:Nat}{f:Array OX->Array OX}{t':Nat}(I:Inv X pins σ H s)(hH:H l=Ve (.lst xs))
  (e:s.heap.get? l=Ve { cls:=.type "list",data:=.seq its.toArray n }) (hf:f its.toArray=its'.toArray) (hv:Vn ys its') (hz:ys.length<=sizeLine) :
  Inv X pins σ (upd H l (.lst ys)) { s with heap:=s.heap.update l (RZ f),toks:=t' }:=by
 have q:=PySem.IsL.update e f
 rw[hf]at q
 refine I.write (x:=l) (e:=l) (by rw[hH];exact trivial) (.inl rfl) (λb' u hb hu=>(R0 s.heap (RZ f) (Nm hb)).trans hu) ⟨_,q⟩ ?_
 exact⟨hz,its',_,hv,q⟩
theorem Inv.HW(I:Inv X pins σ H s)(hv:Vn ys its)(hz:ys.length<=sizeLine) :
  Inv X pins σ (upd H s.heap.objs.size (.lst ys)) { s with heap:=s.heap.push { cls:=.type "list",data:=.seq its.toArray },toks:=t' }:=
 I.laid (λ_ _ q=>O2 _ q) (Mo _) ⟨hz,its,0,hv,Pe _ rfl⟩
theorem Inv.fresh(I:Inv X pins σ H s):H s.heap.objs.size=Vf:=I.hok.fresh (Mo _)
theorem Inv.CN(I:Inv X pins σ H s)(hH:H l=Ve (.lst xs)):xs.length<=sizeLine/\∃(its:List OX)(n:Nat),Vn xs its/\xs.length=its.length/\s.heap.get? l=Ve { cls:=.type "list",data:=.seq its.toArray n }:=by
 obtain⟨z,its,n,r,e⟩:=I.hok l _ hH;exact⟨z,its,n,r,r.length,e⟩
theorem C2(h:n<=sizeLine):Qz n=false:=by
 unfold Qz;exact decide_eq_false (by omega)
end
section
variable{X:Cx}
inductive vG(x:V)(vs:List V)(H:Hp)(Q:VK):Prop
 |mk(l:OW)(xs:List V)(y:V)(h0:x=.ref l)(h1:vs=[y])(h2:H l=Ve (.lst xs))(h3:xs.length<sizeLine)(q:Q .non (upd H l (.lst (xs++[y])))):vG x vs H Q
theorem vt:MtM X "list.append" vG:=by
 intro pins s σ H x vs v us Q I rx rv h;obtain⟨l,xs,y,rfl,rfl,hH,hz,q⟩:=h;cases rx;obtain⟨u,rfl,ru⟩:=rv.one;obtain⟨z,its,n,r,hl,e⟩:=I.CN hH;refine Ro F.slot_list_append ⟨_,e,rfl⟩ F.entry_list_append (F.args_list_append_2 _ _) (PySem.list_append l its.toArray n u (by rw[My];omega)) ⟨e,?_⟩;refine⟨.non,_,I.Ki (its':=its++[u]) hH e (by simp) (r.append (.cons ru .nil)) ?_,rfl,q⟩;rw[Mn,MS];omega
inductive Jv(x:V)(vs:List V)(H:Hp)(Q:VK):Prop
 |mk(l:OW)(xs:List V)(y:V)(h0:x=.ref l)(h1:vs=[])(h2:H l=Ve (.lst xs))(h3:xs[xs.length-1]?=Ve y)(q:Q y (upd H l (.lst xs.dropLast))):Jv x vs H Q
theorem Jh:MtM X "list.pop" Jv:=by
 intro pins s σ H x vs v us Q I rx rv h;obtain⟨l,xs,y,rfl,rfl,hH,hy,q⟩:=h;cases rx;have hus:=rv.zero;subst hus;obtain⟨z,its,n,r,hl,e⟩:=I.CN hH;obtain⟨u,hu,ru⟩:=r.get hy;have hy':its.toArray[its.toArray.size-1]?=Ve u:=by
  show its.toArray[its.length-1]?=Ve u;rw[<-NU,<-hl];exact hu
 refine Ro F.slot_list_pop ⟨_,e,rfl⟩ F.entry_list_pop (F.args_list_pop_1 _) (MeetsSeq.list_pop_last l its.toArray n u hy' (by rw[My];omega)) ⟨e,?_⟩;refine⟨y,_,I.Ki (its':=its.dropLast) hH e ?_ r.dropLast ?_,ru,q⟩
 ·show its.toArray.eraseIdxIfInBounds (its.toArray.size-1)=its.dropLast.toArray;rw[My,List.eraseIdxIfInBounds_toArray,Ab]
 rw[List.length_dropLast];omega
def Ke:R2:=λx y H Q=>∃l b xs zs,x=.ref l/\y=.ref b/\H l=Ve (.lst xs)/\H b=Ve (.lst zs)/\xs.length+zs.length<=sizeLine/\∀p,H p=Vf->Q (.ref p) (upd H p (.lst (xs++zs)))
theorem Ik:OpR X (PK .Add) Ke:=by
 intro pins s σ H x y v u Q I rx ry h;obtain⟨l,b,xs,zs,rfl,rfl,hH,hB,hz,q⟩:=h;cases rx;cases ry;obtain⟨z,its,n,r,hl,e⟩:=I.CN hH;obtain⟨z2,its2,n2,r2,hl2,e2⟩:=I.CN hB;refine PySem.P.add_list e e2 ?_ (by rw[My,My];omega);have ea:its.toArray++its2.toArray=(its++its2).toArray:=by simp
 rw[ea];exact⟨.ref _,_,I.HW (t':=s.toks) (r.append r2) (by rw[Mn];omega),rfl,q _ I.fresh⟩
def Lh:R2:=λx y H Q=>∃l k xs,x=.ref l/\y=.int k/\H l=Ve (.lst xs)/\-(2^63)<=k/\k<2^63/\xs.length*k.toNat<=sizeLine/\
 ∀p,H p=Vf->Q (.ref p) (upd H p (.lst (Pd k.toNat xs).flatten))
theorem len_rep{α:Type}(xs:List α)(k:Nat):(Pd k xs).flatten.length=k*xs.length:=by
 induction k with
 |zero=>simp
 |succ k ih=>rw[MX,NO,Mn,ih,Nat.succ_mul,Nat.add_comm]
theorem Ii:OpR X (PK .Mult) Lh:=by
 intro pins s σ H x y v u Q I rx ry h;obtain⟨l,k,xs,rfl,rfl,hH,h1,h2,hz,q⟩:=h;cases rx;obtain⟨t,rfl⟩:=ry;obtain⟨z,its,n,r,hl,e⟩:=I.CN hH;have hlen:its.toArray.size*k.toNat<=sizeLine:=by rw[My,<-hl];exact hz
 have hcap:¬ its.toArray.size*k.toNat>(2^63-1)/8:=by
  have:(sizeLine:Nat)<=(2^63-1)/8:=by decide
  omega
 have hfit:¬ (!Builtin.List.listFitsIndex k)=true:=by
  rw[fitsIndex_both h1 h2];exact Mw
 have hlong:¬ Qz (its.toArray.size*k.toNat)=true:=by
  rw[C2 hlen];exact Mw
 have hnew:UZ (λx1 x2=>x1++x2) #[] (Pd (if its.toArray.isEmpty=true then 0 else k.toNat) its.toArray)=(Pd k.toNat its).flatten.toArray:=by
  have f0:∀m:Nat,UZ (λx1 x2=>x1++x2) #[] (Pd m its.toArray)=(Pd m its).flatten.toArray:=λm=>by
   have:=VA its m [];rw[UJ]at this;exact this
  rw[f0];cases its with
  |nil=>simp
  |cons a r'=>rw[if_neg (by simp)]
 refine wpAny_binaryOp_repeat_ref (T:="list") (U:="int") (by decide) ⟨_,e,rfl⟩ (λs'=>UY s' k t) noFill_list_mul F.fills_int_mul UK repeat_list F.slot_int_index.lookup
  (Ro UK (UY s k t) F.entry_int_rmul (F.args_int_rmul_2 _ _) (int___rmul___int_list k t l its.toArray n)
   ⟨e,rfl,⟨_,e,rfl⟩,Ro F.slot_list_mul ⟨_,e,rfl⟩ F.entry_list_mul (F.args_list_mul_2 _ _) (AutoListH.list___mul___list_int_3 l its.toArray n k t hfit hcap hlong) ⟨e,?_⟩⟩)
 rw[hnew];exact⟨.ref _,_,I.HW (t':=s.toks) (r.rep k.toNat) (by rw[len_rep,Nat.mul_comm];exact hz),rfl,q _ I.fresh⟩
end
section
variable{prog:Program}{w:O7}{A:Py}{E:OX->O0->Prop}{s:O0}
end
section
variable{X:Cx}
end
end L2
namespace Att
open PySem PySem.W PySem.Calls PyProof.Rows
theorem qR:∀(ns:List Int)(vs:List OX),WellAll P h vs (ns.map WData.int)->TX vs ns:=by
 intro ns;induction ns with
 |nil=>
  intro vs w;rw[Ot]at w;cases w;exact .nil
 |cons n ns ih=>
  intro vs w;rw[Mv]at w;cases w with
  |cons a b=>
   cases a;exact .cons _ _ (ih _ b)
theorem BU{l:OpenLaw}{n:Nat}(hn:l.most=Ve n){P:Qj}{h:Pk}{args:List WData}{vals:List OX}
  (hpre:l.row.toRowW.claim.pre args=true) (hwl:WellAll P h vals args) :
  ∃a vs ns,vals=[O8 a]/\args=[WData.list (ns.map WData.int)]/\h.get? a=Ve { cls:=.type "list",data:=.seq vs.toArray }/\TX vs ns/\ns.length<=n:=by
 have hsh:WShape.hasAll [] args [.list .int]=true:=(pre_splitW hpre).1
 have hc:l.pre.holds [] { args:=args }=true:=(pre_splitW hpre).2
 obtain⟨d,r,rfl,h1,h2⟩:=hasAllW_cons hsh
 obtain rfl:=hasAllW_nil h2
 obtain⟨xs,rfl,h3⟩:=hasW_list h1
 obtain⟨ns,rfl⟩:=items_int h3
 have hlen:ns.length<=n:=by
  unfold OpenLaw.pre at hc;have h4:(WTm.not (.lt (.lit (.int (n:Int))) (.len (.arg 0)))).holds [] { args:=[.list (ns.map .int)] }=true:=by
   have h4:=(holds_andW hc).1;rw[hn]at h4;exact h4
  have h5:=condW_of h4 (w_not (w_lt w_lit (w_len_list (w_arg rfl))));rw[Mj]at h5;refine Nat.le_of_not_lt λq=>?_;have q':(n:Int)<((ns.length:Nat):Int):=by omega
  first
   | (rw[decide_eq_true q']at h5;exact absurd h5 (by decide))
   | (simp at h5;omega)
 cases hwl with
 |cons w1 w2=>
  cases w2
  cases w1 with
  |list ho hall=>exact⟨_,_,ns,rfl,rfl,ho,qR ns _ hall,hlen⟩
theorem BS(l:OpenLaw)(args:List WData):l.row.toRowW.claim.post args (.bool true) args=true:=
 postW_of (r:=l.row.toRowW) (X:=(true==true))
  (show WShape.has [] (.bool true) .bool=true by first|rfl|decide|simp[WShape.has,WShape.arms,WShape.armsAll])
  (show(WTm.eq .res (.lit (.bool true))).value [] { args:=args,res:=Ve (.bool true),after:=args }=Ve (.bool (true==true))from w_eq_bool (w_res rfl) w_lit) rfl
theorem xI{l:OpenLaw}{n:Nat}{q:Program}{loose:List Str}{XP:(Str->Option OX)->Pk->Prop}{YP:O7->Pk->Prop}{d:DefRec}
  (hn:l.most=Ve n) (hdf:d.params.defaults=[])
  (call:∀(w:O7)(s₀ s₁:O0)(mg mb:Str->Option OX)(fa:OW)(o:Obj)(pm cd doc:OX)(a:OW)(vs:List OX)(ns:List Int),
   Ground q loose [] XP w s₀ mg mb s₁.heap->YP w s₁.heap->
   s₁.heap.get? fa=Ve o->o.data=.func (docDef d.name d.params d.body d.scope pm cd doc)->s₁.heap.CodeRec cd d.name->mg d.name=Ve (.ref fa)->
   s₁.heap.get? a=Ve { cls:=.type "list",data:=.seq vs.toArray }->TX vs ns->ns.length<=n->s₁.gens=#[]->
   codeAny (Pb l.prog w) SN (.call (.ref fa) ⟨[.ref a],[]⟩) (λr s'=>r=.ok (.ret (.bool true))/\OldK s₁.heap s'.heap/\s'.os=s₁.os/\Ru s'.gens) s₁) :
  WalkO q loose XP YP l.row.toRowW d [] (λf vs=>U0 f vs):=by
 intro w s₀ s₁ mg mb G Y fa o pm cd doc dV kV ho hd hcd hD hmg hg args vals as hpre hlay hrd hwl hlo
 obtain rfl:dV=.none:=Dflts.none hD hdf
 obtain rfl:kV=.none:=Dflts.noKw hD
 obtain⟨a,vs,ns,rfl,rfl,hobj,hints,hlen⟩:=BU hn hpre hwl
 refine enter_call (RW (call w s₀ s₁ mg mb fa o pm cd doc a vs ns G Y ho (fd_plain hd) hcd hmg hobj hints hlen hg) λr s' hq=>?_)
 obtain⟨rfl,h2,h3,h4⟩:=hq
 exact⟨.inl ⟨.bool true,.bool true,[],rfl,λ_=>rfl,.bool true,BS l _,λ_=>⟨TZ,λ_ hm=>(nomatch hm)⟩⟩,h2,h3,h4⟩
section
variable{prog:Program}{w:O7}{A:Py}{E:OX->O0->Prop}{s:O0}{K:Frag}
end
end Att
namespace L2
open PySem PySem.Spec PyProof.Rows
theorem u6:∀{vs:List OX}{ns:List Int},TX vs ns->Vn (ns.map V.int) vs
 |_,_,.nil=>.nil
 |_,_,.cons n t h=>.cons ⟨t,rfl⟩ (u6 h)
def IT(H:Hp):Prop:=∀b,H b=Vf\/∃o xs,H b=Ve (.frz o (.lst xs))
theorem Dp{P:Program}{w:O7}{K:OZ}{mg mb:Str->Option OX}{CX:CXT}{k:Nat}{fa a:OW}{fd:Qa}{x:Str}{sp:Sp}{s₁:O0}{vs:List OX}{ns:List Int}
  (KX:K.In s₁.heap) (hns:s₁.heap.Ns Pf mg) (hb:s₁.heap.Ns RQ mb) (hbb:∀x:Str,x≠"__name__"->mb x=P1 x) (hlim:s₁.heap.NoLimit) (hg:s₁.gens=#[])
  (ha:s₁.heap.get? a=Ve { cls:=.type "list",data:=.seq vs.toArray }) (hi:TX vs ns) (hl:ns.length<=sizeLine) (hr:ft k SN)
  (F:∀base:Pk,K.In base->base.Ns Pf mg->kX P w K mg base CX k fa fd [x] sp) (hbind:∀(s:O0)(u:OX),SK s fd ⟨[u],[]⟩ [(x,u)])
  (hsp:∀H:Hp,IT H->SqL K H a (ns.map V.int)->sp [.ref a] H (λv _=>v=.bl true) λ_ _ _=>False)
  (hCX:∀H e s',CX [] H s₁ (λ_ _ _=>False) e s'->False) :
  codeAny (Pb P w) SN (.call (.ref fa) ⟨[.ref a],[]⟩) (λr s'=>r=.ok (.ret (.bool true))/\OldK s₁.heap s'.heap/\s'.os=s₁.os/\Ru s'.gens) s₁:=by
 have rv:=u6 hi
 have lenV:=hi.length
 have core:∀H:Hp,IT H->SqL K H a (ns.map V.int)->HOk P w H s₁.heap->(∀b,H b≠Vf->b=a)->(H a≠Vf->K.lookup a=Vf)->
   codeAny (Pb P w) SN (.call (.ref fa) ⟨[.ref a],[]⟩) (λr s'=>r=.ok (.ret (.bool true))/\OldK s₁.heap s'.heap/\s'.os=s₁.os/\Ru s'.gens) s₁:=by
  intro H hO hS hok hA hK
  have base_of:∀{b:OW}{o:Obj},s₁.heap.get? b=Ve o->H b=Vf->(vI s₁.heap H).get? b=Ve o:=λe n=>Ds e n
  have noA:∀{b:OW}{o:Obj}{es:Array U8}{ep:Nat},s₁.heap.get? b=Ve o->o.data=.dict es ep->H b=Vf:=λ{b o es ep} e d=>by
   cases q:H b with
   |none=>rfl
   |some u=>
    have e':b=a:=hA b (by rw[q];simp);subst e';rw[ha]at e;cases e;have d':Data.seq vs.toArray _=Data.dict es ep:=d;cases d'
  have nsK:∀{b:OW}{m:Str->Option OX},s₁.heap.Ns b m->(vI s₁.heap H).Ns b m:=λ{b m} ⟨o,es,ep,e,d,r⟩=>⟨o,es,ep,base_of e (noA e d),d,r⟩
  have hKb:K.In (vI s₁.heap H):=λb o e=>base_of (KX b o e) (by
   cases q:H b with
   |none=>rfl
   |some u=>
    have e':b=a:=hA b (by rw[q];simp);subst e';rw[hK (by rw[q];simp)]at e;cases e)
  have hM:Mod K mg (vI s₁.heap H):=⟨hKb,nsK hns,⟨mb,nsK hb,hbb⟩,let ⟨mc,h1,h2⟩:=hlim;⟨mc,nsK h1,h2⟩⟩
  have e0:zN P w K mg (vI s₁.heap H) SN [] s₁ H:=⟨rfl,hM,λb o e=>Ga e,OP (Cy _ _),trivial,λb hb=>absurd (show b∈([]:List OW)from hb) (by simp),hok,.of_eq hg⟩
  refine RW ((F _ hKb (nsK hns)).run SN [] s₁ H ⟨[.ref a],[]⟩ [.ref a] [.ref a] _ _ hr e0 (hbind s₁ (.ref a)) (.cons rfl .nil) (hsp H hO hS)) λr s' h=>?_
  cases r with
  |error e=>exact(hCX H e s' h).elim
  |ok fl=>
   cases fl with
   |next=>exact PY h
   |brk=>exact PY h
   |cont=>exact PY h
   |ret u=>
    obtain⟨v,H',os,bare,un,hok',r',q⟩:=h
    have q':v=.bl true:=q
    subst q'
    obtain rfl:u=RP true:=r'
    refine⟨rfl,OldK.of_keep λb o e=>?_,os,bare⟩
    cases q:H b with
    |none=>exact un.keep b o e q (by intro z;exact absurd (show b∈([]:List OW)from z) (by simp)) (by simp)
    |some u=>
     rcases hO b with z|⟨ob,xs,z⟩
     ·rw[q]at z;cases z
     have z2:=un.uu b ob _ z
     obtain⟨e1,_⟩:=hok b _ z
     obtain⟨e2,_⟩:=hok' b _ z2
     rw[e]at e1;cases e1
     exact e2
 cases hk:K.lookup a with
 |some o=>
  have e:=KX a o hk
  rw[ha]at e
  cases e
  refine core (λ_=>Vf) (λ_=>.inl rfl) (.inr ⟨_,vs.toArray,_,hk,rfl,rfl,rfl,by rw[My,lenV];exact hl,by simpa using rv⟩) (λb u z=>by have z':(Vf:Option HO)=Ve u:=z;cases z') (λb z=>absurd rfl z) λz=>absurd rfl z
 |none=>
  refine core (λb=>if b=a then Ve (.frz { cls:=.type "list",data:=.seq vs.toArray } (.lst (ns.map V.int)))else Vf) (λb=>?_) (.inl (.inr ⟨{ cls:=.type "list",data:=.seq vs.toArray },if_pos rfl⟩)) (λb u z=>?_) (λb z=>?_) λ_=>hk
  ·by_cases hb:b=a
   ·exact .inr ⟨_,_,if_pos hb⟩
   exact .inl (if_neg hb)
  ·by_cases hb:b=a
   ·have z':=(if_pos hb).symm.trans z;cases z';subst hb;exact⟨ha,by rw[Mj];exact hl,vs,_,rv,ha⟩
   have z':=(if_neg hb).symm.trans z;cases z'
  by_cases hb:b=a
  ·exact hb
  exact absurd (if_neg hb) z
theorem Fg{l:Uj}{n k:Nat}{q:Program}{loose:List Str}{XP:(Str->Option OX)->Pk->Prop}{YP:O7->Pk->Prop}{d:DefRec}{K:Qj->OZ}{CX:O7->CXT}{sp:O7->Sp}{x:Str}
  (hn:l.most=Ve n) (hn2:n<=sizeLine) (hdf:d.params.defaults=[]) (hr:ft k SN)
  (hY:∀(w:O7)(h:Pk),YP w h->(K w.params).In h)
  (F:∀(w:O7)(mg:Str->Option OX)(fa:OW)(h:Pk),(K w.params).In h->h.Ns Pf mg->mg d.name=Ve (.ref fa)->
   ∃fd:Qa,(∀(s:O0)(u:OX),SK s fd ⟨[u],[]⟩ [(x,u)])/\
    ∀base:Pk,(K w.params).In base->base.Ns Pf mg->kX l.prog w (K w.params) mg base (CX w) k fa fd [x] (sp w))
  (hsp:∀(w:O7)(H:Hp)(a:OW)(ns:List Int),ns.length<=n->IT H->SqL (K w.params) H a (ns.map V.int)->sp w [.ref a] H (λv _=>v=.bl true) λ_ _ _=>False)
  (hCX:∀(w:O7)(H:Hp)(s:O0)(e:OX)(s':O0),CX w [] H s (λ_ _ _=>False) e s'->False) :
  W.WalkO q loose XP YP l.row.toRowW d [] (λf vs=>U0 f vs):=by
 refine Att.xI hn hdf λw s₀ s₁ mg mb fa o pm cd doc a vs ns G Y ho hd hcd hmg hobj hints hlen hg=>?_
 have KX:=hY w _ Y
 obtain⟨fd,hb,hF⟩:=F w mg fa _ KX G.T.g hmg
 exact Dp KX G.T.g G.T.b G.T.builtins G.T.nolimit hg hobj hints (MC hlen hn2) hr hF hb (λH hO hS=>hsp w H a ns hlen hO hS) λH e s'=>hCX w H s₁ e s'
abbrev CX0:CXT:=λ_ _ _ _ _ _=>False
abbrev E0:XK:=λ_ _ _=>False
theorem yk:Vt CX0 X E0:=λ_ _ _ _ _ _ _ h=>h.elim
structure Fun(K:OZ)(x qual:Str)(st:Pj)(f:OW)(fd:Qa):Prop where
 ex:∃(oc:OX)(od:Option OW)(kV doc pm:OX)(an:Option OW)(cdv ct:OX)(osl:Array (Option OX)),
  fd=QF x qual (eP st) (dB st) (av st) .none kV doc pm an cdv ct/\K.lookup f=Ve ⟨oc,od,.func fd,osl⟩/\Ss K cdv qual=true
 kp:Qy K (.ref f)=true
section
variable{P:Program}{w:O7}{K:OZ}{mg:Str->Option OX}{base:Pk}
theorem Fun.ok{x qual:Str}{st:Pj}{f:OW}{fd:Qa}{N ps:List Str}{k:Nat}{sp:Sp}(F:Fun K x qual st f fd)(S:az N ps (av st))(len:∀vs H Q E,sp vs H Q E->vs.length=ps.length)
  (hbody:∀(cdv:OX)(A:Py)(outer:List Env)(s:O0)(H:Hp)(vs:List V)(Q:VK)(E:XK),ft k (A.deeper (QX qual (av st) s.heap.objs.size f cdv))->sp vs H Q E->
   ∃t,PSs (y9 CX0 P w K mg base N qual (av st) f cdv A outer s H E).nox (dB st) t/\t { nx:=λ_ H'=>Q .non H',rt:=Q } (Vv N vs) H):kX P w K mg base CX0 (k+1) f fd ps sp:=by
 obtain⟨oc,od,kV,doc,pm,an,cdv,ct,osl,rfl,lk,hcd⟩:=F.ex
 refine Kb lk hcd S len λA outer s H vs Q E hr hsp=>?_
 obtain⟨t,h,q⟩:=hbody cdv A outer s H vs Q E hr hsp
 exact⟨t,h.nox,q⟩
theorem Fun.binds{x qual:Str}{st:Pj}{f:OW}{fd:Qa}{ps:List Str}(F:Fun K x qual st f fd)
  (h:∀(kV doc pm:OX)(an:Option OW)(cdv ct:OX)(us:List OX),us.length=ps.length->Sr (QF x qual (eP st) (dB st) (av st) .none kV doc pm an cdv ct) ⟨us,[]⟩=pure (ps.zip us)):Vr K fd ps []:=by
 obtain⟨oc,od,kV,doc,pm,an,cdv,ct,osl,rfl,lk,hcd⟩:=F.ex
 exact .all (h kV doc pm an cdv ct)
theorem vE{x qual:Str}{st:Pj}{f:OW}{oc:OX}{od an:Option OW}{osl:Array (Option OX)}{kV doc pm cdv ct:OX}(l:K.lookup f=Ve ⟨oc,od,.func (QF x qual (eP st) (dB st) (av st) .none kV doc pm an cdv ct),osl⟩)
  (c:Ss K cdv qual=true) (k:Qy K (.ref f)=true):Fun K x qual st f (QF x qual (eP st) (dB st) (av st) .none kV doc pm an cdv ct):=⟨⟨oc,od,kV,doc,pm,an,cdv,ct,osl,rfl,l,c⟩,k⟩
end
theorem ay(h:n<=1000):n<sizeLine:=Oe h (by decide)
section
variable{X:Cx}
end
theorem bu{A B:Prop}(h:B):if false=true then A else B:=by
 rw[if_neg Mw];exact h
theorem dz{A B:Prop}(h:A):if true=true then A else B:=by
 rw[if_pos rfl];exact h
theorem ba{c A B:Prop}[Decidable c](h1:c->A)(h2:¬ c->B):if c then A else B:=by
 by_cases h:c
 ·rw[if_pos h];exact h1 h
 rw[if_neg h];exact h2 h
def ao(H H':Hp):Prop:=∀b o,H b=Ve o->H' b=Ve o
theorem ao.refl(H:Hp):ao H H:=λ_ _ h=>h
theorem ao.trans(a:ao H H1)(b:ao H1 H2):ao H H2:=λc o h=>b c o (a c o h)
theorem ao.free(e:ao H H')(h:H' l=PV):H l=PV:=by
 cases q:H l with
 |none=>rfl
 |some o=>
  rw[e l o q]at h;cases h
theorem ao.seq{K:OZ}{H H':Hp}{a:OW}{xs:List V}(e:ao H H')(h:SqL K H a xs):SqL K H' a xs:=by
 rcases h with(h|⟨o,h⟩)|h
 ·exact .inl (.inl (e _ _ h))
 ·exact .inl (.inr ⟨o,e _ _ h⟩)
 exact .inr h
theorem qr{α β:Type}{l:List α}{f:α->β->Sem (ForInStep β)}(g:β->α->β)(c:β)(h:∀x∈l,∀c,f x c=pure (.yield (g c x))) :
  forIn l c f=pure (l.foldl g c):=by
 induction l generalizing c with
 |nil=>rfl
 |cons x l ih=>
  rw[List.forIn_cons,h x Mg,pure_bind]
  exact ih _ λy hy=>h y (Mi _ hy)
noncomputable def fW(env:Env)(cs:List (Str×OW))(x:Str×Qc):List (Str×OW):=
 if x.2== .free then(x.1,(env.cells.lookup x.1).getD 0)::cs else cs
noncomputable def tT(env:Env)(names:List (Str×Qc)):List (Str×OW):=names.foldl (fW env) []
theorem qS(h:∀x∈scope.names,x.2=.free->∃c,env.cells.lookup x.1=Ve c):closureFor scope env=pure (tT env scope.names):=by
 simp only[closureFor];rw[qr (fW env) [] (λx hx c=>by
  obtain⟨n,kind⟩:=x;cases hk:kind==PH with
  |false=>simp only[fW,hk,Tf,if_false]
  |true=>
   obtain⟨a,ha⟩:=h (n,kind) hx (by simpa using hk);have ha':env.cells.lookup n=Ve a:=ha;simp only[fW,hk,if_true,cellOf,ha',Ur,pure_bind])]
 rfl
theorem tK:∀{names:List (Str×Qc)}{cs:List (Str×OW)}{n:Str}{c:OW},(n,c)∈names.foldl (fW env) cs->(n,c)∈cs\/((n,PH)∈names/\c=(env.cells.lookup n).getD 0)
 | [],_,_,_,h=>.inl h
 | (m,k)::r,cs,n,c,h=>by
  rcases tK (names:=r) (cs:=fW env cs (m,k)) h with h|⟨h,e⟩
  ·unfold fW at h;by_cases hk:(k==PH)=true
   ·rw[if_pos hk]at h;rcases Mf.mp h with e|h
    ·cases e;have hk':k=.free:=by simpa using hk
     subst hk';exact .inr ⟨Mg,rfl⟩
    exact .inl h
   rw[if_neg hk]at h;exact .inl h
  exact .inr ⟨Mi _ h,e⟩
theorem vh:∀{names:List (Str×Qc)}{cs:List (Str×OW)},p∈cs->p∈names.foldl (fW env) cs
 | [],_,h=>h
 |x::r,cs,h=>vh (names:=r) (cs:=fW env cs x) (by
  unfold fW;split
  ·exact Mi _ h
  exact h)
theorem wF:∀{names:List (Str×Qc)}{cs:List (Str×OW)},(n,PH)∈names->(n,(env.cells.lookup n).getD 0)∈names.foldl (fW env) cs
 |x::r,cs,h=>by
  rcases Mf.mp h with e|h
  ·subst e;refine vh (names:=r) (cs:=fW env cs (n,.free)) ?_;unfold fW;rw[if_pos (by rfl)];exact Mg
  exact wF (names:=r) h
theorem kf{α:Type}:∀{l:List (Str×α)}{n:Str}{c:α},(n,c)∈l->∃c',l.lookup n=Ve c'
 | (k,v)::r,n,c,h=>by
  rw[NC];cases hb:n==k with
  |true=>exact⟨v,rfl⟩
  |false=>
   rcases Mf.mp h with e|h
   ·cases e;simp at hb
   exact kf h
theorem gI:∀{names:List (Str×Qc)}{k:Nat}{acc:List (Str×OW)}{n:Str}{c:OW},(n,c)∈Pz k names acc->(n,c)∈acc\/(k<=c/\(n,Po)∈names)
 | [],_,_,_,_,h=>.inl h
 | (m,kd)::r,k,acc,n,c,h=>by
  unfold Pz at h;by_cases hk:(kd==Po)=true
  ·rw[if_pos hk]at h;have hk':kd=.cell:=by simpa using hk
   subst hk';rcases gI (names:=r) h with h|⟨h1,h2⟩
   ·rcases Mf.mp h with e|h
    ·cases e;exact .inr ⟨Mo _,Mg⟩
    exact .inl h
   exact .inr ⟨by omega,Mi _ h2⟩
  rw[if_neg hk]at h;rcases gI (names:=r) h with h|⟨h1,h2⟩
  ·exact .inl h
  exact .inr ⟨h1,Mi _ h2⟩
theorem jK:∀{names:List (Str×Qc)}{k:Nat}{acc:List (Str×OW)},(∀n c,(n,c)∈acc->c<k)->(∀n n' c,(n,c)∈acc->(n',c)∈acc->n=n')->
  ∀{n n':Str}{c:OW},(n,c)∈Pz k names acc->(n',c)∈Pz k names acc->n=n'
 | [],_,_,_,hi,_,_,_,h,h'=>hi _ _ _ h h'
 | (m,kd)::r,k,acc,hl,hi,n,n',c,h,h'=>by
  unfold Pz at h h';by_cases hk:(kd==Po)=true
  ·rw[if_pos hk]at h h';refine jK (names:=r) (acc:=(m,k)::acc) (λa b hab=>?_) (λa a' b ha ha'=>?_) h h'
   ·rcases Mf.mp hab with e|e
    ·cases e;exact NJ _
    exact NP (hl _ _ e)
   rcases Mf.mp ha with e|e<;>rcases Mf.mp ha' with e'|e'
   ·cases e;cases e';rfl
   ·cases e;exact absurd (hl _ _ e') (Ny _)
   ·cases e';exact absurd (hl _ _ e) (Ny _)
   exact hi _ _ _ e e'
  rw[if_neg hk]at h h';exact jK (names:=r) hl hi h h'
theorem iJ:∀{names:List (Str×Qc)}{h:Pk}{acc:List (Str×OW)}{n:Str}{c:OW},(n,c)∈Pz h.objs.size names acc->(n,c)∈acc\/(QQ h names).IsCell c Vf
 | [],_,_,_,_,q=>.inl q
 | (m,kd)::r,h,acc,n,c,q=>by
  unfold Pz at q;unfold QQ;by_cases hk:(kd==Po)=true
  ·rw[if_pos hk]at q;rw[if_pos hk];have e:h.objs.size+1=(h.push { cls:=.type "cell",data:=.cell Vf }).objs.size:=(P6 ..).symm;rw[e]at q;rcases iJ (names:=r) q with q|q
   ·rcases Mf.mp q with e'|q
    ·cases e';exact .inr ⟨_,QB r _ _ _ (Pe _ rfl),rfl⟩
    exact .inl q
   exact .inr q
  rw[if_neg hk]at q;rw[if_neg hk];exact iJ (names:=r) q
theorem jU:∀{names:List (Str×Qc)}{k:Nat}{acc:List (Str×OW)},(x,Po)∉names->(Pz k names acc).lookup x=acc.lookup x
 | [],_,_,_=>rfl
 | (m,kd)::r,k,acc,h=>by
  unfold Pz;have hr:(x,Po)∉r:=λz=>h (Mi _ z);by_cases hk:(kd==Po)=true
  ·have hk':kd=.cell:=by simpa using hk
   subst hk';rw[if_pos hk,jU hr,NC];have ne:(x==m)=false:=by
    cases hb:x==m with
    |false=>rfl
    |true=>exact absurd (by rw[beq_iff_eq.mp hb];exact Mg) h
   rw[ne]
  rw[if_neg hk];exact jU hr
section
variable{M:Model}{A:Py}{E:OX->O0->Prop}{s:O0}
theorem xF
  (h:Q (newEnv scope s.heap.objs.size globals (Pz (s.heap.objs.size+1) scope.names cl) qual Vf .none (Ve FZ) RQ) { s with heap:=QQ (s.heap.push { cls:=.type "dict",data:=.dict #[] }) scope.names }) :
  wpAny M A (U1 scope globals cl [] qual Vf .none (Ve FZ)) Q E s:=by
 simp only[U1,Tg,if_true]
 refine OY (wpAny_alloc ?_)
 refine OY (wpAny_layCells _ (λname kind cells=>by cases hkc:kind==Po<;>simp[hkc]) _ _ _ _ ?_)
 rw[show({ s with heap:=s.heap.push { cls:=.type "dict",data:=.dict #[] } }:O0).heap.objs.size=s.heap.objs.size+1 from P6 ..]
 refine OY ?_
 rw[List.forIn_nil]
 exact O4 (O4 h)
end
structure CB where
 C:OW
 ex:List OW
 s:O0
 H:Hp
noncomputable def cxC(X:Cx)(N:List Str)(scope:Q8)(b:CB):Cx:={ X with
 N:=N
 s₀:=b.s
 H₀:=b.H
 env:=compEnvC scope (Pz (b.C+1) scope.names (tT X.env scope.names)) b.C X.env
 outer:=X.stack
 ex:=b.ex
 fn:=λx=>scope.names.lookup x==Ve .cell
 pn:=[]
 xe:=λ_ _=>False }
theorem nh{env:Env}{x:Str}:∀{names:List (Str×Qc)},
  (names.map λ(n,k)=>if(k==PH&&env.scope.kind== .function&&env.kindOf n==Ve .cell)then(n,Po)else(n,k)).lookup x=
   (names.lookup x).map λk=>if(k==PH&&env.scope.kind== .function&&env.kindOf x==Ve .cell)then Po else k
 | []=>rfl
 | (n,k)::r=>by
  have ih:=@nh env x r;show Qp x ((if(k==PH&&env.scope.kind== .function&&env.kindOf n==Ve .cell)=true then(n,Po)else(n,k))::_)=_;cases hx:x==n with
  |true=>
   have e:x=n:=beq_iff_eq.mp hx;subst e;by_cases hc:(k==PH&&env.scope.kind== .function&&env.kindOf x==Ve .cell)=true
   ·rw[if_pos hc];simp only[NC,hx,Ob,hc,if_true]
   rw[if_neg hc];simp only[NC,hx,Ob];rw[if_neg hc]
  |false=>
   by_cases hc:(k==PH&&env.scope.kind== .function&&env.kindOf n==Ve .cell)=true
   ·rw[if_pos hc];simp only[NC,hx];exact ih
   rw[if_neg hc];simp only[NC,hx];exact ih
structure cG(psc:Q8)(PN N:List Str)(own:Nat)(fr:List Nat)(scope:Q8):Prop where
 kind:scope.kind=.function
 nd:(scope.names.map (·.1)).Nodup
 free:∀x∈scope.names,x.2=.free->psc.names.lookup x.1=Ve .cell\/psc.names.lookup x.1=Ve .free
 len:N.length=own+fr.length
 frn:∀i,i<fr.length->N[own+i]?=(fr[i]?).bind λj=>PN[j]?
 frk:∀i,i<fr.length->∀y,N[own+i]?=Ve y->scope.names.lookup y=Ve .free
noncomputable def Av(psc:Q8)(PN N:List Str)(own:Nat)(fr:List Nat)(scope:Q8):Bool:=
 scope.kind== .function&&decide (scope.names.map (·.1)).Nodup&&scope.names.all (λx=>x.2 != .free||(psc.names.lookup x.1==Ve .cell||psc.names.lookup x.1==Ve .free))&&
  (N.length==own+fr.length)&&((fr.map λj=>PN[j]?)==(N.drop own).map Ve)&&(N.drop own).all (λy=>scope.names.lookup y==Ve .free)
theorem cG.of(h:Av psc PN N own fr scope=true):cG psc PN N own fr scope:=by
 unfold Av at h;simp only[NB]at h;obtain⟨⟨⟨⟨⟨h1,h2⟩,h3⟩,h4⟩,h5⟩,h6⟩:=h;have h4':N.length=own+fr.length:=eq_of_beq h4;have h5':(fr.map λj=>PN[j]?)=(N.drop own).map Ve:=eq_of_beq h5;have dr:∀i,N[own+i]?=(N.drop own)[i]?:=λi=>by rw[List.getElem?_drop]
 refine⟨eq_of_beq h1,of_decide_eq_true h2,λx hx hk=>?_,h4',λi hi=>?_,λi hi y hy=>?_⟩
 ·have q:=NL.mp h3 x hx;rw[hk]at q;simpa using q
 ·have q:=congrArg (λl=>l[i]?) h5';simp only[Mu]at q;rw[dr];have ej:fr[i]?=Ve fr[i]:=Mh hi;rw[ej]at q⊢;cases e:(N.drop own)[i]? with
  |none=>rw[e]at q;cases q
  |some y=>
   rw[e]at q;exact(O1 q).symm
 rw[dr]at hy;have q:=NL.mp h6 y (Mr hy);simpa using q
noncomputable def cSt(own:Nat)(fr:List Nat)(σ:St):St:=Pd own Vf++fr.map λj=>(σ[j]?).getD Vf
theorem ir{α:Type}:∀{l:List (Str×α)}{n:Str}{k:α},(l.map (·.1)).Nodup->(n,k)∈l->l.lookup n=Ve k
 | (m,v)::r,n,k,nd,h=>by
  rw[Mv,Mx]at nd;rw[NC];rcases Mf.mp h with e|h
  ·cases e;simp
  have ne:(n==m)=false:=by
   cases hb:n==m with
   |false=>rfl
   |true=>exact absurd (Mz.mpr ⟨(n,k),h,beq_iff_eq.mp hb⟩) nd.1
  rw[ne];exact ir nd.2 h
section
variable{X:Cx}{pins:List (OW×Obj)}{σ:St}{H:Hp}{s:O0}{N:List Str}{own:Nat}{fr:List Nat}{scope:Q8}
theorem cG.cells(S:cG X.env.scope X.N N own fr scope)(ok:X.Ok):∀x∈scope.names,x.2=.free->∃c,X.env.cells.lookup x.1=Ve c:=λx hx hk=>
 ok.has x.1 (S.free x hx hk)
theorem cG.cl(S:cG X.env.scope X.N N own fr scope)(ok:X.Ok)(h:(n,c)∈tT X.env scope.names):X.env.cells.lookup n=Ve c:=by
 rcases tK h with h|⟨h,e⟩
 ·cases h
 obtain⟨c',e'⟩:=S.cells ok (n,.free) h rfl;have e2:X.env.cells.lookup n=Ve c':=e';rw[e2]at e;rw[e,e2];rfl
theorem DC(S:cG X.env.scope X.N N own fr scope)(I:Inv X pins σ H s)(hD:D=s.heap.objs.size)(hC:C=s.heap.objs.size+1)
  (hh:h'=QQ ((s.heap.push { cls:=.type "list",data:=.seq #[] }).push { cls:=.type "dict",data:=.dict #[] }) scope.names) (hfp:∀b∈fp,tH X pins H b) (hlt:∀b∈fp,b<s.heap.objs.size) :
  Inv (cxC X N scope ⟨C,fp,s,H⟩) [] (cSt own fr σ) (upd H D (.lst [])) { s with heap:=h' }:=by
 subst hD hC
 have eD:(s.heap.push { cls:=.type "list",data:=.seq #[] }).objs.size=s.heap.objs.size+1:=P6 ..
 have eC:((s.heap.push { cls:=.type "list",data:=.seq #[] }).push { cls:=.type "dict",data:=.dict #[] }).objs.size=s.heap.objs.size+2:=by rw[P6,eD]
 have keep:∀b o,s.heap.get? b=Ve o->h'.get? b=Ve o:=λb o e=>by
  rw[hh];exact QB _ _ _ _ (O2 _ (O2 _ e))
 have lst:h'.get? s.heap.objs.size=Ve { cls:=.type "list",data:=.seq #[] }:=by
  rw[hh];exact QB _ _ _ _ (O2 _ (Pe _ rfl))
 have dct:h'.get? (s.heap.objs.size+1)=Ve { cls:=.type "dict",data:=.dict #[] }:=by
  rw[hh];refine QB _ _ _ _ ?_;have:=Pe (s.heap.push { cls:=.type "list",data:=.seq #[] }) (o:={ cls:=.type "dict",data:=.dict #[] }) rfl;rw[eD]at this;exact this
 have hnD:H s.heap.objs.size=Vf:=I.hok.fresh (Mo _)
 have hnC:H (s.heap.objs.size+1)=Vf:=I.hok.fresh (NZ _)
 have inCl:∀{n:Str}{c:OW},(n,c)∈tT X.env scope.names->X.env.cells.lookup n=Ve c:=λh=>S.cl I.ok h
 have clt:∀{n:Str}{c:OW},X.env.cells.lookup n=Ve c->c<s.heap.objs.size:=λh=>by
  obtain⟨v,z⟩:=I.cell _ _ h;exact z.lt
 have cases_:∀{n:Str}{c:OW},(Pz (s.heap.objs.size+1+1) scope.names (tT X.env scope.names)).lookup n=Ve c->X.env.cells.lookup n=Ve c\/(s.heap.objs.size+2<=c/\(n,Po)∈scope.names/\h'.IsCell c Vf):=λ{n c} h=>by
  have hm:=Ph h;have hcell:=hm;rw[show s.heap.objs.size+1+1=((s.heap.push { cls:=.type "list",data:=.seq #[] }).push { cls:=.type "dict",data:=.dict #[] }).objs.size from eC.symm]at hcell;rcases gI hm with h1|⟨h1,h2⟩
  ·exact .inl (inCl h1)
  rcases iJ hcell with h3|h3
  ·exact .inl (inCl h3)
  exact .inr ⟨h1,h2,by rw[hh];exact h3⟩
 have kindOf:∀x,(cxC X N scope ⟨s.heap.objs.size+1,fp,s,H⟩).env.kindOf x=(scope.names.lookup x).map λk=>if(k==PH&&X.env.scope.kind== .function&&X.env.kindOf x==Ve .cell)then Po else k:=λx=>nh
 have hasName:∀x,((cxC X N scope ⟨s.heap.objs.size+1,fp,s,H⟩).env.kindOf x=Ve .cell\/(cxC X N scope ⟨s.heap.objs.size+1,fp,s,H⟩).env.kindOf x=Ve .free)->∃c,(Pz (s.heap.objs.size+1+1) scope.names (tT X.env scope.names)).lookup x=Ve c:=λx hx=>by
  rw[kindOf]at hx;have h2:scope.names.lookup x=Ve .cell\/scope.names.lookup x=Ve .free:=by
   cases e:scope.names.lookup x with
   |none=>rw[e]at hx;rcases hx with z|z<;>cases z
   |some k=>
    rw[e]at hx;by_cases hk:k=.free
    ·exact .inr (by rw[hk])
    have hk':(k==PH)=false:=by simpa using hk
    simp only[Ob,hk',UR,Tf,if_false]at hx;rcases hx with z|z
    ·exact .inl z
    exact .inr z
  rcases h2 with h2|h2
  ·exact Od.mp (QO scope.names _ _ (.inl h2))
  obtain⟨c,hc⟩:=kf (wF (env:=X.env) (cs:=[]) (Ph h2));exact Od.mp (QO scope.names _ _ (.inr (by rw[show(tT X.env scope.names).lookup x=Ve c from hc];rfl)))
 have cellAt:∀x c,(Pz (s.heap.objs.size+1+1) scope.names (tT X.env scope.names)).lookup x=Ve c->∃v,h'.IsCell c v:=λx c e=>by
  rcases cases_ e with q|⟨_,_,q⟩
  ·obtain⟨v,o,ho,hd⟩:=I.cell x c q;exact⟨v,o,keep c o ho,hd⟩
  exact⟨Vf,q⟩
 refine⟨⟨I.ok.mod,S.kind,I.ok.glob,I.ok.blt,NZ _,λy z c h1 h2=>?_,hasName,λy c hy h=>?_,I.ok.hd,I.ok.frames,.inl rfl,λb hb=>⟨?_,λx c e z=>?_⟩,λb o e=>I.bs b o e,MC I.ok.bsz I.sz,λb o e hb=>?_,λb hb hf=>?_,I.stack,I.Aw⟩,
  rfl,I.bare,?_,⟨λ_=>Vf,⟨_,#[],_,dct,rfl,λe he=>absurd he (by simp),λ_=>rfl⟩,λi x v h1 h2 h3=>?_⟩,cellAt,?_,λx c e=>?_,λp hp=>absurd (show p∈([]:List (OW×Obj))from hp) (by simp),?_,?_⟩
 ·
  refine jK (λn c hm=>?_) (λn n' c hm hm'=>I.ok.inj n n' c (inCl hm) (inCl hm')) (Ph h1) (Ph h2);exact NP (NP (clt (inCl hm)))
 ·
  have hy':scope.names.lookup y=Ve .cell:=by simpa using (show(scope.names.lookup y==Ve .cell)=true from hy)
  rcases cases_ h with q|⟨q,_⟩
  ·rcases gI (Ph h)with q2|⟨q2,_⟩
   ·rcases tK q2 with z|⟨z,_⟩
    ·cases z
    have:=ir S.nd z;rw[hy']at this;cases this
   exact MC (Nv _ 2) q2
  exact MC (Nv _ 2) q
 ·exact MU (NP (hlt b hb))
 ·rcases cases_ e with q|⟨q,_⟩
  ·exact(hfp b hb).2.2.2.2.1 x c q z
  have hb':=hlt b hb;rw[<-z]at hb';exact absurd (MH hb' (MC (Nv _ 2) q)) (Ny _)
 ·rcases(hfp b hb).2.2.2.1 with z|z
  ·exact I.ok.DY b o e z
  exact Ny _ (MH (O6 e) (MC I.ok.bsz z))
 ·rcases Mf.mp (I.Ai b hf)with z|z
  ·exact(hfp b hb).2.1 z
  exact(hfp b hb).2.2.1 z
 ·exact Un.laid keep (Mo _) hnD
 ·
  have h1:N[i]?=Ve x:=h1;have hlen:i<N.length:=(Ml.mp h1).1;by_cases hi:i<own
  ·exfalso;have h2':(cSt own fr σ)[i]?=Ve Vf:=by
    unfold cSt;rw[Nn (by simpa using hi),RI,if_pos hi]
   rw[h2']at h2;cases h2
  have hfi:i-own<fr.length:=by have:=S.len;omega
  have ei:own+(i-own)=i:=by omega
  have hk:=S.frk (i-own) hfi x (by rw[ei];exact h1);have hn:=S.frn (i-own) hfi;rw[ei,h1]at hn;have ej:fr[i-own]?=Ve fr[i-own]:=Mh hfi;rw[ej]at hn;have hn':X.N[fr[i-own]]?=Ve x:=hn.symm;have h2':(cSt own fr σ)[i]?=Ve ((σ[fr[i-own]]?).getD Vf):=by
   unfold cSt;rw[Nt (by simpa using Nat.not_lt.mp hi),Nz,Mu,ej];rfl
  rw[h2']at h2;have h2'':(σ[fr[i-own]]?).getD Vf=Ve v:=O1 h2;have hσ:σ[fr[i-own]]?=Ve (Ve v):=by
   cases e:σ[fr[i-own]]? with
   |none=>rw[e]at h2'';cases h2''
   |some w=>rw[e]at h2'';exact congrArg Ve h2''
  obtain⟨m,hm,hl⟩:=I.loc;have hfree:=S.free (x,.free) (Ph hk) rfl;obtain⟨u,r,l⟩:=hl _ x v hn' hσ (hfree.elim (λz=>.inr (.inl z)) λz=>.inr (.inr z));refine⟨u,r,.inr ?_⟩;have hcell:∃c,X.env.cells.lookup x=Ve c/\s.heap.IsCell c (Ve u):=by
   rcases l with⟨l,_⟩|⟨_,c,e,z⟩
   ·exfalso;rcases hfree with z|z
    ·have l':X.env.scope.names.lookup x=Ve .local:=l
     have z':X.env.scope.names.lookup x=Ve .cell:=z;rw[l']at z';cases z'
    have l':X.env.scope.names.lookup x=Ve .local:=l
    have z':X.env.scope.names.lookup x=Ve .free:=z;rw[l']at z';cases z'
   exact⟨c,e,z⟩
  obtain⟨c,e,o,ho,hd⟩:=hcell;refine⟨?_,c,?_,o,keep c o ho,hd⟩
  ·rw[kindOf,hk];by_cases z:(X.env.scope.kind== .function&&X.env.kindOf x==Ve .cell)=true
   ·left
    simp only[Ob,beq_self_eq_true,OO,z,if_true]
   right
   simp only[Ob,beq_self_eq_true,OO];rw[if_neg z]
  show(Pz (s.heap.objs.size+1+1) scope.names (tT X.env scope.names)).lookup x=Ve c;rw[jU λz=>by
   have:=ir S.nd z;rw[hk]at this;cases this]
  obtain⟨c',hc'⟩:=kf (wF (env:=X.env) (cs:=[]) (Ph hk));have hc2:(tT X.env scope.names).lookup x=Ve c':=hc';rw[hc2];have:=inCl (Ph hc2);rw[e]at this;exact this.symm
 ·show upd H s.heap.objs.size (.lst []) (s.heap.objs.size+1)=Vf;rw[aw (NT (NJ _))];exact hnC
 ·rcases cases_ e with q|⟨q,_⟩
  ·have:=clt q;rw[aw (MU this)];exact I.mQ x c q
  rw[aw (NT (MH (Nat.lt_add_of_pos_right (by decide)) q))];exact I.hok.fresh (MC (Nv _ 2) q)
 ·exact I.hok.laid keep (Mo _) ⟨MB _,[],0,.nil,lst⟩
 show(cSt own fr σ).length=N.length
 unfold cSt
 rw[Mn,Nz,Mj,S.len]
end
def PF(X:Cx)(ifs:List Expr)(t:TT):Prop:=
 ∀(pins:List (OW×Obj))(s:O0)(σ:St)(H:Hp)(Q:Bool->Hp->Prop),Inv X pins σ H s->t σ H Q->
  wpAny (Pb X.prog X.w) X.A (forIn ifs true λc r=>if r=true then do let ok<-isTrue c X.env (PD c X.env);pure (QY ok)else pure (QY r)) (TP X pins σ Q) X.xe s
def Ja:TT:=λ_ H Q=>Q true H
theorem oI:PF X [] Ja:=λ_ _ _ H _ I h=>wpAny_tests_nil ⟨H,I,h⟩
theorem lj(h:PT X c t):PF X [c] t:=λpins s σ H Q I hw=>wpAny_tests_one (h pins s σ H Q I hw)
theorem wV(I:Nat->O0->Prop)
  (turn:∀n s,I n s->wpAny (Pb prog w) A (pyNext it) (λr s₁=>match r with
   |none=>R (.ok .next) s₁
   |some v=>wpAny (Pb prog w) A (QW target it v) (λ_ s₁'=>wpAny (Pb prog w) A (assign target env v) (λ_ s₂=>
     wpAny (Pb prog w) A (forIn ifs true λc r=>if r=true then do let ok<-isTrue c env (PD c env);pure (QY ok)else pure (QY r)) (λok s₃=>
      if ok=true then wpAny (Pb prog w) A (PD elt env) (λx s₄=>
       wpAny (Pb prog w) A (call (.builtin "list.append") [acc,x]) (λ_ s₅=>∃m,m<n/\I m s₅) (λ_ _=>False) s₄) (λ_ _=>False) s₃
      else ∃m,m<n/\I m s₃) (λ_ _=>False) s₂) (λ_ _=>False) s₁') (λ_ _=>False) s₁) (λ_ _=>False) s)
  (n:Nat) (h:I n s) :
  codeAny (Pb prog w) A (.compLoop (.ListComp elt [⟨target,iter,ifs,0⟩] scope pos) 0 it acc env) R s:=by
 refine codeAny_loop rfl I (λn s hI=>?_) n h
 show wpAny _ A ((compTurn (.ListComp elt [⟨target,iter,ifs,0⟩] scope pos) 0 it acc env).onRaise (λx=>do noteFrame x env;theTreesLotGoes x)) _ _ s
 refine wpAny_noted ?_
 rw[compTurn_list]
 have no:∀{α:Type}{t:Sem α}{Q:α->O0->Prop}{E':OX->O0->Prop}{s':O0},wpAny (Pb prog w) A t Q (λ_ _=>False) s'->wpAny (Pb prog w) A t Q E' s':=λh=>P5 h (λ_ _ q=>q) λ_ _ z=>z.elim
 refine OY (SX (OY (no (P5 (turn n s hI) (λr s₁ h₁=>?_) λ_ _ h'=>h'))))
 cases r with
 |none=>exact O4 h₁
 |some v=>
  refine OY (no (P5 h₁ (λ_ s₁' h₁'=>?_) λ_ _ h'=>h'))
  refine OY (no (P5 h₁' (λ_ s₂ h₂=>OY (no (P5 h₂ (λok s₃ h₃=>?_) λ_ _ h'=>h'))) λ_ _ h'=>h'))
  cases ok with
  |false=>exact O4 ⟨rfl,h₃⟩
  |true=>
   exact OY (OY (no (P5 h₃ (λx s₄ h₄=>OY (no (P5 h₄ (λ_ s₅ h₅=>O4 (O4 ⟨rfl,h₅⟩)) λ_ _ h'=>h'))) λ_ _ h'=>h')))
structure mD(J:It)(own:Nat)(fr:List Nat)(g:CB->TG)(tf:CB->TT)(te:CB->TE)(Q:VK)(σ:St)(H1:Hp):Prop where
 go:∀(b:CB)(D:OW),H1 D=Vf->∃W:Nat->Nat->St->Hp->Prop,(∃m,W 0 m (cSt own fr σ) (upd H1 D (.lst [])))/\∀i m σ' H',W i m σ' H'->
  (J.stop i H'/\Q (.ref D) H')\/(J.go i H'/\∃M:St->Hp->Prop,(∀σ2 H2,M σ2 H2->∃m',m'<m/\W (i+1) m' σ2 H2)/\∀x H2,J.yld i H' x H2->g b x σ' H2 λσ3 H3=>tf b σ3 H3 λk H4=>
   if k=true then te b σ3 H4 λy H5=>∃ys,H5 D=Ve (.lst ys)/\ys.length<sizeLine/\M σ3 (upd H5 D (.lst (ys++[y])))else M σ3 H4)
def Dw(wi:TI)(own:Nat)(fr:List Nat)(g:CB->TG)(tf:CB->TT)(te:CB->TE):TE:=λσ H Q=>wi σ H λJ H1=>mD J own fr g tf te Q σ H1
section
variable{X:Cx}{tg iter elt:Expr}{ifs:List Expr}{scope:Q8}{pos:Pos}{N:List Str}{own:Nat}{fr:List Nat}{wi:TI}{g:CB->TG}{tf:CB->TT}{te:CB->TE}
theorem yF(S:cG X.env.scope X.N N own fr scope)(hc:X.calm=true)(hi:PI X tg iter wi)
  (hg:∀b,PG (cxC X N scope b) tg (g b)) (hf:∀b,PF (cxC X N scope b) ifs (tf b)) (he:∀b,PE (cxC X N scope b) elt (te b)) (hs:∀x,foldedSetIterable iter X.env x=pure x) (I:Inv X pins σ H s) (h:Dw wi own fr g tf te σ H Q)
  (fin:∀(D C:OW)(oC:Obj)(m:Str->Option OX)(H':Hp)(s':O0),Inv X (pins++[(C,oC)]) σ H' s'->X.s₀.heap.objs.size<=C->(∀p∈X.pn++pins,p.1≠C)->(∀h':Pk,h'.get? C=Ve oC->h'.Ns C m)->Q (.ref D) H'->U2 (Pb X.prog X.w) X.A X.xe use R (.ref D) C (.ok .next) s') :
  wpAny (Pb X.prog X.w) X.A (comprehension (.ListComp elt [⟨tg,iter,ifs,0⟩] scope pos) scope X.env (firstIterPos [⟨tg,iter,ifs,0⟩] pos) (newList []) false (PD iter X.env) use) R X.xe s:=by
 refine wpAny_comprehension_free rfl hs (qS (S.cells I.ok)) S.kind (λx hx hk=>?_) (thn (hi pins s σ H _ I h) λv s1 h1=>thn h1 λitv s2 h2=>?_)
 ·have:=ir S.nd (show(x.1,x.2)∈scope.names from hx);rw[this,hk]
 obtain⟨it,fp,tn,J,H2,e,I2,T,st2,f2,q⟩:=h2
 subst e
 refine Ql ?_
 refine xF ?_
 have eD:(s2.heap.push { cls:=.type "list",data:=.seq #[] }).objs.size=s2.heap.objs.size+1:=P6 ..
 have hD:H2 s2.heap.objs.size=Vf:=I2.hok.fresh (Mo _)
 have hlt:∀b∈fp,b<s2.heap.objs.size:=λb hb=>by
  obtain⟨o,ho,_⟩:=T.obj 0 _ st2 b hb;exact O6 ho
 obtain⟨W,⟨m0,w0⟩,turn⟩:=q.go ⟨s2.heap.objs.size+1,fp,s2,H2⟩ s2.heap.objs.size hD
 have IX:=DC (fp:=fp) S I2 rfl rfl rfl f2 hlt
 have st4:tn 0 (QQ ((s2.heap.push { cls:=.type "list",data:=.seq #[] }).push { cls:=.type "dict",data:=.dict #[] }) scope.names):=
  T.keep 0 _ _ st2 λb _ o e=>QB _ _ _ _ (O2 _ (O2 _ e))
 have fr0:∀b∈fp,upd H2 s2.heap.objs.size (.lst []) b=Vf:=λb hb=>by
  rw[aw (MU (hlt b hb))];exact(f2 b hb).1
 have cne:∀b∈fp,∀x c,(cxC X N scope ⟨s2.heap.objs.size+1,fp,s2,H2⟩).env.cells.lookup x=Ve c->c≠b:=λb hb=>((IX.ok.exf b hb).2)
 have stat:∀{H':Hp},(∀b∈fp,H' b=Vf)->∀b∈fp,tH (cxC X N scope ⟨s2.heap.objs.size+1,fp,s2,H2⟩) [] H' b:=λhn b hb=>
  ⟨hn b hb,(IX.ok.exf b hb).1,IX.ok.Ef b hb,.inl hb,cne b hb,λp hp=>absurd (show p∈([]:List (OW×Obj))from hp) (by simp)⟩
 have e4:∀cenv:Env,cenv=newEnv scope (s2.heap.push { cls:=.type "list",data:=.seq #[] }).objs.size X.env.globals (Pz ((s2.heap.push { cls:=.type "list",data:=.seq #[] }).objs.size+1) scope.names (tT X.env scope.names)) X.env.qual Vf .none (Ve X.env) RQ->
   ({ cenv with scope:=relabel scope X.env }:Env)=(cxC X N scope ⟨s2.heap.objs.size+1,fp,s2,H2⟩).env/\cenv.locals=s2.heap.objs.size+1:=λcenv e=>by
  subst e
  rw[eD]
  exact⟨rfl,rfl⟩
 obtain⟨e5,e6⟩:=e4 _ rfl
 have loop:codeAny (Pb X.prog X.w) X.A (.compLoop (.ListComp elt [⟨tg,iter,ifs,0⟩] scope pos) 0 (.ref it) (.ref s2.heap.objs.size) (cxC X N scope ⟨s2.heap.objs.size+1,fp,s2,H2⟩).env)
   (U2 (Pb X.prog X.w) X.A X.xe use R (.ref s2.heap.objs.size) (s2.heap.objs.size+1)) { s2 with heap:=QQ ((s2.heap.push { cls:=.type "list",data:=.seq #[] }).push { cls:=.type "dict",data:=.dict #[] }) scope.names }:=by
  refine wV (λn s'=>∃i σ' H',Inv (cxC X N scope ⟨s2.heap.objs.size+1,fp,s2,H2⟩) [] σ' H' s'/\tn i s'.heap/\(∀b∈fp,H' b=Vf)/\W i n σ' H') ?_ m0 ⟨0,_,_,IX,st4,fr0,w0⟩
  rintro n s5 ⟨i,σ5,H5,I5,st5,fr5,w5⟩
  rcases turn i n σ5 H5 w5 with⟨stop,qn⟩|⟨go,M,hM,step⟩
  ·refine thn (T.done (cxC X N scope ⟨s2.heap.objs.size+1,fp,s2,H2⟩) rfl rfl rfl hc i [] s5 σ5 H5 (λ_ _=>False) I5 (stat fr5) st5 stop) λr s6 ⟨hr,I6⟩=>?_;subst hr;obtain⟨m,hn,_⟩:=I6.loc;obtain⟨oC,es,ep,hoC,hd,hk,hm⟩:=id hn;have IB:Inv X pins σ H5 s6:=I2.JR (ch:=fp) I6.os I6.base I6.hok I6.bare λb hb=>⟨(f2 b hb).2.2.2.1,(f2 b hb).2.1,(f2 b hb).2.2.2.2.1,(f2 b hb).2.2.2.2.2⟩;have young:s2.heap.objs.size<=s2.heap.objs.size+1:=NZ _;refine fin s2.heap.objs.size (s2.heap.objs.size+1) oC m H5 s6 (IB.w8 λp hp=>?_) (MC I2.sz young) (λp hp=>MU (MH (O6 (I2.pin p hp).1) young)) (λh' e=>⟨oC,es,ep,e,hd,hk,hm⟩) qn;rcases Mp.mp hp with z|z
   ·exact IB.pin p (MA _ z)
   have ep':p=(s2.heap.objs.size+1,oC):=by simpa using z
   subst ep';exact⟨hoC,I6.free,NT (MH I2.lt young),I2.JJ young,λv z=>by rw[hd]at z;cases z⟩
  refine thn (T.item (cxC X N scope ⟨s2.heap.objs.size+1,fp,s2,H2⟩) rfl rfl rfl hc i [] s5 σ5 H5 (λ_ _=>False) I5 (stat fr5) st5 go) λr s6 ⟨u,hr,h6⟩=>?_
  subst hr
  refine thn h6 λ_ s7 ⟨x,H7,I7,r7,y7,st7,fr7⟩=>?_
  have I7':=I7.pinned (stat fr7) (T.obj _ _ st7)
  refine thn (hg _ _ s7 σ5 H7 x u _ I7' r7 (step x H7 y7)) λ_ s8 ⟨σ8,H8,I8,q8⟩=>?_
  refine thn (hf _ _ s8 σ8 H8 _ I8 q8) λk s9 ⟨H9,I9,q9⟩=>?_
  have again:∀{H10:Hp}{s10:O0},Inv (cxC X N scope ⟨s2.heap.objs.size+1,fp,s2,H2⟩) ([]++tB fp s7.heap) σ8 H10 s10->M σ8 H10->
    ∃m,m<n/\∃i σ' H',Inv (cxC X N scope ⟨s2.heap.objs.size+1,fp,s2,H2⟩) [] σ' H' s10/\tn i s10.heap/\(∀b∈fp,H' b=Vf)/\W i m σ' H':=λ{H10 s10} I10 q10=>by
   obtain⟨m',hm,w10⟩:=hM σ8 H10 q10
   refine⟨m',hm,i+1,σ8,H10,I10.mW,T.keep _ _ _ st7 λb hb o e=>(I10.pin (b,o) (MA _ (MA _ (lE hb e)))).1,λb hb=>?_,w10⟩
   obtain⟨o,e,d⟩:=T.obj _ _ st7 b hb
   exact(I10.pin (b,o) (MA _ (MA _ (lE hb e)))).2.1
  cases k with
  |false=>exact again I9 q9
  |true=>
   refine thn (he _ _ s9 σ8 H9 _ I9 q9) λw10 s10 ⟨y,H10,I10,r10,ys,hys,hz,q10⟩=>?_
   refine thn (vt _ s10 σ8 H10 (.ref s2.heap.objs.size) [y] (.ref s2.heap.objs.size) [w10] (λ_ H'=>M σ8 H') I10 rfl (.cons r10 .nil) ⟨_,ys,y,rfl,rfl,hys,hz,q10⟩) λ_ s11 ⟨_,H11,I11,_,q11⟩=>?_
   exact again I11 q11
 have go:codeAny (Pb X.prog X.w) X.A (.compStart (.ListComp elt [⟨tg,iter,ifs,0⟩] scope pos) 0 (.ref it) (.ref s2.heap.objs.size) (cxC X N scope ⟨s2.heap.objs.size+1,fp,s2,H2⟩).env)
   (U2 (Pb X.prog X.w) X.A X.xe use R (.ref s2.heap.objs.size) (s2.heap.objs.size+1)) { s2 with heap:=QQ ((s2.heap.push { cls:=.type "list",data:=.seq #[] }).push { cls:=.type "dict",data:=.dict #[] }) scope.names }:=
  codeAny_compStart_list loop (T.self _ 0 _ _ _ st4 loop)
 have fin2:∀(env':Env)(L:OW),env'=(cxC X N scope ⟨s2.heap.objs.size+1,fp,s2,H2⟩).env->L=s2.heap.objs.size+1->
   codeAny (Pb X.prog X.w) X.A (.compStart (.ListComp elt [⟨tg,iter,ifs,0⟩] scope pos) 0 (.ref it) (.ref s2.heap.objs.size) env') (U2 (Pb X.prog X.w) X.A X.xe use R (.ref s2.heap.objs.size) L)
    { s2 with heap:=QQ ((s2.heap.push { cls:=.type "list",data:=.seq #[] }).push { cls:=.type "dict",data:=.dict #[] }) scope.names }:=by
  intro env' L h1 h2
  subst h1 h2
  exact go
 exact fin2 _ _ e5 e6
theorem uL(I:Inv X (pins++[(C,oC)]) σ' H' s')(hy:X.s₀.heap.objs.size<=C)(hp:∀p∈X.pn++pins,p.1≠C)(sb:Q2 C s'.heap h') :
  Inv X pins σ' H' { s' with heap:=h' }:=by
 have pC:=I.pin (C,oC) (MA _ (MA _ (by simp)))
 have I2:Inv X pins σ' H' s':=I.mW
 refine I2.turned (it:=C) (t':=s'.toks) (λb o hb e=>(sb.2 b hb).trans e) pC.2.1 pC.2.2.1 (.inr hy) (λx c e z=>?_) hp
 obtain⟨v,o,ho,hd⟩:=I2.cell x c e
 rw[z,pC.1]at ho
 cases ho
 exact pC.2.2.2.2 v hd
theorem gJ(S:cG X.env.scope X.N N own fr scope)(hc:X.calm=true)(hi:PI X tg iter wi)(hg:∀b,PG (cxC X N scope b) tg (g b))(hf:∀b,PF (cxC X N scope b) ifs (tf b))(he:∀b,PE (cxC X N scope b) elt (te b))
  (hs:∀x,foldedSetIterable iter X.env x=pure x:=by intro _;rfl):PE X (.ListComp elt [⟨tg,iter,ifs,0⟩] scope pos) (Dw wi own fr g tf te):=by
 intro pins s σ H Q I h
 rw[eval_ListComp]
 refine yF (use:=Vf) S hc hi hg hf he hs I h λD C oC m H' s' I' hy hp hm q=>?_
 have pC:=I'.pin (C,oC) (MA _ (MA _ (by simp)))
 exact⟨m,hm _ pC.1,λh' sb=>⟨.ref D,H',uL I' hy hp sb,rfl,q⟩⟩
theorem fR(S:cG X.env.scope X.N N own fr scope)(hc:X.calm=true)(hN:X.N.Nodup)(hj:X.N[j]?=Ve y)(hy:Loc X.env.scope y)(hi:PI X tg iter wi)(hg:∀b,PG (cxC X N scope b) tg (g b))(hf:∀b,PF (cxC X N scope b) ifs (tf b))
  (he:∀b,PE (cxC X N scope b) elt (te b)) (hfn:X.fn y=true\/X.env.scope.names.lookup y=Ve .local:=by first|exact .inl rfl|exact .inr rfl|assumption) (hs:∀x,foldedSetIterable iter X.env x=pure x:=by intro _;rfl)
  (hsw:SH (.ListComp elt [⟨tg,iter,ifs,0⟩] scope pos) (Ve (.Name y py)) spos.line X.env=pure true:=by rfl) :
  PS X (.Assign [.Name y py] (.ListComp elt [⟨tg,iter,ifs,0⟩] scope pos) spos) (DJ (Dw wi own fr g tf te) (jq j)):=by
 intro pins s σ H D I h
 rw[exec_Assign_Name_used _ _ _ _ hsw]
 refine OY (SX (OY ?_))
 show wpAny _ _ (do let _<-comprehension (.ListComp elt [⟨tg,iter,ifs,0⟩] scope pos) scope X.env _ (newList []) false (PD iter X.env) (Ve (assign (.Name y py) X.env))) _ _ s
 refine OY (thn (yF (use:=Ve (assign (.Name y py) X.env)) (R:=λ_ s'=>SP X pins D .next s') S hc hi hg hf he hs I h λD' C oC m H' s' I' hy' hp hm q=>?_) λ_ s' q=>O4 (O4 q))
 show wpAny _ _ (assign (.Name y py) X.env (.ref D')) _ _ s'
 refine thn (AQ hN hj hy hfn _ s' σ H' (.ref D') (.ref D') _ I' rfl q) λ_ s'' ⟨σ2,H2,I2,q2⟩=>?_
 have pC:=I2.pin (C,oC) (MA _ (MA _ (by simp)))
 exact⟨m,hm _ pC.1,λh' sb=>⟨σ2,H2,uL I2 hy' hp sb,q2⟩⟩
end
theorem PE.imp(h:PE X e t)(k:∀σ H Q,t' σ H Q->t σ H Q):PE X e t':=λpins s σ H Q I q=>h pins s σ H Q I (k σ H Q q)
theorem OpR.imp(h:OpR X f r)(k:∀x y H Q,r' x y H Q->r x y H Q):OpR X f r':=λpins s σ H x y v u Q I rx ry q=>h pins s σ H x y v u Q I rx ry (k x y H Q q)
def xW(i:Nat):TE:=λσ H Q=>match σ[i]? with
 |some (Ve v)=>Q v H
 |_=>False
section
variable{X:Cx}
theorem fv(i:Nat)(hN:X.N[i]?=Ve x:=by rfl)(hv:Vis X.env.scope x:=by first|exact Mt rfl|exact MJ (Mt rfl)|exact MJ (MJ rfl))(hd:(x==("__debug__":Str))=false:=by decide)
  (hcd:(x==("__classdict__":Str))=false:=by decide):PE X (.Name x pos) (xW i):=(Jn hN hv hd hcd).imp λσ H Q q=>by
 unfold xW at q
 cases e:σ[i]? with
 |none=>rw[e]at q;exact q.elim
 |some o=>
  cases o with
  |none=>rw[e]at q;exact q.elim
  |some v=>rw[e]at q;exact⟨v,e,q⟩
def Ma:R2:=λx y H Q=>match x,y with
 | .int i,.int j=>Q (.int (i+j)) H
 | .str a,.str b=>a.length+b.length<=sizeLine/\Q (.str (a++b)) H
 | .ref p,.ref q=>Ke (.ref p) (.ref q) H Q
 |_,_=>False
theorem bo:OpR X (PK .Add) Ma:=by
 intro pins s σ H x y v u Q I rx ry h;cases x with
 |int i=>
  cases y with
  |int j=>exact Il pins s σ H _ _ v u Q I rx ry ⟨i,j,rfl,rfl,h⟩
  |_=>exact(show False from h).elim
 |str a=>
  cases y with
  |str b=>exact zW pins s σ H _ _ v u Q I rx ry ⟨a,b,rfl,rfl,h.1,h.2⟩
  |_=>exact(show False from h).elim
 |ref p=>
  cases y with
  |ref q=>exact Ik pins s σ H _ _ v u Q I rx ry h
  |_=>exact(show False from h).elim
 |_=>cases y<;>exact(show False from h).elim
def qV(C:Int->Int->Prop)(g:Int->Int->V):R2:=λx y H Q=>match x,y with
 | .int i,.int j=>C i j/\Q (g i j) H
 |_,_=>False
def lS(g:Int->Int->V):R2:=λx y H Q=>match x,y with
 | .int i,.int j=>Q (g i j) H
 |_,_=>False
theorem OpR.qV(h:OpR X f (rI C g)):OpR X f (qV C g):=h.imp λx y H Q q=>by
 cases x with
 |int i=>
  cases y with
  |int j=>exact⟨i,j,rfl,rfl,q.1,q.2⟩
  |_=>exact(show False from q).elim
 |_=>cases y<;>exact(show False from q).elim
theorem OpR.lS(h:OpR X f (rI0 g)):OpR X f (lS g):=h.imp λx y H Q q=>by
 cases x with
 |int i=>
  cases y with
  |int j=>exact⟨i,j,rfl,rfl,q⟩
  |_=>exact(show False from q).elim
 |_=>cases y<;>exact(show False from q).elim
theorem pP:OpR X (PK .Sub) (lS λi j=>.int (i-j)):=I0.lS
theorem KQ:OpR X (PK .Mult) (qV BC λi j=>.int (i*j)):=Jq.qV
def Gz(_ j:Int):Prop:=0<j/\j<2^64
theorem E3(h:Gz 0 j):j.natAbs.log2<9000:=by
 have h1:j.natAbs<2^64:=by
  have h2:j<2^64:=h.2;have h3:0<j:=h.1;omega
 have h0:j.natAbs≠0:=by have h3:0<j:=h.1;omega
 have:=(Nat.log2_lt h0).mpr h1;omega
theorem eJ:OpR X (PK .FloorDiv) (qV Gz λi j=>.int (i/j)):=(opI λi j _ _ _ _ _ hc q=>by
 have h1:(0:Int)<j:=hc.1;exact floordiv_int (by omega) (by rw[Rc i (by omega)];exact q) (.inl (PyProof.noPylong_of_log2 (E3 hc)))).qV
theorem cF:OpR X (PK .Mod) (qV (λ_ j=>0<j) λi j=>.int (i%j)):=Jl.qV
theorem AI:OpR X (PK .Pow) (qV Kl λi j=>.int (i^j.toNat)):=HZ.qV
theorem wM:OpR X (Pg .Lt) (lS λi j=>.bl (decide (i<j))):=Kz.lS
theorem zp:OpR X (Pg .LtE) (lS λi j=>.bl (decide (i<=j))):=Kx.lS
theorem rR:OpR X (Pg .Gt) (lS λi j=>.bl (decide (j<i))):=JK.lS
theorem LK:OpR X (Pg .GtE) (lS λi j=>.bl (decide (j<=i))):=Ka.lS
mutual
inductive jn(K:OZ)(H:Hp):V->Rp->Prop where
 |non:jn K H .non .none
 |bl (b:Bool):jn K H (.bl b) (.bool b)
 |int (i:Int):jn K H (.int i) (.int i)
 |str (x:Str):jn K H (.str x) (.str x)
 |lst {a:OW}{xs:List V}{ds:List Rp} (h:SqL K H a xs) (r:mw K H xs ds):jn K H (.ref a) (.list ds)
 |tup {a:OW}{xs:List V}{ds:List Rp} (h:SqT K H a xs) (r:mw K H xs ds):jn K H (.ref a) (.tuple ds)
inductive mw(K:OZ)(H:Hp):List V->List Rp->Prop where
 |nil:mw K H [] []
 |cons {x:V}{xs:List V}{d:Rp}{ds:List Rp} (h:jn K H x d) (r:mw K H xs ds):mw K H (x::xs) (d::ds)
end
mutual
theorem Inv.reads(I:Inv X pins σ H s):∀{x:V}{d:Rp}{u:OX},jn X.K H x d->Vo x u->∃as,Reads s.heap u d as
 |_,_,_,.non,r=>by cases r;exact⟨_,.none⟩
 |_,_,_,.bl b,r=>by cases r;exact⟨_,.bool b⟩
 |_,_,_,.int i,r=>by obtain⟨t,rfl⟩:=r;exact⟨_,.int i t⟩
 |_,_,_,.str x,r=>by obtain⟨t,rfl⟩:=r;exact⟨_,.str x t⟩
 |_,_,_,.lst h q,r=>by
  cases r;obtain⟨its,rv,⟨o,n,e,hc,_,hd⟩,_⟩:=I.list h;obtain⟨as,z⟩:=I.readsAll q rv;exact⟨_,.list e hc hd (by simpa using z)⟩
 |_,_,_,.tup h q,r=>by
  cases r;obtain⟨its,rv,⟨o,e,hc,n,hd⟩,_⟩:=I.tuple h;obtain⟨as,z⟩:=I.readsAll q rv;exact⟨_,.tuple e hc hd (by simpa using z)⟩
theorem Inv.readsAll(I:Inv X pins σ H s):∀{xs:List V}{ds:List Rp}{us:List OX},mw X.K H xs ds->Vn xs us->∃as,ReadsAll s.heap us ds as
 |_,_,_,.nil,r=>by cases r;exact⟨_,.nil⟩
 |_,_,_,.cons h q,r=>by
  cases r with
  |cons r1 r2=>
   obtain⟨as,z⟩:=I.reads h r1;obtain⟨bs,z2⟩:=I.readsAll q r2;exact⟨_,.cons z z2⟩
end
def fEq(K:OZ):R2:=λx y H Q=>match x,y with
 | .ref p,.ref q=>∃d e,jn K H (.ref p) d/\jn K H (.ref q) e/\Pq d=true/\Pq e=true/\Q (.bl (QR d e)) H
 |x,y=>BG x y=true/\Q (.bl (decide (x=y))) H
def fNe(K:OZ):R2:=λx y H Q=>match x,y with
 | .ref p,.ref q=>∃d e,jn K H (.ref p) d/\jn K H (.ref q) e/\Pq d=true/\Pq e=true/\Q (.bl (!PyData.eqv d e)) H
 |x,y=>BG x y=true/\Q (.bl (!decide (x=y))) H
theorem Lx(hu:X.A.units+64<P9):OpR X (Pg .Eq) (fEq X.K):=by
 intro pins s σ H x y v u Q I rx ry h;by_cases hr:∃p q,x=V.ref p/\y=V.ref q
 ·obtain⟨p,q,rfl,rfl⟩:=hr;obtain⟨d,e,hd,he,sd,se,hq⟩:=h;obtain⟨as,z1⟩:=I.reads hd rx;obtain⟨bs,z2⟩:=I.reads he ry;exact eq_dataH z1 z2 sd se hu ⟨.bl _,H,I,rfl,hq⟩
 refine Lb pins s σ H x y v u Q I rx ry ?_;cases x<;>cases y<;>first|exact h|exact absurd ⟨_,_,rfl,rfl⟩ hr
theorem BH(hu:X.A.units+64<P9):OpR X (Pg .NotEq) (fNe X.K):=by
 intro pins s σ H x y v u Q I rx ry h;by_cases hr:∃p q,x=V.ref p/\y=V.ref q
 ·obtain⟨p,q,rfl,rfl⟩:=hr;obtain⟨d,e,hd,he,sd,se,hq⟩:=h;obtain⟨as,z1⟩:=I.reads hd rx;obtain⟨bs,z2⟩:=I.reads he ry;exact ne_dataH z1 z2 sd se hu ⟨.bl _,H,I,rfl,hq⟩
 refine JT pins s σ H x y v u Q I rx ry ?_;cases x<;>cases y<;>first|exact h|exact absurd ⟨_,_,rfl,rfl⟩ hr
def fIn(K:OZ)(neg:Bool):R2:=λx y H Q=>match y with
 | .str j=>∃i,x=.str i/\Q (.bl (if neg then !(!(PX j i 0 j.length 1).isEmpty)else !(PX j i 0 j.length 1).isEmpty)) H
 | .ref p=>∃xs,(SqL K H p xs\/SqT K H p xs)/\og x=true/\xs.all og=true/\Q (.bl (if neg then !inV x xs else inV x xs)) H
 |_=>False
theorem Li:OpR X (Pg .In) (fIn X.K false):=by
 intro pins s σ H x y v u Q I rx ry h;cases y with
 |str j=>
  obtain⟨i,rfl,q⟩:=h;exact BM pins s σ H _ _ v u Q I rx ry ⟨i,j,rfl,rfl,q⟩
 |ref p=>
  obtain⟨xs,h1,h2,h3,q⟩:=h;exact BD pins s σ H _ _ v u Q I rx ry ⟨p,xs,rfl,h1,h2,h3,q⟩
 |_=>exact(show False from h).elim
theorem vP:OpR X (Pg .Is) (λx y H Q=>y=.non/\Q (.bl (decide (x=.non))) H):=Ip
theorem F6:OpR X (Pg .IsNot) (λx y H Q=>y=.non/\Q (.bl (!decide (x=.non))) H):=Gv
inductive ixS(K:OZ)(p:OW)(i:Int)(H:Hp)(Q:VK):Prop
 |mk(xs:List V)(v:V)(h0:SqL K H p xs\/SqT K H p xs)(h1:atI xs i=Ve v)(q:Q v H):ixS K p i H Q
def fIx(K:OZ):R2:=λx y H Q=>match x,y with
 | .ref p,.int i=>ixS K p i H Q
 | .str z,.int i=>∃c,z.length<=sizeLine/\atI z.cps.toList i=Ve c/\Q (.str ⟨#[c]⟩) H
 |_,_=>False
theorem CG:IxR X (fIx X.K):=by
 intro value slice pins s σ H x y v u Q I rx ry h hs;cases x with
 |ref p=>
  cases y with
  |int i=>
   obtain⟨xs,w,h1|h1,h2,q⟩:=h
   ·exact FX value slice pins s σ H _ _ v u Q I rx ry ⟨p,xs,i,w,rfl,rfl,h1,h2,q⟩ hs
   exact HQ value slice pins s σ H _ _ v u Q I rx ry ⟨p,xs,i,w,rfl,rfl,h1,h2,q⟩ hs
  |_=>exact(show False from h).elim
 |str z=>
  cases y with
  |int i=>
   obtain⟨c,h1,h2,q⟩:=h;exact JB value slice pins s σ H _ _ v u Q I rx ry ⟨z,i,c,rfl,rfl,h1,h2,q⟩ hs
  |_=>exact(show False from h).elim
 |_=>cases y<;>exact(show False from h).elim
def Ly:V->Option Int->Option Int->Hp->VK->Prop:=λx lo hi H Q=>∃z,x=.str z/\z.length<=sizeLine/\Q (.str (Txt.slice z lo hi)) H
def Its(x:Str):It:=⟨λi _=>i<x.cps.size,λi H v H'=>H'=H/\∃c,x.cps[i]?=Ve c/\v=.str ⟨#[c]⟩,λi _=>x.cps.size<=i⟩
theorem EX{P:Program}{w:O7}{K:Qu}{tg:Expr}{T:String}(hT:T="str_ascii_iterator"\/T="str_iterator")(it:OW)(x:Str)(t:Tok):VH P w K tg (Its x) [it] it (λi h=>i<=x.cps.size/\h.IsStrIter it T x t i) where
 mem:=by simp
 obj:=λi h st b hb=>by
  have e:b=it:=by simpa using hb
  subst e;obtain⟨_,o,e,c,d⟩:=st;exact⟨o,e,λv z=>by rw[d]at z;cases z⟩
 keep:=λi h h' st k=>by
  obtain⟨hi,o,e,r⟩:=st;exact⟨hi,o,k it (by simp) o e,r⟩
 item:=by
  intro X hP hw hK hc i pins s σ H E I hf st hg;subst hP hw hK;obtain⟨f0,f1,f2,f3,f4,f5⟩:=hf it (by simp);have W:Walks X.prog X.w X.A it [it] [it] x.cps.size (SignAt x) (λi h=>h.IsStrIter it T x t i):=by
   rcases hT with rfl|rfl
   ·exact U3 (I.ok.hd hc) it x t
   exact Walks.strWide (I.ok.hd hc) it x t
  refine W.item i s _ _ hg st.2 λv h' tk hv st' kk=>?_;obtain⟨c,u,hcp,rfl⟩:=hv;have I1:Inv X pins σ H { s with heap:=h',toks:=tk }:=I.turned (λb o hb e=>kk b o (by simpa using hb) e) f0 f1 f3 f4 f5;obtain⟨o,e,c',d⟩:=id st';refine⟨_,rfl,A8 (s:={ s with heap:=h',toks:=tk }) e c' d (by rcases hT with rfl|rfl<;>decide) ⟨.str ⟨#[c]⟩,H,I1,⟨u,rfl⟩,⟨rfl,c,hcp,rfl⟩,⟨hg,st'⟩,λb hb=>(hf b hb).1⟩⟩
 done:=by
  intro X hP hw hK hc i pins s σ H E I hf st hg;subst hP hw hK;obtain⟨f0,f1,f2,f3,f4,f5⟩:=hf it (by simp);have W:Walks X.prog X.w X.A it [it] [it] x.cps.size (SignAt x) (λi h=>h.IsStrIter it T x t i):=by
   rcases hT with rfl|rfl
   ·exact U3 (I.ok.hd hc) it x t
   exact Walks.strWide (I.ok.hd hc) it x t
  have e:i=x.cps.size:=Nat.le_antisymm st.1 hg;subst e;exact W.done s _ _ st.2 λh' tk kk=>⟨rfl,I.turned (λb o hb e=>kk b o (by simpa using hb) e) f0 f1 f3 f4 f5⟩
 self:=λA i s Q E st h=>by
  rcases hT with rfl|rfl
  ·exact wpAny_pyIter_striter_ascii st.2 h
  exact wpAny_pyIter_striter_wide st.2 h
def Ll(K:OZ)(tl:TE):TI:=λσ H R=>tl σ H λx H1=>match x with
 | .ref a=>((∃xs,SqL K H1 a xs)/\R (Itl K a) H1)\/((∃xs,SqT K H1 a xs)/\R (Itt K a) H1)
 | .str z=>R (Its z) H1
 |_=>False
theorem cA(hl:PE X l tl):PI X tg l (Ll X.K tl):=by
 intro pins s σ H R I h;refine thn (hl pins s σ H _ I h) λv s1 ⟨x,H1,I1,r1,q1⟩=>?_;cases x with
 |ref a=>
  cases r1;rcases q1 with⟨⟨xs,hq⟩,q⟩|⟨⟨xs,hq⟩,q⟩
  ·obtain⟨its,rv,p,hz⟩:=I1.list hq;refine Rv p.isList ?_;refine⟨s1.heap.objs.size,[s1.heap.objs.size],_,_,H1,rfl,I1.kept (t':=s1.toks) λb o e=>O2 _ e,BF a _,⟨_,Pe _ rfl,rfl,rfl⟩,λb hb=>?_,q⟩;have e:b=s1.heap.objs.size:=by simpa using hb
   subst e;exact I1.uE (Mo _) (I1.hok.fresh (Mo _))
  obtain⟨its,rv,p,hz⟩:=I1.tuple hq;refine Ti (show s1.heap.IsTuple a its.toArray from p) ?_;refine⟨s1.heap.objs.size,[s1.heap.objs.size],_,_,H1,rfl,I1.kept (t':=s1.toks) λb o e=>O2 _ e,Aa a _,⟨_,Pe _ rfl,rfl,rfl⟩,λb hb=>?_,q⟩;have e:b=s1.heap.objs.size:=by simpa using hb
  subst e;exact I1.uE (Mo _) (I1.hok.fresh (Mo _))
 |str z=>
  obtain⟨t,rfl⟩:=r1;refine wpAny_pyIter_strU ?_;refine⟨s1.heap.objs.size,[s1.heap.objs.size],_,_,H1,rfl,I1.kept (t':=s1.toks) λb o e=>O2 _ e,EX (T:=strIterType z) ?_ _ z t,⟨MB _,_,Pe _ rfl,rfl,rfl⟩,λb hb=>?_,q1⟩
  ·unfold strIterType;split
   ·exact .inl rfl
   exact .inr rfl
  have e:b=s1.heap.objs.size:=by simpa using hb
  subst e;exact I1.uE (Mo _) (I1.hok.fresh (Mo _))
 |_=>exact(show False from q1).elim
theorem bR(ha:PE X a ta)(he:∀whole,isTrue a X.env whole=(do let v<-whole;TK a.pos;QA [v] (truthy v))) :
  PT X a (λσ H Q=>ta σ H λx H'=>Ei X.K x H' Q):=Et ha he
theorem FF(ha:PE X a ta):PE X (.UnaryOp .Not a pos) (λσ H Q=>ta σ H λx H1=>∃k,Kv X.K x H1 k/\Q (.bl (!k)) H1):=by
 intro pins s σ H Q I h;refine UnaryOp_ (thn (ha pins s σ H _ I h) λv s1 ⟨x,H1,I1,r1,q1⟩=>?_);obtain⟨k,ht,q⟩:=q1;exact not_of (thn (CF pins s1 σ H1 x v (λb H2=>Q (.bl (!b)) H2) I1 r1 ⟨k,ht,q⟩) λb s2 ⟨H2,I2,q2⟩=>⟨.bl (!b),H2,I2,rfl,q2⟩)
inductive Gg(K:OZ)(xs:List V)(H:Hp)(Q:VK):Prop
 |mk(x:V)(n:Nat)(h0:xs=[x])(h1:Ku K x H n)(q:Q (.int n) H):Gg K xs H Q
theorem KW:dR X (.builtin "len") (Gg X.K):=λpins s σ H xs us Q I r ⟨x,n,h0,h1,q⟩=>EE pins s σ H xs us Q I r ⟨x,n,h0,h1,q⟩
theorem ki:dR X (.type "list") (λxs H Q=>∃p ys,xs=[.ref p]/\(SqL X.K H p ys\/SqT X.K H p ys)/\∀l,H l=Vf->Q (.ref l) (upd H l (.lst ys))):=xi
theorem BY{bs:List Bool}{its:List OX}(r:Vn (bs.map V.bl) its){i:Nat}{v:OX}(h:its[i]?=Ve v):∃b,bs[i]?=Ve b/\v=.bool b:=by
 have hi:i<its.length:=(Ml.mp h).1;have hl:=r.length;rw[Mj]at hl;have hb:bs[i]?=Ve bs[i]:=Mh (by omega);obtain⟨u,hu,ru⟩:=r.get (i:=i) (x:=V.bl bs[i]) (by rw[Mu,hb];rfl);rw[h]at hu;cases hu;exact⟨_,hb,ru⟩
theorem GG(hc:X.calm=true:=by rfl):dR X (.builtin "all") (λxs H Q=>∃(p:OW)(bs:List Bool),xs=[.ref p]/\SqL X.K H p (bs.map V.bl)/\Q (.bl (bs.all id)) H):=by
 intro pins s σ H xs us Q I r h;obtain⟨p,bs,rfl,hq,q⟩:=h;obtain⟨u,rfl,rx⟩:=Vy r;cases rx;obtain⟨its,rv,pl,hz⟩:=I.list hq;have hl:=pl.isList;have hlt:p<s.heap.objs.size:=by obtain⟨_,e,_⟩:=hl;exact O6 e
 have hlen:its.toArray.size=bs.length:=by have:=rv.length;rw[Mj]at this;rw[My];omega
 refine call_all_walk (Rv hl ?_);refine⟨s.heap.objs.size,[s.heap.objs.size,p],[s.heap.objs.size],its.toArray.size,_,_,λi=>(bs[i]?).getD true,rfl,Walks.list (A:=X.A.in1) (I.ok.hd hc) _ p (MU hlt) its.toArray,
  ⟨⟨_,Pe _ rfl,rfl,rfl⟩,hl.push _⟩,λi v s' Q' E' hP hQ=>?_,λh' tk hk=>?_⟩
 ·obtain⟨b,e,rfl⟩:=BY rv (by simpa using hP);simp only[e,Ur]at hQ;exact PJ hQ
 rw[hlen,LSm.range_all bs];exact⟨.bl _,H,I.kept (LSm.kept_iter hk),rfl,q⟩
noncomputable def FD:V->OX
 | .ty n=>.type n
 | .ref a=>.ref a
 |_=>.none
theorem Dr(r:Vo y u)(h:FD y≠ .none):u=FD y:=by
 cases y with
 |ty n=>exact r
 |ref a=>exact r
 |_=>exact absurd rfl h
inductive HF(K:OZ)(xs:List V)(H:Hp)(Q:VK):Prop
 |mk(x y:V)(t:OX)(b:Bool)(h0:xs=[x,y])(h1:FD y≠ .none)(h2:lU K H x t)(h3:PL K t (FD y)=Ve b)(q:Q (.bl b) H):HF K xs H Q
theorem bD:dR X (.builtin "isinstance") (HF X.K):=by
 intro pins s σ H xs us Q I r h;obtain⟨x,y,t,b,rfl,hy,ty,e,q⟩:=h;obtain⟨u,w',rfl,rx,ry⟩:=VD r;rw[Dr ry hy];exact BW I rx ty e λtk=>⟨.bl b,H,I.tok _,rfl,q⟩
theorem cN(ho:PE X o to)(ha:PA X [e] t)(hbase:P4 o "append" X.env (PD o X.env)=PD o X.env:=by rfl)
  (hfew:((PR cpos (O5 [e] X.env)).all (λx=>!x.1)&&(Rh cpos (Qq [] X.env)).all (λx=>x.1.isSome)
   &&decide ([e].length+([]:List QS).length+(if([]:List QS).isEmpty then 0 else 1)<30))=true:=by rfl)
  (hline:(apos.endLine==cpos.line)=true:=by rfl) (hs:O5 [e] X.env=(false,PD e X.env)::O5 [] X.env:=by rfl) (hplain:(PR cpos (O5 [] X.env)).any (·.1)=false:=by rfl) :
  PE X (.Call (.Attribute o "append" apos) [e] [] cpos) (tBM X.K "list" vG to t):=GX RK PySem.F.slot_list_append PySem.F.type_list_append vt ho ha hbase hfew hline hs hplain
end
def Has(P:Program)(w:O7)(K:OZ)(mg:Str->Option OX)(base:Pk)(k:Nat)(x:Str)(ps:List Str)(sp:Sp):Prop:=
 ∃f fd,kX P w K mg base CX0 k f fd ps sp/\Vr K fd ps []/\Qy K (.ref f)=true/\mg x=Ve (.ref f)/\∃oc od osl,K.lookup f=Ve ⟨oc,od,.func fd,osl⟩
structure bE(K:OZ)(mg:Str->Option OX)(x:Str)(st:Pj)(ps:List Str):Prop where
 ex:∃f fd,Fun K x x st f fd/\Vr K fd ps []/\mg x=Ve (.ref f)
theorem ar(D:Has X.prog X.w X.K X.mg X.base j x ps sp)(hr:ft k X.A)(ha:PA X (e::es) t)(hj:j<=k:=by decide)(hg:Gl X x:=by rfl)
  (hdb:(x==("__debug__":Str))=false:=by decide) (he:O5 (e::es) X.env=(false,PD e X.env)::O5 es X.env:=by rfl) (hpl:(PR pos (O5 es X.env)).any (·.1)=false:=by rfl) :
  PE X (.Call (.Name x p) (e::es) [] pos) (Dv sp [] E0 t):=by
 obtain⟨f,fd,F,b,kp,m,_⟩:=D
 exact FJ F (hr.mono hj) hg m kp b .nil yk ha hdb he hpl
abbrev bE.Hz{K:OZ}{mg:Str->Option OX}{x:Str}{st:Pj}{ps:List Str}(_:bE K mg x st ps)(P:Program)(w:O7)(base:Pk)(k:Nat)(sp:Sp):Prop:=L2.Has P w K mg base k x ps sp
theorem bE.hs{P:Program}{w:O7}{K:OZ}{mg:Str->Option OX}{base:Pk}{x:Str}{st:Pj}{N ps:List Str}{k:Nat}{sp:Sp}(F:bE K mg x st ps)(S:az N ps (av st))
  (hbody:∀(f:OW)(cdv:OX)(A:Py)(outer:List Env)(s:O0)(H:Hp)(vs:List V)(Q:VK)(E:XK),ft k (A.deeper (QX x (av st) s.heap.objs.size f cdv))->(A.deeper (QX x (av st) s.heap.objs.size f cdv)).units+64<P9->sp vs H Q E->
   ∃t,PSs (y9 CX0 P w K mg base N x (av st) f cdv A outer s H E).nox (dB st) t/\t { nx:=λ_ H'=>Q .non H',rt:=Q } (Vv N vs) H) (len:∀vs H Q E,sp vs H Q E->vs.length=ps.length:=by intro _ _ _ _ h;cases h;subst_vars;rfl):Has P w K mg base (k+1) x ps sp:=by
 obtain⟨f,fd,F,b,m⟩:=F.ex
 obtain⟨oc,od,kV,doc,pm,an,cdv,ct,osl,e,lk,hcd⟩:=F.ex
 exact⟨f,fd,F.ok S len λcdv A outer s H vs Q E hr h=>hbody f cdv A outer s H vs Q E hr hr.units h,b,F.kp,m,oc,od,osl,lk⟩
theorem ao.upd(h:H p=Vf)(o:HO):ao H (upd H p o):=λb u q=>by rw[aw (cz q h)];exact q
theorem ao.tup{K:OZ}{H H':Hp}{a:OW}{xs:List V}(e:ao H H')(h:SqT K H a xs):SqT K H' a xs:=by
 rcases h with(h|⟨o,h⟩)|h
 ·exact .inl (.inl (e _ _ h))
 ·exact .inl (.inr ⟨o,e _ _ h⟩)
 exact .inr h
mutual
theorem ao.rep{K:OZ}{H H':Hp}(e:ao H H'):∀{x:V}{d:Rp},jn K H x d->jn K H' x d
 |_,_,.non=>.non
 |_,_,.bl b=>.bl b
 |_,_,.int i=>.int i
 |_,_,.str x=>.str x
 |_,_,.lst h r=>.lst (e.seq h) (e.zR r)
 |_,_,.tup h r=>.tup (e.tup h) (e.zR r)
theorem ao.zR{K:OZ}{H H':Hp}(e:ao H H'):∀{xs:List V}{ds:List Rp},mw K H xs ds->mw K H' xs ds
 |_,_,.nil=>.nil
 |_,_,.cons h r=>.cons (e.rep h) (e.zR r)
end
noncomputable def cFr(fr:List Nat)(σ:St):St:=fr.map λj=>(σ[j]?).getD Vf
theorem sE{x:Nat->V}{tf:CB->TT}{te:CB->TE}{Q:VK}{σ:St}{H1:Hp}(p:Nat->Bool)(f:Nat->V)(hn:n<sizeLine)
  (stop:∀H,ao H1 H->J.stop n H) (go:∀i H,i<n->ao H1 H->J.go i H) (yld:∀i H v H',i<n->ao H1 H->J.yld i H v H'->H'=H/\v=x i)
  (hf:∀b i H (R:Bool->Hp->Prop),i<n->ao H1 H->(∀H',ao H H'->R (p i) H')->tf b (Ve (x i)::cFr fr σ) H R)
  (he:∀b i H (R:VK),i<n->p i=true->ao H1 H->(∀H',ao H H'->R (f i) H')->te b (Ve (x i)::cFr fr σ) H R)
  (fin:∀D H,H1 D=Vf->ao H1 H->H D=Ve (.lst (((Pc n).filter p).map f))->Q (.ref D) H):mD J 1 fr (λ_=>jq 0) tf te Q σ H1:=by
 refine⟨λb D hD=>?_⟩
 have lenf:∀i,(((Pc i).filter p).map f).length<=i:=λi=>by
  rw[Mj];exact MC (Nd _ _) (OP Oj)
 refine⟨λi m σ' H'=>m=n-i/\i<=n/\(∃v0,σ'=v0::cFr fr σ)/\ao H1 H'/\H' D=Ve (.lst (((Pc i).filter p).map f)),⟨n,rfl,MB _,⟨Vf,rfl⟩,ao.upd hD _,aj⟩,?_⟩
 rintro i m σ' H' ⟨rfl,hi,⟨v0,rfl⟩,sm,hl⟩
 by_cases hlt:i<n
 ·refine .inr ⟨go i H' hlt sm,λσ2 H2=>(∃v0,σ2=v0::cFr fr σ)/\ao H1 H2/\H2 D=Ve (.lst (((Pc (i+1)).filter p).map f)),λσ2 H2 q=>⟨n-(i+1),by omega,rfl,hlt,q⟩,λv H2 y=>?_⟩;obtain⟨rfl,rfl⟩:=yld i H' v H2 hlt sm y;show tf b (Ve (x i)::cFr fr σ) _ _;refine hf b i _ _ hlt sm λH3 s3=>?_;have e1:(Pc (i+1)).filter p=(Pc i).filter p++(if p i then[i]else[]):=by
   rw[OM,Tn];congr 1;cases hp:p i<;>simp[hp]
  cases hp:p i with
  |false=>
   rw[if_neg Mw];refine⟨⟨_,rfl⟩,sm.trans s3,?_⟩;rw[s3 _ _ hl,e1,hp];simp
  |true=>
   rw[if_pos rfl];refine he b i _ _ hlt hp (sm.trans s3) λH4 s4=>⟨_,s4 _ _ (s3 _ _ hl),?_,⟨_,rfl⟩,?_,?_⟩
   ·exact Oe (lenf i) (Nat.lt_trans hlt hn)
   ·have sm4:ao H1 H4:=sm.trans (s3.trans s4);intro c o q;by_cases hc:c=D
    ·rw[hc,hD]at q;cases q
    rw[aw hc];exact sm4 c o q
   rw[aj,e1,hp];simp
 have e:i=n:=by omega
 subst e
 exact .inl ⟨stop H' sm,fin D H' hD sm hl⟩
theorem rN{lo:Int}{n:Nat}{fr:List Nat}{tf:CB->TT}{te:CB->TE}{Q:VK}{σ:St}{H1:Hp}(p:Nat->Bool)(f:Nat->V)(hn:n<sizeLine)
  (hf:∀b i H (R:Bool->Hp->Prop),i<n->ao H1 H->(∀H',ao H H'->R (p i) H')->tf b (Ve (.int (lo+i))::cFr fr σ) H R)
  (he:∀b i H (R:VK),i<n->p i=true->ao H1 H->(∀H',ao H H'->R (f i) H')->te b (Ve (.int (lo+i))::cFr fr σ) H R)
  (fin:∀D H,H1 D=Vf->ao H1 H->H D=Ve (.lst (((Pc n).filter p).map f))->Q (.ref D) H):mD (Itr lo n) 1 fr (λ_=>jq 0) tf te Q σ H1:=
 sE (x:=λi=>.int (lo+i)) p f hn (λ_ _=>Mo _) (λ_ _ h _=>h) (λ_ _ _ _ _ _ y=>y) hf he fin
theorem map_range{α:Type}{β:Type}(xs:List α)(d:α)(f:α->β):(Pc xs.length).map (λi=>f (xs.getD i d))=xs.map f:=by
 apply Ol;intro i;rw[Mu,Mu];by_cases h:i<xs.length
 ·rw[NM h,Mh h];simp[List.getD,Mh h]
 rw[MW (by simpa using h),MW (by simpa using h)];rfl
theorem vJ{α:Type}{β:Type}(p:α->Bool)(f:α->β)(d:α):∀(xs:List α),((Pc xs.length).filter λi=>p (xs.getD i d)).map (λi=>f (xs.getD i d))=(xs.filter p).map f:=by
 intro xs;have e:=map_range xs d id;have e2:xs=(Pc xs.length).map λi=>xs.getD i d:=by simpa using e.symm
 have e3:xs.filter p=((Pc xs.length).filter λi=>p (xs.getD i d)).map λi=>xs.getD i d:=by
  conv=>lhs;rw[e2]
  rw[Ov];rfl
 rw[e3,NV];rfl
theorem fA{K:OZ}{a:OW}{xs:List V}{fr:List Nat}{tf:CB->TT}{te:CB->TE}{Q:VK}{σ:St}{H1:Hp}(p:V->Bool)(f:V->V)(hx:SqL K H1 a xs)(hn:xs.length<sizeLine)
  (hf:∀b x H (R:Bool->Hp->Prop),x∈xs->ao H1 H->(∀H',ao H H'->R (p x) H')->tf b (Ve x::cFr fr σ) H R)
  (he:∀b x H (R:VK),x∈xs->p x=true->ao H1 H->(∀H',ao H H'->R (f x) H')->te b (Ve x::cFr fr σ) H R)
  (fin:∀D H,H1 D=Vf->ao H1 H->H D=Ve (.lst ((xs.filter p).map f))->Q (.ref D) H):mD (Itl K a) 1 fr (λ_=>jq 0) tf te Q σ H1:=by
 have mem:∀i,i<xs.length->xs.getD i .non∈xs:=λi h=>by
  rw[MQ,Mh h];exact List.getElem_mem h
 refine sE (x:=λi=>xs.getD i .non) (λi=>p (xs.getD i .non)) (λi=>f (xs.getD i .non)) hn (λH s=>⟨xs,s.seq hx,Mo _⟩) (λi H h s=>⟨xs,xs[i],s.seq hx,Mh h⟩)
  (λi H v H' h s y=>⟨y.1,?_⟩) (λb i H R h s k=>hf b _ H R (mem i h) s k) (λb i H R h hp s k=>he b _ H R (mem i h) hp s k) λD H hD s e=>fin D H hD s ?_
 ·have:=y.2 xs (s.seq hx);rw[MQ,this];rfl
 rw[e,vJ p f]
section
variable{X:Cx}
def Ia(K:OZ):V->Option Int->Option Int->Hp->VK->Prop:=λx lo hi H Q=>G9 K x lo hi H Q\/HX K x lo hi H Q
theorem IE:SlR X (Ia X.K):=Fb.or Jx
end
theorem DK{α:Type}(f:α->V)(xs:List α)(lo hi:Option Int):hE (xs.map f) lo hi=((xs.drop (HT.sIx xs.length 0 lo)).take (HT.sIx xs.length xs.length hi-HT.sIx xs.length 0 lo)).map f:=by
 unfold hE;rw[Mj,List.map_take,List.map_drop]
theorem DM{K:OZ}{mg:Str->Option OX}{h:Pk}{x:Str}{st:Pj}{ps:List Str}{f:OW}{oc:OX}{od an:Option OW}{osl:Array (Option OX)}{kV doc pm cdv ct:OX}(X:K.In h)(G:h.Ns Pf mg)
  (a:To K Pf x=Ve (Ve (.ref f))) (l:K.lookup f=Ve ⟨oc,od,.func (QF x x (eP st) (dB st) (av st) .none kV doc pm an cdv ct),osl⟩) (c:Ss K cdv x=true) (k:Qy K (.ref f)=true)
  (hb:∀(kV doc pm:OX)(an:Option OW)(cdv ct:OX)(us:List OX),us.length=ps.length->Sr (QF x x (eP st) (dB st) (av st) .none kV doc pm an cdv ct) ⟨us,[]⟩=pure (ps.zip us)):bE K mg x st ps:=
 ⟨f,_,vE l c k,(vE l c k).binds hb,R7 X G a⟩
theorem HB{P:Program}{w:O7}{K:OZ}{mg:Str->Option OX}{base:Pk}{k:Nat}{x:Str}{ps:List Str}{sp:Sp}{f:OW}{oc:OX}{od:Option OW}{osl:Array (Option OX)}{fd:Qa}(D:Has P w K mg base k x ps sp)(m:mg x=Ve (.ref f))
  (l:K.lookup f=Ve ⟨oc,od,.func fd,osl⟩):kX P w K mg base CX0 k f fd ps sp:=by
 obtain⟨g,gd,F,b,kp,mg',_,_,_,l'⟩:=id D
 rw[m]at mg'
 cases mg'
 rw[l]at l'
 cases l'
 exact F
section
variable{prog:Program}{w:O7}{A:Py}{R:Result->O0->Prop}{I l:OW}{its:Array OX}{ns:List Int}{St:Nat->Pk->Prop}{fp wr:List OW}{d:OX}
end
section
variable{X:Cx}
theorem Iy:SlR X Ly:=by
 intro pins s σ H x v vl vu lo hi sl Q I rx hs pl pu h;obtain⟨z,rfl,hz,q⟩:=h;obtain⟨t,rfl⟩:=rx;have fin:∀t' k,EP X pins σ Q (.str (Txt.slice z lo hi) t') { s with toks:=k }:=λt' k=>⟨.str _,H,I.tok _,⟨_,rfl⟩,q⟩;have len:=MC (Txt.slice_le z lo hi) hz;obtain⟨o,ho,hc,hd⟩:=hs;refine⟨"str",_,PySem.F.slot_str_getitem.lookup,Ta _ _ _,?_⟩;cases pl with
 |none=>
  cases pu with
  |none=>exact Qd (l:=PV) (u:=PV) (st:=PV) ⟨o,ho,hc,hd⟩ rfl (QZ ⟨len,λt' k=>fin t' k⟩)
  |int j uj=>exact Qd (l:=PV) (u:=Ve (j,uj)) (st:=PV) ⟨o,ho,hc,hd⟩ rfl (QZ ⟨len,λt' k=>fin t' k⟩)
 |int i ui=>
  cases pu with
  |none=>exact Qd (l:=Ve (i,ui)) (u:=PV) (st:=PV) ⟨o,ho,hc,hd⟩ rfl (QZ ⟨len,λt' k=>fin t' k⟩)
  |int j uj=>exact Qd (l:=Ve (i,ui)) (u:=Ve (j,uj)) (st:=PV) ⟨o,ho,hc,hd⟩ rfl (QZ ⟨len,λt' k=>fin t' k⟩)
def fSl(K:OZ):V->Option Int->Option Int->Hp->VK->Prop:=λx lo hi H Q=>match x with
 | .str z=>z.length<=sizeLine/\Q (.str (Txt.slice z lo hi)) H
 |x=>G9 K x lo hi H Q\/HX K x lo hi H Q
theorem dS:SlR X (fSl X.K):=by
 intro pins s σ H x v vl vu lo hi sl Q I rx hs pl pu h;by_cases hx:∃z,x=.str z
 ·obtain⟨z,rfl⟩:=hx;exact Iy pins s σ H _ v vl vu lo hi sl Q I rx hs pl pu ⟨z,rfl,h.1,h.2⟩
 refine IE pins s σ H x v vl vu lo hi sl Q I rx hs pl pu ?_;cases x<;>first|exact h|exact absurd ⟨_,rfl⟩ hx
theorem Ax(hc:X.calm=true:=by rfl):dR X (.builtin "max") (λxs H Q=>∃i j,xs=[.int i,.int j]/\Q (.int (if j>i then j else i)) H):=Cc hc
theorem GI(hc:X.calm=true:=by rfl):dR X (.builtin "min") (λxs H Q=>∃i j,xs=[.int i,.int j]/\Q (.int (if j<i then j else i)) H):=Cw hc
theorem qY(h:∃t,X.mg x=Ve (.int z t))(hg:Gl X x:=by rfl)(hd:(x==("__debug__":Str))=false:=by decide):PE X (.Name x pos) (tC (.int z)):=by
 obtain⟨t,e⟩:=h;exact Bj hg e ⟨t,rfl⟩ hd
end
section
variable{X:Cx}{tg:Expr}
theorem Aj(h:Cq u=Ve x):Vo x u:=by
 cases u with
 |none=>cases h;rfl
 |bool b=>cases h;rfl
 |int i t=>cases h;exact⟨t,rfl⟩
 |str y t=>cases h;exact⟨t,rfl⟩
 |bytes y t=>cases h;exact⟨t,rfl⟩
 |float y t=>cases h;exact⟨t,rfl⟩
 |ref a=>cases h;rfl
 |type n=>cases h;rfl
 |_=>cases h
theorem qB:∀{xs:List V}{us:List OX},us.map Cq=xs.map Ve->Vn xs us
 | [],[],_=>.nil
 | [],_::_,h=>by cases h
 |_::_,[],h=>by cases h
 |x::xs,u::us,h=>by
  rw[Mv,Mv]at h;exact .cons (Aj (RB h).1) (qB (RB h).2)
theorem AJ{K:OZ}{a:OW}{o:Obj}{its:Array OX}{n:Nat}{xs:List V}(h:K.lookup a=Ve o)(hc:o.cls=.type "tuple")(hd:o.data=.seq its n)(hz:its.size<=sizeLine)(hv:its.toList.map Cq=xs.map Ve)(H:Hp):SqT K H a xs:=
 .inr ⟨o,its,n,h,hc,hd,hz,qB hv⟩
theorem cU(h:X.mg x=Ve (.ref a))(hg:Gl X x:=by rfl)(hd:(x==("__debug__":Str))=false:=by decide):PE X (.Name x pos) (tC (.ref a)):=Bj hg h rfl hd
end
theorem tN{x:Nat->V}{te:CB->TE}{Q:VK}{σ:St}{H1:Hp}(R:Nat->V->Hp->Prop)(hn:n<sizeLine)
  (stop:∀H,ao H1 H->J.stop n H) (go:∀i H,i<n->ao H1 H->J.go i H) (yld:∀i H v H',i<n->ao H1 H->J.yld i H v H'->H'=H/\v=x i)
  (he:∀b i H (G:VK),i<n->ao H1 H->(∀y H',ao H H'->R i y H'->G y H')->te b (Ve (x i)::cFr fr σ) H G)
  (mono:∀i y H H',ao H H'->R i y H->R i y H') (st:∀i y H D ys zs,H D=Ve (.lst ys)->R i y H->R i y (upd H D (.lst zs)))
  (fin:∀D H ys,H1 D=Vf->ao H1 H->H D=Ve (.lst ys)->ys.length=n->(∀(i:Nat) y,ys[i]?=Ve y->R i y H)->Q (.ref D) H):mD J 1 fr (λ_=>jq 0) (λ_=>Ja) te Q σ H1:=by
 refine⟨λb D hD=>?_⟩
 refine⟨λi m σ' H'=>m=n-i/\i<=n/\(∃v0,σ'=v0::cFr fr σ)/\ao H1 H'/\∃ys,H' D=Ve (.lst ys)/\ys.length=i/\∀(j:Nat) y,ys[j]?=Ve y->R j y H',⟨n,rfl,MB _,⟨Vf,rfl⟩,ao.upd hD _,[],aj,rfl,λj y h=>by cases h⟩,?_⟩
 rintro i m σ' H' ⟨rfl,hi,⟨v0,rfl⟩,sm,ys,hl,hy,hR⟩
 by_cases hlt:i<n
 ·refine .inr ⟨go i H' hlt sm,λσ2 H2=>(∃v0,σ2=v0::cFr fr σ)/\ao H1 H2/\∃ys,H2 D=Ve (.lst ys)/\ys.length=i+1/\∀(j:Nat) y,ys[j]?=Ve y->R j y H2,λσ2 H2 q=>⟨n-(i+1),by omega,rfl,hlt,q⟩,λv H2 y=>?_⟩;obtain⟨rfl,rfl⟩:=yld i H' v H2 hlt sm y;refine he b i _ _ hlt sm λz H4 s4 rz=>⟨ys,s4 _ _ hl,by omega,⟨_,rfl⟩,?_,ys++[z],aj,by simp[hy],λj y' hj=>?_⟩
  ·intro c o q;by_cases hc:c=D
   ·rw[hc,hD]at q;cases q
   rw[aw hc];exact(sm.trans s4) c o q
  have hD4:=s4 _ _ hl;by_cases hji:j<ys.length
  ·rw[Nn hji]at hj;exact st _ _ _ _ _ _ hD4 (mono _ _ _ _ s4 (hR j y' hj))
  by_cases e:j=ys.length
  ·subst e;rw[Nt (Mo _)]at hj;simp at hj;subst hj;rw[hy];exact st _ _ _ _ _ _ hD4 rz
  rw[MW (by simp;omega)]at hj;cases hj
 have e:i=n:=by omega
 subst e
 exact .inl ⟨stop H' sm,fin D H' ys hD sm hl hy hR⟩
section
variable{P:Program}{w:O7}{K:OZ}{mg:Str->Option OX}{base:Pk}
structure MFn(K:OZ)(C:OW)(m qual:Str)(st:Pj)(ps:List Str):Prop where
 ex:∃f fd,Fun K m qual st f fd/\Vr K fd ps []/\VL K C m f
def kh(P:Program)(w:O7)(K:OZ)(mg:Str->Option OX)(base:Pk)(k:Nat)(C:OW)(m:Str)(ps:List Str)(sp:Sp):Prop:=
 ∃f fd,kX P w K mg base CX0 k f fd ps sp/\Vr K fd ps []/\VL K C m f
abbrev MFn.Hz{C:OW}{m qual:Str}{st:Pj}{ps:List Str}(_:MFn K C m qual st ps)(P:Program)(w:O7)(mg:Str->Option OX)(base:Pk)(k:Nat)(sp:Sp):Prop:=kh P w K mg base k C m ps sp
theorem MFn.hs{C:OW}{m qual:Str}{st:Pj}{N ps:List Str}{k:Nat}{sp:Sp}(F:MFn K C m qual st ps)(S:az N ps (av st))
  (hbody:∀(f:OW)(cdv:OX)(A:Py)(outer:List Env)(s:O0)(H:Hp)(vs:List V)(Q:VK)(E:XK),ft k (A.deeper (QX qual (av st) s.heap.objs.size f cdv))->(A.deeper (QX qual (av st) s.heap.objs.size f cdv)).units+64<P9->sp vs H Q E->
   ∃t,PSs (y9 CX0 P w K mg base N qual (av st) f cdv A outer s H E).nox (dB st) t/\t { nx:=λ_ H'=>Q .non H',rt:=Q } (Vv N vs) H) (len:∀vs H Q E,sp vs H Q E->vs.length=ps.length:=by intro _ _ _ _ h;cases h;subst_vars;rfl):kh P w K mg base (k+1) C m ps sp:=by
 obtain⟨f,fd,F,b,m⟩:=F.ex
 exact⟨f,fd,F.ok S len λcdv A outer s H vs Q E hr h=>hbody f cdv A outer s H vs Q E hr hr.units h,b,m⟩
theorem Has.imp(D:Has P w K mg base k x ps sp)(h:∀vs H Q E,sp' vs H Q E->sp vs H Q E):Has P w K mg base k x ps sp':=by
 obtain⟨f,fd,F,b⟩:=D;exact⟨f,fd,F.imp h,b⟩
structure eY(K:OZ)(mg:Str->Option OX)(C:OW)(x:Str)(up:List OW):Prop where
 mg:mg x=Ve (.ref C)
 cl:Cls K C
 mro:∃cd,W.clsIn K C=Ve cd/\cd.mro=up.map O8++[QM "object"]
 ty:W.typeIn K (.ref C)=Ve (.type "type")
 kc:PQ K (.ref C) "__class__"=Ve (Ve (.builtin "object.__class__"))
 cg:QD K (.builtin "object.__class__") "__get__"=Ve (Ve (.builtin "getset_descriptor.__get__"))
 ct:Uo K (.builtin "object.__class__")=Ve true
 mks:Um K C=true
 kp:Qy K (.ref C)=true
variable{C D:OW}{x y:Str}{up vp:List OW}
theorem eY.sub(O:eY K mg C x up)(b:OX):Vd K C b=Ve ((up.map O8++[QM "object"]).contains b):=by
 obtain⟨cd,h1,h2⟩:=O.mro;unfold Vd;rw[h1];show(if cd.mro.isEmpty=true then Vf else Ve (cd.mro.contains b))=_;rw[h2,if_neg (by cases up<;>simp)]
theorem ug(up:List OW)(D:OW):(up.map O8++[QM "object"]).contains (O8 D)=decide (D∈up):=by
 induction up with
 |nil=>rfl
 |cons a r ih=>
  show((O8 D==O8 a)||(r.map O8++[QM "object"]).contains (O8 D))=_;rw[ih];by_cases h:D=a
  ·subst h;simp
  have:(O8 D==O8 a)=false:=by
   rw[NQ];intro z;exact h (QT (beq_iff_eq.mp z))
  rw[this,Bool.false_or];simp[h]
theorem eY.kit(O:eY K mg C x up)(U:eY K mg D y vp)(hs:C∈up):PL K (.ref C) (.ref D)=Ve (decide (D∈up)):=by
 unfold PL;split
 ·rename_i q;have:C=D:=QT (beq_iff_eq.mp q);rw[<-this,decide_eq_true hs]
 obtain⟨cd,h1,_⟩:=U.mro;unfold W.kitCls;dsimp only;rw[h1,U.ty];rw[if_pos (by rfl)];show Vd K C (.ref D)=_;rw[O.sub,ug]
theorem eY.bP(O:eY K mg C x up)(e:H a=Ve (.ins C dx fs)):lU K H (.ref a) (.ref C):=
 .ins e O.cl O.kc O.cg O.ct ((O.sub _).trans (by simp))
end
section
variable{X:Cx}{k j:Nat}{C:OW}{x m:Str}{ps:List Str}{sp:Sp}{o e:Expr}{es:List Expr}{ta:TE}{t:TA}{p apos pos:Pos}{up:List OW}
theorem cQ(O:eY X.K X.mg C x up)(D:kh X.prog X.w X.K X.mg X.base j C "__init__" ps sp)(hr:ft k X.A)(ha:PA X (e::es) t)(hj:j+1<=k:=by decide)(hg:Gl X x:=by rfl)(hdb:(x==("__debug__":Str))=false:=by decide)
  (he:O5 (e::es) X.env=(false,PD e X.env)::O5 es X.env:=by rfl) (hpl:(PR pos (O5 es X.env)).any (·.1)=false:=by rfl):PE X (.Call (.Name x p) (e::es) [] pos) (Bi C sp [] E0 t):=by
 obtain⟨f,fd,F,b,m⟩:=D
 exact Fi ⟨O.mks,m.at_,m.fn,O.kp⟩ F (hr.mono hj) hg O.mg b .nil yk ha hdb he hpl
theorem Cu(O:eY X.K X.mg C x up)(D:kh X.prog X.w X.K X.mg X.base j C "__init__" ps sp)(hr:ft k X.A)(hj:j+1<=k:=by decide)(hg:Gl X x:=by rfl)(hdb:(x==("__debug__":Str))=false:=by decide):PE X (.Call (.Name x p) [] [] pos) (Bi C sp [] E0 Gu):=by
 obtain⟨f,fd,F,b,m⟩:=D;exact DN ⟨O.mks,m.at_,m.fn,O.kp⟩ F (hr.mono hj) hg O.mg b .nil yk hdb
theorem bC(he:PE X o ta)(c:Cls X.K C)(D:kh X.prog X.w X.K X.mg X.base j C m ps sp)(hr:ft k X.A)(ha:PA X (e::es) t)(hj:j<=k:=by decide)
  (hst:O5 (e::es) X.env=(false,PD e X.env)::O5 es X.env:=by rfl) (hpl:(PR pos (O5 es X.env)).any (·.1)=false:=by rfl)
  (ht:PD (.Call (.Attribute o m apos) (e::es) [] pos) X.env=(do
   let ov<-PD o X.env
   TK apos.atName
   let (f,first)<-QA [ov] (SJ ov m pl)
   callWith pos f first (PR pos (O5 (e::es) X.env)) (Rh pos (Qq [] X.env))):=by rfl) :
  PE X (.Call (.Attribute o m apos) (e::es) [] pos) (GF C m sp [] E0 ta t):=by
 obtain⟨f,fd,F,b,hm⟩:=D
 exact Fp (pl:=pl) he c hm F (hr.mono hj) b .nil yk ha hst hpl ht
structure OfC(K:OZ)(C:OW)(m:Str):Prop where
 ga:QD K (.ref C) "__getattribute__"=Ve (Ve (.builtin "type.__getattribute__"))
 rd:W.readsIn K C (.type "type")=true
 fc:∃f,PQ K (.ref C) m=Ve (Ve (.ref f))/\W.findCls K (.ref C) (.type "type") m=Ve (.val (.ref f))
theorem c8(O:eY X.K X.mg C x up)(W:OfC X.K C m)(D:kh X.prog X.w X.K X.mg X.base j C m ps sp)(hr:ft k X.A)(ha:PA X (e::es) t)(hj:j<=k:=by decide)(hg:Gl X x:=by rfl)(hdb:(x==("__debug__":Str))=false:=by decide)
  (hst:O5 (e::es) X.env=(false,PD e X.env)::O5 es X.env:=by rfl) (hpl:(PR pos (O5 es X.env)).any (·.1)=false:=by rfl)
  (ht:PD (.Call (.Attribute (.Name x p) m apos) (e::es) [] pos) X.env=(do
   let ov<-PD (.Name x p) X.env
   TK apos.atName
   let (f,first)<-QA [ov] (SJ ov m pl)
   callWith pos f first (PR pos (O5 (e::es) X.env)) (Rh pos (Qq [] X.env))):=by rfl) :
  PE X (.Call (.Attribute (.Name x p) m apos) (e::es) [] pos) (Dv sp [] E0 t):=by
 obtain⟨f,fd,F,b,hm⟩:=D
 intro pins s σ H Q I h
 refine PySem.W.methodCall_KW (pl:=pl) (pe I hg O.mg ?_ hdb) ht
 obtain⟨f',h1,h2⟩:=W.fc
 have ef:f=f':=by
  have:=hm.at_.symm.trans h1;cases this;rfl
 subst ef
 refine PySem.W.method_cls I.kIn W.ga (PySem.W.cls_value I.kIn W.rd h2 rfl ?_)
 refine PySem.W.callWith_K (h₀:=X.base) I.ok.mod.kin hm.kp (thn (ha pos pins _ σ H _ (I.tok _) h) λus s2 ⟨vs,H2,I2,r,q2⟩=>⟨I2.kIn,?_⟩) hst hpl
 exact zS (us:=us) (vs:=vs) F (hr.mono hj) b .nil yk I2 r q2
end
theorem HJ{K:OZ}{C:OW}{m qual:Str}{st:Pj}{ps:List Str}{f:OW}{oc:OX}{od an:Option OW}{osl:Array (Option OX)}{kV doc pm cdv ct:OX}
  (a:PQ K (.ref C) m=Ve (Ve (.ref f))) (fn:Vc K (.ref f)=true) (l:K.lookup f=Ve ⟨oc,od,.func (QF m qual (eP st) (dB st) (av st) .none kV doc pm an cdv ct),osl⟩) (c:Ss K cdv qual=true) (k:Qy K (.ref f)=true)
  (hb:∀(kV doc pm:OX)(an:Option OW)(cdv ct:OX)(us:List OX),us.length=ps.length->Sr (QF m qual (eP st) (dB st) (av st) .none kV doc pm an cdv ct) ⟨us,[]⟩=pure (ps.zip us)):MFn K C m qual st ps:=
 ⟨f,_,vE l c k,(vE l c k).binds hb,⟨a,fn,k⟩⟩
def But(x:OW)(H H':Hp):Prop:=∀b,b≠x->∀o,H b=Ve o->H' b=Ve o
theorem But.refl(x:OW)(H:Hp):But x H H:=λ_ _ _ h=>h
theorem But.trans(a:But x H H1)(b:But x H1 H2):But x H H2:=λc hc o h=>b c hc o (a c hc o h)
theorem But.at(x:OW)(H:Hp)(o:HO):But x H (upd H x o):=λb hb u q=>by rw[aw hb];exact q
theorem But.of(s:ao H H'):But x H H':=λb _ o h=>s b o h
theorem But.same(b:But x (upd (upd H dx o) x o') H')(hx:H x=Vf)(hd:H dx=Vf):ao H H':=λa u q=>by
 have h1:a≠x:=λz=>by rw[z,hx]at q;cases q
 have h2:a≠dx:=λz=>by rw[z,hd]at q;cases q
 exact b a h1 u (by rw[aw h1,aw h2];exact q)
end L2
namespace L2
open PySem
theorem ji(hx:H x=Vf)(hd:H dx=Vf)(h:upd (upd H dx o) x o' p=Vf):H p=Vf:=by
 unfold upd at h;split at h
 ·cases h
 split at h
 ·cases h
 exact h
theorem But.none(b:But x H H')(e:p≠x)(h:H' p=PV):H p=PV:=by
 cases z:H p with
 |none=>rfl
 |some o=>exact absurd (h.symm.trans (b _ e _ z)) (by intro w;cases w)
end L2
namespace L2
open PySem PySem.Spec PyProof.Rows
section
variable{X:Cx}
def sT:V->Bool
 | .flt _=>false
 | .byt _=>false
 |_=>true
theorem qp(hx:sT x=true)(ru:Vo x u)(rv:Vo x v)(A:Py)(s:O0):Rk A s u v true:=by
 cases x with
 |non=>cases ru;cases rv;exact .same _
 |bl b=>cases ru;cases rv;exact .same _
 |int i=>
  obtain⟨t,rfl⟩:=ru;obtain⟨t',rfl⟩:=rv;have:=Rm (A:=A) (s:=s) i t i t';rwa [beq_self_eq_true]at this
 |str y=>
  obtain⟨t,rfl⟩:=ru;obtain⟨t',rfl⟩:=rv;have:=Te (A:=A) (s:=s) y t y t';rwa [beq_self_eq_true]at this
 |byt _=>cases hx
 |flt _=>cases hx
 |ref a=>cases ru;cases rv;exact .same _
 |ty n=>cases ru;cases rv;exact .same _
theorem Ko(hu:X.A.units+64<P9):OpR X (Pg .Eq) (λx y H Q=>∃p q xs,x=.ref p/\y=.ref q/\SqL X.K H p xs/\SqL X.K H q xs/\xs.all sT=true/\Q (.bl true) H):=by
 intro pins s σ H x y v u Q I rx ry h;obtain⟨p,q,xs,rfl,rfl,hp,hq,hf,k⟩:=h;cases rx;cases ry;obtain⟨its,r1,⟨o,n,e1,c1,_,d1⟩,_⟩:=I.list hp;obtain⟨jts,r2,⟨o2,n2,e2,c2,_,d2⟩,_⟩:=I.list hq;have l1:=r1.length;have l2:=r2.length;refine SeqAt.eq_listAt (e:=λ_=>true) ⟨o,e1,c1,n,d1⟩ ⟨o2,e2,c2,n2,d2⟩ (by simp;omega) (by omega) (λj h1 h2=>?_) ?_
 ·simp at h1 h2;obtain⟨x,hx⟩:∃x,xs[j]?=Ve x:=⟨xs[j]'(by omega),Mh (by omega)⟩;obtain⟨u1,g1,w1⟩:=r1.get hx;obtain⟨u2,g2,w2⟩:=r2.get hx;have z1:its.toArray[j]'(by simpa using h1)=u1:=by
   have:=Mh h1;rw[g1]at this;simpa using (O1 this).symm
  have z2:jts.toArray[j]'(by simpa using h2)=u2:=by
   have:=Mh h2;rw[g2]at this;simpa using (O1 this).symm
  rw[z1,z2];exact qp (NL.mp hf x (Mr hx)) w1 w2 _ _
 have:((Pc its.toArray.size).all λ_=>true)=true:=by simp
 rw[this];exact⟨.bl true,H,I,rfl,k⟩
def LM(K:OZ):R2:=λx y H Q=>match x,y with
 | .ref p,.ref q=>(∃d e,jn K H (.ref p) d/\jn K H (.ref q) e/\Pq d=true/\Pq e=true/\Q (.bl (QR d e)) H)\/(∃xs,SqL K H p xs/\SqL K H q xs/\xs.all sT=true/\Q (.bl true) H)
 |x,y=>BG x y=true/\Q (.bl (decide (x=y))) H
theorem KY(hu:X.A.units+64<P9):OpR X (Pg .Eq) (LM X.K):=((Lx hu).or (Ko hu)).imp λx y H Q q=>by
 by_cases hr:∃p q,x=V.ref p/\y=V.ref q
 ·obtain⟨p,q',rfl,rfl⟩:=hr;rcases q with q|⟨xs,h1,h2,h3,h4⟩
  ·exact .inl q
  exact .inr ⟨p,q',xs,rfl,rfl,h1,h2,h3,h4⟩
 refine .inl ?_;cases x<;>cases y<;>first|exact q|exact absurd ⟨_,_,rfl,rfl⟩ hr
theorem qu:dR X (.type "int") (λxs H Q=>∃b,xs=[.bl b]/\Q (.int (if b=true then 1 else 0)) H):=by
 intro pins s σ H xs us Q I r h;obtain⟨b,rfl,q⟩:=h;obtain⟨u,rfl,rfl⟩:=Vy r;exact PySem.call_int_bool ⟨.int _,H,I.tok _,⟨_,rfl⟩,q⟩
end
section
variable{κ:Type}[DecidableEq κ]
noncomputable def eX(kvs:List (κ×V))(k:κ):Option V:=(kvs.find? λkv=>decide (kv.1=k)).map (·.2)
noncomputable def Vj(kvs:List (κ×V))(k:κ)(v:V):List (κ×V):=
 if(kvs.any λkv=>decide (kv.1=k))=true then kvs.map (λkv=>if kv.1=k then(kv.1,v)else kv)else kvs++[(k,v)]
theorem i7{p:κ×V}{r:List (κ×V)}{k:κ}(e:p.1=k):eX (p::r) k=Ve p.2:=by simp[eX,Na,e]
theorem kr{p:κ×V}{r:List (κ×V)}{k:κ}(e:¬ p.1=k):eX (p::r) k=eX r k:=by simp[eX,Na,e]
theorem yx(k:κ):∀kvs:List (κ×V),(kvs.any λkv=>decide (kv.1=k))=(eX kvs k).isSome
 | []=>rfl
 |p::r=>by
  rw[NF];by_cases e:p.1=k
  ·simp only[i7 e,decide_eq_true e,Bool.true_or,Tg]
  rw[kr e,decide_eq_false e,Bool.false_or];exact yx k r
theorem eA(kvs:List (κ×V))(k:κ)(v:V):(Vj kvs k v).length<=kvs.length+1:=by
 unfold Vj;split
 ·rw[Mj];omega
 rw[Mn,MD,Ow];omega
theorem lW.pX(r:lW o u):o.isSome=u.isSome:=by
 cases o with
 |none=>cases u with
  |none=>rfl
  |some _=>exact(show False from r).elim
 |some _=>cases u with
  |none=>exact(show False from r).elim
  |some _=>rfl
theorem lW.getD(r:lW o u)(rd:Vo d d'):Vo (o.getD d) (u.getD d'):=by
 cases o with
 |none=>cases u with
  |none=>exact rd
  |some _=>exact(show False from r).elim
 |some _=>cases u with
  |none=>exact(show False from r).elim
  |some _=>exact r
theorem KV.val(r:KV kvs vs)(k:κ):lW (eX kvs k) (valueAt vs k):=by
 unfold KV at r;induction r with
 |nil=>exact MO
 |@cons p q ps qs h t ih=>
  obtain⟨h1,h2⟩:=h;by_cases e:p.1=k
  ·have e':q.1=k:=h1.symm.trans e;have b:valueAt (q::qs) k=Ve q.2:=by simp[valueAt,Na,e']
   rw[i7 e,b];exact h2
  have e':¬ q.1=k:=λz=>e (h1.trans z);have b:valueAt (q::qs) k=valueAt qs k:=by simp[valueAt,Na,e']
  rw[kr e,b];exact ih
theorem KV.any(r:KV kvs vs)(k:κ):(kvs.any λkv=>decide (kv.1=k))=vs.any λkv=>decide (kv.1=k):=by
 unfold KV at r;induction r with
 |nil=>rfl
 |cons h t ih=>rw[NF,NF,ih,h.1]
theorem KV.IF(r:KV kvs vs)(k:κ)(ry:Vo y u) :
  KV (kvs.map λkv=>if kv.1=k then(kv.1,y)else kv) (vs.map λkv=>if kv.1=k then(kv.1,u)else kv):=by
 unfold KV at r⊢
 induction r with
 |nil=>exact .nil
 |@cons p q ps qs h t ih=>
  rw[Mv,Mv]
  refine .cons ?_ ih
  obtain⟨h1,h2⟩:=h
  by_cases e:p.1=k
  ·rw[if_pos e,if_pos (h1.symm.trans e)];exact⟨h1,ry⟩
  rw[if_neg e,if_neg (λz=>e (h1.trans z))];exact⟨h1,h2⟩
theorem KV.put(r:KV kvs vs)(k:κ)(ry:Vo y u):KV (Vj kvs k y) (stored vs k u):=by
 unfold Vj stored;rw[r.any k];by_cases e:(vs.any λkv=>decide (kv.1=k))=true
 ·rw[if_pos e,if_pos e];exact r.IF k ry
 rw[if_neg e,if_neg e];exact Pm r ⟨rfl,ry⟩
theorem KV.keys{kvs:List (κ×V)}{vs:List (κ×OX)}(r:KV kvs vs):kvs.map (·.1)=vs.map (·.1):=by
 unfold KV at r;induction r with
 |nil=>rfl
 |cons h t ih=>rw[Mv,Mv,ih,h.1]
theorem KV.length(r:KV kvs vs):kvs.length=vs.length:=O3 r
end
theorem tG(r:Vo (kV k) u):(cE P w).is k u=true:=by
 cases k with
 |inl i=>obtain⟨t,e⟩:=(show ∃t,u=Q4 i t from r);subst e;exact yJ P w i t
 |inr x=>obtain⟨t,e⟩:=(show ∃t,u=SG x t from r);subst e;exact yX P w x t
theorem u9:∀{ks:List Key}{us:List OX},Vn (ks.map kV) us->ItemsAre (cE P w) ks us
 | [],_,r=>by rw[Ot]at r;cases r;exact .nil
 |k::ks,_,r=>by
  rw[Mv]at r;cases r with
  |cons h t=>exact .cons (tG h) (u9 t)
abbrev KT(H:Hp):List (List Key×V)->List (List Key×OW×OX)->Prop:=Paired λp q=>p.1=q.1/\H q.2.1=Ve (.tup (p.1.map kV))/\Vo p.2 q.2.2
theorem KT.val(r:KT H kvs xs)(k:List Key):lW (eX kvs k) ((UG xs k).map (·.2)):=by
 induction r with
 |nil=>exact MO
 |@cons p q ps qs h t ih=>
  obtain⟨h1,_,h2⟩:=h;by_cases e:p.1=k
  ·have e':q.1=k:=h1.symm.trans e;have b:UG (q::qs) k=Ve q.2:=by simp[UG,Na,e']
   rw[i7 e,b];exact h2
  have e':¬ q.1=k:=λz=>e (h1.trans z);have b:UG (q::qs) k=UG qs k:=by simp[UG,Na,e']
  rw[kr e,b];exact ih
theorem KT.IF(r:KT H kvs xs)(k:List Key)(ry:Vo y u) :
  KT H (kvs.map λkv=>if kv.1=k then(kv.1,y)else kv) (xs.map (putAt k u)):=by
 induction r with
 |nil=>exact .nil
 |@cons p q ps qs h t ih=>
  rw[Mv,Mv]
  refine .cons ?_ ih
  obtain⟨h1,h2,h3⟩:=h
  unfold putAt
  by_cases e:p.1=k
  ·rw[if_pos e,if_pos (h1.symm.trans e)];exact⟨h1,h2,ry⟩
  rw[if_neg e,if_neg (λz=>e (h1.trans z))];exact⟨h1,h2,h3⟩
theorem KT.put(r:KT H kvs xs)(k:List Key)(hb:H b=Ve (.tup (k.map kV)))(ry:Vo y u) :
  KT H (Vj kvs k y) (storedH xs k b u):=by
 have e:(kvs.any λkv=>decide (kv.1=k))=(UG xs k).isSome:=by
  rw[yx,(r.val k).pX,T9]
 unfold Vj storedH
 rw[e]
 by_cases q:(UG xs k).isSome=true
 ·rw[if_pos q,if_pos q];exact r.IF k ry
 rw[if_neg q,if_neg q];exact Pm r ⟨rfl,hb,ry⟩
theorem KT.keeps(r:KT H kvs xs)(ht:∀b ys,H b=Ve (.tup ys)->H' b=Ve (.tup ys)):KT H' kvs xs:=
 Paired.cI r λ_ _ z=>⟨z.1,ht _ _ z.2.1,z.2.2⟩
section
variable{P:Program}{w:O7}{H:Hp}{h:Pk}{a:OW}
theorem GS(ok:HOk P w H h)(e:Rd H a u):dH P w H h a u:=e.ok ok
theorem ju(ok:HOk P w H h)(e:Rd H a (.dK kvs)):kvs.length<=sizeLine/\(a==PB)=false/\∃vs,KV kvs vs/\h.DictOf (cE P w) a vs:=
 show dH P w H h a (.dK kvs)from GS ok e
theorem Eb(ok:HOk P w H h)(e:H a=Ve (.dK kvs)):kvs.length<=sizeLine/\(a==PB)=false/\∃vs,KV kvs vs/\h.DictOf (cE P w) a vs:=ju ok (.inl e)
theorem tY(ok:HOk P w H h)(e:H a=Ve (.tup (ks.map kV))):(RH (cE P w)).is h ks a:=by
 obtain⟨_,its,r,o,h1,h2,n,h3⟩:=(show dH P w H h a (.tup (ks.map kV))from ok a _ e);exact⟨o,its.toArray,n,h1,h2,h3,by simpa using u9 r⟩
theorem vz(ok:HOk P w H h)(e:Rd H a (.dT kvs)):kvs.length<=sizeLine/\(a==PB)=false/\
  ∃xs,KT H kvs xs/\h.DictOfH (RH (cE P w)) a xs:=by
 obtain⟨z,y,xs,r,o,es,ep,h1,h2,h3,h4,h5⟩:=(show dH P w H h a (.dT kvs)from GS ok e)
 refine⟨z,y,xs,r,o,es,ep,h1,h2,h3,h4,λx hx=>?_,h5⟩
 have all:∀{l:List (List Key×V)}{m:List (List Key×OW×OX)},KT H l m->∀x∈m,(RH (cE P w)).is h x.1 x.2.1:=by
  intro l m q;induction q with
  |nil=>intro x hx;exact nomatch hx
  |@cons p q ps qs hq t ih=>
   intro x hx;rcases Mf.mp hx with e|hx
   ·subst e;exact tY ok (by rw[<-hq.1];exact hq.2.1)
   exact ih x hx
 exact all r x hx
theorem JP(ok:HOk P w H h)(e:H a=Ve (.dT kvs)):kvs.length<=sizeLine/\(a==PB)=false/\
  ∃xs,KT H kvs xs/\h.DictOfH (RH (cE P w)) a xs:=vz ok (.inl e)
end
def c9(H:Hp)(a:OW)(y:V)(r:Option V):Prop:=
 (∃kvs k,Rd H a (.dK kvs)/\y=kV k/\r=eX kvs k)\/∃kvs k b,Rd H a (.dT kvs)/\y=.ref b/\H b=Ve (.tup (k.map kV))/\r=eX kvs k
def cW(H:Hp)(a:OW)(y v:V)(H':Hp):Prop:=
 (∃kvs k,H a=Ve (.dK kvs)/\y=kV k/\kvs.length<sizeLine/\H'=upd H a (.dK (Vj kvs k v)))\/
 ∃kvs k b,H a=Ve (.dT kvs)/\y=.ref b/\H b=Ve (.tup (k.map kV))/\kvs.length<sizeLine/\H'=upd H a (.dT (Vj kvs k v))
theorem c9.k{H:Hp}{a:OW}{kvs:List (Key×V)}{k:Key}(e:H a=Ve (.dK kvs)):c9 H a (kV k) (eX kvs k):=.inl ⟨kvs,k,.inl e,rfl,rfl⟩
theorem cW.k{H:Hp}{a:OW}{kvs:List (Key×V)}{k:Key}{v:V}(e:H a=Ve (.dK kvs))(hl:kvs.length<sizeLine):cW H a (kV k) v (upd H a (.dK (Vj kvs k v))):=.inl ⟨kvs,k,e,rfl,hl,rfl⟩
section
variable{X:Cx}{pins:List (OW×Obj)}{σ:St}{H:Hp}{s:O0}{a:OW}{y v:V}{u r:OX}{o:Option V}{A:Py}{E:OX->O0->Prop}
theorem Inv.big(I:Inv X pins σ H s):PB<s.heap.objs.size:=by
 have h:Pf<s.heap.objs.size:=(I.mod.glob.keeps I.bk).lt;exact Nat.lt_trans (by decide) h
theorem BK(hu:A.units+1<P9)(I:Inv X pins σ H s)(g:c9 H a y (Ve v))(ry:Vo y u)(h:∀w' s',Inv X pins σ H s'->Vo v w'->Q w' s') :
  wpAny (Pb X.prog X.w) A (SM (.ref a) u) Q E s:=by
 rcases g with⟨kvs,k,e,ey,l⟩|⟨kvs,k,b,e,ey,eb,l⟩
 ·subst ey;obtain⟨z,hd,vs,rel,dd⟩:=ju I.hok e;obtain⟨w',hw,rw'⟩:=lW.some_of (v:=v) (o:=valueAt vs k) (by rw[l];exact rel.val k);exact wpAny_getItem_of (tG ry) dd.mapOf hw (h w' _ (I.tok _) rw')
 subst ey
 cases (show u=O8 b from ry)
 obtain⟨z,hd,xs,rel,dd⟩:=vz I.hok e
 obtain⟨w',hw,rw'⟩:=lW.some_of (v:=v) (o:=(UG xs k).map (·.2)) (by rw[l];exact rel.val k)
 obtain⟨p,hp,hp2⟩:=Ng.mp hw
 refine wpAny_getItem_heap (QC hu) (tY I.hok eb) dd hp ?_
 rw[hp2]
 exact h w' _ (I.tok _) rw'
theorem Lk(hu:A.units+1<P9)(I:Inv X pins σ H s)(g:c9 H a y o)(ry:Vo y u)(h:∀s',Inv X pins σ H s'->Q (.bool o.isSome) s') :
  wpAny (Pb X.prog X.w) A (Pg .In u (.ref a)) Q E s:=by
 rcases g with⟨kvs,k,e,ey,l⟩|⟨kvs,k,b,e,ey,eb,l⟩
 ·subst ey;obtain⟨z,hd,vs,rel,dd⟩:=ju I.hok e;refine wpAny_in_of (tG ry) hd dd.mapOf ?_;rw[<-(rel.val k).pX,<-l];exact h _ (I.tok _)
 subst ey
 cases (show u=O8 b from ry)
 obtain⟨z,hd,xs,rel,dd⟩:=vz I.hok e
 refine wpAny_in_heap (QC hu) (tY I.hok eb) hd dd ?_
 have q:=(rel.val k).pX
 rw[T9]at q
 rw[<-q,<-l]
 exact h _ (I.tok _)
theorem rn(I:Inv X pins σ H s)(mu:Mut (H a))(hs:Q2 a s.heap h')(he:∃q,h'.get? a=Ve q)(new:dH X.prog X.w (upd H a ob) h' a ob) :
  Inv X pins σ (upd H a ob) { s with heap:=h',toks:=t' }:=
 I.write (x:=a) (e:=a) mu (.inl rfl) (λb q hb z=>(hs.2 b hb).trans z) he new
theorem iT(z:kvs.length<=sizeLine)(hd:(a==PB)=false)(rel:KV kvs vs)(dd:h'.DictOf (cE P w) a vs) :
  dH P w H' h' a (.dK kvs):=⟨z,hd,vs,rel,dd⟩
theorem Cs(hu:A.units+1<P9)(I:Inv X pins σ H s)(g:cW H a y v H')(ry:Vo y u)(rv:Vo v r)(h:∀s',Inv X pins σ H' s'->Q () s') :
  wpAny (Pb X.prog X.w) A (setItem (.ref a) u r) Q E s:=by
 rcases g with⟨kvs,k,e,ey,l,eH⟩|⟨kvs,k,b,e,ey,eb,l,eH⟩
 ·subst ey eH;obtain⟨z,hd,vs,rel,dd⟩:=Eb I.hok e;have hz:vs.length<=sizeLine:=by rw[<-rel.length];exact z
  have hl:(Vj kvs k v).length<=sizeLine:=by have:=eA kvs k v;omega
  refine wpAny_setItem_pairs (hsz:=hz) (tG ry) dd λh' dd' hs=>h _ ?_;have he:∃q,h'.get? a=Ve q:=let ⟨q,_,_,hq,_⟩:=dd';⟨q,hq⟩
  exact rn I (by rw[e];exact MO) hs he (iT hl hd (rel.put k rv) dd')
 subst ey eH
 cases (show u=O8 b from ry)
 obtain⟨z,hd,xs,rel,dd⟩:=JP I.hok e
 have hz:xs.length<=sizeLine:=by rw[<-O3 rel];exact z
 have hl:(Vj kvs k v).length<=sizeLine:=by have:=eA kvs k v;omega
 refine wpAny_setItem_heap (hsz:=hz) (QC hu) (tY I.hok eb) dd λh' dd' hs=>h _ ?_
 obtain⟨q,es,ep,hq,h2,h3,h4,_,h5⟩:=dd'
 refine rn I (by rw[e];exact MO) hs ⟨q,hq⟩ ⟨hl,hd,_,(rel.put k eb rv).keeps λc ys ec=>?_,q,es,ep,hq,h2,h3,h4,h5⟩
 rw[aw (KA ec e (λz=>nomatch z))]
 exact ec
end
section
variable{X:Cx}{pins:List (OW×Obj)}{σ:St}{H:Hp}{s:O0}{a:OW}{kvs:List (Key×V)}{k:Key}{u:OX}{A:Py}{E:OX->O0->Prop}
theorem JE(I:Inv X pins σ H s)(e:Rd H a (.dK kvs))(h:∀t s',Inv X pins σ H s'->Q (.int kvs.length t) s'):wpAny (Pb X.prog X.w) A (call (.builtin "len") [.ref a]) Q E s:=by
 obtain⟨z,hd,vs,rel,dd⟩:=ju I.hok e;refine call_len_dict hd dd (by rw[<-rel.length];rw[Qo]at z;omega) ?_;rw[<-rel.length];exact h _ _ (I.tok _)
end
theorem yu(I:Inv X pins σ H s)(g:c9 H a y o):s.TypeIs (.ref a) "dict":=by
 rcases g with⟨kvs,k,e,_,_⟩|⟨kvs,k,b,e,_,_,_⟩
 ·obtain⟨_,_,vs,_,dd⟩:=ju I.hok e;exact dd.typeIs
 obtain⟨_,_,xs,_,dd⟩:=vz I.hok e;exact dd.typeIs
section
variable{X:Cx}{o i e value:Expr}{pos pos' tpos:Pos}{td ty tv:TE}
end
theorem sj(h:Pk)(hb:PB<h.objs.size):dH P w H (h.push { cls:=.type "dict",data:=.dict #[] }) h.objs.size (.dK []):=
 ⟨MB _,beq_eq_false_iff_ne.mpr (Nm (MU hb)),[],.nil,UL h⟩
def Ib:TE:=λ_ H Q=>∀p,H p=Vf->Q (.ref p) (upd H p (.dK []))
section
variable{X:Cx}{pos:Pos}
theorem fK:PE X (.Dict [] [] pos) Ib:=λpins s σ H Q I h=>
 wpAny_Dict_empty ⟨.ref s.heap.objs.size,_,I.laid (a:=s.heap.objs.size) (o:=.dK []) (t':=s.toks) (λ_ _ q=>O2 _ q) (Mo _) (sj s.heap I.big),rfl,h _ (I.hok.fresh (Mo _))⟩
end
def zg:List (TE×TE)->St->Hp->(List (V×V)->Hp->Prop)->Prop
 | [],_,H,Q=>Q [] H
 | (tk,tv)::r,σ,H,Q=>tk σ H λx H1=>tv σ H1 λy H2=>zg r σ H2 λps H3=>Q ((x,y)::ps) H3
abbrev VV:List (V×V)->List (OX×OX)->Prop:=Paired λp q=>Vo p.1 q.1/\Vo p.2 q.2
def PPs(X:Cx)(pos:Pos)(keys:List (Option Expr))(values:List Expr)(trs:List (TE×TE)):Prop:=
 ∀(pins:List (OW×Obj))(s:O0)(σ:St)(H:Hp)(Q:List (V×V)->Hp->Prop),Inv X pins σ H s->zg trs σ H Q->
  wpAny (Pb X.prog X.w) X.A (evalPairs (pairTrees keys values X.env pos)) (λvs s'=>∃ps H',Inv X pins σ H' s'/\VV ps vs/\Q ps H') X.xe s
theorem rf:PPs X pos [] [] []:=λpins s σ H Q I h=>pairTrees_nil_walk ⟨[],H,I,.nil,h⟩
theorem cu(hk:PE X k tk)(hv:PE X v tv)(hr:PPs X pos ks vs trs) :
  PPs X pos (Ve k::ks) (v::vs) ((tk,tv)::trs):=λpins s σ H Q I h=>
 pairTrees_cons_walk (thn (hk pins s σ H _ I h) λu s1 ⟨x,H1,I1,rx,q1⟩=>thn (hv pins s1 σ H1 _ I1 q1) λw2 s2 ⟨y,H2,I2,ry,q2⟩=>
  thn (hr pins s2 σ H2 _ I2 q2) λws s3 ⟨ps,H3,I3,rel,q3⟩=>⟨(x,y)::ps,H3,I3,.cons ⟨rx,ry⟩ rel,q3⟩)
noncomputable def cq(kvs more:List (Key×V)):List (Key×V):=more.foldl (λacc kv=>Vj acc kv.1 kv.2) kvs
theorem KV.merge:∀{more:List (Key×V)}{rs:List (Key×OX)}{kvs:List (Key×V)}{vs:List (Key×OX)},KV more rs->KV kvs vs->KV (cq kvs more) (merged vs rs):=by
 intro more rs kvs vs r;unfold KV at r;induction r generalizing kvs vs with
 |nil=>intro q;exact q
 |@cons p q ps qs h t ih=>
  intro r0;have e:KV (Vj kvs p.1 p.2) (stored vs q.1 q.2):=by
   have:=r0.put p.1 h.2;rw[<-h.1];exact this
  exact ih e
theorem jQ:∀(more kvs:List (Key×V)),(cq kvs more).length<=kvs.length+more.length
 | [],kvs=>by show kvs.length<=kvs.length+0;omega
 |p::r,kvs=>by
  have h1:=jQ r (Vj kvs p.1 p.2);have h2:=eA kvs p.1 p.2;show(cq (Vj kvs p.1 p.2) r).length<=_;rw[MD];omega
theorem sv:∀{kvs:List (Key×V)}{ws:List (OX×OX)},VV (kvs.map λkv=>(kV kv.1,kv.2)) ws->∃rs,Carries (cE P w) ws rs/\KV kvs rs
 | [],_,r=>by rw[Ot]at r;cases r;exact⟨[],MO,.nil⟩
 |p::kvs,_,r=>by
  rw[Mv]at r;cases r with
  |@cons a b as bs h t=>
   obtain⟨rs,c,q⟩:=sv (P:=P) (w:=w) t;obtain⟨b1,b2⟩:=b;exact⟨(p.1,b2)::rs,⟨tG h.1,rfl,c⟩,.cons ⟨rfl,h.2⟩ q⟩
def KL(trs:List (TE×TE)):TE:=λσ H Q=>∀p,H p=Vf->zg trs σ (upd H p (.dK [])) λps H2=>H2 p=Ve (.dK [])/\∃kvs:List (Key×V),ps=kvs.map (λkv=>(kV kv.1,kv.2))/\kvs.length<=15/\Q (.ref p) (upd H2 p (.dK (cq [] kvs)))
theorem rB(h:PPs X pos keys values trs)(hall:keys.all (·.isSome)=true)(hl:keys.length=values.length)(h0:keys≠[])
  (h15:keys.length<=15):PE X (.Dict keys values pos) (KL trs):=by
 intro pins s σ H Q I q
 have hn:=I.hok.fresh (Mo s.heap.objs.size)
 have I1:=I.laid (a:=s.heap.objs.size) (o:=.dK []) (h':=s.heap.push { cls:=.type "dict",data:=.dict #[] }) (t':=s.toks) (λ_ _ q=>O2 _ q) (Mo _) (sj s.heap I.big)
 refine wpAny_Dict_walk (knd:=cE X.prog X.w) hall hl h0 h15 (thn (h pins _ σ _ _ I1 (q _ hn)) λws s2 ⟨ps,H2,I2,rel,e,kvs,ep,lk,q2⟩=>?_)
 subst ep
 obtain⟨rs,c,rk⟩:=sv (P:=X.prog) (w:=X.w) rel
 obtain⟨z,hd,vs0,r0,dd⟩:=Eb I2.hok e
 cases r0
 refine⟨rs,c,dd,λh' dd' hs=>⟨.ref s.heap.objs.size,_,?_,rfl,q2⟩⟩
 have hz:(cq [] kvs).length<=sizeLine:=by
  have h1:=jQ kvs [];rw[Ow]at h1;rw[Qo];omega
 have he:∃q,h'.get? s.heap.objs.size=Ve q:=let ⟨q,_,_,hq,_⟩:=dd';⟨q,hq⟩
 exact rn I2 (by rw[e];exact MO) hs he (iT hz hd (rk.merge .nil) dd')
structure M1(X:Cx)(o:Expr)(m:Str)(apos:Pos)(e:Expr)(cpos:Pos):Prop where
 base:P4 o m X.env (PD o X.env)=PD o X.env
 few:((PR cpos (O5 [e] X.env)).all (λx=>!x.1)&&(Rh cpos (Qq [] X.env)).all (λx=>x.1.isSome)
  &&decide (([e]:List Expr).length+([]:List QS).length+(if([]:List QS).isEmpty then 0 else 1)<30))=true
 line:(apos.endLine==cpos.line)=true
 trees:PR cpos (O5 [e] X.env)=[(false,PD e X.env)]
structure M2(X:Cx)(o:Expr)(m:Str)(apos:Pos)(e f:Expr)(cpos:Pos):Prop where
 base:P4 o m X.env (PD o X.env)=PD o X.env
 few:((PR cpos (O5 [e,f] X.env)).all (λx=>!x.1)&&(Rh cpos (Qq [] X.env)).all (λx=>x.1.isSome)
  &&decide (([e,f]:List Expr).length+([]:List QS).length+(if([]:List QS).isEmpty then 0 else 1)<30))=true
 line:(apos.endLine==cpos.line)=true
 trees:PR cpos (O5 [e,f] X.env)=[(false,PD e X.env),(false,PD f X.env)]
def IsD(H:Hp)(a:OW):Prop:=(∃kvs,Rd H a (.dK kvs))\/∃kvs,Rd H a (.dT kvs)
theorem HN(I:Inv X pins σ H s)(d:IsD H a) :
  s.TypeIs (.ref a) "dict"/\(∀b,O8 a=.ref b->∃ob,s.heap.get? b=Ve ob/\ob.dict=Vf)/\(a==PB)=false:=by
 rcases d with⟨kvs,e⟩|⟨kvs,e⟩
 ·obtain⟨_,hd,vs,_,dd⟩:=ju I.hok e;refine⟨dd.typeIs,λb q=>?_,hd⟩;cases q;obtain⟨ob,_,_,h1,h2,_⟩:=dd;exact⟨ob,h1,h2.2.1⟩
 obtain⟨_,hd,xs,_,dd⟩:=vz I.hok e
 refine⟨dd.typeIs,λb q=>?_,hd⟩
 cases q
 obtain⟨ob,_,_,h1,h2,_⟩:=dd
 exact⟨ob,h1,h2.2.1⟩
section
variable{X:Cx}{pins:List (OW×Obj)}{σ:St}{H:Hp}{s:O0}{a:OW}{y d:V}{u r:OX}{o:Option V}{A:Py}{E:OX->O0->Prop}
theorem HH(hu:A.units+1<P9)(I:Inv X pins σ H s)(g:c9 H a y o)(ry:Vo y u)(h:∀w' s',Inv X pins σ H s'->Vo (o.getD .non) w'->Q w' s') :
  wpAny (Pb X.prog X.w) A (call (.builtin "dict.get") [.ref a,u]) Q E s:=by
 rcases g with⟨kvs,k,e,ey,l⟩|⟨kvs,k,b,e,ey,eb,l⟩
 ·subst ey;obtain⟨z,hd,vs,rel,dd⟩:=ju I.hok e;refine Ua QK dd.typeIs R8 (RL _ _) (meets_dict_get (cE X.prog X.w) a (tG ry) hd) ⟨_,dd.mapOf,h _ _ (I.tok _) ?_⟩;rw[l];exact(rel.val k).getD rfl
 subst ey
 cases (show u=O8 b from ry)
 obtain⟨z,hd,xs,rel,dd⟩:=vz I.hok e
 refine Ua QK dd.typeIs R8 (RL _ _) (meetsH_dict_get (RH (cE X.prog X.w)) a b hd) ⟨QC hu,k,xs,tY I.hok eb,dd,h _ _ (I.tok _) ?_⟩
 rw[l]
 exact(rel.val k).getD rfl
end
def G6(td ty:TE):TE:=λσ H Q=>td σ H λx H1=>∃a,x=.ref a/\IsD H1 a/\ty σ H1 λy H2=>∃o,c9 H2 a y o/\Q (o.getD .non) H2
section
variable{X:Cx}{o e f:Expr}{apos cpos:Pos}{td ty tx:TE}
theorem EB(hu:X.A.units+1<P9)(ho:PE X o td)(he:PE X e ty)(m:M1 X o "get" apos e cpos):PE X (.Call (.Attribute o "get" apos) [e] [] cpos) (G6 td ty):=by
 intro pins s σ H Q I h;refine wpAny_Call_method m.base m.few m.line PySem.F.plainAttrs_dict QK PySem.F.type_dict_get (thn (ho pins s σ H _ I h) λu s1 ⟨x,H1,I1,rx,a,ex,d,q1⟩=>?_);subst ex;obtain rfl:u=O8 a:=rx;obtain⟨t1,t2,_⟩:=HN I1 d;refine⟨t1,t2,?_⟩;rw[m.trees];refine QG rfl (Su (S7 (thn (he pins s1 σ H1 _ I1 q1) λiv s2 ⟨y,H2,I2,ry,ov,g,q2⟩=>TQ ?_)));exact HH hu I2 g ry λw' s3 I3 rw'=>⟨_,H2,I3,rw',q2⟩
end
section
variable{X:Cx}{pins:List (OW×Obj)}{σ:St}{H:Hp}{s:O0}{a:OW}{kvs:List (Key×V)}{A:Py}{E:OX->O0->Prop}
end
section
variable{X:Cx}{pins:List (OW×Obj)}{σ:St}{H:Hp}{s:O0}{a:OW}{y:V}{u:OX}{A:Py}{E:OX->O0->Prop}
end
section
variable{X:Cx}
theorem yA(hu:X.A.units+64<P9):IxR X (λx y H Q=>∃a v,x=.ref a/\c9 H a y (Ve v)/\Q v H):=by
 intro value slice pins s σ H x y v u Q I rx ry h hs;obtain⟨a,z,rfl,g,q⟩:=h;cases rx;have hT:=yu I g;unfold S1;refine OY ?_;rw[getitemInPython_of_ne hT.not_modules];refine OY (wpAny_specialOf hT PySem.F.slot_dict_getitem.lookup ?_);have h₂:wpAny (Pb X.prog X.w) X.A (SM (.ref a) u) (EP X pins σ Q) X.xe s:=BK (by omega) I g ry λw' s3 I3 rw'=>⟨z,H,I3,rw',q⟩;have fin:wpAny (Pb X.prog X.w) X.A (subscripted slice false (.ref a) u) (λr s₃=>wpAny (Pb X.prog X.w) X.A (letTemporaryGo value (.ref a) r>>=λ_=>pure r) (EP X pins σ Q) X.xe s₃) X.xe s:=by
  rw[hs];exact wpAny_operating (P5 h₂ (λr s₃ h₃=>OY (wpAny_letTemporaryGo (O4 h₃))) λ_ _ x=>x)
 first
  |exact O4 (OY fin)
  |exact OY (O4 (OY fin))
  |exact OY fin
inductive dgI(p:OW)(y:V)(H:Hp)(Q:VK):Prop
 |mk(v:V)(h:c9 H p y (Ve v))(q:Q v H):dgI p y H Q
def JX(K:OZ):R2:=λx y H Q=>match x,y with
 | .ref p,.int i=>ixS K p i H Q\/dgI p (.int i) H Q
 | .ref p,.str k=>dgI p (.str k) H Q
 | .str z,.int i=>∃c,z.length<=sizeLine/\atI z.cps.toList i=Ve c/\Q (.str ⟨#[c]⟩) H
 |_,_=>False
theorem Jk(hu:X.A.units+64<P9):IxR X (JX X.K):=by
 intro value slice pins s σ H x y v u Q I rx ry h hs;cases x with
 |ref p=>
  cases y with
  |int i=>
   rcases h with h|⟨w,g,q⟩
   ·exact CG value slice pins s σ H _ _ v u Q I rx ry h hs
   exact yA hu value slice pins s σ H _ _ v u Q I rx ry ⟨p,w,rfl,g,q⟩ hs
  |str k=>
   obtain⟨w,g,q⟩:=h;exact yA hu value slice pins s σ H _ _ v u Q I rx ry ⟨p,w,rfl,g,q⟩ hs
  |_=>exact(show False from h).elim
 |str z=>
  cases y with
  |int i=>exact CG value slice pins s σ H _ _ v u Q I rx ry h hs
  |_=>exact(show False from h).elim
 |_=>cases y<;>exact(show False from h).elim
theorem yK(hu:X.A.units+64<P9):DU X (λo i v H Q=>∃a H',o=.ref a/\cW H a i v H'/\Q H'):=by
 intro pins s σ H o i v ov iv u Q I ro ri rv h;obtain⟨a,H',rfl,g,q⟩:=h;cases ro;exact Cs (by omega) I g ri rv λs4 I4=>⟨H',I4,q⟩
inductive dpI(p:OW)(y v:V)(H:Hp)(Q:Hp->Prop):Prop
 |mk(H':Hp)(h:cW H p y v H')(q:Q H'):dpI p y v H Q
inductive stL(p:OW)(k:Int)(v:V)(H:Hp)(Q:Hp->Prop):Prop
 |mk(xs:List V)(j:Nat)(h0:H p=Ve (.lst xs))(h1:ixN xs.length k=Ve j)(q:Q (upd H p (.lst (xs.set j v)))):stL p k v H Q
def La:Jy:=λo i v H Q=>match o,i with
 | .ref p,.int k=>stL p k v H Q\/dpI p (.int k) v H Q
 | .ref p,.str k=>dpI p (.str k) v H Q
 |_,_=>False
theorem bB(hu:X.A.units+64<P9)(hl:DU X GD):DU X La:=by
 intro pins s σ H o i v ov iv u Q I ro ri rv h;cases o with
 |ref p=>
  cases i with
  |int k=>
   rcases h with⟨xs,j,h1,h2,q⟩|⟨H',g,q⟩
   ·exact hl pins s σ H _ _ v ov iv u Q I ro ri rv ⟨p,xs,k,j,rfl,rfl,h1,h2,q⟩
   exact yK hu pins s σ H _ _ v ov iv u Q I ro ri rv ⟨p,H',rfl,g,q⟩
  |str k=>
   obtain⟨H',g,q⟩:=h;exact yK hu pins s σ H _ _ v ov iv u Q I ro ri rv ⟨p,H',rfl,g,q⟩
  |_=>exact(show False from h).elim
 |_=>cases i<;>exact(show False from h).elim
theorem Lc(hu:X.A.units+64<P9):OpR X (Pg .In) (λx y H Q=>∃a o,y=.ref a/\c9 H a x o/\Q (.bl o.isSome) H):=by
 intro pins s σ H x y v u Q I rx ry h;obtain⟨a,o,rfl,g,q⟩:=h;cases ry;exact Lk (by omega) I g rx λs3 I3=>⟨.bl o.isSome,H,I3,rfl,q⟩
theorem CU(hu:X.A.units+64<P9):OpR X (Pg .In) (λx y H Q=>fIn X.K false x y H Q\/∃a o,y=.ref a/\c9 H a x o/\Q (.bl o.isSome) H):=Li.or (Lc hu)
theorem ID:dR X (.builtin "len") (λxs H Q=>∃a kvs,xs=[.ref a]/\Rd H a (.dK kvs)/\Q (.int (kvs.length:Nat)) H):=by
 intro pins s σ H xs us Q I r h;obtain⟨a,kvs,rfl,e,q⟩:=h;obtain⟨u,rfl,rfl⟩:=Vy r;exact JE I e λt s' I'=>⟨.int _,H,I',⟨_,rfl⟩,q⟩
end
end L2
namespace PySem
open Sem (wp)
section
variable{prog:Program}{w:O7}{A:Py}{E:OX->O0->Prop}{s:O0}
theorem vY:typeLookup (.type "list") "keys"=pure Vf:=am_miss_of_fast (by kernel_rfl)
theorem wK(hx:s.heap.get? a=Ve o)(hc:o.cls=.type "list")(hdat:o.data=.seq xs k)(hd:o.dict=Vf)(hA:A.handled=Vf)
  (h:∀h' tk,(∀b ob,s.heap.get? b=Ve ob->h'.get? b=Ve ob)->Q Vf { s with heap:=h',toks:=tk }):wpAny (Pb prog w) A (getAttr? (.ref a) "keys") Q E s:=by
 obtain⟨c,dct,dat,sl⟩:=o
 simp only at hc hdat hd
 subst hc hdat hd
 obtain⟨hp,g,d,tk,os⟩:=s
 have hT:∀tk',(⟨hp,g,d,tk',os⟩:O0).TypeIs (.ref a) "list":=λ_=>⟨_,hx,rfl⟩
 have f1:=sub_AttributeError
 have f3:=F.slot_list_getattribute.lookup
 have f4:=F.slot_list_getattribute.bind (.ref a)
 have f5:=am_list_getattr_none
 have hmiss:=vY
 have hname:(["__module__","__name__","__qualname__","__doc__","__annotations__"]:List Str).contains "keys"=false:=by decide+kernel
 unfold getAttr? getAttrBy? getAttrBy
 repeat (any_goals (first|assumption|exact hT _|((with_reducible show wpAny _ _ (call (Value.builtin "list.__getattribute__") _ _) _ _ _);refine Ro F.slot_list_getattribute (hT _) am_entry_list_getattribute (F.args_list_getattribute_2 _ _) (meets_getattribute_miss_list a xs k sl "keys" _ hmiss hname (by decide)) ⟨hx,hA,λh' tk' e hx'=>?_⟩)|wp_step))
 obtain⟨t',u',he⟩:=hx'.there
 have hTe:(⟨h',g,d,tk',os⟩:O0).TypeIs (.ref e) "AttributeError":=⟨_,he,rfl⟩
 show wpAny _ _ (Ts _ _ _ _ _ _ _) _ _ _
 unfold Ts
 repeat (any_goals (first|assumption|wp_step))
 exact h _ _ hx'.keeps
end
end PySem
namespace L2
open PySem PySem.Spec PyProof.Rows
theorem mj:entryFor table "dict.update.loop"=Ve RO.«dict.update.loop»:=entryFor_of_tree (by kernel_rfl)
theorem fE:plainId "dict.update.loop"=true:=by decide+kernel
section
variable{X:Cx}{pins:List (OW×Obj)}{σ:St}{H0:Hp}{A:Py}
theorem pair_items(h:s.heap.IsTuple t its)(q:Q its.toList s):wpAny (Pb prog w) A (R9 (.ref t)) Q E s:=by
 obtain⟨o,ho,hc,n,hd⟩:=h;unfold R9;refine OY (TV ⟨o,ho,hc⟩ ?_);rw[if_pos (by decide)];refine OY ?_;obtain⟨c,dct,dat,sl⟩:=o;simp only at hc hd;subst hc hd;obtain⟨hp,g,d,tk,os⟩:=s;repeat (any_goals (first|assumption|wp_step))
theorem Ac(kvs:List (Key×V))(i:Nat)(h:kvs[i]?=Ve (k,v)):cq [] (kvs.take (i+1))=Vj (cq [] (kvs.take i)) k v:=by
 unfold cq;rw[Nf,h,Ub];rfl
theorem EU(hc:X.calm=true){l p it:OW}{ps:List OW}{kvs:List (Key×V)}{R:Result->O0->Prop}(hA:A.handled=Vf)(hl:SqL X.K H0 l (ps.map V.ref))(hlen:ps.length=kvs.length)(hn:kvs.length<=1000)
  (hps:∀(i:Nat) t k v,ps[i]?=Ve t->kvs[i]?=Ve (k,v)->SqT X.K H0 t [kV k,v]) (hp:H0 p=Vf)
  (fin:∀s',Inv X pins σ (upd H0 p (.dK (cq [] kvs))) s'->R (.ok (.ret .none)) s') :
  ∀(n i:Nat)(s:O0),n+i=ps.length->Inv X pins σ (upd H0 p (.dK (cq [] (kvs.take i)))) s->tH X pins (upd H0 p (.dK (cq [] (kvs.take i)))) it->s.heap.IsListIter it l i->
   codeAny (Pb X.prog X.w) A (.builtin "dict.update.loop" ⟨[.ref p,.ref it,rawInt i,.none],[]⟩) R s:=by
 intro n
 induction n with
 |zero=>
  intro i s hi I hf st
  refine Q0 mj ?_
  rw[Qr fE _]
  have sm:=ao.upd hp (.dK (cq [] (kvs.take i)))
  obtain⟨its,rv,pl,hz⟩:=I.list (sm.seq hl)
  have hll:=rv.length
  rw[Mj]at hll
  obtain⟨f0,f1,f2,f3,f4,f5⟩:=hf
  unfold RO.«dict.update.loop»
  refine OY (Sd hA st pl.isList (by simp;omega) λh' eb=>?_)
  have I':Inv X pins σ (upd H0 p (.dK (cq [] (kvs.take i)))) { s with heap:=h' }:=I.turned (t':=s.toks) (λb o hb e=>eb b o hb e) f0 f1 f3 f4 f5
  rw[Nh (by omega)]at I'
  exact OY (O4 (O4 (fin _ I')))
 |succ n ih=>
  intro i s hi I hf st
  refine Q0 mj ?_
  rw[Qr fE _]
  have sm:=ao.upd hp (.dK (cq [] (kvs.take i)))
  obtain⟨its,rv,pl,hz⟩:=I.list (sm.seq hl)
  have hll:=rv.length
  rw[Mj]at hll
  obtain⟨t,ht⟩:∃t,ps[i]?=Ve t:=⟨ps[i]'(by omega),Mh (by omega)⟩
  obtain⟨⟨k,v⟩,hk⟩:∃kv,kvs[i]?=Ve kv:=⟨kvs[i]'(by omega),Mh (by omega)⟩
  obtain⟨u,hu1,hu2⟩:=rv.get (x:=.ref t) (i:=i) (by rw[Mu,ht];rfl)
  cases hu2
  obtain⟨f0,f1,f2,f3,f4,f5⟩:=hf
  unfold RO.«dict.update.loop»
  refine OY (RT st pl.isList (x:=.ref t) (by simpa using hu1) λh' st' sb=>?_)
  have I1:Inv X pins σ (upd H0 p (.dK (cq [] (kvs.take i)))) { s with heap:=h' }:=I.turned (t':=s.toks) (λb o hb e=>(sb.2 b hb).trans e) f0 f1 f3 f4 f5
  obtain⟨jts,rj,pt,_⟩:=I1.tuple (sm.tup (hps i t k v ht hk))
  obtain⟨u1,u2,e12,r1,r2⟩:∃u1 u2,jts=[u1,u2]/\Vo (kV k) u1/\Vo v u2:=by
   cases rj with
   |cons r1 q=>cases q with
    |cons r2 q=>cases q;exact⟨_,_,rfl,r1,r2⟩
  subst e12
  refine OY (wpAny_holding (OY (wpAny_tryCatch (pair_items pt ?_))))
  show wpAny _ _ (QA [u1,u2] (dictSet p u1 u2)) _ _ _
  refine wpAny_holding ?_
  obtain⟨z,hd,vs,rel,dd⟩:=Eb I1.hok (aj (H:=H0) (a:=p) (o:=.dK (cq [] (kvs.take i))))
  have hz':vs.length<=sizeLine:=by rw[<-rel.length];exact z
  have hlk:(cq [] (kvs.take i)).length<=1000:=by
   have:=jQ (kvs.take i) [];rw[Nb,Ow]at this;omega
  have hlp:(Vj (cq [] (kvs.take i)) k v).length<=sizeLine:=by
   have h1:=eA (cq [] (kvs.take i)) k v;have h2:=ay hlk;omega
  refine wpAny_dictSet_pairs (hsz:=hz') (tG r1) dd λh2 dd' hs=>?_
  have he:∃q,h2.get? p=Ve q:=let ⟨q,_,_,hq,_⟩:=dd';⟨q,hq⟩
  have I2:=rn (t':=s.toks+1) (ob:=.dK (Vj (cq [] (kvs.take i)) k v)) I1 (by rw[aj];exact MO) hs he (iT hlp hd (rel.put k r2) dd')
  rw[lD,<-Ac kvs i hk]at I2
  have hne:it≠p:=λz=>by rw[z,aj]at f0;cases f0
  have f0':upd H0 p (.dK (cq [] (kvs.take (i+1)))) it=Vf:=by
   rw[aw hne]at f0⊢;exact f0
  refine O4 ⟨RC fE _,?_⟩
  have ec:((i:Int)+1)=((i+1:Nat):Int):=by push_cast;rfl
  rw[ec]
  exact ih (i+1) _ (by omega) I2 ⟨f0',f1,f2,f3,f4,f5⟩ (st'.at λo e=>(hs.2 it hne).trans e)
theorem Fd(hc:X.calm=true:=by rfl):dR X (.type "dict") (λxs H Q=>∃(l:OW)(ps:List OW)(kvs:List (Key×V)),xs=[.ref l]/\SqL X.K H l (ps.map V.ref)/\ps.length=kvs.length/\kvs.length<=1000/\
  (∀(i:Nat) t k v,ps[i]?=Ve t->kvs[i]?=Ve (k,v)->SqT X.K H t [kV k,v])/\∀p,H p=Vf->Q (.ref p) (upd H p (.dK (cq [] kvs)))):=by
 intro pins s σ H xs us Q I r h
 obtain⟨l,ps,kvs,rfl,hl,hlen,hn,hps,q⟩:=h
 obtain⟨u,rfl,rfl⟩:=Vy r
 have hA:=I.ok.hd hc
 have hp:=I.hok.fresh (Mo s.heap.objs.size)
 have I1:=I.laid (a:=s.heap.objs.size) (o:=.dK []) (t':=s.toks) (h':=s.heap.push { cls:=.type "dict",data:=.dict #[] }) (λ_ _ q=>O2 _ q) (Mo _) (sj s.heap I.big)
 refine callType_codes (Q₁:=λobj s₁=>obj=.ref s.heap.objs.size/\s₁={ s with heap:=s.heap.push { cls:=.type "dict",data:=.dict #[] } }) F.kt_called_dict (F.kt_typeCall_dict_1 _) F.entry_dict_init (kt_code_dict_new _ ⟨rfl,rfl⟩) ?_
 rintro obj s₁ ⟨rfl,rfl⟩
 have hnew:(s.heap.push { cls:=.type "dict",data:=.dict #[] }).DictOf (cE X.prog X.w) s.heap.objs.size []:=UL s.heap
 have sm:=ao.upd hp (.dK [])
 obtain⟨its,rv,pl,hz⟩:=I1.list (sm.seq hl)
 obtain⟨o,n,ho,hoc,hod,hos⟩:=id pl
 refine⟨hnew.typeIs,F.args_dict_init_2 _ _,?_⟩
 unfold RO.«dict.__init__»
 refine OY ?_
 unfold Builtin.Dict.selfAndRest
 refine OY (Qk hnew.typeIs ?_)
 show wpAny _ _ (pure (s.heap.objs.size,[O8 l])) _ _ _
 refine O4 ?_
 show wpAny _ _ (RM "dict.__init__" s.heap.objs.size (.ref l) [] .none) _ _ _
 unfold RM
 refine OY (TV ⟨o,ho,hoc⟩ ?_)
 rw[if_pos (by decide)]
 refine OY (wK ho hoc hos hod hA λh2 tk2 k2=>?_)
 have I2:Inv X pins σ (upd H s.heap.objs.size (.dK [])) { s with heap:=h2,toks:=tk2 }:=I1.kept (t':=tk2) k2
 rw[if_pos (show(Vf:Option OX).isNone=true from rfl)]
 obtain⟨its2,rv2,pl2,_⟩:=I2.list (sm.seq hl)
 refine OY (wpAny_rule (OY (Rv pl2.isList ?_)))
 refine O4 ⟨RC fE _,?_⟩
 have I3:=I2.kept (h':=h2.push { cls:=.type "list_iterator",data:=.fields #[.ref l,.int 0 0] }) (t':=tk2) λb o e=>O2 _ e
 have fp:=I2.uE (H':=upd H s.heap.objs.size (.dK [])) (Mo _) (I2.hok.fresh (Mo _))
 refine EU (X:=X) (H0:=H) (A:=X.A.in1) (p:=s.heap.objs.size) (kvs:=kvs) hc hA hl hlen hn hps hp (λs' I'=>?_) ps.length 0 _ rfl I3 fp ⟨_,Pe _ rfl,rfl,rfl⟩
 exact⟨rfl,.ref s.heap.objs.size,_,I',rfl,q _ hp⟩
end
section
variable{X:Cx}{pins:List (OW×Obj)}{σ:St}{H:Hp}{s:O0}
theorem Inv.vL{h':Pk}{t':Nat}{ch:List OW}(I:Inv X pins σ H s)(hf:∀b∈ch,tH X pins H b)(k:∀b o,b∉ch->s.heap.get? b=Ve o->h'.get? b=Ve o):Inv X pins σ H { s with heap:=h',toks:=t' }:=by
 have nit:∀b u,H b=Ve u->b∉ch:=λb u e z=>by rw[(hf b z).1]at e;cases e
 refine I.step (g':=s.gens) (d':=s.drawn) (ch:=ch) (λb hb=>⟨(hf b hb).2.2.2.1,(hf b hb).2.1,(hf b hb).2.2.2.2.1,(hf b hb).2.2.2.2.2⟩) (λb o _ _ hc e _=>k b o hc e) (λb o _ _ hc e _=>⟨o.slots,k b o hc e⟩) (λ_ _ _ _ n=>n)
  (λb o hc e=>⟨o,k b o hc e⟩) (λ_ _ e=>e) (λ_ _ _ e=>e) (λb ps e=>⟨#[],by rw[e];simp⟩) (λm hm=>?_) (λb u e=>?_) I.bare
 ·obtain⟨o,es,ep,ho,r⟩:=hm;exact⟨o,es,ep,k _ o (λz=>(hf _ z).2.1 rfl) ho,r⟩
 refine(I.hok b u e).zI (λc v hc q=>k c v ?_ q) (λ_ q=>q) λ_ _ q=>q;rcases hc with rfl|hc
 ·exact nit _ _ e
 exact nit _ _ hc
theorem Inv.GJ(I:Inv X pins σ H s)(hf:tH X pins H T)(hz:X.s₀.heap.objs.size<=T)(new:dH X.prog X.w (upd H T u) s.heap T u):Inv X pins σ (upd H T u) s:=by
 obtain⟨f0,f1,f2,f3,f4,f5⟩:=hf;have ne0:∀b o,X.s₀.heap.get? b=Ve o->b≠T:=λb o e=>MU (MH (O6 e) hz);have neS:∀b v,H b=Ve v->b≠T:=λb v e z=>by rw[z,f0]at e;cases e
 refine⟨I.ok,I.os,I.bare,⟨I.base.keep,I.base.slot,λb o e n hx=>by rw[aw (ne0 b o e)];exact I.base.free b o e n hx,I.base.there,λb xs e=>by
   have:=I.base.wu b xs e;rw[aw (neS b _ this)];exact this,λb o v e=>by
   have:=I.base.uu b o v e;rw[aw (neS b _ this)];exact this,λb ps e=>by
   obtain⟨more,q⟩:=I.base.wY b ps e;exact⟨more,by rw[aw (neS b _ q)];exact q⟩⟩,I.loc,I.cell,by rw[aw (Nm f1)];exact I.free,λx c e=>by rw[aw (f4 x c e)];exact I.mQ x c e,
  λp hp=>by rw[aw (f5 p hp)];exact I.pin p hp,λb v e=>?_,I.len⟩
 by_cases hb:b=T
 ·subst hb;rw[aj]at e;cases e;exact new
 rw[aw hb]at e;exact(I.hok b v e).zI (λ_ _ _ q=>q) (λc q=>by rw[aw (neS c _ q)];exact q) λc xs q=>by rw[aw (neS c _ q)];exact q
def Ite(K:OZ)(a:OW):It:=
 ⟨λi H=>∃xs x,SqL K H a xs/\xs[i]?=Ve x,λi H x H'=>∃T v,x=.ref T/\H T=Vf/\H'=upd H T (.tup [.int (i:Nat),v])/\∀xs,SqL K H a xs->xs[i]?=Ve v,λi H=>∃xs,SqL K H a xs/\xs.length<=i⟩
theorem CC{P:Program}{w:O7}{K:OZ}{elts:List Expr}{x1}{pos:Pos}(a e it:OW)(hne:e≠it) :
  VH P w K (.Tuple elts x1 pos) (Ite K a) [e,it] e (λi h=>(∃old,IsEnum h e it (i:Nat) old)/\h.IsListIter it a i) where
 mem:=by simp
 obj:=λi h st b hb=>by
  obtain⟨⟨old,he⟩,o,e1,c,d⟩:=st;rcases Mf.mp hb with rfl|hb
  ·exact⟨_,he,λv z=>by
    have z':UA _=SI v:=z;cases z'⟩
  have:b=it:=by simpa using hb
  subst this;exact⟨o,e1,λv z=>by rw[d]at z;cases z⟩
 keep:=λi h h' st k=>by
  obtain⟨⟨old,he⟩,hi⟩:=st;exact⟨⟨old,k e (by simp) _ he⟩,hi.at λo e=>k it (by simp) o e⟩
 item:=by
  intro X hP hw hK hc i pins s σ H E I hf st hg;subst hP hw hK;obtain⟨xs,x,hq,hx⟩:=hg;obtain⟨its,rv,p,hz⟩:=I.list hq;obtain⟨u,hu,ru⟩:=rv.get hx;obtain⟨⟨old,he⟩,hi⟩:=st;have hT:=I.uE (H':=H) (Mo s.heap.objs.size) (I.hok.fresh (Mo _));have hTe:s.heap.objs.size≠e:=NT (O6 he);have hTi:s.heap.objs.size≠it:=by obtain⟨o,ho,_⟩:=hi;exact NT (O6 ho)
  refine wpAny_pyNext_enum_item he hi p.isList (x:=u) (by simpa using hu) hne λh' ho hi' hTo hsz hk=>?_;have I1:Inv X pins σ H { s with heap:=h',toks:=s.toks+1 }:=I.vL (ch:=[e,it]) hf λb o hb q=>hk b o (λz=>hb (by simp[z])) (λz=>hb (by simp[z])) q;have I2:=I1.GJ (u:=.tup [.int (i:Nat),x]) hT I.sz ⟨by show 2<=sizeLine;decide,[.int i s.toks,u],.cons ⟨_,rfl⟩ (.cons ru .nil),⟨_,hTo,rfl,_,rfl⟩⟩;refine⟨_,rfl,wpAny_letOwnedTupleGo_enum (s:={ s with heap:=h',toks:=s.toks+1 }) ho λh2 he2 hs2=>?_⟩;have f0:=hf e (by simp);refine⟨.ref s.heap.objs.size,_,I2.turned (t':=s.toks+1) (it:=e) (λb o hb q=>(hs2.2 b hb).trans q) (by rw[aw (Nm hTe)];exact f0.1) f0.2.1 f0.2.2.2.1 f0.2.2.2.2.1 f0.2.2.2.2.2,rfl,
   ⟨_,x,rfl,hT.1,rfl,λys hy=>by rw[I.oV hy hq];exact hx⟩,⟨⟨_,by simpa using he2⟩,hi'.at λo q=>(hs2.2 it (Nm hne)).trans q⟩,λb hb=>?_⟩
  rw[aw (λz=>by
   rcases Mf.mp hb with rfl|hb
   ·exact hTe z.symm
   have:b=it:=by simpa using hb
   exact hTi (z.symm.trans this))]
  exact(hf b hb).1
 done:=by
  intro X hP hw hK hc i pins s σ H E I hf st hg;subst hP hw hK;obtain⟨xs,hq,hx⟩:=hg;obtain⟨its,rv,p,hz⟩:=I.list hq;obtain⟨⟨old,he⟩,hi⟩:=st;have hl:=rv.length;obtain⟨f0,f1,f2,f3,f4,f5⟩:=hf it (by simp);exact wpAny_pyNext_enum_end (I.ok.hd hc) he hi p.isList (by simp;omega) λh' eb=>⟨rfl,I.turned (t':=s.toks) (it:=it) (λb o hb q=>eb b o hb q) f0 f1 f3 f4 f5⟩
 self:=λ_ _ _ _ _ st h=>by
  obtain⟨⟨old,he⟩,_⟩:=st;exact Uc he h
def JU(K:OZ)(ta:TA):TI:=λσ H R=>ta σ H λvs H1=>∃a,vs=[.ref a]/\(∃xs,SqL K H1 a xs)/\R (Ite K a) H1
theorem qU:P1 "enumerate"=Ve (.type "enumerate"):=by decide+kernel
theorem Gp{x1}(hg:Gl X "enumerate")(hm:X.mg "enumerate"=Vf)(ha:PA X [a] ta)(hs:O5 [a] X.env=[(false,PD a X.env)]:=by rfl) :
  PI X (.Tuple elts x1 pos2) (.Call (.Name "enumerate" p) [a] [] pos) (JU X.K ta):=by
 intro pins s σ H R I h
 refine Call_ (pW I hg hm qU (P2 (thn (ha pos pins s σ H _ I h) λus s1 ⟨vs,H1,I1,r1,q1⟩=>?_) hs rfl))
 obtain⟨a,e,⟨xs,hq⟩,q⟩:=q1
 subst e
 cases r1 with
 |cons r rr=>
  cases rr
  cases r
  obtain⟨its,rv,p,hz⟩:=I1.list hq
  refine call_enumerate_list p.isList λh' he hi hsz hk=>?_
  refine Uc he ?_
  refine⟨s1.heap.objs.size+1,[s1.heap.objs.size+1,s1.heap.objs.size],_,_,H1,rfl,I1.kept (t':=s1.toks) hk,CC a _ _ (Nat.succ_ne_self _),⟨⟨_,he⟩,hi⟩,λb hb=>?_,q⟩
  rcases Mf.mp hb with rfl|hb
  ·exact I1.uE (NZ _) (I1.hok.fresh (NZ _))
  have e:b=s1.heap.objs.size:=by simpa using hb
  subst e
  exact I1.uE (Mo _) (I1.hok.fresh (Mo _))
end
theorem CI{K:Qu}{a:OW}{xs:List V}{g:TG}{tb:TS}{D:VE}{σ:St}{H:Hp}(Pv:Nat->St->Hp->Prop)(h0:Pv 0 σ H)(hl:∀i σ H,i<=xs.length->Pv i σ H->SqL K H a xs)
  (hs:∀i x σ H T,xs[i]?=Ve x->Pv i σ H->H T=Vf->g (.ref T) σ (upd H T (.tup [.int (i:Nat),x])) λσ2 H2=>tb { D with nx:=Pv (i+1),ct:=Pv (i+1),bk:=D.nx } σ2 H2) (hd:∀σ H,Pv xs.length σ H->D.nx σ H) :
  ∃W:Nat->Nat->St->Hp->Prop,(∃m,W 0 m σ H)/\∀i m σ H,W i m σ H->
   ((Ite K a).stop i H/\D.nx σ H)\/((Ite K a).go i H/\∃N:St->Hp->Prop,(∀σ' H',N σ' H'->∃m',m'<m/\W (i+1) m' σ' H')/\∀x H',(Ite K a).yld i H x H'->g x σ H' λσ2 H2=>tb { D with nx:=N,ct:=N,bk:=D.nx } σ2 H2):=by
 refine⟨λi m σ H=>m=xs.length-i/\i<=xs.length/\Pv i σ H,⟨xs.length,by simp,MB _,h0⟩,?_⟩
 rintro i m σ H ⟨rfl,hi,p⟩
 have q:=hl i σ H hi p
 by_cases hlt:i<xs.length
 ·refine .inr ⟨⟨xs,xs[i],q,by simp[hlt]⟩,Pv (i+1),λσ' H' p'=>⟨xs.length-(i+1),by omega,rfl,hlt,p'⟩,λx H' y=>?_⟩;obtain⟨T,v,rfl,hT,rfl,y⟩:=y;exact hs i v σ _ T (y xs q) p hT
 have e:i=xs.length:=by omega
 subst e
 exact .inl ⟨⟨xs,q,Mo _⟩,hd σ H p⟩
theorem Ky(h:(cE P w).is k u=true):Vo (kV k) u:=by
 cases k with
 |inl i=>obtain⟨t,e⟩:=TH (show Ux i u=true from h);exact⟨t,e⟩
 |inr x=>obtain⟨t,e⟩:=SO (show SW x u=true from h);exact⟨t,e⟩
section
variable{X:Cx}
end
theorem nX{α β:Type}{F:α->β->Prop}:∀{l₁:List α}{l₂:List β},l₁.length=l₂.length->(∀(i:Nat) a b,l₁[i]?=Ve a->l₂[i]?=Ve b->F a b)->Paired F l₁ l₂
 | [],[],_,_=>.nil
 | [],_::_,h,_=>by simp at h
 |_::_,[],h,_=>by simp at h
 |x::xs,y::ys,h,f=>.cons (f 0 x y rfl rfl) (nX (by simpa using h) λi a b ha hb=>f (i+1) a b (by simpa using ha) (by simpa using hb))
theorem nE{α β:Type}{F:α->β->Prop}{l₁:List α}{l₂:List β}(h:Paired F l₁ l₂):∀{i:Nat}{a:α}{b:β},l₁[i]?=Ve a->l₂[i]?=Ve b->F a b:=by
 induction h with
 |nil=>intro i a b h;simp at h
 |cons r t ih=>
  intro i a b ha hb;cases i with
  |zero=>simp only[NN,QH]at ha hb;subst ha hb;exact r
  |succ j=>exact ih (by simpa using ha) (by simpa using hb)
section
variable{X:Cx}{tg:Expr}
theorem E8(hc:X.calm=true:=by rfl):dR X (.type "list") (λxs H Q=>∃d kvs,xs=[.ref d]/\Rd H d (.dK kvs)/\∀l,H l=Vf->Q (.ref l) (upd H l (.lst (kvs.map λkv=>kV kv.1)))):=by
 intro pins s σ H xs us Q I r h;obtain⟨d,kvs,rfl,e,q⟩:=h;obtain⟨u,rfl,rfl⟩:=Vy r;obtain⟨z,hs,vs,rel,dd⟩:=ju I.hok e;obtain⟨ep,dat⟩:=dd.dictAt;have hl:=rel.length;refine W.kdl_call (W.kdl_dict (knd:=cE X.prog X.w) (kvs:=vs) (ep:=ep) hs) (I.ok.hd hc) dat (by omega) λh' tk acc c hk hS hacc=>?_;have hp:=I.hok.fresh (Mo s.heap.objs.size);refine⟨.ref s.heap.objs.size,_,I.laid (a:=s.heap.objs.size) (o:=.lst (kvs.map λkv=>kV kv.1)) (t':=tk) hk (Mo _) ⟨by rw[Mj];exact z,acc.toList,c,?_,by simpa using hS⟩,rfl,q _ hp⟩;have hsz:acc.size=vs.length:=hacc.1;refine nX (by simp[hsz,hl]) λi x y hx hy=>?_;rw[Mu]at hx;obtain⟨k,v,hv,hk⟩:=hacc.2 i y (by rw[<-NU];exact hy);cases hkv:kvs[i]? with
 |none=>rw[hkv]at hx;cases hx
 |some kv=>
  rw[hkv]at hx;have hx':kV kv.1=x:=O1 hx;have:=congrArg (λl=>l[i]?) rel.keys;simp only[Mu,hkv,hv]at this;have hkk:kv.1=k:=by simpa using this
  rw[<-hx',hkk];exact Ky hk
end
section
variable{prog:Program}{w:O7}{K:Type}[DecidableEq K]{knd:KeyKind prog w K}{A:Py}{E:OX->O0->Prop}{s:O0}
theorem nH(hd:(d==PB)=false)(q:Q () s):wpAny (Pb prog w) A (Se d) Q E s:=by
 unfold Se;rw[if_neg (by rw[hd];exact Mw)];exact O4 q
theorem rV(h:Pairs knd es lvs):valueAt lvs k=Ve v->∃j e,(es.findIdx? λe=>knd.is k e.key)=Ve j/\es[j]?=Ve e/\e.val=v:=by
 induction h with
 |nil=>intro z;cases z
 |@cons e kv es lvs h1 h2 t ih=>
  intro z;by_cases hk:kv.1=k
  ·subst hk;have:valueAt (kv::lvs) kv.1=Ve kv.2:=by simp[valueAt,Na]
   rw[this]at z;exact⟨0,e,by rw[Tt,if_pos h1],rfl,by rw[h2];exact O1 z⟩
  have:valueAt (kv::lvs) k=valueAt lvs k:=by simp[valueAt,Na,hk]
  rw[this]at z;obtain⟨j,f,hj,hf,hv⟩:=ih z;have hn:¬ knd.is k e.key=true:=λq=>hk (knd.inj _ _ _ h1 q);exact⟨j+1,f,by rw[Tt,if_neg hn,hj];rfl,hf,hv⟩
theorem rH{id:String}{a b:OW}{kvs lvs:List (K×OX)}{Q:Bool->O0->Prop}(hda:(a==PB)=false)(hdb:(b==PB)=false)(ha:s.heap.DictOf knd a kvs)(hb:s.heap.DictOf knd b lvs)(hl:kvs.length=lvs.length)
  (hv:∀(i:Nat) k v,kvs[i]?=Ve (k,v)->∃v',valueAt lvs k=Ve v'/\Rk A s v v' true) (q:Q true s):wpAny (Pb prog w) A (Pu id a b) Q E s:=by
 obtain⟨o,es,ep,ho,hx,hd,hk,hp,hn⟩:=ha
 obtain⟨o2,es2,ep2,ho2,hx2,hd2,hk2,hp2,hn2⟩:=hb
 have hz:es.size=kvs.length:=by rw[<-hp.length];simp
 have hz2:es2.size=lvs.length:=by rw[<-hp2.length];simp
 unfold Pu
 refine OY (nH hda ?_)
 refine OY (nH hdb ?_)
 refine OY (PM ho hd ?_)
 refine OY (PM ho2 hd2 ?_)
 rw[if_neg (by simp;omega)]
 refine OY (Sb ho hd ?_)
 refine OY ?_
 rw[Qs]
 simp only[Sh,OQ,Tu,Nat.div_one]
 refine Us _ (λrest b s'=>b=(Vf,())/\s'=s/\∀i∈rest,i<es.size) _ ?_ ?_ _ _ ⟨rfl,rfl,λi hi=>?_⟩
 ·rintro i rest c s' ⟨rfl,rfl,hr⟩;have hi:i<es.size:=hr i (by simp);refine OY (PM ho hd ?_);rw[Rr hi];obtain⟨⟨k,v⟩,hkv⟩:∃kv,kvs[i]?=Ve kv:=⟨kvs[i]'(by omega),Mh (by omega)⟩;obtain⟨hkey,hval⟩:=hp.get? (e:=es[i]) (by simp[hi]) hkv;obtain⟨k',hk',hh⟩:=hk es[i] (OH hi);obtain⟨v',hv',he⟩:=hv i k v hkv;have hkk:k'=k:=knd.inj _ _ _ hk' hkey;subst hkk;show wpAny _ _ (QA [es[i].key,es[i].val] _>>=_) _ _ _;refine OY (wpAny_holding ?_);rw[hh,hval];refine OY (Ud hkey ho2 hd2 hk2 ?_);obtain⟨j,f,hj,hf,hfv⟩:=rV hp2 hv';rw[<-Si,Sv]at hj;rw[NU]at hf;rw[hj];refine OY (PM ho2 hd2 ?_);rw[hf];show wpAny _ _ (QA [f.val] (eqBool v f.val)) _ _ _;rw[hfv];refine wpAny_holding (he _ _ _ _ ?_);rw[if_neg (by decide)];refine OY (Sb ho hd ?_);rw[if_neg (by simp)];exact O4 ⟨rfl,rfl,λz hz=>hr z (Mi _ hz)⟩
 ·rintro c s' ⟨rfl,rfl,_⟩;exact O4 q
 have:=(OI.mp hi).2
 omega
end
theorem rG{κ:Type}[DecidableEq κ]:∀{kvs:List (κ×V)}{i:Nat}{k:κ}{v:V},(kvs.map (·.1)).Nodup->kvs[i]?=Ve (k,v)->eX kvs k=Ve v
 | [],i,k,v,_,h=>by simp at h
 |p::r,0,k,v,_,h=>by
  simp only[NN,QH]at h;subst h;exact i7 (p:=(k,v)) rfl
 |p::r,i+1,k,v,hn,h=>by
  rw[Mv]at hn;have hr:=Mx.mp hn;have hi:r[i]?=Ve (k,v):=by simpa using h
  have hne:¬ p.1=k:=λz=>hr.1 (by rw[z];exact N0 (f:=(·.1)) (Mr hi));rw[kr hne];exact rG hr.2 hi
section
variable{X:Cx}
def ve(K:OZ)(H:Hp)(v v':V):Prop:=(v=v'/\sT v=true)\/∃p q xs,v=.ref p/\v'=.ref q/\SqL K H p xs/\SqL K H q xs/\xs.all sT=true
theorem AX(I:Inv X pins σ H s)(hu:A.units<P9)(h:ve X.K H v v')(r:Vo v u)(r':Vo v' u'):Rk A s u u' true:=by
 rcases h with⟨rfl,hf⟩|⟨p,q,xs,rfl,rfl,hp,hq,hf⟩
 ·exact qp hf r r' A s
 cases r;cases r';by_cases hpq:p=q
 ·subst hpq;exact .same _
 obtain⟨its,r1,⟨o,n,e1,c1,_,d1⟩,_⟩:=I.list hp;obtain⟨jts,r2,⟨o2,n2,e2,c2,_,d2⟩,_⟩:=I.list hq;have l1:=r1.length;have l2:=r2.length;have hR:=SeqAt.RcAt.lists (A:=A) (s:=s) (e:=λ_=>true) (l:=p) (b:=q) (items:=its.toArray) (items2:=jts.toArray) ⟨o,e1,c1,n,d1⟩ ⟨o2,e2,c2,n2,d2⟩ (by simp;omega) hu (λj h1 h2=>by
  simp at h1 h2;obtain⟨x,hx⟩:∃x,xs[j]?=Ve x:=⟨xs[j]'(by omega),Mh (by omega)⟩;obtain⟨u1,g1,w1⟩:=r1.get hx;obtain⟨u2,g2,w2⟩:=r2.get hx;have z1:its.toArray[j]'(by simpa using h1)=u1:=by
   have:=Mh h1;rw[g1]at this;simpa using (O1 this).symm
  have z2:jts.toArray[j]'(by simpa using h2)=u2:=by
   have:=Mh h2;rw[g2]at this;simpa using (O1 this).symm
  rw[z1,z2];exact qp (NL.mp hf x (Mr hx)) w1 w2 _ _)
 have:((Pc its.toArray.size).all λ_=>true)=true:=by simp
 rw[this]at hR;exact .of_refs hpq hR
theorem Kt(hu:X.A.units+64<P9):OpR X (Pg .Eq) (λx y H Q=>∃a b kvs lvs,x=.ref a/\y=.ref b/\Rd H a (.dK kvs)/\Rd H b (.dK lvs)/\kvs.length=lvs.length/\
  (∀k v,eX kvs k=Ve v->∃v',eX lvs k=Ve v'/\ve X.K H v v')/\Q (.bl true) H):=by
 intro pins s σ H x y v u Q I rx ry h
 obtain⟨a,b,kvs,lvs,rfl,rfl,ha,hb,hl,hv,q⟩:=h
 cases rx
 cases ry
 obtain⟨z,hs,vs,rel,dd⟩:=ju I.hok ha
 obtain⟨z2,hs2,vs2,rel2,dd2⟩:=ju I.hok hb
 have e1:=rel.length
 have e2:=rel2.length
 refine Qm (op:=.Eq) dd.typeIs dd2.typeIs Qt (QP Qt dd.typeIs Sm ?_ (Sa _ _)) (by omega)
 show wpAny _ _ (Px "__eq__" ⟨[.ref a,.ref b],[]⟩>>=_) _ _ _
 refine OY ?_
 unfold Px
 refine OY (Qk dd.typeIs ?_)
 show wpAny _ _ (pure (O8 a,O8 b)) _ _ _
 refine O4 ?_
 refine OY (RN (T:="dict") (b:=true) dd2.typeIs (by rw[Sw];kernel_rfl) ?_)
 show wpAny _ _ (Pu "dict.__eq__" a b>>=_) _ _ _
 refine OY (rH hs hs2 dd dd2 (by omega) (λi k v hi=>?_) ?_)
 ·obtain⟨⟨k',v'⟩,hkv⟩:∃kv,kvs[i]?=Ve kv:=⟨kvs[i]'(by have:=(Ml.mp hi).1;omega),Mh _⟩;have hr:k'=k/\Vo v' v:=nE rel hkv hi;obtain⟨rfl,hrv⟩:=hr;obtain⟨w',hw,hq⟩:=hv k' v' (rG (by rw[rel.keys];exact(dd.dictAt.choose_spec).nodup) hkv);have hval:=rel2.val k';rw[hw]at hval;cases hvv:valueAt vs2 k' with
  |none=>rw[hvv]at hval;exact(show False from hval).elim
  |some u'=>
   rw[hvv]at hval;exact⟨u',rfl,AX I (show X.A.units+1<P9 by omega) hq hrv hval⟩
 show wpAny _ _ (ret (.bool true)) _ _ _
 exact O4 ⟨.bool true,rfl,(λz=>nomatch z),.bl true,H,I,rfl,q⟩
structure w6(z y:Str)(ws:List Str):Prop where
 h1:(decide (z.length<y.length)||decide (SR z<SR y))=false
 hy:(y.length==0)=false
 hf:(PX z y 0 z.length (z.length+1)).isEmpty=false
 hx:z.length<=sizeLine
 hn:ws.length<=sizeLine
 e:Builtin.Str.partsBetween z (PX z y 0 z.length (z.length+1)) y.length=ws
theorem uX:∀(tk:Nat)(ws:List Str),Vn (ws.map V.str) (strsFrom tk ws)
 |_,[]=>.nil
 |tk,x::r=>.cons ⟨_,rfl⟩ (uX (tk+1) r)
theorem El:MtR X "str.split" (λx xs H Q=>∃(z y:Str)(ws:List Str),x=.str z/\xs=[.str y]/\w6 z y ws/\∀l,H l=Vf->Q (.ref l) (upd H l (.lst (ws.map V.str)))):=by
 intro pins s σ H x xs v us Q I rx rs h;obtain⟨z,y,ws,rfl,rfl,ok,q⟩:=h;obtain⟨t,rfl⟩:=rx;obtain⟨u,rfl,ru⟩:=rs.one;obtain⟨t2,rfl⟩:=ru;obtain⟨h1,hy,hf,hx,hn,e⟩:=ok;subst e;refine Ro F.slot_str_split (Ta _ _ _) F.entry_str_split (F.args_str_split_2 _ _) (meets_str_split_sep z y t t2 h1 hy hf hx hn) ?_;exact⟨.ref _,_,I.HW (uX _ _) (by rw[Mj];exact hn),rfl,q _ I.fresh⟩
theorem m_split(ho:PE X o to)(ha:PA X [e] t)(hbase:P4 o "split" X.env (PD o X.env)=PD o X.env:=by rfl)
  (hfew:((PR cpos (O5 [e] X.env)).all (λx=>!x.1)&&(Rh cpos (Qq [] X.env)).all (λx=>x.1.isSome)
   &&decide ([e].length+([]:List QS).length+(if([]:List QS).isEmpty then 0 else 1)<30))=true:=by rfl)
  (hline:(apos.endLine==cpos.line)=true:=by rfl) (hs:O5 [e] X.env=(false,PD e X.env)::O5 [] X.env:=by rfl) (hplain:(PR cpos (O5 [] X.env)).any (·.1)=false:=by rfl) :
  PE X (.Call (.Attribute o "split" apos) [e] [] cpos) (tBM X.K "str" (λx xs H Q=>∃(z y:Str)(ws:List Str),x=.str z/\xs=[.str y]/\w6 z y ws/\∀l,H l=Vf->Q (.ref l) (upd H l (.lst (ws.map V.str)))) to t):=
 GX PySem.F.plainAttrs_str PySem.F.slot_str_split PySem.F.type_str_split El ho ha hbase hfew hline hs hplain
noncomputable def pK(z:Str)(n:Int):Str:=if n<1 then Q5 else if(n==1||z.length==0)=true then z else⟨(Pd n.toNat z.cps).foldl (· ++ ·) #[]⟩
def JV:R2:=λx y H Q=>match x,y with
 | .int i,.int j=>BC i j/\Q (.int (i*j)) H
 | .str z,.int n=>n<1000/\-1000<n/\z.length<=1000/\Q (.str (pK z n)) H
 | .ref p,.int k=>∃xs,H p=Ve (.lst xs)/\-(2^63)<=k/\k<2^63/\xs.length*k.toNat<=sizeLine/\∀l,H l=Vf->Q (.ref l) (upd H l (.lst (Pd k.toNat xs).flatten))
 |_,_=>False
theorem Cr(xs:List (Array Nat)):∀acc:Array Nat,(xs.foldl (· ++ ·) acc).size=acc.size+(xs.map (·.size)).sum:=by
 induction xs with
 |nil=>intro acc;simp
 |cons x r ih=>intro acc;rw[Ou,ih,Ue,Mv,NG];omega
theorem xr(z:Str)(n:Nat):(⟨(Pd n z.cps).foldl (· ++ ·) #[]⟩:Str).length=n*z.length:=by
 show((Pd n z.cps).foldl (· ++ ·) #[]).size=_;rw[Cr,Tv];have:∀m k:Nat,(Pd m k).sum=m*k:=λm k=>by
  induction m with
  |zero=>simp
  |succ m ih=>rw[MX,NG,ih,Nat.succ_mul];omega
 rw[this];simp[Str.length]
theorem dw:OpR X (PK .Mult) JV:=by
 intro pins s σ H x y v u Q I rx ry h;cases x with
 |int i=>
  cases y with
  |int j=>exact KQ pins s σ H _ _ v u Q I rx ry h
  |_=>exact(show False from h).elim
 |str z=>
  cases y with
  |int n=>
   obtain⟨h1,h2,h3,q⟩:=h;obtain⟨t,rfl⟩:=rx;obtain⟨t2,rfl⟩:=ry;have hb:¬ n<1->n.toNat*z.length<=1000000:=λhn=>by
    have e1:n.toNat<=1000:=by omega
    exact MC (Nat.mul_le_mul e1 h3) (by decide)
   refine P.mul_str (by rw[decide_eq_false (by omega),decide_eq_false (by omega)];rfl) (λhn _=>?_) (λhn _=>?_) ?_
   ·intro z1;have h0:(0:Int)<n:=by omega
    have:=Int.lt_mul_of_ediv_lt h0 z1;have e2:((z.length:Int))*n<=1000*1000:=Int.mul_le_mul (by omega) (by omega) (by omega) (by decide);omega
   ·unfold Builtin.Str.tooLong;have:=hb hn;rw[Nat.mul_comm]at this;refine decide_eq_false ?_;rw[Qo];omega
   unfold pK at q;by_cases c1:n<1
   ·rw[if_pos c1]at q⊢;exact⟨by decide,.str _,H,I.tok _,⟨_,rfl⟩,q⟩
   rw[if_neg c1]at q⊢;by_cases c2:(n==1||z.length==0)=true
   ·rw[if_pos c2]at q⊢;exact⟨.str _,H,I,⟨_,rfl⟩,q⟩
   rw[if_neg c2]at q⊢;refine⟨?_,.str _,H,I.tok _,⟨_,rfl⟩,q⟩;rw[xr];have:=hb c1;rw[Qo];omega
  |_=>exact(show False from h).elim
 |ref p=>
  cases y with
  |int k=>
   obtain⟨xs,h1,h2,h3,h4,q⟩:=h;exact Ii pins s σ H _ _ v u Q I rx ry ⟨p,k,xs,rfl,rfl,h1,h2,h3,h4,q⟩
  |_=>exact(show False from h).elim
 |_=>cases y<;>exact(show False from h).elim
def Jf(K:OZ)(H:Hp)(a b:OW):Prop:=∃kvs lvs,Rd H a (.dK kvs)/\Rd H b (.dK lvs)/\kvs.length=lvs.length/\∀k v,eX kvs k=Ve v->∃v',eX lvs k=Ve v'/\ve K H v v'
def HU(K:OZ):R2:=λx y H Q=>match x,y with
 | .ref p,.ref q=>((∃d e,jn K H (.ref p) d/\jn K H (.ref q) e/\Pq d=true/\Pq e=true/\Q (.bl (QR d e)) H)\/(∃xs,SqL K H p xs/\SqL K H q xs/\xs.all sT=true/\Q (.bl true) H))\/(Jf K H p q/\Q (.bl true) H)
 |x,y=>BG x y=true/\Q (.bl (decide (x=y))) H
theorem bh(hu:X.A.units+64<P9):OpR X (Pg .Eq) (HU X.K):=((KY hu).or (Kt hu)).imp λx y H Q q=>by
 by_cases hr:∃p q,x=V.ref p/\y=V.ref q
 ·obtain⟨p,q',rfl,rfl⟩:=hr;rcases q with q|⟨⟨kvs,lvs,h1,h2,h3,h4⟩,h5⟩
  ·exact .inl q
  exact .inr ⟨p,q',kvs,lvs,rfl,rfl,h1,h2,h3,h4,h5⟩
 refine .inl ?_;cases x<;>cases y<;>first|exact q|exact absurd ⟨_,_,rfl,rfl⟩ hr
inductive Ju(xs:List V)(H:Hp)(Q:VK):Prop
 |mk(a:OW)(kvs:List (Key×V))(h0:xs=[.ref a])(h1:Rd H a (.dK kvs))(q:Q (.int (kvs.length:Nat)) H):Ju xs H Q
theorem bQ:dR X (.builtin "len") (λxs H Q=>Gg X.K xs H Q\/Ju xs H Q):=KW.or λpins s σ H xs us Q I r ⟨a,kvs,h0,h1,q⟩=>ID pins s σ H xs us Q I r ⟨a,kvs,h0,h1,q⟩
theorem rC(hc:X.calm=true:=by rfl):dR X (.type "list") (λxs H Q=>(∃p ys,xs=[.ref p]/\(SqL X.K H p ys\/SqT X.K H p ys)/\∀l,H l=Vf->Q (.ref l) (upd H l (.lst ys)))\/∃d kvs,xs=[.ref d]/\Rd H d (.dK kvs)/\∀l,H l=Vf->Q (.ref l) (upd H l (.lst (kvs.map λkv=>kV kv.1)))):=ki.or (E8 hc)
end
section
variable{X:Cx}{pins:List (OW×Obj)}{σ:St}{H:Hp}{s:O0}
def Itz(K:OZ)(a b:OW):It:=
  ⟨λi H=>∃xs ys x y,SqL K H a xs/\SqL K H b ys/\xs[i]?=Ve x/\ys[i]?=Ve y,
   λi H v H'=>∃T x y,v=.ref T/\H T=Vf/\H'=upd H T (.tup [x,y])/\∀xs ys,SqL K H a xs->SqL K H b ys->xs[i]?=Ve x/\ys[i]?=Ve y,
   λi H=>∃xs ys,SqL K H a xs/\SqL K H b ys/\(xs.length<=i\/ys.length<=i)⟩
def KI(z TI TO i1 i2 a b:OW)(i:Nat)(h:Pk):Prop:=IsZip h z TI TO .none/\IsPair h TI (.ref i1) (.ref i2)/\(∃u v,IsPair h TO u v)/\h.IsListIter i1 a i/\h.IsListIter i2 b i
theorem CS{P:Program}{w:O7}{K:OZ}{elts:List Expr}{x1}{pos:Pos}{a b z TI TO i1 i2:OW}(D:ZipApart z TI TO i1 i2 a b) :
  VH P w K (.Tuple elts x1 pos) (Itz K a b) [z,TI,TO,i1,i2] z (KI z TI TO i1 i2 a b) where
 mem:=by simp
 obj:=λi h st c hc=>by
  obtain⟨hz,hI,⟨u,v,hO⟩,⟨o1,e1,_,d1⟩,⟨o2,e2,_,d2⟩⟩:=st;simp only[Mf,Ms,or_false]at hc;rcases hc with rfl|rfl|rfl|rfl|rfl
  ·exact⟨_,hz,λv q=>by cases (show UA _=SI v from q)⟩
  ·exact⟨_,hI,λv q=>by cases (show Data.seq _ _=SI v from q)⟩
  ·exact⟨_,hO,λv q=>by cases (show Data.seq _ _=SI v from q)⟩
  ·exact⟨o1,e1,λv q=>by rw[d1]at q;cases q⟩
  exact⟨o2,e2,λv q=>by rw[d2]at q;cases q⟩
 keep:=λi h h' st k=>by
  obtain⟨hz,hI,⟨u,v,hO⟩,h1,h2⟩:=st;exact⟨k z (by simp) _ hz,k TI (by simp) _ hI,⟨u,v,k TO (by simp) _ hO⟩,h1.at λo e=>k i1 (by simp) o e,h2.at λo e=>k i2 (by simp) o e⟩
 item:=by
  intro X hP hw hK hc i pins s σ H E I hf st hg;subst hP hw hK;obtain⟨xs,ys,x,y,hq,hq',hx,hy⟩:=hg;obtain⟨its,rv,p,hz'⟩:=I.list hq;obtain⟨its',rv',p',hz''⟩:=I.list hq';obtain⟨u,hu,ru⟩:=rv.get hx;obtain⟨v,hv,rv2⟩:=rv'.get hy;obtain⟨hz,hI,⟨u0,v0,hO⟩,h1,h2⟩:=st;have hT:=I.uE (H':=H) (Mo s.heap.objs.size) (I.hok.fresh (Mo _));have lt:∀{c:OW}{o:Obj},s.heap.get? c=Ve o->s.heap.objs.size≠c:=λe=>NT (O6 e);refine wpAny_pyNext_zip_item D hz hI hO h1 h2 p.isList p'.isList (x:=u) (y:=v) (by simpa using hu) (by simpa using hv) λh' a1 a2 a3 a4 a5 a6 a7=>?_;have I1:Inv X pins σ H { s with heap:=h',toks:=s.toks }:=I.vL (ch:=[z,TI,TO,i1,i2]) hf λc o hc q=>a7 c o (λe=>hc (by simp[e])) (λe=>hc (by simp[e])) (λe=>hc (by simp[e])) (λe=>hc (by simp[e])) q;have I2:=I1.GJ (u:=.tup [x,y]) hT I.sz ⟨by show 2<=sizeLine;decide,[u,v],.cons ru (.cons rv2 .nil),⟨_,a5,rfl,_,rfl⟩⟩;refine⟨_,rfl,wpAny_letOwnedTupleGo_zip (s:={ s with heap:=h' }) a1 λh2' hz2 hs2=>?_⟩;have f0:=hf z (by simp);have hI':h'.get? TI=_:=a7 TI _ D.TIz D.TITO D.TIi1 D.TIi2 hI;have zT:z≠s.heap.objs.size:=Nm (lt hz);refine⟨.ref s.heap.objs.size,_,I2.turned (t':=s.toks) (it:=z) (λc o hc q=>(hs2.2 c hc).trans q) (by rw[aw zT];exact f0.1) f0.2.1 f0.2.2.2.1 f0.2.2.2.2.1 f0.2.2.2.2.2,rfl,
   ⟨_,x,y,rfl,hT.1,rfl,λxs' ys' q q'=>by rw[I.oV q hq,I.oV q' hq'];exact⟨hx,hy⟩⟩,⟨hz2,(hs2.2 TI D.TIz).trans hI',⟨u,v,(hs2.2 TO D.TOz).trans a2⟩,a3.at λo q=>(hs2.2 i1 D.i1z).trans q,a4.at λo q=>(hs2.2 i2 D.i2z).trans q⟩,λc hc=>?_⟩
  have cT:c≠s.heap.objs.size:=by
   simp only[Mf,Ms,or_false]at hc;rcases hc with rfl|rfl|rfl|rfl|rfl
   ·exact zT
   ·exact Nm (lt hI)
   ·exact Nm (lt hO)
   ·obtain⟨o,e,_⟩:=h1;exact Nm (lt e)
   obtain⟨o,e,_⟩:=h2;exact Nm (lt e)
  rw[aw cT];exact(hf c hc).1
 done:=by
  intro X hP hw hK hc i pins s σ H E I hf st hg;subst hP hw hK;obtain⟨xs,ys,hq,hq',hx⟩:=hg;obtain⟨its,rv,p,hz'⟩:=I.list hq;obtain⟨its',rv',p',hz''⟩:=I.list hq';obtain⟨hz,hI,⟨u0,v0,hO⟩,h1,h2⟩:=st;have hl:=rv.length;have hl':=rv'.length;refine wpAny_pyNext_zip_end (I.ok.hd hc) D hz hI hO h1 h2 p.isList p'.isList (by simp;omega) λh' eb=>⟨rfl,?_⟩;exact I.vL (ch:=[z,TI,TO,i1,i2]) hf λc o hc q=>eb c o (λe=>hc (by simp[e])) (λe=>hc (by simp[e])) (λe=>hc (by simp[e])) (λe=>hc (by simp[e])) q
 self:=λ_ _ _ _ _ st h=>Ut st.1 h
def Lq(K:OZ)(ta:TA):TI:=λσ H R=>ta σ H λvs H1=>∃a b,vs=[.ref a,.ref b]/\(∃xs,SqL K H1 a xs)/\(∃ys,SqL K H1 b ys)/\R (Itz K a b) H1
theorem BV:P1 "zip"=Ve (.type "zip"):=by decide+kernel
theorem Ew{x1}(hg:Gl X "zip")(hm:X.mg "zip"=Vf)(ha:PA X [a,b] ta)(he:O5 [a,b] X.env=(false,PD a X.env)::O5 [b] X.env:=by rfl)
  (hpl:(PR pos (O5 [b] X.env)).any (·.1)=false:=by rfl):PI X (.Tuple elts x1 pos2) (.Call (.Name "zip" p) [a,b] [] pos) (Lq X.K ta):=by
 intro pins s σ H R I h
 refine Call_ (pW I hg hm BV (P2 (thn (ha pos pins s σ H _ I h) λus s1 ⟨vs,H1,I1,r1,q1⟩=>?_) he hpl))
 obtain⟨a,b,e,⟨xs,hq⟩,⟨ys,hq'⟩,q⟩:=q1
 subst e
 obtain⟨u,v,rfl,ru,rv⟩:=VD r1
 cases ru
 cases rv
 obtain⟨its,rv1,p1,hz1⟩:=I1.list hq
 obtain⟨its',rv2,p2,hz2⟩:=I1.list hq'
 have lt:∀{c:OW}{zs:Array OX},s1.heap.IsList c zs->c<s1.heap.objs.size:=λh=>by obtain⟨o,e,_⟩:=h;exact O6 e
 refine call_zip_2 p1.isList p2.isList λh' hz hI hO h1 h2 hsz hk=>?_
 refine Ut hz ?_
 refine⟨s1.heap.objs.size+4,[s1.heap.objs.size+4,s1.heap.objs.size+2,s1.heap.objs.size+3,s1.heap.objs.size,s1.heap.objs.size+1],_,_,H1,rfl,I1.kept (t':=s1.toks) hk,CS (zipApart_new (lt p1.isList) (lt p2.isList)),⟨hz,hI,⟨_,_,hO⟩,h1,h2⟩,λc hc=>?_,q⟩
 have le:s1.heap.objs.size<=c:=by
  simp only[Mf,Ms,or_false]at hc;rcases hc with h|h|h|h|h
  ·rw[h];exact Nv _ _
  ·rw[h];exact Nv _ _
  ·rw[h];exact Nv _ _
  ·rw[h];exact Mo _
  rw[h];exact Nv _ _
 exact I1.uE le (I1.hok.fresh le)
end
theorem AE{K:Qu}{a b:OW}{xs ys:List V}{g:TG}{tb:TS}{D:VE}{σ:St}{H:Hp}(Pv:Nat->St->Hp->Prop)(h0:Pv 0 σ H)(hl:∀i σ H,i<=xs.length->Pv i σ H->SqL K H a xs/\SqL K H b ys)(hle:xs.length=ys.length)
  (hs:∀i x y σ H T,xs[i]?=Ve x->ys[i]?=Ve y->Pv i σ H->H T=Vf->g (.ref T) σ (upd H T (.tup [x,y])) λσ2 H2=>tb { D with nx:=Pv (i+1),ct:=Pv (i+1),bk:=D.nx } σ2 H2) (hd:∀σ H,Pv xs.length σ H->D.nx σ H) :
  ∃W:Nat->Nat->St->Hp->Prop,(∃m,W 0 m σ H)/\∀i m σ H,W i m σ H->
   ((Itz K a b).stop i H/\D.nx σ H)\/((Itz K a b).go i H/\∃N:St->Hp->Prop,(∀σ' H',N σ' H'->∃m',m'<m/\W (i+1) m' σ' H')/\∀x H',(Itz K a b).yld i H x H'->g x σ H' λσ2 H2=>tb { D with nx:=N,ct:=N,bk:=D.nx } σ2 H2):=by
 refine⟨λi m σ H=>m=xs.length-i/\i<=xs.length/\Pv i σ H,⟨xs.length,by simp,MB _,h0⟩,?_⟩
 rintro i m σ H ⟨rfl,hi,p⟩
 obtain⟨q,q'⟩:=hl i σ H hi p
 by_cases hlt:i<xs.length
 ·have hlt':i<ys.length:=by omega
  refine .inr ⟨⟨xs,ys,xs[i],ys[i],q,q',by simp[hlt],by simp[hlt']⟩,Pv (i+1),λσ' H' p'=>⟨xs.length-(i+1),by omega,rfl,hlt,p'⟩,λv H' y=>?_⟩;obtain⟨T,x,y,rfl,hT,rfl,h⟩:=y;obtain⟨e1,e2⟩:=h xs ys q q';exact hs i x y σ _ T e1 e2 p hT
 have e:i=xs.length:=by omega
 subst e
 exact .inl ⟨⟨xs,ys,q,q',Mt (Mo _)⟩,hd σ H p⟩
theorem BZ{K:OZ}{a:OW}{xs:List V}{fr:List Nat}{tf:CB->TT}{te:CB->TE}{Q:VK}{σ:St}{H1:Hp}(p:V->Bool)(R:V->Hp->Prop)(hx:SqL K H1 a xs)(hn:xs.length<sizeLine)
  (hf:∀b x H (G:Bool->Hp->Prop),x∈xs->ao H1 H->(∀H',ao H H'->G (p x) H')->tf b (Ve x::cFr fr σ) H G)
  (he:∀b x H (G:VK),x∈xs->p x=true->ao H1 H->(∀y H',ao H H'->R y H'->G y H')->te b (Ve x::cFr fr σ) H G)
  (mono:∀y H H',ao H H'->R y H->R y H') (st:∀y H D ys zs,H D=Ve (.lst ys)->R y H->R y (upd H D (.lst zs)))
  (fin:∀D H ys,H1 D=Vf->ao H1 H->H D=Ve (.lst ys)->ys.length<=xs.length->(∀y∈ys,R y H)->Q (.ref D) H):mD (Itl K a) 1 fr (λ_=>jq 0) tf te Q σ H1:=by
 refine⟨λb D hD=>?_⟩
 refine⟨λi m σ' H'=>m=xs.length-i/\i<=xs.length/\(∃v0,σ'=v0::cFr fr σ)/\ao H1 H'/\∃ys,H' D=Ve (.lst ys)/\ys.length<=i/\∀y∈ys,R y H',⟨xs.length,rfl,MB _,⟨Vf,rfl⟩,ao.upd hD _,[],aj,Mo _,λy h=>by cases h⟩,?_⟩
 rintro i m σ' H' ⟨rfl,hi,⟨v0,rfl⟩,sm,ys,hl,hy,hR⟩
 by_cases hlt:i<xs.length
 ·refine .inr ⟨⟨xs,xs[i],sm.seq hx,Mh hlt⟩,λσ2 H2=>(∃v0,σ2=v0::cFr fr σ)/\ao H1 H2/\∃ys,H2 D=Ve (.lst ys)/\ys.length<=i+1/\∀y∈ys,R y H2,λσ2 H2 q=>⟨xs.length-(i+1),by omega,rfl,hlt,q⟩,λv H2 y=>?_⟩;obtain⟨rfl,yv⟩:=y;have ev:=yv xs (sm.seq hx);have mem:v∈xs:=Mr ev;show tf b (Ve v::cFr fr σ) _ _;refine hf b v _ _ mem sm λH3 s3=>?_;cases hp:p v with
  |false=>
   rw[if_neg Mw];exact⟨⟨_,rfl⟩,sm.trans s3,ys,s3 _ _ hl,by omega,λy h=>mono _ _ _ s3 (hR y h)⟩
  |true=>
   rw[if_pos rfl];refine he b v _ _ mem hp (sm.trans s3) λz H4 s4 rz=>⟨ys,s4 _ _ (s3 _ _ hl),by omega,⟨_,rfl⟩,?_,ys++[z],aj,by simp;omega,λy h=>?_⟩
   ·intro c o q;by_cases hc:c=D
    ·rw[hc,hD]at q;cases q
    rw[aw hc];exact(sm.trans (s3.trans s4)) c o q
   have hD4:=s4 _ _ (s3 _ _ hl);rcases Mp.mp h with h|h
   ·exact st _ _ _ _ _ hD4 (mono _ _ _ (s3.trans s4) (hR y h))
   rw[Mq]at h;subst h;exact st _ _ _ _ _ hD4 rz
 have e:i=xs.length:=by omega
 subst e
 exact .inl ⟨⟨xs,sm.seq hx,Mo _⟩,fin D H' ys hD sm hl hy hR⟩
set_option maxHeartbeats 4000000
theorem zM{K:OZ}{a:OW}{xs:List V}{fr:List Nat}{tf:CB->TT}{te:CB->TE}{Q:VK}{σ:St}{H1:Hp}(p:V->Bool)(R:V->V->Hp->Prop)(hx:SqL K H1 a xs)(hn:xs.length<sizeLine)
  (hf:∀b x H (G:Bool->Hp->Prop),x∈xs->ao H1 H->(∀H',ao H H'->G (p x) H')->tf b (Ve x::cFr fr σ) H G)
  (he:∀b x H (G:VK),x∈xs->p x=true->ao H1 H->(∀y H',ao H H'->R x y H'->G y H')->te b (Ve x::cFr fr σ) H G)
  (mono:∀x y H H',ao H H'->R x y H->R x y H') (st:∀x y H D ys zs,H D=Ve (.lst ys)->R x y H->R x y (upd H D (.lst zs)))
  (fin:∀D H ys,H1 D=Vf->ao H1 H->H D=Ve (.lst ys)->Paired (λx y=>R x y H) (xs.filter p) ys->Q (.ref D) H):mD (Itl K a) 1 fr (λ_=>jq 0) tf te Q σ H1:=by
 have len:∀{i:Nat}{ys:List V}{H:Hp},Paired (λx y=>R x y H) ((xs.take i).filter p) ys->ys.length<=i:=λ{i} _ _ h=>by
  have h1:=O3 h;have h2:=Nd p (xs.take i);rw[Nb]at h2;omega
 refine⟨λb D hD=>?_⟩
 refine⟨λi m σ' H'=>m=xs.length-i/\i<=xs.length/\(∃v0,σ'=v0::cFr fr σ)/\ao H1 H'/\∃ys,H' D=Ve (.lst ys)/\Paired (λx y=>R x y H') ((xs.take i).filter p) ys,⟨xs.length,rfl,MB _,⟨Vf,rfl⟩,ao.upd hD _,[],aj,.nil⟩,?_⟩
 rintro i m σ' H' ⟨rfl,hi,⟨v0,rfl⟩,sm,ys,hl,hR⟩
 have hy:=len hR
 by_cases hlt:i<xs.length
 ·refine .inr ⟨⟨xs,xs[i],sm.seq hx,Mh hlt⟩,λσ2 H2=>(∃v0,σ2=v0::cFr fr σ)/\ao H1 H2/\∃ys,H2 D=Ve (.lst ys)/\Paired (λx y=>R x y H2) ((xs.take (i+1)).filter p) ys,λσ2 H2 q=>⟨xs.length-(i+1),by omega,rfl,hlt,q⟩,λv H2 y=>?_⟩;obtain⟨rfl,yv⟩:=y;have ev:=yv xs (sm.seq hx);have mem:v∈xs:=Mr ev;rw[Nf,ev,Tn];show tf b (Ve v::cFr fr σ) _ _;refine hf b v _ _ mem sm λH3 s3=>?_;cases hp:p v with
  |false=>
   rw[if_neg Mw];refine⟨⟨_,rfl⟩,sm.trans s3,ys,s3 _ _ hl,?_⟩;have e0:((Ve v).toList.filter p)=[]:=by simp[hp]
   rw[e0,MR];exact Paired.cI hR λ_ _ h=>mono _ _ _ _ s3 h
  |true=>
   rw[if_pos rfl];have e0:((Ve v).toList.filter p)=[v]:=by simp[hp]
   rw[e0];refine he b v _ _ mem hp (sm.trans s3) λz H4 s4 rz=>⟨ys,s4 _ _ (s3 _ _ hl),by omega,⟨_,rfl⟩,?_,ys++[z],aj,?_⟩
   ·intro c o q;by_cases hc:c=D
    ·rw[hc,hD]at q;cases q
    rw[aw hc];exact(sm.trans (s3.trans s4)) c o q
   have hD4:=s4 _ _ (s3 _ _ hl);exact Qn (Paired.cI hR λ_ _ h=>st _ _ _ _ _ _ hD4 (mono _ _ _ _ (s3.trans s4) h)) (st _ _ _ _ _ _ hD4 rz)
 have e:i=xs.length:=by omega
 subst e
 rw[Nc]at hR
 exact .inl ⟨⟨xs,sm.seq hx,Mo _⟩,fin D H' ys hD sm hl hR⟩
section
variable{X:Cx}
theorem GH(ho:PE X o to)(hbase:P4 o "pop" X.env (PD o X.env)=PD o X.env:=by rfl)(hline:(apos.endLine==cpos.line)=true:=by rfl) :
  PE X (.Call (.Attribute o "pop" apos) [] [] cpos) (JO X.K "list" Jv to):=
 IL RK PySem.F.slot_list_pop PySem.F.type_list_pop Jh ho hbase hline
theorem GZ(hu:X.A.units+64<P9):OpR X (Pg .NotEq) (λx y H Q=>∃a b kvs lvs,x=.ref a/\y=.ref b/\Rd H a (.dK kvs)/\Rd H b (.dK lvs)/\kvs.length=lvs.length/\
  (∀k v,eX kvs k=Ve v->∃v',eX lvs k=Ve v'/\ve X.K H v v')/\Q (.bl false) H):=by
 intro pins s σ H x y v u Q I rx ry h
 obtain⟨a,b,kvs,lvs,rfl,rfl,ha,hb,hl,hv,q⟩:=h
 cases rx
 cases ry
 obtain⟨z,hs,vs,rel,dd⟩:=ju I.hok ha
 obtain⟨z2,hs2,vs2,rel2,dd2⟩:=ju I.hok hb
 have e1:=rel.length
 have e2:=rel2.length
 refine Qm (op:=.NotEq) dd.typeIs dd2.typeIs Sx (QP Sx dd.typeIs PySem.F.entry_dict_ne ?_ (PySem.F.args_dict_ne_2 _ _)) (by omega)
 show wpAny _ _ (Px "__ne__" ⟨[.ref a,.ref b],[]⟩>>=_) _ _ _
 refine OY ?_
 unfold Px
 refine OY (Qk dd.typeIs ?_)
 show wpAny _ _ (pure (O8 a,O8 b)) _ _ _
 refine O4 ?_
 refine OY (RN (T:="dict") (b:=true) dd2.typeIs (by rw[Sw];kernel_rfl) ?_)
 show wpAny _ _ (Pu "dict.__ne__" a b>>=_) _ _ _
 refine OY (rH hs hs2 dd dd2 (by omega) (λi k v hi=>?_) ?_)
 ·obtain⟨⟨k',v'⟩,hkv⟩:∃kv,kvs[i]?=Ve kv:=⟨kvs[i]'(by have:=(Ml.mp hi).1;omega),Mh _⟩;have hr:k'=k/\Vo v' v:=nE rel hkv hi;obtain⟨rfl,hrv⟩:=hr;obtain⟨w',hw,hq⟩:=hv k' v' (rG (by rw[rel.keys];exact(dd.dictAt.choose_spec).nodup) hkv);have hval:=rel2.val k';rw[hw]at hval;cases hvv:valueAt vs2 k' with
  |none=>rw[hvv]at hval;exact(show False from hval).elim
  |some u'=>
   rw[hvv]at hval;exact⟨u',rfl,AX I (show X.A.units+1<P9 by omega) hq hrv hval⟩
 show wpAny _ _ (ret (.bool false)) _ _ _
 exact O4 ⟨.bool false,rfl,(λz=>nomatch z),.bl false,H,I,rfl,q⟩
end
section
variable{X:Cx}{e:Expr}{te:TE}{es:List Expr}{t:Str->TE}{pos:Pos}
end
section
variable{X:Cx}
theorem G3:OpR X (PK .RShift) (qV (λ_ j=>0<=j) λi j=>.int (i/2^j.toNat)):=IP.qV
theorem F9(val:Nat->Int):∀n,∀i ≤ n,val i<=val (Ug (λi j=>decide (val i>val j)) n):=by
 intro n;induction n with
 |zero=>intro i hi;rw[Nat.le_zero.mp hi];exact MF _
 |succ n ih=>
  intro i hi;have e:Ug (λi j=>decide (val i>val j)) (n+1)=if decide (val (n+1)>val (Ug (λi j=>decide (val i>val j)) n))=true then n+1 else Ug (λi j=>decide (val i>val j)) n:=rfl
  rw[e];by_cases h:val (n+1)>val (Ug (λi j=>decide (val i>val j)) n)
  ·rw[if_pos (decide_eq_true h)];rcases Nat.lt_or_ge i (n+1)with z|z
   ·have:=ih i (by omega);omega
   rw[show i=n+1 by omega];exact MF _
  rw[if_neg (by rw[decide_eq_false h];exact Mw)];rcases Nat.lt_or_ge i (n+1)with z|z
  ·exact ih i (by omega)
  rw[show i=n+1 by omega];omega
theorem Jt(hc:X.calm=true:=by rfl):dR X (.builtin "max") (λxs H Q=>∃(p:OW)(ns:List Int),xs=[.ref p]/\SqL X.K H p (ns.map V.int)/\ns≠[]/\∀m∈ns,(∀n∈ns,n<=m)->Q (.int m) H):=by
 intro pins s σ H xs us Q I r h;obtain⟨p,ns,rfl,hq,ne,q⟩:=h;obtain⟨u,rfl,rx⟩:=Vy r;cases rx;obtain⟨its,rv,pl,hz⟩:=I.list hq;have hl:=pl.isList;have ia:=Vx rv;obtain⟨xs,hx⟩:=ia.allInts.items;have hn:xs.toList.map (·.1)=ns:=by
  rw[<-nums_intItems,<-hx];exact ia.numsOf
 rw[hx]at hl;have hs:xs.size=ns.length:=by rw[<-hn];simp
 have l0:0<ns.length:=OD.mpr ne;have at':∀i,i<ns.length->ns[i]?=Ve (numAt xs i):=λi hi=>by
  have hi':i<xs.size:=by omega
  unfold numAt;rw[<-hn,Mu];simp[hi']
 refine max_intList (I.ok.hd hc) hl (by omega) λv h' tk hv hk=>?_;obtain⟨t,rfl⟩:=intItems_at hv;have bl:Ug (λi j=>decide (numAt xs i>numAt xs j)) (xs.size-1)<ns.length:=by
  have z:=(Array.getElem?_eq_some_iff.mp hv).1;rw[show(Uh xs).size=xs.size from U4 ..]at z;rw[<-hs];exact z
 refine⟨.int _,H,I.kept (t':=tk) hk,⟨_,rfl⟩,q _ (Mr (at' _ bl)) λn hn'=>?_⟩;obtain⟨i,hi⟩:=ME hn';have hi':i<ns.length:=(Ml.mp hi).1;have e:=at' i hi';rw[hi]at e;rw[O1 e];exact F9 (numAt xs) _ i (by omega)
theorem uB(hl:s.heap.IsTuple l (Uh xs))
  (h:∀s₂:O0,s₂={ s with heap:=s.heap.push { cls:=.type "tuple_iterator",data:=.fields #[.ref l,.int 0 0] } }->
   (s₂.heap.IsTupleIter s.heap.objs.size l 0/\s₂.heap.IsTuple l (Uh xs))->(∀b∈[s.heap.objs.size,l],b<s₂.heap.objs.size)->l≠s.heap.objs.size->Q (.ref s.heap.objs.size) s₂) :
  wpAny (Pb prog w) A (pyIter (.ref l)) Q E s:=by
 have hlt:l<s.heap.objs.size:=by obtain⟨_,e,_⟩:=hl;exact O6 e
 refine Ti hl (h _ rfl ⟨⟨_,Pe _ rfl,rfl,rfl⟩,hl.push _⟩ (λb hb=>?_) (MU hlt))
 show b<(s.heap.push _).objs.size
 rw[P6]
 rcases Mf.mp hb with rfl|hb
 ·exact NJ _
 rcases Mf.mp hb with rfl|hb
 ·exact NP hlt
 cases hb
theorem HG(hc:X.calm=true:=by rfl):dR X (.builtin "sum") (λxs H Q=>∃(p:OW)(ns:List Int),xs=[.ref p]/\SqT X.K H p (ns.map V.int)/\Q (.int ns.sum) H):=by
 intro pins s σ H xs us Q I r h;obtain⟨p,ns,rfl,hq,q⟩:=h;obtain⟨u,rfl,rx⟩:=Vy r;cases rx;obtain⟨its,rv,hl,hz⟩:=I.tuple hq;have ia:=Vx rv;obtain⟨xs,hx⟩:=ia.allInts.items;have hn:xs.toList.map (·.1)=ns:=by
  rw[<-nums_intItems,<-hx];exact ia.numsOf
 rw[hx]at hl;obtain⟨o,e1,e2,n,e3⟩:=hl;refine call_sum_walkG (uB ⟨o,e1,e2,n,e3⟩ λs₂ e st hfp hlI=>?_);subst e;refine⟨_,_,_,_,_,_,numAt xs,rfl,Walks.tuple (A:=X.A.in1) (I.ok.hd hc) _ p hlI (Uh xs),st,hfp,(λ_ _=>intItems_at),λh' tk t' hk=>?_⟩;have ez:(Uh xs).size=xs.size:=U4 ..;rw[ez,preSum_eq,Nh (by simp),hn];refine⟨.int _,H,I.kept (t':=tk) (λb o e=>?_),⟨_,rfl⟩,q⟩;refine hk b o (λhm=>?_) (O2 _ e);rcases Mf.mp hm with z|hm
 ·exact absurd (z▸O6 e) (Ny _)
 cases hm
end
def EqB(prog:Program)(w:O7)(A:Py)(s:O0)(y x:OX)(b:Bool):Prop:=∀(E:OX->O0->Prop)(Q:Bool->O0->Prop),Q b s->wpAny (Pb prog w) A (eqBool y x) Q E s
theorem contains_loopW(l:OW)(items:Array OX)(n:Nat)(dd:Option OW)(sl:Array (Option OX))(x:OX)(e:OX->Bool)(k:Nat) :
  ∀i:Nat,items.size-i=k->MeetsIn prog w (RO.«list.__contains__.loop» ⟨[.ref l,x,rawInt i],[]⟩)
   (λA R s=>s.heap.get? l=Ve { cls:=.type "list",dict:=dd,data:=.seq items n,slots:=sl }/\(∀y,y∈items->EqB prog w A.in1 s y x (e y))/\R (.ok (.ret (.bool ((items.toList.drop i).any e)))) s):=by
 induction k with
 |zero=>
  intro i hk A R s h
  obtain⟨hp,g,d,tk,os⟩:=s;obtain⟨hl,he,h⟩:=h
  wp_walk using Qe hl
  have hi:items[((i:Nat):Int).toNat]?=Vf:=by simp;omega
  have hd:items.toList.drop i=[]:=by simp;omega
  rw[hd]at h
  rw[hi]
  wp_walk
  exact h
 |succ k ih=>
  intro i hk A R s h
  obtain⟨hp,g,d,tk,os⟩:=s;obtain⟨hl,he,h⟩:=h
  wp_walk using Qe hl
  have hlt:i<items.size:=by omega
  have hi:items[((i:Nat):Int).toNat]?=Ve items[i]:=by simp[hlt]
  have hd:items.toList.drop i=items[i]::items.toList.drop (i+1):=by simp[NH,hlt]
  rw[hd,NF]at h
  rw[hi]
  refine OY (he _ (OH hlt) _ _ ?_)
  cases hb:e items[i]with
  |true=>
   rw[hb]at h
   wp_walk
   exact h
  |false=>
   rw[hb]at h
   have hc:((i:Int)+1)=((i+1:Nat):Int):=by push_cast;rfl
   wp_walk
   rw[hc]
   exact⟨RC PZ _,Q0 Q1 (by
    rw[Qr PZ _];exact ih (i+1) (by omega) A R _ ⟨hl,he,by simpa using h⟩)⟩
theorem list_containsW(l:OW)(items:Array OX)(n:Nat)(dd:Option OW)(sl:Array (Option OX))(x:OX)(e:OX->Bool) :
  MeetsIn prog w (RO.«list.__contains__» ⟨[.ref l,x],[]⟩)
   (λA R s=>s.heap.get? l=Ve { cls:=.type "list",dict:=dd,data:=.seq items n,slots:=sl }/\(∀y,y∈items->EqB prog w A.in1 s y x (e y))/\R (.ok (.ret (.bool (items.any e)))) s):=by
 intro A R s h
 obtain⟨hp,g,d,tk,os⟩:=s;obtain⟨hl,he,h⟩:=h
 wp_walk using Qe hl
 exact⟨RC PZ _,Q0 Q1 (by
  rw[Qr PZ _];exact contains_loopW l items n dd sl x e _ 0 rfl A R _ ⟨hl,he,by simpa using h⟩)⟩
section
variable{prog:Program}{w:O7}{K:Type}[DecidableEq K]{knd:KeyKind prog w K}{A:Py}{E:OX->O0->Prop}{s:O0}
theorem zw{id:String}{a b:OW}{k:K}{v v':OX}{kvs lvs:List (K×OX)}{Q:Bool->O0->Prop}(hda:(a==PB)=false)(hdb:(b==PB)=false)(ha:s.heap.DictOf knd a ((k,v)::kvs))(hb:s.heap.DictOf knd b lvs)(hl:kvs.length+1=lvs.length)
  (hv:valueAt lvs k=Ve v') (he:Rk A s v v' false) (q:Q false s):wpAny (Pb prog w) A (Pu id a b) Q E s:=by
 obtain⟨o,es,ep,ho,hx,hd,hk,hp,hn⟩:=ha
 obtain⟨o2,es2,ep2,ho2,hx2,hd2,hk2,hp2,hn2⟩:=hb
 have hz:es.size=kvs.length+1:=by have:=hp.length;simpa using this
 have hz2:es2.size=lvs.length:=by rw[<-hp2.length];simp
 unfold Pu
 refine OY (nH hda ?_)
 refine OY (nH hdb ?_)
 refine OY (PM ho hd ?_)
 refine OY (PM ho2 hd2 ?_)
 rw[if_neg (by simp;omega)]
 refine OY (Sb ho hd ?_)
 refine OY ?_
 rw[Qs]
 simp only[Sh,OQ,Tu,Nat.div_one]
 rw[hz,List.range'_succ]
 refine Us _ (λrest c s'=>rest=0::NI (0+1) kvs.length/\c=(Vf,())/\s'=s) _ ?_ ?_ _ _ ⟨rfl,rfl,rfl⟩
 ·rintro i rest c s' ⟨e0,rfl,rfl⟩;have hi0:i=0:=(RB e0).1;subst hi0;have hi:0<es.size:=by omega
  refine OY (PM ho hd ?_);rw[Rr hi];obtain⟨hkey,hval⟩:=hp.get? (i:=0) (e:=es[0]) (by simp[hi]) rfl;obtain⟨k',hk',hh⟩:=hk es[0] (OH hi);have hkk:k'=k:=knd.inj _ _ _ hk' hkey;subst hkk;show wpAny _ _ (QA [es[0].key,es[0].val] _>>=_) _ _ _;refine OY (wpAny_holding ?_);rw[hh,hval];refine OY (Ud hkey ho2 hd2 hk2 ?_);obtain⟨j,f,hj,hf,hfv⟩:=rV hp2 hv;rw[<-Si,Sv]at hj;rw[NU]at hf;rw[hj];refine OY (PM ho2 hd2 ?_);rw[hf];show wpAny _ _ (QA [f.val] (eqBool v f.val)) _ _ _;rw[hfv];refine wpAny_holding (he _ _ _ _ ?_);rw[if_pos (by decide)];exact O4 (O4 q)
 rintro c s' ⟨e0,_,_⟩
 cases e0
end
section
variable{X:Cx}
def Dj(H:Hp)(a b:OW):Prop:=a≠b/\∃(k:Key)(i j:Int)(kvs lvs:List (Key×V)),Rd H a (.dK ((k,.int i)::kvs))/\Rd H b (.dK ((k,.int j)::lvs))/\kvs.length=lvs.length/\i≠j
theorem BQ(I:Inv X pins σ H s)(hu:A.units+2<P9)(h:Dj H a b):EqB X.prog X.w A s (.ref a) (.ref b) false:=by
 obtain⟨hab,k,i,j,kvs,lvs,ha,hb,hl,hv⟩:=h;intro E Q hq;unfold eqBool;refine wpAny_holding (wpAny_ite_split (λhab'=>absurd (QT (eq_of_beq hab')) hab) λ_=>OY ?_);obtain⟨z,hs,vs,rel,dd⟩:=ju I.hok ha;obtain⟨z2,hs2,vs2,rel2,dd2⟩:=ju I.hok hb;have e1:=rel.length;have e2:=rel2.length;cases rel with
 |@cons _ u _ us r1 rest=>
  obtain⟨k',v'⟩:=u;obtain⟨ek,t,ev⟩:=r1;dsimp only at ek ev;subst ek ev;have hval:=rel2.val k;rw[i7 (p:=(k,V.int j)) rfl]at hval;cases hvv:valueAt vs2 k with
  |none=>rw[hvv]at hval;exact(show False from hval).elim
  |some u'=>
   rw[hvv]at hval;obtain⟨t2,rfl⟩:=hval;refine Qm (op:=.Eq) dd.typeIs dd2.typeIs Qt (QP Qt dd.typeIs Sm ?_ (Sa _ _)) (by omega);show wpAny _ _ (Px "__eq__" ⟨[.ref a,.ref b],[]⟩>>=_) _ _ _;refine OY ?_;unfold Px;refine OY (Qk dd.typeIs ?_);show wpAny _ _ (pure (O8 a,O8 b)) _ _ _;refine O4 ?_;refine OY (RN (T:="dict") (b:=true) dd2.typeIs (by rw[Sw];kernel_rfl) ?_);show wpAny _ _ (Pu "dict.__eq__" a b>>=_) _ _ _;simp only[MD]at e1 e2;refine OY (zw hs hs2 dd dd2 (by omega) hvv (by have:=Rm (A:=A.in1) (s:=s) i t j t2;rw[beq_eq_false_iff_ne.mpr hv]at this;exact this) ?_);show wpAny _ _ (ret (.bool false)) _ _ _;exact O4 ⟨.bool false,rfl,(λz=>nomatch z),PJ hq⟩
theorem uG:∀{bs:List OW}{its:List OX},Vn (bs.map V.ref) its->its=bs.map O8
 | [],_,.nil=>rfl
 |b::r,_,.cons r2 r3=>by cases r2;rw[uG r3];rfl
theorem Ec(hu:X.A.units+64<P9):OpR X (Pg .NotIn) (λx y H Q=>∃(a p:OW)(bs:List OW),x=.ref a/\y=.ref p/\SqL X.K H p (bs.map V.ref)/\(∀b∈bs,b≠a->Dj H b a)/\Q (.bl (!decide (a∈bs))) H):=by
 intro pins s σ H x y v u Q I rx ry h;obtain⟨a,p,bs,rfl,rfl,hp,hb,q⟩:=h;cases rx;cases ry;obtain⟨its,r1,⟨o,n,e1,c1,_,d1⟩,_⟩:=I.list hp;obtain⟨oc,od,oda,osl⟩:=o;dsimp only at c1 d1;subst c1 d1;have eits:its=bs.map O8:=uG r1;subst eits;show wpAny _ X.A (do return RP (!(<-contains (.ref p) (.ref a)))) _ _ s;refine OY (wpAny_contains_slot (T:="list") ⟨_,e1,rfl⟩ Rq (P5 (Ua Rq ⟨_,e1,rfl⟩ PySem.F.entry_list_contains (PySem.F.args_list_contains_2 _ _) (list_containsW p (bs.map O8).toArray n od osl (.ref a) (λv=>decide (v=.ref a)))
  (Q:=λv s'=>s'=s/\v=.bool ((bs.map O8).toArray.any λv=>decide (v=.ref a))) ⟨e1,λy hy=>?_,rfl,rfl⟩) (λv s' hv=>?_) λ_ _ e=>e))
 ·have hy':y∈bs.map O8:=by simpa using hy
  obtain⟨b,hbm,rfl⟩:=Mz.mp hy';by_cases e:b=a
  ·subst e;rw[decide_eq_true rfl];exact λE Q hq=>UI _ X.prog X.w E Q hq
  rw[decide_eq_false (λz=>e (QT z))];exact BQ I (by show X.A.units+1+2<P9;omega) (hb b hbm e)
 obtain⟨rfl,rfl⟩:=hv;have ea:((bs.map O8).toArray.any λv=>decide (v=.ref a))=decide (a∈bs):=by
  rw[List.any_toArray,OR,Nx,Ni,decide_eq_true_iff];exact⟨λ⟨b,h1,h2⟩=>QT (of_decide_eq_true h2)▸h1,λh=>⟨a,h,decide_eq_true rfl⟩⟩
 rw[ea];exact PJ (O4 ⟨.bl _,H,I,rfl,q⟩)
end
section
variable{prog:Program}{w:O7}{A:Py}{E:OX->O0->Prop}{s:O0}
end
section
variable{X:Cx}
theorem JL(hu:X.A.units+64<P9):OpR X (Pg .NotEq) (λx y H Q=>∃d e,jn X.K H x d/\jn X.K H y e/\Pq d=true/\Pq e=true/\Q (.bl (!PyData.eqv d e)) H):=by
 intro pins s σ H x y v u Q I rx ry h;obtain⟨d,e,hd,he,sd,se,hq⟩:=h;obtain⟨as,z1⟩:=I.reads hd rx;obtain⟨bs,z2⟩:=I.reads he ry;exact ne_dataH z1 z2 sd se hu ⟨.bl _,H,I,rfl,hq⟩
end
section
variable{K:OZ}{H:Hp}{Q:VK}
theorem tix{p:OW}{xs:List V}{v:V}{j:Nat}(h:SqT K H p xs)(e:xs[j]?=Ve v)(q:Q v H):ixS K p (j:Int) H Q\/dgI p (.int (j:Int)) H Q:=.inl ⟨xs,v,.inr h,dA e,q⟩
theorem lix(h:SqL K H p xs)(e:atI xs i=Ve v)(q:Q v H):ixS K p i H Q\/dgI p (.int i) H Q:=.inl ⟨xs,v,.inl h,e,q⟩
theorem dgk(h:H d=Ve (.dK kvs))(e:eX kvs (.inr x)=Ve v)(q:Q v H):dgI d (.str x) H Q:=⟨v,e▸c9.k (k:=.inr x) h,q⟩
theorem fdI(h:H a=Ve (.ins C dx fs))(c:Cls K C)(n:aJ K C f)(e:fs.lookup f=Ve v)(q:Q v H):Jg K f (.ref a) H Q:=⟨a,C,dx,fs,v,rfl,h,c,n,e,q⟩
theorem lnl(h:H p=Ve (.lst xs))(q:Q (.int (xs.length:Nat)) H):Gg K [.ref p] H Q\/Ju [.ref p] H Q:=.inl ⟨_,_,rfl,.inl ⟨_,SqL.of h,rfl⟩,q⟩
theorem isB(ty:lU K H x t)(k:PL K t (.ref D)=Ve b)(q:R b H):HF K [x,.ref D] H λv H1=>Ei K v H1 R:=⟨x,.ref D,t,b,rfl,(λz=>by cases z),ty,k,b,rfl,q⟩
end
end L2
namespace K63
set_option genInjectivity false
set_option genCtorIdx false
open PySem L2
local macro_rules|`($a^af)=>`(aa $a af)
local macro_rules|`($a^$b^$c)=>`(aa $a ($b^$c))
local macro_rules|`(())=>`(by omega)
local macro_rules|`(∅)=>`(by decide)
theorem scM{N P:List Str}{sc:Q8}(k:sc.kind=.function:=by rfl)(c:sc.isCoroutine=false:=by rfl)(g:sc.isGenerator=false:=by rfl)(n:N.Nodup:=by decide+kernel)(p:N.take P.length=P:=by rfl)(q:∀x∈P,sc.names.lookup x=Ve .local\/sc.names.lookup x=Ve .cell:=by decide+kernel)(f:∀y∈sc.names,y.2≠ .free:=by decide+kernel):az N P sc:=⟨k,c,g,n,p,q,f⟩
theorem px{X:Cx}{a b:Expr}{ta tb:TE}{pos:Pos}(hu:X.A.units+64<P9)(ha:PE X a ta)(hb:PE X b tb)(hs:Bu b:=by exact λ_ _=>rfl):PE X (.Subscript a b pos) (tOp (JX X.K) ta tb):=Le (Jk hu) ha hb hs
theorem pgn{X:Cx}{pos:Pos}{i:Nat}{x:Str}(hN:X.N.Nodup)(hi:X.N[i]?=Ve x)(hx:Loc X.env.scope x:=by first|exact Mt rfl|exact MJ rfl)(hf:X.fn x=true\/X.env.scope.names.lookup x=Ve .local:=by first|exact .inl rfl|exact .inr rfl|assumption):PG X (.Name x pos) (jq i):=AQ hN hi hx hf
theorem pst{X:Cx}(i:Nat){x:Str}{e:Expr}{te:TE}{pos pos':Pos}(hN:X.N.Nodup)(he:PE X e te)(hi:X.N[i]?=Ve x:=by rfl)(hx:Loc X.env.scope x:=by first|exact Mt rfl|exact MJ rfl)(hs:SH e (Ve (.Name x pos')) pos.line X.env=pure false:=by rfl)(hf:X.fn x=true\/X.env.scope.names.lookup x=Ve .local:=by first|exact .inl rfl|exact .inr rfl|assumption):PS X (.Assign [.Name x pos'] e pos) (DJ te (jq i)):=Ij hN hi hx he hs hf
theorem pcB{X:Cx}{id:String}{r:List V->Hp->VK->Prop}{x:Str}{e:Expr}{es:List Expr}{t:TA}{p pos:Pos}(hc:dR X (.builtin id) r)(hm:X.mg x=Vf)(ha:PA X (e::es) t)(hg:Gl X x:=by rfl)(hv:P1 x=Ve (.builtin id):=by boot_by_name)(hn:x≠"__name__":=by decide)(hdb:(x==("__debug__":Str))=false:=by decide)(he:O5 (e::es) X.env=(false,PD e X.env)::O5 es X.env:=by rfl)(hpl:(PR pos (O5 es X.env)).any (·.1)=false:=by rfl):PE X (.Call (.Name x p) (e::es) [] pos) (tCB r t):=Dg hc hg hm hv ha hn hdb he hpl
theorem pcT{X:Cx}{T:String}{r:List V->Hp->VK->Prop}{x:Str}{e:Expr}{es:List Expr}{t:TA}{p pos:Pos}(hc:dR X (.type T) r)(hm:X.mg x=Vf)(ha:PA X (e::es) t)(hg:Gl X x:=by rfl)(hv:P1 x=Ve (.type T):=by boot_by_name)(hn:x≠"__name__":=by decide)(hdb:(x==("__debug__":Str))=false:=by decide)(he:O5 (e::es) X.env=(false,PD e X.env)::O5 es X.env:=by rfl)(hpl:(PR pos (O5 es X.env)).any (·.1)=false:=by rfl):PE X (.Call (.Name x p) (e::es) [] pos) (tCB r t):=Cg hc hg hm hv ha hn hdb he hpl
theorem ptc{X:Cx}{a b:Expr}{ta tb:TE}{pos:Pos}{op:CmpOp}{r:R2}(ho:OpR X (Pg op) r)(ha:PE X a ta)(hb:PE X b tb)(hm:Qx op b=false:=by exact DE _):PT X (.Compare a [op] [b] pos) (vA (tOp r ta tb)):=Fo ho ha hb hm
theorem pec{X:Cx}{a b:Expr}{ta tb:TE}{pos:Pos}{op:CmpOp}{r:R2}(ho:OpR X (Pg op) r)(ha:PE X a ta)(hb:PE X b tb)(hm:Qx op b=false:=by exact DE _):PE X (.Compare a [op] [b] pos) (tOp r ta tb):=Gs ho ha hb hm
abbrev lC:Pj:=top 21
theorem jL:az ["program","ranks","head"] ["program"] (av lC):=scM
abbrev mM:Pj:=top 26
theorem vT:az ["thing"] ["thing"] (av mM):=scM
abbrev qi:Pj:=top 27
theorem Am:az ["gift","size"] ["gift","size"] (av qi):=scM
abbrev kS:Pj:=top 28
theorem nW:az ["given","gifts","gift"] ["given","gifts"] (av kS):=scM
abbrev oR:Pj:=top 29
theorem yh:az ["own"] ["own"] (av oR):=scM
abbrev oK:Pj:=top 30
theorem gQ:az ["program","gifts","cells","head","deed","part"] ["program","gifts"] (av oK):=scM
abbrev tJ:Pj:=top 33
theorem BR:az ["one","word","other"] ["one","word","other"] (av tJ):=scM
abbrev ko:Pj:=top 34
theorem r9:az ["place","size"] ["place","size"] (av ko):=scM
abbrev qm:Pj:=top 37
theorem zq:az ["program","cells"] ["program","cells"] (av qm):=scM
abbrev C5:Pj:=top 38
theorem Ae:az ["program","gifts","state","book"] ["program","gifts"] (av C5):=scM
abbrev zG:Pj:=top 40
theorem AN:az ["program","book","rank","ranks"] ["program","book","rank"] (av zG):=scM
abbrev nr:Pj:=top 41
theorem vQ:az ["letters","at"] ["letters","at"] (av nr):=scM
abbrev qo:Pj:=top 42
theorem zu:az ["letter"] ["letter"] (av qo):=scM
abbrev zQ:Pj:=top 43
theorem nz:az ["program","rank","one","other","first","second","at","mine","yours"] ["program","rank","one","other"] (av zQ):=scM
abbrev mJ:Pj:=top 47
theorem wR:az ["size","start"] ["size","start"] (av mJ):=scM
abbrev kU:Pj:=top 48
theorem dq:az ["program","begin","name","more","givens","gifts","at","given","start"] ["program","begin","name","more"] (av kU):=scM
abbrev vH:Pj:=top 49
theorem pM:az ["program","name","found","begin","more"] ["program","name"] (av vH):=scM
abbrev lF:Pj:=top 50
theorem gG:az ["program","name","rank","one","other","unlike"] ["program","name","rank"] (av lF):=scM
abbrev jV:Pj:=top 52
theorem tD:az ["_law_script","_law_k"] ["_law_script","_law_k"] (av jV):=scM
abbrev p8:Pj:=top 53
theorem oJ:az ["_law_cell","_law_way","_law_many","_law_number_here"] ["_law_cell","_law_way","_law_many"] (av p8):=scM
abbrev oB:Pj:=top 54
theorem eG:az ["_law_cell","_law_k","_law_letters_here","_law_way","_law_words","_law_size","_law_at","_law_stem"] ["_law_cell","_law_k"] (av oB):=scM
abbrev lu:Pj:=top 55
theorem ur:az ["_law_cell"] ["_law_cell"] (av lu):=scM
abbrev mq:Pj:=top 56
theorem bK:az ["_law_script","_law_state","_law_names","_law_ranks","_law_size","_law_heads_here","_law_turn","_law_row","_law_name_here","_law_rank"] ["_law_script","_law_state"] (av mq):=scM
abbrev qt:Pj:=top 57
theorem zL:az ["_law_state","_law_some","_law_loose","_law_low","_law_high"] ["_law_state","_law_some","_law_loose","_law_low","_law_high"] (av qt):=scM
abbrev l8:Pj:=top 58
theorem kZ:az ["_law_state","_law_cell","_law_way","_law_high","_law_some","_law_pick"] ["_law_state","_law_cell","_law_way","_law_high"] (av l8):=scM
abbrev mF:Pj:=top 59
theorem fH:az ["_law_state","_law_cell","_law_high","_law_way","_law_one","_law_some","_law_word"] ["_law_state","_law_cell","_law_high"] (av mF):=scM
abbrev pY:Pj:=top 60
theorem tI:az ["_law_state","_law_row","_law_steps","_law_frame"] ["_law_state","_law_row","_law_steps"] (av pY):=scM
abbrev oh:Pj:=top 61
theorem gU:az ["_law_state","_law_cell","_law_loose","_law_marks","_law_mark","_law_some","_law_name_here"] ["_law_state","_law_cell","_law_loose"] (av oh):=scM
abbrev mP:Pj:=top 62
theorem cC:az ["_law_state","_law_cell","_law_kind","_law_loose","_law_low","_law_word","_law_some","_law_name_here","_law_high","_law_row"] ["_law_state","_law_cell","_law_kind","_law_loose"] (av mP):=scM
abbrev kQ:Pj:=top 63
theorem bF:az ["_law_state","_law_cell","_law_kind","_law_loose","_law_frame","_law_low","_law_high","_law_idles","_law_times","_law_row","_law_some","_law_rank"] ["_law_state","_law_cell","_law_kind","_law_loose"] (av kQ):=scM
abbrev kT:Pj:=top 64
theorem du:az ["_law_state","_law_frame","_law_rows","_law_row","_law_cost"] ["_law_state"] (av kT):=scM
abbrev ou:Pj:=top 65
theorem yG:az ["_law_state","_law_frame"] ["_law_state","_law_frame"] (av ou):=scM
abbrev kY:Pj:=top 66
theorem cO:az ["_law_state","_law_cell","_law_loose","_law_frame","_law_some","_law_name_here","_law_deed","_law_things","_law_part","_law_high"] ["_law_state","_law_cell","_law_loose"] (av kY):=scM
abbrev lA:Pj:=top 67
theorem jD:az ["_law_state","_law_cell","_law_kind","_law_loose","_law_frame","_law_loops"] ["_law_state","_law_cell","_law_kind","_law_loose"] (av lA):=scM
abbrev ow:Pj:=top 68
theorem jx:az ["_law_state","_law_cells","_law_rank","_law_limit","_law_cell","_law_kind","_law_loose"] ["_law_state","_law_cells","_law_rank","_law_limit"] (av ow):=scM
abbrev mi:Pj:=top 69
theorem bY:az ["_law_script","_law_mode","_law_even","_law_limit","_law_state","_law_names","_law_cell","_law_at","_law_j","_law_rank","_law_name_here","_law_parts","_law_part","_law_many"] ["_law_script","_law_mode","_law_even","_law_limit"] (av mi):=scM
abbrev g9:Pj:=top 70
theorem kB:az ["_law_number_here","_law_row","_law_word"] ["_law_number_here","_law_row"] (av g9):=scM
abbrev gF:Pj:=top 71
theorem fJ:az ["_law_frame","_law_number_here","_law_row"] ["_law_frame"] (av gF):=scM
abbrev oP:Pj:=top 72
theorem df:az ["_law_rows","_law_heads_here","_law_deeds","_law_frames","_law_k","_law_word","_law_frame","_law_some"] ["_law_rows"] (av oP):=scM
abbrev pV:Pj:=top 73
theorem i9:az ["_law_rows","_law_turn","_law_name_here","_law_more","_law_gifts","_law_row","_law_number_here"] ["_law_rows","_law_turn","_law_name_here","_law_more"] (av pV):=scM
abbrev jT:Pj:=top 74
theorem iU:az ["_law_rows","_law_program","_law_gifts","_law_rank","_law_ranks","_law_row"] ["_law_rows","_law_program","_law_gifts","_law_rank"] (av jT):=scM
abbrev qe:Pj:=top 75
theorem dU:az ["_law_rows","_law_program","_law_name_here","_law_rank","_law_k","_law_one","_law_other","_law_ones","_law_others","_law_at","_law_first","_law_second"] ["_law_rows","_law_program","_law_name_here","_law_rank"] (av qe):=scM
abbrev mL:Pj:=top 76
theorem wZ:az ["_law_found","_law_due_here"] ["_law_found","_law_due_here"] (av mL):=scM
abbrev tj:Pj:=top 77
theorem oj:az ["_law_script","_law_rows","_law_program","_law_rank","_law_names","_law_name_here","_law_due_here"] ["_law_script"] (av tj):=scM
abbrev fT:Pj:=Vk (top 5) 0
theorem xZ:az ["self","number"] ["self","number"] (av fT):=scM
abbrev iE:Pj:=Vk (top 6) 0
theorem qO:az ["self","number","name","rank"] ["self","number","name","rank"] (av iE):=scM
abbrev ik:Pj:=Vk (top 7) 0
theorem qf:az ["self","number","name","rank","size"] ["self","number","name","rank","size"] (av ik):=scM
abbrev km:Pj:=Vk (top 8) 0
theorem ud:az ["self","number","name","size"] ["self","number","name","size"] (av km):=scM
abbrev jW:Pj:=Vk (top 9) 0
theorem sY:az ["self","number","name","rank"] ["self","number","name","rank"] (av jW):=scM
abbrev j9:Pj:=Vk (top 10) 0
theorem sC:az ["self","number","name","value"] ["self","number","name","value"] (av j9):=scM
abbrev jE:Pj:=Vk (top 11) 0
theorem rL:az ["self","number","name","place","value"] ["self","number","name","place","value"] (av jE):=scM
abbrev iI:Pj:=Vk (top 12) 0
theorem qW:az ["self","number","name","value"] ["self","number","name","value"] (av iI):=scM
abbrev jO:Pj:=Vk (top 13) 0
theorem tZ:az ["self","number","name","value","mark"] ["self","number","name","value","mark"] (av jO):=scM
abbrev iS:Pj:=Vk (top 14) 0
theorem qN:az ["self","number","name","things"] ["self","number","name","things"] (av iS):=scM
abbrev kM:Pj:=Vk (top 16) 0
theorem uo:az ["self","number","value","first","other","left","right"] ["self","number","value","first","other","left","right"] (av kM):=scM
abbrev iM:Pj:=Vk (top 17) 0
theorem qM:az ["self","number","thing","most","body","left","right"] ["self","number","thing","most","body","left","right"] (av iM):=scM
abbrev iL:Pj:=Vk (top 18) 0
theorem qQ:az ["self","number","name","parts","body"] ["self","number","name","parts","body"] (av iL):=scM
abbrev je:Pj:=Vk (top 19) 0
theorem qP:az ["self","heads","deeds","main"] ["self","heads","deeds","main"] (av je):=scM
abbrev mX:Pj:=Vk (top 23) 0
theorem xj:az ["self"] ["self"] (av mX):=scM
abbrev oz:Pj:=Vk (top 36) 0
theorem qA:az ["self","program","cells","deed"] ["self","program","cells"] (av oz):=scM
abbrev gZ:Pj:=Vk (top 36) 1
theorem qy:az ["self","thing"] ["self","thing"] (av gZ):=scM
abbrev fV:Pj:=Vk (top 36) 2
theorem fC:az ["self","value","behind","numbers"] ["self","value"] (av fV):=scM
abbrev fF:Pj:=Vk (top 36) 3
theorem oE:az ["self","row"] ["self","row"] (av fF):=scM
abbrev fO:Pj:=Vk (top 36) 4
theorem jy:az ["self","count","book"] ["self","count"] (av fO):=scM
abbrev jZ:Pj:=Vk (top 36) 5
theorem d9:az ["self","rows","ending","row"] ["self","rows"] (av jZ):=scM
abbrev lB:Pj:=Vk (top 36) 6
theorem ka:az ["self","row","book","told"] ["self","row"] (av lB):=scM
abbrev kP:Pj:=Vk (top 36) 7
theorem nY:az ["self","row","numbers"] ["self","row"] (av kP):=scM
abbrev jB:Pj:=Vk (top 36) 8
theorem dJ:az ["self","row","deed","numbers","part","number"] ["self","row"] (av jB):=scM
abbrev mC:Pj:=Vk (top 36) 9
theorem iy:az ["self","row","ending"] ["self","row"] (av mC):=scM
abbrev jY:Pj:=Vk (top 36) 10
theorem dO:az ["self","row","wanted","done","ending"] ["self","row"] (av jY):=scM
structure Adr where
 Row:OW
 bT:OW
 aN:OW
 bG:OW
 cH:OW
 cY:OW
 cM:OW
 bL:OW
 cm:OW
 cD:OW
 cS:OW
 dP:OW
 bN:OW
 cj:OW
 Program:OW
 fB:OW
 Run:OW
structure Txt(K:OZ)(mg:Str->Option OX)(A:Adr):Prop where
 oO:bE K mg "ranks_told" lC ["program"]
 p6:bE K mg "is_number" mM ["thing"]
 Br:bE K mg "is_good" qi ["gift","size"]
 oq:bE K mg "given_cell" kS ["given","gifts"]
 tX:bE K mg "own_cell" oR ["own"]
 sI:bE K mg "cells_of" oK ["program","gifts"]
 reckon:bE K mg "reckon" tJ ["one","word","other"]
 mR:bE K mg "round_place" ko ["place","size"]
 wH:bE K mg "ends_of" qm ["program","cells"]
 run:bE K mg "run" C5 ["program","gifts"]
 seen:bE K mg "seen" zG ["program","book","rank"]
 pQ:bE K mg "letter_at" nr ["letters","at"]
 wI:bE K mg "told_by" qo ["letter"]
 laid:bE K mg "laid" zQ ["program","rank","one","other"]
 qx:bE K mg "gift_made" mJ ["size","start"]
 oS:bE K mg "gifts_made" kU ["program","begin","name","more"]
 C8:bE K mg "tried" vH ["program","name"]
 oM:bE K mg "told_apart" lF ["program","name","rank"]
 ni:bE K mg "_law_cell_at" jV ["_law_script","_law_k"]
 wo:bE K mg "_law_mix" p8 ["_law_cell","_law_way","_law_many"]
 tE:bE K mg "_law_name" oB ["_law_cell","_law_k"]
 oi:bE K mg "_law_number" lu ["_law_cell"]
 pT:bE K mg "_law_heads" mq ["_law_script","_law_state"]
 xk:bE K mg "_law_fit" qt ["_law_state","_law_some","_law_loose","_law_low","_law_high"]
 qa:bE K mg "_law_thing" l8 ["_law_state","_law_cell","_law_way","_law_high"]
 qw:bE K mg "_law_value" mF ["_law_state","_law_cell","_law_high"]
 vO:bE K mg "_law_add" pY ["_law_state","_law_row","_law_steps"]
 sZ:bE K mg "_law_said" oh ["_law_state","_law_cell","_law_loose"]
 ql:bE K mg "_law_plain" mP ["_law_state","_law_cell","_law_kind","_law_loose"]
 om:bE K mg "_law_opened" kQ ["_law_state","_law_cell","_law_kind","_law_loose"]
 oU:bE K mg "_law_closed" kT ["_law_state"]
 tQ:bE K mg "_law_else" ou ["_law_state","_law_frame"]
 oA:bE K mg "_law_called" kY ["_law_state","_law_cell","_law_loose"]
 oF:bE K mg "_law_turned" lA ["_law_state","_law_cell","_law_kind","_law_loose"]
 so:bE K mg "_law_body" ow ["_law_state","_law_cells","_law_rank","_law_limit"]
 qd:bE K mg "_law_drawn" mi ["_law_script","_law_mode","_law_even","_law_limit"]
 j8:bE K mg "_law_plain_row" g9 ["_law_number_here","_law_row"]
 iD:bE K mg "_law_nested_row" gF ["_law_frame"]
 r8:bE K mg "_law_tree" oP ["_law_rows"]
 w9:bE K mg "_law_try" pV ["_law_rows","_law_turn","_law_name_here","_law_more"]
 l7:bE K mg "_law_letters" jT ["_law_rows","_law_program","_law_gifts","_law_rank"]
 wz:bE K mg "_law_due" qe ["_law_rows","_law_program","_law_name_here","_law_rank"]
 p9:bE K mg "_law_alike" mL ["_law_found","_law_due_here"]
 yt:mg "all"=Vf
 rS:mg "bool"=Vf
 wC:mg "dict"=Vf
 jt:mg "enumerate"=Vf
 oe:mg "int"=Vf
 aH:mg "isinstance"=Vf
 cB:mg "len"=Vf
 dY:mg "list"=Vf
 qI:mg "max"=Vf
 yR:mg "min"=Vf
 fj:mg "range"=Vf
 xx:mg "str"=Vf
 AZ:mg "sum"=Vf
 pz:mg "tuple"=Vf
 xu:mg "zip"=Vf
 nQ:∃t,mg "MOST_NUMBER"=Ve (.int 999999999999 t)
 rh:∃t,mg "ROUND"=Ve (.int 1000000000000 t)
 yg:∃a,mg "BEGINS"=Ve (.ref a)/\(∀H,SqT K H a [.int 0,.int 1,.int 2,.int 3])/\∃o,K.lookup a=Ve o/\o.cls=.type "tuple"/\o.dict=Vf
 AD:∃a,mg "MORES"=Ve (.ref a)/\(∀H,SqT K H a [.int 1,.int 2,.int 5])/\∃o,K.lookup a=Ve o/\o.cls=.type "tuple"/\o.dict=Vf
 kq:eY K mg A.Row "Row" [A.Row]
 rW:MFn K A.Row "__init__" "Row.__init__" fT ["self","number"]
 bM:eY K mg A.bT "HandRow" [A.bT,A.Row]
 iF:MFn K A.bT "__init__" "HandRow.__init__" iE ["self","number","name","rank"]
 jd:aJ K A.bT "name"
 iN:aJ K A.bT "rank"
 kI:aJ K A.bT "number"
 aL:eY K mg A.aN "GivenRow" [A.aN,A.Row]
 g7:MFn K A.aN "__init__" "GivenRow.__init__" ik ["self","number","name","rank","size"]
 cx:aJ K A.aN "name"
 lH:aJ K A.aN "rank"
 cy:aJ K A.aN "size"
 jz:aJ K A.aN "number"
 bj:eY K mg A.bG "OwnRow" [A.bG,A.Row]
 j5:MFn K A.bG "__init__" "OwnRow.__init__" km ["self","number","name","size"]
 dX:aJ K A.bG "name"
 gL:aJ K A.bG "size"
 lQ:aJ K A.bG "number"
 cc:eY K mg A.cH "LetRow" [A.cH,A.Row]
 jA:MFn K A.cH "__init__" "LetRow.__init__" jW ["self","number","name","rank"]
 jS:aJ K A.cH "name"
 jH:aJ K A.cH "rank"
 lR:aJ K A.cH "number"
 bW:eY K mg A.cY "SetRow" [A.cY,A.Row]
 j6:MFn K A.cY "__init__" "SetRow.__init__" j9 ["self","number","name","value"]
 kb:aJ K A.cY "name"
 jm:aJ K A.cY "value"
 hJ:aJ K A.cY "number"
 bJ:eY K mg A.cM "PutRow" [A.cM,A.Row]
 jR:MFn K A.cM "__init__" "PutRow.__init__" jE ["self","number","name","place","value"]
 jC:aJ K A.cM "name"
 jg:aJ K A.cM "place"
 iC:aJ K A.cM "value"
 ic:aJ K A.cM "number"
 aU:eY K mg A.bL "SendRow" [A.bL,A.Row]
 jb:MFn K A.bL "__init__" "SendRow.__init__" iI ["self","number","name","value"]
 iV:aJ K A.bL "name"
 gX:aJ K A.bL "value"
 eK:aJ K A.bL "number"
 aX:eY K mg A.cm "SayRow" [A.cm,A.Row]
 j7:MFn K A.cm "__init__" "SayRow.__init__" jO ["self","number","name","value","mark"]
 jP:aJ K A.cm "name"
 iX:aJ K A.cm "value"
 jJ:aJ K A.cm "mark"
 fh:aJ K A.cm "number"
 bg:eY K mg A.cD "CallRow" [A.cD,A.Row]
 iK:MFn K A.cD "__init__" "CallRow.__init__" iS ["self","number","name","things"]
 jh:aJ K A.cD "name"
 gq:aJ K A.cD "things"
 gC:aJ K A.cD "number"
 aW:eY K mg A.cS "LastRow" [A.cS,A.Row]
 lY:MFn K A.cS "__init__" "Row.__init__" fT ["self","number"]
 gw:aJ K A.cS "number"
 bO:eY K mg A.dP "IfRow" [A.dP,A.Row]
 lG:MFn K A.dP "__init__" "IfRow.__init__" kM ["self","number","value","first","other","left","right"]
 jF:aJ K A.dP "value"
 jM:aJ K A.dP "first"
 ke:aJ K A.dP "other"
 kR:aJ K A.dP "left"
 jN:aJ K A.dP "right"
 iZ:aJ K A.dP "number"
 aV:eY K mg A.bN "LoopRow" [A.bN,A.Row]
 iR:MFn K A.bN "__init__" "LoopRow.__init__" iM ["self","number","thing","most","body","left","right"]
 g8:aJ K A.bN "thing"
 fL:aJ K A.bN "most"
 iH:aJ K A.bN "body"
 jf:aJ K A.bN "left"
 hZ:aJ K A.bN "right"
 fX:aJ K A.bN "number"
 f9:eY K mg A.cj "DeedRow" [A.cj,A.Row]
 i8:MFn K A.cj "__init__" "DeedRow.__init__" iL ["self","number","name","parts","body"]
 jc:aJ K A.cj "name"
 eZ:aJ K A.cj "parts"
 iG:aJ K A.cj "body"
 ku:aJ K A.cj "number"
 dW:eY K mg A.Program "Program" [A.Program]
 iQ:MFn K A.Program "__init__" "Program.__init__" je ["self","heads","deeds","main"]
 cZ:aJ K A.Program "heads"
 fi:aJ K A.Program "deeds"
 iO:aJ K A.Program "main"
 fQ:eY K mg A.fB "Book" [A.fB]
 mU:MFn K A.fB "__init__" "Book.__init__" mX ["self"]
 d6:aJ K A.fB "letters"
 l6:aJ K A.fB "said"
 kO:aJ K A.fB "trace"
 eO:aJ K A.fB "steps"
 mN:aJ K A.fB "ends"
 bV:eY K mg A.Run "Run" [A.Run]
 oo:MFn K A.Run "__init__" "Run.__init__" oz ["self","program","cells"]
 hU:MFn K A.Run "number_at" "Run.number_at" gZ ["self","thing"]
 fZ:MFn K A.Run "number_for" "Run.number_for" fV ["self","value"]
 fD:MFn K A.Run "number_told" "Run.number_told" fF ["self","row"]
 fU:MFn K A.Run "pass_steps" "Run.pass_steps" fO ["self","count"]
 gK:MFn K A.Run "do_rows" "Run.do_rows" jZ ["self","rows"]
 pj:MFn K A.Run "do_row" "Run.do_row" lB ["self","row"]
 kL:MFn K A.Run "do_put" "Run.do_put" kP ["self","row"]
 jG:MFn K A.Run "do_call" "Run.do_call" jB ["self","row"]
 mh:MFn K A.Run "do_if" "Run.do_if" mC ["self","row"]
 jX:MFn K A.Run "do_loop" "Run.do_loop" jY ["self","row"]
 jo:aJ K A.Run "deeds"
 dg:aJ K A.Run "cells"
 ja:aJ K A.Run "book"
 cf:OfC K A.Row "__init__"
 nd:[A.Row,A.bT,A.aN,A.bG,A.cH,A.cY,A.cM,A.bL,A.cm,A.cD,A.cS,A.dP,A.bN,A.cj,A.Program,A.fB,A.Run].Nodup
section
variable{P:Program}{w:O7}{K:OZ}{mg:Str->Option OX}{base:Pk}{A:Adr}
theorem alc(h:H p=Vf)(o:HO):ao H (upd H p o)/\upd H p o p=Ve o:=⟨ao.upd h o,aj⟩
theorem HK:PL K (.type "int") (.type "int")=Ve true:=by kernel_rfl!
theorem EN:PL K (.type "int") (.type "bool")=Ve false:=by kernel_rfl!
theorem EC:PL K (.type "tuple") (.type "tuple")=Ve true:=by kernel_rfl!
theorem HA:PL K (.type "list") (.type "list")=Ve true:=by kernel_rfl!
theorem sz{n:Nat}(h:n<=1000):n<=sizeLine:=OJ (ay h)
theorem cK(x:Int)(hm:0<m):0<=x%m/\x%m<m:=⟨UM x (show m≠0 by omega),Tw x hm⟩
theorem Gj(h0:0<=k)(h1:k<(xs.length:Int)):∃x,xs[k.toNat]?=Ve x/\atI xs k=Ve x:=by
 have hk:k.toNat<xs.length:=()
 have e:=dA (xs:=xs) (j:=k.toNat) (Mh hk);rw[show((k.toNat:Nat):Int)=k by omega]at e;exact⟨_,Mh hk,e⟩
theorem mz{α:Type}(f:α->V){xs:List α}{k:Int}(h0:0<=k)(h1:k<(xs.length:Int)):∃x,x∈xs/\xs[k.toNat]?=Ve x/\atI (xs.map f) k=Ve (f x):=by
 obtain⟨x,e1,e2⟩:=Gj (xs:=xs.map f) h0 (by rw[Mj];exact h1);rw[Mu]at e1;cases h:xs[k.toNat]? with
 |none=>rw[h]at e1;cases e1
 |some y=>
  rw[h]at e1;have:f y=x:=O1 e1;exact⟨y,Mr h,rfl,by rw[this];exact e2⟩
theorem qq(i j:Int):decide (V.int i=V.int j)=decide (i=j):=decide_eq_decide.mpr ⟨λh=>V.int.inj h,λh=>by rw[h]⟩
theorem IS(i j:Str):decide (V.str i=V.str j)=decide (i=j):=decide_eq_decide.mpr ⟨λh=>V.str.inj h,λh=>by rw[h]⟩
theorem mH{α:Type}(xs:List α):xs.filter (λ_=>true)=xs:=List.filter_eq_self.mpr λ_ _=>rfl
theorem vi(h0:-(2^64)<a)(h1:a<2^64):BC a b:=Mt ⟨h0,h1⟩
theorem ao.out(s:ao H0 H)(h:H0 x=Vf)(u:HO):ao H0 (upd H x u):=λa o q=>by
 rw[aw (λz=>by rw[z,h]at q;cases q)];exact s a o q
theorem ag(n:a≠x)(e:H a=Ve o):upd H x u a=Ve o:=by rw[aw n];exact e
theorem Vh{H:Hp}(h:H x=Vf)(e:H y=Ve o):x≠y:=λz=>by rw[z,e]at h;cases h
def Ks(H0:Hp)(x:OW)(H:Hp):List (OW×HO)->Prop
 | []=>True
 |p::ks=>(H p.1=Ve p.2/\p.1≠x/\H0 p.1=Vf)/\Ks H0 x H ks
theorem Ks.imp(f:∀a o,a≠x->H a=Ve o->H' a=Ve o):∀{ks:List (OW×HO)},Ks H0 x H ks->Ks H0 x H' ks
 | [],_=>trivial
 |_::_,⟨⟨h1,h2,h3⟩,t⟩=>⟨⟨f _ _ h2 h1,h2,h3⟩,Ks.imp f t⟩
structure IA(K:OZ)(H0:Hp)(x C dx:OW)(fs:List (Str×V))(m:Nat)(ks:List (OW×HO))(H:Hp):Prop where
 s:ao H0 H
 i:H x=Ve (.ins C dx fs)
 k:Ks H0 x H ks
 x:H0 x=Vf
 c:Cls K C
 l:fs.length<=m
theorem IA.one{H:Hp}{x C dx:OW}(hx:H x=Vf)(hd:H dx=Vf)(c:Cls K C):IA K H x C dx [] 0 [] (upd (upd H dx (.own x)) x (.ins C dx [])):=⟨ao.out (ao.upd hd _) hx _,aj,trivial,hx,c,Mo _⟩
section
variable{H0 H:Hp}{x C dx:OW}{fs:List (Str×V)}{m:Nat}{ks:List (OW×HO)}
theorem Bm(f:Str)(v:V):∀fs:List (Str×V),(eF f v fs).length<=fs.length+1
 | []=>Mo _
 | (g,x)::r=>by
  unfold eF;split
  ·exact NZ _
  exact Oo (Bm f v r)
theorem IA.put(a:IA K H0 x C dx fs m ks H)(f:Str)(v:V):IA K H0 x C dx (eF f v fs) (m+1) ks (upd H x (.ins C dx (eF f v fs))):=⟨ao.out a.s a.x _,aj,a.k.imp λ_ _ h e=>ag h e,a.x,a.c,MC (Bm f v fs) (Oo a.l)⟩
theorem IA.fld(a:IA K H0 x C dx fs m ks H)(n:aJ K C f)(k:∀H',IA K H0 x C dx (eF f v fs) (m+1) ks H'->Q H')(l:m<1000:=by decide):HI K f v (.ref x) H Q:=⟨x,C,dx,fs,rfl,a.i,a.c,n,Oe a.l l,k _ (a.put _ _)⟩
theorem IA.nw(a:IA K H0 x C dx fs m ks H)(hn:H n=Vf)(o:HO):IA K H0 x C dx fs m ((n,o)::ks) (upd H n o):=
 have e:n≠x:=λz=>by rw[z,a.i]at hn;cases hn
 ⟨a.s.trans (ao.upd hn _),ag e.symm a.i,⟨⟨aj,e,ao.free a.s hn⟩,a.k.imp λ_ _ _ h=>ao.upd hn _ _ _ h⟩,a.x,a.c,a.l⟩
end
inductive gT(K:OZ)(A:Adr)(vs:List V)(H:Hp)(Q:VK)(Z:XK):Prop
 |mk(x C dx:OW)(fs:List (Str×V))(n:V):vs=[.ref x,n]->H x=Ve (.ins C dx fs)->Cls K C->aJ K C "number"->fs.length<1000->Q .non (upd H x (.ins C dx (eF "number" n fs)))->gT K A vs H Q Z
theorem nZ(F:MFn K C "__init__" "Row.__init__" fT ["self","number"]):kh P w K mg base 2 C "__init__" ["self","number"] (gT K A):=by
 refine F.hs (k:=1) xZ (λf cdv A' outer s H vs Q E hr hu h=>?_);obtain⟨x,C,dx,fs,n,rfl,hx,c,na,hl,q⟩:=h;exact⟨_,(ah (aY (fv 0) (fv 1) rfl)),⟨x,C,dx,fs,rfl,hx,c,na,hl,q⟩⟩
theorem cL(T:Txt K mg A):kh P w K mg base 2 A.Row "__init__" ["self","number"] (gT K A):=nZ T.rW
theorem IA.row{H0 H:Hp}{x C dx:OW}{ks:List (OW×HO)}{v:V}{Q:VK}(a:IA K H0 x C dx [] 0 ks H)(n:aJ K C "number")(k:∀H',IA K H0 x C dx (eF "number" v []) 1 ks H'->Q .non H'):gT K A [.ref x,v] H Q E0:=⟨x,C,dx,[],v,rfl,a.i,a.c,n,∅,k _ (a.put _ _)⟩
inductive lK(K:OZ)(A:Adr)(vs:List V)(G:Hp)(R:VK)(Z:XK):Prop
 |mk(x dx:OW)(v0 v1 v2:V)(H:Hp):vs=[.ref x,v0,v1,v2]->G=upd (upd H dx (.own x)) x (.ins A.bT dx [])->H x=Vf->H dx=Vf->(∀(H':Hp),ao H H'->H' x=Ve (.ins A.bT dx [("number",v0),("name",v1),("rank",v2)])->R .non H')->lK K A vs G R Z
theorem sP(T:Txt K mg A):T.iF.Hz P w mg base 3 (lK K A):=by
 refine T.iF.hs (k:=2) qO (λf cdv A' outer s G vs R E hr hu h=>?_);obtain⟨x,dx,v0,v1,v2,H,rfl,rfl,hx,hd,q⟩:=h;refine⟨_,(ab (aK (c8 T.kq T.cf (cL T) hr (fv 0^fv 1^af)))
 (ab (aY (fv 0) (fv 2) rfl)
 (ah (aY (fv 0) (fv 3) rfl)))),?_⟩
 exact(IA.one (C:=A.bT) hx hd T.bM.cl).row T.kI λH a=>a.fld T.jd λH a=>a.fld T.iN λH a=>q _ a.s a.i
inductive kK(K:OZ)(A:Adr)(vs:List V)(G:Hp)(R:VK)(Z:XK):Prop
 |mk(x dx:OW)(v0 v1 v2 v3:V)(H:Hp):vs=[.ref x,v0,v1,v2,v3]->G=upd (upd H dx (.own x)) x (.ins A.aN dx [])->H x=Vf->H dx=Vf->(∀(H':Hp),ao H H'->H' x=Ve (.ins A.aN dx [("number",v0),("name",v1),("rank",v2),("size",v3)])->R .non H')->kK K A vs G R Z
theorem qT(T:Txt K mg A):T.g7.Hz P w mg base 3 (kK K A):=by
 refine T.g7.hs (k:=2) qf (λf cdv A' outer s G vs R E hr hu h=>?_);obtain⟨x,dx,v0,v1,v2,v3,H,rfl,rfl,hx,hd,q⟩:=h;refine⟨_,(ab (aK (c8 T.kq T.cf (cL T) hr (fv 0^fv 1^af)))
 (ab (aY (fv 0) (fv 2) rfl)
 (ab (aY (fv 0) (fv 3) rfl)
 (ah (aY (fv 0) (fv 4) rfl))))),?_⟩
 exact(IA.one (C:=A.aN) hx hd T.aL.cl).row T.jz λH a=>a.fld T.cx λH a=>a.fld T.lH λH a=>a.fld T.cy λH a=>q _ a.s a.i
inductive mY(K:OZ)(A:Adr)(vs:List V)(G:Hp)(R:VK)(Z:XK):Prop
 |mk(x dx:OW)(v0 v1 v2:V)(H:Hp):vs=[.ref x,v0,v1,v2]->G=upd (upd H dx (.own x)) x (.ins A.bG dx [])->H x=Vf->H dx=Vf->(∀(H':Hp),ao H H'->H' x=Ve (.ins A.bG dx [("number",v0),("name",v1),("size",v2)])->R .non H')->mY K A vs G R Z
theorem uk(T:Txt K mg A):T.j5.Hz P w mg base 3 (mY K A):=by
 refine T.j5.hs (k:=2) ud (λf cdv A' outer s G vs R E hr hu h=>?_);obtain⟨x,dx,v0,v1,v2,H,rfl,rfl,hx,hd,q⟩:=h;refine⟨_,(ab (aK (c8 T.kq T.cf (cL T) hr (fv 0^fv 1^af)))
 (ab (aY (fv 0) (fv 2) rfl)
 (ah (aY (fv 0) (fv 3) rfl)))),?_⟩
 exact(IA.one (C:=A.bG) hx hd T.bj.cl).row T.lQ λH a=>a.fld T.dX λH a=>a.fld T.gL λH a=>q _ a.s a.i
inductive mZ(K:OZ)(A:Adr)(vs:List V)(G:Hp)(R:VK)(Z:XK):Prop
 |mk(x dx:OW)(v0 v1 v2:V)(H:Hp):vs=[.ref x,v0,v1,v2]->G=upd (upd H dx (.own x)) x (.ins A.cH dx [])->H x=Vf->H dx=Vf->(∀(H':Hp),ao H H'->H' x=Ve (.ins A.cH dx [("number",v0),("name",v1),("rank",v2)])->R .non H')->mZ K A vs G R Z
theorem uD(T:Txt K mg A):T.jA.Hz P w mg base 3 (mZ K A):=by
 refine T.jA.hs (k:=2) sY (λf cdv A' outer s G vs R E hr hu h=>?_);obtain⟨x,dx,v0,v1,v2,H,rfl,rfl,hx,hd,q⟩:=h;refine⟨_,(ab (aK (c8 T.kq T.cf (cL T) hr (fv 0^fv 1^af)))
 (ab (aY (fv 0) (fv 2) rfl)
 (ah (aY (fv 0) (fv 3) rfl)))),?_⟩
 exact(IA.one (C:=A.cH) hx hd T.cc.cl).row T.lR λH a=>a.fld T.jS λH a=>a.fld T.jH λH a=>q _ a.s a.i
inductive mT(K:OZ)(A:Adr)(vs:List V)(G:Hp)(R:VK)(Z:XK):Prop
 |mk(x dx:OW)(v0 v1 v2:V)(H:Hp):vs=[.ref x,v0,v1,v2]->G=upd (upd H dx (.own x)) x (.ins A.cY dx [])->H x=Vf->H dx=Vf->(∀(H':Hp),ao H H'->H' x=Ve (.ins A.cY dx [("number",v0),("name",v1),("value",v2)])->R .non H')->mT K A vs G R Z
theorem uy(T:Txt K mg A):T.j6.Hz P w mg base 3 (mT K A):=by
 refine T.j6.hs (k:=2) sC (λf cdv A' outer s G vs R E hr hu h=>?_);obtain⟨x,dx,v0,v1,v2,H,rfl,rfl,hx,hd,q⟩:=h;refine⟨_,(ab (aK (c8 T.kq T.cf (cL T) hr (fv 0^fv 1^af)))
 (ab (aY (fv 0) (fv 2) rfl)
 (ah (aY (fv 0) (fv 3) rfl)))),?_⟩
 exact(IA.one (C:=A.cY) hx hd T.bW.cl).row T.hJ λH a=>a.fld T.kb λH a=>a.fld T.jm λH a=>q _ a.s a.i
inductive mG(K:OZ)(A:Adr)(vs:List V)(G:Hp)(R:VK)(Z:XK):Prop
 |mk(x dx:OW)(v0 v1 v2 v3:V)(H:Hp):vs=[.ref x,v0,v1,v2,v3]->G=upd (upd H dx (.own x)) x (.ins A.cM dx [])->H x=Vf->H dx=Vf->(∀(H':Hp),ao H H'->H' x=Ve (.ins A.cM dx [("number",v0),("name",v1),("place",v2),("value",v3)])->R .non H')->mG K A vs G R Z
theorem uv(T:Txt K mg A):T.jR.Hz P w mg base 3 (mG K A):=by
 refine T.jR.hs (k:=2) rL (λf cdv A' outer s G vs R E hr hu h=>?_);obtain⟨x,dx,v0,v1,v2,v3,H,rfl,rfl,hx,hd,q⟩:=h;refine⟨_,(ab (aK (c8 T.kq T.cf (cL T) hr (fv 0^fv 1^af)))
 (ab (aY (fv 0) (fv 2) rfl)
 (ab (aY (fv 0) (fv 3) rfl)
 (ah (aY (fv 0) (fv 4) rfl))))),?_⟩
 exact(IA.one (C:=A.cM) hx hd T.bJ.cl).row T.ic λH a=>a.fld T.jC λH a=>a.fld T.jg λH a=>a.fld T.iC λH a=>q _ a.s a.i
inductive lP(K:OZ)(A:Adr)(vs:List V)(G:Hp)(R:VK)(Z:XK):Prop
 |mk(x dx:OW)(v0 v1 v2:V)(H:Hp):vs=[.ref x,v0,v1,v2]->G=upd (upd H dx (.own x)) x (.ins A.bL dx [])->H x=Vf->H dx=Vf->(∀(H':Hp),ao H H'->H' x=Ve (.ins A.bL dx [("number",v0),("name",v1),("value",v2)])->R .non H')->lP K A vs G R Z
theorem sR(T:Txt K mg A):T.jb.Hz P w mg base 3 (lP K A):=by
 refine T.jb.hs (k:=2) qW (λf cdv A' outer s G vs R E hr hu h=>?_);obtain⟨x,dx,v0,v1,v2,H,rfl,rfl,hx,hd,q⟩:=h;refine⟨_,(ab (aK (c8 T.kq T.cf (cL T) hr (fv 0^fv 1^af)))
 (ab (aY (fv 0) (fv 2) rfl)
 (ah (aY (fv 0) (fv 3) rfl)))),?_⟩
 exact(IA.one (C:=A.bL) hx hd T.aU.cl).row T.eK λH a=>a.fld T.iV λH a=>a.fld T.gX λH a=>q _ a.s a.i
inductive mB(K:OZ)(A:Adr)(vs:List V)(G:Hp)(R:VK)(Z:XK):Prop
 |mk(x dx:OW)(v0 v1 v2 v3:V)(H:Hp):vs=[.ref x,v0,v1,v2,v3]->G=upd (upd H dx (.own x)) x (.ins A.cm dx [])->H x=Vf->H dx=Vf->(∀(H':Hp),ao H H'->H' x=Ve (.ins A.cm dx [("number",v0),("name",v1),("value",v2),("mark",v3)])->R .non H')->mB K A vs G R Z
theorem uw(T:Txt K mg A):T.j7.Hz P w mg base 3 (mB K A):=by
 refine T.j7.hs (k:=2) tZ (λf cdv A' outer s G vs R E hr hu h=>?_);obtain⟨x,dx,v0,v1,v2,v3,H,rfl,rfl,hx,hd,q⟩:=h;refine⟨_,(ab (aK (c8 T.kq T.cf (cL T) hr (fv 0^fv 1^af)))
 (ab (aY (fv 0) (fv 2) rfl)
 (ab (aY (fv 0) (fv 3) rfl)
 (ah (aY (fv 0) (fv 4) rfl))))),?_⟩
 exact(IA.one (C:=A.cm) hx hd T.aX.cl).row T.fh λH a=>a.fld T.jP λH a=>a.fld T.iX λH a=>a.fld T.jJ λH a=>q _ a.s a.i
inductive lT(K:OZ)(A:Adr)(vs:List V)(G:Hp)(R:VK)(Z:XK):Prop
 |mk(x dx:OW)(v0 v1:V)(t0:OW)(l0:List V)(H:Hp):vs=[.ref x,v0,v1,.ref t0]->G=upd (upd H dx (.own x)) x (.ins A.cD dx [])->H x=Vf->H dx=Vf->SqL K H t0 l0->(∀(n0:OW)(H':Hp),H n0=Vf->ao H H'->H' n0=Ve (.lst l0)->H' x=Ve (.ins A.cD dx [("number",v0),("name",v1),("things",.ref n0)])->R .non H')->lT K A vs G R Z
theorem rO(T:Txt K mg A):T.iK.Hz P w mg base 3 (lT K A):=by
 refine T.iK.hs (k:=2) qN (λf cdv A' outer s G vs R E hr hu h=>?_);obtain⟨x,dx,v0,v1,t0,l0,H,rfl,rfl,hx,hd,s0,q⟩:=h;refine⟨_,(ab (aK (c8 T.kq T.cf (cL T) hr (fv 0^fv 1^af)))
 (ab (aY (fv 0) (fv 2) rfl)
 (ah (aY (fv 0) (pcT ki T.dY (fv 3^af)) rfl)))),?_⟩
 refine(IA.one (C:=A.cD) hx hd T.bg.cl).row T.gC λH a=>a.fld T.jh λH a=>⟨_,l0,rfl,.inl (a.s.seq s0),λn0 f=>?_⟩;replace a:=a.nw f (.lst l0);exact a.fld T.gq λH a=>q n0 _ a.k.1.2.2 a.s a.k.1.1 a.i
inductive nP(K:OZ)(A:Adr)(vs:List V)(G:Hp)(R:VK)(Z:XK):Prop
 |mk(x dx:OW)(v0 v1 v2 v3:V)(t0 t1:OW)(l0 l1:List V)(H:Hp):vs=[.ref x,v0,v1,.ref t0,.ref t1,v2,v3]->G=upd (upd H dx (.own x)) x (.ins A.dP dx [])->H x=Vf->H dx=Vf->SqL K H t0 l0->SqL K H t1 l1->(∀(n0 n1:OW)(H':Hp),H n0=Vf->H n1=Vf->ao H H'->H' n0=Ve (.lst l0)->H' n1=Ve (.lst l1)->H' x=Ve (.ins A.dP dx [("number",v0),("value",v1),("first",.ref n0),("other",.ref n1),("left",v2),("right",v3)])->R .non H')->nP K A vs G R Z
theorem wN(T:Txt K mg A):T.lG.Hz P w mg base 3 (nP K A):=by
 refine T.lG.hs (k:=2) uo (λf cdv A' outer s G vs R E hr hu h=>?_);obtain⟨x,dx,v0,v1,v2,v3,t0,t1,l0,l1,H,rfl,rfl,hx,hd,s0,s1,q⟩:=h;refine⟨_,(ab (aK (c8 T.kq T.cf (cL T) hr (fv 0^fv 1^af)))
 (ab (aY (fv 0) (fv 2) rfl)
 (ab (aY (fv 0) (pcT ki T.dY (fv 3^af)) rfl)
 (ab (aY (fv 0) (pcT ki T.dY (fv 4^af)) rfl)
 (ab (aY (fv 0) (fv 5) rfl)
 (ah (aY (fv 0) (fv 6) rfl))))))),?_⟩
 refine(IA.one (C:=A.dP) hx hd T.bO.cl).row T.iZ λH a=>a.fld T.jF λH a=>⟨_,l0,rfl,.inl (a.s.seq s0),λn0 f=>?_⟩;replace a:=a.nw f (.lst l0);refine a.fld T.jM λH a=>⟨_,l1,rfl,.inl (a.s.seq s1),λn1 f=>?_⟩;replace a:=a.nw f (.lst l1);exact a.fld T.ke λH a=>a.fld T.kR λH a=>a.fld T.jN λH a=>q n0 n1 _ a.k.2.1.2.2 a.k.1.2.2 a.s a.k.2.1.1 a.k.1.1 a.i
inductive lI(K:OZ)(A:Adr)(vs:List V)(G:Hp)(R:VK)(Z:XK):Prop
 |mk(x dx:OW)(v0 v1 v2 v3 v4:V)(t0:OW)(l0:List V)(H:Hp):vs=[.ref x,v0,v1,v2,.ref t0,v3,v4]->G=upd (upd H dx (.own x)) x (.ins A.bN dx [])->H x=Vf->H dx=Vf->SqL K H t0 l0->(∀(n0:OW)(H':Hp),H n0=Vf->ao H H'->H' n0=Ve (.lst l0)->H' x=Ve (.ins A.bN dx [("number",v0),("thing",v1),("most",v2),("body",.ref n0),("left",v3),("right",v4)])->R .non H')->lI K A vs G R Z
theorem tq(T:Txt K mg A):T.iR.Hz P w mg base 3 (lI K A):=by
 refine T.iR.hs (k:=2) qM (λf cdv A' outer s G vs R E hr hu h=>?_);obtain⟨x,dx,v0,v1,v2,v3,v4,t0,l0,H,rfl,rfl,hx,hd,s0,q⟩:=h;refine⟨_,(ab (aK (c8 T.kq T.cf (cL T) hr (fv 0^fv 1^af)))
 (ab (aY (fv 0) (fv 2) rfl)
 (ab (aY (fv 0) (fv 3) rfl)
 (ab (aY (fv 0) (pcT ki T.dY (fv 4^af)) rfl)
 (ab (aY (fv 0) (fv 5) rfl)
 (ah (aY (fv 0) (fv 6) rfl))))))),?_⟩
 refine(IA.one (C:=A.bN) hx hd T.aV.cl).row T.fX λH a=>a.fld T.g8 λH a=>a.fld T.fL λH a=>⟨_,l0,rfl,.inl (a.s.seq s0),λn0 f=>?_⟩;replace a:=a.nw f (.lst l0);exact a.fld T.iH λH a=>a.fld T.jf λH a=>a.fld T.hZ λH a=>q n0 _ a.k.1.2.2 a.s a.k.1.1 a.i
inductive lN(K:OZ)(A:Adr)(vs:List V)(G:Hp)(R:VK)(Z:XK):Prop
 |mk(x dx:OW)(v0 v1:V)(t0 t1:OW)(l0 l1:List V)(H:Hp):vs=[.ref x,v0,v1,.ref t0,.ref t1]->G=upd (upd H dx (.own x)) x (.ins A.cj dx [])->H x=Vf->H dx=Vf->SqL K H t0 l0->SqL K H t1 l1->(∀(n0 n1:OW)(H':Hp),H n0=Vf->H n1=Vf->ao H H'->H' n0=Ve (.lst l0)->H' n1=Ve (.lst l1)->H' x=Ve (.ins A.cj dx [("number",v0),("name",v1),("parts",.ref n0),("body",.ref n1)])->R .non H')->lN K A vs G R Z
theorem sQ(T:Txt K mg A):T.i8.Hz P w mg base 3 (lN K A):=by
 refine T.i8.hs (k:=2) qQ (λf cdv A' outer s G vs R E hr hu h=>?_);obtain⟨x,dx,v0,v1,t0,t1,l0,l1,H,rfl,rfl,hx,hd,s0,s1,q⟩:=h;refine⟨_,(ab (aK (c8 T.kq T.cf (cL T) hr (fv 0^fv 1^af)))
 (ab (aY (fv 0) (fv 2) rfl)
 (ab (aY (fv 0) (pcT ki T.dY (fv 3^af)) rfl)
 (ah (aY (fv 0) (pcT ki T.dY (fv 4^af)) rfl))))),?_⟩
 refine(IA.one (C:=A.cj) hx hd T.f9.cl).row T.ku λH a=>a.fld T.jc λH a=>⟨_,l0,rfl,.inl (a.s.seq s0),λn0 f=>?_⟩;replace a:=a.nw f (.lst l0);refine a.fld T.eZ λH a=>⟨_,l1,rfl,.inl (a.s.seq s1),λn1 f=>?_⟩;replace a:=a.nw f (.lst l1);exact a.fld T.iG λH a=>q n0 n1 _ a.k.2.1.2.2 a.k.1.2.2 a.s a.k.2.1.1 a.k.1.1 a.i
inductive lJ(K:OZ)(A:Adr)(vs:List V)(G:Hp)(R:VK)(Z:XK):Prop
 |mk(x dx:OW)(t0 t1 t2:OW)(l0 l1 l2:List V)(H:Hp):vs=[.ref x,.ref t0,.ref t1,.ref t2]->G=upd (upd H dx (.own x)) x (.ins A.Program dx [])->H x=Vf->H dx=Vf->SqL K H t0 l0->SqL K H t1 l1->SqL K H t2 l2->(∀(n0 n1 n2:OW)(H':Hp),H n0=Vf->H n1=Vf->H n2=Vf->ao H H'->H' n0=Ve (.lst l0)->H' n1=Ve (.lst l1)->H' n2=Ve (.lst l2)->H' x=Ve (.ins A.Program dx [("heads",.ref n0),("deeds",.ref n1),("main",.ref n2)])->R .non H')->lJ K A vs G R Z
theorem sO(T:Txt K mg A):T.iQ.Hz P w mg base 3 (lJ K A):=by
 refine T.iQ.hs (k:=2) qP (λf cdv A' outer s G vs R E hr hu h=>?_);obtain⟨x,dx,t0,t1,t2,l0,l1,l2,H,rfl,rfl,hx,hd,s0,s1,s2,q⟩:=h;refine⟨_,(ab (aY (fv 0) (pcT ki T.dY (fv 1^af)) rfl)
 (ab (aY (fv 0) (pcT ki T.dY (fv 2^af)) rfl)
 (ah (aY (fv 0) (pcT ki T.dY (fv 3^af)) rfl)))),?_⟩
 have a:=IA.one (C:=A.Program) hx hd T.dW.cl;refine⟨_,l0,rfl,.inl (a.s.seq s0),λn0 f=>?_⟩;replace a:=a.nw f (.lst l0);refine a.fld T.cZ λH a=>⟨_,l1,rfl,.inl (a.s.seq s1),λn1 f=>?_⟩;replace a:=a.nw f (.lst l1);refine a.fld T.fi λH a=>⟨_,l2,rfl,.inl (a.s.seq s2),λn2 f=>?_⟩;replace a:=a.nw f (.lst l2);exact a.fld T.iO λH a=>q n0 n1 n2 _ a.k.2.2.1.2.2 a.k.2.1.2.2 a.k.1.2.2 a.s a.k.2.2.1.1 a.k.2.1.1 a.k.1.1 a.i
end
section
variable{P:Program}{w:O7}{K:OZ}{mg:Str->Option OX}{base:Pk}{A:Adr}{N:Nat->Str}
theorem aq(h:∀N:St->Hp->Prop,(∀σ H,u D σ H->N σ H)->t { D with nx:=N } σ H):xU t u D σ H:=h (u D) λ_ _ z=>z
def kg(N:Nat->Str):Prop:=∀i j,i<25->j<25->N i=N j->i=j
noncomputable def dk(N:Nat->Str)(idx:List Nat)(f:Nat->V):List (Key×V):=idx.map λi=>(Nr (N i),f i)
theorem VC(D:kg N){i j:Nat}(hi:i<25)(hj:j<25)(h:i≠j):(Nr (N i):Key)≠Nr (N j):=λe=>h (D i j hi hj (Nr.inj e))
theorem rZ(D:kg N){f:Nat->V}{i:Nat}:∀{idx:List Nat},(∀j∈idx,j<25)->i∈idx->L2.eX (dk N idx f) (.inr (N i))=Ve (f i)
 |j::r,hb,m=>by
  by_cases e:j=i
  ·subst e;unfold L2.eX dk;rw[Mv,Na];simp
  have hj:=hb j Mg;have m':i∈r:=by
   rcases Mf.mp m with z|z
   ·exact absurd z.symm e
   exact z
  have hi:=hb i m;have ih:=rZ D (f:=f) (i:=i) (idx:=r) (λk hk=>hb k (Mi _ hk)) m';unfold L2.eX dk at ih⊢;rw[Mv,Na,decide_eq_false (VC D hj hi e)];exact ih
theorem ED(D:kg N){f:Nat->V}{i:Nat}(hi:i<25){idx:List Nat}(hb:∀j∈idx,j<25):((dk N idx f).any λkv=>decide (kv.1=(Nr (N i):Key)))=decide (i∈idx):=by
 unfold dk;rw[OR];by_cases m:i∈idx
 ·rw[decide_eq_true m,Ni];exact⟨i,m,decide_eq_true rfl⟩
 rw[decide_eq_false m,TL];intro j hj;show ¬ decide ((Nr (N j):Key)=Nr (N i))=true;rw[decide_eq_false (VC D (hb j hj) hi (λz=>m (z▸hj)))];exact Mw
theorem iP(h:∀i∈idx,f i=g i):dk N idx f=dk N idx g:=Oa λi hi=>by rw[h i hi]
noncomputable def o7(f:Nat->V)(i:Nat)(v:V):Nat->V:=λj=>if j=i then v else f j
theorem fw(f:Nat->V)(i:Nat)(v:V):o7 f i v i=v:=if_pos rfl
theorem jv(f:Nat->V)(v:V)(h:j≠i):o7 f i v j=f j:=if_neg h
theorem zJ(D:kg N){f:Nat->V}{i:Nat}{v:V}{idx:List Nat}(hb:∀j∈idx,j<25)(m:i∈idx):Vj (dk N idx f) (.inr (N i)) v=dk N idx (o7 f i v):=by
 unfold Vj;rw[ED D (hb i m) hb,decide_eq_true m,if_pos rfl];unfold dk;rw[NV];refine Oa λj hj=>?_;show(if(Nr (N j):Key)=Nr (N i)then((Nr (N j):Key),v)else(Nr (N j),f j))=(Nr (N j),o7 f i v j);by_cases e:j=i
 ·rw[e,if_pos rfl,fw]
 rw[if_neg (VC D (hb j hj) (hb i m) e),jv _ _ e]
theorem iT(D:kg N){f:Nat->V}{i:Nat}{v:V}{idx:List Nat}(hi:i<25)(hb:∀j∈idx,j<25)(m:i∉idx):Vj (dk N idx f) (.inr (N i)) v=dk N (idx++[i]) (o7 f i v):=by
 unfold Vj;rw[ED D hi hb,decide_eq_false m,if_neg Mw];unfold dk;rw[MI,Mv,Ot,fw];congr 1;refine Oa λj hj=>?_;rw[jv _ _ (λz=>m (by rw[<-z];exact hj))]
noncomputable def ins(idx:List Nat)(i:Nat):List Nat:=if i∈idx then idx else idx++[i]
theorem Jj{idx:List Nat}{i:Nat}(hb:∀j∈idx,j<25)(hi:i<25):∀j∈ins idx i,j<25:=by
 unfold ins;split
 ·exact hb
 intro j hj;rcases Mp.mp hj with z|z
 ·exact hb j z
 rw[Mq.mp z];exact hi
theorem rq(idx:List Nat)(i:Nat):(ins idx i).length<=idx.length+1:=by
 unfold ins;split
 ·omega
 simp
theorem A0(h:j∈ins idx i):j=i\/j∈idx:=by
 unfold ins at h;split at h
 ·exact MJ h
 rcases Mp.mp h with z|z
 ·exact MJ z
 exact Mt (Mq.mp z)
theorem zD(idx:List Nat)(i:Nat):i∈ins idx i:=by
 unfold ins;split
 ·assumption
 simp
theorem pq(h:j∈idx):j∈ins idx i:=by
 unfold ins;split
 ·exact h
 exact MN _ h
theorem zP(D:kg N){f:Nat->V}{i:Nat}{v:V}{idx:List Nat}(hi:i<25)(hb:∀j∈idx,j<25):Vj (dk N idx f) (.inr (N i)) v=dk N (ins idx i) (o7 f i v):=by
 unfold ins;by_cases m:i∈idx
 ·rw[if_pos m];exact zJ D hb m
 rw[if_neg m];exact iT D hi hb m
theorem fP(f:Nat->V)(idx:List Nat):(dk N idx f).length=idx.length:=Mj _
theorem bb{α β:Type}{F:α->β->Prop}:∀{l₁:List α}{l₂:List β}{i:Nat}{a:α},Paired F l₁ l₂->l₁[i]?=Ve a->∃b,l₂[i]?=Ve b/\F a b
 |_,_,_,_,.nil,h=>by cases h
 |_,_,0,_,.cons h _,e=>by cases e;exact⟨_,rfl,h⟩
 |_,_,i+1,_,.cons _ r,e=>by
  have:∃b,_:=bb (i:=i) r e;exact this
theorem uY{α β:Type}(f:β->α->β)(b:β){xs:List α}{i:Nat}{x:α}(h:xs[i]?=Ve x):(xs.take (i+1)).foldl f b=f ((xs.take i).foldl f b) x:=by
 rw[Nf,h,Ub];rfl
noncomputable abbrev cls(A:Adr):List OW:=[A.Row,A.bT,A.aN,A.bG,A.cH,A.cY,A.cM,A.bL,A.cm,A.cD,A.cS,A.dP,A.bN,A.cj,A.Program,A.fB,A.Run]
theorem au(T:Txt K mg A)(i j:Nat)(hi:i<17:=by decide)(hj:j<17:=by decide)(h:i≠j:=by decide):(cls A)[i]'hi≠(cls A)[j]'hj:=λe=>h ((NW T.nd).mp e)
theorem nN(O:eY K mg C x up)(hs:C∈up:=by exact Mg):PL K (.ref C) (.ref C)=Ve true:=by
 rw[O.kit O hs,decide_eq_true hs]
theorem bZ(O:eY K mg C x [C,R])(U:eY K mg D y vp)(h1:D≠C)(h2:D≠R):PL K (.ref C) (.ref D)=Ve false:=by
 rw[O.kit U Mg,decide_eq_false];intro m;rcases Mf.mp m with e|m
 ·exact h1 e
 rcases Mf.mp m with e|m
 ·exact h2 e
 cases m
noncomputable def rkn(a b:Int)(x:Str):Int:=
 if decide (V.str x=V.str "+")=true then(a+b)%1000000000000
 else if decide (V.str x=V.str "-")=true then(a-b)%1000000000000
 else if decide (V.str x=V.str "*")=true then(a*b)%1000000000000
 else if decide (V.str x=V.str "over")=true then(if decide (V.int b=V.int 0)=true then 0 else a/b)
 else if decide (V.str x=V.str "rest")=true then(if decide (V.int b=V.int 0)=true then a else a%b)
 else if decide (V.str x=V.str "<")=true then(if decide (a<b)=true then 1 else 0)
 else(if decide (V.int a=V.int b)=true then 1 else 0)
def In(n:Int):Prop:=0<=n/\n<1000000000000
theorem Ji(ha:In a)(hb:In b)(x:Str):In (rkn a b x):=by
 have md:∀z:Int,In (z%1000000000000):=λz=>cK z ∅;have t1:In 1:=⟨∅,∅⟩;have t0:In 0:=⟨∅,∅⟩;unfold rkn;split
 ·exact md _
 split
 ·exact md _
 split
 ·exact md _
 split
 ·split
  ·exact t0
  rename_i h;rw[qq,decide_eq_true_iff]at h;have hp:0<b:=by have:=hb.1;omega
  refine⟨Int.ediv_nonneg ha.1 hb.1,Int.lt_of_le_of_lt (Int.ediv_le_self b ha.1) ha.2⟩
 split
 ·split
  ·exact ha
  rename_i h;rw[qq,decide_eq_true_iff]at h;have hp:0<b:=by have:=hb.1;omega
  have:=cK a hp;exact⟨this.1,Int.lt_trans this.2 hb.2⟩
 split
 ·split
  ·exact t1
  exact t0
 split
 ·exact t1
 exact t0
theorem CM{a:Int}{n:Nat}(hn:0<n):rkn a (n:Int) "rest"=a%(n:Int):=by
 unfold rkn;rw[if_neg ∅,if_neg ∅,if_neg ∅,if_neg ∅,if_pos ∅,if_neg (by rw[qq,decide_eq_true_iff];omega)]
noncomputable abbrev opW:List Str:=["+","-","*","over","rest","<","="]
theorem J0{w:Str}(h:w∈opW):w≠"at":=by
 rintro rfl;revert h
 decide
theorem mK(D:kg N){H:Hp}{d:OW}{idx:List Nat}{f:Nat->V}(h:Rd H d (.dK (dk N idx f)))(hb:∀j∈idx,j<25){k:Nat}(hk:k∈idx):c9 H d (.str (N k)) (Ve (f k)):=by
 rw[<-rZ D (f:=f) hb hk];exact .inl ⟨_,_,h,rfl,rfl⟩
theorem Ex(R:Nat->V->Hp->Prop)(hx:SqL K H1 a xs)(hn:xs.length<sizeLine)
  (he:∀b i x H (G:VK),xs[i]?=Ve x->ao H1 H->(∀y H',ao H H'->R i y H'->G y H')->te b (Ve x::cFr fr σ) H G)
  (mono:∀i y H H',ao H H'->R i y H->R i y H') (st:∀i y H D ys zs,H D=Ve (.lst ys)->R i y H->R i y (upd H D (.lst zs)))
  (fin:∀D H ys,H1 D=Vf->ao H1 H->H D=Ve (.lst ys)->ys.length=xs.length->(∀(i:Nat) y,ys[i]?=Ve y->R i y H)->Q (.ref D) H):mD (Itl K a) 1 fr (λ_=>jq 0) (λ_=>Ja) te Q σ H1:=by
 refine tN (x:=λi=>xs.getD i .non) R hn (λH s=>⟨xs,s.seq hx,Mo _⟩) (λi H h s=>⟨xs,xs[i],s.seq hx,Mh h⟩)
  (λi H v H' h s y=>⟨y.1,?_⟩) (λb i H G h s k=>he b i _ H G (by rw[MQ,Mh h];rfl) s k) mono st fin
 have:=y.2 xs (s.seq hx)
 rw[MQ,this]
 rfl
theorem lt3:∀i,i<3->i=0\/i=1\/i=2:=∅
theorem lt4:∀i,i<4->i=0\/i=1\/i=2\/i=3:=∅
theorem lt5:∀i,i<5->i=0\/i=1\/i=2\/i=3\/i=4:=∅
theorem lt7:∀i,i<7->i=0\/i=1\/i=2\/i=3\/i=4\/i=5\/i=6:=∅
theorem KS:∀i,i<13->i=0\/i=1\/i=2\/i=3\/i=4\/i=5\/i=6\/i=7\/i=8\/i=9\/i=10\/i=11\/i=12:=∅
theorem EZ:(∀i∈[11,12],i∈[0,1,2,6,10,11,12])/\(∀i∈[6,10],i∈[0,1,2,6,10,11,12])/\∀i∈[0,1,2],i∈[0,1,2,6,10,11,12]:=∅
end
inductive Th where
 |i (n:Int)|x (a:Nat)
inductive Val where
 |one (a:Th)|op (a:Th) (w:Str) (b:Th)|atl (x:Nat) (b:Th)
noncomputable def Th.v(N:Nat->Str):Th->V
 | .i n=>.int n
 | .x a=>.str (N a)
noncomputable def vV(N:Nat->Str):Val->List V
 | .one a=>[a.v N]
 | .op a w b=>[a.v N,.str w,b.v N]
 | .atl x b=>[.str (N x),.str "at",b.v N]
set_option genCtorIdx true in
set_option genInjectivity true in
inductive Lr where
 |hand (i:Nat) (r:Int)|giv (i:Nat) (r z:Int)|own (i:Nat) (z:Int)|lt (i:Nat) (r:Int)
 |set (x:Nat) (v:Val)|put (x:Nat) (p:Th) (v:Val)|snd (h:Nat) (v:Val)|say (x:Nat) (v:Val) (m:Nat)
 |call (i:Nat) (ts:List Th)|last|iff (v:Val) (l r:Int)|loop (t:Th) (m l r:Int)|els|fin|hW (i:Nat) (ps:List Nat)|main
noncomputable def Lr.w:Lr->Str
 | .hand _ _=>"hand"| .giv _ _ _=>"given"| .own _ _=>"own"| .lt _ _=>"let"| .set _ _=>"set"| .put _ _ _=>"put"| .snd _ _=>"send"| .say _ _ _=>"say"
 | .call _ _=>"call"| .last=>"last"| .iff _ _ _=>"if"| .loop _ _ _ _=>"loop"| .els=>"else"| .fin=>"end"| .hW _ _=>"deed"| .main=>"main"
noncomputable abbrev nV(N:Nat->Str)(ns:List Nat):List V:=ns.map λi=>V.str (N i)
noncomputable def Lr.tl(N:Nat->Str)(p:OW):Lr->List V
 | .hand i r=>[.str (N i),.int r]
 | .giv i r z=>[.str (N i),.int r,.int z]
 | .own i z=>[.str (N i),.int z]
 | .lt i r=>[.str (N i),.int r]
 | .set x _=>[.str (N x),.ref p]
 | .put x t _=>[.str (N x),t.v N,.ref p]
 | .snd h _=>[.str (N h),.ref p]
 | .say x _ m=>[.str (N x),.ref p,.str (N m)]
 | .call i _=>[.str (N i),.ref p]
 | .last=>[]
 | .iff _ l r=>[.ref p,.int l,.int r]
 | .loop t m l r=>[t.v N,.int m,.int l,.int r]
 | .els=>[]
 | .fin=>[]
 | .hW i _=>[.str (N i),.ref p]
 | .main=>[]
noncomputable def Lr.ob(N:Nat->Str):Lr->Option HO
 | .set _ v=>Ve (.tup (vV N v))
 | .put _ _ v=>Ve (.tup (vV N v))
 | .snd _ v=>Ve (.tup (vV N v))
 | .say _ v _=>Ve (.tup (vV N v))
 | .iff v _ _=>Ve (.tup (vV N v))
 | .call _ ts=>Ve (.lst (ts.map (Th.v N)))
 | .hW _ ps=>Ve (.lst (nV N ps))
 |_=>Vf
def bX(N:Nat->Str)(X:Hp)(v:V)(r:Lr):Prop:=∃a p,v=.ref a/\X a=Ve (.tup (.str r.w::r.tl N p))/\∀o,r.ob N=Ve o->X p=Ve o
theorem bX.same(s:ao X X')(h:bX N X v r):bX N X' v r:=by
 obtain⟨a,p,e,h1,h2⟩:=h;exact⟨a,p,e,s _ _ h1,λo ho=>s _ _ (h2 o ho)⟩
def Th.ok(ns:List Nat):Th->Prop
 | .i n=>In n
 | .x a=>a∈ns
def Val.ok(ns:List Nat):Val->Prop
 | .one a=>a.ok ns
 | .op a w b=>a.ok ns/\b.ok ns/\w∈opW
 | .atl x b=>x∈[6,10]/\b.ok ns
structure Dl where
 nm:Nat
 ps:List Nat
 sp:Int
 co:Int
 lp:OW
def Lr.ok(ns tg:List Nat)(dd:List Dl):Lr->Prop
 | .set x v=>x∈tg/\v.ok ns
 | .put x p v=>x=10/\p.ok ns/\v.ok ns
 | .snd h v=>h∈[0,1,2]/\v.ok ns
 | .say x v m=>x∈tg/\v.ok ns/\m∈[11,12]
 | .call i ts=>∃d∈dd,d.nm=i/\ts.length=d.ps.length/\∀t∈ts,t.ok ns
 | .last=>True
 |_=>False
inductive Tr where
 |leaf (r:Lr)
 |iff (v:Val) (l r:Int) (f o:List Tr)
 |loop (t:Th) (m l r:Int) (b:List Tr)
mutual
noncomputable def flat:Tr->List Lr
 | .leaf r=>[r]
 | .iff v l r f o=>.iff v l r::(aZ f++(.els::(aZ o++[.fin])))
 | .loop t m l r b=>.loop t m l r::(aZ b++[.fin])
noncomputable def aZ:List Tr->List Lr
 | []=>[]
 |t::ts=>flat t++aZ ts
end
theorem nB(a b:List Tr):aZ (a++b)=aZ a++aZ b:=by
 induction a with
 |nil=>simp[aZ]
 |cons t r ih=>simp[aZ,ih]
mutual
def Tr.ok(ns tg:List Nat)(dd:List Dl):Tr->Prop
 | .leaf r=>r.ok ns tg dd
 | .iff v l r f o=>v.ok ns/\0<=l/\0<=r/\eE ns tg dd f/\eE ns tg dd o
 | .loop t m l r b=>t.ok ns/\1<=m/\m<=3/\0<=l/\0<=r/\eE ns tg dd b
def eE(ns tg:List Nat)(dd:List Dl):List Tr->Prop
 | []=>True
 |t::ts=>t.ok ns tg dd/\eE ns tg dd ts
end
mutual
noncomputable def dT:Tr->Nat
 | .leaf _=>1
 | .iff _ _ _ f o=>max (dTs f) (dTs o)+1
 | .loop _ _ _ _ b=>dTs b+1
noncomputable def dTs:List Tr->Nat
 | []=>0
 |t::ts=>max (dT t) (dTs ts)
end
theorem pJ(ha:dTs a<=n)(ht:dT t<=n):dTs (a++[t])<=n:=by
 induction a with
 |nil=>simp only[UJ,dTs];omega
 |cons x r ih=>
  simp only[dTs,OK]at ha⊢;have:=ih ();omega
theorem nI(ha:eE ns tg dd a)(hb:eE ns tg dd b):eE ns tg dd (a++b):=by
 induction a with
 |nil=>exact hb
 |cons t r ih=>exact⟨ha.1,ih ha.2⟩
noncomputable def uh(dd:List Dl):Lr->Int
 | .call i _=>match dd.find? (λd=>decide (d.nm=i))with
  |some d=>1+d.sp
  |none=>1
 |_=>1
mutual
noncomputable def oW(dd:List Dl)(h:Int):Tr->Int
 | .leaf r=>h*uh dd r
 | .iff _ l r f o=>h*(1+1*(l+r))+cJ dd h f+cJ dd h o
 | .loop _ m l r b=>h*(1+m*(l+r))+cJ dd (h*m) b
noncomputable def cJ(dd:List Dl)(h:Int):List Tr->Int
 | []=>0
 |t::ts=>oW dd h t+cJ dd h ts
end
theorem nJ(dd:List Dl)(h:Int)(a b:List Tr):cJ dd h (a++b)=cJ dd h a+cJ dd h b:=by
 induction a with
 |nil=>simp[cJ]
 |cons t r ih=>simp[cJ,ih];omega
set_option genCtorIdx true in
inductive Bk where
 |iff (v:Val)|loop (t:Th) (m:Int)
structure Fz where
 bk:Bk
 l:Int
 r:Int
 fst:Option (List Tr)
 rows:List Tr
 rank:Int
 aE:Int
 cost:Int
 fc:Option Int
noncomputable def Bk.m:Bk->Int
 | .iff _=>1
 | .loop _ m=>m
noncomputable def Bk.lr(l r:Int):Bk->Lr
 | .iff v=>.iff v l r
 | .loop t m=>.loop t m l r
noncomputable def Fz.op(f:Fz):Lr:=f.bk.lr f.l f.r
noncomputable def Bw:Option (List Tr)->List Lr
 |none=>[]
 |some t=>aZ t++[.els]
noncomputable def Fz.gW(f:Fz):List Lr:=Bw f.fst++aZ f.rows
noncomputable def bw:List Fz->List Lr
 | []=>[]
 |f::r=>f.op::(f.gW++bw r)
theorem dC(a b:List Fz):bw (a++b)=bw a++bw b:=by
 induction a with
 |nil=>rfl
 |cons t r ih=>simp[bw,ih]
noncomputable def ats(b:Nat):List Fz->List Nat
 | []=>[]
 |f::r=>b::ats (b+1+f.gW.length) r
theorem nC(b:Nat)(g:List Fz)(f:Fz):ats b (g++[f])=ats b g++[b+(bw g).length]:=by
 induction g generalizing b with
 |nil=>rfl
 |cons t r ih=>
  simp only[OK,ats,ih,bw,MD,Mn];rw[show b+1+t.gW.length+(bw r).length=b+(t.gW.length+(bw r).length+1) by omega]
theorem iq(b:Nat)(g:List Fz):(ats b g).length=g.length:=by
 induction g generalizing b with
 |nil=>rfl
 |cons t r ih=>simp[ats,ih]
noncomputable def pE(dd:List Dl)(h:Int):Option (List Tr)->Int
 |none=>0
 |some t=>cJ dd h t
noncomputable def lM(dd:List Dl)(h:Int):List Fz->Int
 | []=>0
 |f::r=>h*(1+f.bk.m*(f.l+f.r))+pE dd (h*f.bk.m) f.fst+cJ dd (h*f.bk.m) f.rows+lM dd (h*f.bk.m) r
noncomputable def cP(h:Int):List Fz->Int
 | []=>h
 |f::r=>cP (h*f.bk.m) r
theorem fY(h:Int)(g:List Fz)(f:Fz):cP h (g++[f])=cP h g*f.bk.m:=by
 induction g generalizing h with
 |nil=>rfl
 |cons t r ih=>exact ih _
theorem dD(dd:List Dl)(h:Int)(g:List Fz)(f:Fz):lM dd h (g++[f])=lM dd h g+(cP h g*(1+f.bk.m*(f.l+f.r))+pE dd (cP h g*f.bk.m) f.fst+cJ dd (cP h g*f.bk.m) f.rows):=by
 induction g generalizing h with
 |nil=>simp[lM,cP]
 |cons t r ih=>simp only[OK,lM,cP,ih];omega
section
variable{P:Program}{w:O7}{K:OZ}{mg:Str->Option OX}{base:Pk}{A:Adr}
noncomputable def del(X:List OW)(H:Hp):Hp:=λa=>if a∈X then Vf else H a
theorem aC:ao (del X H) H:=λa o h=>by
 unfold del at h;split at h
 ·cases h
 exact h
theorem aQ(h:a∉X)(e:H a=Ve o):del X H a=Ve o:=by
 unfold del;rw[if_neg h];exact e
theorem bq(h:del X H a=Ve o):a∉X/\H a=Ve o:=by
 unfold del at h;split at h
 ·cases h
 exact⟨by assumption,h⟩
structure Go(M:List OW)(H:Hp)(M':List OW)(H':Hp):Prop where
 o:∀a o,a∉M->H a=Ve o->H' a=Ve o
 m:∀a∈M',a∈M\/H a=Vf
theorem Go.trans{M M1 M2:List OW}{H H1 H2:Hp}(g:Go M H M1 H1)(g':Go M1 H1 M2 H2):Go M H M2 H2:=by
 refine⟨λa o h e=>g'.o a o (λm=>?_) (g.o a o h e),λa m=>?_⟩
 ·rcases g.m a m with z|z
  ·exact h z
  rw[z]at e;cases e
 rcases g'.m a m with z|z
 ·exact g.m a z
 by_cases h:a∈M
 ·exact .inl h
 refine .inr ?_;cases e:H a with
 |none=>rfl
 |some o=>rw[g.o a o h e]at z;cases z
theorem Go.same(g:Go M H M' H'):ao (del M H) (del M' H'):=λa o h=>by
 obtain⟨h1,h2⟩:=bq h;refine aQ (λm=>?_) (g.o a o h1 h2);rcases g.m a m with z|z
 ·exact h1 z
 rw[z]at h2;cases h2
theorem Go.refl(M:List OW)(H:Hp):Go M H M H:=⟨λ_ _ _ h=>h,λ_ h=>.inl h⟩
theorem Go.new(s:ao H H'):Go M H M H':=⟨λa o _ h=>s a o h,λ_ h=>.inl h⟩
theorem Go.at(h:x∈M)(u:HO):Go M H M (upd H x u):=⟨λa o m e=>(aw (λz:a=x=>m (by rw[z];exact h))).trans e,λ_ h=>.inl h⟩
theorem Go.to{M M1 M2:List OW}{H H1:Hp}(g:Go M H M1 H1)(h:∀a∈M2,a∈M1\/a∈M\/H a=Vf):Go M H M2 H1:=⟨g.o,λa m=>by
 rcases h a m with z|z|z
 ·exact g.m a z
 ·exact .inl z
 exact .inr z⟩
theorem Go.keep(g:Go M H M H')(s:ao H0 H)(f:∀a∈M,H0 a=Vf):ao H0 H':=λa o h=>g.o a o (λm=>by rw[f a m]at h;cases h) (s a o h)
def i5(H:Hp)(xs:List V)(ws:List (List V)):Prop:=Paired (λv w=>∃p,v=V.ref p/\H p=Ve (.tup w)) xs ws
theorem i5.same(s:ao H H')(h:i5 H xs ws):i5 H' xs ws:=Paired.cI h λ_ _ ⟨p,e,q⟩=>⟨p,e,s p _ q⟩
theorem i5.len(h:i5 H xs ws):xs.length=ws.length:=O3 h
theorem Pm{α β:Type}{F:α->β->Prop}{x:α}{y:β}(h:F x y):∀{xs:List α}{ys:List β},Paired F xs ys->Paired F (xs++[x]) (ys++[y])
 |_,_,.nil=>.cons h .nil
 |_,_,.cons g r=>.cons g (Pm h r)
theorem Paired.two{α β:Type}{F:α->β->Prop}:∀{xs zs:List α}{ys ws:List β},Paired F xs ys->Paired F zs ws->Paired F (xs++zs) (ys++ws)
 |_,_,_,_,.nil,h=>h
 |_,_,_,_,.cons g r,h=>.cons g (Paired.two r h)
structure Gc where
 N:Nat->Str
 S:OW
 LR:OW
 LV:OW
 LD:OW
 LH:OW
 LL:OW
 LT:OW
 LN:OW
 mode:Int
 ev:Bool
 vk:List Nat
 vw:Nat->Int
 tg:List Nat
 ns:List Nat
 dd:List Dl
 lim:Int
 pre:List Lr
 br:Int
structure Gd where
 lm:OW
 marks:List Nat
 lo:OW
 a0:OW
 as:List OW
 rows:List V
 bs:List Tr
 bc:Int
 fz:List Fz
 spent:Int
noncomputable def Ic:Option Int->V
 |none=>.non
 |some n=>.int n
noncomputable def stK(g:Gc)(d:Gd):List (Key×V):=[(.inr "rows",.ref g.LR),(.inr "view",.ref g.LV),(.inr "deeds",.ref g.LD),(.inr "mode",.int g.mode),(.inr "even",.bl g.ev),(.inr "marks",.ref d.lm),(.inr "hands",.ref g.LH),(.inr "lists",.ref g.LL),(.inr "targets",.ref g.LT),(.inr "numbers",.ref g.LN),(.inr "open",.ref d.lo),(.inr "spent",.int d.spent),(.inr "limit",.int g.lim)]
noncomputable def frK(at_:Nat)(rank aE cost:Int)(fc:Option Int):List (Key×V):=[(.inr "at",.int (at_:Int)),(.inr "rank",.int rank),(.inr "heft",.int aE),(.inr "cost",.int cost),(.inr "first",Ic fc)]
noncomputable def fzK(p:Nat×Fz):List (Key×V):=frK p.1 p.2.rank p.2.aE p.2.cost p.2.fc
noncomputable def Gd.M(g:Gc)(d:Gd):List OW:=g.S::g.LR::d.lo::d.a0::d.as
noncomputable def Gd.b(g:Gc)(d:Gd):Nat:=(g.pre++aZ d.bs).length
noncomputable def Gd.lrs(g:Gc)(d:Gd):List Lr:=g.pre++aZ d.bs++bw d.fz
structure jI(g:Gc):Prop where
 ev:g.ev=false
 D:kg g.N
 vb:∀i∈g.vk,i<25/\0<=g.vw i/\g.vw i<=2
 tv:∀i∈g.tg,i∈g.vk
 nv:∀i∈g.ns,i∈g.vk
 cv:∀i∈[0,1,2,6,10,11,12],i∈g.vk
 t9:9∈g.tg
 v9:g.vw 9=2
 v2:g.vw 2=2
 dv:∀e∈g.dd,e.nm∈g.vk/\e.ps.length<=2/\0<=e.sp/\0<=e.co/\∀p∈e.ps,p∈g.vk
 dn:(g.dd.map Dl.nm).Nodup
 dl:g.dd.length<=4
 tl:g.tg.length<=5
 nl:g.ns.length<=8
 br:0<=g.br/\g.br<=2
 pl:g.pre.length<=500
structure zY(X:Hp)(g:Gc):Prop where
 hv:X g.LV=Ve (.dK (dk g.N g.vk λi=>.int (g.vw i)))
 hd:∃ts:Nat->OW,X g.LD=Ve (.dK (dk g.N (g.dd.map Dl.nm) λi=>.ref (ts i)))/\∀e∈g.dd,X (ts e.nm)=Ve (.tup [.ref e.lp,.int e.sp,.int e.co])/\X e.lp=Ve (.lst (nV g.N e.ps))
 hh:X g.LH=Ve (.lst (nV g.N [0,1,2]))
 hl:X g.LL=Ve (.lst (nV g.N [6,10]))
 ht:X g.LT=Ve (.lst (nV g.N g.tg))
 hn:X g.LN=Ve (.lst (nV g.N g.ns))
theorem zY.same(s:ao X X')(h:zY X g):zY X' g:=by
 obtain⟨ts,h1,h2⟩:=h.hd;exact⟨s _ _ h.hv,⟨ts,s _ _ h1,λe m=>⟨s _ _ (h2 e m).1,s _ _ (h2 e m).2⟩⟩,s _ _ h.hh,s _ _ h.hl,s _ _ h.ht,s _ _ h.hn⟩
structure qv(H:Hp)(g:Gc)(d:Gd):Prop where
 hS:H g.S=Ve (.dK (stK g d))
 hR:H g.LR=Ve (.lst d.rows)
 hO:H d.lo=Ve (.lst (.ref d.a0::d.as.map V.ref))
 h0:H d.a0=Ve (.dK (frK 0 g.br 1 d.bc Vf))
 hf:Paired (λa p=>H a=Ve (.dK (fzK p))) d.as ((ats (d.b g) d.fz).zip d.fz)
theorem qv.same(s:ao H H')(h:qv H g d):qv H' g d:=⟨s _ _ h.hS,s _ _ h.hR,s _ _ h.hO,s _ _ h.h0,Paired.cI h.hf λ_ _ e=>s _ _ e⟩
def Ht(ns:List Nat):Bk->Prop
 | .iff v=>v.ok ns
 | .loop t m=>t.ok ns/\1<=m/\m<=3
structure JZ(g:Gc)(f:Fz):Prop where
 bk:Ht g.ns f.bk
 l0:0<=f.l
 r0:0<=f.r
 rows:eE g.ns g.tg g.dd f.rows
 fst:∀t,f.fst=Ve t->eE g.ns g.tg g.dd t
 lp:∀t m,f.bk=.loop t m->f.fst=Vf
 fc:f.fc=Vf↔f.fst=Vf
 f0:∀n,f.fc=Ve n->0<=n
 rank:0<=f.rank/\f.rank<=2
 cost:0<=f.cost
def kE(h:Int):List Fz->Prop
 | []=>True
 |f::r=>f.aE=h*f.bk.m/\kE f.aE r
theorem kE.app(hg:kE h g)(hf:f.aE=cP h g*f.bk.m):kE h (g++[f]):=by
 induction g generalizing h with
 |nil=>exact⟨hf,MO⟩
 |cons t r ih=>exact⟨hg.1,ih hg.2 (by rw[hg.1];exact hf)⟩
theorem kE.inv(hg:kE h (g++[f])):kE h g/\f.aE=cP h g*f.bk.m:=by
 induction g generalizing h with
 |nil=>exact⟨MO,hg.1⟩
 |cons t r ih=>
  obtain⟨a,b⟩:=ih hg.2;exact⟨⟨hg.1,a⟩,by rw[hg.1]at b;exact b⟩
def oQ:Nat->List Fz->Prop
 |_,[]=>True
 |n,f::r=>dTs f.rows<=n/\(∀t,f.fst=Ve t->dTs t<=n)/\oQ (n-1) r
theorem oQ.app:∀{g:List Fz}{n:Nat},oQ n g->dTs f.rows<=n-g.length->(∀t,f.fst=Ve t->dTs t<=n-g.length)->oQ n (g++[f])
 | [],_,_,h1,h2=>⟨h1,h2,MO⟩
 |x::r,n,hg,h1,h2=>⟨hg.1,hg.2.1,oQ.app hg.2.2 (by rw[MD]at h1;omega) (λt e=>by have:=h2 t e;rw[MD]at this;omega)⟩
theorem oQ.inv:∀{g:List Fz}{n:Nat},oQ n (g++[f])->oQ n g/\dTs f.rows<=n-g.length/\∀t,f.fst=Ve t->dTs t<=n-g.length
 | [],_,h=>⟨MO,h.1,h.2.1⟩
 |x::r,n,h=>by
  obtain⟨a,b,c⟩:=oQ.inv (g:=r) h.2.2;refine⟨⟨h.1,h.2.1,a⟩,by rw[MD];omega,λt e=>?_⟩;have:=c t e;rw[MD];omega
def KZ(bs:List Tr)(fz:List Fz):Prop:=dTs bs<=4/\oQ 3 fz
structure zE(g:Gc)(d:Gd):Prop where
 nd:(d.M g).Nodup
 mks:∀m∈d.marks,m∈[11,12]
 ml:d.marks.length<=2
 bs:eE g.ns g.tg g.dd d.bs
 bc:0<=d.bc
 fz:∀f∈d.fz,JZ g f
 fl:d.fz.length<=3
 hf:kE 1 d.fz
 h36:∀f∈d.fz,1<=f.aE/\f.aE<=36
 pay:g.ev=false->cJ g.dd 1 d.bs+lM g.dd 1 d.fz<=d.spent
 sp:0<=d.spent/\(d.spent<=g.lim\/d.spent=0)
 rl:(d.lrs g).length+2*d.fz.length<=1000
 dp:KZ d.bs d.fz
structure BAt(g:Gc)(H:Hp)(d:Gd):Prop where
 st:zY (del (d.M g) H) g
 hm:del (d.M g) H d.lm=Ve (.lst (nV g.N d.marks))
 hr:Paired (bX g.N (del (d.M g) H)) d.rows (d.lrs g)
 dy:qv H g d
 ok:zE g d
variable{g:Gc}{d d':Gd}{H H':Hp}
theorem BAt.same(z:ao H H')(h:BAt g H d):BAt g H' d:=by
 have s:=(Go.new (M:=d.M g) z).same;exact⟨h.st.same s,s _ _ h.hm,Paired.cI h.hr λ_ _=>bX.same s,h.dy.same z,h.ok⟩
theorem BAt.al(h:BAt g H d):∀a∈d.M g,H a≠Vf:=λa m e=>by
 unfold Gd.M at m;rcases Mf.mp m with rfl|m
 ·rw[h.dy.hS]at e;cases e
 rcases Mf.mp m with rfl|m
 ·rw[h.dy.hR]at e;cases e
 rcases Mf.mp m with rfl|m
 ·rw[h.dy.hO]at e;cases e
 rcases Mf.mp m with rfl|m
 ·rw[h.dy.h0]at e;cases e
 obtain⟨i,hi⟩:=ME m;obtain⟨p,_,hp⟩:=bb h.dy.hf hi;rw[hp]at e;cases e
theorem BAt.go(h:BAt g H d)(z:Go (d.M g) H (d'.M g) H')(dy:qv H' g d')(ok:zE g d')(hm:del (d'.M g) H' d'.lm=Ve (.lst (nV g.N d'.marks)))(hr:Paired (bX g.N (del (d'.M g) H')) d'.rows (d'.lrs g)):BAt g H' d':=⟨h.st.same z.same,hm,hr,dy,ok⟩
theorem inS(g:Gc)(d:Gd):g.S∈d.M g:=Mg
theorem inR(g:Gc)(d:Gd):g.LR∈d.M g:=Mi _ Mg
theorem inO(g:Gc)(d:Gd):d.lo∈d.M g:=Mi _ (Mi _ Mg)
theorem in0(g:Gc)(d:Gd):d.a0∈d.M g:=Mi _ (Mi _ (Mi _ Mg))
theorem inA(g:Gc)(d:Gd)(h:a∈d.as):a∈d.M g:=Mi _ (Mi _ (Mi _ (Mi _ h)))
end
section
variable{K:OZ}
theorem Dn:PL K (.type "str") (.type "str")=Ve true:=by kernel_rfl!
theorem Dk:PL K (.type "int") (.type "str")=Ve false:=by kernel_rfl!
end
section
variable{P:Program}{w:O7}{K:OZ}{mg:Str->Option OX}{base:Pk}{A:Adr}
noncomputable abbrev LET:Str:="abcdefghijklmnopqrstuvwxyz"
noncomputable def nq(k:Int):Nat:=(97+k).toNat
theorem Ag(h0:0<=k)(h1:k<26):atI LET.cps.toList k=Ve (nq k):=by
 obtain⟨n,rfl⟩:∃n:Nat,k=(n:Int):=⟨k.toNat,()⟩;have h:∀m:Fin 26,atI LET.cps.toList ((m.val:Nat):Int)=Ve (nq ((m.val:Nat):Int)):=by decide+kernel
 exact h ⟨n,()⟩
theorem Fc(hz:z.length<=1)(h1:n<1000):(pK z n).length<=1000:=by
 unfold pK;split
 ·decide
 split
 ·omega
 rw[xr];have:n.toNat*z.length<=n.toNat*1:=Nat.mul_le_mul_left _ hz;omega
theorem yW(x y:Str):(x++y).length=x.length+y.length:=by
 show(x.cps++y.cps).size=x.cps.size+y.cps.size;exact Ue
noncomputable abbrev IM:Str:="set put send say by if else end loop most idle last call deed main at over rest"
noncomputable abbrev Jz:Str:=" hand given own let open house closed"
noncomputable def words:List Str:=["set","put","send","say","by","if","else","end","loop","most","idle","last","call","deed","main","at","over","rest","hand","given","own","let","open","house","closed"]
theorem C6:w6 (IM++Jz) " " words:=⟨by decide+kernel,by decide+kernel,by decide+kernel,by decide+kernel,∅,by decide+kernel⟩
theorem yC:words.Nodup:=by decide+kernel
theorem qh:words.length=25:=rfl
noncomputable def nmV(c:Int)(k:Nat):Str:=
 if decide (V.int (c%4)=V.int 0)=true then words.getD ((c/4%25+k)%25).toNat Q5
 else if decide (V.int (c%4)=V.int 1)=true then pK ⟨#[nq ((c/4%26+(k:Int)/8)%26)]⟩ ((k:Int)%8+1)
 else Txt.slice (pK ⟨#[nq (c/288%26)]⟩ (c/4%8)) Vf (Ve (c/32%(c/4%8+1)))++⟨#[nq ((k+c/7488%26)%26)]⟩++Txt.slice (pK ⟨#[nq (c/288%26)]⟩ (c/4%8)) (Ve (c/32%(c/4%8+1))) Vf
theorem sU(c:Nat)(hn:1<=n):(pK ⟨#[c]⟩ n).cps.toList=Pd n.toNat c:=by
 unfold pK;rw[if_neg ()];by_cases e:n=1
 ·subst e;rfl
 have h1:¬ (n==1||(⟨#[c]⟩:Str).length==0)=true:=by
  rw[Bool.or_eq_true];rintro(h|h)
  ·exact e (eq_of_beq h)
  exact absurd h (show ¬ ((1:Nat)==0)=true by decide)
 rw[if_neg h1];have f:∀(m:Nat)(acc:Array Nat),((Pd m #[c]).foldl (· ++ ·) acc).toList=acc.toList++Pd m c:=by
  intro m;induction m with
  |zero=>intro acc;simp
  |succ m ih=>
   intro acc;rw[MX,Ou,ih,MX];simp
 have:=f n.toNat #[];simpa using this
theorem ye(ha:0<=a)(hb:0<=b)(h:nq a=nq b):a=b:=by
 unfold nq at h;omega
theorem Gm{a b:Str}{x y:Nat}(h:a++⟨#[x]⟩++b=a++⟨#[y]⟩++b):x=y:=by
 have h1:((a.cps++ #[x])++b.cps).toList=((a.cps++ #[y])++b.cps).toList:=congrArg (λz:Str=>z.cps.toList) h;simp only[SS]at h1;have h2:=List.append_inj_left' h1 rfl;have h3:=List.append_inj_right h2 rfl;simpa using h3
theorem rA(c:Int):kg (nmV c):=by
 intro i j hi hj e;unfold nmV at e;split at e
 ·have m1:=cK (c/4%25+i) (show(0:Int)<25 by decide);have m2:=cK (c/4%25+j) (show(0:Int)<25 by decide);have b1:((c/4%25+i)%25).toNat<words.length:=by rw[qh];omega
  have b2:((c/4%25+j)%25).toNat<words.length:=by rw[qh];omega
  rw[MQ,MQ,Mh b1,Mh b2]at e;have:=(NW yC).mp (show words[((c/4%25+i)%25).toNat]=words[((c/4%25+j)%25).toNat]from e);omega
 split at e
 ·have m1:=cK (c/4%26+(i:Int)/8) (show(0:Int)<26 by decide);have m2:=cK (c/4%26+(j:Int)/8) (show(0:Int)<26 by decide);have h1:=congrArg (λz:Str=>z.cps.toList) e;rw[sU _ (),sU _ ()]at h1;have h2:=congrArg UC h1;rw[Nz,Nz]at h2;obtain⟨n,hn⟩:∃n,((i:Int)%8+1).toNat=n+1:=⟨((i:Int)%8).toNat,()⟩;rw[<-h2,hn,MX,MX]at h1;have h3:=ye m1.1 m2.1 (RB h1).1;omega
 have m1:=cK ((i:Int)+c/7488%26) (show(0:Int)<26 by decide);have m2:=cK ((j:Int)+c/7488%26) (show(0:Int)<26 by decide);have h3:=ye m1.1 m2.1 (Gm e);omega
theorem Bz(h:c∈(Txt.slice x lo hi).cps.toList):c∈x.cps.toList:=by
 unfold Txt.slice at h;split at h
 ·exact h
 obtain⟨i,_,q⟩:=OG.mp (by simpa using h);exact Array.mem_toList_iff.mpr (Array.mem_of_getElem? q)
theorem gB:Pw x=true↔∀c∈x.cps.toList,c<0x110000:=by
 unfold Pw;rw[<-Array.all_toList,NL];exact⟨λh c hc=>of_decide_eq_true (h c hc),λh c hc=>decide_eq_true (h c hc)⟩
theorem uJ(h:Pw x=true)(lo hi:Option Int):Pw (Txt.slice x lo hi)=true:=gB.mpr λc hc=>gB.mp h c (Bz hc)
theorem vg(h:Pw x=true)(h2:Pw y=true):Pw (x++y)=true:=gB.mpr λc hc=>by
 have e:(x++y).cps=x.cps++y.cps:=rfl;rw[e,SS]at hc;rcases Mp.mp hc with q|q
 ·exact gB.mp h c q
 exact gB.mp h2 c q
theorem FE(h:k<26):Pw ⟨#[nq k]⟩=true:=gB.mpr λc hc=>by
 have e:c=nq k:=by simpa using hc
 rw[e];unfold nq;omega
theorem Ak(h:k<26):Pw (pK ⟨#[nq k]⟩ n)=true:=by
 by_cases hn:1<=n
 ·refine gB.mpr λc hc=>?_;rw[sU _ hn]at hc;rw[RE hc];unfold nq;omega
 unfold pK;rw[if_pos ()];decide+kernel
theorem JF(c:Int)(k:Nat):Pw (nmV c k)=true:=by
 unfold nmV;split
 ·have h:∀i:Fin 25,Pw (words.getD i.val Q5)=true:=by decide+kernel
  have:=cK (c/4%25+k) (show(0:Int)<25 by decide);exact h ⟨((c/4%25+k)%25).toNat,()⟩
 have h1:=cK (c/288) (show(0:Int)<26 by decide);have h2:=cK ((k:Int)+c/7488%26) (show(0:Int)<26 by decide);have h3:=cK (c/4%26+(k:Int)/8) (show(0:Int)<26 by decide);split
 ·exact Ak h3.2
 exact vg (vg (uJ (Ak h1.2) _ _) (FE h2.2)) (uJ (Ak h1.2) _ _)
inductive A5(vs:List V)(H:Hp)(Q:VK)(Z:XK):Prop
 |mk(c:Int)(k:Nat):vs=[.int c,.int k]->k<=100->(∀(H':Hp),ao H H'->Q (.str (nmV c k)) H')->A5 vs H Q Z
theorem Jc(T:Txt K mg A):T.tE.Hz P w base 1 A5:=by
 refine T.tE.hs eG (λf cdv A' outer s H vs Q E hr hu h=>?_);obtain⟨c,k,rfl,h1,q⟩:=h;unfold nmV at q;refine⟨_,(ab (pst 2 eG.nd ak)
 (ab (pst 3 eG.nd (ax cF (fv 0) ae))
 (ab (aP (ptc (bh hu) (fv 3) ae)
  (ab (pst 4 eG.nd ak)
  (ah (aA (px hu (m_split (ax bo (fv 4) ak) (ak^af)) (ax cF (ax bo (ax cF (ax eJ (fv 0) ae) ae) (fv 1)) ae)))))
  aD)
 (ab (aP (ptc (bh hu) (fv 3) ae)
  (ah (aA (ax dw (px hu (fv 2) (ax cF (ax bo (ax cF (ax eJ (fv 0) ae) ae) (ax eJ (fv 1) ae)) ae)) (ax bo (ax cF (fv 1) ae) ae))))
  aD)
 (ab (pst 5 eG.nd (ax cF (ax eJ (fv 0) ae) ae))
 (ab (pst 6 eG.nd (ax cF (ax eJ (fv 0) ae) (ax bo (fv 5) ae)))
 (ab (pst 7 eG.nd (ax dw (px hu (fv 2) (ax cF (ax eJ (fv 0) ae) ae)) (fv 5)))
 (ah (aA (ax bo (ax bo (cw dS (fv 7) gH (bH (fv 6))) (px hu (fv 2) (ax cF (ax bo (fv 1) (ax cF (ax eJ (fv 0) ae) ae)) ae))) (cw dS (fv 7) (bH (fv 6)) gH))))))))))),?_⟩
 refine⟨(by show(0:Int)<4;decide),rfl,_,rfl,ba (λb1=>?_) (λb1=>?_)⟩
 ·rw[if_pos b1]at q;refine⟨(by decide+kernel),rfl,_,_,words,rfl,rfl,C6,λl hl=>?_⟩;obtain⟨s1,e1⟩:=alc hl (HO.lst (words.map V.str));generalize upd H l _=H1 at s1 e1⊢;obtain⟨j0,j1⟩:=cK (c/4%25+k) (show(0:Int)<25 by decide);have hk:((c/4%25+k)%25).toNat<words.length:=by rw[qh];omega
  have e:atI (words.map V.str) ((c/4%25+k)%25)=Ve (.str (words.getD ((c/4%25+k)%25).toNat Q5)):=by
   have e:=dA (xs:=words.map V.str) (j:=((c/4%25+k)%25).toNat) (v:=.str (words.getD ((c/4%25+k)%25).toNat Q5)) (by rw[Mu,Mh hk,MQ,Mh hk];rfl);rw[show((((c/4%25+k)%25).toNat:Nat):Int)=(c/4%25+k)%25 by omega]at e;exact e
  exact⟨⟨∅,∅⟩,(by show(0:Int)<25;decide),(by show(0:Int)<25;decide),(lix (SqL.of e1) e (q _ s1))⟩
 rw[if_neg b1]at q;refine⟨rfl,_,rfl,ba (λb2=>?_) (λb2=>?_)⟩
 ·rw[if_pos b2]at q;obtain⟨j0,j1⟩:=cK (c/4%26+(k:Int)/8) (show(0:Int)<26 by decide);obtain⟨m0,m1⟩:=cK (k:Int) (show(0:Int)<8 by decide);exact⟨⟨∅,∅⟩,(by show(0:Int)<26;decide),⟨∅,∅⟩,(by show(0:Int)<26;decide),_,by decide+kernel,Ag j0 j1,(by show(0:Int)<8;decide),(),(),by show 1<=1000;decide,q _ (ao.refl _)⟩
 rw[if_neg b2]at q;obtain⟨m0,m1⟩:=cK (c/4) (show(0:Int)<8 by decide);obtain⟨j0,j1⟩:=cK (c/288) (show(0:Int)<26 by decide);obtain⟨i0,i1⟩:=cK (k+c/7488%26) (show(0:Int)<26 by decide);have rl:(pK ⟨#[nq (c/288%26)]⟩ (c/4%8)).length<=1000:=Fc (Mo _) ();refine⟨⟨∅,∅⟩,(by show(0:Int)<8;decide),⟨∅,∅⟩,(by show(0:Int)<c/4%8+1;omega),⟨∅,∅⟩,(by show(0:Int)<26;decide),_,by decide+kernel,Ag j0 j1,(),(),by show 1<=1000;decide,?_⟩;have s1:=Tx (pK ⟨#[nq (c/288%26)]⟩ (c/4%8)) Vf (Ve (c/32%(c/4%8+1)));have s2:=Tx (pK ⟨#[nq (c/288%26)]⟩ (c/4%8)) (Ve (c/32%(c/4%8+1))) Vf;refine⟨_,rfl,sz rl,⟨∅,∅⟩,(by show(0:Int)<26;decide),(by show(0:Int)<26;decide),_,by decide+kernel,Ag i0 i1,⟨MC (m:=1000+1) (Sy (MC s1 rl) 1) ∅,_,rfl,sz rl,⟨?_,q _ (ao.refl _)⟩⟩⟩;rw[yW];exact MC (m:=1000+1+1000) (Nat.add_le_add (Sy (MC s1 rl) 1) (MC s2 rl)) ∅
noncomputable def cellAt(ns:List Int)(k:Int):Int:=if k<(ns.length:Int)then ns.getD k.toNat 0 else 0
theorem IQ{ns:List Int}{k:Int}(h0:0<=k)(h1:k<(ns.length:Int)):atI (ns.map V.int) k=Ve (.int (ns.getD k.toNat 0)):=by
 have hk:k.toNat<ns.length:=()
 have e:=dA (xs:=ns.map V.int) (j:=k.toNat) (v:=.int (ns.getD k.toNat 0)) (by rw[Mu,Mh hk,MQ,Mh hk];rfl);rw[show((k.toNat:Nat):Int)=k by omega]at e;exact e
inductive Bo(K:OZ)(vs:List V)(H:Hp)(Q:VK)(Z:XK):Prop
 |mk(a:OW)(ns:List Int)(k:Int):vs=[.ref a,.int k]->SqL K H a (ns.map V.int)->0<=k->Q (.int (cellAt ns k)) H->Bo K vs H Q Z
theorem zj(T:Txt K mg A):T.ni.Hz P w base 1 (Bo K):=by
 refine T.ni.hs tD (λf cdv A' outer s H vs Q E hr hu h=>?_);obtain⟨a,ns,k,rfl,hS,h0,q⟩:=h;unfold cellAt at q;have el:(((ns.map V.int).length:Nat):Int)=(ns.length:Int):=by rw[Mj]
 refine⟨_,(ab (aP (ptc wM (fv 1) (pcB bQ T.cB (fv 0^af)))
  (ah (aA (px hu (fv 0) (fv 1))))
  aD)
 (ah (aA ae))),?_⟩
 refine Mt ⟨_,_,rfl,Mt ⟨_,hS,rfl⟩,_,rfl,ba (λc=>?_) (λc=>?_)⟩
 ·have c':k<(((ns.map V.int).length:Nat):Int):=of_decide_eq_true c;rw[el]at c';rw[if_pos c']at q;exact lix hS (IQ h0 c') q
 have c':¬ k<(((ns.map V.int).length:Nat):Int):=of_decide_eq_false (NQ.mpr c);rw[el]at c';rw[if_neg c']at q;exact q
theorem GK:((10:Int)^(12:Int).toNat)=1000000000000:=∅
noncomputable def E4:List Int:=[48271,69621,39373,16807,40692,30323,51749]
noncomputable def Gb:List Int:=[1000033,999983,999979,1000037,999961,1000039,999959]
theorem Iu(w:Nat)(h:w<=6):∃a b:Int,atI (E4.map V.int) (w:Int)=Ve (.int a)/\atI (Gb.map V.int) (w:Int)=Ve (.int b)/\0<a/\a<100000/\0<b:=by
 have:=lt7 w ();rcases this with rfl|rfl|rfl|rfl|rfl|rfl|rfl<;>exact⟨_,_,rfl,rfl,∅,∅,∅⟩
inductive C7(vs:List V)(H:Hp)(Q:VK)(Z:XK):Prop
 |mk(c:Int)(k:Nat)(n:Int):vs=[.int c,.int k,.int n]->k<=6->0<n->(∀(m:Int)(H':Hp),0<=m->m<n->ao H H'->Q (.int m) H')->C7 vs H Q Z
theorem mE(T:Txt K mg A):T.wo.Hz P w base 1 C7:=by
 refine T.wo.hs oJ (λf cdv A' outer s H vs Q E hr hu h=>?_);obtain⟨c,k,n,rfl,hk,n0,q⟩:=h;refine⟨_,(ab (aP (ptc (BH hu) (ax eJ (fv 0) (ax AI ae ae)) ae)
  (ah (aA (ax cF (ax G3 (fv 0) (ax bo (ax dw ae (fv 1)) ae)) (fv 2))))
  aD)
 (ab (pst 3 oJ.nd (ax bo (ax cF (fv 0) ae) ae))
 (ab (pst 3 oJ.nd (ax dw (fv 3) (px hu (bI (ae^ae^ae^ae^ae^ae^ae^af)) (fv 1))))
 (ah (aA (ax cF (ax cF (fv 3) (px hu (bI (ae^ae^ae^ae^ae^ae^ae^af)) (fv 1))) (fv 2))))))),?_⟩
 refine⟨⟨∅,∅,∅⟩,⟨∅,∅⟩,rfl,_,rfl,ba (λ_=>?_) (λ_=>?_)⟩
 ·have m:=cK (c/2^(12*(k:Int)+1).toNat) n0;exact⟨.inl ⟨∅,∅⟩,(by show(0:Int)<=12*(k:Int)+1;omega),n0,q _ _ m.1 m.2 (ao.refl _)⟩
 obtain⟨a,b,ea,eb,a0,a1,b0⟩:=Iu k hk;refine⟨(by show(0:Int)<1000003;decide),⟨by show 7<=sizeLine;decide,λl hl=>?_⟩⟩;obtain⟨s1,e1⟩:=alc hl (HO.lst (E4.map V.int));change upd H l (HO.lst (E4.map V.int)) l=_ at e1;refine lix (SqL.of e1) ea ⟨.inr ⟨(),()⟩,⟨by show 7<=sizeLine;decide,λl2 hl2=>?_⟩⟩;have s2:=ao.upd hl2 (HO.lst (Gb.map V.int));have e2:upd (upd H l (HO.lst (E4.map V.int))) l2 (HO.lst (Gb.map V.int)) l2=Ve (.lst (Gb.map V.int)):=aj;have m:=cK ((c%1000003+1)*a%b) n0;exact lix (SqL.of e2) eb ⟨b0,n0,q _ _ m.1 m.2 (s1.trans s2)⟩
inductive vn(vs:List V)(H:Hp)(Q:VK)(Z:XK):Prop
 |mk(c:Int):vs=[.int c]->(∀n,In n->Q (.int n) H)->vn vs H Q Z
theorem EJ(T:Txt K mg A):T.oi.Hz P w base 1 vn:=by
 refine T.oi.hs ur (λf cdv A' outer s H vs Q E hr hu h=>?_);obtain⟨c,rfl,q⟩:=h;refine⟨_,(ab (aP (ptc wM (ax cF (fv 0) ae) ae)
  (ah (aA (ax cF (ax eJ (fv 0) ae) ae)))
  aD)
 (ab (aP (ptc (bh hu) (ax cF (fv 0) ae) ae)
  (ah (aA (ax pP (ax pP (ax AI ae ae) ae) (ax cF (ax eJ (fv 0) ae) ae))))
  aD)
 (ah (aA (ax cF (ax eJ (fv 0) ae) (ax AI ae ae)))))),?_⟩
 have m4:=cK (c/4) (show(0:Int)<4 by decide);have m3:=cK (c/4) (show(0:Int)<3 by decide);have mm:=cK (c/4) (show(0:Int)<1000000000000 by decide);refine⟨(by show(0:Int)<4;decide),_,rfl,ba (λ_=>⟨⟨∅,∅⟩,(by show(0:Int)<4;decide),q _ ⟨m4.1,()⟩⟩) (λ_=>⟨(by show(0:Int)<4;decide),rfl,_,rfl,ba (λ_=>⟨⟨∅,∅,∅⟩,⟨∅,∅⟩,(by show(0:Int)<3;decide),by rw[GK];exact q _ ⟨(),()⟩⟩) (λ_=>?_)⟩)⟩;exact⟨⟨∅,∅⟩,⟨∅,∅,∅⟩,(by show(0:Int)<10^(12:Int).toNat;decide),by rw[GK];exact q _ ⟨mm.1,mm.2⟩⟩
end
section
variable{P:Program}{w:O7}{K:OZ}{mg:Str->Option OX}{base:Pk}{A:Adr}{g:Gc}{d:Gd}
seal PE PA PS PSs PT PW
noncomputable def BA(g:Gc)(lo:Bool)(a b:Int)(i:Nat):Bool:=lo||(decide (a<=g.vw i)&&decide (g.vw i<=b))
noncomputable def FG(g:Gc)(lo:Bool)(a b:Int):V->Bool
 | .str x=>(Pc 25).any λi=>decide (g.N i=x)&&BA g lo a b i
 |_=>false
theorem AF(O:jI g){lo:Bool}{a b:Int}{i:Nat}(h:i<25):FG g lo a b (.str (g.N i))=BA g lo a b i:=by
 unfold FG;dsimp only;rw[Nx,Ni];constructor
 ·rintro⟨j,hj,e⟩;rw[NB,decide_eq_true_iff]at e;rw[O.D j i (MV.mp hj) h e.1]at e;exact e.2
 exact λe=>⟨i,MV.mpr h,by rw[decide_eq_true rfl,e];rfl⟩
theorem yc(O:jI g):∀{xs:List Nat},(∀i∈xs,i∈g.vk)->((nV g.N xs).filter (FG g lo a b)).map (λx=>x)=nV g.N (xs.filter (BA g lo a b))
 | [],_=>rfl
 |i::r,h=>by
  have ih:=yc O (lo:=lo) (a:=a) (b:=b) (xs:=r) λj hj=>h j (Mi _ hj);have e:=AF O (lo:=lo) (a:=a) (b:=b) (O.vb i (h i Mg)).1;show((V.str (g.N i)::nV g.N r).filter _).map _=_;rw[Ox]at ih⊢;rw[MZ,MZ,e];cases BA g lo a b i
  ·simpa using ih
  simpa using ih
structure VM(g:Gc)(xs:List Nat)(a b:Int)(ys:List Nat):Prop where
 sub:∀i∈ys,i∈xs
 has:∀i∈xs,a<=g.vw i->g.vw i<=b->i∈ys
 len:ys.length<=xs.length
inductive Dq(K:OZ)(vs:List V)(H:Hp)(Q:VK)(Z:XK):Prop
 |mk(g:Gc)(d:Gd)(l:OW)(lo:Bool)(a b:Int)(xs:List Nat):vs=[.ref g.S,.ref l,.bl lo,.int a,.int b]->jI g->BAt g H d->SqL K H l (nV g.N xs)->(∀i∈xs,i∈g.vk)->xs.length<=1000->(∀(D:OW)(ys:List Nat)(H':Hp),ao H H'->H D=Vf->H' D=Ve (.lst (nV g.N ys))->VM g xs a b ys->Q (.ref D) H')->Dq K vs H Q Z
theorem uT(T:Txt K mg A):T.xk.Hz P w base 1 (Dq K):=by
 refine T.xk.hs zL (λf cdv A' outer s H vs Q E hr hu h=>?_);obtain⟨g,d,l,lo,a,b,xs,rfl,O,B,hl,hx,xl,q⟩:=h;have vb:∀j∈g.vk,j<25:=λj hj=>(O.vb j hj).1;refine⟨_,(ah (aA (gJ (N:=["_law_name_here","_law_loose","_law_low","_law_high","_law_state"]) (own:=1) (fr:=[2,3,4,0]) (cG.of (by kernel_rfl!)) rfl (cA (fv 1)) (λb=>pgn (i:=0) (show PC (["_law_name_here","_law_loose","_law_low","_law_high","_law_state"]:List PU) by decide+kernel) rfl) (λb=>lj (PW.pt (pw_or (bR (fv 1) (λ_=>rfl)) (pw_or1 (PW.pt (pw_and (ptc zp (fv 2) (px hu (px hu (fv 4) ak) (fv 0))) (pw_and1 (ptc zp (px hu (px hu (fv 4) ak) (fv 0)) (fv 3))))))))) (λb=>fv 0)))),Mt ⟨⟨_,hl⟩,fA (K:=K) (FG g lo a b) (λx=>x) hl (ay (by rw[Mj];exact xl)) (λb' x H2 R hm s2 k=>?_) (λb' x H2 R hm hp s2 k=>k _ (ao.refl _)) (λD H2 hD s2 e=>?_)⟩⟩
 ·obtain⟨i,hi,rfl⟩:=Mz.mp hm;have hi':=hx i hi;rw[AF O (O.vb i hi').1]at k;have hS:=s2 _ _ B.dy.hS;have hv:=mK O.D (.inl (s2 _ _ (aC _ _ B.st.hv))) vb hi';unfold BA at k;cases lo with
  |true=>exact⟨true,rfl,dz (k _ (ao.refl _))⟩
  |false=>
   refine⟨false,rfl,bu (dgk hS rfl ⟨_,hv,_,rfl,ba (λc=>?_) (λc=>?_)⟩)⟩
   ·refine dgk hS rfl ⟨_,hv,_,rfl,?_⟩;have:=k _ (ao.refl _);rw[c]at this;exact this
   have:=k _ (ao.refl _);rw[NQ.mpr c]at this;exact this
 rw[yc O hx]at e;refine q D _ H2 s2 hD e ⟨λi hi=>(MY.mp hi).1,λi hi h1 h2=>MY.mpr ⟨hi,?_⟩,Nd _ _⟩;unfold BA;rw[decide_eq_true h1,decide_eq_true h2,Bool.and_true,Bool.or_true]
inductive xJ(K:OZ)(vs:List V)(H:Hp)(Q:VK)(Z:XK):Prop
 |mk(g:Gc)(d:Gd)(c:Int)(k:Nat)(b:Int):vs=[.ref g.S,.int c,.int k,.int b]->jI g->BAt g H d->k<=6->(∀(t:Th)(H':Hp),ao H H'->t.ok g.ns->Q (t.v g.N) H')->xJ K vs H Q Z
theorem oX(T:Txt K mg A):T.qa.Hz P w base 2 (xJ K):=by
 refine T.qa.hs (k:=1) kZ (λf cdv A' outer s H vs Q E hr hu h=>?_);obtain⟨g,d,c,k,b,rfl,O,B,hk,q⟩:=h;have nl:=O.nl;refine⟨_,(ab (pst 4 kZ.nd (ar (uT T) hr (fv 0^px hu (fv 0) ak^lL^ae^fv 3^af)))
 (ab (pst 5 kZ.nd (ar (mE T) hr (fv 1^fv 2^ax bo (pcB bQ T.cB (fv 4^af)) ae^af)))
 (ab (aP (ptc wM (fv 5) (pcB bQ T.cB (fv 4^af)))
  (ah (aA (px hu (fv 4) (fv 5))))
  aD)
 (ah (aA (ar (EJ T) hr (px hu (bI (ax eJ (ax dw (ax cF (fv 1) ae) (ax bo (fv 2) ae)) ae^ax G3 (fv 1) (ax bo ae (ax dw ae (fv 2)))^af)) (pcT qu T.oe (pec (BH hu) (ax eJ (fv 1) (ax AI ae ae)) ae^af))^af))))))),?_⟩
 refine dgk B.dy.hS rfl ⟨g,d,g.LN,false,0,b,g.ns,rfl,O,B,SqL.of (aC _ _ B.st.hn),O.nv,(),λD ys H1 s1 hD eD F=>?_⟩;have e:(((nV g.N ys).length:Nat):Int)=(ys.length:Int):=by rw[Mj]
 try dsimp only
 refine lnl eD ⟨c,k,_,rfl,hk,(),λm H2 m0 m1 s2=>?_⟩;have eD2:=s2 _ _ eD;try dsimp only
 refine lnl eD2 ⟨_,rfl,ba (λz=>?_) (λ_=>?_)⟩
 ·have z:=of_decide_eq_true z;rw[e]at z;obtain⟨x,hx,_,ha⟩:=mz (λi=>V.str (g.N i)) m0 z;exact lix (SqL.of eD2) ha (q (.x x) H2 (s1.trans s2) (F.sub x hx))
 refine⟨(by show(0:Int)<1000003;decide),.inr ⟨(),()⟩,⟨∅,∅⟩,.inl ⟨∅,∅⟩,(by show(0:Int)<=85+44*(k:Int);omega),⟨by show 2<=sizeLine;decide,λl hl=>?_⟩⟩;obtain⟨s3,e3⟩:=alc hl (HO.lst [V.int (c%1000003*((k:Int)+5)/3),V.int (c/2^(85+44*(k:Int)).toNat)]);refine⟨⟨∅,∅,∅⟩,⟨∅,∅⟩,rfl,_,rfl,Mt ?_⟩;have fin:∀n,In n->Q (.int n) _:=λn hn=>q (.i n) _ ((s1.trans s2).trans s3) hn;cases (!decide (V.int (c/10^(18:Int).toNat)=V.int 0))
 ·exact⟨_,_,Mt (SqL.of e3),rfl,_,rfl,fin⟩
 exact⟨_,_,Mt (SqL.of e3),rfl,_,rfl,fin⟩
noncomputable def opL:List Str:=["+","-","*","over","rest","<","="]
inductive yO(K:OZ)(vs:List V)(H:Hp)(Q:VK)(Z:XK):Prop
 |mk(g:Gc)(d:Gd)(c b:Int):vs=[.ref g.S,.int c,.int b]->jI g->BAt g H d->(∀(p:OW)(val:Val)(H':Hp),ao H H'->H p=Vf->H' p=Ve (.tup (vV g.N val))->val.ok g.ns->Q (.ref p) H')->yO K vs H Q Z
theorem wq(T:Txt K mg A):T.qw.Hz P w base 3 (yO K):=by
 have E9:=@mE P w _ _ base _ T;refine T.qw.hs (k:=2) fH (λf cdv A' outer s H vs Q E hr hu h=>?_);obtain⟨g,d,c,b,rfl,O,B,q⟩:=h;refine⟨_,(ab (pst 3 fH.nd (ar E9 hr (fv 1^ae^ae^af)))
 (ab (pst 4 fH.nd (ar (oX T) hr (fv 0^fv 1^ae^fv 2^af)))
 (ab (pst 5 fH.nd (ar (uT T) hr (fv 0^px hu (fv 0) ak^lL^ae^fv 2^af)))
 (ab (aP (ptc wM (fv 3) ae)
  (ah (aA (bf (fv 4^af))))
  aD)
 (ab (aP (PW.pt (pw_and (ptc (bh hu) (fv 3) ae) (pw_and1 (ptc rR (pcB bQ T.cB (fv 5^af)) ae))))
  (ah (aA (bf (px hu (fv 5) (ar E9 hr (fv 1^ae^pcB bQ T.cB (fv 5^af)^af))^ak^fv 4^af))))
  aD)
 (ab (pst 6 fH.nd (px hu (bI (ak^ak^ak^ak^ak^ak^ak^af)) (ar E9 hr (fv 1^ae^ae^af))))
 (ah (aA (bf (fv 4^fv 6^ar (oX T) hr (fv 0^fv 1^ae^fv 2^af)^af)))))))))),?_⟩
 refine⟨c,6,9,rfl,∅,∅,λm H1 m0 m1 s1=>?_⟩;have B1:=B.same s1;try dsimp only
 refine⟨g,d,c,1,b,rfl,O,B1,∅,λt H2 s2 ht=>?_⟩;have B2:=B1.same s2;have z2:=s1.trans s2;try dsimp only
 refine dgk B2.dy.hS rfl ⟨g,d,g.LL,false,0,b,[6,10],rfl,O,B2,SqL.of (aC _ _ B2.st.hl),(λi hi=>O.cv i (by revert i;decide)),∅,λD ys H3 s3 hD eD F=>?_⟩;have B3:=B2.same s3;have z3:=z2.trans s3;have e:(((nV g.N ys).length:Nat):Int)=(ys.length:Int):=by rw[Mj]
 have new:∀{x:OW}{H4:Hp},ao H3 H4->H4 x=Vf->H x=Vf:=λz h=>ao.free (z3.trans z) h;try dsimp only
 refine aq λM0 K0=>⟨_,rfl,ba (λ_=>⟨by show 1<=sizeLine;decide,λp hp=>q p (.one t) _ (z3.trans (ao.upd hp _)) (new (ao.refl _) hp) aj ht⟩) (λ_=>K0 _ _ (aq λM1 K1=>?_))⟩;have rest:M1 [Ve (.ref g.S),Ve (.int c),Ve (.int b),Ve (.int m),Ve (t.v g.N),Ve (.ref D),Vf] H3:=K1 _ _ (by
  refine⟨by show 7<=sizeLine;decide,λl hl=>?_⟩;obtain⟨s4,e4⟩:=alc hl (HO.lst (opL.map V.str));change upd H3 l (HO.lst (opL.map V.str)) l=_ at e4;refine⟨c,4,7,rfl,∅,∅,λm2 H5 n0 n1 s5=>?_⟩;obtain⟨x,hx,_,ha⟩:=mz V.str (xs:=opL) n0 n1;refine lix (SqL.of (s5 _ _ e4)) ha ?_;have z5:=s4.trans s5;refine⟨g,d,c,2,b,rfl,O,(B3.same s4).same s5,∅,λt2 H6 s6 ht2=>?_⟩;exact⟨by show 3<=sizeLine;decide,λp hp=>q p (.op t x t2) _ ((z3.trans (z5.trans s6)).trans (ao.upd hp _)) (new (z5.trans s6) hp) aj ⟨ht,ht2,hx⟩⟩)
 refine⟨rfl,_,rfl,ba (λ_=>?_) (λ_=>bu rest)⟩;refine lnl eD ⟨_,rfl,ba (λz=>?_) (λ_=>rest)⟩;have z:=of_decide_eq_true z;rw[e]at z;refine lnl eD ⟨c,3,_,rfl,∅,(by rw[e];exact z),λm2 H5 n0 n1 s5=>?_⟩;rw[e]at n1;obtain⟨x,hx,_,ha⟩:=mz (λi=>V.str (g.N i)) n0 n1;exact lix (SqL.of (s5 _ _ eD)) ha ⟨by show 3<=sizeLine;decide,λp hp=>q p (.atl x t) _ ((z3.trans s5).trans (ao.upd hp _)) (new s5 hp) aj ⟨F.sub x hx,ht⟩⟩
end
section
variable{P:Program}{w:O7}{K:OZ}{mg:Str->Option OX}{base:Pk}{A:Adr}{g:Gc}{d:Gd}{H:Hp}
seal PE PA PS PSs PT PW
structure fI(g:Gc)(d:Gd)(H:Hp)(a:OW)(at_:Nat)(rank aE cost:Int)(fc:Option Int):Prop where
 last:atI (V.ref d.a0::d.as.map V.ref) (-1)=Ve (.ref a)
 fr:H a=Ve (.dK (frK at_ rank aE cost fc))
 mem:a∈d.M g
 nS:a≠g.S
 nR:a≠g.LR
 nO:a≠d.lo
 rk:0<=rank/\rank<=2
 hf:aE=cP 1 d.fz
 hb:1<=aE/\aE<=36
 c0:0<=cost
 lf:fc≠Vf->∃fs f,d.fz=fs++[f]/\f.fc=fc
theorem k7{α:Type}(xs:List α)(x:α):atI (xs++[x]) (-1)=Ve x:=by
 unfold atI ixN;rw[if_neg ∅,if_pos (by simp;omega)];show(xs++[x])[(-1+(((xs++[x]).length:Nat):Int)).toNat]?=Ve x;rw[show(-1+(((xs++[x]).length:Nat):Int)).toNat=xs.length by simp;omega];simp
theorem jw(h:(d.M g).Nodup):g.S≠g.LR/\g.S≠d.lo/\g.LR≠d.lo/\∀a∈d.a0::d.as,a≠g.S/\a≠g.LR/\a≠d.lo:=by
 unfold Gd.M at h;obtain⟨h1,h⟩:=Mx.mp h;obtain⟨h2,h⟩:=Mx.mp h;obtain⟨h3,h⟩:=Mx.mp h;exact⟨λe=>h1 (by rw[e];simp),λe=>h1 (by rw[e];simp),λe=>h2 (by rw[e];simp),λa m=>⟨λe=>h1 (by rw[<-e];simp at m⊢;right;right;exact m),λe=>h2 (by rw[<-e];simp at m⊢;right;exact m),λe=>h3 (by rw[<-e];exact m)⟩⟩
theorem mI{α:Type}(xs:List α):xs=[]\/∃ys y,xs=ys++[y]:=by
 cases h:xs.reverse with
 |nil=>exact .inl (List.reverse_eq_nil_iff.mp h)
 |cons y r=>exact .inr ⟨r.reverse,y,by rw[<-List.reverse_reverse xs,h];simp⟩
theorem nK(h:xs.length=ys.length):(xs++[x]).zip (ys++[y])=xs.zip ys++[(x,y)]:=by
 rw[List.zip_append h];rfl
theorem Paired.wx{α β:Type}{F:α->β->Prop}:∀{xs:List α}{ys:List β}{y:β},Paired F xs (ys++[y])->∃us u,xs=us++[u]/\Paired F us ys/\F u y
 |_,[],_,.cons h .nil=>⟨[],_,rfl,.nil,h⟩
 |_,_::ys,_,.cons h r=>by
  obtain⟨us,u,e,p,q⟩:=Paired.wx (ys:=ys) r;exact⟨_::us,u,by rw[e];rfl,.cons h p,q⟩
theorem qv.wx(dy:qv H g d)(e:d.fz=fs++[f]):∃us a,d.as=us++[a]/\Paired (λa p=>H a=Ve (.dK (fzK p))) us ((ats (d.b g) fs).zip fs)/\H a=Ve (.dK (fzK (d.b g+(bw fs).length,f))):=by
 have h:=dy.hf;rw[e,nC,nK (iq _ _)]at h;exact Paired.wx h
theorem BAt.top(h:BAt g H d)(O:jI g):∃a at_ rank aE cost fc,fI g d H a at_ rank aE cost fc:=by
 obtain⟨n1,n2,n3,n4⟩:=jw h.ok.nd;rcases mI d.fz with e|⟨fs,f,e⟩
 ·have hf:=h.dy.hf;rw[e]at hf;have ha:d.as=[]:=by
   cases ha:d.as with
   |nil=>rfl
   |cons a r=>rw[ha]at hf;cases hf
  obtain⟨m1,m2,m3⟩:=n4 d.a0 Mg;exact⟨d.a0,0,g.br,1,d.bc,Vf,⟨by rw[ha];exact k7 [] _,h.dy.h0,in0 g d,m1,m2,m3,O.br,by rw[e];rfl,⟨∅,∅⟩,h.ok.bc,λz=>absurd rfl z⟩⟩
 obtain⟨us,a,ea,p,fa⟩:=h.dy.wx e;have ma:a∈d.as:=by rw[ea];simp
 obtain⟨m1,m2,m3⟩:=n4 a (Mi _ ma);have mf:f∈d.fz:=by rw[e];simp
 have F:=h.ok.fz f mf;have hh:=h.ok.hf;rw[e]at hh;refine⟨a,_,f.rank,f.aE,f.cost,f.fc,⟨?_,fa,inA g d ma,m1,m2,m3,F.rank,?_,h.ok.h36 f mf,F.cost,λ_=>⟨fs,f,e,rfl⟩⟩⟩
 ·rw[ea,MI];exact k7 (V.ref d.a0::us.map V.ref) _
 rw[e,fY];exact hh.inv.2
noncomputable def gy(H:Hp)(g:Gc)(d:Gd)(v:V)(n:Int)(a:OW)(at_:Nat)(rank aE cost:Int)(fc:Option Int):Hp:=upd (upd (upd H g.S (.dK (stK g { d with spent:=d.spent+aE*n }))) g.LR (.lst (d.rows++[v]))) a (.dK (frK at_ rank aE (cost+1) fc))
inductive wO(vs:List V)(H:Hp)(Q:VK)(Z:XK):Prop
 |mk(g:Gc)(d:Gd)(v:V)(n:Int)(a:OW)(at_:Nat)(rank aE cost:Int)(fc:Option Int):vs=[.ref g.S,v,.int n]->qv H g d->(d.M g).Nodup->d.rows.length<=1000->fI g d H a at_ rank aE cost fc->Q (.bl false) H->(d.spent+aE*n<=g.lim->Q (.bl true) (gy H g d v n a at_ rank aE cost fc))->wO vs H Q Z
theorem xA(T:Txt K mg A):T.vO.Hz P w base 1 wO:=by
 refine T.vO.hs tI (λf cdv A' outer s H vs Q E hr hu h=>?_);obtain⟨g,d,v,n,a,at_,rank,aE,cost,fc,rfl,dy,nd,rl,T1,q1,q2⟩:=h;obtain⟨n1,n2,n3,n4⟩:=jw nd;refine⟨_,(ab (pst 3 tI.nd (px hu (px hu (fv 0) ak) (iW fq ae)))
 (ab (aP (ptc rR (ax bo (px hu (fv 0) ak) (ax dw (px hu (fv 3) ak) (fv 2))) (px hu (fv 0) ak))
  (ah (aA lL))
  aD)
 (ab (bA (ax bo (px hu (fv 0) ak) (ax dw (px hu (fv 3) ak) (fv 2))) (bz (fv 0) ak (bB hu Vi)))
 (ab (aK (cN (px hu (fv 0) ak) (fv 1^af)))
 (ab (bA (ax bo (px hu (fv 3) ak) ae) (bz (fv 3) ak (bB hu Vi)))
 (ah (aA lL))))))),?_⟩
 refine dgk dy.hS rfl ⟨_,rfl,(lix (SqL.of dy.hO) T1.last ?_)⟩;try dsimp only
 refine aq λM1 K1=>dgk dy.hS rfl (dgk T1.fr rfl ⟨.inl ⟨by have:=T1.hb;omega,by have:=T1.hb;omega⟩,dgk dy.hS rfl ⟨_,rfl,ba (λ_=>q1) (λc=>K1 _ _ ?_)⟩⟩);have c:¬ g.lim<d.spent+aE*n:=λz=>c (decide_eq_true z);have q2:=q2 ();try dsimp only
 refine aq λM2 K2=>dgk dy.hS rfl (dgk T1.fr rfl ⟨.inl ⟨by have:=T1.hb;omega,by have:=T1.hb;omega⟩,_,cW.k (k:=.inr "spent") dy.hS (show 13<sizeLine by decide),K2 _ _ ?_⟩);unfold gy at q2;rw[show Vj (stK g d) (.inr "spent") (.int (d.spent+aE*n))=stK g { d with spent:=d.spent+aE*n }from rfl];have hS1:upd H g.S (.dK (stK g { d with spent:=d.spent+aE*n })) g.S=Ve (.dK (stK g { d with spent:=d.spent+aE*n })):=aj;have hR1:upd H g.S (.dK (stK g { d with spent:=d.spent+aE*n })) g.LR=Ve (.lst d.rows):=ag n1.symm dy.hR;have hF1:upd H g.S (.dK (stK g { d with spent:=d.spent+aE*n })) a=Ve (.dK (frK at_ rank aE cost fc)):=ag T1.nS T1.fr;generalize upd H g.S (.dK (stK g { d with spent:=d.spent+aE*n }))=H1 at hS1 hR1 hF1 q2⊢;try dsimp only
 refine aq λM3 K3=>dgk hS1 rfl ⟨Mt ⟨rfl,_,SqL.of hR1⟩,_,_,_,rfl,rfl,hR1,ay rl,?_⟩;have hF2:upd H1 g.LR (.lst (d.rows++[v])) a=Ve (.dK (frK at_ rank aE cost fc)):=ag T1.nR hF1;generalize upd H1 g.LR (.lst (d.rows++[v]))=H2 at hF2 q2⊢;refine K3 _ _ ?_;try dsimp only
 exact dgk hF2 rfl ⟨_,cW.k (k:=.inr "cost") hF2 (show 5<sizeLine by decide),q2⟩
end
section
variable{P:Program}{w:O7}{K:OZ}{mg:Str->Option OX}{base:Pk}{A:Adr}{g:Gc}{d:Gd}{H:Hp}
noncomputable def mu(g:Gc)(d:Gd):Nat:=(d.lrs g).length+2*d.fz.length
theorem Df(h:Ic a=Ic b):a=b:=by
 cases a with
 |none=>cases b with
  |none=>rfl
  |some n=>cases h
 |some m=>cases b with
  |none=>cases h
  |some n=>cases h;rfl
theorem Bl(h:frK a r1 h1 c1 f1=frK b r2 h2 c2 f2):a=b/\r1=r2/\h1=h2/\c1=c2/\f1=f2:=by
 unfold frK at h;simp only[List.cons.injEq,Prod.mk.injEq,V.int.injEq,true_and,and_true]at h;obtain⟨e1,e2,e3,e4,e5⟩:=h;exact⟨(),e2,e3,e4,Df e5⟩
theorem EM(h:H a=Ve (.dK k1))(h':H a=Ve (.dK k2)):k1=k2:=by
 rw[h]at h';exact HO.dK.inj (O1 h')
theorem fI.cases(h:qv H g d)(T:fI g d H a at_ rank aE cost fc):(d.fz=[]/\d.as=[]/\a=d.a0/\at_=0/\rank=g.br/\aE=1/\cost=d.bc/\fc=Vf)\/∃fs f us,d.fz=fs++[f]/\d.as=us++[a]/\Paired (λa p=>H a=Ve (.dK (fzK p))) us ((ats (d.b g) fs).zip fs)/\at_=d.b g+(bw fs).length/\rank=f.rank/\aE=f.aE/\cost=f.cost/\fc=f.fc:=by
 rcases mI d.fz with e|⟨fs,f,e⟩
 ·have hf:=h.hf;rw[e]at hf;have ha:d.as=[]:=by
   cases ha:d.as with
   |nil=>rfl
   |cons a r=>rw[ha]at hf;cases hf
  have l:=T.last;rw[ha]at l;have l2:=k7 ([]:List V) (.ref d.a0);have e0:a=d.a0:=by
   have:=l.symm.trans l2;cases this;rfl
  subst e0;obtain⟨a1,a2,a3,a4,a5⟩:=Bl (EM T.fr h.h0);exact .inl ⟨e,ha,rfl,a1,a2,a3,a4,a5⟩
 obtain⟨us,a',ea,p,fa⟩:=h.wx e;have l:=T.last;rw[ea,MI]at l;have l2:=k7 (V.ref d.a0::us.map V.ref) (.ref a');have e0:a=a':=by
  have:=l.symm.trans l2;cases this;rfl
 subst e0;obtain⟨a1,a2,a3,a4,a5⟩:=Bl (EM T.fr fa);exact .inr ⟨fs,f,us,e,ea,p,a1,a2,a3,a4,a5⟩
variable{v:V}{r:Lr}{n:Int}{a:OW}{at_:Nat}{rank aE cost:Int}{fc:Option Int}
theorem Ho(T:fI g d H a at_ rank aE cost fc)(nd:(d.M g).Nodup):gy H g d v n a at_ rank aE cost fc g.S=Ve (.dK (stK g { d with spent:=d.spent+aE*n })):=by
 unfold gy;rw[aw T.nS.symm,aw (jw nd).1,aj]
theorem Jp(T:fI g d H a at_ rank aE cost fc):gy H g d v n a at_ rank aE cost fc g.LR=Ve (.lst (d.rows++[v])):=by
 unfold gy;rw[aw T.nR.symm,aj]
theorem vR:gy H g d v n a at_ rank aE cost fc a=Ve (.dK (frK at_ rank aE (cost+1) fc)):=aj
theorem xg(h1:x≠g.S)(h2:x≠g.LR)(h3:x≠a):gy H g d v n a at_ rank aE cost fc x=H x:=by
 unfold gy;rw[aw h3,aw h2,aw h1]
theorem pI(T:fI g d H a at_ rank aE cost fc):Go (d.M g) H (d.M g) (gy H g d v n a at_ rank aE cost fc):=((Go.at (inS g d) _).trans (Go.at (inR g d) _)).trans (Go.at T.mem _)
theorem xE(h:(d.M g).Nodup):d.a0∉d.as/\d.as.Nodup:=by
 unfold Gd.M at h;obtain⟨_,h⟩:=Mx.mp h;obtain⟨_,h⟩:=Mx.mp h;obtain⟨_,h⟩:=Mx.mp h;obtain⟨h4,h5⟩:=Mx.mp h;exact⟨h4,h5⟩
theorem Paired.xM{α β:Type}{F G:α->β->Prop}:∀{xs:List α}{ys:List β},Paired F xs ys->(∀x∈xs,∀y,F x y->G x y)->Paired G xs ys
 |_,_,.nil,_=>.nil
 |_,_,.cons h r,k=>.cons (k _ Mg _ h) (Paired.xM r λx m=>k x (Mi _ m))
theorem BAt.add(h:BAt g H d)(O:jI g)(T:fI g d H a at_ rank aE cost fc)(hv:bX g.N (del (d.M g) H) v r)(ok:r.ok g.ns g.tg g.dd)(c:uh g.dd r<=n)(n0:0<=n)(fit:d.spent+aE*n<=g.lim)(m3:mu g d+3<=1000) :
  ∃d':Gd,d'.M g=d.M g/\BAt g (gy H g d v n a at_ rank aE cost fc) d'/\mu g d'<=mu g d+3/\d'.fz.length=d.fz.length/\fI g d' (gy H g d v n a at_ rank aE cost fc) a at_ rank aE (cost+1) fc/\d'.marks=d.marks:=by
 have nd:=h.ok.nd
 obtain⟨n1,n2,n3,n4⟩:=jw nd
 obtain⟨nd1,nd2⟩:=xE nd
 have go:=pI (v:=v) (n:=n) T
 have hS:=Ho (v:=v) (n:=n) T nd
 have hR:=Jp (v:=v) (n:=n) T
 have hO:gy H g d v n a at_ rank aE cost fc d.lo=Ve (.lst (.ref d.a0::d.as.map V.ref)):=by rw[xg n2.symm n3.symm T.nO.symm];exact h.dy.hO
 have hb:=T.hb
 have ht:aE*uh g.dd r<=aE*n:=MM c ()
 have h0:0<=aE*n:=MT () n0
 have rows:Paired (bX g.N (del (d.M g) (gy H g d v n a at_ rank aE cost fc))) (d.rows++[v]) (d.lrs g++[r]):=Pm (hv.same go.same) (Paired.cI h.hr λ_ _=>bX.same go.same)
 have sp:=h.ok.sp
 unfold mu at m3⊢
 rcases T.cases h.dy with⟨ez,eas,ea,et,er,eh,ec,ef⟩|⟨fs,f,us,ez,eas,pu,et,er,eh,ec,ef⟩
 ·have lr:Gd.lrs g { d with rows:=d.rows++[v],spent:=d.spent+aE*n,bs:=d.bs++[.leaf r],bc:=d.bc+1 }=d.lrs g++[r]:=by
   unfold Gd.lrs;dsimp only;rw[ez,nB];simp[bw,aZ,flat]
  have h0':gy H g d v n a at_ rank aE cost fc d.a0=Ve (.dK (frK 0 g.br 1 (d.bc+1) Vf)):=by rw[ea]at *;rw[vR,et,er,eh,ec,ef]
  have len:(d.lrs g++[r]).length=(d.lrs g).length+1:=by simp
  have B:BAt g (gy H g d v n a at_ rank aE cost fc) { d with rows:=d.rows++[v],spent:=d.spent+aE*n,bs:=d.bs++[.leaf r],bc:=d.bc+1 }:=by
   refine h.go (d':={ d with rows:=d.rows++[v],spent:=d.spent+aE*n,bs:=d.bs++[.leaf r],bc:=d.bc+1 }) go ⟨hS,hR,hO,h0',?_⟩ ⟨nd,h.ok.mks,h.ok.ml,nI h.ok.bs ⟨ok,MO⟩,by have:=h.ok.bc;show 0<=d.bc+1;omega,h.ok.fz,h.ok.fl,h.ok.hf,h.ok.h36,λe=>?_,⟨by show 0<=d.spent+aE*n;omega,.inl fit⟩,?_,⟨pJ h.ok.dp.1 (by unfold dT;decide),h.ok.dp.2⟩⟩ (go.same _ _ h.hm) (by rw[lr];exact rows)
   ·dsimp only;rw[ez,eas];exact .nil
   ·have:=h.ok.pay e;dsimp only;rw[nJ];simp only[cJ,oW];rw[eh]at ht⊢;omega
   rw[lr,len];dsimp only;omega
  refine⟨{ d with rows:=d.rows++[v],spent:=d.spent+aE*n,bs:=d.bs++[.leaf r],bc:=d.bc+1 },rfl,B,?_,rfl,⟨?_,vR,T.mem,T.nS,T.nR,T.nO,T.rk,T.hf,T.hb,by have:=T.c0;omega,λz=>absurd ef z⟩,rfl⟩
  ·rw[lr,len];dsimp only;omega
  exact T.last
 have lr:Gd.lrs g { d with rows:=d.rows++[v],spent:=d.spent+aE*n,fz:=fs++[{ f with rows:=f.rows++[.leaf r],cost:=f.cost+1 }] }=d.lrs g++[r]:=by
  unfold Gd.lrs;dsimp only;rw[ez,dC,dC];simp[bw,aZ,flat,Fz.op,Fz.gW,nB]
 have len:(d.lrs g++[r]).length=(d.lrs g).length+1:=by simp
 have hh:=h.ok.hf
 rw[ez]at hh
 have F:=h.ok.fz f (by rw[ez];simp)
 have f36:=h.ok.h36 f (by rw[ez];simp)
 have fl:=h.ok.fl
 rw[ez,Mn]at fl
 have di:=h.ok.dp.2
 rw[ez]at di
 have di:=di.inv
 have a0a:d.a0≠a:=λz=>nd1 (by rw[z,eas];simp)
 have ua:∀x∈us,x≠a:=λx hx z=>by
  rw[eas]at nd2;exact(MP.mp nd2).2.2 x hx a (by simp) z
 have um:∀x∈us,x∈d.a0::d.as:=λx hx=>by rw[eas];simp[hx]
 have B:BAt g (gy H g d v n a at_ rank aE cost fc) { d with rows:=d.rows++[v],spent:=d.spent+aE*n,fz:=fs++[{ f with rows:=f.rows++[.leaf r],cost:=f.cost+1 }] }:=by
  refine h.go (d':={ d with rows:=d.rows++[v],spent:=d.spent+aE*n,fz:=fs++[{ f with rows:=f.rows++[.leaf r],cost:=f.cost+1 }] }) go ⟨hS,hR,hO,?_,?_⟩ ⟨nd,h.ok.mks,h.ok.ml,h.ok.bs,h.ok.bc,λx hx=>?_,?_,?_,λx hx=>?_,λe=>?_,⟨by show 0<=d.spent+aE*n;omega,.inl fit⟩,?_,⟨h.ok.dp.1,oQ.app di.1 (pJ di.2.1 (by unfold dT;rw[MS]at fl;omega)) di.2.2⟩⟩ (go.same _ _ h.hm) (by rw[lr];exact rows)
  ·have m:=n4 d.a0 Mg;rw[xg m.1 m.2.1 a0a];exact h.dy.h0
  ·dsimp only[Gd.b];rw[eas,nC,nK (iq _ _)];refine Pm ?_ (Paired.xM pu λx hx y e=>?_)
   ·rw[vR,et,er,eh,ec,ef];rfl
   have m:=n4 x (um x hx);rw[xg m.1 m.2.1 (ua x hx)];exact e
  ·rcases Mp.mp hx with hx|hx
   ·exact h.ok.fz x (by rw[ez];simp[hx])
   rw[Mq.mp hx];exact⟨F.bk,F.l0,F.r0,nI F.rows ⟨ok,MO⟩,F.fst,F.lp,F.fc,F.f0,F.rank,by have:=F.cost;show 0<=f.cost+1;omega⟩
  ·dsimp only;rw[Mn];exact fl
  ·exact kE.app hh.inv.1 hh.inv.2
  ·rcases Mp.mp hx with hx|hx
   ·exact h.ok.h36 x (by rw[ez];simp[hx])
   rw[Mq.mp hx];exact f36
  ·have p:=h.ok.pay e;rw[ez,dD]at p;dsimp only;rw[dD];dsimp only;rw[nJ];simp only[cJ,oW];have e2:=hh.inv.2;rw[eh,e2]at ht⊢;omega
  rw[lr,len];dsimp only;rw[ez,Mn]at m3;rw[Mn];simp only[MS]at m3⊢;omega
 refine⟨{ d with rows:=d.rows++[v],spent:=d.spent+aE*n,fz:=fs++[{ f with rows:=f.rows++[.leaf r],cost:=f.cost+1 }] },rfl,B,?_,by dsimp only;rw[ez,Mn,Mn];rfl,⟨T.last,vR,T.mem,T.nS,T.nR,T.nO,T.rk,?_,T.hb,by have:=T.c0;omega,λz=>⟨fs,_,rfl,by dsimp only;rw[ef]⟩⟩,rfl⟩
 ·rw[lr,len];dsimp only;rw[ez,Mn,Mn];simp only[MS];omega
 dsimp only
 rw[fY,T.hf,ez,fY]
end
section
variable{P:Program}{w:O7}{K:OZ}{mg:Str->Option OX}{base:Pk}{A:Adr}{g:Gc}{d:Gd}{H:Hp}
seal PE PA PS PSs PT PW
theorem BAt.mark(h:BAt g H d)(hD:H D=Ve (.lst (nV g.N ms)))(nM:D∉d.M g)(sub:∀m∈ms,m∈d.marks)(len:ms.length<=d.marks.length):BAt g (upd H g.S (.dK (stK g { d with lm:=D,marks:=ms }))) { d with lm:=D,marks:=ms }:=by
 obtain⟨n1,n2,n3,n4⟩:=jw h.ok.nd;have go:Go (d.M g) H (d.M g) (upd H g.S (.dK (stK g { d with lm:=D,marks:=ms }))):=Go.at (inS g d) _;have ml:=h.ok.ml;refine h.go (d':={ d with lm:=D,marks:=ms }) go ⟨aj,ag n1.symm h.dy.hR,ag n2.symm h.dy.hO,ag (n4 _ Mg).1 h.dy.h0,Paired.xM h.dy.hf λx hx y e=>ag (n4 x (Mi _ hx)).1 e⟩ ⟨h.ok.nd,λm hm=>h.ok.mks m (sub m hm),by show ms.length<=2;omega,h.ok.bs,h.ok.bc,h.ok.fz,h.ok.fl,h.ok.hf,h.ok.h36,h.ok.pay,h.ok.sp,h.ok.rl,h.ok.dp⟩ ?_ (Paired.cI h.hr λ_ _=>bX.same go.same);exact aQ nM (ag (λz:D=g.S=>nM (by rw[z];exact inS g d)) hD)
def CQ(g:Gc)(d:Gd)(H:Hp)(Q:VK)(u:V):Prop:=∀(d':Gd)(H':Hp),Go (d.M g) H (d'.M g) H'->BAt g H' d'->mu g d'<=mu g d+3->Q u H'
theorem BAt.free(h:BAt g H d)(e:H x=Vf):x∉d.M g:=λm=>h.al x m e
theorem BAt.new(h:BAt g H d)(z:ao H H')(e:H x=Vf)(e':H' x=Ve o):del (d.M g) H' x=Ve o:=aQ (h.free e) e'
inductive AR(K:OZ)(vs:List V)(H:Hp)(Q:VK)(Z:XK):Prop
 |mk(g:Gc)(d:Gd)(c:Int)(lo:Bool):vs=[.ref g.S,.int c,.bl lo]->jI g->BAt g H d->mu g d+3<=1000->(∀H',ao H H'->Q (.bl false) H')->CQ g d H Q (.bl true)->AR K vs H Q Z
theorem IU(T:Txt K mg A):T.sZ.Hz P w base 4 (AR K):=by
 refine T.sZ.hs (k:=3) gU (λf cdv A' outer s H vs Q E hr hu h=>?_);obtain⟨g,d,c,lo,rfl,O,B,m3,q1,q2⟩:=h;obtain⟨a,at_,rank,aE,cost,fc,T1⟩:=B.top O;have vb:∀j∈g.vk,j<25:=λj hj=>(O.vb j hj).1;have mv:∀m∈d.marks,m∈g.vk/\m∈[11,12]:=λm hm=>⟨O.cv m (EZ.1 m (B.ok.mks m hm)),B.ok.mks m hm⟩;have ml:=B.ok.ml;refine⟨_,(ab (pst 3 gU.nd (ar (uT T) hr (fv 0^px hu (fv 0) ak^fv 2^px hu (px hu (px hu (fv 0) ak) (iW fq ae)) ak^ae^af)))
 (ab (aP (ptc (bh hu) (pcB bQ T.cB (fv 3^af)) ae)
  (ah (aA lL))
  aD)
 (ab (pst 4 gU.nd (px hu (fv 3) (ar (mE T) hr (fv 1^ae^pcB bQ T.cB (fv 3^af)^af))))
 (ab (pst 5 gU.nd (ar (uT T) hr (fv 0^px hu (fv 0) ak^fv 2^px hu (px hu (fv 0) ak) (fv 4)^ae^af)))
 (ab (pst 6 gU.nd (px hu (fv 5) (ar (mE T) hr (fv 1^ae^pcB bQ T.cB (fv 5^af)^af))))
 (ab (aP (bR (ar (xA T) hr (fv 0^bf (ak^fv 6^ar (wq T) hr (fv 0^fv 1^ae^af)^fv 4^af)^ae^af)) (λ_=>rfl))
  (ah (bA (gJ (N:=["_law_one","_law_mark"]) (own:=1) (fr:=[4]) (cG.of (by kernel_rfl!)) rfl (cA (px hu (fv 0) ak)) (λb=>pgn (i:=0) (show PC (["_law_one","_law_mark"]:List PU) by decide+kernel) rfl) (λb=>lj (ptc (BH hu) (fv 0) (fv 1))) (λb=>fv 0)) (bz (fv 0) ak (bB hu Vi))))
  aD)
 (ah (aA lL)))))))),?_⟩
 refine dgk B.dy.hS rfl (dgk B.dy.hS rfl ⟨_,rfl,(lix (SqL.of B.dy.hO) T1.last (dgk T1.fr rfl ⟨g,d,d.lm,lo,rank,2,d.marks,rfl,O,B,SqL.of (aC _ _ B.hm),(λi hi=>(mv i hi).1),(),λD ys H1 s1 hD eD F=>?_⟩))⟩);have B1:=B.same s1;have e:(((nV g.N ys).length:Nat):Int)=(ys.length:Int):=by rw[Mj]
 try dsimp only
 refine aq λM1 K1=>lnl eD ⟨rfl,_,rfl,ba (λ_=>q1 _ s1) (λz=>?_)⟩;have y0:0<ys.length:=by
  rw[qq,decide_eq_true_iff,e]at z;omega
 refine K1 _ _ ?_;try dsimp only
 refine aq λM2 K2=>lnl eD ⟨c,5,_,rfl,∅,(by rw[e];omega),λk1 H2 a0 a1 s2=>?_⟩;rw[e]at a1;obtain⟨mk,hmk,_,ha⟩:=mz (λi=>V.str (g.N i)) a0 a1;refine lix (SqL.of (s2 _ _ eD)) ha (K2 _ _ ?_);have B2:=B1.same s2;have mkm:=F.sub mk hmk;have mkv:=(mv mk mkm).1;try dsimp only
 refine aq λM3 K3=>dgk B2.dy.hS rfl (dgk B2.dy.hS rfl ⟨_,mK O.D (.inl (aC _ _ B2.st.hv)) vb mkv,⟨g,d,g.LT,lo,g.vw mk,2,g.tg,rfl,O,B2,SqL.of (aC _ _ B2.st.ht),O.tv,by have:=O.tl;omega,λD3 zs H3 s3 hD3 eD3 F3=>K3 _ _ ?_⟩⟩);have e3:(((nV g.N zs).length:Nat):Int)=(zs.length:Int):=by rw[Mj]
 have z9:9∈zs:=F3.has 9 O.t9 (by rw[O.v9];exact(O.vb mk mkv).2.2) (by rw[O.v9];decide);have z0:0<zs.length:=OD.mpr λe=>by rw[e]at z9;cases z9
 have B3:=B2.same s3;try dsimp only
 refine aq λM4 K4=>lnl eD3 ⟨c,0,_,rfl,∅,(by rw[e3];omega),λk2 H4 b0 b1 s4=>?_⟩;rw[e3]at b1;obtain⟨x,hx,_,hax⟩:=mz (λi=>V.str (g.N i)) b0 b1;refine lix (SqL.of (s4 _ _ eD3)) hax (K4 _ _ ?_);have B4:=B3.same s4;have t4:=((s1.trans s2).trans s3).trans s4;have xt:=F3.sub x hx;try dsimp only
 refine aq λM5 K5=>⟨g,d,c,2,rfl,O,B4,λp val H5 s5 hp ep hv=>?_⟩;have B5:=B4.same s5;refine⟨by show 4<=sizeLine;decide,λr hr'=>?_⟩;have s6:=ao.upd hr' (HO.tup [V.str "say",.str (g.N x),.ref p,.str (g.N mk)]);have e6:upd H5 r (HO.tup [V.str "say",.str (g.N x),.ref p,.str (g.N mk)]) r=Ve (.tup [V.str "say",.str (g.N x),.ref p,.str (g.N mk)]):=aj;generalize upd H5 r (HO.tup [V.str "say",.str (g.N x),.ref p,.str (g.N mk)])=H6 at s6 e6⊢;have B6:=B5.same s6;have t6:=(t4.trans s5).trans s6;have T6:fI g d H6 a at_ rank aE cost fc:=⟨T1.last,t6 _ _ T1.fr,T1.mem,T1.nS,T1.nR,T1.nO,T1.rk,T1.hf,T1.hb,T1.c0,T1.lf⟩;have hrow:bX g.N (del (d.M g) H6) (.ref r) (.say x val mk):=⟨r,p,rfl,B5.new s6 hr' e6,λo ho=>by
  cases ho;exact B4.new (s5.trans s6) hp (s6 _ _ ep)⟩
 have go6:Go (d.M g) H (d.M g) H6:=Go.new t6;have rl:d.rows.length<=1000:=by
  have:=O3 B6.hr;unfold mu at m3;omega
 refine⟨g,d,.ref r,1,a,at_,rank,aE,cost,fc,rfl,B6.dy,B6.ok.nd,rl,T6,⟨false,rfl,bu (K5 _ _ (q2 d H6 go6 B6 ()))⟩,λfit=>⟨true,rfl,dz ?_⟩⟩;obtain⟨d7,M7,B7,mu7,_,_,mk7⟩:=B6.add O T6 hrow (show x∈g.tg/\val.ok g.ns/\mk∈[11,12]from⟨xt,hv,(mv mk mkm).2⟩) (show(1:Int)<=1 from MF _) ∅ fit m3;have go7:Go (d.M g) H (d7.M g) (gy H6 g d (.ref r) 1 a at_ rank aE cost fc):=by
  rw[M7];exact go6.trans (pI T6)
 generalize gy H6 g d (.ref r) 1 a at_ rank aE cost fc=H7 at B7 go7⊢;have hm7:=aC _ _ B7.hm;have ml7:=B7.ok.ml;refine dgk B7.dy.hS rfl (Mt ⟨⟨_,SqL.of hm7⟩,fA (K:=K) (λv=>!decide (v=.str (g.N mk))) (λx=>x) (SqL.of hm7) (ay (by rw[Mj];omega)) (λb' x H2 R hm s2 k=>?_) (λb' x H2 R hm hp s2 k=>k _ (ao.refl _)) (λD8 H8 hD8 s8 e8=>?_)⟩)
 ·obtain⟨i,_,rfl⟩:=Mz.mp hm;exact⟨rfl,_,rfl,k _ (ao.refl _)⟩
 rw[Ox,Ov]at e8;have B8:=B7.same s8;refine⟨_,cW.k (k:=.inr "marks") B8.dy.hS (show 13<sizeLine by decide),K5 _ _ ?_⟩;have B9:=B8.mark e8 (B7.free hD8) (λm hm=>(MY.mp hm).1) (Nd _ _);exact q2 { d7 with lm:=D8,marks:=d7.marks.filter ((λv=>!decide (v=V.str (g.N mk)))∘λi=>V.str (g.N i)) } _ (go7.trans ((Go.new s8).trans (Go.at (inS g d7) _))) B9 mu7
noncomputable def b01(b:Bool):Int:=if b=true then 1 else 0
theorem JN(x y:V)(b:Bool):atI [x,y] (b01 b)=Ve (if b=true then y else x):=by cases b<;>rfl
theorem fI.same(T:fI g d H a at_ rank aE cost fc)(s:ao H H'):fI g d H' a at_ rank aE cost fc:=⟨T.last,s _ _ T.fr,T.mem,T.nS,T.nR,T.nO,T.rk,T.hf,T.hb,T.c0,T.lf⟩
theorem yp(O:jI g){H':Hp}{r:Lr}{v:V}{n:Int}{Q:VK}{a:OW}{at_:Nat}{rank aE cost:Int}{fc:Option Int}(B:BAt g H' d)(go:Go (d.M g) H (d.M g) H')(m3:mu g d+3<=1000)(T1:fI g d H' a at_ rank aE cost fc)(hv:bX g.N (del (d.M g) H') v r)(ok:r.ok g.ns g.tg g.dd)(c:uh g.dd r<=n)(n0:0<=n)
  (q1:Q (.bl false) H') (q2:∀d',d'.M g=d.M g->BAt g (gy H' g d v n a at_ rank aE cost fc) d'->mu g d'<=mu g d+3->fI g d' (gy H' g d v n a at_ rank aE cost fc) a at_ rank aE (cost+1) fc->Q (.bl true) (gy H' g d v n a at_ rank aE cost fc)):wO [.ref g.S,v,.int n] H' Q E0:=by
 have rl:d.rows.length<=1000:=by
  have:=O3 B.hr;unfold mu at m3;omega
 refine⟨g,d,v,n,a,at_,rank,aE,cost,fc,rfl,B.dy,B.ok.nd,rl,T1,q1,λfit=>?_⟩
 obtain⟨d',M',B',mu',_,T',_⟩:=B.add O T1 hv ok c n0 fit m3
 exact q2 d' M' B' mu' T'
inductive o9(K:OZ)(vs:List V)(H:Hp)(Q:VK)(Z:XK):Prop
 |mk(g:Gc)(d:Gd)(c k:Int)(lo:Bool):vs=[.ref g.S,.int c,.int k,.bl lo]->jI g->BAt g H d->mu g d+3<=1000->CQ g d H Q .non->o9 K vs H Q Z
theorem rF(T:Txt K mg A):T.ql.Hz P w base 5 (o9 K):=by
 refine T.ql.hs (k:=4) cC (λf cdv A' outer s H vs Q E hr hu h=>?_);obtain⟨g,d,c,k,lo,rfl,O,B,m3,q⟩:=h;obtain⟨a,at_,rank,aE,cost,fc,T1⟩:=B.top O;have vb:∀j∈g.vk,j<25:=λj hj=>(O.vb j hj).1;refine⟨_,(ab (pst 4 cC.nd (px hu (px hu (px hu (fv 0) ak) (iW fq ae)) ak))
 (ab (aP (PW.pt (pw_and (ptc (bh hu) (fv 2) ae) (pw_and1 (bR (ar (IU T) hr (fv 0^fv 1^fv 3^af)) (λ_=>rfl)))))
  (ah (xn))
  aD)
 (ab (pst 5 cC.nd (px hu (bI (ak^ak^af)) (pcT qu T.oe ((pec (CU hu) (fv 2) (bf (ae^ae^af)) ((by with_unfolding_all rfl)))^af))))
 (ab (pst 6 cC.nd (ar (uT T) hr (fv 0^(px hu (bI (px hu (fv 0) ak^px hu (fv 0) ak^af)) (pcT qu T.oe ((pec (CU hu) (fv 2) (bf (ae^ae^af)) ((by with_unfolding_all rfl)))^af)))^fv 3^fv 4^ae^af)))
 (ab (pst 7 cC.nd (px hu (fv 6) (ar (mE T) hr (fv 1^ae^pcB bQ T.cB (fv 6^af)^af))))
 (ab (aP (PW.pt (pw_and (ptc (bh hu) (fv 2) ae) (pw_and1 (PW.pt (pw_or (bR (fv 3) (λ_=>rfl)) (pw_or1 (ptc LK (px hu (px hu (fv 0) ak) (px hu (px hu (fv 0) ak) ae)) (fv 4))))))))
  (ab (pst 5 cC.nd ak)
  (ah (pst 7 cC.nd (px hu (px hu (fv 0) ak) ae))))
  aD)
 (ab (pst 8 cC.nd (px hu (bI (px hu (px hu (fv 0) ak) (fv 7)^ae^af)) (pcT qu T.oe (fv 3^af))))
 (ab (pst 9 cC.nd (bf (fv 5^fv 7^ar (wq T) hr (fv 0^fv 1^fv 8^af)^af)))
 (ab (aP (ptc (bh hu) (fv 5) ak)
  (ah (pst 9 cC.nd (bf (fv 5^fv 7^ar (oX T) hr (fv 0^fv 1^ae^fv 8^af)^px hu (fv 9) ae^af))))
  aD)
 (ah (aK (ar (xA T) hr (fv 0^fv 9^ae^af))))))))))))),?_⟩
 refine dgk B.dy.hS rfl ⟨_,rfl,(lix (SqL.of B.dy.hO) T1.last (dgk T1.fr rfl ?_))⟩;try dsimp only
 refine aq λM1 K1=>?_;have main:∀H1,ao H H1->M1 [Ve (.ref g.S),Ve (.int c),Ve (.int k),Ve (.bl lo),Ve (.int rank),Vf,Vf,Vf,Vf,Vf] H1:=λH1 s1=>K1 _ _ (by
  have B1:=B.same s1;obtain⟨b,hb⟩:∃b:Bool,inV (.int k) [.int 5,.int 6]=b:=⟨_,rfl⟩;refine aq λM2 K2=>⟨by show 2<=sizeLine;decide,λl hl=>?_⟩;obtain⟨s2,e2⟩:=alc hl (HO.lst [V.str "set",.str "send"]);generalize upd H1 l _=H2 at s2 e2⊢;refine⟨by show 2<=sizeLine;decide,λt ht=>?_⟩;obtain⟨s3,e3⟩:=alc ht (HO.tup [V.int 5,.int 6]);generalize upd H2 t _=H3 at s3 e3⊢;refine Mt ⟨_,MJ (SqT.of e3),rfl,rfl,_,rfl,(lix (SqL.of (s3 _ _ e2)) ((congrArg (λz=>atI [V.str "set",.str "send"] (b01 z)) hb).trans (JN _ _ b)) (K2 _ _ ?_))⟩;have B3:=(B1.same s2).same s3;have t3:=(s1.trans s2).trans s3;clear s2 s3 e2 e3 hl ht B1 s1;try dsimp only
  refine aq λM3 K3=>dgk B3.dy.hS rfl (dgk B3.dy.hS rfl ⟨by show 2<=sizeLine;decide,λl hl=>?_⟩);obtain⟨s4,e4⟩:=alc hl (HO.lst [V.ref g.LT,.ref g.LH]);generalize upd H3 l _=H4 at s4 e4⊢;refine⟨by show 2<=sizeLine;decide,λt ht=>?_⟩;obtain⟨s5,e5⟩:=alc ht (HO.tup [V.int 5,.int 6]);generalize upd H4 t _=H5 at s5 e5⊢;refine Mt ⟨_,MJ (SqT.of e5),rfl,rfl,_,rfl,(lix (SqL.of (s5 _ _ e4)) ((congrArg (λz=>atI [V.ref g.LT,.ref g.LH] (b01 z)) hb).trans (JN _ _ b)) ?_)⟩;have B5:=(B3.same s4).same s5;have t5:=(t3.trans s4).trans s5;have lt:∃(l':OW)(xs:List Nat),(if b=true then V.ref g.LH else V.ref g.LT)=.ref l'/\SqL K H5 l' (nV g.N xs)/\(∀i∈xs,i∈g.vk)/\xs.length<=1000/\(∃i∈xs,g.vw i=2)/\∀i∈xs,if b=true then i∈[0,1,2]else i∈g.tg:=by
   cases b with
   |true=>exact⟨g.LH,[0,1,2],rfl,SqL.of (aC _ _ B5.st.hh),λi hi=>O.cv i (EZ.2.2 i hi),∅,⟨2,∅,O.v2⟩,λi hi=>hi⟩
   |false=>exact⟨g.LT,g.tg,rfl,SqL.of (aC _ _ B5.st.ht),O.tv,by have:=O.tl;omega,⟨9,O.t9,O.v9⟩,λi hi=>hi⟩
  obtain⟨l',xs,el,hl',xv,xl,⟨i2,hi2,v2⟩,xok⟩:=lt;rw[el];refine⟨g,d,l',lo,rank,2,xs,rfl,O,B5,hl',xv,xl,λD ys H6 s6 hD eD F=>K3 _ _ ?_⟩;have B6:=B5.same s6;have t6:=t5.trans s6;have e:(((nV g.N ys).length:Nat):Int)=(ys.length:Int):=by rw[Mj]
  have y2:i2∈ys:=F.has i2 hi2 (by rw[v2];exact T1.rk.2) (by rw[v2];decide);have y0:0<ys.length:=OD.mpr λe=>by rw[e]at y2;cases y2
  clear s4 s5 e4 e5 hl ht B3 B5 t3 t5 el hl';try dsimp only
  refine aq λM4 K4=>lnl eD ⟨c,0,_,rfl,∅,(by rw[e];omega),λk2 H7 b0 b1 s7=>?_⟩;rw[e]at b1;obtain⟨x,hx,_,hax⟩:=mz (λi=>V.str (g.N i)) b0 b1;refine lix (SqL.of (s7 _ _ eD)) hax (K4 _ _ ?_);have B7:=B6.same s7;have t7:=t6.trans s7;have xo:=xok x (F.sub x hx);have xv':=xv x (F.sub x hx);try dsimp only
  refine aq λM5 K5=>?_;have fin:∀(wd:Str)(y:Nat),y∈g.vk->(wd="put"/\y=10\/wd=(if b=true then("send":Str)else "set")/\y=x)->M5 [Ve (.ref g.S),Ve (.int c),Ve (.int k),Ve (.bl lo),Ve (.int rank),Ve (.str wd),Ve (.ref D),Ve (.str (g.N y)),Vf,Vf] H7:=λwd y yv hw=>K5 _ _ (by
   refine aq λM6 K6=>dgk B7.dy.hS rfl ⟨_,mK O.D (.inl (aC _ _ B7.st.hv)) vb yv,by show 2<=sizeLine;decide,λl hl=>?_⟩;obtain⟨s8,e8⟩:=alc hl (HO.lst [V.int (g.vw y),.int 2]);generalize upd H7 l _=H8 at s8 e8⊢;have ehi:∃hi:Int,atI [V.int (g.vw y),.int 2] (b01 lo)=Ve (.int hi):=by cases lo<;>exact⟨_,rfl⟩
   obtain⟨hi,ehi⟩:=ehi;refine⟨_,rfl,(lix (SqL.of e8) ehi (K6 _ _ ?_))⟩;have B8:=B7.same s8;have t8:=t7.trans s8;try dsimp only
   refine aq λM7 K7=>⟨g,d,c,hi,rfl,O,B8,λp val H9 s9 hp ep hv=>?_⟩;have B9:=B8.same s9;refine⟨by show 3<=sizeLine;decide,λr hr'=>?_⟩;have s10:=ao.upd hr' (HO.tup [V.str wd,.str (g.N y),.ref p]);have e10:upd H9 r (HO.tup [V.str wd,.str (g.N y),.ref p]) r=Ve (.tup [V.str wd,.str (g.N y),.ref p]):=aj;generalize upd H9 r (HO.tup [V.str wd,.str (g.N y),.ref p])=H10 at s10 e10⊢;have B10:=B9.same s10;have t10:=(t8.trans s9).trans s10;have pp:∀{Hz:Hp},ao H10 Hz->del (d.M g) Hz p=Ve (.tup (vV g.N val)):=λz=>B8.new ((s9.trans s10).trans z) hp ((s10.trans z) _ _ ep);refine K7 _ _ ?_;try dsimp only
   refine aq λM8 K8=>?_;have last:∀(H11:Hp)(r':OW)(lr:Lr),ao H10 H11->bX g.N (del (d.M g) H11) (.ref r') lr->lr.ok g.ns g.tg g.dd->uh g.dd lr<=1->M8 [Ve (.ref g.S),Ve (.int c),Ve (.int k),Ve (.bl lo),Ve (.int rank),Ve (.str wd),Ve (.ref D),Ve (.str (g.N y)),Ve (.int hi),Ve (.ref r')] H11:=λH11 r' lr s11 hlr ok cs=>K8 _ _ (by
    have t11:=t10.trans s11;have go:=Go.new (M:=d.M g) t11;refine yp (Q:=λ_ H'=>Q .non H') O (H:=H) (B10.same s11) go m3 (T1.same t11) hlr ok cs ∅ (q d H11 go (B10.same s11) ()) λd' M' B' mu' _=>?_;exact q d' _ (by rw[M'];exact go.trans (pI (T1.same t11))) B' mu')
   refine⟨rfl,_,rfl,ba (λz=>?_) (λz=>?_)⟩
   ·rw[IS,decide_eq_true_iff]at z;refine⟨g,d,c,5,hi,rfl,O,B10,∅,λth H11 s11 hth=>Mt ⟨_,_,MJ (SqT.of (s11 _ _ e10)),rfl,by show 4<=sizeLine;decide,λr2 hr2=>?_⟩⟩;have y10:y=10:=by
     rcases hw with⟨_,z2⟩|⟨z2,_⟩
     ·exact z2
     rw[z]at z2;cases b
     ·exact absurd z2 ∅
     exact absurd z2 ∅
    have s12:=ao.upd hr2 (HO.tup [V.str wd,.str (g.N y),th.v g.N,.ref p]);refine last _ r2 (.put y th val) (s11.trans s12) ⟨r2,p,rfl,(B10.same s11).new s12 hr2 ?_,λo ho=>by cases ho;exact pp (s11.trans s12)⟩ ⟨y10,hth,hv⟩ (MF _);rw[aj,z];rfl
   rw[IS,decide_eq_true_iff]at z;rcases hw with⟨z2,_⟩|⟨z2,zy⟩
   ·exact absurd z2 z
   have hr10:del (d.M g) H10 r=Ve (.tup [V.str wd,.str (g.N y),.ref p]):=B9.new s10 hr' e10;rw[z2]at hr10;subst zy;cases b with
   |true=>exact last H10 r (.snd y val) (ao.refl _) ⟨r,p,rfl,hr10,λo ho=>by cases ho;exact pp (ao.refl _)⟩ ⟨xo,hv⟩ (MF _)
   |false=>exact last H10 r (.set y val) (ao.refl _) ⟨r,p,rfl,hr10,λo ho=>by cases ho;exact pp (ao.refl _)⟩ ⟨xo,hv⟩ (MF _))
  have same:=fin (if b=true then("send":Str)else "set") x xv' (.inr ⟨rfl,rfl⟩);have eqw:(if b=true then V.str "send" else V.str "set")=V.str (if b=true then("send":Str)else "set"):=by cases b<;>rfl
  rw[eqw];have hl7:=SqL.of (K:=K) (aC _ _ B7.st.hl);have put:=fin "put" 10 (O.cv 10 ∅) (.inl ⟨rfl,rfl⟩);refine⟨rfl,_,rfl,ba (λ_=>?_) (λ_=>bu same)⟩;cases lo with
  |true=>exact⟨true,rfl,dz (dz (dgk B7.dy.hS rfl (lix hl7 rfl put)))⟩
  |false=>
   refine⟨false,rfl,bu (dgk B7.dy.hS rfl (dgk B7.dy.hS rfl (lix hl7 rfl ⟨_,mK O.D (.inl (aC _ _ B7.st.hv)) vb (O.cv 10 ∅),_,rfl,ba (λ_=>?_) (λ_=>same)⟩)))⟩;exact(dgk B7.dy.hS rfl (lix hl7 rfl put)))
 refine⟨rfl,_,rfl,ba (λ_=>?_) (λ_=>bu (main _ (ao.refl _)))⟩;refine⟨g,d,c,lo,rfl,O,B,m3,λH1 s1=>⟨false,rfl,bu (main H1 s1)⟩,λd' H' go B' mu'=>⟨true,rfl,dz (q d' H' go B' mu')⟩⟩
end
section
variable{P:Program}{w:O7}{K:OZ}{mg:Str->Option OX}{base:Pk}{A:Adr}{g:Gc}{d:Gd}{H:Hp}
theorem lZ(h:x≠y):upd (upd H x u) y v=upd (upd H y v) x u:=by
 funext z
 by_cases e1:z=x
 ·rw[e1,aw h,aj,aj]
 by_cases e2:z=y
 ·rw[e2,aj,aw h.symm,aj]
 rw[aw e2,aw e1,aw e1,aw e2]
structure Lz(g:Gc)(d d':Gd):Prop where
 M:d'.M g=d.M g
 rows:d'.rows=d.rows
 lrs:d'.lrs g=d.lrs g
 b:d'.b g=d.b g
 spent:d'.spent=d.spent
 lo:d'.lo=d.lo
 a0:d'.a0=d.a0
 as:d'.as=d.as
 lm:d'.lm=d.lm
 marks:d'.marks=d.marks
 len:d'.fz.length=d.fz.length
 aE:cP 1 d'.fz=cP 1 d.fz
 flat:bw d'.fz=bw d.fz
theorem BAt.bump(h:BAt g H d){a:OW}{at_:Nat}{rank aE cost:Int}{fc:Option Int}(T:fI g d H a at_ rank aE cost fc){c:Int}(c0:0<=c):∃d',Lz g d d'/\BAt g (upd H a (.dK (frK at_ rank aE c fc))) d'/\fI g d' (upd H a (.dK (frK at_ rank aE c fc))) a at_ rank aE c fc:=by
 obtain⟨n1,n2,n3,n4⟩:=jw h.ok.nd;obtain⟨nd1,nd2⟩:=xE h.ok.nd;have go:Go (d.M g) H (d.M g) (upd H a (.dK (frK at_ rank aE c fc))):=Go.at T.mem _;have hS:=ag (u:=HO.dK (frK at_ rank aE c fc)) T.nS.symm h.dy.hS;have hR:=ag (u:=HO.dK (frK at_ rank aE c fc)) T.nR.symm h.dy.hR;have hO:=ag (u:=HO.dK (frK at_ rank aE c fc)) T.nO.symm h.dy.hO;rcases T.cases h.dy with⟨ez,eas,ea,et,er,eh,ec,ef⟩|⟨fs,f,us,ez,eas,pu,et,er,eh,ec,ef⟩
 ·have B:BAt g (upd H a (.dK (frK at_ rank aE c fc))) { d with bc:=c }:=by
   refine h.go (d':={ d with bc:=c }) go ⟨hS,hR,hO,?_,?_⟩ ⟨h.ok.nd,h.ok.mks,h.ok.ml,h.ok.bs,c0,h.ok.fz,h.ok.fl,h.ok.hf,h.ok.h36,h.ok.pay,h.ok.sp,h.ok.rl,h.ok.dp⟩ (go.same _ _ h.hm) (Paired.cI h.hr λ_ _=>bX.same go.same)
   ·dsimp only;rw[<-ea,aj,et,er,eh,ef]
   dsimp only;rw[ez,eas];exact .nil
  exact⟨{ d with bc:=c },⟨rfl,rfl,rfl,rfl,rfl,rfl,rfl,rfl,rfl,rfl,rfl,rfl,rfl⟩,B,⟨T.last,aj,T.mem,T.nS,T.nR,T.nO,T.rk,T.hf,T.hb,c0,λz=>absurd ef z⟩⟩
 have F:=h.ok.fz f (by rw[ez];simp);have f36:=h.ok.h36 f (by rw[ez];simp);have hh:=h.ok.hf;rw[ez]at hh;have di:=h.ok.dp.2;rw[ez]at di;have di:=di.inv;have a0a:d.a0≠a:=λz=>nd1 (by rw[z,eas];simp);have ua:∀x∈us,x≠a:=λx hx z=>by
  rw[eas]at nd2;exact(MP.mp nd2).2.2 x hx a (by simp) z
 have fl:bw (fs++[{ f with cost:=c }])=bw d.fz:=by rw[ez,dC,dC];rfl
 have ln:(fs++[{ f with cost:=c }]).length=d.fz.length:=by rw[ez];simp
 have lr:Gd.lrs g { d with fz:=fs++[{ f with cost:=c }] }=d.lrs g:=by
  unfold Gd.lrs;dsimp only;rw[fl]
 have B:BAt g (upd H a (.dK (frK at_ rank aE c fc))) { d with fz:=fs++[{ f with cost:=c }] }:=by
  refine h.go (d':={ d with fz:=fs++[{ f with cost:=c }] }) go ⟨hS,hR,hO,ag a0a h.dy.h0,?_⟩ ⟨h.ok.nd,h.ok.mks,h.ok.ml,h.ok.bs,h.ok.bc,λx hx=>?_,?_,kE.app hh.inv.1 hh.inv.2,λx hx=>?_,λe=>?_,h.ok.sp,?_,⟨h.ok.dp.1,oQ.app di.1 di.2.1 di.2.2⟩⟩ (go.same _ _ h.hm) (by rw[lr];exact Paired.cI h.hr λ_ _=>bX.same go.same)
  ·dsimp only[Gd.b];rw[eas,nC,nK (iq _ _)];refine Pm ?_ (Paired.xM pu λx hx y e=>ag (ua x hx) e);rw[aj,et,er,eh,ef];rfl
  ·rcases Mp.mp hx with hx|hx
   ·exact h.ok.fz x (by rw[ez];simp[hx])
   rw[Mq.mp hx];exact⟨F.bk,F.l0,F.r0,F.rows,F.fst,F.lp,F.fc,F.f0,F.rank,c0⟩
  ·dsimp only;rw[ln];exact h.ok.fl
  ·rcases Mp.mp hx with hx|hx
   ·exact h.ok.h36 x (by rw[ez];simp[hx])
   rw[Mq.mp hx];exact f36
  ·have p:=h.ok.pay e;rw[ez,dD]at p;dsimp only;rw[dD];exact p
  rw[lr];dsimp only;rw[ln];exact h.ok.rl
 have he:cP 1 (fs++[{ f with cost:=c }])=cP 1 d.fz:=by rw[ez,fY,fY]
 exact⟨{ d with fz:=fs++[{ f with cost:=c }] },⟨rfl,rfl,lr,rfl,rfl,rfl,rfl,rfl,rfl,rfl,ln,he,fl⟩,B,⟨T.last,aj,T.mem,T.nS,T.nR,T.nO,T.rk,by rw[T.hf];exact he.symm,T.hb,c0,λz=>⟨fs,_,rfl,by dsimp only;rw[ef]⟩⟩⟩
noncomputable def kA(H:Hp)(g:Gc)(d:Gd)(v:V)(sp:Int)(F:OW)(rank aE:Int):Hp:=upd (upd (upd (upd H g.S (.dK (stK g { d with spent:=sp }))) g.LR (.lst (d.rows++[v]))) F (.dK (frK d.rows.length rank aE 0 Vf))) d.lo (.lst (.ref d.a0::d.as.map V.ref++[.ref F]))
theorem BAt.JS(h:BAt g H d)(hF:H F=Vf)(hv:bX g.N (del (d.M g) H) v (bk.lr l r))(ok:Ht g.ns bk)(l0:0<=l)(r0:0<=r)(rk:0<=rank/\rank<=2)(fl:d.fz.length<=2)(h12:cP 1 d.fz<=12)(h1:1<=cP 1 d.fz)(esp:sp=d.spent+cP 1 d.fz*(1+bk.m*(l+r)))(lim:sp<=g.lim)(m3:mu g d+3<=1000) :
  ∃d':Gd,Go (d.M g) H (d'.M g) (kA H g d v sp F rank (cP 1 d.fz*bk.m))/\BAt g (kA H g d v sp F rank (cP 1 d.fz*bk.m)) d'/\mu g d'<=mu g d+3:=by
 obtain⟨n1,n2,n3,n4⟩:=jw h.ok.nd
 have FM:=h.free hF
 have FS:F≠g.S:=λz=>FM (by rw[z];exact inS g d)
 have FR:F≠g.LR:=λz=>FM (by rw[z];exact inR g d)
 have FO:F≠d.lo:=λz=>FM (by rw[z];exact inO g d)
 have F0:F≠d.a0:=λz=>FM (by rw[z];exact in0 g d)
 have FA:∀x∈d.as,x≠F:=λx hx z=>FM (by rw[<-z];exact inA g d hx)
 have m1:1<=bk.m/\bk.m<=3:=by
  cases bk with
  |iff v=>exact⟨(show(1:Int)<=1 by decide),(show(1:Int)<=3 by decide)⟩
  |loop t m=>exact⟨ok.2.1,ok.2.2⟩
 generalize hh:cP 1 d.fz=ht at *
 have hm1:1<=ht*bk.m/\ht*bk.m<=36:=by
  have a1:ht*1<=ht*bk.m:=MM m1.1 ();have a2:ht*bk.m<=ht*3:=MM m1.2 ();omega
 have p0:0<=ht*(1+bk.m*(l+r)):=MT () (by have:=MT (show 0<=bk.m by omega) (show 0<=l+r by omega);omega)
 obtain⟨f,hf⟩:∃f:Fz,f=⟨bk,l,r,Vf,[],rank,ht*bk.m,0,Vf⟩:=⟨_,rfl⟩
 obtain⟨d',hd'⟩:∃d':Gd,d'={ d with rows:=d.rows++[v],spent:=sp,as:=d.as++[F],fz:=d.fz++[f] }:=⟨_,rfl⟩
 have ff:bw [f]=[bk.lr l r]:=by rw[hf];rfl
 have lr:d'.lrs g=d.lrs g++[bk.lr l r]:=by
  rw[hd'];unfold Gd.lrs;dsimp only;rw[dC,ff,MK,MK,MK]
 have rl:=O3 h.hr
 have lb:d.b g+(bw d.fz).length=d.rows.length:=by
  rw[rl];unfold Gd.b Gd.lrs;rw[Mn (as:=g.pre++aZ d.bs)]
 have Mm:∀a∈d'.M g,a∈d.M g\/a=F:=λa m=>by
  rw[hd']at m;unfold Gd.M at m⊢;simp only[Mf,Mp,Mq,Ms,or_false]at m⊢;rcases m with m|m|m|m|m|m
  ·exact .inl (.inl m)
  ·exact .inl (.inr (.inl m))
  ·exact .inl (.inr (.inr (.inl m)))
  ·exact .inl (.inr (.inr (.inr (.inl m))))
  ·exact .inl (.inr (.inr (.inr (.inr m))))
  exact .inr m
 have go:Go (d.M g) H (d'.M g) (kA H g d v sp F rank (ht*bk.m)):=⟨λa o m e=>by
  unfold kA;have aF:a≠F:=λz=>by rw[z,hF]at e;cases e
  rw[aw (λz=>m (by rw[z];exact inO g d)),aw aF,aw (λz=>m (by rw[z];exact inR g d)),aw (λz=>m (by rw[z];exact inS g d))];exact e,λa m=>by
  rcases Mm a m with z|z
  ·exact .inl z
  exact .inr (by rw[z];exact hF)⟩
 have oth:∀x,x≠g.S->x≠g.LR->x≠F->x≠d.lo->kA H g d v sp F rank (ht*bk.m) x=H x:=λx h1 h2 h3 h4=>by
  unfold kA;rw[aw h4,aw h3,aw h2,aw h1]
 have B:BAt g (kA H g d v sp F rank (ht*bk.m)) d':=by
  refine h.go go ?_ ?_ ?_ ?_
  ·rw[hd'];refine⟨?_,?_,?_,?_,?_⟩
   ·unfold kA;rw[aw n2,aw FS.symm,aw n1,aj];rfl
   ·unfold kA;rw[aw n3,aw FR.symm,aj]
   ·unfold kA;rw[aj,MI];rfl
   ·have m:=n4 d.a0 Mg;rw[oth d.a0 m.1 m.2.1 F0.symm m.2.2];exact h.dy.h0
   dsimp only[Gd.b];rw[nC,nK (iq _ _)];refine Pm ?_ (Paired.xM h.dy.hf λx hx y e=>?_)
   ·unfold kA;rw[aw FO,aj];have:(g.pre++aZ d.bs).length+(bw d.fz).length=d.rows.length:=lb;rw[this,hf];rfl
   have m:=n4 x (Mi _ hx);rw[oth x m.1 m.2.1 (FA x hx) m.2.2];exact e
  ·rw[hd']at lr⊢;have fl3:(d.fz++[f]).length=d.fz.length+1:=by simp
   have sp0:=h.ok.sp.1;refine⟨?_,h.ok.mks,h.ok.ml,h.ok.bs,h.ok.bc,λx hx=>?_,?_,kE.app h.ok.hf (by rw[hf,hh]),λx hx=>?_,λe=>?_,⟨by show 0<=sp;omega,.inl lim⟩,?_,⟨h.ok.dp.1,oQ.app h.ok.dp.2 (by rw[hf];exact MB _) (λt e=>by rw[hf]at e;cases e)⟩⟩
   ·have nd:=h.ok.nd;unfold Gd.M at nd FM⊢;dsimp only;rw[show g.S::g.LR::d.lo::d.a0::(d.as++[F])=(g.S::g.LR::d.lo::d.a0::d.as)++[F]from rfl];exact MP.mpr ⟨nd,by simp,λa ha b hb z=>by rw[Mq.mp hb]at z;exact FM (z▸ha)⟩
   ·rcases Mp.mp hx with hx|hx
    ·exact h.ok.fz x hx
    rw[Mq.mp hx,hf];exact⟨ok,l0,r0,MO,λ_ z=>(by cases z),λ_ _ _=>rfl,⟨λ_=>rfl,λ_=>rfl⟩,λ_ z=>(by cases z),rk,MF _⟩
   ·dsimp only;omega
   ·rcases Mp.mp hx with hx|hx
    ·exact h.ok.h36 x hx
    rw[Mq.mp hx,hf];exact hm1
   ·have p:=h.ok.pay e;dsimp only;rw[dD,hh,hf];simp only[pE,cJ];omega
   unfold mu at m3;rw[lr,Mn];dsimp only;simp only[MS];omega
  ·have e:d'.lm=d.lm:=by rw[hd']
   have e2:d'.marks=d.marks:=by rw[hd']
   rw[e,e2];exact go.same _ _ h.hm
  rw[lr];have e:d'.rows=d.rows++[v]:=by rw[hd']
  rw[e];exact Pm (hv.same go.same) (Paired.cI h.hr λ_ _=>bX.same go.same)
 refine⟨d',go,B,?_⟩
 unfold mu
 rw[lr,Mn,hd']
 dsimp only
 simp only[MS,Mn]
 omega
end
section
variable{P:Program}{w:O7}{K:OZ}{mg:Str->Option OX}{base:Pk}{A:Adr}{g:Gc}{d:Gd}{H:Hp}
seal PE PA PS PSs PT PW
theorem lD:upd (upd H x u) x v=upd H x v:=by
 funext z
 by_cases e:z=x
 ·rw[e,aj,aj]
 rw[aw e,aw e,aw e]
theorem BB(h1:a≠g.S)(h2:a≠g.LR):gy H g d v n a at_ rank aE cost fc=upd (upd (upd H a (.dK (frK at_ rank aE (cost+1) fc))) g.S (.dK (stK g { d with spent:=d.spent+aE*n }))) g.LR (.lst (d.rows++[v])):=by
 unfold gy;rw[lZ h2.symm,lZ (x:=g.S) (y:=a) h1.symm]
def VOk(g:Gc)(v:V):Prop:=(∃n,v=.int n)\/∃i∈g.vk,v=.str (g.N i)
theorem VOk.th(O:jI g){t:Th}(h:t.ok g.ns):VOk g (t.v g.N):=by
 cases t with
 |i n=>exact .inl ⟨n,rfl⟩
 |x a=>exact .inr ⟨a,O.nv a h,rfl⟩
theorem EH(O:jI g)(h:v.ok g.ns):∃x y,atI (vV g.N v) 0=Ve x/\atI (vV g.N v) (-1)=Ve y/\VOk g x/\VOk g y:=by
 cases v with
 |one a=>exact⟨_,_,rfl,rfl,.th O h,.th O h⟩
 |op a w b=>exact⟨_,_,rfl,rfl,.th O h.1,.th O h.2.1⟩
 |atl x b=>exact⟨_,_,rfl,rfl,.inr ⟨x,O.cv x (EZ.2.1 x h.1),rfl⟩,.th O h.2⟩
theorem vc:∀{ys:List V},(∀y∈ys,∃n:Int,y=.int n/\0<=n/\n<=2)->∃ns:List Int,ys=ns.map V.int/\∀n∈ns,0<=n/\n<=2
 | [],_=>⟨[],rfl,λ_ h=>by cases h⟩
 |y::r,h=>by
  obtain⟨n,rfl,h0⟩:=h y Mg;obtain⟨ns,rfl,hn⟩:=vc λz hz=>h z (Mi _ hz);exact⟨n::ns,rfl,λm hm=>by
   rcases Mf.mp hm with rfl|hm
   ·exact h0
   exact hn m hm⟩
noncomputable def isS:V->Bool
 | .str _=>true
 |_=>false
inductive uH(K:OZ)(vs:List V)(H:Hp)(Q:VK)(Z:XK):Prop
 |mk(g:Gc)(d:Gd)(c k:Int)(lo:Bool):vs=[.ref g.S,.int c,.int k,.bl lo]->jI g->BAt g H d->mu g d+3<=1000->CQ g d H Q .non->uH K vs H Q Z
theorem Dm(T:Txt K mg A):T.om.Hz P w base 6 (uH K):=by
 have E9:=@mE P w _ _ base _ T;refine T.om.hs (k:=5) bF (λf cdv A' outer s H vs Q E hr hu h=>?_);obtain⟨g,d,c,k,lo,rfl,O,B,m3,q⟩:=h;obtain⟨a,at_,rank,aE,cost,fc,T1⟩:=B.top O;have vb:∀j∈g.vk,j<25:=λj hj=>(O.vb j hj).1;have rl:d.rows.length<=1000:=by
  have:=O3 B.hr;unfold mu at m3;omega
 refine⟨_,(ab (pst 4 bF.nd (px hu (px hu (fv 0) ak) (iW fq ae)))
 (ab (aP (PW.pt (pw_or (ptc rR (pcB bQ T.cB (px hu (fv 0) ak^af)) ae) (pw_or1 (ptc rR (px hu (fv 4) ak) ae))))
  (ab (aK (ar (rF T) hr (fv 0^fv 1^ae^fv 3^af)))
  (ah (xn)))
  aD)
 (ab (pst 5 bF.nd (pcB Ax T.qI (px hu (fv 4) ak^ar E9 hr (fv 1^ae^ae^af)^af)))
 (ab (pst 6 bF.nd (px hu (bI (fv 5^ae^af)) (pcT qu T.oe (fv 3^af))))
 (ab (pst 7 bF.nd (bf (ax dw (ar E9 hr (fv 1^ae^ae^af)) (ar E9 hr (fv 1^ae^ae^af))^ax dw (ar E9 hr (fv 1^ae^ae^af)) (ar E9 hr (fv 1^ae^ae^af))^af)))
 (ab (pst 8 bF.nd ae)
 (ab (pst 9 bF.nd (ax wG (bf (ak^ar (wq T) hr (fv 0^fv 1^fv 6^af)^af)) (fv 7)))
 (ab (pst 10 bF.nd (bI (px hu (px hu (fv 9) ae) ae^px hu (px hu (fv 9) ae) (iW fq ae)^af)))
 (ab (aP (ptc (bh hu) (fv 2) ae)
  (ab (pst 8 bF.nd (ax bo ae (ar E9 hr (fv 1^ae^ae^af))))
  (ab (pst 10 bF.nd (bI (ar (oX T) hr (fv 0^fv 1^ae^fv 6^af)^af)))
  (ah (pst 9 bF.nd (ax wG (bf (ak^px hu (fv 10) ae^fv 8^af)) (fv 7))))))
  aD)
 (ab (pst 11 bF.nd (pcB Jt T.qI ((ax bo (bI (fv 5^af)) (gJ (N:=["_law_thing_here","_law_state"]) (own:=1) (fr:=[0]) (cG.of (by kernel_rfl!)) rfl (cA (fv 10)) (λb=>pgn (i:=0) (show PC (["_law_thing_here","_law_state"]:List PU) by decide+kernel) rfl) (λb=>lj (bR (pcB bD T.aH (fv 0^(iw (v:=.ty "str") rfl T.xx (by boot_by_name) rfl)^af)) (λ_=>rfl))) (λb=>px hu (px hu (fv 1) ak) (fv 0))))^af)))
 (ah (aP (bR (ar (xA T) hr (fv 0^fv 9^ax bo ae (ax dw (fv 8) (pcB HG T.AZ (fv 7^af)))^af)) (λ_=>rfl))
  (ab (pst 4 bF.nd (rB (cu ak (ax pP (pcB bQ T.cB (px hu (fv 0) ak^af)) ae) (cu ak (fv 11) (cu ak (ax dw (px hu (fv 4) ak) (fv 8)) (cu ak ae (cu ak dF (rf)))))) rfl rfl (by intro z;cases z) ∅))
  (ah (aK (cN (px hu (fv 0) ak) (fv 4^af)))))
  aD)))))))))))),?_⟩
 refine dgk B.dy.hS rfl ⟨_,rfl,(lix (SqL.of B.dy.hO) T1.last ?_)⟩;try dsimp only
 refine aq λM1 K1=>?_;have body:o9 K [.ref g.S,.int c,.int 0,.bl lo] H (λ_ H'=>Q .non H') E0:=⟨g,d,c,0,lo,rfl,O,B,m3,λd' H' go B' mu'=>q d' H' go B' mu'⟩;have la:=O3 B.dy.hf;rw[Oy,iq,OS]at la;refine dgk B.dy.hS rfl (lnl B.dy.hO ⟨_,rfl,ba (λ_=>dz body) (λc1=>dgk T1.fr rfl ⟨_,rfl,ba (λ_=>body) (λc2=>K1 _ _ ?_)⟩)⟩);have f2:d.fz.length<=2:=by
  have c1:¬ (3:Int)<(((V.ref d.a0::d.as.map V.ref).length:Nat):Int):=λz=>c1 (decide_eq_true z);simp only[MD,Mj]at c1;omega
 have h12:aE<=12:=by
  have c2:¬ (12:Int)<aE:=λz=>c2 (decide_eq_true z);omega
 clear c1 c2 body;try dsimp only
 refine aq λM2 K2=>dgk T1.fr rfl ⟨c,3,3,rfl,∅,∅,λmr H1 r0 r1 s1=>⟨_,_,rfl,K2 _ _ ?_⟩⟩;obtain⟨low,hlow⟩:∃low,low=(if mr>rank then mr else rank):=⟨_,rfl⟩;have lw:0<=low/\low<=2:=by
  have:=T1.rk;rw[hlow];split<;>omega
 rw[<-hlow];have B1:=B.same s1;try dsimp only
 refine aq λM3 K3=>⟨by show 2<=sizeLine;decide,λl hl=>?_⟩;obtain⟨s2,e2⟩:=alc hl (HO.lst [V.int low,.int 2]);generalize upd H1 l _=H2 at s2 e2⊢;obtain⟨hi,ehi⟩:∃hi:Int,atI [V.int low,.int 2] (b01 lo)=Ve (.int hi):=by cases lo<;>exact⟨_,rfl⟩
 refine⟨_,rfl,(lix (SqL.of e2) ehi (K3 _ _ ?_))⟩;have B2:=B1.same s2;try dsimp only
 refine aq λM4 K4=>⟨c,4,3,rfl,∅,∅,λi1 Ha a0 a1 sa=>⟨c,5,2,rfl,∅,∅,λi2 Hb b0 b1 sb=>⟨.inl ⟨(),()⟩,c,2,2,rfl,∅,∅,λi3 Hc c0 c1 sc=>⟨c,5,2,rfl,∅,∅,λi4 Hd d0 d1 sd=>⟨.inl ⟨(),()⟩,by show 2<=sizeLine;decide,λti hti=>K4 _ _ ?_⟩⟩⟩⟩⟩;obtain⟨l',hl'⟩:∃l',l'=i1*i2:=⟨_,rfl⟩;obtain⟨r',hr'⟩:∃r',r'=i3*i4:=⟨_,rfl⟩;have l0:0<=l':=by rw[hl'];exact MT a0 b0
 have r0':0<=r':=by rw[hr'];exact MT c0 d0
 rw[<-hl',<-hr'];obtain⟨s3,e3⟩:=alc hti (HO.tup [V.int l',.int r']);generalize upd Hd ti _=H3 at s3 e3⊢;have z3:ao H H3:=(s1.trans s2).trans ((((sa.trans sb).trans sc).trans sd).trans s3);have B3:=B.same z3;clear s1 s2 sa sb sc sd s3 e2 hl hti B1 B2 hlow a0 a1 b0 b1 c0 c1 d0 d1 hl' hr' r0 r1;try dsimp only
 refine aq λM5 K5=>K5 _ _ ?_;try dsimp only
 refine aq λM6 K6=>⟨g,d,c,hi,rfl,O,B3,λp val H4 s4 hp ep hv=>⟨by show 2<=sizeLine;decide,λt1 ht1=>?_⟩⟩;obtain⟨s5,e5⟩:=alc ht1 (HO.tup [V.str "if",.ref p]);generalize upd H4 t1 _=H5 at s5 e5⊢;have e35:=(s4.trans s5) _ _ e3;refine⟨t1,ti,_,_,rfl,rfl,SqT.of e5,SqT.of e35,(by intro z;cases z),(by show 4<=sizeLine;decide),(λz=>by cases z),λ_ rw' hrw=>K6 _ _ ?_⟩;obtain⟨s6,e6⟩:=alc hrw (HO.tup [V.str "if",.ref p,.int l',.int r']);change ao H5 (upd H5 rw' (HO.tup ([V.str "if",.ref p]++[V.int l',.int r'])))at s6;change upd H5 rw' (HO.tup ([V.str "if",.ref p]++[V.int l',.int r'])) rw'=_ at e6;generalize upd H5 rw' _=H6 at s6 e6⊢;obtain⟨x0,y0,ex,ey,vx,vy⟩:=EH O hv;have ep6:=(s5.trans s6) _ _ ep;try dsimp only
 refine aq λM7 K7=>Mt ⟨_,_,MJ (SqT.of e6),rfl,Mt ⟨_,_,MJ (SqT.of ep6),ex,Mt ⟨_,_,MJ (SqT.of e6),rfl,_,rfl,Mt ⟨_,_,MJ (SqT.of ep6),ey,⟨by show 2<=sizeLine;decide,λls hls=>?_⟩⟩⟩⟩⟩;obtain⟨s7,e7⟩:=alc hls (HO.lst [x0,y0]);generalize upd H6 ls _=H7 at s7 e7⊢;have z4:ao H H4:=z3.trans s4;have z7:ao H H7:=((z4.trans s5).trans s6).trans s7;have B7:=B.same z7;refine K7 _ _ ?_;try dsimp only
 refine aq λM8 K8=>?_;have fin:∀(H8:Hp)(tm:Int)(bk:Bk)(rw2 ls2:OW)(vs:List V),ao H7 H8->tm=bk.m->Ht g.ns bk->1<=tm->tm<=3->bX g.N (del (d.M g) H8) (.ref rw2) (bk.lr l' r')->H8 ls2=Ve (.lst vs)->(∀v∈vs,VOk g v)->vs.length<=2->M8 [Ve (.ref g.S),Ve (.int c),Ve (.int k),Ve (.bl lo),Ve (.ref a),Ve (.int low),Ve (.int hi),Ve (.ref ti),Ve (.int tm),Ve (.ref rw2),Ve (.ref ls2),Vf] H8:=λH8 tm bk rw2 ls2 vs s8 etm bok t1' t3' hrow els vok vl=>K8 _ _ (by
  have z8:=z7.trans s8;have B8:=B.same z8;have T8:=T1.same z8;refine aq λN1 J1=>⟨by show 1<=sizeLine;decide,λl1 hl1=>?_⟩;obtain⟨s9,e9⟩:=alc hl1 (HO.lst [V.int low]);generalize upd H8 l1 _=H9 at s9 e9⊢;have els9:=s9 _ _ els;have B9:=B8.same s9;refine Mt ⟨⟨_,SqL.of els9⟩,BZ (K:=K) isS (λy _=>∃n:Int,y=.int n/\0<=n/\n<=2) (SqL.of els9) (ay ()) (λb x H2 G hx s2 k=>?_) (λb x H2 G hx hp s2 k=>?_) (λ_ _ _ _ h=>h) (λ_ _ _ _ _ _ h=>h) (λD H10 ys hD s10 eD _ hy=>?_)⟩
  ·rcases vok x hx with⟨n,rfl⟩|⟨i,hi',rfl⟩
   ·exact⟨_,_,_,false,rfl,(λz=>by cases z),.int n,Dk,false,rfl,k _ (ao.refl _)⟩
   exact⟨_,_,_,true,rfl,(λz=>by cases z),.str _,Dn,true,rfl,k _ (ao.refl _)⟩
  ·rcases vok x hx with⟨n,rfl⟩|⟨i,hi',rfl⟩
   ·cases hp
   have B10:=B9.same s2;exact dgk B10.dy.hS rfl ⟨_,mK O.D (.inl (aC _ _ B10.st.hv)) vb hi',k _ _ (ao.refl _) ⟨_,rfl,(O.vb i hi').2⟩⟩
  obtain⟨ns,rfl,hns⟩:=vc hy;refine⟨l1,D,_,_,rfl,rfl,s10 _ _ e9,eD,?_,λl2 hl2=>?_⟩
  ·rename_i nl;rw[Mj]at nl⊢;exact sz (by simp;omega)
  obtain⟨s11,e11⟩:=alc hl2 (HO.lst ((low::ns).map V.int));change ao H10 (upd H10 l2 (HO.lst ([V.int low]++ns.map V.int)))at s11;change upd H10 l2 (HO.lst ([V.int low]++ns.map V.int)) l2=_ at e11;generalize upd H10 l2 _=H11 at s11 e11⊢;refine⟨l2,low::ns,rfl,SqL.of e11,(by intro z;cases z),λrk hrk _=>J1 _ _ ?_⟩;have rk2:0<=rk/\rk<=2:=by
   rcases Mf.mp hrk with rfl|hrk
   ·exact lw
   exact hns rk hrk
  have s811:=(s9.trans s10).trans s11;have z11:=z8.trans s811;have B11:=B8.same s811;have T11:=T8.same s811;have go11:Go (d.M g) H (d.M g) H11:=Go.new z11;have hrow11:bX g.N (del (d.M g) H11) (.ref rw2) (bk.lr l' r'):=hrow.same (Go.new (M:=d.M g) s811).same;try dsimp only
  refine⟨ti,[l',r'],rfl,SqT.of ((((s4.trans s5).trans s6).trans s7).trans (s8.trans s811) _ _ e3),.inl ⟨(),()⟩,?_⟩;rw[show[l',r'].sum=l'+r' by simp];refine⟨g,d,.ref rw2,1+tm*(l'+r'),a,at_,rank,aE,cost,fc,rfl,B11.dy,B11.ok.nd,rl,T11,⟨false,rfl,bu (q d H11 go11 B11 ())⟩,λfit=>⟨true,rfl,dz ?_⟩⟩;rw[BB T1.nS T1.nR];obtain⟨d1,L1,Bb,Tb⟩:=B11.bump T11 (c:=cost+1) (by have:=T1.c0;omega);have goB:Go (d.M g) H11 (d.M g) (upd H11 a (.dK (frK at_ rank aE (cost+1) fc))):=Go.at T11.mem _;generalize hHb:upd H11 a (.dK (frK at_ rank aE (cost+1) fc))=Hb at Bb Tb goB⊢;obtain⟨n1,n2,n3,n4⟩:=jw B.ok.nd;obtain⟨st,hst⟩:∃st,st=stK g { d with spent:=d.spent+aE*(1+tm*(l'+r')) }:=⟨_,rfl⟩;rw[<-hst];have hS12:upd (upd Hb g.S (.dK st)) g.LR (.lst (d.rows++[.ref rw2])) g.S=Ve (.dK st):=by rw[aw n1,aj]
  have hR12:upd (upd Hb g.S (.dK st)) g.LR (.lst (d.rows++[.ref rw2])) g.LR=Ve (.lst (d.rows++[.ref rw2])):=aj;have hO12:upd (upd Hb g.S (.dK st)) g.LR (.lst (d.rows++[.ref rw2])) d.lo=Ve (.lst (.ref d.a0::d.as.map V.ref)):=by
   have:=Bb.dy.hO;rw[L1.lo,L1.a0,L1.as]at this;rw[aw n3.symm,aw n2.symm];exact this
  have hF12:upd (upd Hb g.S (.dK st)) g.LR (.lst (d.rows++[.ref rw2])) a=Ve (.dK (frK at_ rank aE (cost+1) fc)):=by
   rw[aw T1.nR,aw T1.nS];exact Tb.fr
  have gS:∀{H':Hp}(x:Str),H' g.S=Ve (.dK st)->∀v,L2.eX (stK g { d with spent:=d.spent+aE*(1+tm*(l'+r')) }) (.inr x)=Ve v->c9 H' g.S (.str x) (Ve v):=λx h v e=>by
   rw[hst]at h;rw[<-e];exact c9.k (k:=.inr x) h
  generalize hH12:upd (upd Hb g.S (.dK st)) g.LR (.lst (d.rows++[.ref rw2]))=H12 at hS12 hR12 hO12 hF12⊢;try dsimp only
  refine aq λN2 J2 F hF=>?_;have FS:F≠g.S:=Vh hF hS12;have FR:F≠g.LR:=Vh hF hR12;have FO:F≠d.lo:=Vh hF hO12;have Fa:F≠a:=Vh hF hF12;refine⟨_,gS "rows" (ag FS.symm hS12) _ rfl,(lnl (ag FR.symm hR12) (dgk (ag Fa.symm hF12) rfl ⟨.inl ⟨by have:=T1.hb;omega,by have:=T1.hb;omega⟩,⟨aj,[((.inr "at":Key),.int ((((d.rows++[V.ref rw2]).length:Nat):Int)-1)),(.inr "rank",.int rk),(.inr "heft",.int (aE*tm)),(.inr "cost",.int 0),(.inr "first",.non)],rfl,(show 5<=15 by decide),J2 _ _ ?_⟩⟩))⟩;rw[lD,show(cq [] [((.inr "at":Key),V.int ((((d.rows++[V.ref rw2]).length:Nat):Int)-1)),(.inr "rank",.int rk),(.inr "heft",.int (aE*tm)),(.inr "cost",.int 0),(.inr "first",.non)])=frK d.rows.length rk (aE*tm) 0 Vf by
   rw[show((((d.rows++[V.ref rw2]).length:Nat):Int)-1)=(d.rows.length:Int) by rw[Mn];simp];rfl]
  try dsimp only
  have hO13:upd H12 F (.dK (frK d.rows.length rk (aE*tm) 0 Vf)) d.lo=Ve (.lst (.ref d.a0::d.as.map V.ref)):=ag FO.symm hO12;refine⟨_,gS "open" (ag FS.symm hS12) _ rfl,Mt ⟨rfl,_,SqL.of hO13⟩,_,_,_,rfl,rfl,hO13,ay (by rw[MD,Mj];omega),?_⟩;have hFb:Hb F=Vf:=by
   rw[<-hH12]at hF;rw[aw FR,aw FS]at hF;exact hF
  have eh:cP 1 d1.fz=aE:=by rw[L1.aE];exact T1.hf.symm
  have rowb:bX g.N (del (d1.M g) Hb) (.ref rw2) (bk.lr l' r'):=by rw[L1.M];exact hrow11.same goB.same
  have mu1:mu g d1=mu g d:=by unfold mu;rw[L1.lrs,L1.len]
  obtain⟨d',go',B',mu'⟩:=Bb.JS (v:=.ref rw2) (bk:=bk) (l:=l') (r:=r') (rank:=rk) (sp:=d.spent+aE*(1+tm*(l'+r'))) hFb rowb bok l0 r0' rk2 (by rw[L1.len];exact f2) (by rw[eh];exact h12) (by rw[eh];exact T1.hb.1) (by rw[eh,L1.spent,etm]) fit (by rw[mu1];exact m3);have eq:kA Hb g d1 (.ref rw2) (d.spent+aE*(1+tm*(l'+r'))) F rk (cP 1 d1.fz*bk.m)=upd (upd H12 F (.dK (frK d.rows.length rk (aE*tm) 0 Vf))) d.lo (.lst (.ref d.a0::d.as.map V.ref++[.ref F])):=by
   unfold kA;rw[eh,<-etm,L1.rows,L1.lo,L1.a0,L1.as,<-hH12,hst];unfold stK;rw[L1.lm]
  rw[eq]at go' B';refine q d' _ (go11.trans (goB.trans ?_)) B' ();rw[L1.M]at go';exact go')
 have row6:bX g.N (del (d.M g) H7) (.ref rw') (Bk.lr l' r' (.iff val)):=⟨rw',p,rfl,((B.same z4).same s5).new (s6.trans s7) hrw (s7 _ _ e6),λo ho=>by
  cases ho;exact B3.new (((s4.trans s5).trans s6).trans s7) hp (s7 _ _ ep6)⟩
 have first:=fin H7 1 (.iff val) rw' ls [x0,y0] (ao.refl _) rfl hv ∅ ∅ row6 e7 (λv hv'=>by
  simp only[Mf,Ms,or_false]at hv';rcases hv' with rfl|rfl
  ·exact vx
  exact vy) (Mo 2)
 refine⟨rfl,_,rfl,ba (λ_=>?_) (λ_=>first)⟩;refine aq λN1 J1=>⟨c,6,3,rfl,∅,∅,λi6 Ha a0 a1 sa=>J1 _ _ ?_⟩;try dsimp only
 refine aq λN2 J2=>?_;have Ba:=B7.same sa;refine⟨g,d,c,1,hi,rfl,O,Ba,∅,λth Hb sb hth=>⟨by show 1<=sizeLine;decide,λl3 hl3=>?_⟩⟩;obtain⟨sc,ec⟩:=alc hl3 (HO.lst [th.v g.N]);generalize upd Hb l3 _=Hc at sc ec⊢;have Bc:=(Ba.same sb).same sc;refine J2 _ _ ?_;try dsimp only
 refine lix (SqL.of ec) rfl ⟨by show 3<=sizeLine;decide,λt2 ht2=>?_⟩;obtain⟨sd,ed⟩:=alc ht2 (HO.tup [V.str "loop",th.v g.N,.int (1+i6)]);generalize upd Hc t2 _=Hd at sd ed⊢;have e3d:=(((s4.trans s5).trans s6).trans s7).trans (((sa.trans sb).trans sc).trans sd) _ _ e3;refine⟨t2,ti,_,_,rfl,rfl,SqT.of ed,SqT.of e3d,(by intro z;cases z),(by show 5<=sizeLine;decide),(λz=>by cases z),λ_ rl2 hrl2=>?_⟩;have se:=ao.upd hrl2 (HO.tup ([V.str "loop",th.v g.N,.int (1+i6)]++[V.int l',.int r']));have ee:upd Hd rl2 (HO.tup ([V.str "loop",th.v g.N,.int (1+i6)]++[V.int l',.int r'])) rl2=Ve (.tup [V.str "loop",th.v g.N,.int (1+i6),.int l',.int r']):=aj;generalize upd Hd rl2 _=He at se ee⊢;refine fin He (1+i6) (.loop th (1+i6)) rl2 l3 [th.v g.N] ((((sa.trans sb).trans sc).trans sd).trans se) rfl ⟨hth,(),()⟩ () () ⟨rl2,0,rfl,(Bc.same sd).new se hrl2 ee,λo ho=>by cases ho⟩ ((sd.trans se) _ _ ec) (λv hv'=>by rw[Mq.mp hv'];exact .th O hth) (by show 1<=2;decide)
end
section
variable{P:Program}{w:O7}{K:OZ}{mg:Str->Option OX}{base:Pk}{A:Adr}{g:Gc}{d:Gd}{H:Hp}
theorem Jd(dy:qv H g d)(ok:zE g d)(O:jI g):∃a at_ rank aE cost fc,fI g d H a at_ rank aE cost fc:=by
 obtain⟨n1,n2,n3,n4⟩:=jw ok.nd;rcases mI d.fz with e|⟨fs,f,e⟩
 ·have hf:=dy.hf;rw[e]at hf;have ha:d.as=[]:=by
   cases ha:d.as with
   |nil=>rfl
   |cons a r=>rw[ha]at hf;cases hf
  obtain⟨m1,m2,m3⟩:=n4 d.a0 Mg;exact⟨d.a0,0,g.br,1,d.bc,Vf,⟨by rw[ha];exact k7 [] _,dy.h0,in0 g d,m1,m2,m3,O.br,by rw[e];rfl,⟨∅,∅⟩,ok.bc,λz=>absurd rfl z⟩⟩
 obtain⟨us,a,ea,p,fa⟩:=dy.wx e;have ma:a∈d.as:=by rw[ea];simp
 obtain⟨m1,m2,m3⟩:=n4 a (Mi _ ma);have mf:f∈d.fz:=by rw[e];simp
 have F:=ok.fz f mf;have hh:=ok.hf;rw[e]at hh;refine⟨a,_,f.rank,f.aE,f.cost,f.fc,⟨?_,fa,inA g d ma,m1,m2,m3,F.rank,?_,ok.h36 f mf,F.cost,λ_=>⟨fs,f,e,rfl⟩⟩⟩
 ·rw[ea,MI];exact k7 (V.ref d.a0::us.map V.ref) _
 rw[e,fY];exact hh.inv.2
theorem Gq{H':Hp}{nd:Tr}{rows':List V}{cst:Int}(st:zY (del (d.M g) H') g)(hm:del (d.M g) H' d.lm=Ve (.lst (nV g.N d.marks)))(D1:qv H g d)(ok:zE g d){a:OW}{at_:Nat}{rank aE cost:Int}{fc:Option Int}(T:fI g d H a at_ rank aE cost fc)
  (hS:H' g.S=Ve (.dK (stK g d))) (hR:H' g.LR=Ve (.lst rows')) (hO:H' d.lo=Ve (.lst (.ref d.a0::d.as.map V.ref))) (hp:H' a=Ve (.dK (frK at_ rank aE (cost+cst) fc))) (oth:∀x∈d.a0::d.as,x≠a->H' x=H x) (c0:0<=cst) (nok:nd.ok g.ns g.tg g.dd)
  (pay:g.ev=false->cJ g.dd 1 d.bs+lM g.dd 1 d.fz+oW g.dd (cP 1 d.fz) nd<=d.spent) (hr:Paired (bX g.N (del (d.M g) H')) rows' (d.lrs g++flat nd)) (len:(d.lrs g++flat nd).length+2*d.fz.length<=1000) (dnd:dT nd+d.fz.length<=4) :
  ∃d':Gd,d'.M g=d.M g/\BAt g H' d'/\mu g d'=(d.lrs g++flat nd).length+2*d.fz.length/\d'.fz.length=d.fz.length:=by
 obtain⟨n1,n2,n3,n4⟩:=jw ok.nd
 obtain⟨nd1,nd2⟩:=xE ok.nd
 rcases T.cases D1 with⟨ez,eas,ea,et,er,eh,ec,ef⟩|⟨fs,f,us,ez,eas,pu,et,er,eh,ec,ef⟩
 ·have lr:Gd.lrs g { d with rows:=rows',bs:=d.bs++[nd],bc:=d.bc+cst }=d.lrs g++flat nd:=by
   unfold Gd.lrs;dsimp only;rw[ez,nB];simp[bw,aZ]
  refine⟨{ d with rows:=rows',bs:=d.bs++[nd],bc:=d.bc+cst },rfl,⟨st,hm,by rw[lr];exact hr,⟨hS,hR,hO,?_,?_⟩,⟨ok.nd,ok.mks,ok.ml,nI ok.bs ⟨nok,MO⟩,by have:=ok.bc;show 0<=d.bc+cst;omega,ok.fz,ok.fl,ok.hf,ok.h36,λe=>?_,ok.sp,by rw[lr];exact len,⟨pJ ok.dp.1 (),ok.dp.2⟩⟩⟩,by unfold mu;rw[lr],rfl⟩
  ·dsimp only;rw[<-ea,hp,et,er,eh,ec,ef]
  ·dsimp only;rw[ez,eas];exact .nil
  have:=pay e;dsimp only;rw[nJ];simp only[cJ];rw[ez]at this⊢;simp only[lM,cP]at this⊢;omega
 have F:=ok.fz f (by rw[ez];simp)
 have f36:=ok.h36 f (by rw[ez];simp)
 have hh:=ok.hf
 rw[ez]at hh
 have a0a:d.a0≠a:=λz=>nd1 (by rw[z,eas];simp)
 have ua:∀x∈us,x≠a:=λx hx z=>by
  rw[eas]at nd2;exact(MP.mp nd2).2.2 x hx a (by simp) z
 have lr:Gd.lrs g { d with rows:=rows',fz:=fs++[{ f with rows:=f.rows++[nd],cost:=f.cost+cst }] }=d.lrs g++flat nd:=by
  unfold Gd.lrs;dsimp only;rw[ez,dC,dC];simp[bw,aZ,Fz.op,Fz.gW,nB]
 have ln:(fs++[{ f with rows:=f.rows++[nd],cost:=f.cost+cst }]).length=d.fz.length:=by rw[ez];simp
 have di:=ok.dp.2
 rw[ez]at di
 have di:=di.inv
 refine⟨{ d with rows:=rows',fz:=fs++[{ f with rows:=f.rows++[nd],cost:=f.cost+cst }] },rfl,⟨st,hm,by rw[lr];exact hr,⟨hS,hR,hO,?_,?_⟩,⟨ok.nd,ok.mks,ok.ml,ok.bs,ok.bc,λx hx=>?_,?_,kE.app hh.inv.1 hh.inv.2,λx hx=>?_,λe=>?_,ok.sp,by rw[lr];dsimp only;rw[ln];exact len,⟨ok.dp.1,oQ.app di.1 (pJ di.2.1 (by rw[ez,Mn,MS]at dnd;omega)) di.2.2⟩⟩⟩,by unfold mu;rw[lr];dsimp only;rw[ln],ln⟩
 ·rw[oth d.a0 Mg a0a];exact D1.h0
 ·dsimp only[Gd.b];rw[eas,nC,nK (iq _ _)];refine Pm ?_ (Paired.xM pu λx hx y e=>?_)
  ·rw[hp,et,er,eh,ec,ef];rfl
  rw[oth x (by rw[eas];simp[hx]) (ua x hx)];exact e
 ·rcases Mp.mp hx with hx|hx
  ·exact ok.fz x (by rw[ez];simp[hx])
  rw[Mq.mp hx];exact⟨F.bk,F.l0,F.r0,nI F.rows ⟨nok,MO⟩,F.fst,F.lp,F.fc,F.f0,F.rank,by have:=F.cost;show 0<=f.cost+cst;omega⟩
 ·dsimp only;rw[ln];exact ok.fl
 ·rcases Mp.mp hx with hx|hx
  ·exact ok.h36 x (by rw[ez];simp[hx])
  rw[Mq.mp hx];exact f36
 have p:=pay e
 rw[ez,dD,fY]at p
 dsimp only
 rw[dD]
 dsimp only
 rw[nJ]
 simp only[cJ]
 omega
noncomputable def pA(H:Hp)(g:Gc)(d:Gd)(t a:OW)(at_:Nat)(rank aE cost:Int):Hp:=upd (upd (upd H t (.tup [.str "else"])) g.LR (.lst (d.rows++[.ref t]))) a (.dK (frK at_ rank aE 0 (Ve cost)))
noncomputable def qK(f:Fz):Fz:={ f with fst:=Ve f.rows,rows:=[],cost:=0,fc:=Ve f.cost }
theorem BAt.els(h:BAt g H d)(ez:d.fz=fs++[f])(ea:d.as=us++[a])(ib:f.bk=.iff v)(nf:f.fst=Vf)(ht:H t=Vf)(m3:mu g d+3<=1000) :
  BAt g (pA H g d t a (d.b g+(bw fs).length) f.rank f.aE f.cost) { d with rows:=d.rows++[.ref t],fz:=fs++[qK f] }:=by
 obtain⟨n1,n2,n3,n4⟩:=jw h.ok.nd
 obtain⟨nd1,nd2⟩:=xE h.ok.nd
 obtain⟨us',a',ea',pu,fa⟩:=h.dy.wx ez
 rw[ea]at ea'
 obtain⟨eu,ex⟩:=Uu ea' rfl
 cases ex
 subst eu
 have ma:a∈d.a0::d.as:=by rw[ea];simp
 obtain⟨aS,aR,aO⟩:=n4 a ma
 have tM:=h.free ht
 have tS:t≠g.S:=λz=>tM (by rw[z];exact inS g d)
 have tR:t≠g.LR:=λz=>tM (by rw[z];exact inR g d)
 have tA:∀x∈d.a0::d.as,x≠t:=λx hx z=>tM (by
  rw[<-z];rcases Mf.mp hx with rfl|hx
  ·exact in0 g d
  exact inA g d hx)
 have tO:t≠d.lo:=λz=>tM (by rw[z];exact inO g d)
 have a0a:d.a0≠a:=λz=>nd1 (by rw[z,ea];simp)
 have ua:∀x∈us,x≠a:=λx hx z=>by
  rw[ea]at nd2;exact(MP.mp nd2).2.2 x hx a (by simp) z
 have F:=h.ok.fz f (by rw[ez];simp)
 have f36:=h.ok.h36 f (by rw[ez];simp)
 have hh:=h.ok.hf
 rw[ez]at hh
 have go:Go (d.M g) H (d.M g) (pA H g d t a (d.b g+(bw fs).length) f.rank f.aE f.cost):=((Go.new (ao.upd ht _)).trans (Go.at (inR g d) _)).trans (Go.at (inA g d (by rw[ea];simp)) _)
 have lr:Gd.lrs g { d with rows:=d.rows++[.ref t],fz:=fs++[qK f] }=d.lrs g++[.els]:=by
  unfold Gd.lrs qK;dsimp only;rw[ez,dC,dC];simp[bw,aZ,Fz.op,Fz.gW,Bw,nf]
 have ln:(fs++[qK f]).length=d.fz.length:=by rw[ez];simp
 have oth:∀x,x≠t->x≠g.LR->x≠a->pA H g d t a (d.b g+(bw fs).length) f.rank f.aE f.cost x=H x:=λx h1 h2 h3=>by
  unfold pA;rw[aw h3,aw h2,aw h1]
 have hlen:(d.lrs g++[Lr.els]).length=(d.lrs g).length+1:=by simp
 have di:=h.ok.dp.2
 rw[ez]at di
 have di:=di.inv
 refine h.go (d':={ d with rows:=d.rows++[.ref t],fz:=fs++[qK f] }) go ⟨?_,?_,?_,?_,?_⟩ ⟨h.ok.nd,h.ok.mks,h.ok.ml,h.ok.bs,h.ok.bc,λx hx=>?_,?_,kE.app hh.inv.1 hh.inv.2,λx hx=>?_,λe=>?_,h.ok.sp,?_,⟨h.ok.dp.1,oQ.app di.1 (MB _) (λt z=>by cases z;exact di.2.1)⟩⟩ (go.same _ _ h.hm) ?_
 ·rw[oth g.S tS.symm n1 aS.symm];exact h.dy.hS
 ·unfold pA;rw[aw aR.symm,aj]
 ·rw[oth d.lo tO.symm n3.symm aO.symm];exact h.dy.hO
 ·rw[oth d.a0 (tA _ Mg) (n4 _ Mg).2.1 a0a];exact h.dy.h0
 ·dsimp only[Gd.b];rw[ea,nC,nK (iq _ _)];refine Pm ?_ (Paired.xM pu λx hx y e=>?_)
  ·unfold pA;rw[aj];rfl
  have mx:x∈d.a0::d.as:=by rw[ea];simp[hx]
  exact(oth x (tA x mx) (n4 x mx).2.1 (ua x hx)).trans e
 ·rcases Mp.mp hx with hx|hx
  ·exact h.ok.fz x (by rw[ez];simp[hx])
  rw[Mq.mp hx];exact⟨F.bk,F.l0,F.r0,MO,λt z=>(by cases z;exact F.rows),λt m z=>(by rw[show(qK f).bk=f.bk from rfl,ib]at z;cases z),⟨λz=>(by cases z),λz=>(by cases z)⟩,λn z=>(by cases z;exact F.cost),F.rank,MF _⟩
 ·dsimp only;rw[ln];exact h.ok.fl
 ·rcases Mp.mp hx with hx|hx
  ·exact h.ok.h36 x (by rw[ez];simp[hx])
  rw[Mq.mp hx];exact f36
 ·have p:=h.ok.pay e;rw[ez,dD,nf]at p;dsimp only;rw[dD];simp only[qK,pE,cJ]at p⊢;omega
 ·rw[lr,hlen];unfold mu at m3;dsimp only;rw[ln];omega
 rw[lr]
 refine Pm ⟨t,0,rfl,?_,λo ho=>by cases ho⟩ (Paired.cI h.hr λ_ _=>bX.same go.same)
 refine aQ tM ?_
 unfold pA
 rw[aw (tA a ma).symm,aw tR,aj]
 rfl
section
seal PE PA PS PSs PT PW
inductive A4(vs:List V)(H:Hp)(Q:VK)(Z:XK):Prop
 |mk(g:Gc)(d:Gd)(a:OW)(at_:Nat)(rank aE cost:Int)(fc:Option Int):vs=[.ref g.S,.ref a]->H g.S=Ve (.dK (stK g d))->H g.LR=Ve (.lst d.rows)->d.rows.length<=1000->H a=Ve (.dK (frK at_ rank aE cost fc))->a≠g.S->a≠g.LR->g.S≠g.LR->(∀t,H t=Vf->Q .non (pA H g d t a at_ rank aE cost))->A4 vs H Q Z
theorem EW(T:Txt K mg A):T.tQ.Hz P w base 1 A4:=by
 refine T.tQ.hs yG (λf cdv A' outer s H vs Q E hr hu h=>?_);obtain⟨g,d,a,at_,rank,aE,cost,fc,rfl,hS,hR,rl,hF,aS,aR,n1,q⟩:=h;refine⟨_,(ab (aK (cN (px hu (fv 0) ak) (bf (ak^af)^af)))
 (ab (bA (px hu (fv 1) ak) (bz (fv 1) ak (bB hu Vi)))
 (ah (bA ae (bz (fv 1) ak (bB hu Vi)))))),?_⟩
 refine aq λM1 K1=>dgk hS rfl ⟨Mt ⟨rfl,_,SqL.of hR⟩,by show 1<=sizeLine;decide,λt ht=>?_⟩;have tR:t≠g.LR:=Vh ht hR;have ta:t≠a:=Vh ht hF;refine⟨_,_,_,rfl,rfl,ag tR.symm hR,ay rl,K1 _ _ ?_⟩;have hF1:upd (upd H t (.tup [.str "else"])) g.LR (.lst (d.rows++[.ref t])) a=Ve (.dK (frK at_ rank aE cost fc)):=ag aR (ag ta.symm hF);have q:=q t ht;unfold pA at q;generalize upd (upd H t (.tup [.str "else"])) g.LR (.lst (d.rows++[.ref t]))=H1 at hF1 q⊢;try dsimp only
 refine aq λM2 K2=>dgk hF1 rfl ⟨_,cW.k (k:=.inr "first") hF1 (show 5<sizeLine by decide),K2 _ _ ?_⟩;rw[show Vj (frK at_ rank aE cost fc) (.inr "first") (.int cost)=frK at_ rank aE cost (Ve cost)from rfl];try dsimp only
 refine⟨_,cW.k (k:=.inr "cost") aj (show 5<sizeLine by decide),?_⟩;rw[show Vj (frK at_ rank aE cost (Ve cost)) (.inr "cost") (.int 0)=frK at_ rank aE 0 (Ve cost)from rfl,lD];exact q
end
end
section
variable{P:Program}{w:O7}{K:OZ}{mg:Str->Option OX}{base:Pk}{A:Adr}{g:Gc}{d:Gd}{H:Hp}
theorem IV(h:∀e∈dd,0<=e.sp)(r:Lr):0<=uh dd r:=by
 cases r with
 |call i ts=>
  show 0<=(match dd.find? (λd=>decide (d.nm=i))with
   |some d=>1+d.sp
   |none=>1)
  cases e:dd.find? (λd=>decide (d.nm=i))with
  |none=>exact(by decide:(0:Int)<=1)
  |some x=>
   have:=h x (Rt e);show 0<=1+x.sp;omega
 |_=>exact(by decide:(0:Int)<=1)
mutual
theorem Fs(O:∀e∈dd,0<=e.sp):∀(t:Tr){h:Int},0<=h->t.ok ns tg dd->0<=oW dd h t
 | .leaf r,h,h0,_=>MT h0 (IV O r)
 | .iff v l r f o,h,h0,k=>by
  have a:=kG O f h0 k.2.2.2.1;have b:=kG O o h0 k.2.2.2.2;have l0:=k.2.1;have r0:=k.2.2.1;have:=MT h0 (show 0<=1+1*(l+r) by omega);unfold oW;omega
 | .loop t m l r b,h,h0,k=>by
  have m1:=k.2.1;have l0:=k.2.2.2.1;have r0:=k.2.2.2.2.1;have a:=kG O b (MT h0 (show 0<=m by omega)) k.2.2.2.2.2;have:=MT h0 (show 0<=1+m*(l+r) by have:=MT (show 0<=m by omega) (show 0<=l+r by omega);omega);unfold oW;omega
theorem kG(O:∀e∈dd,0<=e.sp):∀(ts:List Tr){h:Int},0<=h->eE ns tg dd ts->0<=cJ dd h ts
 | [],_,_,_=>MF _
 |t::ts,h,h0,k=>by
  have a:=Fs O t h0 k.1;have b:=kG O ts h0 k.2;unfold cJ;omega
end
noncomputable def nj(f:Fz)(l r:Int):Tr:=match f.bk with
 | .iff v=>.iff v l r (f.fst.getD []) f.rows
 | .loop t m=>.loop t m l r f.rows
theorem CL(h1:dTs f.rows<=n)(h2:∀t,f.fst=Ve t->dTs t<=n):dT (nj f l r)<=n+1:=by
 have h3:dTs (f.fst.getD [])<=n:=by
  cases e:f.fst with
  |none=>exact MB _
  |some t=>exact h2 t e
 unfold nj;cases f.bk with
 |iff v=>simp only[dT];omega
 |loop t m=>simp only[dT];omega
def VJ(f:Fz):Prop:=∀v,f.bk=.iff v->∃t,f.fst=Ve t
theorem Ck(h:VJ f)(lp:∀t m,f.bk=.loop t m->f.fst=Vf):flat (nj f l r)=f.bk.lr l r::(f.gW++[.fin]):=by
 unfold nj Fz.gW;cases e:f.bk with
 |iff v=>
  obtain⟨t,et⟩:=h v e;rw[et];simp[flat,Bk.lr,Bw]
 |loop t m=>
  rw[lp t m e];simp[flat,Bk.lr,Bw]
theorem E7(F:JZ g f)(h:VJ f)(l0:0<=l)(r0:0<=r):(nj f l r).ok g.ns g.tg g.dd:=by
 have bk:=F.bk;unfold nj;cases e:f.bk with
 |iff v=>
  rw[e]at bk;obtain⟨t,et⟩:=h v e;rw[et];exact⟨bk,l0,r0,F.fst t et,F.rows⟩
 |loop t m=>
  rw[e]at bk;exact⟨bk.1,bk.2.1,bk.2.2,l0,r0,F.rows⟩
theorem By(hf:VJ f)(lp:∀t m,f.bk=.loop t m->f.fst=Vf):oW g.dd h (nj f f.l f.r)=h*(1+f.bk.m*(f.l+f.r))+pE g.dd (h*f.bk.m) f.fst+cJ g.dd (h*f.bk.m) f.rows:=by
 unfold nj;cases e:f.bk with
 |iff v=>
  obtain⟨t,et⟩:=hf v e;rw[et];simp[oW,Bk.m,pE]
 |loop t m=>
  rw[lp t m e];simp[oW,Bk.m,pE]
noncomputable def mV(d:Gd)(us:List OW)(fs:List Fz):Gd:={ d with as:=us,fz:=fs }
theorem Fq(ok:zE g d)(O:jI g)(ez:d.fz=fs++[f])(ea:d.as=us++[a]):zE g (mV d us fs):=by
 have hh:=ok.hf;rw[ez]at hh;have fl:=ok.fl;rw[ez,Mn]at fl;simp only[MS]at fl;have F:=ok.fz f (by rw[ez];simp);have rl:=ok.rl;have di:=ok.dp.2;rw[ez]at di;have sub:(d.M g).Nodup:=ok.nd;refine⟨?_,ok.mks,ok.ml,ok.bs,ok.bc,λx hx=>ok.fz x (by rw[ez];exact MN _ hx),by show fs.length<=3;omega,hh.inv.1,λx hx=>ok.h36 x (by rw[ez];exact MN _ hx),λe=>?_,ok.sp,?_,⟨ok.dp.1,di.inv.1⟩⟩
 ·unfold Gd.M at sub⊢;rw[ea]at sub;show(g.S::g.LR::d.lo::d.a0::us).Nodup;rw[show g.S::g.LR::d.lo::d.a0::(us++[a])=(g.S::g.LR::d.lo::d.a0::us)++[a]from rfl]at sub;exact(MP.mp sub).1
 ·have p:=ok.pay e;rw[ez,dD]at p;have sp:∀e∈g.dd,0<=e.sp:=λe he=>(O.dv e he).2.2.1;have h0:0<=cP 1 fs:=by
   have h36:=(ok.h36 f (by rw[ez];simp)).1;rw[hh.inv.2]at h36;have mb:1<=f.bk.m:=by
    have:=F.bk;cases eb:f.bk with
    |iff v=>exact(show(1:Int)<=1 by decide)
    |loop t m=>rw[eb]at this;exact this.2.1
   rcases Int.lt_or_le (cP 1 fs) 0 with z|z
   ·have:=Nu (show cP 1 fs<=0 by omega) (show 0<=f.bk.m by omega);omega
   exact z
  have mb:0<=f.bk.m:=by
   have:=F.bk;cases eb:f.bk with
   |iff v=>exact(show(0:Int)<=1 by decide)
   |loop t m=>rw[eb]at this;have:=this.2.1;show 0<=m;omega
  have hm:=MT h0 mb;have a1:=kG sp f.rows hm F.rows;have a2:0<=pE g.dd (cP 1 fs*f.bk.m) f.fst:=by
   cases ef:f.fst with
   |none=>exact MF _
   |some t=>exact kG sp t hm (F.fst t ef)
  have a3:=MT h0 (show 0<=1+f.bk.m*(f.l+f.r) by have:=MT mb (show 0<=f.l+f.r by have:=F.l0;have:=F.r0;omega);omega);show cJ g.dd 1 d.bs+lM g.dd 1 fs<=d.spent;omega
 have e1:Gd.lrs g (mV d us fs)=g.pre++aZ d.bs++bw fs:=rfl;have e2:d.lrs g=(g.pre++aZ d.bs++bw fs)++bw [f]:=by
  unfold Gd.lrs;rw[ez,dC,MK (g.pre++aZ d.bs)]
 rw[e1];have e3:(d.lrs g).length=(g.pre++aZ d.bs++bw fs).length+(bw [f]).length:=by rw[e2,Mn (bs:=bw [f])]
 have e4:d.fz.length=fs.length+1:=by rw[ez];simp
 rw[e3,e4]at rl;show(g.pre++aZ d.bs++bw fs).length+2*fs.length<=1000;omega
end
section
variable{P:Program}{w:O7}{K:OZ}{mg:Str->Option OX}{base:Pk}{A:Adr}{g:Gc}{d:Gd}{H:Hp}
seal PE PA PS PSs PT PW
theorem Bs(ez:d.fz=fs++[f]):d.lrs g=(g.pre++aZ d.bs++bw fs)++f.op::f.gW:=by
 unfold Gd.lrs;rw[ez,dC,MK (g.pre++aZ d.bs)];simp[bw]
theorem yB{α:Type}(xs:List α)(x:α):(xs++[x])[(xs++[x]).length-1]?=Ve x:=by simp
inductive vj(vs:List V)(H:Hp)(Q:VK)(Z:XK):Prop
 |mk(g:Gc)(d:Gd):vs=[.ref g.S]->jI g->BAt g H d->d.fz≠[]->mu g d+3<=1000->(∀(d':Gd)(H':Hp),Go (d.M g) H (d'.M g) H'->BAt g H' d'->mu g d'<=mu g d->d'.fz.length+1=d.fz.length->Q .non H')->vj vs H Q Z
theorem xB(T:Txt K mg A):T.oU.Hz P w base 2 vj:=by
 refine T.oU.hs (k:=1) du (λf cdv A' outer s H vs Q E hr hu h=>?_);obtain⟨g,d,rfl,O,B,ne,m3,q⟩:=h;obtain⟨fs,f,ez⟩:∃fs f,d.fz=fs++[f]:=(mI d.fz).resolve_left ne;obtain⟨us,a,ea,pu,fa⟩:=B.dy.wx ez;obtain⟨n1,n2,n3,n4⟩:=jw B.ok.nd;have ma:a∈d.a0::d.as:=by rw[ea];simp
 obtain⟨aS,aR,aO⟩:=n4 a ma;have rl:d.rows.length+3<=1000:=by
  have:=O3 B.hr;unfold mu at m3;omega
 have lb:(g.pre++aZ d.bs++bw fs).length=d.b g+(bw fs).length:=by
  unfold Gd.b;rw[Mn (bs:=bw fs)]
 obtain⟨at_,hat⟩:∃at_,at_=d.b g+(bw fs).length:=⟨_,rfl⟩;rw[<-hat]at fa lb;have gx:(d.lrs g)[at_]?=Ve f.op:=by
  rw[Bs ez,<-lb];simp
 obtain⟨rv,hrv,hrw⟩:∃rv,d.rows[at_]?=Ve rv/\bX g.N (del (d.M g) H) rv f.op:=by
  have hl:=O3 B.hr;have:at_<d.rows.length:=by
   rw[hl];exact(Ml.mp gx).1
  obtain⟨y,h1,h2⟩:=bb B.hr (Mh this);rw[gx]at h1;cases h1;exact⟨_,Mh this,h2⟩
 obtain⟨ra,rp,rfl,hra,hrp⟩:=hrw;have LL:(V.ref d.a0::d.as.map V.ref).dropLast=V.ref d.a0::us.map V.ref:=by
  rw[ea,MI];exact Sz (l₁:=V.ref d.a0::us.map V.ref)
 refine⟨_,(ab (pst 1 du.nd (GH (px hu (fv 0) ak)))
 (ab (pst 2 du.nd (px hu (fv 0) ak))
 (ab (pst 3 du.nd (px hu (fv 2) (px hu (fv 1) ak)))
 (ab (aP (PW.pt (pw_and (ptc (bh hu) (px hu (fv 3) ae) ak) (pw_and1 (ptc vP (px hu (fv 1) ak) dF))))
  (ah (aK (ar (EW T) hr (fv 0^fv 1^af))))
  aD)
 (ab (pst 4 du.nd ae)
 (ab (aP (PW.pt (pw_and (bR (px hu (fv 0) ak) (λ_=>rfl)) (pw_and1 (ptc (bh hu) (px hu (fv 3) ae) ak))))
  (ab (pst 4 du.nd (ax bo (px hu (fv 3) ae) (pcB Ax T.qI (px hu (fv 1) ak^px hu (fv 1) ak^af))))
  (ah (bA (bf (ak^px hu (fv 3) ae^ax pP (fv 4) (px hu (fv 1) ak)^ax pP (fv 4) (px hu (fv 1) ak)^af)) (bz (fv 2) (px hu (fv 1) ak) (bB hu Vi)))))
  (ah (aP (bR (px hu (fv 0) ak) (λ_=>rfl))
   (ab (bA (ax wG (cw dS (fv 3) gH (bH ae)) (bf (ax bo (px hu (fv 1) ak) (px hu (fv 3) ae)^af))) (bz (fv 2) (px hu (fv 1) ak) (bB hu Vi)))
   (ah (pst 4 du.nd (ax dw (px hu (fv 3) ae) (ax bo (px hu (fv 1) ak) (px hu (fv 3) ae))))))
   aD)))
 (ab (aK (cN (fv 2) (bf (ak^af)^af)))
 (ah (bA (ax bo (px hu (px hu (px hu (fv 0) ak) (iW fq ae)) ak) (fv 4)) (bz (px hu (px hu (fv 0) ak) (iW fq ae)) ak (bB hu Vi))))))))))),?_⟩
 refine aq λM1 K1=>dgk B.dy.hS rfl ⟨Mt ⟨rfl,_,SqL.of B.dy.hO⟩,_,_,.ref a,rfl,rfl,B.dy.hO,(by rw[ea,MI];exact yB (V.ref d.a0::us.map V.ref) (V.ref a)),K1 _ _ ?_⟩;rw[LL];obtain⟨L,hL⟩:∃L,L=HO.lst (V.ref d.a0::us.map V.ref):=⟨_,rfl⟩;rw[<-hL];have hS1:upd H d.lo L g.S=Ve (.dK (stK g d)):=ag n2 B.dy.hS;have hR1:upd H d.lo L g.LR=Ve (.lst d.rows):=ag n3 B.dy.hR;have hF1:upd H d.lo L a=Ve (.dK (frK at_ f.rank f.aE f.cost f.fc)):=ag aO fa;have raM:ra∉d.M g:=(bq hra).1;have raO:ra≠d.lo:=λz=>raM (by rw[z];exact inO g d);have hra1:upd H d.lo L ra=Ve (.tup (.str f.op.w::f.op.tl g.N rp)):=ag raO (bq hra).2;try dsimp only
 refine aq λM2 K2=>dgk hS1 rfl (K2 _ _ ?_);try dsimp only
 refine aq λM3 K3=>dgk hF1 rfl (lix (SqL.of hR1) (dA hrv) (K3 _ _ ?_));try dsimp only
 refine aq λM4 K4=>?_;have rest:∀(He:Hp)(de:Gd)(fe:Fz),BAt g He de->de.fz=fs++[fe]->de.as=us++[a]->de.M g=d.M g->de.lo=d.lo->de.a0=d.a0->de.b g=d.b g->fe.bk=f.bk->fe.l=f.l->fe.r=f.r->VJ fe->de.rows[at_]?=Ve (.ref ra)->Go (d.M g) H (d.M g) He->mu g de<=mu g d+1->M4 [Ve (.ref g.S),Ve (.ref a),Ve (.ref g.LR),Ve (.ref ra),Vf] (upd He d.lo L):=λHe de fe Be eze eae eM elo ea0 eb ebk el er full hrve goe mue=>K4 _ _ (by
  have Fe:=Be.ok.fz fe (by rw[eze];simp);obtain⟨us',a',ea',pu',fa'⟩:=Be.dy.wx eze;rw[eae]at ea';obtain⟨eu,ex⟩:=Uu ea' rfl;cases ex;subst eu;rw[eb,<-hat]at fa';rw[eb]at pu';have lrse:de.lrs g=(g.pre++aZ de.bs++bw fs)++fe.op::fe.gW:=Bs eze;have lbe:(g.pre++aZ de.bs++bw fs).length=at_:=by
   rw[hat,<-eb];unfold Gd.b;rw[Mn (bs:=bw fs)]
  have rle:de.rows.length+2<=1000:=by
   have:=O3 Be.hr;unfold mu at mue m3;rw[eze,ez]at mue;simp only[Mn,MS]at mue;omega
  have gxe:(de.lrs g)[at_]?=Ve fe.op:=by
   rw[lrse,<-lbe];simp
  obtain⟨y,hy1,hy2⟩:=bb Be.hr hrve;rw[gxe]at hy1;cases hy1;obtain⟨ra',rp',e0,hra',hrp'⟩:=hy2;cases e0;rw[eM]at hra' hrp';have hS2:upd He d.lo L g.S=Ve (.dK (stK g de)):=ag n2 Be.dy.hS;have hR2:upd He d.lo L g.LR=Ve (.lst de.rows):=ag n3 Be.dy.hR;have hF2:upd He d.lo L a=Ve (.dK (frK at_ fe.rank fe.aE fe.cost fe.fc)):=ag aO fa';have hra2:upd He d.lo L ra=Ve (.tup (.str fe.op.w::fe.op.tl g.N rp')):=ag raO (bq hra').2;have hO2:upd He d.lo L d.lo=Ve L:=aj;have go2:Go (d.M g) He (d.M g) (upd He d.lo L):=Go.at (inO g d) _;have D0:qv (upd He d.lo L) g (mV de us fs):=⟨hS2,hR2,(by show upd He d.lo L de.lo=_;rw[elo,hO2,hL];show _=Ve (HO.lst (V.ref de.a0::us.map V.ref));rw[ea0]),ag (by show de.a0≠d.lo;rw[ea0];exact(n4 _ Mg).2.2) Be.dy.h0,(by
   show Paired _ us ((ats (de.b g) fs).zip fs);rw[eb];exact Paired.xM pu' λx hx y e=>ag (n4 x (by rw[ea];simp[hx])).2.2 e)⟩
  have ok0:zE g (mV de us fs):=Fq Be.ok O eze eae;obtain⟨pa,pat,prk,pht,pc,pfc,T0⟩:=Jd D0 ok0 O;have pam:pa∈d.a0::us:=by
   have:=T0.last;have e2:(mV de us fs).a0=d.a0:=ea0;have e3:(mV de us fs).as=us:=rfl;rw[e2,e3]at this;unfold atI at this;obtain⟨j,_,hj⟩:=Option.bind_eq_some_iff.mp this;have hm:=Mr hj;rcases Mf.mp hm with z|z
   ·cases z;exact Mg
   obtain⟨u,hu1,hu2⟩:=Mz.mp z;cases hu2;exact Mi _ hu1
  have pam':pa∈d.a0::d.as:=by
   rcases Mf.mp pam with z|z
   ·exact z▸Mg
   rw[ea];simp[z]
  obtain⟨pS,pR,pO⟩:=n4 pa pam';refine aq λN1 J1=>J1 _ _ ?_;try dsimp only
  refine aq λN2 J2=>?_;have fin:∀(H3:Hp)(rows3:List V)(cst l' r':Int),Go (d.M g) (upd He d.lo L) (d.M g) H3->H3 g.S=Ve (.dK (stK g de))->H3 d.lo=Ve L->H3 g.LR=Ve (.lst rows3)->(∀x∈d.a0::us,H3 x=upd He d.lo L x)->(∀x∈d.M g,H3 x≠Vf)->rows3.length=de.rows.length->Paired (bX g.N (del (d.M g) H3)) rows3 ((g.pre++aZ de.bs++bw fs)++f.bk.lr l' r'::fe.gW)->0<=cst->0<=l'->0<=r'->(g.ev=false->l'=f.l/\r'=f.r)->N2 [Ve (.ref g.S),Ve (.ref a),Ve (.ref g.LR),Ve (.ref ra),Ve (.int cst)] H3:=λH3 rows3 cst l' r' go3 hS3 hO3 hR3 ot3 al3 rl3 hr3 c0 l0 r0 evf=>J2 _ _ (by
   refine aq λN3 J3=>⟨Mt ⟨rfl,_,SqL.of hR3⟩,by show 1<=sizeLine;decide,λte hte=>?_⟩;have teR:te≠g.LR:=Vh hte hR3;have teS:te≠g.S:=Vh hte hS3;have teO:te≠d.lo:=Vh hte hO3;refine⟨_,_,_,rfl,rfl,ag teR.symm hR3,ay (),J3 _ _ ?_⟩;have hp3:H3 pa=Ve (.dK (frK pat prk pht pc pfc)):=by rw[ot3 pa pam];exact T0.fr
   have tep:te≠pa:=Vh hte hp3;obtain⟨H5,hH5⟩:∃H5,H5=upd (upd H3 te (.tup [.str "end"])) g.LR (.lst (rows3++[.ref te])):=⟨_,rfl⟩;rw[<-hH5];have hS5:H5 g.S=Ve (.dK (stK g de)):=by rw[hH5];exact ag n1 (ag teS.symm hS3)
   have hO5:H5 d.lo=Ve L:=by rw[hH5];exact ag n3.symm (ag teO.symm hO3)
   have hp5:H5 pa=Ve (.dK (frK pat prk pht pc pfc)):=by rw[hH5];exact ag pR (ag tep.symm hp3)
   have go5:Go (d.M g) H3 (d.M g) H5:=by rw[hH5];exact(Go.new (ao.upd hte _)).trans (Go.at (inR g d) _)
   have pl:=T0.last;rw[show(mV de us fs).a0=d.a0 from ea0,show(mV de us fs).as=us from rfl]at pl;have hO5':=hO5;rw[hL]at hO5';have gO:c9 H5 g.S (.str "open") (Ve (.ref d.lo)):=by
    have:=c9.k (k:=.inr "open") hS5;rw[show L2.eX (stK g de) (.inr "open")=Ve (.ref de.lo)from rfl,elo]at this;exact this
   try dsimp only
   refine⟨_,gO,_,rfl,(lix (SqL.of hO5') pl (dgk hp5 rfl ⟨_,gO,_,rfl,(lix (SqL.of hO5') pl ⟨_,cW.k (k:=.inr "cost") hp5 (show 5<sizeLine by decide),?_⟩)⟩))⟩;rw[show Vj (frK pat prk pht pc pfc) (.inr "cost") (.int (pc+cst))=frK pat prk pht (pc+cst) pfc from rfl];have M0:∀x∈Gd.M g (mV de us fs),x∈d.M g:=λx hx=>by
    have hx:x∈g.S::g.LR::de.lo::de.a0::us:=hx;rw[elo,ea0]at hx;unfold Gd.M;rw[ea];simp only[Mf,Mp,Mq,Ms,or_false]at hx⊢;rcases hx with z|z|z|z|z
    ·exact .inl z
    ·exact .inr (.inl z)
    ·exact .inr (.inr (.inl z))
    ·exact .inr (.inr (.inr (.inl z)))
    exact .inr (.inr (.inr (.inr (.inl z))))
   have go6:Go (d.M g) H5 (Gd.M g (mV de us fs)) (upd H5 pa (.dK (frK pat prk pht (pc+cst) pfc))):=(Go.at (show pa∈d.M g by
    rcases Mf.mp pam' with z|z
    ·exact z▸in0 g d
    exact inA g d z) _).to λx hx=>.inl (M0 x hx)
   have goF:Go (d.M g) He (Gd.M g (mV de us fs)) (upd H5 pa (.dK (frK pat prk pht (pc+cst) pfc))):=((go2.trans go3).trans go5).trans go6;obtain⟨H6,hH6⟩:∃H6,H6=upd H5 pa (.dK (frK pat prk pht (pc+cst) pfc)):=⟨_,rfl⟩;rw[<-hH6]at go6 goF⊢;have Hbk:f.bk=fe.bk:=ebk.symm;have fl:=Ck (f:=fe) (l:=l') (r:=r') full Fe.lp;have lr0:Gd.lrs g (mV de us fs)=g.pre++aZ de.bs++bw fs:=rfl;have s35:=(go5.trans go6).same;have hte5:del (Gd.M g (mV de us fs)) H6 te=Ve (.tup [.str "end"]):=by
    refine aQ (λz=>?_) ?_
    ·have:=M0 te z;exact al3 te this hte
    rw[hH6,aw tep,hH5,aw teR,aj]
   have hr6:Paired (bX g.N (del (Gd.M g (mV de us fs)) H6)) (rows3++[.ref te]) (Gd.lrs g (mV de us fs)++flat (nj fe l' r')):=by
    rw[fl,lr0,show g.pre++aZ de.bs++bw fs++(fe.bk.lr l' r'::(fe.gW++[Lr.fin]))=(g.pre++aZ de.bs++bw fs++(fe.bk.lr l' r'::fe.gW))++[Lr.fin] by simp];refine Pm ⟨te,0,rfl,hte5,λo ho=>by cases ho⟩ ?_;rw[<-Hbk];exact Paired.cI hr3 λ_ _=>bX.same s35
   have hS6:H6 g.S=Ve (.dK (stK g de)):=by rw[hH6];exact ag pS.symm hS5
   have hR6:H6 g.LR=Ve (.lst (rows3++[.ref te])):=by rw[hH6,aw pR.symm,hH5,aj]
   have hO6:H6 d.lo=Ve L:=by rw[hH6];exact ag pO.symm hO5
   have ot6:∀x∈d.a0::us,x≠pa->H6 x=upd He d.lo L x:=λx hx ne=>by
    have xm:x∈d.a0::d.as:=by
     rcases Mf.mp hx with z|z
     ·exact z▸Mg
     rw[ea];simp[z]
    have xe:x≠te:=λz=>by
     have:=al3 x (by
      rcases Mf.mp xm with z|z
      ·exact z▸in0 g d
      exact inA g d z)
     rw[z]at this;exact this hte
    rw[hH6,aw ne,hH5,aw (n4 x xm).2.1,aw xe];exact ot3 x hx
   have sF:=goF.same;rw[<-eM]at sF;have ln:(Gd.lrs g (mV de us fs)++flat (nj fe l' r')).length=(de.lrs g).length+1:=by
    rw[fl,lr0,lrse];simp only[Mn,MD,Ow];omega
   have fzl:de.fz.length=fs.length+1:=by rw[eze];simp
   have fzl':d.fz.length=fs.length+1:=by rw[ez];simp
   have z0:(mV de us fs).fz.length=fs.length:=rfl;obtain⟨d',M',B',mu',fl'⟩:=Gq (H':=H6) (nd:=nj fe l' r') (rows':=rows3++[.ref te]) (cst:=cst) (Be.st.same sF) (sF _ _ Be.hm) D0 ok0 T0 hS6 hR6 (by
    show H6 de.lo=Ve (.lst (.ref de.a0::us.map V.ref));rw[elo,ea0,hO6,hL]) (by rw[hH6];exact aj) (λx hx ne=>ot6 x (by rw[<-ea0];exact hx) ne) c0 (E7 Fe full l0 r0) (λev=>by
    obtain⟨e1,e2⟩:=evf ev;have p:=Be.ok.pay ev;rw[eze,dD]at p;rw[e1,e2,<-el,<-er,By full Fe.lp];show cJ g.dd 1 de.bs+lM g.dd 1 fs+_<=de.spent;show cJ g.dd 1 de.bs+lM g.dd 1 fs+(cP 1 fs*(1+fe.bk.m*(fe.l+fe.r))+pE g.dd (cP 1 fs*fe.bk.m) fe.fst+cJ g.dd (cP 1 fs*fe.bk.m) fe.rows)<=de.spent;omega) hr6 (by
    rw[ln,z0];unfold mu at mue m3;omega) (by
    have di:=Be.ok.dp.2;rw[eze]at di;have di:=di.inv;have nf:=CL (l:=l') (r:=r') di.2.1 di.2.2;have f3:=Be.ok.fl;rw[eze,Mn,MS]at f3;rw[z0];omega)
   refine q d' H6 ?_ B' ?_ ?_
   ·rw[M'];exact goe.trans goF
   ·rw[mu',ln,z0];unfold mu at mue⊢;omega
   rw[fl',z0,fzl'])
  have alE:∀x∈d.M g,upd He d.lo L x≠Vf:=λx hx e=>by
   by_cases z:x=d.lo
   ·rw[z,aj]at e;cases e
   rw[aw z]at e;exact Be.al x (by rw[eM];exact hx) e
  have hr2:Paired (bX g.N (del (d.M g) (upd He d.lo L))) de.rows (de.lrs g):=by
   have:=Be.hr;rw[eM]at this;exact Paired.cI this λ_ _=>bX.same go2.same
  have gE:∀{H':Hp},H' g.S=Ve (.dK (stK g de))->c9 H' g.S (.str "even") (Ve (.bl g.ev)):=λh=>c9.k (k:=.inr "even") h;have ev:¬ g.ev=true:=by rw[O.ev];decide
  have goA:=fin (upd He d.lo L) de.rows 0 f.l f.r (Go.refl _ _) hS2 hO2 hR2 (λ_ _=>rfl) alE rfl (by
   rw[lrse]at hr2;have:fe.op=f.bk.lr f.l f.r:=by unfold Fz.op;rw[ebk,el,er]
   rw[this]at hr2;exact hr2) (MF _) (by rw[<-el];exact Fe.l0) (by rw[<-er];exact Fe.r0) λ_=>⟨rfl,rfl⟩
  refine⟨_,gE hS2,_,rfl,ba (λc=>absurd c ev) (λ_=>bu ?_)⟩;exact⟨_,gE hS2,_,rfl,ba (λc=>absurd c ev) (λ_=>goA)⟩)
 have Ff:=B.ok.fz f (by rw[ez];simp);cases hbk:f.bk with
 |iff v=>
  have eop:f.op=.iff v f.l f.r:=by unfold Fz.op;rw[hbk];rfl
  rw[eop]at hra1;refine Mt ⟨_,_,MJ (SqT.of hra1),rfl,rfl,_,rfl,dz ?_⟩;cases ef:f.fst with
  |some tf=>
   obtain⟨ff,eff⟩:∃ff,f.fc=Ve ff:=by
    cases e:f.fc with
    |none=>rw[Ff.fc.mp e]at ef;cases ef
    |some n=>exact⟨n,rfl⟩
   have hF1':=hF1;rw[eff]at hF1';exact dgk hF1' rfl ⟨rfl,_,rfl,bu (rest H d f B ez ea rfl rfl rfl rfl rfl rfl rfl (λv' _=>⟨tf,ef⟩) hrv (Go.refl _ _) ())⟩
  |none=>
   have efc:f.fc=Vf:=Ff.fc.mpr ef;have hF1':=hF1;rw[efc]at hF1';refine dgk hF1' rfl ⟨rfl,_,rfl,dz ⟨g,d,a,at_,f.rank,f.aE,f.cost,Vf,rfl,hS1,hR1,(),hF1',aS,aR,n1,λt ht=>?_⟩⟩;have tO:t≠d.lo:=λz=>by rw[z,aj]at ht;cases ht
   have ht0:H t=Vf:=by rw[aw tO]at ht;exact ht
   have eq:pA (upd H d.lo L) g d t a at_ f.rank f.aE f.cost=upd (pA H g d t a at_ f.rank f.aE f.cost) d.lo L:=by
    unfold pA;rw[lZ (x:=d.lo) (y:=t) tO.symm,lZ (x:=d.lo) (y:=g.LR) n3.symm,lZ (x:=d.lo) (y:=a) aO.symm]
   rw[eq];have Be:=B.els ez ea hbk ef ht0 m3;rw[<-hat]at Be;have goe:Go (d.M g) H (d.M g) (pA H g d t a at_ f.rank f.aE f.cost):=((Go.new (ao.upd ht0 _)).trans (Go.at (inR g d) _)).trans (Go.at (inA g d (by rw[ea];simp)) _);have lrl:(Gd.lrs g { d with rows:=d.rows++[.ref t],fz:=fs++[qK f] }).length=(d.lrs g).length+1:=by
    have h1:=O3 Be.hr;have h2:=O3 B.hr;rw[<-h1,<-h2];simp
   refine rest _ { d with rows:=d.rows++[.ref t],fz:=fs++[qK f] } (qK f) Be rfl ea rfl rfl rfl rfl rfl rfl rfl (λv' _=>⟨f.rows,rfl⟩) ?_ goe ?_
   ·show(d.rows++[V.ref t])[at_]?=_;rw[Nn (Ml.mp hrv).1];exact hrv
   unfold mu;rw[lrl];dsimp only;rw[ez];simp only[Mn,MS];omega
 |loop th m=>
  have eop:f.op=.loop th m f.l f.r:=by unfold Fz.op;rw[hbk];rfl
  rw[eop]at hra1;exact Mt ⟨_,_,MJ (SqT.of hra1),rfl,rfl,_,rfl,bu (bu (rest H d f B ez ea rfl rfl rfl rfl rfl rfl rfl (λv' z=>by rw[hbk]at z;cases z) hrv (Go.refl _ _) ()))⟩
theorem AO:∀{dd:List Dl}{e:Dl},(dd.map Dl.nm).Nodup->e∈dd->dd.find? (λd=>decide (d.nm=e.nm))=Ve e
 |x::r,e,nd,m=>by
  rw[Mv]at nd;obtain⟨n1,n2⟩:=Mx.mp nd;rw[Na];rcases Mf.mp m with rfl|m
  ·rw[decide_eq_true rfl]
  rw[decide_eq_false (λz=>n1 (by rw[z];exact N0 m))];exact AO n2 m
inductive uS(K:OZ)(vs:List V)(H:Hp)(Q:VK)(Z:XK):Prop
 |mk(g:Gc)(d:Gd)(c:Int)(lo:Bool):vs=[.ref g.S,.int c,.bl lo]->jI g->BAt g H d->mu g d+3<=1000->CQ g d H Q .non->uS K vs H Q Z
theorem De(T:Txt K mg A):T.oA.Hz P w base 6 (uS K):=by
 refine T.oA.hs (k:=5) cO (λf cdv A' outer s H vs Q E hr hu h=>?_);obtain⟨g,d,c,lo,rfl,O,B,m3,q⟩:=h;obtain⟨a,at_,rank,aE,cost,fc,T1⟩:=B.top O;have vb:∀j∈g.vk,j<25:=λj hj=>(O.vb j hj).1;have dl:=O.dl;have dvk:∀i∈g.dd.map Dl.nm,i∈g.vk:=λi hi=>by
  obtain⟨e,he,rfl⟩:=Mz.mp hi;exact(O.dv e he).1
 refine⟨_,(ab (pst 3 cO.nd (px hu (px hu (fv 0) ak) (iW fq ae)))
 (ab (pst 4 cO.nd (ar (uT T) hr (fv 0^pcT rC T.dY (px hu (fv 0) ak^af)^fv 2^px hu (fv 3) ak^ae^af)))
 (ab (aP (ptc (bh hu) (pcB bQ T.cB (fv 4^af)) ae)
  (ab (aK (ar (rF T) hr (fv 0^fv 1^ae^fv 2^af)))
  (ah (xn)))
  aD)
 (ab (pst 5 cO.nd (px hu (fv 4) (ar (mE T) hr (fv 1^ae^pcB bQ T.cB (fv 4^af)^af))))
 (ab (pst 6 cO.nd (px hu (px hu (fv 0) ak) (fv 5)))
 (ab (pst 7 cO.nd (bI af))
 (ab (cR O9 rfl (cA (px hu (fv 6) ae)) (pgn (i:=8) cO.nd rfl)
  (ab (pst 9 cO.nd (px hu (bI (px hu (px hu (fv 0) ak) (fv 8)^ae^af)) (pcT qu T.oe (fv 2^af))))
  (ah (aK (cN (fv 7) (ar (oX T) hr (fv 0^fv 1^ax bo ae (pcB bQ T.cB (fv 7^af))^fv 9^af)^af))))))
 (ah (aP (bR (ar (xA T) hr (fv 0^bf (ak^fv 5^fv 7^af)^ax bo ae (px hu (fv 6) ae)^af)) (λ_=>rfl))
  (ah (bA (ax bo (px hu (fv 3) ak) (px hu (fv 6) ae)) (bz (fv 3) ak (bB hu Vi))))
  aD))))))))),?_⟩
 refine dgk B.dy.hS rfl ⟨_,rfl,(lix (SqL.of B.dy.hO) T1.last ?_)⟩;try dsimp only
 refine aq λM1 K1=>?_;obtain⟨ts,hd1,hd2⟩:=B.st.hd;refine dgk B.dy.hS rfl (MJ ⟨g.LD,_,rfl,.inl (aC _ _ hd1),λl hl=>?_⟩);have ek:((dk g.N (g.dd.map Dl.nm) λi=>V.ref (ts i)).map λkv=>kV kv.1)=nV g.N (g.dd.map Dl.nm):=by
  unfold dk;rw[NV];rfl
 rw[ek];obtain⟨s1,e1⟩:=alc hl (HO.lst (nV g.N (g.dd.map Dl.nm)));generalize upd H l _=H1 at s1 e1⊢;have B1:=B.same s1;refine dgk (s1 _ _ T1.fr) rfl ⟨g,d,l,lo,rank,2,g.dd.map Dl.nm,rfl,O,B1,SqL.of e1,dvk,by rw[Mj];omega,λD ys H2 s2 hD eD F=>K1 _ _ ?_⟩;have B2:=B1.same s2;have e:(((nV g.N ys).length:Nat):Int)=(ys.length:Int):=by rw[Mj]
 try dsimp only
 refine aq λM2 K2=>lnl eD ⟨rfl,_,rfl,ba (λ_=>⟨g,d,c,0,lo,rfl,O,B2,m3,λd' H' go B' mu'=>q d' H' ((Go.new (s1.trans s2)).trans go) B' mu'⟩) (λz=>K2 _ _ ?_)⟩;have y0:0<ys.length:=by
  rw[qq,decide_eq_true_iff,e]at z;omega
 try dsimp only
 refine aq λM3 K3=>lnl eD ⟨c,0,_,rfl,∅,(by rw[e];omega),λk2 H3 b0 b1 s3=>?_⟩;rw[e]at b1;obtain⟨x,hx,_,hax⟩:=mz (λi=>V.str (g.N i)) b0 b1;refine lix (SqL.of (s3 _ _ eD)) hax ?_;have B3:=B2.same s3;have t3:=(s1.trans s2).trans s3;obtain⟨dl',hdl,rfl⟩:=Mz.mp (F.sub x hx);obtain⟨ts3,hd3,hd4⟩:=B3.st.hd;obtain⟨he1,he2⟩:=hd4 dl' hdl;have he1':=aC _ _ he1;have he2':=aC _ _ he2;obtain⟨dv1,dv2,dv3,dv4,dv5⟩:=O.dv dl' hdl;refine K3 _ _ ?_;try dsimp only
 refine aq λM4 K4=>dgk B3.dy.hS rfl ⟨_,mK O.D (.inl (aC _ _ hd3)) (λj hj=>vb j (dvk j hj)) (N0 hdl),K4 _ _ ?_⟩;try dsimp only
 refine aq λM5 K5=>⟨MB _,λD5 hD5=>?_⟩;have D5M:=B3.free hD5;obtain⟨s5,e5⟩:=alc hD5 (HO.lst []);generalize upd H3 D5 _=H5 at s5 e5⊢;have D5p:D5≠dl'.lp:=Vh hD5 he2';refine K5 _ _ ?_;try dsimp only
 refine aq λM6 K6=>Mt ⟨_,_,MJ (SqT.of (s5 _ _ he1')),rfl,Mt ⟨⟨_,SqL.of (s5 _ _ he2')⟩,dI (K:=K) (xs:=nV g.N dl'.ps) (λi σ Hc=>ao H3 Hc/\(∃ths:List Th,Hc D5=Ve (.lst (ths.map (Th.v g.N)))/\ths.length=i/\∀t∈ths,t.ok g.ns)/\∃v8 v9,σ=[Ve (.ref g.S),Ve (.int c),Ve (.bl lo),Ve (.ref a),Ve (.ref D),Ve (.str (g.N dl'.nm)),Ve (.ref (ts3 dl'.nm)),Ve (.ref D5),v8,v9]) ⟨s5,⟨[],e5,rfl,λ_ z=>(by cases z)⟩,Vf,Vf,rfl⟩ (λi σ Hc _ ⟨sc,_⟩=>SqL.of (sc _ _ he2')) ?_ ?_⟩⟩
 ·rintro i v σ Hc hv ⟨sc,⟨ths,eh,hlen,hok⟩,v8,v9,rfl⟩;have hv':(nV g.N dl'.ps)[i]?=Ve v:=hv;rw[Mu]at hv';obtain⟨pt,hpt,rfl⟩:=Ng.mp hv';have ptv:=dv5 pt (Mr hpt);have il:i<2:=by
   have:=(Ml.mp hpt).1;omega
  have Bc:=B3.same sc;try dsimp only
  refine aq λN1 J1=>dgk Bc.dy.hS rfl ⟨_,mK O.D (.inl (aC _ _ Bc.st.hv)) vb ptv,by show 2<=sizeLine;decide,λl2 hl2=>?_⟩;obtain⟨s6,e6⟩:=alc hl2 (HO.lst [V.int (g.vw pt),.int 2]);generalize upd Hc l2 _=H6 at s6 e6⊢;obtain⟨hi',ehi⟩:∃hi:Int,atI [V.int (g.vw pt),.int 2] (b01 lo)=Ve (.int hi):=by cases lo<;>exact⟨_,rfl⟩
  refine⟨_,rfl,(lix (SqL.of e6) ehi (J1 _ _ ?_))⟩;have B6:=Bc.same s6;have eh6:=s6 _ _ eh;have el:(((ths.map (Th.v g.N)).length:Nat):Int)=(i:Int):=by rw[Mj,hlen]
  try dsimp only
  refine⟨Mt ⟨rfl,_,SqL.of eh6⟩,(lnl eh6 ⟨g,d,c,1+i,hi',(by rw[el];rfl),O,B6,(),λt H7 s7 ht=>⟨_,_,_,rfl,rfl,s7 _ _ eh6,ay (by rw[Mj];omega),ao.out ((sc.trans s6).trans s7) hD5 _,⟨ths++[t],?_,by simp[hlen],λt' ht'=>?_⟩,_,_,rfl⟩⟩)⟩
  ·rw[aj,MI];rfl
  rcases Mp.mp ht' with z|z
  ·exact hok t' z
  rw[Mq.mp z];exact ht
 rintro σ Hc ⟨sc,⟨ths,eh,hlen,hok⟩,v8,v9,rfl⟩;have hlen:ths.length=dl'.ps.length:=by rw[hlen,Mj]
 refine K6 _ _ ?_;have Bc:=B3.same sc;have tc:=t3.trans sc;have he1c:=sc _ _ he1';try dsimp only
 refine⟨by show 3<=sizeLine;decide,λrw' hrw=>?_⟩;have s6:=ao.upd hrw (HO.tup [V.str "call",.str (g.N dl'.nm),.ref D5]);have e6:upd Hc rw' (HO.tup [V.str "call",.str (g.N dl'.nm),.ref D5]) rw'=Ve (.tup [V.str "call",.str (g.N dl'.nm),.ref D5]):=aj;generalize upd Hc rw' _=H6 at s6 e6⊢;have B6:=Bc.same s6;have t6:=tc.trans s6;have T6:=T1.same t6;have go6:Go (d.M g) H (d.M g) H6:=Go.new t6;have hrow:bX g.N (del (d.M g) H6) (.ref rw') (.call dl'.nm ths):=⟨rw',D5,rfl,Bc.new s6 hrw e6,λo ho=>by
  cases ho;exact aQ D5M (s6 _ _ eh)⟩
 refine Mt ⟨_,.int dl'.sp,MJ (SqT.of (s6 _ _ he1c)),rfl,?_⟩;have rl:d.rows.length<=1000:=by
  have:=O3 B6.hr;unfold mu at m3;omega
 have cs:uh g.dd (.call dl'.nm ths)<=1+dl'.sp:=by
  show(match g.dd.find? (λd=>decide (d.nm=dl'.nm))with
   |some d=>1+d.sp
   |none=>1)<=1+dl'.sp
  rw[AO O.dn hdl];exact MF _
 refine⟨g,d,.ref rw',1+dl'.sp,a,at_,rank,aE,cost,fc,rfl,B6.dy,B6.ok.nd,rl,T6,⟨false,rfl,bu (q d H6 go6 B6 ())⟩,λfit=>⟨true,rfl,dz ?_⟩⟩;obtain⟨d7,M7,B7,mu7,_,T7,_⟩:=B6.add O T6 hrow ⟨dl',hdl,rfl,hlen,hok⟩ cs () fit m3;have go7:Go (d.M g) H (d7.M g) (gy H6 g d (.ref rw') (1+dl'.sp) a at_ rank aE cost fc):=by
  rw[M7];exact go6.trans (pI T6)
 have tsM:ts3 dl'.nm∉d.M g:=(bq he1).1;have he7:gy H6 g d (.ref rw') (1+dl'.sp) a at_ rank aE cost fc (ts3 dl'.nm)=Ve (.tup [.ref dl'.lp,.int dl'.sp,.int dl'.co]):=by
  rw[xg (λz=>tsM (by rw[z];exact inS g d)) (λz=>tsM (by rw[z];exact inR g d)) (λz=>tsM (by rw[z];exact T1.mem))];exact s6 _ _ he1c
 generalize gy H6 g d (.ref rw') (1+dl'.sp) a at_ rank aE cost fc=H7 at B7 T7 go7 he7⊢;obtain⟨d8,L8,B8,T8⟩:=B7.bump T7 (c:=cost+1+dl'.co) (by have:=T1.c0;omega);refine dgk T7.fr rfl (Mt ⟨_,_,MJ (SqT.of he7),rfl,_,cW.k (k:=.inr "cost") T7.fr (show 5<sizeLine by decide),q d8 _ ?_ B8 (by unfold mu;rw[L8.lrs,L8.len];exact mu7)⟩);rw[L8.M];exact go7.trans (Go.at T7.mem _)
theorem Dt:∀{fs:List Fz}{b x:Nat},x∈ats b fs->x<b+(bw fs).length
 |f::r,b,x,h=>by
  simp only[ats,Mf]at h;simp only[bw,MD,Mn];rcases h with rfl|h
  ·omega
  have:=Dt h;omega
noncomputable def Jo:Bk->Bool
 | .loop _ _=>true
 | .iff _=>false
noncomputable def lpV(d:Gd)(v:V):Bool:=(d.as.zip d.fz).any λq=>decide (v=.ref q.1)&&Jo q.2.bk
theorem DP(nd:d.as.Nodup)(len:d.as.length=d.fz.length){i:Nat}{a:OW}{f:Fz}(ha:d.as[i]?=Ve a)(hf:d.fz[i]?=Ve f):lpV d (.ref a)=Jo f.bk:=by
 unfold lpV;rw[Nx,Ni];constructor
 ·rintro⟨⟨b,f'⟩,hm,e⟩;rw[NB,decide_eq_true_iff]at e;obtain⟨j,hj⟩:=ME hm;rw[NA]at hj;obtain⟨e1,e2⟩:=e;have eb:a=b:=V.ref.inj e1;obtain⟨la,ea⟩:=Ml.mp ha;obtain⟨lb,eb'⟩:=Ml.mp hj.1;have ij:i=j:=(NW nd).mp (by rw[ea,eb',eb]);rw[<-ij,hf]at hj;cases hj.2;exact e2
 exact λe=>⟨(a,f),Mr (NA.mpr ⟨ha,hf⟩),by rw[decide_eq_true rfl,e];rfl⟩
theorem ym(dy:qv H g d)(m:a∈d.as):∃(i:Nat)(f:Fz),d.as[i]?=Ve a/\d.fz[i]?=Ve f/\H a=Ve (.dK (fzK ((ats (d.b g) d.fz)[i]?.getD 0,f)))/\(ats (d.b g) d.fz)[i]?=Ve ((ats (d.b g) d.fz)[i]?.getD 0):=by
 obtain⟨i,hi⟩:=ME m;obtain⟨⟨x,f⟩,h1,h2⟩:=bb dy.hf hi;rw[NA]at h1;exact⟨i,f,hi,h1.2,by rw[h1.1];exact h2,by rw[h1.1];rfl⟩
theorem G7{i:Nat}:∀{fs:List Fz}{b:List Lr}{f:Fz}{x:Nat},fs[i]?=Ve f->(ats b.length fs)[i]?=Ve x->(b++bw fs)[x]?=Ve f.op:=by
 induction i with
 |zero=>
  intro fs b f x h1 h2;cases fs with
  |nil=>cases h1
  |cons y r=>
   simp only[NN,QH]at h1;simp only[ats,NN,QH]at h2;subst h1 h2;simp[bw]
 |succ i ih=>
  intro fs b f x h1 h2;cases fs with
  |nil=>cases h1
  |cons y r=>
   simp only[Oi]at h1;simp only[ats,Oi]at h2;have:=ih (fs:=r) (b:=b++(y.op::y.gW)) (f:=f) (x:=x) h1 (by rw[show(b++(y.op::y.gW)).length=b.length+1+y.gW.length by simp;omega];exact h2);simpa [bw] using this
theorem zd(h:∀X:St->Hp->Prop,(∀σ H,o D σ H->X σ H)->t σ H λc H1=>if c=true then b D σ H1 else X σ H1):zr t b o D σ H:=h (o D) λ_ _ z=>z
inductive uR(K:OZ)(vs:List V)(H:Hp)(Q:VK)(Z:XK):Prop
 |mk(g:Gc)(d:Gd)(c k:Int)(lo:Bool):vs=[.ref g.S,.int c,.int k,.bl lo]->jI g->BAt g H d->mu g d+3<=1000->CQ g d H Q .non->uR K vs H Q Z
theorem CJ(T:Txt K mg A):T.oF.Hz P w base 6 (uR K):=by
 refine T.oF.hs (k:=5) jD (λf cdv A' outer s H vs Q E hr hu h=>?_);obtain⟨g,d,c,k,lo,rfl,O,B,m3,q⟩:=h;obtain⟨a,at_,rank,aE,cost,fc,T1⟩:=B.top O;obtain⟨nd1,nd2⟩:=xE B.ok.nd;obtain⟨n1,n2,n3,n4⟩:=jw B.ok.nd;have la:=O3 B.dy.hf;rw[Oy,iq,OS]at la;have fl:=B.ok.fl;have rl:d.rows.length<=1000:=by
  have:=O3 B.hr;unfold mu at m3;omega
 refine⟨_,(ab (pst 4 jD.nd (px hu (px hu (fv 0) ak) (iW fq ae)))
 (ab (fR (j:=5) (N:=["_law_one","_law_state"]) (own:=1) (fr:=[0]) (cG.of (by kernel_rfl!)) rfl jD.nd rfl (Mt rfl) (cA (cw dS (px hu (fv 0) ak) (bH ae) gH)) (λb=>pgn (i:=0) (show PC (["_law_one","_law_state"]:List PU) by decide+kernel) rfl) (λb=>lj (ptc (bh hu) (px hu (px hu (px hu (fv 1) ak) (px hu (fv 0) ak)) ae) ak)) (λb=>fv 0))
 (ah (aP (PW.pt (pw_and (ptc (bh hu) (fv 2) ae) (pw_and (ptc rR (pcB bQ T.cB (fv 5^af)) ae) (pw_and1 (PW.pt (pw_or (bR (fv 3) (λ_=>rfl)) (pw_or1 (ptc zp (px hu (fv 4) ak) (px hu (px hu (fv 5) (iW fq ae)) ak)))))))))
  (ah (aK (ar (xA T) hr (fv 0^bf (ak^af)^ae^af))))
  (ah (aP (PW.pt (pw_and (ptc (bh hu) (fv 2) ae) (pw_and (ptc rR (pcB bQ T.cB (px hu (fv 0) ak^af)) ae) (pw_and (ptc (Ec hu) (fv 4) (fv 5) ((by with_unfolding_all rfl))) (pw_and1 (ptc vP (px hu (fv 4) ak) dF))))))
   (ah (aK (ar (EW T) hr (fv 0^fv 4^af))))
   (ah (aP (PW.pt (pw_and (ptc rR (fv 2) ae) (pw_and1 (ptc rR (pcB bQ T.cB (px hu (fv 0) ak^af)) ae))))
    (ah (aK (ar (xB T) hr (fv 0^af))))
    (ah (aK (ar (rF T) hr (fv 0^fv 1^ax bo (ax cF (fv 2) ae) ae^fv 3^af)))))))))))),?_⟩
 refine dgk B.dy.hS rfl ⟨_,rfl,(lix (SqL.of B.dy.hO) T1.last ?_)⟩;try dsimp only
 refine aq λM1 K1=>dgk B.dy.hS rfl ⟨_,rfl,Mt ⟨d.lo,_,rfl,SqL.of B.dy.hO,λl1 hl1=>?_⟩⟩;have ec:hE (V.ref d.a0::d.as.map V.ref) (Ve 1) Vf=d.as.map V.ref:=by
  unfold hE;rw[show HT.sIx (V.ref d.a0::d.as.map V.ref).length 0 (Ve 1)=1 by show min 1 (d.as.map V.ref).length.succ=1;omega];show(d.as.map V.ref).take (d.as.map V.ref).length=_;exact Nc
 rw[ec];obtain⟨s1,e1⟩:=alc hl1 (HO.lst (d.as.map V.ref));generalize upd H l1 _=H1 at s1 e1⊢;have B1:=B.same s1;refine Mt ⟨⟨_,SqL.of e1⟩,fA (K:=K) (lpV d) (λx=>x) (SqL.of e1) (ay (by rw[Mj];omega)) (λb' x H2 R hm s2 kk=>?_) (λb' x H2 R hm hp s2 kk=>kk _ (ao.refl _)) (λD H2 hD s2 eD=>K1 _ _ ?_)⟩
 ·obtain⟨x',hx',rfl⟩:=Mz.mp hm;have B2:=B1.same s2;obtain⟨i,fr,h1,h2,h3,h4⟩:=ym B2.dy hx';rw[DP nd2 () h1 h2]at kk;have gx:=G7 h2 h4 (b:=g.pre++aZ d.bs);have hl:=O3 B2.hr;have li:(ats (d.b g) d.fz)[i]?.getD 0<d.rows.length:=by
   rw[hl];exact(Ml.mp gx).1
  obtain⟨y,y1,y2⟩:=bb B2.hr (Mh li);have gx':(d.lrs g)[(ats (d.b g) d.fz)[i]?.getD 0]?=Ve fr.op:=gx;rw[gx']at y1;cases y1;obtain⟨ra,rp,er,hra,_⟩:=y2;refine dgk B2.dy.hS rfl (dgk h3 rfl (lix (SqL.of B2.dy.hR) (dA (Mh li)) ?_));rw[er];refine Mt ⟨_,.str fr.op.w,MJ (SqT.of (aC _ _ hra)),dA (j:=0) rfl,rfl,_,rfl,?_⟩;have ew:decide (V.str fr.op.w=V.str "loop")=Jo fr.bk:=by
   unfold Fz.op;cases fr.bk<;>rfl
  rw[ew];exact kk _ (ao.refl _)
 obtain⟨bs,hbs⟩:∃bs:List OW,bs=d.as.filter (λa=>lpV d (.ref a)):=⟨_,rfl⟩;have eD':H2 D=Ve (.lst (bs.map V.ref)):=by
  rw[eD,Ox,Ov,hbs];rfl
 have bsub:∀b∈bs,b∈d.as:=λb hb=>by rw[hbs]at hb;exact(MY.mp hb).1
 have B2:=B1.same s2;have t2:=s1.trans s2;have T2:=T1.same t2;have go2:Go (d.M g) H (d.M g) H2:=Go.new t2;have eo:(((V.ref d.a0::d.as.map V.ref).length:Nat):Int)=(d.as.length:Int)+1:=by simp
 have eb:(((bs.map V.ref).length:Nat):Int)=(bs.length:Int):=by rw[Mj]
 clear eD e1 hl1 hD B1 s1 s2;try dsimp only
 have plain:o9 K [.ref g.S,.int c,.int (k%4+4),.bl lo] H2 (λ_ H'=>Q .non H') E0:=⟨g,d,c,k%4+4,lo,rfl,O,B2,m3,λd' H' go B' mu'=>q d' H' (go2.trans go) B' mu'⟩;refine zd λX1 J1=>?_;have x1:X1 [Ve (.ref g.S),Ve (.int c),Ve (.int k),Ve (.bl lo),Ve (.ref a),Ve (.ref D)] H2:=J1 _ _ (by
  refine zd λX2 J2=>?_;have x2:X2 [Ve (.ref g.S),Ve (.int c),Ve (.int k),Ve (.bl lo),Ve (.ref a),Ve (.ref D)] H2:=J2 _ _ (by
   refine zd λX3 J3=>?_;have x3:X3 [Ve (.ref g.S),Ve (.int c),Ve (.int k),Ve (.bl lo),Ve (.ref a),Ve (.ref D)] H2:=J3 _ _ ⟨(by show(0:Int)<4;decide),plain⟩;refine⟨_,rfl,ba (λ_=>?_) (λ_=>bu x3)⟩;refine dgk B2.dy.hS rfl (lnl B2.dy.hO ⟨_,rfl,ba (λz=>?_) (λ_=>x3)⟩);have z:=of_decide_eq_true z;rw[eo]at z;exact⟨g,d,rfl,O,B2,(λe=>by rw[e]at la;simp at la;rw[la]at z;simp at z),m3,λd' H' go B' mu' _=>q d' H' (go2.trans go) B' ()⟩)
  refine⟨rfl,_,rfl,ba (λ_=>?_) (λ_=>bu x2)⟩;refine dgk B2.dy.hS rfl (lnl B2.dy.hO ⟨_,rfl,ba (λz=>?_) (λ_=>bu x2)⟩);have z:=of_decide_eq_true z;rw[eo]at z;rcases T2.cases B2.dy with⟨_,eas,_⟩|⟨fs,f,us,ez,eas,pu,et,er,eh,ec',ef⟩
  ·rw[eas]at z;simp at z
  have iu:d.as[us.length]?=Ve a:=by rw[eas];simp
  have fu:d.fz[us.length]?=Ve f:=by
   have e1:us.length=fs.length:=by
    rw[eas,ez]at la;simpa using la
   rw[ez,e1];simp
  have lpa:=DP nd2 la iu fu;refine⟨a,D,bs,rfl,rfl,SqL.of eD',(λb hb ne=>?_),_,rfl,ba (λz1=>?_) (λ_=>bu x2)⟩
  ·have hb':=bsub b hb;rw[eas]at hb';rcases Mp.mp hb' with hu|hu
   ·obtain⟨j,hj⟩:=ME hu;obtain⟨⟨x,f'⟩,h1,h2⟩:=bb pu hj;rw[NA]at h1;have lt:=Dt (Mr h1.1);exact⟨ne,.inr "at",(x:Int),(at_:Int),_,_,.inl h2,.inl T2.fr,rfl,()⟩
   exact absurd (Mq.mp hu) ne
  have nb:a∉bs:=λm=>by
   rw[decide_eq_true m]at z1;cases z1
  have ib:∃v,f.bk=.iff v:=by
   cases eb':f.bk with
   |iff v=>exact⟨v,rfl⟩
   |loop th m=>
    rw[eb']at lpa;exact absurd (by rw[hbs];exact MY.mpr ⟨by rw[eas];simp,lpa⟩) nb
  obtain⟨v,ib⟩:=ib;refine dgk T2.fr rfl ⟨rfl,_,rfl,ba (λz2=>?_) (λ_=>x2)⟩;have fn:fc=Vf:=by
   have z2:=of_decide_eq_true z2;cases fc with
   |none=>rfl
   |some n=>cases z2
  have Ff:=B2.ok.fz f (by rw[ez];simp);have nf:f.fst=Vf:=Ff.fc.mp (by rw[<-ef];exact fn);refine⟨g,d,a,at_,rank,aE,cost,fc,rfl,B2.dy.hS,B2.dy.hR,rl,T2.fr,T2.nS,T2.nR,n1,λt ht=>?_⟩;have Be:=B2.els ez eas ib nf ht m3;rw[<-et,<-er,<-eh,<-ec']at Be;have goe:Go (d.M g) H2 (d.M g) (pA H2 g d t a at_ rank aE cost):=((Go.new (ao.upd ht _)).trans (Go.at (inR g d) _)).trans (Go.at T2.mem _);refine q { d with rows:=d.rows++[.ref t],fz:=fs++[qK f] } _ (go2.trans goe) Be ?_;have h1:=O3 Be.hr;have h2:=O3 B2.hr;have h3:(d.rows++[V.ref t]).length=d.rows.length+1:=by simp
  have h4:(fs++[qK f]).length=d.fz.length:=by rw[ez];simp
  unfold mu;dsimp only at h1⊢;omega)
 have addL:∀t,H2 t=Vf->wO [.ref g.S,.ref t,.int 1] (upd H2 t (.tup [.str "last"])) (λ_ H'=>Q .non H') E0:=λt ht=>by
  have s3:=ao.upd ht (HO.tup [V.str "last"]);have B3:=B2.same s3;have T3:=T2.same s3;have go3:Go (d.M g) H (d.M g) (upd H2 t (HO.tup [V.str "last"])):=go2.trans (Go.new s3);exact yp O (H:=H) B3 go3 m3 T3 (r:=.last) ⟨t,0,rfl,B2.new s3 ht aj,λo ho=>by cases ho⟩ MO (MF _) ∅ (q d _ go3 B3 ()) λd' M' B' mu' _=>q d' _ (by rw[M'];exact go3.trans (pI T3)) B' mu'
 refine⟨rfl,_,rfl,ba (λ_=>?_) (λ_=>bu x1)⟩;refine lnl eD' ⟨_,rfl,ba (λz=>?_) (λ_=>bu x1)⟩;have z:=of_decide_eq_true z;rw[eb]at z;cases lo with
 |true=>exact⟨true,rfl,dz ⟨by show 1<=sizeLine;decide,λt ht=>addL t ht⟩⟩
 |false=>
  refine⟨false,rfl,bu ?_⟩;obtain⟨cs,b,eb'⟩:∃cs b,bs=cs++[b]:=(mI bs).resolve_left λe=>by rw[e]at z;simp at z
  obtain⟨i,fb,h1,h2,h3,h4⟩:=ym B2.dy (bsub b (by rw[eb'];simp));refine dgk T2.fr rfl ⟨_,rfl,Mt ⟨_,.ref b,Mt (SqL.of eD'),(by rw[eb',MI];exact k7 _ _),dgk h3 rfl ⟨_,rfl,ba (λ_=>?_) (λ_=>x1)⟩⟩⟩;exact⟨by show 1<=sizeLine;decide,λt ht=>addL t ht⟩
noncomputable def Fw(g:Gc)(lm:OW):List (Key×V):=[(.inr "rows",.ref g.LR),(.inr "view",.ref g.LV),(.inr "deeds",.ref g.LD),(.inr "mode",.int g.mode),(.inr "even",.bl g.ev),(.inr "marks",.ref lm),(.inr "hands",.ref g.LH),(.inr "lists",.ref g.LL),(.inr "targets",.ref g.LT),(.inr "numbers",.ref g.LN)]
structure DX(g:Gc)(H:Hp)(lm:OW)(marks:List Nat)(rows:List V):Prop where
 hS:H g.S=Ve (.dK (Fw g lm))\/∃x y z,H g.S=Ve (.dK (Fw g lm++[(.inr "open",x),(.inr "spent",y),(.inr "limit",z)]))
 hR:H g.LR=Ve (.lst rows)
 ne:g.S≠g.LR
 st:zY (del [g.S,g.LR] H) g
 hm:del [g.S,g.LR] H lm=Ve (.lst (nV g.N marks))
 hr:Paired (bX g.N (del [g.S,g.LR] H)) rows g.pre
 mks:∀m∈marks,m∈[11,12]
 ml:marks.length<=2
structure Kn(g:Gc)(H:Hp)(d:Gd)(rows:List V):Prop where
 hS:H g.S=Ve (.dK (stK g d))
 hR:H g.LR=Ve (.lst rows)
 hO:H d.lo=Ve (.lst [.ref d.a0])
 h0:H d.a0=Ve (.dK (frK 0 g.br 1 d.bc Vf))
 no:d.lo≠g.S/\d.lo≠g.LR/\d.a0≠g.S/\d.a0≠g.LR
 st:zY (del [g.S,g.LR] H) g
 hm:del [g.S,g.LR] H d.lm=Ve (.lst (nV g.N d.marks))
 hr:Paired (bX g.N (del [g.S,g.LR] H)) rows (g.pre++aZ d.bs++[.fin])
 mks:∀m∈d.marks,m∈[11,12]
 ml:d.marks.length<=2
 bs:eE g.ns g.tg g.dd d.bs
 bc:0<=d.bc
 sp:0<=d.spent/\(d.spent<=g.lim\/d.spent=0)
 pay:g.ev=false->cJ g.dd 1 d.bs<=d.spent
 dp:dTs d.bs<=4
inductive Bp(K:OZ)(vs:List V)(H:Hp)(Q:VK)(Z:XK):Prop
 |mk(g:Gc)(cl lm:OW)(cells:List Int)(marks:List Nat)(rows:List V):vs=[.ref g.S,.ref cl,.int g.br,.int g.lim]->jI g->DX g H lm marks rows->H cl=Ve (.lst (cells.map V.int))->cl≠g.LR->cells.length<=63->(∀(d:Gd)(rows':List V)(H':Hp),Go [g.S,g.LR] H [g.S,g.LR] H'->Kn g H' d rows'->(aZ d.bs).length<=3*cells.length->Q .non H')->Bp K vs H Q Z
inductive IvS(g:Gc)(cl:OW)(d0:Gd)(H3:Hp)(i:Nat)(σ:St)(Hc:Hp):Prop
 |mk(d:Gd)(v4 v5 v6:Option V):σ=[Ve (.ref g.S),Ve (.ref cl),Ve (.int g.br),Ve (.int g.lim),v4,v5,v6]->BAt g Hc d->Go (d0.M g) H3 (d.M g) Hc->mu g d<=g.pre.length+3*i->IvS g cl d0 H3 i σ Hc
theorem DD(T:Txt K mg A):T.so.Hz P w base 7 (Bp K):=by
 refine T.so.hs (k:=6) jx (λf cdv A' outer s H vs Q E hr hu h=>?_);obtain⟨g,cl,lm,cells,marks,rows,rfl,O,R,hcl,clR,cln,q⟩:=h;have pl:=O.pl;refine⟨_,(ab (bA (bI ((rB (cu ak ae (cu ak (fv 2) (cu ak ae (cu ak ae (cu ak dF (rf)))))) rfl rfl (by intro z;cases z) ∅)^af)) (bz (fv 0) ak (bB hu Vi)))
 (ab (bA ae (bz (fv 0) ak (bB hu Vi)))
 (ab (bA (fv 3) (bz (fv 0) ak (bB hu Vi)))
 (ab (cR O9 rfl (cA (fv 1)) (pgn (i:=4) jx.nd rfl)
  (ab (pst 5 jx.nd (ax cF (ar (mE T) hr (fv 4^ae^ae^af)) ae))
  (ab (pst 6 jx.nd (KU (pec (bh hu) (px hu (fv 0) ak) ae) (sg (oG (pec (bh hu) (px hu (fv 0) ak) ae) (sg (pec (bh hu) (ax cF (ar (mE T) hr (fv 4^ae^ae^af)) ae) ae))))))
  (ah (aP (ptc wM (fv 5) ae)
   (ah (aK (ar (rF T) hr (fv 0^fv 4^fv 5^fv 6^af))))
   (ah (aP (ptc wM (fv 5) ae)
    (ah (aK (ar (Dm T) hr (fv 0^fv 4^fv 5^fv 6^af))))
    (ah (aP (ptc (bh hu) (fv 5) ae)
     (ah (aK (ar (De T) hr (fv 0^fv 4^fv 6^af))))
     (ah (aK (ar (CJ T) hr (fv 0^fv 4^fv 5^fv 6^af)))))))))))))
 (ab (yj O9 (ptc rR (pcB bQ T.cB (px hu (fv 0) ak^af)) ae)
  (ah (aK (ar (xB T) hr (fv 0^af)))))
 (ah (aK (cN (px hu (fv 0) ak) (bf (ak^af)^af))))))))),?_⟩
 refine aq λM1 K1 a0 ha0=>⟨aj,[((.inr "at":Key),.int 0),(.inr "rank",.int g.br),(.inr "heft",.int 1),(.inr "cost",.int 0),(.inr "first",.non)],rfl,(show 5<=15 by decide),?_⟩;rw[lD,show(cq [] [((.inr "at":Key),V.int 0),(.inr "rank",.int g.br),(.inr "heft",.int 1),(.inr "cost",.int 0),(.inr "first",.non)])=frK 0 g.br 1 0 Vf from rfl];obtain⟨s1,e1⟩:=alc ha0 (HO.dK (frK 0 g.br 1 0 Vf));generalize upd H a0 _=H1 at s1 e1⊢;refine⟨by show 1<=sizeLine;decide,λlo hlo=>?_⟩;obtain⟨s2,e2⟩:=alc hlo (HO.lst [V.ref a0]);generalize upd H1 lo _=H2 at s2 e2⊢;have z2:=s1.trans s2;have e12:=s2 _ _ e1;have hlo0:H lo=Vf:=ao.free s1 hlo;have loa:lo≠a0:=Vh hlo e1;have hcl2:=z2 _ _ hcl;have hR2:=z2 _ _ R.hR;obtain⟨d0,hd0⟩:∃d0:Gd,d0=⟨lm,marks,lo,a0,[],rows,[],0,[],0⟩:=⟨_,rfl⟩;have stores:∃kvs,H2 g.S=Ve (.dK kvs)/\kvs.length<=13/\Vj (Vj (Vj kvs (.inr "open") (.ref lo)) (.inr "spent") (.int 0)) (.inr "limit") (.int g.lim)=stK g d0/\(Vj kvs (.inr "open") (.ref lo)).length<=13/\(Vj (Vj kvs (.inr "open") (.ref lo)) (.inr "spent") (.int 0)).length<=13:=by
  rw[hd0];rcases R.hS with h|⟨x,y,z,h⟩
  ·exact⟨_,z2 _ _ h,(by decide:10<=13),rfl,(by decide:11<=13),(by decide:12<=13)⟩
  exact⟨_,z2 _ _ h,(by decide:13<=13),rfl,(by decide:13<=13),(by decide:13<=13)⟩
 obtain⟨kvs,hS2,l1,est,l2,l3⟩:=stores;refine⟨_,cW.k (k:=.inr "open") hS2 (ay ()),K1 _ _ ?_⟩;try dsimp only
 refine aq λM2 K2=>⟨_,cW.k (k:=.inr "spent") aj (ay ()),K2 _ _ ?_⟩;try dsimp only
 refine aq λM3 K3=>⟨_,cW.k (k:=.inr "limit") aj (ay ()),K3 _ _ ?_⟩;rw[lD,lD,est];have ne:=R.ne;have loS:lo≠g.S:=by rcases R.hS with h|⟨x,y,z,h⟩<;>exact Vh hlo (s1 _ _ h)
 have loR:lo≠g.LR:=Vh hlo (s1 _ _ R.hR);have a0S:a0≠g.S:=by rcases R.hS with h|⟨x,y,z,h⟩<;>exact Vh ha0 h
 have a0R:a0≠g.LR:=Vh ha0 R.hR;have clS:cl≠g.S:=λz=>by rw[z]at hcl2;rw[hS2]at hcl2;cases hcl2
 have Md:d0.M g=[g.S,g.LR,lo,a0]:=by rw[hd0];rfl
 have go3:Go [g.S,g.LR] H (d0.M g) (upd H2 g.S (.dK (stK g d0))):=by
  rw[Md];exact((Go.new z2).trans (Go.at Mg _)).to λx hx=>by
   simp only[Mf,Ms,or_false]at hx⊢;rcases hx with z|z|z|z
   ·exact .inl (.inl z)
   ·exact .inl (.inr z)
   ·exact .inr (.inr (by rw[z];exact hlo0))
   exact .inr (.inr (by rw[z];exact ha0))
 have s3:=go3.same;have lrs0:d0.lrs g=g.pre:=by rw[hd0];unfold Gd.lrs;simp[aZ,bw]
 have B0:BAt g (upd H2 g.S (.dK (stK g d0))) d0:=by
  refine⟨R.st.same s3,?_,?_,⟨aj,?_,?_,?_,?_⟩,⟨?_,?_,?_,?_,?_,?_,?_,?_,?_,?_,?_,?_,by rw[hd0];exact⟨MB _,MO⟩⟩⟩
  ·have:=s3 _ _ R.hm;rw[hd0]at this⊢;exact this
  ·rw[lrs0];have:=Paired.cI R.hr λ_ _=>bX.same (X':=del (d0.M g) (upd H2 g.S (.dK (stK g d0)))) s3;rw[show d0.rows=rows by rw[hd0]];exact this
  ·rw[show d0.rows=rows by rw[hd0]];exact ag ne.symm hR2
  ·rw[hd0];exact ag loS e2
  ·rw[hd0];exact ag a0S e12
  ·rw[hd0];exact .nil
  ·rw[Md];simp[ne,loS.symm,a0S.symm,loR.symm,a0R.symm,loa]
  ·rw[hd0];exact R.mks
  ·rw[hd0];exact R.ml
  ·rw[hd0];exact MO
  ·rw[hd0];exact MF _
  ·rw[hd0];exact λ_ z=>(by cases z)
  ·rw[hd0];exact MB _
  ·rw[hd0];exact MO
  ·rw[hd0];exact λ_ z=>(by cases z)
  ·rw[hd0];exact λ_=>MF _
  ·rw[hd0];exact⟨MF _,.inr rfl⟩
  rw[lrs0,hd0];show g.pre.length+0<=1000;omega
 have mu0:mu g d0=g.pre.length:=by unfold mu;rw[lrs0,hd0];rfl
 have hcl3:upd H2 g.S (.dK (stK g d0)) cl=Ve (.lst (cells.map V.int)):=ag clS hcl2;generalize upd H2 g.S (.dK (stK g d0))=H3 at go3 s3 B0 hcl3⊢;have clM:cl∉d0.M g:=by
  rw[Md];simp only[Mf,Ms,or_false];rintro(y|y|y|y)
  ·exact clS y
  ·exact clR y
  ·rw[y,hlo0]at hcl;cases hcl
  rw[y,ha0]at hcl;cases hcl
 clear s1 s2 e1 e2 e12 hcl2 hR2 z2 hS2 est l1 l2 l3 s3 ha0 hlo;try dsimp only
 refine aq λM4 K4=>Mt ⟨⟨_,SqL.of hcl3⟩,dI (K:=K) (xs:=cells.map V.int) (IvS g cl d0 H3) ⟨d0,Vf,Vf,Vf,rfl,B0,Go.refl _ _,()⟩ (λi σ Hc _ ⟨d,_,_,_,_,_,gc,_⟩=>SqL.of (gc.o _ _ clM hcl3)) ?_ ?_⟩
 ·rintro i v σ Hc hv ⟨d,v4,v5,v6,rfl,B,gc,mui⟩;rw[Mu]at hv;obtain⟨c,hc,rfl⟩:=Ng.mp hv;have il:i<cells.length:=(Ml.mp hc).1;try dsimp only
  refine aq λN1 J1=>⟨c,0,97,rfl,∅,∅,λm Ha m0 m1 sa=>⟨(by show(0:Int)<16;decide),J1 _ _ ?_⟩⟩;have Ba:=B.same sa;try dsimp only
  refine aq λN2 J2=>?_;have go:∀(kd:Int)(lo':Bool)(Hb:Hp),ao Ha Hb->N2 [Ve (.ref g.S),Ve (.ref cl),Ve (.int g.br),Ve (.int g.lim),Ve (.int c),Ve (.int kd),Ve (.bl lo')] Hb  :=λkd lo' Hb sb=>J2 _ _ (by
   have Bb:=Ba.same sb;have gb:Go (d0.M g) H3 (d.M g) Hb:=gc.trans (Go.new (sa.trans sb));have m3:mu g d+3<=1000:=()
   have nx:∀(d':Gd)(H':Hp),Go (d.M g) Hb (d'.M g) H'->BAt g H' d'->mu g d'<=mu g d+3->IvS g cl d0 H3 (i+1) [Ve (.ref g.S),Ve (.ref cl),Ve (.int g.br),Ve (.int g.lim),Ve (.int c),Ve (.int kd),Ve (.bl lo')] H':=λd' H' g' B' mu'=>⟨d',_,_,_,rfl,B',gb.trans g',()⟩;refine⟨_,rfl,ba (λ_=>⟨g,d,c,kd,lo',rfl,O,Bb,m3,λd' H' g' B' mu'=>nx d' H' g' B' mu'⟩) (λ_=>⟨_,rfl,ba (λ_=>⟨g,d,c,kd,lo',rfl,O,Bb,m3,λd' H' g' B' mu'=>nx d' H' g' B' mu'⟩) (λ_=>⟨rfl,_,rfl,ba (λ_=>⟨g,d,c,lo',rfl,O,Bb,m3,λd' H' g' B' mu'=>nx d' H' g' B' mu'⟩) (λ_=>?_)⟩)⟩)⟩;exact⟨g,d,c,kd,lo',rfl,O,Bb,m3,λd' H' g' B' mu'=>nx d' H' g' B' mu'⟩)
  have gm:=c9.k (k:=.inr "mode") Ba.dy.hS;refine⟨_,gm,rfl,_,rfl,ba (λ_=>go _ true Ha (ao.refl _)) (λ_=>?_)⟩;refine⟨_,gm,rfl,_,rfl,ba (λ_=>?_) (λ_=>go _ false Ha (ao.refl _))⟩;refine⟨c,1,101,rfl,∅,∅,λm2 Hb _ _ sb=>⟨(by show(0:Int)<9;decide),rfl,go _ _ Hb sb⟩⟩
 rintro σ Hc ⟨d,v4,v5,v6,rfl,B,gc,mui⟩;rw[Mj]at mui;refine K4 _ _ ?_;try dsimp only
 refine aq λM5 K5=>⟨λm σ Hc=>∃(d:Gd),m=d.fz.length/\σ=[Ve (.ref g.S),Ve (.ref cl),Ve (.int g.br),Ve (.int g.lim),v4,v5,v6]/\BAt g Hc d/\Go (d0.M g) H3 (d.M g) Hc/\mu g d<=g.pre.length+3*cells.length,⟨_,d,rfl,rfl,B,gc,mui⟩,?_⟩;rintro m σ Hc ⟨d,rfl,rfl,B,gc,mui⟩;have la:=O3 B.dy.hf;rw[Oy,iq,OS]at la;have eo:(((V.ref d.a0::d.as.map V.ref).length:Nat):Int)=(d.as.length:Int)+1:=by simp
 refine dgk B.dy.hS rfl (lnl B.dy.hO ⟨_,rfl,ba (λz=>?_) (λz=>K5 _ _ ?_)⟩)
 ·have z:=of_decide_eq_true z;rw[eo]at z;exact⟨λσ' H'=>∃(d':Gd),d'.fz.length<d.fz.length/\σ'=[Ve (.ref g.S),Ve (.ref cl),Ve (.int g.br),Ve (.int g.lim),v4,v5,v6]/\BAt g H' d'/\Go (d0.M g) H3 (d'.M g) H'/\mu g d'<=g.pre.length+3*cells.length,λσ' H' ⟨d',h1,h2,h3,h4,h5⟩=>⟨_,h1,d',rfl,h2,h3,h4,h5⟩,⟨g,d,rfl,O,B,(λe=>by rw[e]at la;simp at la;rw[la]at z;simp at z),(),λd' H' g' B' mu' fl'=>⟨d',(),rfl,B',gc.trans g',()⟩⟩⟩
 have z:¬ (1:Int)<(d.as.length:Int)+1:=λy=>z (decide_eq_true (by rw[eo];exact y));have ea:d.as=[]:=List.length_eq_zero_iff.mp ();have ez:d.fz=[]:=List.length_eq_zero_iff.mp (by rw[<-la,ea];rfl);have Mc:d.M g=[g.S,g.LR,d.lo,d.a0]:=by unfold Gd.M;rw[ea]
 obtain⟨n1,n2,n3,n4⟩:=jw B.ok.nd;obtain⟨m1,m2,m3⟩:=n4 d.a0 Mg;have hl:=O3 B.hr;try dsimp only
 refine dgk B.dy.hS rfl ⟨Mt ⟨rfl,_,SqL.of B.dy.hR⟩,by show 1<=sizeLine;decide,λte hte=>?_⟩;have teM:=B.free hte;have teS:te≠g.S:=λz=>teM (by rw[z];exact inS g d);have teR:te≠g.LR:=λz=>teM (by rw[z];exact inR g d);have teO:te≠d.lo:=λz=>teM (by rw[z];exact inO g d);have te0:te≠d.a0:=λz=>teM (by rw[z];exact in0 g d);refine⟨_,_,_,rfl,rfl,ag teR.symm B.dy.hR,ay (by unfold mu at mui;omega),?_⟩;have go5:Go (d.M g) Hc (d.M g) (upd (upd Hc te (.tup [.str "end"])) g.LR (.lst (d.rows++[.ref te]))):=(Go.new (ao.upd hte _)).trans (Go.at (inR g d) _);have goA:Go [g.S,g.LR] H [g.S,g.LR] (upd (upd Hc te (.tup [.str "end"])) g.LR (.lst (d.rows++[.ref te]))):=(go3.trans (gc.trans go5)).to λx hx=>by
  refine .inl ?_;rw[Mc];simp only[Mf,Ms,or_false]at hx⊢;rcases hx with z|z
  ·exact .inl z
  exact .inr (.inl z)
 have sub:ao (del (d.M g) Hc) (del [g.S,g.LR] (upd (upd Hc te (.tup [.str "end"])) g.LR (.lst (d.rows++[.ref te])))):=λx o e=>by
  obtain⟨h1,h2⟩:=bq (go5.same _ _ e);refine aQ (λz=>h1 ?_) h2;rw[Mc];simp only[Mf,Ms,or_false]at z⊢;rcases z with z|z
  ·exact .inl z
  exact .inr (.inl z)
 have elr:d.lrs g=g.pre++aZ d.bs:=by unfold Gd.lrs;rw[ez];simp[bw]
 have hr:=B.hr;rw[elr]at hr;refine q d (d.rows++[.ref te]) _ goA ⟨ag n1 (ag teS.symm B.dy.hS),aj,?_,?_,⟨n2.symm,n3.symm,m1,m2⟩,B.st.same sub,sub _ _ B.hm,Pm ⟨te,0,rfl,?_,λo ho=>by cases ho⟩ (Paired.cI hr λ_ _=>bX.same sub),B.ok.mks,B.ok.ml,B.ok.bs,B.ok.bc,B.ok.sp,λe=>?_,B.ok.dp.1⟩ ?_
 ·have:=B.dy.hO;rw[ea]at this;exact ag n3.symm (ag teO.symm this)
 ·exact ag m2 (ag te0.symm B.dy.h0)
 ·have:=B.ok.pay e;rw[ez]at this;simpa [lM] using this
 ·unfold mu at mui;rw[elr,Mn]at mui;omega
 refine aQ (λz=>?_) (ag teR aj);simp only[Mf,Ms,or_false]at z;rcases z with z|z
 ·exact teS z
 exact teR z
end
section
variable{P:Program}{w:O7}{K:OZ}{mg:Str->Option OX}{base:Pk}{A:Adr}{N:Nat->Str}
seal PE PA PS PSs PT PW
noncomputable def nmL(N:Nat->Str):List V:=(Pc 25).map λi=>.str (N i)
theorem ip(N:Nat->Str){i:Nat}(h:i<25):atI (nmL N) (i:Int)=Ve (.str (N i)):=by
 refine dA ?_;unfold nmL;rw[Mu,NM h];rfl
theorem DT(ly:ys.length=n)(hy:∀(i:Nat) y,ys[i]?=Ve y->y=f i):ys=(Pc n).map f:=by
 refine Ol λi=>?_;by_cases h:i<n
 ·have lt:i<ys.length:=()
  rw[Mu,NM h,Mh lt,hy i _ (Mh lt)];rfl
 rw[MW (),MW (by simp;omega)]
noncomputable def rkL(rk:Nat->Int):List V:=(Pc 7).map λi=>.int (rk i)
theorem tw(rk:Nat->Int){i:Nat}(h:i<7):atI (rkL rk) (i:Int)=Ve (.int (rk i)):=by
 refine dA ?_;unfold rkL;rw[Mu,NM h];rfl
theorem KC(ly:ys.length=7)(hy:∀(i:Nat) y,ys[i]?=Ve y->∃n:Int,y=.int n/\0<=n/\n<3):∃rk:Nat->Int,ys=rkL rk/\∀i,0<=rk i/\rk i<=2:=by
 have h:∀i:Nat,∃n:Int,(∀y,ys[i]?=Ve y->y=.int n)/\0<=n/\n<=2:=λi=>by
  cases e:ys[i]? with
  |none=>exact⟨0,λ_ z=>(by cases z),∅,∅⟩
  |some y=>
   obtain⟨n,e1,e2,e3⟩:=hy i y e;exact⟨n,λ_ z=>(by cases z;exact e1),e2,()⟩
 exact⟨λi=>(h i).choose,DT ly λi y e=>(h i).choose_spec.1 y e,λi=>(h i).choose_spec.2⟩
noncomputable def ck(rk:Nat->Int)(z:Int):List Lr:=[.hand 0 0,.hand 1 1,.hand 2 2,.giv 3 (2-rk 0%2) 0,.giv 4 (rk 1) 0,.giv 5 0 0,.giv 6 (rk 2) z,.own 7 0,.own 8 0,.own 9 0,.own 10 z,.lt 11 (rk 3),.lt 12 (rk 4%2)]
noncomputable def v1(rk:Nat->Int)(z:Int)(j:Nat):Int:=[0,1,2,2-rk 0%2,rk 1,0,rk 2,0,0,0,z,rk 3,rk 4%2].getD j 0
noncomputable def w4(rk:Nat->Int):List Int:=[0,rk 5,2,rk 6]
noncomputable def v2(rk:Nat->Int)(z:Int)(i j:Nat):Int:=if 7<=j/\j<7+i then(w4 rk).getD (j-7) 0 else v1 rk z j
theorem Go.to'(g:Go [LV] H [LV] H')(_:S≠LV):Go [S,LV] H [S,LV] H':=⟨λa o m e=>g.o a o (λz=>m (Mi _ z)) e,λ_ m=>.inl m⟩
theorem Paired.GP{α β:Type}{F:α->β->Prop}:∀(t:Nat){xs:List α}{ys:List β},Paired F xs ys->Paired F (xs.drop t) (ys.drop t)
 |0,_,_,h=>h
 |_+1,_,_,.nil=>.nil
 |t+1,_,_,.cons _ r=>Paired.GP t r
theorem Paired.G4{α β:Type}{F:α->β->Prop}:∀(t:Nat){xs:List α}{ys:List β},Paired F xs ys->Paired F (xs.take t) (ys.take t)
 |0,_,_,_=>.nil
 |_+1,_,_,.nil=>.nil
 |t+1,_,_,.cons h r=>.cons h (Paired.G4 t r)
noncomputable def rot(t:Nat)(xs:List Lr):List Lr:=xs.drop t++xs.take t
structure Hs(N:Nat->Str)(H0 Hc:Hp)(xs:List V)(hs:List Lr):Prop where
 s:ao H0 Hc
 p:Paired (bX N Hc) xs hs
theorem Hs.to(D:Hs N H0 Hc xs hs)(s:ao Hc H'):Hs N H0 H' xs hs:=⟨D.s.trans s,Paired.cI D.p λ_ _=>bX.same s⟩
theorem Hs.add(D:Hs N H0 Hc xs hs)(ht:Hc t=Vf)(h:Lr)(ho:h.ob N=Vf)(ys:List V)(e:ys=.str h.w::h.tl N t):Hs N H0 (upd Hc t (.tup ys)) (xs++[.ref t]) (hs++[h]):=by
 subst e;refine⟨D.s.trans (ao.upd ht _),Pm ⟨t,t,rfl,aj,λo z=>by rw[ho]at z;cases z⟩ (Paired.cI D.p λ_ _=>bX.same (ao.upd ht _))⟩
theorem Hs.uz(D:Hs N H0 Hc xs hs)(eL:Hc L=Ve o)(ht:Hc t=Vf)(h:Lr)(ho:h.ob N=Vf)(ys:List V)(e:ys=.str h.w::h.tl N t):Hs N H0 (upd Hc t (.tup ys)) (xs++[.ref t]) (hs++[h])/\upd Hc t (.tup ys) L=Ve o:=⟨D.add ht h ho ys e,ao.upd ht _ _ _ eL⟩
theorem Hs.len(D:Hs N H0 Hc xs hs):xs.length=hs.length:=O3 D.p
theorem qZ{n t:Nat}(d:Nat)(h:t<=n):HT.sIx n d (Ve (t:Int))=t:=by
 unfold HT.sIx;show(if(t:Int)<0 then((t:Int)+n).toNat else min (t:Int).toNat n)=t;rw[if_neg (),Nq];omega
theorem Iq{xs:List V}{t:Nat}(h:t<=xs.length):hE xs (Ve (t:Int)) Vf=xs.drop t:=by
 unfold hE;rw[qZ _ h,show HT.sIx xs.length xs.length Vf=xs.length from rfl];exact Nh (by rw[NK];omega)
theorem HC{xs:List V}{t:Nat}(h:t<=xs.length):hE xs Vf (Ve (t:Int))=xs.take t:=by
 unfold hE;rw[qZ _ h,show HT.sIx xs.length 0 Vf=0 from rfl];rfl
noncomputable def st5(LR LV LD:OW)(mode:Int)(ev:Bool):List (Key×V):=[(.inr "rows",.ref LR),(.inr "view",.ref LV),(.inr "deeds",.ref LD),(.inr "mode",.int mode),(.inr "even",.bl ev)]
noncomputable def st6(LR LV LD:OW)(mode:Int)(ev:Bool)(lm:OW):List (Key×V):=st5 LR LV LD mode ev++[(.inr "marks",.ref lm)]
theorem KR(hi:(ck rk z)[i]?=Ve h)(a:bX N H v h):∃t xs,v=.ref t/\H t=Ve (.tup xs)/\atI xs 1=Ve (.str (N i))/\atI xs 2=Ve (.int (v1 rk z i)):=by
 obtain⟨t,p,e,h1,_⟩:=a;have hb:i<13:=(Ml.mp hi).1;have:=KS i ();rcases this with rfl|rfl|rfl|rfl|rfl|rfl|rfl|rfl|rfl|rfl|rfl|rfl|rfl<;>(cases hi;exact⟨t,_,e,h1,rfl,rfl⟩)
inductive xy(K:OZ)(vs:List V)(H:Hp)(Q:VK)(Z:XK):Prop
 |mk(a S LR0 LV LD:OW)(ns:List Int)(mode:Int)(ev:Bool)(z0:vs=[.ref a,.ref S])(z1:SqL K H a (ns.map V.int))(z2:H S=Ve (.dK (st5 LR0 LV LD mode ev)))(z3:H LV=Ve (.dK (dk (nmV (cellAt ns 1)) [] λ_=>.int 0)))(z4:∀(ln LR lm:OW)(rk:Nat->Int)(z:Int)(t:Nat)(rows:List V)(H':Hp),(∀i,0<=rk i/\rk i<=2)->1<=z->z<=4->Go [S,LV] H [S,LV] H'->H ln=Vf->H LR=Vf->H lm=Vf->ln≠LR->lm≠LR->
  H' S=Ve (.dK (st6 LR LV LD mode ev lm))->H' LV=Ve (.dK (dk (nmV (cellAt ns 1)) (Pc 13) λi=>.int (v2 rk z 4 i)))->H' LR=Ve (.lst rows)->H' lm=Ve (.lst (nV (nmV (cellAt ns 1)) [11,12]))->H' ln=Ve (.lst (nmL (nmV (cellAt ns 1))))->
  Paired (bX (nmV (cellAt ns 1)) (del [S,LR,LV] H')) rows (rot t (ck rk z))->Q (.ref ln) H'):xy K vs H Q Z
theorem E6(T:Txt K mg A):T.pT.Hz P w base 2 (xy K):=by
 have M6:=@zj P w _ _ base _ T;have E9:=@mE P w _ _ base _ T;refine T.pT.hs (k:=1) bK (λf cdv A' outer s H vs Q E' hr hu h=>?_);obtain⟨a,S,LR0,LV,LD,ns,mode,ev,rfl,hA,hS,hV,q⟩:=h;have D:=rA (cellAt ns 1);obtain⟨N,eN⟩:∃N,N=nmV (cellAt ns 1):=⟨_,rfl⟩;rw[<-eN]at D q hV;refine⟨_,(ab (fR (j:=2) (N:=["_law_k","_law_script"]) (own:=1) (fr:=[0]) (cG.of (by kernel_rfl!)) rfl bK.nd rfl (Mt rfl) (eQ rfl T.fj (ae^af)) (λb=>pgn (i:=0) (show PC (["_law_k","_law_script"]:List PU) by decide+kernel) rfl) (λb=>oI) (λb=>ar (Jc T) hr (ar M6 hr (fv 1^ae^af)^fv 0^af)))
 (ab (fR (j:=3) (N:=["_law_way","_law_script"]) (own:=1) (fr:=[0]) (cG.of (by kernel_rfl!)) rfl bK.nd rfl (Mt rfl) (eQ rfl T.fj (ae^af)) (λb=>pgn (i:=0) (show PC (["_law_way","_law_script"]:List PU) by decide+kernel) rfl) (λb=>oI) (λb=>ar E9 hr (ar M6 hr (fv 1^ae^af)^fv 0^ae^af)))
 (ab (pst 4 bK.nd (ax bo ae (ar E9 hr (ar M6 hr (fv 0^ae^af)^ae^ae^af))))
 (ab (pst 5 bK.nd (bI (bf (ak^px hu (fv 2) ae^ae^af)^bf (ak^px hu (fv 2) ae^ae^af)^bf (ak^px hu (fv 2) ae^ae^af)^af)))
 (ab (pst 5 bK.nd (ax bo (fv 5) (bI (bf (ak^px hu (fv 2) ae^ax pP ae (ax cF (px hu (fv 3) ae) ae)^ae^af)^bf (ak^px hu (fv 2) ae^px hu (fv 3) ae^ae^af)^af))))
 (ab (pst 5 bK.nd (ax bo (fv 5) (bI (bf (ak^px hu (fv 2) ae^ae^ae^af)^bf (ak^px hu (fv 2) ae^px hu (fv 3) ae^fv 4^af)^af))))
 (ab (pst 5 bK.nd (ax bo (fv 5) (bI (bf (ak^px hu (fv 2) ae^ae^af)^bf (ak^px hu (fv 2) ae^ae^af)^bf (ak^px hu (fv 2) ae^ae^af)^bf (ak^px hu (fv 2) ae^fv 4^af)^af))))
 (ab (pst 5 bK.nd (ax bo (fv 5) (bI (bf (ak^px hu (fv 2) ae^px hu (fv 3) ae^af)^bf (ak^px hu (fv 2) ae^ax cF (px hu (fv 3) ae) ae^af)^af))))
 (ab (pst 6 bK.nd (ar E9 hr (ar M6 hr (fv 0^ae^af)^ae^ae^af)))
 (ab (bA (ax bo (cw dS (fv 5) (bH (fv 6)) gH) (cw dS (fv 5) gH (bH (fv 6)))) (bz (fv 1) ak (bB hu Vi)))
 (ab (cR O9 rfl (cA (fv 5)) (pgn (i:=7) bK.nd rfl)
  (ah (bA (px hu (fv 7) ae) (bz (px hu (fv 1) ak) (px hu (fv 7) ae) (bB hu Vi)))))
 (ab (cR O9 rfl (Ew rfl T.xu (cw dS (fv 2) (bH ae) (bH ae)^bI (ae^px hu (fv 3) ae^ae^px hu (fv 3) ae^af)^af)) (wg rfl (gM (pgn (i:=8) bK.nd rfl) (gM (pgn (i:=9) bK.nd rfl) rb)))
  (ah (bA (fv 9) (bz (px hu (fv 1) ak) (fv 8) (bB hu Vi)))))
 (ab (bA (cw dS (fv 2) (bH ae) (bH ae)) (bz (fv 1) ak (bB hu Vi)))
 (ah (aA (fv 2)))))))))))))))),?_⟩
 refine aq λM1 K1=>⟨_,rfl,∅,∅,tN (J:=Itr 0 25) (n:=25) (x:=λj=>.int (0+j)) (λj y _=>y=.str (N j)) (ay ∅) (λ_ _=>Mo _) (λ_ _ h _=>h) (λ_ _ _ _ _ _ y=>y) (λb j H1 G hj s1 kk=>⟨a,ns,1,rfl,s1.seq hA,∅,cellAt ns 1,j,(by rw[Of];rfl),(),λH2 s2=>kk _ _ s2 (by rw[eN])⟩) (λ_ _ _ _ _ h=>h) (λ_ _ _ _ _ _ _ h=>h) (λln H1 ys ln0 s1 eln ly hy=>K1 _ _ ?_)⟩;rw[DT ly hy,show((Pc 25).map λi=>V.str (N i))=nmL N from rfl]at eln;clear hy ly;try dsimp only
 refine aq λM2 K2=>⟨_,rfl,∅,∅,tN (J:=Itr 0 7) (n:=7) (x:=λj=>.int (0+j)) (λj y _=>∃n:Int,y=.int n/\0<=n/\n<3) (ay ∅) (λ_ _=>Mo _) (λ_ _ h _=>h) (λ_ _ _ _ _ _ y=>y) (λb j H2 G hj s2 kk=>⟨a,ns,2,rfl,(s1.trans s2).seq hA,∅,cellAt ns 2,j,3,(by rw[Of];rfl),(),∅,λm H3 m0 m1 s3=>kk _ _ s3 ⟨m,rfl,m0,m1⟩⟩) (λ_ _ _ _ _ h=>h) (λ_ _ _ _ _ _ _ h=>h) (λlk H2 ys lk0 s2 elk ly hy=>K2 _ _ ?_)⟩;obtain⟨rk,rfl,hrk⟩:=KC ly hy;clear hy ly;have s12:=s1.trans s2;have eln2:=s2 _ _ eln;try dsimp only
 refine aq λM3 K3=>⟨a,ns,2,rfl,s12.seq hA,∅,cellAt ns 2,0,4,rfl,∅,∅,λm H3 m0 m1 s3=>K3 _ _ ?_⟩;obtain⟨z,hz⟩:∃z:Int,z=1+m:=⟨_,rfl⟩;rw[<-hz];have z1:1<=z:=()
 have z4:z<=4:=()
 have s13:=s12.trans s3;have eln3:=s3 _ _ eln2;have elk3:=s3 _ _ elk;have ln1:H ln=Vf:=ln0;clear s1 s2 s3 s12 eln eln2 elk lk0 ln0 hz m0 m1;have nm:∀(Hc:Hp),ao H3 Hc->SqL K Hc ln (nmL N):=λHc z=>SqL.of (z _ _ eln3);have rm:∀(Hc:Hp),ao H3 Hc->SqL K Hc lk (rkL rk):=λHc z=>SqL.of (z _ _ elk3);try dsimp only
 refine aq λM4 K4=>?_;have D0:Hs N H3 H3 [] []:=⟨ao.refl _,.nil⟩;refine lix (nm _ D0.s) (ip N (i:=0) ∅) ⟨by show 3<=sizeLine;decide,λt0 ht0=>?_⟩;have D1:=D0.add ht0 (.hand 0 0) rfl [V.str "hand",.str (N 0),.int 0] rfl;generalize upd H3 t0 _=X1 at D1⊢;refine lix (nm _ D1.s) (ip N (i:=1) ∅) ⟨by show 3<=sizeLine;decide,λt1 ht1=>?_⟩;have D2:=D1.add ht1 (.hand 1 1) rfl [V.str "hand",.str (N 1),.int 1] rfl;generalize upd X1 t1 _=X2 at D2⊢;refine lix (nm _ D2.s) (ip N (i:=2) ∅) ⟨by show 3<=sizeLine;decide,λt2 ht2=>?_⟩;have D3:=D2.add ht2 (.hand 2 2) rfl [V.str "hand",.str (N 2),.int 2] rfl;generalize upd X2 t2 _=X3 at D3⊢;refine⟨by show 3<=sizeLine;decide,λL1 hL1=>?_⟩;obtain⟨sL1,eL1⟩:=alc hL1 (HO.lst [V.ref t0,.ref t1,.ref t2]);generalize upd X3 L1 _=X4 at sL1 eL1⊢;have D4:=D3.to sL1;clear D0 D1 D2 D3 sL1 hL1 ht0 ht1 ht2;refine K4 _ _ ?_;try dsimp only
 refine aq λM5 K5=>lix (nm _ D4.s) (ip N (i:=3) ∅) (lix (rm _ D4.s) (tw rk (i:=0) ∅) ⟨(by show(0:Int)<2;decide),by show 4<=sizeLine;decide,λt3 ht3=>?_⟩);obtain⟨D5,x5⟩:=D4.uz eL1 ht3 (.giv 3 (2-rk 0%2) 0) rfl [V.str "given",.str (N 3),.int (2-rk 0%2),.int 0] rfl;generalize upd X4 t3 _=X5 at D5 x5⊢;refine lix (nm _ D5.s) (ip N (i:=4) ∅) (lix (rm _ D5.s) (tw rk (i:=1) ∅) ⟨by show 4<=sizeLine;decide,λt4 ht4=>?_⟩);obtain⟨D6,x6⟩:=D5.uz x5 ht4 (.giv 4 (rk 1) 0) rfl [V.str "given",.str (N 4),.int (rk 1),.int 0] rfl;generalize upd X5 t4 _=X6 at D6 x6⊢;refine⟨by show 2<=sizeLine;decide,λL2 hL2=>?_⟩;obtain⟨sL2,eL2⟩:=alc hL2 (HO.lst [V.ref t3,.ref t4]);generalize upd X6 L2 _=X7 at sL2 eL2⊢;refine⟨L1,L2,_,_,rfl,rfl,sL2 _ _ x6,eL2,(show 5<=sizeLine by decide),λL3 hL3=>?_⟩;obtain⟨sL3,eL3⟩:=alc hL3 (HO.lst ([V.ref t0,.ref t1,.ref t2]++[V.ref t3,.ref t4]));generalize upd X7 L3 _=X8 at sL3 eL3⊢;have D8:=D6.to (sL2.trans sL3);clear D4 D5 D6 x5 x6 sL2 eL2 sL3 hL2 hL3 ht3 ht4 eL1;refine K5 _ _ ?_;try dsimp only
 refine aq λM6 K6=>lix (nm _ D8.s) (ip N (i:=5) ∅) ⟨by show 4<=sizeLine;decide,λt5 ht5=>?_⟩;obtain⟨D9,x9⟩:=D8.uz eL3 ht5 (.giv 5 0 0) rfl [V.str "given",.str (N 5),.int 0,.int 0] rfl;generalize upd X8 t5 _=X9 at D9 x9⊢;refine lix (nm _ D9.s) (ip N (i:=6) ∅) (lix (rm _ D9.s) (tw rk (i:=2) ∅) ⟨by show 4<=sizeLine;decide,λt6 ht6=>?_⟩);obtain⟨D10,x10⟩:=D9.uz x9 ht6 (.giv 6 (rk 2) z) rfl [V.str "given",.str (N 6),.int (rk 2),.int z] rfl;generalize upd X9 t6 _=X10 at D10 x10⊢;refine⟨by show 2<=sizeLine;decide,λL4 hL4=>?_⟩;obtain⟨sL4,eL4⟩:=alc hL4 (HO.lst [V.ref t5,.ref t6]);generalize upd X10 L4 _=X11 at sL4 eL4⊢;refine⟨L3,L4,_,_,rfl,rfl,sL4 _ _ x10,eL4,(show 7<=sizeLine by decide),λL5 hL5=>?_⟩;obtain⟨sL5,eL5⟩:=alc hL5 (HO.lst ([V.ref t0,.ref t1,.ref t2]++[V.ref t3,.ref t4]++[V.ref t5,.ref t6]));generalize upd X11 L5 _=X12 at sL5 eL5⊢;have D12:=D10.to (sL4.trans sL5);clear D8 D9 D10 x9 x10 sL4 eL4 sL5 hL4 hL5 ht5 ht6 eL3;refine K6 _ _ ?_;try dsimp only
 refine aq λM7 K7=>lix (nm _ D12.s) (ip N (i:=7) ∅) ⟨by show 3<=sizeLine;decide,λt7 ht7=>?_⟩;obtain⟨D13,x13⟩:=D12.uz eL5 ht7 (.own 7 0) rfl [V.str "own",.str (N 7),.int 0] rfl;generalize upd X12 t7 _=X13 at D13 x13⊢;refine lix (nm _ D13.s) (ip N (i:=8) ∅) ⟨by show 3<=sizeLine;decide,λt8 ht8=>?_⟩;obtain⟨D14,x14⟩:=D13.uz x13 ht8 (.own 8 0) rfl [V.str "own",.str (N 8),.int 0] rfl;generalize upd X13 t8 _=X14 at D14 x14⊢;refine lix (nm _ D14.s) (ip N (i:=9) ∅) ⟨by show 3<=sizeLine;decide,λt9 ht9=>?_⟩;obtain⟨D15,x15⟩:=D14.uz x14 ht9 (.own 9 0) rfl [V.str "own",.str (N 9),.int 0] rfl;generalize upd X14 t9 _=X15 at D15 x15⊢;refine lix (nm _ D15.s) (ip N (i:=10) ∅) ⟨by show 3<=sizeLine;decide,λt10 ht10=>?_⟩;obtain⟨D16,x16⟩:=D15.uz x15 ht10 (.own 10 z) rfl [V.str "own",.str (N 10),.int z] rfl;generalize upd X15 t10 _=X16 at D16 x16⊢;refine⟨by show 4<=sizeLine;decide,λL6 hL6=>?_⟩;obtain⟨sL6,eL6⟩:=alc hL6 (HO.lst [V.ref t7,.ref t8,.ref t9,.ref t10]);generalize upd X16 L6 _=X17 at sL6 eL6⊢;refine⟨L5,L6,_,_,rfl,rfl,sL6 _ _ x16,eL6,(show 11<=sizeLine by decide),λL7 hL7=>?_⟩;obtain⟨sL7,eL7⟩:=alc hL7 (HO.lst ([V.ref t0,.ref t1,.ref t2]++[V.ref t3,.ref t4]++[V.ref t5,.ref t6]++[V.ref t7,.ref t8,.ref t9,.ref t10]));generalize upd X17 L7 _=X18 at sL7 eL7⊢;have D18:=D16.to (sL6.trans sL7);clear D12 D13 D14 D15 D16 x13 x14 x15 x16 sL6 eL6 sL7 hL6 hL7 ht7 ht8 ht9 ht10 eL5;refine K7 _ _ ?_;try dsimp only
 refine aq λM8 K8=>lix (nm _ D18.s) (ip N (i:=11) ∅) (lix (rm _ D18.s) (tw rk (i:=3) ∅) ⟨by show 3<=sizeLine;decide,λt11 ht11=>?_⟩);obtain⟨D19,x19⟩:=D18.uz eL7 ht11 (.lt 11 (rk 3)) rfl [V.str "let",.str (N 11),.int (rk 3)] rfl;generalize upd X18 t11 _=X19 at D19 x19⊢;refine lix (nm _ D19.s) (ip N (i:=12) ∅) (lix (rm _ D19.s) (tw rk (i:=4) ∅) ⟨(by show(0:Int)<2;decide),by show 3<=sizeLine;decide,λt12 ht12=>?_⟩);obtain⟨D20,x20⟩:=D19.uz x19 ht12 (.lt 12 (rk 4%2)) rfl [V.str "let",.str (N 12),.int (rk 4%2)] rfl;generalize upd X19 t12 _=X20 at D20 x20⊢;refine⟨by show 2<=sizeLine;decide,λL8 hL8=>?_⟩;obtain⟨sL8,eL8⟩:=alc hL8 (HO.lst [V.ref t11,.ref t12]);generalize upd X20 L8 _=X21 at sL8 eL8⊢;refine⟨L7,L8,_,_,rfl,rfl,sL8 _ _ x20,eL8,(show 13<=sizeLine by decide),λL9 hL9=>K8 _ _ ?_⟩;have L90':H L9=Vf:=ao.free (s13.trans (D20.to sL8).s) hL9;obtain⟨xs,hxs⟩:∃xs,xs=[V.ref t0,.ref t1,.ref t2]++[V.ref t3,.ref t4]++[V.ref t5,.ref t6]++[V.ref t7,.ref t8,.ref t9,.ref t10]++[V.ref t11,.ref t12]:=⟨_,rfl⟩;rw[<-hxs];obtain⟨sL9,eL9⟩:=alc hL9 (HO.lst xs);generalize upd X21 L9 _=X22 at sL9 eL9⊢;have D22:Hs N H3 X22 xs (ck rk z):=by
  rw[hxs];exact D20.to (sL8.trans sL9)
 clear D18 D19 D20 x19 x20 sL8 eL8 sL9 hL8 hL9 ht11 ht12 eL7 hxs;have s3:=D22.s;have t22:=s13.trans s3;have lx:xs.length=13:=by rw[D22.len];rfl
 have e22:=s3 _ _ eln3;have k22:=s3 _ _ elk3;have L90:H L9=Vf:=L90';try dsimp only
 refine aq λM9 K9=>⟨a,ns,2,rfl,t22.seq hA,∅,cellAt ns 2,5,13,rfl,∅,∅,λm X23 m0 m1 s23=>?_⟩;obtain⟨t,rfl⟩:∃t:Nat,m=(t:Int):=⟨m.toNat,()⟩;have tx:t<=xs.length:=()
 refine K9 _ _ ?_;try dsimp only
 refine aq λM10 K10=>⟨_,rfl,Mt ⟨L9,_,rfl,SqL.of (s23 _ _ eL9),λp1 hp1=>?_⟩⟩;rw[Iq tx];obtain⟨s24,e24⟩:=alc hp1 (HO.lst (xs.drop t));generalize upd X23 p1 _=X24 at s24 e24⊢;refine⟨_,rfl,Mt ⟨L9,_,rfl,SqL.of ((s23.trans s24) _ _ eL9),λp2 hp2=>?_⟩⟩;rw[HC tx];obtain⟨s25,e25⟩:=alc hp2 (HO.lst (xs.take t));generalize upd X24 p2 _=X25 at s25 e25⊢;refine⟨p1,p2,_,_,rfl,rfl,s25 _ _ e24,e25,sz (by rw[NK,Nb];omega),λLR hLR=>?_⟩;obtain⟨s26,e26⟩:=alc hLR (HO.lst (xs.drop t++xs.take t));generalize upd X25 LR _=X26 at s26 e26⊢;have s2226:=((s23.trans s24).trans s25).trans s26;have t26:=t22.trans s2226;have t25:=t22.trans ((s23.trans s24).trans s25);refine⟨_,cW.k (k:=.inr "rows") (t26 _ _ hS) (show 5<sizeLine by decide),K10 _ _ ?_⟩;rw[show Vj (st5 LR0 LV LD mode ev) (.inr "rows") (.ref LR)=st5 LR LV LD mode ev from rfl];have LR0':H LR=Vf:=ao.free t25 hLR;have LRS:LR≠S:=Vh LR0' hS;have LRV:LR≠LV:=Vh LR0' hV;have lnR:ln≠LR:=λz=>by
  have:=((s23.trans s24).trans s25) _ _ e22;rw[z,hLR]at this;cases this
 have lnS:ln≠S:=Vh ln1 hS;have lnV:ln≠LV:=Vh ln1 hV;have SV:S≠LV:=λz=>by
  rw[z,hV]at hS;have:=congrArg (λo:Option HO=>match o with|some (.dK l)=>l.length|_=>0) hS;revert this
  show ¬ (0=5);decide
 have LkS:lk≠S:=λz=>by
  have:=t22 _ _ hS;rw[<-z,k22]at this;cases this
 have LkV:lk≠LV:=λz=>by
  have:=t22 _ _ hV;rw[<-z,k22]at this;cases this
 have L9S:L9≠S:=Vh L90 hS;have L9V:L9≠LV:=Vh L90 hV;have g27:Go [S,LV] H [S,LV] (upd X26 S (.dK (st5 LR LV LD mode ev))):=(Go.new t26).trans (Go.at Mg _);have lr27:Paired (bX N (del [S,LR,LV] (upd X26 S (.dK (st5 LR LV LD mode ev))))) xs (ck rk z):=by
  refine Paired.cI D22.p λv h e=>?_;obtain⟨b,p,e1,e2,e3⟩:=e;have k:∀(x:OW)(o:HO),X22 x=Ve o->(∀y,o≠ .dK y)->del [S,LR,LV] (upd X26 S (.dK (st5 LR LV LD mode ev))) x=Ve o:=λx o e nd=>by
   have xS:x≠S:=λz=>by rw[z,t22 _ _ hS]at e;cases e;exact nd _ rfl
   have xV:x≠LV:=λz=>by rw[z,t22 _ _ hV]at e;cases e;exact nd _ rfl
   have xR:x≠LR:=λz=>by
    have:=((s23.trans s24).trans s25) _ _ e;rw[z,hLR]at this;cases this
   refine aQ (λm=>?_) (ag xS (s2226 _ _ e));simp only[Mf,Ms,or_false]at m;rcases m with m|m|m
   ·exact xS m
   ·exact xR m
   exact xV m
  refine⟨b,p,e1,k _ _ e2 (λy z=>by cases z),λo ho=>k _ _ (e3 o ho) (λy z=>?_)⟩;subst z;cases h<;>cases ho
 have S27:upd X26 S (.dK (st5 LR LV LD mode ev)) S=Ve (.dK (st5 LR LV LD mode ev)):=aj;have V27:=ag (u:=.dK (st5 LR LV LD mode ev)) SV.symm (t26 _ _ hV);have R27:=ag (u:=.dK (st5 LR LV LD mode ev)) LRS e26;have n27:=ag (u:=.dK (st5 LR LV LD mode ev)) lnS (s2226 _ _ e22);have k27:=ag (u:=.dK (st5 LR LV LD mode ev)) LkS (s2226 _ _ k22);have x27:=ag (u:=.dK (st5 LR LV LD mode ev)) L9S (s2226 _ _ eL9);generalize upd X26 S (.dK (st5 LR LV LD mode ev))=X27 at g27 lr27 S27 V27 R27 n27 k27 x27⊢;clear s2226 s26 s25 s24 s23 e26 e25 e24 hp1 hp2 hLR t26 t25 t22 e22 k22 D22 s3 s13 eL9 nm rm eln3 elk3;try dsimp only
 refine aq λM11 K11=>Mt ⟨⟨_,SqL.of x27⟩,dI (K:=K) (xs:=xs) (λi σ Hc=>∃v7,σ=[Ve (.ref a),Ve (.ref S),Ve (.ref ln),Ve (.ref lk),Ve (.int z),Ve (.ref L9),Ve (.int t),v7,Vf,Vf]/\Go [LV] X27 [LV] Hc/\Hc LV=Ve (.dK (dk N (Pc i) λj=>.int (v1 rk z j)))) ⟨Vf,rfl,Go.refl _ _,V27⟩ (λi σ Hc _ ⟨_,_,gc,_⟩=>SqL.of (gc.o _ _ (λm=>L9V (Mq.mp m)) x27)) ?_ ?_⟩
 ·rintro i v σ Hc hv ⟨v7,rfl,gc,eV⟩;obtain⟨h,hh,hat⟩:=bb lr27 hv;obtain⟨tt,ys,rfl,ey,a1,a2⟩:=KR hh hat;obtain⟨ny,ey⟩:=bq ey;have ty:Hc tt=Ve (.tup ys):=gc.o _ _ (λm=>ny (by rw[Mq.mp m];simp)) ey;have i13:i<13:=(Ml.mp hh).1;have Sc:Hc S=Ve (.dK (st5 LR LV LD mode ev)):=gc.o _ _ (λm=>SV (Mq.mp m)) S27;try dsimp only
  refine Mt ⟨_,_,MJ (SqT.of ty),a2,dgk Sc rfl (Mt ⟨_,_,MJ (SqT.of ty),a1,⟨_,cW.k (k:=.inr (N i)) eV (ay (by rw[fP,Oj];omega)),_,rfl,gc.trans (Go.at Mg _),?_⟩⟩)⟩;rw[iT D () (λj hj=>by have:=MV.mp hj;omega) (λm=>by have:=MV.mp m;omega),<-OM];rw[aj];congr 2;refine iP λj hj=>?_;by_cases e:j=i
  ·rw[e,fw]
  rw[jv _ _ e]
 rintro σ X28 ⟨v7,rfl,g28,V28⟩;rw[lx]at V28;refine K11 _ _ ?_;have nV1:∀x:OW,x≠LV->x∉[LV]:=λx h m=>h (Mq.mp m);have n28:=g28.o _ _ (nV1 _ lnV) n27;have k28:=g28.o _ _ (nV1 _ LkV) k27;have S28:=g28.o _ _ (nV1 _ SV) S27;try dsimp only
 refine aq λM12 K12=>⟨_,rfl,_,rfl,Mt ⟨ln,_,rfl,SqL.of n28,λp3 hp3=>?_⟩⟩;rw[show hE (nmL N) (Ve 7) (Ve 11)=nV N [7,8,9,10]from rfl];obtain⟨s29,e29⟩:=alc hp3 (HO.lst (nV N [7,8,9,10]));generalize upd X28 p3 _=X29 at s29 e29⊢;refine lix (SqL.of (s29 _ _ k28)) (tw rk (i:=5) ∅) (lix (SqL.of (s29 _ _ k28)) (tw rk (i:=6) ∅) ⟨by show 4<=sizeLine;decide,λp4 hp4=>?_⟩);rw[show[V.int 0,V.int (rk 5),V.int 2,V.int (rk 6)]=(w4 rk).map V.int from rfl];obtain⟨s30,e30⟩:=alc hp4 (HO.lst ((w4 rk).map V.int));generalize upd X29 p4 _=X30 at s30 e30⊢;have s2830:=s29.trans s30;have V30:=s2830 _ _ V28;have S30:=s2830 _ _ S28;have n30:=s2830 _ _ n28;have e29':=s30 _ _ e29;have p3V:p3≠LV:=Vh hp3 V28;have p4V:p4≠LV:=Vh hp4 (s29 _ _ V28);have gA:Go [S,LV] H [S,LV] X30:=(g27.trans (g28.to' SV)).trans (Go.new s2830);refine⟨_,_,rfl,⟨_,SqL.of e29'⟩,⟨_,SqL.of e30⟩,AE (K:=K) (xs:=nV N [7,8,9,10]) (ys:=(w4 rk).map V.int) (λi σ Hc=>∃v8 v9,σ=[Ve (.ref a),Ve (.ref S),Ve (.ref ln),Ve (.ref lk),Ve (.int z),Ve (.ref L9),Ve (.int t),v7,v8,v9]/\Go [LV] X30 [LV] Hc/\Hc LV=Ve (.dK (dk N (Pc 13) λj=>.int (v2 rk z i j)))) ⟨Vf,Vf,rfl,Go.refl _ _,?_⟩ (λi σ Hc _ ⟨_,_,_,gc,_⟩=>⟨SqL.of (gc.o _ _ (nV1 _ p3V) e29'),SqL.of (gc.o _ _ (nV1 _ p4V) e30)⟩) rfl ?_ ?_⟩
 ·rw[V30,show(λj:Nat=>V.int (v2 rk z 0 j))=λj=>.int (v1 rk z j)from funext λj=>by unfold v2;rw[if_neg ()]]
 ·rintro i x y σ Hc tp hx hy ⟨v8,v9,rfl,gc,eV⟩ htp;have i4:i<4:=(Ml.mp hx).1;have ex:x=.str (N (7+i)):=by
   have:=lt4 i ();rcases this with rfl|rfl|rfl|rfl<;>(cases hx;rfl)
  have ey:y=.int ((w4 rk).getD i 0):=by
   have:=lt4 i ();rcases this with rfl|rfl|rfl|rfl<;>(cases hy;rfl)
  subst ex ey;obtain⟨s4,e4⟩:=alc htp (HO.tup [V.str (N (7+i)),.int ((w4 rk).getD i 0)]);generalize upd Hc tp _=Hd at s4 e4⊢;have Sc:Hd S=Ve (.dK (st5 LR LV LD mode ev)):=s4 _ _ (gc.o _ _ (nV1 _ SV) S30);refine⟨tp,_,rfl,SqT.of e4,rfl,_,_,rfl,_,_,rfl,rfl,dgk Sc rfl ⟨_,cW.k (k:=.inr (N (7+i))) (s4 _ _ eV) (ay (by rw[fP,Oj];decide)),_,_,rfl,(gc.trans (Go.new s4)).trans (Go.at Mg _),?_⟩⟩;rw[zJ D (λj hj=>by have:=MV.mp hj;omega) (MV.mpr ()),aj];congr 2;refine iP λj hj=>?_;unfold v2;by_cases e:j=7+i
  ·rw[e,fw,if_pos (),show 7+i-7=i by omega]
  rw[jv _ _ e];by_cases e2:7<=j/\j<7+i
  ·rw[if_pos e2,if_pos ()]
  rw[if_neg e2,if_neg ()]
 rintro σ X31 ⟨v8,v9,rfl,g31,V31⟩;have V31:X31 LV=Ve (.dK (dk N (Pc 13) λj=>.int (v2 rk z 4 j))):=V31;refine K12 _ _ ?_;have S31:=g31.o _ _ (nV1 _ SV) S30;have n31:=g31.o _ _ (nV1 _ lnV) n30;try dsimp only
 refine aq λM13 K13=>⟨_,rfl,_,rfl,Mt ⟨ln,_,rfl,SqL.of n31,λlm hlm=>?_⟩⟩;rw[show hE (nmL N) (Ve 11) (Ve 13)=nV N [11,12]from rfl];obtain⟨s32,e32⟩:=alc hlm (HO.lst (nV N [11,12]));generalize upd X31 lm _=X32 at s32 e32⊢;refine⟨_,cW.k (k:=.inr "marks") (s32 _ _ S31) (show 5<sizeLine by decide),K13 _ _ ?_⟩;rw[show Vj (st5 LR LV LD mode ev) (.inr "marks") (.ref lm)=st6 LR LV LD mode ev lm from rfl];have R31:=g31.o _ _ (nV1 _ LRV) (s2830 _ _ (g28.o _ _ (nV1 _ LRV) R27));have lmS:lm≠S:=Vh hlm S31;have lmR:lm≠LR:=Vh hlm R31;have g32:=(gA.trans (g31.to' SV)).trans (Go.new s32);have lm0:H lm=Vf:=by
  cases e:H lm with
  |none=>rfl
  |some o=>
   have lmV:lm≠LV:=Vh hlm V31;have:=(gA.trans (g31.to' SV)).o lm o (λm=>by
    simp only[Mf,Ms,or_false]at m;rcases m with m|m
    ·exact lmS m
    exact lmV m) e
   rw[hlm]at this;cases this
 have g2731:Go [LV] X27 [LV] X32:=((g28.trans (Go.new s2830)).trans g31).trans (Go.new s32);refine q ln LR lm rk z t (xs.drop t++xs.take t) _ hrk z1 z4 (g32.trans (Go.at Mg _)) ln1 LR0' lm0 lnR lmR aj (ag SV.symm (s32 _ _ V31)) (ag LRS (s32 _ _ R31)) (ag lmS e32) (ag lnS (s32 _ _ n31)) ?_;have lrZ:Paired (bX N (del [S,LR,LV] (upd X32 S (.dK (st6 LR LV LD mode ev lm))))) xs (ck rk z):=Paired.cI lr27 λ_ _=>bX.same λx o e=>by
  obtain⟨m,e⟩:=bq e;refine aQ m (ag (λy=>m (by rw[y];exact Mg)) (g2731.o _ _ (λy=>m ?_) e));rw[Mq.mp y];simp
 exact Paired.two (Paired.GP t lrZ) (Paired.G4 t lrZ)
theorem bX.but(h:bX N X v r)(k:∀x o,X x=Ve o->(∀y,o≠ .dK y)->X' x=Ve o):bX N X' v r:=by
 obtain⟨b,p,e1,e2,e3⟩:=h;refine⟨b,p,e1,k _ _ e2 (λy z=>by cases z),λo ho=>k _ _ (e3 o ho) (λy z=>?_)⟩;subst z;cases r<;>cases ho
noncomputable def dQ:List Dl->List (List Tr)->List Lr
 |d::ds,b::bs=>.hW d.nm d.ps::(aZ b++(.fin::dQ ds bs))
 |_,_=>[]
theorem pZ:∀{ds:List Dl}{bs:List (List Tr)}(d:Dl)(b:List Tr),ds.length=bs.length->dQ (ds++[d]) (bs++[b])=dQ ds bs++(.hW d.nm d.ps::(aZ b++[.fin]))
 | [],[],_,_,_=>rfl
 |d'::ds,b'::bs,d,b,h=>by
  have:=pZ (ds:=ds) (bs:=bs) d b (by simpa using h);simp[dQ,this]
structure Ca(ev:Bool)(lim:Int)(dls:List Dl)(bss:List (List Tr)):Prop where
 len:dls.length=bss.length
 l4:dls.length<=4
 nm:dls.map Dl.nm=(Pc dls.length).map λj=>13+3*j
 ps:∀j d,dls[j]?=Ve d->∃m,m<=2/\d.ps=NI (14+3*j) m
 sp:∀d∈dls,0<=d.sp/\(d.sp<=lim\/d.sp=0)/\0<=d.co
 bs:∀j d b,dls[j]?=Ve d->bss[j]?=Ve b->eE ([3,4,5]++([7,8,9]++d.ps)) ([7,8,9]++d.ps) (dls.take j) b/\(ev=false->cJ (dls.take j) 1 b<=d.sp)
 dp:∀b∈bss,dTs b<=4
structure uf(k:Nat)(vk:List Nat)(vw:Nat->Int):Prop where
 b:∀i∈vk,i<k/\0<=vw i/\vw i<=2
 h:∀i,i<13->i∈vk
 v9:vw 9=2
 v2:vw 2=2
 l:vk.length<=64
noncomputable def uq(f:Nat->Int)(i:Nat)(v:Int):Nat->Int:=λj=>if j=i then v else f j
theorem GU(f:Nat->Int)(i:Nat)(v:Int):o7 (λj=>V.int (f j)) i (.int v)=λj=>V.int (uq f i v j):=funext λj=>by
 unfold o7 uq;split<;>rfl
theorem uf.put{k:Nat}{vk:List Nat}{vw:Nat->Int}(h:uf k vk vw){i:Nat}{v:Int}(h0:13<=i)(hi:i<k)(hv:0<=v/\v<=2)(hl:vk.length<=63):uf k (ins vk i) (uq vw i v):=by
 refine⟨λj hj=>?_,λj hj=>pq (h.h j hj),?_,?_,MC (rq _ _) ()⟩
 ·rcases A0 hj with e|e
  ·subst e;exact⟨hi,by unfold uq;rw[if_pos rfl];exact hv⟩
  refine⟨(h.b j e).1,?_⟩;unfold uq;split
  ·exact hv
  exact(h.b j e).2
 ·unfold uq;rw[if_neg ()];exact h.v9
 unfold uq;rw[if_neg ()];exact h.v2
theorem uf.up(h:uf k vk vw)(e:k<=k'):uf k' vk vw:=⟨λi m=>⟨MH (h.b i m).1 e,(h.b i m).2⟩,h.h,h.v9,h.v2,h.l⟩
noncomputable def st8(LR LV LD:OW)(mode:Int)(ev:Bool)(lm LH LL:OW):List (Key×V):=[(.inr "rows",.ref LR),(.inr "view",.ref LV),(.inr "deeds",.ref LD),(.inr "mode",.int mode),(.inr "even",.bl ev),(.inr "marks",.ref lm),(.inr "hands",.ref LH),(.inr "lists",.ref LL)]
theorem CA{i m:Nat}(hi:i<4)(hm:m<=2):hE (nmL N) (Ve (14+3*(0+(i:Int)))) (Ve (14+3*(0+(i:Int))+(m:Int)))=nV N (NI (14+3*i) m):=by
 have a:=lt4 i ();have b:=lt3 m ();rcases a with rfl|rfl|rfl|rfl<;>rcases b with rfl|rfl|rfl<;>rfl
theorem uZ{ns:List Int}{a m:Int}(h0:0<=a)(hm:0<=m):∃cs:List Int,hE (ns.map V.int) (Ve a) (Ve (a+m))=cs.map V.int/\(cs.length:Int)<=m:=by
 rw[DK];refine⟨_,rfl,?_⟩;obtain⟨a,rfl⟩:∃n:Nat,a=(n:Int):=⟨a.toNat,()⟩;obtain⟨m,rfl⟩:∃n:Nat,m=(n:Int):=⟨m.toNat,()⟩;rw[Nb,NK];have e:∀(d x:Nat),HT.sIx ns.length d (Ve (x:Int))=min x ns.length:=λd x=>by
  show(if(x:Int)<0 then((x:Int)+ns.length).toNat else min (x:Int).toNat ns.length)=min x ns.length;rw[if_neg (),Nq]
 rw[show(a:Int)+(m:Int)=((a+m:Nat):Int) by omega,e,e];omega
structure Bt(N:Nat->Str)(S LR LV LD lm LH LL:OW)(mode:Int)(ev:Bool)(lim:Int)(Hc:Hp)(hds:List Lr)(rows:List V)(dls:List Dl)(bss:List (List Tr))(marks:List Nat)(vk:List Nat)(vw:Nat->Int):Prop where
 hS:Hc S=Ve (.dK (st8 LR LV LD mode ev lm LH LL))\/∃x1 x2 x3 x4 x5,Hc S=Ve (.dK (st8 LR LV LD mode ev lm LH LL++[(.inr "targets",x1),(.inr "numbers",x2),(.inr "open",x3),(.inr "spent",x4),(.inr "limit",x5)]))
 hR:Hc LR=Ve (.lst rows)
 hV:Hc LV=Ve (.dK (dk N vk λi=>.int (vw i)))
 hD:∃ts:Nat->OW,Hc LD=Ve (.dK (dk N (dls.map Dl.nm) λi=>.ref (ts i)))/\∀e∈dls,(ts e.nm≠LR/\Hc (ts e.nm)=Ve (.tup [.ref e.lp,.int e.sp,.int e.co]))/\e.lp≠LR/\Hc e.lp=Ve (.lst (nV N e.ps))
 hH:Hc LH=Ve (.lst (nV N [0,1,2]))
 hL:Hc LL=Ve (.lst (nV N [6,10]))
 hm:Hc lm=Ve (.lst (nV N marks))
 hr:Paired (bX N (del [LR] Hc)) rows (hds++dQ dls bss)
 ne:LH≠LR/\LL≠LR/\lm≠LR
 mks:∀m∈marks,m∈[11,12]
 ml:marks.length<=2
 dd:Ca ev lim dls bss
 vd:∀e∈dls,e.nm∈vk/\∀p∈e.ps,p∈vk
structure BP(ev:Bool)(lim:Int)(lrs:List Lr)(rk:Nat->Int)(z:Int)(t:Nat)(dls:List Dl)(bss:List (List Tr))(mb:List Tr):Prop where
 e:lrs=rot t (ck rk z)++dQ dls bss++(.main::(aZ mb++[.fin]))
 hk:∀i,0<=rk i/\rk i<=2
 hz:1<=z/\z<=4
 dd:Ca ev (lim/4) dls bss
 ob:eE [3,4,5,7,8,9] [7,8,9] dls mb
 l:lrs.length<=200
 pay:ev=false->∃sp,cJ dls 1 mb<=sp/\(sp<=lim\/sp=0)
 dp:dTs mb<=4
theorem kJ(h:(xs++[x])[j]?=Ve y):xs[j]?=Ve y/\j<xs.length\/j=xs.length/\y=x:=by
 by_cases e:j<xs.length
 ·rw[Nn e]at h;exact .inl ⟨h,e⟩
 rw[Nt ()]at h;have l:=(Ml.mp h).1;have e2:j-xs.length=0:=by simpa using l
 rw[e2]at h;exact .inr ⟨(),(O1 h).symm⟩
theorem Ca.add(h:Ca ev lim dls bss)(l:dls.length<4)(nm:d.nm=13+3*dls.length)(ps:∃m,m<=2/\d.ps=NI (14+3*dls.length) m)
  (sp:0<=d.sp/\(d.sp<=lim\/d.sp=0)/\0<=d.co) (ob:eE ([3,4,5]++([7,8,9]++d.ps)) ([7,8,9]++d.ps) dls b) (pay:ev=false->cJ dls 1 b<=d.sp) (dp:dTs b<=4):Ca ev lim (dls++[d]) (bss++[b]):=by
 refine⟨by simp[h.len],by simp;omega,?_,λj e hj=>?_,λe m=>?_,λj e b' hj hb=>?_,λx hx=>?_⟩
 ·rw[MI,h.nm,Mn,MS,OM,MI];simp[nm]
 ·rcases kJ hj with⟨h1,_⟩|⟨h1,h2⟩
  ·exact h.ps j e h1
  subst h1 h2;exact ps
 ·rcases Mp.mp m with m|m
  ·exact h.sp e m
  rw[Mq.mp m];exact sp
 ·rcases kJ hj with⟨h1,h2⟩|⟨h1,h2⟩
  ·rcases kJ hb with⟨h3,_⟩|⟨h3,_⟩
   ·rw[QU ()];exact h.bs j e b' h1 h3
   have:=h.len;omega
  rcases kJ hb with⟨_,h4⟩|⟨_,h4⟩
  ·have:=h.len;omega
  subst h1 h2 h4;rw[QU (Mo _),Nc];exact⟨ob,pay⟩
 rcases Mp.mp hx with hx|hx
 ·exact h.dp x hx
 rw[Mq.mp hx]
 exact dp
theorem eI:∀y,HO.lst xs≠ .dK y:=λ_ z=>by cases z
theorem tP:∀y,HO.tup xs≠ .dK y:=λ_ z=>by cases z
theorem Bt.st(B:Bt N S LR LV LD lm LH LL mode ev lim Hc hds rows dls bss marks vk vw) :
  ∃kvs,Hc S=Ve (.dK kvs)/\L2.eX kvs (.inr "view")=Ve (.ref LV)/\L2.eX kvs (.inr "rows")=Ve (.ref LR)/\kvs.length<=13/\∀LT LN:OW,(Vj kvs (.inr "targets") (.ref LT)).length<=13/\L2.eX (Vj kvs (.inr "targets") (.ref LT)) (.inr "targets")=Ve (.ref LT)/\
   ∀g:Gc,g.LR=LR->g.LV=LV->g.LD=LD->g.mode=mode->g.ev=ev->g.LH=LH->g.LL=LL->g.LT=LT->g.LN=LN->(Vj (Vj kvs (.inr "targets") (.ref LT)) (.inr "numbers") (.ref LN)=Fw g lm\/∃x y z,Vj (Vj kvs (.inr "targets") (.ref LT)) (.inr "numbers") (.ref LN)=Fw g lm++[(.inr "open",x),(.inr "spent",y),(.inr "limit",z)]):=by
 rcases B.hS with h|⟨x1,x2,x3,x4,x5,h⟩
 ·refine⟨_,h,rfl,rfl,(show 8<=13 by decide),λLT LN=>⟨(show 9<=13 by decide),rfl,?_⟩⟩;rintro g rfl rfl rfl rfl rfl rfl rfl rfl rfl;exact .inl rfl
 refine⟨_,h,rfl,rfl,(show 13<=13 by decide),λLT LN=>⟨(show 13<=13 by decide),rfl,?_⟩⟩
 rintro g rfl rfl rfl rfl rfl rfl rfl rfl rfl
 exact .inr ⟨x3,x4,x5,rfl⟩
inductive yL(K:OZ)(vs:List V)(H:Hp)(Q:VK)(Z:XK):Prop
 |mk(a:OW)(ns:List Int)(mode:Int)(ev:Bool)(lim:Int):vs=[.ref a,.int mode,.bl ev,.int lim]->ev=false->SqL K H a (ns.map V.int)->(∀(LR:OW)(rows:List V)(lrs:List Lr)(rk:Nat->Int)(z:Int)(t:Nat)(dls:List Dl)(bss:List (List Tr))(mb:List Tr)(H':Hp),ao H H'->H LR=Vf->H' LR=Ve (.lst rows)->Paired (bX (nmV (cellAt ns 1)) (del [LR] H')) rows lrs->BP ev lim lrs rk z t dls bss mb->Q (.ref LR) H')->yL K vs H Q Z
inductive IvV(N:Nat->Str)(a S LV ln lp:OW)(mode lim c at_ r:Int)(ev:Bool)(v13:Option V)(He:Hp)(vk1 ps:List Nat)(i:Nat)(j:Nat)(σ:St)(Hx:Hp):Prop
 |mk(vk2:List Nat)(vw2:Nat->Int)(v12:Option V):σ=[Ve (.ref a),Ve (.int mode),Ve (.bl ev),Ve (.int lim),Ve (.ref S),Ve (.ref ln),Ve (.int c),Ve (.int at_),Ve (.int (0+(i:Int))),Ve (.int r),Ve (.str (N (13+3*i))),Ve (.ref lp),v12,v13]->Go [LV] He [LV] Hx->Hx LV=Ve (.dK (dk N vk2 λj=>.int (vw2 j)))->uf (13+3*(i+1)) vk2 vw2->(∀j∈vk1,j∈vk2)->(∀p∈ps.take j,p∈vk2)->vk2.length<=13+3*i+1+j->IvV N a S LV ln lp mode lim c at_ r ev v13 He vk1 ps i j σ Hx
inductive IvW(N:Nat->Str)(a S LR LV LD LH LL ln:OW)(mode lim c z:Int)(ev:Bool)(H9:Hp)(rk:Nat->Int)(t:Nat)(i:Nat)(σ:St)(Hc:Hp):Prop
 |mk(lm:OW)(rows:List V)(dls:List Dl)(bss:List (List Tr))(marks vk:List Nat)(vw:Nat->Int)(at_:Int)(v8 v9 v10 v11 v12 v13:Option V):σ=[Ve (.ref a),Ve (.int mode),Ve (.bl ev),Ve (.int lim),Ve (.ref S),Ve (.ref ln),Ve (.int c),Ve (.int at_),v8,v9,v10,v11,v12,v13]->0<=at_->dls.length=i->Go [S,LR,LV,LD] H9 [S,LR,LV,LD] Hc->Bt N S LR LV LD lm LH LL mode ev (lim/4) Hc (rot t (ck rk z)) rows dls bss marks vk vw->uf (13+3*i) vk vw->rows.length<=13+14*i->vk.length<=13+3*i->IvW N a S LR LV LD LH LL ln mode lim c z ev H9 rk t i σ Hc
theorem Fu(T:Txt K mg A):T.qd.Hz P w base 8 (yL K):=by
 have E9:=@mE P w _ _ base _ T;refine T.qd.hs (k:=7) bY (λf cdv A' outer s H vs Q E' hr hu h=>?_);obtain⟨a,ns,mode,ev,lim,rfl,hev,hA,q⟩:=h;have D:=rA (cellAt ns 1);obtain⟨N,eN⟩:∃N,N=nmV (cellAt ns 1):=⟨_,rfl⟩;rw[<-eN]at D q;refine⟨_,(ab (pst 4 bY.nd (rB (cu ak (bI af) (cu ak (fK) (cu ak (fK) (cu ak (fv 1) (cu ak (fv 2) (rf)))))) rfl rfl (by intro z;cases z) ∅))
 (ab (pst 5 bY.nd (ar (E6 T) hr (fv 0^fv 4^af)))
 (ab (bA (cw dS (fv 5) gH (bH ae)) (bz (fv 4) ak (bB hu Vi)))
 (ab (bA (bI (px hu (fv 5) ae^px hu (fv 5) ae^af)) (bz (fv 4) ak (bB hu Vi)))
 (ab (pst 6 bY.nd (ar (zj T) hr (fv 0^ae^af)))
 (ab (pst 7 bY.nd ae)
 (ab (cR O9 rfl (eQ rfl T.fj (ar E9 hr (fv 6^ae^ae^af)^af)) (pgn (i:=8) bY.nd rfl)
  (ab (pst 9 bY.nd (ar E9 hr (fv 6^ax bo ae (fv 8)^ae^af)))
  (ab (pst 10 bY.nd (px hu (fv 5) (ax bo ae (ax dw ae (fv 8)))))
  (ab (pst 11 bY.nd (cw dS (fv 5) (bH (ax bo ae (ax dw ae (fv 8)))) (bH (ax bo (ax bo ae (ax dw ae (fv 8))) (ar E9 hr (fv 6^ax bo ae (fv 8)^ae^af))))))
  (ab (bA (fv 9) (bz (px hu (fv 4) ak) (fv 10) (bB hu Vi)))
  (ab (cR O9 rfl (cA (fv 11)) (pgn (i:=12) bY.nd rfl)
   (ah (bA (pcB Ax T.qI (fv 9^ar E9 hr (fv 6^ae^ae^af)^af)) (bz (px hu (fv 4) ak) (fv 12) (bB hu Vi)))))
  (ab (aK (cN (px hu (fv 4) ak) (bf (ak^fv 10^fv 11^af)^af)))
  (ab (bA (ax bo (cw dS (fv 5) (bH ae) (bH ae)) (fv 11)) (bz (fv 4) ak (bB hu Vi)))
  (ab (bA (ax bo (cw dS (fv 5) (bH ae) (bH ae)) (px hu (fv 4) ak)) (bz (fv 4) ak (bB hu Vi)))
  (ab (pst 13 bY.nd (ar E9 hr (fv 6^ax pP ae (fv 8)^ae^af)))
  (ab (aK (ar (DD T) hr (fv 4^cw dS (fv 0) (bH (fv 7)) (bH (ax bo (fv 7) (fv 13)))^fv 9^ax eJ (fv 3) ae^af)))
  (ab (bA (bf (fv 11^px hu (fv 4) ak^px hu (px hu (px hu (fv 4) ak) ae) ak^af)) (bz (px hu (fv 4) ak) (fv 10) (bB hu Vi)))
  (ah (pst 7 bY.nd (ax bo (fv 7) (fv 13))))))))))))))))
 (ab (aK (cN (px hu (fv 4) ak) (bf (ak^af)^af)))
 (ab (bA (cw dS (fv 5) (bH ae) (bH ae)) (bz (fv 4) ak (bB hu Vi)))
 (ab (bA (ax bo (cw dS (fv 5) (bH ae) (bH ae)) (px hu (fv 4) ak)) (bz (fv 4) ak (bB hu Vi)))
 (ab (aK (ar (DD T) hr (fv 4^cw dS (fv 0) (bH (fv 7)) (bH (ax bo (fv 7) ae))^ae^fv 3^af)))
 (ah (aA (px hu (fv 4) ak)))))))))))))),?_⟩
 refine aq λM1 K1 S hS0=>?_;obtain⟨s1,e1⟩:=alc hS0 (HO.dK []);generalize upd H S _=H1 at s1 e1⊢;refine⟨MB _,λL0 hL0=>?_⟩;obtain⟨s2,e2⟩:=alc hL0 (HO.lst []);generalize upd H1 L0 _=H2 at s2 e2⊢;refine λLV hLV=>?_;obtain⟨s3,e3⟩:=alc hLV (HO.dK []);generalize upd H2 LV _=H3 at s3 e3⊢;refine λLD hLD=>?_;obtain⟨s4,e4⟩:=alc hLD (HO.dK []);generalize upd H3 LD _=H4 at s4 e4⊢;have s24:=(s2.trans s3).trans s4;refine⟨s24 _ _ e1,[((.inr "rows":Key),.ref L0),(.inr "view",.ref LV),(.inr "deeds",.ref LD),(.inr "mode",.int mode),(.inr "even",.bl ev)],rfl,(show 5<=15 by decide),K1 _ _ ?_⟩;rw[show cq [] [((.inr "rows":Key),V.ref L0),(.inr "view",.ref LV),(.inr "deeds",.ref LD),(.inr "mode",.int mode),(.inr "even",.bl ev)]=st5 L0 LV LD mode ev from rfl];have VS:LV≠S:=Vh hLV ((s2) _ _ e1);have DS:LD≠S:=Vh hLD ((s2.trans s3) _ _ e1);have DV:LD≠LV:=Vh hLD e3;have S0:H S=Vf:=hS0;have V0:H LV=Vf:=ao.free (s1.trans s2) hLV;have D0:H LD=Vf:=ao.free ((s1.trans s2).trans s3) hLD;have t4:=s1.trans s24;have g5:Go [S] H [S] (upd H4 S (.dK (st5 L0 LV LD mode ev))):=(Go.new t4).trans (Go.at Mg _);have k5:ao H (upd H4 S (.dK (st5 L0 LV LD mode ev))):=g5.keep (ao.refl _) (λx m=>by rw[Mq.mp m];exact S0);have S5:upd H4 S (.dK (st5 L0 LV LD mode ev)) S=Ve (.dK (st5 L0 LV LD mode ev)):=aj;have V5:upd H4 S (.dK (st5 L0 LV LD mode ev)) LV=Ve (.dK []):=ag VS (s4 _ _ e3);have D5:upd H4 S (.dK (st5 L0 LV LD mode ev)) LD=Ve (.dK []):=ag DS e4;generalize upd H4 S (.dK (st5 L0 LV LD mode ev))=H5 at k5 S5 V5 D5⊢;clear g5 t4 s24 s4 s3 s2 s1 e1 e2 e3 e4 hLD hLV hL0 hS0;try dsimp only
 refine aq λM2 K2=>⟨a,S,L0,LV,LD,ns,mode,ev,rfl,k5.seq hA,S5,V5,λln LR lm rk z t rows0 H6 hrk z1 z4 g6 ln5 LR5 lm5 lnR lmR S6 V6 R6 m6 n6 lr6=>?_⟩;rw[<-eN]at V6 m6 n6 lr6;have nSV:∀x,x≠S->x≠LV->x∉[S,LV]:=λx h1 h2 m=>by
  simp only[Mf,Ms,or_false]at m;rcases m with m|m
  ·exact h1 m
  exact h2 m
 have RS:LR≠S:=Vh LR5 S5;have RV:LR≠LV:=Vh LR5 V5;have RD:LR≠LD:=Vh LR5 D5;have LR0:H LR=Vf:=ao.free k5 LR5;have D6:=g6.o _ _ (nSV _ DS DV) D5;have k6:ao H H6:=g6.keep k5 (λx m=>by
  simp only[Mf,Ms,or_false]at m;rcases m with m|m
  ·rw[m];exact S0
  rw[m];exact V0)
 have lnS:ln≠S:=Vh ln5 S5;have lnV:ln≠LV:=Vh ln5 V5;have lnD:ln≠LD:=Vh ln5 D5;have lmS:lm≠S:=Vh lm5 S5;have lmV:lm≠LV:=Vh lm5 V5;have lmD:lm≠LD:=Vh lm5 D5;have ln0:H ln=Vf:=ao.free k5 ln5;clear g6 k5 S5 V5 D5 ln5 LR5 lm5;refine K2 _ _ ?_;try dsimp only
 refine aq λM3 K3=>⟨_,rfl,Mt ⟨ln,_,rfl,SqL.of n6,λLH hLH=>?_⟩⟩;rw[show hE (nmL N) Vf (Ve 3)=nV N [0,1,2]from rfl];obtain⟨s7,e7⟩:=alc hLH (HO.lst (nV N [0,1,2]));generalize upd H6 LH _=H7 at s7 e7⊢;have HS:LH≠S:=Vh hLH S6;have HV:LH≠LV:=Vh hLH V6;have HR:LH≠LR:=Vh hLH R6;have HD:LH≠LD:=Vh hLH D6;refine⟨_,cW.k (k:=.inr "hands") (s7 _ _ S6) (show 6<sizeLine by decide),K3 _ _ ?_⟩;try dsimp only
 refine aq λM4 K4=>lix (SqL.of (ag lnS (s7 _ _ n6))) (ip N (i:=6) ∅) (lix (SqL.of (ag lnS (s7 _ _ n6))) (ip N (i:=10) ∅) ⟨by show 2<=sizeLine;decide,λLL hLL=>?_⟩);have LLS:LL≠S:=Vh hLL aj;have hLL7:H7 LL=Vf:=by rw[aw LLS]at hLL;exact hLL
 have LLV:LL≠LV:=Vh hLL7 (s7 _ _ V6);have LLR:LL≠LR:=Vh hLL7 (s7 _ _ R6);have LLD:LL≠LD:=Vh hLL7 (s7 _ _ D6);have LLH:LL≠LH:=Vh hLL7 e7;refine⟨_,cW.k (k:=.inr "lists") (ag LLS.symm aj) (show 7<sizeLine by decide),?_⟩;have go8:∀(x:OW)(o:HO),x≠S->H7 x=Ve o->upd (upd (upd H7 S (.dK (Vj (st6 LR LV LD mode ev lm) (.inr "hands") (.ref LH)))) LL (.lst [.str (N 6),.str (N 10)])) S (.dK (Vj (Vj (st6 LR LV LD mode ev lm) (.inr "hands") (.ref LH)) (.inr "lists") (.ref LL))) x=Ve o:=λx o h e=>ag h (ag (λz=>by rw[z,hLL7]at e;cases e) (ag h e));have S8:upd (upd (upd H7 S (.dK (Vj (st6 LR LV LD mode ev lm) (.inr "hands") (.ref LH)))) LL (.lst [.str (N 6),.str (N 10)])) S (.dK (Vj (Vj (st6 LR LV LD mode ev lm) (.inr "hands") (.ref LH)) (.inr "lists") (.ref LL))) S=Ve (.dK (st8 LR LV LD mode ev lm LH LL)):=aj;have L8:upd (upd (upd H7 S (.dK (Vj (st6 LR LV LD mode ev lm) (.inr "hands") (.ref LH)))) LL (.lst [.str (N 6),.str (N 10)])) S (.dK (Vj (Vj (st6 LR LV LD mode ev lm) (.inr "hands") (.ref LH)) (.inr "lists") (.ref LL))) LL=Ve (.lst (nV N [6,10])):=ag LLS aj;generalize upd (upd (upd H7 S (.dK (Vj (st6 LR LV LD mode ev lm) (.inr "hands") (.ref LH)))) LL (.lst [.str (N 6),.str (N 10)])) S (.dK (Vj (Vj (st6 LR LV LD mode ev lm) (.inr "hands") (.ref LH)) (.inr "lists") (.ref LL)))=H8 at go8 S8 L8⊢;have k8:ao H H8:=λx o e=>go8 x o (λz=>by rw[z,S0]at e;cases e) (s7 _ _ (k6 _ _ e));have n8:=go8 _ _ lnS (s7 _ _ n6);have hd0:uf 13 (Pc 13) (v2 rk z 4):=by
  refine⟨λi m=>⟨MV.mp m,?_⟩,λi h=>MV.mpr h,rfl,rfl,∅⟩;have i13:=MV.mp m;have r0:=hrk 0;have r1:=hrk 1;have r2:=hrk 2;have r3:=hrk 3;have r4:=hrk 4;have r5:=hrk 5;have r6:=hrk 6;have:=KS i ();rcases this with rfl|rfl|rfl|rfl|rfl|rfl|rfl|rfl|rfl|rfl|rfl|rfl|rfl<;>(simp[v2,v1,w4];try omega)
 have B8:Bt N S LR LV LD lm LH LL mode ev (lim/4) H8 (rot t (ck rk z)) rows0 [] [] [11,12] (Pc 13) (v2 rk z 4):=by
  refine⟨.inl S8,go8 _ _ RS (s7 _ _ R6),go8 _ _ VS (s7 _ _ V6),⟨λ_=>S,go8 _ _ DS (s7 _ _ D6),λe m=>by cases m⟩,go8 _ _ HS e7,L8,go8 _ _ lmS (s7 _ _ m6),?_,⟨HR,LLR,lmR⟩,λ_ h=>h,∅,⟨rfl,∅,rfl,λj d e=>(by cases e),λd m=>(by cases m),λj d b e=>(by cases e),λb m=>(by cases m)⟩,λe m=>(by cases m)⟩;rw[show dQ [] []=[]from rfl,MR];refine Paired.cI lr6 λv h l=>l.but λx o e nd=>?_;obtain⟨m,e⟩:=bq e;simp only[Mf,Ms,or_false,not_or]at m;exact aQ (λy=>m.2.1 (Mq.mp y)) (go8 _ _ m.1 (s7 _ _ e))
 have lr0:(rot t (ck rk z)).length=13:=by
  unfold rot;rw[Mn,NK,Nb];show 13-t+min t 13=13;omega
 clear go8 S8 L8 s7 e7 k6 hLL hLL7 hLH S6 V6 R6 m6 n6 lr6 D6;refine K4 _ _ ?_;try dsimp only
 refine aq λM5 K5=>⟨a,ns,3,rfl,k8.seq hA,∅,K5 _ _ ?_⟩;obtain⟨c,hc⟩:∃c,c=cellAt ns 3:=⟨_,rfl⟩;rw[<-hc];try dsimp only
 refine aq λM6 K6=>K6 _ _ ?_;try dsimp only
 refine aq λM7 K7=>⟨c,0,5,rfl,∅,∅,λn H9 n0 n1 s9=>?_⟩;obtain⟨n,rfl⟩:∃k:Nat,n=(k:Int):=⟨n.toNat,()⟩;refine⟨n,rfl,(),(),?_⟩;rw[Nq];have k9:ao H H9:=k8.trans s9;have n9:=s9 _ _ n8;have B9:Bt N S LR LV LD lm LH LL mode ev (lim/4) H9 (rot t (ck rk z)) rows0 [] [] [11,12] (Pc 13) (v2 rk z 4):=by
  obtain⟨ts,h1,_⟩:=B8.hD;refine⟨?_,s9 _ _ B8.hR,s9 _ _ B8.hV,⟨ts,s9 _ _ h1,λe m=>by cases m⟩,s9 _ _ B8.hH,s9 _ _ B8.hL,s9 _ _ B8.hm,Paired.cI B8.hr λv h l=>l.same (Go.new s9).same,B8.ne,B8.mks,B8.ml,B8.dd,B8.vd⟩;rcases B8.hS with h|⟨x1,x2,x3,x4,x5,h⟩
  ·exact .inl (s9 _ _ h)
  exact .inr ⟨x1,x2,x3,x4,x5,s9 _ _ h⟩
 have l0:rows0.length=13:=by
  have:=O3 B8.hr;rw[this,Mn,lr0];rfl
 have fr0:∀x∈[S,LR,LV,LD],H x=Vf:=λx m=>by
  simp only[Mf,Ms,or_false]at m;rcases m with m|m|m|m
  ·rw[m];exact S0
  ·rw[m];exact LR0
  ·rw[m];exact V0
  rw[m];exact D0
 have ln4:ln∉[S,LR,LV,LD]:=λm=>by
  simp only[Mf,Ms,or_false]at m;rcases m with m|m|m|m
  ·exact lnS m
  ·exact lnR m
  ·exact lnV m
  exact lnD m
 clear B8 k8 n8 s9;refine kH (lo:=0) (IvW N a S LR LV LD LH LL ln mode lim c z ev H9 rk t) ⟨lm,rows0,[],[],[11,12],_,_,8,Vf,Vf,Vf,Vf,Vf,Vf,rfl,∅,rfl,Go.refl _ _,B9,hd0,(),by show 13<=13;decide⟩ ?_ ?_
 ·rintro i σ Hc hi ⟨lm,rows,dls,bss,marks,vk,vw,at_,v8,v9,v10,v11,v12,v13,rfl,at0,dl,gc,B,W0,rl,vl⟩;have i4:i<4:=()
  have kc:ao H Hc:=gc.keep k9 fr0;have nc:=gc.o _ _ ln4 n9;obtain⟨kvs,eS,gv,gr,lk,fin⟩:=B.st;have GV:∀Hx:Hp,Hx S=Ve (.dK kvs)->c9 Hx S (.str "view") (Ve (.ref LV)):=λHx e=>by rw[<-gv];exact c9.k (k:=.inr "view") e
  have GR:∀Hx:Hp,Hx S=Ve (.dK kvs)->c9 Hx S (.str "rows") (Ve (.ref LR)):=λHx e=>by rw[<-gr];exact c9.k (k:=.inr "rows") e
  try dsimp only
  refine aq λN1 J1=>⟨c,1+i,3,(congrArg (λx:Int=>[V.int c,V.int x,V.int 3]) (show 1+(0+(i:Int))=((1+i:Nat):Int) by omega)),(),∅,λr Ha r0 r1 sa=>J1 _ _ ?_⟩;try dsimp only
  refine aq λN2 J2=>⟨Mt ⟨∅,∅⟩,(lix (SqL.of (sa _ _ nc)) (by rw[show 13+3*(0+(i:Int))=((13+3*i:Nat):Int) by omega];exact ip N ()) (J2 _ _ ?_))⟩;try dsimp only
  refine aq λN3 J3=>⟨Mt ⟨∅,∅⟩,_,rfl,Mt ⟨∅,∅⟩,c,3+i,3,(congrArg (λx:Int=>[V.int c,V.int x,V.int 3]) (show 3+(0+(i:Int))=((3+i:Nat):Int) by omega)),(),∅,λm Hb m0 m1 sb=>⟨_,rfl,Mt ⟨ln,_,rfl,SqL.of ((sa.trans sb) _ _ nc),λlp hlp=>J3 _ _ ?_⟩⟩⟩;obtain⟨m,rfl⟩:∃k:Nat,m=(k:Int):=⟨m.toNat,()⟩;rw[CA i4 ()];obtain⟨ps,hps⟩:∃ps,ps=NI (14+3*i) m:=⟨_,rfl⟩;rw[<-hps];have pm:∀p∈ps,14+3*i<=p/\p<14+3*i+m:=λp hp=>by rw[hps]at hp;simpa using OI.mp hp
  have pl:ps.length=m:=by rw[hps];simp
  obtain⟨sc,ec⟩:=alc hlp (HO.lst (nV N ps));generalize upd Hb lp _=Hd at sc ec⊢;have sd:=(sa.trans sb).trans sc;have lpR:lp≠LR:=Vh hlp ((sa.trans sb) _ _ B.hR);have lpS:lp≠S:=Vh hlp ((sa.trans sb) _ _ eS);have lpV:lp≠LV:=Vh hlp ((sa.trans sb) _ _ B.hV);clear hlp;try dsimp only
  refine aq λN4 J4=>⟨_,GV _ (sd _ _ eS),_,cW.k (k:=.inr (N (13+3*i))) (sd _ _ B.hV) (ay (by rw[fP];omega)),J4 _ _ ?_⟩;rw[zP D () (λj hj=>by have:=(W0.b j hj).1;omega),GU];have V1:uf (13+3*(i+1)) (ins vk (13+3*i)) (uq vw (13+3*i) r):=(W0.up ()).put () () ⟨r0,()⟩ ();have nk:13+3*i∈ins vk (13+3*i):=zD _ _;have ok1:∀j∈vk,j∈ins vk (13+3*i):=λj h=>pq h;have lk1:=rq vk (13+3*i);generalize ins vk (13+3*i)=vk1 at V1 nk ok1 lk1⊢;generalize uq vw (13+3*i) r=vw1 at V1⊢;have ge:Go [LV] Hc [LV] (upd Hd LV (.dK (dk N vk1 λj=>.int (vw1 j)))):=(Go.new sd).trans (Go.at Mg _);have eV:upd Hd LV (.dK (dk N vk1 λj=>.int (vw1 j))) LV=Ve (.dK (dk N vk1 λj=>.int (vw1 j))):=aj;have ep:=ag (u:=.dK (dk N vk1 λj=>.int (vw1 j))) lpV ec;generalize upd Hd LV (.dK (dk N vk1 λj=>.int (vw1 j)))=He at ge eV ep⊢;have nV1:∀x:OW,x≠LV->x∉[LV]:=λx h m=>h (Mq.mp m);clear sc sd sa sb ec;try dsimp only
  refine aq λN5 J5=>Mt ⟨⟨_,SqL.of ep⟩,dI (K:=K) (xs:=nV N ps) (IvV N a S LV ln lp mode lim c at_ r ev v13 He vk1 ps i) ⟨vk1,vw1,v12,rfl,Go.refl _ _,eV,V1,λ_ h=>h,λp hp=>(by cases hp),()⟩ (λj σ Hx _ ⟨_,_,_,_,gx,_,_,_,_,_⟩=>SqL.of (gx.o _ _ (nV1 _ lpV) ep)) ?_ ?_⟩
  ·rintro j v σ Hx hv ⟨vk2,vw2,v12,rfl,gx,eV2,V2,ok2,pk2,lk2⟩;rw[Mu]at hv;obtain⟨p,hp,rfl⟩:=Ng.mp hv;have pb:=pm p (Mr hp);have jl:j<ps.length:=(Ml.mp hp).1;try dsimp only
   refine⟨c,5,3,rfl,∅,∅,λm2 Hy h0 h1 sy=>⟨_,_,rfl,?_⟩⟩;obtain⟨u,hu'⟩:∃u:Int,u=if m2>r then m2 else r:=⟨_,rfl⟩
   rw[<-hu'];have ub:0<=u/\u<=2:=by rw[hu'];split<;>omega
   refine⟨_,GV _ (sy _ _ (gx.o _ _ (nV1 _ VS.symm) (ge.o _ _ (nV1 _ VS.symm) eS))),_,cW.k (k:=.inr (N p)) (sy _ _ eV2) (ay (by rw[fP];omega)),ins vk2 p,uq vw2 p u,_,rfl,(gx.trans (Go.new sy)).trans (Go.at Mg _),?_,V2.put () () ub (),λj h=>pq (ok2 j h),λx hx=>?_,MC (rq _ _) ()⟩
   ·rw[zP D () (λj hj=>by have:=(V2.b j hj).1;omega),GU,aj]
   rw[Nf,hp]at hx;rcases Mp.mp hx with h|h
   ·exact pq (pk2 x h)
   have:x=p:=by simpa using h
   rw[this];exact zD _ _
  rintro σ Hf ⟨vk2,vw2,v12',rfl,gx,eV2,V2,ok2,pk2,lk2⟩;rw[Mj,Nc]at pk2;rw[Mj]at lk2;refine J5 _ _ ?_;have gf:Go [LV] Hc [LV] Hf:=ge.trans gx;have Sf:=gf.o _ _ (nV1 _ VS.symm) eS;have Rf:=gf.o _ _ (nV1 _ RV) B.hR;have pf:=gx.o _ _ (nV1 _ lpV) ep;have nf:=gf.o _ _ (nV1 _ lnV) nc;try dsimp only
  refine aq λN6 J6=>⟨_,GR _ Sf,Mt ⟨rfl,_,SqL.of Rf⟩,by show 3<=sizeLine;decide,λtd htd=>?_⟩;have tdR:td≠LR:=Vh htd Rf;refine⟨_,_,_,rfl,rfl,ag tdR.symm Rf,ay (),J6 _ _ ?_⟩;have tdS:td≠S:=Vh htd Sf;have tdV:td≠LV:=Vh htd eV2;have tdp:td≠lp:=Vh htd pf;have gg:Go [S,LR,LV] Hc [S,LR,LV] (upd (upd Hf td (.tup [.str "deed",.str (N (13+3*i)),.ref lp])) LR (.lst (rows++[.ref td]))):=by
   have h1:Go [S,LR,LV] Hc [S,LR,LV] Hf:=⟨λx o m e=>gf.o x o (λy=>m (by rw[Mq.mp y];simp)) e,λ_ m=>.inl m⟩;exact(h1.trans (Go.new (ao.upd htd _))).trans (Go.at (Mi _ Mg) _)
  have Sg:=ag (u:=.lst (rows++[.ref td])) RS.symm (ag (u:=.tup [.str "deed",.str (N (13+3*i)),.ref lp]) tdS.symm Sf);have Rg:upd (upd Hf td (.tup [.str "deed",.str (N (13+3*i)),.ref lp])) LR (.lst (rows++[.ref td])) LR=Ve (.lst (rows++[.ref td])):=aj;have Vg:=ag (u:=.lst (rows++[.ref td])) RV.symm (ag (u:=.tup [.str "deed",.str (N (13+3*i)),.ref lp]) tdV.symm eV2);have pg:=ag (u:=.lst (rows++[.ref td])) lpR (ag (u:=.tup [.str "deed",.str (N (13+3*i)),.ref lp]) tdp.symm pf);have ng:=ag (u:=.lst (rows++[.ref td])) lnR (ag (u:=.tup [.str "deed",.str (N (13+3*i)),.ref lp]) (Vh htd nf).symm nf);have tg:upd (upd Hf td (.tup [.str "deed",.str (N (13+3*i)),.ref lp])) LR (.lst (rows++[.ref td])) td=Ve (.tup [.str "deed",.str (N (13+3*i)),.ref lp]):=ag tdR aj;generalize upd (upd Hf td (.tup [.str "deed",.str (N (13+3*i)),.ref lp])) LR (.lst (rows++[.ref td]))=Hg at gg Sg Rg Vg pg ng tg⊢;clear htd Sf Rf pf nf gf eV2 gx ep ge eV;try dsimp only
  refine aq λN7 J7=>⟨_,rfl,_,rfl,Mt ⟨ln,_,rfl,SqL.of ng,λp1 hp1=>?_⟩⟩;rw[show hE (nmL N) (Ve 7) (Ve 10)=nV N [7,8,9]from rfl];obtain⟨sh,eh⟩:=alc hp1 (HO.lst (nV N [7,8,9]));generalize upd Hg p1 _=Hh at sh eh⊢;refine⟨p1,lp,_,_,rfl,rfl,eh,sh _ _ pg,sz (by rw[Mj,Mj];show 3+ps.length<=1000;omega),λLT hLT=>?_⟩;rw[show nV N [7,8,9]++nV N ps=nV N ([7,8,9]++ps) by simp];obtain⟨si,ei⟩:=alc hLT (HO.lst (nV N ([7,8,9]++ps)));generalize upd Hh LT _=Hi at si ei⊢;have TS:LT≠S:=Vh hLT (sh _ _ Sg);have TR:LT≠LR:=Vh hLT (sh _ _ Rg);have shi:=sh.trans si;refine⟨_,cW.k (k:=.inr "targets") (shi _ _ Sg) (ay ()),?_⟩;have gj:Go [S] Hg [S] (upd Hi S (.dK (Vj kvs (.inr "targets") (.ref LT)))):=(Go.new shi).trans (Go.at Mg _);have Sj:upd Hi S (.dK (Vj kvs (.inr "targets") (.ref LT))) S=Ve (.dK (Vj kvs (.inr "targets") (.ref LT))):=aj;have Tj:=ag (u:=.dK (Vj kvs (.inr "targets") (.ref LT))) TS ei;generalize upd Hi S (.dK (Vj kvs (.inr "targets") (.ref LT)))=Hj at gj Sj Tj⊢;clear sh eh si ei shi hLT hp1;have nS1:∀x:OW,x≠S->x∉[S]:=λx h m=>h (Mq.mp m);refine J7 _ _ ?_;try dsimp only
  refine aq λN8 J8=>⟨_,rfl,_,rfl,Mt ⟨ln,_,rfl,SqL.of (gj.o _ _ (nS1 _ lnS) ng),λp2 hp2=>?_⟩⟩;rw[show hE (nmL N) (Ve 3) (Ve 6)=nV N [3,4,5]from rfl];obtain⟨sh,eh⟩:=alc hp2 (HO.lst (nV N [3,4,5]));generalize upd Hj p2 _=Hh at sh eh⊢;refine⟨.ref LT,(by rw[<-(fin LT LT).2.1];exact c9.k (k:=.inr "targets") (sh _ _ Sj)),p2,LT,_,_,rfl,rfl,eh,sh _ _ Tj,sz (by rw[Mj,Mj,Mn];show 3+(3+ps.length)<=1000;omega),λLN hLN=>?_⟩;rw[show nV N [3,4,5]++nV N ([7,8,9]++ps)=nV N ([3,4,5]++([7,8,9]++ps)) by simp];obtain⟨si,ei⟩:=alc hLN (HO.lst (nV N ([3,4,5]++([7,8,9]++ps))));generalize upd Hh LN _=Hi at si ei⊢;have Rj:=gj.o _ _ (nS1 _ RS) Rg;have NS:LN≠S:=Vh hLN (sh _ _ Sj);have NR:LN≠LR:=Vh hLN (sh _ _ Rj);have shi:=sh.trans si;refine⟨_,cW.k (k:=.inr "numbers") (shi _ _ Sj) (ay (by have:=(fin LT LT).1;omega)),J8 _ _ ?_⟩;have gk:Go [S] Hg [S] (upd Hi S (.dK (Vj (Vj kvs (.inr "targets") (.ref LT)) (.inr "numbers") (.ref LN)))):=gj.trans ((Go.new shi).trans (Go.at Mg _));have Sk:upd Hi S (.dK (Vj (Vj kvs (.inr "targets") (.ref LT)) (.inr "numbers") (.ref LN))) S=Ve (.dK (Vj (Vj kvs (.inr "targets") (.ref LT)) (.inr "numbers") (.ref LN))):=aj;have Tk:=ag (u:=.dK (Vj (Vj kvs (.inr "targets") (.ref LT)) (.inr "numbers") (.ref LN))) TS (shi _ _ Tj);have Nk:=ag (u:=.dK (Vj (Vj kvs (.inr "targets") (.ref LT)) (.inr "numbers") (.ref LN))) NS ei;generalize upd Hi S (.dK (Vj (Vj kvs (.inr "targets") (.ref LT)) (.inr "numbers") (.ref LN)))=Hk at gk Sk Tk Nk⊢;clear sh eh si ei shi hLN hp2 gj Sj Tj Rj;try dsimp only
  refine aq λN9 J9=>⟨c,6-i,5,(congrArg (λx:Int=>[V.int c,V.int x,V.int 5]) (show 6-(0+(i:Int))=((6-i:Nat):Int) by omega)),(),∅,λmany Hl y0 y1 sl=>J9 _ _ ?_⟩;have kl:∀(x:OW)(o:HO),x≠S->x≠LR->x≠LV->Hc x=Ve o->Hl x=Ve o:=λx o h1 h2 h3 e=>sl _ _ (gk.o _ _ (nS1 _ h1) (gg.o _ _ (λm=>by
   simp only[Mf,Ms,or_false]at m;rcases m with m|m|m
   ·exact h1 m
   ·exact h2 m
   exact h3 m) e))
  have kn:∀(x:OW)(o:HO),x≠LR->(∀y,o≠ .dK y)->Hc x=Ve o->Hl x=Ve o:=λx o h1 nd e=>kl x o (λy=>by rw[y,eS]at e;exact nd _ (O1 e).symm) h1 (λy=>by rw[y,B.hV]at e;exact nd _ (O1 e).symm) e;have gl:Go [S,LR,LV] Hc [S,LR,LV] Hl:=⟨λx o m e=>by
   simp only[Mf,Ms,or_false,not_or]at m;exact kl x o m.1 m.2.1 m.2.2 e,λ_ m=>.inl m⟩
  have hc':ao H Hl:=λx o e=>kl x o (λy=>by rw[y,S0]at e;cases e) (λy=>by rw[y,LR0]at e;cases e) (λy=>by rw[y,V0]at e;cases e) (kc _ _ e);have Sl:=sl _ _ Sk;have Rl:=sl _ _ (gk.o _ _ (nS1 _ RS) Rg);have Vl:=sl _ _ (gk.o _ _ (nS1 _ VS) Vg);have pL:=sl _ _ (gk.o _ _ (nS1 _ lpS) pg);have tL:=sl _ _ (gk.o _ _ (nS1 _ tdS) tg);have Tl:=sl _ _ Tk;have Nl:=sl _ _ Nk;clear gk sl gg Sk Rg Vg pg tg Tk Nk Sg ng;try dsimp only
  refine aq λN10 J10=>⟨_,rfl,_,rfl,Mt ⟨a,_,rfl,hc'.seq hA,λcl hcl=>?_⟩⟩;obtain⟨cs,ecs,lcs⟩:=uZ (ns:=ns) at0 y0;rw[ecs];obtain⟨sm,em⟩:=alc hcl (HO.lst (cs.map V.int));generalize upd Hl cl _=Hm at sm em⊢;have clR:cl≠LR:=Vh hcl Rl;clear hcl;have lenR:=O3 B.hr;have n2:∀x,x≠S->x≠LR->x∉[S,LR]:=λx h1 h2 m=>by
   simp only[Mf,Ms,or_false]at m;rcases m with m|m
   ·exact h1 m
   exact h2 m
  have nS:∀(x:OW)(o:HO),(∀y,o≠ .dK y)->Hm x=Ve o->x≠S:=λx o nd e y=>by
   rw[y,sm _ _ Sl]at e;exact nd _ (O1 e).symm
  obtain⟨ts,hLDc,hts⟩:=B.hD;have LDm:=sm _ _ (kl _ _ DS RD.symm DV hLDc);obtain⟨g,hg⟩:∃g:Gc,g=⟨N,S,LR,LV,LD,LH,LL,LT,LN,mode,ev,vk2,vw2,[7,8,9]++ps,[3,4,5]++([7,8,9]++ps),dls,lim/4,rot t (ck rk z)++dQ dls bss++[.hW (13+3*i) ps],r⟩:=⟨_,rfl⟩;have dn:∀k,k<=4->((Pc k).map λj=>13+3*j).Nodup:=∅
  have dvk:∀e∈dls,e.nm∈vk2/\∀p∈e.ps,p∈vk2:=λe m=>⟨ok2 _ (ok1 _ (B.vd e m).1),λp hp=>ok2 _ (ok1 _ ((B.vd e m).2 p hp))⟩;have tv:∀j∈[7,8,9]++ps,j∈vk2:=λj hj=>by
   rcases Mp.mp hj with h|h
   ·refine V2.h j ?_;simp only[Mf,Ms,or_false]at h;omega
   exact pk2 j h
  have GO:jI g:=by
   rw[hg];refine⟨hev,D,λj hj=>⟨by have:=(V2.b j hj).1;omega,(V2.b j hj).2⟩,tv,λj hj=>?_,λj hj=>V2.h j ?_,(by show 9∈[7,8,9]++ps;simp),V2.v9,V2.v2,λe m=>?_,?_,B.dd.l4,(by show([7,8,9]++ps).length<=5;simp;omega),(by show([3,4,5]++([7,8,9]++ps)).length<=8;simp;omega),⟨r0,(by show r<=2;omega)⟩,?_⟩
   ·rcases Mp.mp hj with h|h
    ·refine V2.h j ?_;simp only[Mf,Ms,or_false]at h;omega
    exact tv j h
   ·simp only[Mf,Ms,or_false]at hj;omega
   ·obtain⟨j,hj⟩:=ME m;obtain⟨k,hk,ek⟩:=B.dd.ps j e hj;have sp:=B.dd.sp e m;exact⟨(dvk e m).1,by rw[ek,Og];exact hk,sp.1,sp.2.2,(dvk e m).2⟩
   ·show(dls.map Dl.nm).Nodup;rw[B.dd.nm];exact dn _ B.dd.l4
   show(rot t (ck rk z)++dQ dls bss++[Lr.hW (13+3*i) ps]).length<=500;rw[Mn,<-lenR];show rows.length+1<=500;omega
  have PA:DX g Hm lm marks (rows++[.ref td]):=by
   have fg:=(fin LT LN).2.2 g (by rw[hg]) (by rw[hg]) (by rw[hg]) (by rw[hg]) (by rw[hg]) (by rw[hg]) (by rw[hg]) (by rw[hg]) (by rw[hg]);refine⟨?_,?_,?_,?_,?_,?_,B.mks,B.ml⟩
   ·rw[show g.S=S by rw[hg]];rcases fg with h|⟨x,y,z,h⟩
    ·exact .inl (by rw[<-h];exact sm _ _ Sl)
    exact .inr ⟨x,y,z,by rw[<-h];exact sm _ _ Sl⟩
   ·rw[hg];exact sm _ _ Rl
   ·rw[hg];exact RS.symm
   ·rw[hg];have lst:∀(x:OW)(xs:List V),x≠LR->Hm x=Ve (.lst xs)->del [S,LR] Hm x=Ve (.lst xs):=λx xs h e=>aQ (n2 _ (nS x _ eI e) h) e;refine⟨aQ (n2 _ VS RV.symm) (sm _ _ Vl),⟨ts,aQ (n2 _ DS RD.symm) LDm,λe m=>?_⟩,lst _ _ B.ne.1 (sm _ _ (kn _ _ B.ne.1 eI B.hH)),lst _ _ B.ne.2.1 (sm _ _ (kn _ _ B.ne.2.1 eI B.hL)),lst _ _ TR (sm _ _ Tl),lst _ _ NR (sm _ _ Nl)⟩;obtain⟨⟨h1,h2⟩,h3,h4⟩:=hts e m;have h2':=sm _ _ (kn _ _ h1 tP h2);exact⟨aQ (n2 _ (nS _ _ tP h2') h1) h2',lst _ _ h3 (sm _ _ (kn _ _ h3 eI h4))⟩
   ·rw[hg];have h:=sm _ _ (kn _ _ B.ne.2.2 eI B.hm);exact aQ (n2 _ (nS _ _ eI h) B.ne.2.2) h
   rw[hg];refine Pm ⟨td,lp,rfl,aQ (n2 _ tdS tdR) (sm _ _ tL),λo ho=>?_⟩ (Paired.cI B.hr λv h l=>l.but λx o e nd=>?_)
   ·obtain⟨m,e⟩:=bq e;have xR:x≠LR:=λy=>m (by rw[y];exact Mg);have h:=sm _ _ (kn _ _ xR nd e);exact aQ (n2 _ (nS _ _ nd h) xR) h
   cases ho;exact aQ (n2 _ lpS lpR) (sm _ _ pL)
  refine⟨⟨∅,∅⟩,g,cl,lm,cs,marks,rows++[.ref td],(by rw[hg];rfl),GO,PA,em,(by rw[hg];exact clR),(),λd rows' Hn gn E fl=>?_⟩;rw[show g.S=S by rw[hg],show g.LR=LR by rw[hg]]at gn;have ES:Hn S=Ve (.dK (stK g d)):=by
   have:=E.hS;rw[show g.S=S by rw[hg]]at this;exact this
  have ER:Hn LR=Ve (.lst rows'):=by
   have:=E.hR;rw[show g.LR=LR by rw[hg]]at this;exact this
  have Em:=E.hm;have Er:=E.hr;rw[show g.S=S by rw[hg],show g.LR=LR by rw[hg],show g.N=N by rw[hg]]at Em Er;have Ln:=gn.o _ _ (n2 _ DS RD.symm) LDm;refine J10 _ _ ?_;try dsimp only
  refine aq λN11 J11=>dgk ES rfl (dgk ES rfl (lix (SqL.of E.hO) (dA (j:=0) rfl) (dgk E.h0 rfl ⟨by show 3<=sizeLine;decide,λt2 ht2=>?_⟩)));have t2S:t2≠S:=Vh ht2 ES;have t2R:t2≠LR:=Vh ht2 ER;have t2D:t2≠LD:=Vh ht2 Ln;have gD:c9 (upd Hn t2 (.tup [.ref lp,.int d.spent,.int d.bc])) S (.str "deeds") (Ve (.ref g.LD)):=c9.k (k:=.inr "deeds") (ag t2S.symm ES);rw[show g.LD=LD by rw[hg]]at gD;refine⟨_,gD,_,cW.k (k:=.inr (N (13+3*i))) (ag t2D.symm Ln) (ay (by rw[fP,Mj];omega)),J11 _ _ ?_⟩;have nm':(13+3*i)∉dls.map Dl.nm:=λm=>by
   rw[B.dd.nm,dl]at m;obtain⟨j,hj,e⟩:=Mz.mp m;have:=MV.mp hj;omega
  rw[iT D () (λj hj=>by
   obtain⟨e,he,rfl⟩:=Mz.mp hj;have:=(W0.b _ (B.vd e he).1).1;omega) nm']
  obtain⟨tz,htz⟩:∃tz:Nat->OW,tz=λj=>if j=13+3*i then t2 else ts j:=⟨_,rfl⟩
  rw[show o7 (λj=>V.ref (ts j)) (13+3*i) (.ref t2)=λj=>V.ref (tz j)from funext λj=>by rw[htz];unfold o7;dsimp only;split<;>rfl];obtain⟨dl',hdl'⟩:∃dl':Dl,dl'=⟨13+3*i,ps,d.spent,d.bc,lp⟩:=⟨_,rfl⟩;rw[show dls.map Dl.nm++[13+3*i]=(dls++[dl']).map Dl.nm by rw[hdl'];simp];have tl':tz (13+3*i)=t2:=by rw[htz];exact if_pos rfl
  have to':∀e∈dls,tz e.nm=ts e.nm:=λe m=>by
   rw[htz];exact if_neg λy=>nm' (by rw[<-y];exact N0 m)
  have kz:∀(x:OW)(o:HO),x≠LR->(∀y,o≠ .dK y)->Hn x=Ve o->upd (upd Hn t2 (.tup [.ref lp,.int d.spent,.int d.bc])) LD (.dK (dk N ((dls++[dl']).map Dl.nm) λj=>.ref (tz j))) x=Ve o:=λx o _ nd e=>ag (λy=>by rw[y,Ln]at e;exact nd _ (O1 e).symm) (ag (λy=>by rw[y,ht2]at e;cases e) e);have kn2:∀(x:OW)(o:HO),x≠LR->(∀y,o≠ .dK y)->Hc x=Ve o->upd (upd Hn t2 (.tup [.ref lp,.int d.spent,.int d.bc])) LD (.dK (dk N ((dls++[dl']).map Dl.nm) λj=>.ref (tz j))) x=Ve o:=λx o h nd e=>by
   have h1:=sm _ _ (kn x o h nd e);exact kz x o h nd (gn.o _ _ (n2 _ (nS _ _ nd h1) h) h1)
  have lpn:=gn.o _ _ (n2 _ lpS lpR) (sm _ _ pL);have gz:Go [S,LR,LV,LD] Hc [S,LR,LV,LD] (upd (upd Hn t2 (.tup [.ref lp,.int d.spent,.int d.bc])) LD (.dK (dk N ((dls++[dl']).map Dl.nm) λj=>.ref (tz j)))):=by
   have w1:Go [S,LR,LV,LD] Hc [S,LR,LV,LD] Hl:=⟨λx o m e=>by
    simp only[Mf,Ms,or_false,not_or]at m;exact kl x o m.1 m.2.1 m.2.2.1 e,λ_ m=>.inl m⟩
   have w2:Go [S,LR,LV,LD] Hm [S,LR,LV,LD] Hn:=⟨λx o m e=>by
    simp only[Mf,Ms,or_false,not_or]at m;exact gn.o x o (n2 _ m.1 m.2.1) e,λ_ m=>.inl m⟩
   exact(((w1.trans (Go.new sm)).trans w2).trans (Go.new (ao.upd ht2 _))).trans (Go.at (by simp) _)
  have pre':g.pre++aZ d.bs++[.fin]=rot t (ck rk z)++dQ (dls++[dl']) (bss++[d.bs]):=by
   rw[pZ _ _ B.dd.len,hg,hdl'];simp
  rw[pre']at Er;have lenE:=O3 Er;rw[pZ _ _ B.dd.len,<-MK,Mn,<-lenR]at lenE;have dmR:d.lm≠LR:=λy=>(bq Em).1 (by rw[y];simp);have Bn:Bt N S LR LV LD d.lm LH LL mode ev (lim/4) (upd (upd Hn t2 (.tup [.ref lp,.int d.spent,.int d.bc])) LD (.dK (dk N ((dls++[dl']).map Dl.nm) λj=>.ref (tz j)))) (rot t (ck rk z)) rows' (dls++[dl']) (bss++[d.bs]) d.marks vk2 vw2:=by
   refine⟨.inr ⟨.ref LT,.ref LN,.ref d.lo,.int d.spent,.int (lim/4),?_⟩,ag RD (ag t2R.symm ER),ag DV.symm (ag (Vh ht2 (gn.o _ _ (n2 _ VS RV.symm) (sm _ _ Vl))).symm (gn.o _ _ (n2 _ VS RV.symm) (sm _ _ Vl))),⟨tz,aj,λe m=>?_⟩,kn2 _ _ B.ne.1 eI B.hH,kn2 _ _ B.ne.2.1 eI B.hL,kz _ _ dmR eI (bq Em).2,Paired.cI Er λv h l=>l.but λx o e nd=>?_,⟨B.ne.1,B.ne.2.1,dmR⟩,E.mks,E.ml,?_,λe m=>?_⟩
   ·have h:=ag (u:=.dK (dk N ((dls++[dl']).map Dl.nm) λj=>.ref (tz j))) DS.symm (ag (u:=.tup [.ref lp,.int d.spent,.int d.bc]) t2S.symm ES);rw[hg]at h;exact h
   ·rcases Mp.mp m with m|m
    ·obtain⟨⟨h1,h2⟩,h3,h4⟩:=hts e m;rw[to' e m];exact⟨⟨h1,kn2 _ _ h1 tP h2⟩,h3,kn2 _ _ h3 eI h4⟩
    rw[Mq.mp m,show dl'.nm=13+3*i by rw[hdl'],show dl'.lp=lp by rw[hdl'],show dl'.sp=d.spent by rw[hdl'],show dl'.co=d.bc by rw[hdl'],show dl'.ps=ps by rw[hdl'],tl'];exact⟨⟨t2R,ag t2D aj⟩,lpR,kz _ _ lpR eI lpn⟩
   ·obtain⟨m,e⟩:=bq e;have xR:x≠LR:=λy=>m (by rw[y];simp);exact aQ (λy=>xR (Mq.mp y)) (kz _ _ xR nd e)
   ·have ebs:=E.bs;have esp:=E.sp;have epy:=E.pay;rw[hg]at ebs esp epy;exact B.dd.add () (by rw[hdl',dl]) ⟨m,(),by rw[hdl',dl];exact hps⟩ (by rw[hdl'];exact⟨esp.1,esp.2,E.bc⟩) (by rw[hdl'];exact ebs) (by rw[hdl'];exact epy) E.dp
   rcases Mp.mp m with m|m
   ·exact dvk e m
   rw[Mq.mp m,hdl'];exact⟨ok2 _ nk,pk2⟩
  try dsimp only
  exact⟨d.lm,rows',dls++[dl'],bss++[d.bs],d.marks,vk2,vw2,at_+many,_,_,_,_,_,_,rfl,(),by simp[dl],gc.trans gz,Bn,V2,by simp at lenE;omega,()⟩
 rintro σ Hc ⟨lm,rows,dls,bss,marks,vk,vw,at_,v8,v9,v10,v11,v12,v13,rfl,at0,dl,gc,B,W0,rl,vl⟩;refine K7 _ _ ?_;have kc:ao H Hc:=gc.keep k9 fr0;have nc:=gc.o _ _ ln4 n9;obtain⟨kvs,eS,gv,gr,lk,fin⟩:=B.st;have GR:∀Hx:Hp,Hx S=Ve (.dK kvs)->c9 Hx S (.str "rows") (Ve (.ref LR)):=λHx e=>by rw[<-gr];exact c9.k (k:=.inr "rows") e
 have dl4:=B.dd.l4;try dsimp only
 refine aq λN6 J6=>⟨_,GR _ eS,Mt ⟨rfl,_,SqL.of B.hR⟩,by show 1<=sizeLine;decide,λtd htd=>?_⟩;have tdR:td≠LR:=Vh htd B.hR;refine⟨_,_,_,rfl,rfl,ag tdR.symm B.hR,ay (),J6 _ _ ?_⟩;have tdS:td≠S:=Vh htd eS;have tdV:td≠LV:=Vh htd B.hV;have gg:Go [S,LR,LV] Hc [S,LR,LV] (upd (upd Hc td (.tup [.str "main"])) LR (.lst (rows++[.ref td]))):=(Go.new (ao.upd htd _)).trans (Go.at (Mi _ Mg) _);have Sg:=ag (u:=.lst (rows++[.ref td])) RS.symm (ag (u:=.tup [.str "main"]) tdS.symm eS);have Rg:upd (upd Hc td (.tup [.str "main"])) LR (.lst (rows++[.ref td])) LR=Ve (.lst (rows++[.ref td])):=aj;have Vg:=ag (u:=.lst (rows++[.ref td])) RV.symm (ag (u:=.tup [.str "main"]) tdV.symm B.hV);have ng:=ag (u:=.lst (rows++[.ref td])) lnR (ag (u:=.tup [.str "main"]) (Vh htd nc).symm nc);have tg:upd (upd Hc td (.tup [.str "main"])) LR (.lst (rows++[.ref td])) td=Ve (.tup [.str "main"]):=ag tdR aj;generalize upd (upd Hc td (.tup [.str "main"])) LR (.lst (rows++[.ref td]))=Hg at gg Sg Rg Vg ng tg⊢;clear htd;try dsimp only
 refine aq λN7 J7=>⟨_,rfl,_,rfl,Mt ⟨ln,_,rfl,SqL.of ng,λLT hLT=>?_⟩⟩;rw[show hE (nmL N) (Ve 7) (Ve 10)=nV N [7,8,9]from rfl];obtain⟨si,ei⟩:=alc hLT (HO.lst (nV N [7,8,9]));generalize upd Hg LT _=Hi at si ei⊢;have TS:LT≠S:=Vh hLT Sg;have TR:LT≠LR:=Vh hLT Rg;refine⟨_,cW.k (k:=.inr "targets") (si _ _ Sg) (ay ()),?_⟩;have gj:Go [S] Hg [S] (upd Hi S (.dK (Vj kvs (.inr "targets") (.ref LT)))):=(Go.new si).trans (Go.at Mg _);have Sj:upd Hi S (.dK (Vj kvs (.inr "targets") (.ref LT))) S=Ve (.dK (Vj kvs (.inr "targets") (.ref LT))):=aj;have Tj:=ag (u:=.dK (Vj kvs (.inr "targets") (.ref LT))) TS ei;generalize upd Hi S (.dK (Vj kvs (.inr "targets") (.ref LT)))=Hj at gj Sj Tj⊢;clear si ei hLT;have nS1:∀x:OW,x≠S->x∉[S]:=λx h m=>h (Mq.mp m);refine J7 _ _ ?_;try dsimp only
 refine aq λN8 J8=>⟨_,rfl,_,rfl,Mt ⟨ln,_,rfl,SqL.of (gj.o _ _ (nS1 _ lnS) ng),λp2 hp2=>?_⟩⟩;rw[show hE (nmL N) (Ve 3) (Ve 6)=nV N [3,4,5]from rfl];obtain⟨sh,eh⟩:=alc hp2 (HO.lst (nV N [3,4,5]));generalize upd Hj p2 _=Hh at sh eh⊢;refine⟨.ref LT,(by rw[<-(fin LT LT).2.1];exact c9.k (k:=.inr "targets") (sh _ _ Sj)),p2,LT,_,_,rfl,rfl,eh,sh _ _ Tj,sz (by show 6<=1000;decide),λLN hLN=>?_⟩;rw[show nV N [3,4,5]++nV N [7,8,9]=nV N [3,4,5,7,8,9]from rfl];obtain⟨si,ei⟩:=alc hLN (HO.lst (nV N [3,4,5,7,8,9]));generalize upd Hh LN _=Hi at si ei⊢;have Rj:=gj.o _ _ (nS1 _ RS) Rg;have NS:LN≠S:=Vh hLN (sh _ _ Sj);have NR:LN≠LR:=Vh hLN (sh _ _ Rj);have shi:=sh.trans si;refine⟨_,cW.k (k:=.inr "numbers") (shi _ _ Sj) (ay (by have:=(fin LT LT).1;omega)),?_⟩;have gk:Go [S] Hg [S] (upd Hi S (.dK (Vj (Vj kvs (.inr "targets") (.ref LT)) (.inr "numbers") (.ref LN)))):=gj.trans ((Go.new shi).trans (Go.at Mg _));have Sl:upd Hi S (.dK (Vj (Vj kvs (.inr "targets") (.ref LT)) (.inr "numbers") (.ref LN))) S=Ve (.dK (Vj (Vj kvs (.inr "targets") (.ref LT)) (.inr "numbers") (.ref LN))):=aj;have Tl:=ag (u:=.dK (Vj (Vj kvs (.inr "targets") (.ref LT)) (.inr "numbers") (.ref LN))) TS (shi _ _ Tj);have Nl:=ag (u:=.dK (Vj (Vj kvs (.inr "targets") (.ref LT)) (.inr "numbers") (.ref LN))) NS ei;generalize upd Hi S (.dK (Vj (Vj kvs (.inr "targets") (.ref LT)) (.inr "numbers") (.ref LN)))=Hl at gk Sl Tl Nl⊢;clear sh eh si ei shi hLN hp2 gj Sj Tj Rj;have kl:∀(x:OW)(o:HO),x≠S->x≠LR->x≠LV->Hc x=Ve o->Hl x=Ve o:=λx o h1 h2 h3 e=>gk.o _ _ (nS1 _ h1) (gg.o _ _ (λm=>by
  simp only[Mf,Ms,or_false]at m;rcases m with m|m|m
  ·exact h1 m
  ·exact h2 m
  exact h3 m) e)
 have kn:∀(x:OW)(o:HO),x≠LR->(∀y,o≠ .dK y)->Hc x=Ve o->Hl x=Ve o:=λx o h1 nd e=>kl x o (λy=>by rw[y,eS]at e;exact nd _ (O1 e).symm) h1 (λy=>by rw[y,B.hV]at e;exact nd _ (O1 e).symm) e;have hc':ao H Hl:=λx o e=>kl x o (λy=>by rw[y,S0]at e;cases e) (λy=>by rw[y,LR0]at e;cases e) (λy=>by rw[y,V0]at e;cases e) (kc _ _ e);have Rl:=gk.o _ _ (nS1 _ RS) Rg;have Vl:=gk.o _ _ (nS1 _ VS) Vg;have tL:=gk.o _ _ (nS1 _ tdS) tg;clear gk gg Rg Vg tg Sg ng;refine J8 _ _ ?_;try dsimp only
 refine aq λN10 J10=>⟨_,rfl,_,rfl,Mt ⟨a,_,rfl,hc'.seq hA,λcl hcl=>?_⟩⟩;obtain⟨cs,ecs,lcs⟩:=uZ (ns:=ns) at0 (show(0:Int)<=40 by decide);rw[ecs];obtain⟨sm,em⟩:=alc hcl (HO.lst (cs.map V.int));generalize upd Hl cl _=Hm at sm em⊢;have clR:cl≠LR:=Vh hcl Rl;clear hcl;have lenR:=O3 B.hr;have n2:∀x,x≠S->x≠LR->x∉[S,LR]:=λx h1 h2 m=>by
  simp only[Mf,Ms,or_false]at m;rcases m with m|m
  ·exact h1 m
  exact h2 m
 have nS:∀(x:OW)(o:HO),(∀y,o≠ .dK y)->Hm x=Ve o->x≠S:=λx o nd e y=>by
  rw[y,sm _ _ Sl]at e;exact nd _ (O1 e).symm
 obtain⟨ts,hLDc,hts⟩:=B.hD;have LDm:=sm _ _ (kl _ _ DS RD.symm DV hLDc);obtain⟨g,hg⟩:∃g:Gc,g=⟨N,S,LR,LV,LD,LH,LL,LT,LN,mode,ev,vk,vw,[7,8,9],[3,4,5,7,8,9],dls,lim,rot t (ck rk z)++dQ dls bss++[.main],0⟩:=⟨_,rfl⟩;have dn:∀k,k<=4->((Pc k).map λj=>13+3*j).Nodup:=∅
 have low:∀(l:List Nat),(∀x∈l,x<13)->∀j∈l,j∈vk:=λl h j hj=>W0.h j (h j hj);have GO:jI g:=by
  rw[hg];refine⟨hev,D,λj hj=>⟨by have:=(W0.b j hj).1;omega,(W0.b j hj).2⟩,low [7,8,9] ∅,low [3,4,5,7,8,9] ∅,low [0,1,2,6,10,11,12] ∅,(by show 9∈[7,8,9];decide),W0.v9,W0.v2,λe m=>?_,?_,B.dd.l4,(by show 3<=5;decide),(by show 6<=8;decide),⟨(by show(0:Int)<=0;decide),(by show(0:Int)<=2;decide)⟩,?_⟩
  ·obtain⟨j,hj⟩:=ME m;obtain⟨k,hk,ek⟩:=B.dd.ps j e hj;have sp:=B.dd.sp e m;exact⟨(B.vd e m).1,by rw[ek,Og];exact hk,sp.1,sp.2.2,(B.vd e m).2⟩
  ·show(dls.map Dl.nm).Nodup;rw[B.dd.nm];exact dn _ B.dd.l4
  show(rot t (ck rk z)++dQ dls bss++[Lr.main]).length<=500;rw[Mn,<-lenR];show rows.length+1<=500;omega
 have PA:DX g Hm lm marks (rows++[.ref td]):=by
  have fg:=(fin LT LN).2.2 g (by rw[hg]) (by rw[hg]) (by rw[hg]) (by rw[hg]) (by rw[hg]) (by rw[hg]) (by rw[hg]) (by rw[hg]) (by rw[hg]);refine⟨?_,?_,?_,?_,?_,?_,B.mks,B.ml⟩
  ·rw[show g.S=S by rw[hg]];rcases fg with h|⟨x,y,z,h⟩
   ·exact .inl (by rw[<-h];exact sm _ _ Sl)
   exact .inr ⟨x,y,z,by rw[<-h];exact sm _ _ Sl⟩
  ·rw[hg];exact sm _ _ Rl
  ·rw[hg];exact RS.symm
  ·rw[hg];have lst:∀(x:OW)(xs:List V),x≠LR->Hm x=Ve (.lst xs)->del [S,LR] Hm x=Ve (.lst xs):=λx xs h e=>aQ (n2 _ (nS x _ eI e) h) e;refine⟨aQ (n2 _ VS RV.symm) (sm _ _ Vl),⟨ts,aQ (n2 _ DS RD.symm) LDm,λe m=>?_⟩,lst _ _ B.ne.1 (sm _ _ (kn _ _ B.ne.1 eI B.hH)),lst _ _ B.ne.2.1 (sm _ _ (kn _ _ B.ne.2.1 eI B.hL)),lst _ _ TR (sm _ _ Tl),lst _ _ NR (sm _ _ Nl)⟩;obtain⟨⟨h1,h2⟩,h3,h4⟩:=hts e m;have h2':=sm _ _ (kn _ _ h1 tP h2);exact⟨aQ (n2 _ (nS _ _ tP h2') h1) h2',lst _ _ h3 (sm _ _ (kn _ _ h3 eI h4))⟩
  ·rw[hg];have h:=sm _ _ (kn _ _ B.ne.2.2 eI B.hm);exact aQ (n2 _ (nS _ _ eI h) B.ne.2.2) h
  rw[hg];refine Pm ⟨td,td,rfl,aQ (n2 _ tdS tdR) (sm _ _ tL),λo ho=>by cases ho⟩ (Paired.cI B.hr λv h l=>l.but λx o e nd=>?_);obtain⟨m,e⟩:=bq e;have xR:x≠LR:=λy=>m (by rw[y];exact Mg);have h:=sm _ _ (kn _ _ xR nd e);exact aQ (n2 _ (nS _ _ nd h) xR) h
 refine⟨g,cl,lm,cs,marks,rows++[.ref td],(by rw[hg];rfl),GO,PA,em,(by rw[hg];exact clR),(),λd rows' Hn gn E fl=>?_⟩;rw[show g.S=S by rw[hg],show g.LR=LR by rw[hg]]at gn;have ES:Hn S=Ve (.dK (stK g d)):=by
  have:=E.hS;rw[show g.S=S by rw[hg]]at this;exact this
 have ER:Hn LR=Ve (.lst rows'):=by
  have:=E.hR;rw[show g.LR=LR by rw[hg]]at this;exact this
 have Er:=E.hr;rw[show g.S=S by rw[hg],show g.LR=LR by rw[hg],show g.N=N by rw[hg]]at Er;have pre':g.pre++aZ d.bs++[.fin]=rot t (ck rk z)++dQ dls bss++(.main::(aZ d.bs++[.fin])):=by
  rw[hg];simp
 have kn':ao H Hn:=λx o e=>gn.o _ _ (n2 _ (λy=>by rw[y,S0]at e;cases e) (λy=>by rw[y,LR0]at e;cases e)) (sm _ _ (hc' _ _ e));rw[pre']at Er;have gR:c9 Hn S (.str "rows") (Ve (.ref g.LR)):=c9.k (k:=.inr "rows") ES;rw[show g.LR=LR by rw[hg]]at gR;refine J10 _ _ ?_;try dsimp only
 refine⟨_,gR,?_⟩;have ebs:=E.bs;have esp:=E.sp;have epy:=E.pay;rw[hg]at ebs esp epy;refine q LR rows' _ rk z t dls bss d.bs Hn kn' LR0 ER (Paired.cI Er λv h l=>l.same λx o e=>?_) ⟨rfl,hrk,⟨z1,z4⟩,B.dd,ebs,?_,λe=>⟨d.spent,epy e,esp.2⟩,E.dp⟩
 ·obtain⟨m,e⟩:=bq e;exact aQ (λy=>m (by rw[Mq.mp y];simp)) e
 rw[Mn,<-lenR];simp;omega
theorem eW(h:decide (V.str a=V.str b)=true):a=b:=V.str.inj (of_decide_eq_true h)
theorem jr(h:¬ decide (V.str a=V.str b)=true):a≠b:=λe=>h (decide_eq_true (by rw[e]))
def zU(A:Adr)(N:Nat->Str)(X:Hp)(v:V)(n:Int):Lr->Prop
 | .hand i r=>∃a dx,v=.ref a/\X a=Ve (.ins A.bT dx [("number",.int n),("name",.str (N i)),("rank",.int r)])
 | .giv i r z=>∃a dx,v=.ref a/\X a=Ve (.ins A.aN dx [("number",.int n),("name",.str (N i)),("rank",.int r),("size",.int z)])
 | .own i z=>∃a dx,v=.ref a/\X a=Ve (.ins A.bG dx [("number",.int n),("name",.str (N i)),("size",.int z)])
 | .lt i r=>∃a dx,v=.ref a/\X a=Ve (.ins A.cH dx [("number",.int n),("name",.str (N i)),("rank",.int r)])
 | .set x val=>∃a dx p,v=.ref a/\X a=Ve (.ins A.cY dx [("number",.int n),("name",.str (N x)),("value",.ref p)])/\X p=Ve (.tup (vV N val))
 | .put x pl val=>∃a dx p,v=.ref a/\X a=Ve (.ins A.cM dx [("number",.int n),("name",.str (N x)),("place",pl.v N),("value",.ref p)])/\X p=Ve (.tup (vV N val))
 | .snd h val=>∃a dx p,v=.ref a/\X a=Ve (.ins A.bL dx [("number",.int n),("name",.str (N h)),("value",.ref p)])/\X p=Ve (.tup (vV N val))
 | .say x val m=>∃a dx p,v=.ref a/\X a=Ve (.ins A.cm dx [("number",.int n),("name",.str (N x)),("value",.ref p),("mark",.str (N m))])/\X p=Ve (.tup (vV N val))
 | .call i ts=>∃a dx p,v=.ref a/\X a=Ve (.ins A.cD dx [("number",.int n),("name",.str (N i)),("things",.ref p)])/\X p=Ve (.lst (ts.map (Th.v N)))
 | .last=>∃a dx,v=.ref a/\X a=Ve (.ins A.cS dx [("number",.int n)])
 |_=>False
theorem zU.same(s:ao X X')(h:zU A N X v n r):zU A N X' v n r:=by
 cases r with
 |hand i r=>obtain⟨a,dx,e,h1⟩:=h;exact⟨a,dx,e,s _ _ h1⟩
 |giv i r z=>obtain⟨a,dx,e,h1⟩:=h;exact⟨a,dx,e,s _ _ h1⟩
 |own i z=>obtain⟨a,dx,e,h1⟩:=h;exact⟨a,dx,e,s _ _ h1⟩
 |lt i r=>obtain⟨a,dx,e,h1⟩:=h;exact⟨a,dx,e,s _ _ h1⟩
 |set x val=>obtain⟨a,dx,p,e,h1,h2⟩:=h;exact⟨a,dx,p,e,s _ _ h1,s _ _ h2⟩
 |put x pl val=>obtain⟨a,dx,p,e,h1,h2⟩:=h;exact⟨a,dx,p,e,s _ _ h1,s _ _ h2⟩
 |snd h val=>obtain⟨a,dx,p,e,h1,h2⟩:=h;exact⟨a,dx,p,e,s _ _ h1,s _ _ h2⟩
 |say x val m=>obtain⟨a,dx,p,e,h1,h2⟩:=h;exact⟨a,dx,p,e,s _ _ h1,s _ _ h2⟩
 |call i ts=>obtain⟨a,dx,p,e,h1,h2⟩:=h;exact⟨a,dx,p,e,s _ _ h1,s _ _ h2⟩
 |last=>obtain⟨a,dx,e,h1⟩:=h;exact⟨a,dx,e,s _ _ h1⟩
 |_=>exact h.elim
theorem zf(T:Txt K mg A)(hx:H x=Vf)(hd:H dx=Vf)(q:∀(H':Hp),ao H H'->H' x=Ve (.ins A.cS dx [("number",v0)])->R .non H'):gT K A (.ref x::([v0]++[])) (upd (upd H dx (.own x)) x (.ins A.cS dx [])) R E0:=
 ⟨x,A.cS,dx,[],_,rfl,aj,T.aW.cl,T.gw,∅,q _ (ao.out (ao.out (ao.upd hd _) hx _) hx _) aj⟩
noncomputable def Lr.me:Lr->Bool
 | .iff _ _ _=>false| .loop _ _ _ _=>false| .els=>false| .fin=>false| .hW _ _=>false| .main=>false
 |_=>true
theorem ph(hv:σ[i]?=Ve (Ve (.str a)))(k:U D σ H)(ne:¬ a=c:=by decide):xU (zr (vA (tOp (HU K) (xW i) (tC (.str c)))) B EO) U D σ H:=by
 unfold xU zr vA tOp xW;rw[hv];exact⟨rfl,_,rfl,ba (λz=>absurd (eW z) ne) λ_=>k⟩
theorem kN(hv:σ[i]?=Ve (Ve (.str a)))(k:B { D with nx:=U D } σ H):xU (zr (vA (tOp (HU K) (xW i) (tC (.str a)))) B EO) U D σ H:=by
 unfold xU zr vA tOp xW;rw[hv];exact⟨rfl,_,rfl,ba (λ_=>k) λz=>absurd rfl (jr z)⟩
inductive pF(A:Adr)(vs:List V)(H:Hp)(Q:VK)(Z:XK):Prop
 |mk(N:Nat->Str)(M:List OW)(n:Int)(v:V)(r:Lr):vs=[.int n,v]->bX N (del M H) v r->r.me=true->(∀m∈M,H m≠Vf)->(∀(a:OW)(H':Hp),ao H H'->H a=Vf->zU A N (del M H') (.ref a) n r->Q (.ref a) H')->pF A vs H Q Z
theorem qz(T:Txt K mg A):T.j8.Hz P w base 5 (pF A):=by
 have N7:=nZ (P:=P) (w:=w) (mg:=mg) (base:=base) (A:=A) T.lY;refine T.j8.hs (k:=4) kB (λf cdv A' outer s H vs Q E' hr hu h=>?_);obtain⟨N,M,n,v,r,rfl,⟨t,p,rfl,et0,ep⟩,fb,hM,q⟩:=h;have et:=(bq et0).2;have nw:∀{x:OW}{o:HO}{H':Hp},H x=Vf->H' x=Ve o->del M H' x=Ve o:=λ{x o H'} h e=>aQ (λm=>hM x m h) e;have od:∀{x:OW}{o:HO}{H':Hp},ao H H'->del M H x=Ve o->del M H' x=Ve o:=λ{x o H'} z e=>aQ (bq e).1 (z _ _ (bq e).2);have et':=SqT.of (K:=K) et;refine⟨_,(ab (pst 2 kB.nd (px hu (fv 1) ae))
 (ab (aP (ptc (bh hu) (fv 2) ak)
  (ah (aA (cQ T.bM (sP T) hr (fv 0^px hu (fv 1) ae^px hu (fv 1) ae^af))))
  aD)
 (ab (aP (ptc (bh hu) (fv 2) ak)
  (ah (aA (cQ T.aL (qT T) hr (fv 0^px hu (fv 1) ae^px hu (fv 1) ae^px hu (fv 1) ae^af))))
  aD)
 (ab (aP (ptc (bh hu) (fv 2) ak)
  (ah (aA (cQ T.bj (uk T) hr (fv 0^px hu (fv 1) ae^px hu (fv 1) ae^af))))
  aD)
 (ab (aP (ptc (bh hu) (fv 2) ak)
  (ah (aA (cQ T.cc (uD T) hr (fv 0^px hu (fv 1) ae^px hu (fv 1) ae^af))))
  aD)
 (ab (aP (ptc (bh hu) (fv 2) ak)
  (ah (aA (cQ T.bW (uy T) hr (fv 0^px hu (fv 1) ae^px hu (fv 1) ae^af))))
  aD)
 (ab (aP (ptc (bh hu) (fv 2) ak)
  (ah (aA (cQ T.bJ (uv T) hr (fv 0^px hu (fv 1) ae^px hu (fv 1) ae^px hu (fv 1) ae^af))))
  aD)
 (ab (aP (ptc (bh hu) (fv 2) ak)
  (ah (aA (cQ T.aU (sR T) hr (fv 0^px hu (fv 1) ae^px hu (fv 1) ae^af))))
  aD)
 (ab (aP (ptc (bh hu) (fv 2) ak)
  (ah (aA (cQ T.aX (uw T) hr (fv 0^px hu (fv 1) ae^px hu (fv 1) ae^px hu (fv 1) ae^af))))
  aD)
 (ab (aP (ptc (bh hu) (fv 2) ak)
  (ah (aA (cQ T.bg (rO T) hr (fv 0^px hu (fv 1) ae^pcT rC T.dY (px hu (fv 1) ae^af)^af))))
  aD)
 (ah (aA (cQ T.aW N7 hr (fv 0^af)))))))))))))),?_⟩
 refine aq λM0 K0=>tix (j:=0) et' rfl (K0 _ _ ?_);clear K0 M0;try dsimp only
 cases r with
 |hand i r=>
  exact kN rfl (tix (j:=1) et' rfl (tix (j:=2) et' rfl (λr6 dx hr6 hd_ hne_=>⟨_,_,_,_,_,_,rfl,rfl,hr6,hd_,λH6 s6 hx=>⟨rfl,q r6 H6 s6 hr6 ⟨r6,dx,rfl,nw hr6 hx⟩⟩⟩)))
 |giv i r z=>
  iterate 1 refine ph (a:="given") rfl ?_
  exact kN rfl (tix (j:=1) et' rfl (tix (j:=2) et' rfl (tix (j:=3) et' rfl (λr6 dx hr6 hd_ hne_=>⟨_,_,_,_,_,_,_,rfl,rfl,hr6,hd_,λH6 s6 hx=>⟨rfl,q r6 H6 s6 hr6 ⟨r6,dx,rfl,nw hr6 hx⟩⟩⟩))))
 |own i z=>
  iterate 2 refine ph (a:="own") rfl ?_
  exact kN rfl (tix (j:=1) et' rfl (tix (j:=2) et' rfl (λr6 dx hr6 hd_ hne_=>⟨_,_,_,_,_,_,rfl,rfl,hr6,hd_,λH6 s6 hx=>⟨rfl,q r6 H6 s6 hr6 ⟨r6,dx,rfl,nw hr6 hx⟩⟩⟩)))
 |lt i r=>
  iterate 3 refine ph (a:="let") rfl ?_
  exact kN rfl (tix (j:=1) et' rfl (tix (j:=2) et' rfl (λr6 dx hr6 hd_ hne_=>⟨_,_,_,_,_,_,rfl,rfl,hr6,hd_,λH6 s6 hx=>⟨rfl,q r6 H6 s6 hr6 ⟨r6,dx,rfl,nw hr6 hx⟩⟩⟩)))
 |set x val=>
  iterate 4 refine ph (a:="set") rfl ?_
  exact kN rfl (tix (j:=1) et' rfl (tix (j:=2) et' rfl (λr6 dx hr6 hd_ hne_=>⟨_,_,_,_,_,_,rfl,rfl,hr6,hd_,λH6 s6 hx=>⟨rfl,q r6 H6 s6 hr6 ⟨r6,dx,p,rfl,nw hr6 hx,od s6 (ep _ rfl)⟩⟩⟩)))
 |put x pl val=>
  iterate 5 refine ph (a:="put") rfl ?_
  exact kN rfl (tix (j:=1) et' rfl (tix (j:=2) et' rfl (tix (j:=3) et' rfl (λr6 dx hr6 hd_ hne_=>⟨_,_,_,_,_,_,_,rfl,rfl,hr6,hd_,λH6 s6 hx=>⟨rfl,q r6 H6 s6 hr6 ⟨r6,dx,p,rfl,nw hr6 hx,od s6 (ep _ rfl)⟩⟩⟩))))
 |snd h val=>
  iterate 6 refine ph (a:="send") rfl ?_
  exact kN rfl (tix (j:=1) et' rfl (tix (j:=2) et' rfl (λr6 dx hr6 hd_ hne_=>⟨_,_,_,_,_,_,rfl,rfl,hr6,hd_,λH6 s6 hx=>⟨rfl,q r6 H6 s6 hr6 ⟨r6,dx,p,rfl,nw hr6 hx,od s6 (ep _ rfl)⟩⟩⟩)))
 |say x val m=>
  iterate 7 refine ph (a:="say") rfl ?_
  exact kN rfl (tix (j:=1) et' rfl (tix (j:=2) et' rfl (tix (j:=3) et' rfl (λr6 dx hr6 hd_ hne_=>⟨_,_,_,_,_,_,_,rfl,rfl,hr6,hd_,λH6 s6 hx=>⟨rfl,q r6 H6 s6 hr6 ⟨r6,dx,p,rfl,nw hr6 hx,od s6 (ep _ rfl)⟩⟩⟩))))
 |call i ts=>
  iterate 8 refine ph (a:="call") rfl ?_
  refine kN rfl (tix (j:=1) et' rfl (tix (j:=2) et' rfl ?_));have epp:=(bq (ep _ rfl)).2;refine Mt ⟨p,_,rfl,Mt (SqL.of epp),λl5 hl5=>?_⟩;obtain⟨s5,e5⟩:=alc hl5 (HO.lst (ts.map (Th.v N)));generalize upd H l5 _=H5 at s5 e5⊢;exact λr6 dx hr6 hd_ hne_=>⟨_,_,_,_,_,_,_,rfl,rfl,hr6,hd_,(SqL.of e5),λn6 H6 f6 s6 h6 hx=>⟨rfl,q r6 H6 (s5.trans s6) (ao.free s5 hr6) ⟨r6,dx,n6,rfl,nw (ao.free s5 hr6) hx,nw (ao.free s5 f6) h6⟩⟩⟩
 |last  =>
  iterate 9 refine ph (a:="last") rfl ?_
  exact λr6 dx hr6 hd_ hne_=>zf T hr6 hd_ λH6 s6 hx=>⟨rfl,q r6 H6 s6 hr6 ⟨r6,dx,rfl,nw hr6 hx⟩⟩
 |_=>cases fb
inductive Pt where
 |leaf (n:Int) (r:Lr)
 |iff (n:Int) (v:Val) (l r:Int) (f o:List Pt)
 |loop (n:Int) (t:Th) (m l r:Int) (b:List Pt)
 |hW (n:Int) (i:Nat) (ps:List Nat) (b:List Pt)
mutual
noncomputable def d5(A:Adr)(N:Nat->Str)(X:Hp):V->Pt->Prop
 |v,.leaf n r=>zU A N X v n r
 |v,.iff n val l r f o=>∃a dx p pf po xf xo,v=.ref a/\X a=Ve (.ins A.dP dx [("number",.int n),("value",.ref p),("first",.ref pf),("other",.ref po),("left",.int l),("right",.int r)])/\X p=Ve (.tup (vV N val))/\X pf=Ve (.lst xf)/\X po=Ve (.lst xo)/\aG A N X xf f/\aG A N X xo o
 |v,.loop n t m l r b=>∃a dx pb xb,v=.ref a/\X a=Ve (.ins A.bN dx [("number",.int n),("thing",t.v N),("most",.int m),("body",.ref pb),("left",.int l),("right",.int r)])/\X pb=Ve (.lst xb)/\aG A N X xb b
 |v,.hW n i ps b=>∃a dx pp pb xb,v=.ref a/\X a=Ve (.ins A.cj dx [("number",.int n),("name",.str (N i)),("parts",.ref pp),("body",.ref pb)])/\X pp=Ve (.lst (nV N ps))/\X pb=Ve (.lst xb)/\aG A N X xb b
noncomputable def aG(A:Adr)(N:Nat->Str)(X:Hp):List V->List Pt->Prop
 |vs,[]=>vs=[]
 |vs,t::ts=>∃x xs,vs=x::xs/\d5 A N X x t/\aG A N X xs ts
end
mutual
theorem d5.same(s:ao X X'):∀(t:Pt)(v:V),d5 A N X v t->d5 A N X' v t
 | .leaf n r,v,h=>by
  unfold d5 at h⊢;exact zU.same s h
 | .iff n val l r f o,v,h=>by
  unfold d5 at h⊢;obtain⟨a,dx,p,pf,po,xf,xo,e,h1,h2,h3,h4,h5,h6⟩:=h;exact⟨a,dx,p,pf,po,xf,xo,e,s _ _ h1,s _ _ h2,s _ _ h3,s _ _ h4,aG.same s f _ h5,aG.same s o _ h6⟩
 | .loop n t m l r b,v,h=>by
  unfold d5 at h⊢;obtain⟨a,dx,pb,xb,e,h1,h2,h3⟩:=h;exact⟨a,dx,pb,xb,e,s _ _ h1,s _ _ h2,aG.same s b _ h3⟩
 | .hW n i ps b,v,h=>by
  unfold d5 at h⊢;obtain⟨a,dx,pp,pb,xb,e,h1,h2,h3,h4⟩:=h;exact⟨a,dx,pp,pb,xb,e,s _ _ h1,s _ _ h2,s _ _ h3,aG.same s b _ h4⟩
theorem aG.same(s:ao X X'):∀(ts:List Pt)(vs:List V),aG A N X vs ts->aG A N X' vs ts
 | [],vs,h=>by
  unfold aG at h⊢;exact h
 |t::ts,vs,h=>by
  unfold aG at h⊢;obtain⟨x,xs,e,h1,h2⟩:=h;exact⟨x,xs,e,d5.same s t _ h1,aG.same s ts _ h2⟩
end
theorem aG.snoc(h:d5 A N X x t):∀{ts:List Pt}{vs:List V},aG A N X vs ts->aG A N X (vs++[x]) (ts++[t])
 | [],vs,h'=>by
  unfold aG at h';subst h';show aG A N X [x] [t];unfold aG;exact⟨x,[],rfl,h,by unfold aG;rfl⟩
 |t'::ts,vs,h'=>by
  unfold aG at h';obtain⟨y,ys,e,h1,h2⟩:=h';subst e;show aG A N X (y::(ys++[x])) (t'::(ts++[t]));unfold aG;exact⟨y,ys++[x],rfl,h1,aG.snoc h h2⟩
theorem aG.nil:aG A N X [] []:=by
 unfold aG;rfl
theorem aG.len:∀{ts:List Pt}{vs:List V},aG A N X vs ts->vs.length=ts.length
 | [],vs,h=>by
  unfold aG at h;rw[h];rfl
 |t::ts,vs,h=>by
  unfold aG at h;obtain⟨y,ys,e,h1,h2⟩:=h;subst e;simp[aG.len h2]
theorem aG.get:∀{ts:List Pt}{vs:List V}{i:Nat}{v:V},aG A N X vs ts->vs[i]?=Ve v->∃t,ts[i]?=Ve t/\d5 A N X v t
 | [],vs,i,v,h,e=>by
  unfold aG at h;rw[h]at e;cases e
 |t::ts,vs,i,v,h,e=>by
  unfold aG at h;obtain⟨y,ys,e',h1,h2⟩:=h;subst e';cases i with
  |zero=>cases e;exact⟨t,rfl,h1⟩
  |succ i=>exact aG.get (i:=i) h2 e
noncomputable def nst(n:Int)(f o:List Pt):Lr->Pt
 | .iff v l r=>.iff n v l r f o
 | .loop t m l r=>.loop n t m l r o
 | .hW i ps=>.hW n i ps o
 |r=>.leaf n r
noncomputable def Lr.Ct:Lr->Bool
 | .iff _ _ _=>true| .loop _ _ _ _=>true| .hW _ _=>true
 |_=>false
noncomputable def frT(n:Int)(row:V)(lf lr:OW):List (Key×V):=[(.inr "number",.int n),(.inr "row",row),(.inr "first",.ref lf),(.inr "rows",.ref lr)]
inductive nU(A:Adr)(vs:List V)(H:Hp)(Q:VK)(Z:XK):Prop
 |mk(N:Nat->Str)(M:List OW)(fr lf lr:OW)(n:Int)(v:V)(r:Lr)(xf xo:List V)(f o:List Pt):vs=[.ref fr]->H fr=Ve (.dK (frT n v lf lr))->bX N (del M H) v r->r.Ct=true->(∀m∈M,H m≠Vf)->H lf=Ve (.lst xf)->H lr=Ve (.lst xo)->aG A N (del M H) xf f->aG A N (del M H) xo o->(∀(a:OW)(H':Hp),ao H H'->H a=Vf->d5 A N (del M H') (.ref a) (nst n f o r)->Q (.ref a) H')->nU A vs H Q Z
theorem wD(T:Txt K mg A):T.iD.Hz P w base 5 (nU A):=by
 refine T.iD.hs (k:=4) fJ (λf cdv A' outer s H vs Q E' hr hu h=>?_);obtain⟨N,M,fr,lf,lr,n,v,r,xf,xo,tf,to,rfl,hfr,⟨t,p,rfl,et0,ep⟩,fb,hM,hlf,hlr,pf,po,q⟩:=h;have et:=(bq et0).2;have nw:∀{x:OW}{o:HO}{H':Hp},H x=Vf->H' x=Ve o->del M H' x=Ve o:=λ{x o H'} h e=>aQ (λm=>hM x m h) e;have od:∀{H':Hp},ao H H'->ao (del M H) (del M H'):=λ{H'} z=>(Go.new z).same;have et':=SqT.of (K:=K) et;refine⟨_,(ab (pst 1 fJ.nd (px hu (fv 0) ak))
 (ab (pst 2 fJ.nd (px hu (fv 0) ak))
 (ab (aP (ptc (bh hu) (px hu (fv 2) ae) ak)
  (ah (aA (cQ T.bO (wN T) hr (fv 1^px hu (fv 2) ae^px hu (fv 0) ak^px hu (fv 0) ak^px hu (fv 2) ae^px hu (fv 2) ae^af))))
  aD)
 (ab (aP (ptc (bh hu) (px hu (fv 2) ae) ak)
  (ah (aA (cQ T.aV (tq T) hr (fv 1^px hu (fv 2) ae^px hu (fv 2) ae^px hu (fv 0) ak^px hu (fv 2) ae^px hu (fv 2) ae^af))))
  aD)
 (ah (aA (cQ T.f9 (sQ T) hr (fv 1^px hu (fv 2) ae^pcT rC T.dY (px hu (fv 2) ae^af)^px hu (fv 0) ak^af)))))))),?_⟩
 refine aq λM1 K1=>dgk hfr rfl (K1 _ _ ?_);clear K1 M1;try dsimp only
 refine aq λM2 K2=>dgk hfr rfl (K2 _ _ ?_);clear K2 M2;try dsimp only
 cases r with
 |iff val l r=>
  refine aq λM3 K3=>tix (j:=0) et' rfl ⟨rfl,_,rfl,ba (λ_=>?_) (λz=>absurd rfl (jr z))⟩;refine tix (j:=1) et' rfl (dgk hfr rfl (dgk hfr rfl (tix (j:=2) et' rfl (tix (j:=3) et' rfl (λr6 dx hr6 hd_ hne_=>⟨_,_,_,_,_,_,_,_,_,_,_,rfl,rfl,hr6,hd_,(SqL.of hlf),(SqL.of hlr),λn6 n7 H6 f6 f7 s6 h6 h7 hx=>⟨rfl,q r6 H6 s6 hr6 ?_⟩⟩)))));show d5 A N (del M H6) (.ref r6) (.iff n val l r tf to);unfold d5;exact⟨r6,dx,p,n6,n7,xf,xo,rfl,nw hr6 hx,od s6 _ _ (ep _ rfl),nw f6 h6,nw f7 h7,aG.same (od s6) _ _ pf,aG.same (od s6) _ _ po⟩
 |loop th m l r=>
  refine aq λM3 K3=>tix (j:=0) et' rfl ⟨rfl,_,rfl,ba (λz=>absurd (eW z) (show ¬ ("loop":Str)="if" by decide)) (λ_=>K3 _ _ ?_)⟩;clear K3 M3;try dsimp only
  refine aq λM3 K3=>tix (j:=0) et' rfl ⟨rfl,_,rfl,ba (λ_=>?_) (λz=>absurd rfl (jr z))⟩;refine tix (j:=1) et' rfl (tix (j:=2) et' rfl (dgk hfr rfl (tix (j:=3) et' rfl (tix (j:=4) et' rfl (λr6 dx hr6 hd_ hne_=>⟨_,_,_,_,_,_,_,_,_,_,rfl,rfl,hr6,hd_,(SqL.of hlr),λn6 H6 f6 s6 h6 hx=>⟨rfl,q r6 H6 s6 hr6 ?_⟩⟩)))));show d5 A N (del M H6) (.ref r6) (.loop n th m l r to);unfold d5;exact⟨r6,dx,n6,xo,rfl,nw hr6 hx,nw f6 h6,aG.same (od s6) _ _ po⟩
 |hW i ps=>
  refine aq λM3 K3=>tix (j:=0) et' rfl ⟨rfl,_,rfl,ba (λz=>absurd (eW z) (show ¬ ("deed":Str)="if" by decide)) (λ_=>K3 _ _ ?_)⟩;clear K3 M3;try dsimp only
  refine aq λM3 K3=>tix (j:=0) et' rfl ⟨rfl,_,rfl,ba (λz=>absurd (eW z) (show ¬ ("deed":Str)="loop" by decide)) (λ_=>K3 _ _ ?_)⟩;clear K3 M3;try dsimp only
  have epp:=(bq (ep _ rfl)).2;refine tix (j:=1) et' rfl (tix (j:=2) et' rfl (Mt ⟨p,_,rfl,Mt (SqL.of epp),λl5 hl5=>?_⟩));obtain⟨s5,e5⟩:=alc hl5 (HO.lst (nV N ps));generalize upd H l5 _=H5 at s5 e5⊢;refine dgk (s5 _ _ hfr) rfl (λr6 dx hr6 hd_ hne_=>⟨_,_,_,_,_,_,_,_,_,rfl,rfl,hr6,hd_,(SqL.of e5),(SqL.of (s5 _ _ hlr)),λn6 n7 H6 f6 f7 s6 h6 h7 hx=>⟨rfl,q r6 H6 (s5.trans s6) (ao.free s5 hr6) ?_⟩⟩);show d5 A N (del M H6) (.ref r6) (.hW n i ps to);unfold d5;exact⟨r6,dx,n6,n7,xo,rfl,nw (ao.free s5 hr6) hx,nw (ao.free s5 f6) h6,nw (ao.free s5 f7) h7,aG.same (od (s5.trans s6)) _ _ po⟩
 |_=>cases fb
end
section
variable{P:Program}{w:O7}{K:OZ}{mg:Str->Option OX}{base:Pk}{A:Adr}{N:Nat->Str}
structure Zf where
 n:Int
 op:Lr
 fst:List Pt
 rows:List Pt
structure Zs where
 heads:List Pt
 C9:List Pt
 fs:List Zf
noncomputable def Lr.zF:Lr->Bool
 | .iff _ _ _=>true| .loop _ _ _ _=>true| .hW _ _=>true| .main=>true
 |_=>false
noncomputable def Zf.done(f:Zf):Pt:=nst f.n f.fst f.rows f.op
inductive Stp(k:Nat):Zs->Lr->Zs->Prop
 |opn {h d:List Pt}{fs:List Zf}{r:Lr} (b:r.zF=true):Stp k ⟨h,d,fs⟩ r ⟨h,d,⟨(k:Int)+1,r,[],[]⟩::fs⟩
 |els {h d:List Pt}{f:Zf}{fs:List Zf}:Stp k ⟨h,d,f::fs⟩ .els ⟨h,d,⟨f.n,f.op,f.rows,[]⟩::fs⟩
 |fin1 {h d:List Pt}{f g:Zf}{fs:List Zf} (b:f.op.Ct=true):Stp k ⟨h,d,f::g::fs⟩ .fin ⟨h,d,⟨g.n,g.op,g.fst,g.rows++[f.done]⟩::fs⟩
 |fin0 {h d:List Pt}{f:Zf} (b:f.op.Ct=true):Stp k ⟨h,d,[f]⟩ .fin ⟨h,d++[f.done],[]⟩
 |head {h d:List Pt}{r:Lr} (b:r.me=true):Stp k ⟨h,d,[]⟩ r ⟨h++[.leaf ((k:Int)+1) r],d,[]⟩
 |row {h d:List Pt}{f:Zf}{fs:List Zf}{r:Lr} (b:r.me=true):Stp k ⟨h,d,f::fs⟩ r ⟨h,d,⟨f.n,f.op,f.fst,f.rows++[.leaf ((k:Int)+1) r]⟩::fs⟩
inductive iY:Nat->Zs->List Lr->Zs->Prop
 |nil {k:Nat}{s:Zs}:iY k s [] s
 |cons {k:Nat}{s s' s2:Zs}{r:Lr}{rs:List Lr} (h:Stp k s r s') (t:iY (k+1) s' rs s2):iY k s (r::rs) s2
theorem iY.inv(h:iY k s (r::rs) s2):∃s',Stp k s r s'/\iY (k+1) s' rs s2:=by
 cases h with
 |cons h t=>exact⟨_,h,t⟩
theorem iY.LG(h:iY k s [] s2):s=s2:=by
 cases h;rfl
theorem Stp.inv1{k:Nat}{s s':Zs}{r:Lr}(h:Stp k s r s')(c:r.zF=true)(fl:r.me=true->False):s'=⟨s.heads,s.C9,⟨(k:Int)+1,r,[],[]⟩::s.fs⟩:=by
 cases h with
 |opn b=>rfl
 |els=>cases c
 |fin1 b=>cases c
 |fin0 b=>cases c
 |head b=>exact(fl b).elim
 |row b=>exact(fl b).elim
theorem Stp.inv{k:Nat}{s s':Zs}{r:Lr}(h:Stp k s r s')(c:r.zF=false):(∃h d f fs,r=.els/\s=⟨h,d,f::fs⟩/\s'=⟨h,d,⟨f.n,f.op,f.rows,[]⟩::fs⟩)\/(∃h d f g fs,f.op.Ct=true/\r=.fin/\s=⟨h,d,f::g::fs⟩/\s'=⟨h,d,⟨g.n,g.op,g.fst,g.rows++[f.done]⟩::fs⟩)\/(∃h d f,f.op.Ct=true/\r=.fin/\s=⟨h,d,[f]⟩/\s'=⟨h,d++[f.done],[]⟩)\/(∃h d,r.me=true/\s=⟨h,d,[]⟩/\s'=⟨h++[.leaf ((k:Int)+1) r],d,[]⟩)\/(∃h d f fs,r.me=true/\s=⟨h,d,f::fs⟩/\s'=⟨h,d,⟨f.n,f.op,f.fst,f.rows++[.leaf ((k:Int)+1) r]⟩::fs⟩):=by
 cases h with
 |opn b=>rw[b]at c;cases c
 |els=>exact .inl ⟨_,_,_,_,rfl,rfl,rfl⟩
 |fin1 b=>exact .inr (.inl ⟨_,_,_,_,_,b,rfl,rfl,rfl⟩)
 |fin0 b=>exact .inr (.inr (.inl ⟨_,_,_,b,rfl,rfl,rfl⟩))
 |head b=>exact .inr (.inr (.inr (.inl ⟨_,_,b,rfl,rfl⟩)))
 |row b=>exact .inr (.inr (.inr (.inr ⟨_,_,_,_,b,rfl,rfl⟩)))
theorem iY.app(h:iY k s a s1)(h2:iY (k+a.length) s1 b s2):iY k s (a++b) s2:=by
 induction h with
 |nil=>exact h2
 |cons h t ih=>
  refine .cons h (ih ?_);rw[MD]at h2;rw[show ∀k n:Nat,k+1+n=k+(n+1)from λk n=>()];exact h2
mutual
noncomputable def pt(k:Nat):Tr->Pt
 | .leaf r=>.leaf ((k:Int)+1) r
 | .iff v l r f o=>.iff ((k:Int)+1) v l r (pts (k+1) f) (pts (k+1+(aZ f).length+1) o)
 | .loop t m l r b=>.loop ((k:Int)+1) t m l r (pts (k+1) b)
noncomputable def pts(k:Nat):List Tr->List Pt
 | []=>[]
 |t::ts=>pt k t::pts (k+(flat t).length) ts
end
theorem Dx{ns tg:List Nat}{dd:List Dl}{r:Lr}(h:r.ok ns tg dd):r.me=true:=by
 cases r<;>first|rfl|exact h.elim
mutual
theorem Je:∀(t:Tr)(k:Nat)(h d:List Pt)(f:Zf)(fs:List Zf),t.ok ns tg dd->iY k ⟨h,d,f::fs⟩ (flat t) ⟨h,d,⟨f.n,f.op,f.fst,f.rows++[pt k t]⟩::fs⟩
 | .leaf r,k,h,d,f,fs,ok=>by
  unfold Tr.ok at ok;unfold flat pt;exact .cons (.row (Dx ok)) .nil
 | .iff v l r a b,k,h,d,f,fs,ok=>by
  unfold Tr.ok at ok;obtain⟨_,_,_,oa,ob⟩:=ok;unfold flat pt;exact .cons (.opn rfl) (iY.app (nD a (k+1) h d _ _ oa) (.cons .els (iY.app (nD b _ h d _ _ ob) (.cons (.fin1 rfl) .nil))))
 | .loop t m l r b,k,h,d,f,fs,ok=>by
  unfold Tr.ok at ok;obtain⟨_,_,_,_,_,ob⟩:=ok;unfold flat pt;exact .cons (.opn rfl) (iY.app (nD b (k+1) h d _ _ ob) (.cons (.fin1 rfl) .nil))
theorem nD:∀(ts:List Tr)(k:Nat)(h d:List Pt)(f:Zf)(fs:List Zf),eE ns tg dd ts->iY k ⟨h,d,f::fs⟩ (aZ ts) ⟨h,d,⟨f.n,f.op,f.fst,f.rows++pts k ts⟩::fs⟩
 | [],k,h,d,f,fs,ok=>by
  unfold aZ pts;rw[MR];exact .nil
 |t::ts,k,h,d,f,fs,ok=>by
  unfold eE at ok;unfold aZ pts;have h1:=Je t k h d f fs ok.1;have h2:=nD ts (k+(flat t).length) h d ⟨f.n,f.op,f.fst,f.rows++[pt k t]⟩ fs ok.2;rw[show f.rows++[pt k t]++pts (k+(flat t).length) ts=f.rows++pt k t::pts (k+(flat t).length) ts by simp]at h2;exact h1.app h2
end
noncomputable def ptD(k:Nat):List Dl->List (List Tr)->List Pt
 |d::ds,b::bs=>.hW ((k:Int)+1) d.nm d.ps (pts (k+1) b)::ptD (k+1+(aZ b).length+1) ds bs
 |_,_=>[]
theorem DF:∀(ds:List Dl)(bs:List (List Tr))(k:Nat)(h e:List Pt),(∀b∈bs,∃ns tg dd,eE ns tg dd b)->iY k ⟨h,e,[]⟩ (dQ ds bs) ⟨h,e++ptD k ds bs,[]⟩
 | [],_,k,h,e,_=>by
  unfold dQ ptD;rw[MR];exact .nil
 |d::ds,[],k,h,e,_=>by
  unfold dQ ptD;rw[MR];exact .nil
 |d::ds,b::bs,k,h,e,ok=>by
  unfold dQ ptD;obtain⟨ns,tg,dd,ob⟩:=ok b Mg;refine .cons (.opn rfl) (iY.app (nD b (k+1) h e _ _ ob) (.cons (.fin0 rfl) ?_));have:=DF ds bs (k+1+(aZ b).length+1) h (e++[.hW ((k:Int)+1) d.nm d.ps (pts (k+1) b)]) (λx hx=>ok x (Mi _ hx));rw[MK]at this;exact this
noncomputable def lfs(k:Nat):List Lr->List Pt
 | []=>[]
 |r::rs=>.leaf ((k:Int)+1) r::lfs (k+1) rs
theorem CZ:∀(rs:List Lr)(k:Nat)(h e:List Pt),(∀r∈rs,r.me=true)->iY k ⟨h,e,[]⟩ rs ⟨h++lfs k rs,e,[]⟩
 | [],k,h,e,_=>by
  unfold lfs;rw[MR];exact .nil
 |r::rs,k,h,e,ok=>by
  unfold lfs;refine .cons (.head (ok r Mg)) ?_;have:=CZ rs (k+1) (h++[.leaf ((k:Int)+1) r]) e (λx hx=>ok x (Mi _ hx));rw[MK]at this;exact this
theorem Dz{ev:Bool}{lim:Int}{lrs:List Lr}{rk:Nat->Int}{z:Int}{t:Nat}{dls:List Dl}{bss:List (List Tr)}{mb:List Tr}(D:BP ev lim lrs rk z t dls bss mb) :
  ∃body,lrs=body++[.fin]/\∃n:Nat,iY 0 ⟨[],[],[]⟩ body ⟨lfs 0 (rot t (ck rk z)),ptD (rot t (ck rk z)).length dls bss,[⟨(n:Int)+1,.main,[],pts (n+1) mb⟩]⟩/\n=(rot t (ck rk z)).length+(dQ dls bss).length:=by
 refine⟨rot t (ck rk z)++dQ dls bss++(.main::aZ mb),by rw[D.e];simp,_,?_,rfl⟩
 have hb:∀r∈rot t (ck rk z),r.me=true:=λr hr=>by
  have:r∈ck rk z:=by
   rcases Mp.mp hr with h|h
   ·exact SD h
   exact SE h
  simp only[ck,Mf,Ms,or_false]at this;rcases this with e|e|e|e|e|e|e|e|e|e|e|e|e<;>(rw[e];rfl)
 have h1:=CZ (rot t (ck rk z)) 0 [] [] hb
 have h2:=DF dls bss (0+(rot t (ck rk z)).length) ([]++lfs 0 (rot t (ck rk z))) [] (λb hb=>by
  obtain⟨j,hj⟩:=ME hb;have jl:j<dls.length:=by
   rw[D.dd.len];exact(Ml.mp hj).1
  exact⟨_,_,_,(D.dd.bs j _ b (Mh jl) hj).1⟩)
 have h12:=h1.app h2
 refine h12.app (.cons (.opn rfl) ?_)
 have h3:=nD mb (0+(rot t (ck rk z)++dQ dls bss).length+1) (lfs 0 (rot t (ck rk z))) (ptD (rot t (ck rk z)).length dls bss) ⟨((0+(rot t (ck rk z)++dQ dls bss).length:Nat):Int)+1,.main,[],[]⟩ [] D.ob
 simpa using h3
end
section
variable{P:Program}{w:O7}{K:OZ}{mg:Str->Option OX}{base:Pk}{A:Adr}{N:Nat->Str}
structure Fa where
 fr:OW
 lf:OW
 lr:OW
noncomputable def Fa.l(a:Fa):List OW:=[a.fr,a.lf,a.lr]
noncomputable def Tm(lh ld lf:OW)(as:List Fa):List OW:=lh::ld::lf::as.flatMap Fa.l
def DQ(A:Adr)(N:Nat->Str)(X H:Hp)(a:Fa)(f:Zf):Prop:=∃v xf xo,H a.fr=Ve (.dK (frT f.n v a.lf a.lr))/\bX N X v f.op/\H a.lf=Ve (.lst xf)/\H a.lr=Ve (.lst xo)/\aG A N X xf f.fst/\aG A N X xo f.rows
theorem DQ.go(s:ao X X')(k:∀x∈a.l,∀o,H x=Ve o->H' x=Ve o)(h:DQ A N X H a f):DQ A N X' H' a f:=by
 obtain⟨v,xf,xo,h1,h2,h3,h4,h5,h6⟩:=h;exact⟨v,xf,xo,k _ (by simp[Fa.l]) _ h1,h2.same s,k _ (by simp[Fa.l]) _ h3,k _ (by simp[Fa.l]) _ h4,aG.same s _ _ h5,aG.same s _ _ h6⟩
theorem Paired.mapM{α β:Type}{F G:α->β->Prop}:∀{xs:List α}{ys:List β},Paired F xs ys->(∀a b,a∈xs->F a b->G a b)->Paired G xs ys
 |_,_,.nil,_=>.nil
 |_,_,.cons h r,k=>.cons (k _ _ Mg h) (Paired.mapM r λa b m=>k a b (Mi _ m))
structure gu(A:Adr)(N:Nat->Str)(H:Hp)(lh ld lf:OW)(as:List Fa)(s:Zs)(i:Nat):Prop where
 hh:∃xs,H lh=Ve (.lst xs)/\aG A N (del (Tm lh ld lf as) H) xs s.heads
 hd:∃xs,H ld=Ve (.lst xs)/\aG A N (del (Tm lh ld lf as) H) xs s.C9
 hf:H lf=Ve (.lst (as.reverse.map λa=>V.ref a.fr))
 fr:Paired (DQ A N (del (Tm lh ld lf as) H) H) as s.fs
 nd:(Tm lh ld lf as).Nodup
 bd:s.heads.length<=i/\s.C9.length<=i/\s.fs.length<=i/\∀f∈s.fs,f.rows.length<=i
variable{H H':Hp}{lh ld lf:OW}{as:List Fa}{a:Fa}{s:Zs}{i:Nat}{h d:List Pt}{f:Zf}{fs:List Zf}
theorem gu.same(z:ao H H')(t:gu A N H lh ld lf as s i):gu A N H' lh ld lf as s i:=by
 have sx:=(Go.new (M:=Tm lh ld lf as) z).same;obtain⟨x1,h1,p1⟩:=t.hh;obtain⟨x2,h2,p2⟩:=t.hd;exact⟨⟨x1,z _ _ h1,aG.same sx _ _ p1⟩,⟨x2,z _ _ h2,aG.same sx _ _ p2⟩,z _ _ t.hf,Paired.cI t.fr λ_ _ q=>q.go sx λx _ o e=>z _ _ e,t.nd,t.bd⟩
theorem kD(hb:b∈as)(hx:x∈b.l):x∈as.flatMap Fa.l:=Nj.mpr ⟨b,hb,hx⟩
theorem gu.al(t:gu A N H lh ld lf as s i):∀x∈Tm lh ld lf as,H x≠Vf:=λx m e=>by
 obtain⟨x1,h1,_⟩:=t.hh;obtain⟨x2,h2,_⟩:=t.hd;unfold Tm at m;rcases Mf.mp m with rfl|m
 ·rw[h1]at e;cases e
 rcases Mf.mp m with rfl|m
 ·rw[h2]at e;cases e
 rcases Mf.mp m with rfl|m
 ·rw[t.hf]at e;cases e
 obtain⟨b,hb,hx⟩:=Nj.mp m;obtain⟨j,hj⟩:=ME hb;obtain⟨f,_,v,xf,xo,q1,_,q3,q4,_⟩:=bb t.fr hj;simp only[Fa.l,Mf,Ms,or_false]at hx;rcases hx with rfl|rfl|rfl
 ·rw[q1]at e;cases e
 ·rw[q3]at e;cases e
 rw[q4]at e;cases e
theorem tm3(nd:(Tm lh ld lf as).Nodup):lh≠ld/\lh≠lf/\ld≠lf/\(∀x∈as.flatMap Fa.l,x≠lh/\x≠ld/\x≠lf)/\(as.flatMap Fa.l).Nodup:=by
 unfold Tm at nd;obtain⟨n1,nd⟩:=Mx.mp nd;obtain⟨n2,nd⟩:=Mx.mp nd;obtain⟨n3,nd⟩:=Mx.mp nd;refine⟨λe=>n1 (by rw[e];simp),λe=>n1 (by rw[e];simp),λe=>n2 (by rw[e];simp),λx m=>⟨λe=>n1 ?_,λe=>n2 ?_,λe=>n3 ?_⟩,nd⟩
 ·rw[<-e];simp only[Mf];exact .inr (.inr m)
 ·rw[<-e];simp only[Mf];exact .inr m
 rw[<-e];exact m
theorem zo(nd:((a::as).flatMap Fa.l).Nodup):a.fr≠a.lf/\a.fr≠a.lr/\a.lf≠a.lr/\(∀x∈as.flatMap Fa.l,x≠a.fr/\x≠a.lf/\x≠a.lr)/\(as.flatMap Fa.l).Nodup:=by
 rw[MG]at nd;have e:a.l=[a.fr,a.lf,a.lr]:=rfl;rw[e]at nd;obtain⟨n1,nd⟩:=Mx.mp (show(a.fr::a.lf::a.lr::as.flatMap Fa.l).Nodup from nd);obtain⟨n2,nd⟩:=Mx.mp nd;obtain⟨n3,nd⟩:=Mx.mp nd;refine⟨λe=>n1 (by rw[e];simp),λe=>n1 (by rw[e];simp),λe=>n2 (by rw[e];simp),λx m=>⟨λe=>n1 ?_,λe=>n2 ?_,λe=>n3 ?_⟩,nd⟩
 ·rw[<-e];simp only[Mf];exact .inr (.inr m)
 ·rw[<-e];simp only[Mf];exact .inr m
 rw[<-e];exact m
theorem gu.JQ(t:gu A N H lh ld lf as ⟨h,d,fs⟩ i)(e:H lh=Ve (.lst xs))(hp:d5 A N (del (Tm lh ld lf as) H) x p):gu A N (upd H lh (.lst (xs++[x]))) lh ld lf as ⟨h++[p],d,fs⟩ (i+1):=by
 obtain⟨n1,n2,n3,n4,n5⟩:=tm3 t.nd;have sx:=(Go.at (M:=Tm lh ld lf as) (H:=H) (x:=lh) (by simp[Tm]) (.lst (xs++[x]))).same;obtain⟨x1,h1,p1⟩:=t.hh;obtain⟨x2,h2,p2⟩:=t.hd;rw[e]at h1;cases h1;refine⟨⟨_,aj,(aG.same sx _ _ p1).snoc (d5.same sx _ _ hp)⟩,⟨x2,ag n1.symm h2,aG.same sx _ _ p2⟩,ag n2.symm t.hf,Paired.mapM t.fr λb q hb r=>r.go sx λy hy o z=>ag (n4 y (kD hb hy)).1 z,t.nd,?_⟩;obtain⟨b1,b2,b3,b4⟩:=t.bd;exact⟨by simp at b1⊢;omega,ML b2,ML b3,λf hf=>ML (b4 f hf)⟩
theorem gu.KD(t:gu A N H lh ld lf as ⟨h,d,fs⟩ i)(e:H ld=Ve (.lst xs))(hp:d5 A N (del (Tm lh ld lf as) H) x p):gu A N (upd H ld (.lst (xs++[x]))) lh ld lf as ⟨h,d++[p],fs⟩ (i+1):=by
 obtain⟨n1,n2,n3,n4,n5⟩:=tm3 t.nd;have sx:=(Go.at (M:=Tm lh ld lf as) (H:=H) (x:=ld) (by simp[Tm]) (.lst (xs++[x]))).same;obtain⟨x1,h1,p1⟩:=t.hh;obtain⟨x2,h2,p2⟩:=t.hd;rw[e]at h2;cases h2;refine⟨⟨x1,ag n1 h1,aG.same sx _ _ p1⟩,⟨_,aj,(aG.same sx _ _ p2).snoc (d5.same sx _ _ hp)⟩,ag n3.symm t.hf,Paired.mapM t.fr λb q hb r=>r.go sx λy hy o z=>ag (n4 y (kD hb hy)).2.1 z,t.nd,?_⟩;obtain⟨b1,b2,b3,b4⟩:=t.bd;exact⟨ML b1,by simp at b2⊢;omega,ML b3,λf hf=>ML (b4 f hf)⟩
theorem gu.GW(t:gu A N H lh ld lf (a::as) ⟨h,d,f::fs⟩ i)(e:H a.lr=Ve (.lst xs))(hp:d5 A N (del (Tm lh ld lf (a::as)) H) x p):gu A N (upd H a.lr (.lst (xs++[x]))) lh ld lf (a::as) ⟨h,d,⟨f.n,f.op,f.fst,f.rows++[p]⟩::fs⟩ (i+1):=by
 obtain⟨n1,n2,n3,n4,n5⟩:=tm3 t.nd;obtain⟨m1,m2,m3,m4,_⟩:=zo n5;have im:a.lr∈(a::as).flatMap Fa.l:=kD Mg (by simp[Fa.l]);obtain⟨k1,k2,k3⟩:=n4 _ im;have sx:=(Go.at (M:=Tm lh ld lf (a::as)) (H:=H) (x:=a.lr) (by unfold Tm;simp only[Mf];exact .inr (.inr (.inr im))) (.lst (xs++[x]))).same;obtain⟨x1,h1,p1⟩:=t.hh;obtain⟨x2,h2,p2⟩:=t.hd;cases t.fr with
 |cons q r=>
  obtain⟨v,xf,xo,q1,q2,q3,q4,q5,q6⟩:=q;rw[e]at q4;cases q4;refine⟨⟨x1,ag k1.symm h1,aG.same sx _ _ p1⟩,⟨x2,ag k2.symm h2,aG.same sx _ _ p2⟩,ag k3.symm t.hf,.cons ⟨v,xf,xs++[x],ag m2 q1,q2.same sx,ag m3 q3,aj,aG.same sx _ _ q5,(aG.same sx _ _ q6).snoc (d5.same sx _ _ hp)⟩ (Paired.mapM r λb q hb r=>r.go sx λy hy o z=>ag (m4 y (kD hb hy)).2.2 z),t.nd,?_⟩;obtain⟨b1,b2,b3,b4⟩:=t.bd;refine⟨ML b1,ML b2,ML b3,λf' hf=>?_⟩;rcases Mf.mp hf with rfl|hf
  ·have:=b4 f Mg;simp;exact this
  exact ML (b4 f' (Mi _ hf))
theorem sG(m:x∈Tm lh ld lf as):x∈Tm lh ld lf (a::as):=by
 unfold Tm at m⊢;simp only[Mf,MG,Mp]at m⊢;rcases m with m|m|m|m
 ·exact .inl m
 ·exact .inr (.inl m)
 ·exact .inr (.inr (.inl m))
 exact .inr (.inr (.inr (.inr m)))
theorem gu.pop(t:gu A N H lh ld lf (a::as) ⟨h,d,f::fs⟩ i):gu A N (upd H lf (.lst (as.reverse.map λa=>V.ref a.fr))) lh ld lf as ⟨h,d,fs⟩ i/\DQ A N (del (Tm lh ld lf (a::as)) (upd H lf (.lst (as.reverse.map λa=>V.ref a.fr)))) (upd H lf (.lst (as.reverse.map λa=>V.ref a.fr))) a f:=by
 obtain⟨n1,n2,n3,n4,n5⟩:=tm3 t.nd;obtain⟨m1,m2,m3,m4,m5⟩:=zo n5;have sx:=(Go.at (M:=Tm lh ld lf (a::as)) (H:=H) (x:=lf) (by simp[Tm]) (.lst (as.reverse.map λa=>V.ref a.fr))).same;have sy:ao (del (Tm lh ld lf (a::as)) (upd H lf (.lst (as.reverse.map λa=>V.ref a.fr)))) (del (Tm lh ld lf as) (upd H lf (.lst (as.reverse.map λa=>V.ref a.fr)))):=λx o e=>aQ (λm=>(bq e).1 (sG m)) (bq e).2;have sz':=sx.trans sy;obtain⟨x1,h1,p1⟩:=t.hh;obtain⟨x2,h2,p2⟩:=t.hd;cases t.fr with
 |cons q r=>
  refine⟨⟨⟨x1,ag n2 h1,aG.same sz' _ _ p1⟩,⟨x2,ag n3 h2,aG.same sz' _ _ p2⟩,aj,Paired.mapM r λb q hb r=>r.go sz' λy hy o z=>ag (n4 y (kD (Mi _ hb) hy)).2.2 z,?_,?_⟩,q.go sx λy hy o z=>ag (n4 y (kD Mg hy)).2.2 z⟩
  ·have nd:=t.nd;unfold Tm at nd⊢;rw[MG]at nd;exact nd.sublist (((List.sublist_append_right _ _).cons₂ _).cons₂ _ |>.cons₂ _)
  obtain⟨b1,b2,b3,b4⟩:=t.bd;exact⟨b1,b2,Nat.le_of_succ_le b3,λf' hf=>b4 f' (Mi _ hf)⟩
theorem gu.opn{H1:Hp}{fr l1 l2:OW}{n:Int}{v:V}{r:Lr}(t:gu A N H lh ld lf as ⟨h,d,fs⟩ i)(s1:ao H H1)(f0:H fr=Vf)(f1:H l1=Vf)(f2:H l2=Vf)(d1:fr≠l1)(d2:fr≠l2)(d3:l1≠l2)(e0:H1 fr=Ve (.dK (frT n v l1 l2)))(e1:H1 l1=Ve (.lst []))(e2:H1 l2=Ve (.lst []))(lr:bX N (del (Tm lh ld lf as) H) v r) :
  gu A N (upd H1 lf (.lst ((as.reverse.map λa=>V.ref a.fr)++[.ref fr]))) lh ld lf (⟨fr,l1,l2⟩::as) ⟨h,d,⟨n,r,[],[]⟩::fs⟩ (i+1):=by
 obtain⟨n1,n2,n3,n4,n5⟩:=tm3 t.nd
 have al:=t.al
 have o0:fr∉Tm lh ld lf as:=λm=>al _ m f0
 have o1:l1∉Tm lh ld lf as:=λm=>al _ m f1
 have o2:l2∉Tm lh ld lf as:=λm=>al _ m f2
 have il:lf∈Tm lh ld lf as:=by simp[Tm]
 have g:Go (Tm lh ld lf as) H (Tm lh ld lf (⟨fr,l1,l2⟩::as)) (upd H1 lf (.lst ((as.reverse.map λa=>V.ref a.fr)++[.ref fr]))):=((Go.new s1).trans (Go.at il _)).to λx m=>by
  unfold Tm at m;simp only[Mf,MG,Mp,Fa.l,Ms,or_false]at m;rcases m with m|m|m|(m|m|m)|m
  ·exact .inl (by rw[m];simp[Tm])
  ·exact .inl (by rw[m];simp[Tm])
  ·exact .inl (by rw[m];exact il)
  ·exact .inr (.inr (by rw[m];exact f0))
  ·exact .inr (.inr (by rw[m];exact f1))
  ·exact .inr (.inr (by rw[m];exact f2))
  exact .inl (by unfold Tm;simp only[Mf];exact .inr (.inr (.inr m)))
 have sx:=g.same
 obtain⟨x1,h1,p1⟩:=t.hh
 obtain⟨x2,h2,p2⟩:=t.hd
 have frl:fr≠lf:=λz=>o0 (by rw[z];exact il)
 have l1l:l1≠lf:=λz=>o1 (by rw[z];exact il)
 have l2l:l2≠lf:=λz=>o2 (by rw[z];exact il)
 refine⟨⟨x1,ag n2 (s1 _ _ h1),aG.same sx _ _ p1⟩,⟨x2,ag n3 (s1 _ _ h2),aG.same sx _ _ p2⟩,?_,.cons ⟨v,[],[],ag frl e0,lr.same sx,ag l1l e1,ag l2l e2,aG.nil,aG.nil⟩ (Paired.mapM t.fr λb q hb r=>r.go sx λy hy o z=>ag (n4 y (kD hb hy)).2.2 (s1 _ _ z)),?_,?_⟩
 ·rw[aj,Nw,MI];rfl
 ·unfold Tm;rw[MG];show(lh::ld::lf::fr::l1::l2::as.flatMap Fa.l).Nodup;have nn:∀x,x∉Tm lh ld lf as->x≠lh/\x≠ld/\x≠lf/\x∉as.flatMap Fa.l:=λx hx=>by
   unfold Tm at hx;simp only[Mf,not_or]at hx;exact hx
  obtain⟨a1,a2,a3,a4⟩:=nn _ o0;obtain⟨b1,b2,b3,b4⟩:=nn _ o1;obtain⟨c1,c2,c3,c4⟩:=nn _ o2;have y1:lh∉as.flatMap Fa.l:=λm=>(n4 _ m).1 rfl;have y2:ld∉as.flatMap Fa.l:=λm=>(n4 _ m).2.1 rfl;have y3:lf∉as.flatMap Fa.l:=λm=>(n4 _ m).2.2 rfl;simp only[Mx,Mf,not_or];exact⟨⟨n1,n2,a1.symm,b1.symm,c1.symm,y1⟩,⟨n3,a2.symm,b2.symm,c2.symm,y2⟩,⟨a3.symm,b3.symm,c3.symm,y3⟩,⟨d1,d2,a4⟩,⟨d3,b4⟩,c4,n5⟩
 obtain⟨b1,b2,b3,b4⟩:=t.bd
 refine⟨ML b1,ML b2,Oo b3,λf hf=>?_⟩
 rcases Mf.mp hf with rfl|hf
 ·exact MB _
 exact ML (b4 f hf)
end
section
variable{P:Program}{w:O7}{K:OZ}{mg:Str->Option OX}{base:Pk}{A:Adr}{N:Nat->Str}
seal PE PA PS PSs PT PW
theorem gu.els{H H3:Hp}{lh ld lf l:OW}{as:List Fa}{a:Fa}{i:Nat}{h d:List Pt}{f:Zf}{fs:List Zf}{v:V}{xo:List V}(t:gu A N H lh ld lf (a::as) ⟨h,d,f::fs⟩ i)(q2:bX N (del (Tm lh ld lf (a::as)) H) v f.op)(q4:H a.lr=Ve (.lst xo))(q6:aG A N (del (Tm lh ld lf (a::as)) H) xo f.rows)(l0:H l=Vf)(k:∀x o,x≠a.fr->H x=Ve o->H3 x=Ve o)(e1:H3 a.fr=Ve (.dK (frT f.n v a.lr l)))(e2:H3 l=Ve (.lst [])) :
  gu A N H3 lh ld lf (⟨a.fr,a.lr,l⟩::as) ⟨h,d,⟨f.n,f.op,f.rows,[]⟩::fs⟩ (i+1)/\Go (Tm lh ld lf (a::as)) H (Tm lh ld lf (⟨a.fr,a.lr,l⟩::as)) H3:=by
 obtain⟨n1,n2,n3,n4,n5⟩:=tm3 t.nd
 obtain⟨m1,m2,m3,m4,m5⟩:=zo n5
 have al:=t.al
 have ol:l∉Tm lh ld lf (a::as):=λm=>al _ m l0
 have imf:a.fr∈(a::as).flatMap Fa.l:=kD Mg (by simp[Fa.l])
 have imr:a.lr∈(a::as).flatMap Fa.l:=kD Mg (by simp[Fa.l])
 obtain⟨k1,k2,k3⟩:=n4 _ imf
 obtain⟨r1,r2,r3⟩:=n4 _ imr
 have g:Go (Tm lh ld lf (a::as)) H (Tm lh ld lf (⟨a.fr,a.lr,l⟩::as)) H3:=by
  refine⟨λx o m e=>k x o (λz=>m ?_) e,λx m=>?_⟩
  ·rw[z];unfold Tm;simp only[Mf];exact .inr (.inr (.inr imf))
  unfold Tm at m;simp only[Mf,MG,Mp,Fa.l,Ms,or_false]at m;unfold Tm;simp only[Mf,MG,Mp,Fa.l,Ms,or_false];rcases m with m|m|m|(m|m|m)|m
  ·exact .inl (.inl m)
  ·exact .inl (.inr (.inl m))
  ·exact .inl (.inr (.inr (.inl m)))
  ·exact .inl (.inr (.inr (.inr (.inl (.inl m)))))
  ·exact .inl (.inr (.inr (.inr (.inl (.inr (.inr m))))))
  ·exact .inr (by rw[m];exact l0)
  exact .inl (.inr (.inr (.inr (.inr m))))
 have sx:=g.same
 obtain⟨x1,h1,p1⟩:=t.hh
 obtain⟨x2,h2,p2⟩:=t.hd
 refine⟨?_,g⟩
 have hf:=t.hf
 rw[Nw,MI]at hf
 cases t.fr with
 |cons q r=>
  refine⟨⟨x1,k _ _ k1.symm h1,aG.same sx _ _ p1⟩,⟨x2,k _ _ k2.symm h2,aG.same sx _ _ p2⟩,?_,.cons ⟨v,xo,[],e1,q2.same sx,k _ _ m2.symm q4,e2,aG.same sx _ _ q6,aG.nil⟩ (Paired.mapM r λb q hb r=>r.go sx λy hy o z=>k _ _ (m4 y (kD hb hy)).1 z),?_,?_⟩
  ·rw[Nw,MI];exact k _ _ k3.symm hf
  ·unfold Tm;rw[MG];show(lh::ld::lf::a.fr::a.lr::l::as.flatMap Fa.l).Nodup;unfold Tm at ol;simp only[Mf,MG,Mp,Fa.l,Ms,or_false,not_or]at ol;obtain⟨c1,c2,c3,⟨c4,c5,c6⟩,c7⟩:=ol;have sub:∀x,x∈as.flatMap Fa.l->x∈(a::as).flatMap Fa.l:=λx m=>by rw[MG];exact MA _ m
   have y1:lh∉as.flatMap Fa.l:=λm=>(n4 _ (sub _ m)).1 rfl;have y2:ld∉as.flatMap Fa.l:=λm=>(n4 _ (sub _ m)).2.1 rfl;have y3:lf∉as.flatMap Fa.l:=λm=>(n4 _ (sub _ m)).2.2 rfl;have y4:a.fr∉as.flatMap Fa.l:=λm=>(m4 _ m).1 rfl;have y5:a.lr∉as.flatMap Fa.l:=λm=>(m4 _ m).2.2 rfl;simp only[Mx,Mf,not_or];exact⟨⟨n1,n2,k1.symm,r1.symm,Nm c1,y1⟩,⟨n3,k2.symm,r2.symm,Nm c2,y2⟩,⟨k3.symm,r3.symm,Nm c3,y3⟩,⟨m2,Nm c4,y4⟩,⟨Nm c6,y5⟩,c7,m5⟩
  obtain⟨b1,b2,b3,b4⟩:=t.bd
  refine⟨ML b1,ML b2,ML b3,λf' hf=>?_⟩
  rcases Mf.mp hf with rfl|hf
  ·exact MB _
  exact ML (b4 f' (Mi _ hf))
def zZ(A:Adr)(N:Nat->Str)(X:Hp)(v:V)(hs ds ms:List Pt):Prop:=∃a dx n0 n1 n2 x0 x1 x2,v=.ref a/\X a=Ve (.ins A.Program dx [("heads",.ref n0),("deeds",.ref n1),("main",.ref n2)])/\X n0=Ve (.lst x0)/\X n1=Ve (.lst x1)/\X n2=Ve (.lst x2)/\aG A N X x0 hs/\aG A N X x1 ds/\aG A N X x2 ms
theorem zZ.same(s:ao X X')(h:zZ A N X v hs ds ms):zZ A N X' v hs ds ms:=by
 obtain⟨a,dx,n0,n1,n2,x0,x1,x2,e,h1,h2,h3,h4,h5,h6,h7⟩:=h;exact⟨a,dx,n0,n1,n2,x0,x1,x2,e,s _ _ h1,s _ _ h2,s _ _ h3,s _ _ h4,aG.same s _ _ h5,aG.same s _ _ h6,aG.same s _ _ h7⟩
noncomputable abbrev op4:List V:=[.str "if",.str "loop",.str "deed",.str "main"]
theorem G5(r:Lr):inV (.str r.w) op4=r.zF:=by
 cases r<;>(first|exact(show inV (V.str "hand") op4=false by decide)|exact(show inV (V.str "given") op4=false by decide)|exact(show inV (V.str "own") op4=false by decide)|exact(show inV (V.str "let") op4=false by decide)|exact(show inV (V.str "set") op4=false by decide)|exact(show inV (V.str "put") op4=false by decide)|exact(show inV (V.str "send") op4=false by decide)|exact(show inV (V.str "say") op4=false by decide)|exact(show inV (V.str "call") op4=false by decide)|exact(show inV (V.str "last") op4=false by decide)|exact(show inV (V.str "if") op4=true by decide)|exact(show inV (V.str "loop") op4=true by decide)|exact(show inV (V.str "else") op4=false by decide)|exact(show inV (V.str "end") op4=false by decide)|exact(show inV (V.str "deed") op4=true by decide)|exact(show inV (V.str "main") op4=true by decide))
theorem vK{r:Lr}(b:r.me=true)(c:r.zF=true):False:=by
 cases r<;>first|exact Oq b|exact Oq c
theorem Eh{r:Lr}(b:r.me=true):r.w≠"else"/\r.w≠"end":=by
 cases r with
 |hand _ _=>exact(show("hand":Str)≠"else"/\("hand":Str)≠"end" by decide)
 |giv _ _ _=>exact(show("given":Str)≠"else"/\("given":Str)≠"end" by decide)
 |own _ _=>exact(show("own":Str)≠"else"/\("own":Str)≠"end" by decide)
 |lt _ _=>exact(show("let":Str)≠"else"/\("let":Str)≠"end" by decide)
 |set _ _=>exact(show("set":Str)≠"else"/\("set":Str)≠"end" by decide)
 |put _ _ _=>exact(show("put":Str)≠"else"/\("put":Str)≠"end" by decide)
 |snd _ _=>exact(show("send":Str)≠"else"/\("send":Str)≠"end" by decide)
 |say _ _ _=>exact(show("say":Str)≠"else"/\("say":Str)≠"end" by decide)
 |call _ _=>exact(show("call":Str)≠"else"/\("call":Str)≠"end" by decide)
 |last=>exact(show("last":Str)≠"else"/\("last":Str)≠"end" by decide)
 |_=>exact Oq b
theorem GC{r:Lr}(b:r.Ct=true):r.w≠"main":=by
 cases r with
 |iff _ _ _=>exact(show("if":Str)≠"main" by decide)
 |loop _ _ _ _=>exact(show("loop":Str)≠"main" by decide)
 |hW _ _=>exact(show("deed":Str)≠"main" by decide)
 |_=>exact Oq b
theorem DW(h:bX N X v r):∃t xs,v=.ref t/\X t=Ve (.tup (.str r.w::xs)):=by
 obtain⟨t,p,e,h1,_⟩:=h;exact⟨t,_,e,h1⟩
inductive AV(A:Adr)(vs:List V)(H:Hp)(Q:VK)(Z:XK):Prop
 |mk(N:Nat->Str)(LR:OW)(rows:List V)(body:List Lr)(n:Int)(fo hs ds ms:List Pt):vs=[.ref LR]->H LR=Ve (.lst rows)->Paired (bX N H) rows (body++[.fin])->iY 0 ⟨[],[],[]⟩ body ⟨hs,ds,[⟨n,.main,fo,ms⟩]⟩->body.length<=500->(∀(v:V)(H':Hp),ao H H'->zZ A N H' v hs ds ms->Q v H')->AV A vs H Q Z
inductive IvT(A:Adr)(N:Nat->Str)(LR lh ld lf:OW)(body:List Lr)(H:Hp)(hs ds fo ms:List Pt)(n:Int)(i:Nat)(σ:St)(Hc:Hp):Prop
 |mk(as:List Fa)(z:Zs)(v4 v5 v6 v7:Option V):σ=[Ve (.ref LR),Ve (.ref lh),Ve (.ref ld),Ve (.ref lf),v4,v5,v6,v7]->i<=body.length->Go [] H (Tm lh ld lf as) Hc->gu A N Hc lh ld lf as z i->iY i z (body.drop i) ⟨hs,ds,[⟨n,.main,fo,ms⟩]⟩->IvT A N LR lh ld lf body H hs ds fo ms n i σ Hc
theorem II(T:Txt K mg A):T.r8.Hz P w base 6 (AV A):=by
 refine T.r8.hs (k:=5) df (λf cdv A' outer s H vs Q E' hr hu h=>?_);obtain⟨N,LR,rows,body,n,fo,hs,ds,ms,rfl,hLR,pr,st,bl,q⟩:=h;have lr:rows.length=body.length+1:=by
  have:=O3 pr;rw[this,Mn];rfl
 refine⟨_,(ab (pst 1 df.nd (bI af))
 (ab (pst 2 df.nd (bI af))
 (ab (pst 3 df.nd (bI af))
 (ab (cR O9 rfl (eQ rfl T.fj (pcB bQ T.cB (fv 0^af)^af)) (pgn (i:=4) df.nd rfl)
  (ab (pst 5 df.nd (px hu (px hu (fv 0) (fv 4)) ae))
  (ah (aP (ptc (CU hu) (fv 5) (bf (ak^ak^ak^ak^af)) ((by with_unfolding_all rfl)))
   (ah (aK (cN (fv 3) ((rB (cu ak (ax bo (fv 4) ae) (cu ak (px hu (fv 0) (fv 4)) (cu ak (bI af) (cu ak (bI af) (rf))))) rfl rfl (by intro z;cases z) ∅)^af))))
   (ah (aP (ptc (bh hu) (fv 5) ak)
    (ab (bA (px hu (px hu (fv 3) (iW fq ae)) ak) (bz (px hu (fv 3) (iW fq ae)) ak (bB hu Vi)))
    (ah (bA (bI af) (bz (px hu (fv 3) (iW fq ae)) ak (bB hu Vi)))))
    (ah (aP (ptc (bh hu) (fv 5) ak)
     (ab (pst 6 df.nd (GH (fv 3)))
     (ab (aP (ptc (bh hu) (px hu (px hu (fv 6) ak) ae) ak)
      (ah (aA (cQ T.dW (sO T) hr (fv 1^fv 2^px hu (fv 6) ak^af))))
      aD)
     (ab (pst 7 df.nd (fv 2))
     (ab (aP (ptc rR (pcB bQ T.cB (fv 3^af)) ae)
      (ah (pst 7 df.nd (px hu (px hu (fv 3) (iW fq ae)) ak)))
      aD)
     (ah (aK (cN (fv 7) (ar (wD T) hr (fv 6^af)^af))))))))
     (ah (aP (ptc (bh hu) (pcB bQ T.cB (fv 3^af)) ae)
      (ah (aK (cN (fv 1) (ar (qz T) hr (ax bo (fv 4) ae^px hu (fv 0) (fv 4)^af)^af))))
      (ah (aK (cN (px hu (px hu (fv 3) (iW fq ae)) ak) (ar (qz T) hr (ax bo (fv 4) ae^px hu (fv 0) (fv 4)^af)^af))))))))))))))
 (ah (aA dF)))))),?_⟩
 refine aq λM1 K1=>⟨MB _,λlh hlh=>?_⟩;obtain⟨s1,e1⟩:=alc hlh (HO.lst []);generalize upd H lh _=H1 at s1 e1⊢;refine K1 _ _ ?_;clear K1 M1;try dsimp only
 refine aq λM1 K1=>⟨MB _,λld hld=>?_⟩;obtain⟨s2,e2⟩:=alc hld (HO.lst []);generalize upd H1 ld _=H2 at s2 e2⊢;refine K1 _ _ ?_;clear K1 M1;try dsimp only
 refine aq λM1 K1=>⟨MB _,λlf hlf=>?_⟩;obtain⟨s3,e3⟩:=alc hlf (HO.lst []);generalize upd H2 lf _=H3 at s3 e3⊢;have s03:=(s1.trans s2).trans s3;have d0:H ld=Vf:=ao.free s1 hld;have f0:H lf=Vf:=ao.free (s1.trans s2) hlf;have g3:Go [] H (Tm lh ld lf []) H3:=(Go.new s03).to λx m=>by
  simp only[Tm,NX,Mf,Ms,or_false]at m;rcases m with m|m|m
  ·exact .inr (.inr (by rw[m];exact hlh))
  ·exact .inr (.inr (by rw[m];exact d0))
  exact .inr (.inr (by rw[m];exact f0))
 have T3:gu A N H3 lh ld lf [] ⟨[],[],[]⟩ 0:=by
  have hd:ld≠lh:=Vh hld e1;have hf1:lf≠lh:=Vh hlf (s2 _ _ e1);have hf2:lf≠ld:=Vh hlf e2;refine⟨⟨[],(s2.trans s3) _ _ e1,aG.nil⟩,⟨[],s3 _ _ e2,aG.nil⟩,e3,.nil,?_,⟨Mo _,Mo _,Mo _,λf m=>(by cases m)⟩⟩;simp[Tm,hd.symm,hf1.symm,hf2.symm]
 clear s1 s2 s3 e1 e2 e3 hld hlf hlh;refine K1 _ _ ?_;clear K1 M1;try dsimp only
 refine aq λM1 K1=>lnl (s03 _ _ hLR) ⟨_,rfl,by rw[lr];omega,by rw[lr];omega,?_⟩;rw[Nq];refine kH (lo:=0) (IvT A N LR lh ld lf body H hs ds fo ms n) ⟨[],_,Vf,Vf,Vf,Vf,rfl,MB _,g3,T3,st⟩ ?_ ?_
 ·rintro i σ Hc hi ⟨as,z,v4,v5,v6,v7,rfl,ib,gc,Tc,st⟩;have sx:ao H (del (Tm lh ld lf as) Hc):=λx o e=>gc.same _ _ (aQ (λm=>by cases m) e);have sc:ao H Hc:=sx.trans aC;obtain⟨v,hv⟩:∃v,rows[i]?=Ve v:=⟨_,Mh hi⟩;obtain⟨r,hr',la⟩:=bb pr hv;have la:=la.same sx;obtain⟨t,p,rfl,et0,ep⟩:=la;have la:bX N (del (Tm lh ld lf as) Hc) (.ref t) r:=⟨t,p,rfl,et0,ep⟩;have et:=SqT.of (K:=K) (bq et0).2;have ai:atI rows (0+(i:Int))=Ve (.ref t):=by rw[Of];exact dA hv
  have ai':∀Hx,ao Hc Hx->SqL K Hx LR rows:=λHx zz=>SqL.of (zz _ _ (sc _ _ hLR));try dsimp only
  refine aq λN1 J1=>lix (ai' _ (ao.refl _)) ai (tix (j:=0) et rfl (J1 _ _ ?_));clear J1 N1;try dsimp only
  refine⟨by show 4<=sizeLine;decide,λtp htp=>?_⟩;obtain⟨sd,ed⟩:=alc htp (HO.tup op4);generalize upd Hc tp _=Hd at sd ed⊢;have Td:=Tc.same sd;have gd:Go [] H (Tm lh ld lf as) Hd:=gc.trans (Go.new sd);have lad:bX N (del (Tm lh ld lf as) Hd) (.ref t) r:=la.same (Go.new sd).same;have etd:=SqT.of (K:=K) (sd _ _ (bq et0).2);have b6:i<=500:=()
  clear Tc gc la htp;refine Mt ⟨_,MJ (SqT.of ed),rfl,rfl,_,rfl,ba (λc=>?_) (λc=>?_)⟩
  ·
   have c':r.zF=true:=by rw[<-G5];exact c
   rcases kJ hr' with⟨hb,il⟩|⟨_,rfl⟩;rotate_left
   ·cases c'
   have ed':body.drop i=r::body.drop (i+1):=by rw[NH il,(Ml.mp hb).2]
   rw[ed']at st;refine⟨Mt ⟨rfl,_,SqL.of Td.hf⟩,λfr hfr=>?_⟩;obtain⟨s1,e1⟩:=alc hfr (HO.dK []);generalize upd Hd fr _=X1 at s1 e1⊢;refine lix (ai' _ (sd.trans s1)) ai ⟨MB _,λl1 hl1=>?_⟩;obtain⟨s2,e2⟩:=alc hl1 (HO.lst []);generalize upd X1 l1 _=X2 at s2 e2⊢;refine⟨MB _,λl2 hl2=>?_⟩;obtain⟨s3,e3⟩:=alc hl2 (HO.lst []);generalize upd X2 l2 _=X3 at s3 e3⊢;refine⟨(s2.trans s3) _ _ e1,[((.inr "number":Key),.int (0+(i:Int)+1)),(.inr "row",.ref t),(.inr "first",.ref l1),(.inr "rows",.ref l2)],rfl,(show 4<=15 by decide),?_⟩;rw[show cq [] [((.inr "number":Key),V.int (0+(i:Int)+1)),(.inr "row",.ref t),(.inr "first",.ref l1),(.inr "rows",.ref l2)]=frT ((i:Int)+1) (.ref t) l1 l2 by rw[Of];rfl];have n1:l1≠fr:=Vh hl1 e1;have n2:l2≠fr:=Vh hl2 (s2 _ _ e1);have n3:l2≠l1:=Vh hl2 e2;have k4:ao Hd (upd X3 fr (.dK (frT ((i:Int)+1) (.ref t) l1 l2))):=ao.out ((s1.trans s2).trans s3) hfr _;have T4:∀fs h d,z=⟨h,d,fs⟩->gu A N _ lh ld lf (⟨fr,l1,l2⟩::as) ⟨h,d,⟨(i:Int)+1,r,[],[]⟩::fs⟩ (i+1):=λfs h d e=>gu.opn (H:=Hd) (by rw[<-e];exact Td) k4 hfr (ao.free s1 hl1) (ao.free (s1.trans s2) hl2) n1.symm n2.symm n3.symm aj (ag n1 (s3 _ _ e2)) (ag n2 e3) lad;refine⟨_,_,_,rfl,rfl,k4 _ _ Td.hf,ay (by have:=Td.bd.2.2.1;have:=O3 Td.fr;rw[Mj,List.length_reverse];omega),?_⟩;have g4:Go [] H (Tm lh ld lf (⟨fr,l1,l2⟩::as)) (upd (upd X3 fr (.dK (frT ((i:Int)+1) (.ref t) l1 l2))) lf (.lst ((as.reverse.map λa=>V.ref a.fr)++[.ref fr]))):=(gd.trans ((Go.new k4).trans (Go.at (by simp[Tm]) _))).to λx m=>by
    unfold Tm at m;simp only[Mf,MG,Mp,Fa.l,Ms,or_false]at m;unfold Tm;simp only[Mf];rcases m with m|m|m|(m|m|m)|m
    ·exact .inl (.inl m)
    ·exact .inl (.inr (.inl m))
    ·exact .inl (.inr (.inr (.inl m)))
    ·exact .inr (.inr (by rw[m];exact ao.free (sc.trans sd) hfr))
    ·exact .inr (.inr (by rw[m];exact ao.free ((sc.trans sd).trans s1) hl1))
    ·exact .inr (.inr (by rw[m];exact ao.free (((sc.trans sd).trans s1).trans s2) hl2))
    exact .inl (.inr (.inr (.inr m)))
   obtain⟨s',h1,h2⟩:=st.inv;obtain rfl:=h1.inv1 c' (λb=>vK b c');exact⟨_,_,_,_,_,_,rfl,il,g4,T4 _ _ _ rfl,h2⟩
  have c':r.zF=false:=by
   rw[<-G5];exact NQ.mpr c
  clear c;rcases kJ hr' with⟨hb,il⟩|⟨ie,rfl⟩
  ·have ed':body.drop i=r::body.drop (i+1):=by rw[NH il,(Ml.mp hb).2]
   rw[ed']at st;obtain⟨s',h1,h2⟩:=st.inv;rcases h1.inv c' with⟨h,d,f,fs,rfl,rfl,rfl⟩|⟨h,d,f,g,fs,b,rfl,rfl,rfl⟩|⟨h,d,f,b,rfl,rfl,rfl⟩|⟨h,d,b,rfl,rfl⟩|⟨h,d,f,fs,b,rfl,rfl⟩
   ·
     have fr:=Td.fr
     cases as with
     |nil=>cases fr
     |cons a as=>
     cases fr with
     |cons fa fr=>
     obtain⟨v,xf,xo,q1,q2,q3,q4,q5,q6⟩:=fa
     have lst:atI ((a::as).reverse.map λa=>V.ref a.fr) (-1)=Ve (.ref a.fr):=by
      rw[Nw,MI];exact sN _ _
     obtain⟨n1,n2,n3,n4,n5⟩:=tm3 Td.nd
     have imf:a.fr∈(a::as).flatMap Fa.l:=kD Mg (by simp[Fa.l])
     obtain⟨k1,k2,k3⟩:=n4 _ imf
     refine⟨rfl,_,rfl,ba (λ_=>?_) (λz=>absurd rfl (jr z))⟩
     refine aq λN1 J1=>⟨_,rfl,(lix (SqL.of Td.hf) lst (dgk q1 rfl ⟨_,rfl,(lix (SqL.of Td.hf) lst ⟨_,cW.k (k:=.inr "first") q1 (show 4<sizeLine by decide),J1 _ _ ?_⟩)⟩))⟩
     clear J1 N1
     rw[show Vj (frT f.n v a.lf a.lr) (.inr "first") (.ref a.lr)=frT f.n v a.lr a.lr from rfl]
     have hf1:=ag (u:=.dK (frT f.n v a.lr a.lr)) k3.symm Td.hf
     refine⟨MB _,λl hl=>?_⟩
     have lfr:l≠a.fr:=Vh hl aj
     have l0:Hd l=Vf:=by rw[aw lfr]at hl;exact hl
     have llf:l≠lf:=Vh l0 Td.hf
     refine⟨_,rfl,(lix (SqL.of (ag llf.symm hf1)) lst ⟨_,cW.k (k:=.inr "rows") (ag lfr.symm aj) (show 4<sizeLine by decide),?_⟩)⟩
     rw[show Vj (frT f.n v a.lr a.lr) (.inr "rows") (.ref l)=frT f.n v a.lr l from rfl]
     obtain⟨T5,g5⟩:=Td.els (H3:=upd (upd (upd Hd a.fr (.dK (frT f.n v a.lr a.lr))) l (.lst [])) a.fr (.dK (frT f.n v a.lr l))) q2 q4 q6 l0 (λx o h e=>ag h (ag (λz=>by rw[z,l0]at e;cases e) (ag h e))) aj (ag lfr aj)
     exact⟨_,_,_,_,_,_,rfl,il,gd.trans g5,T5,h2⟩
   ·
     have fr:=Td.fr
     cases as with
     |nil=>cases fr
     |cons a as=>
     cases as with
     |nil=>cases fr with|cons _ fr=>cases fr
     |cons a2 as=>
     obtain⟨Tp,v,xf,xo,q1,q2,q3,q4,q5,q6⟩:=Td.pop
     have dl:((a::a2::as).reverse.map λa=>V.ref a.fr).dropLast=(a2::as).reverse.map λa=>V.ref a.fr:=by
      rw[Nw,MI];exact Sz
     refine⟨rfl,_,rfl,ba (λz=>absurd (eW z) (show ¬ ("end":Str)="else" by decide)) (λ_=>⟨rfl,_,rfl,ba (λ_=>?_) (λz=>absurd rfl (jr z))⟩)⟩
     refine aq λN1 J1=>⟨Mt ⟨rfl,_,SqL.of Td.hf⟩,_,_,.ref a.fr,rfl,rfl,Td.hf,(by rw[Nw,MI];exact yB _ _),J1 _ _ ?_⟩
     clear J1 N1
     rw[dl]
     have alp:∀m∈Tm lh ld lf (a::a2::as),upd Hd lf (.lst ((a2::as).reverse.map λa=>V.ref a.fr)) m≠Vf:=λm hm e=>by
      by_cases z:m=lf
      ·rw[z,aj]at e;cases e
      rw[aw z]at e;exact Td.al m hm e
     have gp:Go [] H (Tm lh ld lf (a::a2::as)) (upd Hd lf (.lst ((a2::as).reverse.map λa=>V.ref a.fr))):=gd.trans (Go.at (by simp[Tm]) _)
     generalize upd Hd lf (.lst ((a2::as).reverse.map λa=>V.ref a.fr))=Hp at Tp q1 q2 q3 q4 q5 q6 alp gp⊢
     obtain⟨t',xs',rfl,et'⟩:=DW q2
     try dsimp only
     refine aq λN1 J1=>dgk q1 rfl (tix (j:=0) (SqT.of (bq et').2) rfl ⟨rfl,_,rfl,ba (λz=>absurd (eW z) (GC b)) (λ_=>J1 _ _ ?_)⟩)
     clear J1 N1
     try dsimp only
     refine aq λN1 J1=>J1 _ _ ?_
     clear J1 N1
     try dsimp only
     refine aq λN1 J1=>lnl Tp.hf ⟨_,rfl,ba (λ_=>?_) (λz=>absurd (decide_eq_true (by simp)) z)⟩
     have lst:atI ((a2::as).reverse.map λa=>V.ref a.fr) (-1)=Ve (.ref a2.fr):=by
      rw[Nw,MI];exact sN _ _
     have fr2:=Tp.fr
     cases fr2 with
     |cons fa fr2=>
     obtain⟨v',xf',xo',y1,y2,y3,y4,y5,y6⟩:=fa
     refine⟨_,rfl,(lix (SqL.of Tp.hf) lst (dgk y1 rfl (J1 _ _ ?_)))⟩
     clear J1 N1
     try dsimp only
     refine⟨Mt ⟨rfl,_,SqL.of y4⟩,N,Tm lh ld lf (a::a2::as),a.fr,a.lf,a.lr,f.n,.ref t',f.op,xf,xo,f.fst,f.rows,rfl,q1,q2,b,alp,q3,q4,q5,q6,λra Hq sq h0 hp=>?_⟩
     have Tq:=Tp.same sq
     have ly:xo'.length<=1000:=by
      have:=aG.len y6;have:=Tp.bd.2.2.2 g Mg;omega
     refine⟨_,_,_,rfl,rfl,sq _ _ y4,ay ly,?_⟩
     have T6:=Tq.GW (sq _ _ y4) (d5.same (λx o e=>aQ (λm=>(bq e).1 (sG m)) (bq e).2) _ _ hp)
     have g6:Go [] H (Tm lh ld lf (a2::as)) (upd Hq a2.lr (.lst (xo'++[.ref ra]))):=(((gp.to λx m=>.inl (sG m)).trans (Go.new sq)).trans (Go.at (by unfold Tm;simp only[Mf];exact .inr (.inr (.inr (kD Mg (by simp[Fa.l]))))) _))
     exact⟨_,_,_,_,_,_,rfl,il,g6,T6,h2⟩
   ·
     have fr:=Td.fr
     cases as with
     |nil=>cases fr
     |cons a as=>
     cases as with
     |cons a2 as=>cases fr with|cons _ fr=>cases fr
     |nil=>
     obtain⟨Tp,v,xf,xo,q1,q2,q3,q4,q5,q6⟩:=Td.pop
     refine⟨rfl,_,rfl,ba (λz=>absurd (eW z) (show ¬ ("end":Str)="else" by decide)) (λ_=>⟨rfl,_,rfl,ba (λ_=>?_) (λz=>absurd rfl (jr z))⟩)⟩
     refine aq λN1 J1=>⟨Mt ⟨rfl,_,SqL.of Td.hf⟩,_,_,.ref a.fr,rfl,rfl,Td.hf,rfl,J1 _ _ ?_⟩
     clear J1 N1
     rw[show(([a].reverse.map λa=>V.ref a.fr).dropLast)=([]:List Fa).reverse.map λa=>V.ref a.fr from rfl]
     have alp:∀m∈Tm lh ld lf [a],upd Hd lf (.lst (([]:List Fa).reverse.map λa=>V.ref a.fr)) m≠Vf:=λm hm e=>by
      by_cases z:m=lf
      ·rw[z,aj]at e;cases e
      rw[aw z]at e;exact Td.al m hm e
     have gp:Go [] H (Tm lh ld lf [a]) (upd Hd lf (.lst (([]:List Fa).reverse.map λa=>V.ref a.fr))):=gd.trans (Go.at (by simp[Tm]) _)
     generalize upd Hd lf (.lst (([]:List Fa).reverse.map λa=>V.ref a.fr))=Hp at Tp q1 q2 q3 q4 q5 q6 alp gp⊢
     obtain⟨t',xs',rfl,et'⟩:=DW q2
     try dsimp only
     refine aq λN1 J1=>dgk q1 rfl (tix (j:=0) (SqT.of (bq et').2) rfl ⟨rfl,_,rfl,ba (λz=>absurd (eW z) (GC b)) (λ_=>J1 _ _ ?_)⟩)
     clear J1 N1
     try dsimp only
     refine aq λN1 J1=>J1 _ _ ?_
     clear J1 N1
     try dsimp only
     refine aq λN1 J1=>lnl Tp.hf ⟨_,rfl,ba (λz=>absurd (of_decide_eq_true z) (by simp)) (λ_=>J1 _ _ ?_)⟩
     clear J1 N1
     try dsimp only
     obtain⟨xd,ed1,pd⟩:=Tp.hd
     refine⟨Mt ⟨rfl,_,SqL.of ed1⟩,N,Tm lh ld lf [a],a.fr,a.lf,a.lr,f.n,.ref t',f.op,xf,xo,f.fst,f.rows,rfl,q1,q2,b,alp,q3,q4,q5,q6,λra Hq sq h0 hp=>?_⟩
     have Tq:=Tp.same sq
     have ly:xd.length<=1000:=by
      have h1:=aG.len pd;have h2:=Tp.bd.2.1;rw[h1];exact MC h2 ()
     refine⟨_,_,_,rfl,rfl,sq _ _ ed1,ay ly,?_⟩
     have T6:=Tq.KD (sq _ _ ed1) (d5.same (λx o e=>aQ (λm=>(bq e).1 (sG m)) (bq e).2) _ _ hp)
     have g6:Go [] H (Tm lh ld lf []) (upd Hq ld (.lst (xd++[.ref ra]))):=(((gp.to λx m=>.inl (sG m)).trans (Go.new sq)).trans (Go.at (by simp[Tm]) _))
     exact⟨_,_,_,_,_,_,rfl,il,g6,T6,h2⟩
   ·
     have fr:=Td.fr
     cases as with
     |cons a as=>cases fr
     |nil=>
     obtain⟨w1,w2⟩:=Eh b
     refine⟨rfl,_,rfl,ba (λz=>absurd (eW z) w1) (λ_=>⟨rfl,_,rfl,ba (λz=>absurd (eW z) w2) (λ_=>lnl Td.hf ⟨rfl,_,rfl,ba (λ_=>?_) (λz=>absurd (decide_eq_true rfl) z)⟩)⟩)⟩
     obtain⟨xd,ed1,pd⟩:=Td.hh
     refine⟨Mt ⟨rfl,_,SqL.of ed1⟩,(lix (ai' _ sd) ai ⟨N,Tm lh ld lf [],_,_,r,rfl,lad,b,Td.al,λra Hq sq h0 hp=>?_⟩)⟩
     have Tq:=Td.same sq
     have ly:xd.length<=1000:=by
      have h1:=aG.len pd;have h2:=Td.bd.1;rw[h1];exact MC h2 ()
     refine⟨_,_,_,rfl,rfl,sq _ _ ed1,ay ly,?_⟩
     rw[Of]at hp
     have T6:=Tq.JQ (sq _ _ ed1) (p:=.leaf ((i:Int)+1) r) (by unfold d5;exact hp)
     have g6:Go [] H (Tm lh ld lf []) (upd Hq lh (.lst (xd++[.ref ra]))):=((gd.trans (Go.new sq)).trans (Go.at (by simp[Tm]) _))
     exact⟨_,_,_,_,_,_,rfl,il,g6,T6,h2⟩
   have fr:=Td.fr;cases as with
   |nil=>cases fr
   |cons a as=>
   cases fr with
   |cons fa fr=>
   obtain⟨v,xf,xo,q1,q2,q3,q4,q5,q6⟩:=fa;have lst:atI ((a::as).reverse.map λa=>V.ref a.fr) (-1)=Ve (.ref a.fr):=by
    rw[Nw,MI];exact sN _ _
   obtain⟨w1,w2⟩:=Eh b;refine⟨rfl,_,rfl,ba (λz=>absurd (eW z) w1) (λ_=>⟨rfl,_,rfl,ba (λz=>absurd (eW z) w2) (λ_=>lnl Td.hf ⟨rfl,_,rfl,ba (λz=>absurd (of_decide_eq_true z) (λy=>by have:=V.int.inj y;simp at this;omega)) (λ_=>⟨_,rfl,(lix (SqL.of Td.hf) lst (dgk q1 rfl ⟨Mt ⟨rfl,_,SqL.of q4⟩,(lix (ai' _ sd) ai ⟨N,Tm lh ld lf (a::as),_,_,r,rfl,lad,b,Td.al,λra Hq sq h0 hp=>?_⟩)⟩))⟩)⟩)⟩)⟩;have Tq:=Td.same sq;have ly:xo.length<=1000:=by
    have h1:=aG.len q6;have h2:=Td.bd.2.2.2 f Mg;omega
   refine⟨_,_,_,rfl,rfl,sq _ _ q4,ay ly,?_⟩;rw[Of]at hp;have T6:=Tq.GW (sq _ _ q4) (p:=.leaf ((i:Int)+1) r) (by unfold d5;exact hp);have g6:Go [] H (Tm lh ld lf (a::as)) (upd Hq a.lr (.lst (xo++[.ref ra]))):=((gd.trans (Go.new sq)).trans (Go.at (by unfold Tm;simp only[Mf];exact .inr (.inr (.inr (kD Mg (by simp[Fa.l]))))) _));exact⟨_,_,_,_,_,_,rfl,il,g6,T6,h2⟩
  rw[ie,List.drop_length]at st;obtain rfl:=st.LG;have fr:=Td.fr;cases as with
  |nil=>cases fr
  |cons a as=>
  cases as with
  |cons a2 as=>cases fr with|cons _ fr=>cases fr
  |nil=>
  obtain⟨Tp,v,xf,xo,q1,q2,q3,q4,q5,q6⟩:=Td.pop;refine⟨rfl,_,rfl,ba (λz=>absurd (eW z) (show ¬ ("end":Str)="else" by decide)) (λ_=>⟨rfl,_,rfl,ba (λ_=>?_) (λz=>absurd rfl (jr z))⟩)⟩;refine aq λN1 J1=>⟨Mt ⟨rfl,_,SqL.of Td.hf⟩,_,_,.ref a.fr,rfl,rfl,Td.hf,rfl,J1 _ _ ?_⟩;clear J1 N1;rw[show(([a].reverse.map λa=>V.ref a.fr).dropLast)=([]:List Fa).reverse.map λa=>V.ref a.fr from rfl];have gp:Go [] H (Tm lh ld lf [a]) (upd Hd lf (.lst (([]:List Fa).reverse.map λa=>V.ref a.fr))):=gd.trans (Go.at (by simp[Tm]) _);generalize upd Hd lf (.lst (([]:List Fa).reverse.map λa=>V.ref a.fr))=Hp at Tp q1 q2 q3 q4 q5 q6 gp⊢;obtain⟨t',xs',rfl,et'⟩:=DW q2;have sp:ao H Hp:=λx o e=>gp.o x o (λm=>by cases m) e;obtain⟨x1,h1,p1⟩:=Tp.hh;obtain⟨x2,h2,p2⟩:=Tp.hd;try dsimp only
  refine aq λN1 J1=>dgk q1 rfl (tix (j:=0) (SqT.of (bq et').2) rfl ⟨rfl,_,rfl,ba (λ_=>?_) (λz=>absurd rfl (jr z))⟩);refine dgk q1 rfl (λr6 dx hr6 hd_ hne_=>⟨_,_,_,_,_,_,_,_,_,rfl,rfl,hr6,hd_,(SqL.of h1),(SqL.of h2),(SqL.of q4),λn6 n7 n8 H6 f6 f7 f8 s6 h6 h7 h8 hx=>⟨rfl,?_⟩⟩);have s6':∀{M:List OW},ao (del M Hp) H6:=λx o e=>s6 _ _ (bq e).2;exact q _ H6 (sp.trans s6) ⟨r6,dx,n6,n7,n8,x1,x2,xo,rfl,hx,h6,h7,h8,aG.same s6' _ _ p1,aG.same s6' _ _ p2,aG.same s6' _ _ q6⟩
 rintro σ Hc ⟨as,z,v4,v5,v6,v7,rfl,ib,_⟩;exact absurd ib (by rw[lr];omega)
end
section
set_option genCtorIdx true in
inductive Rw where
 |set (n:Int) (x:Nat) (v:Val)
 |put (n:Int) (x:Nat) (p:Th) (v:Val)
 |snd (n:Int) (h:Nat) (v:Val)
 |say (n:Int) (x:Nat) (v:Val) (m:Nat)
 |last (n:Int)
 |call (n:Int) (i:Nat) (ts:List Th)
 |iff (n:Int) (v:Val) (f o:List Rw) (l r:Int)
 |loop (n:Int) (t:Th) (m:Int) (b:List Rw) (l r:Int)
structure Dd where
 nm:Nat
 parts:List Nat
 body:List Rw
structure En where
 N:Nat->Str
 idx:List Nat
 sz:Nat->Nat
 ds:List Dd
 dv:List V
structure S where
 num:Nat->Int
 lst:Nat->List Int
 steps:Int
 trace:List (List V)
 eR:List (List V)
 wX:List (List V)
variable{E:En}{s:S}{B:Int}
noncomputable def Th.num(s:S):Th->Int
 | .i n=>n
 | .x a=>s.num a
noncomputable def lat(xs:List Int)(i:Int):Int:=xs.getD (i%(xs.length:Int)).toNat 0
noncomputable def Val.num(s:S):Val->Int
 | .one a=>a.num s
 | .op a w b=>rkn (a.num s) (b.num s) w
 | .atl x b=>lat (s.lst x) (b.num s)
def Th.okE(E:En):Th->Prop
 | .i n=>In n
 | .x a=>a∈E.idx/\E.sz a=0
def Val.okE(E:En):Val->Prop
 | .one a=>a.okE E
 | .op a w b=>a.okE E/\b.okE E/\w∈opW
 | .atl x b=>x∈E.idx/\0<E.sz x/\b.okE E
structure S.ok(E:En)(s:S):Prop where
 num:∀a,In (s.num a)
 lst:∀x,∀n∈s.lst x,In n
 len:∀x∈E.idx,0<E.sz x->(s.lst x).length=E.sz x
theorem Ih(h:∀n∈xs,In n)(i:Int):In (lat xs i):=by
 unfold lat;rw[MQ];cases e:xs[(i%(xs.length:Int)).toNat]? with
 |none=>exact⟨∅,∅⟩
 |some n=>exact h n (Mr e)
theorem Th.fm(hs:s.ok E){t:Th}(h:t.okE E):In (t.num s):=by
 cases t with
 |i n=>exact h
 |x a=>exact hs.num a
theorem Val.fm(hs:s.ok E){v:Val}(h:v.okE E):In (v.num s):=by
 cases v with
 |one a=>exact Th.fm hs h
 |op a w b=>exact Ji (Th.fm hs h.1) (Th.fm hs h.2.1) w
 |atl x b=>exact Ih (hs.lst x) _
noncomputable def S.idle(s:S)(n:Int):S:={ s with steps:=s.steps+n }
noncomputable def S.tell(s:S)(n:Int)(v:V):S:={ s with steps:=s.steps+1,trace:=s.trace++[[.int n,.int (s.steps+1),v]] }
noncomputable def S.sD(s:S)(w:List V):S:={ s with eR:=s.eR++[w] }
noncomputable def S.sV(s:S)(w:List V):S:={ s with wX:=s.wX++[w] }
noncomputable def S.put(s:S)(x:Nat)(v:Int):S:={ s with num:=λa=>if a=x then v else s.num a }
noncomputable def S.Ao(s:S)(x:Nat)(i v:Int):S:={ s with lst:=λa=>if a=x then(s.lst x).set (i%((s.lst x).length:Int)).toNat v else s.lst a }
noncomputable def S.yr(s:S)(xs:List (Nat×Int)):S:=xs.foldl (λs p=>s.put p.1 p.2) s
noncomputable def Vm(body:S->S×Bool)(l:Int):Nat->Nat->S->S×Nat
 |0,k,s=>(s,k)
 |n+1,k,s=>if(body s).2=true then((body s).1.idle l,k+1)else Vm body l n (k+1) ((body s).1.idle l)
noncomputable def step(f:S->Rw->S×Bool)(p:S×Bool)(r:Rw):S×Bool:=((f p.1 r).1,p.2||(f p.1 r).2)
noncomputable def bU(f:S->Rw->S×Bool)(s:S)(xs:List Rw):S×Bool:=xs.foldl (step f) (s,false)
noncomputable def leaf(N:Nat->Str)(s:S):Rw->S×Bool
 | .set n x v=>((s.tell n .non).put x (v.num s),false)
 | .put n x p v=>((s.tell n .non).Ao x (p.num s) (v.num s),false)
 | .snd n h v=>((s.tell n (.int (v.num s))).sD [.int (s.steps+1),.int n,.str (N h),.int (v.num s)],false)
 | .say n x v m=>(((s.tell n (.int (v.num s))).put x (v.num s)).sV [.int (s.steps+1),.int n,.str (N m),.int (v.num s)],false)
 | .last n=>(s.tell n .non,true)
 | .call n _ _=>(s.tell n .non,false)
 | .iff n _ _ _ _ _=>(s.tell n .non,false)
 | .loop n _ _ _ _ _=>(s.tell n .non,false)
noncomputable def Vs(s:S)(t:Th)(m:Int):Int:=if m<t.num s then m else t.num s
noncomputable def doR(E:En):Nat->S->Rw->S×Bool
 |d+1,s,.call n i ts=>match E.ds[i]? with
  |some D=>((bU (doR E d) ((s.tell n .non).yr (D.parts.zip (ts.map (Th.num s)))) D.body).1,false)
  |none=>(s.tell n .non,false)
 |d+1,s,.iff n v f o l r=>if v.num s≠0 then((bU (doR E d) (s.tell n .non) f).1.idle l,(bU (doR E d) (s.tell n .non) f).2)else((bU (doR E d) (s.tell n .non) o).1.idle r,(bU (doR E d) (s.tell n .non) o).2)
 |d+1,s,.loop n t m b l r=>((Vm (λs=>bU (doR E d) s b) l (Vs s t m).toNat 0 (s.tell n .non)).1.idle (r*(m-(Vm (λs=>bU (doR E d) s b) l (Vs s t m).toNat 0 (s.tell n .non)).2)),false)
 |_,s,r=>leaf E.N s r
noncomputable def aT(E:En):Nat->Rw->Int
 |d+1,.call _ i _=>match E.ds[i]? with
  |some D=>1+(D.body.map (aT E d)).sum
  |none=>1
 |d+1,.iff _ _ f o l r=>1+(if l+(f.map (aT E d)).sum<r+(o.map (aT E d)).sum then r+(o.map (aT E d)).sum else l+(f.map (aT E d)).sum)
 |d+1,.loop _ _ m b l r=>1+m*(if l+(b.map (aT E d)).sum<r then r else l+(b.map (aT E d)).sum)
 |_,_=>1
def Wf(E:En):Nat->Rw->Prop
 |_,.set _ x v=>x∈E.idx/\E.sz x=0/\v.okE E
 |_,.put _ x p v=>x∈E.idx/\0<E.sz x/\p.okE E/\v.okE E
 |_,.snd _ h v=>v.okE E/\h<3
 |_,.say _ x v _=>x∈E.idx/\E.sz x=0/\v.okE E
 |_,.last _=>True
 |d+1,.call _ i ts=>(∀t∈ts,t.okE E)/\ts.length<=4/\∃D,E.ds[i]?=Ve D/\D.parts.length=ts.length/\∀r∈D.body,Wf E d r
 |d+1,.iff _ v f o l r=>v.okE E/\0<=l/\0<=r/\(∀q∈f,Wf E d q)/\∀q∈o,Wf E d q
 |d+1,.loop _ t m b l r=>t.okE E/\0<=m/\m<=1000/\0<=l/\0<=r/\∀q∈b,Wf E d q
 |0,.call _ _ _=>False
 |0,.iff _ _ _ _ _ _=>False
 |0,.loop _ _ _ _ _ _=>False
structure S.room(s:S)(B n:Int):Prop where
 st:s.steps+n<=B
 t:(s.trace.length:Int)<=s.steps
 l:(s.eR.length:Int)<=s.steps
 d:(s.wX.length:Int)<=s.steps
theorem S.room.le(h:s.room B n)(hm:m<=n):s.room B m:=⟨by have:=h.st;omega,h.t,h.l,h.d⟩
theorem iz(h:s.room B (1+n))(m:Int)(v:V):(s.tell m v).room B n:=⟨by have:=h.st;show s.steps+1+n<=_;omega,by have:=h.t;show((s.trace++[_]).length:Int)<=s.steps+1;rw[Mn];simp;omega,by have:=h.l;show(s.eR.length:Int)<=s.steps+1;omega,by have:=h.d;show(s.wX.length:Int)<=s.steps+1;omega⟩
theorem kF(h:s.room B (l+n))(h0:0<=l):(s.idle l).room B n:=⟨by have:=h.st;show s.steps+l+n<=_;omega,by have:=h.t;show(s.trace.length:Int)<=s.steps+l;omega,by have:=h.l;show(s.eR.length:Int)<=s.steps+l;omega,by have:=h.d;show(s.wX.length:Int)<=s.steps+l;omega⟩
theorem xH(h:s.room B n)(x:Nat)(v:Int):(s.put x v).room B n:=⟨h.st,h.t,h.l,h.d⟩
theorem vv(h:s.room B n):∀xs:List (Nat×Int),(s.yr xs).room B n:=λxs=>by
 induction xs generalizing s with
 |nil=>exact h
 |cons p r ih=>exact ih (s:=s.put p.1 p.2) (xH h _ _)
theorem uU(E:En):∀(d:Nat)(r:Rw),Wf E d r->1<=aT E d r:=by
 have nn:∀(d:Nat)(xs:List Rw),(∀r∈xs,1<=aT E d r)->0<=(xs.map (aT E d)).sum:=λd xs h=>by
  induction xs with
  |nil=>exact MF _
  |cons x r ih=>
   rw[Mv,NG];have:=h x Mg;have:=ih λq hq=>h q (Mi _ hq);omega
 intro d;induction d with
 |zero=>intro r h;cases r<;>first|exact MF _|exact h.elim
 |succ d ih=>
  intro r h;cases r with
  |call n i ts=>
   obtain⟨_,_,D,hD,_,hb⟩:=h;unfold aT;rw[hD];have:=nn d D.body λq hq=>ih q (hb q hq);show 1<=1+_;omega
  |iff n v f o l r=>
   obtain⟨_,h1,h2,h3,h4⟩:=h;unfold aT;have:=nn d f λq hq=>ih q (h3 q hq);have:=nn d o λq hq=>ih q (h4 q hq);split<;>omega
  |loop n t m b l r=>
   obtain⟨_,h1,_,h2,h3,h4⟩:=h;unfold aT;have:=nn d b λq hq=>ih q (h4 q hq);have:0<=m*(if l+(b.map (aT E d)).sum<r then r else l+(b.map (aT E d)).sum):=MT h1 (by split<;>omega);omega
  |_=>exact MF _
theorem qj(E:En){d:Nat}{xs:List Rw}(h:∀r∈xs,Wf E d r):0<=(xs.map (aT E d)).sum:=by
 induction xs with
 |nil=>exact MF _
 |cons x r ih=>
  rw[Mv,NG];have:=uU E d x (h x Mg);have:=ih λq hq=>h q (Mi _ hq);omega
theorem nL{E:En}{f:S->Rw->S×Bool}{c:Rw->Int}{p:Rw->Prop}(one:∀(s:S)(r:Rw)(n:Int),p r->s.room B (c r+n)->(f s r).1.room B n):∀(xs:List Rw)(s:S×Bool)(n:Int),(∀r∈xs,p r)->s.1.room B ((xs.map c).sum+n)->(xs.foldl (step f) s).1.room B n
 | [],s,n,_,h=>by simpa using h
 |r::xs,s,n,hp,h=>by
  rw[Ou];refine nL (E:=E) one xs _ n (λq hq=>hp q (Mi _ hq)) (one s.1 r _ (hp r Mg) ?_);rw[Mv,NG,Int.add_assoc]at h;exact h
theorem qG(l0:0<=l)(one:∀(s:S)(n:Int),s.room B (c+n)->(body s).1.room B n)(c0:0<=c):∀(k j:Nat)(s:S)(n:Int),s.room B ((k:Int)*(l+c)+n)->((Vm body l k j s).1.room B ((k:Int)*(l+c)-((Vm body l k j s).2-j:Int)*(l+c)+n))/\j<=(Vm body l k j s).2/\(Vm body l k j s).2<=k+j
 |0,j,s,n,h=>by
  simp only[Vm];refine⟨?_,Mo _,()⟩;rw[Int.sub_self,Int.zero_mul,Int.sub_zero];exact h
 |k+1,j,s,n,h=>by
  have e:((k+1:Nat):Int)*(l+c)=(k:Int)*(l+c)+(l+c):=by rw[Uv,OT,ON]
  rw[e]at h⊢;have h1:((body s).1.idle l).room B ((k:Int)*(l+c)+n):=kF (one s _ (h.le ())) l0;simp only[Vm];split
  ·refine⟨?_,by show j<=j+1;omega,by show j+1<=k+1+j;omega⟩;show S.room _ B ((k:Int)*(l+c)+(l+c)-(((j+1:Nat):Int)-j)*(l+c)+n);rw[show((j+1:Nat):Int)-j=1 by omega,ON];exact h1.le ()
  obtain⟨i1,i2,i3⟩:=qG l0 one c0 k (j+1) ((body s).1.idle l) n h1;refine⟨i1.le ?_,(),()⟩;have:(((Vm body l k (j+1) ((body s).1.idle l)).2:Int)-(j:Int))*(l+c)=(((Vm body l k (j+1) ((body s).1.idle l)).2:Int)-((j+1:Nat):Int))*(l+c)+(l+c):=by
   rw[show((Vm body l k (j+1) ((body s).1.idle l)).2:Int)-(j:Int)=(((Vm body l k (j+1) ((body s).1.idle l)).2:Int)-((j+1:Nat):Int))+1 by omega,OT,ON]
  omega
theorem iB(N:Nat->Str)(h:s.room B (1+n))(r:Rw):(leaf N s r).1.room B n:=by
 have a:=λm v=>iz h m v;cases r with
 |set m x v=>exact xH (a m .non) _ _
 |put m x p v=>exact⟨(a m .non).st,(a m .non).t,(a m .non).l,(a m .non).d⟩
 |snd m x v=>
  have b:=a m (.int (v.num s));refine⟨b.st,b.t,?_,b.d⟩;have:=h.l;show((s.eR++[_]).length:Int)<=s.steps+1;rw[Mn];simp;omega
 |say m x v y=>
  have b:=a m (.int (v.num s));refine⟨b.st,b.t,b.l,?_⟩;have:=h.d;show((s.wX++[_]).length:Int)<=s.steps+1;rw[Mn];simp;omega
 |last m=>exact a m .non
 |call m i ts=>exact a m .non
 |iff m v f o l r=>exact a m .non
 |loop m t k b l r=>exact a m .non
theorem AA(s:S)(t:Th)(m:Int):Vs s t m<=m:=by unfold Vs;split<;>omega
theorem Fx(hs:s.ok E)(ht:t.okE E)(hm:0<=m):0<=Vs s t m:=by
 have:=(Th.fm hs ht).1;unfold Vs;split<;>omega
theorem sL(E:En):∀(d:Nat)(s:S)(r:Rw)(n:Int),Wf E d r->s.room B (aT E d r+n)->(doR E d s r).1.room B n:=by
 intro d;induction d with
 |zero=>intro s r n w h;cases r<;>first|exact iB E.N h _|exact w.elim
 |succ d ih=>
  intro s r n w h;have rows:∀(xs:List Rw)(s:S)(n:Int),(∀r∈xs,Wf E d r)->s.room B ((xs.map (aT E d)).sum+n)->(bU (doR E d) s xs).1.room B n:=λxs s n hw hr=>nL (E:=E) (p:=Wf E d) (λs r n w h=>ih s r n w h) xs (s,false) n hw hr;cases r with
  |call m i ts=>
   obtain⟨_,_,D,hD,_,hb⟩:=w;unfold aT at h;unfold doR;rw[hD]at h⊢;dsimp only at h⊢;exact rows D.body _ n hb (vv (iz (h.le ()) m .non) _)
  |iff m v f o l r=>
   obtain⟨_,h1,h2,h3,h4⟩:=w;unfold aT at h;unfold doR;have b1:1+(l+(f.map (aT E d)).sum)+n<=1+(if l+(f.map (aT E d)).sum<r+(o.map (aT E d)).sum then r+(o.map (aT E d)).sum else l+(f.map (aT E d)).sum)+n:=by split<;>omega
   have b2:1+(r+(o.map (aT E d)).sum)+n<=1+(if l+(f.map (aT E d)).sum<r+(o.map (aT E d)).sum then r+(o.map (aT E d)).sum else l+(f.map (aT E d)).sum)+n:=by split<;>omega
   split
   ·exact kF (rows f _ (l+n) h3 (iz (h.le ()) m .non)) h1
   exact kF (rows o _ (r+n) h4 (iz (h.le ()) m .non)) h2
  |loop m t k b l r=>
   obtain⟨_,h1,_,h2,h3,h4⟩:=w;unfold aT at h;unfold doR;have c0:=qj E h4;generalize hc:(b.map (aT E d)).sum=c at h c0;have mx:l+c<=(if l+c<r then r else l+c)/\r<=(if l+c<r then r else l+c):=by split<;>omega
   generalize (if l+c<r then r else l+c)=x at h mx;have wk:=AA s t k;have kn:((Vs s t k).toNat:Int)<=k:=()
   have q1:((Vs s t k).toNat:Int)*(l+c)<=k*x:=Oz (Nu kn ()) (MM mx.1 h1);have q0:((Vs s t k).toNat:Int)*(l+c)+(k*x-((Vs s t k).toNat:Int)*(l+c)+n)=k*x+n:=()
   obtain⟨i1,i2,i3⟩:=qG (body:=λs=>bU (doR E d) s b) (c:=c) h2 (λs n hh=>rows b s n h4 (by rw[hc];exact hh)) c0 (Vs s t k).toNat 0 (s.tell m .non) (k*x-((Vs s t k).toNat:Int)*(l+c)+n) (by rw[q0];exact iz (h.le ()) m .non);generalize Vm (λs=>bU (doR E d) s b) l (Vs s t k).toNat 0 (s.tell m .non)=q at i1 i2 i3;have j0:(0:Int)<=(q.2:Int):=()
   have jk:(q.2:Int)<=k:=()
   have r1:r*(k-(q.2:Int))<=x*(k-(q.2:Int)):=Nu mx.2 ();have r2:(q.2:Int)*(l+c)<=(q.2:Int)*x:=MM mx.1 j0;have r3:x*(k-(q.2:Int))+(q.2:Int)*x=k*x:=by
    rw[Int.mul_sub,Int.mul_comm x k,Int.mul_comm x];omega
   have r4:0<=r*(k-(q.2:Int)):=MT h3 ();refine kF (i1.le ?_) r4;rw[show((q.2:Int)-((0:Nat):Int))=(q.2:Int) by omega];omega
  |set m x v=>exact iB E.N h _
  |put m x p v=>exact iB E.N h _
  |snd m x v=>exact iB E.N h _
  |say m x v y=>exact iB E.N h _
  |last m=>exact iB E.N h _
end
section
variable{P:Program}{w:O7}{K:OZ}{mg:Str->Option OX}{base:Pk}{A:Adr}{E:En}
def eB(A:Adr)(E:En)(X:Hp):Nat->V->Rw->Prop
 |_,v,.set n x val=>∃a dx p,v=.ref a/\X a=Ve (.ins A.cY dx [("number",.int n),("name",.str (E.N x)),("value",.ref p)])/\X p=Ve (.tup (vV E.N val))
 |_,v,.put n x pl val=>∃a dx p,v=.ref a/\X a=Ve (.ins A.cM dx [("number",.int n),("name",.str (E.N x)),("place",pl.v E.N),("value",.ref p)])/\X p=Ve (.tup (vV E.N val))
 |_,v,.snd n h val=>∃a dx p,v=.ref a/\X a=Ve (.ins A.bL dx [("number",.int n),("name",.str (E.N h)),("value",.ref p)])/\X p=Ve (.tup (vV E.N val))
 |_,v,.say n x val m=>∃a dx p,v=.ref a/\X a=Ve (.ins A.cm dx [("number",.int n),("name",.str (E.N x)),("value",.ref p),("mark",.str (E.N m))])/\X p=Ve (.tup (vV E.N val))
 |_,v,.last n=>∃a dx,v=.ref a/\X a=Ve (.ins A.cS dx [("number",.int n)])
 |d+1,v,.call n i ts=>∃a dx p D,v=.ref a/\E.ds[i]?=Ve D/\X a=Ve (.ins A.cD dx [("number",.int n),("name",.str (E.N D.nm)),("things",.ref p)])/\X p=Ve (.lst (ts.map (Th.v E.N)))/\
  ∃da dy dn pp pb xs,E.dv[i]?=Ve (.ref da)/\X da=Ve (.ins A.cj dy [("number",dn),("name",.str (E.N D.nm)),("parts",.ref pp),("body",.ref pb)])/\X pp=Ve (.lst (D.parts.map λj=>V.str (E.N j)))/\X pb=Ve (.lst xs)/\Paired (eB A E X d) xs D.body
 |d+1,v,.iff n val f o l r=>∃a dx p pf po xf xo,v=.ref a/\X a=Ve (.ins A.dP dx [("number",.int n),("value",.ref p),("first",.ref pf),("other",.ref po),("left",.int l),("right",.int r)])/\X p=Ve (.tup (vV E.N val))/\X pf=Ve (.lst xf)/\X po=Ve (.lst xo)/\Paired (eB A E X d) xf f/\Paired (eB A E X d) xo o
 |d+1,v,.loop n t m b l r=>∃a dx pb xb,v=.ref a/\X a=Ve (.ins A.bN dx [("number",.int n),("thing",t.v E.N),("most",.int m),("body",.ref pb),("left",.int l),("right",.int r)])/\X pb=Ve (.lst xb)/\Paired (eB A E X d) xb b
 |0,_,.call _ _ _=>False
 |0,_,.iff _ _ _ _ _ _=>False
 |0,_,.loop _ _ _ _ _ _=>False
theorem eB.same(s:ao X X'):∀{d:Nat}{v:V}{r:Rw},eB A E X d v r->eB A E X' d v r:=by
 intro d;induction d with
 |zero=>
  intro v r h;cases r with
  |set n x val=>obtain⟨a,dx,p,e,h1,h2⟩:=h;exact⟨a,dx,p,e,s _ _ h1,s _ _ h2⟩
  |put n x pl val=>obtain⟨a,dx,p,e,h1,h2⟩:=h;exact⟨a,dx,p,e,s _ _ h1,s _ _ h2⟩
  |snd n h' val=>obtain⟨a,dx,p,e,h1,h2⟩:=h;exact⟨a,dx,p,e,s _ _ h1,s _ _ h2⟩
  |say n x val m=>obtain⟨a,dx,p,e,h1,h2⟩:=h;exact⟨a,dx,p,e,s _ _ h1,s _ _ h2⟩
  |last n=>obtain⟨a,dx,e,h1⟩:=h;exact⟨a,dx,e,s _ _ h1⟩
  |call n i ts=>exact h.elim
  |iff n v f o l r=>exact h.elim
  |loop n t m b l r=>exact h.elim
 |succ d ih=>
  intro v r h;cases r with
  |set n x val=>obtain⟨a,dx,p,e,h1,h2⟩:=h;exact⟨a,dx,p,e,s _ _ h1,s _ _ h2⟩
  |put n x pl val=>obtain⟨a,dx,p,e,h1,h2⟩:=h;exact⟨a,dx,p,e,s _ _ h1,s _ _ h2⟩
  |snd n h' val=>obtain⟨a,dx,p,e,h1,h2⟩:=h;exact⟨a,dx,p,e,s _ _ h1,s _ _ h2⟩
  |say n x val m=>obtain⟨a,dx,p,e,h1,h2⟩:=h;exact⟨a,dx,p,e,s _ _ h1,s _ _ h2⟩
  |last n=>obtain⟨a,dx,e,h1⟩:=h;exact⟨a,dx,e,s _ _ h1⟩
  |call n i ts=>
   obtain⟨a,dx,p,D,e,h0,h1,h2,da,dy,dn,pp,pb,xs,g0,g1,g2,g3,g4⟩:=h;exact⟨a,dx,p,D,e,h0,s _ _ h1,s _ _ h2,da,dy,dn,pp,pb,xs,g0,s _ _ g1,s _ _ g2,s _ _ g3,Paired.cI g4 λ_ _=>ih⟩
  |iff n v f o l r=>
   obtain⟨a,dx,p,pf,po,xf,xo,e,h1,h2,h3,h4,h5,h6⟩:=h;exact⟨a,dx,p,pf,po,xf,xo,e,s _ _ h1,s _ _ h2,s _ _ h3,s _ _ h4,Paired.cI h5 λ_ _=>ih,Paired.cI h6 λ_ _=>ih⟩
  |loop n t m b l r=>
   obtain⟨a,dx,pb,xb,e,h1,h2,h3⟩:=h;exact⟨a,dx,pb,xb,e,s _ _ h1,s _ _ h2,Paired.cI h3 λ_ _=>ih⟩
structure En.Ok(E:En):Prop where
 D:kg E.N
 b:∀j∈E.idx,j<25
 nd:E.idx.Nodup
 dn:∀d∈E.ds,d.nm<25
 dd:(E.ds.map Dd.nm).Nodup
 dl:E.ds.length<=64
 dv:E.dv.length=E.ds.length
 pt:∀d∈E.ds,∀j∈d.parts,j∈E.idx/\E.sz j=0
 z:∀x,E.sz x<=1000
 len:E.idx.length<=64
structure Ra where
 s:OW
 ds:OW
 d:OW
 c:OW
 b:OW
 db:OW
 sd:OW
 e:OW
 t:OW
 l:OW
 la:Nat->OW
noncomputable def En.ls(E:En):List Nat:=E.idx.filter λi=>decide (0<E.sz i)
noncomputable def Ra.M(r:Ra)(E:En):List OW:=[r.b,r.c,r.t,r.l,r.sd]++E.ls.map r.la
noncomputable def cV(E:En)(la:Nat->OW)(num:Nat->Int)(i:Nat):V:=if E.sz i=0 then .int (num i)else .ref (la i)
noncomputable def dG(E:En)(j:Nat):V:=match (E.ds.zip E.dv).find? λp=>decide (p.1.nm=j)with
 |some p=>p.2
 |none=>.non
noncomputable def rK(r:Ra)(k:S):List (Str×V):=[("letters",.ref r.l),("said",.ref r.sd),("trace",.ref r.t),("steps",.int k.steps),("ends",.ref r.e)]
structure bp(A:Adr)(E:En)(H:Hp)(r:Ra)(k:S):Prop where
 nd:(r.M E).Nodup
 hs:del (r.M E) H r.s=Ve (.ins A.Run r.ds [("deeds",.ref r.d),("cells",.ref r.c),("book",.ref r.b)])
 hk:del (r.M E) H r.d=Ve (.dK (dk E.N (E.ds.map Dd.nm) (dG E)))
 hb:H r.b=Ve (.ins A.fB r.db (rK r k))
 hc:H r.c=Ve (.dK (dk E.N E.idx (cV E r.la k.num)))
 ht:∃xs,H r.t=Ve (.lst xs)/\i5 (del (r.M E) H) xs k.trace
 hl:∃xs,H r.l=Ve (.lst xs)/\i5 (del (r.M E) H) xs k.eR
 hd:∃xs,H r.sd=Ve (.lst xs)/\i5 (del (r.M E) H) xs k.wX
 ha:∀i∈E.ls,H (r.la i)=Ve (.lst ((k.lst i).map V.int))
 ok:k.ok E
variable{H H':Hp}{r:Ra}{k:S}
theorem bp.s(R:bp A E H r k):H r.s=Ve (.ins A.Run r.ds [("deeds",.ref r.d),("cells",.ref r.c),("book",.ref r.b)]):=aC _ _ R.hs
theorem bp.same(R:bp A E H r k)(s:ao H H'):bp A E H' r k:=by
 have g:=(Go.new (M:=r.M E) s).same;obtain⟨ts,t1,t2⟩:=R.ht;obtain⟨ls,l1,l2⟩:=R.hl;obtain⟨ds,d1,d2⟩:=R.hd;exact⟨R.nd,g _ _ R.hs,g _ _ R.hk,s _ _ R.hb,s _ _ R.hc,⟨ts,s _ _ t1,t2.same g⟩,⟨ls,s _ _ l1,l2.same g⟩,⟨ds,s _ _ d1,d2.same g⟩,λi h=>s _ _ (R.ha i h),R.ok⟩
theorem bp.has(R:bp A E H r k)(m:a∈r.M E):∃o,H a=Ve o:=by
 unfold Ra.M at m;rcases Mp.mp m with m|m
 ·simp only[Mf,Ms,or_false]at m;obtain⟨ts,t1,t2⟩:=R.ht;obtain⟨ls,l1,l2⟩:=R.hl;obtain⟨ds,d1,d2⟩:=R.hd;rcases m with rfl|rfl|rfl|rfl|rfl
  ·exact⟨_,R.hb⟩
  ·exact⟨_,R.hc⟩
  ·exact⟨_,t1⟩
  ·exact⟨_,l1⟩
  exact⟨_,d1⟩
 obtain⟨i,hi,rfl⟩:=Mz.mp m;exact⟨_,R.ha i hi⟩
theorem bp.free(R:bp A E H r k)(e:H a=Vf):a∉r.M E:=λm=>by
 obtain⟨o,z⟩:=R.has m;rw[e]at z;cases z
structure Nes(r:Ra)(E:En):Prop where
 bc:r.b≠r.c
 bt:r.b≠r.t
 bl:r.b≠r.l
 bd:r.b≠r.sd
 ct:r.c≠r.t
 cl:r.c≠r.l
 cd:r.c≠r.sd
 tl:r.t≠r.l
 td:r.t≠r.sd
 ld:r.l≠r.sd
 a:∀i∈E.ls,r.la i≠r.b/\r.la i≠r.c/\r.la i≠r.t/\r.la i≠r.l/\r.la i≠r.sd
 i:∀i∈E.ls,∀j∈E.ls,r.la i=r.la j->i=j
theorem Nes.of(h:(r.M E).Nodup):Nes r E:=by
 unfold Ra.M at h;rw[MP]at h;obtain⟨h1,h2,h3⟩:=h;simp only[Mx,Mf,Ms,or_false,not_or,not_false_eq_true,U5,and_true]at h1;obtain⟨⟨a1,a2,a3,a4⟩,⟨a5,a6,a7⟩,⟨a8,a9⟩,a10⟩:=h1;have m:∀i∈E.ls,r.la i∈E.ls.map r.la:=λi hi=>Mz.mpr ⟨i,hi,rfl⟩;refine⟨a1,a2,a3,a4,a5,a6,a7,a8,a9,a10,λi hi=>⟨(h3 _ (by simp) _ (m i hi)).symm,(h3 _ (by simp) _ (m i hi)).symm,(h3 _ (by simp) _ (m i hi)).symm,(h3 _ (by simp) _ (m i hi)).symm,(h3 _ (by simp) _ (m i hi)).symm⟩,?_⟩;have:∀xs:List Nat,(xs.map r.la).Nodup->∀i∈xs,∀j∈xs,r.la i=r.la j->i=j:=by
  intro xs;induction xs with
  |nil=>intro _ i h;cases h
  |cons x t ih=>
   intro h i hi j hj e;rw[Mv,Mx]at h;rcases Mf.mp hi with hi|hi<;>rcases Mf.mp hj with hj|hj
   ·exact hi.trans hj.symm
   ·rw[hi]at e;exact absurd (show r.la x∈t.map r.la from Mz.mpr ⟨j,hj,e.symm⟩) h.1
   ·rw[hj]at e;exact absurd (show r.la x∈t.map r.la from Mz.mpr ⟨i,hi,e⟩) h.1
   exact ih h.2 i hi j hj e
 exact this _ h2
theorem bp.ne(R:bp A E H r k):Nes r E:=Nes.of R.nd
theorem Ra.inM(r:Ra)(E:En):r.b∈r.M E/\r.c∈r.M E/\r.t∈r.M E/\r.l∈r.M E/\r.sd∈r.M E/\∀i∈E.ls,r.la i∈r.M E:=by
 unfold Ra.M;refine⟨by simp,by simp,by simp,by simp,by simp,λi hi=>MA _ (Mz.mpr ⟨i,hi,rfl⟩)⟩
theorem bp.steps(R:bp A E H r k)(n:Int):bp A E (upd H r.b (.ins A.fB r.db (rK r { k with steps:=n }))) r { k with steps:=n }:=by
 have g:=(Go.at (H:=H) (r.inM E).1 (.ins A.fB r.db (rK r { k with steps:=n }))).same;have ne:=R.ne;obtain⟨ts,t1,t2⟩:=R.ht;obtain⟨ls,l1,l2⟩:=R.hl;obtain⟨ds,d1,d2⟩:=R.hd;exact⟨R.nd,g _ _ R.hs,g _ _ R.hk,aj,ag ne.bc.symm R.hc,⟨ts,ag ne.bt.symm t1,t2.same g⟩,⟨ls,ag ne.bl.symm l1,l2.same g⟩,⟨ds,ag ne.bd.symm d1,d2.same g⟩,λi h=>ag (ne.a i h).1 (R.ha i h),⟨R.ok.num,R.ok.lst,R.ok.len⟩⟩
theorem bp.trace(R:bp A E H r k){p:OW}{us w:List V}(hp:H p=Vf)(ht:H r.t=Ve (.lst us)):bp A E (upd (upd H p (.tup w)) r.t (.lst (us++[.ref p]))) r { k with trace:=k.trace++[w] }:=by
 have R1:=R.same (ao.upd hp (HO.tup w));have pm:=R.free hp;have hp1:(upd H p (.tup w)) p=Ve (.tup w):=aj;have ht1:=ao.upd hp (HO.tup w) _ _ ht;generalize upd H p (.tup w)=H1 at R1 hp1 ht1⊢;have g:=(Go.at (H:=H1) (r.inM E).2.2.1 (.lst (us++[.ref p]))).same;have ne:=R.ne;obtain⟨ts,t1,t2⟩:=R1.ht;obtain⟨ls,l1,l2⟩:=R1.hl;obtain⟨ds,d1,d2⟩:=R1.hd;rw[ht1]at t1;cases t1;exact⟨R.nd,g _ _ R1.hs,g _ _ R1.hk,ag ne.bt R1.hb,ag ne.ct R1.hc,⟨_,aj,Qn (t2.same g) ⟨p,rfl,g _ _ (aQ pm hp1)⟩⟩,⟨ls,ag ne.tl.symm l1,l2.same g⟩,⟨ds,ag ne.td.symm d1,d2.same g⟩,λi h=>ag (ne.a i h).2.2.1 (R1.ha i h),⟨R.ok.num,R.ok.lst,R.ok.len⟩⟩
theorem bp.sD(R:bp A E H r k){p:OW}{us w:List V}(hp:H p=Vf)(ht:H r.l=Ve (.lst us)):bp A E (upd (upd H p (.tup w)) r.l (.lst (us++[.ref p]))) r (k.sD w):=by
 have R1:=R.same (ao.upd hp (HO.tup w));have pm:=R.free hp;have hp1:(upd H p (.tup w)) p=Ve (.tup w):=aj;have ht1:=ao.upd hp (HO.tup w) _ _ ht;generalize upd H p (.tup w)=H1 at R1 hp1 ht1⊢;have g:=(Go.at (H:=H1) (r.inM E).2.2.2.1 (.lst (us++[.ref p]))).same;have ne:=R.ne;obtain⟨ts,t1,t2⟩:=R1.ht;obtain⟨ls,l1,l2⟩:=R1.hl;obtain⟨ds,d1,d2⟩:=R1.hd;rw[ht1]at l1;cases l1;exact⟨R.nd,g _ _ R1.hs,g _ _ R1.hk,ag ne.bl R1.hb,ag ne.cl R1.hc,⟨ts,ag ne.tl t1,t2.same g⟩,⟨_,aj,Qn (l2.same g) ⟨p,rfl,g _ _ (aQ pm hp1)⟩⟩,⟨ds,ag ne.ld.symm d1,d2.same g⟩,λi h=>ag (ne.a i h).2.2.2.1 (R1.ha i h),⟨R.ok.num,R.ok.lst,R.ok.len⟩⟩
theorem bp.sV(R:bp A E H r k){p:OW}{us w:List V}(hp:H p=Vf)(ht:H r.sd=Ve (.lst us)):bp A E (upd (upd H p (.tup w)) r.sd (.lst (us++[.ref p]))) r (k.sV w):=by
 have R1:=R.same (ao.upd hp (HO.tup w));have pm:=R.free hp;have hp1:(upd H p (.tup w)) p=Ve (.tup w):=aj;have ht1:=ao.upd hp (HO.tup w) _ _ ht;generalize upd H p (.tup w)=H1 at R1 hp1 ht1⊢;have g:=(Go.at (H:=H1) (r.inM E).2.2.2.2.1 (.lst (us++[.ref p]))).same;have ne:=R.ne;obtain⟨ts,t1,t2⟩:=R1.ht;obtain⟨ls,l1,l2⟩:=R1.hl;obtain⟨ds,d1,d2⟩:=R1.hd;rw[ht1]at d1;cases d1;exact⟨R.nd,g _ _ R1.hs,g _ _ R1.hk,ag ne.bd R1.hb,ag ne.cd R1.hc,⟨ts,ag ne.td t1,t2.same g⟩,⟨ls,ag ne.ld l1,l2.same g⟩,⟨_,aj,Qn (d2.same g) ⟨p,rfl,g _ _ (aQ pm hp1)⟩⟩,λi h=>ag (ne.a i h).2.2.2.2 (R1.ha i h),⟨R.ok.num,R.ok.lst,R.ok.len⟩⟩
theorem bp.put(R:bp A E H r k)(O:E.Ok)(hx:x∈E.idx)(hz:E.sz x=0)(hv:In v):bp A E (upd H r.c (.dK (Vj (dk E.N E.idx (cV E r.la k.num)) (.inr (E.N x)) (.int v)))) r (k.put x v):=by
 have e:Vj (dk E.N E.idx (cV E r.la k.num)) (.inr (E.N x)) (.int v)=dk E.N E.idx (cV E r.la (k.put x v).num):=by
  rw[zJ O.D O.b hx];refine iP λj _=>?_;unfold o7 cV;show _=if E.sz j=0 then V.int (if j=x then v else k.num j)else _
  by_cases c:j=x
  ·rw[if_pos c,c,if_pos hz,if_pos rfl]
  rw[if_neg c,if_neg c]
 rw[e];have g:=(Go.at (H:=H) (r.inM E).2.1 (.dK (dk E.N E.idx (cV E r.la (k.put x v).num)))).same;have ne:=R.ne;obtain⟨ts,t1,t2⟩:=R.ht;obtain⟨ls,l1,l2⟩:=R.hl;obtain⟨ds,d1,d2⟩:=R.hd;refine⟨R.nd,g _ _ R.hs,g _ _ R.hk,ag ne.bc R.hb,aj,⟨ts,ag ne.ct.symm t1,t2.same g⟩,⟨ls,ag ne.cl.symm l1,l2.same g⟩,⟨ds,ag ne.cd.symm d1,d2.same g⟩,λi h=>ag (ne.a i h).2.1 (R.ha i h),⟨λa=>?_,R.ok.lst,R.ok.len⟩⟩;show In (if a=x then v else k.num a);split
 ·exact hv
 exact R.ok.num a
theorem bp.Ao(R:bp A E H r k){x:Nat}(hx:x∈E.ls)(i:Int){v:Int}(hv:In v):bp A E (upd H (r.la x) (.lst (((k.lst x).map V.int).set (i%((k.lst x).length:Int)).toNat (.int v)))) r (k.Ao x i v):=by
 have g:=(Go.at (H:=H) ((r.inM E).2.2.2.2.2 x hx) (.lst (((k.lst x).map V.int).set (i%((k.lst x).length:Int)).toNat (.int v)))).same;have ne:=R.ne;obtain⟨a1,a2,a3,a4,a5⟩:=ne.a x hx;obtain⟨ts,t1,t2⟩:=R.ht;obtain⟨ls,l1,l2⟩:=R.hl;obtain⟨ds,d1,d2⟩:=R.hd;have el:∀j,(k.Ao x i v).lst j=if j=x then(k.lst x).set (i%((k.lst x).length:Int)).toNat v else k.lst j:=λ_=>rfl
 refine⟨R.nd,g _ _ R.hs,g _ _ R.hk,ag a1.symm R.hb,ag a2.symm R.hc,⟨ts,ag a3.symm t1,t2.same g⟩,⟨ls,ag a4.symm l1,l2.same g⟩,⟨ds,ag a5.symm d1,d2.same g⟩,λj h=>?_,⟨R.ok.num,λj n hn=>?_,λj hj hz=>?_⟩⟩
 ·rw[el];by_cases c:j=x
  ·rw[c,if_pos rfl,aj,List.map_set]
  rw[if_neg c];exact ag (λz=>c (ne.i j h x hx z)) (R.ha j h)
 ·rw[el]at hn;split at hn
  ·rcases List.mem_or_eq_of_mem_set hn with z|z
   ·exact R.ok.lst x n z
   rw[z];exact hv
  exact R.ok.lst j n hn
 rw[el];split
 ·rename_i c;rw[UH];rw[c]at hj hz⊢;exact R.ok.len x hj hz
 exact R.ok.len j hj hz
theorem bp.get(R:bp A E H r k)(O:E.Ok)(hi:i∈E.idx):c9 H r.c (.str (E.N i)) (Ve (cV E r.la k.num i)):=by
 have:=c9.k (k:=.inr (E.N i)) R.hc;rw[rZ O.D O.b hi]at this;exact this
theorem bp.gn(R:bp A E H r k)(O:E.Ok)(hi:i∈E.idx)(hz:E.sz i=0):c9 H r.c (.str (E.N i)) (Ve (.int (k.num i))):=by
 have:=R.get O hi;unfold cV at this;rw[if_pos hz]at this;exact this
theorem bp.gl(R:bp A E H r k)(O:E.Ok){i:Nat}(hi:i∈E.idx)(hz:0<E.sz i):c9 H r.c (.str (E.N i)) (Ve (.ref (r.la i))):=by
 have:=R.get O hi;unfold cV at this;rw[if_neg ()]at this;exact this
theorem vF{i:Nat}(hi:i∈E.idx)(hz:0<E.sz i):i∈E.ls:=MY.mpr ⟨hi,decide_eq_true hz⟩
theorem rY:∀{ds:List Dd}{dv:List V}{i:Nat},(ds.map Dd.nm).Nodup->ds[i]?=Ve D->dv[i]?=Ve v->∃q,(ds.zip dv).find? (λp=>decide (p.1.nm=D.nm))=Ve q/\q.2=v
 | [],_,_,_,h,_=>by cases h
 |_::_,[],_,_,_,h=>by cases h
 |x::ds,y::dv,0,_,h1,h2=>by
  cases h1;cases h2;exact⟨(D,v),by rw[Tz,Na,decide_eq_true rfl],rfl⟩
 |x::ds,y::dv,i+1,nd,h1,h2=>by
  rw[Mv,Mx]at nd;have ne:x.nm≠D.nm:=λz=>nd.1 (by rw[z];exact Mz.mpr ⟨D,Mr (by simpa using h1),rfl⟩);obtain⟨q,e1,e2⟩:=rY (i:=i) nd.2 (by simpa using h1) (by simpa using h2);exact⟨q,by rw[Tz,Na,decide_eq_false ne];exact e1,e2⟩
theorem bp.hW(R:bp A E H r k)(O:E.Ok){i:Nat}{D:Dd}{v:V}(h1:E.ds[i]?=Ve D)(h2:E.dv[i]?=Ve v):c9 H r.d (.str (E.N D.nm)) (Ve v):=by
 have:=c9.k (k:=.inr (E.N D.nm)) (aC _ _ R.hk);rw[rZ O.D (λj hj=>by obtain⟨d,hd,rfl⟩:=Mz.mp hj;exact O.dn d hd) (Mz.mpr ⟨D,Mr h1,rfl⟩)]at this;obtain⟨q,e1,e2⟩:=rY O.dd h1 h2;unfold dG at this;rw[e1]at this;dsimp only at this;rw[e2]at this;exact this
inductive uK(vs:List V)(H:Hp)(Q:VK)(Z:XK):Prop
 |mk(a b:Int)(x:Str):vs=[.int a,.str x,.int b]->0<=a->a<1000000000000->0<=b->b<1000000000000->Q (.int (rkn a b x)) H->uK vs H Q Z
theorem xX(T:Txt K mg A):T.reckon.Hz P w base 1 uK:=by
 refine T.reckon.hs BR (λf cdv A outer s H vs Q E hr hu h=>?_);obtain⟨a,b,x,rfl,a0,a1,b0,b1,q⟩:=h;refine⟨_,(ab (aP (ptc (bh hu) (fv 1) ak)
  (ah (aA (ax cF (ax bo (fv 0) (fv 2)) (qY T.rh))))
  aD)
 (ab (aP (ptc (bh hu) (fv 1) ak)
  (ah (aA (ax cF (ax pP (fv 0) (fv 2)) (qY T.rh))))
  aD)
 (ab (aP (ptc (bh hu) (fv 1) ak)
  (ah (aA (ax cF (ax dw (fv 0) (fv 2)) (qY T.rh))))
  aD)
 (ab (aP (ptc (bh hu) (fv 1) ak)
  (ah (aA (fG (ptc (bh hu) (fv 2) ae) ae (ax eJ (fv 0) (fv 2)))))
  aD)
 (ab (aP (ptc (bh hu) (fv 1) ak)
  (ah (aA (fG (ptc (bh hu) (fv 2) ae) (fv 0) (ax cF (fv 0) (fv 2)))))
  aD)
 (ab (aP (ptc (bh hu) (fv 1) ak)
  (ah (aA (fG (ptc wM (fv 0) (fv 2)) ae ae)))
  aD)
 (ah (aA (fG (ptc (bh hu) (fv 0) (fv 2)) ae ae))))))))),?_⟩
 unfold rkn at q;refine⟨rfl,_,rfl,ba (λc=>?_) (λc=>?_)⟩
 ·rw[if_pos c]at q;exact⟨(by show(0:Int)<1000000000000;decide),q⟩
 rw[if_neg c]at q;refine⟨rfl,_,rfl,ba (λc=>?_) (λc=>?_)⟩
 ·rw[if_pos c]at q;exact⟨(by show(0:Int)<1000000000000;decide),q⟩
 rw[if_neg c]at q;refine⟨rfl,_,rfl,ba (λc=>?_) (λc=>?_)⟩
 ·rw[if_pos c]at q;exact⟨.inl ⟨(),()⟩,(by show(0:Int)<1000000000000;decide),q⟩
 rw[if_neg c]at q;refine⟨rfl,_,rfl,ba (λc=>?_) (λc=>?_)⟩
 ·rw[if_pos c]at q;refine⟨rfl,_,rfl,ba (λd=>?_) (λd=>?_)⟩
  ·rw[if_pos d]at q;exact q
  rw[if_neg d]at q;have hb:b≠0:=λz=>d (by rw[z];rfl);exact⟨⟨(),()⟩,q⟩
 rw[if_neg c]at q;refine⟨rfl,_,rfl,ba (λc=>?_) (λc=>?_)⟩
 ·rw[if_pos c]at q;refine⟨rfl,_,rfl,ba (λd=>?_) (λd=>?_)⟩
  ·rw[if_pos d]at q;exact q
  rw[if_neg d]at q;have hb:b≠0:=λz=>d (by rw[z];rfl);exact⟨(),q⟩
 rw[if_neg c]at q;refine⟨rfl,_,rfl,ba (λc=>?_) (λc=>?_)⟩
 ·rw[if_pos c]at q;refine⟨_,rfl,ba (λd=>?_) (λd=>?_)⟩
  ·rw[if_pos d]at q;exact q
  rw[if_neg d]at q;exact q
 rw[if_neg c]at q;refine⟨rfl,_,rfl,ba (λd=>?_) (λd=>?_)⟩
 ·rw[if_pos d]at q;exact q
 rw[if_neg d]at q;exact q
inductive xC(vs:List V)(H:Hp)(Q:VK)(Z:XK):Prop
 |mk(a:Int):vs=[.int a]->In a->Q (.bl true) H->xC vs H Q Z
theorem Fv(T:Txt K mg A):T.p6.Hz P w base 1 xC:=by
 refine T.p6.hs vT (λf cdv A outer s H vs Q E hr hu h=>?_);obtain⟨a,rfl,ha,q⟩:=h;refine⟨_,(ab (aP (PW.pt (pw_or (bR (pcB bD T.aH (fv 0^(iw (v:=.ty "bool") rfl T.rS (by boot_by_name) rfl)^af)) (λ_=>rfl)) (pw_or1 (xp (bR (pcB bD T.aH (fv 0^(iw (v:=.ty "int") rfl T.oe (by boot_by_name) rfl)^af)) (λ_=>rfl))))))
  (ah (aA lL))
  aD)
 (ah (aA (DH zp zp ae (fv 0) (qY T.nQ))))),?_⟩
 refine⟨_,_,_,false,rfl,(λz=>by cases z),.int a,EN,false,rfl,bu ⟨_,_,_,true,rfl,(λz=>by cases z),.int a,HK,true,rfl,bu ⟨_,rfl,ba (λc=>?_) (λc=>absurd (decide_eq_true ha.1) c)⟩⟩⟩;have e:decide (a<=999999999999)=true:=decide_eq_true (by have:=ha.2;omega);show Q (.bl (decide (a<=999999999999))) H;rw[e];exact q
def Cf:Sp:=λvs H Q _=>(∃a:Int,vs=[.int a,.int 0]/\In a/\Q (.bl true) H)\/
 ∃(p:OW)(rs:List Int),vs=[.ref p,.int rs.length]/\0<rs.length/\rs.length<=1000/\H p=Ve (.lst (rs.map V.int))/\(∀a∈rs,In a)/\∀H',ao H H'->Q (.bl true) H'
theorem Es(T:Txt K mg A):Has P w K mg base 2 "is_good" ["gift","size"] Cf:=by
 have N4:=@Fv P w _ _ base _ T;refine T.Br.hs Am (λf cdv A outer s H vs Q E hr hu h=>?_) (λvs H Q E h=>by rcases h with⟨a,rfl,_⟩|⟨p,rs,rfl,_⟩<;>rfl);rcases h with⟨a,rfl,ha,q⟩|⟨p,rs,rfl,hn,hl,hS,hb,q⟩
 ·refine⟨_,(ab (aP (ptc (bh hu) (fv 1) ae)
  (ah (aA (ar N4 hr (fv 0^af))))
  aD)
 (ah (aA (oG (pcB bD T.aH (fv 0^(iw (v:=.ty "list") rfl T.dY (by boot_by_name) rfl)^af)) (oG (pec (bh hu) (pcB bQ T.cB (fv 0^af)) (fv 1)) (sg (pcB GG T.yt ((gJ (N:=["thing"]) (own:=1) (fr:=[]) (cG.of (by kernel_rfl!)) rfl (cA (fv 0)) (λb=>pgn (i:=0) (show PC (["thing"]:List PU) by decide+kernel) rfl) (λb=>oI) (λb=>ar N4 hr (fv 0^af)))^af)))))))),?_⟩
  refine⟨rfl,_,rfl,ba (λc=>?_) (λc=>absurd rfl c)⟩
  exact⟨a,rfl,ha,q⟩
 ·refine⟨_,(ab (aP (ptc (bh hu) (fv 1) ae)
  (ah (aA (ar N4 hr (fv 0^af))))
  aD)
 (ah (aA (oG (pcB bD T.aH (fv 0^(iw (v:=.ty "list") rfl T.dY (by boot_by_name) rfl)^af)) (oG (pec (bh hu) (pcB bQ T.cB (fv 0^af)) (fv 1)) (sg (pcB GG T.yt ((gJ (N:=["thing"]) (own:=1) (fr:=[]) (cG.of (by kernel_rfl!)) rfl (cA (fv 0)) (λb=>pgn (i:=0) (show PC (["thing"]:List PU) by decide+kernel) rfl) (λb=>oI) (λb=>ar N4 hr (fv 0^af)))^af)))))))),?_⟩
  refine⟨rfl,_,rfl,ba (λc=>absurd c ?_) (λc=>?_)⟩
  ·rw[qq,decide_eq_true_iff];omega
  refine⟨_,_,_,true,rfl,(λz=>by cases z),.lst hS,HA,_,rfl,dz (lnl hS ⟨rfl,_,rfl,ba (λc2=>?_) (λc2=>absurd ?_ c2)⟩)⟩
  ·refine Mt ⟨⟨_,SqL.of hS⟩,fA (K:=K) (λ_=>true) (λ_=>.bl true) (SqL.of hS) (by rw[Mj];exact ay hl) (λb x H2 R _ _ k=>k _ (ao.refl _)) (λb x H2 R hx _ s2 k=>?_) (λD H2 hD s2 e=>?_)⟩
   ·obtain⟨a,ha,rfl⟩:=Mz.mp hx;exact⟨a,rfl,hb a ha,k _ (ao.refl _)⟩
   rw[mH,NV]at e;refine⟨D,rs.map (λ_=>true),rfl,SqL.of (by rw[e,NV];rfl),?_⟩;have:(rs.map (λ_=>true)).all id=true:=by simp
   rw[this];exact q _ s2
  rw[qq,Mj,decide_eq_true_iff]
inductive xG(vs:List V)(H:Hp)(Q:VK)(Z:XK):Prop
 |mk(a:Int)(n:Nat):vs=[.int a,.int n]->In a->0<n->n<=1000->Q (.int (a%(n:Int))) H->xG vs H Q Z
theorem Bv(T:Txt K mg A):T.mR.Hz P w base 2 xG:=by
 refine T.mR.hs r9 (λf cdv A outer s H vs Q E hr hu h=>?_);obtain⟨a,n,rfl,ha,h0,h1,q⟩:=h;exact⟨_,(ah (aA (ar (xX T) hr (fv 0^ak^fv 1^af)))),⟨a,n,_,rfl,ha.1,ha.2,(),(),by rw[CM h0];exact q⟩⟩
inductive GB(A:Adr)(E:En)(vs:List V)(H:Hp)(Q:VK)(Z:XK):Prop
 |mk(r:Ra)(k:S)(t:Th):vs=[.ref r.s,t.v E.N]->bp A E H r k->t.okE E->Q (.int (t.num k)) H->GB A E vs H Q Z
theorem Gk(T:Txt K mg A)(O:E.Ok):T.hU.Hz P w mg base 1 (GB A E):=by
 refine T.hU.hs (k:=0) qy (λf cdv A' outer s' H vs Q E' hr hu h=>?_);obtain⟨r,k,t,rfl,R,ht,q⟩:=h;refine⟨_,(ah (aA (fG (bR (pcB bD T.aH (fv 1^(iw (v:=.ty "str") rfl T.xx (by boot_by_name) rfl)^af)) (λ_=>rfl)) (px hu (aI (fv 0) rfl) (fv 1)) (fv 1)))),?_⟩;cases t with
 |i n=>exact⟨_,_,_,false,rfl,(λz=>by cases z),.int n,Dk,false,rfl,bu q⟩
 |x a=>exact⟨_,_,_,true,rfl,(λz=>by cases z),.str _,Dn,true,rfl,dz (fdI R.s T.bV.cl T.dg rfl ⟨_,R.gn O ht.1 ht.2,q⟩)⟩
theorem Jw{xs:List Int}(h:0<xs.length)(i:Int):atI (xs.map V.int) (i%(xs.length:Int))=Ve (.int (lat xs i)):=by
 obtain⟨m0,m1⟩:=cK i (show(0:Int)<(xs.length:Int) by omega);obtain⟨x,_,e1,e2⟩:=mz V.int m0 m1;rw[e2];unfold lat;rw[MQ,e1];rfl
inductive DR(A:Adr)(E:En)(vs:List V)(H:Hp)(Q:VK)(Z:XK):Prop
 |mk(r:Ra)(k:S)(p:OW)(val:Val):vs=[.ref r.s,.ref p]->bp A E H r k->H p=Ve (.tup (vV E.N val))->val.okE E->Q (.int (val.num k)) H->DR A E vs H Q Z
theorem A6(T:Txt K mg A)(O:E.Ok):T.fZ.Hz P w mg base 3 (DR A E):=by
 have N6:=Gk (P:=P) (w:=w) (base:=base) T O;refine T.fZ.hs (k:=2) fC (λf cdv A' outer s' H vs Q E' hr hu h=>?_);obtain⟨r,k,p,val,rfl,R,hp,vo,q⟩:=h;have hT:SqT K H p (vV E.N val):=SqT.of hp;refine⟨_,(ab (aP (ptc (bh hu) (pcB bQ T.cB (fv 1^af)) ae)
  (ah (aA (bC (fv 0) T.bV.cl N6 hr (px hu (fv 1) ae^af))))
  aD)
 (ab (pst 2 fC.nd (bC (fv 0) T.bV.cl N6 hr (px hu (fv 1) ae^af)))
 (ab (aP (ptc (bh hu) (px hu (fv 1) ae) ak)
  (ab (pst 3 fC.nd (px hu (aI (fv 0) rfl) (px hu (fv 1) ae)))
  (ah (aA (px hu (fv 3) (ar (Bv T) hr (fv 2^pcB bQ T.cB (fv 3^af)^af))))))
  aD)
 (ah (aA (ar (xX T) hr (bC (fv 0) T.bV.cl N6 hr (px hu (fv 1) ae^af)^px hu (fv 1) ae^fv 2^af))))))),?_⟩
 refine Mt ⟨_,_,rfl,MJ ⟨_,hT,rfl⟩,rfl,_,rfl,?_⟩;cases val with
 |one a=>
  refine ba (λb=>?_) (λb=>absurd rfl b);exact⟨r.s,r.ds,_,rfl,R.s,rfl,Mt ⟨_,_,MJ hT,rfl,r,k,a,rfl,R,vo,q⟩⟩
 |op a x i=>
  exact ba (λb=>absurd b (by show ¬ decide (V.int 3=V.int 1)=true;decide)) (λb=>⟨r.s,r.ds,_,rfl,R.s,rfl,Mt ⟨_,_,MJ hT,rfl,r,k,i,rfl,R,vo.2.1,Mt ⟨_,_,MJ hT,rfl,rfl,_,rfl,ba (λb=>absurd (of_decide_eq_true b) (λz=>J0 vo.2.2 (V.str.inj z))) (λb=>⟨r.s,r.ds,_,rfl,R.s,rfl,Mt ⟨_,_,MJ hT,rfl,r,k,a,rfl,R,vo.1,Mt ⟨_,_,MJ hT,rfl,_,_,_,rfl,(Th.fm R.ok vo.1).1,(Th.fm R.ok vo.1).2,(Th.fm R.ok vo.2.1).1,(Th.fm R.ok vo.2.1).2,q⟩⟩⟩)⟩⟩⟩)
 |atl l i=>
  obtain⟨v1,v2,v3⟩:=vo;have ln:=R.ok.len l v1 v2;have lz:=O.z l;refine ba (λb=>absurd b (by show ¬ decide (V.int 3=V.int 1)=true;decide)) (λb=>⟨r.s,r.ds,_,rfl,R.s,rfl,Mt ⟨_,_,MJ hT,rfl,r,k,i,rfl,R,v3,Mt ⟨_,_,MJ hT,rfl,rfl,_,rfl,ba (λb=>?_) (λb=>absurd (show decide (V.str "at"=V.str "at")=true by decide) b)⟩⟩⟩);refine fdI R.s T.bV.cl T.dg rfl (Mt ⟨_,_,MJ hT,rfl,_,R.gl O v1 v2,?_⟩);have hL:=SqL.of (K:=K) (R.ha l (vF v1 v2));exact Mt ⟨_,_,rfl,Mt ⟨_,hL,rfl⟩,_,(k.lst l).length,by rw[Mj];rfl,Th.fm R.ok v3,(),(),lix hL (Jw () _) q⟩
inductive wW(K:OZ)(A:Adr)(E:En)(vs:List V)(H:Hp)(Q:VK)(Z:XK):Prop
 |mk(r:Ra)(k:S)(a:OW):vs=[.ref r.s,.ref a]->bp A E H r k->((∃(dx p:OW)(n h:V)(val:Val),val.okE E/\H a=Ve (.ins A.bL dx [("number",n),("name",h),("value",.ref p)])/\H p=Ve (.tup (vV E.N val))/\Q (.int (val.num k)) H)\/(∃(dx p:OW)(n x m:V)(val:Val),val.okE E/\H a=Ve (.ins A.cm dx [("number",n),("name",x),("value",.ref p),("mark",m)])/\H p=Ve (.tup (vV E.N val))/\Q (.int (val.num k)) H)\/(∃C:OW,lU K H (.ref a) (.ref C)/\PL K (.ref C) (.ref A.bL)=Ve false/\PL K (.ref C) (.ref A.cm)=Ve false/\Q .non H))->wW K A E vs H Q Z
theorem IH(T:Txt K mg A)(O:E.Ok):T.fD.Hz P w mg base 4 (wW K A E):=by
 refine T.fD.hs (k:=3) oE (λf cdv A' outer s' H vs Q E' hr hu h=>?_);obtain⟨r,k,a,rfl,R,h⟩:=h;refine⟨_,(ab (aP (PW.pt (pw_or (bR (pcB bD T.aH (fv 1^cU T.aU.mg^af)) (λ_=>rfl)) (pw_or1 (bR (pcB bD T.aH (fv 1^cU T.aX.mg^af)) (λ_=>rfl)))))
  (ah (aA (bC (fv 0) T.bV.cl (A6 T O) hr (aI (fv 1) rfl^af))))
  aD)
 (ah (aA dF))),?_⟩
 rcases h with⟨dx,p,n,hh,val,vo,ha,hp,q⟩|⟨dx,p,n,x,m,val,vo,ha,hp,q⟩|⟨C,ty,k1,k2,q⟩
 ·exact isB (T.aU.bP ha) (nN T.aU) (dz ⟨r.s,r.ds,_,rfl,R.s,rfl,fdI ha T.aU.cl T.gX rfl ⟨r,k,p,val,rfl,R,hp,vo,q⟩⟩)
 ·exact isB (T.aX.bP ha) (bZ T.aX T.aU (au T 7 8) (au T 7 0)) (bu (isB (T.aX.bP ha) (nN T.aX) (dz ⟨r.s,r.ds,_,rfl,R.s,rfl,fdI ha T.aX.cl T.iX rfl ⟨r,k,p,val,rfl,R,hp,vo,q⟩⟩)))
 exact⟨_,_,_,false,rfl,(λz=>by cases z),ty,k1,false,rfl,bu ⟨_,_,_,false,rfl,(λz=>by cases z),ty,k2,false,rfl,bu q⟩⟩
inductive Ay(A:Adr)(E:En)(vs:List V)(H:Hp)(Q:VK)(Z:XK):Prop
 |mk(r:Ra)(n:Int)(k:S):vs=[.ref r.s,.int n]->bp A E H r k->(∀H',Go (r.M E) H (r.M E) H'->bp A E H' r (k.idle n)->Q .non H')->Ay A E vs H Q Z
theorem zB(T:Txt K mg A):T.fU.Hz P w mg base 1 (Ay A E):=by
 refine T.fU.hs (k:=0) jy (λf cdv A' outer s' H vs Q E' hr hu h=>?_);obtain⟨r,n,k,rfl,R,q⟩:=h;refine⟨_,(ab (pst 2 jy.nd (aI (fv 0) rfl))
 (ah (BO (fv 2) (fv 1) Js))),?_⟩
 exact fdI R.s T.bV.cl T.ja rfl ⟨r.b,_,r.db,_,_,rfl,R.hb,T.fQ.cl,T.eO,rfl,_,_,rfl,rfl,r.db,_,R.hb,by simp[rK],q _ (Go.at (r.inM E).1 _) (R.steps (k.steps+n))⟩
theorem HE{xs:List Int}(h:0<xs.length)(i:Int):ixN (xs.map V.int).length (i%(xs.length:Int))=Ve (i%(xs.length:Int)).toNat:=by
 obtain⟨m0,m1⟩:=cK i (show(0:Int)<(xs.length:Int) by omega);unfold ixN;rw[if_pos m0,Mj,if_pos m1]
inductive yM(A:Adr)(E:En)(vs:List V)(H:Hp)(Q:VK)(Z:XK):Prop
 |mk(r:Ra)(k:S)(n:V)(x:Nat)(t:Th)(val:Val)(a dx p:OW):vs=[.ref r.s,.ref a]->bp A E H r k->x∈E.idx->0<E.sz x->t.okE E->val.okE E->H a=Ve (.ins A.cM dx [("number",n),("name",.str (E.N x)),("place",t.v E.N),("value",.ref p)])->H p=Ve (.tup (vV E.N val))->(∀H',bp A E H' r (k.Ao x (t.num k) (val.num k))->Go (r.M E) H (r.M E) H'->Q .non H')->yM A E vs H Q Z
theorem Gw(T:Txt K mg A)(O:E.Ok):T.kL.Hz P w mg base 4 (yM A E):=by
 refine T.kL.hs (k:=3) nY (λf cdv A' outer s' H vs Q E' hr hu h=>?_);obtain⟨r,k,n,x,t,val,a,dx,p,rfl,R,hx,hz,to,vo,ha,hp,q⟩:=h;have ln:=R.ok.len x hx hz;have lz:=O.z x;refine⟨_,(ab (pst 2 nY.nd (px hu (aI (fv 0) rfl) (aI (fv 1) rfl)))
 (ah (bA (bC (fv 0) T.bV.cl (A6 T O) hr (aI (fv 1) rfl^af)) (bz (fv 2) (ar (Bv T) hr (bC (fv 0) T.bV.cl (Gk T O) hr (aI (fv 1) rfl^af)^pcB bQ T.cB (fv 2^af)^af)) (bB hu Vi))))),?_⟩
 refine fdI R.s T.bV.cl T.dg rfl (fdI ha T.bJ.cl T.jC rfl ⟨_,R.gl O hx hz,⟨r.s,r.ds,_,rfl,R.s,rfl,fdI ha T.bJ.cl T.iC rfl ⟨r,k,p,val,rfl,R,hp,vo,⟨r.s,r.ds,_,rfl,R.s,rfl,fdI ha T.bJ.cl T.jg rfl ⟨r,k,t,rfl,R,to,?_⟩⟩⟩⟩⟩);have hL:=R.ha x (vF hx hz);exact lnl hL ⟨_,(k.lst x).length,by rw[Mj];rfl,Th.fm R.ok to,(),(),Mt ⟨_,_,hL,HE () _,q _ (R.Ao (vF hx hz) (t.num k) (Val.fm R.ok vo)) (Go.at ((r.inM E).2.2.2.2.2 x (vF hx hz)) _)⟩⟩
noncomputable def Rw.no:Rw->Int
 | .set n _ _=>n
 | .put n _ _ _=>n
 | .snd n _ _=>n
 | .say n _ _ _=>n
 | .last n=>n
 | .call n _ _=>n
 | .iff n _ _ _ _ _=>n
 | .loop n _ _ _ _ _=>n
noncomputable def Rw.told(s:S):Rw->V
 | .snd _ _ v=>.int (v.num s)
 | .say _ _ v _=>.int (v.num s)
 |_=>.non
noncomputable def Rw.cl(A:Adr):Rw->OW
 | .set _ _ _=>A.cY
 | .put _ _ _ _=>A.cM
 | .snd _ _ _=>A.bL
 | .say _ _ _ _=>A.cm
 | .last _=>A.cS
 | .call _ _ _=>A.cD
 | .iff _ _ _ _ _ _=>A.dP
 | .loop _ _ _ _ _ _=>A.bN
theorem EY(h:eB A E X d v rw):∃a dx fs,v=.ref a/\X a=Ve (.ins (rw.cl A) dx (("number",.int rw.no)::fs)):=by
 cases rw with
 |set n x val=>cases d<;>(obtain⟨a,dx,p,e,h1,h2⟩:=h;exact⟨a,dx,_,e,h1⟩)
 |put n x pl val=>cases d<;>(obtain⟨a,dx,p,e,h1,h2⟩:=h;exact⟨a,dx,_,e,h1⟩)
 |snd n x val=>cases d<;>(obtain⟨a,dx,p,e,h1,h2⟩:=h;exact⟨a,dx,_,e,h1⟩)
 |say n x val m=>cases d<;>(obtain⟨a,dx,p,e,h1,h2⟩:=h;exact⟨a,dx,_,e,h1⟩)
 |last n=>cases d<;>(obtain⟨a,dx,e,h1⟩:=h;exact⟨a,dx,_,e,h1⟩)
 |call n i ts=>
  cases d with
  |zero=>exact h.elim
  |succ d=>obtain⟨a,dx,p,D,e,h0,h1,_⟩:=h;exact⟨a,dx,_,e,h1⟩
 |iff n val f o l r=>
  cases d with
  |zero=>exact h.elim
  |succ d=>obtain⟨a,dx,p,pf,po,xf,xo,e,h1,_⟩:=h;exact⟨a,dx,_,e,h1⟩
 |loop n t m b l r=>
  cases d with
  |zero=>exact h.elim
  |succ d=>obtain⟨a,dx,pb,xb,e,h1,_⟩:=h;exact⟨a,dx,_,e,h1⟩
theorem Kq(T:Txt K mg A)(rw:Rw):Cls K (rw.cl A)/\aJ K (rw.cl A) "number":=by
 cases rw with
 |set n x val=>exact⟨T.bW.cl,T.hJ⟩
 |put n x pl val=>exact⟨T.bJ.cl,T.ic⟩
 |snd n x val=>exact⟨T.aU.cl,T.eK⟩
 |say n x val m=>exact⟨T.aX.cl,T.fh⟩
 |last n=>exact⟨T.aW.cl,T.gw⟩
 |call n i ts=>exact⟨T.bg.cl,T.gC⟩
 |iff n val f o l r=>exact⟨T.bO.cl,T.iZ⟩
 |loop n t m b l r=>exact⟨T.aV.cl,T.fX⟩
theorem Fl(T:Txt K mg A)(h:eB A E X d (.ref a) rw)(wf:Wf E d rw)(s:ao X H)(R:bp A E H r k)(q:Q (rw.told k) H):wW K A E (.ref r.s::([.ref a]++[])) H Q E0:=by
 refine⟨r,k,a,rfl,R,?_⟩;have no:∀{C D:OW}{x:Str}{up:List OW},eY K mg C x up->(∃dx fs,X a=Ve (.ins C dx fs))->PL K (.ref C) (.ref A.bL)=Ve false->PL K (.ref C) (.ref A.cm)=Ve false->rw.told k=.non->∃C:OW,lU K H (.ref a) (.ref C)/\PL K (.ref C) (.ref A.bL)=Ve false/\PL K (.ref C) (.ref A.cm)=Ve false/\Q .non H:=λ{C D x up} o ⟨dx,fs,e⟩ k1 k2 z=>⟨C,o.bP (s _ _ e),k1,k2,by rw[z]at q;exact q⟩;obtain⟨a',dx,fs,ea,h1⟩:=EY h;cases ea;cases rw with
 |set n x val=>exact MJ (MJ (no (D:=a) T.bW ⟨_,_,h1⟩ (bZ T.bW T.aU (au T 7 5) (au T 7 0)) (bZ T.bW T.aX (au T 8 5) (au T 8 0)) rfl))
 |put n x pl val=>exact MJ (MJ (no (D:=a) T.bJ ⟨_,_,h1⟩ (bZ T.bJ T.aU (au T 7 6) (au T 7 0)) (bZ T.bJ T.aX (au T 8 6) (au T 8 0)) rfl))
 |snd n x val=>
  obtain⟨a',dx,p,ea,h1,h2⟩:∃a' dx p,V.ref a=.ref a'/\X a'=Ve (.ins A.bL dx [("number",.int n),("name",.str (E.N x)),("value",.ref p)])/\X p=Ve (.tup (vV E.N val)):=by cases d<;>exact h
  cases ea;have vo:val.okE E:=by cases d<;>exact wf.1
  exact Mt ⟨dx,p,_,_,val,vo,s _ _ h1,s _ _ h2,q⟩
 |say n x val m=>
  obtain⟨a',dx,p,ea,h1,h2⟩:∃a' dx p,V.ref a=.ref a'/\X a'=Ve (.ins A.cm dx [("number",.int n),("name",.str (E.N x)),("value",.ref p),("mark",.str (E.N m))])/\X p=Ve (.tup (vV E.N val)):=by cases d<;>exact h
  cases ea;have vo:x∈E.idx/\E.sz x=0/\val.okE E:=by cases d<;>exact wf
  exact MJ (Mt ⟨dx,p,_,_,_,val,vo.2.2,s _ _ h1,s _ _ h2,q⟩)
 |last n=>exact MJ (MJ (no (D:=a) T.aW ⟨_,_,h1⟩ (bZ T.aW T.aU (au T 7 10) (au T 7 0)) (bZ T.aW T.aX (au T 8 10) (au T 8 0)) rfl))
 |call n i ts=>exact MJ (MJ (no (D:=a) T.bg ⟨_,_,h1⟩ (bZ T.bg T.aU (au T 7 9) (au T 7 0)) (bZ T.bg T.aX (au T 8 9) (au T 8 0)) rfl))
 |iff n val f o l r=>exact MJ (MJ (no (D:=a) T.bO ⟨_,_,h1⟩ (bZ T.bO T.aU (au T 7 11) (au T 7 0)) (bZ T.bO T.aX (au T 8 11) (au T 8 0)) rfl))
 |loop n t m b l r=>exact MJ (MJ (no (D:=a) T.aV ⟨_,_,h1⟩ (bZ T.aV T.aU (au T 7 12) (au T 7 0)) (bZ T.aV T.aX (au T 8 12) (au T 8 0)) rfl))
noncomputable abbrev BIG:Int:=1000000
def VG(A:Adr)(E:En)(H:Hp)(r:Ra)(k:S)(v:V)(Q:VK):Prop:=∀H',Go (r.M E) H (r.M E) H'->bp A E H' r k->Q v H'
inductive sA(A:Adr)(E:En)(f:Nat)(vs:List V)(H:Hp)(Q:VK)(Z:XK):Prop
 |mk(r:Ra)(k:S)(v:V)(rw:Rw):vs=[.ref r.s,v]->bp A E H r k->eB A E (del (r.M E) H) f v rw->Wf E f rw->k.room BIG (aT E f rw)->VG A E H r (doR E f k rw).1 (.bl (doR E f k rw).2) Q->sA A E f vs H Q Z
inductive nG(A:Adr)(E:En)(f:Nat)(vs:List V)(H:Hp)(Q:VK)(Z:XK):Prop
 |mk(r:Ra)(k:S)(q:OW)(xs:List V)(rows:List Rw):vs=[.ref r.s,.ref q]->bp A E H r k->del (r.M E) H q=Ve (.lst xs)->Paired (eB A E (del (r.M E) H) f) xs rows->(∀rw∈rows,Wf E f rw)->k.room BIG ((rows.map (aT E f)).sum)->VG A E H r (bU (doR E f) k rows).1 (.bl (bU (doR E f) k rows).2) Q->nG A E f vs H Q Z
def lq(A:Adr)(E:En):Nat->Sp
 |0=>λ_ _ _ _=>False
 |f+1=>nG A E f
def nA(A:Adr)(E:En)(P:Rw->Prop)(G:Nat->S->Rw->S×V):Nat->Sp
 |0=>λ_ _ _ _=>False
 |f+1=>λvs H Q _=>∃(r:Ra)(k:S)(a:OW)(rw:Rw),P rw/\vs=[.ref r.s,.ref a]/\bp A E H r k/\eB A E (del (r.M E) H) (f+1) (.ref a) rw/\Wf E (f+1) rw/\k.room BIG (aT E (f+1) rw-1)/\VG A E H r (G f k rw).1 (G f k rw).2 Q
noncomputable def JH:Rw->Prop
 | .iff _ _ _ _ _ _=>True
 |_=>False
noncomputable def Eo:Rw->Prop
 | .loop _ _ _ _ _ _=>True
 |_=>False
noncomputable def DG:Rw->Prop
 | .call _ _ _=>True
 |_=>False
noncomputable def gIf(E:En)(d:Nat)(s:S):Rw->S×V
 | .iff _ v f o l r=>if v.num s≠0 then((bU (doR E d) s f).1.idle l,.bl (bU (doR E d) s f).2)else((bU (doR E d) s o).1.idle r,.bl (bU (doR E d) s o).2)
 |_=>(s,.non)
noncomputable def yE(E:En)(d:Nat)(s:S):Rw->S×V
 | .loop _ t m b l r=>((Vm (λs=>bU (doR E d) s b) l (Vs s t m).toNat 0 s).1.idle (r*(m-(Vm (λs=>bU (doR E d) s b) l (Vs s t m).toNat 0 s).2)),.non)
 |_=>(s,.non)
noncomputable def sW(E:En)(d:Nat)(s:S):Rw->S×V
 | .call _ i ts=>match E.ds[i]? with
  |some D=>((bU (doR E d) (s.yr (D.parts.zip (ts.map (Th.num s)))) D.body).1,.non)
  |none=>(s,.non)
 |_=>(s,.non)
theorem zO{f:S->Rw->S×Bool}{p:S×Bool}{xs:List Rw}{i:Nat}{x:Rw}(h:xs[i]?=Ve x):(xs.take (i+1)).foldl (step f) p=step f ((xs.take i).foldl (step f) p) x:=uY _ _ h
theorem rE{α:Type}{xs:List α}{i:Nat}{x:α}(h:xs[i]?=Ve x):xs.drop i=x::xs.drop (i+1):=by
 obtain⟨hi,e⟩:=Ml.mp h;rw[NH hi,e]
theorem yU(T:Txt K mg A)(D:kh P w K mg base j A.Run "do_row" ["self","row"] (sA A E f)):T.gK.Hz P w mg base (j+1) (nG A E f):=by
 have OU:=D;refine T.gK.hs (k:=j) d9 (λf' cdv A' outer s' H vs Q E' hr hu h=>?_);obtain⟨r,k,q,xs,rows,rfl,R,hq,pr,wf,rm,g⟩:=h;refine⟨_,(ab (pst 2 d9.nd lL)
 (ab (cR O9 rfl (cA (fv 1)) (pgn (i:=3) d9.nd rfl)
  (ah (aP (bR (bC (hj:=by omega) (fv 0) T.bV.cl OU hr (fv 3^af)) (λ_=>rfl))
   (ah (pst 2 d9.nd lL))
   aD)))
 (ah (aA (fv 2))))),?_⟩
 refine Mt ⟨⟨_,SqL.of (aC _ _ hq)⟩,dI (K:=K) (xs:=xs) (λi σ H2=>Go (r.M E) H (r.M E) H2/\bp A E H2 r ((rows.take i).foldl (step (doR E f)) (k,false)).1/\((rows.take i).foldl (step (doR E f)) (k,false)).1.room BIG (((rows.drop i).map (aT E f)).sum)/\
  ∃v,σ=[Ve (.ref r.s),Ve (.ref q),Ve (.bl ((rows.take i).foldl (step (doR E f)) (k,false)).2),v]) ⟨Go.refl _ _,R,rm,Vf,rfl⟩ (λi σ H2 _ h=>SqL.of (aC _ _ (h.1.same _ _ hq))) ?_ ?_⟩
 ·rintro i v σ H2 hx ⟨g2,R2,rm2,z,rfl⟩;obtain⟨rw,hrw,W⟩:=bb pr hx;rw[zO hrw];rw[rE hrw,Mv,NG]at rm2;generalize (rows.take i).foldl (step (doR E f)) (k,false)=p at R2 rm2⊢;have wr:=wf rw (Mr hrw);have nn:=qj E (d:=f) (xs:=rows.drop (i+1)) λq hq=>wf q (SD hq);refine⟨r.s,r.ds,_,rfl,R2.s,rfl,r,p.1,v,rw,rfl,R2,W.same g2.same,wr,rm2.le (),λH3 g3 R3=>⟨_,rfl,?_⟩⟩;have rm3:=sL E f p.1 rw _ wr rm2;show if(doR E f p.1 rw).2=true then _ else _
  unfold step;cases hb:(doR E f p.1 rw).2 with
  |true=>
   refine dz ⟨g2.trans g3,R3,rm3,Ve v,?_⟩;rw[Bool.or_true];rfl
  |false=>
   refine bu ⟨g2.trans g3,R3,rm3,Ve v,?_⟩;rw[Bool.or_false];rfl
 rintro σ H2 ⟨g2,R2,rm2,z,rfl⟩;have hl:xs.length=rows.length:=O3 pr;rw[hl,Nc]at R2⊢;exact g H2 g2 R2
theorem vC(k:S)(n:Int)(v:V):Th.num (k.tell n v)=Th.num k:=by
 funext a
 cases a<;>rfl
theorem pB(k:S)(n:Int)(v:V)(val:Val):val.num (k.tell n v)=val.num k:=by
 cases val with
 |one a=>cases a<;>rfl
 |op a w b=>cases a<;>cases b<;>rfl
 |atl x b=>cases b<;>rfl
theorem BI(k:S)(n:Int)(rw:Rw):rw.told (k.idle n)=rw.told k:=by
 have e:∀val:Val,val.num (k.idle n)=val.num k:=λval=>by
  cases val with
  |one a=>cases a<;>rfl
  |op a w b=>cases a<;>cases b<;>rfl
  |atl x b=>cases b<;>rfl
 cases rw<;>first|rfl|exact congrArg V.int (e _)
theorem zC{n:Nat}{B s:Int}(h:(n:Int)<=s)(h2:s+1<=B)(h3:B<=1000000):n<sizeLine:=by
 have:sizeLine ≥ 1000001:=∅
 omega
theorem IC{j:Nat}(hj:3<=j)(T:Txt K mg A)(O:E.Ok):∀{n:Nat},kh P w K mg base j A.Run "do_rows" ["self","rows"] (lq A E n)->kh P w K mg base (j+1) A.Run "do_if" ["self","row"] (nA A E JH (gIf E) n)
 |0,_=>T.mh.hs (k:=j) iy (λ_ _ _ _ _ _ _ _ _ _ _ h=>h.elim) (λ_ _ _ _ h=>h.elim)
 |d+1,D=>by
  have N3:=D;have M9:=zB (P:=P) (w:=w) (base:=base) (E:=E) T;refine T.mh.hs (k:=j) iy (λf cdv A' outer s' H vs Q E' hr hu h=>?_) (λvs H Q E h=>by obtain⟨r,k,a,rw,_,rfl,_⟩:=h;rfl);obtain⟨r,k,a,rw,hP,rfl,R,W,wf,rm,g⟩:=h;cases rw with
  |iff n val fs os l r0=>
   obtain⟨a',dx,p,pf,po,xf,xo,ea,ha,hp,hf,ho,r1,r2⟩:=W;cases ea;obtain⟨vo,l0,r00,wf1,wf2⟩:=wf;have s0:ao (del (r.M E) H) H:=aC;unfold aT at rm;refine⟨_,(ab (aP (ptc (BH hu) (bC (hj:=by omega) (fv 0) T.bV.cl (A6 T O) hr (aI (fv 1) rfl^af)) ae)
  (ab (pst 2 iy.nd (bC (hj:=by omega) (fv 0) T.bV.cl N3 hr (aI (fv 1) rfl^af)))
  (ah (aK (bC (hj:=by omega) (fv 0) T.bV.cl M9 hr (aI (fv 1) rfl^af)))))
  (ab (pst 2 iy.nd (bC (hj:=by omega) (fv 0) T.bV.cl N3 hr (aI (fv 1) rfl^af)))
  (ah (aK (bC (hj:=by omega) (fv 0) T.bV.cl M9 hr (aI (fv 1) rfl^af))))))
  (ah (aA (fv 2)))),?_⟩
   refine⟨r.s,r.ds,_,rfl,R.s,rfl,fdI (s0 _ _ ha) T.bO.cl T.jF rfl ⟨r,k,p,val,rfl,R,s0 _ _ hp,vo,rfl,_,rfl,?_⟩⟩
   have b1:(fs.map (aT E d)).sum<=1+(if l+(fs.map (aT E d)).sum<r0+(os.map (aT E d)).sum then r0+(os.map (aT E d)).sum else l+(fs.map (aT E d)).sum)-1:=by split<;>omega
   have b2:(os.map (aT E d)).sum<=1+(if l+(fs.map (aT E d)).sum<r0+(os.map (aT E d)).sum then r0+(os.map (aT E d)).sum else l+(fs.map (aT E d)).sum)-1:=by split<;>omega
   unfold gIf at g
   dsimp only at g
   by_cases c:val.num k=0
   ·rw[show(!decide (V.int (val.num k)=V.int 0))=false by rw[qq,c];rfl];refine bu ?_;rw[if_neg (λz=>z c)]at g;refine⟨r.s,r.ds,_,rfl,R.s,rfl,fdI (s0 _ _ ha) T.bO.cl T.ke rfl ⟨r,k,po,xo,os,rfl,R,ho,r2,wf2,rm.le b2,λH2 g2 R2=>?_⟩⟩;have ha2:=aC _ _ (g2.same _ _ ha);exact⟨r.s,r.ds,_,rfl,R2.s,rfl,fdI ha2 T.bO.cl T.jN rfl ⟨r,r0,_,rfl,R2,λH3 g3 R3=>g H3 (g2.trans g3) R3⟩⟩
   rw[show(!decide (V.int (val.num k)=V.int 0))=true by rw[qq,decide_eq_false c];rfl]
   refine dz ?_
   rw[if_pos c]at g
   refine⟨r.s,r.ds,_,rfl,R.s,rfl,fdI (s0 _ _ ha) T.bO.cl T.jM rfl ⟨r,k,pf,xf,fs,rfl,R,hf,r1,wf1,rm.le b1,λH2 g2 R2=>?_⟩⟩
   have ha2:=aC _ _ (g2.same _ _ ha)
   exact⟨r.s,r.ds,_,rfl,R2.s,rfl,fdI ha2 T.bO.cl T.kR rfl ⟨r,l,_,rfl,R2,λH3 g3 R3=>g H3 (g2.trans g3) R3⟩⟩
  |_=>exact(show False from hP).elim
theorem zX(h:∀N:St->Hp->Prop,(∀σ H,u D σ H->N σ H)->t { D with nx:=N } ((σ.set i (Ve v)).set i' (Ve v')) H):jq i v σ H (xU (DJ (tC v') (jq i')) (xU t u) D):=h (u D) λ_ _ z=>z
theorem uM(body:S->S×Bool)(l:Int):∀(n j:Nat)(s:S),j<=(Vm body l n j s).2/\(Vm body l n j s).2<=n+j
 |0,j,s=>by simp[Vm]
 |n+1,j,s=>by
  simp only[Vm];split
  ·simp;omega
  have:=uM body l n (j+1) ((body s).1.idle l);omega
theorem E2{j:Nat}(hj:3<=j)(T:Txt K mg A)(O:E.Ok):∀{n:Nat},kh P w K mg base j A.Run "do_rows" ["self","rows"] (lq A E n)->kh P w K mg base (j+1) A.Run "do_loop" ["self","row"] (nA A E Eo (yE E) n)
 |0,_=>T.jX.hs (k:=j) dO (λ_ _ _ _ _ _ _ _ _ _ _ h=>h.elim) (λ_ _ _ _ h=>h.elim)
 |d+1,D=>by
  have N3:=D;have M9:=zB (P:=P) (w:=w) (base:=base) (E:=E) T;refine T.jX.hs (k:=j) dO (λf cdv A' outer s' H vs Q E' hr hu h=>?_) (λvs H Q E h=>by obtain⟨r,k,a,rw,_,rfl,_⟩:=h;rfl);obtain⟨r,k,a,rw,hP,rfl,R,W,wf,rm,g⟩:=h;cases rw with
  |loop n th m b l r0=>
   obtain⟨a',dx,q,xs,ea,ha,hq,pr⟩:=W;cases ea;obtain⟨to,m0,m1,l0,r00,wfb⟩:=wf;unfold aT at rm;have c0:=qj E wfb;have lr:(m*(l+(b.map (aT E d)).sum))<=1+m*(if l+(b.map (aT E d)).sum<r0 then r0 else l+(b.map (aT E d)).sum)-1:=by
    have:m*(l+(b.map (aT E d)).sum)<=m*(if l+(b.map (aT E d)).sum<r0 then r0 else l+(b.map (aT E d)).sum):=MM (by split<;>omega) m0;omega
   have rm1:=rm.le lr;have s0:ao (del (r.M E) H) H:=aC;refine⟨_,(ab (pst 2 dO.nd (pcB GI T.yR ((bC (hj:=by omega) (fv 0) T.bV.cl (Gk T O) hr (aI (fv 1) rfl^af))^aI (fv 1) rfl^af)))
  (ab (pst 3 dO.nd ae)
  (ab (yj O9 (ptc wM (fv 3) (fv 2))
  (ab (CH (i:=3) dO.nd rfl (by first|exact Mt rfl|exact MJ rfl) ae EG)
  (ab (pst 4 dO.nd (bC (hj:=by omega) (fv 0) T.bV.cl N3 hr (aI (fv 1) rfl^af)))
  (ab (aK (bC (hj:=by omega) (fv 0) T.bV.cl M9 hr (aI (fv 1) rfl^af)))
  (ah (aP (bR (fv 4) (λ_=>rfl))
   (ah (xN))
   aD))))))
  (ah (aK (bC (hj:=by omega) (fv 0) T.bV.cl M9 hr (ax dw (aI (fv 1) rfl) (ax pP (aI (fv 1) rfl) (fv 3))^af))))))),?_⟩
   refine⟨r.s,r.ds,_,rfl,R.s,rfl,fdI (s0 _ _ ha) T.aV.cl T.g8 rfl ⟨r,k,th,rfl,R,to,fdI (s0 _ _ ha) T.aV.cl T.fL rfl ⟨_,_,rfl,?_⟩⟩⟩
   dsimp only
   refine zX λN KN=>?_
   have wn:=Fx R.ok to m0
   have wm:=AA k th m
   have ew:(if m<th.num k then m else th.num k)=Vs k th m:=rfl
   rw[ew]
   have gdef:yE E d k (.loop n th m b l r0)=((Vm (λs=>bU (doR E d) s b) l (Vs k th m).toNat 0 k).1.idle (r0*(m-(Vm (λs=>bU (doR E d) s b) l (Vs k th m).toNat 0 k).2)),.non):=rfl
   rw[gdef]at g
   have rl:=uM (λs=>bU (doR E d) s b) l (Vs k th m).toNat 0 k
   generalize hX:Vm (λs=>bU (doR E d) s b) l (Vs k th m).toNat 0 k=X at g rl
   generalize Vs k th m=wt at wn wm hX rl⊢
   have tail:∀(kk:S)(jj:Nat)(v4:Option V)(Hx:Hp),Go (r.M E) H (r.M E) Hx->bp A E Hx r kk->X=(kk,jj)->N [Ve (.ref r.s),Ve (.ref a),Ve (.int wt),Ve (.int (jj:Int)),v4] Hx:=by
    intro kk jj v4 Hx gx Rx ex;refine KN _ _ ?_;rw[ex]at rl g;dsimp only at rl;have hax:=aC _ _ (gx.same _ _ ha);exact⟨r.s,r.ds,_,rfl,Rx.s,rfl,fdI hax T.aV.cl T.hZ rfl (fdI hax T.aV.cl T.fL rfl ⟨.inr ⟨(),()⟩,⟨r,_,kk,rfl,Rx,λH3 g3 R3=>g H3 (gx.trans g3) R3⟩⟩)⟩
   refine⟨λmm σ Hx=>∃(jj:Nat)(kj:S)(v4:Option V),mm+jj=wt.toNat/\σ=[Ve (.ref r.s),Ve (.ref a),Ve (.int wt),Ve (.int (jj:Int)),v4]/\Go (r.M E) H (r.M E) Hx/\bp A E Hx r kj/\kj.room BIG ((mm:Int)*(l+(b.map (aT E d)).sum))/\Vm (λs=>bU (doR E d) s b) l mm jj kj=X,⟨_,0,k,Vf,Nat.add_zero _,rfl,Go.refl _ _,R,rm1.le (Nu () ()),hX⟩,?_⟩
   rintro mm σ Hx ⟨jj,kj,v4,hmm,rfl,gx,Rx,rmx,ex⟩
   refine⟨_,rfl,ba (λc=>?_) (λc=>?_)⟩
   ·have hc:(jj:Int)<wt:=of_decide_eq_true c;obtain⟨m',rfl⟩:∃m',mm=m'+1:=⟨mm-1,()⟩;have em:((m'+1:Nat):Int)*(l+(b.map (aT E d)).sum)=(m':Int)*(l+(b.map (aT E d)).sum)+(l+(b.map (aT E d)).sum):=by rw[Uv,OT,ON]
    rw[em]at rmx;have m0':0<=(m':Int)*(l+(b.map (aT E d)).sum):=MT () ();refine⟨λσ' H'=>∃(jj:Nat)(kj:S)(v4:Option V),m'+jj=wt.toNat/\σ'=[Ve (.ref r.s),Ve (.ref a),Ve (.int wt),Ve (.int (jj:Int)),v4]/\Go (r.M E) H (r.M E) H'/\bp A E H' r kj/\kj.room BIG ((m':Int)*(l+(b.map (aT E d)).sum))/\Vm (λs=>bU (doR E d) s b) l m' jj kj=X,λσ' H' h'=>⟨m',NJ _,h'⟩,⟨_,rfl,_,_,rfl,rfl,?_⟩⟩;have hax:=aC _ _ (gx.same _ _ ha);refine⟨r.s,r.ds,_,rfl,Rx.s,rfl,fdI hax T.aV.cl T.iH rfl ⟨r,kj,q,xs,b,rfl,Rx,gx.same _ _ hq,Paired.cI pr (λ_ _=>eB.same gx.same),wfb,rmx.le (),λH2 g2 R2=>?_⟩⟩;have g02:=gx.trans g2;have ha2:=aC _ _ (g02.same _ _ ha);refine⟨r.s,r.ds,_,rfl,R2.s,rfl,fdI ha2 T.aV.cl T.jf rfl ⟨r,l,_,rfl,R2,λH3 g3 R3=>?_⟩⟩;have g03:=g02.trans g3;have rm3:((bU (doR E d) kj b).1.idle l).room BIG ((m':Int)*(l+(b.map (aT E d)).sum)):=kF (nL (E:=E) (p:=Wf E d) (λs r n w h=>sL E d s r n w h) b (kj,false) _ wfb (rmx.le ())) l0;simp only[Vm]at ex;refine⟨_,rfl,?_⟩;cases hb:(bU (doR E d) kj b).2 with
    |true=>
     refine dz ?_;rw[hb,if_pos rfl]at ex;exact tail _ (jj+1) _ H3 g03 R3 ex.symm
    |false=>
     refine bu ?_;rw[hb,if_neg Mw]at ex;exact⟨jj+1,_,_,(),rfl,g03,R3,rm3,ex⟩
   have hc:¬ (jj:Int)<wt:=λz=>c (decide_eq_true z)
   obtain rfl:mm=0:=()
   exact tail kj jj v4 Hx gx Rx ex.symm
  |_=>exact(show False from hP).elim
theorem LC(hv:∀Q:V->Hp->Prop,Q v H->xW i σ H Q)(h:G [v] H):Gy (xW i) Gu σ H G:=hv _ h
theorem Bx{k:S}{xs:List (Nat×Int)}{i:Nat}{p:Nat×Int}(h:xs[i]?=Ve p):k.yr (xs.take (i+1))=(k.yr (xs.take i)).put p.1 p.2:=uY _ _ h
theorem CW{j:Nat}(hj:3<=j)(T:Txt K mg A)(O:E.Ok):∀{n:Nat},kh P w K mg base j A.Run "do_rows" ["self","rows"] (lq A E n)->kh P w K mg base (j+1) A.Run "do_call" ["self","row"] (nA A E DG (sW E) n)
 |0,_=>T.jG.hs (k:=j) dJ (λ_ _ _ _ _ _ _ _ _ _ _ h=>h.elim) (λ_ _ _ _ h=>h.elim)
 |d+1,D=>by
  have N3:=D;refine T.jG.hs (k:=j) dJ (λf' cdv A' outer s' H vs Q E' hr hu h=>?_) (λvs H Q E h=>by obtain⟨r,k,a,rw,_,rfl,_⟩:=h;rfl);obtain⟨r,k,a,rw,hP,rfl,R,W,wf,rm,g⟩:=h;cases rw with
  |call n i ts=>
   obtain⟨a',dx,p,D,ea,hD,ha,hp,b,bx,bn,pp,pb,bs,hdv,hb,hpp,hpb,W⟩:=W;cases ea;obtain⟨to,tl4,D',hD',pl,wb⟩:=wf;rw[hD]at hD';cases hD';unfold aT at rm;unfold sW at g;rw[hD]at rm;dsimp only at g rm;rw[hD]at g;dsimp only at g;have s0:ao (del (r.M E) H) H:=aC;refine⟨_,(ab (pst 2 dJ.nd (px hu (aI (fv 0) rfl) (aI (fv 1) rfl)))
  (ab (fR (j:=3) (N:=["thing","self"]) (own:=1) (fr:=[0]) (cG.of (by kernel_rfl!)) rfl dJ.nd rfl (Mt rfl) (cA (aI (fv 1) rfl)) (λb=>pgn (i:=0) (show PC (["thing","self"]:List PU) by decide+kernel) rfl) (λb=>oI) (λb=>bC (hj:=by omega) (fv 1) T.bV.cl (Gk T O) hr (fv 0^af)))
  (ab (cR O9 rfl (Ew rfl T.xu (aI (fv 2) rfl^fv 3^af)) (wg rfl (gM (pgn (i:=4) dJ.nd rfl) (gM (pgn (i:=5) dJ.nd rfl) rb)))
  (ah (bA (fv 5) (bz (aI (fv 0) rfl) (fv 4) (bB hu Vi)))))
  (ah (aK (bC (hj:=by omega) (fv 0) T.bV.cl N3 hr (aI (fv 2) rfl^af))))))),?_⟩
   refine aq λM1 K1=>fdI R.s T.bV.cl T.jo rfl (fdI (s0 _ _ ha) T.bg.cl T.jh rfl ⟨_,R.hW O hD hdv,K1 _ _ (aq λM2 K2=>fdI (s0 _ _ ha) T.bg.cl T.gq rfl (Mt ⟨⟨_,SqL.of (s0 _ _ hp)⟩,Ex (K:=K) (λi y _=>∀t,ts[i]?=Ve t->y=.int (t.num k)) (SqL.of (s0 _ _ hp)) (ay (by rw[Mj];omega)) (λb' i x H2 G hx s2 kk=>?_) (λ_ _ _ _ _ h=>h) (λ_ _ _ _ _ _ _ h=>h) (λnl H2 ys hnl s2 e2 yl hy=>?_)⟩))⟩)
   ·rw[Mu]at hx;cases ht:ts[i]? with
    |none=>rw[ht]at hx;cases hx
    |some t=>
     rw[ht]at hx;cases hx;have R2:=R.same s2;exact⟨r.s,r.ds,_,rfl,R2.s,rfl,r,k,t,rfl,R2,to t (Mr ht),kk _ _ (ao.refl _) λt' h'=>by rw[ht]at h';cases h';rfl⟩
   have ey:ys=(ts.map (Th.num k)).map V.int:=by
    refine Ol λi=>?_;rw[Mj]at yl;rw[Mu,Mu];cases h1:ts[i]? with
    |none=>
     have:ts.length<=i:=Oc.mp h1;exact MW ()
    |some t=>
     have lt:i<ys.length:=by have:=(Ml.mp h1).1;omega
     rw[Mh lt,hy i _ (Mh lt) t h1];rfl
   subst ey
   refine K2 _ _ (aq λM3 K3=>?_)
   have g2:Go (r.M E) H (r.M E) H2:=Go.new s2
   have nlM:=R.free hnl
   refine fdI (aC _ _ (g2.same _ _ hb)) T.f9.cl T.eZ rfl ⟨_,_,rfl,⟨_,SqL.of (aC _ _ (g2.same _ _ hpp))⟩,⟨_,SqL.of e2⟩,AE (K:=K) (xs:=D.parts.map λi=>V.str (E.N i)) (ys:=(ts.map (Th.num k)).map V.int) (λi σ H3=>Go (r.M E) H (r.M E) H3/\bp A E H3 r (k.yr ((D.parts.zip (ts.map (Th.num k))).take i))/\H3 nl=Ve (.lst ((ts.map (Th.num k)).map V.int))/\∃z4 z5,σ=[Ve (.ref r.s),Ve (.ref a),Ve (.ref b),Ve (.ref nl),z4,z5]) ⟨g2,R.same s2,e2,Vf,Vf,rfl⟩ (λi σ H3 _ h=>⟨SqL.of (aC _ _ (h.1.same _ _ hpp)),SqL.of h.2.2.1⟩) (by rw[Mj,Mj,Mj];exact pl) ?_ ?_⟩
   ·rintro i x y σ H3 tp hx hy ⟨g3,R3,e3,z4,z5,rfl⟩ htp;rw[Mu]at hx hy;cases hpi:D.parts[i]? with
    |none=>rw[hpi]at hx;cases hx
    |some q=>
    cases hvi:(ts.map (Th.num k))[i]? with
    |none=>rw[hvi]at hy;cases hy
    |some u=>
    rw[hpi]at hx;rw[hvi]at hy;cases hx;cases hy;have zi:(D.parts.zip (ts.map (Th.num k)))[i]?=Ve (q,u):=by
     rw[NA];exact⟨hpi,hvi⟩
    have ui:In u:=by
     have:=Mr hvi;obtain⟨t,ht,rfl⟩:=Mz.mp this;exact Th.fm R.ok (to t ht)
    rw[Bx zi];generalize k.yr ((D.parts.zip (ts.map (Th.num k))).take i)=k3 at R3⊢;obtain⟨s4,e4⟩:=alc htp (HO.tup [V.str (E.N q),.int u]);generalize upd H3 tp _=H4 at s4 e4⊢;have R4:=R3.same s4;refine⟨tp,_,rfl,SqT.of e4,rfl,_,_,rfl,_,_,rfl,rfl,?_⟩;obtain⟨x1,x2⟩:=O.pt D (Mr hD) q (Mr hpi);exact fdI R4.s T.bV.cl T.dg rfl ⟨_,cW.k (k:=.inr (E.N q)) R4.hc (ay (by rw[fP];have:=O.len;omega)),⟨(g3.trans (Go.new s4)).trans (Go.at (r.inM E).2.1 _),R4.put O x1 x2 ui,ag (λz=>nlM (z▸(r.inM E).2.1)) (s4 _ _ e3),_,_,rfl⟩⟩
   rintro σ H3 ⟨g3,R3,e3,z4,z5,rfl⟩
   have full:(D.parts.zip (ts.map (Th.num k))).take (D.parts.map λi=>V.str (E.N i)).length=D.parts.zip (ts.map (Th.num k)):=Nh (by simp only[Oy,Mj];exact Nat.min_le_left _ _)
   rw[full]at R3
   refine K3 _ _ ?_
   have hb3:=aC _ _ (g3.same _ _ hb)
   exact⟨r.s,r.ds,_,rfl,R3.s,rfl,fdI hb3 T.f9.cl T.iG rfl ⟨r,_,pb,bs,D.body,rfl,R3,g3.same _ _ hpb,Paired.cI W (λ_ _=>eB.same g3.same),wb,vv (rm.le ()) _,λH4 g4 R4=>g H4 (g3.trans g4) R4⟩⟩
  |_=>exact(show False from hP).elim
theorem F4{j d:Nat}(hj:4<=j)(T:Txt K mg A)(O:E.Ok)(D1:kh P w K mg base j A.Run "do_if" ["self","row"] (nA A E JH (gIf E) d))(D2:kh P w K mg base j A.Run "do_loop" ["self","row"] (nA A E Eo (yE E) d))(D3:kh P w K mg base j A.Run "do_call" ["self","row"] (nA A E DG (sW E) d)) :
  kh P w K mg base (j+1) A.Run "do_row" ["self","row"] (sA A E d):=by
 have OV:=D1
 have N8:=D2
 have N9:=D3
 have M9:=zB (P:=P) (w:=w) (base:=base) (E:=E) T
 refine T.pj.hs (k:=j) ka (λf cdv A' outer s' H vs Q E' hr hu h=>?_) (λvs H Q E h=>by obtain⟨r,k,v,rw,rfl,_⟩:=h;rfl)
 obtain⟨r,k,v,rw,rfl,R,W,wf,rm,g⟩:=h
 have rm1:=rm.le (uU E d rw wf)
 refine⟨_,(ab (aK (bC (hj:=by omega) (fv 0) T.bV.cl M9 hr (ae^af)))
 (ab (pst 2 ka.nd (aI (fv 0) rfl))
 (ab (pst 3 ka.nd (bC (hj:=by omega) (fv 0) T.bV.cl (IH T O) hr (fv 1^af)))
 (ab (aK (cN (aI (fv 2) rfl) (bf (aI (fv 1) rfl^aI (fv 2) rfl^fv 3^af)^af)))
 (ab (aP (bR (pcB bD T.aH (fv 1^cU T.bW.mg^af)) (λ_=>rfl))
  (ah (bA (bC (hj:=by omega) (fv 0) T.bV.cl (A6 T O) hr (aI (fv 1) rfl^af)) (bz (aI (fv 0) rfl) (aI (fv 1) rfl) (bB hu Vi))))
  (ah (aP (bR (pcB bD T.aH (fv 1^cU T.bJ.mg^af)) (λ_=>rfl))
   (ah (aK (bC (hj:=by omega) (fv 0) T.bV.cl (Gw T O) hr (fv 1^af))))
   (ah (aP (bR (pcB bD T.aH (fv 1^cU T.aU.mg^af)) (λ_=>rfl))
    (ah (aK (cN (aI (fv 2) rfl) (bf (aI (fv 2) rfl^aI (fv 1) rfl^aI (fv 1) rfl^fv 3^af)^af))))
    (ah (aP (bR (pcB bD T.aH (fv 1^cU T.aX.mg^af)) (λ_=>rfl))
     (ab (bA (fv 3) (bz (aI (fv 0) rfl) (aI (fv 1) rfl) (bB hu Vi)))
     (ah (aK (cN (aI (fv 2) rfl) (bf (aI (fv 2) rfl^aI (fv 1) rfl^aI (fv 1) rfl^fv 3^af)^af)))))
     (ah (aP (bR (pcB bD T.aH (fv 1^cU T.bg.mg^af)) (λ_=>rfl))
      (ah (aK (bC (hj:=by omega) (fv 0) T.bV.cl N9 hr (fv 1^af))))
      (ah (aP (bR (pcB bD T.aH (fv 1^cU T.bO.mg^af)) (λ_=>rfl))
       (ah (aA (bC (hj:=by omega) (fv 0) T.bV.cl OV hr (fv 1^af))))
       (ah (aP (bR (pcB bD T.aH (fv 1^cU T.aV.mg^af)) (λ_=>rfl))
        (ah (aK (bC (hj:=by omega) (fv 0) T.bV.cl N8 hr (fv 1^af))))
        aD)))))))))))))
 (ah (aA (pcB bD T.aH (fv 1^cU T.aW.mg^af))))))))),?_⟩
 refine⟨r.s,r.ds,_,rfl,R.s,rfl,r,1,k,rfl,R,λH2 g2 R2=>fdI R2.s T.bV.cl T.ja rfl ?_⟩
 obtain⟨a,dx,fs,rfl,ha⟩:=EY W
 obtain⟨cl,cn⟩:=Kq T rw
 obtain⟨ts,ht,tt⟩:=R2.ht
 have tlen:ts.length<sizeLine:=by
  have:=tt.len;exact zC (n:=ts.length) (B:=BIG) (by rw[this];exact rm1.t) rm1.st (MF _)
 refine⟨r.s,r.ds,_,rfl,R2.s,rfl,LC (v:=.ref a) (λ_ z=>z) ?_⟩
 dsimp only
 refine Fl T (W.same g2.same) wf aC R2 ?_
 rw[BI]
 have ha2:=aC _ _ (g2.same _ _ ha)
 refine fdI R2.hb T.fQ.cl T.kO rfl ⟨Mt ⟨rfl,_,SqL.of ht⟩,a,_,dx,_,_,rfl,ha2,cl,cn,rfl,fdI R2.hb T.fQ.cl T.eO rfl ⟨(show 3<=sizeLine by decide),λp3 hp3=>⟨_,_,_,rfl,rfl,ao.upd hp3 _ _ _ ht,tlen,?_⟩⟩⟩
 have R4:bp A E _ r (k.tell rw.no (rw.told k)):=R2.trace (w:=[.int rw.no,.int (k.idle 1).steps,rw.told k]) hp3 ht
 have g4:Go (r.M E) H (r.M E) (upd (upd H2 p3 (HO.tup [.int rw.no,.int (k.idle 1).steps,rw.told k])) r.t (HO.lst (ts++[.ref p3]))):=(g2.trans (Go.new (ao.upd hp3 _))).trans (Go.at (r.inM E).2.2.1 _)
 generalize upd (upd H2 p3 (HO.tup [.int rw.no,.int (k.idle 1).steps,rw.told k])) r.t (HO.lst (ts++[.ref p3]))=H4 at R4 g4⊢
 have W4:=W.same g4.same
 have room4:(k.tell rw.no (rw.told k)).room BIG (aT E d rw-1):=iz (rm.le ()) _ _
 cases rw with
 |set n x val=>
  obtain⟨a',dx,p,ea,ha,hp⟩:∃a' dx p,V.ref a=.ref a'/\del (r.M E) H4 a'=Ve (.ins A.cY dx [("number",.int n),("name",.str (E.N x)),("value",.ref p)])/\del (r.M E) H4 p=Ve (.tup (vV E.N val)):=by cases d<;>exact W4
  cases ea
  obtain⟨x1,x2,vo⟩:x∈E.idx/\E.sz x=0/\val.okE E:=by cases d<;>exact wf
  have ha4:=aC _ _ ha
  have eg:doR E d k (.set n x val)=((k.tell n .non).put x (val.num k),false):=by cases d<;>rfl
  rw[eg]at g
  refine isB (T.bW.bP ha4) (nN T.bW) (dz ⟨r.s,r.ds,_,rfl,R4.s,rfl,fdI ha4 T.bW.cl T.jm rfl ⟨r,k.tell n .non,p,val,rfl,R4,aC _ _ hp,vo,?_⟩⟩)
  rw[pB]
  refine fdI R4.s T.bV.cl T.dg rfl (fdI ha4 T.bW.cl T.kb rfl ⟨_,cW.k (k:=.inr (E.N x)) R4.hc (ay (by rw[fP];have:=O.len;omega)),?_⟩)
  have g5:=Go.at (H:=H4) (r.inM E).2.1 (HO.dK (Vj (dk E.N E.idx (cV E r.la (k.tell n .non).num)) (.inr (E.N x)) (.int (val.num k))))
  have ha5:=aC _ _ (g5.same _ _ ha)
  exact⟨_,_,_,false,rfl,(λz=>by cases z),T.bW.bP ha5,(bZ T.bW T.aW (au T 10 5) (au T 10 0)),g _ (g4.trans g5) (R4.put O x1 x2 (Val.fm R.ok vo))⟩
 |put n x pl val=>
  obtain⟨a',dx,p,ea,ha,hp⟩:∃a' dx p,V.ref a=.ref a'/\del (r.M E) H4 a'=Ve (.ins A.cM dx [("number",.int n),("name",.str (E.N x)),("place",pl.v E.N),("value",.ref p)])/\del (r.M E) H4 p=Ve (.tup (vV E.N val)):=by cases d<;>exact W4
  cases ea
  obtain⟨x1,x2,po,vo⟩:x∈E.idx/\0<E.sz x/\pl.okE E/\val.okE E:=by cases d<;>exact wf
  have ha4:=aC _ _ ha
  have eg:doR E d k (.put n x pl val)=((k.tell n .non).Ao x (pl.num k) (val.num k),false):=by cases d<;>rfl
  rw[eg]at g
  refine isB (T.bJ.bP ha4) (bZ T.bJ T.bW (au T 5 6) (au T 5 0)) (bu (isB (T.bJ.bP ha4) (nN T.bJ) (dz ⟨r.s,r.ds,_,rfl,R4.s,rfl,r,k.tell n .non,_,x,pl,val,a,dx,p,rfl,R4,x1,x2,po,vo,ha4,aC _ _ hp,λH5 R5 g5=>?_⟩)))
  rw[pB,vC]at R5
  have ha5:=aC _ _ (g5.same _ _ ha)
  exact⟨_,_,_,false,rfl,(λz=>by cases z),T.bJ.bP ha5,(bZ T.bJ T.aW (au T 10 6) (au T 10 0)),g _ (g4.trans g5) R5⟩
 |snd n x val=>
  obtain⟨a',dx,p,ea,ha,hp⟩:∃a' dx p,V.ref a=.ref a'/\del (r.M E) H4 a'=Ve (.ins A.bL dx [("number",.int n),("name",.str (E.N x)),("value",.ref p)])/\del (r.M E) H4 p=Ve (.tup (vV E.N val)):=by cases d<;>exact W4
  cases ea
  have ha4:=aC _ _ ha
  have eg:doR E d k (.snd n x val)=((k.tell n (.int (val.num k))).sD [.int (k.steps+1),.int n,.str (E.N x),.int (val.num k)],false):=by cases d<;>rfl
  rw[eg]at g
  obtain⟨ls,hl,tl⟩:=R4.hl
  have llen:ls.length<sizeLine:=by
   have:=tl.len;exact zC (n:=ls.length) (B:=BIG) (by rw[this];exact rm1.l) rm1.st (MF _)
  refine isB (T.aU.bP ha4) (bZ T.aU T.bW (au T 5 7) (au T 5 0)) (bu (isB (T.aU.bP ha4) (bZ T.aU T.bJ (au T 6 7) (au T 6 0)) (bu (isB (T.aU.bP ha4) (nN T.aU) (dz (fdI R4.hb T.fQ.cl T.d6 rfl ⟨Mt ⟨rfl,_,SqL.of hl⟩,fdI R4.hb T.fQ.cl T.eO rfl (fdI ha4 T.aU.cl T.eK rfl (fdI ha4 T.aU.cl T.iV rfl ⟨(show 4<=sizeLine by decide),λp5 hp5=>⟨_,_,_,rfl,rfl,ao.upd hp5 _ _ _ hl,llen,?_⟩⟩))⟩))))))
  have R6:=R4.sD (w:=[.int (k.steps+1),.int n,.str (E.N x),.int (val.num k)]) hp5 hl
  have g6:Go (r.M E) H4 (r.M E) (upd (upd H4 p5 (HO.tup [.int (k.steps+1),.int n,.str (E.N x),.int (val.num k)])) r.l (HO.lst (ls++[.ref p5]))):=(Go.new (ao.upd hp5 _)).trans (Go.at (r.inM E).2.2.2.1 _)
  have ha6:=aC _ _ (g6.same _ _ ha)
  exact⟨_,_,_,false,rfl,(λz=>by cases z),T.aU.bP ha6,(bZ T.aU T.aW (au T 10 7) (au T 10 0)),g _ (g4.trans g6) R6⟩
 |say n x val m=>
  obtain⟨a',dx,p,ea,ha,hp⟩:∃a' dx p,V.ref a=.ref a'/\del (r.M E) H4 a'=Ve (.ins A.cm dx [("number",.int n),("name",.str (E.N x)),("value",.ref p),("mark",.str (E.N m))])/\del (r.M E) H4 p=Ve (.tup (vV E.N val)):=by cases d<;>exact W4
  cases ea
  obtain⟨x1,x2,vo⟩:x∈E.idx/\E.sz x=0/\val.okE E:=by cases d<;>exact wf
  have ha4:=aC _ _ ha
  have eg:doR E d k (.say n x val m)=(((k.tell n (.int (val.num k))).put x (val.num k)).sV [.int (k.steps+1),.int n,.str (E.N m),.int (val.num k)],false):=by cases d<;>rfl
  rw[eg]at g
  refine isB (T.aX.bP ha4) (bZ T.aX T.bW (au T 5 8) (au T 5 0)) (bu (isB (T.aX.bP ha4) (bZ T.aX T.bJ (au T 6 8) (au T 6 0)) (bu (isB (T.aX.bP ha4) (bZ T.aX T.aU (au T 7 8) (au T 7 0)) (bu (isB (T.aX.bP ha4) (nN T.aX) (dz (fdI R4.s T.bV.cl T.dg rfl (fdI ha4 T.aX.cl T.jP rfl ⟨_,cW.k (k:=.inr (E.N x)) R4.hc (ay (by rw[fP];have:=O.len;omega)),?_⟩)))))))))
  have R5:=R4.put O x1 x2 (Val.fm R.ok vo)
  have g5:=Go.at (H:=H4) (r.inM E).2.1 (HO.dK (Vj (dk E.N E.idx (cV E r.la (k.tell n (.int (val.num k))).num)) (.inr (E.N x)) (.int (val.num k))))
  dsimp only[Rw.no,Rw.told]at R5⊢
  generalize upd H4 r.c (HO.dK (Vj (dk E.N E.idx (cV E r.la (k.tell n (.int (val.num k))).num)) (.inr (E.N x)) (.int (val.num k))))=H5 at R5 g5⊢
  have ha5':=g5.same _ _ ha
  have ha5:=aC _ _ ha5'
  obtain⟨ls,hl,tl⟩:=R5.hd
  have llen:ls.length<sizeLine:=by
   have:=tl.len;exact zC (n:=ls.length) (B:=BIG) (by rw[this];exact rm1.d) rm1.st (MF _)
  refine fdI R5.hb T.fQ.cl T.l6 rfl ⟨Mt ⟨rfl,_,SqL.of hl⟩,fdI R5.hb T.fQ.cl T.eO rfl (fdI ha5 T.aX.cl T.fh rfl (fdI ha5 T.aX.cl T.jJ rfl ⟨(show 4<=sizeLine by decide),λp5 hp5=>⟨_,_,_,rfl,rfl,ao.upd hp5 _ _ _ hl,llen,?_⟩⟩))⟩
  have R6:=R5.sV (w:=[.int (k.steps+1),.int n,.str (E.N m),.int (val.num k)]) hp5 hl
  have g6:Go (r.M E) H5 (r.M E) (upd (upd H5 p5 (HO.tup [.int (k.steps+1),.int n,.str (E.N m),.int (val.num k)])) r.sd (HO.lst (ls++[.ref p5]))):=(Go.new (ao.upd hp5 _)).trans (Go.at (r.inM E).2.2.2.2.1 _)
  have ha6:=aC _ _ (g6.same _ _ ha5')
  exact⟨_,_,_,false,rfl,(λz=>by cases z),T.aX.bP ha6,(bZ T.aX T.aW (au T 10 8) (au T 10 0)),g _ ((g4.trans g5).trans g6) R6⟩
 |last n=>
  obtain⟨a',dx,ea,ha⟩:∃a' dx,V.ref a=.ref a'/\del (r.M E) H4 a'=Ve (.ins A.cS dx [("number",.int n)]):=by cases d<;>exact W4
  cases ea
  have ha4:=aC _ _ ha
  have eg:doR E d k (.last n)=(k.tell n .non,true):=by cases d<;>rfl
  rw[eg]at g
  exact isB (T.aW.bP ha4) (bZ T.aW T.bW (au T 5 10) (au T 5 0)) (bu (isB (T.aW.bP ha4) (bZ T.aW T.bJ (au T 6 10) (au T 6 0)) (bu (isB (T.aW.bP ha4) (bZ T.aW T.aU (au T 7 10) (au T 7 0)) (bu (isB (T.aW.bP ha4) (bZ T.aW T.aX (au T 8 10) (au T 8 0)) (bu (isB (T.aW.bP ha4) (bZ T.aW T.bg (au T 9 10) (au T 9 0)) (bu (isB (T.aW.bP ha4) (bZ T.aW T.bO (au T 11 10) (au T 11 0)) (bu (isB (T.aW.bP ha4) (bZ T.aW T.aV (au T 12 10) (au T 12 0)) (bu ⟨_,_,_,true,rfl,(λz=>by cases z),T.aW.bP ha4,nN T.aW,g _ g4 R4⟩)))))))))))))
 |call n i ts=>
  cases d with
  |zero=>exact(show False from wf).elim
  |succ d=>
  obtain⟨a',dx,p,D,ea,hD,ha,_⟩:=id W4
  cases ea
  have ha4:=aC _ _ ha
  have eg:doR E (d+1) k (.call n i ts)=((sW E d (k.tell n .non) (.call n i ts)).1,false):=by
   simp only[doR,sW,hD,vC]
  have e2:(sW E d (k.tell n .non) (.call n i ts)).2=.non:=by simp only[sW,hD]
  rw[eg]at g
  refine isB (T.bg.bP ha4) (bZ T.bg T.bW (au T 5 9) (au T 5 0)) (bu (isB (T.bg.bP ha4) (bZ T.bg T.bJ (au T 6 9) (au T 6 0)) (bu (isB (T.bg.bP ha4) (bZ T.bg T.aU (au T 7 9) (au T 7 0)) (bu (isB (T.bg.bP ha4) (bZ T.bg T.aX (au T 8 9) (au T 8 0)) (bu (isB (T.bg.bP ha4) (nN T.bg) (dz ⟨r.s,r.ds,_,rfl,R4.s,rfl,r,k.tell n .non,a,.call n i ts,trivial,rfl,R4,W4,wf,room4,?_⟩)))))))))
  rw[e2]
  intro H5 g5 R5
  have ha5:=aC _ _ (g5.same _ _ ha)
  exact⟨_,_,_,false,rfl,(λz=>by cases z),T.bg.bP ha5,(bZ T.bg T.aW (au T 10 9) (au T 10 0)),g _ (g4.trans g5) R5⟩
 |iff n val fs os l r0=>
  cases d with
  |zero=>exact(show False from wf).elim
  |succ d=>
  obtain⟨a',dx,p,pf,po,xf,xo,ea,ha,_⟩:=id W4
  cases ea
  have ha4:=aC _ _ ha
  refine isB (T.bO.bP ha4) (bZ T.bO T.bW (au T 5 11) (au T 5 0)) (bu (isB (T.bO.bP ha4) (bZ T.bO T.bJ (au T 6 11) (au T 6 0)) (bu (isB (T.bO.bP ha4) (bZ T.bO T.aU (au T 7 11) (au T 7 0)) (bu (isB (T.bO.bP ha4) (bZ T.bO T.aX (au T 8 11) (au T 8 0)) (bu (isB (T.bO.bP ha4) (bZ T.bO T.bg (au T 9 11) (au T 9 0)) (bu (isB (T.bO.bP ha4) (nN T.bO) (dz ⟨r.s,r.ds,_,rfl,R4.s,rfl,r,k.tell n .non,a,.iff n val fs os l r0,trivial,rfl,R4,W4,wf,room4,?_⟩)))))))))))
  have e1:(gIf E d (k.tell n .non) (.iff n val fs os l r0)).1=(doR E (d+1) k (.iff n val fs os l r0)).1:=by
   simp only[doR,gIf,pB];split<;>rfl
  have e2:(gIf E d (k.tell n .non) (.iff n val fs os l r0)).2=.bl (doR E (d+1) k (.iff n val fs os l r0)).2:=by
   simp only[doR,gIf,pB];split<;>rfl
  rw[e1,e2]
  exact λH5 g5 R5=>g _ (g4.trans g5) R5
 |loop n t m b l r0=>
  cases d with
  |zero=>exact(show False from wf).elim
  |succ d=>
  obtain⟨a',dx,pb,xb,ea,ha,_⟩:=id W4
  cases ea
  have ha4:=aC _ _ ha
  refine isB (T.aV.bP ha4) (bZ T.aV T.bW (au T 5 12) (au T 5 0)) (bu (isB (T.aV.bP ha4) (bZ T.aV T.bJ (au T 6 12) (au T 6 0)) (bu (isB (T.aV.bP ha4) (bZ T.aV T.aU (au T 7 12) (au T 7 0)) (bu (isB (T.aV.bP ha4) (bZ T.aV T.aX (au T 8 12) (au T 8 0)) (bu (isB (T.aV.bP ha4) (bZ T.aV T.bg (au T 9 12) (au T 9 0)) (bu (isB (T.aV.bP ha4) (bZ T.aV T.bO (au T 11 12) (au T 11 0)) (bu (isB (T.aV.bP ha4) (nN T.aV) (dz ⟨r.s,r.ds,_,rfl,R4.s,rfl,r,k.tell n .non,a,.loop n t m b l r0,trivial,rfl,R4,W4,wf,room4,?_⟩)))))))))))))
  have ew:Vs (k.tell n .non) t m=Vs k t m:=by unfold Vs;rw[vC]
  have eg:doR E (d+1) k (.loop n t m b l r0)=((yE E d (k.tell n .non) (.loop n t m b l r0)).1,false):=by
   simp only[doR,yE,ew]
  rw[eg]at g
  intro H5 g5 R5
  have ha5:=aC _ _ (g5.same _ _ ha)
  exact⟨_,_,_,false,rfl,(λz=>by cases z),T.aV.bP ha5,(bZ T.aV T.aW (au T 10 12) (au T 10 0)),g _ (g4.trans g5) R5⟩
theorem nF(T:Txt K mg A)(O:E.Ok):∀n,kh P w K mg base (3*n+5) A.Run "do_rows" ["self","rows"] (lq A E n)
 |0=>T.gK.hs (k:=4) d9 (λ_ _ _ _ _ _ _ _ _ _ _ h=>h.elim) (λ_ _ _ _ h=>h.elim)
 |d+1=>yU T (F4 () T O (IC () T O (nF T O d)) (E2 () T O (nF T O d)) (CW () T O (nF T O d)))
noncomputable def Vz(n:Nat):List Int:=Pd n 0
theorem zA(n:Nat):(Pd n [V.int 0]).flatten=(Vz n).map V.int:=by
 unfold Vz;rw[Tv];induction n with
 |zero=>rfl
 |succ n ih=>rw[MX,MX,NO,ih];rfl
inductive Di(A:Adr)(vs:List V)(H:Hp)(Q:VK)(Z:XK):Prop
 |mk(a dx:OW)(k:V)(n:Nat)(x:V):vs=[.ref a]->n<=1000->H a=Ve (.ins A.bG dx [("number",k),("name",x),("size",.int n)])->(n=0->Q (.int 0) H)->(0<n->∀p H',ao H H'->H p=Vf->H' p=Ve (.lst ((Vz n).map V.int))->Q (.ref p) H')->Di A vs H Q Z
theorem JM(T:Txt K mg A):T.tX.Hz P w base 1 (Di A):=by
 refine T.tX.hs yh (λf cdv A' outer s H vs Q E hr hu h=>?_);obtain⟨a,dx,k,n,x,rfl,hn,ha,q0,q1⟩:=h;refine⟨_,(ah (aA (fG (ptc (bh hu) (aI (fv 0) rfl) ae) ae (ax dw (bI (ae^af)) (aI (fv 0) rfl))))),fdI ha T.bj.cl T.gL rfl ⟨rfl,_,rfl,ba (λc=>?_) (λc=>?_)⟩⟩
 ·rw[qq,decide_eq_true_iff]at c;exact q0 ()
 rw[qq,decide_eq_true_iff]at c;refine⟨by show 1<=sizeLine;decide,λl hl=>?_⟩;obtain⟨s1,e1⟩:=alc hl (HO.lst [V.int 0]);generalize upd H l _=H1 at s1 e1⊢;refine fdI (s1 _ _ ha) T.bj.cl T.gL rfl ⟨_,e1,(),(),?_,λp hp=>?_⟩
 ·show 1*((n:Int)).toNat<=sizeLine;have:=sz hn;omega
 refine q1 () p _ (s1.trans (ao.upd hp _)) (ao.free s1 hp) ?_;rw[aj,<-zA];rfl
inductive x8(A:Adr)(vs:List V)(H:Hp)(Q:VK)(Z:XK):Prop
 |mk(a g dx:OW)(k rk:V)(x:Str)(z:Nat)(kvs:List (Key×V))(gv:V):vs=[.ref a,.ref g]->H a=Ve (.ins A.aN dx [("number",k),("name",.str x),("rank",rk),("size",.int z)])->H g=Ve (.dK kvs)->L2.eX kvs (.inr x)=Ve gv->((z=0/\∃n:Int,gv=.int n/\In n/\Q (.int n) H)\/(0<z/\z<=1000/\∃(l:OW)(ns:List Int),gv=.ref l/\H l=Ve (.lst (ns.map V.int))/\ns.length=z/\(∀n∈ns,In n)/\∀p H',ao H H'->H p=Vf->H' p=Ve (.lst (ns.map V.int))->Q (.ref p) H'))->x8 A vs H Q Z
theorem FK(T:Txt K mg A):T.oq.Hz P w base 3 (x8 A):=by
 refine T.oq.hs nW (λf cdv A' outer s H vs Q E hr hu h=>?_);obtain⟨a,g,dx,k,rk,x,z,kvs,gv,rfl,ha,hg,hv,hq⟩:=h;have d1:c9 H g (.str x) (Ve gv):=by
  have:=c9.k (k:=.inr x) hg;rw[hv]at this;exact this
 refine⟨_,(ab (pst 2 nW.nd (EB (Oe (Nat.add_le_add_left (show 1<=64 by decide) _) hu) (fv 1) (aI (fv 0) rfl) ⟨rfl,rfl,rfl,rfl⟩))
 (ab (aP (xp (bR (ar (Es T) hr (fv 2^aI (fv 0) rfl^af)) (λ_=>rfl)))
  Cn
  aD)
 (ah (aA (fG (ptc (bh hu) (aI (fv 0) rfl) ae) (fv 2) (pcT rC T.dY (fv 2^af))))))),?_⟩
 refine⟨g,rfl,Mt ⟨_,Mt hg⟩,fdI ha T.aL.cl T.cx rfl ⟨_,d1,?_⟩⟩;rcases hq with⟨rfl,n,rfl,hn,q⟩|⟨z0,z1,l,ns,rfl,hl,rfl,hn,q⟩
 ·exact fdI ha T.aL.cl T.cy rfl (Mt ⟨n,rfl,hn,true,rfl,bu (fdI ha T.aL.cl T.cy rfl ⟨rfl,_,rfl,dz q⟩)⟩)
 refine fdI ha T.aL.cl T.cy rfl (MJ ⟨l,ns,rfl,z0,z1,hl,hn,λH2 s2=>⟨true,rfl,bu (fdI (s2 _ _ ha) T.aL.cl T.cy rfl ⟨rfl,_,rfl,ba (λc=>absurd c ?_) (λc=>?_)⟩)⟩⟩)
 ·rw[qq,decide_eq_true_iff];omega
 exact Mt ⟨_,_,rfl,Mt (SqL.of (s2 _ _ hl)),λp hp=>q p _ (s2.trans (ao.upd hp _)) (ao.free s2 hp) aj⟩
set_option genCtorIdx true in
inductive Hd where
 |hand (i:Nat)|giv (i z:Nat)|own (i z:Nat)|lt (i:Nat)
noncomputable def Hd.cell:Hd->List Nat
 | .giv i _=>[i]
 | .own i _=>[i]
 |_=>[]
def ux(A:Adr)(N:Nat->Str)(X:Hp)(v:V):Hd->Prop
 | .hand i=>∃a dx n rk,v=.ref a/\X a=Ve (.ins A.bT dx [("number",n),("name",.str (N i)),("rank",rk)])
 | .giv i z=>∃a dx n rk,v=.ref a/\X a=Ve (.ins A.aN dx [("number",n),("name",.str (N i)),("rank",rk),("size",.int z)])
 | .own i z=>∃a dx n,v=.ref a/\X a=Ve (.ins A.bG dx [("number",n),("name",.str (N i)),("size",.int z)])
 | .lt i=>∃a dx n rk,v=.ref a/\X a=Ve (.ins A.cH dx [("number",n),("name",.str (N i)),("rank",rk)])
theorem ux.same(s:ao X X'):∀{h:Hd},ux A N X v h->ux A N X' v h
 | .hand _,⟨a,dx,n,rk,e,h⟩=>⟨a,dx,n,rk,e,s _ _ h⟩
 | .giv _ _,⟨a,dx,n,rk,e,h⟩=>⟨a,dx,n,rk,e,s _ _ h⟩
 | .own _ _,⟨a,dx,n,e,h⟩=>⟨a,dx,n,e,s _ _ h⟩
 | .lt _,⟨a,dx,n,rk,e,h⟩=>⟨a,dx,n,rk,e,s _ _ h⟩
noncomputable def isG(hs:List Hd)(i:Nat):Bool:=hs.any λh=>match h with
 | .giv j _=>decide (j=i)
 |_=>false
noncomputable def S.new(E:En)(hs:List Hd)(gn:Nat->Int)(gl:Nat->List Int):S:=⟨λi=>if isG hs i then gn i else 0,λi=>if isG hs i then gl i else Vz (E.sz i),0,[],[],[]⟩
structure Hds(E:En)(hs:List Hd):Prop where
 e:E.idx=hs.flatMap Hd.cell++E.ds.flatMap Dd.parts
 g:∀i z,Hd.giv i z∈hs->E.sz i=z
 o:∀i z,Hd.own i z∈hs->E.sz i=z
structure mO(E:En)(hs:List Hd)(H:Hp)(g:OW)(gn:Nat->Int)(gl:Nat->List Int):Prop where
 d:∃kvs,H g=Ve (.dK kvs)/\∀i z,Hd.giv i z∈hs->(z=0->L2.eX kvs (.inr (E.N i))=Ve (.int (gn i)))/\(0<z->∃l,L2.eX kvs (.inr (E.N i))=Ve (.ref l)/\H l=Ve (.lst ((gl i).map V.int))/\(gl i).length=z)
 n:∀i,In (gn i)
 l:∀i,∀n∈gl i,In n
theorem mO.same(s:ao H H')(G:mO E hs H g gn gl):mO E hs H' g gn gl:=by
 obtain⟨kvs,h1,h2⟩:=G.d;refine⟨⟨kvs,s _ _ h1,λi z m=>⟨(h2 i z m).1,λz0=>?_⟩⟩,G.n,G.l⟩;obtain⟨l,a,b,c⟩:=(h2 i z m).2 z0;exact⟨l,a,s _ _ b,c⟩
noncomputable def laP(la:Nat->OW)(i:Nat)(u:OW)(j:Nat):OW:=if j=i then u else la j
theorem AM(la:Nat->OW)(i:Nat)(u:OW):laP la i u i=u:=if_pos rfl
theorem vm(la:Nat->OW)(u:OW)(h:j≠i):laP la i u j=la j:=if_neg h
structure Vu(E:En)(H H2:Hp)(c:OW)(la:Nat->OW)(k:S)(ix:List Nat):Prop where
 s:ao H H2
 hc:H2 c=Ve (.dK (dk E.N ix (cV E la k.num)))
 l:∀i∈ix,0<E.sz i->H (la i)=Vf/\la i≠c/\H2 (la i)=Ve (.lst ((k.lst i).map V.int))
 i:∀i∈ix,∀j∈ix,0<E.sz i->0<E.sz j->la i=la j->i=j
theorem Vu.num{H H2:Hp}{c:OW}{la:Nat->OW}{k:S}{ix:List Nat}{i:Nat}{n:Int}(C:Vu E H H2 c la k ix)(O:E.Ok)(c0:H c=Vf)(hi:i<25)(hb:∀j∈ix,j<25)(m:i∉ix)(hz:E.sz i=0)(en:k.num i=n):Vu E H (upd H2 c (.dK (Vj (dk E.N ix (cV E la k.num)) (.inr (E.N i)) (.int n)))) c la k (ix++[i]):=by
 refine⟨ao.out C.s c0 _,?_,λj hj z=>?_,λa ha b hb' za zb e=>?_⟩
 ·rw[aj,iT O.D hi hb m];refine congrArg Ve (congrArg HO.dK (iP λj _=>?_));by_cases e:j=i
  ·rw[e,fw];unfold cV;rw[if_pos hz,en]
  rw[jv _ _ e]
 ·rcases Mp.mp hj with hj|hj
  ·obtain⟨h1,h2,h3⟩:=C.l j hj z;exact⟨h1,h2,ag h2 h3⟩
  rw[Mq.mp hj,hz]at z;cases z
 rcases Mp.mp ha with ha|ha
 ·rcases Mp.mp hb' with hb'|hb'
  ·exact C.i a ha b hb' za zb e
  rw[Mq.mp hb',hz]at zb;cases zb
 rw[Mq.mp ha,hz]at za;cases za
theorem Vu.lst{H H2 H3:Hp}{c u:OW}{la:Nat->OW}{k:S}{ix:List Nat}{i:Nat}(C:Vu E H H2 c la k ix)(O:E.Ok)(c0:H c=Vf)(hi:i<25)(hb:∀j∈ix,j<25)(m:i∉ix)(hz:0<E.sz i)(s3:ao H2 H3)(u0:H2 u=Vf)(hu:H3 u=Ve (.lst ((k.lst i).map V.int))) :
  Vu E H (upd H3 c (.dK (Vj (dk E.N ix (cV E la k.num)) (.inr (E.N i)) (.ref u)))) c (laP la i u) k (ix++[i]):=by
 have uc:u≠c:=λw=>by rw[w,C.hc]at u0;cases u0
 have ne:∀j∈ix,j≠i:=λj hj z=>m (z▸hj)
 refine⟨ao.out (C.s.trans s3) c0 _,?_,λj hj z=>?_,λa ha b hb' za zb e=>?_⟩
 ·rw[aj,iT O.D hi hb m];refine congrArg Ve (congrArg HO.dK (iP λj _=>?_));unfold cV;by_cases e:j=i
  ·rw[e,fw,if_neg (),AM]
  rw[jv _ _ e,vm _ _ e]
 ·rcases Mp.mp hj with hj|hj
  ·obtain⟨h1,h2,h3⟩:=C.l j hj z;rw[vm _ _ (ne j hj)];exact⟨h1,h2,ag h2 (s3 _ _ h3)⟩
  rw[Mq.mp hj,AM];exact⟨ao.free C.s u0,uc,ag uc hu⟩
 have nu:∀j∈ix,0<E.sz j->la j≠u:=λj hj z w=>by
  have:=(C.l j hj z).2.2;rw[w,u0]at this;cases this
 rcases Mp.mp ha with ha|ha
 ·rcases Mp.mp hb' with hb'|hb'
  ·rw[vm _ _ (ne a ha),vm _ _ (ne b hb')]at e;exact C.i a ha b hb' za zb e
  rw[Mq.mp hb',vm _ _ (ne a ha),AM]at e;exact absurd e (nu a ha za)
 rcases Mp.mp hb' with hb'|hb'
 ·rw[Mq.mp ha,AM,vm _ _ (ne b hb')]at e;exact absurd e.symm (nu b hb' zb)
 rw[Mq.mp ha,Mq.mp hb']
structure Pa where
 pa:OW
 dp:OW
 hd:OW
 dd:OW
 mn:OW
def JI(A:Adr)(N:Nat->Str)(X:Hp)(v:V)(D:Dd):Prop:=∃a dx n pp pb,v=.ref a/\X a=Ve (.ins A.cj dx [("number",n),("name",.str (N D.nm)),("parts",.ref pp),("body",.ref pb)])/\X pp=Ve (.lst (D.parts.map λi=>V.str (N i)))
structure xh(A:Adr)(E:En)(H:Hp)(p:Pa)(hv:List V)(hs:List Hd)(xs:List V):Prop where
 pr:H p.pa=Ve (.ins A.Program p.dp [("heads",.ref p.hd),("deeds",.ref p.dd),("main",.ref p.mn)])
 hd:H p.hd=Ve (.lst hv)
 dd:H p.dd=Ve (.lst E.dv)
 mn:H p.mn=Ve (.lst xs)
 h:Paired (ux A E.N H) hv hs
 d:Paired (JI A E.N H) E.dv E.ds
 l:hv.length<=64
theorem xh.same(s:ao H H')(R:xh A E H p hv hs xs):xh A E H' p hv hs xs:=⟨s _ _ R.pr,s _ _ R.hd,s _ _ R.dd,s _ _ R.mn,Paired.cI R.h λ_ _=>ux.same s,Paired.cI R.d λ_ _ ⟨a,dx,n,pp,pb,e,h1,h2⟩=>⟨a,dx,n,pp,pb,e,s _ _ h1,s _ _ h2⟩,R.l⟩
theorem Vp{α:Type}{ks:List α}{i:Nat}{j:α}(h:ks[i]?=Ve j):ks.take (i+1)=ks.take i++[j]:=by
 rw[Nf,h];rfl
theorem Im(h:Hd.giv i z∈hs):isG hs i=true:=by
 unfold isG;rw[Ni];exact⟨_,h,by simp⟩
theorem sJ{α:Type}{f:α->List Nat}{xs:List α}{i:Nat}{x:α}(h:xs[i]?=Ve x):xs.flatMap f=(xs.take i).flatMap f++(f x++(xs.drop (i+1)).flatMap f):=by
 have e:xs=xs.take i++x::xs.drop (i+1):=by rw[<-rE h,ND]
 conv=>lhs;rw[e]
 rw[Np,MG]
theorem vX(e:L=xs++(x::ys)++zs)(nd:L.Nodup):x∉xs/\(∀j∈xs,j∈L)/\x∈L:=by
 subst e;refine⟨λm=>?_,λj hj=>by simp[hj],by simp⟩;rw[MK]at nd;exact(MP.mp nd).2.2 x m x (by simp) rfl
theorem HY(nd:(hs.flatMap Hd.cell).Nodup)(h:Hd.own i z∈hs):isG hs i=false:=by
 cases e:isG hs i with
 |false=>rfl
 |true=>
  exfalso;unfold isG at e;rw[Ni]at e;obtain⟨g,hg,eg⟩:=e;obtain⟨y,rfl⟩:∃y,g=.giv i y:=by
   cases g with
   |giv j y=>exact⟨y,by rw[of_decide_eq_true eg]⟩
   |_=>cases eg
  obtain⟨a,ha⟩:=ME h;obtain⟨b,hb⟩:=ME hg;have ne:a≠b:=λz=>by rw[z,hb]at ha;cases ha
  have key:∀{a b:Nat}{p q:Hd},hs[a]?=Ve p->hs[b]?=Ve q->a<b->i∈p.cell->i∈q.cell->False:=λ{a b p q} ha hb lt m1 m2=>by
   rw[sJ hb]at nd;have:i∈(hs.take b).flatMap Hd.cell:=Nj.mpr ⟨p,Mr (by rw[Rz lt];exact ha),m1⟩;exact(MP.mp nd).2.2 i this i (MN _ m2) rfl
  rcases Nat.lt_or_gt_of_ne ne with lt|lt
  ·exact key ha hb lt (by simp[Hd.cell]) (by simp[Hd.cell])
  exact key hb ha lt (by simp[Hd.cell]) (by simp[Hd.cell])
inductive yw(A:Adr)(E:En)(vs:List V)(H:Hp)(Q:VK)(Z:XK):Prop
 |mk(p:Pa)(g:OW)(hv xs:List V)(hs:List Hd)(gn:Nat->Int)(gl:Nat->List Int):vs=[.ref p.pa,.ref g]->xh A E H p hv hs xs->Hds E hs->mO E hs H g gn gl->(∀c la H',H c=Vf->Vu E H H' c la (S.new E hs gn gl) E.idx->Q (.ref c) H')->yw A E vs H Q Z
theorem F5(T:Txt K mg A)(O:E.Ok):T.sI.Hz P w base 4 (yw A E):=by
 refine T.sI.hs gQ (λf cdv A' outer s H vs Q E' hr hu h=>?_);obtain⟨p,g,hv,xs,hs,gn,gl,rfl,R,Z,G,q⟩:=h;refine⟨_,(ab (pst 2 gQ.nd (fK))
 (ab (cR O9 rfl (cA (aI (fv 0) rfl)) (pgn (i:=3) gQ.nd rfl)
  (ah (aP (bR (pcB bD T.aH (fv 3^cU T.aL.mg^af)) (λ_=>rfl))
   (ah (bA (ar (FK T) hr (fv 3^fv 1^af)) (bz (fv 2) (aI (fv 3) rfl) (bB hu Vi))))
   (ah (aP (bR (pcB bD T.aH (fv 3^cU T.bj.mg^af)) (λ_=>rfl))
    (ah (bA (ar (JM T) hr (fv 3^af)) (bz (fv 2) (aI (fv 3) rfl) (bB hu Vi))))
    aD)))))
 (ab (cR O9 rfl (cA (aI (fv 0) rfl)) (pgn (i:=4) gQ.nd rfl)
  (ah (cR O9 rfl (cA (aI (fv 4) rfl)) (pgn (i:=5) gQ.nd rfl)
   (ah (bA ae (bz (fv 2) (fv 5) (bB hu Vi)))))))
 (ah (aA (fv 2)))))),?_⟩
 refine aq λM1 K1 c hc=>?_;have C1:Vu E H (upd H c (HO.dK [])) c (λ_=>0) (S.new E hs gn gl) []:=⟨ao.upd hc _,aj,λ_ h=>(by cases h),λ_ h=>(by cases h)⟩;generalize upd H c (HO.dK [])=H1 at C1⊢;refine K1 _ _ (aq λM2 K2=>fdI (C1.s _ _ R.pr) T.dW.cl T.cZ rfl (Mt ⟨⟨_,SqL.of (C1.s _ _ R.hd)⟩,dI (K:=K) (xs:=hv) (λi σ H2=>(∃la,Vu E H H2 c la (S.new E hs gn gl) ((hs.take i).flatMap Hd.cell))/\∃v,σ=[Ve (.ref p.pa),Ve (.ref g),Ve (.ref c),v,Vf,Vf]) ⟨⟨_,C1⟩,Vf,rfl⟩ (λi σ H2 _ h=>by obtain⟨⟨la,C⟩,_⟩:=h;exact SqL.of (C.s _ _ R.hd)) ?_ ?_⟩))
 ·rintro i v σ H2 hx ⟨⟨la,C⟩,z,rfl⟩;obtain⟨h,hh,W⟩:=bb R.h hx;have hm:=Mr hh;have W2:=W.same C.s;have eL:E.idx=(hs.take i).flatMap Hd.cell++(h.cell++(hs.drop (i+1)).flatMap Hd.cell)++E.ds.flatMap Dd.parts:=by rw[Z.e,sJ hh]
  rw[show(hs.take (i+1)).flatMap Hd.cell=(hs.take i).flatMap Hd.cell++h.cell by rw[Vp hh,Np];simp];have ndh:(hs.flatMap Hd.cell).Nodup:=by
   have:=O.nd;rw[Z.e]at this;exact(MP.mp this).1
  generalize (hs.take i).flatMap Hd.cell=ix at C eL⊢;have llen:∀(g:Nat->V),(dk E.N ix g).length<sizeLine:=λg=>ay (by
   rw[fP];have:=O.len;rw[eL,Mn,Mn]at this;omega)
  cases h with
  |hand x=>
   obtain⟨a,dx,n,rk,rfl,ha⟩:=W2;exact isB (T.bM.bP ha) (bZ T.bM T.aL (au T 2 1) (au T 2 0)) (bu (isB (T.bM.bP ha) (bZ T.bM T.bj (au T 3 1) (au T 3 0)) (bu ⟨⟨la,by rw[show Hd.cell (.hand x)=[]from rfl,MR];exact C⟩,_,rfl⟩)))
  |lt x=>
   obtain⟨a,dx,n,rk,rfl,ha⟩:=W2;exact isB (T.cc.bP ha) (bZ T.cc T.aL (au T 2 4) (au T 2 0)) (bu (isB (T.cc.bP ha) (bZ T.cc T.bj (au T 3 4) (au T 3 0)) (bu ⟨⟨la,by rw[show Hd.cell (.lt x)=[]from rfl,MR];exact C⟩,_,rfl⟩)))
  |giv x zz=>
   obtain⟨n1,n2,n3⟩:=vX (x:=x) eL O.nd;have hb:∀j∈ix,j<25:=λj hj=>O.b j (n2 j hj);have ez:=Z.g x zz hm;have ig:=Im hm;obtain⟨a,dx,n,rk,rfl,ha⟩:=W2;obtain⟨kvs,k1,k2⟩:=(G.same C.s).d;have zl:=O.z x;rw[ez]at zl;refine isB (T.aL.bP ha) (nN T.aL) (dz ?_);by_cases z0:zz=0
   ·have e0:=(k2 x zz hm).1 z0;exact⟨a,g,dx,_,_,_,zz,kvs,_,rfl,ha,k1,e0,Mt ⟨z0,_,rfl,G.n x,fdI ha T.aL.cl T.cx rfl ⟨_,cW.k (k:=.inr (E.N x)) C.hc (llen _),⟨⟨la,C.num O hc (O.b x n3) hb n1 (by rw[ez,z0]) (by show(if isG hs x=true then gn x else 0)=_;rw[if_pos ig])⟩,_,rfl⟩⟩⟩⟩
   obtain⟨l,e0,e1,e2⟩:=(k2 x zz hm).2 ();exact⟨a,g,dx,_,_,_,zz,kvs,_,rfl,ha,k1,e0,MJ ⟨(),zl,l,_,rfl,e1,e2,G.l x,λu H3 s3 u0 hu3=>fdI (s3 _ _ ha) T.aL.cl T.cx rfl ⟨_,cW.k (k:=.inr (E.N x)) (s3 _ _ C.hc) (llen _),⟨⟨_,C.lst O hc (O.b x n3) hb n1 (by rw[ez];omega) s3 u0 (by rw[hu3];show _=Ve (HO.lst ((if isG hs x=true then gl x else Vz (E.sz x)).map V.int));rw[if_pos ig])⟩,_,rfl⟩⟩⟩⟩
  |own x zz=>
   obtain⟨n1,n2,n3⟩:=vX (x:=x) eL O.nd;have hb:∀j∈ix,j<25:=λj hj=>O.b j (n2 j hj);have ez:=Z.o x zz hm;have ig:=HY ndh hm;obtain⟨a,dx,n,rfl,ha⟩:=W2;have zl:=O.z x;rw[ez]at zl;refine isB (T.bj.bP ha) (bZ T.bj T.aL (au T 2 3) (au T 2 0)) (bu (isB (T.bj.bP ha) (nN T.bj) (dz ⟨a,dx,_,zz,_,rfl,zl,ha,λz0=>?_,λz0 u H3 s3 u0 hu3=>?_⟩)))
   ·exact fdI ha T.bj.cl T.dX rfl ⟨_,cW.k (k:=.inr (E.N x)) C.hc (llen _),⟨⟨la,C.num O hc (O.b x n3) hb n1 (by rw[ez,z0]) (by show(if isG hs x=true then gn x else 0)=_;rw[ig];rfl)⟩,_,rfl⟩⟩
   exact fdI (s3 _ _ ha) T.bj.cl T.dX rfl ⟨_,cW.k (k:=.inr (E.N x)) (s3 _ _ C.hc) (llen _),⟨⟨_,C.lst O hc (O.b x n3) hb n1 (by rw[ez];omega) s3 u0 (by rw[hu3];show _=Ve (HO.lst ((if isG hs x=true then gl x else Vz (E.sz x)).map V.int));rw[ig,if_neg Mw,ez])⟩,_,rfl⟩⟩
 rintro σ H2 ⟨⟨la,C⟩,z,rfl⟩;rw[O3 R.h,Nc]at C;refine K2 _ _ (aq λM3 K3=>fdI (C.s _ _ R.pr) T.dW.cl T.fi rfl (Mt ⟨⟨_,SqL.of (C.s _ _ R.dd)⟩,dI (K:=K) (xs:=E.dv) (λi σ H3=>Vu E H H3 c la (S.new E hs gn gl) (hs.flatMap Hd.cell++(E.ds.take i).flatMap Dd.parts)/\∃z4 z5,σ=[Ve (.ref p.pa),Ve (.ref g),Ve (.ref c),z,z4,z5]) ⟨by rw[Oh,NX,MR];exact C,Vf,Vf,rfl⟩ (λi σ H3 _ h=>SqL.of (h.1.s _ _ R.dd)) ?_ ?_⟩))
 ·rintro i u σ H3 hx ⟨C3,z4,z5,rfl⟩;obtain⟨D,hD,a,dx,n,pp,pb,rfl,ha,hp⟩:=bb R.d hx;refine fdI (C3.s _ _ ha) T.f9.cl T.eZ rfl (Mt ⟨⟨_,SqL.of (C3.s _ _ hp)⟩,dI (K:=K) (xs:=D.parts.map λi=>V.str (E.N i)) (λj σ H4=>Vu E H H4 c la (S.new E hs gn gl) (hs.flatMap Hd.cell++(E.ds.take i).flatMap Dd.parts++D.parts.take j)/\∃z5,σ=[Ve (.ref p.pa),Ve (.ref g),Ve (.ref c),z,Ve (.ref a),z5]) ⟨by rw[Oh,MR];exact C3,_,rfl⟩ (λi σ H4 _ h=>SqL.of (h.1.s _ _ hp)) ?_ ?_⟩)
  ·rintro j u σ H4 hu' ⟨C4,z6,rfl⟩;rw[Mu]at hu';cases hj:D.parts[j]? with
   |none=>rw[hj]at hu';cases hu'
   |some x=>
    rw[hj]at hu';cases hu';have eL:E.idx=(hs.flatMap Hd.cell++(E.ds.take i).flatMap Dd.parts++D.parts.take j)++(x::D.parts.drop (j+1))++(E.ds.drop (i+1)).flatMap Dd.parts:=by
     rw[Z.e,sJ hD,<-rE hj,MK,MK,MK,<-MK (D.parts.take j),ND]
    obtain⟨n1,n2,n3⟩:=vX (x:=x) eL O.nd;obtain⟨x1,x2⟩:=O.pt D (Mr hD) x (Mr hj);have ng:isG hs x=false:=by
     cases e:isG hs x with
     |false=>rfl
     |true=>
      exfalso;unfold isG at e;rw[Ni]at e;obtain⟨gg,hg,eg⟩:=e;refine n1 (MN _ (MN _ (Nj.mpr ⟨gg,hg,?_⟩)));cases gg with
      |giv j y=>rw[of_decide_eq_true eg];simp[Hd.cell]
      |_=>cases eg
    have llen:(dk E.N (hs.flatMap Hd.cell++(E.ds.take i).flatMap Dd.parts++D.parts.take j) (cV E la (S.new E hs gn gl).num)).length<sizeLine:=ay (by
     rw[fP];have:=O.len;rw[eL,Mn,Mn]at this;omega)
    refine⟨_,cW.k (k:=.inr (E.N x)) C4.hc llen,?_⟩;rw[Vp hj,<-MK];exact⟨C4.num O hc (O.b x n3) (λj hj=>O.b j (n2 j hj)) n1 x2 (by show(if isG hs x=true then gn x else 0)=_;rw[ng];rfl),_,rfl⟩
  rintro σ H4 ⟨C4,z6,rfl⟩;rw[Mj,Nc]at C4;refine⟨?_,_,_,rfl⟩;rw[Vp hD,Np,<-MK,show List.flatMap Dd.parts [D]=D.parts by simp];exact C4
 rintro σ H3 ⟨C3,z4,z5,rfl⟩;refine K3 _ _ ?_;rw[O3 R.d,Nc,<-Z.e]at C3;exact q c la H3 hc C3
end
section
variable{P:Program}{w:O7}{K:OZ}{mg:Str->Option OX}{base:Pk}{A:Adr}{E:En}{N:Nat->Str}
structure FW(A:Adr)(H:Hp)(x dx l sd t e:OW):Prop where
 b:H x=Ve (.ins A.fB dx [("letters",.ref l),("said",.ref sd),("trace",.ref t),("steps",.int 0),("ends",.ref e)])
 hl:H l=Ve (.lst [])
 hs:H sd=Ve (.lst [])
 ht:H t=Ve (.lst [])
 tl:t≠l
 dt:sd≠t
 dl:sd≠l
 he:H e=Ve (.dK [])
inductive pD(A:Adr)(vs:List V)(H:Hp)(Q:VK)(Z:XK):Prop
 |mk(x:_)(dx:_):vs=[.ref x]->H x=Ve (.ins A.fB dx [])->(∀(l sd t e:OW)(H':Hp),H l=Vf->H sd=Vf->H t=Vf->H e=Vf->But x H H'->FW A H' x dx l sd t e->Q .non H')->pD A vs H Q Z
theorem yQ(T:Txt K mg A):T.mU.Hz P w mg base 1 (pD A):=by
 refine T.mU.hs (k:=0) xj (λf cdv A' outer s H vs Q E hr hu h=>?_);obtain⟨x,dx,rfl,hx,q⟩:=h;refine⟨_,(ab (aY (fv 0) (bI af) rfl)
 (ab (aY (fv 0) (bI af) rfl)
 (ab (aY (fv 0) (bI af) rfl)
 (ab (aY (fv 0) ae rfl)
 (ah (aY (fv 0) (fK) rfl)))))),?_⟩
 have of:∀{b},b≠x->(if b=x then Vf else H b)=H b:=λh=>if_neg h;have a:IA K (λb=>if b=x then Vf else H b) x A.fB dx [] 0 [] H:=⟨λb o h=>by
  by_cases e:b=x
  ·rw[if_pos e]at h;cases h
  rwa [of e]at h,hx,trivial,if_pos rfl,T.fQ.cl,Mo _⟩
 refine⟨MB _,λl hl=>?_⟩;replace a:=a.nw hl (.lst []);refine a.fld T.d6 λH a=>⟨MB _,λsd hs=>?_⟩;have dl:sd≠l:=Vh hs a.k.1.1;replace a:=a.nw hs (.lst []);refine a.fld T.l6 λH a=>⟨MB _,λt ht=>?_⟩;have tl:t≠l:=Vh ht a.k.2.1.1;have ts:sd≠t:=(Vh ht a.k.1.1).symm;replace a:=a.nw ht (.lst []);refine a.fld T.kO λH a=>a.fld T.eO λH a=>λe he=>?_;replace a:=a.nw he (.dK []);refine a.fld T.mN λH a=>?_;obtain⟨⟨k1,x1,e1⟩,⟨k2,x2,e2⟩,⟨k3,x3,e3⟩,⟨k4,x4,e4⟩,_⟩:=a.k;exact q l sd t e _ ((of x4).symm.trans e4) ((of x3).symm.trans e3) ((of x2).symm.trans e2) ((of x1).symm.trans e1) (λb hb o h=>a.s b o ((of hb).trans h)) ⟨a.i,k4,k3,k2,tl,ts,dl,k1⟩
theorem vf:∀{idx:List Nat}{ys:List V},Paired (λj y=>∃t,y=V.ref t/\H t=Ve (.tup [.str (N j),f j])) idx ys->∃ps:List OW,ys=ps.map V.ref/\ps.length=idx.length/\∀(i:Nat) t k v,ps[i]?=Ve t->(dk N idx f)[i]?=Ve (k,v)->SqT K H t [kV k,v]
 |_,_,.nil=>⟨[],rfl,rfl,λi t k v h=>by cases h⟩
 |j::idx,y::ys,.cons ⟨t,e,ht⟩ r=>by
  obtain⟨ps,h1,h2,h3⟩:=vf r;refine⟨t::ps,by rw[e,h1];rfl,by simp[h2],λi t' k v a b=>?_⟩;cases i with
  |zero=>
   have a':t=t':=O1 a;have b':((Nr (N j):Key),f j)=(k,v):=O1 b;cases b';rw[<-a'];exact SqT.of ht
  |succ i=>exact h3 i t' k v a b
noncomputable def uQ(A:Adr)(H:Hp):V->Bool
 | .ref a=>match H a with
  |some (.ins C _ _)=>decide (C=A.bG)
  |_=>false
 |_=>false
theorem eT(h:H a=Ve (.ins C dx fs)):uQ A H (.ref a)=decide (C=A.bG):=by
 unfold uQ;simp only[h]
theorem Kr(O:E.Ok){i:Nat}{D:Dd}{v:V}(h1:E.ds[i]?=Ve D)(h2:E.dv[i]?=Ve v):dG E D.nm=v:=by
 obtain⟨q,e1,e2⟩:=rY O.dd h1 h2;unfold dG;rw[e1];exact e2
inductive qF(A:Adr)(E:En)(vs:List V)(H:Hp)(Q:VK)(Z:XK):Prop
 |mk(s ds c:OW)(p:Pa)(hv xs:List V)(hs:List Hd)(la:Nat->OW)(k:S):vs=[.ref s,.ref p.pa,.ref c]->H s=Ve (.ins A.Run ds [])->xh A E H p hv hs xs->H c=Ve (.dK (dk E.N E.idx (cV E la k.num)))->(∀i∈E.ls,la i≠c/\H (la i)=Ve (.lst ((k.lst i).map V.int)))->(∀i∈E.ls,∀j∈E.ls,la i=la j->i=j)->k.ok E->k.steps=0->k.trace=[]->k.eR=[]->k.wX=[]->(∀(d b db sd e t l:OW)(H':Hp),But s H H'->H b=Vf->H t=Vf->H l=Vf->H sd=Vf->bp A E H' ⟨s,ds,d,c,b,db,sd,e,t,l,la⟩ k->Q .non H')->qF A E vs H Q Z
theorem uW:∀{xs:List Nat},xs.Nodup->(∀i∈xs,∀j∈xs,la i=la j->i=j)->(xs.map la).Nodup
 | [],_,_=>U5
 |x::r,nd,h=>by
  rw[Mx]at nd;rw[Mv,Mx];refine⟨λm=>?_,uW nd.2 λi hi j hj=>h i (Mi _ hi) j (Mi _ hj)⟩;obtain⟨j,hj,e⟩:=Mz.mp m;rw[<-h j (Mi _ hj) x Mg e]at nd;exact nd.1 hj
theorem Aq(T:Txt K mg A)(O:E.Ok):T.oo.Hz P w mg base 3 (qF A E):=by
 refine T.oo.hs (k:=2) qA (λf cdv A' outer s' H vs Q E' hr hu h=>?_);obtain⟨s,ds,c,p,hv,xs,hs0,la,k,rfl,hs,R,G,hL,hI,ok,k1,k2,k3,k4,q⟩:=h;refine⟨_,(ab (aY (fv 0) (fK) rfl)
 (ab (cR O9 rfl (cA (aI (fv 1) rfl)) (pgn (i:=3) qA.nd rfl)
  (ah (bA (fv 3) (bz (aI (fv 0) rfl) (aI (fv 3) rfl) (bB hu Vi)))))
 (ab (aY (fv 0) (fv 2) rfl)
 (ah (aY (fv 0) (Cu T.fQ (yQ T) hr) rfl))))),?_⟩
 refine λd hd=>?_;have sm1:=ao.upd hd (HO.dK []);have ds0:d≠s:=λz=>by rw[z,hs]at hd;cases hd
 refine⟨s,_,ds,_,rfl,sm1 _ _ hs,T.bV.cl,T.jo,by simp,?_⟩;have b2:But s H (upd (upd H d (HO.dK [])) s (.ins A.Run ds (eF "deeds" (.ref d) []))):=(But.of sm1).trans (But.at s _ _);have x2:(upd (upd H d (HO.dK [])) s (.ins A.Run ds (eF "deeds" (.ref d) []))) s=Ve (.ins A.Run ds [("deeds",.ref d)]):=aj;have d2:(upd (upd H d (HO.dK [])) s (.ins A.Run ds (eF "deeds" (.ref d) []))) d=Ve (.dK []):=by rw[aw ds0];exact aj
 generalize upd (upd H d (HO.dK [])) s (.ins A.Run ds (eF "deeds" (.ref d) []))=H2 at b2 x2 d2⊢;have ps:p.pa≠s:=λz=>by have:=R.pr;rw[z,hs]at this;exact absurd (HO.ins.inj (O1 this)).1 (au T 16 14)
 have dds:p.dd≠s:=λz=>by have:=R.dd;rw[z,hs]at this;cases this
 refine fdI (b2 _ ps _ R.pr) T.dW.cl T.fi rfl (Mt ⟨⟨_,SqL.of (b2 _ dds _ R.dd)⟩,dI (K:=K) (xs:=E.dv) (λi σ H3=>But s H H3/\H3 s=Ve (.ins A.Run ds [("deeds",.ref d)])/\H3 d=Ve (.dK (dk E.N ((E.ds.take i).map Dd.nm) (dG E)))/\∃v,σ=[Ve (.ref s),Ve (.ref p.pa),Ve (.ref c),v]) ⟨b2,x2,d2,_,rfl⟩ (λi σ H3 _ h=>SqL.of (h.1 _ dds _ R.dd)) ?_ ?_⟩)
 ·rintro i u σ H3 hx ⟨b3,x3,d3,z,rfl⟩;obtain⟨D,hD,a,dx,n,pp,pb,rfl,ha,_⟩:=bb R.d hx;have as:a≠s:=λz=>by rw[z,hs]at ha;exact absurd (HO.ins.inj (O1 ha)).1 (au T 16 13)
  have il:i<E.ds.length:=(Ml.mp hD).1;have dl:=O.dl;refine fdI x3 T.bV.cl T.jo rfl (fdI (b3 _ as _ ha) T.f9.cl T.jc rfl ⟨_,cW.k (k:=.inr (E.N D.nm)) d3 (ay (by rw[fP,Mj,Nb];omega)),⟨λb hb o hq=>by rw[aw (cz hq hd)];exact b3 b hb o hq,by rw[aw (Nm ds0)];exact x3,?_,_,rfl⟩⟩);have nm:∀j∈(E.ds.take i).map Dd.nm,j<25:=λj hj=>by
   obtain⟨d',hd',rfl⟩:=Mz.mp hj;exact O.dn d' (SE hd')
  have nn:D.nm∉(E.ds.take i).map Dd.nm:=λhj=>by
   have:=O.dd;rw[show E.ds=E.ds.take i++D::E.ds.drop (i+1) by rw[<-rE hD,ND],MI,Mv]at this;exact(MP.mp this).2.2 _ hj _ Mg rfl
  rw[aj,iT O.D (O.dn D (Mr hD)) nm nn,Vp hD,MI];refine congrArg Ve (congrArg HO.dK (iP λj _=>?_));by_cases e:j=D.nm
  ·rw[e,fw,Kr O hD hx]
  rw[jv _ _ e]
 rintro σ H3 ⟨b3,x3,d3,z,rfl⟩;rw[show E.dv.length=E.ds.length from O.dv,Nc]at d3;refine⟨s,_,ds,_,rfl,x3,T.bV.cl,T.dg,by simp,?_⟩;have b4:But s H (upd H3 s (.ins A.Run ds (eF "cells" (.ref c) [("deeds",.ref d)]))):=b3.trans (But.at s _ _);have x4:(upd H3 s (.ins A.Run ds (eF "cells" (.ref c) [("deeds",.ref d)]))) s=Ve (.ins A.Run ds [("deeds",.ref d),("cells",.ref c)]):=aj;have d4:(upd H3 s (.ins A.Run ds (eF "cells" (.ref c) [("deeds",.ref d)]))) d=Ve (.dK (dk E.N (E.ds.map Dd.nm) (dG E))):=by rw[aw ds0];exact d3
 generalize upd H3 s (.ins A.Run ds (eF "cells" (.ref c) [("deeds",.ref d)]))=H4 at b4 x4 d4⊢;refine λb db hb hdb hne=>⟨b,db,rfl,aj,λl sd t e H5 nl ns nt _ bt nb=>⟨rfl,?_⟩⟩;have sm5:ao H4 H5:=But.same bt hb hdb;have l4:=ji hb hdb nl;have t4:=ji hb hdb nt;have sd4:=ji hb hdb ns;have ne4:∀{x y:OW}{o:HO},H4 x=Vf->H4 y=Ve o->x≠y:=λh1 h2 z=>by rw[z,h2]at h1;cases h1
 have cs:c≠s:=λz=>by rw[z,hs]at G;cases G
 have c4:=b4 _ cs _ G;have las:∀i∈E.ls,la i≠s:=λi hi z=>by have:=(hL i hi).2;rw[z,hs]at this;cases this
 have la4:∀i∈E.ls,H4 (la i)=Ve (.lst ((k.lst i).map V.int)):=λi hi=>b4 _ (las i hi) _ (hL i hi).2;have bs:=ne4 hb x4;have ls:=ne4 l4 x4;have ts:=ne4 t4 x4;have ss:=ne4 sd4 x4;have cd:d≠c:=λz=>by rw[z,G]at hd;cases hd
 refine⟨s,_,ds,_,rfl,sm5 _ _ x4,T.bV.cl,T.ja,by simp,?_⟩;have up:∀{x:OW}{o:HO},x≠s->H5 x=Ve o->(upd H5 s (.ins A.Run ds (eF "book" (.ref b) [("deeds",.ref d),("cells",.ref c)]))) x=Ve o:=λh1 h2=>ag h1 h2;have bt':b≠t:=λz=>by have:=nb.b;rw[z,nb.ht]at this;cases this
 have bl':b≠l:=λz=>by have:=nb.b;rw[z,nb.hl]at this;cases this
 have bd':b≠sd:=λz=>by have:=nb.b;rw[z,nb.hs]at this;cases this
 have db':d≠b:=(ne4 hb d4).symm;have dt':d≠t:=(ne4 t4 d4).symm;have dl':d≠l:=(ne4 l4 d4).symm;have dd':d≠sd:=(ne4 sd4 d4).symm;have sM:s∉Ra.M ⟨s,ds,d,c,b,db,sd,e,t,l,la⟩ E:=λm=>by
  unfold Ra.M at m;rcases Mp.mp m with m|m
  ·simp only[Mf,Ms,or_false]at m;rcases m with z|z|z|z|z
   ·exact bs z.symm
   ·exact cs z.symm
   ·exact ts z.symm
   ·exact ls z.symm
   exact ss z.symm
  obtain⟨i,hi,z⟩:=Mz.mp m;exact las i hi z
 have dM:d∉Ra.M ⟨s,ds,d,c,b,db,sd,e,t,l,la⟩ E:=λm=>by
  unfold Ra.M at m;rcases Mp.mp m with m|m
  ·simp only[Mf,Ms,or_false]at m;rcases m with z|z|z|z|z
   ·exact db' z
   ·exact cd z
   ·exact dt' z
   ·exact dl' z
   exact dd' z
  obtain⟨i,hi,z⟩:=Mz.mp m;have:=la4 i hi;rw[show la i=d from z,d4]at this;cases this
 have lsn:E.ls.Nodup:=O.nd.sublist List.filter_sublist;have nod:(Ra.M ⟨s,ds,d,c,b,db,sd,e,t,l,la⟩ E).Nodup:=by
  unfold Ra.M;refine MP.mpr ⟨?_,uW lsn hI,λx hx y hy z=>?_⟩
  ·simp[ne4 hb c4,bt',bl',bd',(ne4 t4 c4).symm,(ne4 l4 c4).symm,(ne4 sd4 c4).symm,nb.tl,Nm nb.dt,Nm nb.dl]
  obtain⟨i,hi,rfl⟩:=Mz.mp hy;have l1:=la4 i hi;simp only[Mf,Ms,or_false]at hx;rcases hx with w|w|w|w|w
  ·exact ne4 hb l1 (w.symm.trans z)
  ·exact(hL i hi).1 (z.symm.trans w)
  ·exact ne4 t4 l1 (w.symm.trans z)
  ·exact ne4 l4 l1 (w.symm.trans z)
  exact ne4 sd4 l1 (w.symm.trans z)
 refine q d b db sd e t l _ ((b4.trans (But.of sm5)).trans (But.at s _ _)) (b4.none bs hb) (b4.none ts t4) (b4.none ls l4) (b4.none ss sd4) ⟨nod,aQ sM aj,aQ dM (up ds0 (sm5 _ _ d4)),?_,up cs (sm5 _ _ c4),⟨[],up ts nb.ht,by rw[k2];exact .nil⟩,⟨[],up ls nb.hl,by rw[k3];exact .nil⟩,⟨[],up ss nb.hs,by rw[k4];exact .nil⟩,λi hi=>up (las i hi) (sm5 _ _ (la4 i hi)),ok⟩;show _=Ve (HO.ins A.fB db [("letters",.ref l),("said",.ref sd),("trace",.ref t),("steps",.int k.steps),("ends",.ref e)]);rw[k1];exact up bs nb.b
noncomputable def Hd.own?:Hd->List Nat
 | .own i _=>[i]
 |_=>[]
theorem pw(T:Txt K mg A){H H2:Hp}{f:Nat->V}{S0:List Hd}:∀{hv:List V}{hs:List Hd}{ys:List V},(∀h∈hs,h∈S0)->Paired (ux A N H) hv hs->Paired (λx y=>∀i z,Hd.own i z∈S0->ux A N H x (.own i z)->∃t,y=V.ref t/\H2 t=Ve (.tup [.str (N i),f i])) (hv.filter (uQ A H)) ys->Paired (λj y=>∃t,y=V.ref t/\H2 t=Ve (.tup [.str (N j),f j])) (hs.flatMap Hd.own?) ys
 |_,_,_,_,.nil,h=>by
  cases h;exact .nil
 |v::hv,h::hs,ys,sb,.cons p r,q=>by
  have sb':∀h∈hs,h∈S0:=λh m=>sb h (Mi _ m);rw[MG];have no:∀{C:OW}{a dx:OW}{fs:List (Str×V)},v=.ref a->H a=Ve (.ins C dx fs)->C≠A.bG->uQ A H v=false:=λe h n=>by rw[e,eT h,decide_eq_false n]
  cases h with
  |hand x=>
   obtain⟨a,dx,n,rk,e,ha⟩:=p;rw[MZ,no e ha (show A.bT≠A.bG from au T 1 3)]at q;exact pw T sb' r q
  |giv x z=>
   obtain⟨a,dx,n,rk,e,ha⟩:=p;rw[MZ,no e ha (show A.aN≠A.bG from au T 2 3)]at q;exact pw T sb' r q
  |lt x=>
   obtain⟨a,dx,n,rk,e,ha⟩:=p;rw[MZ,no e ha (show A.cH≠A.bG from au T 4 3)]at q;exact pw T sb' r q
  |own x z=>
   have p0:=p;obtain⟨a,dx,n,e,ha⟩:=p;rw[MZ,show uQ A H v=true by rw[e,eT ha,decide_eq_true rfl],if_pos rfl]at q;cases q with
   |cons h1 h2=>exact .cons (h1 x z (sb _ Mg) p0) (pw T sb' r h2)
end
section
variable{P:Program}{w:O7}{K:OZ}{mg:Str->Option OX}{base:Pk}{A:Adr}{E:En}
noncomputable def Vq(hs:List Hd):List Nat:=hs.flatMap Hd.own?
inductive A7(A:Adr)(E:En)(vs:List V)(H:Hp)(Q:VK)(Z:XK):Prop
 |mk(p:Pa)(c:OW)(hv xs:List V)(hs:List Hd)(f:Nat->V):vs=[.ref p.pa,.ref c]->xh A E H p hv hs xs->Hds E hs->H c=Ve (.dK (dk E.N E.idx f))->(∀e H',ao H H'->H e=Vf->H' e=Ve (.dK (dk E.N (Vq hs) f))->Q (.ref e) H')->A7 A E vs H Q Z
theorem rT(Z:Hds E hs):∀i∈Vq hs,i∈E.idx:=λi hi=>by
 obtain⟨h,hm,m⟩:=Nj.mp hi;rw[Z.e];refine MN _ (Nj.mpr ⟨h,hm,?_⟩);cases h with
 |own j z=>exact m
 |_=>cases m
theorem we:∀hs:List Hd,(Vq hs).Sublist (hs.flatMap Hd.cell)
 | []=>QI _
 |x::r=>by
  unfold Vq;rw[MG,MG];refine List.Sublist.append ?_ (we r);cases x with
  |own j z=>exact QI _
  |giv j z=>exact List.nil_sublist _
  |hand j=>exact QI _
  |lt j=>exact QI _
theorem yP(D:kg N):∀(r pre:List Nat),(∀j∈pre++r,j<25)->(pre++r).Nodup->cq (dk N pre f) (dk N r f)=dk N (pre++r) f
 | [],pre,_,_=>by rw[MR];rfl
 |i::r,pre,hb,nd=>by
  have e:pre++i::r=(pre++[i])++r:=by rw[MK];rfl
  have m:i∉pre:=λz=>(MP.mp nd).2.2 i z i Mg rfl;have hi:i<25:=hb i (by simp);show cq (Vj (dk N pre f) (.inr (N i)) (f i)) (dk N r f)=_;rw[iT D hi (λj hj=>hb j (MN _ hj)) m];have c:dk N (pre++[i]) (o7 f i (f i))=dk N (pre++[i]) f:=iP λj _=>by
   by_cases z:j=i
   ·rw[z,fw]
   rw[jv _ _ z]
  rw[c,e];exact yP D r (pre++[i]) (by rw[<-e];exact hb) (by rw[<-e];exact nd)
theorem Hr(T:Txt K mg A)(O:E.Ok):T.wH.Hz P w base 1 (A7 A E):=by
 refine T.wH.hs zq (λf' cdv A' outer s' H vs Q E' hr hu h=>?_);obtain⟨p,c,hv,xs,hs,f,rfl,R,Z,hc,q⟩:=h;have hl:=R.l;refine⟨_,(ah (aA (pcT Fd T.wC ((gJ (N:=["head","cells"]) (own:=1) (fr:=[1]) (cG.of (by kernel_rfl!)) rfl (cA (aI (fv 0) rfl)) (λb=>pgn (i:=0) (show PC (["head","cells"]:List PU) by decide+kernel) rfl) (λb=>lj (bR (pcB bD T.aH (fv 0^cU T.bj.mg^af)) (λ_=>rfl))) (λb=>bf (aI (fv 0) rfl^px hu (fv 1) (aI (fv 0) rfl)^af)))^af)))),fdI R.pr T.dW.cl T.cZ rfl (Mt ⟨⟨_,SqL.of R.hd⟩,zM (K:=K) (uQ A H) (λx y H2=>∀i z,Hd.own i z∈hs->ux A E.N H x (.own i z)->∃t,y=V.ref t/\H2 t=Ve (.tup [.str (E.N i),f i])) (SqL.of R.hd) (ay ()) (λb v H2 G hv' s2 k=>?_) (λb v H2 G hv' hp s2 k=>?_) ?_ ?_ (λD H2 ys hD s2 e pr=>?_)⟩)⟩
 ·obtain⟨n,hn⟩:=ME hv';obtain⟨h,hh,W⟩:=bb R.h hn;cases h with
  |hand x=>
   obtain⟨a,dx,n,rk,rfl,ha⟩:=W;rw[eT ha,decide_eq_false (show A.bT≠A.bG from au T 1 3)]at k;exact isB (T.bM.bP (s2 _ _ ha)) (bZ T.bM T.bj (au T 3 1) (au T 3 0)) (k _ (ao.refl _))
  |giv x z=>
   obtain⟨a,dx,n,rk,rfl,ha⟩:=W;rw[eT ha,decide_eq_false (show A.aN≠A.bG from au T 2 3)]at k;exact isB (T.aL.bP (s2 _ _ ha)) (bZ T.aL T.bj (au T 3 2) (au T 3 0)) (k _ (ao.refl _))
  |lt x=>
   obtain⟨a,dx,n,rk,rfl,ha⟩:=W;rw[eT ha,decide_eq_false (show A.cH≠A.bG from au T 4 3)]at k;exact isB (T.cc.bP (s2 _ _ ha)) (bZ T.cc T.bj (au T 3 4) (au T 3 0)) (k _ (ao.refl _))
  |own x z=>
   obtain⟨a,dx,n,rfl,ha⟩:=W;rw[eT ha,decide_eq_true rfl]at k;exact isB (T.bj.bP (s2 _ _ ha)) (nN T.bj) (k _ (ao.refl _))
 ·obtain⟨n,hn⟩:=ME hv';obtain⟨h,hh,W⟩:=bb R.h hn;cases h with
  |hand x=>
   obtain⟨a,dx,n,rk,rfl,ha⟩:=W;rw[eT ha,decide_eq_false (show A.bT≠A.bG from au T 1 3)]at hp;cases hp
  |giv x z=>
   obtain⟨a,dx,n,rk,rfl,ha⟩:=W;rw[eT ha,decide_eq_false (show A.aN≠A.bG from au T 2 3)]at hp;cases hp
  |lt x=>
   obtain⟨a,dx,n,rk,rfl,ha⟩:=W;rw[eT ha,decide_eq_false (show A.cH≠A.bG from au T 4 3)]at hp;cases hp
  |own x z=>
   obtain⟨a,dx,n,rfl,ha⟩:=W;have xm:x∈E.idx:=rT Z x (Nj.mpr ⟨_,Mr hh,by simp[Hd.own?]⟩);have gd:c9 H2 c (.str (E.N x)) (Ve (f x)):=by
    have:=c9.k (k:=.inr (E.N x)) (s2 _ _ hc);rw[rZ O.D O.b xm]at this;exact this
   refine fdI (s2 _ _ ha) T.bj.cl T.dX rfl (fdI (s2 _ _ ha) T.bj.cl T.dX rfl ⟨_,gd,(show 2<=sizeLine by decide),λt ht=>k _ _ (ao.upd ht _) λi z' im W'=>⟨t,rfl,?_⟩⟩);obtain⟨a',dx',n',e',ha'⟩:=W';cases e';have im':i∈E.idx:=rT Z i (Nj.mpr ⟨_,im,by simp[Hd.own?]⟩);have ex:E.N x=E.N i:=by
    have h1:=ha.symm.trans ha';simp at h1;exact h1.2.2.1
   rw[aj,O.D x i (O.b x xm) (O.b i im') ex]
 ·rintro x y' H2 H3 s h i z im W';obtain⟨t,e4,e5⟩:=h i z im W';exact⟨t,e4,s _ _ e5⟩
 ·rintro x y' H2 D ys zs hD h i z im W';obtain⟨t,e4,e5⟩:=h i z im W';exact⟨t,e4,by rw[aw (λz=>by rw[z,hD]at e5;cases e5)];exact e5⟩
 have pk:=pw T (λ_ h=>h) R.h pr;obtain⟨ps,e1,e2,e3⟩:=vf (K:=K) pk;have nd:=O.nd;rw[Z.e]at nd;have em:cq [] (dk E.N (Vq hs) f)=dk E.N (Vq hs) f:=yP O.D (Vq hs) [] (λj hj=>O.b j (rT Z j hj)) ((MP.mp nd).1.sublist (we hs));have ll:(Vq hs).length<=1000:=by
  have l1:=(we hs).length_le;have l2:=O.len;rw[Z.e,Mn]at l2;omega
 refine⟨D,ps,dk E.N (Vq hs) f,rfl,by rw[<-e1];exact SqL.of e,by rw[e2,fP];rfl,by rw[fP];exact ll,e3,λp4 hp4=>q p4 _ (s2.trans (ao.upd hp4 _)) (ao.free s2 hp4) (by rw[aj,em])⟩
structure IW(A:Adr)(E:En)(hs:List Hd)(H:Hp)(b db l sd t e:OW)(la:Nat->OW)(k:S):Prop where
 hb:H b=Ve (.ins A.fB db [("letters",.ref l),("said",.ref sd),("trace",.ref t),("steps",.int k.steps),("ends",.ref e)])
 he:H e=Ve (.dK (dk E.N (Vq hs) (cV E la k.num)))
 ht:∃xs,H t=Ve (.lst xs)/\i5 H xs k.trace
 hl:∃xs,H l=Ve (.lst xs)/\i5 H xs k.eR
 hd:∃xs,H sd=Ve (.lst xs)/\i5 H xs k.wX
 ha:∀i∈E.ls,H (la i)=Ve (.lst ((k.lst i).map V.int))
inductive ze(A:Adr)(E:En)(f:Nat)(vs:List V)(H:Hp)(Q:VK)(Z:XK):Prop
 |mk(p:Pa)(g:OW)(hv xs:List V)(hs:List Hd)(gn:Nat->Int)(gl:Nat->List Int)(rows:List Rw):vs=[.ref p.pa,.ref g]->xh A E H p hv hs xs->Hds E hs->mO E hs H g gn gl->Paired (eB A E H f) xs rows->(∀rw∈rows,Wf E f rw)->(rows.map (aT E f)).sum<=BIG->(∀(b db l sd t e:OW)(la:Nat->OW)(H':Hp),ao H H'->IW A E hs H' b db l sd t e la (bU (doR E f) (S.new E hs gn gl) rows).1->(bU (doR E f) (S.new E hs gn gl) rows).1.ok E->Q (.ref b) H')->ze A E f vs H Q Z
theorem Iz(Z:Hds E hs)(G:mO E hs H g gn gl):(S.new E hs gn gl).ok E:=by
 refine⟨λa=>?_,λx n hn=>?_,λx hx hz=>?_⟩
 ·show In (if isG hs a then gn a else 0);split
  ·exact G.n a
  exact⟨∅,∅⟩
 ·have hn:n∈(if isG hs x then gl x else Vz (E.sz x)):=hn;split at hn
  ·exact G.l x n hn
  rw[RE hn];exact⟨∅,∅⟩
 show(if isG hs x then gl x else Vz (E.sz x)).length=E.sz x;split
 ·rename_i c;unfold isG at c;rw[Ni]at c;obtain⟨h,hm,e⟩:=c;cases h with
  |giv j z=>
   have ej:j=x:=of_decide_eq_true e;subst ej;obtain⟨kvs,k1,k2⟩:=G.d;have ez:=Z.g j z hm;obtain⟨l,_,_,e3⟩:=(k2 j z hm).2 ();rw[e3,ez]
  |_=>cases e
 exact Nz
theorem JG(T:Txt K mg A)(O:E.Ok)(f:Nat):T.run.Hz P w base (3*f+9) (ze A E f):=by
 refine T.run.hs (k:=3*f+8) Ae (λf' cdv A' outer s' H vs Q E' hr hu h=>?_);obtain⟨p,g,hv,xs,hs,gn,gl,rows,rfl,R,Z,G,pr,wf,rm,q⟩:=h;have N3:kh P w K mg base (3*(f+1)+5) A.Run "do_rows" ["self","rows"] (nG A E f):=nF (P:=P) (w:=w) (base:=base) T O (f+1);refine⟨_,(ab (pst 2 Ae.nd (cQ (hj:=by omega) T.bV (Aq T O) hr (fv 0^(ar (hj:=by omega) (F5 T O) hr (fv 0^fv 1^af))^af)))
 (ab (aK (bC (hj:=by omega) (fv 2) T.bV.cl N3 hr (aI (fv 0) rfl^af)))
 (ab (pst 3 Ae.nd (aI (fv 2) rfl))
 (ab (aY (fv 3) (ar (hj:=by omega) (Hr T O) hr (fv 0^aI (fv 2) rfl^af)) rfl)
 (ah (aA (fv 3))))))),?_⟩
 refine⟨p,g,hv,xs,hs,gn,gl,rfl,R,Z,G,λc la H1 c0 C=>?_⟩;have s1:=C.s;refine λs ds' hs' hds hne=>?_;have sm:ao H1 (upd (upd H1 ds' (.own s)) s (.ins A.Run ds' [])):=But.same (But.refl _ _) hs' hds;have ok0:=Iz Z G;have lsi:∀i∈E.ls,i∈E.idx/\0<E.sz i:=λi hi=>by
  obtain⟨h1,h2⟩:=MY.mp hi;exact⟨h1,of_decide_eq_true h2⟩
 refine⟨s,ds',c,p,hv,xs,hs,la,S.new E hs gn gl,rfl,aj,(R.same s1).same sm,sm _ _ C.hc,λi hi=>?_,λi hi j hj e=>C.i i (lsi i hi).1 j (lsi j hj).1 (lsi i hi).2 (lsi j hj).2 e,ok0,rfl,rfl,rfl,rfl,λd b db sd e t lt H2 b2 nb nt nl nd R2=>⟨rfl,?_⟩⟩
 ·obtain⟨_,h2,h3⟩:=C.l i (lsi i hi).1 (lsi i hi).2;exact⟨h2,sm _ _ h3⟩
 have s12:ao H1 H2:=But.same b2 hs' hds;have s2:ao H H2:=s1.trans s12;have b0:=ao.free s1 (ji hs' hds nb);have t0:=ao.free s1 (ji hs' hds nt);have l0:=ao.free s1 (ji hs' hds nl);have d0:=ao.free s1 (ji hs' hds nd);have fM:∀x∈Ra.M ⟨s,ds',d,c,b,db,sd,e,t,lt,la⟩ E,H x=Vf:=λx m=>by
  unfold Ra.M at m;rcases Mp.mp m with m|m
  ·simp only[Mf,Ms,or_false]at m;rcases m with rfl|rfl|rfl|rfl|rfl
   ·exact b0
   ·exact c0
   ·exact t0
   ·exact l0
   exact d0
  obtain⟨i,hi,rfl⟩:=Mz.mp m;exact(C.l i (lsi i hi).1 (lsi i hi).2).1
 have sX:ao H (del (Ra.M ⟨s,ds',d,c,b,db,sd,e,t,lt,la⟩ E) H2):=λa o h=>aQ (λm=>by rw[fM a m]at h;cases h) (s2 a o h);refine⟨s,ds',_,rfl,R2.s,rfl,fdI (s2 _ _ R.pr) T.dW.cl T.iO rfl ⟨⟨s,ds',d,c,b,db,sd,e,t,lt,la⟩,S.new E hs gn gl,p.mn,xs,rows,rfl,R2,sX _ _ R.mn,Paired.cI pr (λ_ _=>eB.same sX),wf,⟨by show 0+_<=_;omega,by show(0:Int)<=0;decide,by show(0:Int)<=0;decide,by show(0:Int)<=0;decide⟩,λH3 g3 R3=>?_⟩⟩;have s3:=g3.keep s2 fM;generalize (bU (doR E f) (S.new E hs gn gl) rows).1=k at R3 q;refine fdI R3.s T.bV.cl T.ja rfl (fdI R3.s T.bV.cl T.dg rfl ⟨p,c,hv,xs,hs,_,rfl,R.same s3,Z,R3.hc,λe' H4 s4 e0 he4=>?_⟩);have R4:=R3.same s4;have hb4:=R4.hb;obtain⟨ts,ht,tt⟩:=R4.ht;obtain⟨ls,hl,tl⟩:=R4.hl;obtain⟨ss,hd,td⟩:=R4.hd;have ne:=R4.ne;refine⟨b,_,db,_,rfl,hb4,T.fQ.cl,T.mN,by simp[rK],?_⟩;have g5:=Go.at (H:=H4) (Ra.inM ⟨s,ds',d,c,b,db,sd,e,t,lt,la⟩ E).1 (.ins A.fB db (eF "ends" (.ref e') (rK ⟨s,ds',d,c,b,db,sd,e,t,lt,la⟩ k)));have st:ao (del (Ra.M ⟨s,ds',d,c,b,db,sd,e,t,lt,la⟩ E) H4) (upd H4 b (.ins A.fB db (eF "ends" (.ref e') (rK ⟨s,ds',d,c,b,db,sd,e,t,lt,la⟩ k)))):=λa o h=>aC _ _ (g5.same a o h);have eb:e'≠b:=λz=>by rw[z,hb4]at he4;cases he4
 refine q b db lt sd t e' la _ (ao.out (s3.trans s4) b0 _) ⟨aj,ag eb he4,⟨ts,ag ne.bt.symm ht,tt.same st⟩,⟨ls,ag ne.bl.symm hl,tl.same st⟩,⟨ss,ag ne.bd.symm hd,td.same st⟩,λi hi=>ag (ne.a i hi).1 (R4.ha i hi)⟩ R3.ok
end
section
variable{E:En}{s:S}
end
section
variable{P:Program}{w:O7}{K:OZ}{mg:Str->Option OX}{base:Pk}{A:Adr}{E:En}{F:Nat}
theorem Has.ex{ι:Type}{sp:ι->Sp}{p:ι->Prop}(i0:ι)(h0:p i0)(h:∀i,p i->Has P w K mg base k x ps (sp i)):Has P w K mg base k x ps (λvs H Q E=>∃i,p i/\sp i vs H Q E):=by
 obtain⟨f,fd,F,b,kp,m,oc,od,osl,lk⟩:=h i0 h0;have same:∀i,p i->kX P w K mg base CX0 k f fd ps (sp i):=λi hi=>by
  obtain⟨f',fd',F',b',kp',m',oc',od',osl',lk'⟩:=h i hi;have e:f'=f:=by rw[m]at m';cases m';rfl
  subst e;rw[lk]at lk';cases lk';exact F'
 exact⟨f,fd,⟨λvs H Q E ⟨i,hi,q⟩=>(same i hi).len vs H Q E q,λA outer s H args us vs Q E hr he hb hv ⟨i,hi,q⟩=>(same i hi).run A outer s H args us vs Q E hr he hb hv q⟩,b,kp,m,oc,od,osl,lk⟩
end
section
variable{A:Adr}{E:En}{X:Hp}{F:Nat}{ns tg:List Nat}{dd:List Dl}
noncomputable def rwL(n:Int):Lr->Rw
 | .set x v=>.set n x v| .put x p v=>.put n x p v| .snd h v=>.snd n h v| .say x v m=>.say n x v m
 | .call i ts=>.call n ((i-13)/3) ts
 |_=>.last n
mutual
noncomputable def rwP:Pt->Rw
 | .leaf n r=>rwL n r
 | .iff n v l r f o=>.iff n v (oT f) (oT o) l r
 | .loop n t m l r b=>.loop n t m (oT b) l r
 | .hW n _ _ _=>.last n
noncomputable def oT:List Pt->List Rw
 | []=>[]
 |t::ts=>rwP t::oT ts
end
structure Env(E:En)(ns tg:List Nat):Prop where
 n:∀a∈ns,a∈E.idx/\E.sz a=0
 t:∀a∈tg,a∈E.idx/\E.sz a=0
 l:∀a∈[6,10],a∈E.idx/\0<E.sz a
theorem Env.th(J:Env E ns tg){t:Th}(h:t.ok ns):t.okE E:=by
 cases t with
 |i n=>exact h
 |x a=>exact J.n a h
theorem Env.val(J:Env E ns tg){v:Val}(h:v.ok ns):v.okE E:=by
 cases v with
 |one a=>exact J.th h
 |op a w b=>exact⟨J.th h.1,J.th h.2.1,h.2.2⟩
 |atl x b=>exact⟨(J.l x h.1).1,(J.l x h.1).2,J.th h.2⟩
def Cal(A:Adr)(E:En)(X:Hp)(F:Nat)(dd:List Dl):Prop:=∀d∈dd,∃(j:Nat)(D:Dd)(da dy:OW)(dn:V)(pp pb:OW)(xs:List V),d.nm=13+3*j/\E.ds[j]?=Ve D/\D.nm=d.nm/\D.parts=d.ps/\d.ps.length<=4/\E.dv[j]?=Ve (.ref da)/\X da=Ve (.ins A.cj dy [("number",dn),("name",.str (E.N D.nm)),("parts",.ref pp),("body",.ref pb)])/\X pp=Ve (.lst (D.parts.map λj=>V.str (E.N j)))/\X pb=Ve (.lst xs)/\
 ∀G,F<=G->Paired (eB A E X G) xs D.body/\(∀r∈D.body,Wf E G r)/\(D.body.map (aT E G)).sum<=d.sp
theorem rw_leaf(J:Env E ns tg)(C:Cal A E X F dd){r:Lr}(ok:r.ok ns tg dd){v:V}{n:Int}(h:zU A E.N X v n r){G:Nat}(hG:F+1<=G):eB A E X G v (rwL n r)/\Wf E G (rwL n r)/\aT E G (rwL n r)<=uh dd r:=by
 obtain⟨G,rfl⟩:∃g,G=g+1:=⟨G-1,()⟩;cases r with
 |set x val=>exact⟨h,⟨(J.t x ok.1).1,(J.t x ok.1).2,J.val ok.2⟩,MF _⟩
 |put x pl val=>
  obtain⟨rfl,o2,o3⟩:=ok;exact⟨h,⟨(J.l 10 (by simp)).1,(J.l 10 (by simp)).2,J.th o2,J.val o3⟩,MF _⟩
 |snd h' val=>exact⟨h,⟨J.val ok.2,by have:=ok.1;simp at this;omega⟩,MF _⟩
 |say x val m=>exact⟨h,⟨(J.t x ok.1).1,(J.t x ok.1).2,J.val ok.2.1⟩,MF _⟩
 |last=>exact⟨h,trivial,MF _⟩
 |call i ts=>
  obtain⟨d,md,e,el,ot⟩:=ok;obtain⟨a,dx,p,ev,h1,h2⟩:=h;have hf:∃d',dd.find? (λd=>decide (d.nm=i))=Ve d':=by
   cases c:dd.find? (λd=>decide (d.nm=i))with
   |some d'=>exact⟨d',rfl⟩
   |none=>
    rw[TB]at c;exact absurd (decide_eq_true e) (c d md)
  obtain⟨d',hf⟩:=hf;have e':d'.nm=i:=of_decide_eq_true (List.find?_some (p:=λd:Dl=>decide (d.nm=i)) hf);obtain⟨j,D,_,_,_,_,_,_,a1,a2,_,a4,_⟩:=C d md;obtain⟨j',D',da,dy,dn,pp,pb,xs,b1,b2,b3,b4,b5,b6,b7,b8,b9,b10⟩:=C d' (Rt hf);have ej:j'=j:=()
  subst ej;rw[a2]at b2;cases b2;have ei:(i-13)/3=j':=()
  obtain⟨c1,c2,c3⟩:=b10 G ();have pl:D.parts.length=ts.length:=by rw[a4,el]
  refine⟨?_,?_,?_⟩
  ·show eB A E X (G+1) v (.call n ((i-13)/3) ts);rw[ei];refine⟨a,dx,p,D,ev,a2,?_,h2,da,dy,dn,pp,pb,xs,b6,b7,b8,b9,c1⟩;rw[b3,e'];exact h1
  ·show Wf E (G+1) (.call n ((i-13)/3) ts);rw[ei];exact⟨λt ht=>J.th (ot t ht),by rw[<-pl,b4];exact b5,D,a2,pl,c2⟩
  show aT E (G+1) (.call n ((i-13)/3) ts)<=uh dd (.call i ts);have ec:uh dd (.call i ts)=1+d'.sp:=by
   show(match dd.find? (λd=>decide (d.nm=i))with|some d=>1+d.sp|none=>1)=1+d'.sp;rw[hf]
  rw[ec];unfold aT;rw[ei,a2];show 1+_<=1+_;omega
 |_=>exact ok.elim
mutual
theorem rw_t(J:Env E ns tg)(C:Cal A E X F dd):∀(t:Tr)(k:Nat)(v:V)(G:Nat),t.ok ns tg dd->d5 A E.N X v (pt k t)->F+dT t<=G->eB A E X G v (rwP (pt k t))/\Wf E G (rwP (pt k t))/\∀h,0<=h->h*aT E G (rwP (pt k t))<=oW dd h t
 | .leaf r,k,v,G,ok,h,hG=>by
  unfold Tr.ok at ok;unfold pt at h⊢;unfold d5 at h;unfold dT at hG;obtain⟨a,b,c⟩:=rw_leaf J C ok h hG;unfold rwP;refine⟨a,b,λz hz=>?_⟩;unfold oW;exact MM c hz
 | .iff val l r f o,k,v,G,ok,h,hG=>by
  obtain⟨G,rfl⟩:∃g,G=g+1:=⟨G-1,by unfold dT at hG;omega⟩;unfold Tr.ok at ok;obtain⟨o1,o2,o3,o4,o5⟩:=ok;unfold pt at h⊢;unfold d5 at h;obtain⟨a,dx,p,pf,po,xf,xo,e,h1,h2,h3,h4,h5,h6⟩:=h;unfold dT at hG;obtain⟨a1,a2,a3⟩:=rw_ts J C f (k+1) xf G o4 h5 ();obtain⟨b1,b2,b3⟩:=rw_ts J C o (k+1+(aZ f).length+1) xo G o5 h6 ();unfold rwP;refine⟨⟨a,dx,p,pf,po,xf,xo,e,h1,h2,h3,h4,a1,b1⟩,⟨J.val o1,o2,o3,a2,b2⟩,λz hz=>?_⟩;have q1:=a3 z hz;have q2:=b3 z hz;have n1:=qj E a2;have n2:=qj E b2;unfold oW aT;generalize ((oT (pts (k+1) f)).map (aT E G)).sum=c1 at q1 n1⊢;generalize ((oT (pts (k+1+(aZ f).length+1) o)).map (aT E G)).sum=c2 at q2 n2⊢;have le:1+(if l+c1<r+c2 then r+c2 else l+c1)<=1+1*(l+r)+c1+c2:=by split<;>omega
  refine Oz (MM le hz) ?_;rw[OF,OF];omega
 | .loop t m l r b,k,v,G,ok,h,hG=>by
  obtain⟨G,rfl⟩:∃g,G=g+1:=⟨G-1,by unfold dT at hG;omega⟩;unfold Tr.ok at ok;obtain⟨o1,o2,o3,o4,o5,o6⟩:=ok;unfold pt at h⊢;unfold d5 at h;obtain⟨a,dx,pb,xb,e,h1,h2,h3⟩:=h;unfold dT at hG;obtain⟨a1,a2,a3⟩:=rw_ts J C b (k+1) xb G o6 h3 ();unfold rwP;refine⟨⟨a,dx,pb,xb,e,h1,h2,a1⟩,⟨J.th o1,(),(),o4,o5,a2⟩,λz hz=>?_⟩;have q1:=a3 (z*m) (MT hz ());have n1:=qj E a2;unfold oW aT;generalize ((oT (pts (k+1) b)).map (aT E G)).sum=c at q1 n1⊢;have le:(if l+c<r then r else l+c)<=l+r+c:=by split<;>omega
  have le2:1+m*(if l+c<r then r else l+c)<=1+m*(l+r)+m*c:=by
   have:=MM le (show 0<=m by omega);rw[OF m (l+r) c]at this;omega
  refine Oz (MM le2 hz) ?_;rw[OF z _ (m*c),<-Int.mul_assoc];omega
theorem rw_ts(J:Env E ns tg)(C:Cal A E X F dd):∀(ts:List Tr)(k:Nat)(xs:List V)(G:Nat),eE ns tg dd ts->aG A E.N X xs (pts k ts)->F+dTs ts<=G->Paired (eB A E X G) xs (oT (pts k ts))/\(∀r∈oT (pts k ts),Wf E G r)/\∀h,0<=h->h*((oT (pts k ts)).map (aT E G)).sum<=cJ dd h ts
 | [],k,xs,G,ok,h,hG=>by
  unfold pts at h⊢;unfold aG at h;subst h;unfold oT cJ;exact⟨.nil,λr hr=>(by cases hr),λz _=>by simp⟩
 |t::ts,k,xs,G,ok,h,hG=>by
  unfold eE at ok;unfold pts at h⊢;unfold aG at h;obtain⟨y,ys,e,h1,h2⟩:=h;subst e;unfold dTs at hG;obtain⟨a1,a2,a3⟩:=rw_t J C t k y G ok.1 h1 ();obtain⟨b1,b2,b3⟩:=rw_ts J C ts (k+(flat t).length) ys G ok.2 h2 ();unfold oT cJ;refine⟨.cons a1 b1,λr hr=>?_,λz hz=>?_⟩
  ·rcases Mf.mp hr with rfl|hr
   ·exact a2
   exact b2 r hr
  rw[Mv,NG,OF];have:=a3 z hz;have:=b3 z hz;omega
end
end
section
variable{A:Adr}{N:Nat->Str}{X:Hp}
noncomputable def hdL:Lr->Hd
 | .giv i _ z=>.giv i z.toNat| .own i z=>.own i z.toNat| .lt i _=>.lt i| .hand i _=>.hand i
 |_=>.hand 0
noncomputable def ddP:Pt->Dd
 | .hW _ i ps b=>⟨i,ps,oT b⟩
 |_=>⟨0,[],[]⟩
noncomputable def szF(z:Int)(i:Nat):Nat:=if i=6\/i=10 then z.toNat else 0
noncomputable def enP(N:Nat->Str)(z:Int)(rs:List Lr)(ds:List Pt)(dv:List V):En:=⟨N,(rs.map hdL).flatMap Hd.cell++(ds.map ddP).flatMap Dd.parts,szF z,ds.map ddP,dv⟩
theorem CV:∀{dls:List Dl}{bss:List (List Tr)}{k j:Nat}{d:Dl}{b:List Tr},dls[j]?=Ve d->bss[j]?=Ve b->∃k':Nat,(ptD k dls bss)[j]?=Ve (.hW ((k':Int)+1) d.nm d.ps (pts (k'+1) b))
 |_::_,_::_,k,0,_,_,h1,h2=>by
  cases h1;cases h2;exact⟨k,rfl⟩
 |_::ds,_::bs,k,j+1,_,_,h1,h2=>by
  obtain⟨k',e⟩:=CV (dls:=ds) (bss:=bs) (k:=k+1+(aZ _).length+1) (j:=j) (by simpa using h1) (by simpa using h2);exact⟨k',by unfold ptD;rw[Oi];exact e⟩
 | [],_,_,_,_,_,h1,_=>by cases h1
 |_::_,[],_,_,_,_,_,h2=>by cases h2
theorem wL:∀{dls:List Dl}{bss:List (List Tr)}(k:Nat),dls.length=bss.length->((ptD k dls bss).map ddP).map Dd.nm=dls.map Dl.nm/\((ptD k dls bss).map ddP).flatMap Dd.parts=dls.flatMap Dl.ps/\(ptD k dls bss).length=dls.length
 | [],_,_,_=>⟨rfl,rfl,rfl⟩
 |d::ds,b::bs,k,h=>by
  obtain⟨h1,h2,h3⟩:=wL (dls:=ds) (bss:=bs) (k+1+(aZ b).length+1) (by simpa using h);unfold ptD;refine⟨?_,?_,?_⟩
  ·rw[Mv,Mv,Mv,h1];rfl
  ·rw[Mv,MG,MG,h2];rfl
  rw[MD,MD,h3]
 |_::_,[],_,h=>by cases h
theorem xP:∀{dls:List Dl}{j0:Nat},(∀j d,dls[j]?=Ve d->∃m,m<=2/\d.ps=NI (14+3*(j0+j)) m)->(dls.flatMap Dl.ps).Pairwise (· < ·)/\(∀p∈dls.flatMap Dl.ps,14+3*j0<=p/\p+1<14+3*(j0+dls.length))/\(dls.flatMap Dl.ps).length<=2*dls.length
 | [],_,_=>⟨.nil,λp hp=>(by cases hp),Mo _⟩
 |d::ds,j0,h=>by
  obtain⟨m,m2,e⟩:=h 0 d rfl;obtain⟨h1,h2,h3⟩:=xP (dls:=ds) (j0:=j0+1) (λj d' hj=>by
   obtain⟨m,m2,e⟩:=h (j+1) d' (by simpa using hj);exact⟨m,m2,by rw[e,show j0+1+j=j0+(j+1) by omega]⟩)
  have dp:∀p∈d.ps,14+3*j0<=p/\p<14+3*j0+2:=λp hp=>by
   rw[e,OI]at hp;omega
  rw[MG];refine⟨List.pairwise_append.mpr ⟨by rw[e];exact List.pairwise_lt_range',h1,λa ha b hb=>?_⟩,λp hp=>?_,?_⟩
  ·have:=dp a ha;have:=h2 b hb;omega
  ·rw[MD];rcases Mp.mp hp with hp|hp
   ·have:=dp p hp;omega
   have:=h2 p hp;omega
  rw[Mn,MD,e,Og];omega
theorem dE(t:Nat)(xs:List Lr):(rot t xs).Perm xs:=by
 unfold rot;refine List.perm_append_comm.trans ?_;rw[ND]
theorem zm(rk:Nat->Int)(z:Int)(t:Nat):(((rot t (ck rk z)).map hdL).flatMap Hd.cell).Perm [3,4,5,6,7,8,9,10]:=(((dE t _).map hdL).flatMap_right Hd.cell).trans (List.Perm.of_eq rfl)
theorem Hw{dls:List Dl}(l4:dls.length<=4)(h:dls.map Dl.nm=(Pc dls.length).map λj=>13+3*j):(dls.map Dl.nm).Nodup/\∀d∈dls,13<=d.nm/\d.nm<25:=by
 have hm:∀d∈dls,d.nm∈dls.map Dl.nm:=λd hd=>Mz.mpr ⟨d,hd,rfl⟩;rw[h]at hm⊢;generalize dls.length=n at l4 hm⊢;have:=lt5 n ();refine⟨by rcases this with rfl|rfl|rfl|rfl|rfl<;>decide,λd hd=>?_⟩;obtain⟨j,hj,e⟩:=Mz.mp (hm d hd);have:=MV.mp hj;omega
structure AL(N:Nat->Str)(rk:Nat->Int)(z:Int)(t:Nat)(dls:List Dl)(E:En):Prop where
 ok:E.Ok
 c:∀i∈[3,4,5,6,7,8,9,10],i∈E.idx
 p:∀d∈dls,∀i∈d.ps,i∈E.idx/\14<=i
 n:E.N=N
 z:E.sz=szF z
theorem Jb(D:BP ev lim lrs rk z t dls bss mb)(hN:kg N)(hv:dv.length=dls.length)(k:Nat):AL N rk z t dls (enP N z (rot t (ck rk z)) (ptD k dls bss) dv):=by
 obtain⟨e1,e2,e3⟩:=wL (dls:=dls) (bss:=bss) k D.dd.len;obtain⟨p1,p2,p3⟩:=xP (dls:=dls) (j0:=0) (λj d hj=>by rw[Nat.zero_add];exact D.dd.ps j d hj);obtain⟨n1,n2⟩:=Hw D.dd.l4 D.dd.nm;have cp:=zm rk z t;have l4:=D.dd.l4;have hz:=D.hz;have pb:∀p∈dls.flatMap Dl.ps,14<=p/\p<25:=λp hp=>by
  have:=p2 p hp;omega
 have cb:∀p∈((rot t (ck rk z)).map hdL).flatMap Hd.cell,3<=p/\p<=10:=λp hp=>by
  have:=cp.mem_iff.mp hp;simp at this;omega
 have ei:(enP N z (rot t (ck rk z)) (ptD k dls bss) dv).idx=((rot t (ck rk z)).map hdL).flatMap Hd.cell++dls.flatMap Dl.ps:=by
  show _++((ptD k dls bss).map ddP).flatMap Dd.parts=_;rw[e2]
 refine⟨⟨hN,?_,?_,?_,?_,?_,?_,?_,?_,?_⟩,?_,?_,rfl,rfl⟩
 ·rw[ei];intro j hj;rcases Mp.mp hj with hj|hj
  ·have:=cb j hj;omega
  exact(pb j hj).2
 ·rw[ei];refine MP.mpr ⟨cp.nodup_iff.mpr ∅,p1.imp (λh=>MU h),λa ha b hb=>?_⟩;have:=cb a ha;have:=pb b hb;omega
 ·intro d hd;have:d.nm∈((ptD k dls bss).map ddP).map Dd.nm:=Mz.mpr ⟨d,hd,rfl⟩;rw[e1]at this;obtain⟨d',hd',e⟩:=Mz.mp this;rw[<-e];exact(n2 d' hd').2
 ·show(((ptD k dls bss).map ddP).map Dd.nm).Nodup;rw[e1];exact n1
 ·show((ptD k dls bss).map ddP).length<=64;rw[Mj,e3];omega
 ·show dv.length=((ptD k dls bss).map ddP).length;rw[Mj,e3,hv]
 ·intro d hd j hj;have:j∈((ptD k dls bss).map ddP).flatMap Dd.parts:=Nj.mpr ⟨d,hd,hj⟩;rw[e2]at this;refine⟨by rw[ei];exact MA _ this,?_⟩;have:=pb j this;show szF z j=0;unfold szF;rw[if_neg ()]
 ·intro x;show szF z x<=1000;unfold szF;split<;>omega
 ·rw[ei,Mn,cp.length_eq];show 8+_<=64;omega
 ·intro i hi;rw[ei];exact MN _ (cp.mem_iff.mpr hi)
 intro d hd i hi;have m:i∈dls.flatMap Dl.ps:=Nj.mpr ⟨d,hd,hi⟩;exact⟨by rw[ei];exact MA _ m,(pb i m).1⟩
theorem AL.env{rk:Nat->Int}{z:Int}{t:Nat}{dls:List Dl}{E:En}(h:AL N rk z t dls E)(hz:1<=z){ps:List Nat}(hp:∀i∈ps,i∈E.idx/\14<=i):Env E ([3,4,5]++([7,8,9]++ps)) ([7,8,9]++ps):=by
 have s0:∀a,a≠6->a≠10->E.sz a=0:=λa h1 h2=>by
  rw[h.z];unfold szF;rw[if_neg ()]
 have tg:∀a∈[7,8,9]++ps,a∈E.idx/\E.sz a=0:=λa ha=>by
  rcases Mp.mp ha with ha|ha
  ·have d:=(by decide:∀a∈[7,8,9],a∈[3,4,5,6,7,8,9,10]/\a≠6/\a≠10) a ha;exact⟨h.c a d.1,s0 a d.2.1 d.2.2⟩
  have:=hp a ha;exact⟨this.1,s0 a () ()⟩
 refine⟨λa ha=>?_,tg,λa ha=>?_⟩
 ·rcases Mp.mp ha with ha|ha
  ·have d:=(by decide:∀a∈[3,4,5],a∈[3,4,5,6,7,8,9,10]/\a≠6/\a≠10) a ha;exact⟨h.c a d.1,s0 a d.2.1 d.2.2⟩
  exact tg a ha
 have d:=(by decide:∀a∈[6,10],a∈[3,4,5,6,7,8,9,10]/\(a=6\/a=10)) a ha;refine⟨h.c a d.1,?_⟩;rw[h.z];unfold szF;rw[if_pos d.2];omega
theorem Cal.up{E:En}{F F':Nat}{dd:List Dl}(h:Cal A E X F dd)(le:F<=F'):Cal A E X F' dd:=λd hd=>by
 obtain⟨j,D,da,dy,dn,pp,pb,xs,h1,h2,h3,h4,h5,h6,h7,h8,h9,h10⟩:=h d hd;exact⟨j,D,da,dy,dn,pp,pb,xs,h1,h2,h3,h4,h5,h6,h7,h8,h9,λG hG=>h10 G (MC le hG)⟩
noncomputable def fS(bss:List (List Tr))(j:Nat):Nat:=((bss.take j).map dTs).sum
theorem Ge(h:bss[j]?=Ve b):fS bss (j+1)=fS bss j+dTs b:=by
 unfold fS;rw[Nf,h,MI,List.sum_append];simp
theorem DZ{lim:Int}{rk:Nat->Int}{z:Int}{t:Nat}{dls:List Dl}{bss:List (List Tr)}{ds:List Dd}{ns:Nat->Str}{ix:List Nat}{sz:Nat->Nat}{k0:Nat}{dv:List V}(B:Ca false lim dls bss)(O:AL N rk z t dls ⟨ns,ix,sz,ds,dv⟩)(hz:1<=z)(ed:ds=(ptD k0 dls bss).map ddP)(pd:aG A N X dv (ptD k0 dls bss)):∀j,j<=dls.length->Cal A ⟨ns,ix,sz,ds,dv⟩ X (fS bss j) (dls.take j)
 |0,_=>λd hd=>by
  rw[Oh]at hd;cases hd
 |j+1,hj=>by
  have ih:=DZ B O hz ed pd j ();have en:ns=N:=O.n;obtain⟨d,hd⟩:∃d,dls[j]?=Ve d:=⟨_,Mh ()⟩;obtain⟨b,hb⟩:∃b,bss[j]?=Ve b:=⟨_,Mh (by rw[<-B.len];omega)⟩;obtain⟨k',hp⟩:=CV (k:=k0) hd hb;obtain⟨v,hv⟩:∃v,dv[j]?=Ve v:=⟨_,Mh (by
   have:=pd.len;have:=(wL (dls:=dls) (bss:=bss) k0 B.len).2.2;omega)⟩
  obtain⟨p,hp',pa⟩:=pd.get hv;rw[hp]at hp';cases hp';unfold d5 at pa;obtain⟨a,dx,pp,pb,xb,rfl,h1,h2,h3,h4⟩:=pa;obtain⟨ob,pay⟩:=B.bs j d b hd hb;have dm:d∈dls:=Mr hd;have J:=O.env hz (ps:=d.ps) (λi hi=>O.p d dm i hi);rw[Ge hb,Vp hd];intro e he;rcases Mp.mp he with he|he
  ·exact ih.up (Nv _ _) e he
  rw[Mq.mp he];obtain⟨m,m2,ps⟩:=B.ps j d hd;have nm:d.nm=13+3*j:=by
   have:(dls.map Dl.nm)[j]?=Ve d.nm:=by rw[Mu,hd];rfl
   rw[B.nm,Mu,NM ()]at this;exact(O1 this).symm
  have eD:ds[j]?=Ve ⟨d.nm,d.ps,oT (pts (k'+1) b)⟩:=by
   rw[ed,Mu,hp];rfl
  refine⟨j,_,a,dx,_,pp,pb,xb,nm,eD,rfl,rfl,by rw[ps,Og];omega,hv,by rw[<-en]at h1;exact h1,by rw[<-en]at h2;exact h2,h3,λG hG=>?_⟩;rw[<-en]at h4;obtain⟨q1,q2,q3⟩:=rw_ts J ih b (k'+1) xb G ob h4 hG;refine⟨q1,q2,?_⟩;have h1:=q3 1 ∅;have h2:=pay rfl;show((oT (pts (k'+1) b)).map _).sum<=_;omega
theorem GA:∀{bss:List (List Tr)},(∀b∈bss,dTs b<=4)->(bss.map dTs).sum<=4*bss.length
 | [],_=>Mo _
 |b::bs,h=>by
  have h1:=GA (bss:=bs) λx hx=>h x (Mi _ hx);have h2:=h b Mg;rw[Mv,NG,MD];omega
theorem yD:∀{rs:List Lr}{k:Nat}{xs:List V},(∀r∈rs,(∃i m,r=.hand i m)\/(∃i m z,r=.giv i m z/\0<=z)\/(∃i z,r=.own i z/\0<=z)\/∃i m,r=.lt i m)->aG A N X xs (lfs k rs)->Paired (ux A N X) xs (rs.map hdL)
 | [],k,xs,_,h=>by
  unfold lfs aG at h;rw[h];exact .nil
 |r::rs,k,xs,hr,h=>by
  unfold lfs aG at h;obtain⟨y,ys,rfl,h1,h2⟩:=h;rw[Mv];refine .cons ?_ (yD (λr m=>hr r (Mi _ m)) h2);unfold d5 at h1;rcases hr r Mg with⟨i,m,rfl⟩|⟨i,m,z,rfl,hz⟩|⟨i,z,rfl,hz⟩|⟨i,m,rfl⟩
  ·obtain⟨a,dx,e,h⟩:=h1;exact⟨a,dx,_,_,e,h⟩
  ·obtain⟨a,dx,e,h⟩:=h1;refine⟨a,dx,.int ((k:Int)+1),.int m,e,?_⟩;rw[SU hz];exact h
  ·obtain⟨a,dx,e,h⟩:=h1;refine⟨a,dx,.int ((k:Int)+1),e,?_⟩;rw[SU hz];exact h
  obtain⟨a,dx,e,h⟩:=h1;exact⟨a,dx,_,_,e,h⟩
theorem xD:∀{dls:List Dl}{bss:List (List Tr)}{k:Nat}{xs:List V},aG A N X xs (ptD k dls bss)->Paired (JI A N X) xs ((ptD k dls bss).map ddP)
 | [],_,k,xs,h=>by
  unfold ptD aG at h;rw[h];exact .nil
 |_::_,[],k,xs,h=>by
  unfold ptD aG at h;rw[h];exact .nil
 |d::ds,b::bs,k,xs,h=>by
  unfold ptD aG at h;obtain⟨y,ys,rfl,h1,h2⟩:=h;unfold ptD;rw[Mv];refine .cons ?_ (xD h2);unfold d5 at h1;obtain⟨a,dx,pp,pb,xb,e,h1,h2,h3,h4⟩:=h1;exact⟨a,dx,_,pp,pb,e,h1,h2⟩
theorem yf(hz:1<=z)(h:r∈ck rk z):(∃i m,r=.hand i m)\/(∃i m z,r=.giv i m z/\0<=z)\/(∃i z,r=.own i z/\0<=z)\/∃i m,r=.lt i m:=by
 have z0:0<=z:=()
 simp only[ck,Mf,Ms,or_false]at h;rcases h with e|e|e|e|e|e|e|e|e|e|e|e|e<;>rw[e]
 ·exact .inl ⟨_,_,rfl⟩
 ·exact .inl ⟨_,_,rfl⟩
 ·exact .inl ⟨_,_,rfl⟩
 ·exact .inr (.inl ⟨_,_,_,rfl,MF _⟩)
 ·exact .inr (.inl ⟨_,_,_,rfl,MF _⟩)
 ·exact .inr (.inl ⟨_,_,_,rfl,MF _⟩)
 ·exact .inr (.inl ⟨_,_,_,rfl,z0⟩)
 ·exact .inr (.inr (.inl ⟨_,_,rfl,MF _⟩))
 ·exact .inr (.inr (.inl ⟨_,_,rfl,MF _⟩))
 ·exact .inr (.inr (.inl ⟨_,_,rfl,MF _⟩))
 ·exact .inr (.inr (.inl ⟨_,_,rfl,z0⟩))
 ·exact .inr (.inr (.inr ⟨_,_,rfl⟩))
 exact .inr (.inr (.inr ⟨_,_,rfl⟩))
structure VI(A:Adr)(N:Nat->Str)(X:Hp)(v:V)(E:En)(hs:List Hd)(p:Pa)(hv xs:List V)(rows:List Rw):Prop where
 v:v=.ref p.pa
 ok:E.Ok
 n:E.N=N
 pr:xh A E X p hv hs xs
 hd:Hds E hs
 rw:Paired (eB A E X 20) xs rows
 wf:∀r∈rows,Wf E 20 r
 ms:(rows.map (aT E 20)).sum<=1000
theorem VI.same{X':Hp}{v:V}{E:En}{hs:List Hd}{p:Pa}{hv xs:List V}{rows:List Rw}(s:ao X X')(R:VI A N X v E hs p hv xs rows):VI A N X' v E hs p hv xs rows:=⟨R.v,R.ok,R.n,R.pr.same s,R.hd,Paired.cI R.rw λ_ _=>eB.same s,R.wf,R.ms⟩
theorem Fn{lim:Int}{lrs:List Lr}{rk:Nat->Int}{z:Int}{t:Nat}{dls:List Dl}{bss:List (List Tr)}{mb:List Tr}{v:V}{n:Nat}(D:BP false lim lrs rk z t dls bss mb)(hl:lim<=1000)(hN:kg N)(pg:zZ A N X v (lfs 0 (rot t (ck rk z))) (ptD (rot t (ck rk z)).length dls bss) (pts (n+1) mb)):∃E p hv xs rows,VI A N X v E ((rot t (ck rk z)).map hdL) p hv xs rows/\E.sz=szF z:=by
 obtain⟨a,dx,n0,n1,n2,x0,x1,x2,rfl,ha,e0,e1,e2,p0,p1,p2⟩:=pg;have lr:(rot t (ck rk z)).length=13:=(dE t _).length_eq;have ld:=(wL (dls:=dls) (bss:=bss) (rot t (ck rk z)).length D.dd.len).2.2;have lx:x1.length=dls.length:=by
  have:=p1.len;omega
 have O:=Jb D hN (dv:=x1) lx (rot t (ck rk z)).length;have hz:=D.hz;have C:=DZ D.dd O hz.1 rfl p1 dls.length (Mo _);rw[Nc]at C;have J:=O.env hz.1 (ps:=[]) (λi hi=>by cases hi);rw[MR]at J;have ef:fS bss dls.length=(bss.map dTs).sum:=by
  unfold fS;rw[D.dd.len,Nc]
 have dl:fS bss dls.length+dTs mb<=20:=by
  have h1:=GA D.dd.dp;have h2:=D.dp;have h3:=D.dd.l4;have h4:=D.dd.len;omega
 obtain⟨q1,q2,q3⟩:=rw_ts J C mb (n+1) x2 20 D.ob p2 dl;have hds:=yD (λr m=>yf hz.1 ((dE t _).mem_iff.mp m)) p0;obtain⟨sp,s1,s2⟩:=D.pay rfl;refine⟨_,⟨a,dx,n0,n1,n2⟩,x0,x2,_,⟨rfl,O.ok,rfl,⟨ha,e0,e1,e2,hds,xD p1,?_⟩,⟨rfl,?_,?_⟩,q1,q2,?_⟩,rfl⟩
 ·have:=O3 hds;rw[Mj,lr]at this;omega
 ·intro i y m;obtain⟨r,hr,e⟩:=Mz.mp m;have hr:=(dE t _).mem_iff.mp hr;simp only[ck,Mf,Ms,or_false]at hr;rcases hr with e'|e'|e'|e'|e'|e'|e'|e'|e'|e'|e'|e'|e'<;>(rw[e']at e;cases e;try rfl)
 ·intro i y m;obtain⟨r,hr,e⟩:=Mz.mp m;have hr:=(dE t _).mem_iff.mp hr;simp only[ck,Mf,Ms,or_false]at hr;rcases hr with e'|e'|e'|e'|e'|e'|e'|e'|e'|e'|e'|e'|e'<;>(rw[e']at e;cases e;try rfl)
 have:=q3 1 ∅;omega
end
section
variable{P:Program}{w:O7}{K:OZ}{mg:Str->Option OX}{base:Pk}{A:Adr}{N:Nat->Str}{E:En}
def yb(N:Nat->Str)(w:List V):Prop:=∃(a n:Int)(h:Nat)(v:Int),w=[.int a,.int n,.str (N h),.int v]/\h<3
def Lts(N:Nat->Str)(s:S):Prop:=∀w∈s.eR,yb N w
theorem D7{s:S}:∀(xs:List (Nat×Int)),(s.yr xs).eR=s.eR:=λxs=>by
 induction xs generalizing s with
 |nil=>rfl
 |cons p r ih=>exact ih (s:=s.put p.1 p.2)
theorem rQ{f:S->Rw->S×Bool}{p:Rw->Prop}(one:∀s r,p r->Lts N s->Lts N (f s r).1):∀(xs:List Rw)(s:S×Bool),(∀r∈xs,p r)->Lts N s.1->Lts N (xs.foldl (step f) s).1
 | [],_,_,h=>h
 |r::xs,s,hp,h=>rQ one xs _ (λq hq=>hp q (Mi _ hq)) (one s.1 r (hp r Mg) h)
theorem rP(one:∀s,Lts N s->Lts N (body s).1):∀(k j:Nat)(s:S),Lts N s->Lts N (Vm body l k j s).1
 |0,_,_,h=>h
 |k+1,j,s,h=>by
  unfold Vm;split
  ·exact one s h
  exact rP one k (j+1) _ (one s h)
theorem yi(h:Lts E.N s)(wf:Wf E d r):Lts E.N (leaf E.N s r).1:=by
 cases r with
 |snd n x v=>
  have hx:x<3:=by cases d<;>exact wf.2
  intro w hw;rcases Mp.mp hw with hw|hw
  ·exact h w hw
  rw[Mq.mp hw];exact⟨_,_,x,_,rfl,hx⟩
 |_=>exact h
theorem F8:∀(d:Nat)(s:S)(r:Rw),Wf E d r->Lts E.N s->Lts E.N (doR E d s r).1:=by
 intro d;induction d with
 |zero=>intro s r wf h;cases r<;>first|exact yi h wf|exact wf.elim
 |succ d ih=>
  intro s r wf h;have rows:∀(xs:List Rw)(s:S),(∀r∈xs,Wf E d r)->Lts E.N s->Lts E.N (bU (doR E d) s xs).1:=λxs s hw h=>rQ (p:=Wf E d) (λs r w h=>ih s r w h) xs (s,false) hw h;cases r with
  |call m i ts=>
   obtain⟨_,_,D,hD,_,hb⟩:=wf;unfold doR;rw[hD];refine rows D.body _ hb ?_;unfold Lts;rw[D7];exact h
  |iff m v f o l r=>
   obtain⟨_,_,_,h3,h4⟩:=wf;unfold doR;split
   ·exact rows f _ h3 h
   exact rows o _ h4 h
  |loop m t k b l r=>
   obtain⟨_,_,_,_,_,h4⟩:=wf;unfold doR;exact rP (λs hs=>rows b s h4 hs) _ _ _ h
  |_=>exact yi (d:=d+1) h wf
noncomputable def ltF(E:En)(hs:List Hd)(rows:List Rw)(gn:Nat->Int)(gl:Nat->List Int):List (List V):=(bU (doR E 20) (S.new E hs gn gl) rows).1.eR
theorem Ir(wf:∀r∈rows,Wf E 20 r)(gn:Nat->Int)(gl:Nat->List Int):∀w∈ltF E hs rows gn gl,yb E.N w:=rQ (p:=Wf E 20) (λs r w h=>F8 20 s r w h) rows (S.new E hs gn gl,false) wf (λw hw=>by cases hw)
theorem FV(wf:∀r∈rows,Wf E 20 r)(ms:(rows.map (aT E 20)).sum<=1000)(gn:Nat->Int)(gl:Nat->List Int):(ltF E hs rows gn gl).length<=1000:=by
 have:=nL (E:=E) (B:=1000) (f:=doR E 20) (c:=aT E 20) (p:=Wf E 20) (λs r n w h=>sL E 20 s r n w h) rows (S.new E hs gn gl,false) 0 wf ⟨by show 0+_<=_;omega,by show(0:Int)<=0;decide,by show(0:Int)<=0;decide,by show(0:Int)<=0;decide⟩;have h1:=this.l;have h2:=this.st;have h3:((ltF E hs rows gn gl).length:Int)<=1000:=Oz h1 ();omega
noncomputable def ky(N:Nat->Str)(rank:Int)(w:List V):Bool:=(Pc 3).any λh=>decide (w.getD 2 .non=V.str (N h))&&decide ((h:Int)<=rank)
theorem Ek(D:kg N){rank:Int}{a n v:V}{h:Nat}(hh:h<3):ky N rank [a,n,.str (N h),v]=decide ((h:Int)<=rank):=by
 unfold ky;rw[Nx,Ni,decide_eq_true_iff];constructor
 ·rintro⟨j,hj,e⟩;obtain⟨e1,e2⟩:=OA.mp e;have e1:N h=N j:=V.str.inj (of_decide_eq_true e1);have:=D h j () (by have:=MV.mp hj;omega) e1;rw[this];exact of_decide_eq_true e2
 exact λe=>⟨h,MV.mpr hh,by rw[decide_eq_true e,Bool.and_true];exact decide_eq_true rfl⟩
noncomputable def ofH(H:Hp)(q:List V->Bool):V->Bool
 | .ref a=>match H a with
  |some (.tup w)=>q w
  |_=>false
 |_=>false
theorem js(q:List V->Bool):∀{xs:List V}{ws:List (List V)},i5 H xs ws->i5 H (xs.filter (ofH H q)) (ws.filter q)
 |_,_,.nil=>.nil
 |_,_,.cons (b:=y) h t=>by
  obtain⟨p,rfl,e⟩:=h;have e2:ofH H q (.ref p)=q y:=by
   show(match H p with|some (.tup w)=>q w|_=>false)=q y;rw[e]
  rw[MZ,MZ,e2];split
  ·exact .cons ⟨p,rfl,e⟩ (js q t)
  exact js q t
theorem Ea(h:i5 H xs ws)(m:x∈xs):∃p w,x=.ref p/\H p=Ve (.tup w)/\w∈ws:=by
 obtain⟨i,hi⟩:=ME m;obtain⟨w,hw,p,e,hp⟩:=bb h hi;exact⟨p,w,e,hp,Mr hw⟩
end
section
variable{P:Program}{w:O7}{K:OZ}{mg:Str->Option OX}{base:Pk}{A:Adr}{N:Nat->Str}{E:En}
seal PE PA PS PSs PT PW
structure Co(rs:List Lr):Prop where
 h:∀i m,Lr.hand i m∈rs->i<3/\m=(i:Int)
 l:∀i m,Lr.lt i m∈rs->3<=i/\i<25
 a:∀h,h<3->∃m,Lr.hand h m∈rs
structure RkM(N:Nat->Str)(H:Hp)(D:OW)(rs:List Lr)(i:Nat)(ix:List Nat)(f:Nat->V):Prop where
 d:H D=Ve (.dK (dk N ix f))
 b:∀j∈ix,j<25
 v:∀h,h<3->h∈ix->f h=.int h
 l:ix.length<=i
 m:∀h m,Lr.hand h m∈rs.take i->h∈ix
def xK(N:Nat->Str)(H:Hp)(D:OW):Prop:=∃ix f,H D=Ve (.dK (dk N ix f))/\(∀j∈ix,j<25)/\∀h,h<3->h∈ix/\f h=.int h
theorem xK.same(s:ao H H')(h:xK N H D):xK N H' D:=by
 obtain⟨ix,f,h1,h2⟩:=h;exact⟨ix,f,s _ _ h1,h2⟩
theorem xK.get{H:Hp}{D:OW}(d:kg N)(R:xK N H D){h:Nat}(hh:h<3):c9 H D (.str (N h)) (Ve (.int h)):=by
 obtain⟨ix,f,h1,h2,h3⟩:=R;have:=mK d (.inl h1) h2 (h3 h hh).1;rw[(h3 h hh).2]at this;exact this
theorem RkM.done(O:Co rs)(R:RkM N H D rs rs.length ix f):xK N H D:=⟨ix,f,R.d,R.b,λh hh=>by
 obtain⟨m,hm⟩:=O.a h hh;have:=R.m h m (by rw[Nc];exact hm);exact⟨this,R.v h hh this⟩⟩
theorem RkM.skip(R:RkM N H D rs i ix f)(s:ao H H')(hr:rs[i]?=Ve r)(no:∀h m,r≠ .hand h m):RkM N H' D rs (i+1) ix f:=⟨s _ _ R.d,R.b,R.v,ML R.l,λh m hm=>by
 rw[Nf,hr]at hm;rcases Mp.mp hm with hm|hm
 ·exact R.m h m hm
 exact absurd (Mq.mp hm).symm (no h m)⟩
theorem RkM.put{H H':Hp}{D:OW}{rs:List Lr}{i j:Nat}{ix:List Nat}{f:Nat->V}{r:Lr}{v:V}(d:kg N)(R:RkM N H D rs i ix f)(hr:rs[i]?=Ve r)(hj:j<25)(hv:j<3->v=.int j)(ry:∀h m,r=.hand h m->h=j)(e:H' D=Ve (.dK (Vj (dk N ix f) (.inr (N j)) v))):RkM N H' D rs (i+1) (ins ix j) (o7 f j v):=by
 refine⟨by rw[e,zP d hj R.b],Jj R.b hj,λh hh hm=>?_,MC (rq _ _) (Oo R.l),λh m hm=>?_⟩
 ·unfold o7;split
  ·rename_i c;rw[c];exact hv ()
  rename_i c;rcases A0 hm with e|e
  ·exact absurd e c
  exact R.v h hh e
 rw[Nf,hr]at hm;rcases Mp.mp hm with hm|hm
 ·exact pq (R.m h m hm)
 rw[ry h m (Mq.mp hm).symm];exact zD _ _
theorem AK:∀{rs:List Lr}{k i:Nat}{p:Pt},(lfs k rs)[i]?=Ve p->∃r,rs[i]?=Ve r/\p=.leaf (((k+i:Nat):Int)+1) r
 |r::rs,k,0,p,h=>by
  cases h;exact⟨r,rfl,rfl⟩
 |r::rs,k,i+1,p,h=>by
  obtain⟨r',h1,h2⟩:=AK (rs:=rs) (k:=k+1) (i:=i) h;refine⟨r',h1,?_⟩;rw[h2,show k+1+i=k+(i+1) by omega]
theorem AY:∀(rs:List Lr)(k:Nat),(lfs k rs).length=rs.length
 | [],_=>rfl
 |r::rs,k=>by
  show(lfs (k+1) rs).length+1=rs.length+1;rw[AY rs]
def EL(rs:List Lr):Prop:=∀r∈rs,(∃i m,r=.hand i m)\/(∃i m z,r=.giv i m z/\0<=z)\/(∃i z,r=.own i z/\0<=z)\/∃i m,r=.lt i m
inductive yV(A:Adr)(vs:List V)(H:Hp)(Q:VK)(Z:XK):Prop
 |mk(N:Nat->Str)(v:V)(rs:List Lr)(k:Nat)(ds ms:List Pt):vs=[v]->kg N->zZ A N H v (lfs k rs) ds ms->rs.length<=500->EL rs->Co rs->(∀(D:OW)(H':Hp),ao H H'->xK N H' D->Q (.ref D) H')->yV A vs H Q Z
theorem FT(T:Txt K mg A):T.oO.Hz P w base 1 (yV A):=by
 refine T.oO.hs jL (λf cdv A' outer s H vs Q E' hr hu h=>?_);obtain⟨N,v,rs,k,ds,ms,rfl,dN,⟨a,dx,n0,n1,n2,x0,x1,x2,rfl,ha,e0,e1,e2,p0,p1,p2⟩,ln,hk,ro,q⟩:=h;refine⟨_,(ab (pst 1 jL.nd (fK))
 (ab (cR O9 rfl (cA (aI (fv 0) rfl)) (pgn (i:=2) jL.nd rfl)
  (ah (aP (PW.pt (pw_or (bR (pcB bD T.aH (fv 2^cU T.bM.mg^af)) (λ_=>rfl)) (pw_or1 (bR (pcB bD T.aH (fv 2^cU T.cc.mg^af)) (λ_=>rfl)))))
   (ah (bA (aI (fv 2) rfl) (bz (fv 1) (aI (fv 2) rfl) (bB hu Vi))))
   aD)))
 (ah (aA (fv 1))))),?_⟩
 refine aq λM1 K1 D hD=>?_;obtain⟨s1,eD⟩:=alc hD (HO.dK []);generalize upd H D _=H1 at s1 eD⊢;refine K1 _ _ ?_;clear K1 M1;try dsimp only
 refine aq λM1 K1=>fdI (s1 _ _ ha) T.dW.cl T.cZ rfl (Mt ⟨⟨_,SqL.of (s1 _ _ e0)⟩,dI (K:=K) (xs:=x0) (λi σ Hc=>∃(v2:Option V)(ix:List Nat)(f:Nat->V),σ=[Ve (.ref a),Ve (.ref D),v2]/\ao H Hc/\RkM N Hc D rs i ix f) ⟨Vf,[],λ_=>.non,rfl,s1,⟨eD,λj hj=>(by cases hj),λh _ hh=>(by cases hh),Mo _,λh m hm=>(by rw[Oh]at hm;cases hm)⟩⟩ (λi σ Hc _ ⟨_,_,_,_,z,_⟩=>SqL.of (z _ _ e0)) ?_ ?_⟩)
 ·rintro i v σ Hc hv ⟨v2,ix,f,rfl,sc,R⟩;obtain⟨t,ht,pa⟩:=p0.get hv;obtain⟨r,hr',rfl⟩:=AK ht;have il:i<rs.length:=(Ml.mp hr').1;have mr:r∈rs:=Mr hr';have kl:(dk N ix f).length<=1000:=by
   have:=R.l;unfold dk;rw[Mj];omega
  unfold d5 at pa;try dsimp only
  rcases hk r mr with⟨j,m,rfl⟩|⟨j,m,z,rfl,_⟩|⟨j,z,rfl,_⟩|⟨j,m,rfl⟩
  ·obtain⟨a2,dx2,rfl,h1⟩:=pa;obtain⟨j3,rfl⟩:=ro.h _ _ mr;have h1:=sc _ _ h1;refine isB (T.bM.bP h1) (nN T.bM) (dz (fdI h1 T.bM.cl T.iN rfl (fdI h1 T.bM.cl T.jd rfl ⟨_,cW.k (k:=.inr (N j)) R.d (ay kl),_,_,_,rfl,ao.out sc hD _,R.put dN hr' () (λ_=>rfl) (λh m e=>by cases e;rfl) aj⟩)))
  ·obtain⟨a2,dx2,rfl,h1⟩:=pa;have h1:=sc _ _ h1;refine isB (T.aL.bP h1) (bZ T.aL T.bM (au T 1 2) (au T 1 0)) (bu (isB (T.aL.bP h1) (bZ T.aL T.cc (au T 4 2) (au T 4 0)) (bu ⟨_,_,_,rfl,sc,R.skip (ao.refl _) hr' (λ_ _ e=>by cases e)⟩)))
  ·obtain⟨a2,dx2,rfl,h1⟩:=pa;have h1:=sc _ _ h1;refine isB (T.bj.bP h1) (bZ T.bj T.bM (au T 1 3) (au T 1 0)) (bu (isB (T.bj.bP h1) (bZ T.bj T.cc (au T 4 3) (au T 4 0)) (bu ⟨_,_,_,rfl,sc,R.skip (ao.refl _) hr' (λ_ _ e=>by cases e)⟩)))
  obtain⟨a2,dx2,rfl,h1⟩:=pa;obtain⟨j3,j4⟩:=ro.l _ _ mr;have h1:=sc _ _ h1;refine isB (T.cc.bP h1) (bZ T.cc T.bM (au T 1 4) (au T 1 0)) (bu (isB (T.cc.bP h1) (nN T.cc) (dz (fdI h1 T.cc.cl T.jH rfl (fdI h1 T.cc.cl T.jS rfl ⟨_,cW.k (k:=.inr (N j)) R.d (ay kl),_,_,_,rfl,ao.out sc hD _,R.put dN hr' j4 (λz=>absurd z ()) (λh m e=>by cases e) aj⟩)))))
 rintro σ Hc ⟨v2,ix,f,rfl,sc,R⟩;have lx:x0.length=rs.length:=by rw[p0.len,AY]
 rw[lx]at R;exact K1 _ _ (q D Hc sc (R.done ro))
noncomputable def lO(H:Hp)(x:V):Option (List V)->Prop
 |none=>x=.non
 |some w=>∃p,x=.ref p/\H p=Ve (.tup w)
theorem lO.same(s:ao H H'):∀{o:Option (List V)},lO H x o->lO H' x o
 |none,h=>h
 |some _,⟨p,e,h⟩=>⟨p,e,s _ _ h⟩
noncomputable def hn:Option (List V)->Option (List V)
 |none=>Vf
 |some w=>Ve [w.getD 2 .non,w.getD 3 .non]
noncomputable def dif(a b:List (List V))(i:Nat):Bool:=!decide (hn a[i]?=hn b[i]?)
noncomputable def fd(a b:List (List V)):Option Nat:=(Pc (max a.length b.length)).find? (dif a b)
noncomputable def Res(H:Hp)(v:V)(a b:List (List V)):Prop:=match fd a b with
 |none=>v=.non
 |some i=>∃t x y,v=.ref t/\H t=Ve (.tup [.int i,x,y])/\lO H x a[i]?/\lO H y b[i]?
theorem Res.same(s:ao H H')(h:Res H v a b):Res H' v a b:=by
 unfold Res at h⊢;split
 ·rename_i e;rw[e]at h;exact h
 rename_i i e;rw[e]at h;obtain⟨t,x,y,e1,e2,e3,e4⟩:=h;exact⟨t,x,y,e1,s _ _ e2,e3.same s,e4.same s⟩
theorem GL(hi:i<max a.length b.length)(h:dif a b i=true)(no:∀j,j<i->dif a b j=false):fd a b=Ve i:=by
 unfold fd;rw[List.find?_eq_some_iff_append];refine⟨h,Pc i,NI (i+1) (max a.length b.length-(i+1)),?_,λj hj=>by rw[no j (MV.mp hj)];rfl⟩;rw[SF,SF,show i::NI (i+1) (max a.length b.length-(i+1))=NI i (max a.length b.length-i) by rw[show max a.length b.length-i=max a.length b.length-(i+1)+1 by omega];rfl];have:=List.range'_append (s:=0) (m:=i) (n:=max a.length b.length-i) (step:=1);rw[show i+(max a.length b.length-i)=max a.length b.length by omega]at this;simpa using this.symm
theorem GQ(no:∀j,j<max a.length b.length->dif a b j=false):fd a b=Vf:=by
 unfold fd;rw[TB];intro j hj;rw[no j (MV.mp hj)];decide
noncomputable def dV:V->Rp
 | .int i=>.int i
 | .str s=>.str s
 |_=>.none
noncomputable def dat:Option (List V)->Rp
 |none=>.none
 |some w=>.tuple (w.map dV)
def LtO(N:Nat->Str)(o:Option (List V)):Prop:=∀w,o=Ve w->yb N w
theorem vD(l:LtO N o)(h:lO H x o):jn K H x (dat o):=by
 cases o with
 |none=>rw[show x=.non from h];exact .non
 |some w=>
  obtain⟨a,n,j,v,rfl,_⟩:=l w rfl;obtain⟨p,rfl,e⟩:=h;exact .tup (SqT.of e) (.cons (.int _) (.cons (.int _) (.cons (.str _) (.cons (.int _) .nil))))
theorem wc(l:LtO N o)(h:lO H x (hn o)):jn K H x (dat (hn o)):=by
 cases o with
 |none=>rw[show x=.non from h];exact .non
 |some w=>
  obtain⟨a,n,j,v,rfl,_⟩:=l w rfl;obtain⟨p,rfl,e⟩:=h;exact .tup (SqT.of e) (.cons (.str _) (.cons (.int _) .nil))
theorem p7(ok:∀i,Pw (N i)=true)(l:LtO N o):(dat o).canLay0=true/\(dat o).depth<=1/\(dat (hn o)).canLay0=true/\(dat (hn o)).depth<=1:=by
 cases o with
 |none=>exact⟨rfl,MB _,rfl,MB _⟩
 |some w=>
  obtain⟨a,n,j,v,rfl,_⟩:=l w rfl;simp[dat,hn,dV,U6,Ui,PyData.depth,UN,ok j]
theorem Au(h:d.canLay0=true)(h2:d.depth<=1):Pq d=true:=by
 unfold Pq;rw[h,decide_eq_true (show d.depth<=64 by omega)];rfl
theorem Ej(l:LtO N o)(l':LtO N o'):QR (dat (hn o)) (dat (hn o'))=decide (hn o=hn o'):=by
 cases o with
 |none=>
  cases o' with
  |none=>rfl
  |some w=>rfl
 |some w=>
  obtain⟨a,n,j,v,rfl,_⟩:=l w rfl;cases o' with
  |none=>rfl
  |some w'=>
   obtain⟨a',n',j',v',rfl,_⟩:=l' w' rfl;show(QR (.str (N j)) (.str (N j'))&&(QR (.int v) (.int v')&&true))=_;rw[Nx];simp[QR,hn]
inductive CK(vs:List V)(H:Hp)(Q:VK)(Z:XK):Prop
 |mk(l:OW)(xs:List V)(ws:List (List V))(i:Nat):vs=[.ref l,.int i]->H l=Ve (.lst xs)->i5 H xs ws->(∀x,lO H x ws[i]?->Q x H)->CK vs H Q Z
theorem CY{H:Hp}{xs:List V}{ws:List (List V)}{i:Nat}{x:V}(h:i5 H xs ws)(hx:xs[i]?=Ve x):lO H x ws[i]?:=by
 obtain⟨w,hw,p,e,hp⟩:=bb h hx;rw[hw];exact⟨p,e,hp⟩
theorem GN(T:Txt K mg A):T.pQ.Hz P w base 1 CK:=by
 refine T.pQ.hs vQ (λf cdv A' outer s H vs Q E' hr hu h=>?_);obtain⟨l,xs,ws,i,rfl,hl,tp,q⟩:=h;have ln:xs.length=ws.length:=tp.len;refine⟨_,(ah (aA (fG (ptc wM (fv 1) (pcB bQ T.cB (fv 0^af))) (px hu (fv 0) (fv 1)) dF))),lnl hl ⟨_,rfl,ba (λz=>?_) (λz=>?_)⟩⟩
 ·have z:(i:Int)<(xs.length:Int):=of_decide_eq_true z;have hx:xs[i]?=Ve (xs[i]'(())):=Mh ();exact lix (SqL.of hl) (dA hx) (q _ (CY tp hx))
 have z:¬ (i:Int)<(xs.length:Int):=λc=>z (decide_eq_true c);refine q _ ?_;rw[MW ()];rfl
inductive uP(vs:List V)(H:Hp)(Q:VK)(Z:XK):Prop
 |mk(N:Nat->Str)(x:V)(o:Option (List V)):vs=[x]->lO H x o->LtO N o->(∀x' H',ao H H'->lO H' x' (hn o)->Q x' H')->uP vs H Q Z
theorem yI(T:Txt K mg A):T.wI.Hz P w base 1 uP:=by
 refine T.wI.hs zu (λf cdv A' outer s H vs Q E' hr hu h=>?_);obtain⟨N,x,o,rfl,ho,lo,q⟩:=h;refine⟨_,(ah (aA (fG (ptc vP (fv 0) dF) dF (bf (px hu (fv 0) ae^px hu (fv 0) ae^af))))),?_⟩;cases o with
 |none=>
  rw[show x=.non from ho];exact⟨rfl,_,rfl,dz (q _ _ (ao.refl _) rfl)⟩
 |some w=>
  obtain⟨a,n,j,v,rfl,_⟩:=lo w rfl;obtain⟨p,rfl,e⟩:=ho;refine⟨rfl,_,rfl,bu (tix (j:=2) (SqT.of e) rfl (tix (j:=3) (SqT.of e) rfl ⟨by show 2<=sizeLine;decide,λt ht=>q _ _ (ao.upd ht _) ⟨t,rfl,aj⟩⟩))⟩
structure Bg where
 N:Nat->Str
 rs:List Lr
 k:Nat
 ds:List Pt
 ms:List Pt
 E:En
 hs:List Hd
 p:Pa
 hv:List V
 xs:List V
 rows:List Rw
structure Prg(A:Adr)(H:Hp)(v:V)(g:Bg):Prop where
 D:kg g.N
 ok:∀i,Pw (g.N i)=true
 pg:zZ A g.N H v (lfs g.k g.rs) g.ds g.ms
 l:g.rs.length<=500
 hk:EL g.rs
 ro:Co g.rs
 R:VI A g.N H v g.E g.hs g.p g.hv g.xs g.rows
theorem Prg.same(s:ao H H')(h:Prg A H v g):Prg A H' v g:=⟨h.D,h.ok,h.pg.same s,h.l,h.hk,h.ro,h.R.same s⟩
noncomputable def Bg.lt(g:Bg)(gn:Nat->Int)(gl:Nat->List Int):List (List V):=ltF g.E g.hs g.rows gn gl
theorem Prg.lts(h:Prg A H v g)(gn:Nat->Int)(gl:Nat->List Int):(∀w∈g.lt gn gl,yb g.N w)/\(g.lt gn gl).length<=1000:=⟨by rw[<-h.R.n];exact Ir h.R.wf gn gl,FV h.R.wf h.R.ms gn gl⟩
theorem Ie:(⟨nmV 0,[],λ_=>0,[],[]⟩:En).Ok:=⟨rA 0,λ_ h=>(by cases h),.nil,λ_ h=>(by cases h),.nil,MB _,rfl,λ_ h=>(by cases h),λ_=>MB _,MB _⟩
def JW(A:Adr)(H:Hp)(b l:OW)(xs:List V)(ws:List (List V)):Prop:=∃db f2 f3 f4 f5,H b=Ve (.ins A.fB db [("letters",.ref l),("said",f2),("trace",f3),("steps",f4),("ends",f5)])/\H l=Ve (.lst xs)/\i5 H xs ws
inductive A9(A:Adr)(vs:List V)(H:Hp)(Q:VK)(Z:XK):Prop
 |mk(v:V)(g:Bg)(gp:OW)(gn:Nat->Int)(gl:Nat->List Int):vs=[v,.ref gp]->Prg A H v g->mO g.E g.hs H gp gn gl->(∀b l xs H',ao H H'->JW A H' b l xs (g.lt gn gl)->Q (.ref b) H')->A9 A vs H Q Z
theorem zk(T:Txt K mg A):Has P w K mg base 69 "run" ["program","gifts"] (A9 A):=
 (Has.ex (P:=P) (w:=w) (base:=base) (sp:=λE:En=>ze A E 20) (p:=λE=>E.Ok) ⟨nmV 0,[],λ_=>0,[],[]⟩ Ie λE h=>JG T h 20).imp λvs H Q E0 h=>by
  obtain⟨v,g,gp,gn,gl,rfl,B,G,q⟩:=h;refine⟨g.E,B.R.ok,g.p,gp,g.hv,g.xs,g.hs,gn,gl,g.rows,by rw[B.R.v],B.R.pr,B.R.hd,G,B.R.rw,B.R.wf,Oz B.R.ms ∅,λb db l sd t e la H' s D _=>?_⟩;obtain⟨xs,h1,h2⟩:=D.hl;exact q b l xs H' s ⟨db,_,_,_,_,D.hb,h1,h2⟩
inductive AG(A:Adr)(vs:List V)(H:Hp)(Q:VK)(Z:XK):Prop
 |mk(v:V)(g:Bg)(b l:OW)(xs:List V)(ws:List (List V))(rank:Int):vs=[v,.ref b,.int rank]->Prg A H v g->JW A H b l xs ws->(∀w∈ws,yb g.N w)->ws.length<=1000->(∀D ys H',ao H H'->H' D=Ve (.lst ys)->i5 H' ys (ws.filter (ky g.N rank))->Q (.ref D) H')->AG A vs H Q Z
theorem xO(d:kg N)(R:xK N H1 D)(tp:i5 H1 xs ws)(lo:∀w∈ws,yb N w)(hm:x∈xs)(s2:ao H1 H2):∃p a n h v,x=.ref p/\h<3/\H2 p=Ve (.tup [.int a,.int n,.str (N h),.int v])/\c9 H2 D (.str (N h)) (Ve (.int (h:Nat)))/\ofH H1 (ky N rank) (.ref p)=decide ((h:Int)<=rank):=by
 obtain⟨p,w,rfl,hp,hw⟩:=Ea tp hm;obtain⟨a,n,h,v,rfl,hh⟩:=lo w hw;refine⟨p,a,n,h,v,rfl,hh,s2 _ _ hp,(R.same s2).get d hh,?_⟩;show(match H1 p with|some (.tup w)=>ky N rank w|_=>false)=_;rw[hp];exact Ek d hh
theorem CP(T:Txt K mg A):T.seen.Hz P w base 2 (AG A):=by
 refine T.seen.hs (k:=1) AN (λf cdv A' outer s H vs Q E' hr hu h=>?_);obtain⟨v,g,b,l,xs,ws,rank,rfl,B,⟨db,f2,f3,f4,f5,hb,hl,tp⟩,lo,ln,q⟩:=h;refine⟨_,(ab (pst 3 AN.nd (ar (FT T) hr (fv 0^af)))
 (ah (aA (gJ (N:=["letter","rank","ranks"]) (own:=1) (fr:=[2,3]) (cG.of (by kernel_rfl!)) rfl (cA (aI (fv 1) rfl)) (λb=>pgn (i:=0) (show PC (["letter","rank","ranks"]:List PU) by decide+kernel) rfl) (λb=>lj (ptc zp (px hu (fv 2) (px hu (fv 0) ae)) (fv 1))) (λb=>fv 0))))),?_⟩
 refine aq λM1 K1=>⟨g.N,v,g.rs,g.k,g.ds,g.ms,rfl,B.D,B.pg,B.l,B.hk,B.ro,λD H1 s1 R=>K1 _ _ ?_⟩;clear K1 M1;try dsimp only
 have lx:xs.length<=1000:=by
  have:=tp.len;omega
 have hl1:=SqL.of (K:=K) (s1 _ _ hl);have tp1:=tp.same s1;refine fdI (s1 _ _ hb) T.fQ.cl T.d6 rfl (Mt ⟨⟨_,hl1⟩,fA (K:=K) (ofH H1 (ky g.N rank)) (λx=>x) hl1 (ay lx) (λb' x H2 R' hm s2 k=>?_) (λb' x H2 R' hm hp s2 k=>k _ (ao.refl _)) (λD2 H2 hD s2 e=>?_)⟩)
 ·obtain⟨p,a,n,h,v',rfl,hh,hp,hg,e⟩:=xO (rank:=rank) B.D R tp1 lo hm s2;rw[e]at k;exact tix (j:=2) (SqT.of hp) rfl ⟨_,hg,_,rfl,k _ (ao.refl _)⟩
 rw[Ox]at e;exact q D2 _ H2 (s1.trans s2) e ((js _ tp1).same s2)
noncomputable def Bg.qg(g:Bg)(rank:Int)(gn:Nat->Int)(gl:Nat->List Int):List (List V):=(g.lt gn gl).filter (ky g.N rank)
inductive yH(A:Adr)(vs:List V)(H:Hp)(Q:VK)(Z:XK):Prop
 |mk(v:V)(g:Bg)(rank:Int)(g1 g2:OW)(gn1:Nat->Int)(gl1:Nat->List Int)(gn2:Nat->Int)(gl2:Nat->List Int):vs=[v,.int rank,.ref g1,.ref g2]->Prg A H v g->mO g.E g.hs H g1 gn1 gl1->mO g.E g.hs H g2 gn2 gl2->(∀u H',ao H H'->Res H' u (g.qg rank gn1 gl1) (g.qg rank gn2 gl2)->Q u H')->yH A vs H Q Z
theorem FH(a b:Nat):(if(b:Int)>(a:Int)then(b:Int)else(a:Int))=((max a b:Nat):Int):=by
 split<;>omega
theorem Fy(T:Txt K mg A):T.laid.Hz P w base 71 (yH A):=by
 refine T.laid.hs (k:=70) nz (λf cdv A' outer s H vs Q E' hr hu h=>?_);obtain⟨v,g,rank,g1,g2,gn1,gl1,gn2,gl2,rfl,B,G1,G2,q⟩:=h;refine⟨_,(ab (pst 4 nz.nd (ar (CP T) hr (fv 0^ar (zk T) hr (fv 0^fv 2^af)^fv 1^af)))
 (ab (pst 5 nz.nd (ar (CP T) hr (fv 0^ar (zk T) hr (fv 0^fv 3^af)^fv 1^af)))
 (ab (cR O9 rfl (eQ rfl T.fj (pcB Ax T.qI (pcB bQ T.cB (fv 4^af)^pcB bQ T.cB (fv 5^af)^af)^af)) (pgn (i:=6) nz.nd rfl)
  (ab (pst 7 nz.nd (ar (GN T) hr (fv 4^fv 6^af)))
  (ab (pst 8 nz.nd (ar (GN T) hr (fv 5^fv 6^af)))
  (ah (aP (ptc (JL hu) (ar (yI T) hr (fv 7^af)) (ar (yI T) hr (fv 8^af)))
   (ah (aA (bf (fv 6^fv 7^fv 8^af))))
   aD)))))
 (ah (aA dF))))),?_⟩
 obtain⟨o1,n1⟩:=B.lts gn1 gl1;obtain⟨o2,n2⟩:=B.lts gn2 gl2;refine aq λM1 K1=>⟨v,g,g1,gn1,gl1,rfl,B,G1,λb l xs H1 s1 bk=>⟨v,g,b,l,xs,_,rank,rfl,B.same s1,bk,o1,n1,λD1 ys1 H2 s2 e1 t1=>K1 _ _ ?_⟩⟩;clear K1 M1;have s02:=s1.trans s2;try dsimp only
 refine aq λM1 K1=>⟨v,g,g2,gn2,gl2,rfl,B.same s02,G2.same s02,λb' l' xs' H3 s3 bk'=>⟨v,g,b',l',xs',_,rank,rfl,B.same (s02.trans s3),bk',o2,n2,λD2 ys2 H4 s4 e2 t2=>?_⟩⟩;have s24:=s3.trans s4;have s04:=s02.trans s24;have e1:=s24 _ _ e1;have t1:=t1.same s24;rw[show(g.lt gn1 gl1).filter (ky g.N rank)=g.qg rank gn1 gl1 from rfl]at t1;rw[show(g.lt gn2 gl2).filter (ky g.N rank)=g.qg rank gn2 gl2 from rfl]at t2;have l1:∀i,LtO g.N (g.qg rank gn1 gl1)[i]?:=λi w e=>o1 w (MY.mp (Mr e)).1;have l2:∀i,LtO g.N (g.qg rank gn2 gl2)[i]?:=λi w e=>o2 w (MY.mp (Mr e)).1;have m1:(g.qg rank gn1 gl1).length<=1000:=MC (Nd _ _) n1;have m2:(g.qg rank gn2 gl2).length<=1000:=MC (Nd _ _) n2;generalize g.qg rank gn1 gl1=wa at q t1 l1 m1;generalize g.qg rank gn2 gl2=wb at q t2 l2 m2;clear bk bk' s1 s2 s3 s4 s02 s24 G1 G2;have k1:ys1.length=wa.length:=t1.len;have k2:ys2.length=wb.length:=t2.len;refine K1 _ _ ?_;clear K1 M1;try dsimp only
 refine aq λM1 K1=>lnl e1 (lnl e2 ⟨_,_,rfl,?_⟩);rw[FH,k1,k2];refine⟨_,rfl,(),(),?_⟩;rw[Nq];refine kH (lo:=0) (λi σ Hc=>∃(v6 v7 v8:Option V),σ=[Ve v,Ve (.int rank),Ve (.ref g1),Ve (.ref g2),Ve (.ref D1),Ve (.ref D2),v6,v7,v8]/\ao H4 Hc/\∀j,j<i->dif wa wb j=false) ⟨Vf,Vf,Vf,rfl,ao.refl _,λj hj=>()⟩ ?_ ?_
 ·rintro i σ Hc hi ⟨v6,v7,v8,rfl,sc,no⟩;try dsimp only
  rw[show(0:Int)+(i:Int)=(i:Int) by omega];refine aq λM2 K2=>⟨D1,ys1,wa,i,rfl,sc _ _ e1,t1.same sc,λx hx=>K2 _ _ ?_⟩;clear K2 M2;try dsimp only
  refine aq λM2 K2=>⟨D2,ys2,wb,i,rfl,sc _ _ e2,t2.same sc,λy hy=>K2 _ _ ?_⟩;clear K2 M2;try dsimp only
  refine⟨g.N,x,_,rfl,hx,l1 i,λx' H5 s5 hx'=>⟨g.N,y,_,rfl,hy.same s5,l2 i,λy' H6 s6 hy'=>?_⟩⟩;have sh1:=p7 B.ok (l1 i);have sh2:=p7 B.ok (l2 i);refine⟨_,_,wc (l1 i) (hx'.same s6),wc (l2 i) hy',Au sh1.2.2.1 sh1.2.2.2,Au sh2.2.2.1 sh2.2.2.2,_,rfl,?_⟩;rw[Ej (l1 i) (l2 i)];have s56:=s5.trans s6;refine ba (λz=>?_) (λz=>?_)
  ·have fa:=GL hi z no;refine⟨by show 3<=sizeLine;decide,λt ht=>q _ _ (((s04.trans sc).trans s56).trans (ao.upd ht _)) ?_⟩;unfold Res;rw[fa];exact⟨t,x,y,rfl,aj,hx.same (s56.trans (ao.upd ht _)),hy.same (s56.trans (ao.upd ht _))⟩
  refine⟨_,_,_,rfl,sc.trans s56,λj hj=>?_⟩;by_cases c:j=i
  ·rw[c];exact NQ.mpr z
  exact no j ()
 rintro σ Hc ⟨v6,v7,v8,rfl,sc,no⟩;refine K1 _ _ (q _ _ (s04.trans sc) ?_);unfold Res;rw[GQ no]
end
section
variable{P:Program}{w:O7}{K:OZ}{mg:Str->Option OX}{base:Pk}{A:Adr}
noncomputable def l9(A:Adr)(H:Hp)(a:OW):Bool:=match H a with
 |some (.ins C _ _)=>decide (C=A.aN)
 |_=>false
noncomputable def Kh(A:Adr)(H:Hp):V->Bool
 | .ref a=>l9 A H a
 |_=>false
def qC(A:Adr)(H:Hp)(a:OW):Prop:=∃C dx fs,H a=Ve (.ins C dx fs)/\(C=A.bT\/C=A.aN\/C=A.bG\/C=A.cH)
theorem qC.same(s:ao H H')(h:qC A H a):qC A H' a:=by
 obtain⟨C,dx,fs,h,c⟩:=h;exact⟨C,dx,fs,s a _ h,c⟩
theorem u7(s:ao H H')(h:qC A H a):l9 A H' a=l9 A H a:=by
 obtain⟨C,dx,fs,h,c⟩:=h;unfold l9;rw[s a _ h,h]
theorem F2(T:Txt K mg A)(h:qC A H a):∃t,lU K H (.ref a) t/\PL K t (.ref A.aN)=Ve (l9 A H a):=by
 obtain⟨C,dx,fs,h,c⟩:=h;have e:l9 A H a=decide (C=A.aN):=by unfold l9;rw[h]
 rw[e];rcases c with rfl|rfl|rfl|rfl
 ·exact⟨_,T.bM.bP h,by rw[decide_eq_false (show ¬ A.bT=A.aN from au T 1 2)];exact bZ T.bM T.aL (au T 2 1) (au T 2 0)⟩
 ·exact⟨_,T.aL.bP h,by rw[decide_eq_true rfl];exact nN T.aL⟩
 ·exact⟨_,T.bj.bP h,by rw[decide_eq_false (show ¬ A.bG=A.aN from au T 3 2)];exact bZ T.bj T.aL (au T 2 3) (au T 2 0)⟩
 exact⟨_,T.cc.bP h,by rw[decide_eq_false (show ¬ A.cH=A.aN from au T 4 2)];exact bZ T.cc T.aL (au T 2 4) (au T 2 0)⟩
def Dc(A:Adr)(H:Hp)(a:OW)(g:Str×Nat):Prop:=∃dx n r,H a=Ve (.ins A.aN dx [("number",n),("name",.str g.1),("rank",r),("size",.int (g.2:Nat))])/\g.2<=20
theorem Dc.same(s:ao H H')(h:Dc A H a g):Dc A H' a g:=by
 obtain⟨dx,n,r,h,c⟩:=h;exact⟨dx,n,r,s a _ h,c⟩
abbrev tF(A:Adr)(H:Hp):List OW->List (Str×Nat)->Prop:=Paired (Dc A H)
theorem tF.same(s:ao H H')(h:tF A H gl gs):tF A H' gl gs:=Paired.cI h λ_ _ q=>q.same s
theorem tF.at{H:Hp}{gl:List OW}{gs:List (Str×Nat)}(h:tF A H gl gs){i:Nat}{a:OW}(hi:gl[i]?=Ve a):∃g,gs[i]?=Ve g/\Dc A H a g:=by
 have hl:=O3 h;have hlt:=(Ml.mp hi).1;exact⟨gs[i]'(()),Mh (),nE h hi (Mh ())⟩
noncomputable def Cm(tab:List (Str×Nat×Int))(x:Str)(c:Nat×Int):List (Str×Nat×Int):=if(tab.any λe=>decide (e.1=x))=true then tab.map (λe=>if e.1=x then(e.1,c)else e)else tab++[(x,c)]
noncomputable def kW(b:Int)(nm:Str)(more:Int)(i:Nat)(x:Str):Int:=if x=nm then b*((i:Int)+1)+more else b*((i:Int)+1)
noncomputable def kC(gs:List (Str×Nat))(b:Int)(nm:Str)(more:Int):Nat->List (Str×Nat×Int)
 |0=>[]
 |i+1=>match gs[i]? with
  |some g=>Cm (kC gs b nm more i) g.1 (g.2,kW b nm more i g.1)
  |none=>kC gs b nm more i
theorem ue(h:gs[i]?=Ve g):kC gs b nm more (i+1)=Cm (kC gs b nm more i) g.1 (g.2,kW b nm more i g.1):=by
 show(match gs[i]? with|some g=>Cm (kC gs b nm more i) g.1 (g.2,kW b nm more i g.1)|none=>kC gs b nm more i)=_;rw[h]
noncomputable def Vw(gs:List (Str×Nat))(b:Int)(nm:Str)(more:Int):List (Str×Nat×Int):=kC gs b nm more gs.length
noncomputable def lst(c:Nat×Int):List V:=(Pc c.1).map λ(j:Nat)=>.int (c.2+(0+(j:Int)))
def VF(as:List OW)(H:Hp)(v:V)(c:Nat×Int):Prop:=(c.1=0/\v=.int c.2)\/((c.1≠0/\c.1<=20)/\∃p,p∈as/\v=.ref p/\H p=Ve (.lst (lst c)))
abbrev Tab(as:List OW)(H:Hp):List (Key×V)->List (Str×Nat×Int)->Prop:=Paired λp q=>p.1=.inr q.1/\VF as H p.2 q.2
theorem VF.mono(h:VF as H v c)(ha:∀p∈as,p∈as')(hh:∀p∈as,∀u,H p=Ve u->H' p=Ve u):VF as' H' v c:=by
 rcases h with h|⟨h0,p,h1,h2,h3⟩
 ·exact .inl h
 exact .inr ⟨h0,p,ha p h1,h2,hh p h1 _ h3⟩
theorem Tab.mono(h:Tab as H kvs tab)(ha:∀p∈as,p∈as')(hh:∀p∈as,∀u,H p=Ve u->H' p=Ve u):Tab as' H' kvs tab:=
 Paired.cI h λ_ _ q=>⟨q.1,q.2.mono ha hh⟩
theorem Tab.any(r:Tab as H kvs tab)(x:Str):(kvs.any λkv=>decide (kv.1=.inr x))=tab.any λe=>decide (e.1=x):=by
 induction r with
 |nil=>rfl
 |@cons p q ps qs h t ih=>
  rw[NF,NF,ih,h.1];congr 1;exact decide_eq_decide.mpr ⟨λz=>Nr.inj z,λz=>by rw[z]⟩
theorem Tab.put(r:Tab as H kvs tab)(x:Str)(hc:VF as H v c):Tab as H (Vj kvs (.inr x) v) (Cm tab x c):=by
 unfold Vj Cm;rw[r.any x];by_cases e:(tab.any λe=>decide (e.1=x))=true
 ·rw[if_pos e,if_pos e];clear e;induction r with
  |nil=>exact .nil
  |@cons p q ps qs h t ih=>
   rw[Mv,Mv];refine .cons ?_ ih;obtain⟨h1,h2⟩:=h;by_cases e:q.1=x
   ·rw[if_pos (by rw[h1,e]),if_pos e];exact⟨h1,hc⟩
   rw[if_neg (λz=>e (Nr.inj (h1.symm.trans z))),if_neg e];exact⟨h1,h2⟩
 rw[if_neg e,if_neg e];exact Qn r ⟨rfl,hc⟩
theorem Eu(c:Nat×Int):(lst c).all sT=true:=by
 rw[NL];intro x hx;obtain⟨j,_,rfl⟩:=Mz.mp hx;rfl
theorem VF.eq(h:VF as H v c)(h':VF bs H v' c):ve K H v v':=by
 rcases h with⟨h0,rfl⟩|⟨h0,p,h1,rfl,h3⟩
 ·rcases h' with⟨_,rfl⟩|⟨h0',_⟩
  ·exact .inl ⟨rfl,rfl⟩
  exact absurd h0 h0'.1
 rcases h' with⟨h0',_⟩|⟨_,p',_,rfl,h3'⟩
 ·exact absurd h0' h0.1
 exact .inr ⟨p,p',_,rfl,rfl,SqL.of h3,SqL.of h3',Eu c⟩
theorem Tab.eq(r:Tab as H kvs tab):∀{lvs:List (Key×V)},Tab bs H lvs tab->kvs.length=lvs.length/\∀k v,eX kvs k=Ve v->∃v',eX lvs k=Ve v'/\ve K H v v':=by
 induction r with
 |nil=>intro lvs r';cases r';exact⟨rfl,λk v z=>by cases z⟩
 |@cons p q ps qs h t ih=>
  intro lvs r';cases r' with
  |@cons p' _ ps' _ h' t'=>
   obtain⟨e1,e2⟩:=ih t';refine⟨by rw[MD,MD,e1],λk v z=>?_⟩;by_cases hk:p.1=k
   ·rw[i7 hk]at z;cases z;exact⟨p'.2,i7 (h'.1.trans (h.1.symm.trans hk)),h.2.eq h'.2⟩
   rw[kr hk]at z;rw[kr (λz=>hk (h.1.trans (h'.1.symm.trans z)))];exact e2 k v z
def qk(H:Hp)(d:OW)(as:List OW)(tab:List (Str×Nat×Int)):Prop:=∃kvs,H d=Ve (.dK kvs)/\Tab as H kvs tab/\kvs.length<=100
theorem qk.keep(h:qk H d as tab)(hh:∀p∈d::as,∀u,H p=Ve u->H' p=Ve u):qk H' d as tab:=by
 obtain⟨kvs,h1,h2,h3⟩:=h;exact⟨kvs,hh d (by simp) _ h1,h2.mono (λ_ q=>q) λp hp=>hh p (by simp[hp]),h3⟩
def DL(H:Hp)(a:OW):Prop:=(∃kvs,H a=Ve (.dK kvs))\/∃xs,H a=Ve (.lst xs)
theorem DL.keep(h:DL H a)(k:∀o,H a=Ve o->H' a=Ve o):DL H' a:=by
 rcases h with⟨x,h⟩|⟨x,h⟩
 ·exact .inl ⟨x,k _ h⟩
 exact .inr ⟨x,k _ h⟩
theorem DL.ne(h:DL H a):H a≠Vf:=by
 rcases h with⟨x,h⟩|⟨x,h⟩<;>(rw[h];intro z;cases z)
inductive pN(vs:List V)(H:Hp)(Q:VK)(Z:XK):Prop
 |mk(z:Nat)(st:Int):vs=[.int (z:Nat),.int st]->z<=20->(∀v H',ao H H'->((z=0/\v=.int st)\/(z≠0/\∃p,v=.ref p/\H p=Vf/\H' p=Ve (.lst (lst (z,st)))))->Q v H')->pN vs H Q Z
theorem yo(T:Txt K mg A):T.qx.Hz P w base 1 pN:=by
 refine T.qx.hs wR (λf cdv A' outer s H vs Q E hr hu h=>?_);obtain⟨z,st,rfl,hz,q⟩:=h;refine⟨_,(ab (aP (ptc (bh hu) (fv 0) ae)
  (ah (aA (fv 1)))
  aD)
 (ah (aA (gJ (N:=["place","start"]) (own:=1) (fr:=[1]) (cG.of (by kernel_rfl!)) rfl (eQ rfl T.fj (fv 0^af)) (λb=>pgn (i:=0) (show PC (["place","start"]:List PU) by decide+kernel) rfl) (λb=>oI) (λb=>ax bo (fv 1) (fv 0)))))),?_⟩
 refine⟨rfl,_,rfl,?_⟩;rw[qq];by_cases h:(z:Int)=0
 ·rw[decide_eq_true h];exact dz (q _ _ (ao.refl _) (.inl ⟨(),rfl⟩))
 rw[decide_eq_false h];refine bu ⟨_,rfl,(),(),rN (λ_=>true) (λj=>.int (st+(0+(j:Int)))) (ay ()) (λcb i H2 R hi sm k=>k H2 (ao.refl _)) (λcb i H2 R hi _ sm k=>k H2 (ao.refl _)) λD H2 hD sm e=>q _ _ sm (.inr ⟨(),D,rfl,hD,?_⟩)⟩;rw[e,mH,Nq];rfl
def Gx(K:OZ)(A:Adr)(H:Hp)(pr:OW)(hs:List OW):Prop:=∃dx lh ld lm,H pr=Ve (.ins A.Program dx [("heads",.ref lh),("deeds",ld),("main",lm)])/\SqL K H lh (hs.map V.ref)/\∀a∈hs,qC A H a
theorem Gx.same(s:ao H H')(h:Gx K A H pr hs):Gx K A H' pr hs:=by
 obtain⟨dx,lh,ld,lm,h1,h2,h3⟩:=h;exact⟨dx,lh,ld,lm,s _ _ h1,s.seq h2,λa ha=>(h3 a ha).same s⟩
theorem Dh(A:Adr)(H:Hp)(hs:List OW):(hs.map V.ref).filter (Kh A H)=(hs.filter (l9 A H)).map V.ref:=by
 rw[Ov];rfl
theorem Ce{H H':Hp}(s:ao H H'){hs:List OW}(h:∀a∈hs,qC A H a):hs.filter (l9 A H')=hs.filter (l9 A H):=List.filter_congr λa ha=>u7 s (h a ha)
structure y8(K:OZ)(A:Adr)(H:Hp)(pr:OW)(hs gl:List OW)(gs:List (Str×Nat)):Prop where
 rp:Gx K A H pr hs
 len:hs.length<=70
 eg:hs.filter (l9 A H)=gl
 rg:tF A H gl gs
theorem y8.same(s:ao H H')(h:y8 K A H pr hs gl gs):y8 K A H' pr hs gl gs:=by
 obtain⟨dx,lh,ld,lm,h1,h2,h3⟩:=h.rp;exact⟨h.rp.same s,h.len,(Ce s h3).trans h.eg,h.rg.same s⟩
theorem y8.gle(h:y8 K A H pr hs gl gs):gl.length<=70:=by
 have:=Nd (l9 A H) hs;have e:=h.len;rw[h.eg]at this;omega
inductive nT(K:OZ)(A:Adr)(vs:List V)(H:Hp)(Q:VK)(Z:XK):Prop
 |mk(pr:OW)(hs gl:List OW)(gs:List (Str×Nat))(b more:Int)(nm:Str):vs=[.ref pr,.int b,.str nm,.int more]->y8 K A H pr hs gl gs->0<=b->b<=10->(∀d as H',ao H H'->(∀a∈d::as,H a=Vf/\DL H' a)->qk H' d as (Vw gs b nm more)->Q (.ref d) H')->nT K A vs H Q Z
theorem pv(T:Txt K mg A):T.oS.Hz P w base 2 (nT K A):=by
 refine T.oS.hs dq (λf cdv A' outer s H vs Q E hr hu h=>?_);obtain⟨pr,hs,gl,gs,b,more,nm,rfl,h62,b0,b1,q⟩:=h;obtain⟨dx,lh,ld,lm,hp1,hp2,hp3⟩:=h62.rp;have hlen:=h62.len;have gle:=h62.gle;refine⟨_,(ab (fR (j:=4) (N:=["head"]) (own:=1) (fr:=[]) (cG.of (by kernel_rfl!)) rfl dq.nd rfl (Mt rfl) (cA (aI (fv 0) rfl)) (λb=>pgn (i:=0) (show PC (["head"]:List PU) by decide+kernel) rfl) (λb=>lj (bR (pcB bD T.aH (fv 0^cU T.aL.mg^af)) (λ_=>rfl))) (λb=>fv 0))
 (ab (pst 5 dq.nd (fK))
 (ab (cR O9 rfl (Gp rfl T.jt (fv 4^af)) (wg rfl (gM (pgn (i:=6) dq.nd rfl) (gM (pgn (i:=7) dq.nd rfl) rb)))
  (ab (pst 8 dq.nd (ax dw (fv 1) (ax bo (fv 6) ae)))
  (ab (aP (ptc (bh hu) (aI (fv 7) rfl) (fv 2))
   (ah (CH (i:=8) dq.nd rfl (by first|exact Mt rfl|exact MJ rfl) (fv 3) EG))
   aD)
  (ah (bA (ar (yo T) hr (aI (fv 7) rfl^fv 8^af)) (bz (fv 5) (aI (fv 7) rfl) (bB hu Vi)))))))
 (ah (aA (fv 5)))))),?_⟩
 refine⟨pr,A.Program,dx,_,_,rfl,hp1,T.dW.cl,T.cZ,rfl,Mt ⟨⟨_,hp2⟩,fA (Kh A H) id hp2 (ay (by rw[Mj];omega)) (λcb x H2 R hx sm k=>?_) (λcb x H2 R hx _ sm k=>k H2 (ao.refl _)) λlg H2 hlg s2 e2=>?_⟩⟩
 ·obtain⟨a,ha,rfl⟩:=Mz.mp hx;obtain⟨t,ht,hk⟩:=F2 T ((hp3 a ha).same sm);rw[u7 sm (hp3 a ha)]at hk;exact⟨_,_,t,l9 A H a,rfl,(λz=>by cases z),ht,hk,l9 A H a,rfl,k H2 (ao.refl _)⟩
 rw[List.map_id,Dh,h62.eg]at e2;intro d hd;have s3:ao H (upd H2 d (.dK [])):=s2.trans (ao.upd hd _);have hnd:H d=Vf:=s2.free hd;refine⟨lg,rfl,⟨_,SqL.of (by rw[aw (cz e2 hd)];exact e2)⟩,?_⟩;have hne:lg≠d:=cz e2 hd;refine CI (K:=K) (xs:=gl.map V.ref) (λi σ H3=>ao H H3/\H3 lg=Ve (.lst (gl.map V.ref))/\(∃as kvs,(∀a∈as,H a=Vf/\DL H3 a)/\H3 d=Ve (.dK kvs)/\Tab as H3 kvs (kC gs b nm more i)/\kvs.length<=i)/\∃v6 v7 v8,σ=[Ve (.ref pr),Ve (.int b),Ve (.str nm),Ve (.int more),Ve (.ref lg),Ve (.ref d),v6,v7,v8])
  ⟨s3,by rw[aw hne];exact e2,⟨[],[],(λa ha=>by cases ha),aj,.nil,Mo _⟩,Vf,Vf,Vf,rfl⟩ (λi σ H3 _ h=>SqL.of h.2.1) ?_ ?_
 ·rintro i x σ H3 t hi ⟨s4,h4l,⟨as,kvs,has,hd4,htab,hln⟩,v6,v7,v8,rfl⟩ ht;rw[Mu]at hi;obtain⟨ga,hga,rfl⟩:∃ga,gl[i]?=Ve ga/\V.ref ga=x:=by
   cases h:gl[i]? with
   |none=>rw[h]at hi;cases hi
   |some ga=>rw[h]at hi;exact⟨ga,rfl,O1 hi⟩
  have hilt:i<gl.length:=(Ml.mp hga).1;obtain⟨g,hg,gdx,gn,gr,hG,hz⟩:=h62.rg.at hga;have s5:ao H3 (upd H3 t (.tup [.int (i:Nat),.ref ga])):=ao.upd ht _;have ht4:upd H3 t (.tup [.int (i:Nat),.ref ga]) t=Ve (.tup [.int (i:Nat),.ref ga]):=aj;generalize upd H3 t (.tup [.int (i:Nat),.ref ga])=H4 at s5 ht4⊢;have hG4:=(s4.trans s5) _ _ hG;have pf:∀v H5,ao H4 H5->((g.2=0/\v=.int (kW b nm more i g.1))\/(g.2≠0/\∃p,v=.ref p/\H4 p=Vf/\H5 p=Ve (.lst (lst (g.2,kW b nm more i g.1)))))->
    H5 d=Ve (.dK kvs)/\ao H (upd H5 d (.dK (Vj kvs (.inr g.1) v)))/\upd H5 d (.dK (Vj kvs (.inr g.1) v)) lg=Ve (.lst (gl.map V.ref))/\
    ∃as' kvs',(∀a∈as',H a=Vf/\DL (upd H5 d (.dK (Vj kvs (.inr g.1) v))) a)/\upd H5 d (.dK (Vj kvs (.inr g.1) v)) d=Ve (.dK kvs')/\Tab as' (upd H5 d (.dK (Vj kvs (.inr g.1) v))) kvs' (kC gs b nm more (i+1))/\kvs'.length<=i+1:=by
   intro v H5 s6 hv
   have s7:ao H3 H5:=s5.trans s6
   have hd5:H5 d=Ve (.dK kvs):=s7 _ _ hd4
   have sH:ao H (upd H5 d (.dK (Vj kvs (.inr g.1) v))):=λc o hc=>by
    rw[aw (cz hc hnd)];exact(s4.trans s7) c o hc
   have keep:∀c o,c≠d->H3 c=Ve o->upd H5 d (.dK (Vj kvs (.inr g.1) v)) c=Ve o:=λc o hc h=>by rw[aw hc];exact s7 c o h
   have asd:∀p u,H3 p=Ve (.lst u)->p≠d:=λp u h z=>by rw[z,hd4]at h;cases h
   have lk:=eA kvs (.inr g.1) v
   refine⟨hd5,sH,keep _ _ hne h4l,?_⟩
   rw[ue hg]
   rcases hv with⟨z0,rfl⟩|⟨z0,p,rfl,hp4,hp5⟩
   ·refine⟨as,_,λa ha=>⟨(has a ha).1,?_⟩,aj,?_,()⟩
    ·by_cases e:a=d
     ·rw[e];exact .inl ⟨_,aj⟩
     exact(has a ha).2.keep λo h=>keep a o e h
    refine Tab.put ?_ g.1 (.inl ⟨z0,rfl⟩);refine Paired.cI htab λx y h=>⟨h.1,?_⟩;rcases h.2 with h|⟨h0,p,h1,h2,h3⟩
    ·exact .inl h
    exact .inr ⟨h0,p,h1,h2,keep p _ (asd p _ h3) h3⟩
   have hpd:p≠d:=λz=>by rw[z,s5 _ _ hd4]at hp4;cases hp4
   refine⟨p::as,_,λa ha=>?_,aj,?_,()⟩
   ·rcases Mf.mp ha with rfl|ha
    ·exact⟨(s4.trans s5).free hp4,.inr ⟨_,by rw[aw hpd];exact hp5⟩⟩
    refine⟨(has a ha).1,?_⟩;by_cases e:a=d
    ·rw[e];exact .inl ⟨_,aj⟩
    exact(has a ha).2.keep λo h=>keep a o e h
   refine Tab.put ?_ g.1 (.inr ⟨⟨z0,hz⟩,p,by simp,rfl,by rw[aw hpd];exact hp5⟩)
   refine Paired.cI htab λx y h=>⟨h.1,?_⟩
   rcases h.2 with h|⟨h0,p',h1,h2,h3⟩
   ·exact .inl h
   exact .inr ⟨h0,p',by simp[h1],h2,keep p' _ (asd p' _ h3) h3⟩
  refine⟨t,_,rfl,SqT.of ht4,rfl,_,_,rfl,_,_,rfl,rfl,⟨vi () (),ga,A.aN,gdx,_,_,rfl,hG4,T.aL.cl,T.cx,rfl,rfl,_,rfl,?_⟩⟩;rw[IS];by_cases hn:g.1=nm
  ·rw[decide_eq_true hn];refine dz ⟨_,rfl,_,_,rfl,rfl,⟨ga,A.aN,gdx,_,_,rfl,hG4,T.aL.cl,T.cy,rfl,g.2,b*((i:Int)+1)+more,rfl,hz,λv H5 s6 hv=>?_⟩⟩;have e:kW b nm more i g.1=b*((i:Int)+1)+more:=if_pos hn;rw[<-e]at hv;obtain⟨p1,p2,p3,p4⟩:=pf v H5 s6 hv;exact⟨ga,A.aN,gdx,_,_,rfl,s6 _ _ hG4,T.aL.cl,T.cx,rfl,_,cW.k (k:=.inr g.1) p1 (ay ()),p2,p3,p4,_,_,_,rfl⟩
  rw[decide_eq_false hn];refine bu ⟨ga,A.aN,gdx,_,_,rfl,hG4,T.aL.cl,T.cy,rfl,g.2,_,rfl,hz,λv H5 s6 hv=>?_⟩;have e:kW b nm more i g.1=b*((i:Int)+1):=if_neg hn;rw[<-e]at hv;obtain⟨p1,p2,p3,p4⟩:=pf v H5 s6 hv;exact⟨ga,A.aN,gdx,_,_,rfl,s6 _ _ hG4,T.aL.cl,T.cx,rfl,_,cW.k (k:=.inr g.1) p1 (ay ()),p2,p3,p4,_,_,_,rfl⟩
 rintro σ H3 ⟨s4,h4l,⟨as,kvs,has,hd4,htab,hln⟩,v6,v7,v8,rfl⟩;rw[Mj]at htab hln;rw[O3 h62.rg]at htab;refine q d as H3 s4 (λa ha=>?_) ⟨kvs,hd4,htab,()⟩;rcases Mf.mp ha with rfl|ha
 ·exact⟨hnd,.inl ⟨_,hd4⟩⟩
 exact has a ha
structure Pr where
 t:OW
 d0:OW
 a0:List OW
 d1:OW
 a1:List OW
noncomputable def Pr.fps(e:Pr):List (List OW):=[e.d0::e.a0,e.d1::e.a1]
noncomputable def dZ(k:Nat):Int:=((k/3:Nat):Int)
noncomputable def eU(k:Nat):Int:=if k%3=0 then 1 else if k%3=1 then 2 else 5
structure BN(gs:List (Str×Nat))(nm:Str)(H:Hp)(k:Nat)(e:Pr):Prop where
 tup:H e.t=Ve (.tup [.ref e.d0,.ref e.d1])
 r0:qk H e.d0 e.a0 (Vw gs (dZ k) nm 0)
 r1:qk H e.d1 e.a1 (Vw gs (dZ k) nm (eU k))
theorem BN.same(h:BN gs nm H k e)(s:ao H H'):BN gs nm H' k e:=
 ⟨s _ _ h.tup,h.r0.keep λp _ u q=>s p u q,h.r1.keep λp _ u q=>s p u q⟩
def LA(a b:List OW):Prop:=∀x∈a,x∉b
structure Prs(gs:List (Str×Nat))(nm:Str)(H0 H:Hp)(es:List Pr):Prop where
 ok:∀k e,es[k]?=Ve e->BN gs nm H k e
 apart:(es.flatMap Pr.fps).Pairwise LA
 young:∀f∈es.flatMap Pr.fps,∀a∈f,H0 a=Vf/\DL H a
theorem Prs.same(h:Prs gs nm H0 H es)(s:ao H H'):Prs gs nm H0 H' es:=
 ⟨λk e he=>(h.ok k e he).same s,h.apart,λf hf a ha=>⟨(h.young f hf a ha).1,(h.young f hf a ha).2.keep λo q=>s a o q⟩⟩
theorem Prs.upd(h:Prs gs nm H0 H es)(hx:∀f∈es.flatMap Pr.fps,x∉f)(ht:∀e∈es,x≠e.t):Prs gs nm H0 (upd H x o) es:=by
 have mem:∀e∈es,∀f∈e.fps,f∈es.flatMap Pr.fps:=λe he f hf=>Nj.mpr ⟨e,he,hf⟩;refine⟨λk e he=>?_,h.apart,λf hf a ha=>⟨(h.young f hf a ha).1,?_⟩⟩
 ·have hm:=Mr he;obtain⟨h1,h2,h3⟩:=h.ok k e he;refine⟨by rw[aw (Nm (ht e hm))];exact h1,h2.keep λp hp u q=>?_,h3.keep λp hp u q=>?_⟩
  ·rw[aw (λz=>hx _ (mem e hm (e.d0::e.a0) (by simp[Pr.fps])) (by rw[<-z];exact hp))];exact q
  rw[aw (λz=>hx _ (mem e hm (e.d1::e.a1) (by simp[Pr.fps])) (by rw[<-z];exact hp))];exact q
 exact(h.young f hf a ha).2.keep λo q=>by rw[aw (λz=>hx f hf (by rw[<-z];exact ha))];exact q
theorem Prs.snoc(h:Prs gs nm H0 H1 es)(s0:∀a,H1 a=Vf->H0 a=Vf)(s1:ao H1 H2)(s2:ao H2 H3)(n0:∀a∈e.d0::e.a0,H1 a=Vf/\DL H2 a)(n1:∀a∈e.d1::e.a1,H2 a=Vf/\DL H3 a)
  (ok:BN gs nm H3 es.length e):Prs gs nm H0 H3 (es++[e]):=by
 have s13:=s1.trans s2
 have h3:=h.same s13
 have up:∀{H H':Hp}{a:OW},ao H H'->DL H a->DL H' a:=λs h=>h.keep λo q=>s _ o q
 refine⟨λk x hk=>?_,?_,λf hf a ha=>?_⟩
 ·by_cases hlt:k<es.length
  ·rw[Nn hlt]at hk;exact h3.ok k x hk
  rw[Nt ()]at hk;have hk0:k=es.length:=by
   by_cases z:k-es.length=0
   ·omega
   rw[MW (by simp;omega)]at hk;cases hk
  subst hk0;rw[Nat.sub_self]at hk;simp at hk;subst hk;exact ok
 ·rw[Np,List.pairwise_append];refine⟨h.apart,?_,λf hf g hg x hx hx'=>?_⟩
  ·simp only[MG,NX,MR,Pr.fps,List.pairwise_cons,Mq,forall_eq,TZ,and_true,Ms,false_implies,implies_true];intro x hx hx';exact(n0 x hx).2.ne (n1 x hx').1
  have hy:=(h.young f hf x hx).2;simp only[MG,NX,MR,Pr.fps,Mf,Ms,or_false]at hg;rcases hg with rfl|rfl
  ·exact hy.ne (n0 x hx').1
  exact(up s1 hy).ne (n1 x hx').1
 rw[Np,Mp]at hf
 rcases hf with hf|hf
 ·exact h3.young f hf a ha
 simp only[MG,NX,MR,Pr.fps,Mf,Ms,or_false]at hf
 rcases hf with rfl|rfl
 ·exact⟨s0 a (n0 a ha).1,up s2 (n0 a ha).2⟩
 exact⟨s0 a (s1.free (n1 a ha).1),(n1 a ha).2⟩
inductive xY(K:OZ)(A:Adr)(vs:List V)(H:Hp)(Q:VK)(Z:XK):Prop
 |mk(pr:OW)(hs gl:List OW)(gs:List (Str×Nat))(nm:Str):vs=[.ref pr,.str nm]->y8 K A H pr hs gl gs->(∀l es H',ao H H'->H' l=Ve (.lst (es.map λe=>.ref e.t))->es.length=12->Prs gs nm H H' es->(∀f∈es.flatMap Pr.fps,l∉f)->Q (.ref l) H')->xY K A vs H Q Z
theorem Ft(T:Txt K mg A):T.C8.Hz P w base 3 (xY K A):=by
 obtain⟨aB,hc_BEGINS,sB,_⟩:=T.yg;obtain⟨aM,hc_MORES,sM,_⟩:=T.AD;refine T.C8.hs pM (λf cdv A' outer s H vs Q E hr hu h=>?_);obtain⟨pr,hs,gl,gs,nm,rfl,h62,q⟩:=h;refine⟨_,(ab (pst 2 pM.nd (bI af))
 (ab (cR O9 rfl (cA (cU hc_BEGINS)) (pgn (i:=3) pM.nd rfl)
  (ah (cR O9 rfl (cA (cU hc_MORES)) (pgn (i:=4) pM.nd rfl)
   (ah (aK (cN (fv 2) (bf (ar (pv T) hr (fv 0^fv 3^fv 1^ae^af)^ar (pv T) hr (fv 0^fv 3^fv 1^fv 4^af)^af)^af)))))))
 (ah (aA (fv 2))))),?_⟩
 refine⟨(by decide:0<=sizeLine),λl hl=>MJ ⟨⟨_,sB _⟩,?_⟩⟩;refine AS (K:=K) (xs:=[.int 0,.int 1,.int 2,.int 3]) (λi σ H3=>ao H H3/\(∃es,es.length=3*i/\H3 l=Ve (.lst (es.map λe=>.ref e.t))/\Prs gs nm (L2.upd H l (.lst [])) H3 es)/\∃v3 v4,σ=[Ve (.ref pr),Ve (.str nm),Ve (.ref l),v3,v4])
  ⟨ao.upd hl _,⟨[],rfl,aj,⟨λk e z=>by simp at z,.nil,λf hf=>by simp at hf⟩⟩,Vf,Vf,rfl⟩ (λi σ H3 _ h=>sB _) ?_ ?_
 ·rintro i x σ H3 hi ⟨s3,⟨es,hes,h3l,hprs⟩,v3,v4,rfl⟩;have hi4:i<4:=(Ml.mp hi).1;have hx:x=.int (i:Nat):=by
   obtain rfl|rfl|rfl|rfl:i=0\/i=1\/i=2\/i=3:=()
   all_goals exact(O1 hi).symm
  subst hx;refine MJ ⟨⟨_,sM _⟩,?_⟩;refine AS (K:=K) (xs:=[.int 1,.int 2,.int 5]) (λj σ H4=>ao H H4/\(∃es,es.length=3*i+j/\H4 l=Ve (.lst (es.map λe=>.ref e.t))/\Prs gs nm (L2.upd H l (.lst [])) H4 es)/\∃v4,σ=[Ve (.ref pr),Ve (.str nm),Ve (.ref l),Ve (.int (i:Nat)),v4])
   ⟨s3,⟨es,hes,h3l,hprs⟩,v4,rfl⟩ (λi σ H3 _ h=>sM _) ?_ ?_
  ·clear hprs h3l hes es s3 v3 v4 H3;rintro j x σ H3 hj ⟨s3,⟨es,hes,h3l,hprs⟩,v4,rfl⟩;have hj3:j<3:=(Ml.mp hj).1;have eb:dZ es.length=(i:Int):=by
    unfold dZ;rw[hes,show(3*i+j)/3=i by omega]
   have em:x=.int (eU es.length):=by
    unfold eU;rw[hes,show(3*i+j)%3=j by omega];obtain rfl|rfl|rfl:j=0\/j=1\/j=2:=()
    all_goals exact(O1 hj).symm
   subst em;refine⟨Mt ⟨rfl,_,SqL.of h3l⟩,pr,hs,gl,gs,(i:Int),0,nm,rfl,h62.same s3,(),(),λd0 a0 H4 s4 n0 r0=>⟨pr,hs,gl,gs,(i:Int),_,nm,rfl,h62.same (s3.trans s4),(),(),λd1 a1 H5 s5 n1 r1=>⟨(by decide:2<=sizeLine),λt ht=>?_⟩⟩⟩;have s6:ao H5 (upd H5 t (.tup [.ref d0,.ref d1])):=ao.upd ht _;have s36:=s4.trans (s5.trans s6);have h6l:=s36 _ _ h3l;refine⟨l,_,_,rfl,rfl,h6l,ay (by rw[Mj];omega),?_⟩;have n1':∀a∈d1::a1,H4 a=Vf/\DL (L2.upd H5 t (.tup [.ref d0,.ref d1])) a:=λa ha=>⟨(n1 a ha).1,(n1 a ha).2.keep λo q=>s6 a o q⟩;have ok:BN gs nm (upd H5 t (.tup [.ref d0,.ref d1])) es.length ⟨t,d0,a0,d1,a1⟩:=
    ⟨aj,by rw[eb];exact r0.keep λp _ u z=>(s5.trans s6) p u z,by rw[eb];exact r1.keep λp _ u z=>s6 p u z⟩
   have hp:=hprs.snoc (e:=⟨t,d0,a0,d1,a1⟩) (λa ha=>by rw[aw (λz=>by rw[z,h3l]at ha;cases ha)];exact s3.free ha) s4 (s5.trans s6) n0 n1' ok;have hnl:H l=Vf:=hl;refine⟨λb o hb=>?_,⟨es++[⟨t,d0,a0,d1,a1⟩],by rw[Mn,hes];rfl,?_,hp.upd (λf hf hx=>?_) (λe he z=>?_)⟩,_,rfl⟩
   ·rw[aw (cz hb hl)];exact(s3.trans s36) b o hb
   ·rw[aj,MI];rfl
   ·have:=(hp.young f hf l hx).1;rw[aj]at this;cases this
   have:=(hp.ok _ _ (ME he).choose_spec).tup;rw[<-z,h6l]at this;cases this
  rintro σ H4 ⟨s4,⟨es,hes,h4l,hprs⟩,v4,rfl⟩;exact⟨s4,⟨es,by rw[hes];simp;omega,h4l,hprs⟩,_,_,rfl⟩
 rintro σ H3 ⟨s3,⟨es,hes,h3l,hprs⟩,v3,v4,rfl⟩;refine q l es H3 s3 h3l hes ⟨hprs.ok,hprs.apart,λf hf a ha=>⟨?_,(hprs.young f hf a ha).2⟩⟩ λf hf hx=>by
  have:=(hprs.young f hf l hx).1;rw[aj]at this;cases this
 have:=(hprs.young f hf a ha).1;by_cases z:a=l
 ·rw[z];exact hl
 rw[aw z]at this;exact this
end
section
variable{P:Program}{w:O7}{K:OZ}{mg:Str->Option OX}{base:Pk}{A:Adr}{N:Nat->Str}{E:En}
noncomputable def gvs(N:Nat->Str):List Hd->List (Str×Nat)
 | []=>[]
 | .giv i z::r=>(N i,z)::gvs N r
 | .hand _::r=>gvs N r
 | .own _ _::r=>gvs N r
 | .lt _::r=>gvs N r
theorem qX(h:H a=Ve (.ins C dx fs)):l9 A H a=decide (C=A.aN):=by
 unfold l9;rw[h]
theorem Cv(T:Txt K mg A):∀{hv:List V}{hs:List Hd},Paired (ux A N H) hv hs->(∀i z,Hd.giv i z∈hs->z<=20)->∃as:List OW,hv=as.map V.ref/\(∀a∈as,qC A H a)/\tF A H (as.filter (l9 A H)) (gvs N hs):=by
 intro hv hs h;induction h with
 |nil=>exact λ_=>⟨[],rfl,(λa m=>by cases m),.nil⟩
 |@cons v d hv hs h t ih=>
  intro sz;obtain⟨as,e,hc,rg⟩:=ih λi z m=>sz i z (Mi _ m);cases d with
  |hand i=>
   obtain⟨a,dx,n,rk,rfl,ha⟩:=h;refine⟨a::as,by rw[e];rfl,λx m=>?_,?_⟩
   ·rcases Mf.mp m with rfl|m
    ·exact⟨_,dx,_,ha,.inl rfl⟩
    exact hc x m
   rw[MZ,qX ha,decide_eq_false (show ¬ A.bT=A.aN from au T 1 2)];exact rg
  |giv i z=>
   obtain⟨a,dx,n,rk,rfl,ha⟩:=h;refine⟨a::as,by rw[e];rfl,λx m=>?_,?_⟩
   ·rcases Mf.mp m with rfl|m
    ·exact⟨_,dx,_,ha,.inr (.inl rfl)⟩
    exact hc x m
   rw[MZ,qX ha,decide_eq_true rfl];exact .cons ⟨dx,n,rk,ha,sz i z Mg⟩ rg
  |own i z=>
   obtain⟨a,dx,n,rfl,ha⟩:=h;refine⟨a::as,by rw[e];rfl,λx m=>?_,?_⟩
   ·rcases Mf.mp m with rfl|m
    ·exact⟨_,dx,_,ha,.inr (.inr (.inl rfl))⟩
    exact hc x m
   rw[MZ,qX ha,decide_eq_false (show ¬ A.bG=A.aN from au T 3 2)];exact rg
  |lt i=>
   obtain⟨a,dx,n,rk,rfl,ha⟩:=h;refine⟨a::as,by rw[e];rfl,λx m=>?_,?_⟩
   ·rcases Mf.mp m with rfl|m
    ·exact⟨_,dx,_,ha,.inr (.inr (.inr rfl))⟩
    exact hc x m
   rw[MZ,qX ha,decide_eq_false (show ¬ A.cH=A.aN from au T 4 2)];exact rg
theorem Fh(T:Txt K mg A)(R:xh A E H p hv hs xs)(sz:∀i z,Hd.giv i z∈hs->z<=20):∃as gl,y8 K A H p.pa as gl (gvs E.N hs):=by
 obtain⟨as,e,hc,rg⟩:=Cv T R.h sz;have l:=R.l;rw[e,Mj]at l;exact⟨as,_,⟨p.dp,p.hd,_,_,R.pr,by rw[<-e];exact SqL.of R.hd,hc⟩,(),rfl,rg⟩
noncomputable def VB(gs:List (Str×Nat))(b:Int)(nm:Str)(more:Int):List (Str×Nat×Int):=gs.zipIdx.map λg=>(g.1.1,g.1.2,kW b nm more g.2 g.1.1)
theorem oH(nd:(gs.map (·.1)).Nodup):∀i,i<=gs.length->kC gs b nm more i=(VB gs b nm more).take i:=by
 intro i;induction i with
 |zero=>intro _;rfl
 |succ i ih=>
  intro hi;have hg:gs[i]?=Ve (gs[i]'(())):=Mh ();rw[ue hg,ih ()];have ht:(VB gs b nm more)[i]?=Ve ((gs[i]'(())).1,(gs[i]'(())).2,kW b nm more i (gs[i]'(())).1):=by
   unfold VB;rw[Mu,NY,hg];simp
  rw[Nf,ht];unfold Cm;rw[if_neg]
  ·rfl
  intro z;obtain⟨e,he,ee⟩:=Ni.mp z;have ee:=of_decide_eq_true ee;obtain⟨j,hj⟩:=ME he;have hjl:=(Ml.mp hj).1;rw[Nb]at hjl;have hji:j<i:=()
  rw[List.getElem?_take,if_pos hji]at hj;unfold VB at hj;rw[Mu,NY,Mh (show j<gs.length by omega)]at hj;simp at hj;rw[<-hj]at ee;have:=(NW (xs:=gs.map (·.1)) (i:=j) (j:=i) (h₀:=by rw[Mj];omega) (h₁:=by rw[Mj];omega) nd).mp (by rw[Uw,Uw];exact ee);omega
theorem tabOf_eq(nd:(gs.map (·.1)).Nodup):Vw gs b nm more=VB gs b nm more:=by
 unfold Vw;rw[oH nd _ (Mo _),Nh];unfold VB;rw[Mj,TC];exact Mo _
noncomputable def gix:List Hd->List Nat
 | []=>[]
 | .giv i _::r=>i::gix r
 | .hand _::r=>gix r
 | .own _ _::r=>gix r
 | .lt _::r=>gix r
theorem iA:∀hs:List Hd,(gvs N hs).map (·.1)=(gix hs).map N
 | []=>rfl
 | .giv i _::r=>by
  show N i::(gvs N r).map (·.1)=N i::(gix r).map N;rw[iA r]
 | .hand _::r=>iA r
 | .own _ _::r=>iA r
 | .lt _::r=>iA r
theorem pH:∀hs:List Hd,(gix hs).Sublist (hs.flatMap Hd.cell)
 | []=>.slnil
 | .giv i _::r=>.cons₂ i (pH r)
 | .hand _::r=>pH r
 | .own i _::r=>.cons i (pH r)
 | .lt _::r=>pH r
theorem tW:∀{hs:List Hd},Hd.giv i z∈hs->∃k:Nat,(gix hs)[k]?=Ve i/\(gvs N hs)[k]?=Ve (N i,z)
 | [],m=>by cases m
 | .giv j y::r,m=>by
  rcases Mf.mp m with e|m
  ·cases e;exact⟨0,rfl,rfl⟩
  obtain⟨k,h1,h2⟩:=tW m;exact⟨k+1,h1,h2⟩
 | .hand _::r,m=>by
  rcases Mf.mp m with e|m
  ·cases e
  exact tW (hs:=r) m
 | .own _ _::r,m=>by
  rcases Mf.mp m with e|m
  ·cases e
  exact tW (hs:=r) m
 | .lt _::r,m=>by
  rcases Mf.mp m with e|m
  ·cases e
  exact tW (hs:=r) m
noncomputable def BE:List Nat->Nat->Nat
 | [],_=>0
 |j::r,i=>if i=j then 0 else BE r i+1
theorem Ar:∀{l:List Nat}{k i:Nat},l.Nodup->l[k]?=Ve i->BE l i=k
 | [],_,_,_,h=>by cases h
 |j::r,0,i,_,h=>by
  cases h;exact if_pos rfl
 |j::r,k+1,i,nd,h=>by
  obtain⟨h1,h2⟩:=Mx.mp nd;have h:r[k]?=Ve i:=h;have ne:¬ i=j:=λz=>h1 (by rw[<-z];exact Mr h);show(if i=j then 0 else BE r i+1)=k+1;rw[if_neg ne,Ar h2 h]
noncomputable def gnT(E:En)(hs:List Hd)(b:Int)(nm:Str)(more:Int)(i:Nat):Int:=kW b nm more (BE (gix hs) i) (E.N i)
noncomputable def glT(E:En)(hs:List Hd)(b:Int)(nm:Str)(more:Int)(i:Nat):List Int:=(Pc (E.sz i)).map λ(j:Nat)=>gnT E hs b nm more i+(0+(j:Int))
theorem AW:∀(l:List Nat)(i:Nat),BE l i<=l.length
 | [],_=>MB _
 |j::r,i=>by
  show(if i=j then 0 else BE r i+1)<=r.length+1;have:=AW r i;split<;>omega
theorem zx(ok:E.Ok)(h:Hds E hs):(gix hs).Nodup/\(∀i∈gix hs,i<25)/\(gix hs).length<=64:=by
 have s:=pH hs;have nd:=ok.nd;have l:=ok.len;rw[h.e]at nd l;rw[Mn]at l;have sl:=s.length_le;refine⟨s.nodup (MP.mp nd).1,λi hi=>ok.b i ?_,()⟩;rw[h.e];exact MN _ (s.subset hi)
theorem Io{l:List Nat}(D:kg N)(nd:l.Nodup)(b:∀i∈l,i<25):(l.map N).Nodup:=by
 induction l with
 |nil=>exact .nil
 |cons j r ih=>
  obtain⟨h1,h2⟩:=Mx.mp nd;rw[Mv];refine Mx.mpr ⟨λm=>?_,ih h2 λi hi=>b i (Mi _ hi)⟩;obtain⟨i,hi,e⟩:=Mz.mp m;exact h1 (D i j (b i (Mi _ hi)) (b j Mg) e▸hi)
theorem EF(ok:E.Ok)(h:Hds E hs):((gvs E.N hs).map (·.1)).Nodup:=by
 obtain⟨h1,h2,_⟩:=zx ok h;rw[iA];exact Io ok.D h1 h2
theorem C0(r:Tab as H kvs tab):kvs.map (·.1)=tab.map λe=>(.inr e.1:Key):=by
 induction r with
 |nil=>rfl
 |cons h t ih=>rw[Mv,Mv,ih,h.1]
theorem HL{l:List Str}(nd:l.Nodup):(l.map λx=>(.inr x:Key)).Nodup:=by
 induction l with
 |nil=>exact .nil
 |cons j r ih=>
  obtain⟨h1,h2⟩:=Mx.mp nd;rw[Mv];refine Mx.mpr ⟨λm=>?_,ih h2⟩;obtain⟨i,hi,e⟩:=Mz.mp m;cases e;exact h1 hi
theorem Kj{b more:Int}{nm x:Str}{k:Nat}(b0:0<=b)(b1:b<=10)(m0:0<=more)(m1:more<=10)(hk:k<=64):0<=kW b nm more k x/\kW b nm more k x<=1000:=by
 have h0:0<=b*((k:Int)+1):=MT b0 ();have h1:b*((k:Int)+1)<=10*((k:Int)+1):=Nu b1 ();unfold kW;split<;>omega
theorem o8(ok:E.Ok)(hd:Hds E hs)(b0:0<=b)(b1:b<=10)(m0:0<=more)(m1:more<=10)(R:qk H d as (Vw (gvs E.N hs) b nm more)):mO E hs H d (gnT E hs b nm more) (glT E hs b nm more):=by
 obtain⟨kvs,h1,h2,_⟩:=R;have nd:=EF ok hd;rw[tabOf_eq nd]at h2;obtain⟨gnd,_,gl64⟩:=zx ok hd;have bd:∀i,0<=gnT E hs b nm more i/\gnT E hs b nm more i<=1000:=λi=>Kj b0 b1 m0 m1 (MC (AW _ i) gl64);have kn:(kvs.map (·.1)).Nodup:=by
  rw[C0 h2];have e:(VB (gvs E.N hs) b nm more).map (λe=>(.inr e.1:Key))=((gvs E.N hs).map (·.1)).map λx=>(.inr x:Key):=by
   refine Ol λk=>?_;unfold VB;rw[Mu,Mu,NY,Mu,Mu];cases (gvs E.N hs)[k]?<;>rfl
  rw[e];exact HL nd
 refine⟨⟨kvs,h1,λi z m=>?_⟩,λi=>⟨(bd i).1,by have:=(bd i).2;omega⟩,λi n hn=>?_⟩
 ·obtain⟨k,k1,k2⟩:=tW (N:=E.N) m;have tk:(VB (gvs E.N hs) b nm more)[k]?=Ve (E.N i,z,kW b nm more k (E.N i)):=by
   unfold VB;rw[Mu,NY,k2];simp
  have lk:=(Ml.mp tk).1;have hl:=PySem.Paired.length h2;have kk:=Mh (show k<kvs.length by omega);obtain⟨c1,c2⟩:=nE h2 kk tk;have va:=rG kn (show kvs[k]?=Ve ((kvs[k]'(())).1,(kvs[k]'(())).2)from kk);rw[c1]at va;have eg:gnT E hs b nm more i=kW b nm more k (E.N i):=by
   unfold gnT;rw[Ar gnd k1]
  refine⟨λz0=>?_,λz0=>?_⟩
  ·rcases c2 with⟨_,e⟩|⟨⟨n,_⟩,_⟩
   ·rw[va,e,eg]
   exact absurd z0 n
  rcases c2 with⟨e,_⟩|⟨_,p,_,e,hp⟩
  ·have e:z=0:=e;omega
  have es:=hd.g i z m;refine⟨p,by rw[va,e],?_,?_⟩
  ·rw[hp];unfold glT lst;rw[NV,es,eg];rfl
  unfold glT;rw[Mj,Oj,es]
 unfold glT at hn;obtain⟨j,hj,rfl⟩:=Mz.mp hn;have hj:=MV.mp hj;have hz:=ok.z i;obtain⟨g0,g1⟩:=bd i;exact⟨(),()⟩
end
section
variable{P:Program}{w:O7}{K:OZ}{mg:Str->Option OX}{base:Pk}{A:Adr}{N:Nat->Str}{E:En}
seal PE PA PS PSs PT PW
noncomputable def Bg.wA(g:Bg)(rank:Int)(nm:Str)(k:Nat):List (List V):=g.qg rank (gnT g.E g.hs (dZ k) nm 0) (glT g.E g.hs (dZ k) nm 0)
noncomputable def Bg.wB(g:Bg)(rank:Int)(nm:Str)(k:Nat):List (List V):=g.qg rank (gnT g.E g.hs (dZ k) nm (eU k)) (glT g.E g.hs (dZ k) nm (eU k))
noncomputable def Bg.fk(g:Bg)(rank:Int)(nm:Str)(k:Nat):Option Nat:=fd (g.wA rank nm k) (g.wB rank nm k)
noncomputable def Bg.gs(g:Bg):List (Str×Nat):=gvs g.E.N g.hs
inductive TA(g:Bg)(rank:Int)(nm:Str)(H:Hp)(u:V):Prop
 |no (e:u=.non) (h:∀k,k<12->g.fk rank nm k=Vf)
 |at (k:Nat) (t d0 d1:OW) (a0 a1:List OW) (x:V) (hk:k<12) (h:∀j,j<k->g.fk rank nm j=Vf) (hf:g.fk rank nm k≠Vf) (e:u=.ref t) (ht:H t=Ve (.tup [.ref d0,.ref d1,x])) (r0:qk H d0 a0 (Vw g.gs (dZ k) nm 0)) (r1:qk H d1 a1 (Vw g.gs (dZ k) nm (eU k))) (rs:Res H x (g.wA rank nm k) (g.wB rank nm k))
theorem TA.same(s:ao H H')(h:TA g rank nm H u):TA g rank nm H' u:=by
 cases h with
 |no e h=>exact .no e h
 |«at» k t d0 d1 a0 a1 x hk h hf e ht r0 r1 rs=>exact .at k t d0 d1 a0 a1 x hk h hf e (s _ _ ht) (r0.keep λp _ u q=>s p u q) (r1.keep λp _ u q=>s p u q) (rs.same s)
theorem vM{k:Nat}(h:k<12):0<=dZ k/\dZ k<=10:=by
 unfold dZ;omega
theorem Bf(k:Nat):0<=eU k/\eU k<=10:=by
 unfold eU;split
 ·omega
 split<;>omega
inductive uN(A:Adr)(vs:List V)(H:Hp)(Q:VK)(Z:XK):Prop
 |mk(v:V)(g:Bg)(rank:Int)(nm:Str):vs=[v,.str nm,.int rank]->Prg A H v g->(∀i z,Hd.giv i z∈g.hs->z<=20)->(∀u H',ao H H'->TA g rank nm H' u->Q u H')->uN A vs H Q Z
theorem CT(T:Txt K mg A):T.oM.Hz P w base 72 (uN A):=by
 refine T.oM.hs (k:=71) gG (λf cdv A' outer s H vs Q E' hr hu h=>?_);obtain⟨v,g,rank,nm,rfl,B,sz,q⟩:=h;refine⟨_,(ab (cR O9 rfl (cA (ar (Ft T) hr (fv 0^fv 1^af))) (wg rfl (gM (pgn (i:=3) gG.nd rfl) (gM (pgn (i:=4) gG.nd rfl) rb)))
  (ab (pst 5 gG.nd (ar (Fy T) hr (fv 0^fv 2^fv 3^fv 4^af)))
  (ah (aP (ptc F6 (fv 5) dF)
   (ah (aA (bf (fv 3^fv 4^fv 5^af))))
   aD))))
 (ah (aA dF))),?_⟩
 obtain⟨as,gl,I⟩:=Fh (K:=K) T B.R.pr sz;rw[B.R.v];refine⟨_,as,gl,_,nm,rfl,I,λl es H1 s1 e1 le pr ap=>Mt ⟨⟨_,SqL.of e1⟩,dI (K:=K) (xs:=es.map λe=>V.ref e.t) (λi σ Hc=>∃(v3 v4 v5:Option V),σ=[Ve (.ref g.p.pa),Ve (.str nm),Ve (.int rank),v3,v4,v5]/\ao H1 Hc/\∀j,j<i->g.fk rank nm j=Vf) ⟨Vf,Vf,Vf,rfl,ao.refl _,λj hj=>()⟩ (λi σ Hc _ ⟨_,_,_,_,sc,_⟩=>SqL.of (sc _ _ e1)) ?_ ?_⟩⟩
 ·rintro i x σ Hc hi ⟨v3,v4,v5,rfl,sc,no⟩;rw[Mu]at hi;obtain⟨e,he,rfl⟩:=Ng.mp hi;have hi12:i<12:=by
   have:=(Ml.mp he).1;omega
  obtain⟨tu,r0,r1⟩:=(pr.ok i e he).same sc;obtain⟨b0,b1⟩:=vM hi12;obtain⟨m0,m1⟩:=Bf i;have G0:=o8 (E:=g.E) (hs:=g.hs) (nm:=nm) B.R.ok B.R.hd b0 b1 (MF 0) ∅ r0;have G1:=o8 (E:=g.E) (hs:=g.hs) (nm:=nm) B.R.ok B.R.hd b0 b1 m0 m1 r1;have s0:=s1.trans sc;refine⟨_,_,rfl,SqT.of tu,rfl,_,_,rfl,_,_,rfl,rfl,aq λM1 K1=>⟨v,g,rank,e.d0,e.d1,_,_,_,_,by rw[B.R.v];rfl,B.same s0,G0,G1,λu H2 s2 rs=>K1 _ _ ?_⟩⟩;clear K1 M1;try dsimp only
  have rs:Res H2 u (g.wA rank nm i) (g.wB rank nm i):=rs;have k2:∀{p:OW}{as:List OW}{t:List (Str×Nat×Int)},qk Hc p as t->qk H2 p as t:=λh=>h.keep λp _ u q=>s2 p u q;refine⟨rfl,_,rfl,?_⟩;cases ef:g.fk rank nm i with
  |none=>
   have un:u=.non:=by
    unfold Res at rs;rw[show fd (g.wA rank nm i) (g.wB rank nm i)=Vf from ef]at rs;exact rs
   subst un;rw[decide_eq_true rfl];refine bu ⟨_,_,_,rfl,sc.trans s2,λj hj=>?_⟩;by_cases z:j=i
   ·rw[z];exact ef
   exact no j ()
  |some n=>
   have un:∃t,u=.ref t:=by
    unfold Res at rs;rw[show fd (g.wA rank nm i) (g.wB rank nm i)=Ve n from ef]at rs;obtain⟨t,_,_,e,_⟩:=rs;exact⟨t,e⟩
   obtain⟨t,rfl⟩:=un;rw[decide_eq_false (λz=>by cases z)];refine dz ⟨(by decide:3<=sizeLine),λt3 ht3=>?_⟩;have s3:ao H2 (upd H2 t3 (.tup [.ref e.d0,.ref e.d1,.ref t])):=ao.upd ht3 _;exact q _ _ (s0.trans (s2.trans s3)) (.at i t3 e.d0 e.d1 e.a0 e.a1 _ hi12 no (by rw[ef];intro z;cases z) rfl aj ((k2 r0).keep λp _ u q=>s3 p u q) ((k2 r1).keep λp _ u q=>s3 p u q) (rs.same s3))
 rintro σ Hc ⟨v3,v4,v5,rfl,sc,no⟩;refine q _ Hc (s1.trans sc) (.no rfl λk hk=>no k ?_);rw[Mj,le];exact hk
theorem An{κ:Type}[DecidableEq κ](kvs:List (κ×V))(k:κ)(v v':V):Vj (Vj kvs k v) k v'=Vj kvs k v':=by
 unfold Vj;by_cases h:(kvs.any λkv=>decide (kv.1=k))=true
 ·rw[if_pos h,if_pos h];have h2:((kvs.map λkv=>if kv.1=k then(kv.1,v)else kv).any λkv=>decide (kv.1=k))=true:=by
   rw[OR,<-h];congr 1;funext kv
   show decide ((if kv.1=k then(kv.1,v)else kv).1=k)=_;split<;>rfl
  rw[if_pos h2,NV];congr 1;funext kv
  show(if(if kv.1=k then(kv.1,v)else kv).1=k then((if kv.1=k then(kv.1,v)else kv).1,v')else(if kv.1=k then(kv.1,v)else kv))=_;by_cases e:kv.1=k
  ·rw[if_pos e,if_pos e,if_pos e]
  rw[if_neg e,if_neg e]
 rw[if_neg h,if_neg h];have h2:((kvs++[(k,v)]).any λkv=>decide (kv.1=k))=true:=by simp
 rw[if_pos h2,MI];have h3:kvs.map (λkv=>if kv.1=k then(kv.1,v')else kv)=kvs:=by
  conv=>rhs;rw[<-List.map_id kvs]
  refine Oa λkv hkv=>?_;rw[if_neg (λz=>h (Ni.mpr ⟨kv,hkv,decide_eq_true z⟩))];rfl
 rw[h3];simp
theorem BX{gs:List (Str×Nat)}{b more:Int}{nm:Str}{i:Nat}{g:Str×Nat}{H H3 H5:Hp}{d:OW}{as:List OW}{kvs:List (Key×V)}{v:V}(s4:ao H H3)(hnd:H d=Vf)(has:∀a∈as,H a=Vf/\DL H3 a)(hd4:H3 d=Ve (.dK kvs))
  (htab:Tab as H3 kvs (kC gs b nm more i)) (hln:kvs.length<=i) (hg:gs[i]?=Ve g) (hz:g.2<=20) (s7:∀c o,c≠d->H3 c=Ve o->H5 c=Ve o)
  (hv:(g.2=0/\v=.int (kW b nm more i g.1))\/(g.2≠0/\∃p,v=.ref p/\H3 p=Vf/\H5 p=Ve (.lst (lst (g.2,kW b nm more i g.1))))) :
  ao H (upd H5 d (.dK (Vj kvs (.inr g.1) v)))/\∃as' kvs',(∀a∈as',H a=Vf/\DL (upd H5 d (.dK (Vj kvs (.inr g.1) v))) a)/\upd H5 d (.dK (Vj kvs (.inr g.1) v)) d=Ve (.dK kvs')/\Tab as' (upd H5 d (.dK (Vj kvs (.inr g.1) v))) kvs' (kC gs b nm more (i+1))/\kvs'.length<=i+1:=by
 have sH:ao H (upd H5 d (.dK (Vj kvs (.inr g.1) v))):=λc o hc=>by
  have hcd:=cz hc hnd;rw[aw hcd];exact s7 c o hcd (s4 c o hc)
 have keep:∀c o,c≠d->H3 c=Ve o->upd H5 d (.dK (Vj kvs (.inr g.1) v)) c=Ve o:=λc o hc h=>by rw[aw hc];exact s7 c o hc h
 have asd:∀p u,H3 p=Ve (.lst u)->p≠d:=λp u h z=>by rw[z,hd4]at h;cases h
 have lk:=eA kvs (.inr g.1) v
 refine⟨sH,?_⟩
 rw[ue hg]
 rcases hv with⟨z0,rfl⟩|⟨z0,p,rfl,hp4,hp5⟩
 ·refine⟨as,_,λa ha=>⟨(has a ha).1,?_⟩,aj,?_,()⟩
  ·by_cases e:a=d
   ·rw[e];exact .inl ⟨_,aj⟩
   exact(has a ha).2.keep λo h=>keep a o e h
  refine Tab.put ?_ g.1 (.inl ⟨z0,rfl⟩);refine Paired.cI htab λx y h=>⟨h.1,?_⟩;rcases h.2 with h|⟨h0,p,h1,h2,h3⟩
  ·exact .inl h
  exact .inr ⟨h0,p,h1,h2,keep p _ (asd p _ h3) h3⟩
 have hpd:p≠d:=λz=>by rw[z,hd4]at hp4;cases hp4
 refine⟨p::as,_,λa ha=>?_,aj,?_,()⟩
 ·rcases Mf.mp ha with rfl|ha
  ·exact⟨s4.free hp4,.inr ⟨_,by rw[aw hpd];exact hp5⟩⟩
  refine⟨(has a ha).1,?_⟩;by_cases e:a=d
  ·rw[e];exact .inl ⟨_,aj⟩
  exact(has a ha).2.keep λo h=>keep a o e h
 refine Tab.put ?_ g.1 (.inr ⟨⟨z0,hz⟩,p,by simp,rfl,by rw[aw hpd];exact hp5⟩)
 refine Paired.cI htab λx y h=>⟨h.1,?_⟩
 rcases h.2 with h|⟨h0,p',h1,h2,h3⟩
 ·exact .inl h
 exact .inr ⟨h0,p',by simp[h1],h2,keep p' _ (asd p' _ h3) h3⟩
noncomputable def gvl(N:Nat->Str)(lrs:List Lr):List (Str×Nat):=lrs.flatMap λr=>match r with
 | .giv x _ y=>[(N x,y.toNat)]
 |_=>[]
theorem HM(h:lrs[i]?=Ve (.giv x r y)):gvl N (lrs.take (i+1))=gvl N (lrs.take i)++[(N x,y.toNat)]/\(gvl N lrs)[(gvl N (lrs.take i)).length]?=Ve (N x,y.toNat):=by
 have e:lrs.take (i+1)=lrs.take i++[.giv x r y]:=by rw[Nf,h];rfl
 have e1:gvl N (lrs.take (i+1))=gvl N (lrs.take i)++[(N x,y.toNat)]:=by
  rw[e];unfold gvl;rw[Np];rfl
 refine⟨e1,?_⟩;have e2:gvl N lrs=gvl N (lrs.take (i+1))++gvl N (lrs.drop (i+1)):=by
  conv=>lhs;rw[<-ND (i+1) lrs]
  unfold gvl;rw[Np]
 rw[e2,e1,MK,Nt (Mo _),Nat.sub_self];rfl
theorem Ez{lrs:List Lr}{i:Nat}{r:Lr}(h:lrs[i]?=Ve r)(n:∀x m y,r≠ .giv x m y):gvl N (lrs.take (i+1))=gvl N (lrs.take i):=by
 rw[Nf,h];unfold gvl;rw[Np];cases r with
 |giv x m y=>exact absurd rfl (n x m y)
 |_=>exact MR _
theorem EV{r:Lr}(h:r.w="given"):∃i m z,r=.giv i m z:=by
 cases r<;>first|exact⟨_,_,_,rfl⟩|exact absurd h (by simp only[Lr.w];decide)
inductive EI(K:OZ)(vs:List V)(H:Hp)(Q:VK)(Z:XK):Prop
 |mk(N:Nat->Str)(LR:OW)(rows:List V)(lrs:List Lr)(b more:Int)(nm:Str):vs=[.ref LR,.int b,.str nm,.int more]->H LR=Ve (.lst rows)->Paired (bX N H) rows lrs->lrs.length<=500->(∀x r y,Lr.giv x r y∈lrs->0<=y/\y<=20)->((gvl N lrs).map (·.1)).Nodup->0<=b/\b<=10->(gvl N lrs).length<=64->(∀d as H',ao H H'->(∀a∈d::as,H a=Vf/\DL H' a)->qk H' d as (Vw (gvl N lrs) b nm more)->Q (.ref d) H')->EI K vs H Q Z
theorem GY(T:Txt K mg A):T.w9.Hz P w base 1 (EI K):=by
 refine T.w9.hs i9 (λf cdv A' outer s H vs Q E' hr hu h=>?_);obtain⟨N,LR,rows,lrs,b,more,nm,rfl,hLR,pr,ln,gz,nd,⟨b0,b1⟩,g64,q⟩:=h;refine⟨_,(ab (pst 4 i9.nd (fK))
 (ab (cR O9 rfl (cA (fv 0)) (pgn (i:=5) i9.nd rfl)
  (ah (aP (ptc (bh hu) (px hu (fv 5) ae) ak)
   (ab (pst 6 i9.nd (ax dw (fv 1) (ax bo (pcB bQ T.cB (fv 4^af)) ae)))
   (ab (aP (ptc (bh hu) (px hu (fv 5) ae) (fv 2))
    (ah (pst 6 i9.nd (ax bo (fv 6) (fv 3))))
    aD)
   (ab (bA (fv 6) (bz (fv 4) (px hu (fv 5) ae) (bB hu Vi)))
   (ah (aP (ptc rR (px hu (fv 5) ae) ae)
    (ah (bA (gJ (N:=["_law_place","_law_number_here"]) (own:=1) (fr:=[6]) (cG.of (by kernel_rfl!)) rfl (eQ rfl T.fj (px hu (fv 5) ae^af)) (λb=>pgn (i:=0) (show PC (["_law_place","_law_number_here"]:List PU) by decide+kernel) rfl) (λb=>oI) (λb=>ax bo (fv 1) (fv 0))) (bz (fv 4) (px hu (fv 5) ae) (bB hu Vi))))
    aD)))))
   aD)))
 (ah (aA (fv 4))))),?_⟩
 have lr:rows.length=lrs.length:=O3 pr;refine λd hd=>?_;refine Mt ⟨⟨_,SqL.of (ao.upd hd _ _ _ hLR)⟩,dI (K:=K) (xs:=rows) (λi σ H3=>ao H H3/\(∃as kvs,(∀a∈as,H a=Vf/\DL H3 a)/\H3 d=Ve (.dK kvs)/\Tab as H3 kvs (kC (gvl N lrs) b nm more (gvl N (lrs.take i)).length)/\(gvl N (lrs.take i)).length<=i)/\∃v5 v6,σ=[Ve (.ref LR),Ve (.int b),Ve (.str nm),Ve (.int more),Ve (.ref d),v5,v6])
   ⟨ao.upd hd _,⟨[],[],(λa ha=>by cases ha),aj,.nil,Mo _⟩,Vf,Vf,rfl⟩ (λi σ H3 _ h=>SqL.of (h.1 _ _ hLR)) ?_ ?_⟩
 ·rintro i x σ H3 hi ⟨s4,⟨as,kvs,has,hd4,htab,hln⟩,v5,v6,rfl⟩;obtain⟨r,hr',t,p,rfl,et,_⟩:=bb pr hi;refine tix (j:=0) (SqT.of (s4 _ _ et)) rfl ⟨rfl,_,rfl,ba (λy=>?_) (λy=>?_)⟩
  ·obtain⟨x,rk,yz,rfl⟩:=EV (eW y);have et:H t=Ve (.tup [.str "given",.str (N x),.int rk,.int yz]):=et;obtain⟨y0,y20⟩:=gz x rk yz (Mr hr');obtain⟨ga,gb⟩:=HM (N:=N) hr';have gl1:(gvl N (lrs.take (i+1))).length=(gvl N (lrs.take i)).length+1:=by rw[ga,Mn];rfl
   have il:=(Ml.mp hr').1;generalize (gvl N (lrs.take i)).length=k at htab hln gb gl1;have kl:kvs.length=k:=by
    have h1:=O3 htab;have h2:=(Ml.mp gb).1;rw[oH nd k (),Nb]at h1;have h3:(VB (gvl N lrs) b nm more).length=(gvl N lrs).length:=by unfold VB;rw[Mj,TC]
    omega
   obtain⟨yn,rfl⟩:∃yn:Nat,yz=(yn:Int):=⟨yz.toNat,()⟩;rw[Nq]at gb;generalize hg:(N x,yn)=g at gb;have g1:N x=g.1:=by rw[<-hg]
   have g2:yn=g.2:=by rw[<-hg]
   subst g2;rw[g1]at et;have aS:∀{X:Hp},ao H X->SqT K X t [.str "given",.str g.1,.int rk,.int (g.2:Nat)]:=λz=>SqT.of (z _ _ et);have tail:∀(st:Int)(H5:Hp)(v:V),kW b nm more k g.1=st->(∀c o,c≠d->H3 c=Ve o->H5 c=Ve o)->((g.2=0/\v=.int st)\/(g.2≠0/\∃p,v=.ref p/\H3 p=Vf/\H5 p=Ve (.lst (lst (g.2,st)))))->_:=λst H5 v e s7 hv=>BX (v:=v) (H5:=H5) s4 hd has hd4 htab () gb () s7 (by rw[e];exact hv);refine aq λM1 K1=>MJ ⟨_,_,rfl,.inl hd4,?_⟩;rw[kl];refine⟨vi () (),K1 _ _ ?_⟩;clear K1 M1;try dsimp only
   refine aq λM1 K1=>?_;have m:∀st:Int,kW b nm more k g.1=st->M1 [Ve (.ref LR),Ve (.int b),Ve (.str nm),Ve (.int more),Ve (.ref d),Ve (.ref t),Ve (.int st)] H3:=by
    intro st e;refine K1 _ _ ?_;have s45:∀c o,c≠d->H3 c=Ve o->upd H3 d (.dK (Vj kvs (.inr g.1) (.int st))) c=Ve o:=λc o hc h=>by rw[aw hc];exact h
    have sH4:ao H (upd H3 d (.dK (Vj kvs (.inr g.1) (.int st)))):=λc o hc=>s45 c o (cz hc hd) (s4 c o hc);have lk:=eA kvs (.inr g.1) (.int st);refine aq λM2 K2=>tix (j:=1) (aS s4) rfl ⟨_,cW.k (k:=.inr g.1) hd4 (ay ()),K2 _ _ ?_⟩;clear K2 M2;try dsimp only
    refine tix (j:=3) (aS sH4) rfl ⟨_,rfl,ba (λy=>?_) (λy=>?_)⟩
    ·have y:0<(g.2:Int):=of_decide_eq_true y;refine tix (j:=3) (aS sH4) rfl ⟨_,rfl,(),(),rN (λ_=>true) (λj=>.int (st+(0+(j:Int)))) (ay ()) (λcb i H2 R hi sm k=>k H2 (ao.refl _)) (λcb i H2 R hi _ sm k=>k H2 (ao.refl _)) λD H5 hD sm e5=>?_⟩;rw[mH,Nq]at e5;have sH5:=sH4.trans sm;have hd5:=sm _ _ (aj (H:=H3) (a:=d) (o:=.dK (Vj kvs (.inr g.1) (.int st))));refine tix (j:=1) (aS sH5) rfl ⟨_,cW.k (k:=.inr g.1) hd5 (ay ()),?_⟩;rw[An];have hD3:H3 D=Vf:=by
      by_cases z:D=d
      ·rw[z,aj]at hD;cases hD
      rw[aw z]at hD;exact hD
     obtain⟨p2,p4⟩:=tail st H5 (.ref D) e (λc o hc h=>sm c o (s45 c o hc h)) (.inr ⟨(),D,rfl,hD3,e5⟩);rw[gl1];exact⟨p2,by obtain⟨as',kvs',q1,q2,q3,q4⟩:=p4;exact⟨as',kvs',q1,q2,q3,()⟩,_,_,rfl⟩
    have y:¬ 0<(g.2:Int):=λz=>y (decide_eq_true z);obtain⟨p2,p4⟩:=tail st H3 (.int st) e (λc o _ h=>h) (.inl ⟨(),rfl⟩);rw[gl1];exact⟨p2,by obtain⟨as',kvs',q1,q2,q3,q4⟩:=p4;exact⟨as',kvs',q1,q2,q3,()⟩,_,_,rfl⟩
   clear K1;exact tix (j:=1) (aS s4) rfl ⟨rfl,_,rfl,ba (λy=>m _ (if_pos (eW y))) (λy=>m _ (if_neg λz=>y (decide_eq_true (by rw[z]))))⟩
  refine⟨s4,⟨as,kvs,has,hd4,?_,?_⟩,_,_,rfl⟩
  ·rw[Ez hr' (λx m z e=>by rw[e]at y;exact absurd (decide_eq_true (show V.str (Lr.giv x m z).w=V.str "given" from rfl)) y)];exact htab
  rw[Ez hr' (λx m z e=>by rw[e]at y;exact absurd (decide_eq_true (show V.str (Lr.giv x m z).w=V.str "given" from rfl)) y)];omega
 rintro σ H3 ⟨s4,⟨as,kvs,has,hd4,htab,hln⟩,v5,v6,rfl⟩;rw[lr,Nh (Mo _)]at htab hln;refine q d as H3 s4 (λa ha=>?_) ⟨kvs,hd4,htab,?_⟩
 ·rcases Mf.mp ha with rfl|ha
  ·exact⟨hd,.inl ⟨_,hd4⟩⟩
  exact has a ha
 have h1:=O3 htab;rw[oH nd _ (Mo _),Nb]at h1;omega
theorem IG{r:Lr}(h:r.w="hand"):∃i m,r=.hand i m:=by
 cases r<;>first|exact⟨_,_,rfl⟩|exact absurd h (by simp only[Lr.w];decide)
inductive sS(A:Adr)(vs:List V)(H:Hp)(Q:VK)(Z:XK):Prop
 |mk(v:V)(g:Bg)(gp LR:OW)(rows:List V)(lrs:List Lr)(gn:Nat->Int)(gl:Nat->List Int)(rank:Int):vs=[.ref LR,v,.ref gp,.int rank]->Prg A H v g->mO g.E g.hs H gp gn gl->H LR=Ve (.lst rows)->Paired (bX g.N H) rows lrs->lrs.length<=500->Co lrs->(∀D ys H',ao H H'->H' D=Ve (.lst (ys++[.non]))->i5 H' ys (g.qg rank gn gl)->Q (.ref D) H')->sS A vs H Q Z
theorem vq(T:Txt K mg A):T.l7.Hz P w base 70 (sS A):=by
 refine T.l7.hs (k:=69) iU (λf cdv A' outer s H vs Q E' hr hu h=>?_);obtain⟨v,g,gp,LR,rows,lrs,gn,gl,rank,rfl,B,G,hLR,pr,ln,ro,q⟩:=h;have lr:rows.length=lrs.length:=O3 pr;have dN:=B.D;refine⟨_,(ab (pst 4 iU.nd (fK))
 (ab (cR O9 rfl (cA (fv 0)) (pgn (i:=5) iU.nd rfl)
  (ah (aP (ptc (bh hu) (px hu (fv 5) ae) ak)
   (ah (bA (px hu (fv 5) ae) (bz (fv 4) (px hu (fv 5) ae) (bB hu Vi))))
   aD)))
 (ah (aA (ax bo (gJ (N:=["_law_letter","_law_rank","_law_ranks"]) (own:=1) (fr:=[3,4]) (cG.of (by kernel_rfl!)) rfl (cA (aI (ar (zk T) hr (fv 1^fv 2^af)) rfl)) (λb=>pgn (i:=0) (show PC (["_law_letter","_law_rank","_law_ranks"]:List PU) by decide+kernel) rfl) (λb=>lj (ptc zp (px hu (fv 2) (px hu (fv 0) ae)) (fv 1))) (λb=>fv 0)) (bI (dF^af))))))),?_⟩
 refine aq λM1 K1 D hD=>?_;obtain⟨s1,eD⟩:=alc hD (HO.dK []);generalize upd H D _=H1 at s1 eD⊢;refine K1 _ _ ?_;clear K1 M1;try dsimp only
 refine aq λM1 K1=>Mt ⟨⟨_,SqL.of (s1 _ _ hLR)⟩,dI (K:=K) (xs:=rows) (λi σ Hc=>∃(v4:Option V)(ix:List Nat)(f:Nat->V),σ=[Ve (.ref LR),Ve v,Ve (.ref gp),Ve (.int rank),Ve (.ref D),v4]/\ao H Hc/\RkM g.N Hc D lrs i ix f) ⟨Vf,[],λ_=>.non,rfl,s1,⟨eD,λj hj=>(by cases hj),λh _ hh=>(by cases hh),Mo _,λh m hm=>(by rw[Oh]at hm;cases hm)⟩⟩ (λi σ Hc _ ⟨_,_,_,_,z,_⟩=>SqL.of (z _ _ hLR)) ?_ ?_⟩
 ·rintro i x σ Hc hv ⟨v4,ix,f,rfl,sc,R⟩;obtain⟨r,hr',t,p,rfl,et,_⟩:=bb pr hv;have il:i<lrs.length:=(Ml.mp hr').1;have kl:(dk g.N ix f).length<=1000:=by
   have:=R.l;unfold dk;rw[Mj];omega
  have et':=SqT.of (K:=K) (sc _ _ et);try dsimp only
  refine tix (j:=0) et' rfl ⟨rfl,_,rfl,ba (λy=>?_) (λy=>?_)⟩
  ·obtain⟨j,m,rfl⟩:=IG (eW y);obtain⟨j3,rfl⟩:=ro.h _ _ (Mr hr');exact tix (j:=2) et' rfl (tix (j:=1) et' rfl ⟨_,cW.k (k:=.inr (g.N j)) R.d (ay kl),_,_,_,rfl,ao.out sc hD _,R.put dN hr' () (λ_=>rfl) (λh m e=>by cases e;rfl) aj⟩)
  exact⟨_,_,_,rfl,sc,R.skip (ao.refl _) hr' (λh m e=>y (decide_eq_true (by rw[e];rfl)))⟩
 rintro σ Hc ⟨v4,ix,f,rfl,sc,R⟩;rw[lr]at R;have R:=R.done ro;refine K1 _ _ ?_;clear K1 M1;try dsimp only
 refine⟨v,g,gp,gn,gl,rfl,B.same sc,G.same sc,λb l xs H3 s3 ⟨db,f2,f3,f4,f5,hb,hl,tp⟩=>?_⟩;obtain⟨lo,lw⟩:=B.lts gn gl;have R:=R.same s3;have lx:xs.length<=1000:=by
  have:=tp.len;omega
 refine fdI hb T.fQ.cl T.d6 rfl (Mt ⟨⟨_,SqL.of hl⟩,fA (K:=K) (ofH H3 (ky g.N rank)) (λx=>x) (SqL.of hl) (ay lx) (λb' x H2 R' hm s2 k=>?_) (λb' x H2 R' hm hp s2 k=>k _ (ao.refl _)) (λD2 H2 hD s2 e=>?_)⟩)
 ·obtain⟨p,a,n,h,v',rfl,hh,hp,hg,e⟩:=xO (rank:=rank) dN R tp lo hm s2;rw[e]at k;exact tix (j:=2) (SqT.of hp) rfl ⟨_,hg,_,rfl,k _ (ao.refl _)⟩
 rw[Ox]at e;have tf:=(js (ky g.N rank) tp).same s2;refine⟨(by decide:1<=sizeLine),λL1 hL1=>?_⟩;obtain⟨s5,e5⟩:=alc hL1 (HO.lst [.non]);generalize upd H2 L1 _=H5 at s5 e5⊢;have ly:(xs.filter (ofH H3 (ky g.N rank))).length<=1000:=MC (Nd _ _) lx;refine⟨D2,L1,_,_,rfl,rfl,s5 _ _ e,e5,ay ly,λL2 hL2=>?_⟩;have s6:ao H5 (upd H5 L2 (.lst (xs.filter (ofH H3 (ky g.N rank))++[.non]))):=ao.upd hL2 _;exact q L2 _ _ (sc.trans (s3.trans (s2.trans (s5.trans s6)))) aj ((tf.same s5).same s6)
theorem Fj(a b:Nat):(if(b:Int)<(a:Int)then(b:Int)else(a:Int))=((min a b:Nat):Int):=by
 split<;>omega
theorem AH(t:i5 H ys ws)(h:n<=ws.length):∃x,(ys++[V.non])[n]?=Ve x/\lO H x ws[n]?:=by
 have hl:ys.length=ws.length:=t.len;by_cases z:n<ys.length
 ·have hx:ys[n]?=Ve ys[n]:=Mh z;exact⟨_,(Nn z).trans hx,CY t hx⟩
 have e:n=ys.length:=()
 subst e;refine⟨.non,by simp,?_⟩;rw[MW ()];rfl
theorem FP(h:∀X Y:St->Hp->Prop,(∀σ H,b D σ H->Y σ H)->(∀σ H,o D σ H->X σ H)->t σ H λc H1=>if c=true then Y σ H1 else X σ H1):zr t b o D σ H:=h (o D) (b D) (λ_ _ z=>z) λ_ _ z=>z
inductive DB(A:Adr)(vs:List V)(H:Hp)(Q:VK)(Z:XK):Prop
 |mk(v:V)(g:Bg)(LR:OW)(rows:List V)(lrs:List Lr)(rank:Int)(nm:Str):vs=[.ref LR,v,.str nm,.int rank]->Prg A H v g->H LR=Ve (.lst rows)->Paired (bX g.N H) rows lrs->lrs.length<=500->Co lrs->(∀x r y,Lr.giv x r y∈lrs->0<=y/\y<=20)->gvl g.N lrs=g.gs->(∀u H',ao H H'->TA g rank nm H' u->Q u H')->DB A vs H Q Z
theorem Kd(T:Txt K mg A):T.wz.Hz P w base 71 (DB A):=by
 refine T.wz.hs (k:=70) dU (λf cdv A' outer s H vs Q E' hr hu h=>?_);obtain⟨v,g,LR,rows,lrs,rank,nm,rfl,B,hLR,pr,ln,ro,gz,eg,q⟩:=h;refine⟨_,(ab (cR O9 rfl (eQ rfl T.fj (ae^af)) (pgn (i:=4) dU.nd rfl)
  (ab (pst 5 dU.nd (ar (GY T) hr (fv 0^ax eJ (fv 4) ae^fv 2^ae^af)))
  (ab (pst 6 dU.nd (ar (GY T) hr (fv 0^ax eJ (fv 4) ae^fv 2^px hu (bI (ae^ae^ae^af)) (ax cF (fv 4) ae)^af)))
  (ab (pst 7 dU.nd (ar (vq T) hr (fv 0^fv 1^fv 5^fv 3^af)))
  (ab (pst 8 dU.nd (ar (vq T) hr (fv 0^fv 1^fv 6^fv 3^af)))
  (ah (cR O9 rfl (eQ rfl T.fj (pcB GI T.yR (pcB bQ T.cB (fv 7^af)^pcB bQ T.cB (fv 8^af)^af)^af)) (pgn (i:=9) dU.nd rfl)
   (ab (pst 10 dU.nd (px hu (fv 7) (fv 9)))
   (ab (pst 11 dU.nd (px hu (fv 8) (fv 9)))
   (ab (aP (PW.pt (pw_and (ptc vP (fv 10) dF) (pw_and1 (ptc vP (fv 11) dF))))
    (ah (xN))
    aD)
   (ah (aP (PW.pt (pw_or (ptc vP (fv 10) dF) (pw_or (ptc vP (fv 11) dF) (pw_or1 (ptc (BH hu) (cw dS (fv 10) (bH ae) gH) (cw dS (fv 11) (bH ae) gH))))))
    (ah (aA (bf (fv 5^fv 6^bf (fv 9^fv 10^fv 11^af)^af))))
    aD))))))))))))
 (ah (aA dF))),?_⟩
 have nd:((gvl g.N lrs).map (·.1)).Nodup:=by rw[eg];exact EF B.R.ok B.R.hd
 have g64:(gvl g.N lrs).length<=64:=by
  have h:=(zx B.R.ok B.R.hd).2.2;have e:=congrArg UC (iA (N:=g.E.N) g.hs);rw[Mj,Mj]at e;rw[eg];unfold Bg.gs;omega
 refine aq λM1 K1=>⟨_,rfl,∅,∅,kH (lo:=0) (λi σ Hc=>∃(v4 v5 v6 v7 v8 v9 v10 v11:Option V),σ=[Ve (.ref LR),Ve v,Ve (.str nm),Ve (.int rank),v4,v5,v6,v7,v8,v9,v10,v11]/\ao H Hc/\∀j,j<i->g.fk rank nm j=Vf) ⟨Vf,Vf,Vf,Vf,Vf,Vf,Vf,Vf,rfl,ao.refl _,λj hj=>()⟩ ?_ ?_⟩
 ·rintro i σ Hc hi ⟨v4,v5,v6,v7,v8,v9,v10,v11,rfl,sc,no⟩;try dsimp only
  have i12:i<12:=hi;have ea:(0+(i:Int))/3=dZ i:=by unfold dZ;omega
  refine aq λM2 K2=>⟨⟨∅,∅⟩,g.N,LR,rows,lrs,_,0,nm,rfl,sc _ _ hLR,Paired.cI pr (λ_ _ h=>h.same sc),ln,gz,nd,(by rw[ea];exact vM i12),g64,λd0 a0 Ha sa ya ra=>?_⟩;rw[ea,eg]at ra;have sca:=sc.trans sa;refine K2 _ _ ?_;clear K2 M2;try dsimp only
  refine aq λM2 K2=>?_;have em:atI [V.int 1,.int 2,.int 5] ((0+(i:Int))%3)=Ve (.int (eU i)):=by
   rw[show(0+(i:Int))%3=((i%3:Nat):Int) by omega];refine dA ?_;unfold eU;have:i%3=0\/i%3=1\/i%3=2:=()
   rcases this with e|e|e<;>rw[e]<;>rfl
  refine⟨⟨∅,∅⟩,(by decide:3<=sizeLine),λL0 hL0=>?_⟩;obtain⟨sb,eb⟩:=alc hL0 (HO.lst [.int 1,.int 2,.int 5]);generalize upd Ha L0 _=Hb at sb eb⊢;have scb:=sca.trans sb;refine⟨(show(0:Int)<3 by decide),(lix (SqL.of eb) em ⟨g.N,LR,rows,lrs,_,eU i,nm,rfl,scb _ _ hLR,Paired.cI pr (λ_ _ h=>h.same scb),ln,gz,nd,(by rw[ea];exact vM i12),g64,λd1 a1 Hd sd yd rd=>?_⟩)⟩;rw[ea,eg]at rd;have scd:=scb.trans sd;have r0:qk Hd d0 a0 (Vw g.gs (dZ i) nm 0):=ra.keep λp _ u q=>(sb.trans sd) p u q;clear ra ya yd sb sa hL0 eb;obtain⟨b0,b1⟩:=vM i12;obtain⟨m0,m1⟩:=Bf i;have G0:=o8 (E:=g.E) (hs:=g.hs) (nm:=nm) B.R.ok B.R.hd b0 b1 (MF 0) ∅ r0;have G1:=o8 (E:=g.E) (hs:=g.hs) (nm:=nm) B.R.ok B.R.hd b0 b1 m0 m1 rd;refine K2 _ _ ?_;clear K2 M2;try dsimp only
  refine aq λM2 K2=>⟨v,g,d0,LR,rows,lrs,_,_,rank,rfl,B.same scd,G0,scd _ _ hLR,Paired.cI pr (λ_ _ h=>h.same scd),ln,ro,λD1 y1 He se e1 t1=>K2 _ _ ?_⟩;clear K2 M2;have sce:=scd.trans se;try dsimp only
  refine aq λM2 K2=>⟨v,g,d1,LR,rows,lrs,_,_,rank,rfl,B.same sce,G1.same se,sce _ _ hLR,Paired.cI pr (λ_ _ h=>h.same sce),ln,ro,λD2 y2 Hf sf e2 t2=>K2 _ _ ?_⟩;clear K2 M2;have scf:=sce.trans sf;have e1:=sf _ _ e1;have t1:i5 Hf y1 (g.wA rank nm i):=t1.same sf;have t2:i5 Hf y2 (g.wB rank nm i):=t2;have r0:=r0.keep (H':=Hf) λp _ u q=>(se.trans sf) p u q;have r1:=rd.keep (H':=Hf) λp _ u q=>(se.trans sf) p u q;clear G0 G1 rd se sf sd;try dsimp only
  obtain⟨lo1,lw1⟩:=B.lts (gnT g.E g.hs (dZ i) nm 0) (glT g.E g.hs (dZ i) nm 0);obtain⟨lo2,lw2⟩:=B.lts (gnT g.E g.hs (dZ i) nm (eU i)) (glT g.E g.hs (dZ i) nm (eU i));have k1:y1.length=(g.wA rank nm i).length:=t1.len;have k2:y2.length=(g.wB rank nm i).length:=t2.len;have ho1:∀w∈g.wA rank nm i,yb g.N w:=λw h=>lo1 w (MY.mp h).1;have ho2:∀w∈g.wB rank nm i,yb g.N w:=λw h=>lo2 w (MY.mp h).1;have hk:g.fk rank nm i=fd (g.wA rank nm i) (g.wB rank nm i):=rfl;have lw1:(g.wA rank nm i).length<=1000:=MC (Nd _ _) lw1;clear lw2 lo1 lo2;generalize hwa:g.wA rank nm i=wa at *;generalize hwb:g.wB rank nm i=wb at *;refine lnl e1 (lnl e2 ⟨_,_,rfl,?_⟩);have l1:(y1++[V.non]).length=wa.length+1:=by simp[k1]
  have l2:(y2++[V.non]).length=wb.length+1:=by simp[k2]
  refine⟨_,congrArg (λz=>[V.int z]) (Fj _ _),?_,?_,?_⟩<;>rw[l1,l2]
  ·omega
  ·omega
  rw[Nq];refine kH (lo:=0) (λn σ Hn=>∃(v9 v10 v11:Option V),σ=[Ve (.ref LR),Ve v,Ve (.str nm),Ve (.int rank),Ve (.int (0+i)),Ve (.ref d0),Ve (.ref d1),Ve (.ref D1),Ve (.ref D2),v9,v10,v11]/\ao Hf Hn/\n<=wa.length/\n<=wb.length/\∀j,j<n->dif wa wb j=false) ⟨_,_,_,rfl,ao.refl _,MB _,MB _,λj hj=>()⟩ ?_ ?_
  ·rintro n σ Hn hn ⟨v9,v10,v11,rfl,sn,na,nb,non⟩;have scn:=scf.trans sn;obtain⟨x,hx,ox⟩:=AH (t1.same sn) na;obtain⟨y,hy,oy⟩:=AH (t2.same sn) nb;try dsimp only
   rw[show(0:Int)+(n:Int)=(n:Int) by omega];refine aq λM2 K2=>lix (SqL.of (sn _ _ e1)) (dA hx) (K2 _ _ ?_);clear K2 M2;try dsimp only
   refine aq λM2 K2=>lix (SqL.of (sn _ _ e2)) (dA hy) (K2 _ _ ?_);clear K2 M2;try dsimp only
   refine aq λM2 K2=>?_;have two:(wa[n]?=Vf->wb[n]?=Vf->False)->M2 [Ve (.ref LR),Ve v,Ve (.str nm),Ve (.int rank),Ve (.int (0+i)),Ve (.ref d0),Ve (.ref d1),Ve (.ref D1),Ve (.ref D2),Ve (.int n),Ve x,Ve y] Hn:=λnn=>K2 _ _ (by
    clear K2;try dsimp only
    refine FP λRn Ry j1 j2=>?_;have yes:∀Hq,ao Hn Hq->dif wa wb n=true->Ry [Ve (.ref LR),Ve v,Ve (.str nm),Ve (.int rank),Ve (.int (0+i)),Ve (.ref d0),Ve (.ref d1),Ve (.ref D1),Ve (.ref D2),Ve (.int n),Ve x,Ve y] Hq:=λHq sq z=>j1 _ _ (by
     have lt:n<max wa.length wb.length:=by
      by_cases c:n<max wa.length wb.length
      ·exact c
      exact(nn (MW ()) (MW ())).elim
     have fa:=GL lt z non;refine⟨by show 3<=sizeLine;decide,λt ht=>?_⟩;have s3:ao Hq (upd Hq t (.tup [.int n,x,y])):=ao.upd ht _;have e3:upd Hq t (.tup [.int n,x,y]) t=Ve (.tup [.int n,x,y]):=aj;generalize upd Hq t _=H3 at s3 e3⊢;refine⟨by show 3<=sizeLine;decide,λt' ht'=>?_⟩;have s4:ao H3 (upd H3 t' (.tup [.ref d0,.ref d1,.ref t])):=ao.upd ht' _;have s34:=sq.trans (s3.trans s4);have s5:=sn.trans s34;refine q _ _ (scn.trans s34) (.at i t' d0 d1 a0 a1 _ i12 no (by rw[hk,fa];intro z;cases z) rfl aj (r0.keep λp _ u q=>s5 p u q) (r1.keep λp _ u q=>s5 p u q) ?_);rw[hwa,hwb];unfold Res;rw[fa];exact⟨t,x,y,rfl,s4 _ _ e3,ox.same s34,oy.same s34⟩)
    have not:dif wa wb n=false->n<wa.length->n<wb.length->∀Hq,ao Hn Hq->Rn [Ve (.ref LR),Ve v,Ve (.str nm),Ve (.int rank),Ve (.int (0+i)),Ve (.ref d0),Ve (.ref d1),Ve (.ref D1),Ve (.ref D2),Ve (.int n),Ve x,Ve y] Hq:=λz la lb Hq sq=>j2 _ _ (by
     refine⟨_,_,_,rfl,sn.trans sq,la,lb,λj hj=>?_⟩;by_cases c:j=n
     ·rw[c];exact z
     exact non j ())
    clear j1 j2;cases ea:wa[n]? with
    |none=>
     rw[ea]at ox;obtain rfl:x=V.non:=ox;exact⟨rfl,_,rfl,dz (yes _ (ao.refl _) (by
      unfold dif;rw[ea];cases eb:wb[n]? with
      |none=>exact(nn ea eb).elim
      |some _=>rfl))⟩
    |some w1=>
     obtain⟨a1,b1,h1,c1,rfl,_⟩:=ho1 w1 (Mr ea);have la:n<wa.length:=(Ml.mp ea).1;rw[ea]at ox;obtain⟨p1,rfl,hp1⟩:=ox;refine⟨rfl,_,rfl,bu ?_⟩;cases eb:wb[n]? with
     |none=>
      rw[eb]at oy;obtain rfl:y=V.non:=oy;exact⟨rfl,_,rfl,dz (yes _ (ao.refl _) (by unfold dif;rw[ea,eb];rfl))⟩
     |some w2=>
      obtain⟨a2,b2,h2,c2,rfl,_⟩:=ho2 w2 (Mr eb);have lb:n<wb.length:=(Ml.mp eb).1;rw[eb]at oy;obtain⟨p2,rfl,hp2⟩:=oy;refine⟨rfl,_,rfl,bu ⟨_,rfl,MJ ⟨p1,_,rfl,SqT.of hp1,(λz=>absurd z.1 (show ¬ (2:Nat)=0 by decide)),λu1 hu1=>?_⟩⟩⟩;obtain⟨s7,e7⟩:=alc hu1 (HO.tup [.str (g.N h1),.int c1]);refine⟨_,rfl,MJ ⟨p2,_,rfl,SqT.of (s7 _ _ hp2),(λz=>absurd z.1 (show ¬ (2:Nat)=0 by decide)),λu2 hu2=>?_⟩⟩;obtain⟨s8,e8⟩:=alc hu2 (HO.tup [.str (g.N h2),.int c2]);have l1:LtO g.N wa[n]?:=λw z=>ho1 w (Mr z);have l2:LtO g.N wb[n]?:=λw z=>ho2 w (Mr z);have ok:=B.ok;have sh1:=p7 ok l1;have sh2:=p7 ok l2;have se:=Ej l1 l2;have d1:=wc (K:=K) (H:=upd (upd Hn u1 (HO.tup [.str (g.N h1),.int c1])) u2 (HO.tup [.str (g.N h2),.int c2])) (x:=.ref u1) l1 (by rw[ea];exact⟨u1,rfl,s8 _ _ e7⟩);have d2:=wc (K:=K) (H:=upd (upd Hn u1 (HO.tup [.str (g.N h1),.int c1])) u2 (HO.tup [.str (g.N h2),.int c2])) (x:=.ref u2) l2 (by rw[eb];exact⟨u2,rfl,e8⟩);have s9:=s7.trans s8;refine⟨_,_,d1,d2,Au sh1.2.2.1 sh1.2.2.2,Au sh2.2.2.1 sh2.2.2.2,_,rfl,?_⟩;rw[se];exact ba (λz=>yes _ s9 z) (λz=>not (Bool.not_eq_true _▸z) la lb _ s9))
   cases ea:wa[n]? with
   |none=>
    rw[ea]at ox;obtain rfl:x=V.non:=ox;cases eb:wb[n]? with
    |none=>
     rw[eb]at oy;obtain rfl:y=V.non:=oy;refine⟨rfl,_,rfl,dz ⟨rfl,_,rfl,dz ⟨_,_,_,_,_,_,_,_,rfl,scn,λj hj=>?_⟩⟩⟩;by_cases c:j=i
     ·rw[c,hk];refine GQ λj hj=>non j ?_;have:=Oc.mp ea;have:=Oc.mp eb;omega
     exact no j ()
    |some _=>
     rw[eb]at oy;obtain⟨p2,rfl,_⟩:=oy;exact⟨rfl,_,rfl,dz ⟨rfl,_,rfl,bu (two λ_ z=>by rw[eb]at z;cases z)⟩⟩
   |some _=>
    rw[ea]at ox;obtain⟨p2,rfl,_⟩:=ox;exact⟨rfl,_,rfl,bu (two λz _=>by rw[ea]at z;cases z)⟩
  rintro σ Hn ⟨v9,v10,v11,rfl,sn,na,nb,non⟩;omega
 rintro σ Hc ⟨v4,v5,v6,v7,v8,v9,v10,v11,rfl,sc,no⟩;exact K1 _ _ (q _ Hc sc (.no rfl λk hk=>no k hk))
inductive yY(A:Adr)(vs:List V)(H:Hp)(Q:VK)(Z:XK):Prop
 |mk(x y v:V)(g:Bg)(rank:Int)(nm:Str):vs=[x,y]->Prg A H v g->TA g rank nm H x->TA g rank nm H y->Q (.bl true) H->yY A vs H Q Z
theorem Bh(T:Txt K mg A):T.p9.Hz P w base 1 (yY A):=by
 refine T.p9.hs wZ (λf cdv A' outer s H vs Q E' hr hu h=>?_);obtain⟨x,y,v,g,rank,nm,rfl,B,tx,ty,q⟩:=h;refine⟨_,(ab (aP (ptc vP (fv 1) dF)
  (ah (aA (pec vP (fv 0) dF)))
  aD)
 (ab (aP (PW.pt (pw_or (xp (bR (pcB bD T.aH (fv 0^(iw (v:=.ty "tuple") rfl T.pz (by boot_by_name) rfl)^af)) (λ_=>rfl))) (pw_or (ptc (BH hu) (pcB bQ T.cB (fv 0^af)) ae) (pw_or (ptc (GZ hu) (px hu (fv 0) ae) (px hu (fv 1) ae)) (pw_or1 (ptc (GZ hu) (px hu (fv 0) ae) (px hu (fv 1) ae)))))))
  (ah (aA lL))
  aD)
 (ah (aA (oG (pcB bD T.aH (px hu (fv 0) ae^(iw (v:=.ty "tuple") rfl T.pz (by boot_by_name) rfl)^af)) (oG (FF (pcB bD T.aH (px hu (px hu (fv 0) ae) ae^(iw (v:=.ty "bool") rfl T.rS (by boot_by_name) rfl)^af))) (sg (pec (bh hu) (px hu (fv 0) ae) (px hu (fv 1) ae))))))))),?_⟩
 refine aq λM1 K1=>?_;cases tx with
 |no ex hx=>
  cases ty with
  |no ey hy=>
   rw[ex,ey];exact⟨rfl,_,rfl,dz ⟨rfl,q⟩⟩
  |«at» k t d0 d1 a0 a1 x hk h hf=>exact absurd (hx k hk) hf
 |«at» k t d0 d1 a0 a1 x hk h hf e ht r0 r1 rs=>
  cases ty with
  |no ey hy=>exact absurd (hy k hk) hf
  |«at» k' t' d0' d1' a0' a1' x' hk' h' hf' e' ht' r0' r1' rs'=>
   obtain rfl:k=k':=by
    rcases Nat.lt_trichotomy k k' with z|z|z
    ·exact absurd (h' k z) hf
    ·exact z
    exact absurd (h k' z) hf'
   rw[e,e'];refine⟨rfl,_,rfl,bu (K1 _ _ ?_)⟩;clear K1 M1;try dsimp only
   refine aq λM1 K1=>?_;obtain⟨kv0,e0,b0,c0⟩:=r0;obtain⟨kv0',e0',b0',c0'⟩:=r0';obtain⟨kv1,e1,b1,c1⟩:=r1;obtain⟨kv1',e1',b1',c1'⟩:=r1';have q0:=Tab.eq (K:=K) b0 b0';have q1:=Tab.eq (K:=K) b1 b1';refine⟨_,_,_,true,rfl,(λz=>by cases z),.tup ht,EC,true,rfl,bu (Mt ⟨_,_,rfl,MJ ⟨_,SqT.of ht,rfl⟩,rfl,false,rfl,bu (tix (j:=0) (SqT.of ht) rfl (tix (j:=0) (SqT.of ht') rfl ⟨d0,d0',kv0,kv0',rfl,rfl,.of e0,.of e0',q0.1,q0.2,false,rfl,bu (tix (j:=1) (SqT.of ht) rfl (tix (j:=1) (SqT.of ht') rfl ⟨d1,d1',kv1,kv1',rfl,rfl,.of e1,.of e1',q1.1,q1.2,false,rfl,bu (K1 _ _ ?_)⟩))⟩))⟩)⟩;clear K1 M1 q0 q1;try dsimp only
   cases ef:g.fk rank nm k with
   |none=>exact absurd ef hf
   |some i=>
    have ef:fd (g.wA rank nm k) (g.wB rank nm k)=Ve i:=ef;unfold Res at rs rs';rw[ef]at rs rs';obtain⟨u1,a1,b1,rfl,h1,p1,q1⟩:=rs;obtain⟨u2,a2,b2,rfl,h2,p2,q2⟩:=rs';obtain⟨lo1,_⟩:=B.lts (gnT g.E g.hs (dZ k) nm 0) (glT g.E g.hs (dZ k) nm 0);obtain⟨lo2,_⟩:=B.lts (gnT g.E g.hs (dZ k) nm (eU k)) (glT g.E g.hs (dZ k) nm (eU k));have l1:LtO g.N (g.wA rank nm k)[i]?:=λw e=>lo1 w (MY.mp (Mr e)).1;have l2:LtO g.N (g.wB rank nm k)[i]?:=λw e=>lo2 w (MY.mp (Mr e)).1;have s1:=p7 B.ok l1;have s2:=p7 B.ok l2;generalize (g.wA rank nm k)[i]?=o1 at *;generalize (g.wB rank nm k)[i]?=o2 at *;have lay:(PyData.tuple [.int i,dat o1,dat o2]).canLay0=true:=by
     simp only[U6,Ui,s1.1,s2.1];rfl
    have sh:Pq (.tuple [.int i,dat o1,dat o2])=true:=by
     unfold Pq;rw[lay,OO];have d1:=s1.2.1;have d2:=s2.2.1;apply decide_eq_true;simp only[PyData.depth,UN];omega
    refine tix (j:=2) (SqT.of ht) rfl ⟨_,_,_,true,rfl,(λz=>by cases z),.tup h1,EC,true,rfl,dz (tix (j:=2) (SqT.of ht) rfl (tix (j:=0) (SqT.of h1) rfl ⟨_,_,_,false,rfl,(λz=>by cases z),.int _,EN,false,rfl,true,rfl,dz (tix (j:=2) (SqT.of ht) rfl (tix (j:=2) (SqT.of ht') rfl (Mt (Mt ⟨_,_,.tup (SqT.of h1) (.cons (.int _) (.cons (vD l1 p1) (.cons (vD l2 q1) .nil))),.tup (SqT.of h2) (.cons (.int _) (.cons (vD l1 p2) (.cons (vD l2 q2) .nil))),sh,sh,?_⟩))))⟩))⟩;rw[SeqAt.eqv_refl _ lay];exact q
noncomputable def Lr.hdB:Lr->Bool
 | .hand _ _=>true| .giv _ _ _=>true| .own _ _=>true| .lt _ _=>true
 |_=>false
mutual
theorem LU:∀t:Tr,t.ok ns tg dd->∀r∈flat t,r.hdB=false
 | .leaf r,ok,r',m=>by
  unfold Tr.ok at ok;unfold flat at m;rw[Mq.mp m];cases r<;>first|rfl|exact ok.elim
 | .iff v l r f o,ok,r',m=>by
  unfold Tr.ok at ok;unfold flat at m;simp only[Mf,Mp,Ms,or_false]at m;rcases m with e|m|e|m|e
  ·rw[e];rfl
  ·exact rJ f ok.2.2.2.1 r' m
  ·rw[e];rfl
  ·exact rJ o ok.2.2.2.2 r' m
  rw[e];rfl
 | .loop t m' l r b,ok,r',m=>by
  unfold Tr.ok at ok;unfold flat at m;simp only[Mf,Mp,Ms,or_false]at m;rcases m with e|m|e
  ·rw[e];rfl
  ·exact rJ b ok.2.2.2.2.2 r' m
  rw[e];rfl
theorem rJ:∀ts:List Tr,eE ns tg dd ts->∀r∈aZ ts,r.hdB=false
 | [],_,r',m=>by
  unfold aZ at m;cases m
 |t::ts,ok,r',m=>by
  unfold eE at ok;unfold aZ at m;rcases Mp.mp m with m|m
  ·exact LU t ok.1 r' m
  exact rJ ts ok.2 r' m
end
theorem IZ:∀(ds:List Dl)(bs:List (List Tr)),(∀b∈bs,∃ns tg dd,eE ns tg dd b)->∀r∈dQ ds bs,r.hdB=false
 | [],_,_,r,m=>by
  unfold dQ at m;cases m
 |_::_,[],_,r,m=>by
  unfold dQ at m;cases m
 |d::ds,b::bs,ok,r,m=>by
  unfold dQ at m;simp only[Mf,Mp]at m;obtain⟨ns,tg,dd,ob⟩:=ok b Mg;rcases m with e|m|e|m
  ·rw[e];rfl
  ·exact rJ b ob r m
  ·rw[e];rfl
  exact IZ ds bs (λx hx=>ok x (Mi _ hx)) r m
structure As(L:List Lr)(rk:Nat->Int)(z:Int):Prop where
 i:∀r∈L,r.hdB=true->r∈ck rk z
 o:∀r∈ck rk z,r∈L
theorem FQ(D:BP ev lim lrs rk z t dls bss mb):As lrs rk z:=by
 refine⟨λr m h=>?_,λr m=>?_⟩
 ·rw[D.e]at m;simp only[Mp,Mf,Ms,or_false]at m;rcases m with(m|m)|e|m|e
  ·exact(dE t _).mem_iff.mp m
  ·have:=IZ dls bss (λb hb=>by
    obtain⟨j,hj⟩:=ME hb;have jl:j<dls.length:=by
     rw[D.dd.len];exact(Ml.mp hj).1
    exact⟨_,_,_,(D.dd.bs j _ b (Mh jl) hj).1⟩) r m
   rw[h]at this;cases this
  ·rw[e]at h;cases h
  ·have:=rJ mb D.ob r m;rw[h]at this;cases this
  rw[e]at h;cases h
 rw[D.e];exact MN _ (MN _ ((dE t _).mem_iff.mpr m))
theorem F7(rk:Nat->Int)(z:Int)(t:Nat):As (rot t (ck rk z)) rk z:=⟨λr m _=>(dE t _).mem_iff.mp m,λr m=>(dE t _).mem_iff.mpr m⟩
theorem As.rk{rk:Nat->Int}(h:As L rk z):Co L:=by
 refine⟨λi m hm=>?_,λi m hm=>?_,λj hj=>⟨j,h.o _ ?_⟩⟩
 ·have:=h.i _ hm rfl;simp[ck]at this;omega
 ·have:=h.i _ hm rfl;simp[ck]at this;omega
 have:=lt3 j ();rcases this with rfl|rfl|rfl<;>simp[ck]
theorem wQ:∀{L:List Lr},(∀r∈L,r.hdB=false)->gvl N L=[]
 | [],_=>rfl
 |r::L,h=>by
  have h0:=h r Mg;have ih:=wQ (L:=L) λx m=>h x (Mi _ m);unfold gvl at ih⊢;rw[MG,ih];cases r<;>first|rfl|cases h0
theorem Bd:∀(L:List Lr),gvl N L=gvs N (L.map hdL)
 | []=>rfl
 |r::L=>by
  have ih:=Bd L;unfold gvl at ih⊢;rw[MG,Mv,ih];cases r<;>rfl
theorem oZ(L M:List Lr):gvl N (L++M)=gvl N L++gvl N M:=by
 unfold gvl;rw[Np]
theorem Gn(D:BP ev lim lrs rk z t dls bss mb):gvl N lrs=gvl N (rot t (ck rk z))/\(gvl N lrs).length=4:=by
 have e:gvl N lrs=gvl N (rot t (ck rk z)):=by
  have e1:gvl N (dQ dls bss)=[]:=wQ (IZ dls bss λb hb=>by
   obtain⟨j,hj⟩:=ME hb;have jl:j<dls.length:=by
    rw[D.dd.len];exact(Ml.mp hj).1
   exact⟨_,_,_,(D.dd.bs j _ b (Mh jl) hj).1⟩)
  have e2:gvl N (aZ mb)=[]:=wQ (rJ mb D.ob);rw[D.e,oZ,oZ,e1,show(Lr.main::(aZ mb++[.fin]))=[.main]++(aZ mb++[.fin])from rfl,oZ,oZ,e2];simp[gvl]
 refine⟨e,?_⟩;rw[e];exact((dE t _).flatMap_right _).length_eq
noncomputable def Gi(H:Hp):V->Bool
 | .ref p=>match H p with
  |some (.tup (.str s::_))=>decide (s="given")
  |_=>false
 |_=>false
noncomputable def FC(H:Hp):V->V
 | .ref p=>match H p with
  |some (.tup (_::n::_))=>n
  |_=>.non
 |_=>.non
theorem vN(h:bX N H v r):Gi H v=decide (r.w="given"):=by
 obtain⟨a,p,rfl,h1,_⟩:=h;simp only[Gi,h1]
theorem Du(h:Paired (bX N H) rows lrs):(rows.filter (Gi H)).map (FC H)=(gvl N lrs).map λg=>V.str g.1:=by
 induction h with
 |nil=>rfl
 |@cons v r rows lrs h t ih=>
  rw[MZ,vN h,show gvl N (r::lrs)=gvl N [r]++gvl N lrs from oZ [r] lrs,MI,<-ih];by_cases e:r.w="given"
  ·obtain⟨i,m,z,rfl⟩:=EV e;obtain⟨a,p,rfl,h1,_⟩:=h;rw[decide_eq_true e,if_pos rfl,Mv];simp only[FC,h1];rfl
  rw[decide_eq_false e,if_neg ∅];have:gvl N [r]=[]:=by
   cases r<;>first|rfl|exact absurd rfl e
  rw[this];rfl
theorem KG(ns:List Int):hE (ns.map V.int) Vf (Ve 24)=(ns.take 24).map V.int:=by
 unfold hE;rw[List.map_take];have e:HT.sIx (ns.map V.int).length 0 Vf=0:=rfl;rw[e,List.drop_zero,OQ,show HT.sIx (ns.map V.int).length (ns.map V.int).length (Ve 24)=min 24 (ns.map V.int).length from HT.qZ _ _ 24];by_cases h:24<=(ns.map V.int).length
 ·rw[Nat.min_eq_left h]
 rw[Nat.min_eq_right (),Nh (Mo _),Nh ()]
def wJ(K:OZ):Sp:=λvs H Q _=>∃(a:OW)(ns:List Int),vs=[.ref a]/\SqL K H a (ns.map V.int)/\ns.length<=63/\∀H',Q (.bl true) H'
theorem JD(T:Txt K mg A)(F:bE K mg "law" tj ["_law_script"]):Has P w K mg base 73 "law" ["_law_script"] (wJ K):=by
 have M6:=@zj P w _ _ base _ T;have N5:=@CT P w _ _ base _ T;refine F.hs (k:=72) oj (λf cdv A' outer s0 H vs Q E hr hu h=>?_) (λvs H Q E h=>by obtain⟨a,ns,rfl,_⟩:=h;rfl);obtain⟨a,ns,rfl,hA,hlen,q⟩:=h;refine⟨_,(ab (pst 1 oj.nd (ar (Fu T) hr (cw dS (fv 0) gH (bH ae)^ax bo (ax cF (ar M6 hr (fv 0^ae^af)) ae) ae^lL^ae^af)))
 (ab (pst 2 oj.nd (ar (II T) hr (fv 1^af)))
 (ab (pst 3 oj.nd (ax cF (ar M6 hr (fv 0^ae^af)) ae))
 (ab (fR (j:=4) (N:=["_law_row"]) (own:=1) (fr:=[]) (cG.of (by kernel_rfl!)) rfl oj.nd rfl (Mt rfl) (cA (fv 1)) (λb=>pgn (i:=0) (show PC (["_law_row"]:List PU) by decide+kernel) rfl) (λb=>lj (ptc (bh hu) (px hu (fv 0) ae) ak)) (λb=>px hu (fv 0) ae))
 (ab (pst 5 oj.nd (px hu (fv 4) (ax cF (ar M6 hr (fv 0^ae^af)) ae)))
 (ab (pst 6 oj.nd (ar (Kd T) hr (fv 1^fv 2^fv 5^fv 3^af)))
 (ab (aP (xp (bR (ar (Bh T) hr (ar N5 hr (fv 2^fv 5^fv 3^af)^fv 6^af)) (λ_=>rfl)))
  (ah (aA lL))
  aD)
 (ab (aK (ar N5 hr (fv 2^px hu (fv 4) (ax cF (ar M6 hr (fv 0^ae^af)) ae)^ae^af)))
 (ah (aA (ar (Bh T) hr (ar N5 hr (fv 2^fv 5^fv 3^af)^fv 6^af)))))))))))),?_⟩
 refine aq λM1 K1=>⟨_,rfl,Mt ⟨a,_,rfl,hA,λa4 h4=>?_⟩⟩;rw[KG];obtain⟨s4,e4⟩:=alc h4 (HO.lst ((ns.take 24).map V.int));generalize upd H a4 _=H4 at s4 e4⊢;have hA:=s4.seq hA;refine⟨a,ns,0,rfl,hA,∅,(by show(0:Int)<2;decide),a4,ns.take 24,_,false,40,rfl,rfl,SqL.of e4,λLR rows lrs rk z t dls bss mb H1 s1 hLR eLR pr D=>K1 _ _ ?_⟩;clear K1 M1 e4 h4;obtain⟨N,hN⟩:∃N,N=nmV (cellAt (ns.take 24) 1):=⟨_,rfl⟩;have dN:kg N:=by rw[hN];exact rA _
 have oN:∀i,Pw (N i)=true:=λi=>by rw[hN];exact JF _ i
 rw[<-hN]at pr;have pr1:Paired (bX N H1) rows lrs:=Paired.cI pr λ_ _ l=>l.same aC;obtain⟨body,eb,n,st,_⟩:=Dz D;have pr2:=pr1;rw[eb]at pr2;have ln:=D.l;have bl:body.length<=500:=by
  rw[eb,Mn]at ln;omega
 have hz:=D.hz;have hd1:=FQ D;have hd2:=F7 rk z t;have gv:=Gn (N:=N) D;try dsimp only
 refine aq λM1 K1=>⟨N,LR,rows,body,_,_,_,_,_,rfl,eLR,pr2,st,bl,λv H2 s2 pg=>?_⟩;obtain⟨E1,p,hv,xs,rs,R,eS⟩:=Fn D ∅ dN pg;obtain⟨g,hg⟩:∃g:Bg,g=⟨N,rot t (ck rk z),0,ptD (rot t (ck rk z)).length dls bss,pts (n+1) mb,E1,(rot t (ck rk z)).map hdL,p,hv,xs,rs⟩:=⟨_,rfl⟩;have gN:g.N=N:=by rw[hg]
 have gE:g.E.N=N:=by rw[hg];exact R.n
 have gh:g.hs=(rot t (ck rk z)).map hdL:=by rw[hg]
 have B:Prg A H2 v g:=by
  subst hg;refine⟨dN,oN,pg,?_,λr m=>yf hz.1 ((dE t _).mem_iff.mp m),hd2.rk,R⟩;rw[(dE t _).length_eq];show 13<=500;decide
 clear hg R eS pg pr pr2 st;have s02:=s1.trans s2;have eLR:=s2 _ _ eLR;have pr:=Paired.cI pr1 λ_ _ l=>bX.same s2 l;clear pr1 s1 s2;have A2:=s02.seq hA;have gz:∀x r y,Lr.giv x r y∈lrs->0<=y/\y<=20:=λx r y m=>by
  have:=hd1.i _ m rfl;simp only[ck,Mf,Ms,or_false]at this;rcases this with e|e|e|e|e|e|e|e|e|e|e|e|e<;>cases e<;>first|decide|omega
 have eg:gvl g.N lrs=g.gs:=by
  unfold Bg.gs;rw[gN,gE,gh,gv.1];exact Bd _
 have sz:∀i z,Hd.giv i z∈g.hs->z<=20:=λi y m=>by
  rw[gh]at m;obtain⟨r,hr,e⟩:=Mz.mp m;have hr:=hd1.o _ ((dE t _).mem_iff.mp hr);cases r with
  |giv j a b=>
   cases e;have:=gz _ _ _ hr;omega
  |_=>cases e
 rw[<-gN]at pr;refine K1 _ _ ?_;clear K1 M1;try dsimp only
 refine aq λM1 K1=>⟨a,ns,4,rfl,A2,∅,(by show(0:Int)<3;decide),K1 _ _ ?_⟩;clear K1 M1;try dsimp only
 generalize cellAt ns 4%3=rank;refine aq λM1 K1=>?_;have lr:rows.length=lrs.length:=O3 pr;refine Mt ⟨⟨_,SqL.of eLR⟩,fA (K:=K) (Gi H2) (FC H2) (SqL.of eLR) (ay ()) (λb' x H3 R' hm s3 k=>?_) (λb' x H3 R' hm hp s3 k=>?_) (λD2 H3 hD s3 e=>K1 _ _ ?_)⟩
 ·obtain⟨j,hj⟩:=ME hm;obtain⟨r,_,hr⟩:=bb pr hj;have eg:=vN hr;obtain⟨t0,p0,rfl,et,_⟩:=hr;rw[eg,show decide (r.w="given")=decide (V.str r.w=V.str "given")from decide_eq_decide.mpr ⟨λz=>congrArg _ z,λz=>V.str.inj z⟩]at k;exact tix (j:=0) (SqT.of (s3 _ _ et)) rfl ⟨rfl,_,rfl,k _ (ao.refl _)⟩
 ·obtain⟨j,hj⟩:=ME hm;obtain⟨r,_,hr⟩:=bb pr hj;have eg:=vN hr;rw[hp]at eg;obtain⟨i0,m0,z0,rfl⟩:=EV (of_decide_eq_true eg.symm);obtain⟨t0,p0,rfl,et,_⟩:=hr;simp only[FC,et]at k;exact tix (j:=1) (SqT.of (s3 _ _ et)) rfl (k _ (ao.refl _))
 clear K1 M1;rw[Du pr]at e;rw[gN]at e;obtain⟨nn,hnn⟩:∃nn,nn=(gvl N lrs).map λg=>V.str g.1:=⟨_,rfl⟩;rw[<-hnn]at e;have l4:nn.length=4:=by rw[hnn,Mj];exact gv.2
 have nm4:∀c:Int,∃nm:Str,atI nn (c%4)=Ve (.str nm):=λc=>by
  have h0:=UM c (show(4:Int)≠0 by decide);have h1:=Tw c (show(0:Int)<4 by decide);obtain⟨j,hj⟩:∃j:Nat,c%4=j:=⟨(c%4).toNat,()⟩;have jl:j<nn.length:=()
  obtain⟨y,hg⟩:∃y,nn[j]?=Ve y:=⟨_,Mh jl⟩;have hm:=Mr hg;rw[hnn]at hm;obtain⟨gg,_,eg⟩:=Mz.mp hm;subst eg;exact⟨gg.1,by rw[hj];exact dA hg⟩
 have B3:=B.same s3;have A3:=s3.seq A2;have pr3:=Paired.cI pr λ_ _ l=>bX.same s3 l;have eLR:=s3 _ _ eLR;clear B A2 pr s02;try dsimp only
 refine aq λM1 K1=>?_;obtain⟨nm,hnm⟩:=nm4 (cellAt ns 5);refine⟨a,ns,5,rfl,A3,∅,(by show(0:Int)<4;decide),(lix (SqL.of e) hnm (K1 _ _ ?_))⟩;clear K1 M1;try dsimp only
 refine aq λM1 K1=>⟨v,g,LR,rows,lrs,rank,nm,rfl,B3,eLR,pr3,(),hd1.rk,gz,eg,λu H5 s5 tu=>K1 _ _ ?_⟩;clear K1 M1 pr3;try dsimp only
 refine aq λM1 K1=>⟨v,g,rank,nm,rfl,B3.same s5,sz,λu1 H6 s6 t1=>?_⟩;have s56:=s5.trans s6;refine⟨u1,u,v,g,rank,nm,rfl,B3.same s56,t1,tu.same s6,true,rfl,bu (K1 _ _ ?_)⟩;clear K1 M1;try dsimp only
 refine aq λM1 K1=>?_;obtain⟨nm',hnm'⟩:=nm4 (cellAt ns 6);refine⟨a,ns,6,rfl,s56.seq A3,∅,(by show(0:Int)<4;decide),(lix (SqL.of (s56 _ _ e)) hnm' ⟨v,g,2,nm',rfl,B3.same s56,sz,λu2 H7 s7 _=>K1 _ _ ?_⟩)⟩;clear K1 M1;have s57:=s56.trans s7;try dsimp only
 exact⟨v,g,rank,nm,rfl,B3.same s57,sz,λu3 H8 s8 t3=>⟨u3,u,v,g,rank,nm,rfl,B3.same (s57.trans s8),t3,tu.same (s6.trans (s7.trans s8)),q _⟩⟩
end
inductive FnI(K:OZ)(f:OW)(x y:Str)(s:Pj):Prop|mk(oc:OX)(od:Option OW)(kV dc pm:OX)(an:Option OW)(cd ct:OX)(sl:Array (Option OX))(l:K.lookup f=Ve ⟨oc,od,.func (QF x y (eP s) (dB s) (av s) .none kV dc pm an cd ct),sl⟩)(c:Ss K cd y=true)(k:Qy K (.ref f)=true):FnI K f x y s
abbrev cX(K:OZ)(x:Str)(s:Pj):Prop:=∃f,To K Pf x=Ve (Ve (.ref f))/\FnI K f x x s
abbrev fN(K:OZ)(C:OW)(m q:Str)(s:Pj):Prop:=∃f,PQ K (.ref C) m=Ve (Ve (.ref f))/\Vc K (.ref f)=true/\FnI K f m q s
abbrev lX(K:OZ)(C:OW)(x:Str)(up:List OW):Prop:=To K Pf x=Ve (Ve (.ref C))/\(∃cd,W.clsIn K C=Ve cd/\cd.mro=up.map O8++[QM "object"])/\RU K C Q5=true/\Sq K C=true/\UB K C=true/\PQ K (.ref C) "__setattr__"=Ve (Ve (.builtin "object.__setattr__"))/\W.typeIn K (.ref C)=Ve (.type "type")/\PQ K (.ref C) "__class__"=Ve (Ve (.builtin "object.__class__"))/\Um K C=true/\Qy K (.ref C)=true
abbrev NsI(K:OZ)(x:Str):Prop:=To K Pf x=Ve Vf
abbrev NoI(K:OZ)(C:OW)(x:Str):Prop:=PQ K (.ref C) x=Ve Vf
section
variable{K:OZ}{mg:Str->Option OX}{h:Pk}{x m q:Str}{s:Pj}{ps:List Str}{C:OW}{up:List OW}
theorem dj(X:K.In h)(G:h.Ns Pf mg)(t:cX K x s)(b:∀(kV doc pm:OX)(an:Option OW)(cdv ct:OX)(us:List OX),us.length=ps.length->Sr (QF x x (eP s) (dB s) (av s) .none kV doc pm an cdv ct) ⟨us,[]⟩=pure (ps.zip us)):bE K mg x s ps:=by
 obtain⟨f,a,_,_,_,_,_,_,_,_,_,l,c,k⟩:=t;exact DM X G a l c k b
theorem gi(t:fN K C m q s)(b:∀(kV doc pm:OX)(an:Option OW)(cdv ct:OX)(us:List OX),us.length=ps.length->Sr (QF m q (eP s) (dB s) (av s) .none kV doc pm an cdv ct) ⟨us,[]⟩=pure (ps.zip us)):MFn K C m q s ps:=by
 obtain⟨f,a,i,_,_,_,_,_,_,_,_,_,l,c,k⟩:=t;exact HJ a i l c k b
theorem my(X:K.In h)(G:h.Ns Pf mg)(cg:QD K (.builtin "object.__class__") "__get__"=Ve (Ve (.builtin "getset_descriptor.__get__")))(ct:Uo K (.builtin "object.__class__")=Ve true)(t:lX K C x up):eY K mg C x up:=by
 obtain⟨a,b,c,d,e,f,g,i,j,k⟩:=t;exact⟨R7 X G a,⟨c,d,e,f⟩,b,g,i,cg,ct,j,k⟩
end
theorem ar0{p:List OX->Prop}(h:p []):∀us:List OX,us.length=0->p us:=λus e=>by
 cases us with
 |nil=>exact h
 |cons b t=>cases e
theorem arS{p:List OX->Prop}{n:Nat}(h:∀a,∀us:List OX,us.length=n->p (a::us)):∀us:List OX,us.length=n+1->p us:=λus e=>by
 cases us with
 |nil=>cases e
 |cons b t=>exact h b t (Nat.succ.inj e)
theorem ar1{p:List OX->Prop}(h:∀a0,p [a0]):∀us:List OX,us.length=1->p us:=arS λa0=>ar0 (h a0)
theorem ar2{p:List OX->Prop}(h:∀a0 a1,p [a0,a1]):∀us:List OX,us.length=2->p us:=arS λa0=>arS λa1=>ar0 (h a0 a1)
theorem ar3{p:List OX->Prop}(h:∀a0 a1 a2,p [a0,a1,a2]):∀us:List OX,us.length=3->p us:=arS λa0=>arS λa1=>arS λa2=>ar0 (h a0 a1 a2)
theorem ar4{p:List OX->Prop}(h:∀a0 a1 a2 a3,p [a0,a1,a2,a3]):∀us:List OX,us.length=4->p us:=arS λa0=>arS λa1=>arS λa2=>arS λa3=>ar0 (h a0 a1 a2 a3)
theorem ar5{p:List OX->Prop}(h:∀a0 a1 a2 a3 a4,p [a0,a1,a2,a3,a4]):∀us:List OX,us.length=5->p us:=arS λa0=>arS λa1=>arS λa2=>arS λa3=>arS λa4=>ar0 (h a0 a1 a2 a3 a4)
theorem ar7{p:List OX->Prop}(h:∀a0 a1 a2 a3 a4 a5 a6,p [a0,a1,a2,a3,a4,a5,a6]):∀us:List OX,us.length=7->p us:=arS λa0=>arS λa1=>arS λa2=>arS λa3=>arS λa4=>arS λa5=>arS λa6=>ar0 (h a0 a1 a2 a3 a4 a5 a6)
theorem all_mk{l:Uj}{w:O7}{K:OZ}{h:Pk}{mg:Str->Option OX}{fa:OW}(A:Adr)(X:K.In h)(G:h.Ns Pf mg)(hfa:mg "law"=Ve (.ref fa))
 (t1:cX K "ranks_told" lC) (t2:cX K "is_number" mM) (t3:cX K "is_good" qi) (t4:cX K "given_cell" kS)
 (t5:cX K "own_cell" oR) (t6:cX K "cells_of" oK) (t7:cX K "reckon" tJ) (t8:cX K "round_place" ko)
 (t9:cX K "ends_of" qm) (t10:cX K "run" C5) (t11:cX K "seen" zG) (t12:cX K "letter_at" nr)
 (t13:cX K "told_by" qo) (t14:cX K "laid" zQ) (t15:cX K "gift_made" mJ) (t16:cX K "gifts_made" kU)
 (t17:cX K "tried" vH) (t18:cX K "told_apart" lF) (t19:cX K "_law_cell_at" jV) (t20:cX K "_law_mix" p8)
 (t21:cX K "_law_name" oB) (t22:cX K "_law_number" lu) (t23:cX K "_law_heads" mq) (t24:cX K "_law_fit" qt)
 (t25:cX K "_law_thing" l8) (t26:cX K "_law_value" mF) (t27:cX K "_law_add" pY) (t28:cX K "_law_said" oh)
 (t29:cX K "_law_plain" mP) (t30:cX K "_law_opened" kQ) (t31:cX K "_law_closed" kT) (t32:cX K "_law_else" ou)
 (t33:cX K "_law_called" kY) (t34:cX K "_law_turned" lA) (t35:cX K "_law_body" ow) (t36:cX K "_law_drawn" mi)
 (t37:cX K "_law_plain_row" g9) (t38:cX K "_law_nested_row" gF) (t39:cX K "_law_tree" oP) (t40:cX K "_law_try" pV)
 (t41:cX K "_law_letters" jT) (t42:cX K "_law_due" qe) (t43:cX K "_law_alike" mL) (t44:cX K "law" tj)
 (yt:NsI K "all") (rS:NsI K "bool") (wC:NsI K "dict") (jt:NsI K "enumerate")
 (oe:NsI K "int") (aH:NsI K "isinstance") (cB:NsI K "len") (dY:NsI K "list")
 (qI:NsI K "max") (yR:NsI K "min") (fj:NsI K "range") (xx:NsI K "str")
 (AZ:NsI K "sum") (pz:NsI K "tuple") (xu:NsI K "zip") (g_MOST_NUMBER:∃k:Tok,To K Pf "MOST_NUMBER"=Ve (Ve (.int 999999999999 k)))
 (g_ROUND:∃k:Tok,To K Pf "ROUND"=Ve (Ve (.int 1000000000000 k))) (g_BEGINS:∃(a:OW)(i:Array OX)(n:Nat)(sl:Array (Option OX)),To K Pf "BEGINS"=Ve (Ve (.ref a))/\K.lookup a=Ve ⟨.type "tuple",Vf,.seq i n,sl⟩/\i.size<=sizeLine/\i.toList.map Cq=[V.int 0,V.int 1,V.int 2,V.int 3].map Ve) (g_MORES:∃(a:OW)(i:Array OX)(n:Nat)(sl:Array (Option OX)),To K Pf "MORES"=Ve (Ve (.ref a))/\K.lookup a=Ve ⟨.type "tuple",Vf,.seq i n,sl⟩/\i.size<=sizeLine/\i.toList.map Cq=[V.int 1,V.int 2,V.int 5].map Ve) (cg:QD K (.builtin "object.__class__") "__get__"=Ve (Ve (.builtin "getset_descriptor.__get__")))
 (ct:Uo K (.builtin "object.__class__")=Ve true) (x_Row:lX K A.Row "Row" [A.Row]) (x_HandRow:lX K A.bT "HandRow" [A.bT,A.Row]) (x_GivenRow:lX K A.aN "GivenRow" [A.aN,A.Row])
 (x_OwnRow:lX K A.bG "OwnRow" [A.bG,A.Row]) (x_LetRow:lX K A.cH "LetRow" [A.cH,A.Row]) (x_SetRow:lX K A.cY "SetRow" [A.cY,A.Row]) (x_PutRow:lX K A.cM "PutRow" [A.cM,A.Row])
 (x_SendRow:lX K A.bL "SendRow" [A.bL,A.Row]) (x_SayRow:lX K A.cm "SayRow" [A.cm,A.Row]) (x_CallRow:lX K A.cD "CallRow" [A.cD,A.Row]) (x_LastRow:lX K A.cS "LastRow" [A.cS,A.Row])
 (x_IfRow:lX K A.dP "IfRow" [A.dP,A.Row]) (x_LoopRow:lX K A.bN "LoopRow" [A.bN,A.Row]) (x_DeedRow:lX K A.cj "DeedRow" [A.cj,A.Row]) (x_Program:lX K A.Program "Program" [A.Program])
 (x_Book:lX K A.fB "Book" [A.fB]) (x_Run:lX K A.Run "Run" [A.Run]) (m1:fN K A.Row "__init__" "Row.__init__" fT) (m2:fN K A.bT "__init__" "HandRow.__init__" iE)
 (m3:fN K A.aN "__init__" "GivenRow.__init__" ik) (m4:fN K A.bG "__init__" "OwnRow.__init__" km) (m5:fN K A.cH "__init__" "LetRow.__init__" jW) (m6:fN K A.cY "__init__" "SetRow.__init__" j9)
 (m7:fN K A.cM "__init__" "PutRow.__init__" jE) (m8:fN K A.bL "__init__" "SendRow.__init__" iI) (m9:fN K A.cm "__init__" "SayRow.__init__" jO) (m10:fN K A.cD "__init__" "CallRow.__init__" iS)
 (m11:fN K A.cS "__init__" "Row.__init__" fT) (m12:fN K A.dP "__init__" "IfRow.__init__" kM) (m13:fN K A.bN "__init__" "LoopRow.__init__" iM) (m14:fN K A.cj "__init__" "DeedRow.__init__" iL)
 (m15:fN K A.Program "__init__" "Program.__init__" je) (m16:fN K A.fB "__init__" "Book.__init__" mX) (m17:fN K A.Run "__init__" "Run.__init__" oz) (m18:fN K A.Run "number_at" "Run.number_at" gZ)
 (m19:fN K A.Run "number_for" "Run.number_for" fV) (m20:fN K A.Run "number_told" "Run.number_told" fF) (m21:fN K A.Run "pass_steps" "Run.pass_steps" fO) (m22:fN K A.Run "do_rows" "Run.do_rows" jZ)
 (m23:fN K A.Run "do_row" "Run.do_row" lB) (m24:fN K A.Run "do_put" "Run.do_put" kP) (m25:fN K A.Run "do_call" "Run.do_call" jB) (m26:fN K A.Run "do_if" "Run.do_if" mC)
 (m27:fN K A.Run "do_loop" "Run.do_loop" jY) (n1:NoI K A.bT "name") (n2:NoI K A.bT "rank") (n3:NoI K A.bT "number")
 (n4:NoI K A.aN "name") (n5:NoI K A.aN "rank") (n6:NoI K A.aN "size") (n7:NoI K A.aN "number")
 (n8:NoI K A.bG "name") (n9:NoI K A.bG "size") (n10:NoI K A.bG "number") (n11:NoI K A.cH "name")
 (n12:NoI K A.cH "rank") (n13:NoI K A.cH "number") (n14:NoI K A.cY "name") (n15:NoI K A.cY "value")
 (n16:NoI K A.cY "number") (n17:NoI K A.cM "name") (n18:NoI K A.cM "place") (n19:NoI K A.cM "value")
 (n20:NoI K A.cM "number") (n21:NoI K A.bL "name") (n22:NoI K A.bL "value") (n23:NoI K A.bL "number")
 (n24:NoI K A.cm "name") (n25:NoI K A.cm "value") (n26:NoI K A.cm "mark") (n27:NoI K A.cm "number")
 (n28:NoI K A.cD "name") (n29:NoI K A.cD "things") (n30:NoI K A.cD "number") (n31:NoI K A.cS "number")
 (n32:NoI K A.dP "value") (n33:NoI K A.dP "first") (n34:NoI K A.dP "other") (n35:NoI K A.dP "left")
 (n36:NoI K A.dP "right") (n37:NoI K A.dP "number") (n38:NoI K A.bN "thing") (n39:NoI K A.bN "most")
 (n40:NoI K A.bN "body") (n41:NoI K A.bN "left") (n42:NoI K A.bN "right") (n43:NoI K A.bN "number")
 (n44:NoI K A.cj "name") (n45:NoI K A.cj "parts") (n46:NoI K A.cj "body") (n47:NoI K A.cj "number")
 (n48:NoI K A.Program "heads") (n49:NoI K A.Program "deeds") (n50:NoI K A.Program "main") (n51:NoI K A.fB "letters")
 (n52:NoI K A.fB "said") (n53:NoI K A.fB "trace") (n54:NoI K A.fB "steps") (n55:NoI K A.fB "ends")
 (n56:NoI K A.Run "deeds") (n57:NoI K A.Run "cells") (n58:NoI K A.Run "book") (y_Row_init:QD K (.ref A.Row) "__getattribute__"=Ve (Ve (.builtin "type.__getattribute__"))/\W.readsIn K A.Row (.type "type")=true/\∃f,PQ K (.ref A.Row) "__init__"=Ve (Ve (.ref f))/\W.findCls K (.ref A.Row) (.type "type") "__init__"=Ve (.val (.ref f)))
 (nod:[A.Row,A.bT,A.aN,A.bG,A.cH,A.cY,A.cM,A.bL,A.cm,A.cD,A.cS,A.dP,A.bN,A.cj,A.Program,A.fB,A.Run].Nodup)
:∃fd:Qa,(∀(s:O0)(v:OX),SK s fd ⟨[v],[]⟩ [("_law_script",v)])/\∀base:Pk,K.In base->base.Ns Pf mg->kX l.prog w K mg base CX0 73 fa fd ["_law_script"] (wJ K):=by
 have T:Txt K mg A:={
  oO:=dj X G t1 λ_ _ _ _ _ _=>ar1 λ_=>rfl,p6:=dj X G t2 λ_ _ _ _ _ _=>ar1 λ_=>rfl,Br:=dj X G t3 λ_ _ _ _ _ _=>ar2 λ_ _=>rfl,
  oq:=dj X G t4 λ_ _ _ _ _ _=>ar2 λ_ _=>rfl,tX:=dj X G t5 λ_ _ _ _ _ _=>ar1 λ_=>rfl,sI:=dj X G t6 λ_ _ _ _ _ _=>ar2 λ_ _=>rfl,
  reckon:=dj X G t7 λ_ _ _ _ _ _=>ar3 λ_ _ _=>rfl,mR:=dj X G t8 λ_ _ _ _ _ _=>ar2 λ_ _=>rfl,wH:=dj X G t9 λ_ _ _ _ _ _=>ar2 λ_ _=>rfl,
  run:=dj X G t10 λ_ _ _ _ _ _=>ar2 λ_ _=>rfl,seen:=dj X G t11 λ_ _ _ _ _ _=>ar3 λ_ _ _=>rfl,pQ:=dj X G t12 λ_ _ _ _ _ _=>ar2 λ_ _=>rfl,
  wI:=dj X G t13 λ_ _ _ _ _ _=>ar1 λ_=>rfl,laid:=dj X G t14 λ_ _ _ _ _ _=>ar4 λ_ _ _ _=>rfl,qx:=dj X G t15 λ_ _ _ _ _ _=>ar2 λ_ _=>rfl,
  oS:=dj X G t16 λ_ _ _ _ _ _=>ar4 λ_ _ _ _=>rfl,C8:=dj X G t17 λ_ _ _ _ _ _=>ar2 λ_ _=>rfl,oM:=dj X G t18 λ_ _ _ _ _ _=>ar3 λ_ _ _=>rfl,
  ni:=dj X G t19 λ_ _ _ _ _ _=>ar2 λ_ _=>rfl,wo:=dj X G t20 λ_ _ _ _ _ _=>ar3 λ_ _ _=>rfl,tE:=dj X G t21 λ_ _ _ _ _ _=>ar2 λ_ _=>rfl,
  oi:=dj X G t22 λ_ _ _ _ _ _=>ar1 λ_=>rfl,pT:=dj X G t23 λ_ _ _ _ _ _=>ar2 λ_ _=>rfl,xk:=dj X G t24 λ_ _ _ _ _ _=>ar5 λ_ _ _ _ _=>rfl,
  qa:=dj X G t25 λ_ _ _ _ _ _=>ar4 λ_ _ _ _=>rfl,qw:=dj X G t26 λ_ _ _ _ _ _=>ar3 λ_ _ _=>rfl,vO:=dj X G t27 λ_ _ _ _ _ _=>ar3 λ_ _ _=>rfl,
  sZ:=dj X G t28 λ_ _ _ _ _ _=>ar3 λ_ _ _=>rfl,ql:=dj X G t29 λ_ _ _ _ _ _=>ar4 λ_ _ _ _=>rfl,om:=dj X G t30 λ_ _ _ _ _ _=>ar4 λ_ _ _ _=>rfl,
  oU:=dj X G t31 λ_ _ _ _ _ _=>ar1 λ_=>rfl,tQ:=dj X G t32 λ_ _ _ _ _ _=>ar2 λ_ _=>rfl,oA:=dj X G t33 λ_ _ _ _ _ _=>ar3 λ_ _ _=>rfl,
  oF:=dj X G t34 λ_ _ _ _ _ _=>ar4 λ_ _ _ _=>rfl,so:=dj X G t35 λ_ _ _ _ _ _=>ar4 λ_ _ _ _=>rfl,qd:=dj X G t36 λ_ _ _ _ _ _=>ar4 λ_ _ _ _=>rfl,
  j8:=dj X G t37 λ_ _ _ _ _ _=>ar2 λ_ _=>rfl,iD:=dj X G t38 λ_ _ _ _ _ _=>ar1 λ_=>rfl,r8:=dj X G t39 λ_ _ _ _ _ _=>ar1 λ_=>rfl,
  w9:=dj X G t40 λ_ _ _ _ _ _=>ar4 λ_ _ _ _=>rfl,l7:=dj X G t41 λ_ _ _ _ _ _=>ar4 λ_ _ _ _=>rfl,wz:=dj X G t42 λ_ _ _ _ _ _=>ar4 λ_ _ _ _=>rfl,
  p9:=dj X G t43 λ_ _ _ _ _ _=>ar2 λ_ _=>rfl,yt:=Pn X G yt,rS:=Pn X G rS,
  wC:=Pn X G wC,jt:=Pn X G jt,oe:=Pn X G oe,
  aH:=Pn X G aH,cB:=Pn X G cB,dY:=Pn X G dY,
  qI:=Pn X G qI,yR:=Pn X G yR,fj:=Pn X G fj,
  xx:=Pn X G xx,AZ:=Pn X G AZ,pz:=Pn X G pz,
  xu:=Pn X G xu,nQ:=g_MOST_NUMBER.imp λ_ e=>R7 X G e,rh:=g_ROUND.imp λ_ e=>R7 X G e,
  yg:=(let ⟨_,_,_,_,a,l,z,v⟩:=g_BEGINS;⟨_,R7 X G a,λH=>AJ l rfl rfl z v H,_,l,rfl,rfl⟩),AD:=(let ⟨_,_,_,_,a,l,z,v⟩:=g_MORES;⟨_,R7 X G a,λH=>AJ l rfl rfl z v H,_,l,rfl,rfl⟩),kq:=my X G cg ct x_Row,
  rW:=gi m1 λ_ _ _ _ _ _=>ar2 λ_ _=>rfl,bM:=my X G cg ct x_HandRow,iF:=gi m2 λ_ _ _ _ _ _=>ar4 λ_ _ _ _=>rfl,
  jd:=n1,iN:=n2,kI:=n3,
  aL:=my X G cg ct x_GivenRow,g7:=gi m3 λ_ _ _ _ _ _=>ar5 λ_ _ _ _ _=>rfl,cx:=n4,
  lH:=n5,cy:=n6,jz:=n7,
  bj:=my X G cg ct x_OwnRow,j5:=gi m4 λ_ _ _ _ _ _=>ar4 λ_ _ _ _=>rfl,dX:=n8,
  gL:=n9,lQ:=n10,cc:=my X G cg ct x_LetRow,
  jA:=gi m5 λ_ _ _ _ _ _=>ar4 λ_ _ _ _=>rfl,jS:=n11,jH:=n12,
  lR:=n13,bW:=my X G cg ct x_SetRow,j6:=gi m6 λ_ _ _ _ _ _=>ar4 λ_ _ _ _=>rfl,
  kb:=n14,jm:=n15,hJ:=n16,
  bJ:=my X G cg ct x_PutRow,jR:=gi m7 λ_ _ _ _ _ _=>ar5 λ_ _ _ _ _=>rfl,jC:=n17,
  jg:=n18,iC:=n19,ic:=n20,
  aU:=my X G cg ct x_SendRow,jb:=gi m8 λ_ _ _ _ _ _=>ar4 λ_ _ _ _=>rfl,iV:=n21,
  gX:=n22,eK:=n23,aX:=my X G cg ct x_SayRow,
  j7:=gi m9 λ_ _ _ _ _ _=>ar5 λ_ _ _ _ _=>rfl,jP:=n24,iX:=n25,
  jJ:=n26,fh:=n27,bg:=my X G cg ct x_CallRow,
  iK:=gi m10 λ_ _ _ _ _ _=>ar4 λ_ _ _ _=>rfl,jh:=n28,gq:=n29,
  gC:=n30,aW:=my X G cg ct x_LastRow,lY:=gi m11 λ_ _ _ _ _ _=>ar2 λ_ _=>rfl,
  gw:=n31,bO:=my X G cg ct x_IfRow,lG:=gi m12 λ_ _ _ _ _ _=>ar7 λ_ _ _ _ _ _ _=>rfl,
  jF:=n32,jM:=n33,ke:=n34,
  kR:=n35,jN:=n36,iZ:=n37,
  aV:=my X G cg ct x_LoopRow,iR:=gi m13 λ_ _ _ _ _ _=>ar7 λ_ _ _ _ _ _ _=>rfl,g8:=n38,
  fL:=n39,iH:=n40,jf:=n41,
  hZ:=n42,fX:=n43,f9:=my X G cg ct x_DeedRow,
  i8:=gi m14 λ_ _ _ _ _ _=>ar5 λ_ _ _ _ _=>rfl,jc:=n44,eZ:=n45,
  iG:=n46,ku:=n47,dW:=my X G cg ct x_Program,
  iQ:=gi m15 λ_ _ _ _ _ _=>ar4 λ_ _ _ _=>rfl,cZ:=n48,fi:=n49,
  iO:=n50,fQ:=my X G cg ct x_Book,mU:=gi m16 λ_ _ _ _ _ _=>ar1 λ_=>rfl,
  d6:=n51,l6:=n52,kO:=n53,
  eO:=n54,mN:=n55,bV:=my X G cg ct x_Run,
  oo:=gi m17 λ_ _ _ _ _ _=>ar3 λ_ _ _=>rfl,hU:=gi m18 λ_ _ _ _ _ _=>ar2 λ_ _=>rfl,fZ:=gi m19 λ_ _ _ _ _ _=>ar2 λ_ _=>rfl,
  fD:=gi m20 λ_ _ _ _ _ _=>ar2 λ_ _=>rfl,fU:=gi m21 λ_ _ _ _ _ _=>ar2 λ_ _=>rfl,gK:=gi m22 λ_ _ _ _ _ _=>ar2 λ_ _=>rfl,
  pj:=gi m23 λ_ _ _ _ _ _=>ar2 λ_ _=>rfl,kL:=gi m24 λ_ _ _ _ _ _=>ar2 λ_ _=>rfl,jG:=gi m25 λ_ _ _ _ _ _=>ar2 λ_ _=>rfl,
  mh:=gi m26 λ_ _ _ _ _ _=>ar2 λ_ _=>rfl,jX:=gi m27 λ_ _ _ _ _ _=>ar2 λ_ _=>rfl,jo:=n56,
  dg:=n57,ja:=n58,cf:=⟨y_Row_init.1,y_Row_init.2.1,y_Row_init.2.2⟩,
  nd:=nod }
 have F:bE K mg "law" tj ["_law_script"]:=dj X G t44 λ_ _ _ _ _ _=>ar1 λ_=>rfl;obtain⟨f,a,oc,od,kV,dc,pm,an,cd,ct,sl,lk,_,_⟩:=t44;refine⟨QF "law" "law" (eP tj) (dB tj) (av tj) .none kV dc pm an cd ct,λs v=>.of_eq rfl,λbase _ _=>?_⟩;have e:=hfa.symm.trans (R7 X G a);cases e;exact HB (JD (P:=l.prog) (w:=w) (base:=base) T F) (R7 X G a) lk
theorem walk{l:Uj}{q:Program}{loose:List Str}{XP:(Str->Option OX)->Pk->Prop}{YP:O7->Pk->Prop}{d:DefRec}{K:Qj->OZ}(hn:l.most=Ve 63)(hdf:d.params.defaults=[])(hY:∀(w:O7)(h:Pk),YP w h->(K w.params).In h)
  (F:∀(w:O7)(mg:Str->Option OX)(fa:OW)(h:Pk),(K w.params).In h->h.Ns Pf mg->mg d.name=Ve (.ref fa)->∃fd:Qa,(∀(s:O0)(u:OX),SK s fd ⟨[u],[]⟩ [("_law_script",u)])/\∀base:Pk,(K w.params).In base->base.Ns Pf mg->kX l.prog w (K w.params) mg base CX0 73 fa fd ["_law_script"] (wJ (K w.params))) :
  W.WalkO q loose XP YP l.row.toRowW d [] (λf vs=>U0 f vs):=
 L2.Fg (n:=63) (k:=73) (x:="_law_script") (CX:=λ_=>CX0) (sp:=λw=>wJ (K w.params)) hn ∅ hdf ⟨rfl,∅,∅⟩ hY F (λ_ _ a ns hl _ hS=>⟨a,ns,rfl,hS,hl,λ_=>rfl⟩) λ_ _ _ _ _ z=>z
end K63
open PySem PySem.W PyProof.Rows
set_option maxHeartbeats 0 in
theorem PySem.Challenge.cw_hushrow_k63_told_apart_holds : PySem.Challenge.rw_hushrow_k63_told_apart.Holds := by
 w_on;o_law
 refine W.holds_open (q:=K63.gY) (loose:=[]) (Xt:=K63.test) (XP:=W.XL K63.gY []) (Yf:=(TF K63.heapK K63.qJ K63.kx).obs) (Ya:=(TF K63.heapK K63.qJ K63.kx).val) (YP:=(TF K63.heapK K63.qJ K63.kx).says) (N:=14456) K63.left (TF K63.heapK K63.qJ K63.kx).of (TF K63.heapK K63.qJ K63.kx).keeps
  (λs e=>W.xl_of s (OA.mp e).1) W.XL.keeps (by rfl) (by rfl) (by rfl) (λs e=>W.recFacts_of (OA.mp e).2) ?h4 ?h5 ?h6 ⟨rfl,rfl,rfl,rfl,rfl,by decide+kernel⟩ ?hw ?hc
 (case h4=>rfl);(case h5=>first|assumption|decide+kernel);(case h6=>decide+kernel);(case hw=>w_witness2)
 k_fill
 refine K63.walk (l:=PySem.Challenge.rw_hushrow_k63_told_apart) rfl rfl (λw h Y=>W.kIn_of Y) ?F;case F=>
  intro w mg fa h KX G hmg;refine K63.all_mk ⟨84,112,138,164,190,230,270,303,343,376,395,428,461,487,506,534,670⟩ KX G hmg ?_ ?_ ?_ ?_ ?_ ?_ ?_ ?_ ?_ ?_ ?_ ?_ ?_ ?_ ?_ ?_ ?_ ?_ ?_ ?_ ?_ ?_ ?_ ?_ ?_ ?_ ?_ ?_ ?_ ?_ ?_ ?_ ?_ ?_ ?_ ?_ ?_ ?_ ?_ ?_ ?_ ?_ ?_ ?_ ?_ ?_ ?_ ?_ ?_ ?_ ?_ ?_ ?_ ?_ ?_ ?_ ?_ ?_ ?_ ?_ ?_ ?_ ?_ ?_ ?_ ?_ ?_ ?_ ?_ ?_ ?_ ?_ ?_ ?_ ?_ ?_ ?_ ?_ ?_ ?_ ?_ ?_ ?_ ?_ ?_ ?_ ?_ ?_ ?_ ?_ ?_ ?_ ?_ ?_ ?_ ?_ ?_ ?_ ?_ ?_ ?_ ?_ ?_ ?_ ?_ ?_ ?_ ?_ ?_ ?_ ?_ ?_ ?_ ?_ ?_ ?_ ?_ ?_ ?_ ?_ ?_ ?_ ?_ ?_ ?_ ?_ ?_ ?_ ?_ ?_ ?_ ?_ ?_ ?_ ?_ ?_ ?_ ?_ ?_ ?_ ?_ ?_ ?_ ?_ ?_ ?_ ?_ ?_ ?_ ?_ ?_ ?_ ?_ ?_ ?_ ?_ ?_ ?_ ?_ ?_ ?_ ?_ ?_ ?_ ?_ ?_ ?_ ?_ ?_;iterate 44 exact⟨_,by k_is,_,_,_,_,_,_,_,_,_,by k_is,by k_is,by k_is⟩
  iterate 15 (show _=_;k_is)
  iterate 2 exact⟨_,by k_is⟩
  iterate 2 exact⟨_,_,_,_,by k_is,by k_is,by decide,rfl⟩
  iterate 2 (show _=_;k_is)
  iterate 17 exact⟨by k_is,⟨_,by k_is,rfl⟩,by k_is,by k_is,by k_is,by k_is,by k_is,by k_is,by k_is,by k_is⟩
  iterate 27 exact⟨_,by k_is,by k_is,_,_,_,_,_,_,_,_,_,by k_is,by k_is,by k_is⟩
  iterate 58 (show _=_;k_is)
  exact⟨by k_is,by k_is,_,by k_is,by k_is⟩
  decide

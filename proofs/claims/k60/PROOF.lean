import PyProof.Rows.All
import Wide.All
import OpenK.AllK
import Wide.FinOn
import Lean
import PyProof.EqAt
import PyProof.EqKinds
import PyProof.TupleCall
import PyProof.AttrMissSeq
import KE.KDictList
import PyProof.WalksEnum
import PyProof.EnumMake
import PyProof.ZipIter
import PyProof.Rows.ZipGen
import PyProof.Rows.SumAny
import PyProof.DictUpdate
import KE.KRevSl
import PyProof.Rows.FStr
import PyProof.WalkInts
import PyProof.Rows.SortShellK
import PyProof.Rows.SortWalk
import PySem.Challenge.RW_hushrow_k60_letters_seen
open PySem renaming Value->NK,Addr->NL,Shared->NM,wpAny_bind->NN,wpAny_pure->NU,World->NW,starEach->NX,model->N0,compareOp->Oe,mainGlobals->Of,mem_of_lookup->Og,Around->Oh,Heap->Oi,Stmt->Oj,importedModules->Oq,wpAny_truthy_bool->Oz,cellsFrom->OA,sysModules->OB,treeTable->OC,wpAny_richCompare_same_room->OD,eval->OE,binaryOp->OG,wpAny_dictEntries->OI,backTo->OK,cLine->OO,codeAny_builtin->OQ,attributeBase->OT,wpAny_mono->OU,wpAny_passesOwn->OX,Str->OY,bootBuiltins->OZ,FuncData->O0,plainId_quiet->O2,OsState->O3,NameKind->O4,wpAny_getItem_str_slice->O5,Params->O8,wpAny_Call_Name_kw->O9,wpAny_notOrdered_dict->Pc,wpAny_newObj_type->Pe,sizeLine_eq->Pg,keywordEach->Pj,behindInMarks->Pn,holding->Pr,pushCells_keeps->Pu,tupleKind_room_in1->Py,Scope->Pz,sliceBounds->PC,Builtin->PD,wpAny_call_entry->PZ,pushCells->P1,Keyword->P4,wpAny_execs_nil->P7,letOwnedTupleGo->P8,PyData->Qb,post_val_or_str->Qc,call_meetsIn->Qg,Spec->Qk,assignEach->Qn,backToKw->Qp,call_meets->Qs,wpAny_pyIter_list->Qx,wpAny_getItem_list_slice->QB,tupleKind->QF,wpAny_isInstance->QL,builtinsNs->QN,wpAny_pyNext_list_item->QP,codeAny_mono->QR,wpAny_dictEpoch->Q0,wpAny_pyNext_list_end->Q1,wpAny_loadName_local->Q6,bindArgs->Q8,isSubtype_type->Rh,swapsWith->Rr,getMethod->Rt,BindsTo->Ru,getItem->Rv,callerA->Ry,wpAny_loadName_cell->RA,wpAny_standAt->RF,evalPart_none->RH,IsPart->RN,typeIs_str->RP,wpAny_pyIter_tuple->RU,getattributeRaised->RX,GenState->R9,Within->Se,Operator->Sh,standAt->Si,wpAny_typeOf->Ss,seqIndex_neg->Sv,wpAny_dictFind_of->Sz,argBest->SE,intItems->SF,DictEntry->SG,wpAny_execs_cons->SJ,rawInt->SK,noFill_tuple_add->SQ,wpAny_forIn_list->SU,wpAny_pyIter_zip->SW,wpAny_field->S7,seqIndex_of->S9,atKey->Ta,wpAny_ite_split->Tg,wpAny_Name->To,recursionLimit->Tt,bindL->Tu,bindC->Tv,typeIs_int->Tz,call->TC,newFunctionEnv->TF,compPost->TH,storeName->TU,inplaceOp->TV,Result->TZ
open PySem.W renaming Frag->NO,mg_none_of->Ox,kitOne->OH,findIn->OJ,emptyDict->O7,kia_one->Pb,topStub->Pl,keepIn->Po,specialIn->PB,fnOf->PH,instObj->PX,cellsFrom_some->PY,openSeen->P5,Frag->Qe,boot_drawn->Ql,boot_heap->QD,boot_toks->QE,plainGet->QQ,hasDictIn->Q7,codeIn->Q9,plainGet_of->RG,openGood->Sa,kHook->Sb,callWith_K->Sr,mg_of->Sw,OpenLaw->SH,boot_o_0->SI,makesIn->SN,takesIn->SO,methodObj->S3,plainOver->S4,namesBound->Tn,lookIn->Ts,nsIn->TK,staticsOk->TQ,takerIn->TX,isFn->TY,mroIn->T7
open Option.some renaming inj->NP,injEq->PK
open PySem.Heap renaming get?_push_of_some->NQ,lt_size->NY,get?_push_size->Ob,size_push->OV,SameBut->Qf,get?_update_other->QV
open PySem.AutoSeq1 renaming wpAny_loadPart'->NT,sub_list_list->QY
open PySem.Paired renaming length->NV,snoc->Ot,snoc->Pf
open PySem.Value renaming ref->NZ,type->PV,int->Qh,bool->QM,str->Rq,isStrOf_shape->Rz,isStrOf->RE,none->RL,isInt_shape->Sd,isInt->S1,float->S2
open PySem.PassesOwn renaming never->Oa
open List renaming replicate->Oc,range->Od,Nodup->OS,lookup->Ph,take_append_of_le_length->P6,mem_or_eq_of_mem_set->Qv,getElem?_take_of_lt->Qz,eq_of_mem_replicate->QC,getElem?_replicate->QG,getElem?_set_self->QO,findIdx?_toArray->Q4,getElem?_set_ne->Q5,dropLast_concat->Rn,mem_of_mem_drop->Ro,mem_of_mem_take->Rp,filter_append->RW,findIdx?_cons->RY,map_replicate->R0,zip_cons_cons->R8,any_eq_false->Sm,foldl_append->Sy,flatMap_nil->SX,nil_append->Tb,find?_some->Ti,foldl->TB
open PySem.SeqAt renaming shaped->Ol,EqAt->P0,eqv_refl->TM
open PySem.MeetsSeq3 renaming plain_eq_loop->Om,entry_eq_loop->O6
open PySem.PyData renaming strOk->Oo,depthAll->Pw,int->Px,eqv->P2,canLayAll0->Qy
open PySem.Around renaming under_plainId->Ou,under->Sn
open PySem.NameKind renaming cell->Ov,free->OF
open PySem.Builtin.Dict renaming samePairs->Ow,dictSlotArgs->Oy,updateFrom->QK,pairItems->QX,showsAll->Q2
open Option renaming none->OL,isSome_some->RT,isSome_map->Sx,getD_none->SR,getD_some->SS,some->T9,none->Ua
open PySem.F renaming slot_dict_eq->OM,args_dict_eq_2->PL,slot_dict_get->PR,entry_dict_eq->PU,slot_list_contains->Qt,args_tuple_add_2->QA,entry_tuple_add->QH,plainAttrs_list->QI,args_dict_get_2->QJ,slot_tuple_add->QS,entry_dict_get->QW,slot_list_eq->Ri,slot_list_ne->Rk,slot_int_rmul->Te
open PySem.Builtin.Str renaming occurrences->ON,strKind->RB
open False renaming elim->OP
open PySem.MeetsSeq renaming plain_contains_loop->OR,entry_contains_loop->Qd
open PySem.Builtin.Slice renaming slicePlaces->OW,sliceAdjust->Pm,sliceApplied->Qq
open PySem.Builtin.Tuple renaming tupleExact->O1
open PyProof.Rows renaming callWith_type1->Pd,slot_tuple_getitem->PQ,envOfC->P9,AllBare->Qw,subscriptTail_builtinR->QT,subscriptTail->RI,IntsAre->Su,slicePart_none->Tw,Subscript_->Tx
open Std.Legacy.Range renaming forIn_eq_forIn_range'->Pk,size->Q3
open PySem.Builtin.List renaming listTooLong->Pp
open PySem.Value.ref renaming inj->Pq
open PySem.Calls renaming callWith_builtin->PJ,Name_function_global->Qm,evalArgs_plain->Rb,spliced_cons->RM,spliced_nil->Sq
open List.Sublist renaming refl->PM
open ForInStep renaming yield->Qa
open PySem.Str renaming empty->Qi
open Prod renaming ext->Qj
open Int renaming fdiv_eq_ediv_of_nonneg->Qo,natCast_succ->SY
open PySem.SeqAt.EqAt renaming int_int->Qr,same->QZ,int_str->RJ,str_int->RK,str_str->RQ
open Array renaming getElem?_eq_getElem->Qu,toArray_toList->Rc,toList_append->RC,size_append->SD,size_map->TL
open PySem.Obj renaming mapSeq->QU
open Nat renaming add_le_add_right->Rm,add_sub_cancel->RZ
open PySem.Heap.IsSliceOf renaming new->RO
open Bool renaming false_eq_true->RR,and_false->TN
open PySem.Txt renaming slice_le->R7
open PySem.Code renaming isFrame->So
open PySem.Data renaming cell->SM
open PySem.Heap.DictOf renaming new->Tf
open PySem.Walks renaming strAscii->TJ
open List renaming mem_cons->Kt,mem_cons_self->Ku,getElem?_eq_getElem->Kv,mem_cons_of_mem->Kw,length_map->Kx,mem_singleton->Ky,mem_append->Kz,getElem?_eq_some_iff->KA,length_append->KC,not_mem_nil->KH,mem_of_getElem?->KI,size_toArray->KL,getElem?_map->KO,map_cons->KP,mem_append_right->KQ,mem_map->KS,nodup_cons->KU,map_append->KZ,getElem?_of_mem->La,length_cons->Lb,append_assoc->Le,flatMap_cons->Lf,mem_append_left->Lj,getD_eq_getElem?_getD->Lk,take_length->Lm,length_singleton->Lp,replicate_succ->Lq,nodup_append->Ls,mem_range->Lu,append_nil->Lv,find?_cons->Lw,take_add_one->Lx,reverse_cons->Lz,length_take->LA,mem_flatMap->LB,mem_filter->LJ,any_eq_true->LM,filter_cons->LU,length_replicate->LW,getElem?_eq_none->LX,getElem?_zip_eq_some->LY,lookup_cons->Ma,length_filter_le->Mb,take_append_drop->Me,getElem?_append_right->Mf,sum_cons->Mg,length_range->Mh,getElem?_append_left->Mi,drop_eq_getElem_cons->Mj,take_zero->Ml,length_drop->Mo,all_eq_true->Mp,getElem?_range->Mr,getElem?_cons_zero->Ms,take_of_length_le->Mt,flatten_cons->Mu,map_map->Mx,getElem_inj->My,any_cons->MA,mem_map_of_mem->MB,mem_of_find?_eq_some->MD,length_range'->MH,getElem?_cons_succ->MI,range'->MJ,map_nil->ML,foldl_cons->MM,range_succ->MN,map_id'->MO,length_zip->MP,filterMap_cons->MS,length_reverse->MU,length_pos_iff->MV,map_congr_left->MW,flatMap_append->MX,mem_filterMap->Nf,find?_eq_none->Ng,ext_getElem?->Nh,mem_range'_1->Nj,cons_append->Nn,of_mem_zip->Np,length_set->Nq,filter_map->Nr,length_nil->Nt,nodup_nil->Nv
open Nat renaming le_refl->KD,le_trans->KR,zero_le->KW,lt_of_lt_of_le->KY,le_succ_of_le->Ld,ne_of_lt->Ll,le_add_right->LK,lt_irrefl->LQ,lt_succ_self->Mn,succ_le_succ->Mq,lt_succ_of_lt->Mv,lt_of_le_of_lt->MF,ne_of_gt->MK,le_succ->Nc,le_of_lt->Nm,le_of_eq->Nw,min_self->Nx
open Or renaming inl->KG,inr->Lg
open Bool renaming false_ne_true->KJ,eq_false_iff->LO,eq_iff_iff->LP,and_eq_true->LS,noConfusion->Mz,and_eq_true_iff->MR,false_and->Nb
open Int renaming le_refl->Lc,mul_le_mul_of_nonneg_left->Li,mul_nonneg->Lo,toNat_natCast->LI,mul_le_mul_of_nonneg_right->LZ,zero_add->MG,le_trans->MQ,toNat_of_nonneg->MY,mul_add->Nd,one_mul->Nu,add_mul->Ny
open True renaming intro->Lh
open Option renaming map_eq_some_iff->Ly,map_some->MC,isSome_iff_exists->ME
open Sum renaming inr->LC,inl->Na
open Ne renaming symm->LF
open Array renaming getElem?_toList->Mw,length_toList->MT,mk->MZ,getElem_mem->Ni
set_option Elab.async false
set_option linter.all false
set_option maxRecDepth 100000
namespace Hd
open PySem PySem.W PySem.Calls PyProof.Rows
noncomputable def nC(tb:String->Option PD)(p:Program)(w:NW)(n₀:Nat)(ann:Option NK):Nat->SharedT->Thread->Option SharedT
 |0,_,_=>Ua
 |n+1,s,t=>match through t with
  |true=>T9 s
  |false=>match stepOk n₀ ann t with
   |false=>Ua
   |true=>match stepT (denote tb) p w s t with
    |some (s',t')=>nC tb p w n₀ ann n s' t'
    |none=>Ua
theorem Du{tb:String->Option PD}{p:Program}{w:NW}{n₀:Nat}{ann:Option NK}:∀{n:Nat}{s s':SharedT}{t:Thread},
  nC tb p w n₀ ann n s t=T9 s'->topRun tb p w n₀ ann n s.abs t=T9 s'.abs
 |0,_,_,_,h=>by cases h
 |n+1,s,s',t,h=>by
  unfold nC at h;unfold topRun;cases he:through t with
  |true=>rw[he]at h;cases h;rfl
  |false=>
   rw[he]at h;cases hk:stepOk n₀ ann t with
   |false=>rw[hk]at h;cases h
   |true=>
    rw[hk]at h;cases hs:stepT (denote tb) p w s t with
    |none=>rw[hs]at h;cases h
    |some r=>obtain⟨s₂,t₂⟩:=r;rw[hs]at h;rw[stepT_spec hs];exact Du h
noncomputable def IK(p q:Program)(loose:List Str)(Xt:NM->Bool){α:Type}(Yf:NM->α)(g0:Bool)(H:Oi)(s:NM):=
 (TQ (Oq p.main.body) H s.heap&&Tn p s.heap&&gensDone s&&laidKept H s.heap,P5 q loose (Oq p.main.body) Xt g0 s,Yf s)
noncomputable def BJ(p:Program)(H:Oi)(s:NM):=TQ (Oq p.main.body) H s.heap&&Tn p s.heap&&gensDone s&&laidKept H s.heap
noncomputable def Eb{a b c:Type}(x:a×b×c):=(x.1,x.2.1)
noncomputable def treeOf:List Obj->Nat->BT->BT
 | [],_,t=>t
 |o::r,i,t=>treeOf r (i+1) (t.ins i o)
theorem DU{p q:Program}{loose:List Str}{Xt:NM->Bool}{α:Type}{Yf:NM->α}{Ya:NW->α}{N:Nat}{g0:Bool}{H₀:O8->Oi}{gs₀:Array R9}{d₀:Drawn}{k₀ m₀ n₀:Nat}{ann:Option NK}{T₀:O8->BT}{life:Life}
  (opn:∀w:NW,(fencedOpening OC p w N).map (λs=>(s.heap,s.gens,s.drawn,s.toks))=T9 (H₀ w.params,gs₀,d₀,k₀))
  (size:∀w:NW,((H₀ w.params).isNs Of&&gs₀.size==0,(H₀ w.params).objs.size,(H₀ w.params).nsMap Of "__annotations__")=(true,m₀,ann))
  (tree:∀P:O8,absHeap (T₀ P) n₀ life=H₀ P)
  (look:∀(w:NW)(os:O3),(nC OC p w m₀ ann N ⟨T₀ w.params,n₀,life,gs₀,d₀,k₀,os⟩ (Pl p)).map (λs=>IK p q loose Xt Yf g0 (H₀ w.params) s.abs)=T9 (true,Sa q loose,Ya w)) :
  LeftO p q loose Xt Yf Ya N g0:=λw=>by
 obtain⟨⟨h,gs,d,k,os⟩,e,e'⟩:=Ly.mp (opn w)
 obtain⟨rfl,rfl,rfl,rfl⟩:h=H₀ w.params/\gs=gs₀/\d=d₀/\k=k₀:=by simpa using e'
 obtain⟨z1,z2,z3⟩:_/\_/\_:=by simpa only[Prod.mk.injEq] using size w
 obtain⟨s,hs,hl⟩:=Ly.mp (look w os)
 obtain⟨l1,l23⟩:=Prod.mk.inj hl
 obtain⟨l2,l3⟩:=Prod.mk.inj l23
 have r:=Du hs
 have t:topFrom OC p w N ⟨H₀ w.params,gs,d,k,os⟩=T9 s.abs:=by
  unfold topFrom;dsimp only;rw[z1,z2,z3];unfold SharedT.abs at r;dsimp only at r;rw[tree w.params]at r;show(topRun OC p w m₀ ann N ⟨H₀ w.params,gs,d,k,os⟩ (Pl p)).bind _=_;rw[r];show(match TQ (Oq p.main.body) (H₀ w.params) s.abs.heap&&Tn p s.abs.heap&&gensDone s.abs&&laidKept (H₀ w.params) s.abs.heap with|true=>_|false=>_)=_;rw[l1];rfl
 unfold openEnds
 rw[e]
 show(topFrom OC p w N _).map _=_
 rw[t]
 exact congrArg T9 (Qj l2 l3)
theorem Bo{p q:Program}{loose:List Str}{Xt:NM->Bool}{α:Type}{Yf:NM->α}{Ya:NW->α}{N:Nat}{g0:Bool}{H₀:O8->Oi}{gs₀:Array R9}{d₀:Drawn}{k₀ m₀ n₀:Nat}{ann:Option NK}{T₀:O8->BT}{life:Life}
  (opn:∀w:NW,(fencedOpening OC p w N).map (λs=>(s.heap,s.gens,s.drawn,s.toks))=T9 (H₀ w.params,gs₀,d₀,k₀))
  (size:∀w:NW,((H₀ w.params).isNs Of&&gs₀.size==0,(H₀ w.params).objs.size,(H₀ w.params).nsMap Of "__annotations__")=(true,m₀,ann))
  (tree:∀P:O8,absHeap (T₀ P) n₀ life=H₀ P)
  (look1:∀(w:NW)(os:O3),(nC OC p w m₀ ann N ⟨T₀ w.params,n₀,life,gs₀,d₀,k₀,os⟩ (Pl p)).map (λs=>BJ p (H₀ w.params) s.abs)=T9 true)
  (look3:∀(w:NW)(os:O3),(nC OC p w m₀ ann N ⟨T₀ w.params,n₀,life,gs₀,d₀,k₀,os⟩ (Pl p)).map (λs=>Eb (P5 q loose (Oq p.main.body) Xt g0 s.abs))=T9 (Eb (Sa q loose)))
  (look5:∀(w:NW)(os:O3),(nC OC p w m₀ ann N ⟨T₀ w.params,n₀,life,gs₀,d₀,k₀,os⟩ (Pl p)).map (λs=>(P5 q loose (Oq p.main.body) Xt g0 s.abs).2.2.1)=T9 true)
  (look6:∀(w:NW)(os:O3),(nC OC p w m₀ ann N ⟨T₀ w.params,n₀,life,gs₀,d₀,k₀,os⟩ (Pl p)).map (λs=>(P5 q loose (Oq p.main.body) Xt g0 s.abs).2.2.2.1)=T9 true)
  (look4:∀(w:NW)(os:O3),(nC OC p w m₀ ann N ⟨T₀ w.params,n₀,life,gs₀,d₀,k₀,os⟩ (Pl p)).map (λs=>(P5 q loose (Oq p.main.body) Xt g0 s.abs).2.2.2.2)=T9 (Sa q loose).2.2.2.2)
  (look2:∀(w:NW)(os:O3),(nC OC p w m₀ ann N ⟨T₀ w.params,n₀,life,gs₀,d₀,k₀,os⟩ (Pl p)).map (λs=>Yf s.abs)=T9 (Ya w)) :
  LeftO p q loose Xt Yf Ya N g0:=DU opn size tree λw os=>by
 obtain⟨s,hs,h1⟩:=Ly.mp (look1 w os)
 have h2:=look2 w os
 have h3:=look3 w os
 have h4:=look4 w os
 have h5:=look5 w os
 have h6:=look6 w os
 rw[hs]at h2 h3 h4 h5 h6⊢
 have h3:=NP h3
 exact congrArg T9 (Qj h1 (Qj (Qj (congrArg (·.1) h3) (Qj (congrArg (·.2) h3) (Qj (NP h5) (Qj (NP h6) (NP h4))))) (NP h2)))
end Hd
namespace L2
open PySem PySem.Spec PyProof.Rows
noncomputable def Ud(s:Oj)(j:Nat):Oj:=match s with
 | .ClassDef _ _ _ body _ _ _ _ _ _ _=>body.getD j (.Pass ⟨0,0,0,0⟩)
 |_=>.Pass ⟨0,0,0,0⟩
noncomputable def eE(s:Oj):Arguments:=match s with
 | .FunctionDef _ a _ _ _ _ _ _ _ _=>a
 |_=>{ posonlyargs:=[],args:=[],vararg:=Ua,kwonlyargs:=[],kw_defaults:=[],kwarg:=Ua,defaults:=[] }
noncomputable def dj(s:Oj):List Oj:=match s with
 | .FunctionDef _ _ b _ _ _ _ _ _ _=>b
 |_=>[]
noncomputable def av(s:Oj):Pz:=match s with
 | .FunctionDef _ _ _ _ _ _ sc _ _ _=>sc
 |_=>{ kind:=.function,names:=[],isGenerator:=false,isCoroutine:=false }
end L2
namespace K60
open PySem
noncomputable def top(i:Nat):Oj:=PySem.Challenge.pw_hushrow_k60_letters_seen.main.body.getD i (.Pass ⟨0,0,0,0⟩)
end K60
set_option genSizeOf false
set_option maxHeartbeats 0
namespace K60
open PySem L2 PySem.W
noncomputable abbrev Ey(P:O8)(x:Str)(t:Nat)(v:NK):SG:=⟨PyData.keyHash P x,.str x t,v⟩
noncomputable abbrev FL(P:O8)(a:Nat)(l:Int)(b:Nat):=Ey P "__firstlineno__" a (.int l b)
noncomputable abbrev SA(P:O8)(a b:Nat):=Ey P "__static_attributes__" a (.ref b)
noncomputable abbrev DO(P:O8)(a:Nat):=Ey P "__doc__" a .none
noncomputable abbrev M3O(P:O8)(a:Nat):=Ey P "__module__" a (.str "hushrow.rows" 239)
noncomputable abbrev ER(P:O8)(x:Str)(a b:Nat):=Ey P x a (.ref b)
noncomputable abbrev DI(x:Array SG)(n:Nat):Obj:=⟨.type "dict",Ua,.dict x n,#[]⟩
noncomputable abbrev WR(x:Str)(a b:Nat)(y:String):Obj:=⟨.type "getset_descriptor",Ua,.fields #[.str x a,.ref b,.builtin y,.none],#[]⟩
noncomputable abbrev CX(n:Str)(a c:Nat)(bs m s:List NK)(d:Option NK)(u v:Nat)(w:String):Obj:=⟨.type "type",Ua,.cls { name:=n,bases:=bs,mro:=.ref a::m,ns:=c,qualname:=n,hasDict:=true,slotNames:=[],subclasses:=s,abstract:=false,collection:=Ua,hasDel:=false },#[d,Ua,T9 (.str n u),T9 (.str n v),T9 (.builtin w),T9 (.bool true)]⟩
noncomputable abbrev CR(n:Str)(a c d u:Nat):Obj:=CX n a c [.ref 84] [.ref 84,.type "object"] [] (T9 (.ref d)) u (u+8) "object.__new__"
noncomputable abbrev CO(n q:Str)(t:Nat)(l a:Int)(r:Nat)(m:Nat):Obj:=⟨.type "code",Ua,.fields #[.str n t,.str q (t+1),.str "/claim/cut.py" (t+2),.int l 0,.int a 0,.int 0 0,.int 0 0,.int 3 0,.ref r,.bool true,.int 181 0,.ref (r+1),.none,.ref (r+2),.ref (r+3),.ref (r+4),.int m 0,.int l 0,.str "/claim/cut.py" (m+1)],#[]⟩
noncomputable abbrev FU(n q:Str)(s:Oj)(m:Str)(t c:Nat):Obj:=⟨.type "function",Ua,.func (PH n q (eE s) (dj s) (av s) .none .none .none (.str m t) Ua (.ref c) .none),#[]⟩
noncomputable abbrev F7T(x:Str)(i c:Nat):=FU x x (top i) "hushrow.gifts" 895 c
noncomputable abbrev F8T(x:Str)(i c:Nat):=FU x x (top i) "law_hushrow_k60_letters_seen" 1121 c
noncomputable abbrev G9T(x y:Str)(i j c:Nat):=FU x y (Ud (top i) j) "hushrow.rows" 239 c
noncomputable abbrev rS(x y:Str)(i j c:Nat):=FU x y (Ud (top i) j) "hushrow.runner" 961 c
noncomputable def heapK(P:O8):NO:=
 (nat_lit 2,⟨.none,Ua,.dict #[] 0,#[]⟩)::
 (nat_lit 3,DI #[Ey P "__name__" 165 (.str "law_hushrow_k60_letters_seen" 1121),DO P 166,Ey P "__package__" 167 .none,Ey P "__loader__" 168 (.builtin "__main__.__loader__#opaque"),Ey P "__spec__" 169 .none,ER P "__annotations__" 170 6,ER P "__builtins__" 171 4,Ey P "__file__" 173 (.str "/claim/cut.py" 172),Ey P "__cached__" 174 .none,ER P "_wall" 193 21,ER P "HushError" 213 31,ER P "NoGift" 238 51,ER P "Row" 283 84,ER P "HandRow" 318 112,ER P "GivenRow" 355 138,ER P "OwnRow" 390 164,ER P "LetRow" 425 190,ER P "SetRow" 474 230,ER P "PutRow" 525 270,ER P "SendRow" 567 303,ER P "SayRow" 618 343,ER P "CallRow" 660 376,ER P "LastRow" 683 395,ER P "IfRow" 731 428,ER P "LoopRow" 779 461,ER P "DeedRow" 816 487,ER P "Program" 849 506,ER P "ranks_told" 860 517,ER P "Book" 894 534,Ey P "MOST_NUMBER" 898 (.int (999999999999) 897),ER P "is_number" 905 545,ER P "is_good" 911 550,ER P "given_cell" 920 557,ER P "own_cell" 927 564,ER P "cells_of" 939 571,Ey P "ROUND" 943 (.int (1000000000000) 942),ER P "reckon" 952 578,ER P "round_place" 960 585,ER P "Run" 1085 670,ER P "ends_of" 1091 679,ER P "run" 1101 686,ER P "unlike_given" 1114 693,ER P "seen" 1120 698,ER P "_law_cell_at" 1130 705,ER P "_law_mix" 1140 712,ER P "_law_name" 1154 719,ER P "_law_number" 1161 726,ER P "_law_heads" 1167 731,ER P "_law_fit" 1173 736,ER P "_law_thing" 1185 743,ER P "_law_value" 1198 750,ER P "_law_add" 1208 757,ER P "_law_said" 1214 762,ER P "_law_plain" 1230 769,ER P "_law_opened" 1236 774,ER P "_law_closed" 1244 781,ER P "_law_called" 1260 788,ER P "_law_turned" 1266 793,ER P "_law_body" 1279 800,ER P "_law_drawn" 1298 807,ER P "_law_plain_row" 1307 814,ER P "_law_nested_row" 1316 821,ER P "_law_tree" 1330 828,ER P "_law_gift" 1342 835,ER P "_law_gifts" 1355 842,ER P "_law_due" 1366 849,ER P "_law_turned_list" 1378 856,ER P "_law_copied" 1388 863,ER P "law" 1394 868] 69)::
 (nat_lit 30,DI #[Ey P "__module__" 203 (.str "hushrow.errors" 194),FL P 207 5 206,SA P 208 29,ER P "__weakref__" 210 32,DO P 211] 3)::
 (nat_lit 31,CX "HushError" 31 30 [.type "ValueError"] [.type "ValueError",.type "Exception",.type "BaseException",.type "object"] [.ref 51] (T9 (.ref 22)) 196 204 "ValueError.__new__")::
 (nat_lit 32,WR "__weakref__" 209 31 "ExceptionGroup.__weakref__")::
 (nat_lit 50,DI #[Ey P "__module__" 221 (.str "hushrow.errors" 194),FL P 225 7 224,ER P "__init__" 233 48,SA P 235 49,DO P 236] 2)::
 (nat_lit 51,CX "NoGift" 51 50 [.ref 31] [.ref 31,.type "ValueError",.type "Exception",.type "BaseException",.type "object"] [] (T9 (.ref 35)) 214 222 "ValueError.__new__")::
 (nat_lit 66,CO "__init__" "Row.__init__" 253 14 2 61 258)::
 (nat_lit 67,G9T "__init__" "Row.__init__" 5 0 66)::
 (nat_lit 83,DI #[M3O P 248,FL P 252 12 251,ER P "__init__" 260 67,ER P "reads" 267 74,ER P "target" 274 81,SA P 276 82,ER P "__dict__" 278 85,ER P "__weakref__" 280 86,DO P 281] 4)::
 (nat_lit 84,CX "Row" 84 83 [.type "object"] [.type "object"] [.ref 112,.ref 138,.ref 164,.ref 190,.ref 230,.ref 270,.ref 303,.ref 343,.ref 376,.ref 395,.ref 428,.ref 461,.ref 487] Ua 241 249 "object.__new__")::
 (nat_lit 85,⟨(.type "getset_descriptor"),Ua,.fields #[(.str "__dict__" 277),(.ref 84),(.builtin "function.__dict__"),(.builtin "function.__dict__#set")],#[]⟩)::
 (nat_lit 86,WR "__weakref__" 279 84 "ExceptionGroup.__weakref__")::
 (nat_lit 101,CO "__init__" "HandRow.__init__" 296 24 4 96 303)::
 (nat_lit 102,G9T "__init__" "HandRow.__init__" 6 0 101)::
 (nat_lit 111,DI #[M3O P 291,FL P 295 22 294,ER P "__init__" 305 102,ER P "shown" 312 109,SA P 315 110,DO P 316] 2)::
 (nat_lit 112,CR "HandRow" 112 111 89 284)::
 (nat_lit 127,CO "__init__" "GivenRow.__init__" 331 33 5 122 339)::
 (nat_lit 128,G9T "__init__" "GivenRow.__init__" 7 0 127)::
 (nat_lit 137,DI #[M3O P 326,FL P 330 31 329,ER P "__init__" 341 128,ER P "shown" 348 135,SA P 352 136,DO P 353] 2)::
 (nat_lit 138,CR "GivenRow" 138 137 115 319)::
 (nat_lit 153,CO "__init__" "OwnRow.__init__" 368 43 4 148 375)::
 (nat_lit 154,G9T "__init__" "OwnRow.__init__" 8 0 153)::
 (nat_lit 163,DI #[M3O P 363,FL P 367 41 366,ER P "__init__" 377 154,ER P "shown" 384 161,SA P 387 162,DO P 388] 2)::
 (nat_lit 164,CR "OwnRow" 164 163 141 356)::
 (nat_lit 179,CO "__init__" "LetRow.__init__" 403 52 4 174 410)::
 (nat_lit 180,G9T "__init__" "LetRow.__init__" 9 0 179)::
 (nat_lit 189,DI #[M3O P 398,FL P 402 50 401,ER P "__init__" 412 180,ER P "shown" 419 187,SA P 422 188,DO P 423] 2)::
 (nat_lit 190,CR "LetRow" 190 189 167 391)::
 (nat_lit 205,CO "__init__" "SetRow.__init__" 438 61 4 200 445)::
 (nat_lit 206,G9T "__init__" "SetRow.__init__" 10 0 205)::
 (nat_lit 229,DI #[M3O P 433,FL P 437 59 436,ER P "__init__" 447 206,ER P "shown" 454 213,ER P "reads" 461 220,ER P "target" 468 227,SA P 471 228,DO P 472] 2)::
 (nat_lit 230,CR "SetRow" 230 229 193 426)::
 (nat_lit 245,CO "__init__" "PutRow.__init__" 487 76 5 240 495)::
 (nat_lit 246,G9T "__init__" "PutRow.__init__" 11 0 245)::
 (nat_lit 269,DI #[M3O P 482,FL P 486 74 485,ER P "__init__" 497 246,ER P "shown" 504 253,ER P "reads" 511 260,ER P "target" 518 267,SA P 522 268,DO P 523] 2)::
 (nat_lit 270,CR "PutRow" 270 269 233 475)::
 (nat_lit 285,CO "__init__" "SendRow.__init__" 538 92 4 280 545)::
 (nat_lit 286,G9T "__init__" "SendRow.__init__" 12 0 285)::
 (nat_lit 302,DI #[M3O P 533,FL P 537 90 536,ER P "__init__" 547 286,ER P "shown" 554 293,ER P "reads" 561 300,SA P 564 301,DO P 565] 2)::
 (nat_lit 303,CR "SendRow" 303 302 273 526)::
 (nat_lit 318,CO "__init__" "SayRow.__init__" 580 104 5 313 588)::
 (nat_lit 319,G9T "__init__" "SayRow.__init__" 13 0 318)::
 (nat_lit 342,DI #[M3O P 575,FL P 579 102 578,ER P "__init__" 590 319,ER P "shown" 597 326,ER P "reads" 604 333,ER P "target" 611 340,SA P 615 341,DO P 616] 2)::
 (nat_lit 343,CR "SayRow" 343 342 306 568)::
 (nat_lit 358,CO "__init__" "CallRow.__init__" 631 120 4 353 638)::
 (nat_lit 359,G9T "__init__" "CallRow.__init__" 14 0 358)::
 (nat_lit 375,DI #[M3O P 626,FL P 630 118 629,ER P "__init__" 640 359,ER P "shown" 647 366,ER P "reads" 654 373,SA P 657 374,DO P 658] 2)::
 (nat_lit 376,CR "CallRow" 376 375 346 619)::
 (nat_lit 394,DI #[M3O P 668,FL P 672 130 671,ER P "shown" 679 392,SA P 680 393,DO P 681] 2)::
 (nat_lit 395,CR "LastRow" 395 394 379 661)::
 (nat_lit 410,CO "__init__" "IfRow.__init__" 696 136 7 405 706)::
 (nat_lit 411,G9T "__init__" "IfRow.__init__" 16 0 410)::
 (nat_lit 427,DI #[M3O P 691,FL P 695 134 694,ER P "__init__" 708 411,ER P "shown" 715 418,ER P "reads" 722 425,SA P 728 426,DO P 729] 2)::
 (nat_lit 428,CR "IfRow" 428 427 398 684)::
 (nat_lit 443,CO "__init__" "LoopRow.__init__" 744 151 7 438 754)::
 (nat_lit 444,G9T "__init__" "LoopRow.__init__" 17 0 443)::
 (nat_lit 460,DI #[M3O P 739,FL P 743 149 742,ER P "__init__" 756 444,ER P "shown" 763 451,ER P "reads" 770 458,SA P 776 459,DO P 777] 2)::
 (nat_lit 461,CR "LoopRow" 461 460 431 732)::
 (nat_lit 476,CO "__init__" "DeedRow.__init__" 792 166 5 471 800)::
 (nat_lit 477,G9T "__init__" "DeedRow.__init__" 18 0 476)::
 (nat_lit 486,DI #[M3O P 787,FL P 791 164 790,ER P "__init__" 802 477,ER P "shown" 809 484,SA P 813 485,DO P 814] 2)::
 (nat_lit 487,CR "DeedRow" 487 486 464 780)::
 (nat_lit 502,CO "__init__" "Program.__init__" 829 176 4 497 836)::
 (nat_lit 503,G9T "__init__" "Program.__init__" 19 0 502)::
 (nat_lit 505,DI #[M3O P 824,FL P 828 174 827,ER P "__init__" 838 503,SA P 842 504,ER P "__dict__" 844 507,ER P "__weakref__" 846 508,DO P 847] 4)::
 (nat_lit 506,CX "Program" 506 505 [.type "object"] [.type "object"] [] Ua 817 825 "object.__new__")::
 (nat_lit 507,⟨(.type "getset_descriptor"),Ua,.fields #[(.str "__dict__" 843),(.ref 506),(.builtin "function.__dict__"),(.builtin "function.__dict__#set")],#[]⟩)::
 (nat_lit 508,WR "__weakref__" 845 506 "ExceptionGroup.__weakref__")::
 (nat_lit 516,CO "ranks_told" "ranks_told" 852 181 1 511 858)::
 (nat_lit 517,FU "ranks_told" "ranks_told" (top 21) "hushrow.looker" 850 516)::
 (nat_lit 530,CO "__init__" "Book.__init__" 875 190 1 525 879)::
 (nat_lit 531,FU "__init__" "Book.__init__" (Ud (top 23) 0) "hushrow.books" 861 530)::
 (nat_lit 533,DI #[Ey P "__module__" 870 (.str "hushrow.books" 861),FL P 874 188 873,ER P "__init__" 881 531,SA P 887 532,ER P "__dict__" 889 535,ER P "__weakref__" 891 536,DO P 892] 4)::
 (nat_lit 534,CX "Book" 534 533 [.type "object"] [.type "object"] [] Ua 863 871 "object.__new__")::
 (nat_lit 535,⟨(.type "getset_descriptor"),Ua,.fields #[(.str "__dict__" 888),(.ref 534),(.builtin "function.__dict__"),(.builtin "function.__dict__#set")],#[]⟩)::
 (nat_lit 536,WR "__weakref__" 890 534 "ExceptionGroup.__weakref__")::
 (nat_lit 544,CO "is_number" "is_number" 899 198 1 539 903)::
 (nat_lit 545,F7T "is_number" 26 544)::
 (nat_lit 549,⟨(.type "code"),Ua,.fields #[(.str "is_good" 906),(.str "is_good" 907),(.str "/claim/cut.py" 908),(.int (202) 0),(.int (2) 0),(.int (0) 0),(.int (0) 0),(.int (3) 0),(.ref 546),(.bool true),(.int (181) 0),(.ref 547),.none,.none,.none,(.ref 548),(.int (909) 0),(.int (202) 0),(.str "/claim/cut.py" 910)],#[]⟩)::
 (nat_lit 550,F7T "is_good" 27 549)::
 (nat_lit 556,CO "given_cell" "given_cell" 912 206 2 551 918)::
 (nat_lit 557,F7T "given_cell" 28 556)::
 (nat_lit 563,CO "own_cell" "own_cell" 921 211 1 558 925)::
 (nat_lit 564,F7T "own_cell" 29 563)::
 (nat_lit 570,CO "cells_of" "cells_of" 928 213 2 565 937)::
 (nat_lit 571,F7T "cells_of" 30 570)::
 (nat_lit 577,CO "reckon" "reckon" 944 226 3 572 950)::
 (nat_lit 578,FU "reckon" "reckon" (top 33) "hushrow.sums" 940 577)::
 (nat_lit 584,CO "round_place" "round_place" 953 240 2 579 958)::
 (nat_lit 585,FU "round_place" "round_place" (top 34) "hushrow.sums" 940 584)::
 (nat_lit 598,CO "__init__" "Run.__init__" 975 245 3 593 982)::
 (nat_lit 599,rS "__init__" "Run.__init__" 36 0 598)::
 (nat_lit 605,CO "number_at" "Run.number_at" 985 252 2 600 990)::
 (nat_lit 606,rS "number_at" "Run.number_at" 36 1 605)::
 (nat_lit 612,CO "number_for" "Run.number_for" 993 255 2 607 1000)::
 (nat_lit 613,rS "number_for" "Run.number_for" 36 2 612)::
 (nat_lit 619,CO "number_told" "Run.number_told" 1003 264 2 614 1008)::
 (nat_lit 620,rS "number_told" "Run.number_told" 36 3 619)::
 (nat_lit 626,CO "pass_steps" "Run.pass_steps" 1011 269 2 621 1017)::
 (nat_lit 627,rS "pass_steps" "Run.pass_steps" 36 4 626)::
 (nat_lit 633,CO "do_rows" "Run.do_rows" 1020 273 2 628 1027)::
 (nat_lit 634,rS "do_rows" "Run.do_rows" 36 5 633)::
 (nat_lit 640,CO "do_row" "Run.do_row" 1030 280 2 635 1037)::
 (nat_lit 641,rS "do_row" "Run.do_row" 36 6 640)::
 (nat_lit 647,CO "do_put" "Run.do_put" 1040 302 2 642 1046)::
 (nat_lit 648,rS "do_put" "Run.do_put" 36 7 647)::
 (nat_lit 652,⟨(.type "code"),Ua,.fields #[(.str "do_call" 1049),(.str "Run.do_call" 1050),(.str "/claim/cut.py" 1051),(.int (306) 0),(.int (2) 0),(.int (0) 0),(.int (0) 0),(.int (3) 0),(.ref 649),(.bool true),(.int (181) 0),(.ref 650),.none,.none,.none,(.ref 651),(.int (1052) 0),(.int (306) 0),(.str "/claim/cut.py" 1053)],#[]⟩)::
 (nat_lit 653,rS "do_call" "Run.do_call" 36 8 652)::
 (nat_lit 659,CO "do_if" "Run.do_if" 1055 313 2 654 1061)::
 (nat_lit 660,rS "do_if" "Run.do_if" 36 9 659)::
 (nat_lit 666,CO "do_loop" "Run.do_loop" 1064 322 2 661 1072)::
 (nat_lit 667,rS "do_loop" "Run.do_loop" 36 10 666)::
 (nat_lit 669,DI #[Ey P "__module__" 970 (.str "hushrow.runner" 961),FL P 974 243 973,ER P "__init__" 984 599,ER P "number_at" 992 606,ER P "number_for" 1002 613,ER P "number_told" 1010 620,ER P "pass_steps" 1019 627,ER P "do_rows" 1029 634,ER P "do_row" 1039 641,ER P "do_put" 1048 648,ER P "do_call" 1054 653,ER P "do_if" 1063 660,ER P "do_loop" 1074 667,SA P 1078 668,ER P "__dict__" 1080 671,ER P "__weakref__" 1082 672,DO P 1083] 4)::
 (nat_lit 670,CX "Run" 670 669 [.type "object"] [.type "object"] [] Ua 963 971 "object.__new__")::
 (nat_lit 671,⟨(.type "getset_descriptor"),Ua,.fields #[(.str "__dict__" 1079),(.ref 670),(.builtin "function.__dict__"),(.builtin "function.__dict__#set")],#[]⟩)::
 (nat_lit 672,WR "__weakref__" 1081 670 "ExceptionGroup.__weakref__")::
 (nat_lit 678,⟨(.type "code"),Ua,.fields #[(.str "ends_of" 1086),(.str "ends_of" 1087),(.str "/claim/cut.py" 1088),(.int (332) 0),(.int (2) 0),(.int (0) 0),(.int (0) 0),(.int (3) 0),(.ref 675),(.bool true),(.int (181) 0),(.ref 676),.none,.none,.none,(.ref 677),(.int (1089) 0),(.int (332) 0),(.str "/claim/cut.py" 1090)],#[]⟩)::
 (nat_lit 679,FU "ends_of" "ends_of" (top 37) "hushrow.runner" 961 678)::
 (nat_lit 685,CO "run" "run" 1092 334 2 680 1099)::
 (nat_lit 686,FU "run" "run" (top 38) "hushrow.runner" 961 685)::
 (nat_lit 692,CO "unlike_given" "unlike_given" 1104 341 4 687 1112)::
 (nat_lit 693,FU "unlike_given" "unlike_given" (top 40) "hushrow.pairs" 1102 692)::
 (nat_lit 697,⟨(.type "code"),Ua,.fields #[(.str "seen" 1115),(.str "seen" 1116),(.str "/claim/cut.py" 1117),(.int (346) 0),(.int (3) 0),(.int (0) 0),(.int (0) 0),(.int (3) 0),(.ref 694),(.bool true),(.int (181) 0),(.ref 695),.none,.none,.none,(.ref 696),(.int (1118) 0),(.int (346) 0),(.str "/claim/cut.py" 1119)],#[]⟩)::
 (nat_lit 698,FU "seen" "seen" (top 41) "hushrow.pairs" 1102 697)::
 (nat_lit 704,CO "_law_cell_at" "_law_cell_at" 1123 350 2 699 1128)::
 (nat_lit 705,F8T "_law_cell_at" 43 704)::
 (nat_lit 711,CO "_law_mix" "_law_mix" 1131 354 3 706 1138)::
 (nat_lit 712,F8T "_law_mix" 44 711)::
 (nat_lit 718,CO "_law_name" "_law_name" 1141 360 2 713 1152)::
 (nat_lit 719,F8T "_law_name" 45 718)::
 (nat_lit 725,CO "_law_number" "_law_number" 1155 372 1 720 1159)::
 (nat_lit 726,F8T "_law_number" 46 725)::
 (nat_lit 730,⟨(.type "code"),Ua,.fields #[(.str "_law_heads" 1162),(.str "_law_heads" 1163),(.str "/claim/cut.py" 1164),(.int (378) 0),(.int (2) 0),(.int (0) 0),(.int (0) 0),(.int (3) 0),(.ref 727),(.bool true),(.int (181) 0),(.ref 728),.none,.none,.none,(.ref 729),(.int (1165) 0),(.int (378) 0),(.str "/claim/cut.py" 1166)],#[]⟩)::
 (nat_lit 731,F8T "_law_heads" 47 730)::
 (nat_lit 735,⟨(.type "code"),Ua,.fields #[(.str "_law_fit" 1168),(.str "_law_fit" 1169),(.str "/claim/cut.py" 1170),(.int (395) 0),(.int (5) 0),(.int (0) 0),(.int (0) 0),(.int (3) 0),(.ref 732),(.bool true),(.int (181) 0),(.ref 733),.none,.none,.none,(.ref 734),(.int (1171) 0),(.int (395) 0),(.str "/claim/cut.py" 1172)],#[]⟩)::
 (nat_lit 736,F8T "_law_fit" 48 735)::
 (nat_lit 742,CO "_law_thing" "_law_thing" 1174 397 4 737 1183)::
 (nat_lit 743,F8T "_law_thing" 49 742)::
 (nat_lit 749,CO "_law_value" "_law_value" 1186 403 3 744 1196)::
 (nat_lit 750,F8T "_law_value" 50 749)::
 (nat_lit 756,CO "_law_add" "_law_add" 1199 413 3 751 1206)::
 (nat_lit 757,F8T "_law_add" 51 756)::
 (nat_lit 761,⟨(.type "code"),Ua,.fields #[(.str "_law_said" 1209),(.str "_law_said" 1210),(.str "/claim/cut.py" 1211),(.int (420) 0),(.int (3) 0),(.int (0) 0),(.int (0) 0),(.int (3) 0),(.ref 758),(.bool true),(.int (181) 0),(.ref 759),.none,.none,.none,(.ref 760),(.int (1212) 0),(.int (420) 0),(.str "/claim/cut.py" 1213)],#[]⟩)::
 (nat_lit 762,F8T "_law_said" 52 761)::
 (nat_lit 768,CO "_law_plain" "_law_plain" 1215 430 4 763 1228)::
 (nat_lit 769,F8T "_law_plain" 53 768)::
 (nat_lit 773,⟨(.type "code"),Ua,.fields #[(.str "_law_opened" 1231),(.str "_law_opened" 1232),(.str "/claim/cut.py" 1233),(.int (445) 0),(.int (4) 0),(.int (0) 0),(.int (0) 0),(.int (3) 0),(.ref 770),(.bool true),(.int (181) 0),(.ref 771),.none,.none,.none,(.ref 772),(.int (1234) 0),(.int (445) 0),(.str "/claim/cut.py" 1235)],#[]⟩)::
 (nat_lit 774,F8T "_law_opened" 54 773)::
 (nat_lit 780,CO "_law_closed" "_law_closed" 1237 464 1 775 1242)::
 (nat_lit 781,F8T "_law_closed" 55 780)::
 (nat_lit 787,CO "_law_called" "_law_called" 1245 469 3 782 1258)::
 (nat_lit 788,F8T "_law_called" 56 787)::
 (nat_lit 792,⟨(.type "code"),Ua,.fields #[(.str "_law_turned" 1261),(.str "_law_turned" 1262),(.str "/claim/cut.py" 1263),(.int (482) 0),(.int (4) 0),(.int (0) 0),(.int (0) 0),(.int (3) 0),(.ref 789),(.bool true),(.int (181) 0),(.ref 790),.none,.none,.none,(.ref 791),(.int (1264) 0),(.int (482) 0),(.str "/claim/cut.py" 1265)],#[]⟩)::
 (nat_lit 793,F8T "_law_turned" 57 792)::
 (nat_lit 799,CO "_law_body" "_law_body" 1267 494 4 794 1277)::
 (nat_lit 800,F8T "_law_body" 58 799)::
 (nat_lit 806,CO "_law_drawn" "_law_drawn" 1280 512 3 801 1296)::
 (nat_lit 807,F8T "_law_drawn" 59 806)::
 (nat_lit 813,CO "_law_plain_row" "_law_plain_row" 1299 538 2 808 1305)::
 (nat_lit 814,F8T "_law_plain_row" 60 813)::
 (nat_lit 820,CO "_law_nested_row" "_law_nested_row" 1308 559 1 815 1314)::
 (nat_lit 821,F8T "_law_nested_row" 61 820)::
 (nat_lit 827,CO "_law_tree" "_law_tree" 1317 567 1 822 1328)::
 (nat_lit 828,F8T "_law_tree" 62 827)::
 (nat_lit 834,CO "_law_gift" "_law_gift" 1331 591 3 829 1340)::
 (nat_lit 835,F8T "_law_gift" 63 834)::
 (nat_lit 841,CO "_law_gifts" "_law_gifts" 1343 599 4 836 1353)::
 (nat_lit 842,F8T "_law_gifts" 64 841)::
 (nat_lit 848,CO "_law_due" "_law_due" 1356 609 4 843 1364)::
 (nat_lit 849,F8T "_law_due" 65 848)::
 (nat_lit 855,CO "_law_turned_list" "_law_turned_list" 1367 614 3 850 1376)::
 (nat_lit 856,F8T "_law_turned_list" 66 855)::
 (nat_lit 862,CO "_law_copied" "_law_copied" 1379 621 2 857 1386)::
 (nat_lit 863,F8T "_law_copied" 67 862)::
 (nat_lit 867,⟨(.type "code"),Ua,.fields #[(.str "law" 1389),(.str "law" 1390),(.str "/claim/cut.py" 1391),(.int (628) 0),(.int (1) 0),(.int (0) 0),(.int (0) 0),(.int (3) 0),(.ref 864),(.bool true),(.int (181) 0),(.ref 865),.none,.none,.none,(.ref 866),(.int (1392) 0),(.int (628) 0),(.str "/claim/cut.py" 1393)],#[]⟩)::
 (nat_lit 868,F8T "law" 68 867)::[]
noncomputable def qd:List NL:=[2,3,30,31,32,50,51,66,67,83,84,85,86,101,102,111,112,127,128,137,138,153,154,163,164,179,180,189,190,205,206,229,230,245,246,269,270,285,286,302,303,318,319,342,343,358,359,375,376,394,395,410,411,427,428,443,444,460,461,476,477,486,487,502,503,505,506,507,508,516,517,530,531,533,534,535,536,544,545,549,550,556,557,563,564,570,571,577,578,584,585,598,599,605,606,612,613,619,620,626,627,633,634,640,641,647,648,652,653,659,660,666,667,669,670,671,672,678,679,685,686,692,693,697,698,704,705,711,712,718,719,725,726,730,731,735,736,742,743,749,750,756,757,761,762,768,769,773,774,780,781,787,788,792,793,799,800,806,807,813,814,820,821,827,828,834,835,841,842,848,849,855,856,862,863,867,868]
theorem ky(P:O8):qd=(heapK P).map (·.1):=by kernel_rfl
noncomputable abbrev prog:Program:=PySem.Challenge.pw_hushrow_k60_letters_seen
noncomputable abbrev law:SH:=PySem.Challenge.rw_hushrow_k60_letters_seen
noncomputable def ju:Program:={ prog with main:={ prog.main with body:=[top 0,top 2,top 3,top 5,top 6,top 7,top 8,top 9,top 10,top 11,top 12,top 13,top 14,top 15,top 16,top 17,top 18,top 19,top 21,top 23,top 25,top 26,top 27,top 28,top 29,top 30,top 32,top 33,top 34,top 36,top 37,top 38,top 40,top 41,top 43,top 44,top 45,top 46,top 47,top 48,top 49,top 50,top 51,top 52,top 53,top 54,top 55,top 56,top 57,top 58,top 59,top 60,top 61,top 62,top 63,top 64,top 65,top 66,top 67,top 68] } }
noncomputable abbrev hook:W.Hook:=Sb heapK qd ky
noncomputable abbrev test:NM->Bool:=λs=>xlAt ju [] s&&recOk (RowW.records law.row.toRowW) s
noncomputable abbrev Iy:NM->List (Option Obj):=λs=>qd.map s.heap.get?
noncomputable abbrev Kq:NW->List (Option Obj):=λw=>(heapK w.params).map λp=>T9 p.2
noncomputable def T₀(P:O8):BT:=Hd.treeOf (QD P).objs.toList 0 .nil
noncomputable def lookL(w:NW)(os:O3):=(Hd.nC OC prog w 11 (T9 (.ref 6)) 14044 ⟨T₀ w.params,11,{},MZ [],Ql,QE,os⟩ (Pl prog)).map λs=>Hd.BJ prog (QD w.params) s.abs
noncomputable def uH(w:NW)(os:O3):=T9 true
noncomputable def lookO(w:NW)(os:O3):=(Hd.nC OC prog w 11 (T9 (.ref 6)) 14044 ⟨T₀ w.params,11,{},MZ [],Ql,QE,os⟩ (Pl prog)).map λs=>Hd.Eb (P5 ju [] (Oq prog.main.body) test true s.abs)
noncomputable def lookQ(w:NW)(os:O3):=T9 (Hd.Eb (Sa ju []))
noncomputable def lookW(w:NW)(os:O3):=(Hd.nC OC prog w 11 (T9 (.ref 6)) 14044 ⟨T₀ w.params,11,{},MZ [],Ql,QE,os⟩ (Pl prog)).map λs=>(P5 ju [] (Oq prog.main.body) test true s.abs).2.2.1
noncomputable def lookX(w:NW)(os:O3):=(Hd.nC OC prog w 11 (T9 (.ref 6)) 14044 ⟨T₀ w.params,11,{},MZ [],Ql,QE,os⟩ (Pl prog)).map λs=>(P5 ju [] (Oq prog.main.body) test true s.abs).2.2.2.1
noncomputable def lookU(w:NW)(os:O3):=(Hd.nC OC prog w 11 (T9 (.ref 6)) 14044 ⟨T₀ w.params,11,{},MZ [],Ql,QE,os⟩ (Pl prog)).map λs=>(P5 ju [] (Oq prog.main.body) test true s.abs).2.2.2.2
noncomputable def lookV(w:NW)(os:O3):=T9 (Sa ju []).2.2.2.2
noncomputable def lookM(w:NW)(os:O3):=(Hd.nC OC prog w 11 (T9 (.ref 6)) 14044 ⟨T₀ w.params,11,{},MZ [],Ql,QE,os⟩ (Pl prog)).map λs=>Iy s.abs
noncomputable def lookS(w:NW)(os:O3):=T9 (Kq w)
theorem lookL_self:lookL=lookL:=rfl
theorem lookO_self:lookO=lookO:=rfl
theorem lookQ_self:lookQ=lookQ:=rfl
theorem lookW_self:lookW=lookW:=rfl
theorem lookX_self:lookX=lookX:=rfl
theorem lookU_self:lookU=lookU:=rfl
theorem lookV_self:lookV=lookV:=rfl
theorem lookM_self:lookM=lookM:=rfl
theorem lookS_self:lookS=lookS:=rfl
end K60
noncomputable def PySem.W.Fast.tw14598715356260435866:PySem.Params->PySem.Obj:=SI
theorem PySem.W.Fast.te14598715356260435866:SI=PySem.W.Fast.tw14598715356260435866:=rfl
noncomputable def PySem.W.Fast.tw16926785705863973328:PySem.Program:=PySem.Challenge.pw_hushrow_k60_letters_seen
theorem PySem.W.Fast.te16926785705863973328:PySem.Challenge.pw_hushrow_k60_letters_seen=PySem.W.Fast.tw16926785705863973328:=rfl
noncomputable def PySem.W.Fast.tw6007635227708285603:PySem.Params->Qe:=K60.heapK
theorem PySem.W.Fast.te6007635227708285603:K60.heapK=PySem.W.Fast.tw6007635227708285603:=rfl
lay_quick K60.lookL K60.lookO K60.lookQ K60.lookW K60.lookX K60.lookU K60.lookV K60.lookM K60.lookS
name_quick K60lookL for K60.lookL by K60.lookL_self
name_quick K60lookO for K60.lookO by K60.lookO_self
name_quick K60lookQ for K60.lookQ by K60.lookQ_self
name_quick K60lookW for K60.lookW by K60.lookW_self
name_quick K60lookX for K60.lookX by K60.lookX_self
name_quick K60lookU for K60.lookU by K60.lookU_self
name_quick K60lookV for K60.lookV by K60.lookV_self
name_quick K60lookM for K60.lookM by K60.lookM_self
name_quick K60lookS for K60.lookS by K60.lookS_self
namespace K60
open PySem L2 PySem.W
theorem wH:W.Fast.K60lookL=uH:=by kernel_rfl
theorem vR:W.Fast.K60lookM=W.Fast.K60lookS:=by kernel_rfl
theorem vT:W.Fast.K60lookO=W.Fast.K60lookQ:=by kernel_rfl
theorem uT:W.Fast.K60lookW=uH:=by kernel_rfl
theorem wg:lookW=uH:=W.Fast.K60lookW_eq.trans uT
theorem vW:W.Fast.K60lookX=uH:=by kernel_rfl
theorem xg:lookX=uH:=W.Fast.K60lookX_eq.trans vW
theorem vG:W.Fast.K60lookU=W.Fast.K60lookV:=by kernel_rfl
theorem xU:lookU=lookV:=W.Fast.K60lookU_eq.trans (vG.trans W.Fast.K60lookV_eq.symm)
theorem xC:lookO=lookQ:=W.Fast.K60lookO_eq.trans (vT.trans W.Fast.K60lookQ_eq.symm)
theorem yn:lookL=uH:=W.Fast.K60lookL_eq.trans wH
theorem wx:lookM=lookS:=W.Fast.K60lookM_eq.trans (vR.trans W.Fast.K60lookS_eq.symm)
theorem DK(P:O8):absHeap (T₀ P) 11 {}=QD P:=by kernel_rfl
theorem DX(w:NW):((QD w.params).isNs Of&&(MZ []:Array R9).size==0,(QD w.params).objs.size,(QD w.params).nsMap Of "__annotations__")=(true,11,T9 (.ref 6)):=by kernel_rfl
theorem left:LeftO prog ju [] test hook.obs hook.val 14044:=Hd.Bo (boot_open (p:=prog) (N:=14044) (by kernel_rfl) rfl (λ_=>rfl)) DX DK (λw os=>congrFun (congrFun yn w) os) (λw os=>congrFun (congrFun xC w) os) (λw os=>congrFun (congrFun wg w) os) (λw os=>congrFun (congrFun xg w) os) (λw os=>congrFun (congrFun xU w) os) (λw os=>congrFun (congrFun wx w) os)
end K60
namespace L2
open PySem PySem.Spec PyProof.Rows
noncomputable abbrev Key:=Sum Int Str
noncomputable def tH:Key->NK->Bool
 | .inl k,v=>S1 k v
 | .inr x,v=>RE x v
noncomputable def Ka(w:NW):Key->Int
 | .inl k=>hashInt k
 | .inr x=>hashStr w x
theorem cZ:∀{k:Key}{v:NK},tH k v=true->(∃i t,k=Na i/\v=Qh i t)\/(∃x t,k=LC x/\v=Rq x t)
 | .inl i,v,h=>by
  obtain⟨t,e⟩:=Sd (k:=i) (v:=v) h;exact .inl ⟨i,t,rfl,e⟩
 | .inr x,v,h=>by
  obtain⟨t,e⟩:=Rz (x:=x) (v:=v) h;exact .inr ⟨x,t,rfl,e⟩
theorem AF(i:Int)(t:Tok):tH (.inl i) (.int i t)=true:=by simp[tH,S1]
theorem AK(x:Str)(t:Tok):tH (.inr x) (.str x t)=true:=by simp[tH,RE]
theorem Fq(a b:Int):decide ((Na a:Key)=Na b)=(a==b):=by
 by_cases e:a=b
 ·subst e;simp
 have h:¬ (Na a:Key)=Na b:=λq=>e (Na.inj q);rw[decide_eq_false h];exact(beq_eq_false_iff_ne.mpr e).symm
theorem Gm(a b:Str):decide ((LC a:Key)=LC b)=decide (a=b):=by
 by_cases e:a=b
 ·subst e;simp
 have h:¬ (LC a:Key)=LC b:=λq=>e (LC.inj q);rw[decide_eq_false h,decide_eq_false e]
theorem Gw(a:Int)(b:Str):decide ((Na a:Key)=LC b)=false:=decide_eq_false (λq=>nomatch q)
theorem FW(a:Str)(b:Int):decide ((LC a:Key)=Na b)=false:=decide_eq_false (λq=>nomatch q)
noncomputable def cy(prog:Program)(w:NW):PySem.KeyKind prog w Key where
 is:=tH
 hash:=Ka w
 inj:=λv a b ha hb=>by
  rcases cZ ha with⟨i,t,rfl,rfl⟩|⟨x,t,rfl,rfl⟩
  ·rcases cZ hb with⟨j,u,rfl,e⟩|⟨y,u,rfl,e⟩
   ·injection e with e1 _;rw[e1]
   exact nomatch e
  rcases cZ hb with⟨j,u,rfl,e⟩|⟨y,u,rfl,e⟩
  ·exact nomatch e
  injection e with e1 _;rw[e1]
 byValue:=λk v h=>by
  rcases cZ h with⟨i,t,rfl,rfl⟩|⟨x,t,rfl,rfl⟩<;>rfl
 pyHash:=λhv h=>by
  rcases cZ hv with⟨i,t,rfl,rfl⟩|⟨x,t,rfl,rfl⟩
  ·exact wpAny_pyHash_int h
  exact wpAny_pyHash_str h
 eqBool:=λhu hv h=>by
  rcases cZ hu with⟨i,t,rfl,rfl⟩|⟨x,t,rfl,rfl⟩
  ·rcases cZ hv with⟨j,u,rfl,rfl⟩|⟨y,u,rfl,rfl⟩
   ·rw[Fq]at h;exact wpAny_eqBool_int h
   rw[Gw]at h;exact RJ i t y u _ _ _ _ h
  rcases cZ hv with⟨j,u,rfl,rfl⟩|⟨y,u,rfl,rfl⟩
  ·rw[FW]at h;exact RK x t j u _ _ _ _ h
  rw[Gm]at h;exact wpAny_eqBool_str h
 «strs»:=λk x t v h=>by
  rcases cZ h with⟨i,u,rfl,e⟩|⟨y,u,rfl,e⟩
  ·exact nomatch e
  injection e with e1 _;subst e1;cases v<;>rfl
theorem wG(prog:Program)(w:NW)(i:Int)(t:Tok):(cy prog w).is (.inl i) (.int i t)=true:=AF i t
theorem xM(prog:Program)(w:NW)(x:Str)(t:Tok):(cy prog w).is (.inr x) (.str x t)=true:=AK x t
inductive V where
 |non|bl (b:Bool)|int (i:Int)|str (x:Str)|byt (b:Array UInt8)|flt (b:UInt64)|ref (a:NL)|ty (n:String)
 deriving DecidableEq
noncomputable def Ui:V->NK->Prop
 | .non,u=>u=RL
 | .bl b,u=>u=QM b
 | .int i,u=>∃t,u=Qh i t
 | .str x,u=>∃t,u=Rq x t
 | .byt b,u=>∃t,u=Value.bytes b t
 | .flt b,u=>∃t,u=S2 b t
 | .ref a,u=>u=NZ a
 | .ty n,u=>u=PV n
noncomputable abbrev Ug:List V->List NK->Prop:=Paired Ui
theorem Ug.length{xs:List V}{us:List NK}(r:Ug xs us):xs.length=us.length:=NV r
theorem Ug.get:∀{xs:List V}{us:List NK}{i:Nat}{x:V},Ug xs us->xs[i]?=T9 x->∃u,us[i]?=T9 u/\Ui x u
 |_,_,_,_,.nil,e=>by simp at e
 |_,_,0,_,.cons r _,e=>by simp at e;subst e;exact⟨_,rfl,r⟩
 |_,_,i+1,x,.cons _ t,e=>by
  obtain⟨u,h1,h2⟩:=Ug.get (i:=i) (x:=x) t (by simpa using e);exact⟨u,by simpa using h1,h2⟩
theorem Ug.set{x:V}{u:NK}(r:Ui x u):∀{xs:List V}{us:List NK}(i:Nat),Ug xs us->Ug (xs.set i x) (us.set i u)
 |_,_,_,.nil=>.nil
 |_,_,0,.cons _ t=>.cons r t
 |_,_,i+1,.cons q t=>.cons q (Ug.set r i t)
theorem Ug.append:∀{xs ys:List V}{us ws:List NK},Ug xs us->Ug ys ws->Ug (xs++ys) (us++ws)
 |_,_,_,_,.nil,s=>s
 |_,_,_,_,.cons r t,s=>.cons r (Ug.append t s)
theorem Ug.take:∀{xs:List V}{us:List NK}(n:Nat),Ug xs us->Ug (xs.take n) (us.take n)
 |_,_,0,_=>.nil
 |_,_,_+1,.nil=>.nil
 |_,_,n+1,.cons r t=>.cons r (Ug.take n t)
theorem Ug.drop:∀{xs:List V}{us:List NK}(n:Nat),Ug xs us->Ug (xs.drop n) (us.drop n)
 |_,_,0,r=>r
 |_,_,_+1,.nil=>.nil
 |_,_,n+1,.cons _ t=>Ug.drop n t
noncomputable def lK:Option V->Option NK->Prop
 |some v,T9 u=>Ui v u
 |none,Ua=>True
 |_,_=>False
noncomputable def KV{κ:Type}:List (κ×V)->List (κ×NK)->Prop:=Paired λ(p:κ×V)(q:κ×NK)=>p.1=q.1/\Ui p.2 q.2
noncomputable def kV:Key->V
 | .inl i=>.int i
 | .inr x=>.str x
inductive HO where
 |lst (xs:List V)
 |tup (xs:List V)
 |dK (kvs:List (Key×V))|dT (kvs:List (List Key×V))
 |set (S:Int->Bool) (n:Nat)
 |ins (C dx:NL) (fs:List (Str×V))
 |own (x:NL)
 |xd (fs:List (Str×V))
 |met (f x:NL)
 |rng (lo hi:Int)
 |frz (o:Obj) (u:HO)
 |tbl (ps:Array NK)
 |ext (φ:Oi->Prop)
noncomputable abbrev Hp:=NL->Option HO
noncomputable def upd(H:Hp)(a:NL)(o:HO):Hp:=λb=>if b=a then T9 o else H b
theorem aj{H:Hp}{a:NL}{o:HO}:upd H a o a=T9 o:=by unfold upd;rw[if_pos rfl]
theorem ay{H:Hp}{a b:NL}{o:HO}(h:b≠a):upd H a o b=H b:=by unfold upd;rw[if_neg h]
theorem mT{H:Hp}{a:NL}{o u:HO}:upd (upd H a o) a u=upd H a u:=by
 funext b;unfold upd;split<;>rfl
theorem Ju{H:Hp}{a b:NL}{o u:HO}(h:H a=T9 o)(h':H b=T9 u)(d:o≠u):a≠b:=by
 intro e;subst e;rw[h]at h';exact d (NP h')
theorem eR{H:Hp}{a b:NL}{o:HO}(h:H a=T9 o)(h':H b=Ua):a≠b:=by
 intro e;subst e;rw[h]at h';cases h'
section
variable(P:Program)(w:NW)
noncomputable def dB(H:Hp)(h:Oi)(a:NL):HO->Prop
 | .lst xs=>xs.length<=sizeLine/\∃(its:List NK)(n:Nat),Ug xs its/\h.get? a=T9 { cls:=.type "list",data:=.seq its.toArray n }
 | .tup xs=>xs.length<=sizeLine/\∃its:List NK,Ug xs its/\IsTup h a its.toArray
 | .dK kvs=>kvs.length<=sizeLine/\(a==OB)=false/\∃vs,KV kvs vs/\h.DictOf (cy P w) a vs
 | .dT kvs=>kvs.length<=sizeLine/\(a==OB)=false/\∃xs:List (List Key×NL×NK),
   Paired (λ(p:List Key×V)(q:List Key×NL×NK)=>p.1=q.1/\H q.2.1=T9 (.tup (p.1.map kV))/\Ui p.2 q.2.2) kvs xs/\
   ∃o es ep,h.get? a=T9 o/\o.ExactDict/\o.data=.dict es ep/\es.toList=xs.map (entryOfKey (QF (cy P w)))/\(xs.map (·.1)).Nodup
 | .set S n=>h.SetOf (intKind P w) a S n
 | .ins C dx fs=>H dx=T9 (.own a)/\fs.length<=1000/\dx≠a/\h.get? a=T9 (PX C dx)/\
   ∃mA,h.Ns1 dx mA/\(∀f,lK (fs.lookup f) (mA f))/\Se mA (fs.map (·.1))
 | .own _=>∃o,h.get? a=T9 o
 | .xd fs=>∃mA,h.Ns1 a mA/\∀f,lK (fs.lookup f) (mA f)
 | .rng lo hi=>∃t u v,h.get? a=T9 { cls:=.type "range",data:=.fields #[.int lo t,.int hi u,.int 1 v] }
 | .frz o u=>h.get? a=T9 o/\dB H h a u
 | .tbl ps=>h.get? a=T9 { cls:=.none,data:=.fields ps }
 | .met f x=>h.get? a=T9 (S3 (.ref f) (.ref x))
 | .ext φ=>φ h/\(∃o,h.get? a=T9 o)/\∀h1 h2:Oi,φ h1->(∀o,h1.get? a=T9 o->h2.get? a=T9 o)->φ h2
noncomputable def HOk(H:Hp)(h:Oi):Prop:=∀a o,H a=T9 o->dB P w H h a o
end
section
variable{P:Program}{w:NW}{H H':Hp}{h h':Oi}{a:NL}{o:HO}
theorem dB.lt(x:dB P w H h a o):a<h.objs.size:=by
 cases o with
 |lst xs=>obtain⟨_,_,_,_,e⟩:=x;exact NY e
 |tup xs=>obtain⟨_,_,_,p⟩:=x;exact p.lt
 |dK kvs=>obtain⟨_,_,_,_,o,_,_,e,_⟩:=x;exact NY e
 |dT kvs=>obtain⟨_,_,_,_,o,_,_,e,_⟩:=x;exact NY e
 |set S n=>obtain⟨o,_,_,_,e,_⟩:=x;exact NY e
 |ins C dx fs=>obtain⟨_,_,_,e,_⟩:=x;exact NY e
 |own y=>obtain⟨_,e⟩:=x;exact NY e
 |xd fs=>obtain⟨_,⟨_,_,_,e,_⟩,_⟩:=x;exact NY e
 |rng lo hi=>obtain⟨_,_,_,e⟩:=x;exact NY e
 |frz ob u=>obtain⟨e,_⟩:=x;exact NY e
 |tbl ps=>exact NY (show h.get? a=T9 _ from x)
 |met f y=>exact NY (show h.get? a=T9 _ from x)
 |ext φ=>obtain⟨_,⟨_,e⟩,_⟩:=x;exact NY e
theorem Paired.cS{α β:Type}{F G:α->β->Prop}:∀{l₁:List α}{l₂:List β},Paired F l₁ l₂->(∀a b,F a b->G a b)->Paired G l₁ l₂
 |_,_,.nil,_=>.nil
 |_,_,.cons r t,f=>.cons (f _ _ r) (Paired.cS t f)
theorem dB.yI(x:dB P w H h a o)(k:∀b u,(b=a\/H b=T9 (.own a))->h.get? b=T9 u->h'.get? b=T9 u)
  (ho:∀b,H b=T9 (.own a)->H' b=T9 (.own a)) (ht:∀b xs,H b=T9 (.tup xs)->H' b=T9 (.tup xs)):dB P w H' h' a o:=by
 induction o with
 |lst xs=>obtain⟨z,its,n,r,e⟩:=x;exact⟨z,its,n,r,k _ _ (.inl rfl) e⟩
 |tup xs=>obtain⟨z,its,r,ob,e,c⟩:=x;exact⟨z,its,r,ob,k _ _ (.inl rfl) e,c⟩
 |dK kvs=>obtain⟨z,y,vs,r,ob,es,ep,e,c⟩:=x;exact⟨z,y,vs,r,ob,es,ep,k _ _ (.inl rfl) e,c⟩
 |dT kvs=>
  obtain⟨z,y,xs,r,ob,es,ep,e,c⟩:=x
  exact⟨z,y,xs,Paired.cS r λp q z=>⟨z.1,ht _ _ z.2.1,z.2.2⟩,ob,es,ep,k _ _ (.inl rfl) e,c⟩
 |set S n=>obtain⟨ob,es,ep,t,e,c⟩:=x;exact⟨ob,es,ep,t,k _ _ (.inl rfl) e,c⟩
 |ins C dx fs=>
  obtain⟨d,z,ne,e,mA,⟨od,es,ep,e2,c⟩,r⟩:=x
  exact⟨ho _ d,z,ne,k _ _ (.inl rfl) e,mA,⟨od,es,ep,k _ _ (.inr d) e2,c⟩,r⟩
 |own y=>obtain⟨ob,e⟩:=x;exact⟨ob,k _ _ (.inl rfl) e⟩
 |xd fs=>obtain⟨mA,⟨od,es,ep,e,c⟩,r⟩:=x;exact⟨mA,⟨od,es,ep,k _ _ (.inl rfl) e,c⟩,r⟩
 |rng lo hi=>obtain⟨t,u,v,e⟩:=x;exact⟨t,u,v,k _ _ (.inl rfl) e⟩
 |frz ob u ih=>obtain⟨e,q⟩:=x;exact⟨k _ _ (.inl rfl) e,ih q⟩
 |tbl ps=>
  have e:h.get? a=T9 { cls:=.none,data:=.fields ps }:=x
  show h'.get? a=T9 { cls:=.none,data:=.fields ps }
  exact k a _ (.inl rfl) e
 |met f y=>
  have e:h.get? a=T9 (S3 (.ref f) (.ref y)):=x
  show h'.get? a=T9 (S3 (.ref f) (.ref y))
  exact k a _ (.inl rfl) e
 |ext φ=>obtain⟨p,⟨o,e⟩,st⟩:=x;exact⟨st _ _ p λo q=>k _ _ (.inl rfl) q,⟨o,k _ _ (.inl rfl) e⟩,st⟩
theorem HOk.lt(x:HOk P w H h)(e:H a=T9 o):a<h.objs.size:=(x a o e).lt
theorem HOk.fresh(x:HOk P w H h)(e:h.objs.size<=a):H a=Ua:=by
 cases q:H a with
 |none=>rfl
 |some u=>exact absurd (KY (x.lt q) e) (LQ _)
theorem HOk.kept(x:HOk P w H h)(k:∀b u,h.get? b=T9 u->h'.get? b=T9 u):HOk P w H h':=λa o e=>
 (x a o e).yI (λb u _ q=>k b u q) (λ_ q=>q) λ_ _ q=>q
theorem HOk.laid(x:HOk P w H h)(k:∀b u,h.get? b=T9 u->h'.get? b=T9 u)(hp:h.objs.size<=a)(new:dB P w (upd H a o) h' a o):HOk P w (upd H a o) h':=λb u e=>by
 have hn:=x.fresh hp;by_cases hb:b=a
 ·subst hb;rw[aj]at e;cases e;exact new
 rw[ay hb]at e;exact(x b u e).yI (λc v _ q=>k c v q) (λc q=>by rw[ay (eR q hn)];exact q) λc xs q=>by rw[ay (eR q hn)];exact q
end
noncomputable def Rd(H:Hp)(a:NL)(u:HO):Prop:=H a=T9 u\/∃o,H a=T9 (.frz o u)
theorem Rd.ok{P:Program}{w:NW}{H:Hp}{h:Oi}{a:NL}{u:HO}(r:Rd H a u)(x:HOk P w H h):dB P w H h a u:=by
 rcases r with r|⟨o,r⟩
 ·exact x a u r
 obtain⟨_,q⟩:=x a _ r;exact q
noncomputable def Mut:Option HO->Prop
 |some (.lst _)=>True
 |some (.dK _)=>True
 |some (.dT _)=>True
 |some (.set _ _)=>True
 |some (.ins _ _ _)=>True
 |some (.ext _)=>True
 |_=>False
section
variable{P:Program}{w:NW}{H:Hp}{h h':Oi}{x e:NL}{o':HO}
theorem HOk.write(ok:HOk P w H h)(mu:Mut (H x))(he:e=x\/H e=T9 (.own x))(k:∀b u,b≠e->h.get? b=T9 u->h'.get? b=T9 u)(heo:∃u,h'.get? e=T9 u)
  (new:dB P w (upd H x o') h' x o'):HOk P w (upd H x o') h':=λb u q=>by
 have nown:∀c y,H c=T9 (.own y)->c≠x:=λc y r z=>by subst z;rw[r]at mu;exact mu
 have ntup:∀c xs,H c=T9 (.tup xs)->c≠x:=λc xs r z=>by subst z;rw[r]at mu;exact mu
 by_cases hb:b=x
 ·subst hb;rw[aj]at q;cases q;exact new
 rw[ay hb]at q
 by_cases hbe:b=e
 ·have q':H b=T9 (.own x):=by
   rcases he with z|z
   ·exact absurd (hbe.trans z) hb
   rw[hbe];exact z
  rw[q]at q';cases q';obtain⟨v,hv⟩:=heo;exact⟨v,by rw[hbe];exact hv⟩
 refine(ok b u q).yI (λc v hc r=>k c v ?_ r) (λc r=>by rw[ay (nown c b r)];exact r) λc xs r=>by rw[ay (ntup c xs r)];exact r
 rcases hc with rfl|hc
 ·exact hbe
 rintro rfl
 rcases he with z|z
 ·exact nown c b hc z
 rw[hc]at z;cases z;exact hb rfl
end
structure Un(fs ex:List NL)(H H':Hp)(h h':Oi):Prop where
 keep:∀b o,h.get? b=T9 o->H b=Ua->b∉fs->b∉ex->h'.get? b=T9 o
 slot:∀b o,h.get? b=T9 o->H b=Ua->b∈fs->b∉ex->∃sl,h'.get? b=T9 { o with slots:=sl }
 free:∀b o,h.get? b=T9 o->H b=Ua->b∉ex->H' b=Ua
 there:∀b o,h.get? b=T9 o->b∉ex->∃o',h'.get? b=T9 o'
 vq:∀b xs,H b=T9 (.tup xs)->H' b=T9 (.tup xs)
 sN:∀b o u,H b=T9 (.frz o u)->H' b=T9 (.frz o u)
 uP:∀b ps,H b=T9 (.tbl ps)->∃more,H' b=T9 (.tbl (ps++more))
section
variable{fs fs' ex ex':List NL}{H H1 H2:Hp}{h h1 h2 h':Oi}{a x e:NL}{o:HO}
theorem Un.any(u:Un fs ex H H1 h h1){b:NL}{ob:Obj}(q:h.get? b=T9 ob)(n:H b=Ua)(hx:b∉ex):∃sl,h1.get? b=T9 { ob with slots:=sl }:=by
 by_cases hb:b∈fs
 ·exact u.slot b ob q n hb hx
 exact⟨ob.slots,u.keep b ob q n hb hx⟩
theorem Un.kept(k:∀b u,h.get? b=T9 u->h'.get? b=T9 u):Un fs ex H H h h':=
 ⟨λb ob q _ _ _=>k b ob q,λb ob q _ _ _=>⟨ob.slots,k b ob q⟩,λ_ _ _ n _=>n,λb ob q _=>⟨ob,k b ob q⟩,λ_ _ q=>q,λ_ _ _ q=>q,λ_ ps q=>⟨#[],by rw[q];simp⟩⟩
theorem Un.refl:Un fs ex H H h h:=Un.kept λ_ _ q=>q
theorem Un.laid(k:∀b u,h.get? b=T9 u->h'.get? b=T9 u)(hp:h.objs.size<=a)(hn:H a=Ua):Un fs ex H (upd H a o) h h' where
 keep:=λb u q _ _ _=>k b u q
 slot:=λb u q _ _ _=>⟨u.slots,k b u q⟩
 free:=λb u q n _=>by rw[ay (Ll (KY (NY q) hp))];exact n
 there:=λb u q _=>⟨u,k b u q⟩
 vq:=λb xs q=>by rw[ay (eR q hn)];exact q
 sN:=λb u xs q=>by rw[ay (eR q hn)];exact q
 uP:=λb ps q=>⟨#[],by rw[ay (eR q hn),q];simp⟩
theorem Un.write(mu:Mut (H x))(he:e=x\/H e=T9 (.own x))(k:∀b u,b≠e->h.get? b=T9 u->h'.get? b=T9 u)(heo:∃u,h'.get? e=T9 u):Un fs ex H (upd H x o) h h':=by
 have hx:∀b,H b=Ua->b≠x:=λb n z=>by subst z;rw[n]at mu;exact mu
 have hb:∀b,H b=Ua->b≠e:=λb n z=>by
  subst z;rcases he with r|r
  ·exact hx b n r
  rw[n]at r;cases r
 have hm:∀b u,H b=T9 u->¬ Mut (T9 u)->b≠x:=λb u q nm z=>by subst z;rw[q]at mu;exact nm mu
 refine⟨λb u q n _ _=>k b u (hb b n) q,λb u q n _ _=>⟨u.slots,k b u (hb b n) q⟩,λb u q n _=>by rw[ay (hx b n)];exact n,λb u q _=>?_,
  λb xs q=>by rw[ay (hm b _ q λz=>z)];exact q,λb u xs q=>by rw[ay (hm b _ q λz=>z)];exact q,λb ps q=>⟨#[],by rw[ay (hm b _ q λz=>z),q];simp⟩⟩
 by_cases hbe:b=e
 ·subst hbe;exact heo
 exact⟨u,k b u hbe q⟩
end
noncomputable def trk(h:Oi)(H:Hp):List NL:=(Od h.objs.size).filter λa=>(H a).isSome
noncomputable def vO(h:Oi)(H:Hp):Oi:=W.hideAll h (trk h H)
theorem AV(h:Oi)(H:Hp):(vO h H).objs.size=h.objs.size:=W.hideAll_size _ _
theorem CP{h:Oi}{H:Hp}{b:NL}{o:Obj}(e:h.get? b=T9 o)(n:H b=Ua):(vO h H).get? b=T9 o:=
 W.hideAll_get _ e λhm=>by
  have q:(H b).isSome=true:=(LJ.mp hm).2;rw[n]at q;simp at q
theorem EE{h:Oi}{H:Hp}{b:NL}{o:Obj}(e:(vO h H).get? b=T9 o):h.get? b=T9 o/\H b=Ua:=by
 have e':h.get? b=T9 o:=W.of_hideAll (trk h H) e;refine⟨e',?_⟩;cases q:H b with
 |none=>rfl
 |some x=>
  have hm:b∈trk h H:=LJ.mpr ⟨Lu.mpr (NY e'),by simp[q]⟩;have z:(vO h H).get? b=Ua:=W.hideAll_none (trk h H) hm;rw[z]at e;cases e
structure Mod(K:NO)(mg:Str->Option NK)(base:Oi):Prop where
 kin:K.In base
 glob:base.Ns Of mg
 blt:∃mb,base.Ns QN mb/\∀x:Str,x≠"__name__"->mb x=OZ x
 nolimit:base.NoLimit
structure Cx where
 prog:Program
 w:NW
 K:NO
 mg:Str->Option NK
 base:Oi
 A:Oh
 N:List Str
 s₀:NM
 H₀:Hp
 env:Env
 outer:List Env
 stack:List Env
 ex:List NL
 fn:Str->Bool
 calm:Bool
 pn:List (NL×Obj)
 xe:NK->NM->Prop
noncomputable def frs(l:List Env):List NL:=l.filterMap (·.frame)
noncomputable abbrev Cx.fs(X:Cx):List NL:=frs X.outer
noncomputable def Vis(sc:Pz)(x:Str):Prop:=sc.names.lookup x=T9 .local\/sc.names.lookup x=T9 .cell\/sc.names.lookup x=T9 .free
noncomputable def Loc(sc:Pz)(x:Str):Prop:=sc.names.lookup x=T9 .local\/sc.names.lookup x=T9 .cell
noncomputable def UG(env:Env)(h:Oi)(m:Str->Option NK)(x:Str)(u:NK):Prop:=
 (env.kindOf x=T9 .local/\m x=T9 u)\/((env.kindOf x=T9 .cell\/env.kindOf x=T9 .free)/\∃c,env.cells.lookup x=T9 c/\h.IsCell c (T9 u))
structure Cx.Ok(X:Cx):Prop where
 mod:Mod X.K X.mg X.base
 kind:X.env.scope.kind=.function
 glob:X.env.globals=Of
 blt:X.env.builtins=QN
 above:X.s₀.heap.objs.size<=X.env.locals
 inj:∀x y c,X.env.cells.lookup x=T9 c->X.env.cells.lookup y=T9 c->x=y
 has:∀x,(X.env.kindOf x=T9 .cell\/X.env.kindOf x=T9 .free)->∃c,X.env.cells.lookup x=T9 c
 cab:∀x c,X.fn x=true->X.env.cells.lookup x=T9 c->X.s₀.heap.objs.size<=c
 hd:X.calm=true->X.A.handled=Ua
 frames:X.A.frames=T9 X.stack
 stk:X.stack=X.outer\/(X.stack=X.env::X.outer/\X.env.frame=T9 X.env.locals)
 exf:∀b∈X.ex,b≠X.env.locals/\∀x c,X.env.cells.lookup x=T9 c->c≠b
 bs:∀b o,X.base.get? b=T9 o->X.s₀.heap.get? b=T9 o/\X.H₀ b=Ua
 bsz:X.base.objs.size<=X.s₀.heap.objs.size
 BI:∀b o,X.base.get? b=T9 o->b∉X.ex
 Cg:∀b∈X.ex,b∉X.fs
 qt:X.s₀.heap.FunFrames X.base X.outer
 frf:∀b∈X.fs,X.H₀ b=Ua
structure Inv(X:Cx)(pins:List (NL×Obj))(σ:List (Option V))(H:Hp)(s:NM):Prop where
 ok:X.Ok
 os:s.os=X.s₀.os
 bare:Qw s.gens
 base:Un X.fs X.ex X.H₀ H X.s₀.heap s.heap
 loc:∃m,s.heap.Ns X.env.locals m/\∀(i:Nat)(x:Str)(v:V),X.N[i]?=T9 x->σ[i]?=T9 (T9 v)->Vis X.env.scope x->∃u,Ui v u/\UG X.env s.heap m x u
 cell:∀x c,X.env.cells.lookup x=T9 c->∃v,s.heap.IsCell c v
 free:H X.env.locals=Ua
 lQ:∀x c,X.env.cells.lookup x=T9 c->H c=Ua
 pin:∀p∈X.pn++pins,s.heap.get? p.1=T9 p.2/\H p.1=Ua/\p.1≠X.env.locals/\p.1∉X.fs/\∀v,p.2.data≠ .cell v
 hok:HOk X.prog X.w H s.heap
 len:σ.length=X.N.length
section
variable{X:Cx}{pins:List (NL×Obj)}{σ:List (Option V)}{H H':Hp}{s:NM}{h':Oi}
theorem Cx.Ok.JU(ok:X.Ok){b:NL}{o:Obj}(e:X.base.get? b=T9 o):b∉X.fs:=λhb=>by
 have:=(ok.qt.mem hb).1;rw[e]at this;cases this
theorem Inv.bs(I:Inv X pins σ H s):∀b o,X.base.get? b=T9 o->s.heap.get? b=T9 o/\H b=Ua:=λb o e=>
 ⟨I.base.keep b o (I.ok.bs b o e).1 (I.ok.bs b o e).2 (I.ok.JU e) (I.ok.BI b o e),I.base.free b o (I.ok.bs b o e).1 (I.ok.bs b o e).2 (I.ok.BI b o e)⟩
theorem Inv.bk(I:Inv X pins σ H s):∀b o,X.base.get? b=T9 o->s.heap.get? b=T9 o:=λb o e=>(I.bs b o e).1
theorem Inv.mod(I:Inv X pins σ H s):Mod X.K X.mg X.base:=I.ok.mod
theorem Inv.kIn(I:Inv X pins σ H s):X.K.In s.heap:=I.ok.mod.kin.keeps I.bk
theorem Inv.lt(I:Inv X pins σ H s):X.env.locals<s.heap.objs.size:=let ⟨_,hn,_⟩:=I.loc;hn.lt
theorem Inv.sz(I:Inv X pins σ H s):X.s₀.heap.objs.size<=s.heap.objs.size:=KR I.ok.above (Nm I.lt)
theorem Inv.IU(I:Inv X pins σ H s){a:NL}(h:s.heap.objs.size<=a):a∉X.fs:=λhb=>by
 obtain⟨_,o,ho,_⟩:=I.ok.qt.mem hb;exact absurd (KY (NY ho) (KR I.sz h)) (LQ _)
theorem Inv.cne(I:Inv X pins σ H s):∀x c,X.env.cells.lookup x=T9 c->c≠X.env.locals:=λx c e z=>by
 obtain⟨v,o,ho,hd⟩:=I.cell x c e;obtain⟨m,⟨o',es,ep,ho',hd',_⟩,_⟩:=I.loc;rw[z,ho']at ho;cases ho;rw[hd']at hd;cases hd
theorem Inv.qt(I:Inv X pins σ H s):s.heap.FunFrames X.base X.outer:=by
 have all:∀(l:List Env),(∀b∈frs l,b∈X.fs)->X.s₀.heap.FunFrames X.base l->s.heap.FunFrames X.base l:=by
  intro l;induction l with
  |nil=>intro _ _;trivial
  |cons env r ih=>
   intro hs hl;obtain⟨hk,⟨L,o,hf,hn,ho,hd⟩,hr⟩:=hl;have hL:L∈X.fs:=hs L (by unfold frs;rw[MS,hf];exact Ku);obtain⟨sl,e⟩:=I.base.slot L o ho (I.ok.frf L hL) hL λz=>I.ok.Cg L z hL;exact⟨hk,⟨L,_,hf,hn,e,hd⟩,ih (λb hb=>hs b (by unfold frs;rw[MS,hf];exact Kw _ hb)) hr⟩
 exact all X.outer (λ_ hb=>hb) I.ok.qt
theorem Inv.stack(I:Inv X pins σ H s):s.heap.FunFrames X.base X.stack:=by
 rcases I.ok.stk with e|⟨e,hf⟩
 ·rw[e];exact I.qt
 rw[e];obtain⟨m,hn,_⟩:=I.loc;refine .cons (by rw[I.ok.kind];decide) hf hn ?_ I.qt;exact Heap.get?_none_of_le (KR I.ok.bsz I.ok.above)
theorem Inv.zc(I:Inv X pins σ H s):∀b∈frs X.stack,b∈X.env.locals::X.fs:=λb hb=>by
 rcases I.ok.stk with e|⟨e,hf⟩
 ·rw[e]at hb;exact Kw _ hb
 rw[e]at hb;unfold frs at hb;rw[MS,hf]at hb;exact hb
theorem Inv.Ai(I:Inv X pins σ H s):∀b∈frs X.stack,H b=Ua:=λb hb=>by
 rcases Kt.mp (I.zc b hb)with e|hb
 ·rw[e];exact I.free
 obtain⟨_,o,ho,_⟩:=I.ok.qt.mem hb;exact I.base.free b o ho (I.ok.frf b hb) λz=>I.ok.Cg b z hb
theorem Inv.step{g':Array R9}{t':Nat}{d':Drawn}{ch:List NL}(I:Inv X pins σ H s)
  (hch:∀b∈ch,(b∈X.ex\/X.s₀.heap.objs.size<=b)/\b≠X.env.locals/\(∀x c,X.env.cells.lookup x=T9 c->c≠b)/\∀p∈X.pn++pins,p.1≠b)
  (keep:∀b o,b≠X.env.locals->b∉X.fs->b∉ch->s.heap.get? b=T9 o->H b=Ua->h'.get? b=T9 o)
  (slot:∀b o,b≠X.env.locals->b∈X.fs->b∉ch->s.heap.get? b=T9 o->H b=Ua->∃sl,h'.get? b=T9 { o with slots:=sl }) (free:∀b o,b∉ch->s.heap.get? b=T9 o->H b=Ua->H' b=Ua)
  (there:∀b o,b∉ch->s.heap.get? b=T9 o->∃o',h'.get? b=T9 o')
  (vq:∀b xs,H b=T9 (.tup xs)->H' b=T9 (.tup xs)) (sN:∀b o u,H b=T9 (.frz o u)->H' b=T9 (.frz o u)) (uP:∀b ps,H b=T9 (.tbl ps)->∃more,H' b=T9 (.tbl (ps++more)))
  (ns:∀m,s.heap.Ns X.env.locals m->h'.Ns X.env.locals m) (hok:HOk X.prog X.w H' h') (hg:Qw g') :
  Inv X pins σ H' { s with heap:=h',gens:=g',drawn:=d',toks:=t' }:=by
 have neL:∀b o,X.s₀.heap.get? b=T9 o->b≠X.env.locals:=λb o e=>Ll (KY (NY e) I.ok.above)
 have neC:∀b o,X.s₀.heap.get? b=T9 o->b∉X.ex->b∉ch:=λb o e hx hb=>by
  rcases(hch b hb).1 with z|z
  ·exact hx z
  exact absurd (KY (NY e) z) (LQ _)
 have cellK:∀x c,X.env.cells.lookup x=T9 c->∀v,s.heap.IsCell c v->h'.IsCell c v:=λx c e v ⟨o,ho,hd⟩=>by
  have nch:c∉ch:=λz=>(hch c z).2.2.1 x c e rfl;by_cases hc:c∈X.fs
  ·obtain⟨sl,q⟩:=slot c o (I.cne x c e) hc nch ho (I.lQ x c e);exact⟨_,q,hd⟩
  exact⟨o,keep c o (I.cne x c e) hc nch ho (I.lQ x c e),hd⟩
 refine⟨I.ok,I.os,hg,⟨λb o e n hb hx=>?_,λb o e n hb hx=>?_,λb o e n hx=>?_,λb o e hx=>?_,λb xs e=>vq b xs (I.base.vq b xs e),λb o xs e=>sN b o xs (I.base.sN b o xs e),λb ps e=>?_⟩,?_,λx c e=>?_,?_,λx c e=>?_,λp hp=>?_,hok,I.len⟩
 ·exact keep b o (neL b o e) hb (neC b o e hx) (I.base.keep b o e n hb hx) (I.base.free b o e n hx)
 ·obtain⟨sl,e1⟩:=I.base.slot b o e n hb hx;obtain⟨sl',e2⟩:=slot b _ (neL b o e) hb (neC b o e hx) e1 (I.base.free b o e n hx);exact⟨sl',e2⟩
 ·obtain⟨o',e1⟩:=I.base.there b o e hx;exact free b o' (neC b o e hx) e1 (I.base.free b o e n hx)
 ·obtain⟨o',e1⟩:=I.base.there b o e hx;exact there b o' (neC b o e hx) e1
 ·obtain⟨m1,e1⟩:=I.base.uP b ps e;obtain⟨m2,e2⟩:=uP b _ e1;exact⟨m1++m2,by rw[e2,Array.append_assoc]⟩
 ·obtain⟨m,hn,hl⟩:=I.loc;refine⟨m,ns m hn,λi x v e1 e2 e3=>?_⟩;obtain⟨u,r,l⟩:=hl i x v e1 e2 e3;refine⟨u,r,?_⟩;rcases l with l|⟨k,c,e,z⟩
  ·exact .inl l
  exact .inr ⟨k,c,e,cellK x c e _ z⟩
 ·obtain⟨v,z⟩:=I.cell x c e;exact⟨v,cellK x c e v z⟩
 ·obtain⟨m,⟨o,_,_,ho,_⟩,_⟩:=I.loc;exact free _ o (λz=>(hch _ z).2.1 rfl) ho I.free
 ·obtain⟨v,o,ho,hd⟩:=I.cell x c e;exact free c o (λz=>(hch c z).2.2.1 x c e rfl) ho (I.lQ x c e)
 obtain⟨e,n,ne,nf,d⟩:=I.pin p hp
 have nch:p.1∉ch:=λz=>(hch p.1 z).2.2.2 p hp rfl
 exact⟨keep p.1 p.2 ne nf nch e n,free p.1 p.2 nch e n,ne,nf,d⟩
theorem Inv.un{t':Nat}(I:Inv X pins σ H s)(u:Un X.fs [] H H' s.heap h')(hok:HOk X.prog X.w H' h'):Inv X pins σ H' { s with heap:=h',toks:=t' }:=by
 obtain⟨m,⟨o,es,ep,ho,r⟩,_⟩:=id I.loc;obtain⟨sl,hL⟩:=u.any ho I.free (by simp);exact I.step (g':=s.gens) (d':=s.drawn) (ch:=[]) (λ_ z=>nomatch z) (λb o _ hb _ e n=>u.keep b o e n hb (by simp)) (λb o _ hb _ e n=>u.slot b o e n hb (by simp)) (λb o _ e n=>u.free b o e n (by simp)) (λb o _ e=>u.there b o e (by simp)) u.vq u.sN u.uP (λm' hm=>by
  obtain⟨o',es',ep',ho',r'⟩:=hm;rw[ho]at ho';cases ho';exact⟨_,es',ep',hL,r'⟩) hok I.bare
theorem Inv.call{g':Array R9}{t':Nat}{d':Drawn}{ch:List NL}(I:Inv X pins σ H s)(u:Un (frs X.stack) ch H H' s.heap h')(hok:HOk X.prog X.w H' h')(hg:Qw g')
  (hch:∀b∈ch,(b∈X.ex\/X.s₀.heap.objs.size<=b)/\b≠X.env.locals/\(∀x c,X.env.cells.lookup x=T9 c->c≠b)/\∀p∈X.pn++pins,p.1≠b) :
  Inv X pins σ H' { s with heap:=h',gens:=g',drawn:=d',toks:=t' }:=by
 obtain⟨m,⟨o,es,ep,ho,r⟩,_⟩:=id I.loc
 obtain⟨sl,hL⟩:=u.any ho I.free λz=>(hch _ z).2.1 rfl
 exact I.step (ch:=ch) hch (λb o hL hb hc e n=>u.keep b o e n (λz=>(Kt.mp (I.zc b z)).elim hL hb) hc) (λb o _ _ hc e n=>u.any e n hc) (λb o hc e n=>u.free b o e n hc) (λb o hc e=>u.there b o e hc) u.vq u.sN u.uP (λm' hm=>by
  obtain⟨o',es',ep',ho',r'⟩:=hm;rw[ho]at ho';cases ho';exact⟨_,es',ep',hL,r'⟩) hok hg
theorem Inv.turned{t':Nat}{it:NL}(I:Inv X pins σ H s)(k:∀b o,b≠it->s.heap.get? b=T9 o->h'.get? b=T9 o)(hn:H it=Ua)(hL:it≠X.env.locals)
  (h1:it∈X.ex\/X.s₀.heap.objs.size<=it) (h2:∀x c,X.env.cells.lookup x=T9 c->c≠it) (h3:∀p∈X.pn++pins,p.1≠it):Inv X pins σ H { s with heap:=h',toks:=t' }:=by
 have nit:∀b u,H b=T9 u->b≠it:=λb u e z=>by rw[z,hn]at e;cases e
 refine I.step (g':=s.gens) (d':=s.drawn) (ch:=[it]) (λb hb=>?_) (λb o _ _ hc e _=>k b o (λz=>hc (by simp[z])) e) (λb o _ _ hc e _=>⟨o.slots,k b o (λz=>hc (by simp[z])) e⟩) (λ_ _ _ _ n=>n)
  (λb o hc e=>⟨o,k b o (λz=>hc (by simp[z])) e⟩) (λ_ _ e=>e) (λ_ _ _ e=>e) (λb ps e=>⟨#[],by rw[e];simp⟩) (λm hm=>?_) (λb u e=>?_) I.bare
 ·have e:b=it:=by simpa using hb
  subst e;exact⟨h1,hL,h2,h3⟩
 ·obtain⟨o,es,ep,ho,r⟩:=hm;exact⟨o,es,ep,k _ o (LF hL) ho,r⟩
 refine(I.hok b u e).yI (λc v hc q=>k c v ?_ q) (λ_ q=>q) λ_ _ q=>q
 rcases hc with z|z
 ·rw[z];exact nit b u e
 exact nit c _ z
theorem Inv.tok(I:Inv X pins σ H s)(t:Nat):Inv X pins σ H { s with toks:=t }:=I.un (h':=s.heap) (t':=t) Un.refl I.hok
theorem Inv.kept{t':Nat}(I:Inv X pins σ H s)(k:∀b u,s.heap.get? b=T9 u->h'.get? b=T9 u):Inv X pins σ H { s with heap:=h',toks:=t' }:=I.un (Un.kept k) (I.hok.kept k)
theorem Inv.laid{a:NL}{o:HO}{t':Nat}(I:Inv X pins σ H s)(k:∀b u,s.heap.get? b=T9 u->h'.get? b=T9 u)(hp:s.heap.objs.size<=a)(new:dB X.prog X.w (upd H a o) h' a o) :
  Inv X pins σ (upd H a o) { s with heap:=h',toks:=t' }:=I.un (Un.laid k hp (I.hok.fresh hp)) (I.hok.laid k hp new)
theorem Inv.write{x e:NL}{o:HO}{t':Nat}(I:Inv X pins σ H s)(mu:Mut (H x))(he:e=x\/H e=T9 (.own x))(k:∀b u,b≠e->s.heap.get? b=T9 u->h'.get? b=T9 u)(heo:∃u,h'.get? e=T9 u)
  (new:dB X.prog X.w (upd H x o) h' x o):Inv X pins σ (upd H x o) { s with heap:=h',toks:=t' }:=I.un (Un.write mu he k heo) (I.hok.write mu he k heo new)
theorem Inv.vK{pins':List (NL×Obj)}(I:Inv X pins σ H s)(h:∀p∈pins',s.heap.get? p.1=T9 p.2/\H p.1=Ua/\p.1≠X.env.locals/\p.1∉X.fs/\∀v,p.2.data≠ .cell v):Inv X pins' σ H s:=
 ⟨I.ok,I.os,I.bare,I.base,I.loc,I.cell,I.free,I.lQ,λp hp=>(Kz.mp hp).elim (λz=>I.pin p (Lj _ z)) (h p),I.hok,I.len⟩
theorem xT{N:List Str}(hN:N.Nodup){i j:Nat}{x:Str}(a:N[i]?=T9 x)(b:N[j]?=T9 x):i=j:=by
 obtain⟨h1,e1⟩:=KA.mp a;obtain⟨h2,e2⟩:=KA.mp b;exact(My hN).mp (e1.trans e2.symm)
theorem AI{M:Model}{A:Oh}{E:NK->NM->Prop}{i:Nat}{x:Str}{v:V}{u:NK}{Q:Unit->NM->Prop}(I:Inv X pins σ H s)(hN:X.N.Nodup)(hi:X.N[i]?=T9 x)(hx:Loc X.env.scope x)(r:Ui v u)
  (h:∀s',Inv X pins (σ.set i (T9 v)) H s'->(∃a,Qf a s.heap s'.heap/\(a=X.env.locals\/X.env.cells.lookup x=T9 a))->Q () s') (hf:X.fn x=true\/X.env.scope.names.lookup x=T9 .local:=by first|exact .inl rfl|exact .inr rfl|assumption):wpAny M A (TU X.env x u) Q E s:=by
 obtain⟨m,hn,hl⟩:=id I.loc
 have hcls:(X.env.scope.kind== .class||(X.env.scope.kind== .module&&X.env.locals !=X.env.globals))=false:=by rw[I.ok.kind];rfl
 have hiσ:i<σ.length:=by rw[I.len];exact(KA.mp hi).1
 have cne:=I.cne
 have tracked:∀{a:NL}{h':Oi},(∃o,s.heap.get? a=T9 o/\H a=Ua)->Qf a s.heap h'->HOk X.prog X.w H h':=λ{a h'} ha hs b ob e=>by
  obtain⟨_,_,hfree⟩:=ha;refine(I.hok b ob e).yI (λc w' hc q=>(hs.2 c ?_).trans q) (λ_ q=>q) λ_ _ q=>q;rintro rfl;rcases hc with rfl|hc
  ·rw[hfree]at e;cases e
  rw[hfree]at hc;cases hc
 rcases hx with hk|hk
 ·refine wpAny_storeName_local hk hn (λh' hn' hs=>?_) hcls;obtain⟨oL,_,_,hoL,_⟩:=id hn;refine h _ ⟨I.ok,I.os,I.bare,⟨λb o e n hb hx=>?_,λb o e n hb hx=>?_,I.base.free,λb o e hx=>?_,I.base.vq,I.base.sN,I.base.uP⟩,⟨_,hn',λj y v' e1 e2 e3=>?_⟩,λy c e=>?_,I.free,I.lQ,λp hp=>?_,tracked ⟨oL,hoL,I.free⟩ hs,by simpa using I.len⟩ ⟨_,hs,.inl rfl⟩
  ·exact(hs.2 b (Ll (KY (NY e) I.ok.above))).trans (I.base.keep b o e n hb hx)
  ·obtain⟨sl,e1⟩:=I.base.slot b o e n hb hx;exact⟨sl,(hs.2 b (Ll (KY (NY e) I.ok.above))).trans e1⟩
  ·obtain⟨o',e1⟩:=I.base.there b o e hx;exact⟨o',(hs.2 b (Ll (KY (NY e) I.ok.above))).trans e1⟩
  ·by_cases hj:j=i
   ·subst hj;rw[hi]at e1;cases e1;rw[QO hiσ]at e2;cases e2;exact⟨u,r,.inl ⟨hk,by simp⟩⟩
   rw[Q5 (LF hj)]at e2;obtain⟨u',r',q⟩:=hl j y v' e1 e2 e3;refine⟨u',r',?_⟩;rcases q with⟨k,e⟩|⟨k,c,e,z⟩
   ·refine .inl ⟨k,?_⟩;have:y≠x:=λe=>hj (xT hN e1 (e▸hi));simp[this,e]
   exact .inr ⟨k,c,e,z.sameBut hs (cne y c e)⟩
  ·obtain⟨w',z⟩:=I.cell y c e;exact⟨w',z.sameBut hs (cne y c e)⟩
  obtain⟨e,n,ne,nf,d⟩:=I.pin p hp;exact⟨(hs.2 p.1 ne).trans e,n,ne,nf,d⟩
 have hfn:X.fn x=true:=by
  rcases hf with z|z
  ·exact z
  rw[z]at hk;cases hk
 obtain⟨c,hc⟩:=I.ok.has x (.inl hk)
 obtain⟨w',z⟩:=I.cell x c hc
 refine wpAny_storeName_cell I.ok.kind hk hc z (λh' hc' hs=>?_)
 obtain⟨oc,hoc,hocd⟩:=id z
 refine h { s with heap:=h' } ⟨I.ok,I.os,I.bare,⟨λb o e n hb hx=>?_,λb o e n hb hx=>?_,I.base.free,λb o e hx=>?_,I.base.vq,I.base.sN,I.base.uP⟩,⟨m,hn.sameBut hs (LF (cne x c hc)),λj y v' e1 e2 e3=>?_⟩,λy c' e=>?_,I.free,I.lQ,λp hp=>?_,tracked ⟨oc,hoc,I.lQ x c hc⟩ hs,by simpa using I.len⟩ ⟨c,hs,.inr hc⟩
 ·exact(hs.2 b (Ll (KY (NY e) (I.ok.cab x c hfn hc)))).trans (I.base.keep b o e n hb hx)
 ·obtain⟨sl,e1⟩:=I.base.slot b o e n hb hx;exact⟨sl,(hs.2 b (Ll (KY (NY e) (I.ok.cab x c hfn hc)))).trans e1⟩
 ·obtain⟨o',e1⟩:=I.base.there b o e hx;exact⟨o',(hs.2 b (Ll (KY (NY e) (I.ok.cab x c hfn hc)))).trans e1⟩
 ·by_cases hj:j=i
  ·subst hj;rw[hi]at e1;cases e1;rw[QO hiσ]at e2;cases e2;exact⟨u,r,.inr ⟨.inl hk,c,hc,hc'⟩⟩
  rw[Q5 (LF hj)]at e2;obtain⟨u',r',q⟩:=hl j y v' e1 e2 e3;refine⟨u',r',?_⟩;rcases q with q|⟨k,c',e,z'⟩
  ·exact .inl q
  refine .inr ⟨k,c',e,z'.sameBut hs ?_⟩;rintro rfl;exact hj (xT hN e1 (I.ok.inj _ _ _ e hc▸hi))
 ·by_cases hcc:c'=c
  ·subst hcc;exact⟨_,hc'⟩
  obtain⟨w2,z2⟩:=I.cell y c' e;exact⟨w2,z2.sameBut hs hcc⟩
 obtain⟨e,n,ne,nf,d⟩:=I.pin p hp
 refine⟨(hs.2 p.1 ?_).trans e,n,ne,nf,d⟩
 intro q
 rw[q,hoc]at e
 have q':oc=p.2:=NP e
 exact d w' (by rw[<-q'];exact hocd)
theorem qV{M:Model}{A:Oh}{E:NK->NM->Prop}{i:Nat}{x:Str}{v:V}{u:NK}{Q:Unit->NM->Prop}(I:Inv X pins σ H s)(hN:X.N.Nodup)(hi:X.N[i]?=T9 x)(hx:Loc X.env.scope x)(r:Ui v u)
  (h:∀s',Inv X pins (σ.set i (T9 v)) H s'->Q () s') (hf:X.fn x=true\/X.env.scope.names.lookup x=T9 .local:=by first|exact .inl rfl|exact .inr rfl|assumption):wpAny M A (TU X.env x u) Q E s:=
 AI I hN hi hx r (λs' I' _=>h s' I') hf
theorem Inv.Jk{s':NM}{ch:List NL}(I:Inv X pins σ H s)(ho:s'.os=s.os)(u:Un (frs X.stack) ch H H' s.heap s'.heap)(hok:HOk X.prog X.w H' s'.heap)(hg:Qw s'.gens)
  (hch:∀b∈ch,(b∈X.ex\/X.s₀.heap.objs.size<=b)/\b≠X.env.locals/\(∀x c,X.env.cells.lookup x=T9 c->c≠b)/\∀p∈X.pn++pins,p.1≠b):Inv X pins σ H' s':=by
 obtain⟨h',g',d',t',o'⟩:=s'
 have e:o'=s.os:=ho
 subst e
 exact I.call (g':=g') (t':=t') (d':=d') u hok hg hch
end
noncomputable abbrev XK:=NK->Option NL->Hp->Prop
noncomputable abbrev St:=List (Option V)
noncomputable abbrev VK:=V->Hp->Prop
noncomputable abbrev TE:=St->Hp->VK->Prop
noncomputable abbrev TT:=St->Hp->(Bool->Hp->Prop)->Prop
noncomputable abbrev TA:=St->Hp->(List V->Hp->Prop)->Prop
structure Uw where
 nx:St->Hp->Prop
 rt:VK
 bk:St->Hp->Prop:=λ_ _=>False
 ct:St->Hp->Prop:=λ_ _=>False
noncomputable abbrev TS:=Uw->St->Hp->Prop
noncomputable def EP(X:Cx)(pins:List (NL×Obj))(σ:St)(Q:VK)(u:NK)(s':NM):Prop:=∃v H',Inv X pins σ H' s'/\Ui v u/\Q v H'
noncomputable def TP(X:Cx)(pins:List (NL×Obj))(σ:St)(Q:Bool->Hp->Prop)(b:Bool)(s':NM):Prop:=∃H',Inv X pins σ H' s'/\Q b H'
noncomputable def AP(X:Cx)(pins:List (NL×Obj))(σ:St)(Q:List V->Hp->Prop)(us:List NK)(s':NM):Prop:=∃vs H',Inv X pins σ H' s'/\Ug vs us/\Q vs H'
noncomputable def SP(X:Cx)(pins:List (NL×Obj))(D:Uw)(f:Flow)(s':NM):Prop:=
 match f with
 | .next=>∃σ' H',Inv X pins σ' H' s'/\D.nx σ' H'
 | .brk=>∃σ' H',Inv X pins σ' H' s'/\D.bk σ' H'
 | .cont=>∃σ' H',Inv X pins σ' H' s'/\D.ct σ' H'
 | .ret u=>∃v σ' H',Inv X pins σ' H' s'/\Ui v u/\D.rt v H'
noncomputable def PE(X:Cx)(e:Expr)(t:TE):Prop:=
 ∀(pins:List (NL×Obj))(s:NM)(σ:St)(H:Hp)(Q:VK),Inv X pins σ H s->t σ H Q->wpAny (N0 X.prog X.w) X.A (OE e X.env) (EP X pins σ Q) X.xe s
noncomputable def PT(X:Cx)(e:Expr)(t:TT):Prop:=
 ∀(pins:List (NL×Obj))(s:NM)(σ:St)(H:Hp)(Q:Bool->Hp->Prop),Inv X pins σ H s->t σ H Q->wpAny (N0 X.prog X.w) X.A (isTrue e X.env (OE e X.env)) (TP X pins σ Q) X.xe s
noncomputable def PW(X:Cx)(e:Expr)(t:TT):Prop:=
 ∀(whole:Sem NK)(pins:List (NL×Obj))(s:NM)(σ:St)(H:Hp)(Q:Bool->Hp->Prop),Inv X pins σ H s->t σ H Q->wpAny (N0 X.prog X.w) X.A (isTrue e X.env whole) (TP X pins σ Q) X.xe s
theorem PW.pt{X:Cx}{e:Expr}{t:TT}(h:PW X e t):PT X e t:=h _
noncomputable def PA(X:Cx)(es:List Expr)(t:TA):Prop:=
 ∀(pos:Pos)(pins:List (NL×Obj))(s:NM)(σ:St)(H:Hp)(Q:List V->Hp->Prop),Inv X pins σ H s->t σ H Q->wpAny (N0 X.prog X.w) X.A (spliced (OK pos (NX es X.env))) (AP X pins σ Q) X.xe s
noncomputable def PS(X:Cx)(st:Oj)(t:TS):Prop:=
 ∀(pins:List (NL×Obj))(s:NM)(σ:St)(H:Hp)(D:Uw),Inv X pins σ H s->t D σ H->wpAny (N0 X.prog X.w) X.A (exec st X.env) (SP X pins D) X.xe s
noncomputable def PSs(X:Cx)(st:List Oj)(t:TS):Prop:=
 ∀(pins:List (NL×Obj))(s:NM)(σ:St)(H:Hp)(D:Uw),Inv X pins σ H s->t D σ H->wpAny (N0 X.prog X.w) X.A (execs st X.env) (SP X pins D) X.xe s
theorem thn{α:Type}{t:Sem α}{Q Q':α->NM->Prop}{M:Model}{A:Oh}{E:NK->NM->Prop}{s:NM}(h:wpAny M A t Q E s)(hQ:∀a s,Q a s->Q' a s):wpAny M A t Q' E s:=OU h hQ λ_ _ x=>x
section
variable{X:Cx}
noncomputable def JW(i:Nat):TE:=λσ H Q=>∃v,σ[i]?=T9 (T9 v)/\Q v H
noncomputable def tC(v:V):TE:=λ_ H Q=>Q v H
theorem Gr{i:Nat}{x:Str}{pos:Pos}(hN:X.N[i]?=T9 x)(hv:Vis X.env.scope x)(hd:(x==("__debug__":Str))=false:=by decide)(hcd:(x==("__classdict__":Str))=false:=by decide):PE X (.Name x pos) (JW i):=by
 intro pins s σ H Q I h;obtain⟨v,e,h⟩:=h;obtain⟨m,hn,hl⟩:=I.loc;obtain⟨u,r,l⟩:=hl i x v hN e hv;have fin:EP X pins σ Q u s:=⟨v,H,I,r,h⟩;rcases l with⟨hk,hm⟩|⟨hk,c,hc,hcell⟩
 ·exact To (Q6 I.ok.kind hk hn hm fin) hd
 rcases hk with hk|hk
 ·exact To (RA I.ok.kind hk hc hcell fin) hd
 exact To (wpAny_loadName_free I.ok.kind hk hc hcell fin hcd) hd
theorem ab{i j pos}:PE X (.Constant (.int i) j pos) (tC (.int i)):=λ_ _ _ H _ I h=>wpAny_Constant_int ⟨.int i,H,I.tok _,⟨_,rfl⟩,h⟩
theorem gU{b j pos}:PE X (.Constant (.bool b) j pos) (tC (.bl b)):=λ_ _ _ H _ I h=>Constant_bool ⟨.bl b,H,I,rfl,h⟩
theorem mH{j pos}:PE X (.Constant .none j pos) (tC .non):=λ_ _ _ H _ I h=>Constant_none ⟨.non,H,I,rfl,h⟩
theorem ao{x j pos}:PE X (.Constant (.str x) j pos) (tC (.str x)):=λ_ _ _ H _ I h=>Calls.Constant_str ⟨.str x,H,I.tok _,⟨_,rfl⟩,h⟩
noncomputable def Gl(X:Cx)(x:Str):Prop:=X.env.kindOf x=T9 .globalImplicit
theorem oP{E:NK->NM->Prop}{pins:List (NL×Obj)}{s:NM}{σ:St}{H:Hp}{x:Str}{u:NK}{pos:Pos}{Q:NK->NM->Prop}(I:Inv X pins σ H s)(hg:Gl X x)(hm:X.mg x=T9 u)(h:Q u s)
  (hd:(x==("__debug__":Str))=false:=by decide):wpAny (N0 X.prog X.w) X.A (OE (.Name x pos) X.env) Q E s:=
 Qm I.ok.kind hg (Calls.loadGlobal_global (by rw[I.ok.glob];exact I.mod.glob.keeps I.bk) hm h) hd
theorem rL{E:NK->NM->Prop}{pins:List (NL×Obj)}{s:NM}{σ:St}{H:Hp}{x:Str}{u:NK}{pos:Pos}{Q:NK->NM->Prop}(I:Inv X pins σ H s)(hg:Gl X x)(hm:X.mg x=Ua)(hv:OZ x=T9 u)(h:Q u s)
  (hn:x≠"__name__":=by decide) (hd:(x==("__debug__":Str))=false:=by decide):wpAny (N0 X.prog X.w) X.A (OE (.Name x pos) X.env) Q E s:=by
 obtain⟨mb,h1,h2⟩:=I.mod.blt
 exact Qm I.ok.kind hg (Calls.loadGlobal_builtin (by rw[I.ok.glob];exact I.mod.glob.keeps I.bk) hm (by rw[I.ok.blt];exact h1.keeps I.bk) ((h2 x hn).trans hv) h) hd
theorem zS{x:Str}{v:V}{u:NK}{pos:Pos}(hg:Gl X x)(hm:X.mg x=T9 u)(r:Ui v u)(hd:(x==("__debug__":Str))=false:=by decide):PE X (.Name x pos) (tC v):=
 λ_ _ _ H _ I h=>oP I hg hm ⟨v,H,I,r,h⟩ hd
theorem gX{x:Str}{v:V}{u:NK}{pos:Pos}(hg:Gl X x)(hm:X.mg x=Ua)(hv:OZ x=T9 u)(r:Ui v u)(hn:x≠"__name__":=by decide)(hd:(x==("__debug__":Str))=false:=by decide):PE X (.Name x pos) (tC v):=
 λ_ _ _ H _ I h=>rL I hg hm hv ⟨v,H,I,r,h⟩ hn hd
variable{a b:Expr}{ta tb:TE}{pos:Pos}
variable{tA tB':TT}{rest:List Expr}
noncomputable def Kn(t u:TT):TT:=λσ H Q=>t σ H λc H1=>if c=true then u σ H1 Q else Q false H1
noncomputable def tOr(t u:TT):TT:=λσ H Q=>t σ H λc H1=>if c=true then Q true H1 else u σ H1 Q
noncomputable def Kd(t:TT):TT:=λσ H Q=>t σ H λc H1=>Q (!c) H1
theorem pw_and1(ha:PT X a tA):PW X (.BoolOp .And [a] pos) tA:=by
 intro wh pins s σ H Q I h;refine isTrue_and (thn (ha pins s σ H Q I h) λc s1 e=>?_);cases c with
 |true=>exact isTrue_and_nil e
 |false=>exact e
theorem pw_or1(ha:PT X a tA):PW X (.BoolOp .Or [a] pos) tA:=by
 intro wh pins s σ H Q I h;refine isTrue_or (thn (ha pins s σ H Q I h) λc s1 e=>?_);cases c with
 |false=>exact isTrue_or_nil e
 |true=>exact e
theorem pw_and(ha:PT X a tA)(hb:PW X (.BoolOp .And (b::rest) pos) tB'):PW X (.BoolOp .And (a::b::rest) pos) (Kn tA tB'):=by
 intro wh pins s σ H Q I h;refine isTrue_and (thn (ha pins s σ H _ I h) λc s1 ⟨H1,I1,q1⟩=>?_);cases c with
 |true=>exact hb wh pins s1 σ H1 Q I1 q1
 |false=>exact⟨H1,I1,q1⟩
theorem pw_or(ha:PT X a tA)(hb:PW X (.BoolOp .Or (b::rest) pos) tB'):PW X (.BoolOp .Or (a::b::rest) pos) (tOr tA tB'):=by
 intro wh pins s σ H Q I h;refine isTrue_or (thn (ha pins s σ H _ I h) λc s1 ⟨H1,I1,q1⟩=>?_);cases c with
 |true=>exact⟨H1,I1,q1⟩
 |false=>exact hb wh pins s1 σ H1 Q I1 q1
theorem vP(ha:PT X a tA):PT X (.UnaryOp .Not a pos) (Kd tA):=by
 intro pins s σ H Q I h;exact isTrue_not (ha pins s σ H (λc H1=>Q (!c) H1) I h)
noncomputable def JB(ta tb:TE):TE:=λσ H Q=>ta σ H λx H1=>∃c,x=.bl c/\if c=true then tb σ H1 Q else Q (.bl false) H1
noncomputable def JR(ta tb:TE):TE:=λσ H Q=>ta σ H λx H1=>∃c,x=.bl c/\if c=true then Q (.bl true) H1 else tb σ H1 Q
theorem rR{op}{t:TE}(h:PE X a t):PE X (.BoolOp op [a] pos) t:=λpins s σ H Q I hw=>BoolOp_one (h pins s σ H Q I hw)
theorem pE(ha:PE X a ta)(hb:PE X (.BoolOp .And (b::rest) pos) tb):PE X (.BoolOp .And (a::b::rest) pos) (JB ta tb):=by
 intro pins s σ H Q I h;refine BoolOp_and (thn (ha pins s σ H _ I h) λv s1 ⟨x,H1,I1,r1,q1⟩=>?_);obtain⟨c,rfl,q1⟩:=q1;cases r1;refine Oz ?_;cases c with
 |true=>exact hb pins s1 σ H1 Q I1 q1
 |false=>exact⟨.bl false,H1,I1,rfl,q1⟩
theorem Ji(ha:PE X a ta)(hb:PE X (.BoolOp .Or (b::rest) pos) tb):PE X (.BoolOp .Or (a::b::rest) pos) (JR ta tb):=by
 intro pins s σ H Q I h;refine BoolOp_or (thn (ha pins s σ H _ I h) λv s1 ⟨x,H1,I1,r1,q1⟩=>?_);obtain⟨c,rfl,q1⟩:=q1;cases r1;refine Oz ?_;cases c with
 |false=>exact hb pins s1 σ H1 Q I1 q1
 |true=>exact⟨.bl true,H1,I1,rfl,q1⟩
noncomputable def tIf(t:TT)(ta tb:TE):TE:=λσ H Q=>t σ H λc H1=>if c=true then ta σ H1 Q else tb σ H1 Q
theorem iS{c:Expr}(hc:PT X c tA)(ha:PE X a ta)(hb:PE X b tb):PE X (.IfExp c a b pos) (tIf tA ta tb):=by
 intro pins s σ H Q I h;refine wpAny_IfExp (thn (hc pins s σ H _ I h) λd s1 ⟨H1,I1,q1⟩=>?_);cases d with
 |true=>exact ha pins s1 σ H1 Q I1 q1
 |false=>exact hb pins s1 σ H1 Q I1 q1
end
noncomputable def SqL(K:NO)(H:Hp)(a:NL)(xs:List V):Prop:=
 Rd H a (.lst xs)\/
  ∃(o:Obj)(its:Array NK)(n:Nat),K.lookup a=T9 o/\o.cls=.type "list"/\o.dict=Ua/\o.data=.seq its n/\its.size<=sizeLine/\Ug xs its.toList
noncomputable def SqT(K:NO)(H:Hp)(a:NL)(xs:List V):Prop:=
 Rd H a (.tup xs)\/
  ∃(o:Obj)(its:Array NK)(n:Nat),K.lookup a=T9 o/\o.cls=.type "tuple"/\o.data=.seq its n/\its.size<=sizeLine/\Ug xs its.toList
noncomputable def Kk:NK->Option V
 | .none=>T9 .non
 | .bool b=>T9 (.bl b)
 | .int i _=>T9 (.int i)
 | .str x _=>T9 (.str x)
 | .bytes b _=>T9 (.byt b)
 | .float b _=>T9 (.flt b)
 | .ref a=>T9 (.ref a)
 | .type n=>T9 (.ty n)
 |_=>Ua
theorem Ui.abs{x:V}{u:NK}(r:Ui x u):Kk u=T9 x:=by
 cases x with
 |non=>cases r;rfl
 |bl _=>cases r;rfl
 |int _=>obtain⟨t,rfl⟩:=r;rfl
 |str _=>obtain⟨t,rfl⟩:=r;rfl
 |byt _=>obtain⟨t,rfl⟩:=r;rfl
 |flt _=>obtain⟨t,rfl⟩:=r;rfl
 |ref _=>cases r;rfl
 |ty _=>cases r;rfl
theorem Ui.inj{x y:V}{u:NK}(r:Ui x u)(q:Ui y u):x=y:=NP (r.abs.symm.trans q.abs)
theorem Ug.inj:∀{xs ys:List V}{us:List NK},Ug xs us->Ug ys us->xs=ys
 |_,_,_,.nil,.nil=>rfl
 |_,_,_,.cons r t,.cons r' t'=>by rw[r.inj r',Ug.inj t t']
section
variable{X:Cx}{pins:List (NL×Obj)}{σ:St}{H:Hp}{s:NM}{a:NL}{xs ys:List V}
theorem SqL.of{K:NO}(h:H a=T9 (.lst xs)):SqL K H a xs:=.inl (.inl h)
theorem SqT.of{K:NO}(h:H a=T9 (.tup xs)):SqT K H a xs:=.inl (.inl h)
theorem Inv.list(I:Inv X pins σ H s)(h:SqL X.K H a xs):∃its:List NK,Ug xs its/\PlainL s.heap a its.toArray/\xs.length<=sizeLine:=by
 rcases h with h|⟨o,its,n,hk,hc,hd,hs,hz,r⟩
 ·obtain⟨z,its,n,r,e⟩:=h.ok I.hok;exact⟨its,r,⟨_,n,e,rfl,rfl,rfl⟩,z⟩
 refine⟨its.toList,r,⟨o,n,I.kIn a o hk,hc,hd,by simpa using hs⟩,?_⟩;have e:=r.length;simp only[MT]at e;omega
theorem Inv.tuple(I:Inv X pins σ H s)(h:SqT X.K H a xs):∃its:List NK,Ug xs its/\IsTup s.heap a its.toArray/\xs.length<=sizeLine:=by
 rcases h with h|⟨o,its,n,hk,hc,hs,hz,r⟩
 ·obtain⟨z,its,r,p⟩:=h.ok I.hok;exact⟨its,r,p,z⟩
 refine⟨its.toList,r,⟨o,I.kIn a o hk,hc,n,by simpa using hs⟩,?_⟩;have e:=r.length;simp only[MT]at e;omega
theorem Inv.rF(I:Inv X pins σ H s)(h:SqL X.K H a xs)(h':SqL X.K H a ys):xs=ys:=by
 obtain⟨its,r,⟨o,n,e,_,_,d⟩,_⟩:=I.list h;obtain⟨its',r',⟨o',n',e',_,_,d'⟩,_⟩:=I.list h';rw[e]at e';cases e';rw[d]at d';injection d' with d1 _;have:its=its':=by simpa using congrArg Array.toList d1
 subst this;exact r.inj r'
theorem Inv.AJ(I:Inv X pins σ H s)(h:SqT X.K H a xs)(h':SqT X.K H a ys):xs=ys:=by
 obtain⟨its,r,⟨o,e,_,n,d⟩,_⟩:=I.tuple h;obtain⟨its',r',⟨o',e',_,n',d'⟩,_⟩:=I.tuple h';rw[e]at e';cases e';rw[d]at d';injection d' with d1 _;have:its=its':=by simpa using congrArg Array.toList d1
 subst this;exact r.inj r'
end
noncomputable abbrev Cx.sZ(X:Cx)(E:NK->NM->Prop):Cx:={ X with xe:=E }
noncomputable abbrev Cx.nox(X:Cx):Cx:=X.sZ λ_ _=>False
theorem Cx.Ok.sZ{X:Cx}(ok:X.Ok)(E:NK->NM->Prop):(X.sZ E).Ok:=
 ⟨ok.mod,ok.kind,ok.glob,ok.blt,ok.above,ok.inj,ok.has,ok.cab,ok.hd,ok.frames,ok.stk,ok.exf,ok.bs,ok.bsz,ok.BI,ok.Cg,ok.qt,ok.frf⟩
theorem Cx.Ok.lN{X:Cx}{E:NK->NM->Prop}(ok:(X.sZ E).Ok):X.Ok:=
 ⟨ok.mod,ok.kind,ok.glob,ok.blt,ok.above,ok.inj,ok.has,ok.cab,ok.hd,ok.frames,ok.stk,ok.exf,ok.bs,ok.bsz,ok.BI,ok.Cg,ok.qt,ok.frf⟩
section
variable{X:Cx}{pins:List (NL×Obj)}{σ:St}{H:Hp}{s:NM}{E:NK->NM->Prop}
theorem Inv.sZ(I:Inv X pins σ H s)(E:NK->NM->Prop):Inv (X.sZ E) pins σ H s:=⟨I.ok.sZ E,I.os,I.bare,I.base,I.loc,I.cell,I.free,I.lQ,I.pin,I.hok,I.len⟩
theorem Inv.lN(I:Inv (X.sZ E) pins σ H s):Inv X pins σ H s:=⟨I.ok.lN,I.os,I.bare,I.base,I.loc,I.cell,I.free,I.lQ,I.pin,I.hok,I.len⟩
theorem SP.lN{D:Uw}{f:Flow}{s':NM}(h:SP (X.sZ E) pins D f s'):SP X pins D f s':=by
 cases f with
 |next=>obtain⟨σ',H',I,q⟩:=h;exact⟨σ',H',I.lN,q⟩
 |brk=>obtain⟨σ',H',I,q⟩:=h;exact⟨σ',H',I.lN,q⟩
 |cont=>obtain⟨σ',H',I,q⟩:=h;exact⟨σ',H',I.lN,q⟩
 |ret u=>obtain⟨v,σ',H',I,r,q⟩:=h;exact⟨v,σ',H',I.lN,r,q⟩
theorem PSs.nox{st:List Oj}{t:TS}(h:PSs X.nox st t):PSs X st t:=λpins s σ H D I hw=>
 OU (h pins s σ H D (I.sZ _) hw) (λ_ _ q=>q.lN) λ_ _ z=>OP z
end
section
variable{X:Cx}{st:Oj}{rest:List Oj}{t u:TS}{e:Expr}{te:TE}{pos:Pos}
noncomputable def Cq:TS:=λD σ H=>D.nx σ H
noncomputable def xh(t u:TS):TS:=λD σ H=>t { D with nx:=u D } σ H
theorem aC:PSs X [] Cq:=λ_ _ σ H _ I h=>P7 ⟨σ,H,I,h⟩
theorem ae(h1:PS X st t)(h2:PSs X rest u):PSs X (st::rest) (xh t u):=by
 intro pins s σ H D I h;refine SJ (thn (h1 pins s σ H { D with nx:=u D } I h) λf s1 q=>?_);cases f with
 |next=>
  obtain⟨σ',H',I',q⟩:=q;exact h2 pins s1 σ' H' D I' q
 |ret v=>exact q
 |brk=>exact q
 |cont=>exact q
theorem ah(h1:PS X st t):PSs X [st] t:=by
 intro pins s σ H D I h;refine SJ (thn (h1 pins s σ H D I h) λf s1 q=>?_);cases f with
 |next=>exact P7 q
 |ret v=>exact q
 |brk=>exact q
 |cont=>exact q
noncomputable def GQ:TS:=λD σ H=>D.bk σ H
theorem BB:PS X (.Break pos) GQ:=λ_ _ σ H _ I h=>wpAny_Break ⟨σ,H,I,h⟩
theorem Inv.quiet{pins:List (NL×Obj)}{σ:St}{H:Hp}{s:NM}(I:Inv X pins σ H s):interactive X.env=false:=by simp[interactive,I.ok.kind]
noncomputable def Jg(te:TE):TS:=λD σ H=>te σ H λ_ H1=>D.nx σ H1
theorem aI(he:PE X e te)(hs:Rr e Ua pos.line X.env=pure false:=by rfl):PS X (.Expr e pos) (Jg te):=by
 intro pins s σ H D I h;exact wpAny_Expr_any (thn (he pins s σ H _ I h) λv s1 ⟨x,H1,I1,r1,q1⟩=>⟨σ,H1,I1,q1⟩) I.quiet hs
noncomputable def JQ(te:TE):TS:=λD σ H=>te σ H D.rt
theorem aB(he:PE X e te):PS X (.Return (T9 e) pos) (JQ te):=by
 intro pins s σ H D I h;exact wpAny_Return_some (thn (he pins s σ H _ I h) λv s1 ⟨x,H1,I1,r1,q1⟩=>⟨x,σ,H1,I1,r1,q1⟩)
noncomputable def Jn:TS:=λD _ H=>D.rt .non H
theorem vX:PS X (.Return Ua pos) Jn:=λ_ _ σ H _ I h=>wpAny_Return_none ⟨.non,σ,H,I,rfl,h⟩
noncomputable def AS(c:TT)(t u:TS):TS:=λD σ H=>c σ H λb H1=>if b=true then t D σ H1 else u D σ H1
theorem aL{c:Expr}{a b:List Oj}{tc:TT}(hc:PT X c tc)(ha:PSs X a t)(hb:PSs X b u):PS X (.If c a b pos) (AS tc t u):=by
 intro pins s σ H D I h;refine wpAny_If (thn (hc pins s σ H _ I h) λd s1 ⟨H1,I1,q1⟩=>?_);cases d with
 |true=>exact ha pins s1 σ H1 D I1 q1
 |false=>exact hb pins s1 σ H1 D I1 q1
noncomputable def HF:TS:=λ_ _ _=>False
theorem AR{sts:List Oj}:PSs X sts HF:=λ_ _ _ _ _ _ h=>h.elim
end
noncomputable abbrev TG:=V->St->Hp->(St->Hp->Prop)->Prop
noncomputable abbrev TGs:=List V->St->Hp->(St->Hp->Prop)->Prop
noncomputable def PG(X:Cx)(target:Expr)(t:TG):Prop:=
 ∀(pins:List (NL×Obj))(s:NM)(σ:St)(H:Hp)(v:V)(u:NK)(Q:St->Hp->Prop),Inv X pins σ H s->Ui v u->t v σ H Q->
  wpAny (N0 X.prog X.w) X.A (assign target X.env u) (λ_ s'=>∃σ' H',Inv X pins σ' H' s'/\Q σ' H') X.xe s
noncomputable def PGs(X:Cx)(ts:List Expr)(t:TGs):Prop:=
 ∀(pins:List (NL×Obj))(s:NM)(σ:St)(H:Hp)(vs:List V)(us:List NK)(Q:St->Hp->Prop),Inv X pins σ H s->Ug vs us->t vs σ H Q->
  wpAny (N0 X.prog X.w) X.A (assignInOrder ((Qn ts X.env).map (·.2)) us) (λ_ s'=>∃σ' H',Inv X pins σ' H' s'/\Q σ' H') X.xe s
noncomputable abbrev DE:=V->V->V->Hp->(Hp->Prop)->Prop
noncomputable def Ck(X:Cx)(t:DE):Prop:=
 ∀(pins:List (NL×Obj))(s:NM)(σ:St)(H:Hp)(o i v:V)(ov iv u:NK)(Q:Hp->Prop),Inv X pins σ H s->Ui o ov->Ui i iv->Ui v u->t o i v H Q->
  wpAny (N0 X.prog X.w) X.A (setItem ov iv u) (λ_ s'=>∃H',Inv X pins σ H' s'/\Q H') X.xe s
noncomputable abbrev TIp:=V->V->Hp->VK->Prop
noncomputable def PIp(X:Cx)(op:Sh)(t:TIp):Prop:=
 ∀(pins:List (NL×Obj))(s:NM)(σ:St)(H:Hp)(x y:V)(v u:NK)(Q:VK),Inv X pins σ H s->Ui x v->Ui y u->t x y H Q->
  wpAny (N0 X.prog X.w) X.A (TV op v u) (EP X pins σ Q) X.xe s
section
variable{X:Cx}{pos:Pos}
noncomputable def kf(i:Nat):TG:=λv σ H Q=>Q (σ.set i (T9 v)) H
theorem zt{i:Nat}{x:Str}(hN:X.N.Nodup)(hi:X.N[i]?=T9 x)(hx:Loc X.env.scope x)(hf:X.fn x=true\/X.env.scope.names.lookup x=T9 .local:=by first|exact .inl rfl|exact .inr rfl|assumption):PG X (.Name x pos) (kf i):=by
 intro pins s σ H v u Q I r h;exact wpAny_assign_Name (qV I hN hi hx r (λs' I'=>⟨_,H,I',h⟩) hf)
noncomputable def Kh:TGs:=λvs σ H Q=>vs=[]/\Q σ H
noncomputable def Iw(t:TG)(u:TGs):TGs:=λvs σ H Q=>∃v r,vs=v::r/\t v σ H λσ' H'=>u r σ' H' Q
theorem vt:PGs X [] Kh:=by
 intro pins s σ H vs us Q I r h;obtain⟨e,h⟩:=h;subst e;cases r;exact assignInOrder_nil ⟨σ,H,I,h⟩
theorem kA{e:Expr}{es:List Expr}{t:TG}{u:TGs}(h1:PG X e t)(h2:PGs X es u)
  (hs:(Qn (e::es) X.env).map (·.2)=assign e X.env::(Qn es X.env).map (·.2):=by rfl):PGs X (e::es) (Iw t u):=by
 intro pins s σ H vs us Q I r h
 obtain⟨v,vr,e1,h⟩:=h
 subst e1
 cases r with
 |cons r rr=>
  rw[hs]
  refine assignInOrder_cons (thn (h1 pins s σ H _ _ _ I r h) λ_ s1 ⟨σ1,H1,I1,q1⟩=>?_)
  exact h2 pins s1 σ1 H1 _ _ Q I1 rr q1
inductive IV(K:NO)(n:Nat)(v:V)(H:Hp)(R:List V->Prop):Prop
 |mk(a:NL)(xs:List V)(h0:v=.ref a)(h1:SqT K H a xs)(h2:xs.length=n)(q:R xs):IV K n v H R
noncomputable def Ke(K:NO)(n:Nat)(t:TGs):TG:=λv σ H Q=>IV K n v H (λxs=>t xs σ H Q)
theorem yF{es:List Expr}{k:Nat}{t:TGs}{n:Nat}(hc:X.calm=true)(h:PGs X es t)
  (hn:(Qn es X.env).length=n:=by rfl) (hst:(Qn es X.env).findIdx? (·.1)=Ua:=by rfl):PG X (.Tuple es k pos) (Ke X.K n t):=by
 intro pins s σ H v u Q I r hw
 obtain⟨a,xs,e1,hq,hl,hw⟩:=hw
 subst e1
 cases r
 obtain⟨its,rv,ht,hz⟩:=I.tuple hq
 refine assign_Tuple_tuple (I.ok.hd hc) ht (by simp[hn,<-hl,rv.length]) hst λh' hx=>?_
 have I1:Inv X pins σ H { s with heap:=h' }:=I.kept (t':=s.toks) λb o e=>hx b o (Ll (NY e)) e
 exact h pins _ σ H xs _ Q I1 (by simpa using rv) hw
noncomputable def Kj(to ti:TE)(t:DE):TG:=λv σ H Q=>to σ H λo H1=>ti σ H1 λi H2=>t o i v H2 λH3=>Q σ H3
theorem bz{o i:Expr}{to ti:TE}{t:DE}(ho:PE X o to)(hi:PE X i ti)(hs:Ck X t)
  (ha:∀v,assign (.Subscript o i pos) X.env v=(do
   let ov<-Pr [v] (OE o X.env)
   let iv<-Pr [v,ov] (OE i X.env)
   Si pos
   Pr [v,ov,iv] (setItem ov iv v)
   release [v,ov,iv] []):=by intro _;rfl):PG X (.Subscript o i pos) (Kj to ti t):=by
 intro pins s σ H v u Q I r h
 rw[ha]
 refine NN (wpAny_holding (thn (ho pins s σ H _ I h) λov s1 ⟨x,H1,I1,r1,q1⟩=>?_))
 refine NN (wpAny_holding (thn (hi pins s1 σ H1 _ I1 q1) λiv s2 ⟨y,H2,I2,r2,q2⟩=>?_))
 refine NN (RF (NN (wpAny_holding (thn (hs pins s2 σ H2 x y v ov iv u _ I2 r1 r2 r q2) λ_ s3 ⟨H3,I3,q3⟩=>?_))))
 exact wpAny_release ⟨σ,H3,I3,q3⟩
noncomputable def CA(te:TE)(g:TG):TS:=λD σ H=>te σ H λx H1=>g x σ H1 D.nx
theorem bo{tg e:Expr}{te:TE}{g:TG}(he:PE X e te)(hg:PG X tg g)(hs:swapsWithSole [tg] e pos.line X.env=pure false:=by rfl)(hw:swappedStores [tg] e X.env=pure Ua:=by rfl)
  (h1:(Qn [tg] X.env).map (·.2)=[assign tg X.env]:=by rfl):PS X (.Assign [tg] e pos) (CA te g):=by
 intro pins s σ H D I h
 refine wpAny_Assign_stores (thn (he pins s σ H _ I h) λv s1 ⟨x,H1,I1,r1,q1⟩=>?_) hs hw
 rw[h1]
 exact thn (hg pins s1 σ H1 x v _ I1 r1 q1) λ_ s2 q=>q
theorem HE{i:Nat}{x:Str}{e:Expr}{te:TE}{pos':Pos}(hN:X.N.Nodup)(hi:X.N[i]?=T9 x)(hx:Loc X.env.scope x)(he:PE X e te)(hs:Rr e (T9 (.Name x pos')) pos.line X.env=pure false:=by rfl)(hf:X.fn x=true\/X.env.scope.names.lookup x=T9 .local:=by first|exact .inl rfl|exact .inr rfl|assumption) :
  PS X (.Assign [.Name x pos'] e pos) (CA te (kf i)):=by
 intro pins s σ H D I h
 refine wpAny_Assign_Name (thn (he pins s σ H _ I h) λv s1 ⟨y,H1,I1,r1,q1⟩=>?_) hs
 exact qV I1 hN hi hx r1 (λs2 I2=>⟨_,H1,I2,q1⟩) hf
noncomputable def JV(i:Nat)(te:TE)(ti:TIp):TS:=λD σ H=>∃x,σ[i]?=T9 (T9 x)/\te σ H λy H1=>ti x y H1 λz H2=>D.nx (σ.set i (T9 z)) H2
theorem GD{i:Nat}{x:Str}{e:Expr}{te:TE}{op:Sh}{ti:TIp}{pos':Pos}(hN:X.N.Nodup)(hi:X.N[i]?=T9 x)(hx:Loc X.env.scope x)(he:PE X e te)(ho:PIp X op ti)(hf:X.fn x=true\/X.env.scope.names.lookup x=T9 .local:=by first|exact .inl rfl|exact .inr rfl|assumption) :
  PS X (.AugAssign (.Name x pos') op e pos) (JV i te ti):=by
 intro pins s σ H D I h
 obtain⟨v,e1,h⟩:=h
 obtain⟨m,hn,hl⟩:=I.loc
 have vis:Vis X.env.scope x:=by rcases hx with k|k;exact .inl k;exact .inr (.inl k)
 obtain⟨u,r,l⟩:=hl i x v hi e1 vis
 refine wpAny_AugAssign_Name ?_
 have go:wpAny (N0 X.prog X.w) X.A (OE e X.env) (λw s₂=>wpAny (N0 X.prog X.w) X.A (TV op u w) (λr s₃=>wpAny (N0 X.prog X.w) X.A (TU X.env x r) (λ_=>SP X pins D .next) X.xe s₃) X.xe s₂) X.xe s:=by
  refine thn (he pins s σ H _ I h) λw s1 ⟨y,H1,I1,r1,q1⟩=>?_;refine thn (ho pins s1 σ H1 v y u w _ I1 r r1 q1) λz s2 ⟨zv,H2,I2,r2,q2⟩=>?_;exact qV I2 hN hi hx r2 (λs3 I3=>⟨_,H2,I3,q2⟩) hf
 rcases l with⟨hk,hm⟩|⟨hk,c,hc,hcell⟩
 ·exact Q6 I.ok.kind hk hn hm go
 rcases hk with hk|hk
 ·exact RA I.ok.kind hk hc hcell go
 rcases hx with k|k
 ·have:X.env.scope.names.lookup x=T9 .free:=hk;rw[k]at this;cases this
 have:X.env.scope.names.lookup x=T9 .free:=hk
 rw[k]at this;cases this
noncomputable def ipI(f:Int->Int->Int):TIp:=λx y H Q=>∃i j,x=.int i/\y=.int j/\Q (.int (f i j)) H
theorem FH:PIp X .Add (ipI λi j=>i+j):=by
 intro pins s σ H x y v u Q I r1 r2 h;obtain⟨i,j,e1,e2,q⟩:=h;subst e1;subst e2;obtain⟨t,rfl⟩:=r1;obtain⟨t',rfl⟩:=r2;exact iadd_int ⟨.int _,H,I.tok _,⟨_,rfl⟩,q⟩
noncomputable def FF(c:TT)(tb:TS):TS:=λD σ H=>∃W:Nat->St->Hp->Prop,(∃m,W m σ H)/\∀m σ H,W m σ H->
 c σ H λb H1=>if b=true then ∃N:St->Hp->Prop,(∀σ' H',N σ' H'->∃m',m'<m/\W m' σ' H')/\tb { D with nx:=N,ct:=N,bk:=D.nx } σ H1 else D.nx σ H1
theorem vZ{c:Expr}{body:List Oj}{tc:TT}{tb:TS}(hp:PassesOwn (N0 X.prog X.w) X.A X.env X.xe)(hc:PT X c tc)(hb:PSs X body tb):PS X (.While c body [] pos) (FF tc tb):=by
 intro pins s σ H D I h;obtain⟨W,⟨m0,w0⟩,turn⟩:=h;refine wpAny_While (codeAny_whileLoop (λn s'=>∃σ' H',Inv X pins σ' H' s'/\W n σ' H') ?_ m0 ⟨σ,H,I,w0⟩);rintro n s1 ⟨σ1,H1,I1,w1⟩;refine OX hp (thn (hc pins s1 σ1 H1 _ I1 (turn n σ1 H1 w1)) λb s2 ⟨H2,I2,q2⟩=>?_);cases b with
 |true=>
  obtain⟨N,hN,q2⟩:=q2;rw[if_pos rfl];refine OX hp (thn (hb pins s2 σ1 H2 _ I2 q2) λf s3 q3=>?_);cases f with
  |next=>
   obtain⟨σ3,H3,I3,n3⟩:=q3;obtain⟨m',hm,w3⟩:=hN σ3 H3 n3;exact⟨m',hm,σ3,H3,I3,w3⟩
  |cont=>
   obtain⟨σ3,H3,I3,n3⟩:=q3;obtain⟨m',hm,w3⟩:=hN σ3 H3 n3;exact⟨m',hm,σ3,H3,I3,w3⟩
  |brk=>exact q3
  |ret v=>exact q3
 |false=>
  rw[if_neg KJ];exact P7 ⟨σ1,H2,I2,q2⟩
end
structure It where
 go:Nat->Hp->Prop
 yld:Nat->Hp->V->Hp->Prop
 stop:Nat->Hp->Prop
noncomputable def sL(X:Cx)(pins:List (NL×Obj))(H:Hp)(b:NL):Prop:=
 H b=Ua/\b≠X.env.locals/\b∉X.fs/\(b∈X.ex\/X.s₀.heap.objs.size<=b)/\(∀x c,X.env.cells.lookup x=T9 c->c≠b)/\∀p∈X.pn++pins,p.1≠b
theorem Inv.yJ{X:Cx}{pins:List (NL×Obj)}{σ:St}{H H':Hp}{s:NM}{b:NL}(I:Inv X pins σ H s)(hb:s.heap.objs.size<=b)(hn:H' b=Ua):sL X pins H' b:=by
 refine⟨hn,MK (KY I.lt hb),I.IU hb,.inr (KR I.sz hb),λx c e z=>?_,λp hp z=>?_⟩
 ·obtain⟨v,q⟩:=I.cell x c e;exact absurd (KY q.lt (by rw[z];exact hb)) (LQ _)
 exact absurd (KY (NY (I.pin p hp).1) (by rw[z];exact hb)) (LQ _)
structure UA(P:Program)(w:NW)(K:NO)(tg:Expr)(J:It)(fp:List NL)(it:NL)(tn:Nat->Oi->Prop):Prop where
 mem:it∈fp
 obj:∀i h,tn i h->∀b∈fp,∃o,h.get? b=T9 o/\∀v,o.data≠ .cell v
 keep:∀i h h',tn i h->(∀b∈fp,∀o,h.get? b=T9 o->h'.get? b=T9 o)->tn i h'
 item:∀(X:Cx),X.prog=P->X.w=w->X.K=K->X.calm=true->∀(i:Nat)(pins:List (NL×Obj))(s:NM)(σ:St)(H:Hp)(E:NK->NM->Prop),Inv X pins σ H s->(∀b∈fp,sL X pins H b)->tn i s.heap->J.go i H->
  wpAny (N0 P w) X.A (pyNext (.ref it)) (λr s1=>∃u,r=T9 u/\
   wpAny (N0 P w) X.A (P8 tg (.ref it) u) (λ_ s2=>∃x H',Inv X pins σ H' s2/\Ui x u/\J.yld i H x H'/\tn (i+1) s2.heap/\∀b∈fp,H' b=Ua) E s1) E s
 done:∀(X:Cx),X.prog=P->X.w=w->X.K=K->X.calm=true->∀(i:Nat)(pins:List (NL×Obj))(s:NM)(σ:St)(H:Hp)(E:NK->NM->Prop),Inv X pins σ H s->(∀b∈fp,sL X pins H b)->tn i s.heap->J.stop i H->
  wpAny (N0 P w) X.A (pyNext (.ref it)) (λr s1=>r=Ua/\Inv X pins σ H s1) E s
 self:∀(A:Oh)(i:Nat)(s:NM)(Q:NK->NM->Prop)(E:NK->NM->Prop),tn i s.heap->Q (.ref it) s->wpAny (N0 P w) A (pyIter (.ref it)) Q E s
noncomputable abbrev TI:=St->Hp->(It->Hp->Prop)->Prop
noncomputable def PIE(X:Cx)(pins:List (NL×Obj))(σ:St)(tg:Expr)(R:It->Hp->Prop)(itv:NK)(s2:NM):Prop:=
 ∃(it:NL)(fp:List NL)(tn:Nat->Oi->Prop)(J:It)(H':Hp),itv=.ref it/\Inv X pins σ H' s2/\UA X.prog X.w X.K tg J fp it tn/\tn 0 s2.heap/\(∀b∈fp,sL X pins H' b)/\R J H'
noncomputable def PI(X:Cx)(tg iter:Expr)(wi:TI):Prop:=
 ∀(pins:List (NL×Obj))(s:NM)(σ:St)(H:Hp)(R:It->Hp->Prop),Inv X pins σ H s->wi σ H R->
  wpAny (N0 X.prog X.w) X.A (OE iter X.env) (λv s1=>wpAny (N0 X.prog X.w) X.A (pyIter v) (PIE X pins σ tg R) X.xe s1) X.xe s
theorem zL{M:Model}{A:Oh}{E:NK->NM->Prop}{s:NM}{tg:Expr}{it:NL}{u:NK}{o:Obj}{n:String}{vs:Array NK}{Q:Unit->NM->Prop}(ho:s.heap.get? it=T9 o)(hc:o.cls=.type n)(hd:o.data=.fields vs)
    (hn:["enumerate","zip","dict_itemiterator","dict_reverseitemiterator","odict_iterator","itertools.zip_longest","itertools.pairwise"].contains n=false) (hQ:Q () s):wpAny M A (P8 tg (.ref it) u) Q E s:=by
  unfold P8
  cases tg<;>first
    |exact NU hQ
    | (cases u<;>first
        |exact NU hQ
        | (refine NN (wpAny_load ho ?_)
           rw[hc,hd]
           show wpAny M A (if(["enumerate","zip","dict_itemiterator","dict_reverseitemiterator","odict_iterator","itertools.zip_longest","itertools.pairwise"].contains n&&vs[0]?==T9 (SK _))=true then _ else _) Q E s
           rw[if_neg (by intro h;rw[hn,Nb]at h;cases h)]
           exact NU hQ))
noncomputable def Itl(K:NO)(a:NL):It:=
 ⟨λi H=>∃xs x,SqL K H a xs/\xs[i]?=T9 x,λi H x H'=>H'=H/\∀xs,SqL K H a xs->xs[i]?=T9 x,λi H=>∃xs,SqL K H a xs/\xs.length<=i⟩
noncomputable def Itt(K:NO)(a:NL):It:=
 ⟨λi H=>∃xs x,SqT K H a xs/\xs[i]?=T9 x,λi H x H'=>H'=H/\∀xs,SqT K H a xs->xs[i]?=T9 x,λi H=>∃xs,SqT K H a xs/\xs.length<=i⟩
noncomputable def Itr(lo:Int)(n:Nat):It:=⟨λi _=>i<n,λi H x H'=>H'=H/\x=.int (lo+i),λi _=>n<=i⟩
theorem Ay{P:Program}{w:NW}{K:NO}{tg:Expr}(a it:NL):UA P w K tg (Itl K a) [it] it (λi h=>h.IsListIter it a i) where
 mem:=by simp
 obj:=λi h st b hb=>by
  have e:b=it:=by simpa using hb
  subst e;obtain⟨o,e,c,d⟩:=st;exact⟨o,e,λv z=>by rw[d]at z;cases z⟩
 keep:=λi h h' st k=>st.at λo e=>k it (by simp) o e
 item:=by
  intro X hP hw hK hc i pins s σ H E I hf st hg;subst hP hw hK;obtain⟨xs,x,hq,hx⟩:=hg;obtain⟨its,rv,p,hz⟩:=I.list hq;obtain⟨u,hu,ru⟩:=rv.get hx;obtain⟨f0,f1,f2,f3,f4,f5⟩:=hf it (by simp);refine QP st p.isList (x:=u) (by simpa using hu) λh' st' sb=>?_;have I1:Inv X pins σ H { s with heap:=h' }:=I.turned (t':=s.toks) (λb o hb e=>(sb.2 b hb).trans e) f0 f1 f3 f4 f5;obtain⟨o,e,c,d⟩:=id st';exact⟨u,rfl,zL (s:={ s with heap:=h' }) e c d (by decide) ⟨x,H,I1,ru,⟨rfl,λys hy=>by rw[I.rF hy hq];exact hx⟩,st',λb hb=>(hf b hb).1⟩⟩
 done:=by
  intro X hP hw hK hc i pins s σ H E I hf st hg;subst hP hw hK;obtain⟨xs,hq,hx⟩:=hg;obtain⟨its,rv,p,hz⟩:=I.list hq;obtain⟨f0,f1,f2,f3,f4,f5⟩:=hf it (by simp);have hl:=rv.length;exact Q1 (I.ok.hd hc) st p.isList (by simp;omega) λh' eb=>⟨rfl,I.turned (t':=s.toks) (λb o hb e=>eb b o hb e) f0 f1 f3 f4 f5⟩
 self:=λ_ _ _ _ _ st h=>wpAny_pyIter_listiter st h
theorem yK{P:Program}{w:NW}{K:NO}{tg:Expr}(a it:NL):UA P w K tg (Itt K a) [it] it (λi h=>h.IsTupleIter it a i) where
 mem:=by simp
 obj:=λi h st b hb=>by
  have e:b=it:=by simpa using hb
  subst e;obtain⟨o,e,c,d⟩:=st;exact⟨o,e,λv z=>by rw[d]at z;cases z⟩
 keep:=λi h h' st k=>st.at λo e=>k it (by simp) o e
 item:=by
  intro X hP hw hK hc i pins s σ H E I hf st hg;subst hP hw hK;obtain⟨xs,x,hq,hx⟩:=hg;obtain⟨its,rv,p,hz⟩:=I.tuple hq;obtain⟨u,hu,ru⟩:=rv.get hx;obtain⟨f0,f1,f2,f3,f4,f5⟩:=hf it (by simp);refine wpAny_pyNext_tuple_item st (show s.heap.IsTuple a its.toArray from p) (x:=u) (by simpa using hu) λh' st' sb=>?_;have I1:Inv X pins σ H { s with heap:=h' }:=I.turned (t':=s.toks) (λb o hb e=>(sb.2 b hb).trans e) f0 f1 f3 f4 f5;obtain⟨o,e,c,d⟩:=id st';exact⟨u,rfl,zL (s:={ s with heap:=h' }) e c d (by decide) ⟨x,H,I1,ru,⟨rfl,λys hy=>by rw[I.AJ hy hq];exact hx⟩,st',λb hb=>(hf b hb).1⟩⟩
 done:=by
  intro X hP hw hK hc i pins s σ H E I hf st hg;subst hP hw hK;obtain⟨xs,hq,hx⟩:=hg;obtain⟨its,rv,p,hz⟩:=I.tuple hq;obtain⟨f0,f1,f2,f3,f4,f5⟩:=hf it (by simp);have hl:=rv.length;exact wpAny_pyNext_tuple_end (I.ok.hd hc) st (show s.heap.IsTuple a its.toArray from p) (by simp;omega) λh' eb=>⟨rfl,I.turned (t':=s.toks) (λb o hb e=>eb b o hb e) f0 f1 f3 f4 f5⟩
 self:=λ_ _ _ _ _ st h=>wpAny_pyIter_tupleiter st h
theorem yg{P:Program}{w:NW}{K:Qe}{tg:Expr}(it:NL)(lo:Int)(n:Nat):UA P w K tg (Itr lo n) [it] it (λi h=>IsRangeIter h it (lo+(i:Nat)*1) ((n:Int)-(i:Nat)) 1) where
 mem:=by simp
 obj:=λi h st b hb=>by
  have e:b=it:=by simpa using hb
  subst e;exact⟨_,st,λv z=>by
   have z':Data.fields _=SM v:=z;cases z'⟩
 keep:=λi h h' st k=>k it (by simp) _ st
 item:=by
  intro X hP hw hK hc i pins s σ H E I hf st hg;subst hP hw hK;obtain⟨f0,f1,f2,f3,f4,f5⟩:=hf it (by simp);have W:=Walks.range (prog:=X.prog) (w:=X.w) (I.ok.hd hc) it lo 1 n;refine W.item i s _ _ hg st λv h' tk hv st' kk=>?_;obtain⟨t,rfl⟩:=hv;have I1:Inv X pins σ H { s with heap:=h',toks:=tk }:=I.turned (λb o hb e=>kk b o (by simpa using hb) e) f0 f1 f3 f4 f5;refine⟨_,rfl,zL (s:={ s with heap:=h',toks:=tk }) (n:="range_iterator") st' rfl rfl (by decide) ⟨.int (lo+i),H,I1,⟨t,?_⟩,⟨rfl,rfl⟩,st',λb hb=>(hf b hb).1⟩⟩;rw[Int.mul_one]
 done:=by
  intro X hP hw hK hc i pins s σ H E I hf st hg;subst hP hw hK;obtain⟨f0,f1,f2,f3,f4,f5⟩:=hf it (by simp);exact wpAny_pyNext_range_end (I.ok.hd hc) st (by have:n<=i:=hg;omega) λh' eb=>⟨rfl,I.turned (t':=s.toks) (λb o hb e=>eb b o hb e) f0 f1 f3 f4 f5⟩
 self:=λ_ _ _ _ _ st h=>wpAny_pyIter_rangeiter st h
section
variable{X:Cx}{tg:Expr}
theorem BY{pins:List (NL×Obj)}{σ:St}{H:Hp}{s:NM}{R:It->Hp->Prop}{E:NK->NM->Prop}{lo hi:Int}{t u v:Tok}{tk:Nat}(I:Inv X pins σ H s)(h1:-(2^62)<=lo)(h2:lo<2^62)(h3:-(2^62)<=hi)(h4:hi<2^62)
  (q:R (Itr lo (hi-lo).toNat) H):wpAny (N0 X.prog X.w) X.A (pyIter (.ref s.heap.objs.size)) (PIE X pins σ tg R) E { s with heap:=s.heap.push { cls:=.type "range",data:=.fields #[.int lo t,.int hi u,.int 1 v] },toks:=tk }:=by
 refine wpAny_pyIter_range (IsRange.new ..) (small_one h1 h2 h3 h4) ?_
 have I1:Inv X pins σ H { s with heap:=s.heap.push { cls:=.type "range",data:=.fields #[.int lo t,.int hi u,.int 1 v] },toks:=tk }:=I.kept λb o e=>NQ _ e
 refine⟨(s.heap.push { cls:=.type "range",data:=.fields #[.int lo t,.int hi u,.int 1 v] }).objs.size,[(s.heap.push { cls:=.type "range",data:=.fields #[.int lo t,.int hi u,.int 1 v] }).objs.size],_,_,H,rfl,
  I1.kept (t':=tk) λb o e=>NQ _ e,yg _ lo (hi-lo).toNat,?_,λb hb=>?_,q⟩
 ·have e1:lo+((0:Nat):Int)*1=lo:=by simp
  have e2:(((hi-lo).toNat:Nat):Int)-((0:Nat):Int)=Builtin.Range.rangeSize lo hi 1:=by rw[rangeSize_one];split<;>omega
  show IsRangeIter _ _ (lo+((0:Nat):Int)*1) ((((hi-lo).toNat:Nat):Int)-((0:Nat):Int)) 1;rw[e1,e2];exact Ob _ rfl
 have e:b=(s.heap.push { cls:=.type "range",data:=.fields #[.int lo t,.int hi u,.int 1 v] }).objs.size:=by simpa using hb
 subst e
 exact I1.yJ (KD _) (I1.hok.fresh (KD _))
inductive Ic(vs:List V)(H:Hp)(R:It->Hp->Prop):Prop
 |mk(j:Int)(h0:vs=[.int j])(h1:-(2^62)<=j)(h2:j<2^62)(q:R (Itr 0 j.toNat) H):Ic vs H R
noncomputable def Ig(ta:TA):TI:=λσ H R=>ta σ H λvs H1=>Ic vs H1 R
theorem hZ{a:Expr}{ta:TA}{p pos:Pos}(hg:Gl X "range")(hm:X.mg "range"=Ua)(ha:PA X [a] ta)(hs:NX [a] X.env=[(false,OE a X.env)]:=by rfl):PI X tg (.Call (.Name "range" p) [a] [] pos) (Ig ta):=by
 intro pins s σ H R I h;refine Call_ (rL I hg hm boot_range (Pd (thn (ha pos pins s σ H _ I h) λus s1 ⟨vs,H1,I1,r1,q1⟩=>?_) hs rfl));obtain⟨j,e,q1,q2,q⟩:=q1;subst e;cases r1 with
 |cons r rr=>
  cases rr;obtain⟨t,rfl⟩:=r;exact call_range_1 (BY I1 (by omega) (by omega) q1 q2 (by simpa using q))
noncomputable def J0(wi:TI)(g:TG)(tb:TS):TS:=λD σ H=>wi σ H λJ H1=>∃W:Nat->Nat->St->Hp->Prop,(∃m,W 0 m σ H1)/\∀i m σ H,W i m σ H->
 (J.stop i H/\D.nx σ H)\/(J.go i H/\∃N:St->Hp->Prop,(∀σ' H',N σ' H'->∃m',m'<m/\W (i+1) m' σ' H')/\∀x H',J.yld i H x H'->g x σ H' λσ2 H2=>tb { D with nx:=N,ct:=N,bk:=D.nx } σ2 H2)
noncomputable def rG(fp:List NL)(h:Oi):List (NL×Obj):=fp.filterMap λb=>(h.get? b).map λo=>(b,o)
theorem kL{fp:List NL}{h:Oi}{b:NL}{o:Obj}(hb:b∈fp)(e:h.get? b=T9 o):(b,o)∈rG fp h:=Nf.mpr ⟨b,hb,by rw[e];rfl⟩
theorem AA{fp:List NL}{h:Oi}{p:NL×Obj}(hp:p∈rG fp h):p.1∈fp/\h.get? p.1=T9 p.2:=by
 obtain⟨b,hb,e⟩:=Nf.mp hp;cases q:h.get? b with
 |none=>rw[q]at e;cases e
 |some o=>
  rw[q]at e;have e':(b,o)=p:=NP e;subst e';exact⟨hb,q⟩
theorem Inv.pinned{pins:List (NL×Obj)}{σ:St}{H:Hp}{s:NM}{fp:List NL}(I:Inv X pins σ H s)(hf:∀b∈fp,sL X pins H b)(ho:∀b∈fp,∃o,s.heap.get? b=T9 o/\∀v,o.data≠ .cell v):Inv X (pins++rG fp s.heap) σ H s:=
 I.vK λp hp=>(Kz.mp hp).elim (λz=>I.pin p (KQ _ z)) λz=>by
  obtain⟨hb,e⟩:=AA z;obtain⟨f0,f1,f2,_⟩:=hf p.1 hb;obtain⟨o,e',d⟩:=ho p.1 hb;rw[e]at e';cases e';exact⟨e,f0,f1,f2,d⟩
theorem Inv.my{pins pl:List (NL×Obj)}{σ:St}{H:Hp}{s:NM}(I:Inv X (pins++pl) σ H s):Inv X pins σ H s:=I.vK λp hp=>I.pin p (KQ _ (Lj _ hp))
theorem df{iter:Expr}{body:List Oj}{wi:TI}{g:TG}{tb:TS}{pos:Pos}(hp:PassesOwn (N0 X.prog X.w) X.A X.env X.xe)(hc:X.calm=true)(hi:PI X tg iter wi)(hg:PG X tg g)(hb:PSs X body tb)
  (hs:∀x,foldedSetIterable iter X.env x=pure x:=by intro _;rfl):PS X (.For tg iter body [] pos) (J0 wi g tb):=by
 intro pins s σ H D I h
 refine wpAny_For (thn (hi pins s σ H _ I h) λv s1 h1=>thn h1 λitv s2 h2=>?_) hs
 obtain⟨it,fp,tn,J,H2,e,I2,T,st2,f2,W,⟨m0,w0⟩,turn⟩:=h2
 subst e
 have stat:∀{H':Hp},(∀b∈fp,H' b=Ua)->∀b∈fp,sL X pins H' b:=λhn b hb=>⟨hn b hb,(f2 b hb).2⟩
 refine codeAny_forLoop_any (λn s'=>∃i σ' H',Inv X pins σ' H' s'/\tn i s'.heap/\(∀b∈fp,H' b=Ua)/\W i n σ' H') ?_ m0 ⟨0,σ,H2,I2,st2,λb hb=>(f2 b hb).1,w0⟩
 rintro n s3 ⟨i,σ3,H3,I3,st3,fr3,w3⟩
 rcases turn i n σ3 H3 w3 with⟨stop,qn⟩|⟨go,N,hN,step⟩
 ·refine OX hp (thn (T.done X rfl rfl rfl hc i pins s3 σ3 H3 X.xe I3 (stat fr3) st3 stop) λr s4 ⟨hr,I4⟩=>?_);subst hr;exact P7 ⟨σ3,H3,I4,qn⟩
 refine OX hp (thn (T.item X rfl rfl rfl hc i pins s3 σ3 H3 X.xe I3 (stat fr3) st3 go) λr s4 ⟨u,hr,h4⟩=>?_)
 subst hr
 refine OX hp (thn h4 λ_ s5 ⟨x,H5,I5,r5,y5,st5,fr5⟩=>?_)
 have I5':=I5.pinned (stat fr5) (T.obj _ _ st5)
 refine OX hp (thn (hg _ s5 σ3 H5 x u _ I5' r5 (step x H5 y5)) λ_ s6 ⟨σ6,H6,I6,q6⟩=>?_)
 refine OX hp (thn (hb _ s6 σ6 H6 _ I6 q6) λf s7 q7=>?_)
 have again:∀{σ7:St}{H7:Hp},Inv X (pins++rG fp s5.heap) σ7 H7 s7->N σ7 H7->∃m,m<n/\∃i σ' H',Inv X pins σ' H' s7/\tn i s7.heap/\(∀b∈fp,H' b=Ua)/\W i m σ' H':=λ{σ7 H7} I7 n7=>by
  obtain⟨m',hm,w7⟩:=hN σ7 H7 n7;refine⟨m',hm,i+1,σ7,H7,I7.my,T.keep _ _ _ st5 λb hb o e=>(I7.pin (b,o) (KQ _ (KQ _ (kL hb e)))).1,λb hb=>?_,w7⟩;obtain⟨o,e,d⟩:=T.obj _ _ st5 b hb;exact(I7.pin (b,o) (KQ _ (KQ _ (kL hb e)))).2.1
 cases f with
 |next=>obtain⟨σ7,H7,I7,n7⟩:=q7;exact again I7 n7
 |cont=>obtain⟨σ7,H7,I7,n7⟩:=q7;exact again I7 n7
 |brk=>obtain⟨σ7,H7,I7,q7⟩:=q7;exact⟨σ7,H7,I7.my,q7⟩
 |ret v=>obtain⟨x7,σ7,H7,I7,r7,q7⟩:=q7;exact⟨x7,σ7,H7,I7.my,r7,q7⟩
end
theorem cL{K:Qe}{a:NL}{xs:List V}{g:TG}{tb:TS}{D:Uw}{σ:St}{H:Hp}(Pv:Nat->St->Hp->Prop)(h0:Pv 0 σ H)(hl:∀i σ H,i<=xs.length->Pv i σ H->SqL K H a xs)
  (hs:∀i x σ H,xs[i]?=T9 x->Pv i σ H->g x σ H λσ2 H2=>tb { D with nx:=Pv (i+1),ct:=Pv (i+1),bk:=D.nx } σ2 H2) (hd:∀σ H,Pv xs.length σ H->D.nx σ H) :
  ∃W:Nat->Nat->St->Hp->Prop,(∃m,W 0 m σ H)/\∀i m σ H,W i m σ H->
   ((Itl K a).stop i H/\D.nx σ H)\/((Itl K a).go i H/\∃N:St->Hp->Prop,(∀σ' H',N σ' H'->∃m',m'<m/\W (i+1) m' σ' H')/\∀x H',(Itl K a).yld i H x H'->g x σ H' λσ2 H2=>tb { D with nx:=N,ct:=N,bk:=D.nx } σ2 H2):=by
 refine⟨λi m σ H=>m=xs.length-i/\i<=xs.length/\Pv i σ H,⟨xs.length,by simp,KW _,h0⟩,?_⟩
 rintro i m σ H ⟨rfl,hi,p⟩
 have q:=hl i σ H hi p
 by_cases hlt:i<xs.length
 ·refine .inr ⟨⟨xs,xs[i],q,by simp[hlt]⟩,Pv (i+1),λσ' H' p'=>⟨xs.length-(i+1),by omega,rfl,hlt,p'⟩,λx H' y=>?_⟩;obtain⟨e,y⟩:=y;subst e;exact hs i x σ _ (y xs q) p
 have e:i=xs.length:=by omega
 subst e
 exact .inl ⟨⟨xs,q,KD _⟩,hd σ H p⟩
theorem mY{lo:Int}{n:Nat}{g:TG}{tb:TS}{D:Uw}{σ:St}{H:Hp}(Pv:Nat->St->Hp->Prop)(h0:Pv 0 σ H)
  (hs:∀i σ H,i<n->Pv i σ H->g (.int (lo+i)) σ H λσ2 H2=>tb { D with nx:=Pv (i+1),ct:=Pv (i+1),bk:=D.nx } σ2 H2) (hd:∀σ H,Pv n σ H->D.nx σ H) :
  ∃W:Nat->Nat->St->Hp->Prop,(∃m,W 0 m σ H)/\∀i m σ H,W i m σ H->
   ((Itr lo n).stop i H/\D.nx σ H)\/((Itr lo n).go i H/\∃N:St->Hp->Prop,(∀σ' H',N σ' H'->∃m',m'<m/\W (i+1) m' σ' H')/\∀x H',(Itr lo n).yld i H x H'->g x σ H' λσ2 H2=>tb { D with nx:=N,ct:=N,bk:=D.nx } σ2 H2):=by
 refine⟨λi m σ H=>m=n-i/\i<=n/\Pv i σ H,⟨n,by simp,KW _,h0⟩,?_⟩
 rintro i m σ H ⟨rfl,hi,p⟩
 by_cases hlt:i<n
 ·refine .inr ⟨hlt,Pv (i+1),λσ' H' p'=>⟨n-(i+1),by omega,rfl,hlt,p'⟩,λx H' y=>?_⟩;obtain⟨e,y⟩:=y;subst e y;exact hs i σ _ hlt p
 have e:i=n:=by omega
 subst e
 exact .inl ⟨KD _,hd σ H p⟩
noncomputable abbrev R2:=V->V->Hp->VK->Prop
noncomputable def OpR(X:Cx)(f:NK->NK->Sem NK)(r:R2):Prop:=
 ∀(pins:List (NL×Obj))(s:NM)(σ:St)(H:Hp)(x y:V)(v u:NK)(Q:VK),Inv X pins σ H s->Ui x v->Ui y u->r x y H Q->
  wpAny (N0 X.prog X.w) X.A (f v u) (EP X pins σ Q) X.xe s
noncomputable def UnR(X:Cx)(f:NK->Sem NK)(r:V->Hp->VK->Prop):Prop:=
 ∀(pins:List (NL×Obj))(s:NM)(σ:St)(H:Hp)(x:V)(v:NK)(Q:VK),Inv X pins σ H s->Ui x v->r x H Q->
  wpAny (N0 X.prog X.w) X.A (f v) (EP X pins σ Q) X.xe s
noncomputable def dE(X:Cx)(f:NK)(r:List V->Hp->VK->Prop):Prop:=
 ∀(pins:List (NL×Obj))(s:NM)(σ:St)(H:Hp)(xs:List V)(us:List NK)(Q:VK),Inv X pins σ H s->Ug xs us->r xs H Q->
  wpAny (N0 X.prog X.w) X.A (call f us) (EP X pins σ Q) X.xe s
noncomputable def JZ(X:Cx)(r:V->Hp->(Bool->Hp->Prop)->Prop):Prop:=
 ∀(pins:List (NL×Obj))(s:NM)(σ:St)(H:Hp)(x:V)(v:NK)(Q:Bool->Hp->Prop),Inv X pins σ H s->Ui x v->r x H Q->
  wpAny (N0 X.prog X.w) X.A (truthy v) (TP X pins σ Q) X.xe s
noncomputable def tOp(r:R2)(ta tb:TE):TE:=λσ H Q=>ta σ H λx H1=>tb σ H1 λy H2=>r x y H2 Q
noncomputable def tUn(r:V->Hp->VK->Prop)(ta:TE):TE:=λσ H Q=>ta σ H λx H1=>r x H1 Q
noncomputable def rI(C:Int->Int->Prop)(g:Int->Int->V):R2:=λx y H Q=>∃i j,x=.int i/\y=.int j/\C i j/\Q (g i j) H
noncomputable def rI0(g:Int->Int->V):R2:=λx y H Q=>∃i j,x=.int i/\y=.int j/\Q (g i j) H
noncomputable def rU(g:Int->V):V->Hp->VK->Prop:=λx H Q=>∃i,x=.int i/\Q (g i) H
section
variable{X:Cx}{a b c:Expr}{ta tb tc:TE}{pos:Pos}
theorem HX(ha:PE X a ta)(hb:PE X b tb){pins:List (NL×Obj)}{s:NM}{σ:St}{H:Hp}{R:V->V->Hp->Prop}(I:Inv X pins σ H s)
  (h:ta σ H λx H1=>tb σ H1 λy H2=>R x y H2) {Q:NK->NM->Prop}{f:NK->NK->Sem NK}
  (hf:∀v u s2 x y H2,Inv X pins σ H2 s2->Ui x v->Ui y u->R x y H2->wpAny (N0 X.prog X.w) X.A (f v u) Q X.xe s2) :
  wpAny (N0 X.prog X.w) X.A (OE a X.env) (λv s₁=>wpAny (N0 X.prog X.w) X.A (OE b X.env) (λu s₂=>wpAny (N0 X.prog X.w) X.A (f v u) Q X.xe s₂) X.xe s₁) X.xe s:=by
 refine thn (ha pins s σ H _ I h) λv s1 ⟨x,H1,I1,r1,q1⟩=>?_
 refine thn (hb pins s1 σ H1 _ I1 q1) λu s2 ⟨y,H2,I2,r2,q2⟩=>?_
 exact hf v u s2 x y H2 I2 r1 r2 q2
theorem aw{op:Sh}{r:R2}(ho:OpR X (OG op) r)(ha:PE X a ta)(hb:PE X b tb):PE X (.BinOp a op b pos) (tOp r ta tb):=by
 intro pins s σ H Q I h;exact wpAny_BinOp (HX ha hb I h λv u s2 x y H2 I2 rx ry q=>ho pins s2 σ H2 x y v u Q I2 rx ry q)
theorem jq{op:UnaryOp}{r:V->Hp->VK->Prop}(ho:UnR X (unaryOp op) r)(ha:PE X a ta):PE X (.UnaryOp op a pos) (tUn r ta):=by
 intro pins s σ H Q I h;exact UnaryOp_ (thn (ha pins s σ H _ I h) λv s1 ⟨x,H1,I1,r1,q1⟩=>ho pins s1 σ H1 x v Q I1 r1 q1)
theorem opI{f:NK->NK->Sem NK}{C:Int->Int->Prop}{g:Int->Int->Int}
  (rule:∀(i j:Int)(t u:Tok)(s:NM)(Q:NK->NM->Prop)(E:NK->NM->Prop),C i j->Q (.int (g i j) s.toks) { s with toks:=s.toks+1 }->wpAny (N0 X.prog X.w) X.A (f (.int i t) (.int j u)) Q E s) :
  OpR X f (rI C λi j=>.int (g i j)):=by
 intro pins s σ H x y v u Q I rx ry h
 obtain⟨i,j,rfl,rfl,hc,q⟩:=h
 obtain⟨t,rfl⟩:=rx
 obtain⟨t',rfl⟩:=ry
 exact rule i j t t' s _ _ hc ⟨.int (g i j),H,I.tok _,⟨_,rfl⟩,q⟩
theorem IS{f:NK->NK->Sem NK}{g:Int->Int->Int}
  (rule:∀(i j:Int)(t u:Tok)(s:NM)(Q:NK->NM->Prop)(E:NK->NM->Prop),Q (.int (g i j) s.toks) { s with toks:=s.toks+1 }->wpAny (N0 X.prog X.w) X.A (f (.int i t) (.int j u)) Q E s) :
  OpR X f (rI0 λi j=>.int (g i j)):=by
 intro pins s σ H x y v u Q I rx ry h
 obtain⟨i,j,rfl,rfl,q⟩:=h
 obtain⟨t,rfl⟩:=rx
 obtain⟨t',rfl⟩:=ry
 exact rule i j t t' s _ _ ⟨.int (g i j),H,I.tok _,⟨_,rfl⟩,q⟩
theorem DC{f:NK->NK->Sem NK}{g:Int->Int->Bool}
  (rule:∀(i j:Int)(t u:Tok)(s:NM)(Q:NK->NM->Prop)(E:NK->NM->Prop),Q (.bool (g i j)) s->wpAny (N0 X.prog X.w) X.A (f (.int i t) (.int j u)) Q E s) :
  OpR X f (rI0 λi j=>.bl (g i j)):=by
 intro pins s σ H x y v u Q I rx ry h
 obtain⟨i,j,rfl,rfl,q⟩:=h
 obtain⟨t,rfl⟩:=rx
 obtain⟨t',rfl⟩:=ry
 exact rule i j t t' s _ _ ⟨.bl (g i j),H,I,rfl,q⟩
noncomputable def Jr(i j:Int):Prop:=0<=j/\j<=1000000/\i.natAbs<2^64
noncomputable def CI(i j:Int):Prop:=(-(2^64)<i/\i<2^64)\/(-(2^64)<j/\j<2^64)
theorem CI.ok{i j:Int}(h:CI i j):IntMulOk i j:=by
 rcases h with⟨h1,h2⟩|⟨h1,h2⟩
 ·exact .of_left (intBits_le_64 h1 h2)
 exact .of_right (intBits_le_64 h1 h2)
theorem yq(k:Nat):(0:Int)<=2^k:=by
 rw[two_pow_cast];exact Int.natCast_nonneg _
theorem Gh:OpR X (OG .Add) (rI0 λi j=>.int (i+j)):=IS λ_ _ _ _ _ _ _ q=>add_int q
theorem Gp:OpR X (OG .Sub) (rI0 λi j=>.int (i-j)):=IS λ_ _ _ _ _ _ _ q=>sub_int q
theorem G7:OpR X (OG .Mult) (rI CI λi j=>.int (i*j)):=opI λ_ _ _ _ _ _ _ hc q=>mul_int q hc.ok
theorem F9:OpR X (OG .Mod) (rI (λ_ j=>0<j) λi j=>.int (i%j)):=opI λi j _ _ _ _ _ hc q=>by
 have h1:(0:Int)<j:=hc;exact mod_int' (by omega) (by rw[Int.fmod_eq_emod_of_nonneg i (by omega)];exact q)
theorem G4:OpR X (OG .Pow) (rI Jr λi j=>.int (i^j.toNat)):=opI λ_ _ _ _ _ _ _ hc q=>pow_int_small hc.1 hc.2.1 hc.2.2 q
theorem F8:OpR X (OG .RShift) (rI (λ_ j=>0<=j) λi j=>.int (i/2^j.toNat)):=opI λi j _ _ _ _ _ hc q=>
 rshift_int hc (by rw[Qo i (yq _)];exact q)
theorem unI{f:NK->Sem NK}{g:Int->Int}
  (rule:∀(i:Int)(t:Tok)(s:NM)(Q:NK->NM->Prop)(E:NK->NM->Prop),Q (.int (g i) s.toks) { s with toks:=s.toks+1 }->wpAny (N0 X.prog X.w) X.A (f (.int i t)) Q E s) :
  UnR X f (rU λi=>.int (g i)):=by
 intro pins s σ H x v Q I rx h
 obtain⟨i,rfl,q⟩:=h
 obtain⟨t,rfl⟩:=rx
 exact rule i t s _ _ ⟨.int (g i),H,I.tok _,⟨_,rfl⟩,q⟩
theorem fw:UnR X (unaryOp .USub) (rU λi=>.int (-i)):=unI λ_ _ _ _ _ q=>neg_int q
end
noncomputable def AH:V->V->Bool
 | .non,.non=>true| .non,.int _=>true| .int _,.non=>true| .non,.bl _=>true| .bl _,.non=>true| .non,.str _=>true| .str _,.non=>true
 | .int _,.int _=>true| .bl _,.bl _=>true| .str _,.str _=>true| .byt _,.byt _=>true
 | .int _,.str _=>true| .str _,.int _=>true| .bl _,.str _=>true| .str _,.bl _=>true
 |_,_=>false
noncomputable def rEq:R2:=λx y H Q=>AH x y=true/\Q (.bl (decide (x=y))) H
noncomputable def rNe:R2:=λx y H Q=>AH x y=true/\Q (.bl (!decide (x=y))) H
theorem zV{i j:Int}:decide (V.int i=V.int j)=(i==j):=by
 rw[LP];simp
theorem Bh{i j:Bool}:decide (V.bl i=V.bl j)=(i==j):=by
 rw[LP];simp
theorem zB{i j:Str}:decide (V.str i=V.str j)=(i==j):=by
 rw[LP];simp
theorem Af{i j:Array UInt8}:decide (V.byt i=V.byt j)=(i.toList==j.toList):=by
 rw[LP];cases i;cases j;simp
section
variable{X:Cx}{a b c:Expr}{ta tb tc:TE}{pos:Pos}
theorem bO{pins:List (NL×Obj)}{σ:St}{H:Hp}{s:NM}{Q:VK}{k k':Bool}(I:Inv X pins σ H s)(q:Q (.bl k) H)(e:k=k'):EP X pins σ Q (.bool k') s:=by
 subst e;exact⟨.bl k,H,I,rfl,q⟩
theorem Jo:OpR X (Oe .Eq) rEq:=by
 intro pins s σ H x y v u Q I rx ry h;obtain⟨hs,q⟩:=h;cases x with
 |non=>
  cases rx;cases y with
  |non=>cases ry;exact PySem.EqNone.eq_none_none (bO I q (by simp))
  |bl j=>cases ry;exact PySem.EqNone.eq_none_bool (bO I q (by simp))
  |int j=>obtain⟨t',rfl⟩:=ry;exact PySem.EqNone.eq_none_int (bO I q (by simp))
  |str j=>obtain⟨t',rfl⟩:=ry;exact PySem.EqNone.eq_none_str (bO I q (by simp))
  |_=>exact absurd (show false=true from hs) KJ
 |bl i=>
  cases rx;cases y with
  |non=>cases ry;exact PySem.EqNone.eq_bool_none (bO I q (by simp))
  |bl j=>cases ry;exact eq_bool (bO I q Bh)
  |str j=>obtain⟨t',rfl⟩:=ry;exact PySem.EqMixed.eq_bool_str (bO I q (by simp))
  |_=>exact absurd (show false=true from hs) KJ
 |int i=>
  obtain⟨t,rfl⟩:=rx;cases y with
  |non=>cases ry;exact PySem.EqNone.eq_int_none (bO I q (by simp))
  |int j=>obtain⟨t',rfl⟩:=ry;exact eq_int (bO I q zV)
  |str j=>obtain⟨t',rfl⟩:=ry;exact PySem.EqMixed.eq_int_str (bO I q (by simp))
  |_=>exact absurd (show false=true from hs) KJ
 |str i=>
  obtain⟨t,rfl⟩:=rx;cases y with
  |non=>cases ry;exact PySem.EqNone.eq_str_none (bO I q (by simp))
  |bl j=>cases ry;exact PySem.EqMixed.eq_str_bool (bO I q (by simp))
  |int j=>obtain⟨t',rfl⟩:=ry;exact PySem.EqMixed.eq_str_int (bO I q (by simp))
  |str j=>obtain⟨t',rfl⟩:=ry;exact eq_str (bO I q zB)
  |_=>exact absurd (show false=true from hs) KJ
 |byt i=>
  obtain⟨t,rfl⟩:=rx;cases y with
  |byt j=>obtain⟨t',rfl⟩:=ry;exact W.eq_bytes (bO I q Af)
  |_=>exact absurd (show false=true from hs) KJ
 |_=>cases y<;>exact absurd (show false=true from hs) KJ
theorem Ih:OpR X (Oe .NotEq) rNe:=by
 intro pins s σ H x y v u Q I rx ry h;obtain⟨hs,q⟩:=h;cases x with
 |non=>
  cases rx;cases y with
  |non=>cases ry;exact PySem.EqNone.ne_none_none (bO I q (by simp))
  |bl j=>cases ry;exact PySem.EqNone.ne_none_bool (bO I q (by simp))
  |int j=>obtain⟨t',rfl⟩:=ry;exact PySem.EqNone.ne_none_int (bO I q (by simp))
  |str j=>obtain⟨t',rfl⟩:=ry;exact PySem.EqNone.ne_none_str (bO I q (by simp))
  |_=>exact absurd (show false=true from hs) KJ
 |bl i=>
  cases rx;cases y with
  |non=>cases ry;exact PySem.EqNone.ne_bool_none (bO I q (by simp))
  |bl j=>cases ry;exact ne_bool (bO I q (congrArg not Bh))
  |str j=>obtain⟨t',rfl⟩:=ry;exact PySem.EqMixed.ne_bool_str (bO I q (by simp))
  |_=>exact absurd (show false=true from hs) KJ
 |int i=>
  obtain⟨t,rfl⟩:=rx;cases y with
  |non=>cases ry;exact PySem.EqNone.ne_int_none (bO I q (by simp))
  |int j=>obtain⟨t',rfl⟩:=ry;exact ne_int (bO I q (congrArg not zV))
  |str j=>obtain⟨t',rfl⟩:=ry;exact PySem.EqMixed.ne_int_str (bO I q (by simp))
  |_=>exact absurd (show false=true from hs) KJ
 |str i=>
  obtain⟨t,rfl⟩:=rx;cases y with
  |non=>cases ry;exact PySem.EqNone.ne_str_none (bO I q (by simp))
  |bl j=>cases ry;exact PySem.EqMixed.ne_str_bool (bO I q (by simp))
  |int j=>obtain⟨t',rfl⟩:=ry;exact PySem.EqMixed.ne_str_int (bO I q (by simp))
  |str j=>obtain⟨t',rfl⟩:=ry;exact ne_str (bO I q (congrArg not zB))
  |_=>exact absurd (show false=true from hs) KJ
 |byt i=>
  obtain⟨t,rfl⟩:=rx;cases y with
  |byt j=>obtain⟨t',rfl⟩:=ry;exact W.ne_bytes (bO I q (congrArg not Af))
  |_=>exact absurd (show false=true from hs) KJ
 |_=>cases y<;>exact absurd (show false=true from hs) KJ
theorem IQ:OpR X (Oe .Lt) (rI0 λi j=>.bl (decide (i<j))):=DC λ_ _ _ _ _ _ _ q=>lt_int q
theorem IM:OpR X (Oe .LtE) (rI0 λi j=>.bl (decide (i<=j))):=DC λ_ _ _ _ _ _ _ q=>le_int q
theorem Ij:OpR X (Oe .Gt) (rI0 λi j=>.bl (decide (j<i))):=DC λ_ _ _ _ _ _ _ q=>gt_int q
theorem Ir:OpR X (Oe .GtE) (rI0 λi j=>.bl (decide (j<=i))):=DC λ_ _ _ _ _ _ _ q=>ge_int q
theorem Aq:OpR X (Oe .In) (λx y H Q=>∃i j,x=.str i/\y=.str j/\Q (.bl (!(ON j i 0 j.length 1).isEmpty)) H):=by
 intro pins s σ H x y v u Q I rx ry h;obtain⟨i,j,rfl,rfl,q⟩:=h;obtain⟨t,rfl⟩:=rx;obtain⟨t',rfl⟩:=ry;exact in_str (bO I q rfl)
theorem HM:OpR X (Oe .Is) (λx y H Q=>y=.non/\Q (.bl (decide (x=.non))) H):=by
 intro pins s σ H x y v u Q I rx ry h;obtain⟨rfl,q⟩:=h;cases ry;refine is_none_gen (bO I q ?_);cases x<;>first
  | (cases rx;rfl)
  | (obtain⟨t,rfl⟩:=rx;rfl)
theorem EX:OpR X (Oe .IsNot) (λx y H Q=>y=.non/\Q (.bl (!decide (x=.non))) H):=by
 intro pins s σ H x y v u Q I rx ry h;obtain⟨rfl,q⟩:=h;cases ry;refine isnot_none_gen (bO I q ?_);cases x<;>first
  | (cases rx;rfl)
  | (obtain⟨t,rfl⟩:=rx;rfl)
theorem OpR.or{f:NK->NK->Sem NK}{r r':R2}(h:OpR X f r)(h':OpR X f r'):OpR X f (λx y H Q=>r x y H Q\/r' x y H Q):=by
 intro pins s σ H x y v u Q I rx ry q;rcases q with q|q
 ·exact h pins s σ H x y v u Q I rx ry q
 exact h' pins s σ H x y v u Q I rx ry q
theorem Dj(b:Expr){op:CmpOp}(h:op≠ .In:=by decide)(h2:op≠ .NotIn:=by decide):Pn op b=false:=by
 have e1:(op==CmpOp.In)=false:=by cases op<;>first|rfl|exact absurd rfl h
 have e2:(op==CmpOp.NotIn)=false:=by cases op<;>first|rfl|exact absurd rfl h2
 cases b<;>simp[Pn,e1,e2]
theorem EF{op:CmpOp}{r:R2}(ho:OpR X (Oe op) r)(ha:PE X a ta)(hb:PE X b tb)(hm:Pn op b=false):PE X (.Compare a [op] [b] pos) (tOp r ta tb):=by
 intro pins s σ H Q I h;exact wpAny_Compare1 (HX ha hb I h λv u s2 x y H2 I2 rx ry q=>ho pins s2 σ H2 x y v u Q I2 rx ry q) hm
inductive blI(x:V)(H:Hp)(Q:Bool->Hp->Prop):Prop
 |mk(k:Bool)(h:x=.bl k)(q:Q k H):blI x H Q
noncomputable def uy(t:TE):TT:=λσ H Q=>t σ H λx H'=>blI x H' Q
theorem Dz{op:CmpOp}{r:R2}(ho:OpR X (Oe op) r)(ha:PE X a ta)(hb:PE X b tb)(hm:Pn op b=false):PT X (.Compare a [op] [b] pos) (uy (tOp r ta tb)):=by
 intro pins s σ H Q I h;refine wpAny_isTrue_Compare1 (thn (ha pins s σ H _ I h) λv s1 ⟨x,H1,I1,r1,q1⟩=>thn (hb pins s1 σ H1 _ I1 q1) λu s2 ⟨y,H2,I2,r2,q2⟩=>
  thn (ho pins s2 σ H2 x y v u _ I2 r1 r2 q2) λc s3 ⟨z,H3,I3,r3,k,e,q3⟩=>?_) hm
 subst e;cases r3;exact Oz ⟨H3,I3,q3⟩
noncomputable def G6(r r':R2)(ta tb tc:TE):TE:=λσ H Q=>ta σ H λx H1=>tb σ H1 λy H2=>r x y H2 λz H3=>∃k,z=.bl k/\
 (if k=true then tc σ H3 λw' H4=>r' y w' H4 Q else Q (.bl false) H3)
theorem Cd{op op':CmpOp}{r r':R2}(ho:OpR X (Oe op) r)(ho':OpR X (Oe op') r')(ha:PE X a ta)(hb:PE X b tb)(hc:PE X c tc)
  (hm:lastMarks [op,op'] [b,c]=false:=by with_unfolding_all rfl):PE X (.Compare a [op,op'] [b,c] pos) (G6 r r' ta tb tc):=by
 intro pins s σ H Q I h
 refine Compare_chain (thn (ha pins s σ H _ I h) λv s1 ⟨x,H1,I1,r1,q1⟩=>chain_link (thn (hb pins s1 σ H1 _ I1 q1) λu s2 ⟨y,H2,I2,r2,q2⟩=>
  thn (ho pins s2 σ H2 x y v u _ I2 r1 r2 q2) λd s3 ⟨z,H3,I3,r3,k,e,q3⟩=>?_)) hm
 subst e
 cases r3
 refine Oz ?_
 cases k with
 |false=>exact ite_ff ⟨.bl false,H3,I3,rfl,q3⟩
 |true=>exact ite_tt (chain_last (thn (hc pins s3 σ H3 _ I3 q3) λw' s4 ⟨z',H4,I4,r4,q4⟩=>ho' pins s4 σ H4 y z' u w' Q I4 r2 r4 q4))
noncomputable def JT(K:NO)(x:V)(H:Hp)(k:Bool):Prop:=
 match x with
 | .non=>k=false
 | .bl b=>k=b
 | .int i=>k=(i !=0)
 | .str y=>y.length<=sizeLine/\k=((y.length:Int)!=0)
 | .byt y=>y.size<=sizeLine/\k=((y.size:Int)!=0)
 | .ref p=>(∃xs,SqL K H p xs/\k=!xs.isEmpty)\/(∃xs,SqT K H p xs/\k=!xs.isEmpty)\/∃kvs,H p=T9 (.dK kvs)/\k=!kvs.isEmpty
 |_=>False
theorem yy{κ:Type}{kvs:List (κ×V)}{vs:List (κ×NK)}(r:KV kvs vs):(!vs.isEmpty)=!kvs.isEmpty:=by
 cases r<;>rfl
theorem rV{xs:List V}{its:List NK}(r:Ug xs its):(!its.toArray.isEmpty)=!xs.isEmpty:=by
 cases r<;>simp
theorem pK:(sizeLine:Nat)<2^63:=by rw[Pg];decide
inductive Bi(K:NO)(x:V)(H:Hp)(Q:Bool->Hp->Prop):Prop
 |mk(k:Bool)(h:JT K x H k)(q:Q k H):Bi K x H Q
theorem Hv:JZ X (Bi X.K):=by
 intro pins s σ H x v Q I rx h;obtain⟨k,e,q⟩:=h;have hl:=pK;have hs:sizeLine=16777216:=Pg;cases x with
 |non=>
  cases rx;have e':k=false:=e;subst e';exact truthy_none ⟨H,I,q⟩
 |bl b=>
  cases rx;have e':k=b:=e;subst e';exact Oz ⟨H,I,q⟩
 |int i=>
  obtain⟨t,rfl⟩:=rx;have e':k=(i !=0):=e;subst e';exact PySem.P.truthy_int ⟨H,I,q⟩
 |str y=>
  obtain⟨t,rfl⟩:=rx;obtain⟨hy,e'⟩:y.length<=sizeLine/\k=((y.length:Int)!=0):=e;subst e';exact PySem.P.truthy_str (by omega) ⟨H,I.tok _,q⟩
 |byt y=>
  obtain⟨t,rfl⟩:=rx;obtain⟨hy,e'⟩:y.size<=sizeLine/\k=((y.size:Int)!=0):=e;subst e';exact W.truthy_bytes (by omega) ⟨H,I.tok _,q⟩
 |ref p=>
  cases rx;have e':(∃xs,SqL X.K H p xs/\k=!xs.isEmpty)\/(∃xs,SqT X.K H p xs/\k=!xs.isEmpty)\/∃kvs,H p=T9 (.dK kvs)/\k=!kvs.isEmpty:=e;rcases e' with⟨xs,hx,e'⟩|⟨xs,hx,e'⟩|⟨kvs,hx,e'⟩
  ·subst e';obtain⟨its,r,pl,hz⟩:=I.list hx;have hlen:=r.length;exact wpAny_truthy_list pl.isList (by simp only[KL];omega) ⟨H,I.tok _,by rw[rV r];exact q⟩
  ·subst e';obtain⟨its,r,pl,hz⟩:=I.tuple hx;have hlen:=r.length;exact truthy_tuple pl (by simp only[KL];omega) ⟨H,I.tok _,by rw[rV r];exact q⟩
  subst e';obtain⟨hz,hS,vs,r,m⟩:kvs.length<=sizeLine/\(p==OB)=false/\∃vs,KV kvs vs/\s.heap.DictOf (cy X.prog X.w) p vs:=I.hok p _ hx;have hlen:kvs.length=vs.length:=NV r;exact wpAny_truthy_dict hS m (by omega) ⟨H,I.tok _,by rw[yy r];exact q⟩
 |_=>exact(show False from e).elim
theorem Dc(ha:PE X a ta)(he:∀whole,isTrue a X.env whole=(do let v<-whole;Si a.pos;Pr [v] (truthy v))) :
  PT X a (λσ H Q=>ta σ H λx H'=>Bi X.K x H' Q):=by
 intro pins s σ H Q I h
 exact isTrue_plain (thn (ha pins s σ H _ I h) λv s1 ⟨x,H1,I1,r1,q1⟩=>Hv pins s1 σ H1 x v Q I1 r1 q1) (he _)
theorem ye:OpR X (OG .Add) (λx y H Q=>∃i j,x=.str i/\y=.str j/\i.length+j.length<=sizeLine/\Q (.str (i++j)) H):=by
 intro pins s σ H x y v u Q I rx ry h;obtain⟨i,j,rfl,rfl,hz,q⟩:=h;obtain⟨t,rfl⟩:=rx;obtain⟨t',rfl⟩:=ry;exact add_str (λt' tk=>⟨.str (i++j),H,I.tok _,⟨_,rfl⟩,q⟩) hz
theorem Ut{x:V}{us:List NK}(r:Ug [x] us):∃u,us=[u]/\Ui x u:=by
 cases r with
 |cons r1 r2=>cases r2;exact⟨_,rfl,r1⟩
theorem Uy{x y:V}{us:List NK}(r:Ug [x,y] us):∃u w',us=[u,w']/\Ui x u/\Ui y w':=by
 cases r with
 |cons r1 r2=>
  cases r2 with
  |cons r3 r4=>cases r4;exact⟨_,_,rfl,r1,r3⟩
theorem AO(hc:X.calm=true):dE X (.builtin "max") (λxs H Q=>∃i j,xs=[.int i,.int j]/\Q (.int (if j>i then j else i)) H):=by
 intro pins s σ H xs us Q I r h;obtain⟨i,j,rfl,q⟩:=h;obtain⟨u,w',rfl,⟨t,rfl⟩,⟨t',rfl⟩⟩:=Uy r;refine max_two_ints (I.ok.hd hc) λh' tk k=>⟨_,H,I.kept k,?_,q⟩;by_cases hj:j>i
 ·rw[if_pos hj,if_pos hj];exact⟨_,rfl⟩
 rw[if_neg hj,if_neg hj];exact⟨_,rfl⟩
theorem Az(hc:X.calm=true):dE X (.builtin "min") (λxs H Q=>∃i j,xs=[.int i,.int j]/\Q (.int (if j<i then j else i)) H):=by
 intro pins s σ H xs us Q I r h;obtain⟨i,j,rfl,q⟩:=h;obtain⟨u,w',rfl,⟨t,rfl⟩,⟨t',rfl⟩⟩:=Uy r;refine min_two_ints (I.ok.hd hc) λh' tk k=>⟨_,H,I.kept k,?_,q⟩;by_cases hj:j<i
 ·rw[if_pos hj,if_pos hj];exact⟨_,rfl⟩
 rw[if_neg hj,if_neg hj];exact⟨_,rfl⟩
noncomputable def ID(K:NO)(x:V)(H:Hp)(n:Nat):Prop:=
 match x with
 | .str y=>y.length<=sizeLine/\n=y.length
 | .byt y=>y.size<=sizeLine/\n=y.size
 | .ref p=>(∃xs,SqL K H p xs/\n=xs.length)\/∃xs,SqT K H p xs/\n=xs.length
 |_=>False
theorem Cb:dE X (.builtin "len") (λxs H Q=>∃x n,xs=[x]/\ID X.K x H n/\Q (.int n) H):=by
 intro pins s σ H xs us Q I r h;obtain⟨x,n,rfl,e,q⟩:=h;obtain⟨u,rfl,rx⟩:=Ut r;have hl:=pK;have hs:sizeLine=16777216:=Pg;cases x with
 |str y=>
  obtain⟨t,rfl⟩:=rx;obtain⟨hy,e'⟩:y.length<=sizeLine/\n=y.length:=e;subst e';exact len_str (by omega) ⟨.int _,H,I.tok _,⟨_,rfl⟩,q⟩
 |byt y=>
  obtain⟨t,rfl⟩:=rx;obtain⟨hy,e'⟩:y.size<=sizeLine/\n=y.size:=e;subst e';exact W.len_bytes (by omega) ⟨.int _,H,I.tok _,⟨_,rfl⟩,q⟩
 |ref p=>
  cases rx;have e':(∃xs,SqL X.K H p xs/\n=xs.length)\/∃xs,SqT X.K H p xs/\n=xs.length:=e;rcases e' with⟨xs,hx,e'⟩|⟨xs,hx,e'⟩
  ·subst e';obtain⟨its,r',pl,hz⟩:=I.list hx;have hlen:=r'.length;exact Calls.call_len_list pl.isList (by simp only[KL];omega) ⟨.int xs.length,H,I.tok _,⟨_,by simp only[KL];rw[hlen]⟩,q⟩
  subst e';obtain⟨its,r',pl,hz⟩:=I.tuple hx;have hlen:=r'.length;exact len_tuple pl (by simp only[KL];omega) ⟨.int xs.length,H,I.tok _,⟨_,by simp only[KL];rw[hlen]⟩,q⟩
 |_=>exact(show False from e).elim
end
structure yS(h:Oi)(x dx C:NL)(mA:Str->Option NK):Prop where
 obj:h.get? x=T9 (PX C dx)
 ns:h.Ns1 dx mA
 ne:dx≠x
theorem A7{h:Oi}{dx:NL}{mA:Str->Option NK}(n:h.Ns1 dx mA):∃od,h.get? dx=T9 od/\∀name,Ts name od=T9 (mA name):=by
 obtain⟨o,es,ep,ho,hd,hk,_,hm⟩:=n;refine⟨o,ho,λname=>?_⟩;have e:=hm name;unfold nsFind findBy at e;rw[<-Array.find?_toList]at e;unfold Ts;rw[hd];dsimp only;split
 ·rename_i y q;rw[q]at e;exact congrArg T9 e
 rename_i q;rw[q]at e;have a:es.toList.any (·.refKey)=false:=by
  rw[Sm];intro y hy;obtain⟨z,t,hkey⟩:=hk y (Array.mem_toList_iff.mp hy);simp[DictEntry.refKey,hkey]
 have a':¬ es.toList.any (·.refKey)=true:=by rw[a];exact KJ
 rw[if_neg a'];exact congrArg T9 e
theorem yS.look{h:Oi}{x dx C:NL}{mA:Str->Option NK}(I:yS h x dx C mA):∃od,W.InstAt h x (PX C dx) C (T9 od)/\∀name,Ts name od=T9 (mA name):=
 let ⟨od,ho,hl⟩:=A7 I.ns
 ⟨od,⟨I.obj,rfl,rfl,ho⟩,hl⟩
section
variable{prog:Program}{w:NW}{A:Oh}{E:NK->NM->Prop}{s:NM}{K:NO}{x dx C f:NL}{mA:Str->Option NK}{name:Str}{v:NK}
theorem get_map{expr:Bool}{Q:NK->NM->Prop}(X:K.In s.heap)(I:yS s.heap x dx C mA)(hg:QQ K C name=true)(hh:Q7 K C=true)
  (ha:OJ K (.ref C) name=T9 Ua) (hv:mA name=T9 v) (hv':W.handedIn v=true) (h:Q v { s with toks:=s.toks+1 }) :
  wpAny (N0 prog w) A (getAttr (.ref x) name expr) Q E s:=by
 obtain⟨od,J,hl⟩:=I.look
 exact W.get_value X J (RG hg).1 (W.findObj_own hh ha rfl (by rw[hl,hv])) hv' h
theorem Cp{pl:Sem Bool}{Q:NK×List NK->NM->Prop}(X:K.In s.heap)(I:yS s.heap x dx C mA)(hg:QQ K C name=true)
  (hf:OJ K (.ref C) name=T9 (T9 (.ref f))) (ht:TY K (.ref f)=true) (hv:mA name=Ua) (h:Q (.ref f,[.ref x]) s) :
  wpAny (N0 prog w) A (Rt (.ref x) name pl) Q E s:=by
 obtain⟨od,J,hl⟩:=I.look
 exact W.method_fn X J (RG hg).1 (RG hg).2 hf (beq_iff_eq.mp ht) (by show(Ts name od).map (·.isSome)=T9 false;rw[hl,hv];rfl) h
theorem DZ{ns:List Str}{Q:Unit->NM->Prop}(X:K.In s.heap)(I:yS s.heap x dx C mA)
  (hs:OJ K (.ref C) "__setattr__"=T9 (T9 (.builtin "object.__setattr__"))) (hp:S4 K C=true) (ht:TX K C name=T9 Ua) (hh:Q7 K C=true)
  (hw:Se mA ns) (hsz:ns.length<=sizeLine)
  (h:∀h',yS h' x dx C (λy=>if y=name then T9 v else mA y)->Qf dx s.heap h'->Q () { s with heap:=h',toks:=s.toks+2 }) :
  wpAny (N0 prog w) A (setAttr (.ref x) name v) Q E s:=by
 obtain⟨od,J,hl⟩:=I.look
 refine W.set_plain X J hs (W.osa_open (s:={ s with toks:=s.toks+1 }) (r:=Ua) X J hp ht λb=>?_)
 obtain⟨cd,hc,hd'⟩:=W.any_some hh
 have hx:s.heap.get? x=T9 ⟨.ref C,T9 dx,.plain,#[]⟩:=I.obj
 refine NN (NU (NN (NN (wpAny_loadPart hx (NN (W.Looks.here (s:={ s with toks:=s.toks+1 }) (W.looks_clsIn X hc) ?_))))))
 rw[hd']
 refine NU (a:=T9 dx) (NN (NU (NN ?_)))
 refine wpAny_nsSet1 (s:={ s with toks:=s.toks+1 }) I.ns λh' hn2 hs2=>?_
 obtain⟨oD,esD,epD,hoD,hdD,hcD⟩:=hn2.count (PySem.Within.cons name v hw)
 refine NN (wpAny_lookBehind hoD (by rw[hdD];exact pastItsLine_dict (KR hcD (by rw[Lb];omega))) ?_)
 exact NU (h _ ⟨(hs2.2 _ (LF I.ne)).trans I.obj,hn2,I.ne⟩ hs2)
theorem CJ{R:TZ->NM->Prop}{vs:List NK}{kw:List (Str×NK)}(X:K.In s.heap)(hm:SN K C=true)
  (hi:OJ K (.ref C) "__init__"=T9 (T9 (.ref f))) (hf:W.typeIn K (.ref f)=T9 (.type "function"))
  (h:codeAny (N0 prog w) (A.under (.builtin "type.__call__" ⟨.ref C::vs,kw⟩)) (.call (.ref f) ⟨.ref (s.heap.objs.size+1)::vs,kw⟩) (W.InitBack (s.heap.objs.size+1) R)
   { s with heap:=(s.heap.push O7).push (PX C s.heap.objs.size) }) :
  codeAny (N0 prog w) A (.call (.ref C) ⟨vs,kw⟩) R s:=by
 obtain⟨hh,g,d,t,os⟩:=s
 exact W.make_core (W.makes_of X hm) (W.looks_findIn X hi) (λself=>W.bind_fn X self hf) (.inl rfl) h
end
noncomputable def dX(f:Str)(v:V):List (Str×V)->List (Str×V)
 | []=>[(f,v)]
 | (g,x)::r=>if g=f then(g,v)::r else(g,x)::dX f v r
theorem qf(f g:Str)(v:V):∀fs:List (Str×V),(dX f v fs).lookup g=if g=f then T9 v else fs.lookup g
 | []=>by
  show Ph g [(f,v)]=_;by_cases h:g=f
  ·have hb:(g==f)=true:=beq_iff_eq.mpr h;simp only[Ph,hb,if_pos h]
  have hb:(g==f)=false:=beq_eq_false_iff_ne.mpr h;simp only[Ph,hb,if_neg h]
 | (k,x)::r=>by
  have ih:=qf f g v r;rw[show dX f v ((k,x)::r)=(if k=f then(k,v)::r else(k,x)::dX f v r)from rfl];by_cases hk:k=f
  ·rw[if_pos hk];by_cases h:g=k
   ·have hb:(g==k)=true:=beq_iff_eq.mpr h;simp only[Ph,hb,if_pos (h.trans hk)]
   have hb:(g==k)=false:=beq_eq_false_iff_ne.mpr h;simp only[Ph,hb,if_neg (λe:g=f=>h (e.trans hk.symm))]
  rw[if_neg hk];by_cases h:g=k
  ·have hb:(g==k)=true:=beq_iff_eq.mpr h;simp only[Ph,hb,if_neg (λe:g=f=>hk (h.symm.trans e))]
  have hb:(g==k)=false:=beq_eq_false_iff_ne.mpr h;simp only[Ph,hb];exact ih
theorem pG(f:Str)(v:V):∀fs:List (Str×V),f∈(dX f v fs).map (·.1)/\∀g,g∈fs.map (·.1)->g∈(dX f v fs).map (·.1)
 | []=>⟨by simp[dX],λg h=>by simp at h⟩
 | (k,x)::r=>by
  obtain⟨i1,i2⟩:=pG f v r;rw[show dX f v ((k,x)::r)=(if k=f then(k,v)::r else(k,x)::dX f v r)from rfl];by_cases hk:k=f
  ·rw[if_pos hk];subst hk;exact⟨by simp,λg h=>by simpa using h⟩
  rw[if_neg hk];refine⟨?_,λg h=>?_⟩
  ·rw[KP];exact Kw _ i1
  rw[KP]at h⊢;rcases Kt.mp h with e|e
  ·exact Kt.mpr (.inl e)
  exact Kw _ (i2 g e)
theorem qb(f:Str)(v:V):∀fs:List (Str×V),(dX f v fs).length<=fs.length+1
 | []=>by simp[dX]
 | (k,x)::r=>by
  have ih:=qb f v r;rw[show dX f v ((k,x)::r)=(if k=f then(k,v)::r else(k,x)::dX f v r)from rfl];by_cases hk:k=f
  ·rw[if_pos hk,Lb,Lb];omega
  rw[if_neg hk,Lb,Lb];omega
theorem lK.some_of{v:V}{o:Option NK}(r:lK (T9 v) o):∃u,o=T9 u/\Ui v u:=by
 cases o with
 |none=>exact(show False from r).elim
 |some u=>exact⟨u,rfl,r⟩
theorem lK.none_of{o:Option NK}(r:lK Ua o):o=Ua:=by
 cases o with
 |none=>rfl
 |some u=>exact(show False from r).elim
theorem Ax{v:V}{u:NK}(r:Ui v u):W.handedIn u=true:=by
 cases v with
 |non=>cases (show u=RL from r);rfl
 |bl b=>cases (show u=QM b from r);rfl
 |int i=>obtain⟨t,e⟩:=(show ∃t,u=Qh i t from r);cases e;rfl
 |str x=>obtain⟨t,e⟩:=(show ∃t,u=Rq x t from r);cases e;rfl
 |byt b=>obtain⟨t,e⟩:=(show ∃t,u=Value.bytes b t from r);cases e;rfl
 |flt b=>obtain⟨t,e⟩:=(show ∃t,u=S2 b t from r);cases e;rfl
 |ref a=>cases (show u=NZ a from r);rfl
 |ty n=>cases (show u=PV n from r);rfl
section
variable{P:Program}{w:NW}{H H':Hp}{h h':Oi}{a C dx:NL}{fs fs':List (Str×V)}
theorem qB(hok:HOk P w H h)(e:H a=T9 (.ins C dx fs)):∃mA,yS h a dx C mA/\(∀f,lK (fs.lookup f) (mA f))/\Se mA (fs.map (·.1))/\fs.length<=1000/\H dx=T9 (.own a):=by
 obtain⟨d,z,ne,ob,mA,n,r,q⟩:=(show dB P w H h a (.ins C dx fs)from hok a _ e);exact⟨mA,⟨ob,n,ne⟩,r,q,z,d⟩
end
structure Cls(K:NO)(C:NL):Prop where
 pg:QQ K C Qi=true
 hd:Q7 K C=true
 po:S4 K C=true
 sa:OJ K (.ref C) "__setattr__"=T9 (T9 (.builtin "object.__setattr__"))
theorem Cls.get{K:NO}{C:NL}(c:Cls K C)(f:Str):QQ K C f=true:=c.pg
noncomputable def aH(K:NO)(C:NL)(f:Str):Prop:=OJ K (.ref C) f=T9 Ua
theorem aH.IC{K:NO}{C:NL}{f:Str}(n:aH K C f):TX K C f=T9 Ua:=by
 unfold TX;rw[show OJ K (.ref C) f=T9 Ua from n];rfl
structure Con(K:NO)(C:NL)(f:Str)(v:V)(u:NK):Prop where
 at_:OJ K (.ref C) f=T9 (T9 u)
 rel:Ui v u
 get:PB K u "__get__"=T9 Ua
 cp:W.copiedNames.contains f=false
structure UD(K:NO)(C:NL)(m:Str)(f:NL):Prop where
 at_:OJ K (.ref C) m=T9 (T9 (.ref f))
 fn:TY K (.ref f)=true
 kp:Po K (.ref f)=true
section
variable{X:Cx}{pins:List (NL×Obj)}{σ:St}{H:Hp}{s:NM}{a C dx:NL}{fs:List (Str×V)}{f:Str}{v:V}{A:Oh}{E:NK->NM->Prop}
theorem rP{b:Bool}{Q:NK->NM->Prop}(I:Inv X pins σ H s)(e:H a=T9 (.ins C dx fs))(c:Cls X.K C)(n:aH X.K C f)(l:fs.lookup f=T9 v)
  (h:∀u s',Inv X pins σ H s'->Ui v u->Q u s'):wpAny (N0 X.prog X.w) A (getAttr (.ref a) f b) Q E s:=by
 obtain⟨mA,O,r,_,_,_⟩:=qB I.hok e
 obtain⟨u,hu,ru⟩:=lK.some_of (v:=v) (o:=mA f) (by rw[<-l];exact r f)
 exact get_map I.kIn O (c.get f) c.hd n hu (Ax ru) (h u _ (I.tok _) ru)
theorem yc{m:Str}{g:NL}{pl:Sem Bool}{Q:NK×List NK->NM->Prop}(I:Inv X pins σ H s)(e:H a=T9 (.ins C dx fs))(c:Cls X.K C)(k:UD X.K C m g)(l:fs.lookup m=Ua)
  (h:Q (.ref g,[.ref a]) s):wpAny (N0 X.prog X.w) A (Rt (.ref a) m pl) Q E s:=by
 obtain⟨mA,O,r,_,_,_⟩:=qB I.hok e
 have hn:mA m=Ua:=lK.none_of (by rw[<-l];exact r m)
 exact Cp I.kIn O (c.get m) k.at_ k.fn hn h
theorem qY{y:V}{u:NK}{Q:Unit->NM->Prop}(I:Inv X pins σ H s)(e:H a=T9 (.ins C dx fs))(c:Cls X.K C)(n:aH X.K C f)(hl:fs.length<1000)(ry:Ui y u)
  (h:∀s',Inv X pins σ (upd H a (.ins C dx (dX f y fs))) s'->Q () s'):wpAny (N0 X.prog X.w) A (setAttr (.ref a) f u) Q E s:=by
 obtain⟨mA,O,r,wi,_,ho⟩:=qB I.hok e
 have hz:(fs.map (·.1)).length<=sizeLine:=by rw[Kx,Pg];omega
 refine DZ I.kIn O c.sa c.po n.IC c.hd wi hz λh' O' sb=>h _ ?_
 have hd:∃o,h'.get? dx=T9 o:=let ⟨o,_,_,e',_⟩:=O'.ns;⟨o,e'⟩
 refine I.write (x:=a) (e:=dx) (by rw[e];exact Lh) (.inr ho) (λb q hb z=>(sb.2 b hb).trans z) hd ?_
 refine⟨by rw[ay O.ne];exact ho,?_,O.ne,O'.obj,_,O'.ns,λg=>?_,λg hg=>?_⟩
 ·have:=qb f y fs;omega
 ·show lK ((dX f y fs).lookup g) (if g=f then T9 u else mA g);rw[qf];by_cases q:g=f
  ·rw[if_pos q,if_pos q];exact ry
  rw[if_neg q,if_neg q];exact r g
 by_cases q:g=f
 ·rw[q];exact(pG f y fs).1
 refine(pG f y fs).2 g (wi g λz=>hg ?_)
 show(if g=f then T9 u else mA g)=Ua
 rw[if_neg q];exact z
theorem Inv.made(I:Inv X pins σ H s):Inv X pins σ (upd (upd H s.heap.objs.size (.own (s.heap.objs.size+1))) (s.heap.objs.size+1) (.ins C s.heap.objs.size []))
  { s with heap:=(s.heap.push O7).push (PX C s.heap.objs.size) }:=by
 have e1:(s.heap.push O7).get? s.heap.objs.size=T9 O7:=Ob s.heap rfl
 have e2:((s.heap.push O7).push (PX C s.heap.objs.size)).get? (s.heap.objs.size+1)=T9 (PX C s.heap.objs.size):=by
  have:=Ob (s.heap.push O7) (o:=PX C s.heap.objs.size) rfl;rwa [OV]at this
 have e3:(s.heap.push O7).Ns s.heap.objs.size (λ_=>Ua):=⟨O7,#[],_,e1,rfl,(λe he=>absurd he (by simp)),λ_=>rfl⟩
 have I1:=I.laid (a:=s.heap.objs.size) (o:=.own (s.heap.objs.size+1)) (h':=s.heap.push O7) (t':=s.toks) (λb u q=>NQ _ q) (KD _) ⟨_,e1⟩
 refine I1.laid (a:=s.heap.objs.size+1) (o:=.ins C s.heap.objs.size []) (t':=s.toks) (λb u q=>NQ _ q) (Nw (OV _ _)) ?_
 have ne:s.heap.objs.size≠s.heap.objs.size+1:=Ll (Mn _)
 refine⟨by rw[ay ne,aj],KW _,ne,e2,λ_=>Ua,(Heap.Ns1.of_empty e3).at λo q=>NQ _ q,λ_=>Lh,λy hy=>absurd rfl hy⟩
theorem DB{prog:Program}{w:NW}{env:Env}{e:Expr}{f:Str}{pos:Pos}{s:NM}{Q:NK->NM->Prop}(hb:OT e f env (OE e env)=OE e env)
  (h:wpAny (N0 prog w) A (OE e env) (λo s₁=>wpAny (N0 prog w) A (getAttr o f true) Q E s₁) E s):wpAny (N0 prog w) A (OE (.Attribute e f pos) env) Q E s:=
 Attribute_any_ h (by rw[arm_eval_Attribute,hb])
end
inductive Gq(K:NO)(f:Str)(x:V)(H:Hp)(Q:VK):Prop
 |mk(a C dx:NL)(fs:List (Str×V))(v:V)(h0:x=.ref a)(h1:H a=T9 (.ins C dx fs))(h2:Cls K C)(h3:aH K C f)(h4:fs.lookup f=T9 v)(q:Q v H):Gq K f x H Q
noncomputable def Kc(K:NO)(ta:TE)(f:Str):TE:=λσ H Q=>ta σ H λx H1=>Gq K f x H1 Q
inductive Fn(K:NO)(f:Str)(y x:V)(H:Hp)(Q:Hp->Prop):Prop
 |mk(a C dx:NL)(fs:List (Str×V))(h0:x=.ref a)(h1:H a=T9 (.ins C dx fs))(h2:Cls K C)(h3:aH K C f)(h4:fs.length<1000)(q:Q (upd H a (.ins C dx (dX f y fs)))):Fn K f y x H Q
noncomputable def Kg(K:NO)(ta tv:TE)(f:Str):TS:=λD σ H=>tv σ H λy H1=>ta σ H1 λx H2=>Fn K f y x H2 (D.nx σ)
noncomputable def Iz(X:Cx)(op:Sh)(rd:V->V->Hp->VK->Prop):Prop:=
 ∀(pins:List (NL×Obj))(s:NM)(σ:St)(H:Hp)(x y:V)(u v:NK)(Q:VK),Inv X pins σ H s->Ui x u->Ui y v->rd x y H Q->wpAny (N0 X.prog X.w) X.A (TV op u v) (EP X pins σ Q) X.xe s
noncomputable def EH(K:NO)(ta tv:TE)(rd:V->V->Hp->VK->Prop)(f:Str):TS:=λD σ H=>ta σ H λx H1=>∃a C dx fs v,x=.ref a/\H1 a=T9 (.ins C dx fs)/\Cls K C/\aH K C f/\fs.lookup f=T9 v/\
 tv σ H1 λy H2=>rd v y H2 λz H3=>∃dx' fs',H3 a=T9 (.ins C dx' fs')/\fs'.length<1000/\D.nx σ (upd H3 a (.ins C dx' (dX f z fs')))
section
variable{X:Cx}{o e value:Expr}{f:Str}{pos pos' tpos:Pos}{ta tv:TE}
theorem aE(he:PE X e ta)(hb:OT e f X.env (OE e X.env)=OE e X.env):PE X (.Attribute e f pos) (Kc X.K ta f):=by
 intro pins s σ H Q I h;refine DB hb (thn (he pins s σ H _ I h) λu s1 ⟨x,H1,I1,rx,a,C,dx,fs,v,ex,ea,c,n,l,q⟩=>?_);subst ex;obtain rfl:u=NZ a:=rx;exact rP I1 ea c n l λu' s2 I2 ru=>⟨v,H1,I2,ru,q⟩
theorem aW(ha:PE X o ta)(hv:PE X value tv)(hs:Rr value (T9 (.Attribute o f pos')) pos.line X.env=pure false):PS X (.Assign [.Attribute o f pos'] value pos) (Kg X.K ta tv f):=by
 intro pins s σ H D I h;refine plainObj_wpAny_Assign_Attribute (thn (hv pins s σ H _ I h) λu s1 ⟨y,H1,I1,ry,q⟩=>thn (ha pins s1 σ H1 _ I1 q) λov s2 ⟨x,H2,I2,rx,a,C,dx,fs,ex,ea,c,n,l,q2⟩=>?_) hs;subst ex;obtain rfl:ov=NZ a:=rx;exact qY I2 ea c n l ry λs3 I3=>⟨σ,_,I3,q2⟩
theorem AQ{op:Sh}{rd:V->V->Hp->VK->Prop}(ha:PE X o ta)(hv:PE X value tv)(hop:Iz X op rd):PS X (.AugAssign (.Attribute o f tpos) op value pos) (EH X.K ta tv rd f):=by
 intro pins s σ H D I h;refine wpAny_AugAssign_AttributeAny (thn (ha pins s σ H _ I h) λov s1 ⟨x,H1,I1,rx,a,C,dx,fs,v,ex,ea,c,n,l,q⟩=>?_);subst ex;obtain rfl:ov=NZ a:=rx;refine rP I1 ea c n l λu s2 I2 ru=>thn (hv pins s2 σ H1 _ I2 q) λw3 s3 ⟨y,H2,I3,ry,q3⟩=>thn (hop pins s3 σ H2 v y u w3 _ I3 ru ry q3) λw4 s4 ⟨z,H3,I4,rz,dx',fs',ea',l',q4⟩=>?_;exact qY I4 ea' c n l' rz λs5 I5=>⟨σ,_,I5,q4⟩
noncomputable def Kp:V->V->Hp->VK->Prop:=λx y H Q=>∃i j,x=.int i/\y=.int j/\Q (.int (i+j)) H
theorem FY:Iz X .Add Kp:=by
 rintro pins s σ H x y u v Q I rx ry ⟨i,j,rfl,rfl,q⟩;obtain⟨t,rfl⟩:=(show ∃t,u=Qh i t from rx);obtain⟨t',rfl⟩:=(show ∃t',v=Qh j t' from ry);exact PyProof.Rows.iadd_int ⟨.int (i+j),H,I.tok _,⟨_,rfl⟩,q⟩
end
section
variable{X:Cx}{pins:List (NL×Obj)}{σ:St}{H:Hp}{s:NM}{A:Oh}{E:NK->NM->Prop}{Q:NK->NM->Prop}{c:NK}{b:Bool}
inductive lV(K:NO)(H:Hp):V->NK->Prop where
 |non:lV K H .non (.type "NoneType")
 |bl (x:Bool):lV K H (.bl x) (.type "bool")
 |int (i:Int):lV K H (.int i) (.type "int")
 |str (x:Str):lV K H (.str x) (.type "str")
 |flt (x:UInt64):lV K H (.flt x) (.type "float")
 |lst {a:NL}{xs:List V} (e:H a=T9 (.lst xs)):lV K H (.ref a) (.type "list")
 |frz {a:NL}{o:Obj}{xs:List V} (e:H a=T9 (.frz o (.lst xs))):lV K H (.ref a) (.type "list")
 |tup {a:NL}{xs:List V} (e:H a=T9 (.tup xs)):lV K H (.ref a) (.type "tuple")
 |dK {a:NL}{kvs:List (Key×V)} (e:H a=T9 (.dK kvs)):lV K H (.ref a) (.type "dict")
 |dT {a:NL}{kvs:List (List Key×V)} (e:H a=T9 (.dT kvs)):lV K H (.ref a) (.type "dict")
 |ins {a C dx:NL}{fs:List (Str×V)} (e:H a=T9 (.ins C dx fs)) (cl:Cls K C) (ha:OJ K (.ref C) "__class__"=T9 (T9 (.builtin "object.__class__")))
   (hn:PB K (.builtin "object.__class__") "__get__"=T9 (T9 (.builtin "getset_descriptor.__get__"))) (htk:SO K (.builtin "object.__class__")=T9 true)
   (hm:T7 K C (.type "object")=T9 true):lV K H (.ref a) (.ref C)
theorem AL{x:V}{u t:NK}(I:Inv X pins σ H s)(rx:Ui x u)(ty:lV X.K H x t)(e:OH X.K t c=T9 b)(h:∀tk,Q (.bool b) { s with toks:=tk }) :
  wpAny (N0 X.prog X.w) A (call (.builtin "isinstance") [u,c]) Q E s:=by
 cases ty with
 |non=>cases (show u=RL from rx);exact Pb W.kitx_none I.kIn Lh e (λz=>nomatch z) h
 |bl y=>cases (show u=QM y from rx);exact Pb W.kitx_bool I.kIn Lh e (λz=>nomatch z) h
 |int i=>obtain⟨t,q⟩:=(show ∃t,u=Qh i t from rx);cases q;exact Pb W.kitx_int I.kIn Lh e (λz=>nomatch z) h
 |str y=>obtain⟨t,q⟩:=(show ∃t,u=Rq y t from rx);cases q;exact Pb W.kitx_str I.kIn Lh e (λz=>nomatch z) h
 |flt y=>obtain⟨t,q⟩:=(show ∃t,u=S2 y t from rx);cases q;exact Pb W.kitx_float I.kIn Lh e (λz=>nomatch z) h
 |@lst a xs ea=>
  cases (show u=NZ a from rx)
  obtain⟨_,_,n,_,h1⟩:=(show dB X.prog X.w H s.heap a (.lst xs)from I.hok a _ ea)
  exact Pb W.kitx_list I.kIn ⟨_,h1,rfl⟩ e (λz=>nomatch z) h
 |@frz a ob xs ea=>
  cases (show u=NZ a from rx)
  obtain⟨_,_,_,n,_,h1⟩:=(show dB X.prog X.w H s.heap a (.frz ob (.lst xs))from I.hok a _ ea)
  exact Pb W.kitx_list I.kIn ⟨_,h1,rfl⟩ e (λz=>nomatch z) h
 |@tup a xs ea=>
  cases (show u=NZ a from rx)
  obtain⟨_,_,_,p⟩:=(show dB X.prog X.w H s.heap a (.tup xs)from I.hok a _ ea)
  obtain⟨o,h1,h2,_⟩:=p
  exact Pb W.kitx_tuple I.kIn ⟨o,h1,h2⟩ e (λz=>nomatch z) h
 |@dK a kvs ea=>
  cases (show u=NZ a from rx)
  obtain⟨_,_,vs,_,p⟩:=(show dB X.prog X.w H s.heap a (.dK kvs)from I.hok a _ ea)
  obtain⟨o,es,ep,h1,h2,_⟩:=p
  exact Pb W.kitx_dict I.kIn ⟨o,h1,h2.1⟩ e (λz=>nomatch z) h
 |@dT a kvs ea=>
  cases (show u=NZ a from rx)
  obtain⟨_,_,xs,_,o,es,ep,h1,h2,_⟩:=(show dB X.prog X.w H s.heap a (.dT kvs)from I.hok a _ ea)
  exact Pb W.kitx_dict I.kIn ⟨o,h1,h2.1⟩ e (λz=>nomatch z) h
 |@ins a C dx fs ea cl ha hn htk hm=>
  cases (show u=NZ a from rx)
  obtain⟨mA,O,_⟩:=qB I.hok ea
  obtain⟨od,J,_⟩:=O.look
  exact Pb (W.kitx_own (cl.get _) cl.hd ha hn htk hm) I.kIn J e (λz=>nomatch z) h
end
structure eY(k:Nat)(A:Oh):Prop where
 hd:A.handled=Ua
 dp:A.depth+3*k+5<Tt
 un:A.units+16*k+200<OO
theorem eY.mono{j k:Nat}{A:Oh}(r:eY k A)(h:j<=k):eY j A:=⟨r.hd,by have:=r.dp;omega,by have:=r.un;omega⟩
theorem eY.deeper{k:Nat}{A:Oh}(r:eY (k+1) A)(env:Env):eY k (A.deeper env):=
 ⟨r.hd,by have:=r.dp;show A.depth+1+3*k+5<_;omega,by have:=r.un;show A.units+3+16*k+200<_;omega⟩
theorem yx{A:Oh}{C:NL}{us:List NK}{kw:List (Str×NK)}:(A.under (.builtin "type.__call__" ⟨.ref C::us,kw⟩)).depth=A.depth+1:=by
 first|rfl|simp[Sn,Code.weight,Code.isCreation,Code.isGuard,Code.isCaller,Code.frames,So,guardIds]
theorem yH{A:Oh}{C:NL}{us:List NK}{kw:List (Str×NK)}:(A.under (.builtin "type.__call__" ⟨.ref C::us,kw⟩)).units=A.units+1:=by
 first|rfl|simp[Sn,Code.cUnits,Code.frames,So]
theorem eY.make{k:Nat}{A:Oh}(r:eY (k+1) A)(C:NL)(us:List NK)(kw:List (Str×NK)):eY k (A.under (.builtin "type.__call__" ⟨.ref C::us,kw⟩)):=
 ⟨r.hd,by have:=r.dp;rw[yx];omega,by have:=r.un;rw[yH];omega⟩
theorem eY.depth{k:Nat}{A:Oh}(r:eY k A):A.depth<Tt:=by have:=r.dp;omega
theorem eY.units{k:Nat}{A:Oh}(r:eY k A):A.units+64<OO:=by have:=r.un;omega
noncomputable def Ed:TA:=λ_ H Q=>Q [] H
noncomputable def E7(ta:TE)(tr:TA):TA:=λσ H Q=>ta σ H λx H1=>tr σ H1 λxs H2=>Q (x::xs) H2
section
variable{X:Cx}{e:Expr}{es:List Expr}{te:TE}{t:TA}{pos:Pos}
theorem af:PA X [] Ed:=λ_ _ _ _ H Q I h=>Sq ⟨[],H,I,.nil,h⟩
theorem aa(ha:PE X e te)(hr:PA X es t)(hs:NX (e::es) X.env=(false,OE e X.env)::NX es X.env:=by rfl):PA X (e::es) (E7 te t):=by
 intro pos pins s σ H Q I h;rw[hs];show wpAny _ _ (spliced ((false,OE e X.env)::OK pos (NX es X.env))) _ _ s;refine RM (thn (ha pins s σ H _ I h) λu s1 ⟨x,H1,I1,r1,q1⟩=>?_);exact thn (hr pos pins s1 σ H1 _ I1 q1) λus s2 ⟨xs,H2,I2,r2,q2⟩=>⟨x::xs,H2,I2,.cons r1 r2,q2⟩
noncomputable def JH(t:TA):TE:=λσ H Q=>t σ H λxs H1=>xs.length<=sizeLine/\∀p,H1 p=Ua->Q (.ref p) (upd H1 p (.tup xs))
noncomputable def Kb(t:TA):TE:=λσ H Q=>t σ H λxs H1=>xs.length<=sizeLine/\∀p,H1 p=Ua->Q (.ref p) (upd H1 p (.lst xs))
theorem bp{x1}(h:PA X es t):PE X (.Tuple es x1 pos) (JH t):=by
 intro pins s σ H Q I hq;refine wpAny_Tuple_spliced (thn (h pos pins s σ H _ I hq) λus s1 ⟨xs,H1,I1,r,z,q⟩=>⟨by rw[<-r.length];exact z,?_⟩);have hf:H1 s1.heap.objs.size=Ua:=I1.hok.fresh (KD _);refine⟨.ref s1.heap.objs.size,upd H1 s1.heap.objs.size (.tup xs),I1.laid (t':=s1.toks) (λb u e=>NQ _ e) (KD _) ?_,rfl,q _ hf⟩;exact⟨z,us,r,⟨_,Ob _ rfl,rfl,_,rfl⟩⟩
theorem bA(h:PA X es t):PE X (.List es pos) (Kb t):=by
 intro pins s σ H Q I hq;refine wpAny_List_spliced (thn (h pos pins s σ H _ I hq) λus s1 ⟨xs,H1,I1,r,z,q⟩=>⟨by rw[<-r.length];exact z,?_⟩);have hf:H1 s1.heap.objs.size=Ua:=I1.hok.fresh (KD _);refine⟨.ref s1.heap.objs.size,upd H1 s1.heap.objs.size (.lst xs),I1.laid (t':=s1.toks) (λb u e=>NQ _ e) (KD _) ?_,rfl,q _ hf⟩;exact⟨z,us,0,r,Ob _ rfl⟩
end
noncomputable abbrev Sp:=List V->Hp->VK->XK->Prop
noncomputable abbrev CXT:=List Env->Hp->NM->XK->NK->NM->Prop
structure y9(P:Program)(w:NW)(K:NO)(mg:Str->Option NK)(base:Oi)(A:Oh)(outer:List Env)(s:NM)(H:Hp):Prop where
 frames:A.frames=T9 outer
 mod:Mod K mg base
 bs:∀b o,base.get? b=T9 o->s.heap.get? b=T9 o/\H b=Ua
 bsz:base.objs.size<=s.heap.objs.size
 qt:s.heap.FunFrames base outer
 frf:∀b∈frs outer,H b=Ua
 hok:HOk P w H s.heap
 bare:Qw s.gens
noncomputable def CE(outer:List Env)(P:Program)(w:NW)(H:Hp)(s:NM)(Q:VK)(u:NK)(s':NM):Prop:=
 ∃v H',s'.os=s.os/\Qw s'.gens/\Un (frs outer) [] H H' s.heap s'.heap/\HOk P w H' s'.heap/\Ui v u/\Q v H'
noncomputable def CR(CX:CXT)(outer:List Env)(P:Program)(w:NW)(H:Hp)(s:NM)(Q:VK)(E:XK)(r:TZ)(s':NM):Prop:=
 match r with
 | .ok (.ret u)=>CE outer P w H s Q u s'
 | .ok _=>False
 | .error e=>CX outer H s E e s'
structure k7(P:Program)(w:NW)(K:NO)(mg:Str->Option NK)(base:Oi)(CX:CXT)(k:Nat)(f:NL)(fd:O0)(ps:List Str)(sp:Sp):Prop where
 len:∀vs H Q E,sp vs H Q E->vs.length=ps.length
 run:∀(A:Oh)(outer:List Env)(s:NM)(H:Hp)(args:Args)(us:List NK)(vs:List V)(Q:VK)(E:XK),eY k A->y9 P w K mg base A outer s H->Ru s fd args (ps.zip us)->Ug vs us->sp vs H Q E->
  codeAny (N0 P w) A (.call (.ref f) args) (CR CX outer P w H s Q E) s
theorem k7.imp{P:Program}{w:NW}{K:NO}{mg:Str->Option NK}{base:Oi}{CX:CXT}{k:Nat}{f:NL}{fd:O0}{ps:List Str}{sp sp':Sp}(F:k7 P w K mg base CX k f fd ps sp)
  (h:∀vs H Q E,sp' vs H Q E->sp vs H Q E):k7 P w K mg base CX k f fd ps sp':=
 ⟨λvs H Q E q=>F.len vs H Q E (h _ _ _ _ q),λA outer s H args us vs Q E hr he hb hv hs=>F.run A outer s H args us vs Q E hr he hb hv (h _ _ _ _ hs)⟩
theorem y9.make{P:Program}{w:NW}{K:NO}{mg:Str->Option NK}{base:Oi}{A:Oh}{outer:List Env}{s:NM}{H:Hp}(e:y9 P w K mg base A outer s H)(C:NL)(us:List NK)(kw:List (Str×NK)) :
  y9 P w K mg base (A.under (.builtin "type.__call__" ⟨.ref C::us,kw⟩)) outer s H:=⟨by first|exact e.frames|(simpa [Sn,Code.envs,So,pushEnvs] using e.frames),e.mod,e.bs,e.bsz,e.qt,e.frf,e.hok,e.bare⟩
section
variable{X:Cx}{pins:List (NL×Obj)}{σ:St}{H:Hp}{s s':NM}
theorem Inv.C7(I:Inv X pins σ H s):y9 X.prog X.w X.K X.mg X.base X.A X.stack s H:=
 ⟨I.ok.frames,I.ok.mod,I.bs,KR I.ok.bsz I.sz,I.stack,I.Ai,I.hok,I.bare⟩
theorem Inv.after{Q:VK}{u:NK}(I:Inv X pins σ H s)(h:CE X.stack X.prog X.w H s Q u s'):EP X pins σ Q u s':=by
 obtain⟨v,H',os,bare,un,hok,r,q⟩:=h;obtain⟨hh,g,d,t,os'⟩:=s';obtain rfl:os'=s.os:=os;exact⟨v,H',I.call (h':=hh) (g':=g) (d':=d) (t':=t) (ch:=[]) un hok bare (λb z=>absurd z (by simp)),r,q⟩
end
noncomputable def Dn(sp:Sp)(dvs:List V)(E:XK)(t:TA):TE:=λσ H Q=>t σ H λvs H1=>sp (vs++dvs) H1 Q E
inductive II(C:NL)(m:Str)(x:V)(H:Hp)(R:Prop):Prop
 |mk(a dx:NL)(fs:List (Str×V))(h0:x=.ref a)(h1:H a=T9 (.ins C dx fs))(h2:fs.lookup m=Ua)(q:R):II C m x H R
noncomputable def Fi(C:NL)(m:Str)(sp:Sp)(dvs:List V)(E:XK)(ta:TE)(t:TA):TE:=λσ H Q=>ta σ H λx H1=>II C m x H1 (t σ H1 λvs H2=>sp (x::(vs++dvs)) H2 Q E)
noncomputable def zE(C:NL)(sp:Sp)(dvs:List V)(E:XK)(t:TA):TE:=λσ H Q=>t σ H λvs H1=>∀x dx,H1 x=Ua->H1 dx=Ua->dx≠x->
 sp (.ref x::(vs++dvs)) (upd (upd H1 dx (.own x)) x (.ins C dx [])) (λv H2=>v=.non/\Q (.ref x) H2) E
noncomputable def Ul(K:NO)(fd:O0)(ps:List Str)(ds:List NK):Prop:=
 ∀(s:NM)(us:List NK),K.In s.heap->(us++ds).length=ps.length->Ru s fd ⟨us,[]⟩ (ps.zip (us++ds))
theorem Ul.all{K:NO}{fd:O0}{ps:List Str}(h:∀us:List NK,us.length=ps.length->Q8 fd ⟨us,[]⟩=pure (ps.zip us)):Ul K fd ps []:=λs us _ hl=>by
 rw[Lv]at hl⊢;exact .of_eq (h us hl)
noncomputable def Uo(CX:CXT)(X:Cx)(E:XK):Prop:=∀(pins:List (NL×Obj))(σ:St)(H:Hp)(s:NM)(e:NK)(s':NM),Inv X pins σ H s->CX X.stack H s E e s'->X.xe e s'
section
variable{X:Cx}{CX:CXT}{k:Nat}{f C:NL}{fd:O0}{ps:List Str}{sp:Sp}{dvs:List V}{ds:List NK}{E:XK}{x m:Str}{p pos apos:Pos}{e o:Expr}{es:List Expr}{ta:TE}{t:TA}
theorem yD{pins:List (NL×Obj)}{σ:St}{H:Hp}{s:NM}{Q:VK}{us:List NK}{vs:List V}(F:k7 X.prog X.w X.K X.mg X.base CX k f fd ps sp)(hr:eY k X.A)(hb:Ul X.K fd ps ds)(hd:Ug dvs ds)(hx:Uo CX X E)
  (I:Inv X pins σ H s) (r:Ug vs us) (h:sp (vs++dvs) H Q E):wpAny (N0 X.prog X.w) X.A (call (.ref f) us) (EP X pins σ Q) X.xe s:=by
 have r2:Ug (vs++dvs) (us++ds):=r.append hd
 have hl:(us++ds).length=ps.length:=by rw[<-r2.length];exact F.len _ _ _ _ h
 refine wpAny_call (QR (F.run X.A X.stack s H ⟨us,[]⟩ (us++ds) (vs++dvs) Q E hr I.C7 (hb s us I.kIn hl) r2 h) λr s' hq=>?_)
 cases r with
 |error e=>exact hx pins σ H s e s' I hq
 |ok fl=>
  cases fl with
  |ret u=>exact I.after hq
  |next=>exact OP hq
  |brk=>exact OP hq
  |cont=>exact OP hq
theorem DA(F:k7 X.prog X.w X.K X.mg X.base CX k f fd ps sp)(hr:eY k X.A)(hg:Gl X x)(hm:X.mg x=T9 (.ref f))(hk:Po X.K (.ref f)=true)(hb:Ul X.K fd ps ds)(hd:Ug dvs ds)(hx:Uo CX X E)
  (ha:PA X (e::es) t) (hdb:(x==("__debug__":Str))=false:=by decide) (he:NX (e::es) X.env=(false,OE e X.env)::NX es X.env:=by rfl) (hpl:(OK pos (NX es X.env)).any (·.1)=false:=by rfl) :
  PE X (.Call (.Name x p) (e::es) [] pos) (Dn sp dvs E t):=by
 intro pins s σ H Q I h
 refine O9 (oP I hg hm ?_ hdb)
 refine Sr (h₀:=X.base) I.ok.mod.kin hk (thn (ha pos pins s σ H _ I h) λus s1 ⟨vs,H1,I1,r,q⟩=>⟨I1.kIn,?_⟩) he hpl
 exact yD F hr hb hd hx I1 r q
theorem Es{pl:Sem Bool}(he:PE X o ta)(c:Cls X.K C)(hm:UD X.K C m f)(F:k7 X.prog X.w X.K X.mg X.base CX k f fd ps sp)(hr:eY k X.A)(hb:Ul X.K fd ps ds)(hd:Ug dvs ds)(hx:Uo CX X E)(ha:PA X (e::es) t)
  (hst:NX (e::es) X.env=(false,OE e X.env)::NX es X.env:=by rfl) (hpl:(OK pos (NX es X.env)).any (·.1)=false:=by rfl)
  (ht:OE (.Call (.Attribute o m apos) (e::es) [] pos) X.env=(do
   let ov<-OE o X.env
   Si apos.atName
   let (f,first)<-Pr [ov] (Rt ov m pl)
   callWith pos f first (OK pos (NX (e::es) X.env)) (Qp pos (Pj [] X.env))):=by rfl) :
  PE X (.Call (.Attribute o m apos) (e::es) [] pos) (Fi C m sp dvs E ta t):=by
 intro pins s σ H Q I h
 refine W.methodCall_KW (pl:=pl) (thn (he pins s σ H _ I h) λu s1 ⟨x,H1,I1,rx,a,dx,fs,ex,ea,l,q⟩=>?_) ht
 subst ex
 obtain rfl:u=NZ a:=rx
 refine yc I1 ea c hm l ?_
 refine Sr (first:=[.ref a]) (h₀:=X.base) I.ok.mod.kin hm.kp (thn (ha pos pins s1 σ H1 _ I1 q) λus s2 ⟨vs,H2,I2,r,q2⟩=>⟨I2.kIn,?_⟩) hst hpl
 exact yD (us:=.ref a::us) (vs:=.ref a::vs) F hr hb hd hx I2 (.cons rfl r) q2
structure Mk(K:NO)(C f:NL):Prop where
 makes:SN K C=true
 init:OJ K (.ref C) "__init__"=T9 (T9 (.ref f))
 fn:TY K (.ref f)=true
 kp:Po K (.ref C)=true
theorem xx{pins:List (NL×Obj)}{σ:St}{H:Hp}{s:NM}{Q:VK}{us:List NK}{vs:List V}(M:Mk X.K C f)(F:k7 X.prog X.w X.K X.mg X.base CX k f fd ps sp)(hr:eY (k+1) X.A)(hb:Ul X.K fd ps ds)(hd:Ug dvs ds)
  (hx:Uo CX X E) (I:Inv X pins σ H s) (r:Ug vs us)
  (h:∀x dx,H x=Ua->H dx=Ua->dx≠x->sp (.ref x::(vs++dvs)) (upd (upd H dx (.own x)) x (.ins C dx [])) (λv H2=>v=.non/\Q (.ref x) H2) E) :
  wpAny (N0 X.prog X.w) X.A (call (.ref C) us) (EP X pins σ Q) X.xe s:=by
 have hq:=h (s.heap.objs.size+1) s.heap.objs.size (I.hok.fresh (Nc _)) (I.hok.fresh (KD _)) (Ll (Mn _))
 have I2:=Inv.made (C:=C) I
 have r2:Ug (V.ref (s.heap.objs.size+1)::(vs++dvs)) (NZ (s.heap.objs.size+1)::(us++ds)):=.cons rfl (r.append hd)
 have hl:(NZ (s.heap.objs.size+1)::us++ds).length=ps.length:=by
  have e:=r2.length;rw[F.len _ _ _ _ hq]at e;exact e.symm
 refine wpAny_call (CJ (f:=f) I.kIn M.makes M.init (beq_iff_eq.mp M.fn) (QR (F.run _ X.stack _ _ ⟨NZ (s.heap.objs.size+1)::us,[]⟩ (NZ (s.heap.objs.size+1)::(us++ds)) _ _ E (hr.make C us [])
  (I2.C7.make C us []) (hb _ (NZ (s.heap.objs.size+1)::us) I2.kIn hl) r2 hq) λr s' hq'=>?_))
 cases r with
 |error e=>exact hx pins σ _ _ e s' I2 hq'
 |ok fl=>
  cases fl with
  |ret u=>
   obtain⟨v,H',I3,rv,ev,q3⟩:=I2.after hq'
   subst ev
   exact⟨rv,⟨V.ref (s.heap.objs.size+1),H',I3,rfl,q3⟩⟩
  |next=>exact OP hq'
  |brk=>exact OP hq'
  |cont=>exact OP hq'
theorem EO(M:Mk X.K C f)(F:k7 X.prog X.w X.K X.mg X.base CX k f fd ps sp)(hr:eY (k+1) X.A)(hg:Gl X x)(hm:X.mg x=T9 (.ref C))(hb:Ul X.K fd ps ds)(hd:Ug dvs ds)(hx:Uo CX X E)
  (ha:PA X (e::es) t) (hdb:(x==("__debug__":Str))=false:=by decide) (he:NX (e::es) X.env=(false,OE e X.env)::NX es X.env:=by rfl) (hpl:(OK pos (NX es X.env)).any (·.1)=false:=by rfl) :
  PE X (.Call (.Name x p) (e::es) [] pos) (zE C sp dvs E t):=by
 intro pins s σ H Q I h
 refine O9 (oP I hg hm ?_ hdb)
 refine Sr (h₀:=X.base) I.ok.mod.kin M.kp (thn (ha pos pins s σ H _ I h) λus s1 ⟨vs,H1,I1,r,q⟩=>⟨I1.kIn,?_⟩) he hpl
 exact xx M F hr hb hd hx I1 r q
theorem BH(M:Mk X.K C f)(F:k7 X.prog X.w X.K X.mg X.base CX k f fd ps sp)(hr:eY (k+1) X.A)(hg:Gl X x)(hm:X.mg x=T9 (.ref C))(hb:Ul X.K fd ps ds)(hd:Ug dvs ds)(hx:Uo CX X E)
  (hdb:(x==("__debug__":Str))=false:=by decide):PE X (.Call (.Name x p) [] [] pos) (zE C sp dvs E Ed):=by
 intro pins s σ H Q I h
 refine O9 (oP I hg hm ?_ hdb)
 exact W.callWith_K0 I.kIn M.kp (xx (us:=[]) M F hr hb hd hx I .nil h)
end
section
variable{X:Cx}{CX:CXT}{k:Nat}{f C:NL}{fd:O0}{ps ks:List Str}{sp:Sp}{E:XK}{x m:Str}{p pos apos kpos:Pos}{e o:Expr}{es:List Expr}{kws:List P4}{te ta:TE}{t tk:TA}{nm:Option Str}
structure KBinds(K:NO)(fd:O0)(ps ks:List Str)(g:List NK->List NK->List NK)(gV:List V->List V->List V):Prop where
 to:∀(s:NM)(us ws:List NK),K.In s.heap->(g us ws).length=ps.length->Ru s fd ⟨us,ks.zip ws⟩ (ps.zip (g us ws))
 rel:∀{vs:List V}{us:List NK}{zs:List V}{ws:List NK},Ug vs us->Ug zs ws->Ug (gV vs zs) (g us ws)
variable{g:List NK->List NK->List NK}{gV:List V->List V->List V}
end
structure az(N P:List Str)(sc:Pz):Prop where
 kind:sc.kind=.function
 co:sc.isCoroutine=false
 gen:sc.isGenerator=false
 nd:N.Nodup
 pre:N.take P.length=P
 par:∀x∈P,sc.names.lookup x=T9 .local\/sc.names.lookup x=T9 .cell
 Ht:∀y∈sc.names,y.2≠ .free
theorem uF{kindOf:Str->Option O4}{x:Str}:∀{binds:List (Str×NK)}{m:Str->Option NK},(∀v,(x,v)∉binds)->Tu kindOf binds m x=m x
 | [],_,_=>rfl
 | (n,v)::r,m,h=>by
  unfold Tu;rw[uF λw hw=>h w (Kw _ hw)];split
  ·have:x≠n:=by rintro rfl;exact h v Ku
   simp[this]
  rfl
theorem ug{kindOf:Str->Option O4}{x:Str}:∀{binds:List (Str×NK)}{m:Str->Option NK},(∀v,(x,v)∉binds)->Tv kindOf binds m x=m x
 | [],_,_=>rfl
 | (n,v)::r,m,h=>by
  unfold Tv;rw[ug λw hw=>h w (Kw _ hw)];split
  ·rfl
  have:x≠n:=by rintro rfl;exact h v Ku
  simp[this]
theorem uo{kindOf:Str->Option O4}{x:Str}{v:NK}:∀{P:List Str}{vs:List NK}{i:Nat}{m:Str->Option NK},P.Nodup->P[i]?=T9 x->vs[i]?=T9 v->kindOf x=T9 .local->
  Tu kindOf (P.zip vs) m x=T9 v
 | [],_,_,_,_,h,_,_=>by simp at h
 |_::_,[],_,_,_,_,h,_=>by simp at h
 |p::P,w::vs,0,m,nd,h1,h2,hk=>by
  simp at h1 h2;subst h1;subst h2;show Tu kindOf ((p,w)::P.zip vs) m p=_;unfold Tu;rw[uF λv hv=>(KU.mp nd).1 (Np hv).1,if_pos hk];simp
 |p::P,w::vs,i+1,m,nd,h1,h2,hk=>by
  show Tu kindOf ((p,w)::P.zip vs) m x=_;unfold Tu;exact uo (i:=i) (KU.mp nd).2 (by simpa using h1) (by simpa using h2) hk
theorem tX{kindOf:Str->Option O4}{x:Str}{v:NK}:∀{P:List Str}{vs:List NK}{i:Nat}{m:Str->Option NK},P.Nodup->P[i]?=T9 x->vs[i]?=T9 v->kindOf x≠T9 .local->
  Tv kindOf (P.zip vs) m x=T9 v
 | [],_,_,_,_,h,_,_=>by simp at h
 |_::_,[],_,_,_,_,h,_=>by simp at h
 |p::P,w::vs,0,m,nd,h1,h2,hk=>by
  simp at h1 h2;subst h1;subst h2;show Tv kindOf ((p,w)::P.zip vs) m p=_;unfold Tv;rw[ug λv hv=>(KU.mp nd).1 (Np hv).1,if_neg hk];simp
 |p::P,w::vs,i+1,m,nd,h1,h2,hk=>by
  show Tv kindOf ((p,w)::P.zip vs) m x=_;unfold Tv;exact tX (i:=i) (KU.mp nd).2 (by simpa using h1) (by simpa using h2) hk
noncomputable def Ur(N:List Str)(vs:List V):St:=vs.map T9++Oc (N.length-vs.length) Ua
noncomputable def wJ(CX:CXT)(P:Program)(w:NW)(K:NO)(mg:Str->Option NK)(base:Oi)(N:List Str)(qual:Str)(scope:Pz)(f:NL)(cd:NK)(A:Oh)(outer:List Env)(s:NM)(H:Hp)(E:XK):Cx where
 prog:=P
 w:=w
 K:=K
 mg:=mg
 base:=base
 A:=A.deeper (P9 qual scope s.heap.objs.size f cd)
 N:=N
 s₀:=s
 H₀:=H
 env:=P9 qual scope s.heap.objs.size f cd
 outer:=outer
 stack:=P9 qual scope s.heap.objs.size f cd::outer
 ex:=[]
 calm:=true
 fn:=λ_=>true
 pn:=[]
 xe:=λe s'=>wpAny (N0 P w) (A.deeper (P9 qual scope s.heap.objs.size f cd)) (leaving (P9 qual scope s.heap.objs.size f cd) e) (λ_ s''=>CX outer H s E e s'') (λe' s''=>CX outer H s E e' s'') s'
theorem xa{sc:Pz}{n:Nat}{x:Str}(h:sc.names.lookup x=T9 .cell):∃c,(OA n sc.names []).lookup x=T9 c:=by
 have q:=PY sc.names n [] (.inl h);exact ME.mp q
theorem AM{CX:CXT}{P:Program}{w:NW}{K:NO}{mg:Str->Option NK}{base:Oi}{N ps:List Str}{qual:Str}{scope:Pz}{f:NL}{cd:NK}{A:Oh}{outer:List Env}{s s1:NM}{H:Hp}{E:XK}{us:List NK}{vs:List V}
  (S:az N ps scope) (hd:A.handled=Ua) (e0:y9 P w K mg base A outer s H) (hl:vs.length=ps.length) (r:Ug vs us)
  (x:InCallC s s.heap.objs.size (Tu (P9 qual scope s.heap.objs.size f cd).kindOf (ps.zip us) λ_=>Ua) (OA (s.heap.objs.size+1) scope.names []) (Tv (P9 qual scope s.heap.objs.size f cd).kindOf (ps.zip us) λ_=>Ua) s1) :
  Inv (wJ CX P w K mg base N qual scope f cd A outer s H E) [] (Ur N vs) H s1:=by
 have hpl:ps.length<=N.length:=by have:=congrArg List.length S.pre;rw[LA]at this;omega
 obtain⟨h1,tk,rfl,hk⟩:=x.done
 have noA:∀b:NL,b∉(wJ CX P w K mg base N qual scope f cd A outer s H E).ex:=λb z=>absurd (show b∈([]:List NL)from z) (by simp)
 refine⟨⟨e0.mod,S.kind,rfl,rfl,KD _,λy z c h1 h2=>?_,λy hy=>?_,λy c _ h=>?_,λ_=>hd,Around.frames_deeper e0.frames,.inr ⟨rfl,rfl⟩,λb z=>absurd z (noA b),e0.bs,e0.bsz,λb _ _=>noA b,λb z=>absurd z (noA b),e0.qt,e0.frf⟩,
  rfl,e0.bare,Un.kept hk,⟨_,x.toInCall.ns,λi y v h1 h2 h3=>?_⟩,λy c h=>⟨_,x.cell y c h⟩,e0.hok.fresh (KD _),λy c h=>?_,λp hp=>absurd (show p∈([]:List (NL×Obj))from hp) (by simp),e0.hok.kept hk,?_⟩
 ·exact name_of_addr x.apart (Og h1) (Og h2)
 ·have hy:scope.names.lookup y=T9 .cell\/scope.names.lookup y=T9 .free:=hy;rcases hy with hy|hy
  ·exact xa hy
  exact absurd rfl (S.Ht _ (Og hy))
 ·exact Nm (x.above y c (Og h))
 ·have hi:i<vs.length:=by
   unfold Ur at h2;by_cases hi:i<vs.length
   ·exact hi
   rw[Mf (by simpa using hi)]at h2;rw[QG]at h2;split at h2<;>cases h2
  have ha:vs[i]?=T9 v:=by
   unfold Ur at h2;rw[Mi (by simpa using hi),KO]at h2;cases e:vs[i]? with
   |none=>rw[e]at h2;cases h2
   |some a=>rw[e]at h2;cases h2;rfl
  obtain⟨u,hu,rv⟩:=r.get ha;have hp:ps[i]?=T9 y:=by
   rw[<-S.pre,Qz (by omega)];exact h1
  have ndP:ps.Nodup:=by rw[<-S.pre];exact S.nd.sublist (List.take_sublist _ _)
  refine⟨u,rv,?_⟩;rcases S.par y (KI hp)with k|k
  ·exact .inl ⟨k,uo ndP hp hu k⟩
  obtain⟨c,e⟩:=xa (n:=s.heap.objs.size+1) k;refine .inr ⟨.inl k,c,e,?_⟩;have q:=x.cell y c e;rw[tX ndP hp hu (by show scope.names.lookup y≠_;rw[k];decide)]at q;exact q
 ·exact e0.hok.fresh (Nm (x.above y c (Og h)))
 unfold Ur
 show _=N.length
 rw[KC,Kx,LW]
 omega
theorem Jb{CX:CXT}{P:Program}{w:NW}{K:NO}{mg:Str->Option NK}{base:Oi}{k:Nat}{f:NL}{name qual:Str}{params:Arguments}{body:List Oj}{scope:Pz}{dV kV doc pm cdv ct oc:NK}{an od:Option NL}
  {osl:Array (Option NK)}{N ps:List Str}{sp:Sp} (lk:K.lookup f=T9 ⟨oc,od,.func (PH name qual params body scope dV kV doc pm an cdv ct),osl⟩) (hcd:Q9 K cdv qual=true) (S:az N ps scope)
  (len:∀vs H Q E,sp vs H Q E->vs.length=ps.length)
  (hbody:∀(A:Oh)(outer:List Env)(s:NM)(H:Hp)(vs:List V)(Q:VK)(E:XK),eY k (A.deeper (P9 qual scope s.heap.objs.size f cdv))->sp vs H Q E->
   ∃t,PSs (wJ CX P w K mg base N qual scope f cdv A outer s H E) body t/\t { nx:=λ_ H'=>Q .non H',rt:=Q } (Ur N vs) H) :
  k7 P w K mg base CX (k+1) f (PH name qual params body scope dV kV doc pm an cdv ct) ps sp:=by
 refine⟨len,λA outer s H args us vs Q E hr e0 hb r hsp=>?_⟩
 have hl:=len _ _ _ _ hsp
 have KX:K.In s.heap:=e0.mod.kin.keeps λb o e=>(e0.bs b o e).1
 have lim:s.heap.NoLimit:=e0.mod.nolimit.keeps λb o e=>(e0.bs b o e).1
 have hkind:∀y∈ps.zip us,scope.names.lookup y.1=T9 .local\/(scope.names.lookup y.1=T9 .cell/\((OA (s.heap.objs.size+1) scope.names []).lookup y.1).isSome=true):=λ⟨n,v⟩ hy=>by
  rcases S.par n (Np hy).1 with q|q
  ·exact .inl q
  exact .inr ⟨q,PY _ _ _ (.inl q)⟩
 refine codeAny_call_function hr.depth (KX _ _ lk) rfl S.co S.gen rfl (W.codeRec_of KX hcd) (hb _ _ _ _ ?_)
 refine wpAny_newFunctionEnv_cells S.kind hkind λenv he s1 x=>?_
 subst he
 refine⟨lim.keeps x.toInCall.keep,codeAny_func ?_⟩
 obtain⟨t,ht,hq⟩:=hbody A outer s H vs Q E (hr.deeper _) hsp
 have I:Inv (wJ CX P w K mg base N qual scope f cdv A outer s H E) [] (Ur N vs) H s1:=AM S hr.hd e0 hl r x
 refine OU (ht [] s1 (Ur N vs) H _ I hq) (λfl s' hs=>?_) λe s' hs=>hs
 have fin:∀{σ':St}{H':Hp}{v:V}{u:NK},Inv (wJ CX P w K mg base N qual scope f cdv A outer s H E) [] σ' H' s'->Ui v u->Q v H'->CE outer P w H s Q u s':=
  λ{σ' H' v u} J rv q=>⟨v,H',J.os,J.bare,J.base,J.hok,rv,q⟩
 cases fl with
 |ret u=>
  obtain⟨v,σ',H',J,rv,q⟩:=hs
  exact fin J rv q
 |next=>
  obtain⟨σ',H',J,q⟩:=hs
  exact fin (v:=V.non) (u:=RL) J rfl q
 |brk=>
  obtain⟨_,_,_,q⟩:=hs
  exact OP q
 |cont=>
  obtain⟨_,_,_,q⟩:=hs
  exact OP q
section
variable{X:Cx}{x:Str}{p pos:Pos}{e:Expr}{es:List Expr}{t:TA}{id T:String}{r:List V->Hp->VK->Prop}
noncomputable def tCB(r:List V->Hp->VK->Prop)(t:TA):TE:=λσ H Q=>t σ H λvs H1=>r vs H1 Q
theorem CN(hc:dE X (.builtin id) r)(hg:Gl X x)(hm:X.mg x=Ua)(hv:OZ x=T9 (.builtin id))(ha:PA X (e::es) t)(hn:x≠"__name__":=by decide)(hdb:(x==("__debug__":Str))=false:=by decide)
  (he:NX (e::es) X.env=(false,OE e X.env)::NX es X.env:=by rfl) (hpl:(OK pos (NX es X.env)).any (·.1)=false:=by rfl):PE X (.Call (.Name x p) (e::es) [] pos) (tCB r t):=by
 intro pins s σ H Q I h
 refine O9 (rL I hg hm hv ?_ hn hdb)
 exact PyProof.Rows.callWith_builtin1 (thn (ha pos pins s σ H _ I h) λus s1 ⟨vs,H1,I1,r1,q1⟩=>hc pins s1 σ H1 vs us Q I1 r1 q1) he hpl
theorem As(hc:dE X (.type T) r)(hg:Gl X x)(hm:X.mg x=Ua)(hv:OZ x=T9 (.type T))(ha:PA X (e::es) t)(hn:x≠"__name__":=by decide)(hdb:(x==("__debug__":Str))=false:=by decide)
  (he:NX (e::es) X.env=(false,OE e X.env)::NX es X.env:=by rfl) (hpl:(OK pos (NX es X.env)).any (·.1)=false:=by rfl):PE X (.Call (.Name x p) (e::es) [] pos) (tCB r t):=by
 intro pins s σ H Q I h
 refine O9 (rL I hg hm hv ?_ hn hdb)
 exact Pd (thn (ha pos pins s σ H _ I h) λus s1 ⟨vs,H1,I1,r1,q1⟩=>hc pins s1 σ H1 vs us Q I1 r1 q1) he hpl
end
end L2
namespace HT
open PySem PyProof.Rows
section
open PySem.SeqAt
open PySem.AutoSeq1 (wpAny_loadPart')
open PySem.MeetsSeq PySem.MeetsSeq2 PySem.MeetsSeq3
end
section
variable{prog:Program}{w:NW}{A:Oh}{E:NK->NM->Prop}{s:NM}
theorem DW{t b:NL}{vs ws:List NK}{Q:NK->NM->Prop}(ht:IsTup s.heap t vs.toArray)(hb:IsTup s.heap b ws.toArray)(hv:vs≠[])
  (h1:ws=[]->Q (.ref t) s) (h2:ws≠[]->Q (.ref s.heap.objs.size) { s with heap:=s.heap.push { cls:=.type "tuple",data:=.seq (vs++ws).toArray } })
  (hsz:vs.length+ws.length<=sizeLine):wpAny (N0 prog w) A (OG .Add (.ref t) (.ref b)) Q E s:=by
 obtain⟨⟨cls,dd,data,sl⟩,ho,hc,n,hd⟩:=id ht
 obtain⟨⟨cls2,dd2,data2,sl2⟩,ho2,hc2,n2,hd2⟩:=id hb
 simp only at hc hd hc2 hd2
 subst hc hd hc2 hd2
 have e:vs.toArray++ws.toArray=(vs++ws).toArray:=by simp
 by_cases hw:ws=[]
 ·exact concat_meets ⟨_,ho,rfl⟩ ⟨_,ho2,rfl⟩ SQ seq_tuple_add QS QH (QA _ _)
   (tuple_addW1 t b vs.toArray ws.toArray n n2 dd dd2 sl sl2 (by simpa using hv) (by simp[hw])) ⟨ho,ho2,h1 hw⟩
 refine concat_meets ⟨_,ho,rfl⟩ ⟨_,ho2,rfl⟩ SQ seq_tuple_add QS QH (QA _ _)
  (tuple_addW2 t b vs.toArray ws.toArray n n2 dd dd2 sl sl2 (by simpa using hv) (by simpa using hw) (by rw[KL,KL];exact hsz)) ⟨ho,ho2,?_⟩
 rw[e]
 exact h2 hw
noncomputable def sIx(n d:Nat):Option Int->Nat
 |none=>d
 |some v=>if v<0 then(v+(n:Int)).toNat else min v.toNat n
theorem Ga(n d:Nat)(hd:d<=n)(o:Option Int):sIx n d o<=n:=by
 cases o with
 |none=>exact hd
 |some v=>
  show(if v<0 then(v+(n:Int)).toNat else min v.toNat n)<=n;by_cases hv:v<0
  ·rw[if_pos hv];omega
  rw[if_neg hv];exact Nat.min_le_right _ _
theorem Ah(v:Int)(n d:Nat):(if v<0 then max (v+(n:Int)) 0 else min v (n:Int))=((sIx n d (T9 v):Nat):Int):=by
 show(if v<0 then max (v+(n:Int)) 0 else min v (n:Int))=(((if v<0 then(v+(n:Int)).toNat else min v.toNat n):Nat):Int);by_cases hv:v<0
 ·simp only[if_pos hv];omega
 simp only[if_neg hv];omega
theorem yG(lo hi:Option Int)(n:Nat):Pm lo hi 1 (n:Int)=(((sIx n 0 lo:Nat):Int),((sIx n n hi:Nat):Int)):=by
 have h1:¬ ((1:Int)<0):=by omega
 unfold Pm;simp only[h1,if_false];refine Qj ?_ ?_
 ·cases lo with
  |none=>rfl
  |some v=>exact Ah v n 0
 cases hi with
 |none=>rfl
 |some v=>exact Ah v n n
theorem yW(i j:Nat):OW (i:Int) (j:Int) 1=j-i:=by
 unfold OW;have h1:(1:Int)>0:=by omega
 simp only[h1,if_true,Int.ediv_one];split<;>omega
theorem rC{v:NK}{o:Option Int}{Q:Option Int->NM->Prop}(p:RN v o)(h:Q o s):wpAny (N0 prog w) A (Builtin.Slice.slicePartIndex v) Q E s:=by
 cases p with
 |none=>exact Tw h
 |int i t=>exact slicePart_int h
theorem pH{sl:NL}{vl vu:NK}{lo hi:Option Int}{n:Nat}{Q:Int×Int×Nat->NM->Prop}(hs:s.heap.IsSliceOf sl vl vu .none)(pl:RN vl lo)(pu:RN vu hi)
  (h:Q (((sIx n 0 lo:Nat):Int),1,sIx n n hi-sIx n 0 lo) s):wpAny (N0 prog w) A (Qq (.ref sl) (pure (n:Int))) Q E s:=by
 obtain⟨os,hos,hcs,hds⟩:=id hs
 unfold Qq Builtin.Slice.sliceFields
 refine NN (NN (S7 hos hds (x:=vl) rfl (NN (S7 hos hds (x:=vu) rfl (NN (S7 hos hds (x:=.none) rfl (NU ?_)))))))
 refine NN (Tw ?_)
 show wpAny _ _ (if((1:Int)==0)=true then _ else _) _ _ s
 rw[if_neg (by decide)]
 refine NN (rC pl (NN (rC pu (NN (NU ?_)))))
 show wpAny _ _ (match Pm lo hi 1 (n:Int)with|(lo,hi)=>pure (lo,(1:Int),OW lo hi 1)) _ _ s
 rw[yG lo hi n]
 show wpAny _ _ (pure (((sIx n 0 lo:Nat):Int),(1:Int),OW ((sIx n 0 lo:Nat):Int) ((sIx n n hi:Nat):Int) 1)) _ _ s
 rw[yW]
 exact NU h
theorem BG(xs:Array NK)(i k:Nat):((Od k).filterMap λ(m:Nat)=>xs[((i:Int)+(m:Int)*1).toNat]?).toArray=((xs.toList.drop i).take k).toArray:=by
 have e:(λ(m:Nat)=>xs[((i:Int)+(m:Int)*1).toNat]?)=λm=>xs[i+m]?:=by
  funext m
  have:((i:Int)+(m:Int)*1).toNat=i+m:=by omega
  rw[this]
 rw[e];have:=pick_run xs i k;rw[List.filterMap_map]at this;have e2:((λx=>xs[x]?)∘λx=>i+x)=λm=>xs[i+m]?:=rfl;rw[e2]at this;rw[this]
theorem o8{t sl:NL}{items:Array NK}{vl vu:NK}{lo hi:Option Int}{Q:NK->NM->Prop}(ht:IsTup s.heap t items)(hs:s.heap.IsSliceOf sl vl vu .none)(pl:RN vl lo)(pu:RN vu hi)
  (hw:¬ (sIx items.size 0 lo=0/\sIx items.size items.size hi=items.size))
  (h:Q (.ref s.heap.objs.size) { s with heap:=s.heap.push { cls:=.type "tuple",data:=.seq ((items.toList.drop (sIx items.size 0 lo)).take (sIx items.size items.size hi-sIx items.size 0 lo)).toArray } })
  (hsz:items.size<=sizeLine):wpAny (N0 prog w) A (Rv (.ref t) (.ref sl)) Q E s:=by
 have htake:sizeOk (.seq ((items.toList.drop (sIx items.size 0 lo)).take (sIx items.size items.size hi-sIx items.size 0 lo)).toArray):=by
  show((items.toList.drop (sIx items.size 0 lo)).take (sIx items.size items.size hi-sIx items.size 0 lo)).toArray.size<=sizeLine;rw[KL,LA,Mo,MT];omega
 have hj:sIx items.size items.size hi<=items.size:=Ga _ _ (KD _) hi
 obtain⟨os,hos,hcs,hds⟩:=id hs
 have hTs:s.TypeIs (.ref sl) "slice":=⟨os,hos,hcs⟩
 unfold Rv
 try with_reducible refine wpAny_holding ?_
 first|refine NN (NU ?_)|skip
 refine NN (wpAny_sequenceKey ht.typeIs (by decide) ?_)
 refine NN (wpAny_callSpecial?_slot (name:=Str.ofString "__getitem__") ht.typeIs PQ
  (PZ PQ ht.typeIs entry_tuple_getitem ?_ (args_tuple_getitem _ _)))
 show wpAny _ _ (Builtin.Tuple.tupleItemsOf (.ref t)>>=_) _ _ s
 refine NN (tupleItemsOf_ ht ?_)
 refine NN (Ss hTs ?_)
 rw[if_pos (by decide)]
 refine NN (pH hs pl pu ?_)
 have hno:¬ ((((sIx items.size 0 lo:Nat):Int)==0&&(1:Int)==1&&(sIx items.size items.size hi-sIx items.size 0 lo)==items.size)=true):=by
  intro q;rw[LS,LS]at q;have q1:((sIx items.size 0 lo:Nat):Int)=0:=eq_of_beq q.1.1;have q2:sIx items.size items.size hi-sIx items.size 0 lo=items.size:=eq_of_beq q.2;exact hw ⟨by omega,by omega⟩
 show wpAny _ _ (if(((sIx items.size 0 lo:Nat):Int)==0&&(1:Int)==1&&(sIx items.size items.size hi-sIx items.size 0 lo)==items.size)=true then _ else _) _ _ s
 rw[if_neg hno,BG]
 first
  |exact NN (m:=O1 _) (Pe (NU ⟨_,rfl,NU h⟩) htake)
  |exact NN (m:=O1 _) (Pe (NN (NU (NU ⟨_,rfl,NU h⟩))) htake)
  |exact NN (NN (m:=O1 _) (Pe (NU (NU ⟨_,rfl,NU h⟩)) htake))
  |exact NN (NN (m:=O1 _) (Pe (NU ⟨_,rfl,NU h⟩) htake))
end
end HT
namespace L2
open PySem PySem.Spec PyProof.Rows
noncomputable abbrev TO:=St->Hp->(Option Int->Hp->Prop)->Prop
noncomputable def PO(X:Cx)(e:Option Expr)(t:TO):Prop:=
 ∀(pins:List (NL×Obj))(s:NM)(σ:St)(H:Hp)(Q:Option Int->Hp->Prop),Inv X pins σ H s->t σ H Q->
  wpAny (N0 X.prog X.w) X.A (evalPart e X.env) (λu s'=>∃o H',Inv X pins σ H' s'/\RN u o/\Q o H') X.xe s
noncomputable def DM:TO:=λ_ H Q=>Q Ua H
inductive Js(x:V)(H:Hp)(Q:Option Int->Hp->Prop):Prop
 |mk(i:Int)(h:x=.int i)(q:Q (T9 i) H):Js x H Q
noncomputable def Ie(t:TE):TO:=λσ H Q=>t σ H λx H1=>Js x H1 Q
theorem Us{ns:List Int}:∀{us:List NK},Ug (ns.map V.int) us->Su us ns:=by
 induction ns with
 |nil=>intro us r;rw[ML]at r;cases r;exact .nil
 |cons n ns ih=>
  intro us r;rw[KP]at r;cases r with
  |cons r1 r2=>
   obtain⟨t,e⟩:=r1;subst e;exact .cons n t (ih r2)
section
variable{X:Cx}{e:Expr}{te:TE}{lo hi:Option Expr}{tl th:TO}{pos p2:Pos}
theorem nr:PO X Ua DM:=by
 intro pins s σ H Q I h;rw[RH];exact NU ⟨Ua,H,I,.none,h⟩
theorem bY(h:PE X e te):PO X (T9 e) (Ie te):=by
 intro pins s σ H Q I hw;rw[evalPart_some];refine thn (h pins s σ H _ I hw) λu s1 ⟨x,H1,I1,r1,q1⟩=>?_;obtain⟨i,rfl,q⟩:=q1;obtain⟨t,rfl⟩:=r1;exact⟨T9 i,H1,I1,.int i t,q⟩
noncomputable def SlR(X:Cx)(r:V->Option Int->Option Int->Hp->VK->Prop):Prop:=
 ∀(pins:List (NL×Obj))(s:NM)(σ:St)(H:Hp)(x:V)(v vl vu:NK)(lo hi:Option Int)(sl:NL)(Q:VK),Inv X pins σ H s->Ui x v->s.heap.IsSliceOf sl vl vu .none->RN vl lo->RN vu hi->r x lo hi H Q->
  ∃T id,typeLookup (.type T) "__getitem__"=pure (T9 (.builtin id))/\s.TypeIs v T/\wpAny (N0 X.prog X.w) X.A (Rv v (.ref sl)) (EP X pins σ Q) X.xe s
theorem SlR.or{r r':V->Option Int->Option Int->Hp->VK->Prop}(h:SlR X r)(h':SlR X r'):SlR X (λx lo hi H Q=>r x lo hi H Q\/r' x lo hi H Q):=by
 intro pins s σ H x v vl vu lo hi sl Q I rx hs pl pu q;rcases q with q|q
 ·exact h pins s σ H x v vl vu lo hi sl Q I rx hs pl pu q
 exact h' pins s σ H x v vl vu lo hi sl Q I rx hs pl pu q
noncomputable def tSl(r:V->Option Int->Option Int->Hp->VK->Prop)(te:TE)(tl th:TO):TE:=λσ H Q=>te σ H λx H1=>tl σ H1 λl H2=>th σ H2 λu H3=>r x l u H3 Q
theorem cM{r:V->Option Int->Option Int->Hp->VK->Prop}(hr:SlR X r)(he:PE X e te)(hl:PO X lo tl)(hu:PO X hi th):PE X (.Subscript e (.Slice lo hi Ua p2) pos) (tSl r te tl th):=by
 intro pins s σ H Q I h;refine Tx (thn (he pins s σ H _ I h) λv s1 ⟨x,H1,I1,r1,q1⟩=>?_);refine wpAny_Slice (thn (hl pins s1 σ H1 _ I1 q1) λvl s2 ⟨l,H2,I2,pl,q2⟩=>thn (hu pins s2 σ H2 _ I2 q2) λvu s3 ⟨u,H3,I3,pu,q3⟩=>?_);rw[RH];refine NU ?_;have I4:Inv X pins σ H3 { s3 with heap:=s3.heap.push { cls:=.type "slice",data:=.fields #[vl,vu,.none] } }:=I3.kept (t':=s3.toks) λb ob q=>NQ _ q;obtain⟨T,id,hT,ht,hg⟩:=hr pins { s3 with heap:=s3.heap.push { cls:=.type "slice",data:=.fields #[vl,vu,.none] } } σ H3 x v vl vu l u s3.heap.objs.size Q I4 r1 (RO ..) pl pu q3;show wpAny (N0 X.prog X.w) X.A (RI e (.Slice lo hi Ua p2) v (.ref s3.heap.objs.size)) (EP X pins σ Q) X.xe { s3 with heap:=s3.heap.push { cls:=.type "slice",data:=.fields #[vl,vu,.none] } };exact tail_any (ops:=[.ref s3.heap.objs.size,v]) ht hT hg (by with_unfolding_all rfl)
noncomputable def iM(xs:List V)(lo hi:Option Int):List V:=(xs.drop (HT.sIx xs.length 0 lo)).take (HT.sIx xs.length xs.length hi-HT.sIx xs.length 0 lo)
theorem qh(xs:List V)(lo hi:Option Int):(iM xs lo hi).length<=xs.length:=by
 unfold iM;rw[LA,Mo];omega
noncomputable def FT(K:NO):V->Option Int->Option Int->Hp->VK->Prop:=λx lo hi H Q=>∃a xs,x=.ref a/\SqT K H a xs/\
 ¬ (HT.sIx xs.length 0 lo=0/\HT.sIx xs.length xs.length hi=xs.length)/\∀p,H p=Ua->Q (.ref p) (upd H p (.tup (iM xs lo hi)))
theorem GI:SlR X (FT X.K):=by
 intro pins s σ H x v vl vu lo hi sl Q I rx hs pl pu h;obtain⟨a,xs,rfl,hx,hw,q⟩:=h;cases rx;obtain⟨its,r,ht,hz⟩:=I.tuple hx;have hlen:its.toArray.size=xs.length:=by rw[KL];exact r.length.symm
 refine⟨"tuple",_,PyProof.Rows.slot_tuple_getitem.lookup,ht.typeIs,?_⟩;refine HT.o8 ht hs pl pu (by rw[hlen];exact hw) ?_ (by rw[hlen];exact hz);rw[hlen];refine⟨.ref s.heap.objs.size,_,I.laid (t':=s.toks) (o:=.tup (iM xs lo hi)) (λb ob q=>NQ _ q) (KD _) ?_,rfl,q _ (I.hok.fresh (KD _))⟩;exact⟨KR (qh xs lo hi) hz,_,(r.drop (HT.sIx xs.length 0 lo)).take (HT.sIx xs.length xs.length hi-HT.sIx xs.length 0 lo),IsTup.new _ _⟩
noncomputable def Jp(K:NO):R2:=λx y H Q=>∃a b xs ys,x=.ref a/\y=.ref b/\SqT K H a xs/\SqT K H b ys/\xs≠[]/\xs.length+ys.length<=sizeLine/\
 (ys=[]->Q (.ref a) H)/\(ys≠[]->∀p,H p=Ua->Q (.ref p) (upd H p (.tup (xs++ys))))
theorem Ug.vz{xs:List V}{us:List NK}(r:Ug xs us):us=[]↔xs=[]:=by
 cases r with
 |nil=>simp
 |cons _ _=>simp
theorem zP:OpR X (OG .Add) (Jp X.K):=by
 intro pins s σ H x y v u Q I rx ry h;obtain⟨a,b,xs,ys,rfl,rfl,ha,hb,hx,hz,q1,q2⟩:=h;cases rx;cases ry;obtain⟨its,r1,p1,_⟩:=I.tuple ha;obtain⟨its2,r2,p2,_⟩:=I.tuple hb;refine HT.DW p1 p2 (λz=>hx (r1.vz.mp z)) (λz=>⟨.ref a,H,I,rfl,q1 (r2.vz.mp z)⟩) (λz=>?_) (by rw[<-r1.length,<-r2.length];exact hz);refine⟨.ref s.heap.objs.size,_,I.laid (t':=s.toks) (o:=.tup (xs++ys)) (λb ob q=>NQ _ q) (KD _) ?_,rfl,q2 (λw=>z (r2.vz.mpr w)) _ (I.hok.fresh (KD _))⟩;exact⟨by rw[KC];exact hz,_,r1.append r2,IsTup.new _ _⟩
end
noncomputable def ixN(n:Nat)(i:Int):Option Nat:=if 0<=i then(if i<n then T9 i.toNat else Ua)else if -(n:Int)<=i then T9 (i+n).toNat else Ua
noncomputable def atI{α:Type}(xs:List α)(i:Int):Option α:=(ixN xs.length i).bind λj=>xs[j]?
theorem zo{n:Nat}{i:Int}{j:Nat}(h:ixN n i=T9 j):seqIndex? i n=T9 j/\j<n/\-(n:Int)<=i/\i<n:=by
 unfold ixN at h;by_cases h0:0<=i
 ·rw[if_pos h0]at h;by_cases h1:i<n
  ·rw[if_pos h1]at h;have e:i.toNat=j:=NP h;exact⟨by rw[S9 h0 h1,e],by omega,by omega,h1⟩
  rw[if_neg h1]at h;cases h
 rw[if_neg h0]at h;by_cases h1:-(n:Int)<=i
 ·rw[if_pos h1]at h;have e:(i+n).toNat=j:=NP h;exact⟨by rw[Sv (by omega) h1,e],by omega,h1,by omega⟩
 rw[if_neg h1]at h;cases h
theorem uR{α:Type}{xs:List α}{i:Int}{v:α}(h:atI xs i=T9 v):∃j,seqIndex? i xs.length=T9 j/\xs[j]?=T9 v/\j<xs.length/\-(xs.length:Int)<=i/\i<xs.length:=by
 unfold atI at h;cases e:ixN xs.length i with
 |none=>rw[e]at h;cases h
 |some j=>
  rw[e]at h;obtain⟨h1,h2,h3,h4⟩:=zo e;exact⟨j,h1,h,h2,h3,h4⟩
theorem eG{α:Type}{xs:List α}{j:Nat}{v:α}(h:xs[j]?=T9 v):atI xs (j:Int)=T9 v:=by
 have hj:j<xs.length:=(KA.mp h).1;have e:ixN xs.length (j:Int)=T9 j:=by
  unfold ixN;rw[if_pos (by omega),if_pos (by omega)];simp
 unfold atI;rw[e];exact h
theorem qQ{α:Type}(xs:List α)(v:α):atI (xs++[v]) (-1)=T9 v:=by
 have hl:(xs++[v]).length=xs.length+1:=by simp
 have e:ixN (xs++[v]).length (-1)=T9 xs.length:=by
  unfold ixN;rw[hl,if_neg (by decide),if_pos (by omega)];congr 1;omega
 unfold atI;rw[e];show(xs++[v])[xs.length]?=T9 v;simp
noncomputable def zY(b:Expr):Prop:=∀o i,subscripted b false o i=operate [o,i] (Rv o i)
noncomputable def IxR(X:Cx)(r:R2):Prop:=
 ∀(value slice:Expr)(pins:List (NL×Obj))(s:NM)(σ:St)(H:Hp)(x y:V)(v u:NK)(Q:VK),Inv X pins σ H s->Ui x v->Ui y u->r x y H Q->
  subscripted slice false v u=operate [v,u] (Rv v u)->wpAny (N0 X.prog X.w) X.A (RI value slice v u) (EP X pins σ Q) X.xe s
noncomputable def MtR(X:Cx)(id:String)(r:V->List V->Hp->VK->Prop):Prop:=
 ∀(pins:List (NL×Obj))(s:NM)(σ:St)(H:Hp)(x:V)(xs:List V)(v:NK)(us:List NK)(Q:VK),Inv X pins σ H s->Ui x v->Ug xs us->r x xs H Q->
  wpAny (N0 X.prog X.w) X.A (call (.builtin id) (v::us)) (EP X pins σ Q) X.xe s
section
variable{X:Cx}{a b:Expr}{ta tb:TE}{pos:Pos}
theorem Jv{r:R2}(hr:IxR X r)(ha:PE X a ta)(hb:PE X b tb)(hs:zY b):PE X (.Subscript a b pos) (tOp r ta tb):=by
 intro pins s σ H Q I h;exact Tx (HX ha hb I h λv u s2 x y H2 I2 rx ry q=>hr a b pins s2 σ H2 x y v u Q I2 rx ry q (hs _ _))
noncomputable def Kl(K:NO):R2:=λx y H Q=>∃p xs i v,x=.ref p/\y=.int i/\SqL K H p xs/\atI xs i=T9 v/\Q v H
noncomputable def JG(K:NO):R2:=λx y H Q=>∃p xs i v,x=.ref p/\y=.int i/\SqT K H p xs/\atI xs i=T9 v/\Q v H
noncomputable def Kf:R2:=λx y H Q=>∃z i c,x=.str z/\y=.int i/\z.length<=sizeLine/\atI z.cps.toList i=T9 c/\Q (.str ⟨#[c]⟩) H
theorem Ek:IxR X (Kl X.K):=by
 intro value slice pins s σ H x y v u Q I rx ry h hs;obtain⟨p,xs,i,z,rfl,rfl,hq,he,q⟩:=h;cases rx;obtain⟨t,rfl⟩:=ry;obtain⟨its,r,pl,hz⟩:=I.list hq;obtain⟨j,h1,h2,h3,h4,h5⟩:=uR he;obtain⟨w,ew,rw'⟩:=r.get h2;have hl:=r.length;have hn:=pK;have fin:EP X pins σ Q w s:=⟨z,H,I,rw',q⟩;by_cases h0:0<=i
 ·have hj:i.toNat=j:=by
   rw[S9 h0 h5]at h1;exact NP h1
  exact item_listR pl.isList h0 (by omega) (by rw[hj];simpa using ew) fin hs
 have hj:(i+(its.toArray.size:Int)).toNat=j:=by
  rw[Sv (by omega) h4]at h1;rw[KL,<-hl];exact NP h1
 exact QT (x:=w) pl.isList.typeIs slot_list_getitem.lookup
  (wpAny_getItem_list_neg (Q:=λr s'=>r=w/\EP X pins σ Q r s') pl.isList (by omega) (by rw[KL]<;>omega) (by omega) (by rw[hj];simpa using ew) ⟨rfl,fin⟩) hs
theorem Ho:IxR X (JG X.K):=by
 intro value slice pins s σ H x y v u Q I rx ry h hs;obtain⟨p,xs,i,z,rfl,rfl,hq,he,q⟩:=h;cases rx;obtain⟨t,rfl⟩:=ry;obtain⟨its,r,pl,hz⟩:=I.tuple hq;obtain⟨j,h1,h2,h3,h4,h5⟩:=uR he;obtain⟨w,ew,rw'⟩:=r.get h2;have hl:=r.length;have hn:=pK;have fin:EP X pins σ Q w s:=⟨z,H,I,rw',q⟩;exact QT (x:=w) pl.typeIs slot_tuple_getitem.lookup
  (getItem_tuple (j:=j) (Q:=λr s'=>r=w/\EP X pins σ Q r s') pl (by omega) (by omega) (by rw[KL,<-hl];exact h1) (by simpa using ew) ⟨rfl,fin⟩) hs
theorem F1:IxR X Kf:=by
 intro value slice pins s σ H x y v u Q I rx ry h hs;obtain⟨z,i,c,rfl,rfl,hz,he,q⟩:=h;obtain⟨t,rfl⟩:=rx;obtain⟨t',rfl⟩:=ry;obtain⟨j,h1,h2,h3,h4,h5⟩:=uR he;have hl:z.cps.toList.length=z.length:=by simp[Str.length]
 rw[hl]at h1 h4 h5;have hn:=pK;exact tail_any (RP s z t) slot_str_getitem.lookup (getItem_str (c:=c) (by
  have e1:decide (i< -(2^63:Int))=false:=decide_eq_false (by omega);have e2:decide (i ≥ 2^63)=false:=decide_eq_false (by omega);rw[e1,e2,Bool.or_false]) (by rw[h1];simpa using h2) ⟨.str ⟨#[c]⟩,H,I.tok _,⟨_,rfl⟩,q⟩) hs
theorem yt(its:List NK)(n j:Nat)(u:NK):QU (·.setIfInBounds j u) { cls:=.type "list",data:=.seq its.toArray n }={ cls:=.type "list",data:=.seq (its.set j u).toArray n }:=by
 simp[QU]
theorem Inv.lst{pins:List (NL×Obj)}{σ:St}{H:Hp}{s:NM}{p:NL}{xs:List V}(I:Inv X pins σ H s)(h:H p=T9 (.lst xs)) :
  ∃(its:List NK)(n:Nat),Ug xs its/\s.heap.get? p=T9 { cls:=.type "list",data:=.seq its.toArray n }/\xs.length<=sizeLine:=by
 obtain⟨z,its,n,r,e⟩:=I.hok p _ h
 exact⟨its,n,r,e,z⟩
theorem Inv.GB{pins:List (NL×Obj)}{σ:St}{H:Hp}{s:NM}{p:NL}{xs ys:List V}{its its':List NK}{n n':Nat}{f:Obj->Obj}(I:Inv X pins σ H s)(h:H p=T9 (.lst xs))
  (ho:s.heap.get? p=T9 { cls:=.type "list",data:=.seq its.toArray n }) (hf:f { cls:=.type "list",data:=.seq its.toArray n }={ cls:=.type "list",data:=.seq its'.toArray n' }) (r:Ug ys its') (hz:ys.length<=sizeLine) (t:Nat) :
  Inv X pins σ (upd H p (.lst ys)) { s with heap:=s.heap.update p f,toks:=t }:=by
 have e:(s.heap.update p f).get? p=T9 { cls:=.type "list",data:=.seq its'.toArray n' }:=by
  rw[Heap.get?_update_self f ho (by rw[hf]<;>rfl),hf]
 refine I.write (x:=p) (e:=p) (by rw[h];trivial) (.inl rfl) (λb u hb q=>(QV _ _ (LF hb)).trans q) ⟨_,e⟩ ?_
 exact⟨hz,its',n',r,e⟩
noncomputable def Fc:V->V->V->Hp->(Hp->Prop)->Prop:=λo i v H Q=>∃p xs k j,o=.ref p/\i=.int k/\H p=T9 (.lst xs)/\ixN xs.length k=T9 j/\Q (upd H p (.lst (xs.set j v)))
theorem Uc:Ck X Fc:=by
 intro pins s σ H o i v ov iv u Q I ro ri rv h;obtain⟨p,xs,k,j,rfl,rfl,hp,hj,q⟩:=h;cases ro;obtain⟨t,rfl⟩:=ri;obtain⟨its,n,r,ho,hz⟩:=I.lst hp;obtain⟨h1,h2,h3,h4⟩:=zo hj;have hl:=r.length;have hn:=pK;have I':Inv X pins σ (upd H p (.lst (xs.set j v))) { s with heap:=s.heap.update p (QU (·.setIfInBounds j u)) }:=
  I.GB hp ho (yt its n j u) (r.set rv j) (by rw[Nq];exact hz) s.toks
 by_cases h0:0<=k
 ·have hk:k.toNat=j:=by
   rw[S9 h0 h4]at h1;exact NP h1
  exact W.ki_setAt ho h0 (by omega) (by rw[KL,<-hl];exact h4) (by rw[hk];exact⟨_,I',q⟩)
 have hk:(k+(its.toArray.size:Int)).toNat=j:=by
  rw[Sv (by omega) h3]at h1;rw[KL,<-hl];exact NP h1
 exact W.ki_setBack ho (by omega) (by rw[KL,<-hl];exact h3) (by omega) (by rw[hk];exact⟨_,I',q⟩)
theorem uO(lo hi:Option Int)(n:Nat):(PC lo hi Ua n).1=((HT.sIx n 0 lo:Nat):Int)/\(PC lo hi Ua n).2.1=((HT.sIx n n hi:Nat):Int)/\(PC lo hi Ua n).2.2=1:=by
 refine⟨?_,?_,rfl⟩
 ·cases lo with
  |none=>simp[PC,HT.sIx]
  |some i=>
   simp only[PC,HT.sIx,SR,show(1:Int)>0 by decide,if_true];by_cases h:i<0
   ·simp only[h,if_true]<;>omega
   simp only[h,if_false]<;>omega
 cases hi with
 |none=>simp[PC,HT.sIx]
 |some i=>
  simp only[PC,HT.sIx,SR,show(1:Int)>0 by decide,if_true];by_cases h:i<0
  ·simp only[h,if_true]<;>omega
  simp only[h,if_false]<;>omega
theorem tq(its:List NK)(lo hi:Option Int):slicePick its.toArray lo hi Ua=((its.drop (HT.sIx its.length 0 lo)).take (HT.sIx its.length its.length hi-HT.sIx its.length 0 lo)).toArray:=by
 obtain⟨h1,h2,h3⟩:=uO lo hi its.toArray.size;unfold slicePick;rw[h1,h2,h3];simp only[sliceRange_one,pick_run,KL]<;>rfl
noncomputable def GN(K:NO):V->Option Int->Option Int->Hp->VK->Prop:=λx lo hi H Q=>∃a xs,x=.ref a/\SqL K H a xs/\∀p,H p=Ua->Q (.ref p) (upd H p (.lst (iM xs lo hi)))
theorem Ea:SlR X (GN X.K):=by
 intro pins s σ H x v vl vu lo hi sl Q I rx hs pl pu h;obtain⟨a,xs,rfl,hx,q⟩:=h;cases rx;obtain⟨its,r,ht,hz⟩:=I.list hx;have hlen:=r.length;refine⟨"list",_,slot_list_getitem.lookup,ht.isList.typeIs,?_⟩;refine QB ht.isList hs pl pu .none (by simp) ?_ (by rw[KL]<;>omega);rw[tq,<-hlen];refine⟨.ref s.heap.objs.size,_,I.laid (t':=s.toks) (o:=.lst (iM xs lo hi)) (λb ob q=>NQ _ q) (KD _) ?_,rfl,q _ (I.hok.fresh (KD _))⟩;exact⟨KR (qh xs lo hi) hz,_,0,(r.drop (HT.sIx xs.length 0 lo)).take (HT.sIx xs.length xs.length hi-HT.sIx xs.length 0 lo),Ob _ rfl⟩
noncomputable def nN:V->Bool
 | .non=>true
 | .bl _=>true
 | .int _=>true
 | .str _=>true
 |_=>false
noncomputable def eqV:V->V->Bool
 | .non,.non=>true
 | .bl a,.bl b=>a==b
 | .bl a,.int b=>(if a then 1 else 0)==b
 | .int a,.bl b=>a==(if b then 1 else 0)
 | .int a,.int b=>a==b
 | .str a,.str b=>a==b
 |_,_=>false
theorem F4{A:Oh}{s:NM}{y x:V}{u v:NK}(ry:Ui y u)(rx:Ui x v)(fy:nN y=true)(fx:nN x=true):P0 A s u v (eqV y x):=by
 cases y with
 |non=>
  cases ry;cases x with
  |non=>cases rx;exact QZ _
  |bl b=>cases rx;exact SeqAt.EqAt.none_bool b
  |int b=>obtain⟨t,rfl⟩:=rx;exact SeqAt.EqAt.none_int b t
  |str b=>obtain⟨t,rfl⟩:=rx;exact SeqAt.EqAt.none_str b t
  |_=>exact absurd (show false=true from fx) KJ
 |bl a=>
  cases ry;cases x with
  |non=>cases rx;exact SeqAt.EqAt.bool_none a
  |bl b=>cases rx;exact SeqAt.EqAt.bool_bool a b
  |int b=>obtain⟨t,rfl⟩:=rx;exact SeqAt.EqAt.bool_int a b t
  |str b=>obtain⟨t,rfl⟩:=rx;exact SeqAt.EqAt.bool_str a b t
  |_=>exact absurd (show false=true from fx) KJ
 |int a=>
  obtain⟨t',rfl⟩:=ry;cases x with
  |non=>cases rx;exact SeqAt.EqAt.int_none a t'
  |bl b=>cases rx;exact SeqAt.EqAt.int_bool a t' b
  |int b=>obtain⟨t,rfl⟩:=rx;exact Qr a t' b t
  |str b=>obtain⟨t,rfl⟩:=rx;exact RJ a t' b t
  |_=>exact absurd (show false=true from fx) KJ
 |str a=>
  obtain⟨t',rfl⟩:=ry;cases x with
  |non=>cases rx;exact SeqAt.EqAt.str_none a t'
  |bl b=>cases rx;exact SeqAt.EqAt.str_bool a t' b
  |int b=>obtain⟨t,rfl⟩:=rx;exact RK a t' b t
  |str b=>obtain⟨t,rfl⟩:=rx;exact RQ a t' b t
  |_=>exact absurd (show false=true from fx) KJ
 |_=>exact absurd (show false=true from fy) KJ
noncomputable def eqU(x:V)(u:NK):Bool:=match u with
 | .none=>eqV .non x
 | .bool b=>eqV (.bl b) x
 | .int i _=>eqV (.int i) x
 | .str z _=>eqV (.str z) x
 |_=>false
theorem CK{x y:V}{u:NK}(r:Ui y u)(f:nN y=true):eqU x u=eqV y x:=by
 cases y with
 |non=>cases r;rfl
 |bl b=>cases r;rfl
 |int i=>obtain⟨t,rfl⟩:=r;rfl
 |str z=>obtain⟨t,rfl⟩:=r;rfl
 |_=>exact absurd (show false=true from f) KJ
theorem ve{x:V}:∀{xs:List V}{us:List NK},Ug xs us->xs.all nN=true->us.any (eqU x)=xs.any λy=>eqV y x
 |_,_,.nil,_=>rfl
 |y::xs,u::us,.cons r t,f=>by
  rw[List.all_cons,LS]at f;rw[MA,MA,CK r f.1,ve t f.2]
theorem rJ{A:Oh}{s:NM}{x:V}{v:NK}(rx:Ui x v)(fx:nN x=true):∀{xs:List V}{us:List NK},Ug xs us->xs.all nN=true->∀u∈us,P0 A s u v (eqU x u)
 |_,_,.nil,_=>λu hu=>by cases hu
 |y::xs,u::us,.cons r t,f=>λu' hu=>by
  rw[List.all_cons,LS]at f;rcases Kt.mp hu with rfl|hu
  ·rw[CK r f.1];exact F4 r rx f.1 fx
  exact rJ rx fx t f.2 u' hu
noncomputable def inV(x:V)(xs:List V):Bool:=xs.any λy=>eqV y x
noncomputable def rIn(K:NO)(neg:Bool):R2:=λx y H Q=>∃p xs,y=.ref p/\(SqL K H p xs\/SqT K H p xs)/\nN x=true/\xs.all nN=true/\Q (.bl (if neg then !inV x xs else inV x xs)) H
theorem AB:OpR X (Oe .In) (rIn X.K false):=by
 intro pins s σ H x y v u Q I rx ry h;obtain⟨p,xs,rfl,hq,fx,fs,q⟩:=h;cases ry;rcases hq with hq|hq
 ·obtain⟨its,r,pl,hz⟩:=I.list hq;refine SeqAt.in_listAt (eqU x) pl.isList (λw hw=>rJ rx fx r fs w (by simpa using hw)) ⟨.bl _,H,I,rfl,?_⟩;rw[show its.toArray.any (eqU x)=its.any (eqU x) by simp,ve r fs];exact q
 obtain⟨its,r,pl,hz⟩:=I.tuple hq;refine SeqAt.in_tupleAt (eqU x) pl (λw hw=>rJ rx fx r fs w (by simpa using hw)) ⟨.bl _,H,I,rfl,?_⟩;rw[show its.toArray.any (eqU x)=its.any (eqU x) by simp,ve r fs];exact q
theorem dE.or{f:NK}{r r':List V->Hp->VK->Prop}(h:dE X f r)(h':dE X f r'):dE X f (λxs H Q=>r xs H Q\/r' xs H Q):=by
 intro pins s σ H xs us Q I rs q;rcases q with q|q
 ·exact h pins s σ H xs us Q I rs q
 exact h' pins s σ H xs us Q I rs q
theorem vJ:dE X (.type "list") (λxs H Q=>∃p ys,xs=[.ref p]/\(SqL X.K H p ys\/SqT X.K H p ys)/\∀l,H l=Ua->Q (.ref l) (upd H l (.lst ys))):=by
 intro pins s σ H xs us Q I r h;obtain⟨p,ys,rfl,hq,q⟩:=h;obtain⟨u,rfl,rx⟩:=Ut r;cases rx;have fin:∀(its:List NK),Ug ys its->ys.length<=sizeLine->∀(h':Oi)(c':Nat),(∀b o',s.heap.get? b=T9 o'->h'.get? b=T9 o')->
   h'.get? s.heap.objs.size=T9 { cls:=.type "list",dict:=Ua,data:=.seq its.toArray c',slots:=#[] }->EP X pins σ Q (.ref s.heap.objs.size) { s with heap:=h' }:=λits r' hz h' c' kp e=>
  ⟨.ref s.heap.objs.size,_,I.laid (t':=s.toks) kp (KD _) (show dB X.prog X.w _ h' _ (.lst ys)from⟨hz,its,c',r',e⟩),rfl,q _ (I.hok.fresh (KD _))⟩
 rcases hq with hq|hq
 ·obtain⟨its,r',pl,hz⟩:=I.list hq;have hlen:=r'.length;obtain⟨o,ho,hc,n,hd⟩:=pl.isList;exact call_list_seq p (.inl rfl) ho hc hd (λh' c' kp e=>fin its r' hz h' c' kp e) (by simp only[KL]<;>omega)
 obtain⟨its,r',pl,hz⟩:=I.tuple hq;have hlen:=r'.length;obtain⟨o,ho,hc,n,hd⟩:=pl;exact call_list_seq p (.inr rfl) ho hc hd (λh' c' kp e=>fin its r' hz h' c' kp e) (by simp only[KL]<;>omega)
noncomputable def tyV(K:NO)(T:String)(x:V)(H:Hp):Prop:=match x with
 | .str _=>T="str"
 | .int _=>T="int"
 | .ref p=>(T="list"/\∃xs,SqL K H p xs)\/(T="tuple"/\∃o,K.lookup p=T9 o/\o.cls=.type "tuple"/\o.dict=Ua)\/
   (T="dict"/\((∃kvs,H p=T9 (.dK kvs))\/∃kvs,H p=T9 (.dT kvs)))\/(T="set"/\∃S n,H p=T9 (.set S n))
 |_=>False
theorem Cz{pins:List (NL×Obj)}{σ:St}{H:Hp}{s:NM}{T:String}{x:V}{v:NK}(I:Inv X pins σ H s)(r:Ui x v)(ty:tyV X.K T x H) :
  s.TypeIs v T/\∀a,v=.ref a->∃ob,s.heap.get? a=T9 ob/\ob.dict=Ua:=by
 cases x with
 |str z=>
  obtain⟨t,rfl⟩:=r
  cases (show T="str" from ty)
  exact⟨RP s z t,λ_ e=>nomatch e⟩
 |int i=>
  obtain⟨t,rfl⟩:=r
  cases (show T="int" from ty)
  exact⟨Tz s i t,λ_ e=>nomatch e⟩
 |ref p=>
  cases r
  rcases ty with⟨rfl,xs,hq⟩|⟨rfl,o,hk,hc,hd⟩|⟨rfl,hk⟩|⟨rfl,S,n,hk⟩
  ·obtain⟨its,_,pl,_⟩:=I.list hq;refine⟨pl.isList.typeIs,λa e=>?_⟩;cases e;obtain⟨o,n,e,c,hd,_⟩:=pl;exact⟨o,e,hd⟩
  ·refine⟨⟨o,I.kIn p o hk,hc⟩,λa e=>?_⟩;cases e;exact⟨o,I.kIn _ o hk,hd⟩
  ·have z:∃o,s.heap.get? p=T9 o/\o.ExactDict:=by
    rcases hk with⟨kvs,hk⟩|⟨kvs,hk⟩
    ·obtain⟨_,_,_,_,o,_,_,e,ex,_⟩:=I.hok p _ hk;exact⟨o,e,ex⟩
    obtain⟨_,_,_,_,o,_,_,e,ex,_⟩:=I.hok p _ hk;exact⟨o,e,ex⟩
   obtain⟨o,e,ex⟩:=z;refine⟨⟨o,e,ex.1⟩,λa e2=>?_⟩;cases e2;exact⟨o,e,ex.2.1⟩
  obtain⟨o,_,_,_,e,ex,_⟩:=I.hok p _ hk
  refine⟨⟨o,e,ex.1⟩,λa e2=>?_⟩
  cases e2
  exact⟨o,e,ex.2.1⟩
 |_=>exact OP ty
noncomputable def IZ(K:NO)(T:String)(r:V->List V->Hp->VK->Prop)(to:TE):TE:=λσ H Q=>to σ H λx H1=>tyV K T x H1/\r x [] H1 Q
noncomputable def tBM(K:NO)(T:String)(r:V->List V->Hp->VK->Prop)(to:TE)(t:TA):TE:=λσ H Q=>to σ H λx H1=>tyV K T x H1/\t σ H1 λxs H2=>r x xs H2 Q
variable{o e:Expr}{es:List Expr}{to:TE}{t:TA}{name:Str}{apos cpos:Pos}{T id:String}{r:V->List V->Hp->VK->Prop}
theorem Hr(pa:PlainAttrs T)(slot:Slot T name id)(hty:typeOf (.builtin id)=pure (.type "method_descriptor"))(hm:MtR X id r)(ho:PE X o to)
  (hbase:OT o name X.env (OE o X.env)=OE o X.env:=by rfl) (hline:(apos.endLine==cpos.line)=true:=by rfl):PE X (.Call (.Attribute o name apos) [] [] cpos) (IZ X.K T r to):=by
 intro pins s σ H Q I h
 refine wpAny_Call_method0_late hbase hline (thn (ho pins s σ H _ I h) λv s1 ⟨x,H1,I1,r1,ty,q1⟩=>?_)
 obtain⟨h1,h2⟩:=Cz I1 r1 ty
 exact⟨T,id,pa,slot,hty,h1,h2,PJ rfl (PySem.evalArgs_none (hm pins s1 σ H1 x [] v [] Q I1 r1 .nil q1))⟩
theorem E5(pa:PlainAttrs T)(slot:Slot T name id)(hty:typeOf (.builtin id)=pure (.type "method_descriptor"))(hm:MtR X id r)(ho:PE X o to)(ha:PA X (e::es) t)
  (hbase:OT o name X.env (OE o X.env)=OE o X.env:=by rfl)
  (hfew:((OK cpos (NX (e::es) X.env)).all (λx=>!x.1)&&(Qp cpos (Pj [] X.env)).all (λx=>x.1.isSome)
   &&decide ((e::es).length+([]:List P4).length+(if([]:List P4).isEmpty then 0 else 1)<30))=true:=by rfl)
  (hline:(apos.endLine==cpos.line)=true:=by rfl) (hs:NX (e::es) X.env=(false,OE e X.env)::NX es X.env:=by rfl) (hplain:(OK cpos (NX es X.env)).any (·.1)=false:=by rfl) :
  PE X (.Call (.Attribute o name apos) (e::es) [] cpos) (tBM X.K T r to t):=by
 intro pins s σ H Q I h
 refine wpAny_Call_method_late hbase hfew hline rfl (thn (ho pins s σ H _ I h) λv s1 ⟨x,H1,I1,r1,ty,q1⟩=>?_)
 obtain⟨h1,h2⟩:=Cz I1 r1 ty
 refine⟨T,id,pa,slot,hty,h1,h2,?_⟩
 have hA:=ha cpos pins s1 σ H1 _ I1 q1
 rw[hs]at hA⊢
 refine PJ (by show(false||(OK cpos (NX es X.env)).any (·.1))=false;rw[hplain]<;>rfl) (Rb ?_)
 exact thn hA λus s2 ⟨vs,H2,I2,r2,q2⟩=>hm pins s2 σ H2 x vs v us Q I2 r1 r2 q2
end
noncomputable def MtM(X:Cx)(id:String)(r:V->List V->Hp->VK->Prop):Prop:=
 ∀(pins:List (NL×Obj))(s:NM)(σ:St)(H:Hp)(x:V)(xs:List V)(v:NK)(us:List NK)(Q:VK),Inv X pins σ H s->Ui x v->Ug xs us->r x xs H Q->
  wpAny (N0 X.prog X.w) X.A (call (.builtin id) (v::us)) (EP X pins σ Q) X.xe s
theorem Ug.one:∀{x:V}{us:List NK},Ug [x] us->∃u,us=[u]/\Ui x u
 |_,_,.cons r .nil=>⟨_,rfl,r⟩
theorem Ug.zero:∀{us:List NK},Ug [] us->us=[]
 |_,.nil=>rfl
theorem Ug.dropLast{xs:List V}{us:List NK}(h:Ug xs us):Ug xs.dropLast us.dropLast:=by
 induction h with
 |nil=>exact .nil
 |cons r t ih=>
  cases t with
  |nil=>exact .nil
  |cons q t'=>exact .cons r ih
theorem Ug.rep{xs:List V}{us:List NK}(h:Ug xs us):∀k:Nat,Ug (Oc k xs).flatten (Oc k us).flatten
 |0=>.nil
 |k+1=>by
  rw[Lq,Lq,Mu,Mu];exact Ug.append h (Ug.rep h k)
theorem yw{α:Type}(l:List α):l.eraseIdx (l.length-1)=l.dropLast:=by
 induction l with
 |nil=>rfl
 |cons a r ih=>
  cases r with
  |nil=>rfl
  |cons b r=>
   have e:(a::b::r).length-1=((b::r).length-1)+1:=by
    have h1:(a::b::r).length=r.length+2:=rfl;have h2:(b::r).length=r.length+1:=rfl;omega
   rw[e,List.eraseIdx_cons_succ,ih];all_goals rfl
theorem Uu(its:List NK):∀(k:Nat)(acc:List NK),
  TB (λx1 x2=>x1++x2) acc.toArray (Oc k its.toArray)=(acc++(Oc k its).flatten).toArray
 |0,acc=>by simp
 |k+1,acc=>by
  have e:acc.toArray++its.toArray=(acc++its).toArray:=by simp
  have e2:(acc++its)++(Oc k its).flatten=acc++(Oc (k+1) its).flatten:=by
   rw[Lq,Mu,Le]
  rw[<-e2,<-Uu its k (acc++its),<-e,Lq,MM]
section
variable{X:Cx}{pins:List (NL×Obj)}{σ:St}{H:Hp}{s:NM}{l b:NL}{xs ys zs:List V}
theorem Inv.Jl{its its':List NK}{n:Nat}{f:Array NK->Array NK}{t':Nat}(I:Inv X pins σ H s)(hH:H l=T9 (.lst xs))
  (e:s.heap.get? l=T9 { cls:=.type "list",data:=.seq its.toArray n }) (hf:f its.toArray=its'.toArray) (hv:Ug ys its') (hz:ys.length<=sizeLine) :
  Inv X pins σ (upd H l (.lst ys)) { s with heap:=s.heap.update l (QU f),toks:=t' }:=by
 have q:=PySem.IsL.update e f
 rw[hf]at q
 refine I.write (x:=l) (e:=l) (by rw[hH];exact trivial) (.inl rfl) (λb' u hb hu=>(QV s.heap (QU f) (LF hb)).trans hu) ⟨_,q⟩ ?_
 exact⟨hz,its',_,hv,q⟩
theorem Inv.FP{its:List NK}{t':Nat}(I:Inv X pins σ H s)(hv:Ug ys its)(hz:ys.length<=sizeLine) :
  Inv X pins σ (upd H s.heap.objs.size (.lst ys)) { s with heap:=s.heap.push { cls:=.type "list",data:=.seq its.toArray },toks:=t' }:=
 I.laid (λ_ _ q=>NQ _ q) (KD _) ⟨hz,its,0,hv,Ob _ rfl⟩
theorem Inv.fresh(I:Inv X pins σ H s):H s.heap.objs.size=Ua:=I.hok.fresh (KD _)
theorem Inv.Cc(I:Inv X pins σ H s)(hH:H l=T9 (.lst xs)):xs.length<=sizeLine/\∃(its:List NK)(n:Nat),Ug xs its/\xs.length=its.length/\s.heap.get? l=T9 { cls:=.type "list",data:=.seq its.toArray n }:=by
 obtain⟨z,its,n,r,e⟩:=I.hok l _ hH;exact⟨z,its,n,r,r.length,e⟩
theorem Ci{n:Nat}(h:n<=sizeLine):Pp n=false:=by
 unfold Pp;exact decide_eq_false (by omega)
end
section
variable{X:Cx}
inductive vQ(x:V)(vs:List V)(H:Hp)(Q:VK):Prop
 |mk(l:NL)(xs:List V)(y:V)(h0:x=.ref l)(h1:vs=[y])(h2:H l=T9 (.lst xs))(h3:xs.length<sizeLine)(q:Q .non (upd H l (.lst (xs++[y])))):vQ x vs H Q
theorem uJ:MtM X "list.append" vQ:=by
 intro pins s σ H x vs v us Q I rx rv h;obtain⟨l,xs,y,rfl,rfl,hH,hz,q⟩:=h;cases rx;obtain⟨u,rfl,ru⟩:=rv.one;obtain⟨z,its,n,r,hl,e⟩:=I.Cc hH;refine Qs F.slot_list_append ⟨_,e,rfl⟩ F.entry_list_append (F.args_list_append_2 _ _) (PySem.list_append l its.toArray n u (by rw[KL];omega)) ⟨e,?_⟩;refine⟨.non,_,I.Jl (its':=its++[u]) hH e (by simp) (r.append (.cons ru .nil)) ?_,rfl,q⟩;rw[KC,Lp];omega
inductive FQ(x:V)(vs:List V)(H:Hp)(Q:VK):Prop
 |mk(l:NL)(xs:List V)(y:V)(h0:x=.ref l)(h1:vs=[])(h2:H l=T9 (.lst xs))(h3:xs[xs.length-1]?=T9 y)(q:Q y (upd H l (.lst xs.dropLast))):FQ x vs H Q
theorem GU:MtM X "list.pop" FQ:=by
 intro pins s σ H x vs v us Q I rx rv h;obtain⟨l,xs,y,rfl,rfl,hH,hy,q⟩:=h;cases rx;have hus:=rv.zero;subst hus;obtain⟨z,its,n,r,hl,e⟩:=I.Cc hH;obtain⟨u,hu,ru⟩:=r.get hy;have hy':its.toArray[its.toArray.size-1]?=T9 u:=by
  show its.toArray[its.length-1]?=T9 u;rw[<-Mw,<-hl];exact hu
 refine Qs F.slot_list_pop ⟨_,e,rfl⟩ F.entry_list_pop (F.args_list_pop_1 _) (MeetsSeq.list_pop_last l its.toArray n u hy' (by rw[KL];omega)) ⟨e,?_⟩;refine⟨y,_,I.Jl (its':=its.dropLast) hH e ?_ r.dropLast ?_,ru,q⟩
 ·show its.toArray.eraseIdxIfInBounds (its.toArray.size-1)=its.dropLast.toArray;rw[KL,List.eraseIdxIfInBounds_toArray,yw]
 rw[List.length_dropLast];omega
noncomputable def Jm:R2:=λx y H Q=>∃l b xs zs,x=.ref l/\y=.ref b/\H l=T9 (.lst xs)/\H b=T9 (.lst zs)/\xs.length+zs.length<=sizeLine/\∀p,H p=Ua->Q (.ref p) (upd H p (.lst (xs++zs)))
theorem Gx:OpR X (OG .Add) Jm:=by
 intro pins s σ H x y v u Q I rx ry h;obtain⟨l,b,xs,zs,rfl,rfl,hH,hB,hz,q⟩:=h;cases rx;cases ry;obtain⟨z,its,n,r,hl,e⟩:=I.Cc hH;obtain⟨z2,its2,n2,r2,hl2,e2⟩:=I.Cc hB;refine PySem.P.add_list e e2 ?_ (by rw[KL,KL];omega);have ea:its.toArray++its2.toArray=(its++its2).toArray:=by simp
 rw[ea];exact⟨.ref _,_,I.FP (t':=s.toks) (r.append r2) (by rw[KC];omega),rfl,q _ I.fresh⟩
noncomputable def JM:R2:=λx y H Q=>∃l k xs,x=.ref l/\y=.int k/\H l=T9 (.lst xs)/\-(2^63)<=k/\k<2^63/\xs.length*k.toNat<=sizeLine/\
 ∀p,H p=Ua->Q (.ref p) (upd H p (.lst (Oc k.toNat xs).flatten))
theorem len_rep{α:Type}(xs:List α)(k:Nat):(Oc k xs).flatten.length=k*xs.length:=by
 induction k with
 |zero=>simp
 |succ k ih=>rw[Lq,Mu,KC,ih,Nat.succ_mul,Nat.add_comm]
theorem HU:OpR X (OG .Mult) JM:=by
 intro pins s σ H x y v u Q I rx ry h;obtain⟨l,k,xs,rfl,rfl,hH,h1,h2,hz,q⟩:=h;cases rx;obtain⟨t,rfl⟩:=ry;obtain⟨z,its,n,r,hl,e⟩:=I.Cc hH;have hlen:its.toArray.size*k.toNat<=sizeLine:=by rw[KL,<-hl];exact hz
 have hcap:¬ its.toArray.size*k.toNat>(2^63-1)/8:=by
  have:(sizeLine:Nat)<=(2^63-1)/8:=by decide
  omega
 have hfit:¬ (!Builtin.List.listFitsIndex k)=true:=by
  rw[fitsIndex_both h1 h2];exact KJ
 have hlong:¬ Pp (its.toArray.size*k.toNat)=true:=by
  rw[Ci hlen];exact KJ
 have hnew:TB (λx1 x2=>x1++x2) #[] (Oc (if its.toArray.isEmpty=true then 0 else k.toNat) its.toArray)=(Oc k.toNat its).flatten.toArray:=by
  have f0:∀m:Nat,TB (λx1 x2=>x1++x2) #[] (Oc m its.toArray)=(Oc m its).flatten.toArray:=λm=>by
   have:=Uu its m [];rw[Tb]at this;exact this
  rw[f0];cases its with
  |nil=>simp
  |cons a r'=>rw[if_neg (by simp)]
 refine wpAny_binaryOp_repeat_ref (T:="list") (U:="int") (by decide) ⟨_,e,rfl⟩ (λs'=>Tz s' k t) noFill_list_mul F.fills_int_mul Te repeat_list F.slot_int_index.lookup
  (Qs Te (Tz s k t) F.entry_int_rmul (F.args_int_rmul_2 _ _) (int___rmul___int_list k t l its.toArray n)
   ⟨e,rfl,⟨_,e,rfl⟩,Qs F.slot_list_mul ⟨_,e,rfl⟩ F.entry_list_mul (F.args_list_mul_2 _ _) (AutoListH.list___mul___list_int_3 l its.toArray n k t hfit hcap hlong) ⟨e,?_⟩⟩)
 rw[hnew];exact⟨.ref _,_,I.FP (t':=s.toks) (r.rep k.toNat) (by rw[len_rep,Nat.mul_comm];exact hz),rfl,q _ I.fresh⟩
end
section
variable{prog:Program}{w:NW}{A:Oh}{E:NK->NM->Prop}{s:NM}
end
section
variable{X:Cx}
end
end L2
namespace Att
open PySem PySem.W PySem.Calls PyProof.Rows
theorem qp{P:O8}{h:Oi}:∀(ns:List Int)(vs:List NK),WellAll P h vs (ns.map WData.int)->Su vs ns:=by
 intro ns;induction ns with
 |nil=>
  intro vs w;rw[ML]at w;cases w;exact .nil
 |cons n ns ih=>
  intro vs w;rw[KP]at w;cases w with
  |cons a b=>
   cases a;exact .cons _ _ (ih _ b)
theorem Aw{l:OpenLaw}{n:Nat}(hn:l.most=T9 n){P:O8}{h:Oi}{args:List WData}{vals:List NK}
  (hpre:l.row.toRowW.claim.pre args=true) (hwl:WellAll P h vals args) :
  ∃a vs ns,vals=[NZ a]/\args=[WData.list (ns.map WData.int)]/\h.get? a=T9 { cls:=.type "list",data:=.seq vs.toArray }/\Su vs ns/\ns.length<=n:=by
 have hsh:WShape.hasAll [] args [.list .int]=true:=(pre_splitW hpre).1
 have hc:l.pre.holds [] { args:=args }=true:=(pre_splitW hpre).2
 obtain⟨d,r,rfl,h1,h2⟩:=hasAllW_cons hsh
 obtain rfl:=hasAllW_nil h2
 obtain⟨xs,rfl,h3⟩:=hasW_list h1
 obtain⟨ns,rfl⟩:=items_int h3
 have hlen:ns.length<=n:=by
  unfold OpenLaw.pre at hc;have h4:(WTm.not (.lt (.lit (.int (n:Int))) (.len (.arg 0)))).holds [] { args:=[.list (ns.map .int)] }=true:=by
   have h4:=(holds_andW hc).1;rw[hn]at h4;exact h4
  have h5:=condW_of h4 (w_not (w_lt w_lit (w_len_list (w_arg rfl))));rw[Kx]at h5;refine Nat.le_of_not_lt λq=>?_;have q':(n:Int)<((ns.length:Nat):Int):=by omega
  first
   | (rw[decide_eq_true q']at h5;exact absurd h5 (by decide))
   | (simp at h5;omega)
 cases hwl with
 |cons w1 w2=>
  cases w2
  cases w1 with
  |list ho hall=>exact⟨_,_,ns,rfl,rfl,ho,qp ns _ hall,hlen⟩
theorem A5(l:OpenLaw)(args:List WData):l.row.toRowW.claim.post args (.bool true) args=true:=
 postW_of (r:=l.row.toRowW) (X:=(true==true))
  (show WShape.has [] (.bool true) .bool=true by first|rfl|decide|simp[WShape.has,WShape.arms,WShape.armsAll])
  (show(WTm.eq .res (.lit (.bool true))).value [] { args:=args,res:=T9 (.bool true),after:=args }=T9 (.bool (true==true))from w_eq_bool (w_res rfl) w_lit) rfl
theorem wF{l:OpenLaw}{n:Nat}{q:Program}{loose:List Str}{XP:(Str->Option NK)->Oi->Prop}{YP:NW->Oi->Prop}{d:DefRec}
  (hn:l.most=T9 n) (hdf:d.params.defaults=[])
  (call:∀(w:NW)(s₀ s₁:NM)(mg mb:Str->Option NK)(fa:NL)(o:Obj)(pm cd doc:NK)(a:NL)(vs:List NK)(ns:List Int),
   Ground q loose [] XP w s₀ mg mb s₁.heap->YP w s₁.heap->
   s₁.heap.get? fa=T9 o->o.data=.func (docDef d.name d.params d.body d.scope pm cd doc)->s₁.heap.CodeRec cd d.name->mg d.name=T9 (.ref fa)->
   s₁.heap.get? a=T9 { cls:=.type "list",data:=.seq vs.toArray }->Su vs ns->ns.length<=n->s₁.gens=#[]->
   codeAny (N0 l.prog w) Ry (.call (.ref fa) ⟨[.ref a],[]⟩) (λr s'=>r=.ok (.ret (.bool true))/\OldK s₁.heap s'.heap/\s'.os=s₁.os/\Qw s'.gens) s₁) :
  WalkO q loose XP YP l.row.toRowW d [] (λf vs=>TC f vs):=by
 intro w s₀ s₁ mg mb G Y fa o pm cd doc dV kV ho hd hcd hD hmg hg args vals as hpre hlay hrd hwl hlo
 obtain rfl:dV=.none:=Dflts.none hD hdf
 obtain rfl:kV=.none:=Dflts.noKw hD
 obtain⟨a,vs,ns,rfl,rfl,hobj,hints,hlen⟩:=Aw hn hpre hwl
 refine enter_call (QR (call w s₀ s₁ mg mb fa o pm cd doc a vs ns G Y ho (fd_plain hd) hcd hmg hobj hints hlen hg) λr s' hq=>?_)
 obtain⟨rfl,h2,h3,h4⟩:=hq
 exact⟨.inl ⟨.bool true,.bool true,[],rfl,λ_=>rfl,.bool true,A5 l _,λ_=>⟨List.Pairwise.nil,λ_ hm=>(nomatch hm)⟩⟩,h2,h3,h4⟩
section
variable{prog:Program}{w:NW}{A:Oh}{E:NK->NM->Prop}{s:NM}{K:Frag}
end
end Att
namespace L2
open PySem PySem.Spec PyProof.Rows
theorem uu:∀{vs:List NK}{ns:List Int},Su vs ns->Ug (ns.map V.int) vs
 |_,_,.nil=>.nil
 |_,_,.cons n t h=>.cons ⟨t,rfl⟩ (uu h)
noncomputable def GF(H:Hp):Prop:=∀b,H b=Ua\/∃o xs,H b=T9 (.frz o (.lst xs))
theorem Bp{P:Program}{w:NW}{K:NO}{mg mb:Str->Option NK}{CX:CXT}{k:Nat}{fa a:NL}{fd:O0}{x:Str}{sp:Sp}{s₁:NM}{vs:List NK}{ns:List Int}
  (KX:K.In s₁.heap) (hns:s₁.heap.Ns Of mg) (hb:s₁.heap.Ns QN mb) (hbb:∀x:Str,x≠"__name__"->mb x=OZ x) (hlim:s₁.heap.NoLimit) (hg:s₁.gens=#[])
  (ha:s₁.heap.get? a=T9 { cls:=.type "list",data:=.seq vs.toArray }) (hi:Su vs ns) (hl:ns.length<=sizeLine) (hr:eY k Ry)
  (F:∀base:Oi,K.In base->base.Ns Of mg->k7 P w K mg base CX k fa fd [x] sp) (hbind:∀(s:NM)(u:NK),Ru s fd ⟨[u],[]⟩ [(x,u)])
  (hsp:∀H:Hp,GF H->SqL K H a (ns.map V.int)->sp [.ref a] H (λv _=>v=.bl true) λ_ _ _=>False)
  (hCX:∀H e s',CX [] H s₁ (λ_ _ _=>False) e s'->False) :
  codeAny (N0 P w) Ry (.call (.ref fa) ⟨[.ref a],[]⟩) (λr s'=>r=.ok (.ret (.bool true))/\OldK s₁.heap s'.heap/\s'.os=s₁.os/\Qw s'.gens) s₁:=by
 have rv:=uu hi
 have lenV:=hi.length
 have core:∀H:Hp,GF H->SqL K H a (ns.map V.int)->HOk P w H s₁.heap->(∀b,H b≠Ua->b=a)->(H a≠Ua->K.lookup a=Ua)->
   codeAny (N0 P w) Ry (.call (.ref fa) ⟨[.ref a],[]⟩) (λr s'=>r=.ok (.ret (.bool true))/\OldK s₁.heap s'.heap/\s'.os=s₁.os/\Qw s'.gens) s₁:=by
  intro H hO hS hok hA hK
  have base_of:∀{b:NL}{o:Obj},s₁.heap.get? b=T9 o->H b=Ua->(vO s₁.heap H).get? b=T9 o:=λe n=>CP e n
  have noA:∀{b:NL}{o:Obj}{es:Array SG}{ep:Nat},s₁.heap.get? b=T9 o->o.data=.dict es ep->H b=Ua:=λ{b o es ep} e d=>by
   cases q:H b with
   |none=>rfl
   |some u=>
    have e':b=a:=hA b (by rw[q];simp);subst e';rw[ha]at e;cases e;have d':Data.seq vs.toArray _=Data.dict es ep:=d;cases d'
  have nsK:∀{b:NL}{m:Str->Option NK},s₁.heap.Ns b m->(vO s₁.heap H).Ns b m:=λ{b m} ⟨o,es,ep,e,d,r⟩=>⟨o,es,ep,base_of e (noA e d),d,r⟩
  have hKb:K.In (vO s₁.heap H):=λb o e=>base_of (KX b o e) (by
   cases q:H b with
   |none=>rfl
   |some u=>
    have e':b=a:=hA b (by rw[q];simp);subst e';rw[hK (by rw[q];simp)]at e;cases e)
  have hM:Mod K mg (vO s₁.heap H):=⟨hKb,nsK hns,⟨mb,nsK hb,hbb⟩,let ⟨mc,h1,h2⟩:=hlim;⟨mc,nsK h1,h2⟩⟩
  have e0:y9 P w K mg (vO s₁.heap H) Ry [] s₁ H:=⟨rfl,hM,λb o e=>EE e,Nw (AV _ _),trivial,λb hb=>absurd (show b∈([]:List NL)from hb) (by simp),hok,.of_eq hg⟩
  refine QR ((F _ hKb (nsK hns)).run Ry [] s₁ H ⟨[.ref a],[]⟩ [.ref a] [.ref a] _ _ hr e0 (hbind s₁ (.ref a)) (.cons rfl .nil) (hsp H hO hS)) λr s' h=>?_
  cases r with
  |error e=>exact(hCX H e s' h).elim
  |ok fl=>
   cases fl with
   |next=>exact OP h
   |brk=>exact OP h
   |cont=>exact OP h
   |ret u=>
    obtain⟨v,H',os,bare,un,hok',r',q⟩:=h
    have q':v=.bl true:=q
    subst q'
    obtain rfl:u=QM true:=r'
    refine⟨rfl,OldK.of_keep λb o e=>?_,os,bare⟩
    cases q:H b with
    |none=>exact un.keep b o e q (by intro z;exact absurd (show b∈([]:List NL)from z) (by simp)) (by simp)
    |some u=>
     rcases hO b with z|⟨ob,xs,z⟩
     ·rw[q]at z;cases z
     have z2:=un.sN b ob _ z
     obtain⟨e1,_⟩:=hok b _ z
     obtain⟨e2,_⟩:=hok' b _ z2
     rw[e]at e1;cases e1
     exact e2
 cases hk:K.lookup a with
 |some o=>
  have e:=KX a o hk
  rw[ha]at e
  cases e
  refine core (λ_=>Ua) (λ_=>.inl rfl) (.inr ⟨_,vs.toArray,_,hk,rfl,rfl,rfl,by rw[KL,lenV];exact hl,by simpa using rv⟩) (λb u z=>by have z':(Ua:Option HO)=T9 u:=z;cases z') (λb z=>absurd rfl z) λz=>absurd rfl z
 |none=>
  refine core (λb=>if b=a then T9 (.frz { cls:=.type "list",data:=.seq vs.toArray } (.lst (ns.map V.int)))else Ua) (λb=>?_) (.inl (.inr ⟨{ cls:=.type "list",data:=.seq vs.toArray },if_pos rfl⟩)) (λb u z=>?_) (λb z=>?_) λ_=>hk
  ·by_cases hb:b=a
   ·exact .inr ⟨_,_,if_pos hb⟩
   exact .inl (if_neg hb)
  ·by_cases hb:b=a
   ·have z':=(if_pos hb).symm.trans z;cases z';subst hb;exact⟨ha,by rw[Kx];exact hl,vs,_,rv,ha⟩
   have z':=(if_neg hb).symm.trans z;cases z'
  by_cases hb:b=a
  ·exact hb
  exact absurd (if_neg hb) z
theorem Ee{l:SH}{n k:Nat}{q:Program}{loose:List Str}{XP:(Str->Option NK)->Oi->Prop}{YP:NW->Oi->Prop}{d:DefRec}{K:O8->NO}{CX:NW->CXT}{sp:NW->Sp}{x:Str}
  (hn:l.most=T9 n) (hn2:n<=sizeLine) (hdf:d.params.defaults=[]) (hr:eY k Ry)
  (hY:∀(w:NW)(h:Oi),YP w h->(K w.params).In h)
  (F:∀(w:NW)(mg:Str->Option NK)(fa:NL)(h:Oi),(K w.params).In h->h.Ns Of mg->mg d.name=T9 (.ref fa)->
   ∃fd:O0,(∀(s:NM)(u:NK),Ru s fd ⟨[u],[]⟩ [(x,u)])/\
    ∀base:Oi,(K w.params).In base->base.Ns Of mg->k7 l.prog w (K w.params) mg base (CX w) k fa fd [x] (sp w))
  (hsp:∀(w:NW)(H:Hp)(a:NL)(ns:List Int),ns.length<=n->GF H->SqL (K w.params) H a (ns.map V.int)->sp w [.ref a] H (λv _=>v=.bl true) λ_ _ _=>False)
  (hCX:∀(w:NW)(H:Hp)(s:NM)(e:NK)(s':NM),CX w [] H s (λ_ _ _=>False) e s'->False) :
  W.WalkO q loose XP YP l.row.toRowW d [] (λf vs=>TC f vs):=by
 refine Att.wF hn hdf λw s₀ s₁ mg mb fa o pm cd doc a vs ns G Y ho hd hcd hmg hobj hints hlen hg=>?_
 have KX:=hY w _ Y
 obtain⟨fd,hb,hF⟩:=F w mg fa _ KX G.T.g hmg
 exact Bp KX G.T.g G.T.b G.T.builtins G.T.nolimit hg hobj hints (KR hlen hn2) hr hF hb (λH hO hS=>hsp w H a ns hlen hO hS) λH e s'=>hCX w H s₁ e s'
noncomputable abbrev CX0:CXT:=λ_ _ _ _ _ _=>False
noncomputable abbrev E0:XK:=λ_ _ _=>False
theorem wL{X:Cx}:Uo CX0 X E0:=λ_ _ _ _ _ _ _ h=>h.elim
structure Fun(K:NO)(x qual:Str)(st:Oj)(f:NL)(fd:O0):Prop where
 ex:∃(oc:NK)(od:Option NL)(kV doc pm:NK)(an:Option NL)(cdv ct:NK)(osl:Array (Option NK)),
  fd=PH x qual (eE st) (dj st) (av st) .none kV doc pm an cdv ct/\K.lookup f=T9 ⟨oc,od,.func fd,osl⟩/\Q9 K cdv qual=true
 kp:Po K (.ref f)=true
section
variable{P:Program}{w:NW}{K:NO}{mg:Str->Option NK}{base:Oi}
theorem Fun.ok{x qual:Str}{st:Oj}{f:NL}{fd:O0}{N ps:List Str}{k:Nat}{sp:Sp}(F:Fun K x qual st f fd)(S:az N ps (av st))(len:∀vs H Q E,sp vs H Q E->vs.length=ps.length)
  (hbody:∀(cdv:NK)(A:Oh)(outer:List Env)(s:NM)(H:Hp)(vs:List V)(Q:VK)(E:XK),eY k (A.deeper (P9 qual (av st) s.heap.objs.size f cdv))->sp vs H Q E->
   ∃t,PSs (wJ CX0 P w K mg base N qual (av st) f cdv A outer s H E).nox (dj st) t/\t { nx:=λ_ H'=>Q .non H',rt:=Q } (Ur N vs) H):k7 P w K mg base CX0 (k+1) f fd ps sp:=by
 obtain⟨oc,od,kV,doc,pm,an,cdv,ct,osl,rfl,lk,hcd⟩:=F.ex
 refine Jb lk hcd S len λA outer s H vs Q E hr hsp=>?_
 obtain⟨t,h,q⟩:=hbody cdv A outer s H vs Q E hr hsp
 exact⟨t,h.nox,q⟩
theorem Fun.binds{x qual:Str}{st:Oj}{f:NL}{fd:O0}{ps:List Str}(F:Fun K x qual st f fd)
  (h:∀(kV doc pm:NK)(an:Option NL)(cdv ct:NK)(us:List NK),us.length=ps.length->Q8 (PH x qual (eE st) (dj st) (av st) .none kV doc pm an cdv ct) ⟨us,[]⟩=pure (ps.zip us)):Ul K fd ps []:=by
 obtain⟨oc,od,kV,doc,pm,an,cdv,ct,osl,rfl,lk,hcd⟩:=F.ex
 exact .all (h kV doc pm an cdv ct)
theorem vD{x qual:Str}{st:Oj}{f:NL}{oc:NK}{od an:Option NL}{osl:Array (Option NK)}{kV doc pm cdv ct:NK}(l:K.lookup f=T9 ⟨oc,od,.func (PH x qual (eE st) (dj st) (av st) .none kV doc pm an cdv ct),osl⟩)
  (c:Q9 K cdv qual=true) (k:Po K (.ref f)=true):Fun K x qual st f (PH x qual (eE st) (dj st) (av st) .none kV doc pm an cdv ct):=⟨⟨oc,od,kV,doc,pm,an,cdv,ct,osl,rfl,l,c⟩,k⟩
end
theorem ax{n:Nat}(h:n<=1000):n<sizeLine:=MF h (by decide)
section
variable{X:Cx}
end
theorem ba{A B:Prop}(h:B):if false=true then A else B:=by
 rw[if_neg KJ];exact h
theorem eI{A B:Prop}(h:A):if true=true then A else B:=by
 rw[if_pos rfl];exact h
theorem aV{c A B:Prop}[Decidable c](h1:c->A)(h2:¬ c->B):if c then A else B:=by
 by_cases h:c
 ·rw[if_pos h];exact h1 h
 rw[if_neg h];exact h2 h
noncomputable def aq(H H':Hp):Prop:=∀b o,H b=T9 o->H' b=T9 o
theorem aq.refl(H:Hp):aq H H:=λ_ _ h=>h
theorem aq.trans{H H1 H2:Hp}(a:aq H H1)(b:aq H1 H2):aq H H2:=λc o h=>b c o (a c o h)
theorem aq.free{H H':Hp}(e:aq H H'){l:NL}(h:H' l=OL):H l=OL:=by
 cases q:H l with
 |none=>rfl
 |some o=>
  rw[e l o q]at h;cases h
theorem aq.seq{K:NO}{H H':Hp}{a:NL}{xs:List V}(e:aq H H')(h:SqL K H a xs):SqL K H' a xs:=by
 rcases h with(h|⟨o,h⟩)|h
 ·exact .inl (.inl (e _ _ h))
 ·exact .inl (.inr ⟨o,e _ _ h⟩)
 exact .inr h
theorem pQ{α β:Type}{l:List α}{f:α->β->Sem (ForInStep β)}(g:β->α->β)(c:β)(h:∀x∈l,∀c,f x c=pure (.yield (g c x))) :
  forIn l c f=pure (l.foldl g c):=by
 induction l generalizing c with
 |nil=>rfl
 |cons x l ih=>
  rw[List.forIn_cons,h x Ku,pure_bind]
  exact ih _ λy hy=>h y (Kw _ hy)
noncomputable def fI(env:Env)(cs:List (Str×NL))(x:Str×O4):List (Str×NL):=
 if x.2== .free then(x.1,(env.cells.lookup x.1).getD 0)::cs else cs
noncomputable def rT(env:Env)(names:List (Str×O4)):List (Str×NL):=names.foldl (fI env) []
theorem qo{scope:Pz}{env:Env}(h:∀x∈scope.names,x.2=.free->∃c,env.cells.lookup x.1=T9 c):closureFor scope env=pure (rT env scope.names):=by
 simp only[closureFor];rw[pQ (fI env) [] (λx hx c=>by
  obtain⟨n,kind⟩:=x;cases hk:kind==OF with
  |false=>simp only[fI,hk,RR,if_false]
  |true=>
   obtain⟨a,ha⟩:=h (n,kind) hx (by simpa using hk);have ha':env.cells.lookup n=T9 a:=ha;simp only[fI,hk,if_true,cellOf,ha',SS,pure_bind])]
 rfl
theorem rN{env:Env}:∀{names:List (Str×O4)}{cs:List (Str×NL)}{n:Str}{c:NL},(n,c)∈names.foldl (fI env) cs->(n,c)∈cs\/((n,OF)∈names/\c=(env.cells.lookup n).getD 0)
 | [],_,_,_,h=>.inl h
 | (m,k)::r,cs,n,c,h=>by
  rcases rN (names:=r) (cs:=fI env cs (m,k)) h with h|⟨h,e⟩
  ·unfold fI at h;by_cases hk:(k==OF)=true
   ·rw[if_pos hk]at h;rcases Kt.mp h with e|h
    ·cases e;have hk':k=.free:=by simpa using hk
     subst hk';exact .inr ⟨Ku,rfl⟩
    exact .inl h
   rw[if_neg hk]at h;exact .inl h
  exact .inr ⟨Kw _ h,e⟩
theorem tZ{env:Env}{p:Str×NL}:∀{names:List (Str×O4)}{cs:List (Str×NL)},p∈cs->p∈names.foldl (fI env) cs
 | [],_,h=>h
 |x::r,cs,h=>tZ (names:=r) (cs:=fI env cs x) (by
  unfold fI;split
  ·exact Kw _ h
  exact h)
theorem vF{env:Env}{n:Str}:∀{names:List (Str×O4)}{cs:List (Str×NL)},(n,OF)∈names->(n,(env.cells.lookup n).getD 0)∈names.foldl (fI env) cs
 |x::r,cs,h=>by
  rcases Kt.mp h with e|h
  ·subst e;refine tZ (names:=r) (cs:=fI env cs (n,.free)) ?_;unfold fI;rw[if_pos (by rfl)];exact Ku
  exact vF (names:=r) h
theorem jt{α:Type}:∀{l:List (Str×α)}{n:Str}{c:α},(n,c)∈l->∃c',l.lookup n=T9 c'
 | (k,v)::r,n,c,h=>by
  rw[Ma];cases hb:n==k with
  |true=>exact⟨v,rfl⟩
  |false=>
   rcases Kt.mp h with e|h
   ·cases e;simp at hb
   exact jt h
theorem fZ:∀{names:List (Str×O4)}{k:Nat}{acc:List (Str×NL)}{n:Str}{c:NL},(n,c)∈OA k names acc->(n,c)∈acc\/(k<=c/\(n,Ov)∈names)
 | [],_,_,_,_,h=>.inl h
 | (m,kd)::r,k,acc,n,c,h=>by
  unfold OA at h;by_cases hk:(kd==Ov)=true
  ·rw[if_pos hk]at h;have hk':kd=.cell:=by simpa using hk
   subst hk';rcases fZ (names:=r) h with h|⟨h1,h2⟩
   ·rcases Kt.mp h with e|h
    ·cases e;exact .inr ⟨KD _,Ku⟩
    exact .inl h
   exact .inr ⟨by omega,Kw _ h2⟩
  rw[if_neg hk]at h;rcases fZ (names:=r) h with h|⟨h1,h2⟩
  ·exact .inl h
  exact .inr ⟨h1,Kw _ h2⟩
theorem jz:∀{names:List (Str×O4)}{k:Nat}{acc:List (Str×NL)},(∀n c,(n,c)∈acc->c<k)->(∀n n' c,(n,c)∈acc->(n',c)∈acc->n=n')->
  ∀{n n':Str}{c:NL},(n,c)∈OA k names acc->(n',c)∈OA k names acc->n=n'
 | [],_,_,_,hi,_,_,_,h,h'=>hi _ _ _ h h'
 | (m,kd)::r,k,acc,hl,hi,n,n',c,h,h'=>by
  unfold OA at h h';by_cases hk:(kd==Ov)=true
  ·rw[if_pos hk]at h h';refine jz (names:=r) (acc:=(m,k)::acc) (λa b hab=>?_) (λa a' b ha ha'=>?_) h h'
   ·rcases Kt.mp hab with e|e
    ·cases e;exact Mn _
    exact Mv (hl _ _ e)
   rcases Kt.mp ha with e|e<;>rcases Kt.mp ha' with e'|e'
   ·cases e;cases e';rfl
   ·cases e;exact absurd (hl _ _ e') (LQ _)
   ·cases e';exact absurd (hl _ _ e) (LQ _)
   exact hi _ _ _ e e'
  rw[if_neg hk]at h h';exact jz (names:=r) hl hi h h'
theorem iX:∀{names:List (Str×O4)}{h:Oi}{acc:List (Str×NL)}{n:Str}{c:NL},(n,c)∈OA h.objs.size names acc->(n,c)∈acc\/(P1 h names).IsCell c Ua
 | [],_,_,_,_,q=>.inl q
 | (m,kd)::r,h,acc,n,c,q=>by
  unfold OA at q;unfold P1;by_cases hk:(kd==Ov)=true
  ·rw[if_pos hk]at q;rw[if_pos hk];have e:h.objs.size+1=(h.push { cls:=.type "cell",data:=.cell Ua }).objs.size:=(OV ..).symm;rw[e]at q;rcases iX (names:=r) q with q|q
   ·rcases Kt.mp q with e'|q
    ·cases e';exact .inr ⟨_,Pu r _ _ _ (Ob _ rfl),rfl⟩
    exact .inl q
   exact .inr q
  rw[if_neg hk]at q;rw[if_neg hk];exact iX (names:=r) q
theorem jA{x:Str}:∀{names:List (Str×O4)}{k:Nat}{acc:List (Str×NL)},(x,Ov)∉names->(OA k names acc).lookup x=acc.lookup x
 | [],_,_,_=>rfl
 | (m,kd)::r,k,acc,h=>by
  unfold OA;have hr:(x,Ov)∉r:=λz=>h (Kw _ z);by_cases hk:(kd==Ov)=true
  ·have hk':kd=.cell:=by simpa using hk
   subst hk';rw[if_pos hk,jA hr,Ma];have ne:(x==m)=false:=by
    cases hb:x==m with
    |false=>rfl
    |true=>exact absurd (by rw[beq_iff_eq.mp hb];exact Ku) h
   rw[ne]
  rw[if_neg hk];exact jA hr
section
variable{M:Model}{A:Oh}{E:NK->NM->Prop}{s:NM}
theorem xB{scope:Pz}{globals:NL}{cl:List (Str×NL)}{qual:Str}{C7:Env}{Q:Env->NM->Prop}
  (h:Q (newEnv scope s.heap.objs.size globals (OA (s.heap.objs.size+1) scope.names cl) qual Ua .none (T9 C7) QN) { s with heap:=P1 (s.heap.push { cls:=.type "dict",data:=.dict #[] }) scope.names }) :
  wpAny M A (TF scope globals cl [] qual Ua .none (T9 C7)) Q E s:=by
 simp only[TF,RT,if_true]
 refine NN (wpAny_alloc ?_)
 refine NN (wpAny_layCells _ (λname kind cells=>by cases hkc:kind==Ov<;>simp[hkc]) _ _ _ _ ?_)
 rw[show({ s with heap:=s.heap.push { cls:=.type "dict",data:=.dict #[] } }:NM).heap.objs.size=s.heap.objs.size+1 from OV ..]
 refine NN ?_
 rw[List.forIn_nil]
 exact NU (NU h)
end
structure CB where
 C:NL
 ex:List NL
 s:NM
 H:Hp
noncomputable def cxC(X:Cx)(N:List Str)(scope:Pz)(b:CB):Cx:={ X with
 N:=N
 s₀:=b.s
 H₀:=b.H
 env:=compEnvC scope (OA (b.C+1) scope.names (rT X.env scope.names)) b.C X.env
 outer:=X.stack
 ex:=b.ex
 fn:=λx=>scope.names.lookup x==T9 .cell
 pn:=[]
 xe:=λ_ _=>False }
theorem lR{env:Env}{x:Str}:∀{names:List (Str×O4)},
  (names.map λ(n,k)=>if(k==OF&&env.scope.kind== .function&&env.kindOf n==T9 .cell)then(n,Ov)else(n,k)).lookup x=
   (names.lookup x).map λk=>if(k==OF&&env.scope.kind== .function&&env.kindOf x==T9 .cell)then Ov else k
 | []=>rfl
 | (n,k)::r=>by
  have ih:=@lR env x r;show Ph x ((if(k==OF&&env.scope.kind== .function&&env.kindOf n==T9 .cell)=true then(n,Ov)else(n,k))::_)=_;cases hx:x==n with
  |true=>
   have e:x=n:=beq_iff_eq.mp hx;subst e;by_cases hc:(k==OF&&env.scope.kind== .function&&env.kindOf x==T9 .cell)=true
   ·rw[if_pos hc];simp only[Ma,hx,MC,hc,if_true]
   rw[if_neg hc];simp only[Ma,hx,MC];rw[if_neg hc]
  |false=>
   by_cases hc:(k==OF&&env.scope.kind== .function&&env.kindOf n==T9 .cell)=true
   ·rw[if_pos hc];simp only[Ma,hx];exact ih
   rw[if_neg hc];simp only[Ma,hx];exact ih
structure cJ(psc:Pz)(PN N:List Str)(own:Nat)(fr:List Nat)(scope:Pz):Prop where
 kind:scope.kind=.function
 nd:(scope.names.map (·.1)).Nodup
 free:∀x∈scope.names,x.2=.free->psc.names.lookup x.1=T9 .cell\/psc.names.lookup x.1=T9 .free
 len:N.length=own+fr.length
 frn:∀i,i<fr.length->N[own+i]?=(fr[i]?).bind λj=>PN[j]?
 frk:∀i,i<fr.length->∀y,N[own+i]?=T9 y->scope.names.lookup y=T9 .free
noncomputable def zD(psc:Pz)(PN N:List Str)(own:Nat)(fr:List Nat)(scope:Pz):Bool:=
 scope.kind== .function&&decide (scope.names.map (·.1)).Nodup&&scope.names.all (λx=>x.2 != .free||(psc.names.lookup x.1==T9 .cell||psc.names.lookup x.1==T9 .free))&&
  (N.length==own+fr.length)&&((fr.map λj=>PN[j]?)==(N.drop own).map T9)&&(N.drop own).all (λy=>scope.names.lookup y==T9 .free)
theorem cJ.of{psc:Pz}{PN N:List Str}{own:Nat}{fr:List Nat}{scope:Pz}(h:zD psc PN N own fr scope=true):cJ psc PN N own fr scope:=by
 unfold zD at h;simp only[LS]at h;obtain⟨⟨⟨⟨⟨h1,h2⟩,h3⟩,h4⟩,h5⟩,h6⟩:=h;have h4':N.length=own+fr.length:=eq_of_beq h4;have h5':(fr.map λj=>PN[j]?)=(N.drop own).map T9:=eq_of_beq h5;have dr:∀i,N[own+i]?=(N.drop own)[i]?:=λi=>by rw[List.getElem?_drop]
 refine⟨eq_of_beq h1,of_decide_eq_true h2,λx hx hk=>?_,h4',λi hi=>?_,λi hi y hy=>?_⟩
 ·have q:=Mp.mp h3 x hx;rw[hk]at q;simpa using q
 ·have q:=congrArg (λl=>l[i]?) h5';simp only[KO]at q;rw[dr];have ej:fr[i]?=T9 fr[i]:=Kv hi;rw[ej]at q⊢;cases e:(N.drop own)[i]? with
  |none=>rw[e]at q;cases q
  |some y=>
   rw[e]at q;exact(NP q).symm
 rw[dr]at hy;have q:=Mp.mp h6 y (KI hy);simpa using q
noncomputable def cSt(own:Nat)(fr:List Nat)(σ:St):St:=Oc own Ua++fr.map λj=>(σ[j]?).getD Ua
theorem g7{α:Type}:∀{l:List (Str×α)}{n:Str}{k:α},(l.map (·.1)).Nodup->(n,k)∈l->l.lookup n=T9 k
 | (m,v)::r,n,k,nd,h=>by
  rw[KP,KU]at nd;rw[Ma];rcases Kt.mp h with e|h
  ·cases e;simp
  have ne:(n==m)=false:=by
   cases hb:n==m with
   |false=>rfl
   |true=>exact absurd (KS.mpr ⟨(n,k),h,beq_iff_eq.mp hb⟩) nd.1
  rw[ne];exact g7 nd.2 h
section
variable{X:Cx}{pins:List (NL×Obj)}{σ:St}{H:Hp}{s:NM}{N:List Str}{own:Nat}{fr:List Nat}{scope:Pz}
theorem cJ.cells(S:cJ X.env.scope X.N N own fr scope)(ok:X.Ok):∀x∈scope.names,x.2=.free->∃c,X.env.cells.lookup x.1=T9 c:=λx hx hk=>
 ok.has x.1 (S.free x hx hk)
theorem cJ.cl(S:cJ X.env.scope X.N N own fr scope)(ok:X.Ok){n:Str}{c:NL}(h:(n,c)∈rT X.env scope.names):X.env.cells.lookup n=T9 c:=by
 rcases rN h with h|⟨h,e⟩
 ·cases h
 obtain⟨c',e'⟩:=S.cells ok (n,.free) h rfl;have e2:X.env.cells.lookup n=T9 c':=e';rw[e2]at e;rw[e,e2];rfl
theorem BS{D C:NL}{h':Oi}{fp:List NL}(S:cJ X.env.scope X.N N own fr scope)(I:Inv X pins σ H s)(hD:D=s.heap.objs.size)(hC:C=s.heap.objs.size+1)
  (hh:h'=P1 ((s.heap.push { cls:=.type "list",data:=.seq #[] }).push { cls:=.type "dict",data:=.dict #[] }) scope.names) (hfp:∀b∈fp,sL X pins H b) (hlt:∀b∈fp,b<s.heap.objs.size) :
  Inv (cxC X N scope ⟨C,fp,s,H⟩) [] (cSt own fr σ) (upd H D (.lst [])) { s with heap:=h' }:=by
 subst hD hC
 have eD:(s.heap.push { cls:=.type "list",data:=.seq #[] }).objs.size=s.heap.objs.size+1:=OV ..
 have eC:((s.heap.push { cls:=.type "list",data:=.seq #[] }).push { cls:=.type "dict",data:=.dict #[] }).objs.size=s.heap.objs.size+2:=by rw[OV,eD]
 have keep:∀b o,s.heap.get? b=T9 o->h'.get? b=T9 o:=λb o e=>by
  rw[hh];exact Pu _ _ _ _ (NQ _ (NQ _ e))
 have lst:h'.get? s.heap.objs.size=T9 { cls:=.type "list",data:=.seq #[] }:=by
  rw[hh];exact Pu _ _ _ _ (NQ _ (Ob _ rfl))
 have dct:h'.get? (s.heap.objs.size+1)=T9 { cls:=.type "dict",data:=.dict #[] }:=by
  rw[hh];refine Pu _ _ _ _ ?_;have:=Ob (s.heap.push { cls:=.type "list",data:=.seq #[] }) (o:={ cls:=.type "dict",data:=.dict #[] }) rfl;rw[eD]at this;exact this
 have hnD:H s.heap.objs.size=Ua:=I.hok.fresh (KD _)
 have hnC:H (s.heap.objs.size+1)=Ua:=I.hok.fresh (Nc _)
 have inCl:∀{n:Str}{c:NL},(n,c)∈rT X.env scope.names->X.env.cells.lookup n=T9 c:=λh=>S.cl I.ok h
 have clt:∀{n:Str}{c:NL},X.env.cells.lookup n=T9 c->c<s.heap.objs.size:=λh=>by
  obtain⟨v,z⟩:=I.cell _ _ h;exact z.lt
 have cases_:∀{n:Str}{c:NL},(OA (s.heap.objs.size+1+1) scope.names (rT X.env scope.names)).lookup n=T9 c->X.env.cells.lookup n=T9 c\/(s.heap.objs.size+2<=c/\(n,Ov)∈scope.names/\h'.IsCell c Ua):=λ{n c} h=>by
  have hm:=Og h;have hcell:=hm;rw[show s.heap.objs.size+1+1=((s.heap.push { cls:=.type "list",data:=.seq #[] }).push { cls:=.type "dict",data:=.dict #[] }).objs.size from eC.symm]at hcell;rcases fZ hm with h1|⟨h1,h2⟩
  ·exact .inl (inCl h1)
  rcases iX hcell with h3|h3
  ·exact .inl (inCl h3)
  exact .inr ⟨h1,h2,by rw[hh];exact h3⟩
 have kindOf:∀x,(cxC X N scope ⟨s.heap.objs.size+1,fp,s,H⟩).env.kindOf x=(scope.names.lookup x).map λk=>if(k==OF&&X.env.scope.kind== .function&&X.env.kindOf x==T9 .cell)then Ov else k:=λx=>lR
 have hasName:∀x,((cxC X N scope ⟨s.heap.objs.size+1,fp,s,H⟩).env.kindOf x=T9 .cell\/(cxC X N scope ⟨s.heap.objs.size+1,fp,s,H⟩).env.kindOf x=T9 .free)->∃c,(OA (s.heap.objs.size+1+1) scope.names (rT X.env scope.names)).lookup x=T9 c:=λx hx=>by
  rw[kindOf]at hx;have h2:scope.names.lookup x=T9 .cell\/scope.names.lookup x=T9 .free:=by
   cases e:scope.names.lookup x with
   |none=>rw[e]at hx;rcases hx with z|z<;>cases z
   |some k=>
    rw[e]at hx;by_cases hk:k=.free
    ·exact .inr (by rw[hk])
    have hk':(k==OF)=false:=by simpa using hk
    simp only[MC,hk',Nb,RR,if_false]at hx;rcases hx with z|z
    ·exact .inl z
    exact .inr z
  rcases h2 with h2|h2
  ·exact ME.mp (PY scope.names _ _ (.inl h2))
  obtain⟨c,hc⟩:=jt (vF (env:=X.env) (cs:=[]) (Og h2));exact ME.mp (PY scope.names _ _ (.inr (by rw[show(rT X.env scope.names).lookup x=T9 c from hc];rfl)))
 have cellAt:∀x c,(OA (s.heap.objs.size+1+1) scope.names (rT X.env scope.names)).lookup x=T9 c->∃v,h'.IsCell c v:=λx c e=>by
  rcases cases_ e with q|⟨_,_,q⟩
  ·obtain⟨v,o,ho,hd⟩:=I.cell x c q;exact⟨v,o,keep c o ho,hd⟩
  exact⟨Ua,q⟩
 refine⟨⟨I.ok.mod,S.kind,I.ok.glob,I.ok.blt,Nc _,λy z c h1 h2=>?_,hasName,λy c hy h=>?_,I.ok.hd,I.ok.frames,.inl rfl,λb hb=>⟨?_,λx c e z=>?_⟩,λb o e=>I.bs b o e,KR I.ok.bsz I.sz,λb o e hb=>?_,λb hb hf=>?_,I.stack,I.Ai⟩,
  rfl,I.bare,?_,⟨λ_=>Ua,⟨_,#[],_,dct,rfl,λe he=>absurd he (by simp),λ_=>rfl⟩,λi x v h1 h2 h3=>?_⟩,cellAt,?_,λx c e=>?_,λp hp=>absurd (show p∈([]:List (NL×Obj))from hp) (by simp),?_,?_⟩
 ·
  refine jz (λn c hm=>?_) (λn n' c hm hm'=>I.ok.inj n n' c (inCl hm) (inCl hm')) (Og h1) (Og h2);exact Mv (Mv (clt (inCl hm)))
 ·
  have hy':scope.names.lookup y=T9 .cell:=by simpa using (show(scope.names.lookup y==T9 .cell)=true from hy)
  rcases cases_ h with q|⟨q,_⟩
  ·rcases fZ (Og h)with q2|⟨q2,_⟩
   ·rcases rN q2 with z|⟨z,_⟩
    ·cases z
    have:=g7 S.nd z;rw[hy']at this;cases this
   exact KR (LK _ 2) q2
  exact KR (LK _ 2) q
 ·exact Ll (Mv (hlt b hb))
 ·rcases cases_ e with q|⟨q,_⟩
  ·exact(hfp b hb).2.2.2.2.1 x c q z
  have hb':=hlt b hb;rw[<-z]at hb';exact absurd (KY hb' (KR (LK _ 2) q)) (LQ _)
 ·rcases(hfp b hb).2.2.2.1 with z|z
  ·exact I.ok.BI b o e z
  exact LQ _ (KY (NY e) (KR I.ok.bsz z))
 ·rcases Kt.mp (I.zc b hf)with z|z
  ·exact(hfp b hb).2.1 z
  exact(hfp b hb).2.2.1 z
 ·exact Un.laid keep (KD _) hnD
 ·
  have h1:N[i]?=T9 x:=h1;have hlen:i<N.length:=(KA.mp h1).1;by_cases hi:i<own
  ·exfalso;have h2':(cSt own fr σ)[i]?=T9 Ua:=by
    unfold cSt;rw[Mi (by simpa using hi),QG,if_pos hi]
   rw[h2']at h2;cases h2
  have hfi:i-own<fr.length:=by have:=S.len;omega
  have ei:own+(i-own)=i:=by omega
  have hk:=S.frk (i-own) hfi x (by rw[ei];exact h1);have hn:=S.frn (i-own) hfi;rw[ei,h1]at hn;have ej:fr[i-own]?=T9 fr[i-own]:=Kv hfi;rw[ej]at hn;have hn':X.N[fr[i-own]]?=T9 x:=hn.symm;have h2':(cSt own fr σ)[i]?=T9 ((σ[fr[i-own]]?).getD Ua):=by
   unfold cSt;rw[Mf (by simpa using Nat.not_lt.mp hi),LW,KO,ej];rfl
  rw[h2']at h2;have h2'':(σ[fr[i-own]]?).getD Ua=T9 v:=NP h2;have hσ:σ[fr[i-own]]?=T9 (T9 v):=by
   cases e:σ[fr[i-own]]? with
   |none=>rw[e]at h2'';cases h2''
   |some w=>rw[e]at h2'';exact congrArg T9 h2''
  obtain⟨m,hm,hl⟩:=I.loc;have hfree:=S.free (x,.free) (Og hk) rfl;obtain⟨u,r,l⟩:=hl _ x v hn' hσ (hfree.elim (λz=>.inr (.inl z)) λz=>.inr (.inr z));refine⟨u,r,.inr ?_⟩;have hcell:∃c,X.env.cells.lookup x=T9 c/\s.heap.IsCell c (T9 u):=by
   rcases l with⟨l,_⟩|⟨_,c,e,z⟩
   ·exfalso;rcases hfree with z|z
    ·have l':X.env.scope.names.lookup x=T9 .local:=l
     have z':X.env.scope.names.lookup x=T9 .cell:=z;rw[l']at z';cases z'
    have l':X.env.scope.names.lookup x=T9 .local:=l
    have z':X.env.scope.names.lookup x=T9 .free:=z;rw[l']at z';cases z'
   exact⟨c,e,z⟩
  obtain⟨c,e,o,ho,hd⟩:=hcell;refine⟨?_,c,?_,o,keep c o ho,hd⟩
  ·rw[kindOf,hk];by_cases z:(X.env.scope.kind== .function&&X.env.kindOf x==T9 .cell)=true
   ·left
    simp only[MC,beq_self_eq_true,Bool.true_and,z,if_true]
   right
   simp only[MC,beq_self_eq_true,Bool.true_and];rw[if_neg z]
  show(OA (s.heap.objs.size+1+1) scope.names (rT X.env scope.names)).lookup x=T9 c;rw[jA λz=>by
   have:=g7 S.nd z;rw[hk]at this;cases this]
  obtain⟨c',hc'⟩:=jt (vF (env:=X.env) (cs:=[]) (Og hk));have hc2:(rT X.env scope.names).lookup x=T9 c':=hc';rw[hc2];have:=inCl (Og hc2);rw[e]at this;exact this.symm
 ·show upd H s.heap.objs.size (.lst []) (s.heap.objs.size+1)=Ua;rw[ay (MK (Mn _))];exact hnC
 ·rcases cases_ e with q|⟨q,_⟩
  ·have:=clt q;rw[ay (Ll this)];exact I.lQ x c q
  rw[ay (MK (KY (Nat.lt_add_of_pos_right (by decide)) q))];exact I.hok.fresh (KR (LK _ 2) q)
 ·exact I.hok.laid keep (KD _) ⟨KW _,[],0,.nil,lst⟩
 show(cSt own fr σ).length=N.length
 unfold cSt
 rw[KC,LW,Kx,S.len]
end
noncomputable def PF(X:Cx)(ifs:List Expr)(t:TT):Prop:=
 ∀(pins:List (NL×Obj))(s:NM)(σ:St)(H:Hp)(Q:Bool->Hp->Prop),Inv X pins σ H s->t σ H Q->
  wpAny (N0 X.prog X.w) X.A (forIn ifs true λc r=>if r=true then do let ok<-isTrue c X.env (OE c X.env);pure (Qa ok)else pure (Qa r)) (TP X pins σ Q) X.xe s
noncomputable def Fo:TT:=λ_ H Q=>Q true H
theorem pN{X:Cx}:PF X [] Fo:=λ_ _ _ H _ I h=>wpAny_tests_nil ⟨H,I,h⟩
theorem ox{X:Cx}{c:Expr}{t:TT}(h:PT X c t):PF X [c] t:=λpins s σ H Q I hw=>wpAny_tests_one (h pins s σ H Q I hw)
theorem uL{prog:Program}{w:NW}{A:Oh}{R:TZ->NM->Prop}{s:NM}{elt target iter:Expr}{ifs:List Expr}{scope:Pz}{pos:Pos}{it acc:NK}{env:Env}(I:Nat->NM->Prop)
  (turn:∀n s,I n s->wpAny (N0 prog w) A (pyNext it) (λr s₁=>match r with
   |none=>R (.ok .next) s₁
   |some v=>wpAny (N0 prog w) A (P8 target it v) (λ_ s₁'=>wpAny (N0 prog w) A (assign target env v) (λ_ s₂=>
     wpAny (N0 prog w) A (forIn ifs true λc r=>if r=true then do let ok<-isTrue c env (OE c env);pure (Qa ok)else pure (Qa r)) (λok s₃=>
      if ok=true then wpAny (N0 prog w) A (OE elt env) (λx s₄=>
       wpAny (N0 prog w) A (call (.builtin "list.append") [acc,x]) (λ_ s₅=>∃m,m<n/\I m s₅) (λ_ _=>False) s₄) (λ_ _=>False) s₃
      else ∃m,m<n/\I m s₃) (λ_ _=>False) s₂) (λ_ _=>False) s₁') (λ_ _=>False) s₁) (λ_ _=>False) s)
  (n:Nat) (h:I n s) :
  codeAny (N0 prog w) A (.compLoop (.ListComp elt [⟨target,iter,ifs,0⟩] scope pos) 0 it acc env) R s:=by
 refine codeAny_loop rfl I (λn s hI=>?_) n h
 show wpAny _ A ((compTurn (.ListComp elt [⟨target,iter,ifs,0⟩] scope pos) 0 it acc env).onRaise (λx=>do noteFrame x env;theTreesLotGoes x)) _ _ s
 refine wpAny_noted ?_
 rw[compTurn_list]
 have no:∀{α:Type}{t:Sem α}{Q:α->NM->Prop}{E':NK->NM->Prop}{s':NM},wpAny (N0 prog w) A t Q (λ_ _=>False) s'->wpAny (N0 prog w) A t Q E' s':=λh=>OU h (λ_ _ q=>q) λ_ _ z=>z.elim
 refine NN (RF (NN (no (OU (turn n s hI) (λr s₁ h₁=>?_) λ_ _ h'=>h'))))
 cases r with
 |none=>exact NU h₁
 |some v=>
  refine NN (no (OU h₁ (λ_ s₁' h₁'=>?_) λ_ _ h'=>h'))
  refine NN (no (OU h₁' (λ_ s₂ h₂=>NN (no (OU h₂ (λok s₃ h₃=>?_) λ_ _ h'=>h'))) λ_ _ h'=>h'))
  cases ok with
  |false=>exact NU ⟨rfl,h₃⟩
  |true=>
   exact NN (NN (no (OU h₃ (λx s₄ h₄=>NN (no (OU h₄ (λ_ s₅ h₅=>NU (NU ⟨rfl,h₅⟩)) λ_ _ h'=>h'))) λ_ _ h'=>h')))
structure nU(J:It)(own:Nat)(fr:List Nat)(g:CB->TG)(tf:CB->TT)(te:CB->TE)(Q:VK)(σ:St)(H1:Hp):Prop where
 go:∀(b:CB)(D:NL),H1 D=Ua->∃W:Nat->Nat->St->Hp->Prop,(∃m,W 0 m (cSt own fr σ) (upd H1 D (.lst [])))/\∀i m σ' H',W i m σ' H'->
  (J.stop i H'/\Q (.ref D) H')\/(J.go i H'/\∃M:St->Hp->Prop,(∀σ2 H2,M σ2 H2->∃m',m'<m/\W (i+1) m' σ2 H2)/\∀x H2,J.yld i H' x H2->g b x σ' H2 λσ3 H3=>tf b σ3 H3 λk H4=>
   if k=true then te b σ3 H4 λy H5=>∃ys,H5 D=T9 (.lst ys)/\ys.length<sizeLine/\M σ3 (upd H5 D (.lst (ys++[y])))else M σ3 H4)
noncomputable def Dv(wi:TI)(own:Nat)(fr:List Nat)(g:CB->TG)(tf:CB->TT)(te:CB->TE):TE:=λσ H Q=>wi σ H λJ H1=>nU J own fr g tf te Q σ H1
section
variable{X:Cx}{tg iter elt:Expr}{ifs:List Expr}{scope:Pz}{pos:Pos}{N:List Str}{own:Nat}{fr:List Nat}{wi:TI}{g:CB->TG}{tf:CB->TT}{te:CB->TE}
theorem wy{use:Option (NK->Sem Unit)}{R:NK->NM->Prop}{pins:List (NL×Obj)}{s:NM}{σ:St}{H:Hp}{Q:VK}(S:cJ X.env.scope X.N N own fr scope)(hc:X.calm=true)(hi:PI X tg iter wi)
  (hg:∀b,PG (cxC X N scope b) tg (g b)) (hf:∀b,PF (cxC X N scope b) ifs (tf b)) (he:∀b,PE (cxC X N scope b) elt (te b)) (hs:∀x,foldedSetIterable iter X.env x=pure x) (I:Inv X pins σ H s) (h:Dv wi own fr g tf te σ H Q)
  (fin:∀(D C:NL)(oC:Obj)(m:Str->Option NK)(H':Hp)(s':NM),Inv X (pins++[(C,oC)]) σ H' s'->X.s₀.heap.objs.size<=C->(∀p∈X.pn++pins,p.1≠C)->(∀h':Oi,h'.get? C=T9 oC->h'.Ns C m)->Q (.ref D) H'->TH (N0 X.prog X.w) X.A X.xe use R (.ref D) C (.ok .next) s') :
  wpAny (N0 X.prog X.w) X.A (comprehension (.ListComp elt [⟨tg,iter,ifs,0⟩] scope pos) scope X.env (firstIterPos [⟨tg,iter,ifs,0⟩] pos) (newList []) false (OE iter X.env) use) R X.xe s:=by
 refine wpAny_comprehension_free rfl hs (qo (S.cells I.ok)) S.kind (λx hx hk=>?_) (thn (hi pins s σ H _ I h) λv s1 h1=>thn h1 λitv s2 h2=>?_)
 ·have:=g7 S.nd (show(x.1,x.2)∈scope.names from hx);rw[this,hk]
 obtain⟨it,fp,tn,J,H2,e,I2,T,st2,f2,q⟩:=h2
 subst e
 refine Pe ?_
 refine xB ?_
 have eD:(s2.heap.push { cls:=.type "list",data:=.seq #[] }).objs.size=s2.heap.objs.size+1:=OV ..
 have hD:H2 s2.heap.objs.size=Ua:=I2.hok.fresh (KD _)
 have hlt:∀b∈fp,b<s2.heap.objs.size:=λb hb=>by
  obtain⟨o,ho,_⟩:=T.obj 0 _ st2 b hb;exact NY ho
 obtain⟨W,⟨m0,w0⟩,turn⟩:=q.go ⟨s2.heap.objs.size+1,fp,s2,H2⟩ s2.heap.objs.size hD
 have IX:=BS (fp:=fp) S I2 rfl rfl rfl f2 hlt
 have st4:tn 0 (P1 ((s2.heap.push { cls:=.type "list",data:=.seq #[] }).push { cls:=.type "dict",data:=.dict #[] }) scope.names):=
  T.keep 0 _ _ st2 λb _ o e=>Pu _ _ _ _ (NQ _ (NQ _ e))
 have fr0:∀b∈fp,upd H2 s2.heap.objs.size (.lst []) b=Ua:=λb hb=>by
  rw[ay (Ll (hlt b hb))];exact(f2 b hb).1
 have cne:∀b∈fp,∀x c,(cxC X N scope ⟨s2.heap.objs.size+1,fp,s2,H2⟩).env.cells.lookup x=T9 c->c≠b:=λb hb=>((IX.ok.exf b hb).2)
 have stat:∀{H':Hp},(∀b∈fp,H' b=Ua)->∀b∈fp,sL (cxC X N scope ⟨s2.heap.objs.size+1,fp,s2,H2⟩) [] H' b:=λhn b hb=>
  ⟨hn b hb,(IX.ok.exf b hb).1,IX.ok.Cg b hb,.inl hb,cne b hb,λp hp=>absurd (show p∈([]:List (NL×Obj))from hp) (by simp)⟩
 have e4:∀cenv:Env,cenv=newEnv scope (s2.heap.push { cls:=.type "list",data:=.seq #[] }).objs.size X.env.globals (OA ((s2.heap.push { cls:=.type "list",data:=.seq #[] }).objs.size+1) scope.names (rT X.env scope.names)) X.env.qual Ua .none (T9 X.env) QN->
   ({ cenv with scope:=relabel scope X.env }:Env)=(cxC X N scope ⟨s2.heap.objs.size+1,fp,s2,H2⟩).env/\cenv.locals=s2.heap.objs.size+1:=λcenv e=>by
  subst e
  rw[eD]
  exact⟨rfl,rfl⟩
 obtain⟨e5,e6⟩:=e4 _ rfl
 have loop:codeAny (N0 X.prog X.w) X.A (.compLoop (.ListComp elt [⟨tg,iter,ifs,0⟩] scope pos) 0 (.ref it) (.ref s2.heap.objs.size) (cxC X N scope ⟨s2.heap.objs.size+1,fp,s2,H2⟩).env)
   (TH (N0 X.prog X.w) X.A X.xe use R (.ref s2.heap.objs.size) (s2.heap.objs.size+1)) { s2 with heap:=P1 ((s2.heap.push { cls:=.type "list",data:=.seq #[] }).push { cls:=.type "dict",data:=.dict #[] }) scope.names }:=by
  refine uL (λn s'=>∃i σ' H',Inv (cxC X N scope ⟨s2.heap.objs.size+1,fp,s2,H2⟩) [] σ' H' s'/\tn i s'.heap/\(∀b∈fp,H' b=Ua)/\W i n σ' H') ?_ m0 ⟨0,_,_,IX,st4,fr0,w0⟩
  rintro n s5 ⟨i,σ5,H5,I5,st5,fr5,w5⟩
  rcases turn i n σ5 H5 w5 with⟨stop,qn⟩|⟨go,M,hM,step⟩
  ·refine thn (T.done (cxC X N scope ⟨s2.heap.objs.size+1,fp,s2,H2⟩) rfl rfl rfl hc i [] s5 σ5 H5 (λ_ _=>False) I5 (stat fr5) st5 stop) λr s6 ⟨hr,I6⟩=>?_;subst hr;obtain⟨m,hn,_⟩:=I6.loc;obtain⟨oC,es,ep,hoC,hd,hk,hm⟩:=id hn;have IB:Inv X pins σ H5 s6:=I2.Jk (ch:=fp) I6.os I6.base I6.hok I6.bare λb hb=>⟨(f2 b hb).2.2.2.1,(f2 b hb).2.1,(f2 b hb).2.2.2.2.1,(f2 b hb).2.2.2.2.2⟩;have young:s2.heap.objs.size<=s2.heap.objs.size+1:=Nc _;refine fin s2.heap.objs.size (s2.heap.objs.size+1) oC m H5 s6 (IB.vK λp hp=>?_) (KR I2.sz young) (λp hp=>Ll (KY (NY (I2.pin p hp).1) young)) (λh' e=>⟨oC,es,ep,e,hd,hk,hm⟩) qn;rcases Kz.mp hp with z|z
   ·exact IB.pin p (KQ _ z)
   have ep':p=(s2.heap.objs.size+1,oC):=by simpa using z
   subst ep';exact⟨hoC,I6.free,MK (KY I2.lt young),I2.IU young,λv z=>by rw[hd]at z;cases z⟩
  refine thn (T.item (cxC X N scope ⟨s2.heap.objs.size+1,fp,s2,H2⟩) rfl rfl rfl hc i [] s5 σ5 H5 (λ_ _=>False) I5 (stat fr5) st5 go) λr s6 ⟨u,hr,h6⟩=>?_
  subst hr
  refine thn h6 λ_ s7 ⟨x,H7,I7,r7,y7,st7,fr7⟩=>?_
  have I7':=I7.pinned (stat fr7) (T.obj _ _ st7)
  refine thn (hg _ _ s7 σ5 H7 x u _ I7' r7 (step x H7 y7)) λ_ s8 ⟨σ8,H8,I8,q8⟩=>?_
  refine thn (hf _ _ s8 σ8 H8 _ I8 q8) λk s9 ⟨H9,I9,q9⟩=>?_
  have again:∀{H10:Hp}{s10:NM},Inv (cxC X N scope ⟨s2.heap.objs.size+1,fp,s2,H2⟩) ([]++rG fp s7.heap) σ8 H10 s10->M σ8 H10->
    ∃m,m<n/\∃i σ' H',Inv (cxC X N scope ⟨s2.heap.objs.size+1,fp,s2,H2⟩) [] σ' H' s10/\tn i s10.heap/\(∀b∈fp,H' b=Ua)/\W i m σ' H':=λ{H10 s10} I10 q10=>by
   obtain⟨m',hm,w10⟩:=hM σ8 H10 q10
   refine⟨m',hm,i+1,σ8,H10,I10.my,T.keep _ _ _ st7 λb hb o e=>(I10.pin (b,o) (KQ _ (KQ _ (kL hb e)))).1,λb hb=>?_,w10⟩
   obtain⟨o,e,d⟩:=T.obj _ _ st7 b hb
   exact(I10.pin (b,o) (KQ _ (KQ _ (kL hb e)))).2.1
  cases k with
  |false=>exact again I9 q9
  |true=>
   refine thn (he _ _ s9 σ8 H9 _ I9 q9) λw10 s10 ⟨y,H10,I10,r10,ys,hys,hz,q10⟩=>?_
   refine thn (uJ _ s10 σ8 H10 (.ref s2.heap.objs.size) [y] (.ref s2.heap.objs.size) [w10] (λ_ H'=>M σ8 H') I10 rfl (.cons r10 .nil) ⟨_,ys,y,rfl,rfl,hys,hz,q10⟩) λ_ s11 ⟨_,H11,I11,_,q11⟩=>?_
   exact again I11 q11
 have go:codeAny (N0 X.prog X.w) X.A (.compStart (.ListComp elt [⟨tg,iter,ifs,0⟩] scope pos) 0 (.ref it) (.ref s2.heap.objs.size) (cxC X N scope ⟨s2.heap.objs.size+1,fp,s2,H2⟩).env)
   (TH (N0 X.prog X.w) X.A X.xe use R (.ref s2.heap.objs.size) (s2.heap.objs.size+1)) { s2 with heap:=P1 ((s2.heap.push { cls:=.type "list",data:=.seq #[] }).push { cls:=.type "dict",data:=.dict #[] }) scope.names }:=
  codeAny_compStart_list loop (T.self _ 0 _ _ _ st4 loop)
 have fin2:∀(env':Env)(L:NL),env'=(cxC X N scope ⟨s2.heap.objs.size+1,fp,s2,H2⟩).env->L=s2.heap.objs.size+1->
   codeAny (N0 X.prog X.w) X.A (.compStart (.ListComp elt [⟨tg,iter,ifs,0⟩] scope pos) 0 (.ref it) (.ref s2.heap.objs.size) env') (TH (N0 X.prog X.w) X.A X.xe use R (.ref s2.heap.objs.size) L)
    { s2 with heap:=P1 ((s2.heap.push { cls:=.type "list",data:=.seq #[] }).push { cls:=.type "dict",data:=.dict #[] }) scope.names }:=by
  intro env' L h1 h2
  subst h1 h2
  exact go
 exact fin2 _ _ e5 e6
theorem tK{pins:List (NL×Obj)}{C:NL}{oC:Obj}{σ':St}{H':Hp}{s':NM}{h':Oi}(I:Inv X (pins++[(C,oC)]) σ' H' s')(hy:X.s₀.heap.objs.size<=C)(hp:∀p∈X.pn++pins,p.1≠C)(sb:Qf C s'.heap h') :
  Inv X pins σ' H' { s' with heap:=h' }:=by
 have pC:=I.pin (C,oC) (KQ _ (KQ _ (by simp)))
 have I2:Inv X pins σ' H' s':=I.my
 refine I2.turned (it:=C) (t':=s'.toks) (λb o hb e=>(sb.2 b hb).trans e) pC.2.1 pC.2.2.1 (.inr hy) (λx c e z=>?_) hp
 obtain⟨v,o,ho,hd⟩:=I2.cell x c e
 rw[z,pC.1]at ho
 cases ho
 exact pC.2.2.2.2 v hd
theorem jo(S:cJ X.env.scope X.N N own fr scope)(hc:X.calm=true)(hi:PI X tg iter wi)(hg:∀b,PG (cxC X N scope b) tg (g b))(hf:∀b,PF (cxC X N scope b) ifs (tf b))(he:∀b,PE (cxC X N scope b) elt (te b))
  (hs:∀x,foldedSetIterable iter X.env x=pure x:=by intro _;rfl):PE X (.ListComp elt [⟨tg,iter,ifs,0⟩] scope pos) (Dv wi own fr g tf te):=by
 intro pins s σ H Q I h
 rw[eval_ListComp]
 refine wy (use:=Ua) S hc hi hg hf he hs I h λD C oC m H' s' I' hy hp hm q=>?_
 have pC:=I'.pin (C,oC) (KQ _ (KQ _ (by simp)))
 exact⟨m,hm _ pC.1,λh' sb=>⟨.ref D,H',tK I' hy hp sb,rfl,q⟩⟩
theorem iw{j:Nat}{y:Str}{py spos:Pos}(S:cJ X.env.scope X.N N own fr scope)(hc:X.calm=true)(hN:X.N.Nodup)(hj:X.N[j]?=T9 y)(hy:Loc X.env.scope y)(hi:PI X tg iter wi)(hg:∀b,PG (cxC X N scope b) tg (g b))(hf:∀b,PF (cxC X N scope b) ifs (tf b))
  (he:∀b,PE (cxC X N scope b) elt (te b)) (hfn:X.fn y=true\/X.env.scope.names.lookup y=T9 .local:=by first|exact .inl rfl|exact .inr rfl|assumption) (hs:∀x,foldedSetIterable iter X.env x=pure x:=by intro _;rfl)
  (hsw:Rr (.ListComp elt [⟨tg,iter,ifs,0⟩] scope pos) (T9 (.Name y py)) spos.line X.env=pure true:=by rfl) :
  PS X (.Assign [.Name y py] (.ListComp elt [⟨tg,iter,ifs,0⟩] scope pos) spos) (CA (Dv wi own fr g tf te) (kf j)):=by
 intro pins s σ H D I h
 rw[exec_Assign_Name_used _ _ _ _ hsw]
 refine NN (RF (NN ?_))
 show wpAny _ _ (do let _<-comprehension (.ListComp elt [⟨tg,iter,ifs,0⟩] scope pos) scope X.env _ (newList []) false (OE iter X.env) (T9 (assign (.Name y py) X.env))) _ _ s
 refine NN (thn (wy (use:=T9 (assign (.Name y py) X.env)) (R:=λ_ s'=>SP X pins D .next s') S hc hi hg hf he hs I h λD' C oC m H' s' I' hy' hp hm q=>?_) λ_ s' q=>NU (NU q))
 show wpAny _ _ (assign (.Name y py) X.env (.ref D')) _ _ s'
 refine thn (zt hN hj hy hfn _ s' σ H' (.ref D') (.ref D') _ I' rfl q) λ_ s'' ⟨σ2,H2,I2,q2⟩=>?_
 have pC:=I2.pin (C,oC) (KQ _ (KQ _ (by simp)))
 exact⟨m,hm _ pC.1,λh' sb=>⟨σ2,H2,tK I2 hy' hp sb,q2⟩⟩
end
theorem PE.imp{X:Cx}{e:Expr}{t t':TE}(h:PE X e t)(k:∀σ H Q,t' σ H Q->t σ H Q):PE X e t':=λpins s σ H Q I q=>h pins s σ H Q I (k σ H Q q)
theorem OpR.imp{X:Cx}{f:NK->NK->Sem NK}{r r':R2}(h:OpR X f r)(k:∀x y H Q,r' x y H Q->r x y H Q):OpR X f r':=λpins s σ H x y v u Q I rx ry q=>h pins s σ H x y v u Q I rx ry (k x y H Q q)
noncomputable def xG(i:Nat):TE:=λσ H Q=>match σ[i]? with
 |some (T9 v)=>Q v H
 |_=>False
section
variable{X:Cx}
theorem fv(i:Nat){x:Str}{pos:Pos}(hN:X.N[i]?=T9 x:=by rfl)(hv:Vis X.env.scope x:=by first|exact KG rfl|exact Lg (KG rfl)|exact Lg (Lg rfl))(hd:(x==("__debug__":Str))=false:=by decide)
  (hcd:(x==("__classdict__":Str))=false:=by decide):PE X (.Name x pos) (xG i):=(Gr hN hv hd hcd).imp λσ H Q q=>by
 unfold xG at q
 cases e:σ[i]? with
 |none=>rw[e]at q;exact q.elim
 |some o=>
  cases o with
  |none=>rw[e]at q;exact q.elim
  |some v=>rw[e]at q;exact⟨v,e,q⟩
noncomputable def Ki:R2:=λx y H Q=>match x,y with
 | .int i,.int j=>Q (.int (i+j)) H
 | .str a,.str b=>a.length+b.length<=sizeLine/\Q (.str (a++b)) H
 | .ref p,.ref q=>Jm (.ref p) (.ref q) H Q
 |_,_=>False
theorem bC:OpR X (OG .Add) Ki:=by
 intro pins s σ H x y v u Q I rx ry h;cases x with
 |int i=>
  cases y with
  |int j=>exact Gh pins s σ H _ _ v u Q I rx ry ⟨i,j,rfl,rfl,h⟩
  |_=>exact(show False from h).elim
 |str a=>
  cases y with
  |str b=>exact ye pins s σ H _ _ v u Q I rx ry ⟨a,b,rfl,rfl,h.1,h.2⟩
  |_=>exact(show False from h).elim
 |ref p=>
  cases y with
  |ref q=>exact Gx pins s σ H _ _ v u Q I rx ry h
  |_=>exact(show False from h).elim
 |_=>cases y<;>exact(show False from h).elim
noncomputable def qu(C:Int->Int->Prop)(g:Int->Int->V):R2:=λx y H Q=>match x,y with
 | .int i,.int j=>C i j/\Q (g i j) H
 |_,_=>False
noncomputable def lB(g:Int->Int->V):R2:=λx y H Q=>match x,y with
 | .int i,.int j=>Q (g i j) H
 |_,_=>False
theorem OpR.qu{f:NK->NK->Sem NK}{C:Int->Int->Prop}{g:Int->Int->V}(h:OpR X f (rI C g)):OpR X f (qu C g):=h.imp λx y H Q q=>by
 cases x with
 |int i=>
  cases y with
  |int j=>exact⟨i,j,rfl,rfl,q.1,q.2⟩
  |_=>exact(show False from q).elim
 |_=>cases y<;>exact(show False from q).elim
theorem OpR.lB{f:NK->NK->Sem NK}{g:Int->Int->V}(h:OpR X f (rI0 g)):OpR X f (lB g):=h.imp λx y H Q q=>by
 cases x with
 |int i=>
  cases y with
  |int j=>exact⟨i,j,rfl,rfl,q⟩
  |_=>exact(show False from q).elim
 |_=>cases y<;>exact(show False from q).elim
theorem oT:OpR X (OG .Sub) (lB λi j=>.int (i-j)):=Gp.lB
theorem Iq:OpR X (OG .Mult) (qu CI λi j=>.int (i*j)):=G7.qu
noncomputable def E4(_ j:Int):Prop:=0<j/\j<2^64
theorem Ep{j:Int}(h:E4 0 j):j.natAbs.log2<9000:=by
 have h1:j.natAbs<2^64:=by
  have h2:j<2^64:=h.2;have h3:0<j:=h.1;omega
 have h0:j.natAbs≠0:=by have h3:0<j:=h.1;omega
 have:=(Nat.log2_lt h0).mpr h1;omega
theorem cE:OpR X (OG .FloorDiv) (qu E4 λi j=>.int (i/j)):=(opI λi j _ _ _ _ _ hc q=>by
 have h1:(0:Int)<j:=hc.1;exact floordiv_int (by omega) (by rw[Qo i (by omega)];exact q) (.inl (PyProof.noPylong_of_log2 (Ep hc)))).qu
theorem bF:OpR X (OG .Mod) (qu (λ_ j=>0<j) λi j=>.int (i%j)):=F9.qu
theorem oW:OpR X (OG .Pow) (qu Jr λi j=>.int (i^j.toNat)):=G4.qu
theorem vI:OpR X (Oe .Lt) (lB λi j=>.bl (decide (i<j))):=IQ.lB
theorem vY:OpR X (Oe .LtE) (lB λi j=>.bl (decide (i<=j))):=IM.lB
theorem qq:OpR X (Oe .Gt) (lB λi j=>.bl (decide (j<i))):=Ij.lB
theorem JI:OpR X (Oe .GtE) (lB λi j=>.bl (decide (j<=i))):=Ir.lB
mutual
inductive hE(K:NO)(H:Hp):V->Qb->Prop where
 |non:hE K H .non .none
 |bl (b:Bool):hE K H (.bl b) (.bool b)
 |int (i:Int):hE K H (.int i) (.int i)
 |str (x:Str):hE K H (.str x) (.str x)
 |lst {a:NL}{xs:List V}{ds:List Qb} (h:SqL K H a xs) (r:gC K H xs ds):hE K H (.ref a) (.list ds)
 |tup {a:NL}{xs:List V}{ds:List Qb} (h:SqT K H a xs) (r:gC K H xs ds):hE K H (.ref a) (.tuple ds)
inductive gC(K:NO)(H:Hp):List V->List Qb->Prop where
 |nil:gC K H [] []
 |cons {x:V}{xs:List V}{d:Qb}{ds:List Qb} (h:hE K H x d) (r:gC K H xs ds):gC K H (x::xs) (d::ds)
end
mutual
theorem Inv.reads{pins:List (NL×Obj)}{σ:St}{H:Hp}{s:NM}(I:Inv X pins σ H s):∀{x:V}{d:Qb}{u:NK},hE X.K H x d->Ui x u->∃as,Reads s.heap u d as
 |_,_,_,.non,r=>by cases r;exact⟨_,.none⟩
 |_,_,_,.bl b,r=>by cases r;exact⟨_,.bool b⟩
 |_,_,_,.int i,r=>by obtain⟨t,rfl⟩:=r;exact⟨_,.int i t⟩
 |_,_,_,.str x,r=>by obtain⟨t,rfl⟩:=r;exact⟨_,.str x t⟩
 |_,_,_,.lst h q,r=>by
  cases r;obtain⟨its,rv,⟨o,n,e,hc,_,hd⟩,_⟩:=I.list h;obtain⟨as,z⟩:=I.readsAll q rv;exact⟨_,.list e hc hd (by simpa using z)⟩
 |_,_,_,.tup h q,r=>by
  cases r;obtain⟨its,rv,⟨o,e,hc,n,hd⟩,_⟩:=I.tuple h;obtain⟨as,z⟩:=I.readsAll q rv;exact⟨_,.tuple e hc hd (by simpa using z)⟩
theorem Inv.readsAll{pins:List (NL×Obj)}{σ:St}{H:Hp}{s:NM}(I:Inv X pins σ H s):∀{xs:List V}{ds:List Qb}{us:List NK},gC X.K H xs ds->Ug xs us->∃as,ReadsAll s.heap us ds as
 |_,_,_,.nil,r=>by cases r;exact⟨_,.nil⟩
 |_,_,_,.cons h q,r=>by
  cases r with
  |cons r1 r2=>
   obtain⟨as,z⟩:=I.reads h r1;obtain⟨bs,z2⟩:=I.readsAll q r2;exact⟨_,.cons z z2⟩
end
noncomputable def fEq(K:NO):R2:=λx y H Q=>match x,y with
 | .ref p,.ref q=>∃d e,hE K H (.ref p) d/\hE K H (.ref q) e/\Ol d=true/\Ol e=true/\Q (.bl (P2 d e)) H
 |x,y=>AH x y=true/\Q (.bl (decide (x=y))) H
noncomputable def fNe(K:NO):R2:=λx y H Q=>match x,y with
 | .ref p,.ref q=>∃d e,hE K H (.ref p) d/\hE K H (.ref q) e/\Ol d=true/\Ol e=true/\Q (.bl (!PyData.eqv d e)) H
 |x,y=>AH x y=true/\Q (.bl (!decide (x=y))) H
theorem JY(hu:X.A.units+64<OO):OpR X (Oe .Eq) (fEq X.K):=by
 intro pins s σ H x y v u Q I rx ry h;by_cases hr:∃p q,x=V.ref p/\y=V.ref q
 ·obtain⟨p,q,rfl,rfl⟩:=hr;obtain⟨d,e,hd,he,sd,se,hq⟩:=h;obtain⟨as,z1⟩:=I.reads hd rx;obtain⟨bs,z2⟩:=I.reads he ry;exact eq_dataH z1 z2 sd se hu ⟨.bl _,H,I,rfl,hq⟩
 refine Jo pins s σ H x y v u Q I rx ry ?_;cases x<;>cases y<;>first|exact h|exact absurd ⟨_,_,rfl,rfl⟩ hr
theorem uX(hu:X.A.units+64<OO):OpR X (Oe .NotEq) (fNe X.K):=by
 intro pins s σ H x y v u Q I rx ry h;by_cases hr:∃p q,x=V.ref p/\y=V.ref q
 ·obtain⟨p,q,rfl,rfl⟩:=hr;obtain⟨d,e,hd,he,sd,se,hq⟩:=h;obtain⟨as,z1⟩:=I.reads hd rx;obtain⟨bs,z2⟩:=I.reads he ry;exact ne_dataH z1 z2 sd se hu ⟨.bl _,H,I,rfl,hq⟩
 refine Ih pins s σ H x y v u Q I rx ry ?_;cases x<;>cases y<;>first|exact h|exact absurd ⟨_,_,rfl,rfl⟩ hr
noncomputable def fIn(K:NO)(neg:Bool):R2:=λx y H Q=>match y with
 | .str j=>∃i,x=.str i/\Q (.bl (if neg then !(!(ON j i 0 j.length 1).isEmpty)else !(ON j i 0 j.length 1).isEmpty)) H
 | .ref p=>∃xs,(SqL K H p xs\/SqT K H p xs)/\nN x=true/\xs.all nN=true/\Q (.bl (if neg then !inV x xs else inV x xs)) H
 |_=>False
theorem JK:OpR X (Oe .In) (fIn X.K false):=by
 intro pins s σ H x y v u Q I rx ry h;cases y with
 |str j=>
  obtain⟨i,rfl,q⟩:=h;exact Aq pins s σ H _ _ v u Q I rx ry ⟨i,j,rfl,rfl,q⟩
 |ref p=>
  obtain⟨xs,h1,h2,h3,q⟩:=h;exact AB pins s σ H _ _ v u Q I rx ry ⟨p,xs,rfl,h1,h2,h3,q⟩
 |_=>exact(show False from h).elim
theorem Jw:OpR X (Oe .Is) (λx y H Q=>y=.non/\Q (.bl (decide (x=.non))) H):=HM
theorem ED:OpR X (Oe .IsNot) (λx y H Q=>y=.non/\Q (.bl (!decide (x=.non))) H):=EX
inductive ixS(K:NO)(p:NL)(i:Int)(H:Hp)(Q:VK):Prop
 |mk(xs:List V)(v:V)(h0:SqL K H p xs\/SqT K H p xs)(h1:atI xs i=T9 v)(q:Q v H):ixS K p i H Q
noncomputable def fIx(K:NO):R2:=λx y H Q=>match x,y with
 | .ref p,.int i=>ixS K p i H Q
 | .str z,.int i=>∃c,z.length<=sizeLine/\atI z.cps.toList i=T9 c/\Q (.str ⟨#[c]⟩) H
 |_,_=>False
theorem BP:IxR X (fIx X.K):=by
 intro value slice pins s σ H x y v u Q I rx ry h hs;cases x with
 |ref p=>
  cases y with
  |int i=>
   obtain⟨xs,w,h1|h1,h2,q⟩:=h
   ·exact Ek value slice pins s σ H _ _ v u Q I rx ry ⟨p,xs,i,w,rfl,rfl,h1,h2,q⟩ hs
   exact Ho value slice pins s σ H _ _ v u Q I rx ry ⟨p,xs,i,w,rfl,rfl,h1,h2,q⟩ hs
  |_=>exact(show False from h).elim
 |str z=>
  cases y with
  |int i=>
   obtain⟨c,h1,h2,q⟩:=h;exact F1 value slice pins s σ H _ _ v u Q I rx ry ⟨z,i,c,rfl,rfl,h1,h2,q⟩ hs
  |_=>exact(show False from h).elim
 |_=>cases y<;>exact(show False from h).elim
noncomputable def Km:V->Option Int->Option Int->Hp->VK->Prop:=λx lo hi H Q=>∃z,x=.str z/\z.length<=sizeLine/\Q (.str (Txt.slice z lo hi)) H
noncomputable def Its(x:Str):It:=⟨λi _=>i<x.cps.size,λi H v H'=>H'=H/\∃c,x.cps[i]?=T9 c/\v=.str ⟨#[c]⟩,λi _=>x.cps.size<=i⟩
theorem CM{P:Program}{w:NW}{K:Qe}{tg:Expr}{T:String}(hT:T="str_ascii_iterator"\/T="str_iterator")(it:NL)(x:Str)(t:Tok):UA P w K tg (Its x) [it] it (λi h=>i<=x.cps.size/\h.IsStrIter it T x t i) where
 mem:=by simp
 obj:=λi h st b hb=>by
  have e:b=it:=by simpa using hb
  subst e;obtain⟨_,o,e,c,d⟩:=st;exact⟨o,e,λv z=>by rw[d]at z;cases z⟩
 keep:=λi h h' st k=>by
  obtain⟨hi,o,e,r⟩:=st;exact⟨hi,o,k it (by simp) o e,r⟩
 item:=by
  intro X hP hw hK hc i pins s σ H E I hf st hg;subst hP hw hK;obtain⟨f0,f1,f2,f3,f4,f5⟩:=hf it (by simp);have W:Walks X.prog X.w X.A it [it] [it] x.cps.size (SignAt x) (λi h=>h.IsStrIter it T x t i):=by
   rcases hT with rfl|rfl
   ·exact TJ (I.ok.hd hc) it x t
   exact Walks.strWide (I.ok.hd hc) it x t
  refine W.item i s _ _ hg st.2 λv h' tk hv st' kk=>?_;obtain⟨c,u,hcp,rfl⟩:=hv;have I1:Inv X pins σ H { s with heap:=h',toks:=tk }:=I.turned (λb o hb e=>kk b o (by simpa using hb) e) f0 f1 f3 f4 f5;obtain⟨o,e,c',d⟩:=id st';refine⟨_,rfl,zL (s:={ s with heap:=h',toks:=tk }) e c' d (by rcases hT with rfl|rfl<;>decide) ⟨.str ⟨#[c]⟩,H,I1,⟨u,rfl⟩,⟨rfl,c,hcp,rfl⟩,⟨hg,st'⟩,λb hb=>(hf b hb).1⟩⟩
 done:=by
  intro X hP hw hK hc i pins s σ H E I hf st hg;subst hP hw hK;obtain⟨f0,f1,f2,f3,f4,f5⟩:=hf it (by simp);have W:Walks X.prog X.w X.A it [it] [it] x.cps.size (SignAt x) (λi h=>h.IsStrIter it T x t i):=by
   rcases hT with rfl|rfl
   ·exact TJ (I.ok.hd hc) it x t
   exact Walks.strWide (I.ok.hd hc) it x t
  have e:i=x.cps.size:=Nat.le_antisymm st.1 hg;subst e;exact W.done s _ _ st.2 λh' tk kk=>⟨rfl,I.turned (λb o hb e=>kk b o (by simpa using hb) e) f0 f1 f3 f4 f5⟩
 self:=λA i s Q E st h=>by
  rcases hT with rfl|rfl
  ·exact wpAny_pyIter_striter_ascii st.2 h
  exact wpAny_pyIter_striter_wide st.2 h
noncomputable def JS(K:NO)(tl:TE):TI:=λσ H R=>tl σ H λx H1=>match x with
 | .ref a=>((∃xs,SqL K H1 a xs)/\R (Itl K a) H1)\/((∃xs,SqT K H1 a xs)/\R (Itt K a) H1)
 | .str z=>R (Its z) H1
 |_=>False
theorem cA{tg l:Expr}{tl:TE}(hl:PE X l tl):PI X tg l (JS X.K tl):=by
 intro pins s σ H R I h;refine thn (hl pins s σ H _ I h) λv s1 ⟨x,H1,I1,r1,q1⟩=>?_;cases x with
 |ref a=>
  cases r1;rcases q1 with⟨⟨xs,hq⟩,q⟩|⟨⟨xs,hq⟩,q⟩
  ·obtain⟨its,rv,p,hz⟩:=I1.list hq;refine Qx p.isList ?_;refine⟨s1.heap.objs.size,[s1.heap.objs.size],_,_,H1,rfl,I1.kept (t':=s1.toks) λb o e=>NQ _ e,Ay a _,⟨_,Ob _ rfl,rfl,rfl⟩,λb hb=>?_,q⟩;have e:b=s1.heap.objs.size:=by simpa using hb
   subst e;exact I1.yJ (KD _) (I1.hok.fresh (KD _))
  obtain⟨its,rv,p,hz⟩:=I1.tuple hq;refine RU (show s1.heap.IsTuple a its.toArray from p) ?_;refine⟨s1.heap.objs.size,[s1.heap.objs.size],_,_,H1,rfl,I1.kept (t':=s1.toks) λb o e=>NQ _ e,yK a _,⟨_,Ob _ rfl,rfl,rfl⟩,λb hb=>?_,q⟩;have e:b=s1.heap.objs.size:=by simpa using hb
  subst e;exact I1.yJ (KD _) (I1.hok.fresh (KD _))
 |str z=>
  obtain⟨t,rfl⟩:=r1;refine wpAny_pyIter_strU ?_;refine⟨s1.heap.objs.size,[s1.heap.objs.size],_,_,H1,rfl,I1.kept (t':=s1.toks) λb o e=>NQ _ e,CM (T:=strIterType z) ?_ _ z t,⟨KW _,_,Ob _ rfl,rfl,rfl⟩,λb hb=>?_,q1⟩
  ·unfold strIterType;split
   ·exact .inl rfl
   exact .inr rfl
  have e:b=s1.heap.objs.size:=by simpa using hb
  subst e;exact I1.yJ (KD _) (I1.hok.fresh (KD _))
 |_=>exact(show False from q1).elim
theorem bN{a:Expr}{ta:TE}(ha:PE X a ta)(he:∀whole,isTrue a X.env whole=(do let v<-whole;Si a.pos;Pr [v] (truthy v))) :
  PT X a (λσ H Q=>ta σ H λx H'=>Bi X.K x H' Q):=Dc ha he
inductive DD(K:NO)(xs:List V)(H:Hp)(Q:VK):Prop
 |mk(x:V)(n:Nat)(h0:xs=[x])(h1:ID K x H n)(q:Q (.int n) H):DD K xs H Q
theorem Jc:dE X (.builtin "len") (DD X.K):=λpins s σ H xs us Q I r ⟨x,n,h0,h1,q⟩=>Cb pins s σ H xs us Q I r ⟨x,n,h0,h1,q⟩
theorem jL:dE X (.type "list") (λxs H Q=>∃p ys,xs=[.ref p]/\(SqL X.K H p ys\/SqT X.K H p ys)/\∀l,H l=Ua->Q (.ref l) (upd H l (.lst ys))):=vJ
theorem AD{bs:List Bool}{its:List NK}(r:Ug (bs.map V.bl) its){i:Nat}{v:NK}(h:its[i]?=T9 v):∃b,bs[i]?=T9 b/\v=.bool b:=by
 have hi:i<its.length:=(KA.mp h).1;have hl:=r.length;rw[Kx]at hl;have hb:bs[i]?=T9 bs[i]:=Kv (by omega);obtain⟨u,hu,ru⟩:=r.get (i:=i) (x:=V.bl bs[i]) (by rw[KO,hb];rfl);rw[h]at hu;cases hu;exact⟨_,hb,ru⟩
theorem Dh(hc:X.calm=true:=by rfl):dE X (.builtin "all") (λxs H Q=>∃(p:NL)(bs:List Bool),xs=[.ref p]/\SqL X.K H p (bs.map V.bl)/\Q (.bl (bs.all id)) H):=by
 intro pins s σ H xs us Q I r h;obtain⟨p,bs,rfl,hq,q⟩:=h;obtain⟨u,rfl,rx⟩:=Ut r;cases rx;obtain⟨its,rv,pl,hz⟩:=I.list hq;have hl:=pl.isList;have hlt:p<s.heap.objs.size:=by obtain⟨_,e,_⟩:=hl;exact NY e
 have hlen:its.toArray.size=bs.length:=by have:=rv.length;rw[Kx]at this;rw[KL];omega
 refine call_all_walk (Qx hl ?_);refine⟨s.heap.objs.size,[s.heap.objs.size,p],[s.heap.objs.size],its.toArray.size,_,_,λi=>(bs[i]?).getD true,rfl,Walks.list (A:=X.A.in1) (I.ok.hd hc) _ p (Ll hlt) its.toArray,
  ⟨⟨_,Ob _ rfl,rfl,rfl⟩,hl.push _⟩,λi v s' Q' E' hP hQ=>?_,λh' tk hk=>?_⟩
 ·obtain⟨b,e,rfl⟩:=AD rv (by simpa using hP);simp only[e,SS]at hQ;exact Oz hQ
 rw[hlen,LSm.range_all bs];exact⟨.bl _,H,I.kept (LSm.kept_iter hk),rfl,q⟩
noncomputable def El:V->NK
 | .ty n=>.type n
 | .ref a=>.ref a
 |_=>.none
theorem Dk{y:V}{u:NK}(r:Ui y u)(h:El y≠ .none):u=El y:=by
 cases y with
 |ty n=>exact r
 |ref a=>exact r
 |_=>exact absurd rfl h
inductive Fv(K:NO)(xs:List V)(H:Hp)(Q:VK):Prop
 |mk(x y:V)(t:NK)(b:Bool)(h0:xs=[x,y])(h1:El y≠ .none)(h2:lV K H x t)(h3:OH K t (El y)=T9 b)(q:Q (.bl b) H):Fv K xs H Q
theorem bw:dE X (.builtin "isinstance") (Fv X.K):=by
 intro pins s σ H xs us Q I r h;obtain⟨x,y,t,b,rfl,hy,ty,e,q⟩:=h;obtain⟨u,w',rfl,rx,ry⟩:=Uy r;rw[Dk ry hy];exact AL I rx ty e λtk=>⟨.bl b,H,I.tok _,rfl,q⟩
theorem cw{o e:Expr}{to:TE}{t:TA}{apos cpos:Pos}(ho:PE X o to)(ha:PA X [e] t)(hbase:OT o "append" X.env (OE o X.env)=OE o X.env:=by rfl)
  (hfew:((OK cpos (NX [e] X.env)).all (λx=>!x.1)&&(Qp cpos (Pj [] X.env)).all (λx=>x.1.isSome)
   &&decide ([e].length+([]:List P4).length+(if([]:List P4).isEmpty then 0 else 1)<30))=true:=by rfl)
  (hline:(apos.endLine==cpos.line)=true:=by rfl) (hs:NX [e] X.env=(false,OE e X.env)::NX [] X.env:=by rfl) (hplain:(OK cpos (NX [] X.env)).any (·.1)=false:=by rfl) :
  PE X (.Call (.Attribute o "append" apos) [e] [] cpos) (tBM X.K "list" vQ to t):=E5 QI PySem.F.slot_list_append PySem.F.type_list_append uJ ho ha hbase hfew hline hs hplain
end
noncomputable def Has(P:Program)(w:NW)(K:NO)(mg:Str->Option NK)(base:Oi)(k:Nat)(x:Str)(ps:List Str)(sp:Sp):Prop:=
 ∃f fd,k7 P w K mg base CX0 k f fd ps sp/\Ul K fd ps []/\Po K (.ref f)=true/\mg x=T9 (.ref f)/\∃oc od osl,K.lookup f=T9 ⟨oc,od,.func fd,osl⟩
structure bL(K:NO)(mg:Str->Option NK)(x:Str)(st:Oj)(ps:List Str):Prop where
 ex:∃f fd,Fun K x x st f fd/\Ul K fd ps []/\mg x=T9 (.ref f)
theorem ar{X:Cx}{j k:Nat}{x:Str}{ps:List Str}{sp:Sp}{e:Expr}{es:List Expr}{t:TA}{p pos:Pos}(D:Has X.prog X.w X.K X.mg X.base j x ps sp)(hr:eY k X.A)(ha:PA X (e::es) t)(hj:j<=k:=by decide)(hg:Gl X x:=by rfl)
  (hdb:(x==("__debug__":Str))=false:=by decide) (he:NX (e::es) X.env=(false,OE e X.env)::NX es X.env:=by rfl) (hpl:(OK pos (NX es X.env)).any (·.1)=false:=by rfl) :
  PE X (.Call (.Name x p) (e::es) [] pos) (Dn sp [] E0 t):=by
 obtain⟨f,fd,F,b,kp,m,_⟩:=D
 exact DA F (hr.mono hj) hg m kp b .nil wL ha hdb he hpl
noncomputable abbrev bL.Hz{K:NO}{mg:Str->Option NK}{x:Str}{st:Oj}{ps:List Str}(_:bL K mg x st ps)(P:Program)(w:NW)(base:Oi)(k:Nat)(sp:Sp):Prop:=L2.Has P w K mg base k x ps sp
theorem bL.hs{P:Program}{w:NW}{K:NO}{mg:Str->Option NK}{base:Oi}{x:Str}{st:Oj}{N ps:List Str}{k:Nat}{sp:Sp}(F:bL K mg x st ps)(S:az N ps (av st))
  (hbody:∀(f:NL)(cdv:NK)(A:Oh)(outer:List Env)(s:NM)(H:Hp)(vs:List V)(Q:VK)(E:XK),eY k (A.deeper (P9 x (av st) s.heap.objs.size f cdv))->(A.deeper (P9 x (av st) s.heap.objs.size f cdv)).units+64<OO->sp vs H Q E->
   ∃t,PSs (wJ CX0 P w K mg base N x (av st) f cdv A outer s H E).nox (dj st) t/\t { nx:=λ_ H'=>Q .non H',rt:=Q } (Ur N vs) H) (len:∀vs H Q E,sp vs H Q E->vs.length=ps.length:=by intro _ _ _ _ h;cases h;subst_vars;rfl):Has P w K mg base (k+1) x ps sp:=by
 obtain⟨f,fd,F,b,m⟩:=F.ex
 obtain⟨oc,od,kV,doc,pm,an,cdv,ct,osl,e,lk,hcd⟩:=F.ex
 exact⟨f,fd,F.ok S len λcdv A outer s H vs Q E hr h=>hbody f cdv A outer s H vs Q E hr hr.units h,b,F.kp,m,oc,od,osl,lk⟩
theorem aq.upd{H:Hp}{p:NL}(h:H p=Ua)(o:HO):aq H (upd H p o):=λb u q=>by rw[ay (eR q h)];exact q
theorem aq.tup{K:NO}{H H':Hp}{a:NL}{xs:List V}(e:aq H H')(h:SqT K H a xs):SqT K H' a xs:=by
 rcases h with(h|⟨o,h⟩)|h
 ·exact .inl (.inl (e _ _ h))
 ·exact .inl (.inr ⟨o,e _ _ h⟩)
 exact .inr h
mutual
theorem aq.rep{K:NO}{H H':Hp}(e:aq H H'):∀{x:V}{d:Qb},hE K H x d->hE K H' x d
 |_,_,.non=>.non
 |_,_,.bl b=>.bl b
 |_,_,.int i=>.int i
 |_,_,.str x=>.str x
 |_,_,.lst h r=>.lst (e.seq h) (e.zd r)
 |_,_,.tup h r=>.tup (e.tup h) (e.zd r)
theorem aq.zd{K:NO}{H H':Hp}(e:aq H H'):∀{xs:List V}{ds:List Qb},gC K H xs ds->gC K H' xs ds
 |_,_,.nil=>.nil
 |_,_,.cons h r=>.cons (e.rep h) (e.zd r)
end
noncomputable def cFr(fr:List Nat)(σ:St):St:=fr.map λj=>(σ[j]?).getD Ua
theorem yO{J:It}{n:Nat}{x:Nat->V}{fr:List Nat}{tf:CB->TT}{te:CB->TE}{Q:VK}{σ:St}{H1:Hp}(p:Nat->Bool)(f:Nat->V)(hn:n<sizeLine)
  (stop:∀H,aq H1 H->J.stop n H) (go:∀i H,i<n->aq H1 H->J.go i H) (yld:∀i H v H',i<n->aq H1 H->J.yld i H v H'->H'=H/\v=x i)
  (hf:∀b i H (R:Bool->Hp->Prop),i<n->aq H1 H->(∀H',aq H H'->R (p i) H')->tf b (T9 (x i)::cFr fr σ) H R)
  (he:∀b i H (R:VK),i<n->p i=true->aq H1 H->(∀H',aq H H'->R (f i) H')->te b (T9 (x i)::cFr fr σ) H R)
  (fin:∀D H,H1 D=Ua->aq H1 H->H D=T9 (.lst (((Od n).filter p).map f))->Q (.ref D) H):nU J 1 fr (λ_=>kf 0) tf te Q σ H1:=by
 refine⟨λb D hD=>?_⟩
 have lenf:∀i,(((Od i).filter p).map f).length<=i:=λi=>by
  rw[Kx];exact KR (Mb _ _) (Nw Mh)
 refine⟨λi m σ' H'=>m=n-i/\i<=n/\(∃v0,σ'=v0::cFr fr σ)/\aq H1 H'/\H' D=T9 (.lst (((Od i).filter p).map f)),⟨n,rfl,KW _,⟨Ua,rfl⟩,aq.upd hD _,aj⟩,?_⟩
 rintro i m σ' H' ⟨rfl,hi,⟨v0,rfl⟩,sm,hl⟩
 by_cases hlt:i<n
 ·refine .inr ⟨go i H' hlt sm,λσ2 H2=>(∃v0,σ2=v0::cFr fr σ)/\aq H1 H2/\H2 D=T9 (.lst (((Od (i+1)).filter p).map f)),λσ2 H2 q=>⟨n-(i+1),by omega,rfl,hlt,q⟩,λv H2 y=>?_⟩;obtain⟨rfl,rfl⟩:=yld i H' v H2 hlt sm y;show tf b (T9 (x i)::cFr fr σ) _ _;refine hf b i _ _ hlt sm λH3 s3=>?_;have e1:(Od (i+1)).filter p=(Od i).filter p++(if p i then[i]else[]):=by
   rw[MN,RW];congr 1;cases hp:p i<;>simp[hp]
  cases hp:p i with
  |false=>
   rw[if_neg KJ];refine⟨⟨_,rfl⟩,sm.trans s3,?_⟩;rw[s3 _ _ hl,e1,hp];simp
  |true=>
   rw[if_pos rfl];refine he b i _ _ hlt hp (sm.trans s3) λH4 s4=>⟨_,s4 _ _ (s3 _ _ hl),?_,⟨_,rfl⟩,?_,?_⟩
   ·exact MF (lenf i) (Nat.lt_trans hlt hn)
   ·have sm4:aq H1 H4:=sm.trans (s3.trans s4);intro c o q;by_cases hc:c=D
    ·rw[hc,hD]at q;cases q
    rw[ay hc];exact sm4 c o q
   rw[aj,e1,hp];simp
 have e:i=n:=by omega
 subst e
 exact .inl ⟨stop H' sm,fin D H' hD sm hl⟩
theorem map_range{α:Type}{β:Type}(xs:List α)(d:α)(f:α->β):(Od xs.length).map (λi=>f (xs.getD i d))=xs.map f:=by
 apply Nh;intro i;rw[KO,KO];by_cases h:i<xs.length
 ·rw[Mr h,Kv h];simp[List.getD,Kv h]
 rw[LX (by simpa using h),LX (by simpa using h)];rfl
theorem uS{α:Type}{β:Type}(p:α->Bool)(f:α->β)(d:α):∀(xs:List α),((Od xs.length).filter λi=>p (xs.getD i d)).map (λi=>f (xs.getD i d))=(xs.filter p).map f:=by
 intro xs;have e:=map_range xs d id;have e2:xs=(Od xs.length).map λi=>xs.getD i d:=by simpa using e.symm
 have e3:xs.filter p=((Od xs.length).filter λi=>p (xs.getD i d)).map λi=>xs.getD i d:=by
  conv=>lhs;rw[e2]
  rw[Nr];rfl
 rw[e3,Mx];rfl
theorem fU{K:NO}{a:NL}{xs:List V}{fr:List Nat}{tf:CB->TT}{te:CB->TE}{Q:VK}{σ:St}{H1:Hp}(p:V->Bool)(f:V->V)(hx:SqL K H1 a xs)(hn:xs.length<sizeLine)
  (hf:∀b x H (R:Bool->Hp->Prop),x∈xs->aq H1 H->(∀H',aq H H'->R (p x) H')->tf b (T9 x::cFr fr σ) H R)
  (he:∀b x H (R:VK),x∈xs->p x=true->aq H1 H->(∀H',aq H H'->R (f x) H')->te b (T9 x::cFr fr σ) H R)
  (fin:∀D H,H1 D=Ua->aq H1 H->H D=T9 (.lst ((xs.filter p).map f))->Q (.ref D) H):nU (Itl K a) 1 fr (λ_=>kf 0) tf te Q σ H1:=by
 have mem:∀i,i<xs.length->xs.getD i .non∈xs:=λi h=>by
  rw[Lk,Kv h];exact List.getElem_mem h
 refine yO (x:=λi=>xs.getD i .non) (λi=>p (xs.getD i .non)) (λi=>f (xs.getD i .non)) hn (λH s=>⟨xs,s.seq hx,KD _⟩) (λi H h s=>⟨xs,xs[i],s.seq hx,Kv h⟩)
  (λi H v H' h s y=>⟨y.1,?_⟩) (λb i H R h s k=>hf b _ H R (mem i h) s k) (λb i H R h hp s k=>he b _ H R (mem i h) hp s k) λD H hD s e=>fin D H hD s ?_
 ·have:=y.2 xs (s.seq hx);rw[Lk,this];rfl
 rw[e,uS p f]
theorem gC.ints{K:NO}{H:Hp}:∀ns:List Int,gC K H (ns.map V.int) (ns.map Px)
 | []=>.nil
 |n::r=>.cons (.int n) (gC.ints r)
theorem Up(ns:List Int):Ol (.list (ns.map Px))=true:=by
 unfold Ol;rw[LS];constructor
 ·exact W.ke_canLayAll0 ns
 have e:PyData.depth (.list (ns.map Px))=Pw (ns.map Px)+1:=rfl;rw[e,W.ke_depthAll];rfl
theorem BV(ns ms:List Int):P2 (.list (ns.map Px)) (.list (ms.map Px))=decide (ns=ms):=W.ked_eqvAll ns ms
section
variable{X:Cx}
noncomputable def Gk(K:NO):V->Option Int->Option Int->Hp->VK->Prop:=λx lo hi H Q=>GN K x lo hi H Q\/FT K x lo hi H Q
theorem FD:SlR X (Gk X.K):=Ea.or GI
end
theorem Co{α:Type}(f:α->V)(xs:List α)(lo hi:Option Int):iM (xs.map f) lo hi=((xs.drop (HT.sIx xs.length 0 lo)).take (HT.sIx xs.length xs.length hi-HT.sIx xs.length 0 lo)).map f:=by
 unfold iM;rw[Kx,List.map_take,List.map_drop]
theorem BC{K:NO}{mg:Str->Option NK}{h:Oi}{x:Str}{st:Oj}{ps:List Str}{f:NL}{oc:NK}{od an:Option NL}{osl:Array (Option NK)}{kV doc pm cdv ct:NK}(X:K.In h)(G:h.Ns Of mg)
  (a:TK K Of x=T9 (T9 (.ref f))) (l:K.lookup f=T9 ⟨oc,od,.func (PH x x (eE st) (dj st) (av st) .none kV doc pm an cdv ct),osl⟩) (c:Q9 K cdv x=true) (k:Po K (.ref f)=true)
  (hb:∀(kV doc pm:NK)(an:Option NL)(cdv ct:NK)(us:List NK),us.length=ps.length->Q8 (PH x x (eE st) (dj st) (av st) .none kV doc pm an cdv ct) ⟨us,[]⟩=pure (ps.zip us)):bL K mg x st ps:=
 ⟨f,_,vD l c k,(vD l c k).binds hb,Sw X G a⟩
theorem HL{P:Program}{w:NW}{K:NO}{mg:Str->Option NK}{base:Oi}{k:Nat}{x:Str}{ps:List Str}{sp:Sp}{f:NL}{oc:NK}{od:Option NL}{osl:Array (Option NK)}{fd:O0}(D:Has P w K mg base k x ps sp)(m:mg x=T9 (.ref f))
  (l:K.lookup f=T9 ⟨oc,od,.func fd,osl⟩):k7 P w K mg base CX0 k f fd ps sp:=by
 obtain⟨g,gd,F,b,kp,mg',_,_,_,l'⟩:=id D
 rw[m]at mg'
 cases mg'
 rw[l]at l'
 cases l'
 exact F
section
variable{prog:Program}{w:NW}{A:Oh}{R:TZ->NM->Prop}{I l:NL}{its:Array NK}{ns:List Int}{St:Nat->Oi->Prop}{fp wr:List NL}{d:NK}
end
section
variable{X:Cx}
theorem FG:SlR X Km:=by
 intro pins s σ H x v vl vu lo hi sl Q I rx hs pl pu h;obtain⟨z,rfl,hz,q⟩:=h;obtain⟨t,rfl⟩:=rx;have fin:∀t' k,EP X pins σ Q (.str (Txt.slice z lo hi) t') { s with toks:=k }:=λt' k=>⟨.str _,H,I.tok _,⟨_,rfl⟩,q⟩;have len:=KR (Txt.slice_le z lo hi) hz;obtain⟨o,ho,hc,hd⟩:=hs;refine⟨"str",_,PySem.F.slot_str_getitem.lookup,RP _ _ _,?_⟩;cases pl with
 |none=>
  cases pu with
  |none=>exact O5 (l:=OL) (u:=OL) (st:=OL) ⟨o,ho,hc,hd⟩ rfl (Qc ⟨len,λt' k=>fin t' k⟩)
  |int j uj=>exact O5 (l:=OL) (u:=T9 (j,uj)) (st:=OL) ⟨o,ho,hc,hd⟩ rfl (Qc ⟨len,λt' k=>fin t' k⟩)
 |int i ui=>
  cases pu with
  |none=>exact O5 (l:=T9 (i,ui)) (u:=OL) (st:=OL) ⟨o,ho,hc,hd⟩ rfl (Qc ⟨len,λt' k=>fin t' k⟩)
  |int j uj=>exact O5 (l:=T9 (i,ui)) (u:=T9 (j,uj)) (st:=OL) ⟨o,ho,hc,hd⟩ rfl (Qc ⟨len,λt' k=>fin t' k⟩)
noncomputable def fSl(K:NO):V->Option Int->Option Int->Hp->VK->Prop:=λx lo hi H Q=>match x with
 | .str z=>z.length<=sizeLine/\Q (.str (Txt.slice z lo hi)) H
 |x=>GN K x lo hi H Q\/FT K x lo hi H Q
theorem eU:SlR X (fSl X.K):=by
 intro pins s σ H x v vl vu lo hi sl Q I rx hs pl pu h;by_cases hx:∃z,x=.str z
 ·obtain⟨z,rfl⟩:=hx;exact FG pins s σ H _ v vl vu lo hi sl Q I rx hs pl pu ⟨z,rfl,h.1,h.2⟩
 refine FD pins s σ H x v vl vu lo hi sl Q I rx hs pl pu ?_;cases x<;>first|exact h|exact absurd ⟨_,rfl⟩ hx
theorem Bf(hc:X.calm=true:=by rfl):dE X (.builtin "max") (λxs H Q=>∃i j,xs=[.int i,.int j]/\Q (.int (if j>i then j else i)) H):=AO hc
theorem IY(hc:X.calm=true:=by rfl):dE X (.builtin "min") (λxs H Q=>∃i j,xs=[.int i,.int j]/\Q (.int (if j<i then j else i)) H):=Az hc
theorem qE{x:Str}{z:Int}{pos:Pos}(h:∃t,X.mg x=T9 (.int z t))(hg:Gl X x:=by rfl)(hd:(x==("__debug__":Str))=false:=by decide):PE X (.Name x pos) (tC (.int z)):=by
 obtain⟨t,e⟩:=h;exact zS hg e ⟨t,rfl⟩ hd
end
section
variable{X:Cx}{tg:Expr}
theorem dh{x:Str}{pos:Pos}{a:NL}(h:X.mg x=T9 (.ref a))(hg:Gl X x:=by rfl)(hd:(x==("__debug__":Str))=false:=by decide):PE X (.Name x pos) (tC (.ref a)):=zS hg h rfl hd
end
theorem sC{J:It}{n:Nat}{x:Nat->V}{fr:List Nat}{te:CB->TE}{Q:VK}{σ:St}{H1:Hp}(R:Nat->V->Hp->Prop)(hn:n<sizeLine)
  (stop:∀H,aq H1 H->J.stop n H) (go:∀i H,i<n->aq H1 H->J.go i H) (yld:∀i H v H',i<n->aq H1 H->J.yld i H v H'->H'=H/\v=x i)
  (he:∀b i H (G:VK),i<n->aq H1 H->(∀y H',aq H H'->R i y H'->G y H')->te b (T9 (x i)::cFr fr σ) H G)
  (mono:∀i y H H',aq H H'->R i y H->R i y H') (st:∀i y H D ys zs,H D=T9 (.lst ys)->R i y H->R i y (upd H D (.lst zs)))
  (fin:∀D H ys,H1 D=Ua->aq H1 H->H D=T9 (.lst ys)->ys.length=n->(∀(i:Nat) y,ys[i]?=T9 y->R i y H)->Q (.ref D) H):nU J 1 fr (λ_=>kf 0) (λ_=>Fo) te Q σ H1:=by
 refine⟨λb D hD=>?_⟩
 refine⟨λi m σ' H'=>m=n-i/\i<=n/\(∃v0,σ'=v0::cFr fr σ)/\aq H1 H'/\∃ys,H' D=T9 (.lst ys)/\ys.length=i/\∀(j:Nat) y,ys[j]?=T9 y->R j y H',⟨n,rfl,KW _,⟨Ua,rfl⟩,aq.upd hD _,[],aj,rfl,λj y h=>by cases h⟩,?_⟩
 rintro i m σ' H' ⟨rfl,hi,⟨v0,rfl⟩,sm,ys,hl,hy,hR⟩
 by_cases hlt:i<n
 ·refine .inr ⟨go i H' hlt sm,λσ2 H2=>(∃v0,σ2=v0::cFr fr σ)/\aq H1 H2/\∃ys,H2 D=T9 (.lst ys)/\ys.length=i+1/\∀(j:Nat) y,ys[j]?=T9 y->R j y H2,λσ2 H2 q=>⟨n-(i+1),by omega,rfl,hlt,q⟩,λv H2 y=>?_⟩;obtain⟨rfl,rfl⟩:=yld i H' v H2 hlt sm y;refine he b i _ _ hlt sm λz H4 s4 rz=>⟨ys,s4 _ _ hl,by omega,⟨_,rfl⟩,?_,ys++[z],aj,by simp[hy],λj y' hj=>?_⟩
  ·intro c o q;by_cases hc:c=D
   ·rw[hc,hD]at q;cases q
   rw[ay hc];exact(sm.trans s4) c o q
  have hD4:=s4 _ _ hl;by_cases hji:j<ys.length
  ·rw[Mi hji]at hj;exact st _ _ _ _ _ _ hD4 (mono _ _ _ _ s4 (hR j y' hj))
  by_cases e:j=ys.length
  ·subst e;rw[Mf (KD _)]at hj;simp at hj;subst hj;rw[hy];exact st _ _ _ _ _ _ hD4 rz
  rw[LX (by simp;omega)]at hj;cases hj
 have e:i=n:=by omega
 subst e
 exact .inl ⟨stop H' sm,fin D H' ys hD sm hl hy hR⟩
section
variable{P:Program}{w:NW}{K:NO}{mg:Str->Option NK}{base:Oi}
structure MFn(K:NO)(C:NL)(m qual:Str)(st:Oj)(ps:List Str):Prop where
 ex:∃f fd,Fun K m qual st f fd/\Ul K fd ps []/\UD K C m f
noncomputable def jI(P:Program)(w:NW)(K:NO)(mg:Str->Option NK)(base:Oi)(k:Nat)(C:NL)(m:Str)(ps:List Str)(sp:Sp):Prop:=
 ∃f fd,k7 P w K mg base CX0 k f fd ps sp/\Ul K fd ps []/\UD K C m f
noncomputable abbrev MFn.Hz{C:NL}{m qual:Str}{st:Oj}{ps:List Str}(_:MFn K C m qual st ps)(P:Program)(w:NW)(mg:Str->Option NK)(base:Oi)(k:Nat)(sp:Sp):Prop:=jI P w K mg base k C m ps sp
theorem MFn.hs{C:NL}{m qual:Str}{st:Oj}{N ps:List Str}{k:Nat}{sp:Sp}(F:MFn K C m qual st ps)(S:az N ps (av st))
  (hbody:∀(f:NL)(cdv:NK)(A:Oh)(outer:List Env)(s:NM)(H:Hp)(vs:List V)(Q:VK)(E:XK),eY k (A.deeper (P9 qual (av st) s.heap.objs.size f cdv))->(A.deeper (P9 qual (av st) s.heap.objs.size f cdv)).units+64<OO->sp vs H Q E->
   ∃t,PSs (wJ CX0 P w K mg base N qual (av st) f cdv A outer s H E).nox (dj st) t/\t { nx:=λ_ H'=>Q .non H',rt:=Q } (Ur N vs) H) (len:∀vs H Q E,sp vs H Q E->vs.length=ps.length:=by intro _ _ _ _ h;cases h;subst_vars;rfl):jI P w K mg base (k+1) C m ps sp:=by
 obtain⟨f,fd,F,b,m⟩:=F.ex
 exact⟨f,fd,F.ok S len λcdv A outer s H vs Q E hr h=>hbody f cdv A outer s H vs Q E hr hr.units h,b,m⟩
theorem Has.imp{k:Nat}{x:Str}{ps:List Str}{sp sp':Sp}(D:Has P w K mg base k x ps sp)(h:∀vs H Q E,sp' vs H Q E->sp vs H Q E):Has P w K mg base k x ps sp':=by
 obtain⟨f,fd,F,b⟩:=D;exact⟨f,fd,F.imp h,b⟩
structure eK(K:NO)(mg:Str->Option NK)(C:NL)(x:Str)(up:List NL):Prop where
 mg:mg x=T9 (.ref C)
 cl:Cls K C
 mro:∃cd,W.clsIn K C=T9 cd/\cd.mro=up.map NZ++[PV "object"]
 ty:W.typeIn K (.ref C)=T9 (.type "type")
 kc:OJ K (.ref C) "__class__"=T9 (T9 (.builtin "object.__class__"))
 cg:PB K (.builtin "object.__class__") "__get__"=T9 (T9 (.builtin "getset_descriptor.__get__"))
 ct:SO K (.builtin "object.__class__")=T9 true
 mks:SN K C=true
 kp:Po K (.ref C)=true
variable{C D:NL}{x y:Str}{up vp:List NL}
theorem eK.sub(O:eK K mg C x up)(b:NK):T7 K C b=T9 ((up.map NZ++[PV "object"]).contains b):=by
 obtain⟨cd,h1,h2⟩:=O.mro;unfold T7;rw[h1];show(if cd.mro.isEmpty=true then Ua else T9 (cd.mro.contains b))=_;rw[h2,if_neg (by cases up<;>simp)]
theorem tu(up:List NL)(D:NL):(up.map NZ++[PV "object"]).contains (NZ D)=decide (D∈up):=by
 induction up with
 |nil=>rfl
 |cons a r ih=>
  show((NZ D==NZ a)||(r.map NZ++[PV "object"]).contains (NZ D))=_;rw[ih];by_cases h:D=a
  ·subst h;simp
  have:(NZ D==NZ a)=false:=by
   rw[LO];intro z;exact h (Pq (beq_iff_eq.mp z))
  rw[this,Bool.false_or];simp[h]
theorem eK.kit(O:eK K mg C x up)(U:eK K mg D y vp)(hs:C∈up):OH K (.ref C) (.ref D)=T9 (decide (D∈up)):=by
 unfold OH;split
 ·rename_i q;have:C=D:=Pq (beq_iff_eq.mp q);rw[<-this,decide_eq_true hs]
 obtain⟨cd,h1,_⟩:=U.mro;unfold W.kitCls;dsimp only;rw[h1,U.ty];rw[if_pos (by rfl)];show T7 K C (.ref D)=_;rw[O.sub,tu]
theorem eK.bM(O:eK K mg C x up){H:Hp}{a dx:NL}{fs:List (Str×V)}(e:H a=T9 (.ins C dx fs)):lV K H (.ref a) (.ref C):=
 .ins e O.cl O.kc O.cg O.ct ((O.sub _).trans (by simp))
end
section
variable{X:Cx}{k j:Nat}{C:NL}{x m:Str}{ps:List Str}{sp:Sp}{o e:Expr}{es:List Expr}{ta:TE}{t:TA}{p apos pos:Pos}{up:List NL}
theorem cK(O:eK X.K X.mg C x up)(D:jI X.prog X.w X.K X.mg X.base j C "__init__" ps sp)(hr:eY k X.A)(ha:PA X (e::es) t)(hj:j+1<=k:=by decide)(hg:Gl X x:=by rfl)(hdb:(x==("__debug__":Str))=false:=by decide)
  (he:NX (e::es) X.env=(false,OE e X.env)::NX es X.env:=by rfl) (hpl:(OK pos (NX es X.env)).any (·.1)=false:=by rfl):PE X (.Call (.Name x p) (e::es) [] pos) (zE C sp [] E0 t):=by
 obtain⟨f,fd,F,b,m⟩:=D
 exact EO ⟨O.mks,m.at_,m.fn,O.kp⟩ F (hr.mono hj) hg O.mg b .nil wL ha hdb he hpl
theorem AZ(O:eK X.K X.mg C x up)(D:jI X.prog X.w X.K X.mg X.base j C "__init__" ps sp)(hr:eY k X.A)(hj:j+1<=k:=by decide)(hg:Gl X x:=by rfl)(hdb:(x==("__debug__":Str))=false:=by decide):PE X (.Call (.Name x p) [] [] pos) (zE C sp [] E0 Ed):=by
 obtain⟨f,fd,F,b,m⟩:=D;exact BH ⟨O.mks,m.at_,m.fn,O.kp⟩ F (hr.mono hj) hg O.mg b .nil wL hdb
theorem bh{pl:Sem Bool}(he:PE X o ta)(c:Cls X.K C)(D:jI X.prog X.w X.K X.mg X.base j C m ps sp)(hr:eY k X.A)(ha:PA X (e::es) t)(hj:j<=k:=by decide)
  (hst:NX (e::es) X.env=(false,OE e X.env)::NX es X.env:=by rfl) (hpl:(OK pos (NX es X.env)).any (·.1)=false:=by rfl)
  (ht:OE (.Call (.Attribute o m apos) (e::es) [] pos) X.env=(do
   let ov<-OE o X.env
   Si apos.atName
   let (f,first)<-Pr [ov] (Rt ov m pl)
   callWith pos f first (OK pos (NX (e::es) X.env)) (Qp pos (Pj [] X.env))):=by rfl) :
  PE X (.Call (.Attribute o m apos) (e::es) [] pos) (Fi C m sp [] E0 ta t):=by
 obtain⟨f,fd,F,b,hm⟩:=D
 exact Es (pl:=pl) he c hm F (hr.mono hj) b .nil wL ha hst hpl ht
structure OfC(K:NO)(C:NL)(m:Str):Prop where
 ga:PB K (.ref C) "__getattribute__"=T9 (T9 (.builtin "type.__getattribute__"))
 rd:W.readsIn K C (.type "type")=true
 fc:∃f,OJ K (.ref C) m=T9 (T9 (.ref f))/\W.findCls K (.ref C) (.type "type") m=T9 (.val (.ref f))
theorem cW{pl:Sem Bool}(O:eK X.K X.mg C x up)(W:OfC X.K C m)(D:jI X.prog X.w X.K X.mg X.base j C m ps sp)(hr:eY k X.A)(ha:PA X (e::es) t)(hj:j<=k:=by decide)(hg:Gl X x:=by rfl)(hdb:(x==("__debug__":Str))=false:=by decide)
  (hst:NX (e::es) X.env=(false,OE e X.env)::NX es X.env:=by rfl) (hpl:(OK pos (NX es X.env)).any (·.1)=false:=by rfl)
  (ht:OE (.Call (.Attribute (.Name x p) m apos) (e::es) [] pos) X.env=(do
   let ov<-OE (.Name x p) X.env
   Si apos.atName
   let (f,first)<-Pr [ov] (Rt ov m pl)
   callWith pos f first (OK pos (NX (e::es) X.env)) (Qp pos (Pj [] X.env))):=by rfl) :
  PE X (.Call (.Attribute (.Name x p) m apos) (e::es) [] pos) (Dn sp [] E0 t):=by
 obtain⟨f,fd,F,b,hm⟩:=D
 intro pins s σ H Q I h
 refine PySem.W.methodCall_KW (pl:=pl) (oP I hg O.mg ?_ hdb) ht
 obtain⟨f',h1,h2⟩:=W.fc
 have ef:f=f':=by
  have:=hm.at_.symm.trans h1;cases this;rfl
 subst ef
 refine PySem.W.method_cls I.kIn W.ga (PySem.W.cls_value I.kIn W.rd h2 rfl ?_)
 refine PySem.W.callWith_K (h₀:=X.base) I.ok.mod.kin hm.kp (thn (ha pos pins _ σ H _ (I.tok _) h) λus s2 ⟨vs,H2,I2,r,q2⟩=>⟨I2.kIn,?_⟩) hst hpl
 exact yD (us:=us) (vs:=vs) F (hr.mono hj) b .nil wL I2 r q2
end
theorem HC{K:NO}{C:NL}{m qual:Str}{st:Oj}{ps:List Str}{f:NL}{oc:NK}{od an:Option NL}{osl:Array (Option NK)}{kV doc pm cdv ct:NK}
  (a:OJ K (.ref C) m=T9 (T9 (.ref f))) (fn:TY K (.ref f)=true) (l:K.lookup f=T9 ⟨oc,od,.func (PH m qual (eE st) (dj st) (av st) .none kV doc pm an cdv ct),osl⟩) (c:Q9 K cdv qual=true) (k:Po K (.ref f)=true)
  (hb:∀(kV doc pm:NK)(an:Option NL)(cdv ct:NK)(us:List NK),us.length=ps.length->Q8 (PH m qual (eE st) (dj st) (av st) .none kV doc pm an cdv ct) ⟨us,[]⟩=pure (ps.zip us)):MFn K C m qual st ps:=
 ⟨f,_,vD l c k,(vD l c k).binds hb,⟨a,fn,k⟩⟩
noncomputable def But(x:NL)(H H':Hp):Prop:=∀b,b≠x->∀o,H b=T9 o->H' b=T9 o
theorem But.refl(x:NL)(H:Hp):But x H H:=λ_ _ _ h=>h
theorem But.trans{x:NL}{H H1 H2:Hp}(a:But x H H1)(b:But x H1 H2):But x H H2:=λc hc o h=>b c hc o (a c hc o h)
theorem But.at(x:NL)(H:Hp)(o:HO):But x H (upd H x o):=λb hb u q=>by rw[ay hb];exact q
theorem But.of{x:NL}{H H':Hp}(s:aq H H'):But x H H':=λb _ o h=>s b o h
theorem But.same{x dx:NL}{H H':Hp}{o o':HO}(b:But x (upd (upd H dx o) x o') H')(hx:H x=Ua)(hd:H dx=Ua):aq H H':=λa u q=>by
 have h1:a≠x:=λz=>by rw[z,hx]at q;cases q
 have h2:a≠dx:=λz=>by rw[z,hd]at q;cases q
 exact b a h1 u (by rw[ay h1,ay h2];exact q)
end L2
namespace L2
open PySem
theorem iY{H:Hp}{x dx p:NL}{o o':HO}(hx:H x=Ua)(hd:H dx=Ua)(h:upd (upd H dx o) x o' p=Ua):H p=Ua:=by
 unfold upd at h;split at h
 ·cases h
 split at h
 ·cases h
 exact h
theorem But.none{x p:NL}{H H':Hp}(b:But x H H')(e:p≠x)(h:H' p=OL):H p=OL:=by
 cases z:H p with
 |none=>rfl
 |some o=>exact absurd (h.symm.trans (b _ e _ z)) (by intro w;cases w)
end L2
namespace L2
open PySem PySem.Spec PyProof.Rows
section
variable{X:Cx}
noncomputable def uE:V->Bool
 | .flt _=>false
 | .byt _=>false
 |_=>true
theorem pF{x:V}{u v:NK}(hx:uE x=true)(ru:Ui x u)(rv:Ui x v)(A:Oh)(s:NM):P0 A s u v true:=by
 cases x with
 |non=>cases ru;cases rv;exact .same _
 |bl b=>cases ru;cases rv;exact .same _
 |int i=>
  obtain⟨t,rfl⟩:=ru;obtain⟨t',rfl⟩:=rv;have:=Qr (A:=A) (s:=s) i t i t';rwa [beq_self_eq_true]at this
 |str y=>
  obtain⟨t,rfl⟩:=ru;obtain⟨t',rfl⟩:=rv;have:=RQ (A:=A) (s:=s) y t y t';rwa [beq_self_eq_true]at this
 |byt _=>cases hx
 |flt _=>cases hx
 |ref a=>cases ru;cases rv;exact .same _
 |ty n=>cases ru;cases rv;exact .same _
theorem Im(hu:X.A.units+64<OO):OpR X (Oe .Eq) (λx y H Q=>∃p q xs,x=.ref p/\y=.ref q/\SqL X.K H p xs/\SqL X.K H q xs/\xs.all uE=true/\Q (.bl true) H):=by
 intro pins s σ H x y v u Q I rx ry h;obtain⟨p,q,xs,rfl,rfl,hp,hq,hf,k⟩:=h;cases rx;cases ry;obtain⟨its,r1,⟨o,n,e1,c1,_,d1⟩,_⟩:=I.list hp;obtain⟨jts,r2,⟨o2,n2,e2,c2,_,d2⟩,_⟩:=I.list hq;have l1:=r1.length;have l2:=r2.length;refine SeqAt.eq_listAt (e:=λ_=>true) ⟨o,e1,c1,n,d1⟩ ⟨o2,e2,c2,n2,d2⟩ (by simp;omega) (by omega) (λj h1 h2=>?_) ?_
 ·simp at h1 h2;obtain⟨x,hx⟩:∃x,xs[j]?=T9 x:=⟨xs[j]'(by omega),Kv (by omega)⟩;obtain⟨u1,g1,w1⟩:=r1.get hx;obtain⟨u2,g2,w2⟩:=r2.get hx;have z1:its.toArray[j]'(by simpa using h1)=u1:=by
   have:=Kv h1;rw[g1]at this;simpa using (NP this).symm
  have z2:jts.toArray[j]'(by simpa using h2)=u2:=by
   have:=Kv h2;rw[g2]at this;simpa using (NP this).symm
  rw[z1,z2];exact pF (Mp.mp hf x (KI hx)) w1 w2 _ _
 have:((Od its.toArray.size).all λ_=>true)=true:=by simp
 rw[this];exact⟨.bl true,H,I,rfl,k⟩
noncomputable def JJ(K:NO):R2:=λx y H Q=>match x,y with
 | .ref p,.ref q=>(∃d e,hE K H (.ref p) d/\hE K H (.ref q) e/\Ol d=true/\Ol e=true/\Q (.bl (P2 d e)) H)\/(∃xs,SqL K H p xs/\SqL K H q xs/\xs.all uE=true/\Q (.bl true) H)
 |x,y=>AH x y=true/\Q (.bl (decide (x=y))) H
theorem Ik(hu:X.A.units+64<OO):OpR X (Oe .Eq) (JJ X.K):=((JY hu).or (Im hu)).imp λx y H Q q=>by
 by_cases hr:∃p q,x=V.ref p/\y=V.ref q
 ·obtain⟨p,q',rfl,rfl⟩:=hr;rcases q with q|⟨xs,h1,h2,h3,h4⟩
  ·exact .inl q
  exact .inr ⟨p,q',xs,rfl,rfl,h1,h2,h3,h4⟩
 refine .inl ?_;cases x<;>cases y<;>first|exact q|exact absurd ⟨_,_,rfl,rfl⟩ hr
theorem nY:dE X (.type "int") (λxs H Q=>∃b,xs=[.bl b]/\Q (.int (if b=true then 1 else 0)) H):=by
 intro pins s σ H xs us Q I r h;obtain⟨b,rfl,q⟩:=h;obtain⟨u,rfl,rfl⟩:=Ut r;exact PySem.call_int_bool ⟨.int _,H,I.tok _,⟨_,rfl⟩,q⟩
end
section
variable{κ:Type}[DecidableEq κ]
noncomputable def fB(kvs:List (κ×V))(k:κ):Option V:=(kvs.find? λkv=>decide (kv.1=k)).map (·.2)
noncomputable def Ue(kvs:List (κ×V))(k:κ)(v:V):List (κ×V):=
 if(kvs.any λkv=>decide (kv.1=k))=true then kvs.map (λkv=>if kv.1=k then(kv.1,v)else kv)else kvs++[(k,v)]
theorem mK{p:κ×V}{r:List (κ×V)}{k:κ}(e:p.1=k):fB (p::r) k=T9 p.2:=by simp[fB,Lw,e]
theorem oK{p:κ×V}{r:List (κ×V)}{k:κ}(e:¬ p.1=k):fB (p::r) k=fB r k:=by simp[fB,Lw,e]
theorem wO(k:κ):∀kvs:List (κ×V),(kvs.any λkv=>decide (kv.1=k))=(fB kvs k).isSome
 | []=>rfl
 |p::r=>by
  rw[MA];by_cases e:p.1=k
  ·simp only[mK e,decide_eq_true e,Bool.true_or,RT]
  rw[oK e,decide_eq_false e,Bool.false_or];exact wO k r
theorem jm(kvs:List (κ×V))(k:κ)(v:V):(Ue kvs k v).length<=kvs.length+1:=by
 unfold Ue;split
 ·rw[Kx];omega
 rw[KC,Lb,Nt];omega
theorem lK.p7{o:Option V}{u:Option NK}(r:lK o u):o.isSome=u.isSome:=by
 cases o with
 |none=>cases u with
  |none=>rfl
  |some _=>exact(show False from r).elim
 |some _=>cases u with
  |none=>exact(show False from r).elim
  |some _=>rfl
theorem lK.getD{o:Option V}{u:Option NK}{d:V}{d':NK}(r:lK o u)(rd:Ui d d'):Ui (o.getD d) (u.getD d'):=by
 cases o with
 |none=>cases u with
  |none=>exact rd
  |some _=>exact(show False from r).elim
 |some _=>cases u with
  |none=>exact(show False from r).elim
  |some _=>exact r
theorem KV.val{kvs:List (κ×V)}{vs:List (κ×NK)}(r:KV kvs vs)(k:κ):lK (fB kvs k) (valueAt vs k):=by
 unfold KV at r;induction r with
 |nil=>exact Lh
 |@cons p q ps qs h t ih=>
  obtain⟨h1,h2⟩:=h;by_cases e:p.1=k
  ·have e':q.1=k:=h1.symm.trans e;have b:valueAt (q::qs) k=T9 q.2:=by simp[valueAt,Lw,e']
   rw[mK e,b];exact h2
  have e':¬ q.1=k:=λz=>e (h1.trans z);have b:valueAt (q::qs) k=valueAt qs k:=by simp[valueAt,Lw,e']
  rw[oK e,b];exact ih
theorem KV.any{kvs:List (κ×V)}{vs:List (κ×NK)}(r:KV kvs vs)(k:κ):(kvs.any λkv=>decide (kv.1=k))=vs.any λkv=>decide (kv.1=k):=by
 unfold KV at r;induction r with
 |nil=>rfl
 |cons h t ih=>rw[MA,MA,ih,h.1]
theorem KV.F5{kvs:List (κ×V)}{vs:List (κ×NK)}(r:KV kvs vs)(k:κ){y:V}{u:NK}(ry:Ui y u) :
  KV (kvs.map λkv=>if kv.1=k then(kv.1,y)else kv) (vs.map λkv=>if kv.1=k then(kv.1,u)else kv):=by
 unfold KV at r⊢
 induction r with
 |nil=>exact .nil
 |@cons p q ps qs h t ih=>
  rw[KP,KP]
  refine .cons ?_ ih
  obtain⟨h1,h2⟩:=h
  by_cases e:p.1=k
  ·rw[if_pos e,if_pos (h1.symm.trans e)];exact⟨h1,ry⟩
  rw[if_neg e,if_neg (λz=>e (h1.trans z))];exact⟨h1,h2⟩
theorem KV.put{kvs:List (κ×V)}{vs:List (κ×NK)}(r:KV kvs vs)(k:κ){y:V}{u:NK}(ry:Ui y u):KV (Ue kvs k y) (stored vs k u):=by
 unfold Ue stored;rw[r.any k];by_cases e:(vs.any λkv=>decide (kv.1=k))=true
 ·rw[if_pos e,if_pos e];exact r.F5 k ry
 rw[if_neg e,if_neg e];exact Ot r ⟨rfl,ry⟩
theorem KV.keys{kvs:List (κ×V)}{vs:List (κ×NK)}(r:KV kvs vs):kvs.map (·.1)=vs.map (·.1):=by
 unfold KV at r;induction r with
 |nil=>rfl
 |cons h t ih=>rw[KP,KP,ih,h.1]
theorem KV.length{kvs:List (κ×V)}{vs:List (κ×NK)}(r:KV kvs vs):kvs.length=vs.length:=NV r
end
theorem qH{P:Program}{w:NW}{k:Key}{u:NK}(r:Ui (kV k) u):(cy P w).is k u=true:=by
 cases k with
 |inl i=>obtain⟨t,e⟩:=(show ∃t,u=Qh i t from r);subst e;exact wG P w i t
 |inr x=>obtain⟨t,e⟩:=(show ∃t,u=Rq x t from r);subst e;exact xM P w x t
theorem uf{P:Program}{w:NW}:∀{ks:List Key}{us:List NK},Ug (ks.map kV) us->ItemsAre (cy P w) ks us
 | [],_,r=>by rw[ML]at r;cases r;exact .nil
 |k::ks,_,r=>by
  rw[KP]at r;cases r with
  |cons h t=>exact .cons (qH h) (uf t)
noncomputable abbrev KT(H:Hp):List (List Key×V)->List (List Key×NL×NK)->Prop:=Paired λp q=>p.1=q.1/\H q.2.1=T9 (.tup (p.1.map kV))/\Ui p.2 q.2.2
theorem KT.val{H:Hp}{kvs:List (List Key×V)}{xs:List (List Key×NL×NK)}(r:KT H kvs xs)(k:List Key):lK (fB kvs k) ((Ta xs k).map (·.2)):=by
 induction r with
 |nil=>exact Lh
 |@cons p q ps qs h t ih=>
  obtain⟨h1,_,h2⟩:=h;by_cases e:p.1=k
  ·have e':q.1=k:=h1.symm.trans e;have b:Ta (q::qs) k=T9 q.2:=by simp[Ta,Lw,e']
   rw[mK e,b];exact h2
  have e':¬ q.1=k:=λz=>e (h1.trans z);have b:Ta (q::qs) k=Ta qs k:=by simp[Ta,Lw,e']
  rw[oK e,b];exact ih
theorem KT.F5{H:Hp}{kvs:List (List Key×V)}{xs:List (List Key×NL×NK)}(r:KT H kvs xs)(k:List Key){y:V}{u:NK}(ry:Ui y u) :
  KT H (kvs.map λkv=>if kv.1=k then(kv.1,y)else kv) (xs.map (putAt k u)):=by
 induction r with
 |nil=>exact .nil
 |@cons p q ps qs h t ih=>
  rw[KP,KP]
  refine .cons ?_ ih
  obtain⟨h1,h2,h3⟩:=h
  unfold putAt
  by_cases e:p.1=k
  ·rw[if_pos e,if_pos (h1.symm.trans e)];exact⟨h1,h2,ry⟩
  rw[if_neg e,if_neg (λz=>e (h1.trans z))];exact⟨h1,h2,h3⟩
theorem KT.put{H:Hp}{kvs:List (List Key×V)}{xs:List (List Key×NL×NK)}(r:KT H kvs xs)(k:List Key){b:NL}{y:V}{u:NK}(hb:H b=T9 (.tup (k.map kV)))(ry:Ui y u) :
  KT H (Ue kvs k y) (storedH xs k b u):=by
 have e:(kvs.any λkv=>decide (kv.1=k))=(Ta xs k).isSome:=by
  rw[wO,(r.val k).p7,Sx]
 unfold Ue storedH
 rw[e]
 by_cases q:(Ta xs k).isSome=true
 ·rw[if_pos q,if_pos q];exact r.F5 k ry
 rw[if_neg q,if_neg q];exact Ot r ⟨rfl,hb,ry⟩
theorem KT.keeps{H H':Hp}{kvs:List (List Key×V)}{xs:List (List Key×NL×NK)}(r:KT H kvs xs)(ht:∀b ys,H b=T9 (.tup ys)->H' b=T9 (.tup ys)):KT H' kvs xs:=
 Paired.cS r λ_ _ z=>⟨z.1,ht _ _ z.2.1,z.2.2⟩
section
variable{P:Program}{w:NW}{H:Hp}{h:Oi}{a:NL}
theorem Fb{u:HO}(ok:HOk P w H h)(e:Rd H a u):dB P w H h a u:=e.ok ok
theorem jf{kvs:List (Key×V)}(ok:HOk P w H h)(e:Rd H a (.dK kvs)):kvs.length<=sizeLine/\(a==OB)=false/\∃vs,KV kvs vs/\h.DictOf (cy P w) a vs:=
 show dB P w H h a (.dK kvs)from Fb ok e
theorem BO{kvs:List (Key×V)}(ok:HOk P w H h)(e:H a=T9 (.dK kvs)):kvs.length<=sizeLine/\(a==OB)=false/\∃vs,KV kvs vs/\h.DictOf (cy P w) a vs:=jf ok (.inl e)
theorem rD{ks:List Key}(ok:HOk P w H h)(e:H a=T9 (.tup (ks.map kV))):(QF (cy P w)).is h ks a:=by
 obtain⟨_,its,r,o,h1,h2,n,h3⟩:=(show dB P w H h a (.tup (ks.map kV))from ok a _ e);exact⟨o,its.toArray,n,h1,h2,h3,by simpa using uf r⟩
theorem tT{kvs:List (List Key×V)}(ok:HOk P w H h)(e:Rd H a (.dT kvs)):kvs.length<=sizeLine/\(a==OB)=false/\
  ∃xs,KT H kvs xs/\h.DictOfH (QF (cy P w)) a xs:=by
 obtain⟨z,y,xs,r,o,es,ep,h1,h2,h3,h4,h5⟩:=(show dB P w H h a (.dT kvs)from Fb ok e)
 refine⟨z,y,xs,r,o,es,ep,h1,h2,h3,h4,λx hx=>?_,h5⟩
 have all:∀{l:List (List Key×V)}{m:List (List Key×NL×NK)},KT H l m->∀x∈m,(QF (cy P w)).is h x.1 x.2.1:=by
  intro l m q;induction q with
  |nil=>intro x hx;exact nomatch hx
  |@cons p q ps qs hq t ih=>
   intro x hx;rcases Kt.mp hx with e|hx
   ·subst e;exact rD ok (by rw[<-hq.1];exact hq.2.1)
   exact ih x hx
 exact all r x hx
theorem Jq{kvs:List (List Key×V)}(ok:HOk P w H h)(e:H a=T9 (.dT kvs)):kvs.length<=sizeLine/\(a==OB)=false/\
  ∃xs,KT H kvs xs/\h.DictOfH (QF (cy P w)) a xs:=tT ok (.inl e)
end
noncomputable def cP(H:Hp)(a:NL)(y:V)(r:Option V):Prop:=
 (∃kvs k,Rd H a (.dK kvs)/\y=kV k/\r=fB kvs k)\/∃kvs k b,Rd H a (.dT kvs)/\y=.ref b/\H b=T9 (.tup (k.map kV))/\r=fB kvs k
noncomputable def cY(H:Hp)(a:NL)(y v:V)(H':Hp):Prop:=
 (∃kvs k,H a=T9 (.dK kvs)/\y=kV k/\kvs.length<sizeLine/\H'=upd H a (.dK (Ue kvs k v)))\/
 ∃kvs k b,H a=T9 (.dT kvs)/\y=.ref b/\H b=T9 (.tup (k.map kV))/\kvs.length<sizeLine/\H'=upd H a (.dT (Ue kvs k v))
theorem cP.k{H:Hp}{a:NL}{kvs:List (Key×V)}{k:Key}(e:H a=T9 (.dK kvs)):cP H a (kV k) (fB kvs k):=.inl ⟨kvs,k,.inl e,rfl,rfl⟩
theorem cY.k{H:Hp}{a:NL}{kvs:List (Key×V)}{k:Key}{v:V}(e:H a=T9 (.dK kvs))(hl:kvs.length<sizeLine):cY H a (kV k) v (upd H a (.dK (Ue kvs k v))):=.inl ⟨kvs,k,e,rfl,hl,rfl⟩
section
variable{X:Cx}{pins:List (NL×Obj)}{σ:St}{H:Hp}{s:NM}{a:NL}{y v:V}{u r:NK}{o:Option V}{A:Oh}{E:NK->NM->Prop}
theorem Inv.big(I:Inv X pins σ H s):OB<s.heap.objs.size:=by
 have h:Of<s.heap.objs.size:=(I.mod.glob.keeps I.bk).lt;exact Nat.lt_trans (by decide) h
theorem AX{Q:NK->NM->Prop}(hu:A.units+1<OO)(I:Inv X pins σ H s)(g:cP H a y (T9 v))(ry:Ui y u)(h:∀w' s',Inv X pins σ H s'->Ui v w'->Q w' s') :
  wpAny (N0 X.prog X.w) A (Rv (.ref a) u) Q E s:=by
 rcases g with⟨kvs,k,e,ey,l⟩|⟨kvs,k,b,e,ey,eb,l⟩
 ·subst ey;obtain⟨z,hd,vs,rel,dd⟩:=jf I.hok e;obtain⟨w',hw,rw'⟩:=lK.some_of (v:=v) (o:=valueAt vs k) (by rw[l];exact rel.val k);exact wpAny_getItem_of (qH ry) dd.mapOf hw (h w' _ (I.tok _) rw')
 subst ey
 cases (show u=NZ b from ry)
 obtain⟨z,hd,xs,rel,dd⟩:=tT I.hok e
 obtain⟨w',hw,rw'⟩:=lK.some_of (v:=v) (o:=(Ta xs k).map (·.2)) (by rw[l];exact rel.val k)
 obtain⟨p,hp,hp2⟩:=Ly.mp hw
 refine wpAny_getItem_heap (Py hu) (rD I.hok eb) dd hp ?_
 rw[hp2]
 exact h w' _ (I.tok _) rw'
theorem Ko{Q:NK->NM->Prop}(hu:A.units+1<OO)(I:Inv X pins σ H s)(g:cP H a y o)(ry:Ui y u)(h:∀s',Inv X pins σ H s'->Q (.bool o.isSome) s') :
  wpAny (N0 X.prog X.w) A (Oe .In u (.ref a)) Q E s:=by
 rcases g with⟨kvs,k,e,ey,l⟩|⟨kvs,k,b,e,ey,eb,l⟩
 ·subst ey;obtain⟨z,hd,vs,rel,dd⟩:=jf I.hok e;refine wpAny_in_of (qH ry) hd dd.mapOf ?_;rw[<-(rel.val k).p7,<-l];exact h _ (I.tok _)
 subst ey
 cases (show u=NZ b from ry)
 obtain⟨z,hd,xs,rel,dd⟩:=tT I.hok e
 refine wpAny_in_heap (Py hu) (rD I.hok eb) hd dd ?_
 have q:=(rel.val k).p7
 rw[Sx]at q
 rw[<-q,<-l]
 exact h _ (I.tok _)
theorem qD{h':Oi}{t':Nat}{ob:HO}(I:Inv X pins σ H s)(mu:Mut (H a))(hs:Qf a s.heap h')(he:∃q,h'.get? a=T9 q)(new:dB X.prog X.w (upd H a ob) h' a ob) :
  Inv X pins σ (upd H a ob) { s with heap:=h',toks:=t' }:=
 I.write (x:=a) (e:=a) mu (.inl rfl) (λb q hb z=>(hs.2 b hb).trans z) he new
theorem i8{P:Program}{w:NW}{H':Hp}{h':Oi}{kvs:List (Key×V)}{vs:List (Key×NK)}(z:kvs.length<=sizeLine)(hd:(a==OB)=false)(rel:KV kvs vs)(dd:h'.DictOf (cy P w) a vs) :
  dB P w H' h' a (.dK kvs):=⟨z,hd,vs,rel,dd⟩
theorem AG{H':Hp}{Q:Unit->NM->Prop}(hu:A.units+1<OO)(I:Inv X pins σ H s)(g:cY H a y v H')(ry:Ui y u)(rv:Ui v r)(h:∀s',Inv X pins σ H' s'->Q () s') :
  wpAny (N0 X.prog X.w) A (setItem (.ref a) u r) Q E s:=by
 rcases g with⟨kvs,k,e,ey,l,eH⟩|⟨kvs,k,b,e,ey,eb,l,eH⟩
 ·subst ey eH;obtain⟨z,hd,vs,rel,dd⟩:=BO I.hok e;have hz:vs.length<=sizeLine:=by rw[<-rel.length];exact z
  have hl:(Ue kvs k v).length<=sizeLine:=by have:=jm kvs k v;omega
  refine wpAny_setItem_pairs (hsz:=hz) (qH ry) dd λh' dd' hs=>h _ ?_;have he:∃q,h'.get? a=T9 q:=let ⟨q,_,_,hq,_⟩:=dd';⟨q,hq⟩
  exact qD I (by rw[e];exact Lh) hs he (i8 hl hd (rel.put k rv) dd')
 subst ey eH
 cases (show u=NZ b from ry)
 obtain⟨z,hd,xs,rel,dd⟩:=Jq I.hok e
 have hz:xs.length<=sizeLine:=by rw[<-NV rel];exact z
 have hl:(Ue kvs k v).length<=sizeLine:=by have:=jm kvs k v;omega
 refine wpAny_setItem_heap (hsz:=hz) (Py hu) (rD I.hok eb) dd λh' dd' hs=>h _ ?_
 obtain⟨q,es,ep,hq,h2,h3,h4,_,h5⟩:=dd'
 refine qD I (by rw[e];exact Lh) hs ⟨q,hq⟩ ⟨hl,hd,_,(rel.put k eb rv).keeps λc ys ec=>?_,q,es,ep,hq,h2,h3,h4,h5⟩
 rw[ay (Ju ec e (λz=>nomatch z))]
 exact ec
end
section
variable{X:Cx}{pins:List (NL×Obj)}{σ:St}{H:Hp}{s:NM}{a:NL}{kvs:List (Key×V)}{k:Key}{u:NK}{A:Oh}{E:NK->NM->Prop}
theorem Io{Q:NK->NM->Prop}(I:Inv X pins σ H s)(e:Rd H a (.dK kvs))(h:∀t s',Inv X pins σ H s'->Q (.int kvs.length t) s'):wpAny (N0 X.prog X.w) A (call (.builtin "len") [.ref a]) Q E s:=by
 obtain⟨z,hd,vs,rel,dd⟩:=jf I.hok e;refine call_len_dict hd dd (by rw[<-rel.length];rw[Pg]at z;omega) ?_;rw[<-rel.length];exact h _ _ (I.tok _)
end
theorem w8{X:Cx}{pins:List (NL×Obj)}{σ:St}{H:Hp}{s:NM}{a:NL}{y:V}{o:Option V}(I:Inv X pins σ H s)(g:cP H a y o):s.TypeIs (.ref a) "dict":=by
 rcases g with⟨kvs,k,e,_,_⟩|⟨kvs,k,b,e,_,_,_⟩
 ·obtain⟨_,_,vs,_,dd⟩:=jf I.hok e;exact dd.typeIs
 obtain⟨_,_,xs,_,dd⟩:=tT I.hok e;exact dd.typeIs
section
variable{X:Cx}{o i e value:Expr}{pos pos' tpos:Pos}{td ty tv:TE}
end
theorem rY{P:Program}{w:NW}{H:Hp}(h:Oi)(hb:OB<h.objs.size):dB P w H (h.push { cls:=.type "dict",data:=.dict #[] }) h.objs.size (.dK []):=
 ⟨KW _,beq_eq_false_iff_ne.mpr (LF (Ll hb)),[],.nil,Tf h⟩
noncomputable def Gi:TE:=λ_ H Q=>∀p,H p=Ua->Q (.ref p) (upd H p (.dK []))
section
variable{X:Cx}{pos:Pos}
theorem eM:PE X (.Dict [] [] pos) Gi:=λpins s σ H Q I h=>
 wpAny_Dict_empty ⟨.ref s.heap.objs.size,_,I.laid (a:=s.heap.objs.size) (o:=.dK []) (t':=s.toks) (λ_ _ q=>NQ _ q) (KD _) (rY s.heap I.big),rfl,h _ (I.hok.fresh (KD _))⟩
end
noncomputable def ze:List (TE×TE)->St->Hp->(List (V×V)->Hp->Prop)->Prop
 | [],_,H,Q=>Q [] H
 | (tk,tv)::r,σ,H,Q=>tk σ H λx H1=>tv σ H1 λy H2=>ze r σ H2 λps H3=>Q ((x,y)::ps) H3
noncomputable abbrev VV:List (V×V)->List (NK×NK)->Prop:=Paired λp q=>Ui p.1 q.1/\Ui p.2 q.2
noncomputable def PPs(X:Cx)(pos:Pos)(keys:List (Option Expr))(values:List Expr)(trs:List (TE×TE)):Prop:=
 ∀(pins:List (NL×Obj))(s:NM)(σ:St)(H:Hp)(Q:List (V×V)->Hp->Prop),Inv X pins σ H s->ze trs σ H Q->
  wpAny (N0 X.prog X.w) X.A (evalPairs (pairTrees keys values X.env pos)) (λvs s'=>∃ps H',Inv X pins σ H' s'/\VV ps vs/\Q ps H') X.xe s
theorem qz{X:Cx}{pos:Pos}:PPs X pos [] [] []:=λpins s σ H Q I h=>pairTrees_nil_walk ⟨[],H,I,.nil,h⟩
theorem cG{X:Cx}{pos:Pos}{k v:Expr}{ks:List (Option Expr)}{vs:List Expr}{tk tv:TE}{trs:List (TE×TE)}(hk:PE X k tk)(hv:PE X v tv)(hr:PPs X pos ks vs trs) :
  PPs X pos (T9 k::ks) (v::vs) ((tk,tv)::trs):=λpins s σ H Q I h=>
 pairTrees_cons_walk (thn (hk pins s σ H _ I h) λu s1 ⟨x,H1,I1,rx,q1⟩=>thn (hv pins s1 σ H1 _ I1 q1) λw2 s2 ⟨y,H2,I2,ry,q2⟩=>
  thn (hr pins s2 σ H2 _ I2 q2) λws s3 ⟨ps,H3,I3,rel,q3⟩=>⟨(x,y)::ps,H3,I3,.cons ⟨rx,ry⟩ rel,q3⟩)
noncomputable def cm(kvs more:List (Key×V)):List (Key×V):=more.foldl (λacc kv=>Ue acc kv.1 kv.2) kvs
theorem KV.merge:∀{more:List (Key×V)}{rs:List (Key×NK)}{kvs:List (Key×V)}{vs:List (Key×NK)},KV more rs->KV kvs vs->KV (cm kvs more) (merged vs rs):=by
 intro more rs kvs vs r;unfold KV at r;induction r generalizing kvs vs with
 |nil=>intro q;exact q
 |@cons p q ps qs h t ih=>
  intro r0;have e:KV (Ue kvs p.1 p.2) (stored vs q.1 q.2):=by
   have:=r0.put p.1 h.2;rw[<-h.1];exact this
  exact ih e
theorem jV:∀(more kvs:List (Key×V)),(cm kvs more).length<=kvs.length+more.length
 | [],kvs=>by show kvs.length<=kvs.length+0;omega
 |p::r,kvs=>by
  have h1:=jV r (Ue kvs p.1 p.2);have h2:=jm kvs p.1 p.2;show(cm (Ue kvs p.1 p.2) r).length<=_;rw[Lb];omega
theorem rb{P:Program}{w:NW}:∀{kvs:List (Key×V)}{ws:List (NK×NK)},VV (kvs.map λkv=>(kV kv.1,kv.2)) ws->∃rs,Carries (cy P w) ws rs/\KV kvs rs
 | [],_,r=>by rw[ML]at r;cases r;exact⟨[],Lh,.nil⟩
 |p::kvs,_,r=>by
  rw[KP]at r;cases r with
  |@cons a b as bs h t=>
   obtain⟨rs,c,q⟩:=rb (P:=P) (w:=w) t;obtain⟨b1,b2⟩:=b;exact⟨(p.1,b2)::rs,⟨qH h.1,rfl,c⟩,.cons ⟨rfl,h.2⟩ q⟩
noncomputable def Jt(trs:List (TE×TE)):TE:=λσ H Q=>∀p,H p=Ua->ze trs σ (upd H p (.dK [])) λps H2=>H2 p=T9 (.dK [])/\∃kvs:List (Key×V),ps=kvs.map (λkv=>(kV kv.1,kv.2))/\kvs.length<=15/\Q (.ref p) (upd H2 p (.dK (cm [] kvs)))
theorem qy{X:Cx}{pos:Pos}{keys:List (Option Expr)}{values:List Expr}{trs:List (TE×TE)}(h:PPs X pos keys values trs)(hall:keys.all (·.isSome)=true)(hl:keys.length=values.length)(h0:keys≠[])
  (h15:keys.length<=15):PE X (.Dict keys values pos) (Jt trs):=by
 intro pins s σ H Q I q
 have hn:=I.hok.fresh (KD s.heap.objs.size)
 have I1:=I.laid (a:=s.heap.objs.size) (o:=.dK []) (h':=s.heap.push { cls:=.type "dict",data:=.dict #[] }) (t':=s.toks) (λ_ _ q=>NQ _ q) (KD _) (rY s.heap I.big)
 refine wpAny_Dict_walk (knd:=cy X.prog X.w) hall hl h0 h15 (thn (h pins _ σ _ _ I1 (q _ hn)) λws s2 ⟨ps,H2,I2,rel,e,kvs,ep,lk,q2⟩=>?_)
 subst ep
 obtain⟨rs,c,rk⟩:=rb (P:=X.prog) (w:=X.w) rel
 obtain⟨z,hd,vs0,r0,dd⟩:=BO I2.hok e
 cases r0
 refine⟨rs,c,dd,λh' dd' hs=>⟨.ref s.heap.objs.size,_,?_,rfl,q2⟩⟩
 have hz:(cm [] kvs).length<=sizeLine:=by
  have h1:=jV kvs [];rw[Nt]at h1;rw[Pg];omega
 have he:∃q,h'.get? s.heap.objs.size=T9 q:=let ⟨q,_,_,hq,_⟩:=dd';⟨q,hq⟩
 exact qD I2 (by rw[e];exact Lh) hs he (i8 hz hd (rk.merge .nil) dd')
structure M1(X:Cx)(o:Expr)(m:Str)(apos:Pos)(e:Expr)(cpos:Pos):Prop where
 base:OT o m X.env (OE o X.env)=OE o X.env
 few:((OK cpos (NX [e] X.env)).all (λx=>!x.1)&&(Qp cpos (Pj [] X.env)).all (λx=>x.1.isSome)
  &&decide (([e]:List Expr).length+([]:List P4).length+(if([]:List P4).isEmpty then 0 else 1)<30))=true
 line:(apos.endLine==cpos.line)=true
 trees:OK cpos (NX [e] X.env)=[(false,OE e X.env)]
structure M2(X:Cx)(o:Expr)(m:Str)(apos:Pos)(e f:Expr)(cpos:Pos):Prop where
 base:OT o m X.env (OE o X.env)=OE o X.env
 few:((OK cpos (NX [e,f] X.env)).all (λx=>!x.1)&&(Qp cpos (Pj [] X.env)).all (λx=>x.1.isSome)
  &&decide (([e,f]:List Expr).length+([]:List P4).length+(if([]:List P4).isEmpty then 0 else 1)<30))=true
 line:(apos.endLine==cpos.line)=true
 trees:OK cpos (NX [e,f] X.env)=[(false,OE e X.env),(false,OE f X.env)]
noncomputable def IsD(H:Hp)(a:NL):Prop:=(∃kvs,Rd H a (.dK kvs))\/∃kvs,Rd H a (.dT kvs)
theorem HQ{X:Cx}{pins:List (NL×Obj)}{σ:St}{H:Hp}{s:NM}{a:NL}(I:Inv X pins σ H s)(d:IsD H a) :
  s.TypeIs (.ref a) "dict"/\(∀b,NZ a=.ref b->∃ob,s.heap.get? b=T9 ob/\ob.dict=Ua)/\(a==OB)=false:=by
 rcases d with⟨kvs,e⟩|⟨kvs,e⟩
 ·obtain⟨_,hd,vs,_,dd⟩:=jf I.hok e;refine⟨dd.typeIs,λb q=>?_,hd⟩;cases q;obtain⟨ob,_,_,h1,h2,_⟩:=dd;exact⟨ob,h1,h2.2.1⟩
 obtain⟨_,hd,xs,_,dd⟩:=tT I.hok e
 refine⟨dd.typeIs,λb q=>?_,hd⟩
 cases q
 obtain⟨ob,_,_,h1,h2,_⟩:=dd
 exact⟨ob,h1,h2.2.1⟩
section
variable{X:Cx}{pins:List (NL×Obj)}{σ:St}{H:Hp}{s:NM}{a:NL}{y d:V}{u r:NK}{o:Option V}{A:Oh}{E:NK->NM->Prop}
theorem Fw{Q:NK->NM->Prop}(hu:A.units+1<OO)(I:Inv X pins σ H s)(g:cP H a y o)(ry:Ui y u)(h:∀w' s',Inv X pins σ H s'->Ui (o.getD .non) w'->Q w' s') :
  wpAny (N0 X.prog X.w) A (call (.builtin "dict.get") [.ref a,u]) Q E s:=by
 rcases g with⟨kvs,k,e,ey,l⟩|⟨kvs,k,b,e,ey,eb,l⟩
 ·subst ey;obtain⟨z,hd,vs,rel,dd⟩:=jf I.hok e;refine Qg PR dd.typeIs QW (QJ _ _) (meets_dict_get (cy X.prog X.w) a (qH ry) hd) ⟨_,dd.mapOf,h _ _ (I.tok _) ?_⟩;rw[l];exact(rel.val k).getD rfl
 subst ey
 cases (show u=NZ b from ry)
 obtain⟨z,hd,xs,rel,dd⟩:=tT I.hok e
 refine Qg PR dd.typeIs QW (QJ _ _) (meetsH_dict_get (QF (cy X.prog X.w)) a b hd) ⟨Py hu,k,xs,rD I.hok eb,dd,h _ _ (I.tok _) ?_⟩
 rw[l]
 exact(rel.val k).getD rfl
end
noncomputable def Fl(td ty:TE):TE:=λσ H Q=>td σ H λx H1=>∃a,x=.ref a/\IsD H1 a/\ty σ H1 λy H2=>∃o,cP H2 a y o/\Q (o.getD .non) H2
section
variable{X:Cx}{o e f:Expr}{apos cpos:Pos}{td ty tx:TE}
theorem Ce(hu:X.A.units+1<OO)(ho:PE X o td)(he:PE X e ty)(m:M1 X o "get" apos e cpos):PE X (.Call (.Attribute o "get" apos) [e] [] cpos) (Fl td ty):=by
 intro pins s σ H Q I h;refine wpAny_Call_method m.base m.few m.line PySem.F.plainAttrs_dict PR PySem.F.type_dict_get (thn (ho pins s σ H _ I h) λu s1 ⟨x,H1,I1,rx,a,ex,d,q1⟩=>?_);subst ex;obtain rfl:u=NZ a:=rx;obtain⟨t1,t2,_⟩:=HQ I1 d;refine⟨t1,t2,?_⟩;rw[m.trees];refine PJ rfl (Rb (RM (thn (he pins s1 σ H1 _ I1 q1) λiv s2 ⟨y,H2,I2,ry,ov,g,q2⟩=>Sq ?_)));exact Fw hu I2 g ry λw' s3 I3 rw'=>⟨_,H2,I3,rw',q2⟩
end
section
variable{X:Cx}{pins:List (NL×Obj)}{σ:St}{H:Hp}{s:NM}{a:NL}{kvs:List (Key×V)}{A:Oh}{E:NK->NM->Prop}
end
section
variable{X:Cx}{pins:List (NL×Obj)}{σ:St}{H:Hp}{s:NM}{a:NL}{y:V}{u:NK}{A:Oh}{E:NK->NM->Prop}
end
section
variable{X:Cx}
theorem xF(hu:X.A.units+64<OO):IxR X (λx y H Q=>∃a v,x=.ref a/\cP H a y (T9 v)/\Q v H):=by
 intro value slice pins s σ H x y v u Q I rx ry h hs;obtain⟨a,z,rfl,g,q⟩:=h;cases rx;have hT:=w8 I g;unfold RI;refine NN ?_;rw[getitemInPython_of_ne hT.not_modules];refine NN (wpAny_specialOf hT PySem.F.slot_dict_getitem.lookup ?_);have h₂:wpAny (N0 X.prog X.w) X.A (Rv (.ref a) u) (EP X pins σ Q) X.xe s:=AX (by omega) I g ry λw' s3 I3 rw'=>⟨z,H,I3,rw',q⟩;have fin:wpAny (N0 X.prog X.w) X.A (subscripted slice false (.ref a) u) (λr s₃=>wpAny (N0 X.prog X.w) X.A (letTemporaryGo value (.ref a) r>>=λ_=>pure r) (EP X pins σ Q) X.xe s₃) X.xe s:=by
  rw[hs];exact wpAny_operating (OU h₂ (λr s₃ h₃=>NN (wpAny_letTemporaryGo (NU h₃))) λ_ _ x=>x)
 first
  |exact NU (NN fin)
  |exact NN (NU (NN fin))
  |exact NN fin
inductive dgI(p:NL)(y:V)(H:Hp)(Q:VK):Prop
 |mk(v:V)(h:cP H p y (T9 v))(q:Q v H):dgI p y H Q
noncomputable def IT(K:NO):R2:=λx y H Q=>match x,y with
 | .ref p,.int i=>ixS K p i H Q\/dgI p (.int i) H Q
 | .ref p,.str k=>dgI p (.str k) H Q
 | .str z,.int i=>∃c,z.length<=sizeLine/\atI z.cps.toList i=T9 c/\Q (.str ⟨#[c]⟩) H
 |_,_=>False
theorem FX(hu:X.A.units+64<OO):IxR X (IT X.K):=by
 intro value slice pins s σ H x y v u Q I rx ry h hs;cases x with
 |ref p=>
  cases y with
  |int i=>
   rcases h with h|⟨w,g,q⟩
   ·exact BP value slice pins s σ H _ _ v u Q I rx ry h hs
   exact xF hu value slice pins s σ H _ _ v u Q I rx ry ⟨p,w,rfl,g,q⟩ hs
  |str k=>
   obtain⟨w,g,q⟩:=h;exact xF hu value slice pins s σ H _ _ v u Q I rx ry ⟨p,w,rfl,g,q⟩ hs
  |_=>exact(show False from h).elim
 |str z=>
  cases y with
  |int i=>exact BP value slice pins s σ H _ _ v u Q I rx ry h hs
  |_=>exact(show False from h).elim
 |_=>cases y<;>exact(show False from h).elim
theorem wz(hu:X.A.units+64<OO):Ck X (λo i v H Q=>∃a H',o=.ref a/\cY H a i v H'/\Q H'):=by
 intro pins s σ H o i v ov iv u Q I ro ri rv h;obtain⟨a,H',rfl,g,q⟩:=h;cases ro;exact AG (by omega) I g ri rv λs4 I4=>⟨H',I4,q⟩
inductive dpI(p:NL)(y v:V)(H:Hp)(Q:Hp->Prop):Prop
 |mk(H':Hp)(h:cY H p y v H')(q:Q H'):dpI p y v H Q
inductive stL(p:NL)(k:Int)(v:V)(H:Hp)(Q:Hp->Prop):Prop
 |mk(xs:List V)(j:Nat)(h0:H p=T9 (.lst xs))(h1:ixN xs.length k=T9 j)(q:Q (upd H p (.lst (xs.set j v)))):stL p k v H Q
noncomputable def Il:DE:=λo i v H Q=>match o,i with
 | .ref p,.int k=>stL p k v H Q\/dpI p (.int k) v H Q
 | .ref p,.str k=>dpI p (.str k) v H Q
 |_,_=>False
theorem bu(hu:X.A.units+64<OO)(hl:Ck X Fc):Ck X Il:=by
 intro pins s σ H o i v ov iv u Q I ro ri rv h;cases o with
 |ref p=>
  cases i with
  |int k=>
   rcases h with⟨xs,j,h1,h2,q⟩|⟨H',g,q⟩
   ·exact hl pins s σ H _ _ v ov iv u Q I ro ri rv ⟨p,xs,k,j,rfl,rfl,h1,h2,q⟩
   exact wz hu pins s σ H _ _ v ov iv u Q I ro ri rv ⟨p,H',rfl,g,q⟩
  |str k=>
   obtain⟨H',g,q⟩:=h;exact wz hu pins s σ H _ _ v ov iv u Q I ro ri rv ⟨p,H',rfl,g,q⟩
  |_=>exact(show False from h).elim
 |_=>cases i<;>exact(show False from h).elim
theorem Jd(hu:X.A.units+64<OO):OpR X (Oe .In) (λx y H Q=>∃a o,y=.ref a/\cP H a x o/\Q (.bl o.isSome) H):=by
 intro pins s σ H x y v u Q I rx ry h;obtain⟨a,o,rfl,g,q⟩:=h;cases ry;exact Ko (by omega) I g rx λs3 I3=>⟨.bl o.isSome,H,I3,rfl,q⟩
theorem BN(hu:X.A.units+64<OO):OpR X (Oe .In) (λx y H Q=>fIn X.K false x y H Q\/∃a o,y=.ref a/\cP H a x o/\Q (.bl o.isSome) H):=JK.or (Jd hu)
theorem GL:dE X (.builtin "len") (λxs H Q=>∃a kvs,xs=[.ref a]/\Rd H a (.dK kvs)/\Q (.int (kvs.length:Nat)) H):=by
 intro pins s σ H xs us Q I r h;obtain⟨a,kvs,rfl,e,q⟩:=h;obtain⟨u,rfl,rfl⟩:=Ut r;exact Io I e λt s' I'=>⟨.int _,H,I',⟨_,rfl⟩,q⟩
end
end L2
namespace PySem
open Sem (wp)
section
variable{prog:Program}{w:NW}{A:Oh}{E:NK->NM->Prop}{s:NM}
theorem vc:typeLookup (.type "list") "keys"=pure Ua:=am_miss_of_fast (by kernel_rfl)
theorem uW{a:NL}{o:Obj}{xs:Array NK}{k:Nat}{Q:Option NK->NM->Prop}(hx:s.heap.get? a=T9 o)(hc:o.cls=.type "list")(hdat:o.data=.seq xs k)(hd:o.dict=Ua)(hA:A.handled=Ua)
  (h:∀h' tk,(∀b ob,s.heap.get? b=T9 ob->h'.get? b=T9 ob)->Q Ua { s with heap:=h',toks:=tk }):wpAny (N0 prog w) A (getAttr? (.ref a) "keys") Q E s:=by
 obtain⟨c,dct,dat,sl⟩:=o
 simp only at hc hdat hd
 subst hc hdat hd
 obtain⟨hp,g,d,tk,os⟩:=s
 have hT:∀tk',(⟨hp,g,d,tk',os⟩:NM).TypeIs (.ref a) "list":=λ_=>⟨_,hx,rfl⟩
 have f1:=sub_AttributeError
 have f3:=F.slot_list_getattribute.lookup
 have f4:=F.slot_list_getattribute.bind (.ref a)
 have f5:=am_list_getattr_none
 have hmiss:=vc
 have hname:(["__module__","__name__","__qualname__","__doc__","__annotations__"]:List Str).contains "keys"=false:=by decide+kernel
 unfold getAttr? getAttrBy? getAttrBy
 repeat (any_goals (first|assumption|exact hT _|((with_reducible show wpAny _ _ (call (Value.builtin "list.__getattribute__") _ _) _ _ _);refine Qs F.slot_list_getattribute (hT _) am_entry_list_getattribute (F.args_list_getattribute_2 _ _) (meets_getattribute_miss_list a xs k sl "keys" _ hmiss hname (by decide)) ⟨hx,hA,λh' tk' e hx'=>?_⟩)|wp_step))
 obtain⟨t',u',he⟩:=hx'.there
 have hTe:(⟨h',g,d,tk',os⟩:NM).TypeIs (.ref e) "AttributeError":=⟨_,he,rfl⟩
 show wpAny _ _ (RX _ _ _ _ _ _ _) _ _ _
 unfold RX
 repeat (any_goals (first|assumption|wp_step))
 exact h _ _ hx'.keeps
end
end PySem
namespace L2
open PySem PySem.Spec PyProof.Rows
theorem mM:entryFor table "dict.update.loop"=T9 PD.«dict.update.loop»:=entryFor_of_tree (by kernel_rfl)
theorem fC:plainId "dict.update.loop"=true:=by decide+kernel
section
variable{X:Cx}{pins:List (NL×Obj)}{σ:St}{H0:Hp}{A:Oh}
theorem pair_items{prog:Program}{w:NW}{E:NK->NM->Prop}{s:NM}{t:NL}{its:Array NK}{Q:List NK->NM->Prop}(h:s.heap.IsTuple t its)(q:Q its.toList s):wpAny (N0 prog w) A (QX (.ref t)) Q E s:=by
 obtain⟨o,ho,hc,n,hd⟩:=h;unfold QX;refine NN (Ss ⟨o,ho,hc⟩ ?_);rw[if_pos (by decide)];refine NN ?_;obtain⟨c,dct,dat,sl⟩:=o;simp only at hc hd;subst hc hd;obtain⟨hp,g,d,tk,os⟩:=s;repeat (any_goals (first|assumption|wp_step))
theorem yV(kvs:List (Key×V))(i:Nat){k:Key}{v:V}(h:kvs[i]?=T9 (k,v)):cm [] (kvs.take (i+1))=Ue (cm [] (kvs.take i)) k v:=by
 unfold cm;rw[Lx,h,Sy];rfl
theorem CV(hc:X.calm=true){l p it:NL}{ps:List NL}{kvs:List (Key×V)}{R:TZ->NM->Prop}(hA:A.handled=Ua)(hl:SqL X.K H0 l (ps.map V.ref))(hlen:ps.length=kvs.length)(hn:kvs.length<=1000)
  (hps:∀(i:Nat) t k v,ps[i]?=T9 t->kvs[i]?=T9 (k,v)->SqT X.K H0 t [kV k,v]) (hp:H0 p=Ua)
  (fin:∀s',Inv X pins σ (upd H0 p (.dK (cm [] kvs))) s'->R (.ok (.ret .none)) s') :
  ∀(n i:Nat)(s:NM),n+i=ps.length->Inv X pins σ (upd H0 p (.dK (cm [] (kvs.take i)))) s->sL X pins (upd H0 p (.dK (cm [] (kvs.take i)))) it->s.heap.IsListIter it l i->
   codeAny (N0 X.prog X.w) A (.builtin "dict.update.loop" ⟨[.ref p,.ref it,SK i,.none],[]⟩) R s:=by
 intro n
 induction n with
 |zero=>
  intro i s hi I hf st
  refine OQ mM ?_
  rw[Ou fC _]
  have sm:=aq.upd hp (.dK (cm [] (kvs.take i)))
  obtain⟨its,rv,pl,hz⟩:=I.list (sm.seq hl)
  have hll:=rv.length
  rw[Kx]at hll
  obtain⟨f0,f1,f2,f3,f4,f5⟩:=hf
  unfold PD.«dict.update.loop»
  refine NN (Q1 hA st pl.isList (by simp;omega) λh' eb=>?_)
  have I':Inv X pins σ (upd H0 p (.dK (cm [] (kvs.take i)))) { s with heap:=h' }:=I.turned (t':=s.toks) (λb o hb e=>eb b o hb e) f0 f1 f3 f4 f5
  rw[Mt (by omega)]at I'
  exact NN (NU (NU (fin _ I')))
 |succ n ih=>
  intro i s hi I hf st
  refine OQ mM ?_
  rw[Ou fC _]
  have sm:=aq.upd hp (.dK (cm [] (kvs.take i)))
  obtain⟨its,rv,pl,hz⟩:=I.list (sm.seq hl)
  have hll:=rv.length
  rw[Kx]at hll
  obtain⟨t,ht⟩:∃t,ps[i]?=T9 t:=⟨ps[i]'(by omega),Kv (by omega)⟩
  obtain⟨⟨k,v⟩,hk⟩:∃kv,kvs[i]?=T9 kv:=⟨kvs[i]'(by omega),Kv (by omega)⟩
  obtain⟨u,hu1,hu2⟩:=rv.get (x:=.ref t) (i:=i) (by rw[KO,ht];rfl)
  cases hu2
  obtain⟨f0,f1,f2,f3,f4,f5⟩:=hf
  unfold PD.«dict.update.loop»
  refine NN (QP st pl.isList (x:=.ref t) (by simpa using hu1) λh' st' sb=>?_)
  have I1:Inv X pins σ (upd H0 p (.dK (cm [] (kvs.take i)))) { s with heap:=h' }:=I.turned (t':=s.toks) (λb o hb e=>(sb.2 b hb).trans e) f0 f1 f3 f4 f5
  obtain⟨jts,rj,pt,_⟩:=I1.tuple (sm.tup (hps i t k v ht hk))
  obtain⟨u1,u2,e12,r1,r2⟩:∃u1 u2,jts=[u1,u2]/\Ui (kV k) u1/\Ui v u2:=by
   cases rj with
   |cons r1 q=>cases q with
    |cons r2 q=>cases q;exact⟨_,_,rfl,r1,r2⟩
  subst e12
  refine NN (wpAny_holding (NN (wpAny_tryCatch (pair_items pt ?_))))
  show wpAny _ _ (Pr [u1,u2] (dictSet p u1 u2)) _ _ _
  refine wpAny_holding ?_
  obtain⟨z,hd,vs,rel,dd⟩:=BO I1.hok (aj (H:=H0) (a:=p) (o:=.dK (cm [] (kvs.take i))))
  have hz':vs.length<=sizeLine:=by rw[<-rel.length];exact z
  have hlk:(cm [] (kvs.take i)).length<=1000:=by
   have:=jV (kvs.take i) [];rw[LA,Nt]at this;omega
  have hlp:(Ue (cm [] (kvs.take i)) k v).length<=sizeLine:=by
   have h1:=jm (cm [] (kvs.take i)) k v;have h2:=ax hlk;omega
  refine wpAny_dictSet_pairs (hsz:=hz') (qH r1) dd λh2 dd' hs=>?_
  have he:∃q,h2.get? p=T9 q:=let ⟨q,_,_,hq,_⟩:=dd';⟨q,hq⟩
  have I2:=qD (t':=s.toks+1) (ob:=.dK (Ue (cm [] (kvs.take i)) k v)) I1 (by rw[aj];exact Lh) hs he (i8 hlp hd (rel.put k r2) dd')
  rw[mT,<-yV kvs i hk]at I2
  have hne:it≠p:=λz=>by rw[z,aj]at f0;cases f0
  have f0':upd H0 p (.dK (cm [] (kvs.take (i+1)))) it=Ua:=by
   rw[ay hne]at f0⊢;exact f0
  refine NU ⟨O2 fC _,?_⟩
  have ec:((i:Int)+1)=((i+1:Nat):Int):=by push_cast;rfl
  rw[ec]
  exact ih (i+1) _ (by omega) I2 ⟨f0',f1,f2,f3,f4,f5⟩ (st'.at λo e=>(hs.2 it hne).trans e)
theorem DL(hc:X.calm=true:=by rfl):dE X (.type "dict") (λxs H Q=>∃(l:NL)(ps:List NL)(kvs:List (Key×V)),xs=[.ref l]/\SqL X.K H l (ps.map V.ref)/\ps.length=kvs.length/\kvs.length<=1000/\
  (∀(i:Nat) t k v,ps[i]?=T9 t->kvs[i]?=T9 (k,v)->SqT X.K H t [kV k,v])/\∀p,H p=Ua->Q (.ref p) (upd H p (.dK (cm [] kvs)))):=by
 intro pins s σ H xs us Q I r h
 obtain⟨l,ps,kvs,rfl,hl,hlen,hn,hps,q⟩:=h
 obtain⟨u,rfl,rfl⟩:=Ut r
 have hA:=I.ok.hd hc
 have hp:=I.hok.fresh (KD s.heap.objs.size)
 have I1:=I.laid (a:=s.heap.objs.size) (o:=.dK []) (t':=s.toks) (h':=s.heap.push { cls:=.type "dict",data:=.dict #[] }) (λ_ _ q=>NQ _ q) (KD _) (rY s.heap I.big)
 refine callType_codes (Q₁:=λobj s₁=>obj=.ref s.heap.objs.size/\s₁={ s with heap:=s.heap.push { cls:=.type "dict",data:=.dict #[] } }) F.kt_called_dict (F.kt_typeCall_dict_1 _) F.entry_dict_init (kt_code_dict_new _ ⟨rfl,rfl⟩) ?_
 rintro obj s₁ ⟨rfl,rfl⟩
 have hnew:(s.heap.push { cls:=.type "dict",data:=.dict #[] }).DictOf (cy X.prog X.w) s.heap.objs.size []:=Tf s.heap
 have sm:=aq.upd hp (.dK [])
 obtain⟨its,rv,pl,hz⟩:=I1.list (sm.seq hl)
 obtain⟨o,n,ho,hoc,hod,hos⟩:=id pl
 refine⟨hnew.typeIs,F.args_dict_init_2 _ _,?_⟩
 unfold PD.«dict.__init__»
 refine NN ?_
 unfold Builtin.Dict.selfAndRest
 refine NN (Pc hnew.typeIs ?_)
 show wpAny _ _ (pure (s.heap.objs.size,[NZ l])) _ _ _
 refine NU ?_
 show wpAny _ _ (QK "dict.__init__" s.heap.objs.size (.ref l) [] .none) _ _ _
 unfold QK
 refine NN (Ss ⟨o,ho,hoc⟩ ?_)
 rw[if_pos (by decide)]
 refine NN (uW ho hoc hos hod hA λh2 tk2 k2=>?_)
 have I2:Inv X pins σ (upd H s.heap.objs.size (.dK [])) { s with heap:=h2,toks:=tk2 }:=I1.kept (t':=tk2) k2
 rw[if_pos (show(Ua:Option NK).isNone=true from rfl)]
 obtain⟨its2,rv2,pl2,_⟩:=I2.list (sm.seq hl)
 refine NN (wpAny_rule (NN (Qx pl2.isList ?_)))
 refine NU ⟨O2 fC _,?_⟩
 have I3:=I2.kept (h':=h2.push { cls:=.type "list_iterator",data:=.fields #[.ref l,.int 0 0] }) (t':=tk2) λb o e=>NQ _ e
 have fp:=I2.yJ (H':=upd H s.heap.objs.size (.dK [])) (KD _) (I2.hok.fresh (KD _))
 refine CV (X:=X) (H0:=H) (A:=X.A.in1) (p:=s.heap.objs.size) (kvs:=kvs) hc hA hl hlen hn hps hp (λs' I'=>?_) ps.length 0 _ rfl I3 fp ⟨_,Ob _ rfl,rfl,rfl⟩
 exact⟨rfl,.ref s.heap.objs.size,_,I',rfl,q _ hp⟩
end
section
variable{X:Cx}{pins:List (NL×Obj)}{σ:St}{H:Hp}{s:NM}
theorem Inv.zk{h':Oi}{t':Nat}{ch:List NL}(I:Inv X pins σ H s)(hf:∀b∈ch,sL X pins H b)(k:∀b o,b∉ch->s.heap.get? b=T9 o->h'.get? b=T9 o):Inv X pins σ H { s with heap:=h',toks:=t' }:=by
 have nit:∀b u,H b=T9 u->b∉ch:=λb u e z=>by rw[(hf b z).1]at e;cases e
 refine I.step (g':=s.gens) (d':=s.drawn) (ch:=ch) (λb hb=>⟨(hf b hb).2.2.2.1,(hf b hb).2.1,(hf b hb).2.2.2.2.1,(hf b hb).2.2.2.2.2⟩) (λb o _ _ hc e _=>k b o hc e) (λb o _ _ hc e _=>⟨o.slots,k b o hc e⟩) (λ_ _ _ _ n=>n)
  (λb o hc e=>⟨o,k b o hc e⟩) (λ_ _ e=>e) (λ_ _ _ e=>e) (λb ps e=>⟨#[],by rw[e];simp⟩) (λm hm=>?_) (λb u e=>?_) I.bare
 ·obtain⟨o,es,ep,ho,r⟩:=hm;exact⟨o,es,ep,k _ o (λz=>(hf _ z).2.1 rfl) ho,r⟩
 refine(I.hok b u e).yI (λc v hc q=>k c v ?_ q) (λ_ q=>q) λ_ _ q=>q;rcases hc with rfl|hc
 ·exact nit _ _ e
 exact nit _ _ hc
theorem Inv.Jf{T:NL}{u:HO}(I:Inv X pins σ H s)(hf:sL X pins H T)(hz:X.s₀.heap.objs.size<=T)(new:dB X.prog X.w (upd H T u) s.heap T u):Inv X pins σ (upd H T u) s:=by
 obtain⟨f0,f1,f2,f3,f4,f5⟩:=hf;have ne0:∀b o,X.s₀.heap.get? b=T9 o->b≠T:=λb o e=>Ll (KY (NY e) hz);have neS:∀b v,H b=T9 v->b≠T:=λb v e z=>by rw[z,f0]at e;cases e
 refine⟨I.ok,I.os,I.bare,⟨I.base.keep,I.base.slot,λb o e n hx=>by rw[ay (ne0 b o e)];exact I.base.free b o e n hx,I.base.there,λb xs e=>by
   have:=I.base.vq b xs e;rw[ay (neS b _ this)];exact this,λb o v e=>by
   have:=I.base.sN b o v e;rw[ay (neS b _ this)];exact this,λb ps e=>by
   obtain⟨more,q⟩:=I.base.uP b ps e;exact⟨more,by rw[ay (neS b _ q)];exact q⟩⟩,I.loc,I.cell,by rw[ay (LF f1)];exact I.free,λx c e=>by rw[ay (f4 x c e)];exact I.lQ x c e,
  λp hp=>by rw[ay (f5 p hp)];exact I.pin p hp,λb v e=>?_,I.len⟩
 by_cases hb:b=T
 ·subst hb;rw[aj]at e;cases e;exact new
 rw[ay hb]at e;exact(I.hok b v e).yI (λ_ _ _ q=>q) (λc q=>by rw[ay (neS c _ q)];exact q) λc xs q=>by rw[ay (neS c _ q)];exact q
end
theorem Ii{P:Program}{w:NW}{k:Key}{u:NK}(h:(cy P w).is k u=true):Ui (kV k) u:=by
 cases k with
 |inl i=>obtain⟨t,e⟩:=Sd (show S1 i u=true from h);exact⟨t,e⟩
 |inr x=>obtain⟨t,e⟩:=Rz (show RE x u=true from h);exact⟨t,e⟩
section
variable{X:Cx}
end
theorem nI{α β:Type}{F:α->β->Prop}:∀{l₁:List α}{l₂:List β},l₁.length=l₂.length->(∀(i:Nat) a b,l₁[i]?=T9 a->l₂[i]?=T9 b->F a b)->Paired F l₁ l₂
 | [],[],_,_=>.nil
 | [],_::_,h,_=>by simp at h
 |_::_,[],h,_=>by simp at h
 |x::xs,y::ys,h,f=>.cons (f 0 x y rfl rfl) (nI (by simpa using h) λi a b ha hb=>f (i+1) a b (by simpa using ha) (by simpa using hb))
theorem ux{α β:Type}{F:α->β->Prop}{l₁:List α}{l₂:List β}(h:Paired F l₁ l₂):∀{i:Nat}{a:α}{b:β},l₁[i]?=T9 a->l₂[i]?=T9 b->F a b:=by
 induction h with
 |nil=>intro i a b h;simp at h
 |cons r t ih=>
  intro i a b ha hb;cases i with
  |zero=>simp only[Ms,PK]at ha hb;subst ha hb;exact r
  |succ j=>exact ih (by simpa using ha) (by simpa using hb)
section
variable{X:Cx}{tg:Expr}
theorem Ec(hc:X.calm=true:=by rfl):dE X (.type "list") (λxs H Q=>∃d kvs,xs=[.ref d]/\Rd H d (.dK kvs)/\∀l,H l=Ua->Q (.ref l) (upd H l (.lst (kvs.map λkv=>kV kv.1)))):=by
 intro pins s σ H xs us Q I r h;obtain⟨d,kvs,rfl,e,q⟩:=h;obtain⟨u,rfl,rfl⟩:=Ut r;obtain⟨z,hs,vs,rel,dd⟩:=jf I.hok e;obtain⟨ep,dat⟩:=dd.dictAt;have hl:=rel.length;refine W.kdl_call (W.kdl_dict (knd:=cy X.prog X.w) (kvs:=vs) (ep:=ep) hs) (I.ok.hd hc) dat (by omega) λh' tk acc c hk hS hacc=>?_;have hp:=I.hok.fresh (KD s.heap.objs.size);refine⟨.ref s.heap.objs.size,_,I.laid (a:=s.heap.objs.size) (o:=.lst (kvs.map λkv=>kV kv.1)) (t':=tk) hk (KD _) ⟨by rw[Kx];exact z,acc.toList,c,?_,by simpa using hS⟩,rfl,q _ hp⟩;have hsz:acc.size=vs.length:=hacc.1;refine nI (by simp[hsz,hl]) λi x y hx hy=>?_;rw[KO]at hx;obtain⟨k,v,hv,hk⟩:=hacc.2 i y (by rw[<-Mw];exact hy);cases hkv:kvs[i]? with
 |none=>rw[hkv]at hx;cases hx
 |some kv=>
  rw[hkv]at hx;have hx':kV kv.1=x:=NP hx;have:=congrArg (λl=>l[i]?) rel.keys;simp only[KO,hkv,hv]at this;have hkk:kv.1=k:=by simpa using this
  rw[<-hx',hkk];exact Ii hk
end
section
variable{prog:Program}{w:NW}{K:Type}[DecidableEq K]{knd:KeyKind prog w K}{A:Oh}{E:NK->NM->Prop}{s:NM}
theorem mX{d:NL}{Q:Unit->NM->Prop}(hd:(d==OB)=false)(q:Q () s):wpAny (N0 prog w) A (Q2 d) Q E s:=by
 unfold Q2;rw[if_neg (by rw[hd];exact KJ)];exact NU q
theorem rA{k:K}{v:NK}{es:List SG}{lvs:List (K×NK)}(h:Pairs knd es lvs):valueAt lvs k=T9 v->∃j e,(es.findIdx? λe=>knd.is k e.key)=T9 j/\es[j]?=T9 e/\e.val=v:=by
 induction h with
 |nil=>intro z;cases z
 |@cons e kv es lvs h1 h2 t ih=>
  intro z;by_cases hk:kv.1=k
  ·subst hk;have:valueAt (kv::lvs) kv.1=T9 kv.2:=by simp[valueAt,Lw]
   rw[this]at z;exact⟨0,e,by rw[RY,if_pos h1],rfl,by rw[h2];exact NP z⟩
  have:valueAt (kv::lvs) k=valueAt lvs k:=by simp[valueAt,Lw,hk]
  rw[this]at z;obtain⟨j,f,hj,hf,hv⟩:=ih z;have hn:¬ knd.is k e.key=true:=λq=>hk (knd.inj _ _ _ h1 q);exact⟨j+1,f,by rw[RY,if_neg hn,hj];rfl,hf,hv⟩
theorem rn{id:String}{a b:NL}{kvs lvs:List (K×NK)}{Q:Bool->NM->Prop}(hda:(a==OB)=false)(hdb:(b==OB)=false)(ha:s.heap.DictOf knd a kvs)(hb:s.heap.DictOf knd b lvs)(hl:kvs.length=lvs.length)
  (hv:∀(i:Nat) k v,kvs[i]?=T9 (k,v)->∃v',valueAt lvs k=T9 v'/\P0 A s v v' true) (q:Q true s):wpAny (N0 prog w) A (Ow id a b) Q E s:=by
 obtain⟨o,es,ep,ho,hx,hd,hk,hp,hn⟩:=ha
 obtain⟨o2,es2,ep2,ho2,hx2,hd2,hk2,hp2,hn2⟩:=hb
 have hz:es.size=kvs.length:=by rw[<-hp.length];simp
 have hz2:es2.size=lvs.length:=by rw[<-hp2.length];simp
 unfold Ow
 refine NN (mX hda ?_)
 refine NN (mX hdb ?_)
 refine NN (OI ho hd ?_)
 refine NN (OI ho2 hd2 ?_)
 rw[if_neg (by simp;omega)]
 refine NN (Q0 ho hd ?_)
 refine NN ?_
 rw[Pk]
 simp only[Q3,Nat.sub_zero,RZ,Nat.div_one]
 refine SU _ (λrest b s'=>b=(Ua,())/\s'=s/\∀i∈rest,i<es.size) _ ?_ ?_ _ _ ⟨rfl,rfl,λi hi=>?_⟩
 ·rintro i rest c s' ⟨rfl,rfl,hr⟩;have hi:i<es.size:=hr i (by simp);refine NN (OI ho hd ?_);rw[Qu hi];obtain⟨⟨k,v⟩,hkv⟩:∃kv,kvs[i]?=T9 kv:=⟨kvs[i]'(by omega),Kv (by omega)⟩;obtain⟨hkey,hval⟩:=hp.get? (e:=es[i]) (by simp[hi]) hkv;obtain⟨k',hk',hh⟩:=hk es[i] (Ni hi);obtain⟨v',hv',he⟩:=hv i k v hkv;have hkk:k'=k:=knd.inj _ _ _ hk' hkey;subst hkk;show wpAny _ _ (Pr [es[i].key,es[i].val] _>>=_) _ _ _;refine NN (wpAny_holding ?_);rw[hh,hval];refine NN (Sz hkey ho2 hd2 hk2 ?_);obtain⟨j,f,hj,hf,hfv⟩:=rA hp2 hv';rw[<-Q4,Rc]at hj;rw[Mw]at hf;rw[hj];refine NN (OI ho2 hd2 ?_);rw[hf];show wpAny _ _ (Pr [f.val] (eqBool v f.val)) _ _ _;rw[hfv];refine wpAny_holding (he _ _ _ _ ?_);rw[if_neg (by decide)];refine NN (Q0 ho hd ?_);rw[if_neg (by simp)];exact NU ⟨rfl,rfl,λz hz=>hr z (Kw _ hz)⟩
 ·rintro c s' ⟨rfl,rfl,_⟩;exact NU q
 have:=(Nj.mp hi).2
 omega
end
theorem vA{κ:Type}[DecidableEq κ]:∀{kvs:List (κ×V)}{i:Nat}{k:κ}{v:V},(kvs.map (·.1)).Nodup->kvs[i]?=T9 (k,v)->fB kvs k=T9 v
 | [],i,k,v,_,h=>by simp at h
 |p::r,0,k,v,_,h=>by
  simp only[Ms,PK]at h;subst h;exact mK (p:=(k,v)) rfl
 |p::r,i+1,k,v,hn,h=>by
  rw[KP]at hn;have hr:=KU.mp hn;have hi:r[i]?=T9 (k,v):=by simpa using h
  have hne:¬ p.1=k:=λz=>hr.1 (by rw[z];exact MB (f:=(·.1)) (KI hi));rw[oK hne];exact vA hr.2 hi
section
variable{X:Cx}
noncomputable def CC(K:NO)(H:Hp)(v v':V):Prop:=(v=v'/\uE v=true)\/∃p q xs,v=.ref p/\v'=.ref q/\SqL K H p xs/\SqL K H q xs/\xs.all uE=true
theorem Ag{pins:List (NL×Obj)}{σ:St}{H:Hp}{s:NM}{A:Oh}{v v':V}{u u':NK}(I:Inv X pins σ H s)(hu:A.units<OO)(h:CC X.K H v v')(r:Ui v u)(r':Ui v' u'):P0 A s u u' true:=by
 rcases h with⟨rfl,hf⟩|⟨p,q,xs,rfl,rfl,hp,hq,hf⟩
 ·exact pF hf r r' A s
 cases r;cases r';by_cases hpq:p=q
 ·subst hpq;exact .same _
 obtain⟨its,r1,⟨o,n,e1,c1,_,d1⟩,_⟩:=I.list hp;obtain⟨jts,r2,⟨o2,n2,e2,c2,_,d2⟩,_⟩:=I.list hq;have l1:=r1.length;have l2:=r2.length;have hR:=SeqAt.RcAt.lists (A:=A) (s:=s) (e:=λ_=>true) (l:=p) (b:=q) (items:=its.toArray) (items2:=jts.toArray) ⟨o,e1,c1,n,d1⟩ ⟨o2,e2,c2,n2,d2⟩ (by simp;omega) hu (λj h1 h2=>by
  simp at h1 h2;obtain⟨x,hx⟩:∃x,xs[j]?=T9 x:=⟨xs[j]'(by omega),Kv (by omega)⟩;obtain⟨u1,g1,w1⟩:=r1.get hx;obtain⟨u2,g2,w2⟩:=r2.get hx;have z1:its.toArray[j]'(by simpa using h1)=u1:=by
   have:=Kv h1;rw[g1]at this;simpa using (NP this).symm
  have z2:jts.toArray[j]'(by simpa using h2)=u2:=by
   have:=Kv h2;rw[g2]at this;simpa using (NP this).symm
  rw[z1,z2];exact pF (Mp.mp hf x (KI hx)) w1 w2 _ _)
 have:((Od its.toArray.size).all λ_=>true)=true:=by simp
 rw[this]at hR;exact .of_refs hpq hR
theorem Jx(hu:X.A.units+64<OO):OpR X (Oe .Eq) (λx y H Q=>∃a b kvs lvs,x=.ref a/\y=.ref b/\Rd H a (.dK kvs)/\Rd H b (.dK lvs)/\kvs.length=lvs.length/\
  (∀k v,fB kvs k=T9 v->∃v',fB lvs k=T9 v'/\CC X.K H v v')/\Q (.bl true) H):=by
 intro pins s σ H x y v u Q I rx ry h
 obtain⟨a,b,kvs,lvs,rfl,rfl,ha,hb,hl,hv,q⟩:=h
 cases rx
 cases ry
 obtain⟨z,hs,vs,rel,dd⟩:=jf I.hok ha
 obtain⟨z2,hs2,vs2,rel2,dd2⟩:=jf I.hok hb
 have e1:=rel.length
 have e2:=rel2.length
 refine OD (op:=.Eq) dd.typeIs dd2.typeIs OM (PZ OM dd.typeIs PU ?_ (PL _ _)) (by omega)
 show wpAny _ _ (Oy "__eq__" ⟨[.ref a,.ref b],[]⟩>>=_) _ _ _
 refine NN ?_
 unfold Oy
 refine NN (Pc dd.typeIs ?_)
 show wpAny _ _ (pure (NZ a,NZ b)) _ _ _
 refine NU ?_
 refine NN (QL (T:="dict") (b:=true) dd2.typeIs (by rw[Rh];kernel_rfl) ?_)
 show wpAny _ _ (Ow "dict.__eq__" a b>>=_) _ _ _
 refine NN (rn hs hs2 dd dd2 (by omega) (λi k v hi=>?_) ?_)
 ·obtain⟨⟨k',v'⟩,hkv⟩:∃kv,kvs[i]?=T9 kv:=⟨kvs[i]'(by have:=(KA.mp hi).1;omega),Kv _⟩;have hr:k'=k/\Ui v' v:=ux rel hkv hi;obtain⟨rfl,hrv⟩:=hr;obtain⟨w',hw,hq⟩:=hv k' v' (vA (by rw[rel.keys];exact(dd.dictAt.choose_spec).nodup) hkv);have hval:=rel2.val k';rw[hw]at hval;cases hvv:valueAt vs2 k' with
  |none=>rw[hvv]at hval;exact(show False from hval).elim
  |some u'=>
   rw[hvv]at hval;exact⟨u',rfl,Ag I (show X.A.units+1<OO by omega) hq hrv hval⟩
 show wpAny _ _ (ret (.bool true)) _ _ _
 exact NU ⟨.bool true,rfl,(λz=>nomatch z),.bl true,H,I,rfl,q⟩
structure vh(z y:Str)(ws:List Str):Prop where
 h1:(decide (z.length<y.length)||decide (RB z<RB y))=false
 hy:(y.length==0)=false
 hf:(ON z y 0 z.length (z.length+1)).isEmpty=false
 hx:z.length<=sizeLine
 hn:ws.length<=sizeLine
 e:Builtin.Str.partsBetween z (ON z y 0 z.length (z.length+1)) y.length=ws
theorem uG:∀(tk:Nat)(ws:List Str),Ug (ws.map V.str) (strsFrom tk ws)
 |_,[]=>.nil
 |tk,x::r=>.cons ⟨_,rfl⟩ (uG (tk+1) r)
theorem CL:MtR X "str.split" (λx xs H Q=>∃(z y:Str)(ws:List Str),x=.str z/\xs=[.str y]/\vh z y ws/\∀l,H l=Ua->Q (.ref l) (upd H l (.lst (ws.map V.str)))):=by
 intro pins s σ H x xs v us Q I rx rs h;obtain⟨z,y,ws,rfl,rfl,ok,q⟩:=h;obtain⟨t,rfl⟩:=rx;obtain⟨u,rfl,ru⟩:=rs.one;obtain⟨t2,rfl⟩:=ru;obtain⟨h1,hy,hf,hx,hn,e⟩:=ok;subst e;refine Qs F.slot_str_split (RP _ _ _) F.entry_str_split (F.args_str_split_2 _ _) (meets_str_split_sep z y t t2 h1 hy hf hx hn) ?_;exact⟨.ref _,_,I.FP (uG _ _) (by rw[Kx];exact hn),rfl,q _ I.fresh⟩
theorem m_split{o e:Expr}{to:TE}{t:TA}{apos cpos:Pos}(ho:PE X o to)(ha:PA X [e] t)(hbase:OT o "split" X.env (OE o X.env)=OE o X.env:=by rfl)
  (hfew:((OK cpos (NX [e] X.env)).all (λx=>!x.1)&&(Qp cpos (Pj [] X.env)).all (λx=>x.1.isSome)
   &&decide ([e].length+([]:List P4).length+(if([]:List P4).isEmpty then 0 else 1)<30))=true:=by rfl)
  (hline:(apos.endLine==cpos.line)=true:=by rfl) (hs:NX [e] X.env=(false,OE e X.env)::NX [] X.env:=by rfl) (hplain:(OK cpos (NX [] X.env)).any (·.1)=false:=by rfl) :
  PE X (.Call (.Attribute o "split" apos) [e] [] cpos) (tBM X.K "str" (λx xs H Q=>∃(z y:Str)(ws:List Str),x=.str z/\xs=[.str y]/\vh z y ws/\∀l,H l=Ua->Q (.ref l) (upd H l (.lst (ws.map V.str)))) to t):=
 E5 PySem.F.plainAttrs_str PySem.F.slot_str_split PySem.F.type_str_split CL ho ha hbase hfew hline hs hplain
noncomputable def ph(z:Str)(n:Int):Str:=if n<1 then Qi else if(n==1||z.length==0)=true then z else⟨(Oc n.toNat z.cps).foldl (· ++ ·) #[]⟩
noncomputable def IJ:R2:=λx y H Q=>match x,y with
 | .int i,.int j=>CI i j/\Q (.int (i*j)) H
 | .str z,.int n=>n<1000/\-1000<n/\z.length<=1000/\Q (.str (ph z n)) H
 | .ref p,.int k=>∃xs,H p=T9 (.lst xs)/\-(2^63)<=k/\k<2^63/\xs.length*k.toNat<=sizeLine/\∀l,H l=Ua->Q (.ref l) (upd H l (.lst (Oc k.toNat xs).flatten))
 |_,_=>False
theorem Ar(xs:List (Array Nat)):∀acc:Array Nat,(xs.foldl (· ++ ·) acc).size=acc.size+(xs.map (·.size)).sum:=by
 induction xs with
 |nil=>intro acc;simp
 |cons x r ih=>intro acc;rw[MM,ih,SD,KP,Mg];omega
theorem we(z:Str)(n:Nat):(⟨(Oc n z.cps).foldl (· ++ ·) #[]⟩:Str).length=n*z.length:=by
 show((Oc n z.cps).foldl (· ++ ·) #[]).size=_;rw[Ar,R0];have:∀m k:Nat,(Oc m k).sum=m*k:=λm k=>by
  induction m with
  |zero=>simp
  |succ m ih=>rw[Lq,Mg,ih,Nat.succ_mul];omega
 rw[this];simp[Str.length]
theorem dg:OpR X (OG .Mult) IJ:=by
 intro pins s σ H x y v u Q I rx ry h;cases x with
 |int i=>
  cases y with
  |int j=>exact Iq pins s σ H _ _ v u Q I rx ry h
  |_=>exact(show False from h).elim
 |str z=>
  cases y with
  |int n=>
   obtain⟨h1,h2,h3,q⟩:=h;obtain⟨t,rfl⟩:=rx;obtain⟨t2,rfl⟩:=ry;have hb:¬ n<1->n.toNat*z.length<=1000000:=λhn=>by
    have e1:n.toNat<=1000:=by omega
    exact KR (Nat.mul_le_mul e1 h3) (by decide)
   refine P.mul_str (by rw[decide_eq_false (by omega),decide_eq_false (by omega)];rfl) (λhn _=>?_) (λhn _=>?_) ?_
   ·intro z1;have h0:(0:Int)<n:=by omega
    have:=Int.lt_mul_of_ediv_lt h0 z1;have e2:((z.length:Int))*n<=1000*1000:=Int.mul_le_mul (by omega) (by omega) (by omega) (by decide);omega
   ·unfold Builtin.Str.tooLong;have:=hb hn;rw[Nat.mul_comm]at this;refine decide_eq_false ?_;rw[Pg];omega
   unfold ph at q;by_cases c1:n<1
   ·rw[if_pos c1]at q⊢;exact⟨by decide,.str _,H,I.tok _,⟨_,rfl⟩,q⟩
   rw[if_neg c1]at q⊢;by_cases c2:(n==1||z.length==0)=true
   ·rw[if_pos c2]at q⊢;exact⟨.str _,H,I,⟨_,rfl⟩,q⟩
   rw[if_neg c2]at q⊢;refine⟨?_,.str _,H,I.tok _,⟨_,rfl⟩,q⟩;rw[we];have:=hb c1;rw[Pg];omega
  |_=>exact(show False from h).elim
 |ref p=>
  cases y with
  |int k=>
   obtain⟨xs,h1,h2,h3,h4,q⟩:=h;exact HU pins s σ H _ _ v u Q I rx ry ⟨p,k,xs,rfl,rfl,h1,h2,h3,h4,q⟩
  |_=>exact(show False from h).elim
 |_=>cases y<;>exact(show False from h).elim
noncomputable def pY(K:NO)(H:Hp)(a b:NL):Prop:=∃kvs lvs,Rd H a (.dK kvs)/\Rd H b (.dK lvs)/\kvs.length=lvs.length/\∀k v,fB kvs k=T9 v->∃v',fB lvs k=T9 v'/\CC K H v v'
noncomputable def G0(K:NO):R2:=λx y H Q=>match x,y with
 | .ref p,.ref q=>((∃d e,hE K H (.ref p) d/\hE K H (.ref q) e/\Ol d=true/\Ol e=true/\Q (.bl (P2 d e)) H)\/(∃xs,SqL K H p xs/\SqL K H q xs/\xs.all uE=true/\Q (.bl true) H))\/(pY K H p q/\Q (.bl true) H)
 |x,y=>AH x y=true/\Q (.bl (decide (x=y))) H
theorem aZ(hu:X.A.units+64<OO):OpR X (Oe .Eq) (G0 X.K):=((Ik hu).or (Jx hu)).imp λx y H Q q=>by
 by_cases hr:∃p q,x=V.ref p/\y=V.ref q
 ·obtain⟨p,q',rfl,rfl⟩:=hr;rcases q with q|⟨⟨kvs,lvs,h1,h2,h3,h4⟩,h5⟩
  ·exact .inl q
  exact .inr ⟨p,q',kvs,lvs,rfl,rfl,h1,h2,h3,h4,h5⟩
 refine .inl ?_;cases x<;>cases y<;>first|exact q|exact absurd ⟨_,_,rfl,rfl⟩ hr
inductive GC(xs:List V)(H:Hp)(Q:VK):Prop
 |mk(a:NL)(kvs:List (Key×V))(h0:xs=[.ref a])(h1:Rd H a (.dK kvs))(q:Q (.int (kvs.length:Nat)) H):GC xs H Q
theorem cu:dE X (.builtin "len") (λxs H Q=>DD X.K xs H Q\/GC xs H Q):=Jc.or λpins s σ H xs us Q I r ⟨a,kvs,h0,h1,q⟩=>GL pins s σ H xs us Q I r ⟨a,kvs,h0,h1,q⟩
theorem hJ(hc:X.calm=true:=by rfl):dE X (.type "list") (λxs H Q=>(∃p ys,xs=[.ref p]/\(SqL X.K H p ys\/SqT X.K H p ys)/\∀l,H l=Ua->Q (.ref l) (upd H l (.lst ys)))\/∃d kvs,xs=[.ref d]/\Rd H d (.dK kvs)/\∀l,H l=Ua->Q (.ref l) (upd H l (.lst (kvs.map λkv=>kV kv.1)))):=jL.or (Ec hc)
end
section
variable{X:Cx}{pins:List (NL×Obj)}{σ:St}{H:Hp}{s:NM}
noncomputable def Itz(K:NO)(a b:NL):It:=
  ⟨λi H=>∃xs ys x y,SqL K H a xs/\SqL K H b ys/\xs[i]?=T9 x/\ys[i]?=T9 y,
   λi H v H'=>∃T x y,v=.ref T/\H T=Ua/\H'=upd H T (.tup [x,y])/\∀xs ys,SqL K H a xs->SqL K H b ys->xs[i]?=T9 x/\ys[i]?=T9 y,
   λi H=>∃xs ys,SqL K H a xs/\SqL K H b ys/\(xs.length<=i\/ys.length<=i)⟩
noncomputable def Ia(z TI TO i1 i2 a b:NL)(i:Nat)(h:Oi):Prop:=IsZip h z TI TO .none/\IsPair h TI (.ref i1) (.ref i2)/\(∃u v,IsPair h TO u v)/\h.IsListIter i1 a i/\h.IsListIter i2 b i
theorem CS{P:Program}{w:NW}{K:NO}{elts:List Expr}{x1}{pos:Pos}{a b z TI TO i1 i2:NL}(D:ZipApart z TI TO i1 i2 a b) :
  UA P w K (.Tuple elts x1 pos) (Itz K a b) [z,TI,TO,i1,i2] z (Ia z TI TO i1 i2 a b) where
 mem:=by simp
 obj:=λi h st c hc=>by
  obtain⟨hz,hI,⟨u,v,hO⟩,⟨o1,e1,_,d1⟩,⟨o2,e2,_,d2⟩⟩:=st;simp only[Kt,KH,or_false]at hc;rcases hc with rfl|rfl|rfl|rfl|rfl
  ·exact⟨_,hz,λv q=>by cases (show Data.fields _=SM v from q)⟩
  ·exact⟨_,hI,λv q=>by cases (show Data.seq _ _=SM v from q)⟩
  ·exact⟨_,hO,λv q=>by cases (show Data.seq _ _=SM v from q)⟩
  ·exact⟨o1,e1,λv q=>by rw[d1]at q;cases q⟩
  exact⟨o2,e2,λv q=>by rw[d2]at q;cases q⟩
 keep:=λi h h' st k=>by
  obtain⟨hz,hI,⟨u,v,hO⟩,h1,h2⟩:=st;exact⟨k z (by simp) _ hz,k TI (by simp) _ hI,⟨u,v,k TO (by simp) _ hO⟩,h1.at λo e=>k i1 (by simp) o e,h2.at λo e=>k i2 (by simp) o e⟩
 item:=by
  intro X hP hw hK hc i pins s σ H E I hf st hg;subst hP hw hK;obtain⟨xs,ys,x,y,hq,hq',hx,hy⟩:=hg;obtain⟨its,rv,p,hz'⟩:=I.list hq;obtain⟨its',rv',p',hz''⟩:=I.list hq';obtain⟨u,hu,ru⟩:=rv.get hx;obtain⟨v,hv,rv2⟩:=rv'.get hy;obtain⟨hz,hI,⟨u0,v0,hO⟩,h1,h2⟩:=st;have hT:=I.yJ (H':=H) (KD s.heap.objs.size) (I.hok.fresh (KD _));have lt:∀{c:NL}{o:Obj},s.heap.get? c=T9 o->s.heap.objs.size≠c:=λe=>MK (NY e);refine wpAny_pyNext_zip_item D hz hI hO h1 h2 p.isList p'.isList (x:=u) (y:=v) (by simpa using hu) (by simpa using hv) λh' a1 a2 a3 a4 a5 a6 a7=>?_;have I1:Inv X pins σ H { s with heap:=h',toks:=s.toks }:=I.zk (ch:=[z,TI,TO,i1,i2]) hf λc o hc q=>a7 c o (λe=>hc (by simp[e])) (λe=>hc (by simp[e])) (λe=>hc (by simp[e])) (λe=>hc (by simp[e])) q;have I2:=I1.Jf (u:=.tup [x,y]) hT I.sz ⟨by show 2<=sizeLine;decide,[u,v],.cons ru (.cons rv2 .nil),⟨_,a5,rfl,_,rfl⟩⟩;refine⟨_,rfl,wpAny_letOwnedTupleGo_zip (s:={ s with heap:=h' }) a1 λh2' hz2 hs2=>?_⟩;have f0:=hf z (by simp);have hI':h'.get? TI=_:=a7 TI _ D.TIz D.TITO D.TIi1 D.TIi2 hI;have zT:z≠s.heap.objs.size:=LF (lt hz);refine⟨.ref s.heap.objs.size,_,I2.turned (t':=s.toks) (it:=z) (λc o hc q=>(hs2.2 c hc).trans q) (by rw[ay zT];exact f0.1) f0.2.1 f0.2.2.2.1 f0.2.2.2.2.1 f0.2.2.2.2.2,rfl,
   ⟨_,x,y,rfl,hT.1,rfl,λxs' ys' q q'=>by rw[I.rF q hq,I.rF q' hq'];exact⟨hx,hy⟩⟩,⟨hz2,(hs2.2 TI D.TIz).trans hI',⟨u,v,(hs2.2 TO D.TOz).trans a2⟩,a3.at λo q=>(hs2.2 i1 D.i1z).trans q,a4.at λo q=>(hs2.2 i2 D.i2z).trans q⟩,λc hc=>?_⟩
  have cT:c≠s.heap.objs.size:=by
   simp only[Kt,KH,or_false]at hc;rcases hc with rfl|rfl|rfl|rfl|rfl
   ·exact zT
   ·exact LF (lt hI)
   ·exact LF (lt hO)
   ·obtain⟨o,e,_⟩:=h1;exact LF (lt e)
   obtain⟨o,e,_⟩:=h2;exact LF (lt e)
  rw[ay cT];exact(hf c hc).1
 done:=by
  intro X hP hw hK hc i pins s σ H E I hf st hg;subst hP hw hK;obtain⟨xs,ys,hq,hq',hx⟩:=hg;obtain⟨its,rv,p,hz'⟩:=I.list hq;obtain⟨its',rv',p',hz''⟩:=I.list hq';obtain⟨hz,hI,⟨u0,v0,hO⟩,h1,h2⟩:=st;have hl:=rv.length;have hl':=rv'.length;refine wpAny_pyNext_zip_end (I.ok.hd hc) D hz hI hO h1 h2 p.isList p'.isList (by simp;omega) λh' eb=>⟨rfl,?_⟩;exact I.zk (ch:=[z,TI,TO,i1,i2]) hf λc o hc q=>eb c o (λe=>hc (by simp[e])) (λe=>hc (by simp[e])) (λe=>hc (by simp[e])) (λe=>hc (by simp[e])) q
 self:=λ_ _ _ _ _ st h=>SW st.1 h
noncomputable def JP(K:NO)(ta:TA):TI:=λσ H R=>ta σ H λvs H1=>∃a b,vs=[.ref a,.ref b]/\(∃xs,SqL K H1 a xs)/\(∃ys,SqL K H1 b ys)/\R (Itz K a b) H1
theorem A1:OZ "zip"=T9 (.type "zip"):=by decide+kernel
theorem Bz{a b:Expr}{ta:TA}{p pos:Pos}{elts:List Expr}{x1}{pos2:Pos}(hg:Gl X "zip")(hm:X.mg "zip"=Ua)(ha:PA X [a,b] ta)(he:NX [a,b] X.env=(false,OE a X.env)::NX [b] X.env:=by rfl)
  (hpl:(OK pos (NX [b] X.env)).any (·.1)=false:=by rfl):PI X (.Tuple elts x1 pos2) (.Call (.Name "zip" p) [a,b] [] pos) (JP X.K ta):=by
 intro pins s σ H R I h
 refine Call_ (rL I hg hm A1 (Pd (thn (ha pos pins s σ H _ I h) λus s1 ⟨vs,H1,I1,r1,q1⟩=>?_) he hpl))
 obtain⟨a,b,e,⟨xs,hq⟩,⟨ys,hq'⟩,q⟩:=q1
 subst e
 obtain⟨u,v,rfl,ru,rv⟩:=Uy r1
 cases ru
 cases rv
 obtain⟨its,rv1,p1,hz1⟩:=I1.list hq
 obtain⟨its',rv2,p2,hz2⟩:=I1.list hq'
 have lt:∀{c:NL}{zs:Array NK},s1.heap.IsList c zs->c<s1.heap.objs.size:=λh=>by obtain⟨o,e,_⟩:=h;exact NY e
 refine call_zip_2 p1.isList p2.isList λh' hz hI hO h1 h2 hsz hk=>?_
 refine SW hz ?_
 refine⟨s1.heap.objs.size+4,[s1.heap.objs.size+4,s1.heap.objs.size+2,s1.heap.objs.size+3,s1.heap.objs.size,s1.heap.objs.size+1],_,_,H1,rfl,I1.kept (t':=s1.toks) hk,CS (zipApart_new (lt p1.isList) (lt p2.isList)),⟨hz,hI,⟨_,_,hO⟩,h1,h2⟩,λc hc=>?_,q⟩
 have le:s1.heap.objs.size<=c:=by
  simp only[Kt,KH,or_false]at hc;rcases hc with h|h|h|h|h
  ·rw[h];exact LK _ _
  ·rw[h];exact LK _ _
  ·rw[h];exact LK _ _
  ·rw[h];exact KD _
  rw[h];exact LK _ _
 exact I1.yJ le (I1.hok.fresh le)
end
theorem An{K:Qe}{a b:NL}{xs ys:List V}{g:TG}{tb:TS}{D:Uw}{σ:St}{H:Hp}(Pv:Nat->St->Hp->Prop)(h0:Pv 0 σ H)(hl:∀i σ H,i<=xs.length->Pv i σ H->SqL K H a xs/\SqL K H b ys)(hle:xs.length=ys.length)
  (hs:∀i x y σ H T,xs[i]?=T9 x->ys[i]?=T9 y->Pv i σ H->H T=Ua->g (.ref T) σ (upd H T (.tup [x,y])) λσ2 H2=>tb { D with nx:=Pv (i+1),ct:=Pv (i+1),bk:=D.nx } σ2 H2) (hd:∀σ H,Pv xs.length σ H->D.nx σ H) :
  ∃W:Nat->Nat->St->Hp->Prop,(∃m,W 0 m σ H)/\∀i m σ H,W i m σ H->
   ((Itz K a b).stop i H/\D.nx σ H)\/((Itz K a b).go i H/\∃N:St->Hp->Prop,(∀σ' H',N σ' H'->∃m',m'<m/\W (i+1) m' σ' H')/\∀x H',(Itz K a b).yld i H x H'->g x σ H' λσ2 H2=>tb { D with nx:=N,ct:=N,bk:=D.nx } σ2 H2):=by
 refine⟨λi m σ H=>m=xs.length-i/\i<=xs.length/\Pv i σ H,⟨xs.length,by simp,KW _,h0⟩,?_⟩
 rintro i m σ H ⟨rfl,hi,p⟩
 obtain⟨q,q'⟩:=hl i σ H hi p
 by_cases hlt:i<xs.length
 ·have hlt':i<ys.length:=by omega
  refine .inr ⟨⟨xs,ys,xs[i],ys[i],q,q',by simp[hlt],by simp[hlt']⟩,Pv (i+1),λσ' H' p'=>⟨xs.length-(i+1),by omega,rfl,hlt,p'⟩,λv H' y=>?_⟩;obtain⟨T,x,y,rfl,hT,rfl,h⟩:=y;obtain⟨e1,e2⟩:=h xs ys q q';exact hs i x y σ _ T e1 e2 p hT
 have e:i=xs.length:=by omega
 subst e
 exact .inl ⟨⟨xs,ys,q,q',KG (KD _)⟩,hd σ H p⟩
theorem A9{K:NO}{a:NL}{xs:List V}{fr:List Nat}{tf:CB->TT}{te:CB->TE}{Q:VK}{σ:St}{H1:Hp}(p:V->Bool)(R:V->Hp->Prop)(hx:SqL K H1 a xs)(hn:xs.length<sizeLine)
  (hf:∀b x H (G:Bool->Hp->Prop),x∈xs->aq H1 H->(∀H',aq H H'->G (p x) H')->tf b (T9 x::cFr fr σ) H G)
  (he:∀b x H (G:VK),x∈xs->p x=true->aq H1 H->(∀y H',aq H H'->R y H'->G y H')->te b (T9 x::cFr fr σ) H G)
  (mono:∀y H H',aq H H'->R y H->R y H') (st:∀y H D ys zs,H D=T9 (.lst ys)->R y H->R y (upd H D (.lst zs)))
  (fin:∀D H ys,H1 D=Ua->aq H1 H->H D=T9 (.lst ys)->ys.length<=xs.length->(∀y∈ys,R y H)->Q (.ref D) H):nU (Itl K a) 1 fr (λ_=>kf 0) tf te Q σ H1:=by
 refine⟨λb D hD=>?_⟩
 refine⟨λi m σ' H'=>m=xs.length-i/\i<=xs.length/\(∃v0,σ'=v0::cFr fr σ)/\aq H1 H'/\∃ys,H' D=T9 (.lst ys)/\ys.length<=i/\∀y∈ys,R y H',⟨xs.length,rfl,KW _,⟨Ua,rfl⟩,aq.upd hD _,[],aj,KD _,λy h=>by cases h⟩,?_⟩
 rintro i m σ' H' ⟨rfl,hi,⟨v0,rfl⟩,sm,ys,hl,hy,hR⟩
 by_cases hlt:i<xs.length
 ·refine .inr ⟨⟨xs,xs[i],sm.seq hx,Kv hlt⟩,λσ2 H2=>(∃v0,σ2=v0::cFr fr σ)/\aq H1 H2/\∃ys,H2 D=T9 (.lst ys)/\ys.length<=i+1/\∀y∈ys,R y H2,λσ2 H2 q=>⟨xs.length-(i+1),by omega,rfl,hlt,q⟩,λv H2 y=>?_⟩;obtain⟨rfl,yv⟩:=y;have ev:=yv xs (sm.seq hx);have mem:v∈xs:=KI ev;show tf b (T9 v::cFr fr σ) _ _;refine hf b v _ _ mem sm λH3 s3=>?_;cases hp:p v with
  |false=>
   rw[if_neg KJ];exact⟨⟨_,rfl⟩,sm.trans s3,ys,s3 _ _ hl,by omega,λy h=>mono _ _ _ s3 (hR y h)⟩
  |true=>
   rw[if_pos rfl];refine he b v _ _ mem hp (sm.trans s3) λz H4 s4 rz=>⟨ys,s4 _ _ (s3 _ _ hl),by omega,⟨_,rfl⟩,?_,ys++[z],aj,by simp;omega,λy h=>?_⟩
   ·intro c o q;by_cases hc:c=D
    ·rw[hc,hD]at q;cases q
    rw[ay hc];exact(sm.trans (s3.trans s4)) c o q
   have hD4:=s4 _ _ (s3 _ _ hl);rcases Kz.mp h with h|h
   ·exact st _ _ _ _ _ hD4 (mono _ _ _ (s3.trans s4) (hR y h))
   rw[Ky]at h;subst h;exact st _ _ _ _ _ hD4 rz
 have e:i=xs.length:=by omega
 subst e
 exact .inl ⟨⟨xs,sm.seq hx,KD _⟩,fin D H' ys hD sm hl hy hR⟩
set_option maxHeartbeats 4000000
theorem yu{K:NO}{a:NL}{xs:List V}{fr:List Nat}{tf:CB->TT}{te:CB->TE}{Q:VK}{σ:St}{H1:Hp}(p:V->Bool)(R:V->V->Hp->Prop)(hx:SqL K H1 a xs)(hn:xs.length<sizeLine)
  (hf:∀b x H (G:Bool->Hp->Prop),x∈xs->aq H1 H->(∀H',aq H H'->G (p x) H')->tf b (T9 x::cFr fr σ) H G)
  (he:∀b x H (G:VK),x∈xs->p x=true->aq H1 H->(∀y H',aq H H'->R x y H'->G y H')->te b (T9 x::cFr fr σ) H G)
  (mono:∀x y H H',aq H H'->R x y H->R x y H') (st:∀x y H D ys zs,H D=T9 (.lst ys)->R x y H->R x y (upd H D (.lst zs)))
  (fin:∀D H ys,H1 D=Ua->aq H1 H->H D=T9 (.lst ys)->Paired (λx y=>R x y H) (xs.filter p) ys->Q (.ref D) H):nU (Itl K a) 1 fr (λ_=>kf 0) tf te Q σ H1:=by
 have len:∀{i:Nat}{ys:List V}{H:Hp},Paired (λx y=>R x y H) ((xs.take i).filter p) ys->ys.length<=i:=λ{i} _ _ h=>by
  have h1:=NV h;have h2:=Mb p (xs.take i);rw[LA]at h2;omega
 refine⟨λb D hD=>?_⟩
 refine⟨λi m σ' H'=>m=xs.length-i/\i<=xs.length/\(∃v0,σ'=v0::cFr fr σ)/\aq H1 H'/\∃ys,H' D=T9 (.lst ys)/\Paired (λx y=>R x y H') ((xs.take i).filter p) ys,⟨xs.length,rfl,KW _,⟨Ua,rfl⟩,aq.upd hD _,[],aj,.nil⟩,?_⟩
 rintro i m σ' H' ⟨rfl,hi,⟨v0,rfl⟩,sm,ys,hl,hR⟩
 have hy:=len hR
 by_cases hlt:i<xs.length
 ·refine .inr ⟨⟨xs,xs[i],sm.seq hx,Kv hlt⟩,λσ2 H2=>(∃v0,σ2=v0::cFr fr σ)/\aq H1 H2/\∃ys,H2 D=T9 (.lst ys)/\Paired (λx y=>R x y H2) ((xs.take (i+1)).filter p) ys,λσ2 H2 q=>⟨xs.length-(i+1),by omega,rfl,hlt,q⟩,λv H2 y=>?_⟩;obtain⟨rfl,yv⟩:=y;have ev:=yv xs (sm.seq hx);have mem:v∈xs:=KI ev;rw[Lx,ev,RW];show tf b (T9 v::cFr fr σ) _ _;refine hf b v _ _ mem sm λH3 s3=>?_;cases hp:p v with
  |false=>
   rw[if_neg KJ];refine⟨⟨_,rfl⟩,sm.trans s3,ys,s3 _ _ hl,?_⟩;have e0:((T9 v).toList.filter p)=[]:=by simp[hp]
   rw[e0,Lv];exact Paired.cS hR λ_ _ h=>mono _ _ _ _ s3 h
  |true=>
   rw[if_pos rfl];have e0:((T9 v).toList.filter p)=[v]:=by simp[hp]
   rw[e0];refine he b v _ _ mem hp (sm.trans s3) λz H4 s4 rz=>⟨ys,s4 _ _ (s3 _ _ hl),by omega,⟨_,rfl⟩,?_,ys++[z],aj,?_⟩
   ·intro c o q;by_cases hc:c=D
    ·rw[hc,hD]at q;cases q
    rw[ay hc];exact(sm.trans (s3.trans s4)) c o q
   have hD4:=s4 _ _ (s3 _ _ hl);exact Pf (Paired.cS hR λ_ _ h=>st _ _ _ _ _ _ hD4 (mono _ _ _ _ (s3.trans s4) h)) (st _ _ _ _ _ _ hD4 rz)
 have e:i=xs.length:=by omega
 subst e
 rw[Lm]at hR
 exact .inl ⟨⟨xs,sm.seq hx,KD _⟩,fin D H' ys hD sm hl hR⟩
section
variable{X:Cx}
theorem E8{o:Expr}{to:TE}{apos cpos:Pos}(ho:PE X o to)(hbase:OT o "pop" X.env (OE o X.env)=OE o X.env:=by rfl)(hline:(apos.endLine==cpos.line)=true:=by rfl) :
  PE X (.Call (.Attribute o "pop" apos) [] [] cpos) (IZ X.K "list" FQ to):=
 Hr QI PySem.F.slot_list_pop PySem.F.type_list_pop GU ho hbase hline
end
noncomputable def EqW(prog:Program)(w:NW)(A:Oh)(s:NM)(y x:NK):Prop:=∀(E:NK->NM->Prop)(Q:Bool->NM->Prop),Q true s->wpAny (N0 prog w) A (eqBool y x) Q E s
noncomputable def RcW(prog:Program)(w:NW)(A:Oh)(s:NM)(y x:NK):Prop:=∀(E:NK->NM->Prop)(Q:NK->NM->Prop),Q (.bool true) s->wpAny (N0 prog w) A (richCompare .Eq y x) Q E s
section
variable{X:Cx}
theorem EqW.of_refs{prog:Program}{w:NW}{A:Oh}{s:NM}{l b:NL}(hne:l≠b)(h:RcW prog w A s (.ref l) (.ref b)):EqW prog w A s (.ref l) (.ref b):=λE Q hq=>by
 unfold eqBool;refine wpAny_holding (Tg (λhab=>absurd (Pq (eq_of_beq hab)) hne) λ_=>NN (h E _ (Oz hq)))
theorem zJ{pins:List (NL×Obj)}{σ:St}{H:Hp}{s:NM}{A:Oh}{a b:NL}(I:Inv X pins σ H s)(hu:A.units+2<OO)(h:pY X.K H a b):EqW X.prog X.w A s (.ref a) (.ref b):=by
 by_cases hab:a=b
 ·subst hab;exact λE Q hq=>QZ _ X.prog X.w E Q hq
 obtain⟨kvs,lvs,ha,hb,hl,hv⟩:=h;refine EqW.of_refs hab λE Q hq=>?_;obtain⟨z,hs,vs,rel,dd⟩:=jf I.hok ha;obtain⟨z2,hs2,vs2,rel2,dd2⟩:=jf I.hok hb;have e1:=rel.length;have e2:=rel2.length;have hvals:∀(i:Nat) k v,vs[i]?=T9 (k,v)->∃v',valueAt vs2 k=T9 v'/\∀A:Oh,A.units<OO->P0 A s v v' true:=λi k v hi=>by
  obtain⟨⟨k',v'⟩,hkv⟩:∃kv,kvs[i]?=T9 kv:=⟨kvs[i]'(by have:=(KA.mp hi).1;omega),Kv _⟩;have hr:k'=k/\Ui v' v:=ux rel hkv hi;obtain⟨rfl,hrv⟩:=hr;obtain⟨w',hw,hq⟩:=hv k' v' (vA (by rw[rel.keys];exact(dd.dictAt.choose_spec).nodup) hkv);have hval:=rel2.val k';rw[hw]at hval;cases hvv:valueAt vs2 k' with
  |none=>rw[hvv]at hval;exact(show False from hval).elim
  |some u'=>
   rw[hvv]at hval;exact⟨u',rfl,λA hA=>Ag I hA hq hrv hval⟩
 refine OD (op:=.Eq) dd.typeIs dd2.typeIs OM (PZ OM dd.typeIs PU ?_ (PL _ _)) (by omega);show wpAny _ _ (Oy "__eq__" ⟨[.ref a,.ref b],[]⟩>>=_) _ _ _;refine NN ?_;unfold Oy;refine NN (Pc dd.typeIs ?_);show wpAny _ _ (pure (NZ a,NZ b)) _ _ _;refine NU ?_;refine NN (QL (T:="dict") (b:=true) dd2.typeIs (by rw[Rh];kernel_rfl) ?_);show wpAny _ _ (Ow "dict.__eq__" a b>>=_) _ _ _;refine NN (rn hs hs2 dd dd2 (by omega) (λi k v hi=>?_) ?_)
 ·obtain⟨v',h1,h2⟩:=hvals i k v hi;exact⟨v',h1,h2 _ (show A.units+1<OO by omega)⟩
 show wpAny _ _ (ret (.bool true)) _ _ _;exact NU ⟨.bool true,rfl,(λz=>nomatch z),hq⟩
theorem Ds{prog:Program}{w:NW}{l b:NL}{xs ys:Array NK}{n n2:Nat}{dd dd2:Option NL}{sl sl2:Array (Option NK)}(hsz:xs.size=ys.size)(k:Nat) :
  ∀i:Nat,xs.size-i=k->MeetsIn prog w (PD.«list.__eq__.loop» ⟨[.ref l,.ref b,SK i,SK 2],[]⟩) (λA R s=>s.heap.get? l=T9 { cls:=.type "list",dict:=dd,data:=.seq xs n,slots:=sl }/\
   s.heap.get? b=T9 { cls:=.type "list",dict:=dd2,data:=.seq ys n2,slots:=sl2 }/\(∀j (h1:j<xs.size) (h2:j<ys.size),EqW prog w A.in1 s xs[j] ys[j])/\R (.ok (.ret (.bool true))) s):=by
 induction k with
 |zero=>
  intro i hk A R s h;obtain⟨hp,g,d,tk,os⟩:=s;obtain⟨h1,h2,he,h⟩:=h
  wp_walk using NT h1,NT h2
  rw[show xs[((i:Nat):Int).toNat]?=Ua by simp;omega,show ys[((i:Nat):Int).toNat]?=Ua by simp;omega]
  wp_walk using NT h1,NT h2
  show R (.ok (.ret (.bool (xs.size==ys.size)))) _;rw[hsz,beq_self_eq_true];exact h
 |succ k ih=>
  intro i hk A R s h;obtain⟨hp,g,d,tk,os⟩:=s;obtain⟨h1,h2,he,h⟩:=h
  wp_walk using NT h1,NT h2
  have lt1:i<xs.size:=by omega
  have lt2:i<ys.size:=by omega
  rw[show xs[((i:Nat):Int).toNat]?=T9 xs[i] by simp[lt1],show ys[((i:Nat):Int).toNat]?=T9 ys[i] by simp[lt2]]
  refine NN (he i lt1 lt2 _ _ ?_)
  wp_walk
  rw[show((i:Int)+1)=((i+1:Nat):Int) by push_cast;rfl]
  exact⟨O2 Om _,OQ O6 (by rw[Ou Om _];exact ih (i+1) (by omega) A R _ ⟨h1,h2,he,h⟩)⟩
theorem C6{prog:Program}{w:NW}{l b:NL}{xs ys:Array NK}{n n2:Nat}{dd dd2:Option NL}{sl sl2:Array (Option NK)}(hsz:xs.size=ys.size) :
  MeetsIn prog w (PD.«list.__eq__» ⟨[.ref l,.ref b],[]⟩) (λA R s=>s.heap.get? l=T9 { cls:=.type "list",dict:=dd,data:=.seq xs n,slots:=sl }/\
   s.heap.get? b=T9 { cls:=.type "list",dict:=dd2,data:=.seq ys n2,slots:=sl2 }/\(∀j (h1:j<xs.size) (h2:j<ys.size),EqW prog w A.in1 s xs[j] ys[j])/\R (.ok (.ret (.bool true))) s):=by
 intro A R s h;obtain⟨hp,g,d,tk,os⟩:=s;obtain⟨h1,h2,he,h⟩:=h
 have f3:=QY;have hne:¬ (xs.size !=ys.size)=true:=by simp[hsz]
 wp_walk using NT h1,NT h2
 exact⟨O2 Om _,OQ O6 (by rw[Ou Om _];exact Ds hsz _ 0 rfl A R _ ⟨h1,h2,he,h⟩)⟩
theorem F2(hu:X.A.units+64<OO):OpR X (Oe .Eq) (λx y H Q=>∃p q xs ys,x=.ref p/\y=.ref q/\SqL X.K H p xs/\SqL X.K H q ys/\xs.length=ys.length/\(∀(i:Nat) a b,xs[i]?=T9 a->ys[i]?=T9 b->∃d e,a=.ref d/\b=.ref e/\pY X.K H d e)/\Q (.bl true) H):=by
 intro pins s σ H x y v u Q I rx ry h;obtain⟨p,q,xs,ys,rfl,rfl,hp,hq,hl,hf,k⟩:=h;cases rx;cases ry;obtain⟨its,r1,⟨o,n,e1,c1,_,d1⟩,_⟩:=I.list hp;obtain⟨jts,r2,⟨o2,n2,e2,c2,_,d2⟩,_⟩:=I.list hq;have l1:=r1.length;have l2:=r2.length;obtain⟨oc,od,oda,osl⟩:=o;obtain⟨oc2,od2,oda2,osl2⟩:=o2;dsimp only at c1 d1 c2 d2;subst c1 d1 c2 d2;refine OD (op:=.Eq) (T:="list") ⟨_,e1,rfl⟩ ⟨_,e2,rfl⟩ Ri (Qg Ri ⟨_,e1,rfl⟩ PySem.F.entry_list_eq (PySem.F.args_list_eq_2 _ _) (C6 (by simp;omega)) ⟨e1,e2,λj h1 h2=>?_,?_⟩) (by omega)
 ·simp at h1 h2;obtain⟨x,hx⟩:∃x,xs[j]?=T9 x:=⟨xs[j]'(by omega),Kv (by omega)⟩;obtain⟨y,hy⟩:∃y,ys[j]?=T9 y:=⟨ys[j]'(by omega),Kv (by omega)⟩;obtain⟨d,e,rfl,rfl,de⟩:=hf j x y hx hy;obtain⟨u1,g1,w1⟩:=r1.get hx;obtain⟨u2,g2,w2⟩:=r2.get hy;have z1:its.toArray[j]'(by simpa using h1)=u1:=by
   have:=Kv h1;rw[g1]at this;simpa using (NP this).symm
  have z2:jts.toArray[j]'(by simpa using h2)=u2:=by
   have:=Kv h2;rw[g2]at this;simpa using (NP this).symm
  rw[z1,z2];cases w1;cases w2;exact zJ I (by show X.A.units+1+2<OO;omega) de
 exact⟨(λz=>nomatch z),.bl true,H,I,rfl,k⟩
theorem Ug.rev:∀{xs:List V}{us:List NK},Ug xs us->Ug xs.reverse us.reverse
 |_,_,.nil=>.nil
 |x::xs,u::us,.cons h r=>by
  rw[Lz,Lz];exact Pf (Ug.rev r) h
noncomputable def JN(K:NO)(te:TE):TE:=λσ H Q=>te σ H λx H1=>∃a xs,x=.ref a/\SqL K H1 a xs/\∀p,H1 p=Ua->Q (.ref p) (upd H1 p (.lst xs.reverse))
theorem G8{e:Expr}{te:TE}{j:Nat}{pos p2 p3 p4:Pos}(he:PE X e te):PE X (.Subscript e (.Slice Ua Ua (T9 (.UnaryOp .USub (.Constant (.int 1) j p3) p4)) p2) pos) (JN X.K te):=by
 intro pins s σ H Q I h;refine Tx (thn (he pins s σ H _ I h) λv s1 ⟨x,H1,I1,r1,a,xs,ex,hx,q⟩=>?_);subst ex;cases r1;refine wpAny_Slice ?_;rw[RH];refine NU ?_;refine NU ?_;rw[evalPart_some];refine thn ((jq fw (ab (X:=X))) pins s1 σ H1 (λy H2=>H2=H1/\y=.int (-1)) I1 ⟨_,rfl,rfl,rfl⟩) λv2 s2 ⟨y,H2,I2,r2,e2,e3⟩=>?_;subst e2 e3;obtain⟨t2,rfl⟩:=r2;obtain⟨its,r,ht,hz⟩:=I2.list hx;have hlen:its.toArray.size=xs.length:=by rw[KL];exact r.length.symm
 have I4:Inv X pins σ H2 { s2 with heap:=s2.heap.push { cls:=.type "slice",data:=.fields #[.none,.none,.int (-1) t2] } }:=I2.kept λb ob q=>NQ _ q;obtain⟨its4,r4,ht4,hz4⟩:=I4.list hx;have hlen4:its4.toArray.size=xs.length:=by rw[KL];exact r4.length.symm
 refine tail_any (ops:=[.ref a,.ref s2.heap.objs.size]) (s:={ s2 with heap:=s2.heap.push { cls:=.type "slice",data:=.fields #[.none,.none,.int (-1) t2] } }) ht4.isList.typeIs slot_list_getitem.lookup (QB ht4.isList (RO ..) .none .none (.int (-1) t2) (by simp) ?_ (by rw[hlen4];exact hz4)) (by with_unfolding_all rfl);rw[W.krv_pick];refine⟨.ref _,_,I4.laid (t':=s2.toks) (o:=.lst xs.reverse) (λb ob q=>NQ _ q) (KD _) ?_,rfl,q _ (I4.hok.fresh (KD _))⟩;exact⟨by rw[MU];exact hz4,_,0,r4.rev,Ob _ rfl⟩
end
section
variable{X:Cx}{e:Expr}{te:TE}{es:List Expr}{t:Str->TE}{pos:Pos}
end
section
variable{X:Cx}
theorem BD:OpR X (OG .RShift) (qu (λ_ j=>0<=j) λi j=>.int (i/2^j.toNat)):=F8.qu
theorem Ex(val:Nat->Int):∀n,∀i ≤ n,val i<=val (SE (λi j=>decide (val i>val j)) n):=by
 intro n;induction n with
 |zero=>intro i hi;rw[Nat.le_zero.mp hi];exact Lc _
 |succ n ih=>
  intro i hi;have e:SE (λi j=>decide (val i>val j)) (n+1)=if decide (val (n+1)>val (SE (λi j=>decide (val i>val j)) n))=true then n+1 else SE (λi j=>decide (val i>val j)) n:=rfl
  rw[e];by_cases h:val (n+1)>val (SE (λi j=>decide (val i>val j)) n)
  ·rw[if_pos (decide_eq_true h)];rcases Nat.lt_or_ge i (n+1)with z|z
   ·have:=ih i (by omega);omega
   rw[show i=n+1 by omega];exact Lc _
  rw[if_neg (by rw[decide_eq_false h];exact KJ)];rcases Nat.lt_or_ge i (n+1)with z|z
  ·exact ih i (by omega)
  rw[show i=n+1 by omega];omega
theorem Gb(hc:X.calm=true:=by rfl):dE X (.builtin "max") (λxs H Q=>∃(p:NL)(ns:List Int),xs=[.ref p]/\SqL X.K H p (ns.map V.int)/\ns≠[]/\∀m∈ns,(∀n∈ns,n<=m)->Q (.int m) H):=by
 intro pins s σ H xs us Q I r h;obtain⟨p,ns,rfl,hq,ne,q⟩:=h;obtain⟨u,rfl,rx⟩:=Ut r;cases rx;obtain⟨its,rv,pl,hz⟩:=I.list hq;have hl:=pl.isList;have ia:=Us rv;obtain⟨xs,hx⟩:=ia.allInts.items;have hn:xs.toList.map (·.1)=ns:=by
  rw[<-nums_intItems,<-hx];exact ia.numsOf
 rw[hx]at hl;have hs:xs.size=ns.length:=by rw[<-hn];simp
 have l0:0<ns.length:=MV.mpr ne;have at':∀i,i<ns.length->ns[i]?=T9 (numAt xs i):=λi hi=>by
  have hi':i<xs.size:=by omega
  unfold numAt;rw[<-hn,KO];simp[hi']
 refine max_intList (I.ok.hd hc) hl (by omega) λv h' tk hv hk=>?_;obtain⟨t,rfl⟩:=intItems_at hv;have bl:SE (λi j=>decide (numAt xs i>numAt xs j)) (xs.size-1)<ns.length:=by
  have z:=(Array.getElem?_eq_some_iff.mp hv).1;rw[show(SF xs).size=xs.size from TL ..]at z;rw[<-hs];exact z
 refine⟨.int _,H,I.kept (t':=tk) hk,⟨_,rfl⟩,q _ (KI (at' _ bl)) λn hn'=>?_⟩;obtain⟨i,hi⟩:=La hn';have hi':i<ns.length:=(KA.mp hi).1;have e:=at' i hi';rw[hi]at e;rw[NP e];exact Ex (numAt xs) _ i (by omega)
theorem sW{prog:Program}{w:NW}{A:Oh}{E:NK->NM->Prop}{s:NM}{l:NL}{xs:Array (Int×Tok)}{Q:NK->NM->Prop}(hl:s.heap.IsTuple l (SF xs))
  (h:∀s₂:NM,s₂={ s with heap:=s.heap.push { cls:=.type "tuple_iterator",data:=.fields #[.ref l,.int 0 0] } }->
   (s₂.heap.IsTupleIter s.heap.objs.size l 0/\s₂.heap.IsTuple l (SF xs))->(∀b∈[s.heap.objs.size,l],b<s₂.heap.objs.size)->l≠s.heap.objs.size->Q (.ref s.heap.objs.size) s₂) :
  wpAny (N0 prog w) A (pyIter (.ref l)) Q E s:=by
 have hlt:l<s.heap.objs.size:=by obtain⟨_,e,_⟩:=hl;exact NY e
 refine RU hl (h _ rfl ⟨⟨_,Ob _ rfl,rfl,rfl⟩,hl.push _⟩ (λb hb=>?_) (Ll hlt))
 show b<(s.heap.push _).objs.size
 rw[OV]
 rcases Kt.mp hb with rfl|hb
 ·exact Mn _
 rcases Kt.mp hb with rfl|hb
 ·exact Mv hlt
 cases hb
theorem GP(hc:X.calm=true:=by rfl):dE X (.builtin "sum") (λxs H Q=>∃(p:NL)(ns:List Int),xs=[.ref p]/\SqT X.K H p (ns.map V.int)/\Q (.int ns.sum) H):=by
 intro pins s σ H xs us Q I r h;obtain⟨p,ns,rfl,hq,q⟩:=h;obtain⟨u,rfl,rx⟩:=Ut r;cases rx;obtain⟨its,rv,hl,hz⟩:=I.tuple hq;have ia:=Us rv;obtain⟨xs,hx⟩:=ia.allInts.items;have hn:xs.toList.map (·.1)=ns:=by
  rw[<-nums_intItems,<-hx];exact ia.numsOf
 rw[hx]at hl;obtain⟨o,e1,e2,n,e3⟩:=hl;refine call_sum_walkG (sW ⟨o,e1,e2,n,e3⟩ λs₂ e st hfp hlI=>?_);subst e;refine⟨_,_,_,_,_,_,numAt xs,rfl,Walks.tuple (A:=X.A.in1) (I.ok.hd hc) _ p hlI (SF xs),st,hfp,(λ_ _=>intItems_at),λh' tk t' hk=>?_⟩;have ez:(SF xs).size=xs.size:=TL ..;rw[ez,preSum_eq,Mt (by simp),hn];refine⟨.int _,H,I.kept (t':=tk) (λb o e=>?_),⟨_,rfl⟩,q⟩;refine hk b o (λhm=>?_) (NQ _ e);rcases Kt.mp hm with z|hm
 ·exact absurd (z▸NY e) (LQ _)
 cases hm
end
noncomputable def EqB(prog:Program)(w:NW)(A:Oh)(s:NM)(y x:NK)(b:Bool):Prop:=∀(E:NK->NM->Prop)(Q:Bool->NM->Prop),Q b s->wpAny (N0 prog w) A (eqBool y x) Q E s
theorem contains_loopW{prog:Program}{w:NW}(l:NL)(items:Array NK)(n:Nat)(dd:Option NL)(sl:Array (Option NK))(x:NK)(e:NK->Bool)(k:Nat) :
  ∀i:Nat,items.size-i=k->MeetsIn prog w (PD.«list.__contains__.loop» ⟨[.ref l,x,SK i],[]⟩)
   (λA R s=>s.heap.get? l=T9 { cls:=.type "list",dict:=dd,data:=.seq items n,slots:=sl }/\(∀y,y∈items->EqB prog w A.in1 s y x (e y))/\R (.ok (.ret (.bool ((items.toList.drop i).any e)))) s):=by
 induction k with
 |zero=>
  intro i hk A R s h
  obtain⟨hp,g,d,tk,os⟩:=s;obtain⟨hl,he,h⟩:=h
  wp_walk using NT hl
  have hi:items[((i:Nat):Int).toNat]?=Ua:=by simp;omega
  have hd:items.toList.drop i=[]:=by simp;omega
  rw[hd]at h
  rw[hi]
  wp_walk
  exact h
 |succ k ih=>
  intro i hk A R s h
  obtain⟨hp,g,d,tk,os⟩:=s;obtain⟨hl,he,h⟩:=h
  wp_walk using NT hl
  have hlt:i<items.size:=by omega
  have hi:items[((i:Nat):Int).toNat]?=T9 items[i]:=by simp[hlt]
  have hd:items.toList.drop i=items[i]::items.toList.drop (i+1):=by simp[Mj,hlt]
  rw[hd,MA]at h
  rw[hi]
  refine NN (he _ (Ni hlt) _ _ ?_)
  cases hb:e items[i]with
  |true=>
   rw[hb]at h
   wp_walk
   exact h
  |false=>
   rw[hb]at h
   have hc:((i:Int)+1)=((i+1:Nat):Int):=by push_cast;rfl
   wp_walk
   rw[hc]
   exact⟨O2 OR _,OQ Qd (by
    rw[Ou OR _];exact ih (i+1) (by omega) A R _ ⟨hl,he,by simpa using h⟩)⟩
theorem list_containsW{prog:Program}{w:NW}(l:NL)(items:Array NK)(n:Nat)(dd:Option NL)(sl:Array (Option NK))(x:NK)(e:NK->Bool) :
  MeetsIn prog w (PD.«list.__contains__» ⟨[.ref l,x],[]⟩)
   (λA R s=>s.heap.get? l=T9 { cls:=.type "list",dict:=dd,data:=.seq items n,slots:=sl }/\(∀y,y∈items->EqB prog w A.in1 s y x (e y))/\R (.ok (.ret (.bool (items.any e)))) s):=by
 intro A R s h
 obtain⟨hp,g,d,tk,os⟩:=s;obtain⟨hl,he,h⟩:=h
 wp_walk using NT hl
 exact⟨O2 OR _,OQ Qd (by
  rw[Ou OR _];exact contains_loopW l items n dd sl x e _ 0 rfl A R _ ⟨hl,he,by simpa using h⟩)⟩
section
variable{prog:Program}{w:NW}{K:Type}[DecidableEq K]{knd:KeyKind prog w K}{A:Oh}{E:NK->NM->Prop}{s:NM}
theorem zg{id:String}{a b:NL}{k:K}{v v':NK}{kvs lvs:List (K×NK)}{Q:Bool->NM->Prop}(hda:(a==OB)=false)(hdb:(b==OB)=false)(ha:s.heap.DictOf knd a ((k,v)::kvs))(hb:s.heap.DictOf knd b lvs)(hl:kvs.length+1=lvs.length)
  (hv:valueAt lvs k=T9 v') (he:P0 A s v v' false) (q:Q false s):wpAny (N0 prog w) A (Ow id a b) Q E s:=by
 obtain⟨o,es,ep,ho,hx,hd,hk,hp,hn⟩:=ha
 obtain⟨o2,es2,ep2,ho2,hx2,hd2,hk2,hp2,hn2⟩:=hb
 have hz:es.size=kvs.length+1:=by have:=hp.length;simpa using this
 have hz2:es2.size=lvs.length:=by rw[<-hp2.length];simp
 unfold Ow
 refine NN (mX hda ?_)
 refine NN (mX hdb ?_)
 refine NN (OI ho hd ?_)
 refine NN (OI ho2 hd2 ?_)
 rw[if_neg (by simp;omega)]
 refine NN (Q0 ho hd ?_)
 refine NN ?_
 rw[Pk]
 simp only[Q3,Nat.sub_zero,RZ,Nat.div_one]
 rw[hz,List.range'_succ]
 refine SU _ (λrest c s'=>rest=0::MJ (0+1) kvs.length/\c=(Ua,())/\s'=s) _ ?_ ?_ _ _ ⟨rfl,rfl,rfl⟩
 ·rintro i rest c s' ⟨e0,rfl,rfl⟩;have hi0:i=0:=(List.cons.inj e0).1;subst hi0;have hi:0<es.size:=by omega
  refine NN (OI ho hd ?_);rw[Qu hi];obtain⟨hkey,hval⟩:=hp.get? (i:=0) (e:=es[0]) (by simp[hi]) rfl;obtain⟨k',hk',hh⟩:=hk es[0] (Ni hi);have hkk:k'=k:=knd.inj _ _ _ hk' hkey;subst hkk;show wpAny _ _ (Pr [es[0].key,es[0].val] _>>=_) _ _ _;refine NN (wpAny_holding ?_);rw[hh,hval];refine NN (Sz hkey ho2 hd2 hk2 ?_);obtain⟨j,f,hj,hf,hfv⟩:=rA hp2 hv;rw[<-Q4,Rc]at hj;rw[Mw]at hf;rw[hj];refine NN (OI ho2 hd2 ?_);rw[hf];show wpAny _ _ (Pr [f.val] (eqBool v f.val)) _ _ _;rw[hfv];refine wpAny_holding (he _ _ _ _ ?_);rw[if_pos (by decide)];exact NU (NU q)
 rintro c s' ⟨e0,_,_⟩
 cases e0
end
section
variable{X:Cx}
noncomputable def Bs(H:Hp)(a b:NL):Prop:=a≠b/\∃(k:Key)(i j:Int)(kvs lvs:List (Key×V)),Rd H a (.dK ((k,.int i)::kvs))/\Rd H b (.dK ((k,.int j)::lvs))/\kvs.length=lvs.length/\i≠j
theorem A0{pins:List (NL×Obj)}{σ:St}{H:Hp}{s:NM}{A:Oh}{a b:NL}(I:Inv X pins σ H s)(hu:A.units+2<OO)(h:Bs H a b):EqB X.prog X.w A s (.ref a) (.ref b) false:=by
 obtain⟨hab,k,i,j,kvs,lvs,ha,hb,hl,hv⟩:=h;intro E Q hq;unfold eqBool;refine wpAny_holding (Tg (λhab'=>absurd (Pq (eq_of_beq hab')) hab) λ_=>NN ?_);obtain⟨z,hs,vs,rel,dd⟩:=jf I.hok ha;obtain⟨z2,hs2,vs2,rel2,dd2⟩:=jf I.hok hb;have e1:=rel.length;have e2:=rel2.length;cases rel with
 |@cons _ u _ us r1 rest=>
  obtain⟨k',v'⟩:=u;obtain⟨ek,t,ev⟩:=r1;dsimp only at ek ev;subst ek ev;have hval:=rel2.val k;rw[mK (p:=(k,V.int j)) rfl]at hval;cases hvv:valueAt vs2 k with
  |none=>rw[hvv]at hval;exact(show False from hval).elim
  |some u'=>
   rw[hvv]at hval;obtain⟨t2,rfl⟩:=hval;refine OD (op:=.Eq) dd.typeIs dd2.typeIs OM (PZ OM dd.typeIs PU ?_ (PL _ _)) (by omega);show wpAny _ _ (Oy "__eq__" ⟨[.ref a,.ref b],[]⟩>>=_) _ _ _;refine NN ?_;unfold Oy;refine NN (Pc dd.typeIs ?_);show wpAny _ _ (pure (NZ a,NZ b)) _ _ _;refine NU ?_;refine NN (QL (T:="dict") (b:=true) dd2.typeIs (by rw[Rh];kernel_rfl) ?_);show wpAny _ _ (Ow "dict.__eq__" a b>>=_) _ _ _;simp only[Lb]at e1 e2;refine NN (zg hs hs2 dd dd2 (by omega) hvv (by have:=Qr (A:=A.in1) (s:=s) i t j t2;rw[beq_eq_false_iff_ne.mpr hv]at this;exact this) ?_);show wpAny _ _ (ret (.bool false)) _ _ _;exact NU ⟨.bool false,rfl,(λz=>nomatch z),Oz hq⟩
theorem uC:∀{bs:List NL}{its:List NK},Ug (bs.map V.ref) its->its=bs.map NZ
 | [],_,.nil=>rfl
 |b::r,_,.cons r2 r3=>by cases r2;rw[uC r3];rfl
theorem Cy(hu:X.A.units+64<OO):OpR X (Oe .NotIn) (λx y H Q=>∃(a p:NL)(bs:List NL),x=.ref a/\y=.ref p/\SqL X.K H p (bs.map V.ref)/\(∀b∈bs,b≠a->Bs H b a)/\Q (.bl (!decide (a∈bs))) H):=by
 intro pins s σ H x y v u Q I rx ry h;obtain⟨a,p,bs,rfl,rfl,hp,hb,q⟩:=h;cases rx;cases ry;obtain⟨its,r1,⟨o,n,e1,c1,_,d1⟩,_⟩:=I.list hp;obtain⟨oc,od,oda,osl⟩:=o;dsimp only at c1 d1;subst c1 d1;have eits:its=bs.map NZ:=uC r1;subst eits;show wpAny _ X.A (do return QM (!(<-contains (.ref p) (.ref a)))) _ _ s;refine NN (wpAny_contains_slot (T:="list") ⟨_,e1,rfl⟩ Qt (OU (Qg Qt ⟨_,e1,rfl⟩ PySem.F.entry_list_contains (PySem.F.args_list_contains_2 _ _) (list_containsW p (bs.map NZ).toArray n od osl (.ref a) (λv=>decide (v=.ref a)))
  (Q:=λv s'=>s'=s/\v=.bool ((bs.map NZ).toArray.any λv=>decide (v=.ref a))) ⟨e1,λy hy=>?_,rfl,rfl⟩) (λv s' hv=>?_) λ_ _ e=>e))
 ·have hy':y∈bs.map NZ:=by simpa using hy
  obtain⟨b,hbm,rfl⟩:=KS.mp hy';by_cases e:b=a
  ·subst e;rw[decide_eq_true rfl];exact λE Q hq=>QZ _ X.prog X.w E Q hq
  rw[decide_eq_false (λz=>e (Pq z))];exact A0 I (by show X.A.units+1+2<OO;omega) (hb b hbm e)
 obtain⟨rfl,rfl⟩:=hv;have ea:((bs.map NZ).toArray.any λv=>decide (v=.ref a))=decide (a∈bs):=by
  rw[List.any_toArray,List.any_map,LP,LM,decide_eq_true_iff];exact⟨λ⟨b,h1,h2⟩=>Pq (of_decide_eq_true h2)▸h1,λh=>⟨a,h,decide_eq_true rfl⟩⟩
 rw[ea];exact Oz (NU ⟨.bl _,H,I,rfl,q⟩)
end
section
variable{prog:Program}{w:NW}{A:Oh}{E:NK->NM->Prop}{s:NM}
end
section
variable{X:Cx}
theorem Ct(hu:X.A.units+64<OO):OpR X (Oe .NotEq) (λx y H Q=>∃d e,hE X.K H x d/\hE X.K H y e/\Ol d=true/\Ol e=true/\Q (.bl (!PyData.eqv d e)) H):=by
 intro pins s σ H x y v u Q I rx ry h;obtain⟨d,e,hd,he,sd,se,hq⟩:=h;obtain⟨as,z1⟩:=I.reads hd rx;obtain⟨bs,z2⟩:=I.reads he ry;exact ne_dataH z1 z2 sd se hu ⟨.bl _,H,I,rfl,hq⟩
theorem C0{prog:Program}{w:NW}{l b:NL}{xs ys:Array NK}{n n2:Nat}{dd dd2:Option NL}{sl sl2:Array (Option NK)}(hsz:xs.size=ys.size)(k:Nat) :
  ∀i:Nat,xs.size-i=k->MeetsIn prog w (PD.«list.__eq__.loop» ⟨[.ref l,.ref b,SK i,SK 3],[]⟩) (λA R s=>s.heap.get? l=T9 { cls:=.type "list",dict:=dd,data:=.seq xs n,slots:=sl }/\
   s.heap.get? b=T9 { cls:=.type "list",dict:=dd2,data:=.seq ys n2,slots:=sl2 }/\(∀j (h1:j<xs.size) (h2:j<ys.size),EqW prog w A.in1 s xs[j] ys[j])/\R (.ok (.ret (.bool false))) s):=by
 induction k with
 |zero=>
  intro i hk A R s h;obtain⟨hp,g,d,tk,os⟩:=s;obtain⟨h1,h2,he,h⟩:=h
  wp_walk using NT h1,NT h2
  rw[show xs[((i:Nat):Int).toNat]?=Ua by simp;omega,show ys[((i:Nat):Int).toNat]?=Ua by simp;omega]
  wp_walk using NT h1,NT h2
  show R (.ok (.ret (.bool (xs.size !=ys.size)))) _;rw[hsz,bne_self_eq_false];exact h
 |succ k ih=>
  intro i hk A R s h;obtain⟨hp,g,d,tk,os⟩:=s;obtain⟨h1,h2,he,h⟩:=h
  wp_walk using NT h1,NT h2
  have lt1:i<xs.size:=by omega
  have lt2:i<ys.size:=by omega
  rw[show xs[((i:Nat):Int).toNat]?=T9 xs[i] by simp[lt1],show ys[((i:Nat):Int).toNat]?=T9 ys[i] by simp[lt2]]
  refine NN (he i lt1 lt2 _ _ ?_)
  wp_walk
  rw[show((i:Int)+1)=((i+1:Nat):Int) by push_cast;rfl]
  exact⟨O2 Om _,OQ O6 (by rw[Ou Om _];exact ih (i+1) (by omega) A R _ ⟨h1,h2,he,h⟩)⟩
theorem Bw{prog:Program}{w:NW}{l b:NL}{xs ys:Array NK}{n n2:Nat}{dd dd2:Option NL}{sl sl2:Array (Option NK)}(hsz:xs.size=ys.size) :
  MeetsIn prog w (PD.«list.__ne__» ⟨[.ref l,.ref b],[]⟩) (λA R s=>s.heap.get? l=T9 { cls:=.type "list",dict:=dd,data:=.seq xs n,slots:=sl }/\
   s.heap.get? b=T9 { cls:=.type "list",dict:=dd2,data:=.seq ys n2,slots:=sl2 }/\(∀j (h1:j<xs.size) (h2:j<ys.size),EqW prog w A.in1 s xs[j] ys[j])/\R (.ok (.ret (.bool false))) s):=by
 intro A R s h;obtain⟨hp,g,d,tk,os⟩:=s;obtain⟨h1,h2,he,h⟩:=h
 have f3:=QY;have hne:¬ (xs.size !=ys.size)=true:=by simp[hsz]
 wp_walk using NT h1,NT h2
 exact⟨O2 Om _,OQ O6 (by rw[Ou Om _];exact C0 hsz _ 0 rfl A R _ ⟨h1,h2,he,h⟩)⟩
theorem Fm(hu:X.A.units+64<OO):OpR X (Oe .NotEq) (λx y H Q=>∃p q xs ys,x=.ref p/\y=.ref q/\SqL X.K H p xs/\SqL X.K H q ys/\xs.length=ys.length/\(∀(i:Nat) a b,xs[i]?=T9 a->ys[i]?=T9 b->∃d e,a=.ref d/\b=.ref e/\pY X.K H d e)/\Q (.bl false) H):=by
 intro pins s σ H x y v u Q I rx ry h;obtain⟨p,q,xs,ys,rfl,rfl,hp,hq,hl,hf,k⟩:=h;cases rx;cases ry;obtain⟨its,r1,⟨o,n,e1,c1,_,d1⟩,_⟩:=I.list hp;obtain⟨jts,r2,⟨o2,n2,e2,c2,_,d2⟩,_⟩:=I.list hq;have l1:=r1.length;have l2:=r2.length;obtain⟨oc,od,oda,osl⟩:=o;obtain⟨oc2,od2,oda2,osl2⟩:=o2;dsimp only at c1 d1 c2 d2;subst c1 d1 c2 d2;refine OD (op:=.NotEq) (T:="list") ⟨_,e1,rfl⟩ ⟨_,e2,rfl⟩ Rk (Qg Rk ⟨_,e1,rfl⟩ PySem.F.entry_list_ne (PySem.F.args_list_ne_2 _ _) (Bw (by simp;omega)) ⟨e1,e2,λj h1 h2=>?_,?_⟩) (by omega)
 ·simp at h1 h2;obtain⟨x,hx⟩:∃x,xs[j]?=T9 x:=⟨xs[j]'(by omega),Kv (by omega)⟩;obtain⟨y,hy⟩:∃y,ys[j]?=T9 y:=⟨ys[j]'(by omega),Kv (by omega)⟩;obtain⟨d,e,rfl,rfl,de⟩:=hf j x y hx hy;obtain⟨u1,g1,w1⟩:=r1.get hx;obtain⟨u2,g2,w2⟩:=r2.get hy;have z1:its.toArray[j]'(by simpa using h1)=u1:=by
   have:=Kv h1;rw[g1]at this;simpa using (NP this).symm
  have z2:jts.toArray[j]'(by simpa using h2)=u2:=by
   have:=Kv h2;rw[g2]at this;simpa using (NP this).symm
  rw[z1,z2];cases w1;cases w2;exact zJ I (by show X.A.units+1+2<OO;omega) de
 exact⟨(λz=>nomatch z),.bl false,H,I,rfl,k⟩
end
section
variable{K:NO}{H:Hp}{Q:VK}
theorem tix{p:NL}{xs:List V}{v:V}{j:Nat}(h:SqT K H p xs)(e:xs[j]?=T9 v)(q:Q v H):ixS K p (j:Int) H Q\/dgI p (.int (j:Int)) H Q:=.inl ⟨xs,v,.inr h,eG e,q⟩
theorem lix{p:NL}{xs:List V}{v:V}{i:Int}(h:SqL K H p xs)(e:atI xs i=T9 v)(q:Q v H):ixS K p i H Q\/dgI p (.int i) H Q:=.inl ⟨xs,v,.inl h,e,q⟩
theorem dgk{d:NL}{kvs:List (Key×V)}{x:Str}{v:V}(h:H d=T9 (.dK kvs))(e:fB kvs (.inr x)=T9 v)(q:Q v H):dgI d (.str x) H Q:=⟨v,e▸cP.k (k:=.inr x) h,q⟩
theorem fdI{a C dx:NL}{f:Str}{fs:List (Str×V)}{v:V}(h:H a=T9 (.ins C dx fs))(c:Cls K C)(n:aH K C f)(e:fs.lookup f=T9 v)(q:Q v H):Gq K f (.ref a) H Q:=⟨a,C,dx,fs,v,rfl,h,c,n,e,q⟩
theorem lnl{p:NL}{xs:List V}(h:H p=T9 (.lst xs))(q:Q (.int (xs.length:Nat)) H):DD K [.ref p] H Q\/GC [.ref p] H Q:=.inl ⟨_,_,rfl,.inl ⟨_,SqL.of h,rfl⟩,q⟩
theorem isB{x:V}{D:NL}{t:NK}{b:Bool}{R:Bool->Hp->Prop}(ty:lV K H x t)(k:OH K t (.ref D)=T9 b)(q:R b H):Fv K [x,.ref D] H λv H1=>Bi K v H1 R:=⟨x,.ref D,t,b,rfl,(λz=>by cases z),ty,k,b,rfl,q⟩
end
end L2
namespace K60
open PySem L2
local macro_rules|`($a^af)=>`(aa $a af)
local macro_rules|`($a^$b^$c)=>`(aa $a ($b^$c))
local macro_rules|`(())=>`(by omega)
local macro_rules|`(∅)=>`(by decide)
theorem scM{N P:List Str}{sc:Pz}(k:sc.kind=.function:=by rfl)(c:sc.isCoroutine=false:=by rfl)(g:sc.isGenerator=false:=by rfl)(n:N.Nodup:=by decide+kernel)(p:N.take P.length=P:=by rfl)(q:∀x∈P,sc.names.lookup x=T9 .local\/sc.names.lookup x=T9 .cell:=by decide+kernel)(f:∀y∈sc.names,y.2≠ .free:=by decide+kernel):az N P sc:=⟨k,c,g,n,p,q,f⟩
theorem px{X:Cx}{a b:Expr}{ta tb:TE}{pos:Pos}(hu:X.A.units+64<OO)(ha:PE X a ta)(hb:PE X b tb)(hs:zY b:=by exact λ_ _=>rfl):PE X (.Subscript a b pos) (tOp (IT X.K) ta tb):=Jv (FX hu) ha hb hs
theorem pgn{X:Cx}{pos:Pos}{i:Nat}{x:Str}(hN:X.N.Nodup)(hi:X.N[i]?=T9 x)(hx:Loc X.env.scope x:=by first|exact KG rfl|exact Lg rfl)(hf:X.fn x=true\/X.env.scope.names.lookup x=T9 .local:=by first|exact .inl rfl|exact .inr rfl|assumption):PG X (.Name x pos) (kf i):=zt hN hi hx hf
theorem pst{X:Cx}(i:Nat){x:Str}{e:Expr}{te:TE}{pos pos':Pos}(hN:X.N.Nodup)(he:PE X e te)(hi:X.N[i]?=T9 x:=by rfl)(hx:Loc X.env.scope x:=by first|exact KG rfl|exact Lg rfl)(hs:Rr e (T9 (.Name x pos')) pos.line X.env=pure false:=by rfl)(hf:X.fn x=true\/X.env.scope.names.lookup x=T9 .local:=by first|exact .inl rfl|exact .inr rfl|assumption):PS X (.Assign [.Name x pos'] e pos) (CA te (kf i)):=HE hN hi hx he hs hf
theorem pcB{X:Cx}{id:String}{r:List V->Hp->VK->Prop}{x:Str}{e:Expr}{es:List Expr}{t:TA}{p pos:Pos}(hc:dE X (.builtin id) r)(hm:X.mg x=Ua)(ha:PA X (e::es) t)(hg:Gl X x:=by rfl)(hv:OZ x=T9 (.builtin id):=by boot_by_name)(hn:x≠"__name__":=by decide)(hdb:(x==("__debug__":Str))=false:=by decide)(he:NX (e::es) X.env=(false,OE e X.env)::NX es X.env:=by rfl)(hpl:(OK pos (NX es X.env)).any (·.1)=false:=by rfl):PE X (.Call (.Name x p) (e::es) [] pos) (tCB r t):=CN hc hg hm hv ha hn hdb he hpl
theorem pcT{X:Cx}{T:String}{r:List V->Hp->VK->Prop}{x:Str}{e:Expr}{es:List Expr}{t:TA}{p pos:Pos}(hc:dE X (.type T) r)(hm:X.mg x=Ua)(ha:PA X (e::es) t)(hg:Gl X x:=by rfl)(hv:OZ x=T9 (.type T):=by boot_by_name)(hn:x≠"__name__":=by decide)(hdb:(x==("__debug__":Str))=false:=by decide)(he:NX (e::es) X.env=(false,OE e X.env)::NX es X.env:=by rfl)(hpl:(OK pos (NX es X.env)).any (·.1)=false:=by rfl):PE X (.Call (.Name x p) (e::es) [] pos) (tCB r t):=As hc hg hm hv ha hn hdb he hpl
theorem ptc{X:Cx}{a b:Expr}{ta tb:TE}{pos:Pos}{op:CmpOp}{r:R2}(ho:OpR X (Oe op) r)(ha:PE X a ta)(hb:PE X b tb)(hm:Pn op b=false:=by exact Dj _):PT X (.Compare a [op] [b] pos) (uy (tOp r ta tb)):=Dz ho ha hb hm
theorem pec{X:Cx}{a b:Expr}{ta tb:TE}{pos:Pos}{op:CmpOp}{r:R2}(ho:OpR X (Oe op) r)(ha:PE X a ta)(hb:PE X b tb)(hm:Pn op b=false:=by exact Dj _):PE X (.Compare a [op] [b] pos) (tOp r ta tb):=EF ho ha hb hm
noncomputable abbrev kK:Oj:=top 21
theorem jM:az ["program","ranks","head"] ["program"] (av kK):=scM
noncomputable abbrev lT:Oj:=top 26
theorem vS:az ["thing"] ["thing"] (av lT):=scM
noncomputable abbrev pV:Oj:=top 27
theorem y8:az ["gift","size"] ["gift","size"] (av pV):=scM
noncomputable abbrev kU:Oj:=top 28
theorem nK:az ["given","gifts","gift"] ["given","gifts"] (av kU):=scM
noncomputable abbrev ou:Oj:=top 29
theorem wK:az ["own"] ["own"] (av ou):=scM
noncomputable abbrev oh:Oj:=top 30
theorem gw:az ["program","gifts","cells","head","deed","part"] ["program","gifts"] (av oh):=scM
noncomputable abbrev rO:Oj:=top 33
theorem AE:az ["one","word","other"] ["one","word","other"] (av rO):=scM
noncomputable abbrev jR:Oj:=top 34
theorem su:az ["place","size"] ["place","size"] (av jR):=scM
noncomputable abbrev pS:Oj:=top 37
theorem yr:az ["program","cells"] ["program","cells"] (av pS):=scM
noncomputable abbrev Bm:Oj:=top 38
theorem yC:az ["program","gifts","state","book"] ["program","gifts"] (av Bm):=scM
noncomputable abbrev iE:Oj:=top 40
theorem lI:az ["program","rank","one","other","head"] ["program","rank","one","other"] (av iE):=scM
noncomputable abbrev yh:Oj:=top 41
theorem zX:az ["program","book","rank","ranks"] ["program","book","rank"] (av yh):=scM
noncomputable abbrev jZ:Oj:=top 43
theorem r9:az ["_law_script","_law_k"] ["_law_script","_law_k"] (av jZ):=scM
noncomputable abbrev pX:Oj:=top 44
theorem oz:az ["_law_cell","_law_way","_law_many","_law_number_here"] ["_law_cell","_law_way","_law_many"] (av pX):=scM
noncomputable abbrev oE:Oj:=top 45
theorem d5:az ["_law_cell","_law_k","_law_letters","_law_way","_law_words","_law_size","_law_at","_law_stem"] ["_law_cell","_law_k"] (av oE):=scM
noncomputable abbrev kN:Oj:=top 46
theorem nH:az ["_law_cell"] ["_law_cell"] (av kN):=scM
noncomputable abbrev lU:Oj:=top 47
theorem bI:az ["_law_script","_law_state","_law_names","_law_ranks","_law_size","_law_heads_here","_law_turn","_law_row","_law_name_here","_law_rank"] ["_law_script","_law_state"] (av lU):=scM
noncomputable abbrev pv:Oj:=top 48
theorem yP:az ["_law_state","_law_some","_law_loose","_law_low","_law_high"] ["_law_state","_law_some","_law_loose","_law_low","_law_high"] (av pv):=scM
noncomputable abbrev l7:Oj:=top 49
theorem kC:az ["_law_state","_law_cell","_law_way","_law_high","_law_some","_law_pick"] ["_law_state","_law_cell","_law_way","_law_high"] (av l7):=scM
noncomputable abbrev mD:Oj:=top 50
theorem fj:az ["_law_state","_law_cell","_law_high","_law_way","_law_one","_law_some","_law_word"] ["_law_state","_law_cell","_law_high"] (av mD):=scM
noncomputable abbrev pT:Oj:=top 51
theorem qU:az ["_law_state","_law_row","_law_steps","_law_frame"] ["_law_state","_law_row","_law_steps"] (av pT):=scM
noncomputable abbrev oi:Oj:=top 52
theorem gu:az ["_law_state","_law_cell","_law_loose","_law_marks","_law_mark","_law_some","_law_name_here"] ["_law_state","_law_cell","_law_loose"] (av oi):=scM
noncomputable abbrev l6:Oj:=top 53
theorem cx:az ["_law_state","_law_cell","_law_kind","_law_loose","_law_low","_law_word","_law_some","_law_name_here","_law_high","_law_row"] ["_law_state","_law_cell","_law_kind","_law_loose"] (av l6):=scM
noncomputable abbrev kJ:Oj:=top 54
theorem bB:az ["_law_state","_law_cell","_law_kind","_law_loose","_law_frame","_law_low","_law_high","_law_idles","_law_times","_law_row","_law_some","_law_rank"] ["_law_state","_law_cell","_law_kind","_law_loose"] (av kJ):=scM
noncomputable abbrev kO:Oj:=top 55
theorem nG:az ["_law_state","_law_frame"] ["_law_state"] (av kO):=scM
noncomputable abbrev lg:Oj:=top 56
theorem cH:az ["_law_state","_law_cell","_law_loose","_law_frame","_law_some","_law_name_here","_law_deed","_law_things","_law_part","_law_high"] ["_law_state","_law_cell","_law_loose"] (av lg):=scM
noncomputable abbrev kE:Oj:=top 57
theorem jO:az ["_law_state","_law_cell","_law_kind","_law_loose","_law_frame","_law_loops"] ["_law_state","_law_cell","_law_kind","_law_loose"] (av kE):=scM
noncomputable abbrev oo:Oj:=top 58
theorem ji:az ["_law_state","_law_cells","_law_rank","_law_limit","_law_cell","_law_kind","_law_loose"] ["_law_state","_law_cells","_law_rank","_law_limit"] (av oo):=scM
noncomputable abbrev mw:Oj:=top 59
theorem bU:az ["_law_script","_law_mode","_law_limit","_law_state","_law_names","_law_cell","_law_at","_law_j","_law_rank","_law_name_here","_law_parts","_law_part","_law_many"] ["_law_script","_law_mode","_law_limit"] (av mw):=scM
noncomputable abbrev gT:Oj:=top 60
theorem kh:az ["_law_number_here","_law_row","_law_word"] ["_law_number_here","_law_row"] (av gT):=scM
noncomputable abbrev fV:Oj:=top 61
theorem fD:az ["_law_frame","_law_number_here","_law_row"] ["_law_frame"] (av fV):=scM
noncomputable abbrev oq:Oj:=top 62
theorem c8:az ["_law_rows","_law_heads_here","_law_deeds","_law_frames","_law_k","_law_word","_law_frame","_law_some"] ["_law_rows"] (av oq):=scM
noncomputable abbrev oj:Oj:=top 63
theorem je:az ["_law_cell","_law_k","_law_size","_law_some","_law_j","_law_far"] ["_law_cell","_law_k","_law_size"] (av oj):=scM
noncomputable abbrev mJ:Oj:=top 64
theorem gZ:az ["_law_rows","_law_cell","_law_more","_law_rank","_law_one","_law_other","_law_k"] ["_law_rows","_law_cell","_law_more","_law_rank"] (av mJ):=scM
noncomputable abbrev pW:Oj:=top 65
theorem rM:az ["_law_rows","_law_one","_law_other","_law_rank","_law_row"] ["_law_rows","_law_one","_law_other","_law_rank"] (av pW):=scM
noncomputable abbrev fk:Oj:=top 66
theorem dF:az ["_law_rows","_law_gifts_here","_law_cell","_law_row","_law_some","_law_at"] ["_law_rows","_law_gifts_here","_law_cell"] (av fk):=scM
noncomputable abbrev kF:Oj:=top 67
theorem jY:az ["_law_gifts_here","_law_turned_here","_law_made","_law_name_here"] ["_law_gifts_here","_law_turned_here"] (av kF):=scM
noncomputable abbrev rQ:Oj:=top 68
theorem eZ:az ["_law_script","_law_rows","_law_program","_law_rank","_law_one","_law_other","_law_handed","_law_found","_law_name_here","_law_book","_law_letters","_law_ranks","_law_row","_law_due_here","_law_told"] ["_law_script"] (av rQ):=scM
noncomputable abbrev fJ:Oj:=Ud (top 5) 0
theorem xK:az ["self","number"] ["self","number"] (av fJ):=scM
noncomputable abbrev iV:Oj:=Ud (top 6) 0
theorem qr:az ["self","number","name","rank"] ["self","number","name","rank"] (av iV):=scM
noncomputable abbrev gL:Oj:=Ud (top 7) 0
theorem pP:az ["self","number","name","rank","size"] ["self","number","name","rank","size"] (av gL):=scM
noncomputable abbrev kb:Oj:=Ud (top 8) 0
theorem qK:az ["self","number","name","size"] ["self","number","name","size"] (av kb):=scM
noncomputable abbrev j7:Oj:=Ud (top 9) 0
theorem sr:az ["self","number","name","rank"] ["self","number","name","rank"] (av j7):=scM
noncomputable abbrev jv:Oj:=Ud (top 10) 0
theorem sH:az ["self","number","name","value"] ["self","number","name","value"] (av jv):=scM
noncomputable abbrev jE:Oj:=Ud (top 11) 0
theorem rh:az ["self","number","name","place","value"] ["self","number","name","place","value"] (av jE):=scM
noncomputable abbrev iZ:Oj:=Ud (top 12) 0
theorem qv:az ["self","number","name","value"] ["self","number","name","value"] (av iZ):=scM
noncomputable abbrev jN:Oj:=Ud (top 13) 0
theorem sg:az ["self","number","name","value","mark"] ["self","number","name","value","mark"] (av jN):=scM
noncomputable abbrev iR:Oj:=Ud (top 14) 0
theorem ql:az ["self","number","name","things"] ["self","number","name","things"] (av iR):=scM
noncomputable abbrev kZ:Oj:=Ud (top 16) 0
theorem sV:az ["self","number","value","first","other","left","right"] ["self","number","value","first","other","left","right"] (av kZ):=scM
noncomputable abbrev iC:Oj:=Ud (top 17) 0
theorem qw:az ["self","number","thing","most","body","left","right"] ["self","number","thing","most","body","left","right"] (av iC):=scM
noncomputable abbrev iL:Oj:=Ud (top 18) 0
theorem qj:az ["self","number","name","parts","body"] ["self","number","name","parts","body"] (av iL):=scM
noncomputable abbrev iJ:Oj:=Ud (top 19) 0
theorem qk:az ["self","heads","deeds","main"] ["self","heads","deeds","main"] (av iJ):=scM
noncomputable abbrev me:Oj:=Ud (top 23) 0
theorem vm:az ["self"] ["self"] (av me):=scM
noncomputable abbrev nZ:Oj:=Ud (top 36) 0
theorem qe:az ["self","program","cells","deed"] ["self","program","cells"] (av nZ):=scM
noncomputable abbrev gB:Oj:=Ud (top 36) 1
theorem p6:az ["self","thing"] ["self","thing"] (av gB):=scM
noncomputable abbrev fO:Oj:=Ud (top 36) 2
theorem ft:az ["self","value","behind","numbers"] ["self","value"] (av fO):=scM
noncomputable abbrev fm:Oj:=Ud (top 36) 3
theorem oy:az ["self","row"] ["self","row"] (av fm):=scM
noncomputable abbrev fK:Oj:=Ud (top 36) 4
theorem jh:az ["self","count","book"] ["self","count"] (av fK):=scM
noncomputable abbrev jG:Oj:=Ud (top 36) 5
theorem dZ:az ["self","rows","ending","row"] ["self","rows"] (av jG):=scM
noncomputable abbrev kR:Oj:=Ud (top 36) 6
theorem js:az ["self","row","book","told"] ["self","row"] (av kR):=scM
noncomputable abbrev kM:Oj:=Ud (top 36) 7
theorem nJ:az ["self","row","numbers"] ["self","row"] (av kM):=scM
noncomputable abbrev jW:Oj:=Ud (top 36) 8
theorem dw:az ["self","row","deed","numbers","part","number"] ["self","row"] (av jW):=scM
noncomputable abbrev mQ:Oj:=Ud (top 36) 9
theorem g9:az ["self","row","ending"] ["self","row"] (av mQ):=scM
noncomputable abbrev jH:Oj:=Ud (top 36) 10
theorem dD:az ["self","row","wanted","done","ending"] ["self","row"] (av jH):=scM
structure Adr where
 Row:NL
 ck:NL
 bj:NL
 bP:NL
 cN:NL
 cR:NL
 cD:NL
 bH:NL
 cj:NL
 cz:NL
 cO:NL
 dz:NL
 bK:NL
 bZ:NL
 Program:NL
 fh:NL
 Run:NL
structure Txt(K:NO)(mg:Str->Option NK)(A:Adr):Prop where
 nT:bL K mg "ranks_told" kK ["program"]
 pw:bL K mg "is_number" lT ["thing"]
 zI:bL K mg "is_good" pV ["gift","size"]
 nX:bL K mg "given_cell" kU ["given","gifts"]
 rg:bL K mg "own_cell" ou ["own"]
 qT:bL K mg "cells_of" oh ["program","gifts"]
 reckon:bL K mg "reckon" rO ["one","word","other"]
 mP:bL K mg "round_place" jR ["place","size"]
 vj:bL K mg "ends_of" pS ["program","cells"]
 run:bL K mg "run" Bm ["program","gifts"]
 kS:bL K mg "unlike_given" iE ["program","rank","one","other"]
 seen:bL K mg "seen" yh ["program","book","rank"]
 mz:bL K mg "_law_cell_at" jZ ["_law_script","_law_k"]
 vn:bL K mg "_law_mix" pX ["_law_cell","_law_way","_law_many"]
 qR:bL K mg "_law_name" oE ["_law_cell","_law_k"]
 iG:bL K mg "_law_number" kN ["_law_cell"]
 pJ:bL K mg "_law_heads" lU ["_law_script","_law_state"]
 u4:bL K mg "_law_fit" pv ["_law_state","_law_some","_law_loose","_law_low","_law_high"]
 pI:bL K mg "_law_thing" l7 ["_law_state","_law_cell","_law_way","_law_high"]
 pO:bL K mg "_law_value" mD ["_law_state","_law_cell","_law_high"]
 uM:bL K mg "_law_add" pT ["_law_state","_law_row","_law_steps"]
 qL:bL K mg "_law_said" oi ["_law_state","_law_cell","_law_loose"]
 pA:bL K mg "_law_plain" l6 ["_law_state","_law_cell","_law_kind","_law_loose"]
 og:bL K mg "_law_opened" kJ ["_law_state","_law_cell","_law_kind","_law_loose"]
 oe:bL K mg "_law_closed" kO ["_law_state"]
 nW:bL K mg "_law_called" lg ["_law_state","_law_cell","_law_loose"]
 ow:bL K mg "_law_turned" kE ["_law_state","_law_cell","_law_kind","_law_loose"]
 qS:bL K mg "_law_body" oo ["_law_state","_law_cells","_law_rank","_law_limit"]
 pB:bL K mg "_law_drawn" mw ["_law_script","_law_mode","_law_limit"]
 j6:bL K mg "_law_plain_row" gT ["_law_number_here","_law_row"]
 ik:bL K mg "_law_nested_row" fV ["_law_frame"]
 sj:bL K mg "_law_tree" oq ["_law_rows"]
 rB:bL K mg "_law_gift" oj ["_law_cell","_law_k","_law_size"]
 pR:bL K mg "_law_gifts" mJ ["_law_rows","_law_cell","_law_more","_law_rank"]
 uU:bL K mg "_law_due" pW ["_law_rows","_law_one","_law_other","_law_rank"]
 gJ:bL K mg "_law_turned_list" fk ["_law_rows","_law_gifts_here","_law_cell"]
 oB:bL K mg "_law_copied" kF ["_law_gifts_here","_law_turned_here"]
 tD:mg "all"=Ua
 vN:mg "bool"=Ua
 u7:mg "dict"=Ua
 mG:mg "int"=Ua
 aG:mg "isinstance"=Ua
 cI:mg "len"=Ua
 cC:mg "list"=Ua
 sG:mg "max"=Ua
 Ae:mg "min"=Ua
 g8:mg "range"=Ua
 xy:mg "str"=Ua
 zH:mg "sum"=Ua
 qC:mg "tuple"=Ua
 xJ:mg "zip"=Ua
 nQ:∃t,mg "MOST_NUMBER"=T9 (.int 999999999999 t)
 qA:∃t,mg "ROUND"=T9 (.int 1000000000000 t)
 ki:eK K mg A.Row "Row" [A.Row]
 rH:MFn K A.Row "__init__" "Row.__init__" fJ ["self","number"]
 bG:eK K mg A.ck "HandRow" [A.ck,A.Row]
 iB:MFn K A.ck "__init__" "HandRow.__init__" iV ["self","number","name","rank"]
 iz:aH K A.ck "name"
 iH:aH K A.ck "rank"
 km:aH K A.ck "number"
 aJ:eK K mg A.bj "GivenRow" [A.bj,A.Row]
 gQ:MFn K A.bj "__init__" "GivenRow.__init__" gL ["self","number","name","rank","size"]
 cq:aH K A.bj "name"
 gM:aH K A.bj "rank"
 cU:aH K A.bj "size"
 ja:aH K A.bj "number"
 bb:eK K mg A.bP "OwnRow" [A.bP,A.Row]
 jT:MFn K A.bP "__init__" "OwnRow.__init__" kb ["self","number","name","size"]
 dP:aH K A.bP "name"
 gq:aH K A.bP "size"
 lG:aH K A.bP "number"
 bW:eK K mg A.cN "LetRow" [A.cN,A.Row]
 jC:MFn K A.cN "__init__" "LetRow.__init__" j7 ["self","number","name","rank"]
 j2:aH K A.cN "name"
 j5:aH K A.cN "rank"
 lD:aH K A.cN "number"
 bT:eK K mg A.cR "SetRow" [A.cR,A.Row]
 ka:MFn K A.cR "__init__" "SetRow.__init__" jv ["self","number","name","value"]
 jD:aH K A.cR "name"
 iI:aH K A.cR "value"
 gG:aH K A.cR "number"
 bE:eK K mg A.cD "PutRow" [A.cD,A.Row]
 jK:MFn K A.cD "__init__" "PutRow.__init__" jE ["self","number","name","place","value"]
 jP:aH K A.cD "name"
 iT:aH K A.cD "place"
 iK:aH K A.cD "value"
 gI:aH K A.cD "number"
 aP:eK K mg A.bH "SendRow" [A.bH,A.Row]
 ip:MFn K A.bH "__init__" "SendRow.__init__" iZ ["self","number","name","value"]
 i7:aH K A.bH "name"
 gO:aH K A.bH "value"
 eA:aH K A.bH "number"
 aU:eK K mg A.cj "SayRow" [A.cj,A.Row]
 jB:MFn K A.cj "__init__" "SayRow.__init__" jN ["self","number","name","value","mark"]
 jw:aH K A.cj "name"
 iN:aH K A.cj "value"
 jQ:aH K A.cj "mark"
 eQ:aH K A.cj "number"
 aY:eK K mg A.cz "CallRow" [A.cz,A.Row]
 iD:MFn K A.cz "__init__" "CallRow.__init__" iR ["self","number","name","things"]
 iy:aH K A.cz "name"
 fW:aH K A.cz "things"
 fG:aH K A.cz "number"
 aT:eK K mg A.cO "LastRow" [A.cO,A.Row]
 mI:MFn K A.cO "__init__" "Row.__init__" fJ ["self","number"]
 fL:aH K A.cO "number"
 bJ:eK K mg A.dz "IfRow" [A.dz,A.Row]
 kW:MFn K A.dz "__init__" "IfRow.__init__" kZ ["self","number","value","first","other","left","right"]
 jy:aH K A.dz "value"
 jU:aH K A.dz "first"
 jX:aH K A.dz "other"
 kH:aH K A.dz "left"
 j8:aH K A.dz "right"
 iW:aH K A.dz "number"
 aQ:eK K mg A.bK "LoopRow" [A.bK,A.Row]
 iF:MFn K A.bK "__init__" "LoopRow.__init__" iC ["self","number","thing","most","body","left","right"]
 gK:aH K A.bK "thing"
 fA:aH K A.bK "most"
 i9:aH K A.bK "body"
 iP:aH K A.bK "left"
 gP:aH K A.bK "right"
 fP:aH K A.bK "number"
 fX:eK K mg A.bZ "DeedRow" [A.bZ,A.Row]
 iQ:MFn K A.bZ "__init__" "DeedRow.__init__" iL ["self","number","name","parts","body"]
 i5:aH K A.bZ "name"
 eP:aH K A.bZ "parts"
 iq:aH K A.bZ "body"
 kr:aH K A.bZ "number"
 dO:eK K mg A.Program "Program" [A.Program]
 iU:MFn K A.Program "__init__" "Program.__init__" iJ ["self","heads","deeds","main"]
 cX:aH K A.Program "heads"
 eO:aH K A.Program "deeds"
 ic:aH K A.Program "main"
 fi:eK K mg A.fh "Book" [A.fh]
 lW:MFn K A.fh "__init__" "Book.__init__" me ["self"]
 dA:aH K A.fh "letters"
 mh:aH K A.fh "said"
 kI:aH K A.fh "trace"
 d9:aH K A.fh "steps"
 mj:aH K A.fh "ends"
 bR:eK K mg A.Run "Run" [A.Run]
 oH:MFn K A.Run "__init__" "Run.__init__" nZ ["self","program","cells"]
 gH:MFn K A.Run "number_at" "Run.number_at" gB ["self","thing"]
 fY:MFn K A.Run "number_for" "Run.number_for" fO ["self","value"]
 fq:MFn K A.Run "number_told" "Run.number_told" fm ["self","row"]
 fQ:MFn K A.Run "pass_steps" "Run.pass_steps" fK ["self","count"]
 f9:MFn K A.Run "do_rows" "Run.do_rows" jG ["self","rows"]
 o7:MFn K A.Run "do_row" "Run.do_row" kR ["self","row"]
 kX:MFn K A.Run "do_put" "Run.do_put" kM ["self","row"]
 jS:MFn K A.Run "do_call" "Run.do_call" jW ["self","row"]
 lY:MFn K A.Run "do_if" "Run.do_if" mQ ["self","row"]
 jF:MFn K A.Run "do_loop" "Run.do_loop" jH ["self","row"]
 jn:aH K A.Run "deeds"
 c9:aH K A.Run "cells"
 iO:aH K A.Run "book"
 bX:OfC K A.Row "__init__"
 nd:[A.Row,A.ck,A.bj,A.bP,A.cN,A.cR,A.cD,A.bH,A.cj,A.cz,A.cO,A.dz,A.bK,A.bZ,A.Program,A.fh,A.Run].Nodup
section
variable{P:Program}{w:NW}{K:NO}{mg:Str->Option NK}{base:Oi}{A:Adr}
theorem alc{H:Hp}{p:NL}(h:H p=Ua)(o:HO):aq H (upd H p o)/\upd H p o p=T9 o:=⟨aq.upd h o,aj⟩
theorem HP:OH K (.type "int") (.type "int")=T9 true:=by kernel_rfl!
theorem GX:OH K (.type "int") (.type "bool")=T9 false:=by kernel_rfl!
theorem HN:OH K (.type "int") (.type "list")=T9 false:=by kernel_rfl!
theorem HB:OH K (.type "tuple") (.type "tuple")=T9 true:=by kernel_rfl!
theorem ya:OH K (.type "list") (.type "list")=T9 true:=by kernel_rfl!
theorem sz{n:Nat}(h:n<=1000):n<=sizeLine:=Nm (ax h)
theorem cf(x:Int){m:Int}(hm:0<m):0<=x%m/\x%m<m:=⟨Int.emod_nonneg x (show m≠0 by omega),Int.emod_lt_of_pos x hm⟩
theorem EM{α:Type}{xs:List α}{k:Int}(h0:0<=k)(h1:k<(xs.length:Int)):∃x,xs[k.toNat]?=T9 x/\atI xs k=T9 x:=by
 have hk:k.toNat<xs.length:=()
 have e:=eG (xs:=xs) (j:=k.toNat) (Kv hk);rw[show((k.toNat:Nat):Int)=k by omega]at e;exact⟨_,Kv hk,e⟩
theorem mF{α:Type}(f:α->V){xs:List α}{k:Int}(h0:0<=k)(h1:k<(xs.length:Int)):∃x,x∈xs/\xs[k.toNat]?=T9 x/\atI (xs.map f) k=T9 (f x):=by
 obtain⟨x,e1,e2⟩:=EM (xs:=xs.map f) h0 (by rw[Kx];exact h1);rw[KO]at e1;cases h:xs[k.toNat]? with
 |none=>rw[h]at e1;cases e1
 |some y=>
  rw[h]at e1;have:f y=x:=NP e1;exact⟨y,KI h,rfl,by rw[this];exact e2⟩
theorem qi(i j:Int):decide (V.int i=V.int j)=decide (i=j):=decide_eq_decide.mpr ⟨λh=>V.int.inj h,λh=>by rw[h]⟩
theorem Ja(i j:Str):decide (V.str i=V.str j)=decide (i=j):=decide_eq_decide.mpr ⟨λh=>V.str.inj h,λh=>by rw[h]⟩
theorem p9{α:Type}(xs:List α):xs.filter (λ_=>true)=xs:=List.filter_eq_self.mpr λ_ _=>rfl
theorem aq.out{H0 H:Hp}(s:aq H0 H){x:NL}(h:H0 x=Ua)(u:HO):aq H0 (upd H x u):=λa o q=>by
 rw[ay (λz=>by rw[z,h]at q;cases q)];exact s a o q
theorem ag{H:Hp}{x a:NL}{u o:HO}(n:a≠x)(e:H a=T9 o):upd H x u a=T9 o:=by rw[ay n];exact e
theorem Ub{H:Hp}{x y:NL}{o:HO}(h:H x=Ua)(e:H y=T9 o):x≠y:=λz=>by rw[z,e]at h;cases h
noncomputable def Ks(H0:Hp)(x:NL)(H:Hp):List (NL×HO)->Prop
 | []=>True
 |p::ks=>(H p.1=T9 p.2/\p.1≠x/\H0 p.1=Ua)/\Ks H0 x H ks
theorem Ks.imp{H0 H H':Hp}{x:NL}(f:∀a o,a≠x->H a=T9 o->H' a=T9 o):∀{ks:List (NL×HO)},Ks H0 x H ks->Ks H0 x H' ks
 | [],_=>trivial
 |_::_,⟨⟨h1,h2,h3⟩,t⟩=>⟨⟨f _ _ h2 h1,h2,h3⟩,Ks.imp f t⟩
structure IA(K:NO)(H0:Hp)(x C dx:NL)(fs:List (Str×V))(m:Nat)(ks:List (NL×HO))(H:Hp):Prop where
 s:aq H0 H
 i:H x=T9 (.ins C dx fs)
 k:Ks H0 x H ks
 x:H0 x=Ua
 c:Cls K C
 l:fs.length<=m
theorem IA.one{H:Hp}{x C dx:NL}(hx:H x=Ua)(hd:H dx=Ua)(c:Cls K C):IA K H x C dx [] 0 [] (upd (upd H dx (.own x)) x (.ins C dx [])):=⟨aq.out (aq.upd hd _) hx _,aj,trivial,hx,c,KD _⟩
section
variable{H0 H:Hp}{x C dx:NL}{fs:List (Str×V)}{m:Nat}{ks:List (NL×HO)}
theorem zh(f:Str)(v:V):∀fs:List (Str×V),(dX f v fs).length<=fs.length+1
 | []=>KD _
 | (g,x)::r=>by
  unfold dX;split
  ·exact Nc _
  exact Mq (zh f v r)
theorem IA.put(a:IA K H0 x C dx fs m ks H)(f:Str)(v:V):IA K H0 x C dx (dX f v fs) (m+1) ks (upd H x (.ins C dx (dX f v fs))):=⟨aq.out a.s a.x _,aj,a.k.imp λ_ _ h e=>ag h e,a.x,a.c,KR (zh f v fs) (Mq a.l)⟩
theorem IA.fld{f:Str}{v:V}{Q:Hp->Prop}(a:IA K H0 x C dx fs m ks H)(n:aH K C f)(k:∀H',IA K H0 x C dx (dX f v fs) (m+1) ks H'->Q H')(l:m<1000:=by decide):Fn K f v (.ref x) H Q:=⟨x,C,dx,fs,rfl,a.i,a.c,n,MF a.l l,k _ (a.put _ _)⟩
theorem IA.nw{n:NL}(a:IA K H0 x C dx fs m ks H)(hn:H n=Ua)(o:HO):IA K H0 x C dx fs m ((n,o)::ks) (upd H n o):=
 have e:n≠x:=λz=>by rw[z,a.i]at hn;cases hn
 ⟨a.s.trans (aq.upd hn _),ag e.symm a.i,⟨⟨aj,e,aq.free a.s hn⟩,a.k.imp λ_ _ _ h=>aq.upd hn _ _ _ h⟩,a.x,a.c,a.l⟩
end
inductive gy(K:NO)(A:Adr)(vs:List V)(H:Hp)(Q:VK)(Z:XK):Prop
 |mk(x C dx:NL)(fs:List (Str×V))(n:V):vs=[.ref x,n]->H x=T9 (.ins C dx fs)->Cls K C->aH K C "number"->fs.length<1000->Q .non (upd H x (.ins C dx (dX "number" n fs)))->gy K A vs H Q Z
theorem nL{C:NL}(F:MFn K C "__init__" "Row.__init__" fJ ["self","number"]):jI P w K mg base 2 C "__init__" ["self","number"] (gy K A):=by
 refine F.hs (k:=1) xK (λf cdv A' outer s H vs Q E hr hu h=>?_);obtain⟨x,C,dx,fs,n,rfl,hx,c,na,hl,q⟩:=h;exact⟨_,(ah (aW (fv 0) (fv 1) rfl)),⟨x,C,dx,fs,rfl,hx,c,na,hl,q⟩⟩
theorem cF(T:Txt K mg A):jI P w K mg base 2 A.Row "__init__" ["self","number"] (gy K A):=nL T.rH
theorem IA.row{H0 H:Hp}{x C dx:NL}{ks:List (NL×HO)}{v:V}{Q:VK}(a:IA K H0 x C dx [] 0 ks H)(n:aH K C "number")(k:∀H',IA K H0 x C dx (dX "number" v []) 1 ks H'->Q .non H'):gy K A [.ref x,v] H Q E0:=⟨x,C,dx,[],v,rfl,a.i,a.c,n,∅,k _ (a.put _ _)⟩
inductive lA(K:NO)(A:Adr)(vs:List V)(G:Hp)(R:VK)(Z:XK):Prop
 |mk(x dx:NL)(v0 v1 v2:V)(H:Hp):vs=[.ref x,v0,v1,v2]->G=upd (upd H dx (.own x)) x (.ins A.ck dx [])->H x=Ua->H dx=Ua->(∀(H':Hp),aq H H'->H' x=T9 (.ins A.ck dx [("number",v0),("name",v1),("rank",v2)])->R .non H')->lA K A vs G R Z
theorem sv(T:Txt K mg A):T.iB.Hz P w mg base 3 (lA K A):=by
 refine T.iB.hs (k:=2) qr (λf cdv A' outer s G vs R E hr hu h=>?_);obtain⟨x,dx,v0,v1,v2,H,rfl,rfl,hx,hd,q⟩:=h;refine⟨_,(ae (aI (cW T.ki T.bX (cF T) hr (fv 0^fv 1^af)))
 (ae (aW (fv 0) (fv 2) rfl)
 (ah (aW (fv 0) (fv 3) rfl)))),?_⟩
 exact(IA.one (C:=A.ck) hx hd T.bG.cl).row T.km λH a=>a.fld T.iz λH a=>a.fld T.iH λH a=>q _ a.s a.i
inductive kg(K:NO)(A:Adr)(vs:List V)(G:Hp)(R:VK)(Z:XK):Prop
 |mk(x dx:NL)(v0 v1 v2 v3:V)(H:Hp):vs=[.ref x,v0,v1,v2,v3]->G=upd (upd H dx (.own x)) x (.ins A.bj dx [])->H x=Ua->H dx=Ua->(∀(H':Hp),aq H H'->H' x=T9 (.ins A.bj dx [("number",v0),("name",v1),("rank",v2),("size",v3)])->R .non H')->kg K A vs G R Z
theorem qm(T:Txt K mg A):T.gQ.Hz P w mg base 3 (kg K A):=by
 refine T.gQ.hs (k:=2) pP (λf cdv A' outer s G vs R E hr hu h=>?_);obtain⟨x,dx,v0,v1,v2,v3,H,rfl,rfl,hx,hd,q⟩:=h;refine⟨_,(ae (aI (cW T.ki T.bX (cF T) hr (fv 0^fv 1^af)))
 (ae (aW (fv 0) (fv 2) rfl)
 (ae (aW (fv 0) (fv 3) rfl)
 (ah (aW (fv 0) (fv 4) rfl))))),?_⟩
 exact(IA.one (C:=A.bj) hx hd T.aJ.cl).row T.ja λH a=>a.fld T.cq λH a=>a.fld T.gM λH a=>a.fld T.cU λH a=>q _ a.s a.i
inductive mR(K:NO)(A:Adr)(vs:List V)(G:Hp)(R:VK)(Z:XK):Prop
 |mk(x dx:NL)(v0 v1 v2:V)(H:Hp):vs=[.ref x,v0,v1,v2]->G=upd (upd H dx (.own x)) x (.ins A.bP dx [])->H x=Ua->H dx=Ua->(∀(H':Hp),aq H H'->H' x=T9 (.ins A.bP dx [("number",v0),("name",v1),("size",v2)])->R .non H')->mR K A vs G R Z
theorem sU(T:Txt K mg A):T.jT.Hz P w mg base 3 (mR K A):=by
 refine T.jT.hs (k:=2) qK (λf cdv A' outer s G vs R E hr hu h=>?_);obtain⟨x,dx,v0,v1,v2,H,rfl,rfl,hx,hd,q⟩:=h;refine⟨_,(ae (aI (cW T.ki T.bX (cF T) hr (fv 0^fv 1^af)))
 (ae (aW (fv 0) (fv 2) rfl)
 (ah (aW (fv 0) (fv 3) rfl)))),?_⟩
 exact(IA.one (C:=A.bP) hx hd T.bb.cl).row T.lG λH a=>a.fld T.dP λH a=>a.fld T.gq λH a=>q _ a.s a.i
inductive lX(K:NO)(A:Adr)(vs:List V)(G:Hp)(R:VK)(Z:XK):Prop
 |mk(x dx:NL)(v0 v1 v2:V)(H:Hp):vs=[.ref x,v0,v1,v2]->G=upd (upd H dx (.own x)) x (.ins A.cN dx [])->H x=Ua->H dx=Ua->(∀(H':Hp),aq H H'->H' x=T9 (.ins A.cN dx [("number",v0),("name",v1),("rank",v2)])->R .non H')->lX K A vs G R Z
theorem sT(T:Txt K mg A):T.jC.Hz P w mg base 3 (lX K A):=by
 refine T.jC.hs (k:=2) sr (λf cdv A' outer s G vs R E hr hu h=>?_);obtain⟨x,dx,v0,v1,v2,H,rfl,rfl,hx,hd,q⟩:=h;refine⟨_,(ae (aI (cW T.ki T.bX (cF T) hr (fv 0^fv 1^af)))
 (ae (aW (fv 0) (fv 2) rfl)
 (ah (aW (fv 0) (fv 3) rfl)))),?_⟩
 exact(IA.one (C:=A.cN) hx hd T.bW.cl).row T.lD λH a=>a.fld T.j2 λH a=>a.fld T.j5 λH a=>q _ a.s a.i
inductive mE(K:NO)(A:Adr)(vs:List V)(G:Hp)(R:VK)(Z:XK):Prop
 |mk(x dx:NL)(v0 v1 v2:V)(H:Hp):vs=[.ref x,v0,v1,v2]->G=upd (upd H dx (.own x)) x (.ins A.cR dx [])->H x=Ua->H dx=Ua->(∀(H':Hp),aq H H'->H' x=T9 (.ins A.cR dx [("number",v0),("name",v1),("value",v2)])->R .non H')->mE K A vs G R Z
theorem sO(T:Txt K mg A):T.ka.Hz P w mg base 3 (mE K A):=by
 refine T.ka.hs (k:=2) sH (λf cdv A' outer s G vs R E hr hu h=>?_);obtain⟨x,dx,v0,v1,v2,H,rfl,rfl,hx,hd,q⟩:=h;refine⟨_,(ae (aI (cW T.ki T.bX (cF T) hr (fv 0^fv 1^af)))
 (ae (aW (fv 0) (fv 2) rfl)
 (ah (aW (fv 0) (fv 3) rfl)))),?_⟩
 exact(IA.one (C:=A.cR) hx hd T.bT.cl).row T.gG λH a=>a.fld T.jD λH a=>a.fld T.iI λH a=>q _ a.s a.i
inductive mO(K:NO)(A:Adr)(vs:List V)(G:Hp)(R:VK)(Z:XK):Prop
 |mk(x dx:NL)(v0 v1 v2 v3:V)(H:Hp):vs=[.ref x,v0,v1,v2,v3]->G=upd (upd H dx (.own x)) x (.ins A.cD dx [])->H x=Ua->H dx=Ua->(∀(H':Hp),aq H H'->H' x=T9 (.ins A.cD dx [("number",v0),("name",v1),("place",v2),("value",v3)])->R .non H')->mO K A vs G R Z
theorem sP(T:Txt K mg A):T.jK.Hz P w mg base 3 (mO K A):=by
 refine T.jK.hs (k:=2) rh (λf cdv A' outer s G vs R E hr hu h=>?_);obtain⟨x,dx,v0,v1,v2,v3,H,rfl,rfl,hx,hd,q⟩:=h;refine⟨_,(ae (aI (cW T.ki T.bX (cF T) hr (fv 0^fv 1^af)))
 (ae (aW (fv 0) (fv 2) rfl)
 (ae (aW (fv 0) (fv 3) rfl)
 (ah (aW (fv 0) (fv 4) rfl))))),?_⟩
 exact(IA.one (C:=A.cD) hx hd T.bE.cl).row T.gI λH a=>a.fld T.jP λH a=>a.fld T.iT λH a=>a.fld T.iK λH a=>q _ a.s a.i
inductive lj(K:NO)(A:Adr)(vs:List V)(G:Hp)(R:VK)(Z:XK):Prop
 |mk(x dx:NL)(v0 v1 v2:V)(H:Hp):vs=[.ref x,v0,v1,v2]->G=upd (upd H dx (.own x)) x (.ins A.bH dx [])->H x=Ua->H dx=Ua->(∀(H':Hp),aq H H'->H' x=T9 (.ins A.bH dx [("number",v0),("name",v1),("value",v2)])->R .non H')->lj K A vs G R Z
theorem qW(T:Txt K mg A):T.ip.Hz P w mg base 3 (lj K A):=by
 refine T.ip.hs (k:=2) qv (λf cdv A' outer s G vs R E hr hu h=>?_);obtain⟨x,dx,v0,v1,v2,H,rfl,rfl,hx,hd,q⟩:=h;refine⟨_,(ae (aI (cW T.ki T.bX (cF T) hr (fv 0^fv 1^af)))
 (ae (aW (fv 0) (fv 2) rfl)
 (ah (aW (fv 0) (fv 3) rfl)))),?_⟩
 exact(IA.one (C:=A.bH) hx hd T.aP.cl).row T.eA λH a=>a.fld T.i7 λH a=>a.fld T.gO λH a=>q _ a.s a.i
inductive mq(K:NO)(A:Adr)(vs:List V)(G:Hp)(R:VK)(Z:XK):Prop
 |mk(x dx:NL)(v0 v1 v2 v3:V)(H:Hp):vs=[.ref x,v0,v1,v2,v3]->G=upd (upd H dx (.own x)) x (.ins A.cj dx [])->H x=Ua->H dx=Ua->(∀(H':Hp),aq H H'->H' x=T9 (.ins A.cj dx [("number",v0),("name",v1),("value",v2),("mark",v3)])->R .non H')->mq K A vs G R Z
theorem tw(T:Txt K mg A):T.jB.Hz P w mg base 3 (mq K A):=by
 refine T.jB.hs (k:=2) sg (λf cdv A' outer s G vs R E hr hu h=>?_);obtain⟨x,dx,v0,v1,v2,v3,H,rfl,rfl,hx,hd,q⟩:=h;refine⟨_,(ae (aI (cW T.ki T.bX (cF T) hr (fv 0^fv 1^af)))
 (ae (aW (fv 0) (fv 2) rfl)
 (ae (aW (fv 0) (fv 3) rfl)
 (ah (aW (fv 0) (fv 4) rfl))))),?_⟩
 exact(IA.one (C:=A.cj) hx hd T.aU.cl).row T.eQ λH a=>a.fld T.jw λH a=>a.fld T.iN λH a=>a.fld T.jQ λH a=>q _ a.s a.i
inductive lq(K:NO)(A:Adr)(vs:List V)(G:Hp)(R:VK)(Z:XK):Prop
 |mk(x dx:NL)(v0 v1:V)(t0:NL)(l0:List V)(H:Hp):vs=[.ref x,v0,v1,.ref t0]->G=upd (upd H dx (.own x)) x (.ins A.cz dx [])->H x=Ua->H dx=Ua->SqL K H t0 l0->(∀(n0:NL)(H':Hp),H n0=Ua->aq H H'->H' n0=T9 (.lst l0)->H' x=T9 (.ins A.cz dx [("number",v0),("name",v1),("things",.ref n0)])->R .non H')->lq K A vs G R Z
theorem qO(T:Txt K mg A):T.iD.Hz P w mg base 3 (lq K A):=by
 refine T.iD.hs (k:=2) ql (λf cdv A' outer s G vs R E hr hu h=>?_);obtain⟨x,dx,v0,v1,t0,l0,H,rfl,rfl,hx,hd,s0,q⟩:=h;refine⟨_,(ae (aI (cW T.ki T.bX (cF T) hr (fv 0^fv 1^af)))
 (ae (aW (fv 0) (fv 2) rfl)
 (ah (aW (fv 0) (pcT jL T.cC (fv 3^af)) rfl)))),?_⟩
 refine(IA.one (C:=A.cz) hx hd T.aY.cl).row T.fG λH a=>a.fld T.iy λH a=>⟨_,l0,rfl,.inl (a.s.seq s0),λn0 f=>?_⟩;replace a:=a.nw f (.lst l0);exact a.fld T.fW λH a=>q n0 _ a.k.1.2.2 a.s a.k.1.1 a.i
inductive nD(K:NO)(A:Adr)(vs:List V)(G:Hp)(R:VK)(Z:XK):Prop
 |mk(x dx:NL)(v0 v1 v2 v3:V)(t0 t1:NL)(l0 l1:List V)(H:Hp):vs=[.ref x,v0,v1,.ref t0,.ref t1,v2,v3]->G=upd (upd H dx (.own x)) x (.ins A.dz dx [])->H x=Ua->H dx=Ua->SqL K H t0 l0->SqL K H t1 l1->(∀(n0 n1:NL)(H':Hp),H n0=Ua->H n1=Ua->aq H H'->H' n0=T9 (.lst l0)->H' n1=T9 (.lst l1)->H' x=T9 (.ins A.dz dx [("number",v0),("value",v1),("first",.ref n0),("other",.ref n1),("left",v2),("right",v3)])->R .non H')->nD K A vs G R Z
theorem vH(T:Txt K mg A):T.kW.Hz P w mg base 3 (nD K A):=by
 refine T.kW.hs (k:=2) sV (λf cdv A' outer s G vs R E hr hu h=>?_);obtain⟨x,dx,v0,v1,v2,v3,t0,t1,l0,l1,H,rfl,rfl,hx,hd,s0,s1,q⟩:=h;refine⟨_,(ae (aI (cW T.ki T.bX (cF T) hr (fv 0^fv 1^af)))
 (ae (aW (fv 0) (fv 2) rfl)
 (ae (aW (fv 0) (pcT jL T.cC (fv 3^af)) rfl)
 (ae (aW (fv 0) (pcT jL T.cC (fv 4^af)) rfl)
 (ae (aW (fv 0) (fv 5) rfl)
 (ah (aW (fv 0) (fv 6) rfl))))))),?_⟩
 refine(IA.one (C:=A.dz) hx hd T.bJ.cl).row T.iW λH a=>a.fld T.jy λH a=>⟨_,l0,rfl,.inl (a.s.seq s0),λn0 f=>?_⟩;replace a:=a.nw f (.lst l0);refine a.fld T.jU λH a=>⟨_,l1,rfl,.inl (a.s.seq s1),λn1 f=>?_⟩;replace a:=a.nw f (.lst l1);exact a.fld T.jX λH a=>a.fld T.kH λH a=>a.fld T.j8 λH a=>q n0 n1 _ a.k.2.1.2.2 a.k.1.2.2 a.s a.k.2.1.1 a.k.1.1 a.i
inductive lu(K:NO)(A:Adr)(vs:List V)(G:Hp)(R:VK)(Z:XK):Prop
 |mk(x dx:NL)(v0 v1 v2 v3 v4:V)(t0:NL)(l0:List V)(H:Hp):vs=[.ref x,v0,v1,v2,.ref t0,v3,v4]->G=upd (upd H dx (.own x)) x (.ins A.bK dx [])->H x=Ua->H dx=Ua->SqL K H t0 l0->(∀(n0:NL)(H':Hp),H n0=Ua->aq H H'->H' n0=T9 (.lst l0)->H' x=T9 (.ins A.bK dx [("number",v0),("thing",v1),("most",v2),("body",.ref n0),("left",v3),("right",v4)])->R .non H')->lu K A vs G R Z
theorem sF(T:Txt K mg A):T.iF.Hz P w mg base 3 (lu K A):=by
 refine T.iF.hs (k:=2) qw (λf cdv A' outer s G vs R E hr hu h=>?_);obtain⟨x,dx,v0,v1,v2,v3,v4,t0,l0,H,rfl,rfl,hx,hd,s0,q⟩:=h;refine⟨_,(ae (aI (cW T.ki T.bX (cF T) hr (fv 0^fv 1^af)))
 (ae (aW (fv 0) (fv 2) rfl)
 (ae (aW (fv 0) (fv 3) rfl)
 (ae (aW (fv 0) (pcT jL T.cC (fv 4^af)) rfl)
 (ae (aW (fv 0) (fv 5) rfl)
 (ah (aW (fv 0) (fv 6) rfl))))))),?_⟩
 refine(IA.one (C:=A.bK) hx hd T.aQ.cl).row T.fP λH a=>a.fld T.gK λH a=>a.fld T.fA λH a=>⟨_,l0,rfl,.inl (a.s.seq s0),λn0 f=>?_⟩;replace a:=a.nw f (.lst l0);exact a.fld T.i9 λH a=>a.fld T.iP λH a=>a.fld T.gP λH a=>q n0 _ a.k.1.2.2 a.s a.k.1.1 a.i
inductive lE(K:NO)(A:Adr)(vs:List V)(G:Hp)(R:VK)(Z:XK):Prop
 |mk(x dx:NL)(v0 v1:V)(t0 t1:NL)(l0 l1:List V)(H:Hp):vs=[.ref x,v0,v1,.ref t0,.ref t1]->G=upd (upd H dx (.own x)) x (.ins A.bZ dx [])->H x=Ua->H dx=Ua->SqL K H t0 l0->SqL K H t1 l1->(∀(n0 n1:NL)(H':Hp),H n0=Ua->H n1=Ua->aq H H'->H' n0=T9 (.lst l0)->H' n1=T9 (.lst l1)->H' x=T9 (.ins A.bZ dx [("number",v0),("name",v1),("parts",.ref n0),("body",.ref n1)])->R .non H')->lE K A vs G R Z
theorem rK(T:Txt K mg A):T.iQ.Hz P w mg base 3 (lE K A):=by
 refine T.iQ.hs (k:=2) qj (λf cdv A' outer s G vs R E hr hu h=>?_);obtain⟨x,dx,v0,v1,t0,t1,l0,l1,H,rfl,rfl,hx,hd,s0,s1,q⟩:=h;refine⟨_,(ae (aI (cW T.ki T.bX (cF T) hr (fv 0^fv 1^af)))
 (ae (aW (fv 0) (fv 2) rfl)
 (ae (aW (fv 0) (pcT jL T.cC (fv 3^af)) rfl)
 (ah (aW (fv 0) (pcT jL T.cC (fv 4^af)) rfl))))),?_⟩
 refine(IA.one (C:=A.bZ) hx hd T.fX.cl).row T.kr λH a=>a.fld T.i5 λH a=>⟨_,l0,rfl,.inl (a.s.seq s0),λn0 f=>?_⟩;replace a:=a.nw f (.lst l0);refine a.fld T.eP λH a=>⟨_,l1,rfl,.inl (a.s.seq s1),λn1 f=>?_⟩;replace a:=a.nw f (.lst l1);exact a.fld T.iq λH a=>q n0 n1 _ a.k.2.1.2.2 a.k.1.2.2 a.s a.k.2.1.1 a.k.1.1 a.i
inductive lH(K:NO)(A:Adr)(vs:List V)(G:Hp)(R:VK)(Z:XK):Prop
 |mk(x dx:NL)(t0 t1 t2:NL)(l0 l1 l2:List V)(H:Hp):vs=[.ref x,.ref t0,.ref t1,.ref t2]->G=upd (upd H dx (.own x)) x (.ins A.Program dx [])->H x=Ua->H dx=Ua->SqL K H t0 l0->SqL K H t1 l1->SqL K H t2 l2->(∀(n0 n1 n2:NL)(H':Hp),H n0=Ua->H n1=Ua->H n2=Ua->aq H H'->H' n0=T9 (.lst l0)->H' n1=T9 (.lst l1)->H' n2=T9 (.lst l2)->H' x=T9 (.ins A.Program dx [("heads",.ref n0),("deeds",.ref n1),("main",.ref n2)])->R .non H')->lH K A vs G R Z
theorem rZ(T:Txt K mg A):T.iU.Hz P w mg base 3 (lH K A):=by
 refine T.iU.hs (k:=2) qk (λf cdv A' outer s G vs R E hr hu h=>?_);obtain⟨x,dx,t0,t1,t2,l0,l1,l2,H,rfl,rfl,hx,hd,s0,s1,s2,q⟩:=h;refine⟨_,(ae (aW (fv 0) (pcT jL T.cC (fv 1^af)) rfl)
 (ae (aW (fv 0) (pcT jL T.cC (fv 2^af)) rfl)
 (ah (aW (fv 0) (pcT jL T.cC (fv 3^af)) rfl)))),?_⟩
 have a:=IA.one (C:=A.Program) hx hd T.dO.cl;refine⟨_,l0,rfl,.inl (a.s.seq s0),λn0 f=>?_⟩;replace a:=a.nw f (.lst l0);refine a.fld T.cX λH a=>⟨_,l1,rfl,.inl (a.s.seq s1),λn1 f=>?_⟩;replace a:=a.nw f (.lst l1);refine a.fld T.eO λH a=>⟨_,l2,rfl,.inl (a.s.seq s2),λn2 f=>?_⟩;replace a:=a.nw f (.lst l2);exact a.fld T.ic λH a=>q n0 n1 n2 _ a.k.2.2.1.2.2 a.k.2.1.2.2 a.k.1.2.2 a.s a.k.2.2.1.1 a.k.2.1.1 a.k.1.1 a.i
end
section
variable{P:Program}{w:NW}{K:NO}{mg:Str->Option NK}{base:Oi}{A:Adr}{N:Nat->Str}
theorem ak{t u:TS}{D:Uw}{σ:St}{H:Hp}(h:∀N:St->Hp->Prop,(∀σ H,u D σ H->N σ H)->t { D with nx:=N } σ H):xh t u D σ H:=h (u D) λ_ _ z=>z
noncomputable def eX(N:Nat->Str):Prop:=∀i j,i<25->j<25->N i=N j->i=j
noncomputable def dk(N:Nat->Str)(idx:List Nat)(f:Nat->V):List (Key×V):=idx.map λi=>(LC (N i),f i)
theorem Ux(D:eX N){i j:Nat}(hi:i<25)(hj:j<25)(h:i≠j):(LC (N i):Key)≠LC (N j):=λe=>h (D i j hi hj (LC.inj e))
theorem oF(D:eX N){f:Nat->V}{i:Nat}:∀{idx:List Nat},(∀j∈idx,j<25)->i∈idx->L2.fB (dk N idx f) (.inr (N i))=T9 (f i)
 |j::r,hb,m=>by
  by_cases e:j=i
  ·subst e;unfold L2.fB dk;rw[KP,Lw];simp
  have hj:=hb j Ku;have m':i∈r:=by
   rcases Kt.mp m with z|z
   ·exact absurd z.symm e
   exact z
  have hi:=hb i m;have ih:=oF D (f:=f) (i:=i) (idx:=r) (λk hk=>hb k (Kw _ hk)) m';unfold L2.fB dk at ih⊢;rw[KP,Lw,decide_eq_false (Ux D hj hi e)];exact ih
theorem CQ(D:eX N){f:Nat->V}{i:Nat}(hi:i<25){idx:List Nat}(hb:∀j∈idx,j<25):((dk N idx f).any λkv=>decide (kv.1=(LC (N i):Key)))=decide (i∈idx):=by
 unfold dk;rw[List.any_map];by_cases m:i∈idx
 ·rw[decide_eq_true m,LM];exact⟨i,m,decide_eq_true rfl⟩
 rw[decide_eq_false m,Sm];intro j hj;show ¬ decide ((LC (N j):Key)=LC (N i))=true;rw[decide_eq_false (Ux D (hb j hj) hi (λz=>m (z▸hj)))];exact KJ
theorem ir{f g:Nat->V}{idx:List Nat}(h:∀i∈idx,f i=g i):dk N idx f=dk N idx g:=MW λi hi=>by rw[h i hi]
noncomputable def nz(f:Nat->V)(i:Nat)(v:V):Nat->V:=λj=>if j=i then v else f j
theorem fe(f:Nat->V)(i:Nat)(v:V):nz f i v i=v:=if_pos rfl
theorem jg(f:Nat->V){i j:Nat}(v:V)(h:j≠i):nz f i v j=f j:=if_neg h
theorem yo(D:eX N){f:Nat->V}{i:Nat}{v:V}{idx:List Nat}(hb:∀j∈idx,j<25)(m:i∈idx):Ue (dk N idx f) (.inr (N i)) v=dk N idx (nz f i v):=by
 unfold Ue;rw[CQ D (hb i m) hb,decide_eq_true m,if_pos rfl];unfold dk;rw[Mx];refine MW λj hj=>?_;show(if(LC (N j):Key)=LC (N i)then((LC (N j):Key),v)else(LC (N j),f j))=(LC (N j),nz f i v j);by_cases e:j=i
 ·rw[e,if_pos rfl,fe]
 rw[if_neg (Ux D (hb j hj) (hb i m) e),jg _ _ e]
theorem i8(D:eX N){f:Nat->V}{i:Nat}{v:V}{idx:List Nat}(hi:i<25)(hb:∀j∈idx,j<25)(m:i∉idx):Ue (dk N idx f) (.inr (N i)) v=dk N (idx++[i]) (nz f i v):=by
 unfold Ue;rw[CQ D hi hb,decide_eq_false m,if_neg KJ];unfold dk;rw[KZ,KP,ML,fe];congr 1;refine MW λj hj=>?_;rw[jg _ _ (λz=>m (by rw[<-z];exact hj))]
noncomputable def ins(idx:List Nat)(i:Nat):List Nat:=if i∈idx then idx else idx++[i]
theorem BE{idx:List Nat}{i:Nat}(hb:∀j∈idx,j<25)(hi:i<25):∀j∈ins idx i,j<25:=by
 unfold ins;split
 ·exact hb
 intro j hj;rcases Kz.mp hj with z|z
 ·exact hb j z
 rw[Ky.mp z];exact hi
theorem kG(idx:List Nat)(i:Nat):(ins idx i).length<=idx.length+1:=by
 unfold ins;split
 ·omega
 simp
theorem uY{idx:List Nat}{i j:Nat}(h:j∈ins idx i):j=i\/j∈idx:=by
 unfold ins at h;split at h
 ·exact Lg h
 rcases Kz.mp h with z|z
 ·exact Lg z
 exact KG (Ky.mp z)
theorem sk(idx:List Nat)(i:Nat):i∈ins idx i:=by
 unfold ins;split
 ·assumption
 simp
theorem nj{idx:List Nat}{i j:Nat}(h:j∈idx):j∈ins idx i:=by
 unfold ins;split
 ·exact h
 exact Lj _ h
theorem u3(D:eX N){f:Nat->V}{i:Nat}{v:V}{idx:List Nat}(hi:i<25)(hb:∀j∈idx,j<25):Ue (dk N idx f) (.inr (N i)) v=dk N (ins idx i) (nz f i v):=by
 unfold ins;by_cases m:i∈idx
 ·rw[if_pos m];exact yo D hb m
 rw[if_neg m];exact i8 D hi hb m
theorem dS(f:Nat->V)(idx:List Nat):(dk N idx f).length=idx.length:=Kx _
theorem GH(D:eX N){f:Nat->V}{idx:List Nat}(hb:∀j∈idx,j<25){k:Key}{v:V}(h:L2.fB (dk N idx f) k=T9 v):∃j∈idx,k=LC (N j)/\v=f j:=by
 unfold L2.fB at h;cases e:(dk N idx f).find? λkv=>decide (kv.1=k)with
 |none=>rw[e]at h;cases h
 |some kv=>
  rw[e]at h;have h1:=MD e;have h2:kv.1=k:=of_decide_eq_true (Ti (p:=λkv:Key×V=>decide (kv.1=k)) e);obtain⟨j,hj,rfl⟩:=KS.mp h1;exact⟨j,hj,h2.symm,(NP h).symm⟩
theorem bg{α β:Type}{F:α->β->Prop}:∀{l₁:List α}{l₂:List β}{i:Nat}{a:α},Paired F l₁ l₂->l₁[i]?=T9 a->∃b,l₂[i]?=T9 b/\F a b
 |_,_,_,_,.nil,h=>by cases h
 |_,_,0,_,.cons h _,e=>by cases e;exact⟨_,rfl,h⟩
 |_,_,i+1,_,.cons _ r,e=>by
  have:∃b,_:=bg (i:=i) r e;exact this
theorem tV{α β:Type}(f:β->α->β)(b:β){xs:List α}{i:Nat}{x:α}(h:xs[i]?=T9 x):(xs.take (i+1)).foldl f b=f ((xs.take i).foldl f b) x:=by
 rw[Lx,h,Sy];rfl
noncomputable abbrev cls(A:Adr):List NL:=[A.Row,A.ck,A.bj,A.bP,A.cN,A.cR,A.cD,A.bH,A.cj,A.cz,A.cO,A.dz,A.bK,A.bZ,A.Program,A.fh,A.Run]
theorem au(T:Txt K mg A)(i j:Nat)(hi:i<17:=by decide)(hj:j<17:=by decide)(h:i≠j:=by decide):(cls A)[i]'hi≠(cls A)[j]'hj:=λe=>h ((My T.nd).mp e)
theorem nA{C:NL}{x:Str}{up:List NL}(O:eK K mg C x up)(hs:C∈up:=by exact Ku):OH K (.ref C) (.ref C)=T9 true:=by
 rw[O.kit O hs,decide_eq_true hs]
theorem bV{C D R:NL}{x y:Str}{vp:List NL}(O:eK K mg C x [C,R])(U:eK K mg D y vp)(h1:D≠C)(h2:D≠R):OH K (.ref C) (.ref D)=T9 false:=by
 rw[O.kit U Ku,decide_eq_false];intro m;rcases Kt.mp m with e|m
 ·exact h1 e
 rcases Kt.mp m with e|m
 ·exact h2 e
 cases m
noncomputable def rkn(a b:Int)(x:Str):Int:=
 if decide (V.str x=V.str "+")=true then(a+b)%1000000000000
 else if decide (V.str x=V.str "-")=true then(a-b)%1000000000000
 else if decide (V.str x=V.str "*")=true then(a*b)%1000000000000
 else if decide (V.str x=V.str "over")=true then(if decide (V.int b=V.int 0)=true then 0 else a/b)
 else if decide (V.str x=V.str "rest")=true then(if decide (V.int b=V.int 0)=true then a else a%b)
 else if decide (V.str x=V.str "<")=true then(if decide (a<b)=true then 1 else 0)
 else(if decide (V.int a=V.int b)=true then 1 else 0)
noncomputable def In(n:Int):Prop:=0<=n/\n<1000000000000
theorem Gv{a b:Int}(ha:In a)(hb:In b)(x:Str):In (rkn a b x):=by
 have md:∀z:Int,In (z%1000000000000):=λz=>cf z ∅;have t1:In 1:=⟨∅,∅⟩;have t0:In 0:=⟨∅,∅⟩;unfold rkn;split
 ·exact md _
 split
 ·exact md _
 split
 ·exact md _
 split
 ·split
  ·exact t0
  rename_i h;rw[qi,decide_eq_true_iff]at h;have hp:0<b:=by have:=hb.1;omega
  refine⟨Int.ediv_nonneg ha.1 hb.1,Int.lt_of_le_of_lt (Int.ediv_le_self b ha.1) ha.2⟩
 split
 ·split
  ·exact ha
  rename_i h;rw[qi,decide_eq_true_iff]at h;have hp:0<b:=by have:=hb.1;omega
  have:=cf a hp;exact⟨this.1,Int.lt_trans this.2 hb.2⟩
 split
 ·split
  ·exact t1
  exact t0
 split
 ·exact t1
 exact t0
theorem C8{a:Int}{n:Nat}(hn:0<n):rkn a (n:Int) "rest"=a%(n:Int):=by
 unfold rkn;rw[if_neg ∅,if_neg ∅,if_neg ∅,if_neg ∅,if_pos ∅,if_neg (by rw[qi,decide_eq_true_iff];omega)]
noncomputable abbrev opW:List Str:=["+","-","*","over","rest","<","="]
theorem I0{w:Str}(h:w∈opW):w≠"at":=by
 rintro rfl;revert h
 decide
theorem eJ(D:eX N){H:Hp}{d:NL}{idx:List Nat}{f:Nat->V}(h:Rd H d (.dK (dk N idx f)))(hb:∀j∈idx,j<25){k:Nat}(hk:k∈idx):cP H d (.str (N k)) (T9 (f k)):=by
 rw[<-oF D (f:=f) hb hk];exact .inl ⟨_,_,h,rfl,rfl⟩
theorem Cn{K:NO}{a:NL}{xs:List V}{fr:List Nat}{te:CB->TE}{Q:VK}{σ:St}{H1:Hp}(R:Nat->V->Hp->Prop)(hx:SqL K H1 a xs)(hn:xs.length<sizeLine)
  (he:∀b i x H (G:VK),xs[i]?=T9 x->aq H1 H->(∀y H',aq H H'->R i y H'->G y H')->te b (T9 x::cFr fr σ) H G)
  (mono:∀i y H H',aq H H'->R i y H->R i y H') (st:∀i y H D ys zs,H D=T9 (.lst ys)->R i y H->R i y (upd H D (.lst zs)))
  (fin:∀D H ys,H1 D=Ua->aq H1 H->H D=T9 (.lst ys)->ys.length=xs.length->(∀(i:Nat) y,ys[i]?=T9 y->R i y H)->Q (.ref D) H):nU (Itl K a) 1 fr (λ_=>kf 0) (λ_=>Fo) te Q σ H1:=by
 refine sC (x:=λi=>xs.getD i .non) R hn (λH s=>⟨xs,s.seq hx,KD _⟩) (λi H h s=>⟨xs,xs[i],s.seq hx,Kv h⟩)
  (λi H v H' h s y=>⟨y.1,?_⟩) (λb i H G h s k=>he b i _ H G (by rw[Lk,Kv h];rfl) s k) mono st fin
 have:=y.2 xs (s.seq hx)
 rw[Lk,this]
 rfl
theorem lt3:∀i,i<3->i=0\/i=1\/i=2:=∅
theorem lt4:∀i,i<4->i=0\/i=1\/i=2\/i=3:=∅
theorem lt5:∀i,i<5->i=0\/i=1\/i=2\/i=3\/i=4:=∅
theorem lt7:∀i,i<7->i=0\/i=1\/i=2\/i=3\/i=4\/i=5\/i=6:=∅
theorem Ib:∀i,i<13->i=0\/i=1\/i=2\/i=3\/i=4\/i=5\/i=6\/i=7\/i=8\/i=9\/i=10\/i=11\/i=12:=∅
theorem Dp:(∀i∈[11,12],i∈[0,1,2,6,10,11,12])/\(∀i∈[6,10],i∈[0,1,2,6,10,11,12])/\∀i∈[0,1,2],i∈[0,1,2,6,10,11,12]:=∅
end
inductive Th where
 |i (n:Int)|x (a:Nat)
inductive Val where
 |one (a:Th)|op (a:Th) (w:Str) (b:Th)|atl (x:Nat) (b:Th)
noncomputable def Th.v(N:Nat->Str):Th->V
 | .i n=>.int n
 | .x a=>.str (N a)
noncomputable def vV(N:Nat->Str):Val->List V
 | .one a=>[a.v N]
 | .op a w b=>[a.v N,.str w,b.v N]
 | .atl x b=>[.str (N x),.str "at",b.v N]
inductive Lr where
 |hand (i:Nat) (r:Int)|giv (i:Nat) (r z:Int)|own (i:Nat) (z:Int)|lt (i:Nat) (r:Int)
 |set (x:Nat) (v:Val)|put (x:Nat) (p:Th) (v:Val)|snd (h:Nat) (v:Val)|say (x:Nat) (v:Val) (m:Nat)
 |call (i:Nat) (ts:List Th)|last|iff (v:Val) (l r:Int)|loop (t:Th) (m l r:Int)|els|fin|fT (i:Nat) (ps:List Nat)|main
noncomputable def Lr.w:Lr->Str
 | .hand _ _=>"hand"| .giv _ _ _=>"given"| .own _ _=>"own"| .lt _ _=>"let"| .set _ _=>"set"| .put _ _ _=>"put"| .snd _ _=>"send"| .say _ _ _=>"say"
 | .call _ _=>"call"| .last=>"last"| .iff _ _ _=>"if"| .loop _ _ _ _=>"loop"| .els=>"else"| .fin=>"end"| .fT _ _=>"deed"| .main=>"main"
noncomputable abbrev nV(N:Nat->Str)(ns:List Nat):List V:=ns.map λi=>V.str (N i)
noncomputable def Lr.tl(N:Nat->Str)(p:NL):Lr->List V
 | .hand i r=>[.str (N i),.int r]
 | .giv i r z=>[.str (N i),.int r,.int z]
 | .own i z=>[.str (N i),.int z]
 | .lt i r=>[.str (N i),.int r]
 | .set x _=>[.str (N x),.ref p]
 | .put x t _=>[.str (N x),t.v N,.ref p]
 | .snd h _=>[.str (N h),.ref p]
 | .say x _ m=>[.str (N x),.ref p,.str (N m)]
 | .call i _=>[.str (N i),.ref p]
 | .last=>[]
 | .iff _ l r=>[.ref p,.int l,.int r]
 | .loop t m l r=>[t.v N,.int m,.int l,.int r]
 | .els=>[]
 | .fin=>[]
 | .fT i _=>[.str (N i),.ref p]
 | .main=>[]
noncomputable def Lr.ob(N:Nat->Str):Lr->Option HO
 | .set _ v=>T9 (.tup (vV N v))
 | .put _ _ v=>T9 (.tup (vV N v))
 | .snd _ v=>T9 (.tup (vV N v))
 | .say _ v _=>T9 (.tup (vV N v))
 | .iff v _ _=>T9 (.tup (vV N v))
 | .call _ ts=>T9 (.lst (ts.map (Th.v N)))
 | .fT _ ps=>T9 (.lst (nV N ps))
 |_=>Ua
noncomputable def bS(N:Nat->Str)(X:Hp)(v:V)(r:Lr):Prop:=∃a p,v=.ref a/\X a=T9 (.tup (.str r.w::r.tl N p))/\∀o,r.ob N=T9 o->X p=T9 o
theorem bS.same{N:Nat->Str}{X X':Hp}(s:aq X X'){v:V}{r:Lr}(h:bS N X v r):bS N X' v r:=by
 obtain⟨a,p,e,h1,h2⟩:=h;exact⟨a,p,e,s _ _ h1,λo ho=>s _ _ (h2 o ho)⟩
noncomputable def Th.ok(ns:List Nat):Th->Prop
 | .i n=>In n
 | .x a=>a∈ns
noncomputable def Val.ok(ns:List Nat):Val->Prop
 | .one a=>a.ok ns
 | .op a w b=>a.ok ns/\b.ok ns/\w∈opW
 | .atl x b=>x∈[6,10]/\b.ok ns
structure Dl where
 nm:Nat
 ps:List Nat
 sp:Int
 lp:NL
noncomputable def Lr.ok(ns tg:List Nat)(dd:List Dl):Lr->Prop
 | .set x v=>x∈tg/\v.ok ns
 | .put x p v=>x=10/\p.ok ns/\v.ok ns
 | .snd h v=>h∈[0,1,2]/\v.ok ns
 | .say x v m=>x∈tg/\v.ok ns/\m∈[11,12]
 | .call i ts=>∃d∈dd,d.nm=i/\ts.length=d.ps.length/\∀t∈ts,t.ok ns
 | .last=>True
 |_=>False
inductive Tr where
 |leaf (r:Lr)
 |iff (v:Val) (l r:Int) (f o:List Tr)
 |loop (t:Th) (m l r:Int) (b:List Tr)
mutual
noncomputable def flat:Tr->List Lr
 | .leaf r=>[r]
 | .iff v l r f o=>.iff v l r::(aX f++(.els::(aX o++[.fin])))
 | .loop t m l r b=>.loop t m l r::(aX b++[.fin])
noncomputable def aX:List Tr->List Lr
 | []=>[]
 |t::ts=>flat t++aX ts
end
theorem mV(a b:List Tr):aX (a++b)=aX a++aX b:=by
 induction a with
 |nil=>simp[aX]
 |cons t r ih=>simp[aX,ih]
mutual
noncomputable def Tr.ok(ns tg:List Nat)(dd:List Dl):Tr->Prop
 | .leaf r=>r.ok ns tg dd
 | .iff v l r f o=>v.ok ns/\0<=l/\0<=r/\dU ns tg dd f/\dU ns tg dd o
 | .loop t m l r b=>t.ok ns/\1<=m/\m<=3/\0<=l/\0<=r/\dU ns tg dd b
noncomputable def dU(ns tg:List Nat)(dd:List Dl):List Tr->Prop
 | []=>True
 |t::ts=>t.ok ns tg dd/\dU ns tg dd ts
end
mutual
noncomputable def dT:Tr->Nat
 | .leaf _=>1
 | .iff _ _ _ f o=>max (dTs f) (dTs o)+1
 | .loop _ _ _ _ b=>dTs b+1
noncomputable def dTs:List Tr->Nat
 | []=>0
 |t::ts=>max (dT t) (dTs ts)
end
theorem o9{n:Nat}{a:List Tr}{t:Tr}(ha:dTs a<=n)(ht:dT t<=n):dTs (a++[t])<=n:=by
 induction a with
 |nil=>simp only[Tb,dTs];omega
 |cons x r ih=>
  simp only[dTs,Nn]at ha⊢;have:=ih ();omega
theorem ni{ns tg:List Nat}{dd:List Dl}{a b:List Tr}(ha:dU ns tg dd a)(hb:dU ns tg dd b):dU ns tg dd (a++b):=by
 induction a with
 |nil=>exact hb
 |cons t r ih=>exact⟨ha.1,ih ha.2⟩
noncomputable def tj(dd:List Dl):Lr->Int
 | .call i _=>match dd.find? (λd=>decide (d.nm=i))with
  |some d=>1+d.sp
  |none=>1
 |_=>1
mutual
noncomputable def nB(dd:List Dl)(h:Int):Tr->Int
 | .leaf r=>h*tj dd r
 | .iff _ l r f o=>h*(1+1*(l+r))+cB dd h f+cB dd h o
 | .loop _ m l r b=>h*(1+m*(l+r))+cB dd (h*m) b
noncomputable def cB(dd:List Dl)(h:Int):List Tr->Int
 | []=>0
 |t::ts=>nB dd h t+cB dd h ts
end
theorem mS(dd:List Dl)(h:Int)(a b:List Tr):cB dd h (a++b)=cB dd h a+cB dd h b:=by
 induction a with
 |nil=>simp[cB]
 |cons t r ih=>simp[cB,ih];omega
inductive Bk where
 |iff (v:Val)|loop (t:Th) (m:Int)
structure Fz where
 bk:Bk
 l:Int
 r:Int
 fst:Option (List Tr)
 rows:List Tr
 rank:Int
 aN:Int
 fc:Bool
noncomputable def Bk.m:Bk->Int
 | .iff _=>1
 | .loop _ m=>m
noncomputable def Bk.lr(l r:Int):Bk->Lr
 | .iff v=>.iff v l r
 | .loop t m=>.loop t m l r
noncomputable def Fz.op(f:Fz):Lr:=f.bk.lr f.l f.r
noncomputable def wQ:Option (List Tr)->List Lr
 |none=>[]
 |some t=>aX t++[.els]
noncomputable def Fz.fF(f:Fz):List Lr:=wQ f.fst++aX f.rows
noncomputable def bD:List Fz->List Lr
 | []=>[]
 |f::r=>f.op::(f.fF++bD r)
theorem d6(a b:List Fz):bD (a++b)=bD a++bD b:=by
 induction a with
 |nil=>rfl
 |cons t r ih=>simp[bD,ih]
noncomputable def ats(b:Nat):List Fz->List Nat
 | []=>[]
 |f::r=>b::ats (b+1+f.fF.length) r
theorem oQ(b:Nat)(g:List Fz)(f:Fz):ats b (g++[f])=ats b g++[b+(bD g).length]:=by
 induction g generalizing b with
 |nil=>rfl
 |cons t r ih=>
  simp only[Nn,ats,ih,bD,Lb,KC];rw[show b+1+t.fF.length+(bD r).length=b+(t.fF.length+(bD r).length+1) by omega]
theorem jd(b:Nat)(g:List Fz):(ats b g).length=g.length:=by
 induction g generalizing b with
 |nil=>rfl
 |cons t r ih=>simp[ats,ih]
noncomputable def nE(dd:List Dl)(h:Int):Option (List Tr)->Int
 |none=>0
 |some t=>cB dd h t
noncomputable def mN(dd:List Dl)(h:Int):List Fz->Int
 | []=>0
 |f::r=>h*(1+f.bk.m*(f.l+f.r))+nE dd (h*f.bk.m) f.fst+cB dd (h*f.bk.m) f.rows+mN dd (h*f.bk.m) r
noncomputable def cQ(h:Int):List Fz->Int
 | []=>h
 |f::r=>cQ (h*f.bk.m) r
theorem pz(h:Int)(g:List Fz)(f:Fz):cQ h (g++[f])=cQ h g*f.bk.m:=by
 induction g generalizing h with
 |nil=>rfl
 |cons t r ih=>exact ih _
theorem eF(dd:List Dl)(h:Int)(g:List Fz)(f:Fz):mN dd h (g++[f])=mN dd h g+(cQ h g*(1+f.bk.m*(f.l+f.r))+nE dd (cQ h g*f.bk.m) f.fst+cB dd (cQ h g*f.bk.m) f.rows):=by
 induction g generalizing h with
 |nil=>simp[mN,cQ]
 |cons t r ih=>simp only[Nn,mN,cQ,ih];omega
section
variable{P:Program}{w:NW}{K:NO}{mg:Str->Option NK}{base:Oi}{A:Adr}
noncomputable def del(X:List NL)(H:Hp):Hp:=λa=>if a∈X then Ua else H a
theorem aA{X:List NL}{H:Hp}:aq (del X H) H:=λa o h=>by
 unfold del at h;split at h
 ·cases h
 exact h
theorem aK{X:List NL}{H:Hp}{a:NL}{o:HO}(h:a∉X)(e:H a=T9 o):del X H a=T9 o:=by
 unfold del;rw[if_neg h];exact e
theorem bq{X:List NL}{H:Hp}{a:NL}{o:HO}(h:del X H a=T9 o):a∉X/\H a=T9 o:=by
 unfold del at h;split at h
 ·cases h
 exact⟨by assumption,h⟩
structure Go(M:List NL)(H:Hp)(M':List NL)(H':Hp):Prop where
 o:∀a o,a∉M->H a=T9 o->H' a=T9 o
 m:∀a∈M',a∈M\/H a=Ua
theorem Go.trans{M M1 M2:List NL}{H H1 H2:Hp}(g:Go M H M1 H1)(g':Go M1 H1 M2 H2):Go M H M2 H2:=by
 refine⟨λa o h e=>g'.o a o (λm=>?_) (g.o a o h e),λa m=>?_⟩
 ·rcases g.m a m with z|z
  ·exact h z
  rw[z]at e;cases e
 rcases g'.m a m with z|z
 ·exact g.m a z
 by_cases h:a∈M
 ·exact .inl h
 refine .inr ?_;cases e:H a with
 |none=>rfl
 |some o=>rw[g.o a o h e]at z;cases z
theorem Go.same{M M':List NL}{H H':Hp}(g:Go M H M' H'):aq (del M H) (del M' H'):=λa o h=>by
 obtain⟨h1,h2⟩:=bq h;refine aK (λm=>?_) (g.o a o h1 h2);rcases g.m a m with z|z
 ·exact h1 z
 rw[z]at h2;cases h2
theorem Go.refl(M:List NL)(H:Hp):Go M H M H:=⟨λ_ _ _ h=>h,λ_ h=>.inl h⟩
theorem Go.new{M:List NL}{H H':Hp}(s:aq H H'):Go M H M H':=⟨λa o _ h=>s a o h,λ_ h=>.inl h⟩
theorem Go.at{M:List NL}{H:Hp}{x:NL}(h:x∈M)(u:HO):Go M H M (upd H x u):=⟨λa o m e=>(ay (λz:a=x=>m (by rw[z];exact h))).trans e,λ_ h=>.inl h⟩
theorem Go.to{M M1 M2:List NL}{H H1:Hp}(g:Go M H M1 H1)(h:∀a∈M2,a∈M1\/a∈M\/H a=Ua):Go M H M2 H1:=⟨g.o,λa m=>by
 rcases h a m with z|z|z
 ·exact g.m a z
 ·exact .inl z
 exact .inr z⟩
theorem Go.keep{M:List NL}{H0 H H':Hp}(g:Go M H M H')(s:aq H0 H)(f:∀a∈M,H0 a=Ua):aq H0 H':=λa o h=>g.o a o (λm=>by rw[f a m]at h;cases h) (s a o h)
noncomputable def kD(H:Hp)(xs:List V)(ws:List (List V)):Prop:=Paired (λv w=>∃p,v=V.ref p/\H p=T9 (.tup w)) xs ws
theorem kD.same{H H':Hp}(s:aq H H'){xs:List V}{ws:List (List V)}(h:kD H xs ws):kD H' xs ws:=Paired.cS h λ_ _ ⟨p,e,q⟩=>⟨p,e,s p _ q⟩
theorem kD.len{H:Hp}{xs:List V}{ws:List (List V)}(h:kD H xs ws):xs.length=ws.length:=NV h
theorem Ot{α β:Type}{F:α->β->Prop}{x:α}{y:β}(h:F x y):∀{xs:List α}{ys:List β},Paired F xs ys->Paired F (xs++[x]) (ys++[y])
 |_,_,.nil=>.cons h .nil
 |_,_,.cons g r=>.cons g (Ot h r)
theorem Paired.two{α β:Type}{F:α->β->Prop}:∀{xs zs:List α}{ys ws:List β},Paired F xs ys->Paired F zs ws->Paired F (xs++zs) (ys++ws)
 |_,_,_,_,.nil,h=>h
 |_,_,_,_,.cons g r,h=>.cons g (Paired.two r h)
structure Gc where
 N:Nat->Str
 S:NL
 LR:NL
 LV:NL
 LD:NL
 LH:NL
 LL:NL
 LT:NL
 LN:NL
 mode:Int
 vk:List Nat
 vw:Nat->Int
 tg:List Nat
 ns:List Nat
 dd:List Dl
 lim:Int
 pre:List Lr
 br:Int
structure Gd where
 lm:NL
 marks:List Nat
 lo:NL
 a0:NL
 as:List NL
 rows:List V
 bs:List Tr
 fz:List Fz
 spent:Int
noncomputable def stK(g:Gc)(d:Gd):List (Key×V):=[(.inr "rows",.ref g.LR),(.inr "view",.ref g.LV),(.inr "deeds",.ref g.LD),(.inr "mode",.int g.mode),(.inr "marks",.ref d.lm),(.inr "hands",.ref g.LH),(.inr "lists",.ref g.LL),(.inr "targets",.ref g.LT),(.inr "numbers",.ref g.LN),(.inr "open",.ref d.lo),(.inr "spent",.int d.spent),(.inr "limit",.int g.lim)]
noncomputable def frK(at_:Nat)(rank aN:Int)(fc:Bool):List (Key×V):=[(.inr "at",.int (at_:Int)),(.inr "rank",.int rank),(.inr "heft",.int aN),(.inr "first",.bl fc)]
noncomputable def fzK(p:Nat×Fz):List (Key×V):=frK p.1 p.2.rank p.2.aN p.2.fc
noncomputable def Gd.M(g:Gc)(d:Gd):List NL:=g.S::g.LR::d.lo::d.a0::d.as
noncomputable def Gd.b(g:Gc)(d:Gd):Nat:=(g.pre++aX d.bs).length
noncomputable def Gd.lrs(g:Gc)(d:Gd):List Lr:=g.pre++aX d.bs++bD d.fz
structure j9(g:Gc):Prop where
 D:eX g.N
 vb:∀i∈g.vk,i<25/\0<=g.vw i/\g.vw i<=2
 tv:∀i∈g.tg,i∈g.vk
 nv:∀i∈g.ns,i∈g.vk
 cv:∀i∈[0,1,2,6,10,11,12],i∈g.vk
 t9:9∈g.tg
 v9:g.vw 9=2
 v2:g.vw 2=2
 dv:∀e∈g.dd,e.nm∈g.vk/\e.ps.length<=2/\0<=e.sp/\∀p∈e.ps,p∈g.vk
 dn:(g.dd.map Dl.nm).Nodup
 dl:g.dd.length<=4
 tl:g.tg.length<=5
 nl:g.ns.length<=8
 br:0<=g.br/\g.br<=2
 pl:g.pre.length<=500
structure yB(X:Hp)(g:Gc):Prop where
 hv:X g.LV=T9 (.dK (dk g.N g.vk λi=>.int (g.vw i)))
 hd:∃ts:Nat->NL,X g.LD=T9 (.dK (dk g.N (g.dd.map Dl.nm) λi=>.ref (ts i)))/\∀e∈g.dd,X (ts e.nm)=T9 (.tup [.ref e.lp,.int e.sp])/\X e.lp=T9 (.lst (nV g.N e.ps))
 hh:X g.LH=T9 (.lst (nV g.N [0,1,2]))
 hl:X g.LL=T9 (.lst (nV g.N [6,10]))
 ht:X g.LT=T9 (.lst (nV g.N g.tg))
 hn:X g.LN=T9 (.lst (nV g.N g.ns))
theorem yB.same{X X':Hp}{g:Gc}(s:aq X X')(h:yB X g):yB X' g:=by
 obtain⟨ts,h1,h2⟩:=h.hd;exact⟨s _ _ h.hv,⟨ts,s _ _ h1,λe m=>⟨s _ _ (h2 e m).1,s _ _ (h2 e m).2⟩⟩,s _ _ h.hh,s _ _ h.hl,s _ _ h.ht,s _ _ h.hn⟩
structure pU(H:Hp)(g:Gc)(d:Gd):Prop where
 hS:H g.S=T9 (.dK (stK g d))
 hR:H g.LR=T9 (.lst d.rows)
 hO:H d.lo=T9 (.lst (.ref d.a0::d.as.map V.ref))
 h0:H d.a0=T9 (.dK (frK 0 g.br 1 false))
 hf:Paired (λa p=>H a=T9 (.dK (fzK p))) d.as ((ats (d.b g) d.fz).zip d.fz)
theorem pU.same{H H':Hp}{g:Gc}{d:Gd}(s:aq H H')(h:pU H g d):pU H' g d:=⟨s _ _ h.hS,s _ _ h.hR,s _ _ h.hO,s _ _ h.h0,Paired.cS h.hf λ_ _ e=>s _ _ e⟩
noncomputable def Gu(ns:List Nat):Bk->Prop
 | .iff v=>v.ok ns
 | .loop t m=>t.ok ns/\1<=m/\m<=3
structure Gz(g:Gc)(f:Fz):Prop where
 bk:Gu g.ns f.bk
 l0:0<=f.l
 r0:0<=f.r
 rows:dU g.ns g.tg g.dd f.rows
 fst:∀t,f.fst=T9 t->dU g.ns g.tg g.dd t
 lp:∀t m,f.bk=.loop t m->f.fst=Ua
 fc:f.fc=true↔f.fst=Ua
 rank:0<=f.rank/\f.rank<=2
noncomputable def lF(h:Int):List Fz->Prop
 | []=>True
 |f::r=>f.aN=h*f.bk.m/\lF f.aN r
theorem lF.app{h:Int}{g:List Fz}{f:Fz}(hg:lF h g)(hf:f.aN=cQ h g*f.bk.m):lF h (g++[f]):=by
 induction g generalizing h with
 |nil=>exact⟨hf,Lh⟩
 |cons t r ih=>exact⟨hg.1,ih hg.2 (by rw[hg.1];exact hf)⟩
theorem lF.inv{h:Int}{g:List Fz}{f:Fz}(hg:lF h (g++[f])):lF h g/\f.aN=cQ h g*f.bk.m:=by
 induction g generalizing h with
 |nil=>exact⟨Lh,hg.1⟩
 |cons t r ih=>
  obtain⟨a,b⟩:=ih hg.2;exact⟨⟨hg.1,a⟩,by rw[hg.1]at b;exact b⟩
noncomputable def oM:Nat->List Fz->Prop
 |_,[]=>True
 |n,f::r=>dTs f.rows<=n/\(∀t,f.fst=T9 t->dTs t<=n)/\oM (n-1) r
theorem oM.app{f:Fz}:∀{g:List Fz}{n:Nat},oM n g->dTs f.rows<=n-g.length->(∀t,f.fst=T9 t->dTs t<=n-g.length)->oM n (g++[f])
 | [],_,_,h1,h2=>⟨h1,h2,Lh⟩
 |x::r,n,hg,h1,h2=>⟨hg.1,hg.2.1,oM.app hg.2.2 (by rw[Lb]at h1;omega) (λt e=>by have:=h2 t e;rw[Lb]at this;omega)⟩
theorem oM.inv{f:Fz}:∀{g:List Fz}{n:Nat},oM n (g++[f])->oM n g/\dTs f.rows<=n-g.length/\∀t,f.fst=T9 t->dTs t<=n-g.length
 | [],_,h=>⟨Lh,h.1,h.2.1⟩
 |x::r,n,h=>by
  obtain⟨a,b,c⟩:=oM.inv (g:=r) h.2.2;refine⟨⟨h.1,h.2.1,a⟩,by rw[Lb];omega,λt e=>?_⟩;have:=c t e;rw[Lb];omega
noncomputable def Iv(bs:List Tr)(fz:List Fz):Prop:=dTs bs<=4/\oM 3 fz
structure yR(g:Gc)(d:Gd):Prop where
 nd:(d.M g).Nodup
 mks:∀m∈d.marks,m∈[11,12]
 ml:d.marks.length<=2
 bs:dU g.ns g.tg g.dd d.bs
 fz:∀f∈d.fz,Gz g f
 fl:d.fz.length<=3
 hf:lF 1 d.fz
 h36:∀f∈d.fz,1<=f.aN/\f.aN<=36
 pay:cB g.dd 1 d.bs+mN g.dd 1 d.fz<=d.spent
 sp:0<=d.spent/\(d.spent<=g.lim\/d.spent=0)
 rl:(d.lrs g).length+2*d.fz.length<=1000
 dp:Iv d.bs d.fz
structure BAt(g:Gc)(H:Hp)(d:Gd):Prop where
 st:yB (del (d.M g) H) g
 hm:del (d.M g) H d.lm=T9 (.lst (nV g.N d.marks))
 hr:Paired (bS g.N (del (d.M g) H)) d.rows (d.lrs g)
 dy:pU H g d
 ok:yR g d
variable{g:Gc}{d d':Gd}{H H':Hp}
theorem BAt.same(z:aq H H')(h:BAt g H d):BAt g H' d:=by
 have s:=(Go.new (M:=d.M g) z).same;exact⟨h.st.same s,s _ _ h.hm,Paired.cS h.hr λ_ _=>bS.same s,h.dy.same z,h.ok⟩
theorem BAt.al(h:BAt g H d):∀a∈d.M g,H a≠Ua:=λa m e=>by
 unfold Gd.M at m;rcases Kt.mp m with rfl|m
 ·rw[h.dy.hS]at e;cases e
 rcases Kt.mp m with rfl|m
 ·rw[h.dy.hR]at e;cases e
 rcases Kt.mp m with rfl|m
 ·rw[h.dy.hO]at e;cases e
 rcases Kt.mp m with rfl|m
 ·rw[h.dy.h0]at e;cases e
 obtain⟨i,hi⟩:=La m;obtain⟨p,_,hp⟩:=bg h.dy.hf hi;rw[hp]at e;cases e
theorem BAt.go(h:BAt g H d)(z:Go (d.M g) H (d'.M g) H')(dy:pU H' g d')(ok:yR g d')(hm:del (d'.M g) H' d'.lm=T9 (.lst (nV g.N d'.marks)))(hr:Paired (bS g.N (del (d'.M g) H')) d'.rows (d'.lrs g)):BAt g H' d':=⟨h.st.same z.same,hm,hr,dy,ok⟩
theorem inS(g:Gc)(d:Gd):g.S∈d.M g:=Ku
theorem inR(g:Gc)(d:Gd):g.LR∈d.M g:=Kw _ Ku
theorem inO(g:Gc)(d:Gd):d.lo∈d.M g:=Kw _ (Kw _ Ku)
theorem in0(g:Gc)(d:Gd):d.a0∈d.M g:=Kw _ (Kw _ (Kw _ Ku))
theorem inA(g:Gc)(d:Gd){a:NL}(h:a∈d.as):a∈d.M g:=Kw _ (Kw _ (Kw _ (Kw _ h)))
end
section
variable{K:NO}
theorem BM:OH K (.type "str") (.type "str")=T9 true:=by kernel_rfl!
theorem Cv:OH K (.type "int") (.type "str")=T9 false:=by kernel_rfl!
end
section
variable{P:Program}{w:NW}{K:NO}{mg:Str->Option NK}{base:Oi}{A:Adr}
noncomputable abbrev LET:Str:="abcdefghijklmnopqrstuvwxyz"
noncomputable def lP(k:Int):Nat:=(97+k).toNat
theorem yN{k:Int}(h0:0<=k)(h1:k<26):atI LET.cps.toList k=T9 (lP k):=by
 obtain⟨n,rfl⟩:∃n:Nat,k=(n:Int):=⟨k.toNat,()⟩;have h:∀m:Fin 26,atI LET.cps.toList ((m.val:Nat):Int)=T9 (lP ((m.val:Nat):Int)):=by decide+kernel
 exact h ⟨n,()⟩
theorem Ei{z:Str}{n:Int}(hz:z.length<=1)(h1:n<1000):(ph z n).length<=1000:=by
 unfold ph;split
 ·decide
 split
 ·omega
 rw[we];have:n.toNat*z.length<=n.toNat*1:=Nat.mul_le_mul_left _ hz;omega
theorem x8(x y:Str):(x++y).length=x.length+y.length:=by
 show(x.cps++y.cps).size=x.cps.size+y.cps.size;exact SD
noncomputable abbrev GZ:Str:="set put send say by if else end loop most idle last call deed main at over rest"
noncomputable abbrev Fp:Str:=" hand given own let open house closed"
noncomputable def words:List Str:=["set","put","send","say","by","if","else","end","loop","most","idle","last","call","deed","main","at","over","rest","hand","given","own","let","open","house","closed"]
theorem Cm:vh (GZ++Fp) " " words:=⟨by decide+kernel,by decide+kernel,by decide+kernel,by decide+kernel,∅,by decide+kernel⟩
theorem wq:words.Nodup:=by decide+kernel
theorem pM:words.length=25:=rfl
noncomputable def nmV(c:Int)(k:Nat):Str:=
 if decide (V.int (c%4)=V.int 0)=true then words.getD ((c/4%25+k)%25).toNat Qi
 else if decide (V.int (c%4)=V.int 1)=true then ph ⟨#[lP ((c/4%26+(k:Int)/8)%26)]⟩ ((k:Int)%8+1)
 else Txt.slice (ph ⟨#[lP (c/288%26)]⟩ (c/4%8)) Ua (T9 (c/32%(c/4%8+1)))++⟨#[lP ((k+c/7488%26)%26)]⟩++Txt.slice (ph ⟨#[lP (c/288%26)]⟩ (c/4%8)) (T9 (c/32%(c/4%8+1))) Ua
theorem rX(c:Nat){n:Int}(hn:1<=n):(ph ⟨#[c]⟩ n).cps.toList=Oc n.toNat c:=by
 unfold ph;rw[if_neg ()];by_cases e:n=1
 ·subst e;rfl
 have h1:¬ (n==1||(⟨#[c]⟩:Str).length==0)=true:=by
  rw[Bool.or_eq_true];rintro(h|h)
  ·exact e (eq_of_beq h)
  exact absurd h (show ¬ ((1:Nat)==0)=true by decide)
 rw[if_neg h1];have f:∀(m:Nat)(acc:Array Nat),((Oc m #[c]).foldl (· ++ ·) acc).toList=acc.toList++Oc m c:=by
  intro m;induction m with
  |zero=>intro acc;simp
  |succ m ih=>
   intro acc;rw[Lq,MM,ih,Lq];simp
 have:=f n.toNat #[];simpa using this
theorem wc{a b:Int}(ha:0<=a)(hb:0<=b)(h:lP a=lP b):a=b:=by
 unfold lP at h;omega
theorem DJ{a b:Str}{x y:Nat}(h:a++⟨#[x]⟩++b=a++⟨#[y]⟩++b):x=y:=by
 have h1:((a.cps++ #[x])++b.cps).toList=((a.cps++ #[y])++b.cps).toList:=congrArg (λz:Str=>z.cps.toList) h;simp only[RC]at h1;have h2:=List.append_inj_left' h1 rfl;have h3:=List.append_inj_right h2 rfl;simpa using h3
theorem qG(c:Int):eX (nmV c):=by
 intro i j hi hj e;unfold nmV at e;split at e
 ·have m1:=cf (c/4%25+i) (show(0:Int)<25 by decide);have m2:=cf (c/4%25+j) (show(0:Int)<25 by decide);have b1:((c/4%25+i)%25).toNat<words.length:=by rw[pM];omega
  have b2:((c/4%25+j)%25).toNat<words.length:=by rw[pM];omega
  rw[Lk,Lk,Kv b1,Kv b2]at e;have:=(My wq).mp (show words[((c/4%25+i)%25).toNat]=words[((c/4%25+j)%25).toNat]from e);omega
 split at e
 ·have m1:=cf (c/4%26+(i:Int)/8) (show(0:Int)<26 by decide);have m2:=cf (c/4%26+(j:Int)/8) (show(0:Int)<26 by decide);have h1:=congrArg (λz:Str=>z.cps.toList) e;rw[rX _ (),rX _ ()]at h1;have h2:=congrArg List.length h1;rw[LW,LW]at h2;obtain⟨n,hn⟩:∃n,((i:Int)%8+1).toNat=n+1:=⟨((i:Int)%8).toNat,()⟩;rw[<-h2,hn,Lq,Lq]at h1;have h3:=wc m1.1 m2.1 (List.cons.inj h1).1;omega
 have m1:=cf ((i:Int)+c/7488%26) (show(0:Int)<26 by decide);have m2:=cf ((j:Int)+c/7488%26) (show(0:Int)<26 by decide);have h3:=wc m1.1 m2.1 (DJ e);omega
theorem Av{x:Str}{lo hi:Option Int}{c:Nat}(h:c∈(Txt.slice x lo hi).cps.toList):c∈x.cps.toList:=by
 unfold Txt.slice at h;split at h
 ·exact h
 obtain⟨i,_,q⟩:=Nf.mp (by simpa using h);exact Array.mem_toList_iff.mpr (Array.mem_of_getElem? q)
theorem fN{x:Str}:Oo x=true↔∀c∈x.cps.toList,c<0x110000:=by
 unfold Oo;rw[<-Array.all_toList,Mp];exact⟨λh c hc=>of_decide_eq_true (h c hc),λh c hc=>decide_eq_true (h c hc)⟩
theorem tU{x:Str}(h:Oo x=true)(lo hi:Option Int):Oo (Txt.slice x lo hi)=true:=fN.mpr λc hc=>fN.mp h c (Av hc)
theorem tF{x y:Str}(h:Oo x=true)(h2:Oo y=true):Oo (x++y)=true:=fN.mpr λc hc=>by
 have e:(x++y).cps=x.cps++y.cps:=rfl;rw[e,RC]at hc;rcases Kz.mp hc with q|q
 ·exact fN.mp h c q
 exact fN.mp h2 c q
theorem DN{k:Int}(h:k<26):Oo ⟨#[lP k]⟩=true:=fN.mpr λc hc=>by
 have e:c=lP k:=by simpa using hc
 rw[e];unfold lP;omega
theorem ym{k n:Int}(h:k<26):Oo (ph ⟨#[lP k]⟩ n)=true:=by
 by_cases hn:1<=n
 ·refine fN.mpr λc hc=>?_;rw[rX _ hn]at hc;rw[QC hc];unfold lP;omega
 unfold ph;rw[if_pos ()];decide+kernel
theorem IG(c:Int)(k:Nat):Oo (nmV c k)=true:=by
 unfold nmV;split
 ·have h:∀i:Fin 25,Oo (words.getD i.val Qi)=true:=by decide+kernel
  have:=cf (c/4%25+k) (show(0:Int)<25 by decide);exact h ⟨((c/4%25+k)%25).toNat,()⟩
 have h1:=cf (c/288) (show(0:Int)<26 by decide);have h2:=cf ((k:Int)+c/7488%26) (show(0:Int)<26 by decide);have h3:=cf (c/4%26+(k:Int)/8) (show(0:Int)<26 by decide);split
 ·exact ym h3.2
 exact tF (tF (tU (ym h1.2) _ _) (DN h2.2)) (tU (ym h1.2) _ _)
inductive Ab(vs:List V)(H:Hp)(Q:VK)(Z:XK):Prop
 |mk(c:Int)(k:Nat):vs=[.int c,.int k]->k<=100->(∀(H':Hp),aq H H'->Q (.str (nmV c k)) H')->Ab vs H Q Z
theorem FV(T:Txt K mg A):T.qR.Hz P w base 1 Ab:=by
 refine T.qR.hs d5 (λf cdv A' outer s H vs Q E hr hu h=>?_);obtain⟨c,k,rfl,h1,q⟩:=h;unfold nmV at q;refine⟨_,(ae (pst 2 d5.nd ao)
 (ae (pst 3 d5.nd (aw bF (fv 0) ab))
 (ae (aL (ptc (aZ hu) (fv 3) ab)
  (ae (pst 4 d5.nd ao)
  (ah (aB (px hu (m_split (aw bC (fv 4) ao) (ao^af)) (aw bF (aw bC (aw bF (aw cE (fv 0) ab) ab) (fv 1)) ab)))))
  aC)
 (ae (aL (ptc (aZ hu) (fv 3) ab)
  (ah (aB (aw dg (px hu (fv 2) (aw bF (aw bC (aw bF (aw cE (fv 0) ab) ab) (aw cE (fv 1) ab)) ab)) (aw bC (aw bF (fv 1) ab) ab))))
  aC)
 (ae (pst 5 d5.nd (aw bF (aw cE (fv 0) ab) ab))
 (ae (pst 6 d5.nd (aw bF (aw cE (fv 0) ab) (aw bC (fv 5) ab)))
 (ae (pst 7 d5.nd (aw dg (px hu (fv 2) (aw bF (aw cE (fv 0) ab) ab)) (fv 5)))
 (ah (aB (aw bC (aw bC (cM eU (fv 7) nr (bY (fv 6))) (px hu (fv 2) (aw bF (aw bC (fv 1) (aw bF (aw cE (fv 0) ab) ab)) ab))) (cM eU (fv 7) (bY (fv 6)) nr))))))))))),?_⟩
 refine⟨(by show(0:Int)<4;decide),rfl,_,rfl,aV (λb1=>?_) (λb1=>?_)⟩
 ·rw[if_pos b1]at q;refine⟨(by decide+kernel),rfl,_,_,words,rfl,rfl,Cm,λl hl=>?_⟩;obtain⟨s1,e1⟩:=alc hl (HO.lst (words.map V.str));generalize upd H l _=H1 at s1 e1⊢;obtain⟨j0,j1⟩:=cf (c/4%25+k) (show(0:Int)<25 by decide);have hk:((c/4%25+k)%25).toNat<words.length:=by rw[pM];omega
  have e:atI (words.map V.str) ((c/4%25+k)%25)=T9 (.str (words.getD ((c/4%25+k)%25).toNat Qi)):=by
   have e:=eG (xs:=words.map V.str) (j:=((c/4%25+k)%25).toNat) (v:=.str (words.getD ((c/4%25+k)%25).toNat Qi)) (by rw[KO,Kv hk,Lk,Kv hk];rfl);rw[show((((c/4%25+k)%25).toNat:Nat):Int)=(c/4%25+k)%25 by omega]at e;exact e
  exact⟨⟨∅,∅⟩,(by show(0:Int)<25;decide),(by show(0:Int)<25;decide),(lix (SqL.of e1) e (q _ s1))⟩
 rw[if_neg b1]at q;refine⟨rfl,_,rfl,aV (λb2=>?_) (λb2=>?_)⟩
 ·rw[if_pos b2]at q;obtain⟨j0,j1⟩:=cf (c/4%26+(k:Int)/8) (show(0:Int)<26 by decide);obtain⟨m0,m1⟩:=cf (k:Int) (show(0:Int)<8 by decide);exact⟨⟨∅,∅⟩,(by show(0:Int)<26;decide),⟨∅,∅⟩,(by show(0:Int)<26;decide),_,by decide+kernel,yN j0 j1,(by show(0:Int)<8;decide),(),(),by show 1<=1000;decide,q _ (aq.refl _)⟩
 rw[if_neg b2]at q;obtain⟨m0,m1⟩:=cf (c/4) (show(0:Int)<8 by decide);obtain⟨j0,j1⟩:=cf (c/288) (show(0:Int)<26 by decide);obtain⟨i0,i1⟩:=cf (k+c/7488%26) (show(0:Int)<26 by decide);have rl:(ph ⟨#[lP (c/288%26)]⟩ (c/4%8)).length<=1000:=Ei (KD _) ();refine⟨⟨∅,∅⟩,(by show(0:Int)<8;decide),⟨∅,∅⟩,(by show(0:Int)<c/4%8+1;omega),⟨∅,∅⟩,(by show(0:Int)<26;decide),_,by decide+kernel,yN j0 j1,(),(),by show 1<=1000;decide,?_⟩;have s1:=R7 (ph ⟨#[lP (c/288%26)]⟩ (c/4%8)) Ua (T9 (c/32%(c/4%8+1)));have s2:=R7 (ph ⟨#[lP (c/288%26)]⟩ (c/4%8)) (T9 (c/32%(c/4%8+1))) Ua;refine⟨_,rfl,sz rl,⟨∅,∅⟩,(by show(0:Int)<26;decide),(by show(0:Int)<26;decide),_,by decide+kernel,yN i0 i1,⟨KR (m:=1000+1) (Rm (KR s1 rl) 1) ∅,_,rfl,sz rl,⟨?_,q _ (aq.refl _)⟩⟩⟩;rw[x8];exact KR (m:=1000+1+1000) (Nat.add_le_add (Rm (KR s1 rl) 1) (KR s2 rl)) ∅
noncomputable def cellAt(ns:List Int)(k:Int):Int:=if k<(ns.length:Int)then ns.getD k.toNat 0 else 0
theorem HG{ns:List Int}{k:Int}(h0:0<=k)(h1:k<(ns.length:Int)):atI (ns.map V.int) k=T9 (.int (ns.getD k.toNat 0)):=by
 have hk:k.toNat<ns.length:=()
 have e:=eG (xs:=ns.map V.int) (j:=k.toNat) (v:=.int (ns.getD k.toNat 0)) (by rw[KO,Kv hk,Lk,Kv hk];rfl);rw[show((k.toNat:Nat):Int)=k by omega]at e;exact e
inductive zr(K:NO)(vs:List V)(H:Hp)(Q:VK)(Z:XK):Prop
 |mk(a:NL)(ns:List Int)(k:Int):vs=[.ref a,.int k]->SqL K H a (ns.map V.int)->0<=k->Q (.int (cellAt ns k)) H->zr K vs H Q Z
theorem yQ(T:Txt K mg A):T.mz.Hz P w base 1 (zr K):=by
 refine T.mz.hs r9 (λf cdv A' outer s H vs Q E hr hu h=>?_);obtain⟨a,ns,k,rfl,hS,h0,q⟩:=h;unfold cellAt at q;have el:(((ns.map V.int).length:Nat):Int)=(ns.length:Int):=by rw[Kx]
 refine⟨_,(ae (aL (ptc vI (fv 1) (pcB cu T.cI (fv 0^af)))
  (ah (aB (px hu (fv 0) (fv 1))))
  aC)
 (ah (aB ab))),?_⟩
 refine KG ⟨_,_,rfl,KG ⟨_,hS,rfl⟩,_,rfl,aV (λc=>?_) (λc=>?_)⟩
 ·have c':k<(((ns.map V.int).length:Nat):Int):=of_decide_eq_true c;rw[el]at c';rw[if_pos c']at q;exact lix hS (HG h0 c') q
 have c':¬ k<(((ns.map V.int).length:Nat):Int):=of_decide_eq_false (LO.mpr c);rw[el]at c';rw[if_neg c']at q;exact q
theorem wI:((10:Int)^(12:Int).toNat)=1000000000000:=∅
noncomputable def Ej:List Int:=[48271,69621,39373,16807,40692,30323,51749]
noncomputable def EC:List Int:=[1000033,999983,999979,1000037,999961,1000039,999959]
theorem Hw(w:Nat)(h:w<=6):∃a b:Int,atI (Ej.map V.int) (w:Int)=T9 (.int a)/\atI (EC.map V.int) (w:Int)=T9 (.int b)/\0<a/\a<100000/\0<b:=by
 have:=lt7 w ();rcases this with rfl|rfl|rfl|rfl|rfl|rfl|rfl<;>exact⟨_,_,rfl,rfl,∅,∅,∅⟩
inductive Cw(vs:List V)(H:Hp)(Q:VK)(Z:XK):Prop
 |mk(c:Int)(k:Nat)(n:Int):vs=[.int c,.int k,.int n]->k<=6->0<n->(∀(m:Int)(H':Hp),0<=m->m<n->aq H H'->Q (.int m) H')->Cw vs H Q Z
theorem mB(T:Txt K mg A):T.vn.Hz P w base 1 Cw:=by
 refine T.vn.hs oz (λf cdv A' outer s H vs Q E hr hu h=>?_);obtain⟨c,k,n,rfl,hk,n0,q⟩:=h;refine⟨_,(ae (aL (ptc (uX hu) (aw cE (fv 0) (aw oW ab ab)) ab)
  (ah (aB (aw bF (aw BD (fv 0) (aw bC (aw dg ab (fv 1)) ab)) (fv 2))))
  aC)
 (ae (pst 3 oz.nd (aw bC (aw bF (fv 0) ab) ab))
 (ae (pst 3 oz.nd (aw dg (fv 3) (px hu (bA (ab^ab^ab^ab^ab^ab^ab^af)) (fv 1))))
 (ah (aB (aw bF (aw bF (fv 3) (px hu (bA (ab^ab^ab^ab^ab^ab^ab^af)) (fv 1))) (fv 2))))))),?_⟩
 refine⟨⟨∅,∅,∅⟩,⟨∅,∅⟩,rfl,_,rfl,aV (λ_=>?_) (λ_=>?_)⟩
 ·have m:=cf (c/2^(12*(k:Int)+1).toNat) n0;exact⟨.inl ⟨∅,∅⟩,(by show(0:Int)<=12*(k:Int)+1;omega),n0,q _ _ m.1 m.2 (aq.refl _)⟩
 obtain⟨a,b,ea,eb,a0,a1,b0⟩:=Hw k hk;refine⟨(by show(0:Int)<1000003;decide),⟨by show 7<=sizeLine;decide,λl hl=>?_⟩⟩;obtain⟨s1,e1⟩:=alc hl (HO.lst (Ej.map V.int));change upd H l (HO.lst (Ej.map V.int)) l=_ at e1;refine lix (SqL.of e1) ea ⟨.inr ⟨(),()⟩,⟨by show 7<=sizeLine;decide,λl2 hl2=>?_⟩⟩;have s2:=aq.upd hl2 (HO.lst (EC.map V.int));have e2:upd (upd H l (HO.lst (Ej.map V.int))) l2 (HO.lst (EC.map V.int)) l2=T9 (.lst (EC.map V.int)):=aj;have m:=cf ((c%1000003+1)*a%b) n0;exact lix (SqL.of e2) eb ⟨b0,n0,q _ _ m.1 m.2 (s1.trans s2)⟩
inductive uD(vs:List V)(H:Hp)(Q:VK)(Z:XK):Prop
 |mk(c:Int):vs=[.int c]->(∀n,In n->Q (.int n) H)->uD vs H Q Z
theorem BL(T:Txt K mg A):T.iG.Hz P w base 1 uD:=by
 refine T.iG.hs nH (λf cdv A' outer s H vs Q E hr hu h=>?_);obtain⟨c,rfl,q⟩:=h;refine⟨_,(ae (aL (ptc vI (aw bF (fv 0) ab) ab)
  (ah (aB (aw bF (aw cE (fv 0) ab) ab)))
  aC)
 (ae (aL (ptc (aZ hu) (aw bF (fv 0) ab) ab)
  (ah (aB (aw oT (aw oT (aw oW ab ab) ab) (aw bF (aw cE (fv 0) ab) ab))))
  aC)
 (ah (aB (aw bF (aw cE (fv 0) ab) (aw oW ab ab)))))),?_⟩
 have m4:=cf (c/4) (show(0:Int)<4 by decide);have m3:=cf (c/4) (show(0:Int)<3 by decide);have mm:=cf (c/4) (show(0:Int)<1000000000000 by decide);refine⟨(by show(0:Int)<4;decide),_,rfl,aV (λ_=>⟨⟨∅,∅⟩,(by show(0:Int)<4;decide),q _ ⟨m4.1,()⟩⟩) (λ_=>⟨(by show(0:Int)<4;decide),rfl,_,rfl,aV (λ_=>⟨⟨∅,∅,∅⟩,⟨∅,∅⟩,(by show(0:Int)<3;decide),by rw[wI];exact q _ ⟨(),()⟩⟩) (λ_=>?_)⟩)⟩;exact⟨⟨∅,∅⟩,⟨∅,∅,∅⟩,(by show(0:Int)<10^(12:Int).toNat;decide),by rw[wI];exact q _ ⟨mm.1,mm.2⟩⟩
end
section
variable{P:Program}{w:NW}{K:NO}{mg:Str->Option NK}{base:Oi}{A:Adr}{g:Gc}{d:Gd}
seal PE PA PS PSs PT PW
noncomputable def Ap(g:Gc)(lo:Bool)(a b:Int)(i:Nat):Bool:=lo||(decide (a<=g.vw i)&&decide (g.vw i<=b))
noncomputable def ET(g:Gc)(lo:Bool)(a b:Int):V->Bool
 | .str x=>(Od 25).any λi=>decide (g.N i=x)&&Ap g lo a b i
 |_=>false
theorem zq(O:j9 g){lo:Bool}{a b:Int}{i:Nat}(h:i<25):ET g lo a b (.str (g.N i))=Ap g lo a b i:=by
 unfold ET;dsimp only;rw[LP,LM];constructor
 ·rintro⟨j,hj,e⟩;rw[LS,decide_eq_true_iff]at e;rw[O.D j i (Lu.mp hj) h e.1]at e;exact e.2
 exact λe=>⟨i,Lu.mpr h,by rw[decide_eq_true rfl,e];rfl⟩
theorem xk(O:j9 g){lo:Bool}{a b:Int}:∀{xs:List Nat},(∀i∈xs,i∈g.vk)->((nV g.N xs).filter (ET g lo a b)).map (λx=>x)=nV g.N (xs.filter (Ap g lo a b))
 | [],_=>rfl
 |i::r,h=>by
  have ih:=xk O (lo:=lo) (a:=a) (b:=b) (xs:=r) λj hj=>h j (Kw _ hj);have e:=zq O (lo:=lo) (a:=a) (b:=b) (O.vb i (h i Ku)).1;show((V.str (g.N i)::nV g.N r).filter _).map _=_;rw[MO]at ih⊢;rw[LU,LU,e];cases Ap g lo a b i
  ·simpa using ih
  simpa using ih
structure UE(g:Gc)(xs:List Nat)(a b:Int)(ys:List Nat):Prop where
 sub:∀i∈ys,i∈xs
 has:∀i∈xs,a<=g.vw i->g.vw i<=b->i∈ys
 len:ys.length<=xs.length
inductive Dg(K:NO)(vs:List V)(H:Hp)(Q:VK)(Z:XK):Prop
 |mk(g:Gc)(d:Gd)(l:NL)(lo:Bool)(a b:Int)(xs:List Nat):vs=[.ref g.S,.ref l,.bl lo,.int a,.int b]->j9 g->BAt g H d->SqL K H l (nV g.N xs)->(∀i∈xs,i∈g.vk)->xs.length<=1000->(∀(D:NL)(ys:List Nat)(H':Hp),aq H H'->H D=Ua->H' D=T9 (.lst (nV g.N ys))->UE g xs a b ys->Q (.ref D) H')->Dg K vs H Q Z
theorem uI(T:Txt K mg A):T.u4.Hz P w base 1 (Dg K):=by
 refine T.u4.hs yP (λf cdv A' outer s H vs Q E hr hu h=>?_);obtain⟨g,d,l,lo,a,b,xs,rfl,O,B,hl,hx,xl,q⟩:=h;have vb:∀j∈g.vk,j<25:=λj hj=>(O.vb j hj).1;refine⟨_,(ah (aB (jo (N:=["_law_name_here","_law_loose","_law_low","_law_high","_law_state"]) (own:=1) (fr:=[2,3,4,0]) (cJ.of (by kernel_rfl!)) rfl (cA (fv 1)) (λb=>pgn (i:=0) (show OS (["_law_name_here","_law_loose","_law_low","_law_high","_law_state"]:List OY) by decide+kernel) rfl) (λb=>ox (PW.pt (pw_or (bN (fv 1) (λ_=>rfl)) (pw_or1 (PW.pt (pw_and (ptc vY (fv 2) (px hu (px hu (fv 4) ao) (fv 0))) (pw_and1 (ptc vY (px hu (px hu (fv 4) ao) (fv 0)) (fv 3))))))))) (λb=>fv 0)))),KG ⟨⟨_,hl⟩,fU (K:=K) (ET g lo a b) (λx=>x) hl (ax (by rw[Kx];exact xl)) (λb' x H2 R hm s2 k=>?_) (λb' x H2 R hm hp s2 k=>k _ (aq.refl _)) (λD H2 hD s2 e=>?_)⟩⟩
 ·obtain⟨i,hi,rfl⟩:=KS.mp hm;have hi':=hx i hi;rw[zq O (O.vb i hi').1]at k;have hS:=s2 _ _ B.dy.hS;have hv:=eJ O.D (.inl (s2 _ _ (aA _ _ B.st.hv))) vb hi';unfold Ap at k;cases lo with
  |true=>exact⟨true,rfl,eI (k _ (aq.refl _))⟩
  |false=>
   refine⟨false,rfl,ba (dgk hS rfl ⟨_,hv,_,rfl,aV (λc=>?_) (λc=>?_)⟩)⟩
   ·refine dgk hS rfl ⟨_,hv,_,rfl,?_⟩;have:=k _ (aq.refl _);rw[c]at this;exact this
   have:=k _ (aq.refl _);rw[LO.mpr c]at this;exact this
 rw[xk O hx]at e;refine q D _ H2 s2 hD e ⟨λi hi=>(LJ.mp hi).1,λi hi h1 h2=>LJ.mpr ⟨hi,?_⟩,Mb _ _⟩;unfold Ap;rw[decide_eq_true h1,decide_eq_true h2,Bool.and_true,Bool.or_true]
inductive wD(K:NO)(vs:List V)(H:Hp)(Q:VK)(Z:XK):Prop
 |mk(g:Gc)(d:Gd)(c:Int)(k:Nat)(b:Int):vs=[.ref g.S,.int c,.int k,.int b]->j9 g->BAt g H d->k<=6->(∀(t:Th)(H':Hp),aq H H'->t.ok g.ns->Q (t.v g.N) H')->wD K vs H Q Z
theorem pj(T:Txt K mg A):T.pI.Hz P w base 2 (wD K):=by
 refine T.pI.hs (k:=1) kC (λf cdv A' outer s H vs Q E hr hu h=>?_);obtain⟨g,d,c,k,b,rfl,O,B,hk,q⟩:=h;have nl:=O.nl;refine⟨_,(ae (pst 4 kC.nd (ar (uI T) hr (fv 0^px hu (fv 0) ao^gU^ab^fv 3^af)))
 (ae (pst 5 kC.nd (ar (mB T) hr (fv 1^fv 2^aw bC (pcB cu T.cI (fv 4^af)) ab^af)))
 (ae (aL (ptc vI (fv 5) (pcB cu T.cI (fv 4^af)))
  (ah (aB (px hu (fv 4) (fv 5))))
  aC)
 (ah (aB (ar (BL T) hr (px hu (bA (aw cE (aw dg (aw bF (fv 1) ab) (aw bC (fv 2) ab)) ab^aw BD (fv 1) (aw bC ab (aw dg ab (fv 2)))^af)) (pcT nY T.mG (pec (uX hu) (aw cE (fv 1) (aw oW ab ab)) ab^af))^af))))))),?_⟩
 refine dgk B.dy.hS rfl ⟨g,d,g.LN,false,0,b,g.ns,rfl,O,B,SqL.of (aA _ _ B.st.hn),O.nv,(),λD ys H1 s1 hD eD F=>?_⟩;have e:(((nV g.N ys).length:Nat):Int)=(ys.length:Int):=by rw[Kx]
 try dsimp only
 refine lnl eD ⟨c,k,_,rfl,hk,(),λm H2 m0 m1 s2=>?_⟩;have eD2:=s2 _ _ eD;try dsimp only
 refine lnl eD2 ⟨_,rfl,aV (λz=>?_) (λ_=>?_)⟩
 ·have z:=of_decide_eq_true z;rw[e]at z;obtain⟨x,hx,_,ha⟩:=mF (λi=>V.str (g.N i)) m0 z;exact lix (SqL.of eD2) ha (q (.x x) H2 (s1.trans s2) (F.sub x hx))
 refine⟨(by show(0:Int)<1000003;decide),.inr ⟨(),()⟩,⟨∅,∅⟩,.inl ⟨∅,∅⟩,(by show(0:Int)<=85+44*(k:Int);omega),⟨by show 2<=sizeLine;decide,λl hl=>?_⟩⟩;obtain⟨s3,e3⟩:=alc hl (HO.lst [V.int (c%1000003*((k:Int)+5)/3),V.int (c/2^(85+44*(k:Int)).toNat)]);refine⟨⟨∅,∅,∅⟩,⟨∅,∅⟩,rfl,_,rfl,KG ?_⟩;have fin:∀n,In n->Q (.int n) _:=λn hn=>q (.i n) _ ((s1.trans s2).trans s3) hn;cases (!decide (V.int (c/10^(18:Int).toNat)=V.int 0))
 ·exact⟨_,_,KG (SqL.of e3),rfl,_,rfl,fin⟩
 exact⟨_,_,KG (SqL.of e3),rfl,_,rfl,fin⟩
noncomputable def opL:List Str:=["+","-","*","over","rest","<","="]
inductive wM(K:NO)(vs:List V)(H:Hp)(Q:VK)(Z:XK):Prop
 |mk(g:Gc)(d:Gd)(c b:Int):vs=[.ref g.S,.int c,.int b]->j9 g->BAt g H d->(∀(p:NL)(val:Val)(H':Hp),aq H H'->H p=Ua->H' p=T9 (.tup (vV g.N val))->val.ok g.ns->Q (.ref p) H')->wM K vs H Q Z
theorem u6(T:Txt K mg A):T.pO.Hz P w base 3 (wM K):=by
 have M4:=@mB P w _ _ base _ T;refine T.pO.hs (k:=2) fj (λf cdv A' outer s H vs Q E hr hu h=>?_);obtain⟨g,d,c,b,rfl,O,B,q⟩:=h;refine⟨_,(ae (pst 3 fj.nd (ar M4 hr (fv 1^ab^ab^af)))
 (ae (pst 4 fj.nd (ar (pj T) hr (fv 0^fv 1^ab^fv 2^af)))
 (ae (pst 5 fj.nd (ar (uI T) hr (fv 0^px hu (fv 0) ao^gU^ab^fv 2^af)))
 (ae (aL (ptc vI (fv 3) ab)
  (ah (aB (bp (fv 4^af))))
  aC)
 (ae (aL (PW.pt (pw_and (ptc (aZ hu) (fv 3) ab) (pw_and1 (ptc qq (pcB cu T.cI (fv 5^af)) ab))))
  (ah (aB (bp (px hu (fv 5) (ar M4 hr (fv 1^ab^pcB cu T.cI (fv 5^af)^af))^ao^fv 4^af))))
  aC)
 (ae (pst 6 fj.nd (px hu (bA (ao^ao^ao^ao^ao^ao^ao^af)) (ar M4 hr (fv 1^ab^ab^af))))
 (ah (aB (bp (fv 4^fv 6^ar (pj T) hr (fv 0^fv 1^ab^fv 2^af)^af)))))))))),?_⟩
 refine⟨c,6,9,rfl,∅,∅,λm H1 m0 m1 s1=>?_⟩;have B1:=B.same s1;try dsimp only
 refine⟨g,d,c,1,b,rfl,O,B1,∅,λt H2 s2 ht=>?_⟩;have B2:=B1.same s2;have z2:=s1.trans s2;try dsimp only
 refine dgk B2.dy.hS rfl ⟨g,d,g.LL,false,0,b,[6,10],rfl,O,B2,SqL.of (aA _ _ B2.st.hl),(λi hi=>O.cv i (by revert i;decide)),∅,λD ys H3 s3 hD eD F=>?_⟩;have B3:=B2.same s3;have z3:=z2.trans s3;have e:(((nV g.N ys).length:Nat):Int)=(ys.length:Int):=by rw[Kx]
 have new:∀{x:NL}{H4:Hp},aq H3 H4->H4 x=Ua->H x=Ua:=λz h=>aq.free (z3.trans z) h;try dsimp only
 refine ak λM0 K0=>⟨_,rfl,aV (λ_=>⟨by show 1<=sizeLine;decide,λp hp=>q p (.one t) _ (z3.trans (aq.upd hp _)) (new (aq.refl _) hp) aj ht⟩) (λ_=>K0 _ _ (ak λM1 K1=>?_))⟩;have rest:M1 [T9 (.ref g.S),T9 (.int c),T9 (.int b),T9 (.int m),T9 (t.v g.N),T9 (.ref D),Ua] H3:=K1 _ _ (by
  refine⟨by show 7<=sizeLine;decide,λl hl=>?_⟩;obtain⟨s4,e4⟩:=alc hl (HO.lst (opL.map V.str));change upd H3 l (HO.lst (opL.map V.str)) l=_ at e4;refine⟨c,4,7,rfl,∅,∅,λm2 H5 n0 n1 s5=>?_⟩;obtain⟨x,hx,_,ha⟩:=mF V.str (xs:=opL) n0 n1;refine lix (SqL.of (s5 _ _ e4)) ha ?_;have z5:=s4.trans s5;refine⟨g,d,c,2,b,rfl,O,(B3.same s4).same s5,∅,λt2 H6 s6 ht2=>?_⟩;exact⟨by show 3<=sizeLine;decide,λp hp=>q p (.op t x t2) _ ((z3.trans (z5.trans s6)).trans (aq.upd hp _)) (new (z5.trans s6) hp) aj ⟨ht,ht2,hx⟩⟩)
 refine⟨rfl,_,rfl,aV (λ_=>?_) (λ_=>ba rest)⟩;refine lnl eD ⟨_,rfl,aV (λz=>?_) (λ_=>rest)⟩;have z:=of_decide_eq_true z;rw[e]at z;refine lnl eD ⟨c,3,_,rfl,∅,(by rw[e];exact z),λm2 H5 n0 n1 s5=>?_⟩;rw[e]at n1;obtain⟨x,hx,_,ha⟩:=mF (λi=>V.str (g.N i)) n0 n1;exact lix (SqL.of (s5 _ _ eD)) ha ⟨by show 3<=sizeLine;decide,λp hp=>q p (.atl x t) _ ((z3.trans s5).trans (aq.upd hp _)) (new s5 hp) aj ⟨F.sub x hx,ht⟩⟩
end
section
variable{P:Program}{w:NW}{K:NO}{mg:Str->Option NK}{base:Oi}{A:Adr}{g:Gc}{d:Gd}{H:Hp}
seal PE PA PS PSs PT PW
structure lJ(g:Gc)(d:Gd)(H:Hp)(a:NL)(at_:Nat)(rank aN:Int)(fc:Bool):Prop where
 last:atI (V.ref d.a0::d.as.map V.ref) (-1)=T9 (.ref a)
 fr:H a=T9 (.dK (frK at_ rank aN fc))
 mem:a∈d.M g
 nS:a≠g.S
 nR:a≠g.LR
 nO:a≠d.lo
 rk:0<=rank/\rank<=2
 hf:aN=cQ 1 d.fz
 hb:1<=aN/\aN<=36
theorem kT{α:Type}(xs:List α)(x:α):atI (xs++[x]) (-1)=T9 x:=by
 unfold atI ixN;rw[if_neg ∅,if_pos (by simp;omega)];show(xs++[x])[(-1+(((xs++[x]).length:Nat):Int)).toNat]?=T9 x;rw[show(-1+(((xs++[x]).length:Nat):Int)).toNat=xs.length by simp;omega];simp
theorem ku(h:(d.M g).Nodup):g.S≠g.LR/\g.S≠d.lo/\g.LR≠d.lo/\∀a∈d.a0::d.as,a≠g.S/\a≠g.LR/\a≠d.lo:=by
 unfold Gd.M at h;obtain⟨h1,h⟩:=KU.mp h;obtain⟨h2,h⟩:=KU.mp h;obtain⟨h3,h⟩:=KU.mp h;exact⟨λe=>h1 (by rw[e];simp),λe=>h1 (by rw[e];simp),λe=>h2 (by rw[e];simp),λa m=>⟨λe=>h1 (by rw[<-e];simp at m⊢;right;right;exact m),λe=>h2 (by rw[<-e];simp at m⊢;right;exact m),λe=>h3 (by rw[<-e];exact m)⟩⟩
theorem mC{α:Type}(xs:List α):xs=[]\/∃ys y,xs=ys++[y]:=by
 cases h:xs.reverse with
 |nil=>exact .inl (List.reverse_eq_nil_iff.mp h)
 |cons y r=>exact .inr ⟨r.reverse,y,by rw[<-List.reverse_reverse xs,h];simp⟩
theorem oR{α β:Type}{xs:List α}{ys:List β}{x:α}{y:β}(h:xs.length=ys.length):(xs++[x]).zip (ys++[y])=xs.zip ys++[(x,y)]:=by
 rw[List.zip_append h];rfl
theorem Paired.xO{α β:Type}{F:α->β->Prop}:∀{xs:List α}{ys:List β}{y:β},Paired F xs (ys++[y])->∃us u,xs=us++[u]/\Paired F us ys/\F u y
 |_,[],_,.cons h .nil=>⟨[],_,rfl,.nil,h⟩
 |_,_::ys,_,.cons h r=>by
  obtain⟨us,u,e,p,q⟩:=Paired.xO (ys:=ys) r;exact⟨_::us,u,by rw[e];rfl,.cons h p,q⟩
theorem pU.xO(dy:pU H g d){fs:List Fz}{f:Fz}(e:d.fz=fs++[f]):∃us a,d.as=us++[a]/\Paired (λa p=>H a=T9 (.dK (fzK p))) us ((ats (d.b g) fs).zip fs)/\H a=T9 (.dK (fzK (d.b g+(bD fs).length,f))):=by
 have h:=dy.hf;rw[e,oQ,oR (jd _ _)]at h;exact Paired.xO h
theorem BAt.top(h:BAt g H d)(O:j9 g):∃a at_ rank aN fc,lJ g d H a at_ rank aN fc:=by
 obtain⟨n1,n2,n3,n4⟩:=ku h.ok.nd;rcases mC d.fz with e|⟨fs,f,e⟩
 ·have hf:=h.dy.hf;rw[e]at hf;have ha:d.as=[]:=by
   cases ha:d.as with
   |nil=>rfl
   |cons a r=>rw[ha]at hf;cases hf
  obtain⟨m1,m2,m3⟩:=n4 d.a0 Ku;exact⟨d.a0,0,g.br,1,false,⟨by rw[ha];exact kT [] _,h.dy.h0,in0 g d,m1,m2,m3,O.br,by rw[e];rfl,⟨∅,∅⟩⟩⟩
 obtain⟨us,a,ea,p,fa⟩:=h.dy.xO e;have ma:a∈d.as:=by rw[ea];simp
 obtain⟨m1,m2,m3⟩:=n4 a (Kw _ ma);have mf:f∈d.fz:=by rw[e];simp
 have F:=h.ok.fz f mf;have hh:=h.ok.hf;rw[e]at hh;refine⟨a,_,f.rank,f.aN,f.fc,⟨?_,fa,inA g d ma,m1,m2,m3,F.rank,?_,h.ok.h36 f mf⟩⟩
 ·rw[ea,KZ];exact kT (V.ref d.a0::us.map V.ref) _
 rw[e,pz];exact hh.inv.2
noncomputable def kP(H:Hp)(g:Gc)(d:Gd)(v:V)(n aN:Int):Hp:=upd (upd H g.S (.dK (stK g { d with spent:=d.spent+aN*n }))) g.LR (.lst (d.rows++[v]))
inductive vB(vs:List V)(H:Hp)(Q:VK)(Z:XK):Prop
 |mk(g:Gc)(d:Gd)(v:V)(n:Int)(a:NL)(at_:Nat)(rank aN:Int)(fc:Bool):vs=[.ref g.S,v,.int n]->pU H g d->(d.M g).Nodup->d.rows.length<=1000->lJ g d H a at_ rank aN fc->Q (.bl false) H->(d.spent+aN*n<=g.lim->Q (.bl true) (kP H g d v n aN))->vB vs H Q Z
theorem xY(T:Txt K mg A):T.uM.Hz P w base 1 vB:=by
 refine T.uM.hs qU (λf cdv A' outer s H vs Q E hr hu h=>?_);obtain⟨g,d,v,n,a,at_,rank,aN,fc,rfl,dy,nd,rl,T1,q1,q2⟩:=h;obtain⟨n1,n2,n3,n4⟩:=ku nd;refine⟨_,(ae (pst 3 qU.nd (px hu (px hu (fv 0) ao) (jq fw ab)))
 (ae (aL (ptc qq (aw bC (px hu (fv 0) ao) (aw dg (px hu (fv 3) ao) (fv 2))) (px hu (fv 0) ao))
  (ah (aB gU))
  aC)
 (ae (bo (aw bC (px hu (fv 0) ao) (aw dg (px hu (fv 3) ao) (fv 2))) (bz (fv 0) ao (bu hu Uc)))
 (ae (aI (cw (px hu (fv 0) ao) (fv 1^af)))
 (ah (aB gU)))))),?_⟩
 refine dgk dy.hS rfl ⟨_,rfl,(lix (SqL.of dy.hO) T1.last ?_)⟩;try dsimp only
 refine ak λM1 K1=>dgk dy.hS rfl (dgk T1.fr rfl ⟨.inl ⟨by have:=T1.hb;omega,by have:=T1.hb;omega⟩,dgk dy.hS rfl ⟨_,rfl,aV (λ_=>q1) (λc=>K1 _ _ ?_)⟩⟩);have c:¬ g.lim<d.spent+aN*n:=λz=>c (decide_eq_true z);have q2:=q2 ();try dsimp only
 refine ak λM2 K2=>dgk dy.hS rfl (dgk T1.fr rfl ⟨.inl ⟨by have:=T1.hb;omega,by have:=T1.hb;omega⟩,_,cY.k (k:=.inr "spent") dy.hS (show 12<sizeLine by decide),K2 _ _ ?_⟩);unfold kP at q2;rw[show Ue (stK g d) (.inr "spent") (.int (d.spent+aN*n))=stK g { d with spent:=d.spent+aN*n }from rfl];have hS1:upd H g.S (.dK (stK g { d with spent:=d.spent+aN*n })) g.S=T9 (.dK (stK g { d with spent:=d.spent+aN*n })):=aj;have hR1:upd H g.S (.dK (stK g { d with spent:=d.spent+aN*n })) g.LR=T9 (.lst d.rows):=ag n1.symm dy.hR;generalize upd H g.S (.dK (stK g { d with spent:=d.spent+aN*n }))=H1 at hS1 hR1 q2⊢;try dsimp only
 exact dgk hS1 rfl ⟨KG ⟨rfl,_,SqL.of hR1⟩,_,_,_,rfl,rfl,hR1,ax rl,q2⟩
end
section
variable{P:Program}{w:NW}{K:NO}{mg:Str->Option NK}{base:Oi}{A:Adr}{g:Gc}{d:Gd}{H:Hp}
noncomputable def mu(g:Gc)(d:Gd):Nat:=(d.lrs g).length+2*d.fz.length
theorem zj{a b:Nat}{r1 r2 h1 h2:Int}{f1 f2:Bool}(h:frK a r1 h1 f1=frK b r2 h2 f2):a=b/\r1=r2/\h1=h2/\f1=f2:=by
 unfold frK at h;simp only[List.cons.injEq,Prod.mk.injEq,V.int.injEq,V.bl.injEq,true_and,and_true]at h;obtain⟨e1,e2,e3,e5⟩:=h;exact⟨(),e2,e3,e5⟩
theorem CH{a:NL}{k1 k2:List (Key×V)}(h:H a=T9 (.dK k1))(h':H a=T9 (.dK k2)):k1=k2:=by
 rw[h]at h';exact HO.dK.inj (NP h')
theorem lJ.cases(h:pU H g d){a:NL}{at_:Nat}{rank aN:Int}{fc:Bool}(T:lJ g d H a at_ rank aN fc):(d.fz=[]/\d.as=[]/\a=d.a0/\at_=0/\rank=g.br/\aN=1/\fc=false)\/∃fs f us,d.fz=fs++[f]/\d.as=us++[a]/\Paired (λa p=>H a=T9 (.dK (fzK p))) us ((ats (d.b g) fs).zip fs)/\at_=d.b g+(bD fs).length/\rank=f.rank/\aN=f.aN/\fc=f.fc:=by
 rcases mC d.fz with e|⟨fs,f,e⟩
 ·have hf:=h.hf;rw[e]at hf;have ha:d.as=[]:=by
   cases ha:d.as with
   |nil=>rfl
   |cons a r=>rw[ha]at hf;cases hf
  have l:=T.last;rw[ha]at l;have l2:=kT ([]:List V) (.ref d.a0);have e0:a=d.a0:=by
   have:=l.symm.trans l2;cases this;rfl
  subst e0;obtain⟨a1,a2,a3,a5⟩:=zj (CH T.fr h.h0);exact .inl ⟨e,ha,rfl,a1,a2,a3,a5⟩
 obtain⟨us,a',ea,p,fa⟩:=h.xO e;have l:=T.last;rw[ea,KZ]at l;have l2:=kT (V.ref d.a0::us.map V.ref) (.ref a');have e0:a=a':=by
  have:=l.symm.trans l2;cases this;rfl
 subst e0;obtain⟨a1,a2,a3,a5⟩:=zj (CH T.fr fa);exact .inr ⟨fs,f,us,e,ea,p,a1,a2,a3,a5⟩
variable{v:V}{r:Lr}{n:Int}{a:NL}{at_:Nat}{rank aN:Int}{fc:Bool}
theorem HY(nd:(d.M g).Nodup):kP H g d v n aN g.S=T9 (.dK (stK g { d with spent:=d.spent+aN*n })):=by
 unfold kP;rw[ay (ku nd).1,aj]
theorem FN:kP H g d v n aN g.LR=T9 (.lst (d.rows++[v])):=aj
theorem qM{x:NL}(h1:x≠g.S)(h2:x≠g.LR):kP H g d v n aN x=H x:=by
 unfold kP;rw[ay h2,ay h1]
theorem oU:Go (d.M g) H (d.M g) (kP H g d v n aN):=(Go.at (inS g d) _).trans (Go.at (inR g d) _)
theorem Dm(h:(d.M g).Nodup):d.a0∉d.as/\d.as.Nodup:=by
 unfold Gd.M at h;obtain⟨_,h⟩:=KU.mp h;obtain⟨_,h⟩:=KU.mp h;obtain⟨_,h⟩:=KU.mp h;obtain⟨h4,h5⟩:=KU.mp h;exact⟨h4,h5⟩
theorem Paired.yT{α β:Type}{F G:α->β->Prop}:∀{xs:List α}{ys:List β},Paired F xs ys->(∀x∈xs,∀y,F x y->G x y)->Paired G xs ys
 |_,_,.nil,_=>.nil
 |_,_,.cons h r,k=>.cons (k _ Ku _ h) (Paired.yT r λx m=>k x (Kw _ m))
theorem BAt.add(h:BAt g H d)(O:j9 g)(T:lJ g d H a at_ rank aN fc)(hv:bS g.N (del (d.M g) H) v r)(ok:r.ok g.ns g.tg g.dd)(c:tj g.dd r<=n)(n0:0<=n)(fit:d.spent+aN*n<=g.lim)(m3:mu g d+3<=1000) :
  ∃d':Gd,d'.M g=d.M g/\BAt g (kP H g d v n aN) d'/\mu g d'<=mu g d+3:=by
 have nd:=h.ok.nd
 obtain⟨n1,n2,n3,n4⟩:=ku nd
 have go:=oU (H:=H) (g:=g) (d:=d) (v:=v) (n:=n) (aN:=aN)
 have hS:=HY (H:=H) (v:=v) (n:=n) (aN:=aN) nd
 have hR:=FN (H:=H) (g:=g) (d:=d) (v:=v) (n:=n) (aN:=aN)
 have hO:kP H g d v n aN d.lo=T9 (.lst (.ref d.a0::d.as.map V.ref)):=by rw[qM n2.symm n3.symm];exact h.dy.hO
 have hb:=T.hb
 have ht:aN*tj g.dd r<=aN*n:=Li c ()
 have h0:0<=aN*n:=Lo () n0
 have rows:Paired (bS g.N (del (d.M g) (kP H g d v n aN))) (d.rows++[v]) (d.lrs g++[r]):=Ot (hv.same go.same) (Paired.cS h.hr λ_ _=>bS.same go.same)
 have sp:=h.ok.sp
 unfold mu at m3⊢
 rcases T.cases h.dy with⟨ez,eas,ea,et,er,eh,ef⟩|⟨fs,f,us,ez,eas,pu,et,er,eh,ef⟩
 ·have lr:Gd.lrs g { d with rows:=d.rows++[v],spent:=d.spent+aN*n,bs:=d.bs++[.leaf r] }=d.lrs g++[r]:=by
   unfold Gd.lrs;dsimp only;rw[ez,mV];simp[bD,aX,flat]
  have h0':kP H g d v n aN d.a0=T9 (.dK (frK 0 g.br 1 false)):=by
   have m:=n4 d.a0 Ku;rw[qM m.1 m.2.1];exact h.dy.h0
  have len:(d.lrs g++[r]).length=(d.lrs g).length+1:=by simp
  have B:BAt g (kP H g d v n aN) { d with rows:=d.rows++[v],spent:=d.spent+aN*n,bs:=d.bs++[.leaf r] }:=by
   refine h.go (d':={ d with rows:=d.rows++[v],spent:=d.spent+aN*n,bs:=d.bs++[.leaf r] }) go ⟨hS,hR,hO,h0',?_⟩ ⟨nd,h.ok.mks,h.ok.ml,ni h.ok.bs ⟨ok,Lh⟩,h.ok.fz,h.ok.fl,h.ok.hf,h.ok.h36,?_,⟨by show 0<=d.spent+aN*n;omega,.inl fit⟩,?_,⟨o9 h.ok.dp.1 (by unfold dT;decide),h.ok.dp.2⟩⟩ (go.same _ _ h.hm) (by rw[lr];exact rows)
   ·dsimp only;rw[ez,eas];exact .nil
   ·have:=h.ok.pay;dsimp only;rw[mS];simp only[cB,nB];rw[eh]at ht⊢;omega
   rw[lr,len];dsimp only;omega
  refine⟨{ d with rows:=d.rows++[v],spent:=d.spent+aN*n,bs:=d.bs++[.leaf r] },rfl,B,?_⟩;rw[lr,len];dsimp only;omega
 have lr:Gd.lrs g { d with rows:=d.rows++[v],spent:=d.spent+aN*n,fz:=fs++[{ f with rows:=f.rows++[.leaf r] }] }=d.lrs g++[r]:=by
  unfold Gd.lrs;dsimp only;rw[ez,d6,d6];simp[bD,aX,flat,Fz.op,Fz.fF,mV]
 have len:(d.lrs g++[r]).length=(d.lrs g).length+1:=by simp
 have hh:=h.ok.hf
 rw[ez]at hh
 have F:=h.ok.fz f (by rw[ez];simp)
 have f36:=h.ok.h36 f (by rw[ez];simp)
 have fl:=h.ok.fl
 rw[ez,KC]at fl
 have di:=h.ok.dp.2
 rw[ez]at di
 have di:=di.inv
 have um:∀x∈us,x∈d.a0::d.as:=λx hx=>by rw[eas];simp[hx]
 have B:BAt g (kP H g d v n aN) { d with rows:=d.rows++[v],spent:=d.spent+aN*n,fz:=fs++[{ f with rows:=f.rows++[.leaf r] }] }:=by
  refine h.go (d':={ d with rows:=d.rows++[v],spent:=d.spent+aN*n,fz:=fs++[{ f with rows:=f.rows++[.leaf r] }] }) go ⟨hS,hR,hO,?_,?_⟩ ⟨nd,h.ok.mks,h.ok.ml,h.ok.bs,λx hx=>?_,?_,?_,λx hx=>?_,?_,⟨by show 0<=d.spent+aN*n;omega,.inl fit⟩,?_,⟨h.ok.dp.1,oM.app di.1 (o9 di.2.1 (by unfold dT;rw[Lp]at fl;omega)) di.2.2⟩⟩ (go.same _ _ h.hm) (by rw[lr];exact rows)
  ·have m:=n4 d.a0 Ku;rw[qM m.1 m.2.1];exact h.dy.h0
  ·dsimp only[Gd.b];rw[eas,oQ,oR (jd _ _)];refine Ot ?_ (Paired.yT pu λx hx y e=>?_)
   ·rw[qM T.nS T.nR,T.fr,et,er,eh,ef];rfl
   have m:=n4 x (um x hx);rw[qM m.1 m.2.1];exact e
  ·rcases Kz.mp hx with hx|hx
   ·exact h.ok.fz x (by rw[ez];simp[hx])
   rw[Ky.mp hx];exact⟨F.bk,F.l0,F.r0,ni F.rows ⟨ok,Lh⟩,F.fst,F.lp,F.fc,F.rank⟩
  ·dsimp only;rw[KC];exact fl
  ·exact lF.app hh.inv.1 hh.inv.2
  ·rcases Kz.mp hx with hx|hx
   ·exact h.ok.h36 x (by rw[ez];simp[hx])
   rw[Ky.mp hx];exact f36
  ·have p:=h.ok.pay;rw[ez,eF]at p;dsimp only;rw[eF];dsimp only;rw[mS];simp only[cB,nB];have e2:=hh.inv.2;rw[eh,e2]at ht⊢;omega
  rw[lr,len];dsimp only;rw[ez,KC]at m3;rw[KC];simp only[Lp]at m3⊢;omega
 refine⟨{ d with rows:=d.rows++[v],spent:=d.spent+aN*n,fz:=fs++[{ f with rows:=f.rows++[.leaf r] }] },rfl,B,?_⟩
 rw[lr,len]
 dsimp only
 rw[ez,KC,KC]
 simp only[Lp]
 omega
end
section
variable{P:Program}{w:NW}{K:NO}{mg:Str->Option NK}{base:Oi}{A:Adr}{g:Gc}{d:Gd}{H:Hp}
seal PE PA PS PSs PT PW
theorem BAt.mark(h:BAt g H d){D:NL}{ms:List Nat}(hD:H D=T9 (.lst (nV g.N ms)))(nM:D∉d.M g)(sub:∀m∈ms,m∈d.marks)(len:ms.length<=d.marks.length):BAt g (upd H g.S (.dK (stK g { d with lm:=D,marks:=ms }))) { d with lm:=D,marks:=ms }:=by
 obtain⟨n1,n2,n3,n4⟩:=ku h.ok.nd;have go:Go (d.M g) H (d.M g) (upd H g.S (.dK (stK g { d with lm:=D,marks:=ms }))):=Go.at (inS g d) _;have ml:=h.ok.ml;refine h.go (d':={ d with lm:=D,marks:=ms }) go ⟨aj,ag n1.symm h.dy.hR,ag n2.symm h.dy.hO,ag (n4 _ Ku).1 h.dy.h0,Paired.yT h.dy.hf λx hx y e=>ag (n4 x (Kw _ hx)).1 e⟩ ⟨h.ok.nd,λm hm=>h.ok.mks m (sub m hm),by show ms.length<=2;omega,h.ok.bs,h.ok.fz,h.ok.fl,h.ok.hf,h.ok.h36,h.ok.pay,h.ok.sp,h.ok.rl,h.ok.dp⟩ ?_ (Paired.cS h.hr λ_ _=>bS.same go.same);exact aK nM (ag (λz:D=g.S=>nM (by rw[z];exact inS g d)) hD)
noncomputable def CY(g:Gc)(d:Gd)(H:Hp)(Q:VK)(u:V):Prop:=∀(d':Gd)(H':Hp),Go (d.M g) H (d'.M g) H'->BAt g H' d'->mu g d'<=mu g d+3->Q u H'
theorem BAt.free(h:BAt g H d){x:NL}(e:H x=Ua):x∉d.M g:=λm=>h.al x m e
theorem BAt.new(h:BAt g H d){H':Hp}(z:aq H H'){x:NL}{o:HO}(e:H x=Ua)(e':H' x=T9 o):del (d.M g) H' x=T9 o:=aK (h.free e) e'
inductive zC(K:NO)(vs:List V)(H:Hp)(Q:VK)(Z:XK):Prop
 |mk(g:Gc)(d:Gd)(c:Int)(lo:Bool):vs=[.ref g.S,.int c,.bl lo]->j9 g->BAt g H d->mu g d+3<=1000->(∀H',aq H H'->Q (.bl false) H')->CY g d H Q (.bl true)->zC K vs H Q Z
theorem Gf(T:Txt K mg A):T.qL.Hz P w base 4 (zC K):=by
 refine T.qL.hs (k:=3) gu (λf cdv A' outer s H vs Q E hr hu h=>?_);obtain⟨g,d,c,lo,rfl,O,B,m3,q1,q2⟩:=h;obtain⟨a,at_,rank,aN,fc,T1⟩:=B.top O;have vb:∀j∈g.vk,j<25:=λj hj=>(O.vb j hj).1;have mv:∀m∈d.marks,m∈g.vk/\m∈[11,12]:=λm hm=>⟨O.cv m (Dp.1 m (B.ok.mks m hm)),B.ok.mks m hm⟩;have ml:=B.ok.ml;refine⟨_,(ae (pst 3 gu.nd (ar (uI T) hr (fv 0^px hu (fv 0) ao^fv 2^px hu (px hu (px hu (fv 0) ao) (jq fw ab)) ao^ab^af)))
 (ae (aL (ptc (aZ hu) (pcB cu T.cI (fv 3^af)) ab)
  (ah (aB gU))
  aC)
 (ae (pst 4 gu.nd (px hu (fv 3) (ar (mB T) hr (fv 1^ab^pcB cu T.cI (fv 3^af)^af))))
 (ae (pst 5 gu.nd (ar (uI T) hr (fv 0^px hu (fv 0) ao^fv 2^px hu (px hu (fv 0) ao) (fv 4)^ab^af)))
 (ae (pst 6 gu.nd (px hu (fv 5) (ar (mB T) hr (fv 1^ab^pcB cu T.cI (fv 5^af)^af))))
 (ae (aL (bN (ar (xY T) hr (fv 0^bp (ao^fv 6^ar (u6 T) hr (fv 0^fv 1^ab^af)^fv 4^af)^ab^af)) (λ_=>rfl))
  (ah (bo (jo (N:=["_law_one","_law_mark"]) (own:=1) (fr:=[4]) (cJ.of (by kernel_rfl!)) rfl (cA (px hu (fv 0) ao)) (λb=>pgn (i:=0) (show OS (["_law_one","_law_mark"]:List OY) by decide+kernel) rfl) (λb=>ox (ptc (uX hu) (fv 0) (fv 1))) (λb=>fv 0)) (bz (fv 0) ao (bu hu Uc))))
  aC)
 (ah (aB gU)))))))),?_⟩
 refine dgk B.dy.hS rfl (dgk B.dy.hS rfl ⟨_,rfl,(lix (SqL.of B.dy.hO) T1.last (dgk T1.fr rfl ⟨g,d,d.lm,lo,rank,2,d.marks,rfl,O,B,SqL.of (aA _ _ B.hm),(λi hi=>(mv i hi).1),(),λD ys H1 s1 hD eD F=>?_⟩))⟩);have B1:=B.same s1;have e:(((nV g.N ys).length:Nat):Int)=(ys.length:Int):=by rw[Kx]
 try dsimp only
 refine ak λM1 K1=>lnl eD ⟨rfl,_,rfl,aV (λ_=>q1 _ s1) (λz=>?_)⟩;have y0:0<ys.length:=by
  rw[qi,decide_eq_true_iff,e]at z;omega
 refine K1 _ _ ?_;try dsimp only
 refine ak λM2 K2=>lnl eD ⟨c,5,_,rfl,∅,(by rw[e];omega),λk1 H2 a0 a1 s2=>?_⟩;rw[e]at a1;obtain⟨mk,hmk,_,ha⟩:=mF (λi=>V.str (g.N i)) a0 a1;refine lix (SqL.of (s2 _ _ eD)) ha (K2 _ _ ?_);have B2:=B1.same s2;have mkm:=F.sub mk hmk;have mkv:=(mv mk mkm).1;try dsimp only
 refine ak λM3 K3=>dgk B2.dy.hS rfl (dgk B2.dy.hS rfl ⟨_,eJ O.D (.inl (aA _ _ B2.st.hv)) vb mkv,⟨g,d,g.LT,lo,g.vw mk,2,g.tg,rfl,O,B2,SqL.of (aA _ _ B2.st.ht),O.tv,by have:=O.tl;omega,λD3 zs H3 s3 hD3 eD3 F3=>K3 _ _ ?_⟩⟩);have e3:(((nV g.N zs).length:Nat):Int)=(zs.length:Int):=by rw[Kx]
 have z9:9∈zs:=F3.has 9 O.t9 (by rw[O.v9];exact(O.vb mk mkv).2.2) (by rw[O.v9];decide);have z0:0<zs.length:=MV.mpr λe=>by rw[e]at z9;cases z9
 have B3:=B2.same s3;try dsimp only
 refine ak λM4 K4=>lnl eD3 ⟨c,0,_,rfl,∅,(by rw[e3];omega),λk2 H4 b0 b1 s4=>?_⟩;rw[e3]at b1;obtain⟨x,hx,_,hax⟩:=mF (λi=>V.str (g.N i)) b0 b1;refine lix (SqL.of (s4 _ _ eD3)) hax (K4 _ _ ?_);have B4:=B3.same s4;have t4:=((s1.trans s2).trans s3).trans s4;have xt:=F3.sub x hx;try dsimp only
 refine ak λM5 K5=>⟨g,d,c,2,rfl,O,B4,λp val H5 s5 hp ep hv=>?_⟩;have B5:=B4.same s5;refine⟨by show 4<=sizeLine;decide,λr hr'=>?_⟩;have s6:=aq.upd hr' (HO.tup [V.str "say",.str (g.N x),.ref p,.str (g.N mk)]);have e6:upd H5 r (HO.tup [V.str "say",.str (g.N x),.ref p,.str (g.N mk)]) r=T9 (.tup [V.str "say",.str (g.N x),.ref p,.str (g.N mk)]):=aj;generalize upd H5 r (HO.tup [V.str "say",.str (g.N x),.ref p,.str (g.N mk)])=H6 at s6 e6⊢;have B6:=B5.same s6;have t6:=(t4.trans s5).trans s6;have T6:lJ g d H6 a at_ rank aN fc:=⟨T1.last,t6 _ _ T1.fr,T1.mem,T1.nS,T1.nR,T1.nO,T1.rk,T1.hf,T1.hb⟩;have hrow:bS g.N (del (d.M g) H6) (.ref r) (.say x val mk):=⟨r,p,rfl,B5.new s6 hr' e6,λo ho=>by
  cases ho;exact B4.new (s5.trans s6) hp (s6 _ _ ep)⟩
 have go6:Go (d.M g) H (d.M g) H6:=Go.new t6;have rl:d.rows.length<=1000:=by
  have:=NV B6.hr;unfold mu at m3;omega
 refine⟨g,d,.ref r,1,a,at_,rank,aN,fc,rfl,B6.dy,B6.ok.nd,rl,T6,⟨false,rfl,ba (K5 _ _ (q2 d H6 go6 B6 ()))⟩,λfit=>⟨true,rfl,eI ?_⟩⟩;obtain⟨d7,M7,B7,mu7⟩:=B6.add O T6 hrow (show x∈g.tg/\val.ok g.ns/\mk∈[11,12]from⟨xt,hv,(mv mk mkm).2⟩) (show(1:Int)<=1 from Lc _) ∅ fit m3;have go7:Go (d.M g) H (d7.M g) (kP H6 g d (.ref r) 1 aN):=by
  rw[M7];exact go6.trans oU
 generalize kP H6 g d (.ref r) 1 aN=H7 at B7 go7⊢;have hm7:=aA _ _ B7.hm;have ml7:=B7.ok.ml;refine dgk B7.dy.hS rfl (KG ⟨⟨_,SqL.of hm7⟩,fU (K:=K) (λv=>!decide (v=.str (g.N mk))) (λx=>x) (SqL.of hm7) (ax (by rw[Kx];omega)) (λb' x H2 R hm s2 k=>?_) (λb' x H2 R hm hp s2 k=>k _ (aq.refl _)) (λD8 H8 hD8 s8 e8=>?_)⟩)
 ·obtain⟨i,_,rfl⟩:=KS.mp hm;exact⟨rfl,_,rfl,k _ (aq.refl _)⟩
 rw[MO,Nr]at e8;have B8:=B7.same s8;refine⟨_,cY.k (k:=.inr "marks") B8.dy.hS (show 12<sizeLine by decide),K5 _ _ ?_⟩;have B9:=B8.mark e8 (B7.free hD8) (λm hm=>(LJ.mp hm).1) (Mb _ _);exact q2 { d7 with lm:=D8,marks:=d7.marks.filter ((λv=>!decide (v=V.str (g.N mk)))∘λi=>V.str (g.N i)) } _ (go7.trans ((Go.new s8).trans (Go.at (inS g d7) _))) B9 mu7
noncomputable def b01(b:Bool):Int:=if b=true then 1 else 0
theorem Je(x y:V)(b:Bool):atI [x,y] (b01 b)=T9 (if b=true then y else x):=by cases b<;>rfl
theorem lJ.same{a:NL}{at_:Nat}{rank aN:Int}{fc:Bool}{H':Hp}(T:lJ g d H a at_ rank aN fc)(s:aq H H'):lJ g d H' a at_ rank aN fc:=⟨T.last,s _ _ T.fr,T.mem,T.nS,T.nR,T.nO,T.rk,T.hf,T.hb⟩
theorem wR(O:j9 g){H':Hp}{r:Lr}{v:V}{n:Int}{Q:VK}{a:NL}{at_:Nat}{rank aN:Int}{fc:Bool}(B:BAt g H' d)(go:Go (d.M g) H (d.M g) H')(m3:mu g d+3<=1000)(T1:lJ g d H' a at_ rank aN fc)(hv:bS g.N (del (d.M g) H') v r)(ok:r.ok g.ns g.tg g.dd)(c:tj g.dd r<=n)(n0:0<=n)
  (q1:Q (.bl false) H') (q2:∀d',d'.M g=d.M g->BAt g (kP H' g d v n aN) d'->mu g d'<=mu g d+3->Q (.bl true) (kP H' g d v n aN)):vB [.ref g.S,v,.int n] H' Q E0:=by
 have rl:d.rows.length<=1000:=by
  have:=NV B.hr;unfold mu at m3;omega
 refine⟨g,d,v,n,a,at_,rank,aN,fc,rfl,B.dy,B.ok.nd,rl,T1,q1,λfit=>?_⟩
 obtain⟨d',M',B',mu'⟩:=B.add O T1 hv ok c n0 fit m3
 exact q2 d' M' B' mu'
inductive oY(K:NO)(vs:List V)(H:Hp)(Q:VK)(Z:XK):Prop
 |mk(g:Gc)(d:Gd)(c k:Int)(lo:Bool):vs=[.ref g.S,.int c,.int k,.bl lo]->j9 g->BAt g H d->mu g d+3<=1000->CY g d H Q .non->oY K vs H Q Z
theorem qx(T:Txt K mg A):T.pA.Hz P w base 5 (oY K):=by
 refine T.pA.hs (k:=4) cx (λf cdv A' outer s H vs Q E hr hu h=>?_);obtain⟨g,d,c,k,lo,rfl,O,B,m3,q⟩:=h;obtain⟨a,at_,rank,aN,fc,T1⟩:=B.top O;have vb:∀j∈g.vk,j<25:=λj hj=>(O.vb j hj).1;refine⟨_,(ae (pst 4 cx.nd (px hu (px hu (px hu (fv 0) ao) (jq fw ab)) ao))
 (ae (aL (PW.pt (pw_and (ptc (aZ hu) (fv 2) ab) (pw_and1 (bN (ar (Gf T) hr (fv 0^fv 1^fv 3^af)) (λ_=>rfl)))))
  (ah (vX))
  aC)
 (ae (pst 5 cx.nd (px hu (bA (ao^ao^af)) (pcT nY T.mG ((pec (BN hu) (fv 2) (bp (ab^ab^af)) ((by with_unfolding_all rfl)))^af))))
 (ae (pst 6 cx.nd (ar (uI T) hr (fv 0^(px hu (bA (px hu (fv 0) ao^px hu (fv 0) ao^af)) (pcT nY T.mG ((pec (BN hu) (fv 2) (bp (ab^ab^af)) ((by with_unfolding_all rfl)))^af)))^fv 3^fv 4^ab^af)))
 (ae (pst 7 cx.nd (px hu (fv 6) (ar (mB T) hr (fv 1^ab^pcB cu T.cI (fv 6^af)^af))))
 (ae (aL (PW.pt (pw_and (ptc (aZ hu) (fv 2) ab) (pw_and1 (PW.pt (pw_or (bN (fv 3) (λ_=>rfl)) (pw_or1 (ptc JI (px hu (px hu (fv 0) ao) (px hu (px hu (fv 0) ao) ab)) (fv 4))))))))
  (ae (pst 5 cx.nd ao)
  (ah (pst 7 cx.nd (px hu (px hu (fv 0) ao) ab))))
  aC)
 (ae (pst 8 cx.nd (px hu (bA (px hu (px hu (fv 0) ao) (fv 7)^ab^af)) (pcT nY T.mG (fv 3^af))))
 (ae (pst 9 cx.nd (bp (fv 5^fv 7^ar (u6 T) hr (fv 0^fv 1^fv 8^af)^af)))
 (ae (aL (ptc (aZ hu) (fv 5) ao)
  (ah (pst 9 cx.nd (bp (fv 5^fv 7^ar (pj T) hr (fv 0^fv 1^ab^fv 8^af)^px hu (fv 9) ab^af))))
  aC)
 (ah (aI (ar (xY T) hr (fv 0^fv 9^ab^af))))))))))))),?_⟩
 refine dgk B.dy.hS rfl ⟨_,rfl,(lix (SqL.of B.dy.hO) T1.last (dgk T1.fr rfl ?_))⟩;try dsimp only
 refine ak λM1 K1=>?_;have main:∀H1,aq H H1->M1 [T9 (.ref g.S),T9 (.int c),T9 (.int k),T9 (.bl lo),T9 (.int rank),Ua,Ua,Ua,Ua,Ua] H1:=λH1 s1=>K1 _ _ (by
  have B1:=B.same s1;obtain⟨b,hb⟩:∃b:Bool,inV (.int k) [.int 5,.int 6]=b:=⟨_,rfl⟩;refine ak λM2 K2=>⟨by show 2<=sizeLine;decide,λl hl=>?_⟩;obtain⟨s2,e2⟩:=alc hl (HO.lst [V.str "set",.str "send"]);generalize upd H1 l _=H2 at s2 e2⊢;refine⟨by show 2<=sizeLine;decide,λt ht=>?_⟩;obtain⟨s3,e3⟩:=alc ht (HO.tup [V.int 5,.int 6]);generalize upd H2 t _=H3 at s3 e3⊢;refine KG ⟨_,Lg (SqT.of e3),rfl,rfl,_,rfl,(lix (SqL.of (s3 _ _ e2)) ((congrArg (λz=>atI [V.str "set",.str "send"] (b01 z)) hb).trans (Je _ _ b)) (K2 _ _ ?_))⟩;have B3:=(B1.same s2).same s3;have t3:=(s1.trans s2).trans s3;clear s2 s3 e2 e3 hl ht B1 s1;try dsimp only
  refine ak λM3 K3=>dgk B3.dy.hS rfl (dgk B3.dy.hS rfl ⟨by show 2<=sizeLine;decide,λl hl=>?_⟩);obtain⟨s4,e4⟩:=alc hl (HO.lst [V.ref g.LT,.ref g.LH]);generalize upd H3 l _=H4 at s4 e4⊢;refine⟨by show 2<=sizeLine;decide,λt ht=>?_⟩;obtain⟨s5,e5⟩:=alc ht (HO.tup [V.int 5,.int 6]);generalize upd H4 t _=H5 at s5 e5⊢;refine KG ⟨_,Lg (SqT.of e5),rfl,rfl,_,rfl,(lix (SqL.of (s5 _ _ e4)) ((congrArg (λz=>atI [V.ref g.LT,.ref g.LH] (b01 z)) hb).trans (Je _ _ b)) ?_)⟩;have B5:=(B3.same s4).same s5;have t5:=(t3.trans s4).trans s5;have lt:∃(l':NL)(xs:List Nat),(if b=true then V.ref g.LH else V.ref g.LT)=.ref l'/\SqL K H5 l' (nV g.N xs)/\(∀i∈xs,i∈g.vk)/\xs.length<=1000/\(∃i∈xs,g.vw i=2)/\∀i∈xs,if b=true then i∈[0,1,2]else i∈g.tg:=by
   cases b with
   |true=>exact⟨g.LH,[0,1,2],rfl,SqL.of (aA _ _ B5.st.hh),λi hi=>O.cv i (Dp.2.2 i hi),∅,⟨2,∅,O.v2⟩,λi hi=>hi⟩
   |false=>exact⟨g.LT,g.tg,rfl,SqL.of (aA _ _ B5.st.ht),O.tv,by have:=O.tl;omega,⟨9,O.t9,O.v9⟩,λi hi=>hi⟩
  obtain⟨l',xs,el,hl',xv,xl,⟨i2,hi2,v2⟩,xok⟩:=lt;rw[el];refine⟨g,d,l',lo,rank,2,xs,rfl,O,B5,hl',xv,xl,λD ys H6 s6 hD eD F=>K3 _ _ ?_⟩;have B6:=B5.same s6;have t6:=t5.trans s6;have e:(((nV g.N ys).length:Nat):Int)=(ys.length:Int):=by rw[Kx]
  have y2:i2∈ys:=F.has i2 hi2 (by rw[v2];exact T1.rk.2) (by rw[v2];decide);have y0:0<ys.length:=MV.mpr λe=>by rw[e]at y2;cases y2
  clear s4 s5 e4 e5 hl ht B3 B5 t3 t5 el hl';try dsimp only
  refine ak λM4 K4=>lnl eD ⟨c,0,_,rfl,∅,(by rw[e];omega),λk2 H7 b0 b1 s7=>?_⟩;rw[e]at b1;obtain⟨x,hx,_,hax⟩:=mF (λi=>V.str (g.N i)) b0 b1;refine lix (SqL.of (s7 _ _ eD)) hax (K4 _ _ ?_);have B7:=B6.same s7;have t7:=t6.trans s7;have xo:=xok x (F.sub x hx);have xv':=xv x (F.sub x hx);try dsimp only
  refine ak λM5 K5=>?_;have fin:∀(wd:Str)(y:Nat),y∈g.vk->(wd="put"/\y=10\/wd=(if b=true then("send":Str)else "set")/\y=x)->M5 [T9 (.ref g.S),T9 (.int c),T9 (.int k),T9 (.bl lo),T9 (.int rank),T9 (.str wd),T9 (.ref D),T9 (.str (g.N y)),Ua,Ua] H7:=λwd y yv hw=>K5 _ _ (by
   refine ak λM6 K6=>dgk B7.dy.hS rfl ⟨_,eJ O.D (.inl (aA _ _ B7.st.hv)) vb yv,by show 2<=sizeLine;decide,λl hl=>?_⟩;obtain⟨s8,e8⟩:=alc hl (HO.lst [V.int (g.vw y),.int 2]);generalize upd H7 l _=H8 at s8 e8⊢;have ehi:∃hi:Int,atI [V.int (g.vw y),.int 2] (b01 lo)=T9 (.int hi):=by cases lo<;>exact⟨_,rfl⟩
   obtain⟨hi,ehi⟩:=ehi;refine⟨_,rfl,(lix (SqL.of e8) ehi (K6 _ _ ?_))⟩;have B8:=B7.same s8;have t8:=t7.trans s8;try dsimp only
   refine ak λM7 K7=>⟨g,d,c,hi,rfl,O,B8,λp val H9 s9 hp ep hv=>?_⟩;have B9:=B8.same s9;refine⟨by show 3<=sizeLine;decide,λr hr'=>?_⟩;have s10:=aq.upd hr' (HO.tup [V.str wd,.str (g.N y),.ref p]);have e10:upd H9 r (HO.tup [V.str wd,.str (g.N y),.ref p]) r=T9 (.tup [V.str wd,.str (g.N y),.ref p]):=aj;generalize upd H9 r (HO.tup [V.str wd,.str (g.N y),.ref p])=H10 at s10 e10⊢;have B10:=B9.same s10;have t10:=(t8.trans s9).trans s10;have pp:∀{Hz:Hp},aq H10 Hz->del (d.M g) Hz p=T9 (.tup (vV g.N val)):=λz=>B8.new ((s9.trans s10).trans z) hp ((s10.trans z) _ _ ep);refine K7 _ _ ?_;try dsimp only
   refine ak λM8 K8=>?_;have last:∀(H11:Hp)(r':NL)(lr:Lr),aq H10 H11->bS g.N (del (d.M g) H11) (.ref r') lr->lr.ok g.ns g.tg g.dd->tj g.dd lr<=1->M8 [T9 (.ref g.S),T9 (.int c),T9 (.int k),T9 (.bl lo),T9 (.int rank),T9 (.str wd),T9 (.ref D),T9 (.str (g.N y)),T9 (.int hi),T9 (.ref r')] H11:=λH11 r' lr s11 hlr ok cs=>K8 _ _ (by
    have t11:=t10.trans s11;have go:=Go.new (M:=d.M g) t11;refine wR (Q:=λ_ H'=>Q .non H') O (H:=H) (B10.same s11) go m3 (T1.same t11) hlr ok cs ∅ (q d H11 go (B10.same s11) ()) λd' M' B' mu'=>?_;exact q d' _ (by rw[M'];exact go.trans oU) B' mu')
   refine⟨rfl,_,rfl,aV (λz=>?_) (λz=>?_)⟩
   ·rw[Ja,decide_eq_true_iff]at z;refine⟨g,d,c,5,hi,rfl,O,B10,∅,λth H11 s11 hth=>KG ⟨_,_,Lg (SqT.of (s11 _ _ e10)),rfl,by show 4<=sizeLine;decide,λr2 hr2=>?_⟩⟩;have y10:y=10:=by
     rcases hw with⟨_,z2⟩|⟨z2,_⟩
     ·exact z2
     rw[z]at z2;cases b
     ·exact absurd z2 ∅
     exact absurd z2 ∅
    have s12:=aq.upd hr2 (HO.tup [V.str wd,.str (g.N y),th.v g.N,.ref p]);refine last _ r2 (.put y th val) (s11.trans s12) ⟨r2,p,rfl,(B10.same s11).new s12 hr2 ?_,λo ho=>by cases ho;exact pp (s11.trans s12)⟩ ⟨y10,hth,hv⟩ (Lc _);rw[aj,z];rfl
   rw[Ja,decide_eq_true_iff]at z;rcases hw with⟨z2,_⟩|⟨z2,zy⟩
   ·exact absurd z2 z
   have hr10:del (d.M g) H10 r=T9 (.tup [V.str wd,.str (g.N y),.ref p]):=B9.new s10 hr' e10;rw[z2]at hr10;subst zy;cases b with
   |true=>exact last H10 r (.snd y val) (aq.refl _) ⟨r,p,rfl,hr10,λo ho=>by cases ho;exact pp (aq.refl _)⟩ ⟨xo,hv⟩ (Lc _)
   |false=>exact last H10 r (.set y val) (aq.refl _) ⟨r,p,rfl,hr10,λo ho=>by cases ho;exact pp (aq.refl _)⟩ ⟨xo,hv⟩ (Lc _))
  have same:=fin (if b=true then("send":Str)else "set") x xv' (.inr ⟨rfl,rfl⟩);have eqw:(if b=true then V.str "send" else V.str "set")=V.str (if b=true then("send":Str)else "set"):=by cases b<;>rfl
  rw[eqw];have hl7:=SqL.of (K:=K) (aA _ _ B7.st.hl);have put:=fin "put" 10 (O.cv 10 ∅) (.inl ⟨rfl,rfl⟩);refine⟨rfl,_,rfl,aV (λ_=>?_) (λ_=>ba same)⟩;cases lo with
  |true=>exact⟨true,rfl,eI (eI (dgk B7.dy.hS rfl (lix hl7 rfl put)))⟩
  |false=>
   refine⟨false,rfl,ba (dgk B7.dy.hS rfl (dgk B7.dy.hS rfl (lix hl7 rfl ⟨_,eJ O.D (.inl (aA _ _ B7.st.hv)) vb (O.cv 10 ∅),_,rfl,aV (λ_=>?_) (λ_=>same)⟩)))⟩;exact(dgk B7.dy.hS rfl (lix hl7 rfl put)))
 refine⟨rfl,_,rfl,aV (λ_=>?_) (λ_=>ba (main _ (aq.refl _)))⟩;refine⟨g,d,c,lo,rfl,O,B,m3,λH1 s1=>⟨false,rfl,ba (main H1 s1)⟩,λd' H' go B' mu'=>⟨true,rfl,eI (q d' H' go B' mu')⟩⟩
end
section
variable{P:Program}{w:NW}{K:NO}{mg:Str->Option NK}{base:Oi}{A:Adr}{g:Gc}{d:Gd}{H:Hp}
noncomputable def kx(H:Hp)(g:Gc)(d:Gd)(v:V)(sp:Int)(F:NL)(rank aN:Int):Hp:=upd (upd (upd (upd H g.S (.dK (stK g { d with spent:=sp }))) g.LR (.lst (d.rows++[v]))) F (.dK (frK d.rows.length rank aN true))) d.lo (.lst (.ref d.a0::d.as.map V.ref++[.ref F]))
theorem BAt.IP(h:BAt g H d){v:V}{bk:Bk}{l r rank sp:Int}{F:NL}(hF:H F=Ua)(hv:bS g.N (del (d.M g) H) v (bk.lr l r))(ok:Gu g.ns bk)(l0:0<=l)(r0:0<=r)(rk:0<=rank/\rank<=2)(fl:d.fz.length<=2)(h12:cQ 1 d.fz<=12)(h1:1<=cQ 1 d.fz)(esp:sp=d.spent+cQ 1 d.fz*(1+bk.m*(l+r)))(lim:sp<=g.lim)(m3:mu g d+3<=1000) :
  ∃d':Gd,Go (d.M g) H (d'.M g) (kx H g d v sp F rank (cQ 1 d.fz*bk.m))/\BAt g (kx H g d v sp F rank (cQ 1 d.fz*bk.m)) d'/\mu g d'<=mu g d+3:=by
 obtain⟨n1,n2,n3,n4⟩:=ku h.ok.nd
 have FM:=h.free hF
 have FS:F≠g.S:=λz=>FM (by rw[z];exact inS g d)
 have FR:F≠g.LR:=λz=>FM (by rw[z];exact inR g d)
 have FO:F≠d.lo:=λz=>FM (by rw[z];exact inO g d)
 have F0:F≠d.a0:=λz=>FM (by rw[z];exact in0 g d)
 have FA:∀x∈d.as,x≠F:=λx hx z=>FM (by rw[<-z];exact inA g d hx)
 have m1:1<=bk.m/\bk.m<=3:=by
  cases bk with
  |iff v=>exact⟨(show(1:Int)<=1 by decide),(show(1:Int)<=3 by decide)⟩
  |loop t m=>exact⟨ok.2.1,ok.2.2⟩
 generalize hh:cQ 1 d.fz=ht at *
 have hm1:1<=ht*bk.m/\ht*bk.m<=36:=by
  have a1:ht*1<=ht*bk.m:=Li m1.1 ();have a2:ht*bk.m<=ht*3:=Li m1.2 ();omega
 have p0:0<=ht*(1+bk.m*(l+r)):=Lo () (by have:=Lo (show 0<=bk.m by omega) (show 0<=l+r by omega);omega)
 obtain⟨f,hf⟩:∃f:Fz,f=⟨bk,l,r,Ua,[],rank,ht*bk.m,true⟩:=⟨_,rfl⟩
 obtain⟨d',hd'⟩:∃d':Gd,d'={ d with rows:=d.rows++[v],spent:=sp,as:=d.as++[F],fz:=d.fz++[f] }:=⟨_,rfl⟩
 have ff:bD [f]=[bk.lr l r]:=by rw[hf];rfl
 have lr:d'.lrs g=d.lrs g++[bk.lr l r]:=by
  rw[hd'];unfold Gd.lrs;dsimp only;rw[d6,ff,Le,Le,Le]
 have rl:=NV h.hr
 have lb:d.b g+(bD d.fz).length=d.rows.length:=by
  rw[rl];unfold Gd.b Gd.lrs;rw[KC (as:=g.pre++aX d.bs)]
 have Mm:∀a∈d'.M g,a∈d.M g\/a=F:=λa m=>by
  rw[hd']at m;unfold Gd.M at m⊢;simp only[Kt,Kz,Ky,KH,or_false]at m⊢;rcases m with m|m|m|m|m|m
  ·exact .inl (.inl m)
  ·exact .inl (.inr (.inl m))
  ·exact .inl (.inr (.inr (.inl m)))
  ·exact .inl (.inr (.inr (.inr (.inl m))))
  ·exact .inl (.inr (.inr (.inr (.inr m))))
  exact .inr m
 have go:Go (d.M g) H (d'.M g) (kx H g d v sp F rank (ht*bk.m)):=⟨λa o m e=>by
  unfold kx;have aF:a≠F:=λz=>by rw[z,hF]at e;cases e
  rw[ay (λz=>m (by rw[z];exact inO g d)),ay aF,ay (λz=>m (by rw[z];exact inR g d)),ay (λz=>m (by rw[z];exact inS g d))];exact e,λa m=>by
  rcases Mm a m with z|z
  ·exact .inl z
  exact .inr (by rw[z];exact hF)⟩
 have oth:∀x,x≠g.S->x≠g.LR->x≠F->x≠d.lo->kx H g d v sp F rank (ht*bk.m) x=H x:=λx h1 h2 h3 h4=>by
  unfold kx;rw[ay h4,ay h3,ay h2,ay h1]
 have B:BAt g (kx H g d v sp F rank (ht*bk.m)) d':=by
  refine h.go go ?_ ?_ ?_ ?_
  ·rw[hd'];refine⟨?_,?_,?_,?_,?_⟩
   ·unfold kx;rw[ay n2,ay FS.symm,ay n1,aj];rfl
   ·unfold kx;rw[ay n3,ay FR.symm,aj]
   ·unfold kx;rw[aj,KZ];rfl
   ·have m:=n4 d.a0 Ku;rw[oth d.a0 m.1 m.2.1 F0.symm m.2.2];exact h.dy.h0
   dsimp only[Gd.b];rw[oQ,oR (jd _ _)];refine Ot ?_ (Paired.yT h.dy.hf λx hx y e=>?_)
   ·unfold kx;rw[ay FO,aj];have:(g.pre++aX d.bs).length+(bD d.fz).length=d.rows.length:=lb;rw[this,hf];rfl
   have m:=n4 x (Kw _ hx);rw[oth x m.1 m.2.1 (FA x hx) m.2.2];exact e
  ·rw[hd']at lr⊢;have fl3:(d.fz++[f]).length=d.fz.length+1:=by simp
   have sp0:=h.ok.sp.1;refine⟨?_,h.ok.mks,h.ok.ml,h.ok.bs,λx hx=>?_,?_,lF.app h.ok.hf (by rw[hf,hh]),λx hx=>?_,?_,⟨by show 0<=sp;omega,.inl lim⟩,?_,⟨h.ok.dp.1,oM.app h.ok.dp.2 (by rw[hf];exact KW _) (λt e=>by rw[hf]at e;cases e)⟩⟩
   ·have nd:=h.ok.nd;unfold Gd.M at nd FM⊢;dsimp only;rw[show g.S::g.LR::d.lo::d.a0::(d.as++[F])=(g.S::g.LR::d.lo::d.a0::d.as)++[F]from rfl];exact Ls.mpr ⟨nd,by simp,λa ha b hb z=>by rw[Ky.mp hb]at z;exact FM (z▸ha)⟩
   ·rcases Kz.mp hx with hx|hx
    ·exact h.ok.fz x hx
    rw[Ky.mp hx,hf];exact⟨ok,l0,r0,Lh,λ_ z=>(by cases z),λ_ _ _=>rfl,⟨λ_=>rfl,λ_=>rfl⟩,rk⟩
   ·dsimp only;omega
   ·rcases Kz.mp hx with hx|hx
    ·exact h.ok.h36 x hx
    rw[Ky.mp hx,hf];exact hm1
   ·have p:=h.ok.pay;dsimp only;rw[eF,hh,hf];simp only[nE,cB];omega
   unfold mu at m3;rw[lr,KC];dsimp only;simp only[Lp];omega
  ·have e:d'.lm=d.lm:=by rw[hd']
   have e2:d'.marks=d.marks:=by rw[hd']
   rw[e,e2];exact go.same _ _ h.hm
  rw[lr];have e:d'.rows=d.rows++[v]:=by rw[hd']
  rw[e];exact Ot (hv.same go.same) (Paired.cS h.hr λ_ _=>bS.same go.same)
 refine⟨d',go,B,?_⟩
 unfold mu
 rw[lr,KC,hd']
 dsimp only
 simp only[Lp,KC]
 omega
end
section
variable{P:Program}{w:NW}{K:NO}{mg:Str->Option NK}{base:Oi}{A:Adr}{g:Gc}{d:Gd}{H:Hp}
seal PE PA PS PSs PT PW
theorem mT{H:Hp}{x:NL}{u v:HO}:upd (upd H x u) x v=upd H x v:=by
 funext z
 by_cases e:z=x
 ·rw[e,aj,aj]
 rw[ay e,ay e,ay e]
noncomputable def VOk(g:Gc)(v:V):Prop:=(∃n,v=.int n)\/∃i∈g.vk,v=.str (g.N i)
theorem VOk.th(O:j9 g){t:Th}(h:t.ok g.ns):VOk g (t.v g.N):=by
 cases t with
 |i n=>exact .inl ⟨n,rfl⟩
 |x a=>exact .inr ⟨a,O.nv a h,rfl⟩
theorem De(O:j9 g){v:Val}(h:v.ok g.ns):∃x y,atI (vV g.N v) 0=T9 x/\atI (vV g.N v) (-1)=T9 y/\VOk g x/\VOk g y:=by
 cases v with
 |one a=>exact⟨_,_,rfl,rfl,.th O h,.th O h⟩
 |op a w b=>exact⟨_,_,rfl,rfl,.th O h.1,.th O h.2.1⟩
 |atl x b=>exact⟨_,_,rfl,rfl,.inr ⟨x,O.cv x (Dp.2.1 x h.1),rfl⟩,.th O h.2⟩
theorem tW:∀{ys:List V},(∀y∈ys,∃n:Int,y=.int n/\0<=n/\n<=2)->∃ns:List Int,ys=ns.map V.int/\∀n∈ns,0<=n/\n<=2
 | [],_=>⟨[],rfl,λ_ h=>by cases h⟩
 |y::r,h=>by
  obtain⟨n,rfl,h0⟩:=h y Ku;obtain⟨ns,rfl,hn⟩:=tW λz hz=>h z (Kw _ hz);exact⟨n::ns,rfl,λm hm=>by
   rcases Kt.mp hm with rfl|hm
   ·exact h0
   exact hn m hm⟩
noncomputable def isS:V->Bool
 | .str _=>true
 |_=>false
inductive tB(K:NO)(vs:List V)(H:Hp)(Q:VK)(Z:XK):Prop
 |mk(g:Gc)(d:Gd)(c k:Int)(lo:Bool):vs=[.ref g.S,.int c,.int k,.bl lo]->j9 g->BAt g H d->mu g d+3<=1000->CY g d H Q .non->tB K vs H Q Z
theorem Bd(T:Txt K mg A):T.og.Hz P w base 6 (tB K):=by
 have M4:=@mB P w _ _ base _ T;refine T.og.hs (k:=5) bB (λf cdv A' outer s H vs Q E hr hu h=>?_);obtain⟨g,d,c,k,lo,rfl,O,B,m3,q⟩:=h;obtain⟨a,at_,rank,aN,fc,T1⟩:=B.top O;have vb:∀j∈g.vk,j<25:=λj hj=>(O.vb j hj).1;have rl:d.rows.length<=1000:=by
  have:=NV B.hr;unfold mu at m3;omega
 refine⟨_,(ae (pst 4 bB.nd (px hu (px hu (fv 0) ao) (jq fw ab)))
 (ae (aL (PW.pt (pw_or (ptc qq (pcB cu T.cI (px hu (fv 0) ao^af)) ab) (pw_or1 (ptc qq (px hu (fv 4) ao) ab))))
  (ae (aI (ar (qx T) hr (fv 0^fv 1^ab^fv 3^af)))
  (ah (vX)))
  aC)
 (ae (pst 5 bB.nd (pcB Bf T.sG (px hu (fv 4) ao^ar M4 hr (fv 1^ab^ab^af)^af)))
 (ae (pst 6 bB.nd (px hu (bA (fv 5^ab^af)) (pcT nY T.mG (fv 3^af))))
 (ae (pst 7 bB.nd (bp (aw dg (ar M4 hr (fv 1^ab^ab^af)) (ar M4 hr (fv 1^ab^ab^af))^aw dg (ar M4 hr (fv 1^ab^ab^af)) (ar M4 hr (fv 1^ab^ab^af))^af)))
 (ae (pst 8 bB.nd ab)
 (ae (pst 9 bB.nd (aw zP (bp (ao^ar (u6 T) hr (fv 0^fv 1^fv 6^af)^af)) (fv 7)))
 (ae (pst 10 bB.nd (bA (px hu (px hu (fv 9) ab) ab^px hu (px hu (fv 9) ab) (jq fw ab)^af)))
 (ae (aL (ptc (aZ hu) (fv 2) ab)
  (ae (pst 8 bB.nd (aw bC ab (ar M4 hr (fv 1^ab^ab^af))))
  (ae (pst 10 bB.nd (bA (ar (pj T) hr (fv 0^fv 1^ab^fv 6^af)^af)))
  (ah (pst 9 bB.nd (aw zP (bp (ao^px hu (fv 10) ab^fv 8^af)) (fv 7))))))
  aC)
 (ae (pst 11 bB.nd (pcB Gb T.sG ((aw bC (bA (fv 5^af)) (jo (N:=["_law_thing_here","_law_state"]) (own:=1) (fr:=[0]) (cJ.of (by kernel_rfl!)) rfl (cA (fv 10)) (λb=>pgn (i:=0) (show OS (["_law_thing_here","_law_state"]:List OY) by decide+kernel) rfl) (λb=>ox (bN (pcB bw T.aG (fv 0^(gX (v:=.ty "str") rfl T.xy (by boot_by_name) rfl)^af)) (λ_=>rfl))) (λb=>px hu (px hu (fv 1) ao) (fv 0))))^af)))
 (ah (aL (bN (ar (xY T) hr (fv 0^fv 9^aw bC ab (aw dg (fv 8) (pcB GP T.zH (fv 7^af)))^af)) (λ_=>rfl))
  (ae (pst 4 bB.nd (qy (cG ao (aw oT (pcB cu T.cI (px hu (fv 0) ao^af)) ab) (cG ao (fv 11) (cG ao (aw dg (px hu (fv 4) ao) (fv 8)) (cG ao gU (qz))))) rfl rfl (by intro z;cases z) ∅))
  (ah (aI (cw (px hu (fv 0) ao) (fv 4^af)))))
  aC)))))))))))),?_⟩
 refine dgk B.dy.hS rfl ⟨_,rfl,(lix (SqL.of B.dy.hO) T1.last ?_)⟩;try dsimp only
 refine ak λM1 K1=>?_;have body:oY K [.ref g.S,.int c,.int 0,.bl lo] H (λ_ H'=>Q .non H') E0:=⟨g,d,c,0,lo,rfl,O,B,m3,λd' H' go B' mu'=>q d' H' go B' mu'⟩;have la:=NV B.dy.hf;rw[MP,jd,Nx]at la;refine dgk B.dy.hS rfl (lnl B.dy.hO ⟨_,rfl,aV (λ_=>eI body) (λc1=>dgk T1.fr rfl ⟨_,rfl,aV (λ_=>body) (λc2=>K1 _ _ ?_)⟩)⟩);have f2:d.fz.length<=2:=by
  have c1:¬ (3:Int)<(((V.ref d.a0::d.as.map V.ref).length:Nat):Int):=λz=>c1 (decide_eq_true z);simp only[Lb,Kx]at c1;omega
 have h12:aN<=12:=by
  have c2:¬ (12:Int)<aN:=λz=>c2 (decide_eq_true z);omega
 clear c1 c2 body;try dsimp only
 refine ak λM2 K2=>dgk T1.fr rfl ⟨c,3,3,rfl,∅,∅,λmr H1 r0 r1 s1=>⟨_,_,rfl,K2 _ _ ?_⟩⟩;obtain⟨low,hlow⟩:∃low,low=(if mr>rank then mr else rank):=⟨_,rfl⟩;have lw:0<=low/\low<=2:=by
  have:=T1.rk;rw[hlow];split<;>omega
 rw[<-hlow];have B1:=B.same s1;try dsimp only
 refine ak λM3 K3=>⟨by show 2<=sizeLine;decide,λl hl=>?_⟩;obtain⟨s2,e2⟩:=alc hl (HO.lst [V.int low,.int 2]);generalize upd H1 l _=H2 at s2 e2⊢;obtain⟨hi,ehi⟩:∃hi:Int,atI [V.int low,.int 2] (b01 lo)=T9 (.int hi):=by cases lo<;>exact⟨_,rfl⟩
 refine⟨_,rfl,(lix (SqL.of e2) ehi (K3 _ _ ?_))⟩;have B2:=B1.same s2;try dsimp only
 refine ak λM4 K4=>⟨c,4,3,rfl,∅,∅,λi1 Ha a0 a1 sa=>⟨c,5,2,rfl,∅,∅,λi2 Hb b0 b1 sb=>⟨.inl ⟨(),()⟩,c,2,2,rfl,∅,∅,λi3 Hc c0 c1 sc=>⟨c,5,2,rfl,∅,∅,λi4 Hd d0 d1 sd=>⟨.inl ⟨(),()⟩,by show 2<=sizeLine;decide,λti hti=>K4 _ _ ?_⟩⟩⟩⟩⟩;obtain⟨l',hl'⟩:∃l',l'=i1*i2:=⟨_,rfl⟩;obtain⟨r',hr'⟩:∃r',r'=i3*i4:=⟨_,rfl⟩;have l0:0<=l':=by rw[hl'];exact Lo a0 b0
 have r0':0<=r':=by rw[hr'];exact Lo c0 d0
 rw[<-hl',<-hr'];obtain⟨s3,e3⟩:=alc hti (HO.tup [V.int l',.int r']);generalize upd Hd ti _=H3 at s3 e3⊢;have z3:aq H H3:=(s1.trans s2).trans ((((sa.trans sb).trans sc).trans sd).trans s3);have B3:=B.same z3;clear s1 s2 sa sb sc sd s3 e2 hl hti B1 B2 hlow a0 a1 b0 b1 c0 c1 d0 d1 hl' hr' r0 r1;try dsimp only
 refine ak λM5 K5=>K5 _ _ ?_;try dsimp only
 refine ak λM6 K6=>⟨g,d,c,hi,rfl,O,B3,λp val H4 s4 hp ep hv=>⟨by show 2<=sizeLine;decide,λt1 ht1=>?_⟩⟩;obtain⟨s5,e5⟩:=alc ht1 (HO.tup [V.str "if",.ref p]);generalize upd H4 t1 _=H5 at s5 e5⊢;have e35:=(s4.trans s5) _ _ e3;refine⟨t1,ti,_,_,rfl,rfl,SqT.of e5,SqT.of e35,(by intro z;cases z),(by show 4<=sizeLine;decide),(λz=>by cases z),λ_ rw' hrw=>K6 _ _ ?_⟩;obtain⟨s6,e6⟩:=alc hrw (HO.tup [V.str "if",.ref p,.int l',.int r']);change aq H5 (upd H5 rw' (HO.tup ([V.str "if",.ref p]++[V.int l',.int r'])))at s6;change upd H5 rw' (HO.tup ([V.str "if",.ref p]++[V.int l',.int r'])) rw'=_ at e6;generalize upd H5 rw' _=H6 at s6 e6⊢;obtain⟨x0,y0,ex,ey,vx,vy⟩:=De O hv;have ep6:=(s5.trans s6) _ _ ep;try dsimp only
 refine ak λM7 K7=>KG ⟨_,_,Lg (SqT.of e6),rfl,KG ⟨_,_,Lg (SqT.of ep6),ex,KG ⟨_,_,Lg (SqT.of e6),rfl,_,rfl,KG ⟨_,_,Lg (SqT.of ep6),ey,⟨by show 2<=sizeLine;decide,λls hls=>?_⟩⟩⟩⟩⟩;obtain⟨s7,e7⟩:=alc hls (HO.lst [x0,y0]);generalize upd H6 ls _=H7 at s7 e7⊢;have z4:aq H H4:=z3.trans s4;have z7:aq H H7:=((z4.trans s5).trans s6).trans s7;have B7:=B.same z7;refine K7 _ _ ?_;try dsimp only
 refine ak λM8 K8=>?_;have fin:∀(H8:Hp)(tm:Int)(bk:Bk)(rw2 ls2:NL)(vs:List V),aq H7 H8->tm=bk.m->Gu g.ns bk->1<=tm->tm<=3->bS g.N (del (d.M g) H8) (.ref rw2) (bk.lr l' r')->H8 ls2=T9 (.lst vs)->(∀v∈vs,VOk g v)->vs.length<=2->M8 [T9 (.ref g.S),T9 (.int c),T9 (.int k),T9 (.bl lo),T9 (.ref a),T9 (.int low),T9 (.int hi),T9 (.ref ti),T9 (.int tm),T9 (.ref rw2),T9 (.ref ls2),Ua] H8:=λH8 tm bk rw2 ls2 vs s8 etm bok t1' t3' hrow els vok vl=>K8 _ _ (by
  have z8:=z7.trans s8;have B8:=B.same z8;have T8:=T1.same z8;refine ak λN1 J1=>⟨by show 1<=sizeLine;decide,λl1 hl1=>?_⟩;obtain⟨s9,e9⟩:=alc hl1 (HO.lst [V.int low]);generalize upd H8 l1 _=H9 at s9 e9⊢;have els9:=s9 _ _ els;have B9:=B8.same s9;refine KG ⟨⟨_,SqL.of els9⟩,A9 (K:=K) isS (λy _=>∃n:Int,y=.int n/\0<=n/\n<=2) (SqL.of els9) (ax ()) (λb x H2 G hx s2 k=>?_) (λb x H2 G hx hp s2 k=>?_) (λ_ _ _ _ h=>h) (λ_ _ _ _ _ _ h=>h) (λD H10 ys hD s10 eD _ hy=>?_)⟩
  ·rcases vok x hx with⟨n,rfl⟩|⟨i,hi',rfl⟩
   ·exact⟨_,_,_,false,rfl,(λz=>by cases z),.int n,Cv,false,rfl,k _ (aq.refl _)⟩
   exact⟨_,_,_,true,rfl,(λz=>by cases z),.str _,BM,true,rfl,k _ (aq.refl _)⟩
  ·rcases vok x hx with⟨n,rfl⟩|⟨i,hi',rfl⟩
   ·cases hp
   have B10:=B9.same s2;exact dgk B10.dy.hS rfl ⟨_,eJ O.D (.inl (aA _ _ B10.st.hv)) vb hi',k _ _ (aq.refl _) ⟨_,rfl,(O.vb i hi').2⟩⟩
  obtain⟨ns,rfl,hns⟩:=tW hy;refine⟨l1,D,_,_,rfl,rfl,s10 _ _ e9,eD,?_,λl2 hl2=>?_⟩
  ·rename_i nl;rw[Kx]at nl⊢;exact sz (by simp;omega)
  obtain⟨s11,e11⟩:=alc hl2 (HO.lst ((low::ns).map V.int));change aq H10 (upd H10 l2 (HO.lst ([V.int low]++ns.map V.int)))at s11;change upd H10 l2 (HO.lst ([V.int low]++ns.map V.int)) l2=_ at e11;generalize upd H10 l2 _=H11 at s11 e11⊢;refine⟨l2,low::ns,rfl,SqL.of e11,(by intro z;cases z),λrk hrk _=>J1 _ _ ?_⟩;have rk2:0<=rk/\rk<=2:=by
   rcases Kt.mp hrk with rfl|hrk
   ·exact lw
   exact hns rk hrk
  have s811:=(s9.trans s10).trans s11;have z11:=z8.trans s811;have B11:=B8.same s811;have T11:=T8.same s811;have go11:Go (d.M g) H (d.M g) H11:=Go.new z11;have hrow11:bS g.N (del (d.M g) H11) (.ref rw2) (bk.lr l' r'):=hrow.same (Go.new (M:=d.M g) s811).same;try dsimp only
  refine⟨ti,[l',r'],rfl,SqT.of ((((s4.trans s5).trans s6).trans s7).trans (s8.trans s811) _ _ e3),.inl ⟨(),()⟩,?_⟩;rw[show[l',r'].sum=l'+r' by simp];refine⟨g,d,.ref rw2,1+tm*(l'+r'),a,at_,rank,aN,fc,rfl,B11.dy,B11.ok.nd,rl,T11,⟨false,rfl,ba (q d H11 go11 B11 ())⟩,λfit=>⟨true,rfl,eI ?_⟩⟩;unfold kP;obtain⟨n1,n2,n3,n4⟩:=ku B.ok.nd;obtain⟨st,hst⟩:∃st,st=stK g { d with spent:=d.spent+aN*(1+tm*(l'+r')) }:=⟨_,rfl⟩;rw[<-hst];have hS12:upd (upd H11 g.S (.dK st)) g.LR (.lst (d.rows++[.ref rw2])) g.S=T9 (.dK st):=by rw[ay n1,aj]
  have hR12:upd (upd H11 g.S (.dK st)) g.LR (.lst (d.rows++[.ref rw2])) g.LR=T9 (.lst (d.rows++[.ref rw2])):=aj;have hO12:upd (upd H11 g.S (.dK st)) g.LR (.lst (d.rows++[.ref rw2])) d.lo=T9 (.lst (.ref d.a0::d.as.map V.ref)):=by
   rw[ay n3.symm,ay n2.symm];exact B11.dy.hO
  have hF12:upd (upd H11 g.S (.dK st)) g.LR (.lst (d.rows++[.ref rw2])) a=T9 (.dK (frK at_ rank aN fc)):=by
   rw[ay T1.nR,ay T1.nS];exact T11.fr
  have gS:∀{H':Hp}(x:Str),H' g.S=T9 (.dK st)->∀v,L2.fB (stK g { d with spent:=d.spent+aN*(1+tm*(l'+r')) }) (.inr x)=T9 v->cP H' g.S (.str x) (T9 v):=λx h v e=>by
   rw[hst]at h;rw[<-e];exact cP.k (k:=.inr x) h
  generalize hH12:upd (upd H11 g.S (.dK st)) g.LR (.lst (d.rows++[.ref rw2]))=H12 at hS12 hR12 hO12 hF12⊢;try dsimp only
  refine ak λN2 J2 F hF=>?_;have FS:F≠g.S:=Ub hF hS12;have FR:F≠g.LR:=Ub hF hR12;have FO:F≠d.lo:=Ub hF hO12;have Fa:F≠a:=Ub hF hF12;refine⟨_,gS "rows" (ag FS.symm hS12) _ rfl,(lnl (ag FR.symm hR12) (dgk (ag Fa.symm hF12) rfl ⟨.inl ⟨by have:=T1.hb;omega,by have:=T1.hb;omega⟩,⟨aj,[((.inr "at":Key),.int ((((d.rows++[V.ref rw2]).length:Nat):Int)-1)),(.inr "rank",.int rk),(.inr "heft",.int (aN*tm)),(.inr "first",.bl true)],rfl,(show 4<=15 by decide),J2 _ _ ?_⟩⟩))⟩;rw[mT,show(cm [] [((.inr "at":Key),V.int ((((d.rows++[V.ref rw2]).length:Nat):Int)-1)),(.inr "rank",.int rk),(.inr "heft",.int (aN*tm)),(.inr "first",.bl true)])=frK d.rows.length rk (aN*tm) true by
   rw[show((((d.rows++[V.ref rw2]).length:Nat):Int)-1)=(d.rows.length:Int) by rw[KC];simp];rfl]
  try dsimp only
  have hO13:upd H12 F (.dK (frK d.rows.length rk (aN*tm) true)) d.lo=T9 (.lst (.ref d.a0::d.as.map V.ref)):=ag FO.symm hO12;refine⟨_,gS "open" (ag FS.symm hS12) _ rfl,KG ⟨rfl,_,SqL.of hO13⟩,_,_,_,rfl,rfl,hO13,ax (by rw[Lb,Kx];omega),?_⟩;have hFb:H11 F=Ua:=by
   rw[<-hH12]at hF;rw[ay FR,ay FS]at hF;exact hF
  have eh:=T1.hf.symm;obtain⟨d',go',B',mu'⟩:=B11.IP (v:=.ref rw2) (bk:=bk) (l:=l') (r:=r') (rank:=rk) (sp:=d.spent+aN*(1+tm*(l'+r'))) hFb hrow11 bok l0 r0' rk2 f2 (by rw[eh];exact h12) (by rw[eh];exact T1.hb.1) (by rw[eh,etm]) fit m3;have eq:kx H11 g d (.ref rw2) (d.spent+aN*(1+tm*(l'+r'))) F rk (cQ 1 d.fz*bk.m)=upd (upd H12 F (.dK (frK d.rows.length rk (aN*tm) true))) d.lo (.lst (.ref d.a0::d.as.map V.ref++[.ref F])):=by
   unfold kx;rw[eh,<-etm,<-hH12,hst]
  rw[eq]at go' B';exact q d' _ (go11.trans go') B' mu')
 have row6:bS g.N (del (d.M g) H7) (.ref rw') (Bk.lr l' r' (.iff val)):=⟨rw',p,rfl,((B.same z4).same s5).new (s6.trans s7) hrw (s7 _ _ e6),λo ho=>by
  cases ho;exact B3.new (((s4.trans s5).trans s6).trans s7) hp (s7 _ _ ep6)⟩
 have first:=fin H7 1 (.iff val) rw' ls [x0,y0] (aq.refl _) rfl hv ∅ ∅ row6 e7 (λv hv'=>by
  simp only[Kt,KH,or_false]at hv';rcases hv' with rfl|rfl
  ·exact vx
  exact vy) (KD 2)
 refine⟨rfl,_,rfl,aV (λ_=>?_) (λ_=>first)⟩;refine ak λN1 J1=>⟨c,6,3,rfl,∅,∅,λi6 Ha a0 a1 sa=>J1 _ _ ?_⟩;try dsimp only
 refine ak λN2 J2=>?_;have Ba:=B7.same sa;refine⟨g,d,c,1,hi,rfl,O,Ba,∅,λth Hb sb hth=>⟨by show 1<=sizeLine;decide,λl3 hl3=>?_⟩⟩;obtain⟨sc,ec⟩:=alc hl3 (HO.lst [th.v g.N]);generalize upd Hb l3 _=Hc at sc ec⊢;have Bc:=(Ba.same sb).same sc;refine J2 _ _ ?_;try dsimp only
 refine lix (SqL.of ec) rfl ⟨by show 3<=sizeLine;decide,λt2 ht2=>?_⟩;obtain⟨sd,ed⟩:=alc ht2 (HO.tup [V.str "loop",th.v g.N,.int (1+i6)]);generalize upd Hc t2 _=Hd at sd ed⊢;have e3d:=(((s4.trans s5).trans s6).trans s7).trans (((sa.trans sb).trans sc).trans sd) _ _ e3;refine⟨t2,ti,_,_,rfl,rfl,SqT.of ed,SqT.of e3d,(by intro z;cases z),(by show 5<=sizeLine;decide),(λz=>by cases z),λ_ rl2 hrl2=>?_⟩;have se:=aq.upd hrl2 (HO.tup ([V.str "loop",th.v g.N,.int (1+i6)]++[V.int l',.int r']));have ee:upd Hd rl2 (HO.tup ([V.str "loop",th.v g.N,.int (1+i6)]++[V.int l',.int r'])) rl2=T9 (.tup [V.str "loop",th.v g.N,.int (1+i6),.int l',.int r']):=aj;generalize upd Hd rl2 _=He at se ee⊢;refine fin He (1+i6) (.loop th (1+i6)) rl2 l3 [th.v g.N] ((((sa.trans sb).trans sc).trans sd).trans se) rfl ⟨hth,(),()⟩ () () ⟨rl2,0,rfl,(Bc.same sd).new se hrl2 ee,λo ho=>by cases ho⟩ ((sd.trans se) _ _ ec) (λv hv'=>by rw[Ky.mp hv'];exact .th O hth) (by show 1<=2;decide)
end
section
variable{P:Program}{w:NW}{K:NO}{mg:Str->Option NK}{base:Oi}{A:Adr}{g:Gc}{d:Gd}{H:Hp}
theorem Hu(dy:pU H g d)(ok:yR g d)(O:j9 g):∃a at_ rank aN fc,lJ g d H a at_ rank aN fc:=by
 obtain⟨n1,n2,n3,n4⟩:=ku ok.nd;rcases mC d.fz with e|⟨fs,f,e⟩
 ·have hf:=dy.hf;rw[e]at hf;have ha:d.as=[]:=by
   cases ha:d.as with
   |nil=>rfl
   |cons a r=>rw[ha]at hf;cases hf
  obtain⟨m1,m2,m3⟩:=n4 d.a0 Ku;exact⟨d.a0,0,g.br,1,false,⟨by rw[ha];exact kT [] _,dy.h0,in0 g d,m1,m2,m3,O.br,by rw[e];rfl,⟨∅,∅⟩⟩⟩
 obtain⟨us,a,ea,p,fa⟩:=dy.xO e;have ma:a∈d.as:=by rw[ea];simp
 obtain⟨m1,m2,m3⟩:=n4 a (Kw _ ma);have mf:f∈d.fz:=by rw[e];simp
 have F:=ok.fz f mf;have hh:=ok.hf;rw[e]at hh;refine⟨a,_,f.rank,f.aN,f.fc,⟨?_,fa,inA g d ma,m1,m2,m3,F.rank,?_,ok.h36 f mf⟩⟩
 ·rw[ea,KZ];exact kT (V.ref d.a0::us.map V.ref) _
 rw[e,pz];exact hh.inv.2
theorem DY{H':Hp}{nd:Tr}{rows':List V}(st:yB (del (d.M g) H') g)(hm:del (d.M g) H' d.lm=T9 (.lst (nV g.N d.marks)))(D1:pU H g d)(ok:yR g d){a:NL}{at_:Nat}{rank aN:Int}{fc:Bool}(T:lJ g d H a at_ rank aN fc)
  (hS:H' g.S=T9 (.dK (stK g d))) (hR:H' g.LR=T9 (.lst rows')) (hO:H' d.lo=T9 (.lst (.ref d.a0::d.as.map V.ref))) (oth:∀x∈d.a0::d.as,H' x=H x) (nok:nd.ok g.ns g.tg g.dd)
  (pay:cB g.dd 1 d.bs+mN g.dd 1 d.fz+nB g.dd (cQ 1 d.fz) nd<=d.spent) (hr:Paired (bS g.N (del (d.M g) H')) rows' (d.lrs g++flat nd)) (len:(d.lrs g++flat nd).length+2*d.fz.length<=1000) (dnd:dT nd+d.fz.length<=4) :
  ∃d':Gd,d'.M g=d.M g/\BAt g H' d'/\mu g d'=(d.lrs g++flat nd).length+2*d.fz.length/\d'.fz.length=d.fz.length:=by
 obtain⟨n1,n2,n3,n4⟩:=ku ok.nd
 obtain⟨nd1,nd2⟩:=Dm ok.nd
 rcases T.cases D1 with⟨ez,eas,ea,et,er,eh,ef⟩|⟨fs,f,us,ez,eas,pu,et,er,eh,ef⟩
 ·have lr:Gd.lrs g { d with rows:=rows',bs:=d.bs++[nd] }=d.lrs g++flat nd:=by
   unfold Gd.lrs;dsimp only;rw[ez,mV];simp[bD,aX]
  refine⟨{ d with rows:=rows',bs:=d.bs++[nd] },rfl,⟨st,hm,by rw[lr];exact hr,⟨hS,hR,hO,?_,?_⟩,⟨ok.nd,ok.mks,ok.ml,ni ok.bs ⟨nok,Lh⟩,ok.fz,ok.fl,ok.hf,ok.h36,?_,ok.sp,by rw[lr];exact len,⟨o9 ok.dp.1 (),ok.dp.2⟩⟩⟩,by unfold mu;rw[lr],rfl⟩
  ·dsimp only;rw[oth d.a0 Ku];exact D1.h0
  ·dsimp only;rw[ez,eas];exact .nil
  have:=pay;dsimp only;rw[mS];simp only[cB];rw[ez]at this⊢;simp only[mN,cQ]at this⊢;omega
 have F:=ok.fz f (by rw[ez];simp)
 have f36:=ok.h36 f (by rw[ez];simp)
 have hh:=ok.hf
 rw[ez]at hh
 have lr:Gd.lrs g { d with rows:=rows',fz:=fs++[{ f with rows:=f.rows++[nd] }] }=d.lrs g++flat nd:=by
  unfold Gd.lrs;dsimp only;rw[ez,d6,d6];simp[bD,aX,Fz.op,Fz.fF,mV]
 have ln:(fs++[{ f with rows:=f.rows++[nd] }]).length=d.fz.length:=by rw[ez];simp
 have di:=ok.dp.2
 rw[ez]at di
 have di:=di.inv
 refine⟨{ d with rows:=rows',fz:=fs++[{ f with rows:=f.rows++[nd] }] },rfl,⟨st,hm,by rw[lr];exact hr,⟨hS,hR,hO,?_,?_⟩,⟨ok.nd,ok.mks,ok.ml,ok.bs,λx hx=>?_,?_,lF.app hh.inv.1 hh.inv.2,λx hx=>?_,?_,ok.sp,by rw[lr];dsimp only;rw[ln];exact len,⟨ok.dp.1,oM.app di.1 (o9 di.2.1 (by rw[ez,KC,Lp]at dnd;omega)) di.2.2⟩⟩⟩,by unfold mu;rw[lr];dsimp only;rw[ln],ln⟩
 ·rw[oth d.a0 Ku];exact D1.h0
 ·dsimp only[Gd.b];rw[eas,oQ,oR (jd _ _)];refine Ot ?_ (Paired.yT pu λx hx y e=>?_)
  ·rw[oth a (by rw[eas];simp),T.fr,et,er,eh,ef];rfl
  rw[oth x (by rw[eas];simp[hx])];exact e
 ·rcases Kz.mp hx with hx|hx
  ·exact ok.fz x (by rw[ez];simp[hx])
  rw[Ky.mp hx];exact⟨F.bk,F.l0,F.r0,ni F.rows ⟨nok,Lh⟩,F.fst,F.lp,F.fc,F.rank⟩
 ·dsimp only;rw[ln];exact ok.fl
 ·rcases Kz.mp hx with hx|hx
  ·exact ok.h36 x (by rw[ez];simp[hx])
  rw[Ky.mp hx];exact f36
 have p:=pay
 rw[ez,eF,pz]at p
 dsimp only
 rw[eF]
 dsimp only
 rw[mS]
 simp only[cB]
 omega
noncomputable def wo(H:Hp)(g:Gc)(d:Gd)(t a:NL)(at_:Nat)(rank aN:Int):Hp:=upd (upd (upd H t (.tup [.str "else"])) g.LR (.lst (d.rows++[.ref t]))) a (.dK (frK at_ rank aN false))
noncomputable def jJ(f:Fz):Fz:={ f with fst:=T9 f.rows,rows:=[],fc:=false }
theorem BAt.els(h:BAt g H d){fs:List Fz}{f:Fz}{us:List NL}{a t:NL}{v:Val}(ez:d.fz=fs++[f])(ea:d.as=us++[a])(ib:f.bk=.iff v)(nf:f.fst=Ua)(ht:H t=Ua)(m3:mu g d+3<=1000) :
  BAt g (wo H g d t a (d.b g+(bD fs).length) f.rank f.aN) { d with rows:=d.rows++[.ref t],fz:=fs++[jJ f] }:=by
 obtain⟨n1,n2,n3,n4⟩:=ku h.ok.nd
 obtain⟨nd1,nd2⟩:=Dm h.ok.nd
 obtain⟨us',a',ea',pu,fa⟩:=h.dy.xO ez
 rw[ea]at ea'
 obtain⟨eu,ex⟩:=List.append_inj' ea' rfl
 cases ex
 subst eu
 have ma:a∈d.a0::d.as:=by rw[ea];simp
 obtain⟨aS,aR,aO⟩:=n4 a ma
 have tM:=h.free ht
 have tS:t≠g.S:=λz=>tM (by rw[z];exact inS g d)
 have tR:t≠g.LR:=λz=>tM (by rw[z];exact inR g d)
 have tA:∀x∈d.a0::d.as,x≠t:=λx hx z=>tM (by
  rw[<-z];rcases Kt.mp hx with rfl|hx
  ·exact in0 g d
  exact inA g d hx)
 have tO:t≠d.lo:=λz=>tM (by rw[z];exact inO g d)
 have a0a:d.a0≠a:=λz=>nd1 (by rw[z,ea];simp)
 have ua:∀x∈us,x≠a:=λx hx z=>by
  rw[ea]at nd2;exact(Ls.mp nd2).2.2 x hx a (by simp) z
 have F:=h.ok.fz f (by rw[ez];simp)
 have f36:=h.ok.h36 f (by rw[ez];simp)
 have hh:=h.ok.hf
 rw[ez]at hh
 have go:Go (d.M g) H (d.M g) (wo H g d t a (d.b g+(bD fs).length) f.rank f.aN):=((Go.new (aq.upd ht _)).trans (Go.at (inR g d) _)).trans (Go.at (inA g d (by rw[ea];simp)) _)
 have lr:Gd.lrs g { d with rows:=d.rows++[.ref t],fz:=fs++[jJ f] }=d.lrs g++[.els]:=by
  unfold Gd.lrs jJ;dsimp only;rw[ez,d6,d6];simp[bD,aX,Fz.op,Fz.fF,wQ,nf]
 have ln:(fs++[jJ f]).length=d.fz.length:=by rw[ez];simp
 have oth:∀x,x≠t->x≠g.LR->x≠a->wo H g d t a (d.b g+(bD fs).length) f.rank f.aN x=H x:=λx h1 h2 h3=>by
  unfold wo;rw[ay h3,ay h2,ay h1]
 have hlen:(d.lrs g++[Lr.els]).length=(d.lrs g).length+1:=by simp
 have di:=h.ok.dp.2
 rw[ez]at di
 have di:=di.inv
 refine h.go (d':={ d with rows:=d.rows++[.ref t],fz:=fs++[jJ f] }) go ⟨?_,?_,?_,?_,?_⟩ ⟨h.ok.nd,h.ok.mks,h.ok.ml,h.ok.bs,λx hx=>?_,?_,lF.app hh.inv.1 hh.inv.2,λx hx=>?_,?_,h.ok.sp,?_,⟨h.ok.dp.1,oM.app di.1 (KW _) (λt z=>by cases z;exact di.2.1)⟩⟩ (go.same _ _ h.hm) ?_
 ·rw[oth g.S tS.symm n1 aS.symm];exact h.dy.hS
 ·unfold wo;rw[ay aR.symm,aj]
 ·rw[oth d.lo tO.symm n3.symm aO.symm];exact h.dy.hO
 ·rw[oth d.a0 (tA _ Ku) (n4 _ Ku).2.1 a0a];exact h.dy.h0
 ·dsimp only[Gd.b];rw[ea,oQ,oR (jd _ _)];refine Ot ?_ (Paired.yT pu λx hx y e=>?_)
  ·unfold wo;rw[aj];rfl
  have mx:x∈d.a0::d.as:=by rw[ea];simp[hx]
  exact(oth x (tA x mx) (n4 x mx).2.1 (ua x hx)).trans e
 ·rcases Kz.mp hx with hx|hx
  ·exact h.ok.fz x (by rw[ez];simp[hx])
  rw[Ky.mp hx];exact⟨F.bk,F.l0,F.r0,Lh,λt z=>(by cases z;exact F.rows),λt m z=>(by rw[show(jJ f).bk=f.bk from rfl,ib]at z;cases z),⟨λz=>(by cases z),λz=>(by cases z)⟩,F.rank⟩
 ·dsimp only;rw[ln];exact h.ok.fl
 ·rcases Kz.mp hx with hx|hx
  ·exact h.ok.h36 x (by rw[ez];simp[hx])
  rw[Ky.mp hx];exact f36
 ·have p:=h.ok.pay;rw[ez,eF,nf]at p;dsimp only;rw[eF];simp only[jJ,nE,cB]at p⊢;omega
 ·rw[lr,hlen];unfold mu at m3;dsimp only;rw[ln];omega
 rw[lr]
 refine Ot ⟨t,0,rfl,?_,λo ho=>by cases ho⟩ (Paired.cS h.hr λ_ _=>bS.same go.same)
 refine aK tM ?_
 unfold wo
 rw[ay (tA a ma).symm,ay tR,aj]
 rfl
theorem FZ{dd:List Dl}(h:∀e∈dd,0<=e.sp)(r:Lr):0<=tj dd r:=by
 cases r with
 |call i ts=>
  show 0<=(match dd.find? (λd=>decide (d.nm=i))with
   |some d=>1+d.sp
   |none=>1)
  cases e:dd.find? (λd=>decide (d.nm=i))with
  |none=>exact(by decide:(0:Int)<=1)
  |some x=>
   have:=h x (MD e);show 0<=1+x.sp;omega
 |_=>exact(by decide:(0:Int)<=1)
mutual
theorem Ez{ns tg:List Nat}{dd:List Dl}(O:∀e∈dd,0<=e.sp):∀(t:Tr){h:Int},0<=h->t.ok ns tg dd->0<=nB dd h t
 | .leaf r,h,h0,_=>Lo h0 (FZ O r)
 | .iff v l r f o,h,h0,k=>by
  have a:=ko O f h0 k.2.2.2.1;have b:=ko O o h0 k.2.2.2.2;have l0:=k.2.1;have r0:=k.2.2.1;have:=Lo h0 (show 0<=1+1*(l+r) by omega);unfold nB;omega
 | .loop t m l r b,h,h0,k=>by
  have m1:=k.2.1;have l0:=k.2.2.2.1;have r0:=k.2.2.2.2.1;have a:=ko O b (Lo h0 (show 0<=m by omega)) k.2.2.2.2.2;have:=Lo h0 (show 0<=1+m*(l+r) by have:=Lo (show 0<=m by omega) (show 0<=l+r by omega);omega);unfold nB;omega
theorem ko{ns tg:List Nat}{dd:List Dl}(O:∀e∈dd,0<=e.sp):∀(ts:List Tr){h:Int},0<=h->dU ns tg dd ts->0<=cB dd h ts
 | [],_,_,_=>Lc _
 |t::ts,h,h0,k=>by
  have a:=Ez O t h0 k.1;have b:=ko O ts h0 k.2;unfold cB;omega
end
noncomputable def nP(f:Fz)(l r:Int):Tr:=match f.bk with
 | .iff v=>.iff v l r (f.fst.getD []) f.rows
 | .loop t m=>.loop t m l r f.rows
theorem wC{f:Fz}{l r:Int}{n:Nat}(h1:dTs f.rows<=n)(h2:∀t,f.fst=T9 t->dTs t<=n):dT (nP f l r)<=n+1:=by
 have h3:dTs (f.fst.getD [])<=n:=by
  cases e:f.fst with
  |none=>exact KW _
  |some t=>exact h2 t e
 unfold nP;cases f.bk with
 |iff v=>simp only[dT];omega
 |loop t m=>simp only[dT];omega
noncomputable def UB(f:Fz):Prop:=∀v,f.bk=.iff v->∃t,f.fst=T9 t
theorem uB{f:Fz}{l r:Int}(h:UB f)(lp:∀t m,f.bk=.loop t m->f.fst=Ua):flat (nP f l r)=f.bk.lr l r::(f.fF++[.fin]):=by
 unfold nP Fz.fF;cases e:f.bk with
 |iff v=>
  obtain⟨t,et⟩:=h v e;rw[et];simp[flat,Bk.lr,wQ]
 |loop t m=>
  rw[lp t m e];simp[flat,Bk.lr,wQ]
theorem zF{f:Fz}{l r:Int}(F:Gz g f)(h:UB f)(l0:0<=l)(r0:0<=r):(nP f l r).ok g.ns g.tg g.dd:=by
 have bk:=F.bk;unfold nP;cases e:f.bk with
 |iff v=>
  rw[e]at bk;obtain⟨t,et⟩:=h v e;rw[et];exact⟨bk,l0,r0,F.fst t et,F.rows⟩
 |loop t m=>
  rw[e]at bk;exact⟨bk.1,bk.2.1,bk.2.2,l0,r0,F.rows⟩
theorem tQ{f:Fz}{h:Int}(hf:UB f)(lp:∀t m,f.bk=.loop t m->f.fst=Ua):nB g.dd h (nP f f.l f.r)=h*(1+f.bk.m*(f.l+f.r))+nE g.dd (h*f.bk.m) f.fst+cB g.dd (h*f.bk.m) f.rows:=by
 unfold nP;cases e:f.bk with
 |iff v=>
  obtain⟨t,et⟩:=hf v e;rw[et];simp[nB,Bk.m,nE]
 |loop t m=>
  rw[lp t m e];simp[nB,Bk.m,nE]
noncomputable def sQ(d:Gd)(us:List NL)(fs:List Fz):Gd:={ d with as:=us,fz:=fs }
theorem EA(ok:yR g d)(O:j9 g){us:List NL}{a:NL}{fs:List Fz}{f:Fz}(ez:d.fz=fs++[f])(ea:d.as=us++[a]):yR g (sQ d us fs):=by
 have hh:=ok.hf;rw[ez]at hh;have fl:=ok.fl;rw[ez,KC]at fl;simp only[Lp]at fl;have F:=ok.fz f (by rw[ez];simp);have rl:=ok.rl;have di:=ok.dp.2;rw[ez]at di;have sub:(d.M g).Nodup:=ok.nd;refine⟨?_,ok.mks,ok.ml,ok.bs,λx hx=>ok.fz x (by rw[ez];exact Lj _ hx),by show fs.length<=3;omega,hh.inv.1,λx hx=>ok.h36 x (by rw[ez];exact Lj _ hx),?_,ok.sp,?_,⟨ok.dp.1,di.inv.1⟩⟩
 ·unfold Gd.M at sub⊢;rw[ea]at sub;show(g.S::g.LR::d.lo::d.a0::us).Nodup;rw[show g.S::g.LR::d.lo::d.a0::(us++[a])=(g.S::g.LR::d.lo::d.a0::us)++[a]from rfl]at sub;exact(Ls.mp sub).1
 ·have p:=ok.pay;rw[ez,eF]at p;have sp:∀e∈g.dd,0<=e.sp:=λe he=>(O.dv e he).2.2.1;have h0:0<=cQ 1 fs:=by
   have h36:=(ok.h36 f (by rw[ez];simp)).1;rw[hh.inv.2]at h36;have mb:1<=f.bk.m:=by
    have:=F.bk;cases eb:f.bk with
    |iff v=>exact(show(1:Int)<=1 by decide)
    |loop t m=>rw[eb]at this;exact this.2.1
   rcases Int.lt_or_le (cQ 1 fs) 0 with z|z
   ·have:=LZ (show cQ 1 fs<=0 by omega) (show 0<=f.bk.m by omega);omega
   exact z
  have mb:0<=f.bk.m:=by
   have:=F.bk;cases eb:f.bk with
   |iff v=>exact(show(0:Int)<=1 by decide)
   |loop t m=>rw[eb]at this;have:=this.2.1;show 0<=m;omega
  have hm:=Lo h0 mb;have a1:=ko sp f.rows hm F.rows;have a2:0<=nE g.dd (cQ 1 fs*f.bk.m) f.fst:=by
   cases ef:f.fst with
   |none=>exact Lc _
   |some t=>exact ko sp t hm (F.fst t ef)
  have a3:=Lo h0 (show 0<=1+f.bk.m*(f.l+f.r) by have:=Lo mb (show 0<=f.l+f.r by have:=F.l0;have:=F.r0;omega);omega);show cB g.dd 1 d.bs+mN g.dd 1 fs<=d.spent;omega
 have e1:Gd.lrs g (sQ d us fs)=g.pre++aX d.bs++bD fs:=rfl;have e2:d.lrs g=(g.pre++aX d.bs++bD fs)++bD [f]:=by
  unfold Gd.lrs;rw[ez,d6,Le (g.pre++aX d.bs)]
 rw[e1];have e3:(d.lrs g).length=(g.pre++aX d.bs++bD fs).length+(bD [f]).length:=by rw[e2,KC (bs:=bD [f])]
 have e4:d.fz.length=fs.length+1:=by rw[ez];simp
 rw[e3,e4]at rl;show(g.pre++aX d.bs++bD fs).length+2*fs.length<=1000;omega
end
section
variable{P:Program}{w:NW}{K:NO}{mg:Str->Option NK}{base:Oi}{A:Adr}{g:Gc}{d:Gd}{H:Hp}
seal PE PA PS PSs PT PW
theorem Eg{fs:List Fz}{f:Fz}(ez:d.fz=fs++[f]):d.lrs g=(g.pre++aX d.bs++bD fs)++f.op::f.fF:=by
 unfold Gd.lrs;rw[ez,d6,Le (g.pre++aX d.bs)];simp[bD]
theorem xj{α:Type}(xs:List α)(x:α):(xs++[x])[(xs++[x]).length-1]?=T9 x:=by simp
theorem FK{n i:Nat}(h:i<n):ixN n (i:Int)=T9 i:=by
 unfold ixN;rw[if_pos (),if_pos ()];simp
inductive tG(vs:List V)(H:Hp)(Q:VK)(Z:XK):Prop
 |mk(g:Gc)(d:Gd):vs=[.ref g.S]->j9 g->BAt g H d->d.fz≠[]->mu g d+3<=1000->(∀(d':Gd)(H':Hp),Go (d.M g) H (d'.M g) H'->BAt g H' d'->mu g d'<=mu g d->d'.fz.length+1=d.fz.length->Q .non H')->tG vs H Q Z
theorem xW(T:Txt K mg A):T.oe.Hz P w base 1 tG:=by
 refine T.oe.hs nG (λf cdv A' outer s H vs Q E hr hu h=>?_);obtain⟨g,d,rfl,O,B,ne,m3,q⟩:=h;obtain⟨fs,f,ez⟩:∃fs f,d.fz=fs++[f]:=(mC d.fz).resolve_left ne;obtain⟨us,a,ea,pu,fa⟩:=B.dy.xO ez;obtain⟨n1,n2,n3,n4⟩:=ku B.ok.nd;have ma:a∈d.a0::d.as:=by rw[ea];simp
 obtain⟨aS,aR,aO⟩:=n4 a ma;have rl:d.rows.length+3<=1000:=by
  have:=NV B.hr;unfold mu at m3;omega
 have lb:(g.pre++aX d.bs++bD fs).length=d.b g+(bD fs).length:=by
  unfold Gd.b;rw[KC (bs:=bD fs)]
 obtain⟨at_,hat⟩:∃at_,at_=d.b g+(bD fs).length:=⟨_,rfl⟩;rw[<-hat]at fa lb;have lrse:=Eg (g:=g) ez;have gx:(d.lrs g)[at_]?=T9 f.op:=by
  rw[lrse,<-lb];simp
 obtain⟨rv,hrv,hrw⟩:∃rv,d.rows[at_]?=T9 rv/\bS g.N (del (d.M g) H) rv f.op:=by
  have hl:=NV B.hr;have:at_<d.rows.length:=by
   rw[hl];exact(KA.mp gx).1
  obtain⟨y,h1,h2⟩:=bg B.hr (Kv this);rw[gx]at h1;cases h1;exact⟨_,Kv this,h2⟩
 obtain⟨ra,rp,rfl,hra,hrp⟩:=hrw;have LL:(V.ref d.a0::d.as.map V.ref).dropLast=V.ref d.a0::us.map V.ref:=by
  rw[ea,KZ];exact Rn (l₁:=V.ref d.a0::us.map V.ref)
 refine⟨_,(ae (pst 1 nG.nd (E8 (px hu (fv 0) ao)))
 (ae (aL (PW.pt (pw_and (ptc (aZ hu) (px hu (px hu (px hu (fv 0) ao) (px hu (fv 1) ao)) ab) ao) (pw_and1 (bN (px hu (fv 1) ao) (λ_=>rfl)))))
  (ah (aI (cw (px hu (fv 0) ao) (bp (ao^af)^af))))
  aC)
 (ah (aI (cw (px hu (fv 0) ao) (bp (ao^af)^af)))))),?_⟩
 refine ak λM1 K1=>dgk B.dy.hS rfl ⟨KG ⟨rfl,_,SqL.of B.dy.hO⟩,_,_,.ref a,rfl,rfl,B.dy.hO,(by rw[ea,KZ];exact xj (V.ref d.a0::us.map V.ref) (V.ref a)),K1 _ _ ?_⟩;rw[LL];obtain⟨L,hL⟩:∃L,L=HO.lst (V.ref d.a0::us.map V.ref):=⟨_,rfl⟩;rw[<-hL];have hS1:upd H d.lo L g.S=T9 (.dK (stK g d)):=ag n2 B.dy.hS;have hR1:upd H d.lo L g.LR=T9 (.lst d.rows):=ag n3 B.dy.hR;have hO1:upd H d.lo L d.lo=T9 L:=aj;have hF1:upd H d.lo L a=T9 (.dK (frK at_ f.rank f.aN f.fc)):=ag aO fa;have raM:ra∉d.M g:=(bq hra).1;have raO:ra≠d.lo:=λz=>raM (by rw[z];exact inO g d);have hra1:upd H d.lo L ra=T9 (.tup (.str f.op.w::f.op.tl g.N rp)):=ag raO (bq hra).2;have go1:Go (d.M g) H (d.M g) (upd H d.lo L):=Go.at (inO g d) _;have al1:∀x∈d.M g,upd H d.lo L x≠Ua:=λx hx e=>by
  by_cases z:x=d.lo
  ·rw[z,aj]at e;cases e
  rw[ay z]at e;exact B.al x hx e
 have ok0:yR g (sQ d us fs):=EA B.ok O ez ea;have D0:pU (upd H d.lo L) g (sQ d us fs):=⟨hS1,hR1,hO1.trans (congrArg T9 hL),ag (n4 _ Ku).2.2 B.dy.h0,(by
  show Paired _ us ((ats (d.b g) fs).zip fs);exact Paired.yT pu λx hx y e=>ag (n4 x (by rw[ea];simp[hx])).2.2 e)⟩
 obtain⟨pa,pat,prk,pht,pfc,T0⟩:=Hu D0 ok0 O;have M0:∀x∈Gd.M g (sQ d us fs),x∈d.M g:=λx hx=>by
  have hx:x∈g.S::g.LR::d.lo::d.a0::us:=hx;unfold Gd.M;rw[ea];simp only[Kt,Kz,Ky,KH,or_false]at hx⊢;rcases hx with z|z|z|z|z
  ·exact .inl z
  ·exact .inr (.inl z)
  ·exact .inr (.inr (.inl z))
  ·exact .inr (.inr (.inr (.inl z)))
  exact .inr (.inr (.inr (.inr (.inl z))))
 have Ff:=B.ok.fz f (by rw[ez];simp);have di:=B.ok.dp.2;rw[ez]at di;have di:=di.inv;have f3:=B.ok.fl;rw[ez,KC,Lp]at f3;have fzl:d.fz.length=fs.length+1:=by rw[ez];simp
 have z0:(sQ d us fs).fz.length=fs.length:=rfl;try dsimp only
 refine ak λM2 K2=>?_;have rest:∀(He:Hp)(rows':List V)(nd:Tr)(sd:List Lr),Go (d.M g) (upd H d.lo L) (d.M g) He->He g.S=T9 (.dK (stK g d))->He g.LR=T9 (.lst rows')->(∀x∈d.lo::d.a0::us,He x=upd H d.lo L x)->(∀x∈d.M g,He x≠Ua)->Paired (bS g.N (del (d.M g) He)) rows' ((g.pre++aX d.bs++bD fs)++f.op::sd)->flat nd=f.op::(sd++[.fin])->nd.ok g.ns g.tg g.dd->dT nd+fs.length<=4->nB g.dd (cQ 1 fs) nd=cQ 1 fs*(1+f.bk.m*(f.l+f.r))+nE g.dd (cQ 1 fs*f.bk.m) f.fst+cB g.dd (cQ 1 fs*f.bk.m) f.rows->rows'.length<=d.rows.length+1->M2 [T9 (.ref g.S),T9 (.ref a)] He:=λHe rows' nd sd goe hSe hRe ote ale hre fl nok dnd pd rle=>K2 _ _ (by
  refine dgk hSe rfl ⟨KG ⟨rfl,_,SqL.of hRe⟩,by show 1<=sizeLine;decide,λte hte=>?_⟩;have teR:te≠g.LR:=Ub hte hRe;have teS:te≠g.S:=Ub hte hSe;refine⟨_,_,_,rfl,rfl,ag teR.symm hRe,ax (),?_⟩;obtain⟨H6,hH6⟩:∃H6,H6=upd (upd He te (.tup [.str "end"])) g.LR (.lst (rows'++[.ref te])):=⟨_,rfl⟩;rw[<-hH6];have go5:Go (d.M g) He (d.M g) H6:=by rw[hH6];exact(Go.new (aq.upd hte _)).trans (Go.at (inR g d) _)
  have go6:Go (d.M g) He (Gd.M g (sQ d us fs)) H6:=go5.to λx hx=>.inl (M0 x hx);have goF:=(go1.trans goe).trans go6;have teM:te∉d.M g:=λz=>ale te z hte;have ot6:∀x∈d.lo::d.a0::us,H6 x=upd H d.lo L x:=λx hx=>by
   have xm:x∈d.M g/\x≠g.LR:=by
    rcases Kt.mp hx with z|z
    ·exact⟨z▸inO g d,z▸n3.symm⟩
    have zm:x∈d.a0::d.as:=by
     rcases Kt.mp z with z|z
     ·exact z▸Ku
     rw[ea];simp[z]
    refine⟨?_,(n4 x zm).2.1⟩;rcases Kt.mp zm with z|z
    ·exact z▸in0 g d
    exact inA g d z
   rw[hH6,ay xm.2,ay (λz=>teM (by rw[<-z];exact xm.1))];exact ote x hx
  have lr0:Gd.lrs g (sQ d us fs)=g.pre++aX d.bs++bD fs:=rfl;have hr6:Paired (bS g.N (del (Gd.M g (sQ d us fs)) H6)) (rows'++[.ref te]) (Gd.lrs g (sQ d us fs)++flat nd):=by
   rw[fl,lr0,show g.pre++aX d.bs++bD fs++(f.op::(sd++[Lr.fin]))=(g.pre++aX d.bs++bD fs++(f.op::sd))++[Lr.fin] by simp];refine Ot ⟨te,0,rfl,aK (λz=>teM (M0 te z)) ?_,λo ho=>by cases ho⟩ (Paired.cS hre λ_ _=>bS.same go6.same);rw[hH6,ay teR,aj];rfl
  have hl:=NV B.hr;have hl6:=NV hr6;rw[KC,Lp]at hl6;obtain⟨d',M',B',mu',fl'⟩:=DY (H':=H6) (nd:=nd) (rows':=rows'++[.ref te]) (B.st.same goF.same) (goF.same _ _ B.hm) D0 ok0 T0 (by rw[hH6];exact ag n1 (ag teS.symm hSe)) (by rw[hH6];exact aj) ((ot6 d.lo Ku).trans D0.hO) (λx hx=>ot6 x (Kw _ hx)) nok (by
   have p:=B.ok.pay;rw[ez,eF]at p;show cB g.dd 1 d.bs+mN g.dd 1 fs+nB g.dd (cQ 1 fs) nd<=d.spent;rw[pd];omega) hr6 (by
   rw[<-hl6,z0];unfold mu at m3;omega) dnd
  refine q d' H6 (by rw[M'];exact goF) B' ?_ (by rw[fl',z0,fzl]);rw[mu',<-hl6,z0];unfold mu;omega)
 have oth:∀(sd:List Lr),Paired (bS g.N (del (d.M g) H)) d.rows (d.lrs g)->Paired (bS g.N (del (d.M g) (upd H d.lo L))) d.rows (d.lrs g):=λ_ h=>Paired.cS h λ_ _=>bS.same go1.same;have hr1:=oth [] B.hr;rw[lrse]at hr1;have goA:UB f->M2 [T9 (.ref g.S),T9 (.ref a)] (upd H d.lo L):=λfull=>rest _ d.rows (nP f f.l f.r) f.fF (Go.refl _ _) hS1 hR1 (λ_ _=>rfl) al1 hr1 (uB full Ff.lp) (zF Ff full Ff.l0 Ff.r0) (by have:=wC (l:=f.l) (r:=f.r) di.2.1 di.2.2;omega) (tQ full Ff.lp) ();have gR:=cP.k (k:=.inr "rows") hS1;have gA:=cP.k (k:=.inr "at") hF1;have gF:=cP.k (k:=.inr "first") hF1;cases hbk:f.bk with
 |iff v=>
  have eop:f.op=.iff v f.l f.r:=by unfold Fz.op;rw[hbk];rfl
  rw[eop]at hra1;refine⟨_,gR,_,gA,(lix (SqL.of hR1) (eG hrv) (KG ⟨_,_,Lg (SqT.of hra1),rfl,rfl,_,rfl,eI ?_⟩))⟩;cases ef:f.fst with
  |some tf=>
   have efc:f.fc=false:=by
    cases e:f.fc with
    |false=>rfl
    |true=>rw[Ff.fc.mp e]at ef;cases ef
   rw[efc]at gF;exact⟨_,gF,_,rfl,ba (goA λv' _=>⟨tf,ef⟩)⟩
  |none=>
   rw[Ff.fc.mpr ef]at gF;refine⟨_,gF,_,rfl,eI ⟨_,gR,KG ⟨rfl,_,SqL.of hR1⟩,by show 1<=sizeLine;decide,λt ht=>?_⟩⟩;have tM:t∉d.M g:=λz=>al1 t z ht;have tR:t≠g.LR:=Ub ht hR1;have tS:t≠g.S:=Ub ht hS1;refine⟨_,_,_,rfl,rfl,ag tR.symm hR1,ax (),?_⟩;have go2:Go (d.M g) (upd H d.lo L) (d.M g) (upd (upd (upd H d.lo L) t (.tup [.str "else"])) g.LR (.lst (d.rows++[.ref t]))):=(Go.new (aq.upd ht _)).trans (Go.at (inR g d) _);have fullE:UB (jJ f):=λv' _=>⟨f.rows,rfl⟩;have Fe:Gz g (jJ f):=⟨Ff.bk,Ff.l0,Ff.r0,Lh,λt z=>(by cases z;exact Ff.rows),λt m z=>(by rw[show(jJ f).bk=f.bk from rfl,hbk]at z;cases z),⟨λz=>(by cases z),λz=>(by cases z)⟩,Ff.rank⟩;have mem:∀x∈d.lo::d.a0::us,x∈d.M g/\x≠g.LR:=λx hx=>by
    rcases Kt.mp hx with z|z
    ·exact⟨z▸inO g d,z▸n3.symm⟩
    have zm:x∈d.a0::d.as:=by
     rcases Kt.mp z with z|z
     ·exact z▸Ku
     rw[ea];simp[z]
    refine⟨?_,(n4 x zm).2.1⟩;rcases Kt.mp zm with z|z
    ·exact z▸in0 g d
    exact inA g d z
   refine rest _ (d.rows++[.ref t]) (nP (jJ f) f.l f.r) (jJ f).fF go2 (ag n1 (ag tS.symm hS1)) aj (λx hx=>?_) (λx hx e=>?_) ?_ (uB fullE Fe.lp) (zF Fe fullE Ff.l0 Ff.r0) ?_ ?_ (by simp)
   ·rw[ay (mem x hx).2,ay (λz=>tM (by rw[<-z];exact(mem x hx).1))]
   ·by_cases z:x=g.LR
    ·rw[z,aj]at e;cases e
    rw[ay z,ay (λz=>tM (by rw[<-z];exact hx))]at e;exact al1 x hx e
   ·have es:(g.pre++aX d.bs++bD fs)++f.op::(jJ f).fF=((g.pre++aX d.bs++bD fs)++f.op::f.fF)++[Lr.els]:=by
     simp[jJ,Fz.fF,wQ,ef,aX]
    rw[es];refine Ot ⟨t,0,rfl,aK tM (ag tR aj),λo ho=>by cases ho⟩ (Paired.cS hr1 λ_ _=>bS.same go2.same)
   ·have:=wC (f:=jJ f) (l:=f.l) (r:=f.r) (n:=3-fs.length) (KW _) (λt z=>by cases z;exact di.2.1);omega
   have:=tQ (g:=g) (f:=jJ f) (h:=cQ 1 fs) fullE Fe.lp;rw[show(jJ f).l=f.l from rfl,show(jJ f).r=f.r from rfl]at this;rw[this,ef];simp[jJ,nE,cB]
 |loop th m=>
  have eop:f.op=.loop th m f.l f.r:=by unfold Fz.op;rw[hbk];rfl
  rw[eop]at hra1;exact⟨_,gR,_,gA,(lix (SqL.of hR1) (eG hrv) (KG ⟨_,_,Lg (SqT.of hra1),rfl,rfl,_,rfl,ba (ba (goA λv' z=>by rw[hbk]at z;cases z))⟩))⟩
theorem Aa:∀{dd:List Dl}{e:Dl},(dd.map Dl.nm).Nodup->e∈dd->dd.find? (λd=>decide (d.nm=e.nm))=T9 e
 |x::r,e,nd,m=>by
  rw[KP]at nd;obtain⟨n1,n2⟩:=KU.mp nd;rw[Lw];rcases Kt.mp m with rfl|m
  ·rw[decide_eq_true rfl]
  rw[decide_eq_false (λz=>n1 (by rw[z];exact MB m))];exact Aa n2 m
inductive tJ(K:NO)(vs:List V)(H:Hp)(Q:VK)(Z:XK):Prop
 |mk(g:Gc)(d:Gd)(c:Int)(lo:Bool):vs=[.ref g.S,.int c,.bl lo]->j9 g->BAt g H d->mu g d+3<=1000->CY g d H Q .non->tJ K vs H Q Z
theorem Di(T:Txt K mg A):T.nW.Hz P w base 6 (tJ K):=by
 refine T.nW.hs (k:=5) cH (λf cdv A' outer s H vs Q E hr hu h=>?_);obtain⟨g,d,c,lo,rfl,O,B,m3,q⟩:=h;obtain⟨a,at_,rank,aN,fc,T1⟩:=B.top O;have vb:∀j∈g.vk,j<25:=λj hj=>(O.vb j hj).1;have dl:=O.dl;have dvk:∀i∈g.dd.map Dl.nm,i∈g.vk:=λi hi=>by
  obtain⟨e,he,rfl⟩:=KS.mp hi;exact(O.dv e he).1
 refine⟨_,(ae (pst 3 cH.nd (px hu (px hu (fv 0) ao) (jq fw ab)))
 (ae (pst 4 cH.nd (ar (uI T) hr (fv 0^pcT hJ T.cC (px hu (fv 0) ao^af)^fv 2^px hu (fv 3) ao^ab^af)))
 (ae (aL (ptc (aZ hu) (pcB cu T.cI (fv 4^af)) ab)
  (ae (aI (ar (qx T) hr (fv 0^fv 1^ab^fv 2^af)))
  (ah (vX)))
  aC)
 (ae (pst 5 cH.nd (px hu (fv 4) (ar (mB T) hr (fv 1^ab^pcB cu T.cI (fv 4^af)^af))))
 (ae (pst 6 cH.nd (px hu (px hu (fv 0) ao) (fv 5)))
 (ae (pst 7 cH.nd (bA af))
 (ae (df Oa rfl (cA (px hu (fv 6) ab)) (pgn (i:=8) cH.nd rfl)
  (ae (pst 9 cH.nd (px hu (bA (px hu (px hu (fv 0) ao) (fv 8)^ab^af)) (pcT nY T.mG (fv 2^af))))
  (ah (aI (cw (fv 7) (ar (pj T) hr (fv 0^fv 1^aw bC ab (pcB cu T.cI (fv 7^af))^fv 9^af)^af))))))
 (ah (aI (ar (xY T) hr (fv 0^bp (ao^fv 5^fv 7^af)^aw bC ab (px hu (fv 6) ab)^af))))))))))),?_⟩
 refine dgk B.dy.hS rfl ⟨_,rfl,(lix (SqL.of B.dy.hO) T1.last ?_)⟩;try dsimp only
 refine ak λM1 K1=>?_;obtain⟨ts,hd1,hd2⟩:=B.st.hd;refine dgk B.dy.hS rfl (Lg ⟨g.LD,_,rfl,.inl (aA _ _ hd1),λl hl=>?_⟩);have ek:((dk g.N (g.dd.map Dl.nm) λi=>V.ref (ts i)).map λkv=>kV kv.1)=nV g.N (g.dd.map Dl.nm):=by
  unfold dk;rw[Mx];rfl
 rw[ek];obtain⟨s1,e1⟩:=alc hl (HO.lst (nV g.N (g.dd.map Dl.nm)));generalize upd H l _=H1 at s1 e1⊢;have B1:=B.same s1;refine dgk (s1 _ _ T1.fr) rfl ⟨g,d,l,lo,rank,2,g.dd.map Dl.nm,rfl,O,B1,SqL.of e1,dvk,by rw[Kx];omega,λD ys H2 s2 hD eD F=>K1 _ _ ?_⟩;have B2:=B1.same s2;have e:(((nV g.N ys).length:Nat):Int)=(ys.length:Int):=by rw[Kx]
 try dsimp only
 refine ak λM2 K2=>lnl eD ⟨rfl,_,rfl,aV (λ_=>⟨g,d,c,0,lo,rfl,O,B2,m3,λd' H' go B' mu'=>q d' H' ((Go.new (s1.trans s2)).trans go) B' mu'⟩) (λz=>K2 _ _ ?_)⟩;have y0:0<ys.length:=by
  rw[qi,decide_eq_true_iff,e]at z;omega
 try dsimp only
 refine ak λM3 K3=>lnl eD ⟨c,0,_,rfl,∅,(by rw[e];omega),λk2 H3 b0 b1 s3=>?_⟩;rw[e]at b1;obtain⟨x,hx,_,hax⟩:=mF (λi=>V.str (g.N i)) b0 b1;refine lix (SqL.of (s3 _ _ eD)) hax ?_;have B3:=B2.same s3;have t3:=(s1.trans s2).trans s3;obtain⟨dl',hdl,rfl⟩:=KS.mp (F.sub x hx);obtain⟨ts3,hd3,hd4⟩:=B3.st.hd;obtain⟨he1,he2⟩:=hd4 dl' hdl;have he1':=aA _ _ he1;have he2':=aA _ _ he2;obtain⟨dv1,dv2,dv3,dv5⟩:=O.dv dl' hdl;refine K3 _ _ ?_;try dsimp only
 refine ak λM4 K4=>dgk B3.dy.hS rfl ⟨_,eJ O.D (.inl (aA _ _ hd3)) (λj hj=>vb j (dvk j hj)) (MB hdl),K4 _ _ ?_⟩;try dsimp only
 refine ak λM5 K5=>⟨KW _,λD5 hD5=>?_⟩;have D5M:=B3.free hD5;obtain⟨s5,e5⟩:=alc hD5 (HO.lst []);generalize upd H3 D5 _=H5 at s5 e5⊢;have D5p:D5≠dl'.lp:=Ub hD5 he2';refine K5 _ _ ?_;try dsimp only
 refine ak λM6 K6=>KG ⟨_,_,Lg (SqT.of (s5 _ _ he1')),rfl,KG ⟨⟨_,SqL.of (s5 _ _ he2')⟩,cL (K:=K) (xs:=nV g.N dl'.ps) (λi σ Hc=>aq H3 Hc/\(∃ths:List Th,Hc D5=T9 (.lst (ths.map (Th.v g.N)))/\ths.length=i/\∀t∈ths,t.ok g.ns)/\∃v8 v9,σ=[T9 (.ref g.S),T9 (.int c),T9 (.bl lo),T9 (.ref a),T9 (.ref D),T9 (.str (g.N dl'.nm)),T9 (.ref (ts3 dl'.nm)),T9 (.ref D5),v8,v9]) ⟨s5,⟨[],e5,rfl,λ_ z=>(by cases z)⟩,Ua,Ua,rfl⟩ (λi σ Hc _ ⟨sc,_⟩=>SqL.of (sc _ _ he2')) ?_ ?_⟩⟩
 ·rintro i v σ Hc hv ⟨sc,⟨ths,eh,hlen,hok⟩,v8,v9,rfl⟩;have hv':(nV g.N dl'.ps)[i]?=T9 v:=hv;rw[KO]at hv';obtain⟨pt,hpt,rfl⟩:=Ly.mp hv';have ptv:=dv5 pt (KI hpt);have il:i<2:=by
   have:=(KA.mp hpt).1;omega
  have Bc:=B3.same sc;try dsimp only
  refine ak λN1 J1=>dgk Bc.dy.hS rfl ⟨_,eJ O.D (.inl (aA _ _ Bc.st.hv)) vb ptv,by show 2<=sizeLine;decide,λl2 hl2=>?_⟩;obtain⟨s6,e6⟩:=alc hl2 (HO.lst [V.int (g.vw pt),.int 2]);generalize upd Hc l2 _=H6 at s6 e6⊢;obtain⟨hi',ehi⟩:∃hi:Int,atI [V.int (g.vw pt),.int 2] (b01 lo)=T9 (.int hi):=by cases lo<;>exact⟨_,rfl⟩
  refine⟨_,rfl,(lix (SqL.of e6) ehi (J1 _ _ ?_))⟩;have B6:=Bc.same s6;have eh6:=s6 _ _ eh;have el:(((ths.map (Th.v g.N)).length:Nat):Int)=(i:Int):=by rw[Kx,hlen]
  try dsimp only
  refine⟨KG ⟨rfl,_,SqL.of eh6⟩,(lnl eh6 ⟨g,d,c,1+i,hi',(by rw[el];rfl),O,B6,(),λt H7 s7 ht=>⟨_,_,_,rfl,rfl,s7 _ _ eh6,ax (by rw[Kx];omega),aq.out ((sc.trans s6).trans s7) hD5 _,⟨ths++[t],?_,by simp[hlen],λt' ht'=>?_⟩,_,_,rfl⟩⟩)⟩
  ·rw[aj,KZ];rfl
  rcases Kz.mp ht' with z|z
  ·exact hok t' z
  rw[Ky.mp z];exact ht
 rintro σ Hc ⟨sc,⟨ths,eh,hlen,hok⟩,v8,v9,rfl⟩;have hlen:ths.length=dl'.ps.length:=by rw[hlen,Kx]
 refine K6 _ _ ?_;have Bc:=B3.same sc;have tc:=t3.trans sc;have he1c:=sc _ _ he1';try dsimp only
 refine⟨by show 3<=sizeLine;decide,λrw' hrw=>?_⟩;have s6:=aq.upd hrw (HO.tup [V.str "call",.str (g.N dl'.nm),.ref D5]);have e6:upd Hc rw' (HO.tup [V.str "call",.str (g.N dl'.nm),.ref D5]) rw'=T9 (.tup [V.str "call",.str (g.N dl'.nm),.ref D5]):=aj;generalize upd Hc rw' _=H6 at s6 e6⊢;have B6:=Bc.same s6;have t6:=tc.trans s6;have T6:=T1.same t6;have go6:Go (d.M g) H (d.M g) H6:=Go.new t6;have hrow:bS g.N (del (d.M g) H6) (.ref rw') (.call dl'.nm ths):=⟨rw',D5,rfl,Bc.new s6 hrw e6,λo ho=>by
  cases ho;exact aK D5M (s6 _ _ eh)⟩
 refine KG ⟨_,.int dl'.sp,Lg (SqT.of (s6 _ _ he1c)),rfl,?_⟩;have rl:d.rows.length<=1000:=by
  have:=NV B6.hr;unfold mu at m3;omega
 have cs:tj g.dd (.call dl'.nm ths)<=1+dl'.sp:=by
  show(match g.dd.find? (λd=>decide (d.nm=dl'.nm))with
   |some d=>1+d.sp
   |none=>1)<=1+dl'.sp
  rw[Aa O.dn hdl];exact Lc _
 refine⟨g,d,.ref rw',1+dl'.sp,a,at_,rank,aN,fc,rfl,B6.dy,B6.ok.nd,rl,T6,q d H6 go6 B6 (),λfit=>?_⟩;obtain⟨d7,M7,B7,mu7⟩:=B6.add O T6 hrow ⟨dl',hdl,rfl,hlen,hok⟩ cs () fit m3;exact q d7 _ (by rw[M7];exact go6.trans oU) B7 mu7
theorem CU:∀{fs:List Fz}{b x:Nat},x∈ats b fs->x<b+(bD fs).length
 |f::r,b,x,h=>by
  simp only[ats,Kt]at h;simp only[bD,Lb,KC];rcases h with rfl|h
  ·omega
  have:=CU h;omega
noncomputable def FI:Bk->Bool
 | .loop _ _=>true
 | .iff _=>false
noncomputable def lpV(d:Gd)(v:V):Bool:=(d.as.zip d.fz).any λq=>decide (v=.ref q.1)&&FI q.2.bk
theorem Bx(nd:d.as.Nodup)(len:d.as.length=d.fz.length){i:Nat}{a:NL}{f:Fz}(ha:d.as[i]?=T9 a)(hf:d.fz[i]?=T9 f):lpV d (.ref a)=FI f.bk:=by
 unfold lpV;rw[LP,LM];constructor
 ·rintro⟨⟨b,f'⟩,hm,e⟩;rw[LS,decide_eq_true_iff]at e;obtain⟨j,hj⟩:=La hm;rw[LY]at hj;obtain⟨e1,e2⟩:=e;have eb:a=b:=V.ref.inj e1;obtain⟨la,ea⟩:=KA.mp ha;obtain⟨lb,eb'⟩:=KA.mp hj.1;have ij:i=j:=(My nd).mp (by rw[ea,eb',eb]);rw[<-ij,hf]at hj;cases hj.2;exact e2
 exact λe=>⟨(a,f),KI (LY.mpr ⟨ha,hf⟩),by rw[decide_eq_true rfl,e];rfl⟩
theorem xX(dy:pU H g d){a:NL}(m:a∈d.as):∃(i:Nat)(f:Fz),d.as[i]?=T9 a/\d.fz[i]?=T9 f/\H a=T9 (.dK (fzK ((ats (d.b g) d.fz)[i]?.getD 0,f)))/\(ats (d.b g) d.fz)[i]?=T9 ((ats (d.b g) d.fz)[i]?.getD 0):=by
 obtain⟨i,hi⟩:=La m;obtain⟨⟨x,f⟩,h1,h2⟩:=bg dy.hf hi;rw[LY]at h1;exact⟨i,f,hi,h1.2,by rw[h1.1];exact h2,by rw[h1.1];rfl⟩
theorem Ft{i:Nat}:∀{fs:List Fz}{b:List Lr}{f:Fz}{x:Nat},fs[i]?=T9 f->(ats b.length fs)[i]?=T9 x->(b++bD fs)[x]?=T9 f.op:=by
 induction i with
 |zero=>
  intro fs b f x h1 h2;cases fs with
  |nil=>cases h1
  |cons y r=>
   simp only[Ms,PK]at h1;simp only[ats,Ms,PK]at h2;subst h1 h2;simp[bD]
 |succ i ih=>
  intro fs b f x h1 h2;cases fs with
  |nil=>cases h1
  |cons y r=>
   simp only[MI]at h1;simp only[ats,MI]at h2;have:=ih (fs:=r) (b:=b++(y.op::y.fF)) (f:=f) (x:=x) h1 (by rw[show(b++(y.op::y.fF)).length=b.length+1+y.fF.length by simp;omega];exact h2);simpa [bD] using this
theorem zf{t:TT}{b o:TS}{D:Uw}{σ:St}{H:Hp}(h:∀X:St->Hp->Prop,(∀σ H,o D σ H->X σ H)->t σ H λc H1=>if c=true then b D σ H1 else X σ H1):AS t b o D σ H:=h (o D) λ_ _ z=>z
inductive uq(K:NO)(vs:List V)(H:Hp)(Q:VK)(Z:XK):Prop
 |mk(g:Gc)(d:Gd)(c k:Int)(lo:Bool):vs=[.ref g.S,.int c,.int k,.bl lo]->j9 g->BAt g H d->mu g d+3<=1000->CY g d H Q .non->uq K vs H Q Z
theorem BA(T:Txt K mg A):T.ow.Hz P w base 6 (uq K):=by
 refine T.ow.hs (k:=5) jO (λf cdv A' outer s H vs Q E hr hu h=>?_);obtain⟨g,d,c,k,lo,rfl,O,B,m3,q⟩:=h;obtain⟨a,at_,rank,aN,fc,T1⟩:=B.top O;obtain⟨nd1,nd2⟩:=Dm B.ok.nd;obtain⟨n1,n2,n3,n4⟩:=ku B.ok.nd;have la:=NV B.dy.hf;rw[MP,jd,Nx]at la;have fl:=B.ok.fl;have rl:d.rows.length<=1000:=by
  have:=NV B.hr;unfold mu at m3;omega
 refine⟨_,(ae (pst 4 jO.nd (px hu (px hu (fv 0) ao) (jq fw ab)))
 (ae (iw (j:=5) (N:=["_law_one","_law_state"]) (own:=1) (fr:=[0]) (cJ.of (by kernel_rfl!)) rfl jO.nd rfl (KG rfl) (cA (cM eU (px hu (fv 0) ao) (bY ab) nr)) (λb=>pgn (i:=0) (show OS (["_law_one","_law_state"]:List OY) by decide+kernel) rfl) (λb=>ox (ptc (aZ hu) (px hu (px hu (px hu (fv 1) ao) (px hu (fv 0) ao)) ab) ao)) (λb=>fv 0))
 (ah (aL (PW.pt (pw_and (ptc (aZ hu) (fv 2) ab) (pw_and (ptc qq (pcB cu T.cI (fv 5^af)) ab) (pw_and1 (PW.pt (pw_or (bN (fv 3) (λ_=>rfl)) (pw_or1 (ptc vY (px hu (fv 4) ao) (px hu (px hu (fv 5) (jq fw ab)) ao)))))))))
  (ah (aI (ar (xY T) hr (fv 0^bp (ao^af)^ab^af))))
  (ah (aL (PW.pt (pw_and (ptc (aZ hu) (fv 2) ab) (pw_and (ptc qq (pcB cu T.cI (px hu (fv 0) ao^af)) ab) (pw_and (ptc (Cy hu) (fv 4) (fv 5) ((by with_unfolding_all rfl))) (pw_and1 (bN (px hu (fv 4) ao) (λ_=>rfl)))))))
   (ae (aI (cw (px hu (fv 0) ao) (bp (ao^af)^af)))
   (ah (bo gU (bz (fv 4) ao (bu hu Uc)))))
   (ah (aL (PW.pt (pw_and (ptc qq (fv 2) ab) (pw_and1 (ptc qq (pcB cu T.cI (px hu (fv 0) ao^af)) ab))))
    (ah (aI (ar (xW T) hr (fv 0^af))))
    (ah (aI (ar (qx T) hr (fv 0^fv 1^aw bC (aw bF (fv 2) ab) ab^fv 3^af)))))))))))),?_⟩
 refine dgk B.dy.hS rfl ⟨_,rfl,(lix (SqL.of B.dy.hO) T1.last ?_)⟩;try dsimp only
 refine ak λM1 K1=>dgk B.dy.hS rfl ⟨_,rfl,KG ⟨d.lo,_,rfl,SqL.of B.dy.hO,λl1 hl1=>?_⟩⟩;have ec:iM (V.ref d.a0::d.as.map V.ref) (T9 1) Ua=d.as.map V.ref:=by
  unfold iM;rw[show HT.sIx (V.ref d.a0::d.as.map V.ref).length 0 (T9 1)=1 by show min 1 (d.as.map V.ref).length.succ=1;omega];show(d.as.map V.ref).take (d.as.map V.ref).length=_;exact Lm
 rw[ec];obtain⟨s1,e1⟩:=alc hl1 (HO.lst (d.as.map V.ref));generalize upd H l1 _=H1 at s1 e1⊢;have B1:=B.same s1;refine KG ⟨⟨_,SqL.of e1⟩,fU (K:=K) (lpV d) (λx=>x) (SqL.of e1) (ax (by rw[Kx];omega)) (λb' x H2 R hm s2 kk=>?_) (λb' x H2 R hm hp s2 kk=>kk _ (aq.refl _)) (λD H2 hD s2 eD=>K1 _ _ ?_)⟩
 ·obtain⟨x',hx',rfl⟩:=KS.mp hm;have B2:=B1.same s2;obtain⟨i,fr,h1,h2,h3,h4⟩:=xX B2.dy hx';rw[Bx nd2 () h1 h2]at kk;have gx:=Ft h2 h4 (b:=g.pre++aX d.bs);have hl:=NV B2.hr;have li:(ats (d.b g) d.fz)[i]?.getD 0<d.rows.length:=by
   rw[hl];exact(KA.mp gx).1
  obtain⟨y,y1,y2⟩:=bg B2.hr (Kv li);have gx':(d.lrs g)[(ats (d.b g) d.fz)[i]?.getD 0]?=T9 fr.op:=gx;rw[gx']at y1;cases y1;obtain⟨ra,rp,er,hra,_⟩:=y2;refine dgk B2.dy.hS rfl (dgk h3 rfl (lix (SqL.of B2.dy.hR) (eG (Kv li)) ?_));rw[er];refine KG ⟨_,.str fr.op.w,Lg (SqT.of (aA _ _ hra)),eG (j:=0) rfl,rfl,_,rfl,?_⟩;have ew:decide (V.str fr.op.w=V.str "loop")=FI fr.bk:=by
   unfold Fz.op;cases fr.bk<;>rfl
  rw[ew];exact kk _ (aq.refl _)
 obtain⟨bs,hbs⟩:∃bs:List NL,bs=d.as.filter (λa=>lpV d (.ref a)):=⟨_,rfl⟩;have eD':H2 D=T9 (.lst (bs.map V.ref)):=by
  rw[eD,MO,Nr,hbs];rfl
 have bsub:∀b∈bs,b∈d.as:=λb hb=>by rw[hbs]at hb;exact(LJ.mp hb).1
 have B2:=B1.same s2;have t2:=s1.trans s2;have T2:=T1.same t2;have go2:Go (d.M g) H (d.M g) H2:=Go.new t2;have eo:(((V.ref d.a0::d.as.map V.ref).length:Nat):Int)=(d.as.length:Int)+1:=by simp
 have eb:(((bs.map V.ref).length:Nat):Int)=(bs.length:Int):=by rw[Kx]
 clear eD e1 hl1 hD B1 s1 s2;try dsimp only
 have plain:oY K [.ref g.S,.int c,.int (k%4+4),.bl lo] H2 (λ_ H'=>Q .non H') E0:=⟨g,d,c,k%4+4,lo,rfl,O,B2,m3,λd' H' go B' mu'=>q d' H' (go2.trans go) B' mu'⟩;refine zf λX1 J1=>?_;have x1:X1 [T9 (.ref g.S),T9 (.int c),T9 (.int k),T9 (.bl lo),T9 (.ref a),T9 (.ref D)] H2:=J1 _ _ (by
  refine zf λX2 J2=>?_;have x2:X2 [T9 (.ref g.S),T9 (.int c),T9 (.int k),T9 (.bl lo),T9 (.ref a),T9 (.ref D)] H2:=J2 _ _ (by
   refine zf λX3 J3=>?_;have x3:X3 [T9 (.ref g.S),T9 (.int c),T9 (.int k),T9 (.bl lo),T9 (.ref a),T9 (.ref D)] H2:=J3 _ _ ⟨(by show(0:Int)<4;decide),plain⟩;refine⟨_,rfl,aV (λ_=>?_) (λ_=>ba x3)⟩;refine dgk B2.dy.hS rfl (lnl B2.dy.hO ⟨_,rfl,aV (λz=>?_) (λ_=>x3)⟩);have z:=of_decide_eq_true z;rw[eo]at z;exact⟨g,d,rfl,O,B2,(λe=>by rw[e]at la;simp at la;rw[la]at z;simp at z),m3,λd' H' go B' mu' _=>q d' H' (go2.trans go) B' ()⟩)
  refine⟨rfl,_,rfl,aV (λ_=>?_) (λ_=>ba x2)⟩;refine dgk B2.dy.hS rfl (lnl B2.dy.hO ⟨_,rfl,aV (λz=>?_) (λ_=>ba x2)⟩);have z:=of_decide_eq_true z;rw[eo]at z;rcases T2.cases B2.dy with⟨_,eas,_⟩|⟨fs,f,us,ez,eas,pu,et,er,eh,ef⟩
  ·rw[eas]at z;simp at z
  have iu:d.as[us.length]?=T9 a:=by rw[eas];simp
  have fu:d.fz[us.length]?=T9 f:=by
   have e1:us.length=fs.length:=by
    rw[eas,ez]at la;simpa using la
   rw[ez,e1];simp
  have lpa:=Bx nd2 la iu fu;refine⟨a,D,bs,rfl,rfl,SqL.of eD',(λb hb ne=>?_),_,rfl,aV (λz1=>?_) (λ_=>ba x2)⟩
  ·have hb':=bsub b hb;rw[eas]at hb';rcases Kz.mp hb' with hu|hu
   ·obtain⟨j,hj⟩:=La hu;obtain⟨⟨x,f'⟩,h1,h2⟩:=bg pu hj;rw[LY]at h1;have lt:=CU (KI h1.1);exact⟨ne,.inr "at",(x:Int),(at_:Int),_,_,.inl h2,.inl T2.fr,rfl,()⟩
   exact absurd (Ky.mp hu) ne
  have nb:a∉bs:=λm=>by
   rw[decide_eq_true m]at z1;cases z1
  have ib:∃v,f.bk=.iff v:=by
   cases eb':f.bk with
   |iff v=>exact⟨v,rfl⟩
   |loop th m=>
    rw[eb']at lpa;exact absurd (by rw[hbs];exact LJ.mpr ⟨by rw[eas];simp,lpa⟩) nb
  obtain⟨v,ib⟩:=ib;have Ff:=B2.ok.fz f (by rw[ez];simp);have gF:=cP.k (k:=.inr "first") T2.fr;cases efc:fc with
  |false=>
   rw[efc]at gF;exact⟨_,gF,_,rfl,ba x2⟩
  |true=>
  rw[efc]at gF;refine⟨_,gF,_,rfl,eI ?_⟩;have nf:f.fst=Ua:=Ff.fc.mp (by rw[<-ef];exact efc);try dsimp only
  refine ak λN1 J4=>dgk B2.dy.hS rfl ⟨KG ⟨rfl,_,SqL.of B2.dy.hR⟩,by show 1<=sizeLine;decide,λt ht=>?_⟩;have tR:t≠g.LR:=Ub ht B2.dy.hR;have ta:t≠a:=Ub ht T2.fr;refine⟨_,_,_,rfl,rfl,ag tR.symm B2.dy.hR,ax rl,J4 _ _ ?_⟩;try dsimp only
  refine⟨_,cY.k (k:=.inr "first") (ag T2.nR (ag ta.symm T2.fr)) (show 4<sizeLine by decide),?_⟩;have Be:=B2.els ez eas ib nf ht m3;rw[<-et,<-er,<-eh]at Be;have goe:Go (d.M g) H2 (d.M g) (wo H2 g d t a at_ rank aN):=((Go.new (aq.upd ht _)).trans (Go.at (inR g d) _)).trans (Go.at T2.mem _);refine q { d with rows:=d.rows++[.ref t],fz:=fs++[jJ f] } _ (go2.trans goe) Be ?_;have h1:=NV Be.hr;have h2:=NV B2.hr;have h3:(d.rows++[V.ref t]).length=d.rows.length+1:=by simp
  have h4:(fs++[jJ f]).length=d.fz.length:=by rw[ez];simp
  unfold mu;dsimp only at h1⊢;omega)
 have addL:∀t,H2 t=Ua->vB [.ref g.S,.ref t,.int 1] (upd H2 t (.tup [.str "last"])) (λ_ H'=>Q .non H') E0:=λt ht=>by
  have s3:=aq.upd ht (HO.tup [V.str "last"]);have B3:=B2.same s3;have T3:=T2.same s3;have go3:Go (d.M g) H (d.M g) (upd H2 t (HO.tup [V.str "last"])):=go2.trans (Go.new s3);exact wR O (H:=H) B3 go3 m3 T3 (r:=.last) ⟨t,0,rfl,B2.new s3 ht aj,λo ho=>by cases ho⟩ Lh (Lc _) ∅ (q d _ go3 B3 ()) λd' M' B' mu'=>q d' _ (by rw[M'];exact go3.trans oU) B' mu'
 refine⟨rfl,_,rfl,aV (λ_=>?_) (λ_=>ba x1)⟩;refine lnl eD' ⟨_,rfl,aV (λz=>?_) (λ_=>ba x1)⟩;have z:=of_decide_eq_true z;rw[eb]at z;cases lo with
 |true=>exact⟨true,rfl,eI ⟨by show 1<=sizeLine;decide,λt ht=>addL t ht⟩⟩
 |false=>
  refine⟨false,rfl,ba ?_⟩;obtain⟨cs,b,eb'⟩:∃cs b,bs=cs++[b]:=(mC bs).resolve_left λe=>by rw[e]at z;simp at z
  obtain⟨i,fb,h1,h2,h3,h4⟩:=xX B2.dy (bsub b (by rw[eb'];simp));refine dgk T2.fr rfl ⟨_,rfl,KG ⟨_,.ref b,KG (SqL.of eD'),(by rw[eb',KZ];exact kT _ _),dgk h3 rfl ⟨_,rfl,aV (λ_=>?_) (λ_=>x1)⟩⟩⟩;exact⟨by show 1<=sizeLine;decide,λt ht=>addL t ht⟩
noncomputable def EW(g:Gc)(lm:NL):List (Key×V):=[(.inr "rows",.ref g.LR),(.inr "view",.ref g.LV),(.inr "deeds",.ref g.LD),(.inr "mode",.int g.mode),(.inr "marks",.ref lm),(.inr "hands",.ref g.LH),(.inr "lists",.ref g.LL),(.inr "targets",.ref g.LT),(.inr "numbers",.ref g.LN)]
structure BK(g:Gc)(H:Hp)(lm:NL)(marks:List Nat)(rows:List V):Prop where
 hS:H g.S=T9 (.dK (EW g lm))\/∃x y z,H g.S=T9 (.dK (EW g lm++[(.inr "open",x),(.inr "spent",y),(.inr "limit",z)]))
 hR:H g.LR=T9 (.lst rows)
 ne:g.S≠g.LR
 st:yB (del [g.S,g.LR] H) g
 hm:del [g.S,g.LR] H lm=T9 (.lst (nV g.N marks))
 hr:Paired (bS g.N (del [g.S,g.LR] H)) rows g.pre
 mks:∀m∈marks,m∈[11,12]
 ml:marks.length<=2
structure JA(g:Gc)(H:Hp)(d:Gd)(rows:List V):Prop where
 hS:H g.S=T9 (.dK (stK g d))
 hR:H g.LR=T9 (.lst rows)
 hO:H d.lo=T9 (.lst [.ref d.a0])
 h0:H d.a0=T9 (.dK (frK 0 g.br 1 false))
 no:d.lo≠g.S/\d.lo≠g.LR/\d.a0≠g.S/\d.a0≠g.LR
 st:yB (del [g.S,g.LR] H) g
 hm:del [g.S,g.LR] H d.lm=T9 (.lst (nV g.N d.marks))
 hr:Paired (bS g.N (del [g.S,g.LR] H)) rows (g.pre++aX d.bs++[.fin])
 mks:∀m∈d.marks,m∈[11,12]
 ml:d.marks.length<=2
 bs:dU g.ns g.tg g.dd d.bs
 sp:0<=d.spent/\(d.spent<=g.lim\/d.spent=0)
 pay:cB g.dd 1 d.bs<=d.spent
 dp:dTs d.bs<=4
inductive zu(K:NO)(vs:List V)(H:Hp)(Q:VK)(Z:XK):Prop
 |mk(g:Gc)(cl lm:NL)(cells:List Int)(marks:List Nat)(rows:List V):vs=[.ref g.S,.ref cl,.int g.br,.int g.lim]->j9 g->BK g H lm marks rows->H cl=T9 (.lst (cells.map V.int))->cl≠g.LR->cells.length<=63->(∀(d:Gd)(rows':List V)(H':Hp),Go [g.S,g.LR] H [g.S,g.LR] H'->JA g H' d rows'->(aX d.bs).length<=3*cells.length->Q .non H')->zu K vs H Q Z
inductive IvS(g:Gc)(cl:NL)(d0:Gd)(H3:Hp)(i:Nat)(σ:St)(Hc:Hp):Prop
 |mk(d:Gd)(v4 v5 v6:Option V):σ=[T9 (.ref g.S),T9 (.ref cl),T9 (.int g.br),T9 (.int g.lim),v4,v5,v6]->BAt g Hc d->Go (d0.M g) H3 (d.M g) Hc->mu g d<=g.pre.length+3*i->IvS g cl d0 H3 i σ Hc
theorem BX(T:Txt K mg A):T.qS.Hz P w base 7 (zu K):=by
 refine T.qS.hs (k:=6) ji (λf cdv A' outer s H vs Q E hr hu h=>?_);obtain⟨g,cl,lm,cells,marks,rows,rfl,O,R,hcl,clR,cln,q⟩:=h;have pl:=O.pl;refine⟨_,(ae (bo (bA ((qy (cG ao ab (cG ao (fv 2) (cG ao ab (cG ao gU (qz))))) rfl rfl (by intro z;cases z) ∅)^af)) (bz (fv 0) ao (bu hu Uc)))
 (ae (bo ab (bz (fv 0) ao (bu hu Uc)))
 (ae (bo (fv 3) (bz (fv 0) ao (bu hu Uc)))
 (ae (df Oa rfl (cA (fv 1)) (pgn (i:=4) ji.nd rfl)
  (ae (pst 5 ji.nd (aw bF (ar (mB T) hr (fv 4^ab^ab^af)) ab))
  (ae (pst 6 ji.nd (Ji (pec (aZ hu) (px hu (fv 0) ao) ab) (rR (pE (pec (aZ hu) (px hu (fv 0) ao) ab) (rR (pec (aZ hu) (aw bF (ar (mB T) hr (fv 4^ab^ab^af)) ab) ab))))))
  (ah (aL (ptc vI (fv 5) ab)
   (ah (aI (ar (qx T) hr (fv 0^fv 4^fv 5^fv 6^af))))
   (ah (aL (ptc vI (fv 5) ab)
    (ah (aI (ar (Bd T) hr (fv 0^fv 4^fv 5^fv 6^af))))
    (ah (aL (ptc (aZ hu) (fv 5) ab)
     (ah (aI (ar (Di T) hr (fv 0^fv 4^fv 6^af))))
     (ah (aI (ar (BA T) hr (fv 0^fv 4^fv 5^fv 6^af)))))))))))))
 (ae (vZ Oa (ptc qq (pcB cu T.cI (px hu (fv 0) ao^af)) ab)
  (ah (aI (ar (xW T) hr (fv 0^af)))))
 (ah (aI (cw (px hu (fv 0) ao) (bp (ao^af)^af))))))))),?_⟩
 refine ak λM1 K1 a0 ha0=>⟨aj,[((.inr "at":Key),.int 0),(.inr "rank",.int g.br),(.inr "heft",.int 1),(.inr "first",.bl false)],rfl,(show 4<=15 by decide),?_⟩;rw[mT,show(cm [] [((.inr "at":Key),V.int 0),(.inr "rank",.int g.br),(.inr "heft",.int 1),(.inr "first",.bl false)])=frK 0 g.br 1 false from rfl];obtain⟨s1,e1⟩:=alc ha0 (HO.dK (frK 0 g.br 1 false));generalize upd H a0 _=H1 at s1 e1⊢;refine⟨by show 1<=sizeLine;decide,λlo hlo=>?_⟩;obtain⟨s2,e2⟩:=alc hlo (HO.lst [V.ref a0]);generalize upd H1 lo _=H2 at s2 e2⊢;have z2:=s1.trans s2;have e12:=s2 _ _ e1;have hlo0:H lo=Ua:=aq.free s1 hlo;have loa:lo≠a0:=Ub hlo e1;have hcl2:=z2 _ _ hcl;have hR2:=z2 _ _ R.hR;obtain⟨d0,hd0⟩:∃d0:Gd,d0=⟨lm,marks,lo,a0,[],rows,[],[],0⟩:=⟨_,rfl⟩;have stores:∃kvs,H2 g.S=T9 (.dK kvs)/\kvs.length<=12/\Ue (Ue (Ue kvs (.inr "open") (.ref lo)) (.inr "spent") (.int 0)) (.inr "limit") (.int g.lim)=stK g d0/\(Ue kvs (.inr "open") (.ref lo)).length<=12/\(Ue (Ue kvs (.inr "open") (.ref lo)) (.inr "spent") (.int 0)).length<=12:=by
  rw[hd0];rcases R.hS with h|⟨x,y,z,h⟩
  ·exact⟨_,z2 _ _ h,(by decide:9<=12),rfl,(by decide:10<=12),(by decide:11<=12)⟩
  exact⟨_,z2 _ _ h,(by decide:12<=12),rfl,(by decide:12<=12),(by decide:12<=12)⟩
 obtain⟨kvs,hS2,l1,est,l2,l3⟩:=stores;refine⟨_,cY.k (k:=.inr "open") hS2 (ax ()),K1 _ _ ?_⟩;try dsimp only
 refine ak λM2 K2=>⟨_,cY.k (k:=.inr "spent") aj (ax ()),K2 _ _ ?_⟩;try dsimp only
 refine ak λM3 K3=>⟨_,cY.k (k:=.inr "limit") aj (ax ()),K3 _ _ ?_⟩;rw[mT,mT,est];have ne:=R.ne;have loS:lo≠g.S:=by rcases R.hS with h|⟨x,y,z,h⟩<;>exact Ub hlo (s1 _ _ h)
 have loR:lo≠g.LR:=Ub hlo (s1 _ _ R.hR);have a0S:a0≠g.S:=by rcases R.hS with h|⟨x,y,z,h⟩<;>exact Ub ha0 h
 have a0R:a0≠g.LR:=Ub ha0 R.hR;have clS:cl≠g.S:=λz=>by rw[z]at hcl2;rw[hS2]at hcl2;cases hcl2
 have Md:d0.M g=[g.S,g.LR,lo,a0]:=by rw[hd0];rfl
 have go3:Go [g.S,g.LR] H (d0.M g) (upd H2 g.S (.dK (stK g d0))):=by
  rw[Md];exact((Go.new z2).trans (Go.at Ku _)).to λx hx=>by
   simp only[Kt,KH,or_false]at hx⊢;rcases hx with z|z|z|z
   ·exact .inl (.inl z)
   ·exact .inl (.inr z)
   ·exact .inr (.inr (by rw[z];exact hlo0))
   exact .inr (.inr (by rw[z];exact ha0))
 have s3:=go3.same;have lrs0:d0.lrs g=g.pre:=by rw[hd0];unfold Gd.lrs;simp[aX,bD]
 have B0:BAt g (upd H2 g.S (.dK (stK g d0))) d0:=by
  refine⟨R.st.same s3,?_,?_,⟨aj,?_,?_,?_,?_⟩,⟨?_,?_,?_,?_,?_,?_,?_,?_,?_,?_,?_,by rw[hd0];exact⟨KW _,Lh⟩⟩⟩
  ·have:=s3 _ _ R.hm;rw[hd0]at this⊢;exact this
  ·rw[lrs0];have:=Paired.cS R.hr λ_ _=>bS.same (X':=del (d0.M g) (upd H2 g.S (.dK (stK g d0)))) s3;rw[show d0.rows=rows by rw[hd0]];exact this
  ·rw[show d0.rows=rows by rw[hd0]];exact ag ne.symm hR2
  ·rw[hd0];exact ag loS e2
  ·rw[hd0];exact ag a0S e12
  ·rw[hd0];exact .nil
  ·rw[Md];simp[ne,loS.symm,a0S.symm,loR.symm,a0R.symm,loa]
  ·rw[hd0];exact R.mks
  ·rw[hd0];exact R.ml
  ·rw[hd0];exact Lh
  ·rw[hd0];exact λ_ z=>(by cases z)
  ·rw[hd0];exact KW _
  ·rw[hd0];exact Lh
  ·rw[hd0];exact λ_ z=>(by cases z)
  ·rw[hd0];exact Lc _
  ·rw[hd0];exact⟨Lc _,.inr rfl⟩
  rw[lrs0,hd0];show g.pre.length+0<=1000;omega
 have mu0:mu g d0=g.pre.length:=by unfold mu;rw[lrs0,hd0];rfl
 have hcl3:upd H2 g.S (.dK (stK g d0)) cl=T9 (.lst (cells.map V.int)):=ag clS hcl2;generalize upd H2 g.S (.dK (stK g d0))=H3 at go3 s3 B0 hcl3⊢;have clM:cl∉d0.M g:=by
  rw[Md];simp only[Kt,KH,or_false];rintro(y|y|y|y)
  ·exact clS y
  ·exact clR y
  ·rw[y,hlo0]at hcl;cases hcl
  rw[y,ha0]at hcl;cases hcl
 clear s1 s2 e1 e2 e12 hcl2 hR2 z2 hS2 est l1 l2 l3 s3 ha0 hlo;try dsimp only
 refine ak λM4 K4=>KG ⟨⟨_,SqL.of hcl3⟩,cL (K:=K) (xs:=cells.map V.int) (IvS g cl d0 H3) ⟨d0,Ua,Ua,Ua,rfl,B0,Go.refl _ _,()⟩ (λi σ Hc _ ⟨d,_,_,_,_,_,gc,_⟩=>SqL.of (gc.o _ _ clM hcl3)) ?_ ?_⟩
 ·rintro i v σ Hc hv ⟨d,v4,v5,v6,rfl,B,gc,mui⟩;rw[KO]at hv;obtain⟨c,hc,rfl⟩:=Ly.mp hv;have il:i<cells.length:=(KA.mp hc).1;try dsimp only
  refine ak λN1 J1=>⟨c,0,97,rfl,∅,∅,λm Ha m0 m1 sa=>⟨(by show(0:Int)<16;decide),J1 _ _ ?_⟩⟩;have Ba:=B.same sa;try dsimp only
  refine ak λN2 J2=>?_;have go:∀(kd:Int)(lo':Bool)(Hb:Hp),aq Ha Hb->N2 [T9 (.ref g.S),T9 (.ref cl),T9 (.int g.br),T9 (.int g.lim),T9 (.int c),T9 (.int kd),T9 (.bl lo')] Hb  :=λkd lo' Hb sb=>J2 _ _ (by
   have Bb:=Ba.same sb;have gb:Go (d0.M g) H3 (d.M g) Hb:=gc.trans (Go.new (sa.trans sb));have m3:mu g d+3<=1000:=()
   have nx:∀(d':Gd)(H':Hp),Go (d.M g) Hb (d'.M g) H'->BAt g H' d'->mu g d'<=mu g d+3->IvS g cl d0 H3 (i+1) [T9 (.ref g.S),T9 (.ref cl),T9 (.int g.br),T9 (.int g.lim),T9 (.int c),T9 (.int kd),T9 (.bl lo')] H':=λd' H' g' B' mu'=>⟨d',_,_,_,rfl,B',gb.trans g',()⟩;refine⟨_,rfl,aV (λ_=>⟨g,d,c,kd,lo',rfl,O,Bb,m3,λd' H' g' B' mu'=>nx d' H' g' B' mu'⟩) (λ_=>⟨_,rfl,aV (λ_=>⟨g,d,c,kd,lo',rfl,O,Bb,m3,λd' H' g' B' mu'=>nx d' H' g' B' mu'⟩) (λ_=>⟨rfl,_,rfl,aV (λ_=>⟨g,d,c,lo',rfl,O,Bb,m3,λd' H' g' B' mu'=>nx d' H' g' B' mu'⟩) (λ_=>?_)⟩)⟩)⟩;exact⟨g,d,c,kd,lo',rfl,O,Bb,m3,λd' H' g' B' mu'=>nx d' H' g' B' mu'⟩)
  have gm:=cP.k (k:=.inr "mode") Ba.dy.hS;refine⟨_,gm,rfl,_,rfl,aV (λ_=>go _ true Ha (aq.refl _)) (λ_=>?_)⟩;refine⟨_,gm,rfl,_,rfl,aV (λ_=>?_) (λ_=>go _ false Ha (aq.refl _))⟩;refine⟨c,1,101,rfl,∅,∅,λm2 Hb _ _ sb=>⟨(by show(0:Int)<9;decide),rfl,go _ _ Hb sb⟩⟩
 rintro σ Hc ⟨d,v4,v5,v6,rfl,B,gc,mui⟩;rw[Kx]at mui;refine K4 _ _ ?_;try dsimp only
 refine ak λM5 K5=>⟨λm σ Hc=>∃(d:Gd),m=d.fz.length/\σ=[T9 (.ref g.S),T9 (.ref cl),T9 (.int g.br),T9 (.int g.lim),v4,v5,v6]/\BAt g Hc d/\Go (d0.M g) H3 (d.M g) Hc/\mu g d<=g.pre.length+3*cells.length,⟨_,d,rfl,rfl,B,gc,mui⟩,?_⟩;rintro m σ Hc ⟨d,rfl,rfl,B,gc,mui⟩;have la:=NV B.dy.hf;rw[MP,jd,Nx]at la;have eo:(((V.ref d.a0::d.as.map V.ref).length:Nat):Int)=(d.as.length:Int)+1:=by simp
 refine dgk B.dy.hS rfl (lnl B.dy.hO ⟨_,rfl,aV (λz=>?_) (λz=>K5 _ _ ?_)⟩)
 ·have z:=of_decide_eq_true z;rw[eo]at z;exact⟨λσ' H'=>∃(d':Gd),d'.fz.length<d.fz.length/\σ'=[T9 (.ref g.S),T9 (.ref cl),T9 (.int g.br),T9 (.int g.lim),v4,v5,v6]/\BAt g H' d'/\Go (d0.M g) H3 (d'.M g) H'/\mu g d'<=g.pre.length+3*cells.length,λσ' H' ⟨d',h1,h2,h3,h4,h5⟩=>⟨_,h1,d',rfl,h2,h3,h4,h5⟩,⟨g,d,rfl,O,B,(λe=>by rw[e]at la;simp at la;rw[la]at z;simp at z),(),λd' H' g' B' mu' fl'=>⟨d',(),rfl,B',gc.trans g',()⟩⟩⟩
 have z:¬ (1:Int)<(d.as.length:Int)+1:=λy=>z (decide_eq_true (by rw[eo];exact y));have ea:d.as=[]:=List.length_eq_zero_iff.mp ();have ez:d.fz=[]:=List.length_eq_zero_iff.mp (by rw[<-la,ea];rfl);have Mc:d.M g=[g.S,g.LR,d.lo,d.a0]:=by unfold Gd.M;rw[ea]
 obtain⟨n1,n2,n3,n4⟩:=ku B.ok.nd;obtain⟨m1,m2,m3⟩:=n4 d.a0 Ku;have hl:=NV B.hr;try dsimp only
 refine dgk B.dy.hS rfl ⟨KG ⟨rfl,_,SqL.of B.dy.hR⟩,by show 1<=sizeLine;decide,λte hte=>?_⟩;have teM:=B.free hte;have teS:te≠g.S:=λz=>teM (by rw[z];exact inS g d);have teR:te≠g.LR:=λz=>teM (by rw[z];exact inR g d);have teO:te≠d.lo:=λz=>teM (by rw[z];exact inO g d);have te0:te≠d.a0:=λz=>teM (by rw[z];exact in0 g d);refine⟨_,_,_,rfl,rfl,ag teR.symm B.dy.hR,ax (by unfold mu at mui;omega),?_⟩;have go5:Go (d.M g) Hc (d.M g) (upd (upd Hc te (.tup [.str "end"])) g.LR (.lst (d.rows++[.ref te]))):=(Go.new (aq.upd hte _)).trans (Go.at (inR g d) _);have goA:Go [g.S,g.LR] H [g.S,g.LR] (upd (upd Hc te (.tup [.str "end"])) g.LR (.lst (d.rows++[.ref te]))):=(go3.trans (gc.trans go5)).to λx hx=>by
  refine .inl ?_;rw[Mc];simp only[Kt,KH,or_false]at hx⊢;rcases hx with z|z
  ·exact .inl z
  exact .inr (.inl z)
 have sub:aq (del (d.M g) Hc) (del [g.S,g.LR] (upd (upd Hc te (.tup [.str "end"])) g.LR (.lst (d.rows++[.ref te])))):=λx o e=>by
  obtain⟨h1,h2⟩:=bq (go5.same _ _ e);refine aK (λz=>h1 ?_) h2;rw[Mc];simp only[Kt,KH,or_false]at z⊢;rcases z with z|z
  ·exact .inl z
  exact .inr (.inl z)
 have elr:d.lrs g=g.pre++aX d.bs:=by unfold Gd.lrs;rw[ez];simp[bD]
 have hr:=B.hr;rw[elr]at hr;refine q d (d.rows++[.ref te]) _ goA ⟨ag n1 (ag teS.symm B.dy.hS),aj,?_,?_,⟨n2.symm,n3.symm,m1,m2⟩,B.st.same sub,sub _ _ B.hm,Ot ⟨te,0,rfl,?_,λo ho=>by cases ho⟩ (Paired.cS hr λ_ _=>bS.same sub),B.ok.mks,B.ok.ml,B.ok.bs,B.ok.sp,?_,B.ok.dp.1⟩ ?_
 ·have:=B.dy.hO;rw[ea]at this;exact ag n3.symm (ag teO.symm this)
 ·exact ag m2 (ag te0.symm B.dy.h0)
 ·have:=B.ok.pay;rw[ez]at this;simpa [mN] using this
 ·unfold mu at mui;rw[elr,KC]at mui;omega
 refine aK (λz=>?_) (ag teR aj);simp only[Kt,KH,or_false]at z;rcases z with z|z
 ·exact teS z
 exact teR z
end
section
variable{P:Program}{w:NW}{K:NO}{mg:Str->Option NK}{base:Oi}{A:Adr}{N:Nat->Str}
seal PE PA PS PSs PT PW
noncomputable def nmL(N:Nat->Str):List V:=(Od 25).map λi=>.str (N i)
theorem gW(N:Nat->Str){i:Nat}(h:i<25):atI (nmL N) (i:Int)=T9 (.str (N i)):=by
 refine eG ?_;unfold nmL;rw[KO,Mr h];rfl
theorem CT{n:Nat}{ys:List V}{f:Nat->V}(ly:ys.length=n)(hy:∀(i:Nat) y,ys[i]?=T9 y->y=f i):ys=(Od n).map f:=by
 refine Nh λi=>?_;by_cases h:i<n
 ·have lt:i<ys.length:=()
  rw[KO,Mr h,Kv lt,hy i _ (Kv lt)];rfl
 rw[LX (),LX (by simp;omega)]
noncomputable def rkL(rk:Nat->Int):List V:=(Od 7).map λi=>.int (rk i)
theorem sA(rk:Nat->Int){i:Nat}(h:i<7):atI (rkL rk) (i:Int)=T9 (.int (rk i)):=by
 refine eG ?_;unfold rkL;rw[KO,Mr h];rfl
theorem IW{ys:List V}(ly:ys.length=7)(hy:∀(i:Nat) y,ys[i]?=T9 y->∃n:Int,y=.int n/\0<=n/\n<3):∃rk:Nat->Int,ys=rkL rk/\∀i,0<=rk i/\rk i<=2:=by
 have h:∀i:Nat,∃n:Int,(∀y,ys[i]?=T9 y->y=.int n)/\0<=n/\n<=2:=λi=>by
  cases e:ys[i]? with
  |none=>exact⟨0,λ_ z=>(by cases z),∅,∅⟩
  |some y=>
   obtain⟨n,e1,e2,e3⟩:=hy i y e;exact⟨n,λ_ z=>(by cases z;exact e1),e2,()⟩
 exact⟨λi=>(h i).choose,CT ly λi y e=>(h i).choose_spec.1 y e,λi=>(h i).choose_spec.2⟩
noncomputable def cc(rk:Nat->Int)(z:Int):List Lr:=[.hand 0 0,.hand 1 1,.hand 2 2,.giv 3 (2-rk 0%2) 0,.giv 4 (rk 1) 0,.giv 5 0 0,.giv 6 (rk 2) z,.own 7 0,.own 8 0,.own 9 0,.own 10 z,.lt 11 (rk 3),.lt 12 (rk 4%2)]
noncomputable def v1(rk:Nat->Int)(z:Int)(j:Nat):Int:=[0,1,2,2-rk 0%2,rk 1,0,rk 2,0,0,0,z,rk 3,rk 4%2].getD j 0
noncomputable def w4(rk:Nat->Int):List Int:=[0,rk 5,2,rk 6]
noncomputable def v2(rk:Nat->Int)(z:Int)(i j:Nat):Int:=if 7<=j/\j<7+i then(w4 rk).getD (j-7) 0 else v1 rk z j
theorem Go.to'{S LV:NL}{H H':Hp}(g:Go [LV] H [LV] H')(_:S≠LV):Go [S,LV] H [S,LV] H':=⟨λa o m e=>g.o a o (λz=>m (Kw _ z)) e,λ_ m=>.inl m⟩
theorem Paired.E6{α β:Type}{F:α->β->Prop}:∀(t:Nat){xs:List α}{ys:List β},Paired F xs ys->Paired F (xs.drop t) (ys.drop t)
 |0,_,_,h=>h
 |_+1,_,_,.nil=>.nil
 |t+1,_,_,.cons _ r=>Paired.E6 t r
theorem Paired.E3{α β:Type}{F:α->β->Prop}:∀(t:Nat){xs:List α}{ys:List β},Paired F xs ys->Paired F (xs.take t) (ys.take t)
 |0,_,_,_=>.nil
 |_+1,_,_,.nil=>.nil
 |t+1,_,_,.cons h r=>.cons h (Paired.E3 t r)
noncomputable def rot(t:Nat)(xs:List Lr):List Lr:=xs.drop t++xs.take t
structure Hs(N:Nat->Str)(H0 Hc:Hp)(xs:List V)(hs:List Lr):Prop where
 s:aq H0 Hc
 p:Paired (bS N Hc) xs hs
theorem Hs.to{H0 Hc H':Hp}{xs:List V}{hs:List Lr}(D:Hs N H0 Hc xs hs)(s:aq Hc H'):Hs N H0 H' xs hs:=⟨D.s.trans s,Paired.cS D.p λ_ _=>bS.same s⟩
theorem Hs.add{H0 Hc:Hp}{t:NL}{xs:List V}{hs:List Lr}(D:Hs N H0 Hc xs hs)(ht:Hc t=Ua)(h:Lr)(ho:h.ob N=Ua)(ys:List V)(e:ys=.str h.w::h.tl N t):Hs N H0 (upd Hc t (.tup ys)) (xs++[.ref t]) (hs++[h]):=by
 subst e;refine⟨D.s.trans (aq.upd ht _),Ot ⟨t,t,rfl,aj,λo z=>by rw[ho]at z;cases z⟩ (Paired.cS D.p λ_ _=>bS.same (aq.upd ht _))⟩
theorem Hs.sR{H0 Hc:Hp}{t L:NL}{o:HO}{xs:List V}{hs:List Lr}(D:Hs N H0 Hc xs hs)(eL:Hc L=T9 o)(ht:Hc t=Ua)(h:Lr)(ho:h.ob N=Ua)(ys:List V)(e:ys=.str h.w::h.tl N t):Hs N H0 (upd Hc t (.tup ys)) (xs++[.ref t]) (hs++[h])/\upd Hc t (.tup ys) L=T9 o:=⟨D.add ht h ho ys e,aq.upd ht _ _ _ eL⟩
theorem Hs.len{H0 Hc:Hp}{xs:List V}{hs:List Lr}(D:Hs N H0 Hc xs hs):xs.length=hs.length:=NV D.p
theorem zQ{n t:Nat}(d:Nat)(h:t<=n):HT.sIx n d (T9 (t:Int))=t:=by
 unfold HT.sIx;show(if(t:Int)<0 then((t:Int)+n).toNat else min (t:Int).toNat n)=t;rw[if_neg (),LI];omega
theorem Gn{xs:List V}{t:Nat}(h:t<=xs.length):iM xs (T9 (t:Int)) Ua=xs.drop t:=by
 unfold iM;rw[zQ _ h,show HT.sIx xs.length xs.length Ua=xs.length from rfl];exact Mt (by rw[Mo];omega)
theorem HW{xs:List V}{t:Nat}(h:t<=xs.length):iM xs Ua (T9 (t:Int))=xs.take t:=by
 unfold iM;rw[zQ _ h,show HT.sIx xs.length 0 Ua=0 from rfl];rfl
noncomputable def st5(LR LV LD:NL)(mode:Int):List (Key×V):=[(.inr "rows",.ref LR),(.inr "view",.ref LV),(.inr "deeds",.ref LD),(.inr "mode",.int mode)]
noncomputable def st6(LR LV LD:NL)(mode:Int)(lm:NL):List (Key×V):=st5 LR LV LD mode++[(.inr "marks",.ref lm)]
theorem JD{H:Hp}{v:V}{rk:Nat->Int}{z:Int}{i:Nat}{h:Lr}(hi:(cc rk z)[i]?=T9 h)(a:bS N H v h):∃t xs,v=.ref t/\H t=T9 (.tup xs)/\atI xs 1=T9 (.str (N i))/\atI xs 2=T9 (.int (v1 rk z i)):=by
 obtain⟨t,p,e,h1,_⟩:=a;have hb:i<13:=(KA.mp hi).1;have:=Ib i ();rcases this with rfl|rfl|rfl|rfl|rfl|rfl|rfl|rfl|rfl|rfl|rfl|rfl|rfl<;>(cases hi;exact⟨t,_,e,h1,rfl,rfl⟩)
inductive xP(K:NO)(vs:List V)(H:Hp)(Q:VK)(Z:XK):Prop
 |mk(a S LR0 LV LD:NL)(ns:List Int)(mode:Int)(z0:vs=[.ref a,.ref S])(z1:SqL K H a (ns.map V.int))(z2:H S=T9 (.dK (st5 LR0 LV LD mode)))(z3:H LV=T9 (.dK (dk (nmV (cellAt ns 1)) [] λ_=>.int 0)))(z4:∀(ln LR lm:NL)(rk:Nat->Int)(z:Int)(t:Nat)(rows:List V)(H':Hp),(∀i,0<=rk i/\rk i<=2)->1<=z->z<=4->Go [S,LV] H [S,LV] H'->H ln=Ua->H LR=Ua->H lm=Ua->ln≠LR->lm≠LR->
  H' S=T9 (.dK (st6 LR LV LD mode lm))->H' LV=T9 (.dK (dk (nmV (cellAt ns 1)) (Od 13) λi=>.int (v2 rk z 4 i)))->H' LR=T9 (.lst rows)->H' lm=T9 (.lst (nV (nmV (cellAt ns 1)) [11,12]))->H' ln=T9 (.lst (nmL (nmV (cellAt ns 1))))->
  Paired (bS (nmV (cellAt ns 1)) (del [S,LR,LV] H')) rows (rot t (cc rk z))->Q (.ref ln) H'):xP K vs H Q Z
theorem Ef(T:Txt K mg A):T.pJ.Hz P w base 2 (xP K):=by
 have E9:=@yQ P w _ _ base _ T;have M4:=@mB P w _ _ base _ T;refine T.pJ.hs (k:=1) bI (λf cdv A' outer s H vs Q E' hr hu h=>?_);obtain⟨a,S,LR0,LV,LD,ns,mode,rfl,hA,hS,hV,q⟩:=h;have D:=qG (cellAt ns 1);obtain⟨N,eN⟩:∃N,N=nmV (cellAt ns 1):=⟨_,rfl⟩;rw[<-eN]at D q hV;refine⟨_,(ae (iw (j:=2) (N:=["_law_k","_law_script"]) (own:=1) (fr:=[0]) (cJ.of (by kernel_rfl!)) rfl bI.nd rfl (KG rfl) (hZ rfl T.g8 (ab^af)) (λb=>pgn (i:=0) (show OS (["_law_k","_law_script"]:List OY) by decide+kernel) rfl) (λb=>pN) (λb=>ar (FV T) hr (ar E9 hr (fv 1^ab^af)^fv 0^af)))
 (ae (iw (j:=3) (N:=["_law_way","_law_script"]) (own:=1) (fr:=[0]) (cJ.of (by kernel_rfl!)) rfl bI.nd rfl (KG rfl) (hZ rfl T.g8 (ab^af)) (λb=>pgn (i:=0) (show OS (["_law_way","_law_script"]:List OY) by decide+kernel) rfl) (λb=>pN) (λb=>ar M4 hr (ar E9 hr (fv 1^ab^af)^fv 0^ab^af)))
 (ae (pst 4 bI.nd (aw bC ab (ar M4 hr (ar E9 hr (fv 0^ab^af)^ab^ab^af))))
 (ae (pst 5 bI.nd (bA (bp (ao^px hu (fv 2) ab^ab^af)^bp (ao^px hu (fv 2) ab^ab^af)^bp (ao^px hu (fv 2) ab^ab^af)^af)))
 (ae (pst 5 bI.nd (aw bC (fv 5) (bA (bp (ao^px hu (fv 2) ab^aw oT ab (aw bF (px hu (fv 3) ab) ab)^ab^af)^bp (ao^px hu (fv 2) ab^px hu (fv 3) ab^ab^af)^af))))
 (ae (pst 5 bI.nd (aw bC (fv 5) (bA (bp (ao^px hu (fv 2) ab^ab^ab^af)^bp (ao^px hu (fv 2) ab^px hu (fv 3) ab^fv 4^af)^af))))
 (ae (pst 5 bI.nd (aw bC (fv 5) (bA (bp (ao^px hu (fv 2) ab^ab^af)^bp (ao^px hu (fv 2) ab^ab^af)^bp (ao^px hu (fv 2) ab^ab^af)^bp (ao^px hu (fv 2) ab^fv 4^af)^af))))
 (ae (pst 5 bI.nd (aw bC (fv 5) (bA (bp (ao^px hu (fv 2) ab^px hu (fv 3) ab^af)^bp (ao^px hu (fv 2) ab^aw bF (px hu (fv 3) ab) ab^af)^af))))
 (ae (pst 6 bI.nd (ar M4 hr (ar E9 hr (fv 0^ab^af)^ab^ab^af)))
 (ae (bo (aw bC (cM eU (fv 5) (bY (fv 6)) nr) (cM eU (fv 5) nr (bY (fv 6)))) (bz (fv 1) ao (bu hu Uc)))
 (ae (df Oa rfl (cA (fv 5)) (pgn (i:=7) bI.nd rfl)
  (ah (bo (px hu (fv 7) ab) (bz (px hu (fv 1) ao) (px hu (fv 7) ab) (bu hu Uc)))))
 (ae (df Oa rfl (Bz rfl T.xJ (cM eU (fv 2) (bY ab) (bY ab)^bA (ab^px hu (fv 3) ab^ab^px hu (fv 3) ab^af)^af)) (yF rfl (kA (pgn (i:=8) bI.nd rfl) (kA (pgn (i:=9) bI.nd rfl) vt)))
  (ah (bo (fv 9) (bz (px hu (fv 1) ao) (fv 8) (bu hu Uc)))))
 (ae (bo (cM eU (fv 2) (bY ab) (bY ab)) (bz (fv 1) ao (bu hu Uc)))
 (ah (aB (fv 2)))))))))))))))),?_⟩
 refine ak λM1 K1=>⟨_,rfl,∅,∅,sC (J:=Itr 0 25) (n:=25) (x:=λj=>.int (0+j)) (λj y _=>y=.str (N j)) (ax ∅) (λ_ _=>KD _) (λ_ _ h _=>h) (λ_ _ _ _ _ _ y=>y) (λb j H1 G hj s1 kk=>⟨a,ns,1,rfl,s1.seq hA,∅,cellAt ns 1,j,(by rw[MG];rfl),(),λH2 s2=>kk _ _ s2 (by rw[eN])⟩) (λ_ _ _ _ _ h=>h) (λ_ _ _ _ _ _ _ h=>h) (λln H1 ys ln0 s1 eln ly hy=>K1 _ _ ?_)⟩;rw[CT ly hy,show((Od 25).map λi=>V.str (N i))=nmL N from rfl]at eln;clear hy ly;try dsimp only
 refine ak λM2 K2=>⟨_,rfl,∅,∅,sC (J:=Itr 0 7) (n:=7) (x:=λj=>.int (0+j)) (λj y _=>∃n:Int,y=.int n/\0<=n/\n<3) (ax ∅) (λ_ _=>KD _) (λ_ _ h _=>h) (λ_ _ _ _ _ _ y=>y) (λb j H2 G hj s2 kk=>⟨a,ns,2,rfl,(s1.trans s2).seq hA,∅,cellAt ns 2,j,3,(by rw[MG];rfl),(),∅,λm H3 m0 m1 s3=>kk _ _ s3 ⟨m,rfl,m0,m1⟩⟩) (λ_ _ _ _ _ h=>h) (λ_ _ _ _ _ _ _ h=>h) (λlk H2 ys lk0 s2 elk ly hy=>K2 _ _ ?_)⟩;obtain⟨rk,rfl,hrk⟩:=IW ly hy;clear hy ly;have s12:=s1.trans s2;have eln2:=s2 _ _ eln;try dsimp only
 refine ak λM3 K3=>⟨a,ns,2,rfl,s12.seq hA,∅,cellAt ns 2,0,4,rfl,∅,∅,λm H3 m0 m1 s3=>K3 _ _ ?_⟩;obtain⟨z,hz⟩:∃z:Int,z=1+m:=⟨_,rfl⟩;rw[<-hz];have z1:1<=z:=()
 have z4:z<=4:=()
 have s13:=s12.trans s3;have eln3:=s3 _ _ eln2;have elk3:=s3 _ _ elk;have ln1:H ln=Ua:=ln0;clear s1 s2 s3 s12 eln eln2 elk lk0 ln0 hz m0 m1;have nm:∀(Hc:Hp),aq H3 Hc->SqL K Hc ln (nmL N):=λHc z=>SqL.of (z _ _ eln3);have rm:∀(Hc:Hp),aq H3 Hc->SqL K Hc lk (rkL rk):=λHc z=>SqL.of (z _ _ elk3);try dsimp only
 refine ak λM4 K4=>?_;have D0:Hs N H3 H3 [] []:=⟨aq.refl _,.nil⟩;refine lix (nm _ D0.s) (gW N (i:=0) ∅) ⟨by show 3<=sizeLine;decide,λt0 ht0=>?_⟩;have D1:=D0.add ht0 (.hand 0 0) rfl [V.str "hand",.str (N 0),.int 0] rfl;generalize upd H3 t0 _=X1 at D1⊢;refine lix (nm _ D1.s) (gW N (i:=1) ∅) ⟨by show 3<=sizeLine;decide,λt1 ht1=>?_⟩;have D2:=D1.add ht1 (.hand 1 1) rfl [V.str "hand",.str (N 1),.int 1] rfl;generalize upd X1 t1 _=X2 at D2⊢;refine lix (nm _ D2.s) (gW N (i:=2) ∅) ⟨by show 3<=sizeLine;decide,λt2 ht2=>?_⟩;have D3:=D2.add ht2 (.hand 2 2) rfl [V.str "hand",.str (N 2),.int 2] rfl;generalize upd X2 t2 _=X3 at D3⊢;refine⟨by show 3<=sizeLine;decide,λL1 hL1=>?_⟩;obtain⟨sL1,eL1⟩:=alc hL1 (HO.lst [V.ref t0,.ref t1,.ref t2]);generalize upd X3 L1 _=X4 at sL1 eL1⊢;have D4:=D3.to sL1;clear D0 D1 D2 D3 sL1 hL1 ht0 ht1 ht2;refine K4 _ _ ?_;try dsimp only
 refine ak λM5 K5=>lix (nm _ D4.s) (gW N (i:=3) ∅) (lix (rm _ D4.s) (sA rk (i:=0) ∅) ⟨(by show(0:Int)<2;decide),by show 4<=sizeLine;decide,λt3 ht3=>?_⟩);obtain⟨D5,x5⟩:=D4.sR eL1 ht3 (.giv 3 (2-rk 0%2) 0) rfl [V.str "given",.str (N 3),.int (2-rk 0%2),.int 0] rfl;generalize upd X4 t3 _=X5 at D5 x5⊢;refine lix (nm _ D5.s) (gW N (i:=4) ∅) (lix (rm _ D5.s) (sA rk (i:=1) ∅) ⟨by show 4<=sizeLine;decide,λt4 ht4=>?_⟩);obtain⟨D6,x6⟩:=D5.sR x5 ht4 (.giv 4 (rk 1) 0) rfl [V.str "given",.str (N 4),.int (rk 1),.int 0] rfl;generalize upd X5 t4 _=X6 at D6 x6⊢;refine⟨by show 2<=sizeLine;decide,λL2 hL2=>?_⟩;obtain⟨sL2,eL2⟩:=alc hL2 (HO.lst [V.ref t3,.ref t4]);generalize upd X6 L2 _=X7 at sL2 eL2⊢;refine⟨L1,L2,_,_,rfl,rfl,sL2 _ _ x6,eL2,(show 5<=sizeLine by decide),λL3 hL3=>?_⟩;obtain⟨sL3,eL3⟩:=alc hL3 (HO.lst ([V.ref t0,.ref t1,.ref t2]++[V.ref t3,.ref t4]));generalize upd X7 L3 _=X8 at sL3 eL3⊢;have D8:=D6.to (sL2.trans sL3);clear D4 D5 D6 x5 x6 sL2 eL2 sL3 hL2 hL3 ht3 ht4 eL1;refine K5 _ _ ?_;try dsimp only
 refine ak λM6 K6=>lix (nm _ D8.s) (gW N (i:=5) ∅) ⟨by show 4<=sizeLine;decide,λt5 ht5=>?_⟩;obtain⟨D9,x9⟩:=D8.sR eL3 ht5 (.giv 5 0 0) rfl [V.str "given",.str (N 5),.int 0,.int 0] rfl;generalize upd X8 t5 _=X9 at D9 x9⊢;refine lix (nm _ D9.s) (gW N (i:=6) ∅) (lix (rm _ D9.s) (sA rk (i:=2) ∅) ⟨by show 4<=sizeLine;decide,λt6 ht6=>?_⟩);obtain⟨D10,x10⟩:=D9.sR x9 ht6 (.giv 6 (rk 2) z) rfl [V.str "given",.str (N 6),.int (rk 2),.int z] rfl;generalize upd X9 t6 _=X10 at D10 x10⊢;refine⟨by show 2<=sizeLine;decide,λL4 hL4=>?_⟩;obtain⟨sL4,eL4⟩:=alc hL4 (HO.lst [V.ref t5,.ref t6]);generalize upd X10 L4 _=X11 at sL4 eL4⊢;refine⟨L3,L4,_,_,rfl,rfl,sL4 _ _ x10,eL4,(show 7<=sizeLine by decide),λL5 hL5=>?_⟩;obtain⟨sL5,eL5⟩:=alc hL5 (HO.lst ([V.ref t0,.ref t1,.ref t2]++[V.ref t3,.ref t4]++[V.ref t5,.ref t6]));generalize upd X11 L5 _=X12 at sL5 eL5⊢;have D12:=D10.to (sL4.trans sL5);clear D8 D9 D10 x9 x10 sL4 eL4 sL5 hL4 hL5 ht5 ht6 eL3;refine K6 _ _ ?_;try dsimp only
 refine ak λM7 K7=>lix (nm _ D12.s) (gW N (i:=7) ∅) ⟨by show 3<=sizeLine;decide,λt7 ht7=>?_⟩;obtain⟨D13,x13⟩:=D12.sR eL5 ht7 (.own 7 0) rfl [V.str "own",.str (N 7),.int 0] rfl;generalize upd X12 t7 _=X13 at D13 x13⊢;refine lix (nm _ D13.s) (gW N (i:=8) ∅) ⟨by show 3<=sizeLine;decide,λt8 ht8=>?_⟩;obtain⟨D14,x14⟩:=D13.sR x13 ht8 (.own 8 0) rfl [V.str "own",.str (N 8),.int 0] rfl;generalize upd X13 t8 _=X14 at D14 x14⊢;refine lix (nm _ D14.s) (gW N (i:=9) ∅) ⟨by show 3<=sizeLine;decide,λt9 ht9=>?_⟩;obtain⟨D15,x15⟩:=D14.sR x14 ht9 (.own 9 0) rfl [V.str "own",.str (N 9),.int 0] rfl;generalize upd X14 t9 _=X15 at D15 x15⊢;refine lix (nm _ D15.s) (gW N (i:=10) ∅) ⟨by show 3<=sizeLine;decide,λt10 ht10=>?_⟩;obtain⟨D16,x16⟩:=D15.sR x15 ht10 (.own 10 z) rfl [V.str "own",.str (N 10),.int z] rfl;generalize upd X15 t10 _=X16 at D16 x16⊢;refine⟨by show 4<=sizeLine;decide,λL6 hL6=>?_⟩;obtain⟨sL6,eL6⟩:=alc hL6 (HO.lst [V.ref t7,.ref t8,.ref t9,.ref t10]);generalize upd X16 L6 _=X17 at sL6 eL6⊢;refine⟨L5,L6,_,_,rfl,rfl,sL6 _ _ x16,eL6,(show 11<=sizeLine by decide),λL7 hL7=>?_⟩;obtain⟨sL7,eL7⟩:=alc hL7 (HO.lst ([V.ref t0,.ref t1,.ref t2]++[V.ref t3,.ref t4]++[V.ref t5,.ref t6]++[V.ref t7,.ref t8,.ref t9,.ref t10]));generalize upd X17 L7 _=X18 at sL7 eL7⊢;have D18:=D16.to (sL6.trans sL7);clear D12 D13 D14 D15 D16 x13 x14 x15 x16 sL6 eL6 sL7 hL6 hL7 ht7 ht8 ht9 ht10 eL5;refine K7 _ _ ?_;try dsimp only
 refine ak λM8 K8=>lix (nm _ D18.s) (gW N (i:=11) ∅) (lix (rm _ D18.s) (sA rk (i:=3) ∅) ⟨by show 3<=sizeLine;decide,λt11 ht11=>?_⟩);obtain⟨D19,x19⟩:=D18.sR eL7 ht11 (.lt 11 (rk 3)) rfl [V.str "let",.str (N 11),.int (rk 3)] rfl;generalize upd X18 t11 _=X19 at D19 x19⊢;refine lix (nm _ D19.s) (gW N (i:=12) ∅) (lix (rm _ D19.s) (sA rk (i:=4) ∅) ⟨(by show(0:Int)<2;decide),by show 3<=sizeLine;decide,λt12 ht12=>?_⟩);obtain⟨D20,x20⟩:=D19.sR x19 ht12 (.lt 12 (rk 4%2)) rfl [V.str "let",.str (N 12),.int (rk 4%2)] rfl;generalize upd X19 t12 _=X20 at D20 x20⊢;refine⟨by show 2<=sizeLine;decide,λL8 hL8=>?_⟩;obtain⟨sL8,eL8⟩:=alc hL8 (HO.lst [V.ref t11,.ref t12]);generalize upd X20 L8 _=X21 at sL8 eL8⊢;refine⟨L7,L8,_,_,rfl,rfl,sL8 _ _ x20,eL8,(show 13<=sizeLine by decide),λL9 hL9=>K8 _ _ ?_⟩;have L90':H L9=Ua:=aq.free (s13.trans (D20.to sL8).s) hL9;obtain⟨xs,hxs⟩:∃xs,xs=[V.ref t0,.ref t1,.ref t2]++[V.ref t3,.ref t4]++[V.ref t5,.ref t6]++[V.ref t7,.ref t8,.ref t9,.ref t10]++[V.ref t11,.ref t12]:=⟨_,rfl⟩;rw[<-hxs];obtain⟨sL9,eL9⟩:=alc hL9 (HO.lst xs);generalize upd X21 L9 _=X22 at sL9 eL9⊢;have D22:Hs N H3 X22 xs (cc rk z):=by
  rw[hxs];exact D20.to (sL8.trans sL9)
 clear D18 D19 D20 x19 x20 sL8 eL8 sL9 hL8 hL9 ht11 ht12 eL7 hxs;have s3:=D22.s;have t22:=s13.trans s3;have lx:xs.length=13:=by rw[D22.len];rfl
 have e22:=s3 _ _ eln3;have k22:=s3 _ _ elk3;have L90:H L9=Ua:=L90';try dsimp only
 refine ak λM9 K9=>⟨a,ns,2,rfl,t22.seq hA,∅,cellAt ns 2,5,13,rfl,∅,∅,λm X23 m0 m1 s23=>?_⟩;obtain⟨t,rfl⟩:∃t:Nat,m=(t:Int):=⟨m.toNat,()⟩;have tx:t<=xs.length:=()
 refine K9 _ _ ?_;try dsimp only
 refine ak λM10 K10=>⟨_,rfl,KG ⟨L9,_,rfl,SqL.of (s23 _ _ eL9),λp1 hp1=>?_⟩⟩;rw[Gn tx];obtain⟨s24,e24⟩:=alc hp1 (HO.lst (xs.drop t));generalize upd X23 p1 _=X24 at s24 e24⊢;refine⟨_,rfl,KG ⟨L9,_,rfl,SqL.of ((s23.trans s24) _ _ eL9),λp2 hp2=>?_⟩⟩;rw[HW tx];obtain⟨s25,e25⟩:=alc hp2 (HO.lst (xs.take t));generalize upd X24 p2 _=X25 at s25 e25⊢;refine⟨p1,p2,_,_,rfl,rfl,s25 _ _ e24,e25,sz (by rw[Mo,LA];omega),λLR hLR=>?_⟩;obtain⟨s26,e26⟩:=alc hLR (HO.lst (xs.drop t++xs.take t));generalize upd X25 LR _=X26 at s26 e26⊢;have s2226:=((s23.trans s24).trans s25).trans s26;have t26:=t22.trans s2226;have t25:=t22.trans ((s23.trans s24).trans s25);refine⟨_,cY.k (k:=.inr "rows") (t26 _ _ hS) (show 4<sizeLine by decide),K10 _ _ ?_⟩;rw[show Ue (st5 LR0 LV LD mode) (.inr "rows") (.ref LR)=st5 LR LV LD mode from rfl];have LR0':H LR=Ua:=aq.free t25 hLR;have LRS:LR≠S:=Ub LR0' hS;have LRV:LR≠LV:=Ub LR0' hV;have lnR:ln≠LR:=λz=>by
  have:=((s23.trans s24).trans s25) _ _ e22;rw[z,hLR]at this;cases this
 have lnS:ln≠S:=Ub ln1 hS;have lnV:ln≠LV:=Ub ln1 hV;have SV:S≠LV:=λz=>by
  rw[z,hV]at hS;have:=congrArg (λo:Option HO=>match o with|some (.dK l)=>l.length|_=>0) hS;revert this
  show ¬ (0=4);decide
 have LkS:lk≠S:=λz=>by
  have:=t22 _ _ hS;rw[<-z,k22]at this;cases this
 have LkV:lk≠LV:=λz=>by
  have:=t22 _ _ hV;rw[<-z,k22]at this;cases this
 have L9S:L9≠S:=Ub L90 hS;have L9V:L9≠LV:=Ub L90 hV;have g27:Go [S,LV] H [S,LV] (upd X26 S (.dK (st5 LR LV LD mode))):=(Go.new t26).trans (Go.at Ku _);have lr27:Paired (bS N (del [S,LR,LV] (upd X26 S (.dK (st5 LR LV LD mode))))) xs (cc rk z):=by
  refine Paired.cS D22.p λv h e=>?_;obtain⟨b,p,e1,e2,e3⟩:=e;have k:∀(x:NL)(o:HO),X22 x=T9 o->(∀y,o≠ .dK y)->del [S,LR,LV] (upd X26 S (.dK (st5 LR LV LD mode))) x=T9 o:=λx o e nd=>by
   have xS:x≠S:=λz=>by rw[z,t22 _ _ hS]at e;cases e;exact nd _ rfl
   have xV:x≠LV:=λz=>by rw[z,t22 _ _ hV]at e;cases e;exact nd _ rfl
   have xR:x≠LR:=λz=>by
    have:=((s23.trans s24).trans s25) _ _ e;rw[z,hLR]at this;cases this
   refine aK (λm=>?_) (ag xS (s2226 _ _ e));simp only[Kt,KH,or_false]at m;rcases m with m|m|m
   ·exact xS m
   ·exact xR m
   exact xV m
  refine⟨b,p,e1,k _ _ e2 (λy z=>by cases z),λo ho=>k _ _ (e3 o ho) (λy z=>?_)⟩;subst z;cases h<;>cases ho
 have S27:upd X26 S (.dK (st5 LR LV LD mode)) S=T9 (.dK (st5 LR LV LD mode)):=aj;have V27:=ag (u:=.dK (st5 LR LV LD mode)) SV.symm (t26 _ _ hV);have R27:=ag (u:=.dK (st5 LR LV LD mode)) LRS e26;have n27:=ag (u:=.dK (st5 LR LV LD mode)) lnS (s2226 _ _ e22);have k27:=ag (u:=.dK (st5 LR LV LD mode)) LkS (s2226 _ _ k22);have x27:=ag (u:=.dK (st5 LR LV LD mode)) L9S (s2226 _ _ eL9);generalize upd X26 S (.dK (st5 LR LV LD mode))=X27 at g27 lr27 S27 V27 R27 n27 k27 x27⊢;clear s2226 s26 s25 s24 s23 e26 e25 e24 hp1 hp2 hLR t26 t25 t22 e22 k22 D22 s3 s13 eL9 nm rm eln3 elk3;try dsimp only
 refine ak λM11 K11=>KG ⟨⟨_,SqL.of x27⟩,cL (K:=K) (xs:=xs) (λi σ Hc=>∃v7,σ=[T9 (.ref a),T9 (.ref S),T9 (.ref ln),T9 (.ref lk),T9 (.int z),T9 (.ref L9),T9 (.int t),v7,Ua,Ua]/\Go [LV] X27 [LV] Hc/\Hc LV=T9 (.dK (dk N (Od i) λj=>.int (v1 rk z j)))) ⟨Ua,rfl,Go.refl _ _,V27⟩ (λi σ Hc _ ⟨_,_,gc,_⟩=>SqL.of (gc.o _ _ (λm=>L9V (Ky.mp m)) x27)) ?_ ?_⟩
 ·rintro i v σ Hc hv ⟨v7,rfl,gc,eV⟩;obtain⟨h,hh,hat⟩:=bg lr27 hv;obtain⟨tt,ys,rfl,ey,a1,a2⟩:=JD hh hat;obtain⟨ny,ey⟩:=bq ey;have ty:Hc tt=T9 (.tup ys):=gc.o _ _ (λm=>ny (by rw[Ky.mp m];simp)) ey;have i13:i<13:=(KA.mp hh).1;have Sc:Hc S=T9 (.dK (st5 LR LV LD mode)):=gc.o _ _ (λm=>SV (Ky.mp m)) S27;try dsimp only
  refine KG ⟨_,_,Lg (SqT.of ty),a2,dgk Sc rfl (KG ⟨_,_,Lg (SqT.of ty),a1,⟨_,cY.k (k:=.inr (N i)) eV (ax (by rw[dS,Mh];omega)),_,rfl,gc.trans (Go.at Ku _),?_⟩⟩)⟩;rw[i8 D () (λj hj=>by have:=Lu.mp hj;omega) (λm=>by have:=Lu.mp m;omega),<-MN];rw[aj];congr 2;refine ir λj hj=>?_;by_cases e:j=i
  ·rw[e,fe]
  rw[jg _ _ e]
 rintro σ X28 ⟨v7,rfl,g28,V28⟩;rw[lx]at V28;refine K11 _ _ ?_;have nV1:∀x:NL,x≠LV->x∉[LV]:=λx h m=>h (Ky.mp m);have n28:=g28.o _ _ (nV1 _ lnV) n27;have k28:=g28.o _ _ (nV1 _ LkV) k27;have S28:=g28.o _ _ (nV1 _ SV) S27;try dsimp only
 refine ak λM12 K12=>⟨_,rfl,_,rfl,KG ⟨ln,_,rfl,SqL.of n28,λp3 hp3=>?_⟩⟩;rw[show iM (nmL N) (T9 7) (T9 11)=nV N [7,8,9,10]from rfl];obtain⟨s29,e29⟩:=alc hp3 (HO.lst (nV N [7,8,9,10]));generalize upd X28 p3 _=X29 at s29 e29⊢;refine lix (SqL.of (s29 _ _ k28)) (sA rk (i:=5) ∅) (lix (SqL.of (s29 _ _ k28)) (sA rk (i:=6) ∅) ⟨by show 4<=sizeLine;decide,λp4 hp4=>?_⟩);rw[show[V.int 0,V.int (rk 5),V.int 2,V.int (rk 6)]=(w4 rk).map V.int from rfl];obtain⟨s30,e30⟩:=alc hp4 (HO.lst ((w4 rk).map V.int));generalize upd X29 p4 _=X30 at s30 e30⊢;have s2830:=s29.trans s30;have V30:=s2830 _ _ V28;have S30:=s2830 _ _ S28;have n30:=s2830 _ _ n28;have e29':=s30 _ _ e29;have p3V:p3≠LV:=Ub hp3 V28;have p4V:p4≠LV:=Ub hp4 (s29 _ _ V28);have gA:Go [S,LV] H [S,LV] X30:=(g27.trans (g28.to' SV)).trans (Go.new s2830);refine⟨_,_,rfl,⟨_,SqL.of e29'⟩,⟨_,SqL.of e30⟩,An (K:=K) (xs:=nV N [7,8,9,10]) (ys:=(w4 rk).map V.int) (λi σ Hc=>∃v8 v9,σ=[T9 (.ref a),T9 (.ref S),T9 (.ref ln),T9 (.ref lk),T9 (.int z),T9 (.ref L9),T9 (.int t),v7,v8,v9]/\Go [LV] X30 [LV] Hc/\Hc LV=T9 (.dK (dk N (Od 13) λj=>.int (v2 rk z i j)))) ⟨Ua,Ua,rfl,Go.refl _ _,?_⟩ (λi σ Hc _ ⟨_,_,_,gc,_⟩=>⟨SqL.of (gc.o _ _ (nV1 _ p3V) e29'),SqL.of (gc.o _ _ (nV1 _ p4V) e30)⟩) rfl ?_ ?_⟩
 ·rw[V30,show(λj:Nat=>V.int (v2 rk z 0 j))=λj=>.int (v1 rk z j)from funext λj=>by unfold v2;rw[if_neg ()]]
 ·rintro i x y σ Hc tp hx hy ⟨v8,v9,rfl,gc,eV⟩ htp;have i4:i<4:=(KA.mp hx).1;have ex:x=.str (N (7+i)):=by
   have:=lt4 i ();rcases this with rfl|rfl|rfl|rfl<;>(cases hx;rfl)
  have ey:y=.int ((w4 rk).getD i 0):=by
   have:=lt4 i ();rcases this with rfl|rfl|rfl|rfl<;>(cases hy;rfl)
  subst ex ey;obtain⟨s4,e4⟩:=alc htp (HO.tup [V.str (N (7+i)),.int ((w4 rk).getD i 0)]);generalize upd Hc tp _=Hd at s4 e4⊢;have Sc:Hd S=T9 (.dK (st5 LR LV LD mode)):=s4 _ _ (gc.o _ _ (nV1 _ SV) S30);refine⟨tp,_,rfl,SqT.of e4,rfl,_,_,rfl,_,_,rfl,rfl,dgk Sc rfl ⟨_,cY.k (k:=.inr (N (7+i))) (s4 _ _ eV) (ax (by rw[dS,Mh];decide)),_,_,rfl,(gc.trans (Go.new s4)).trans (Go.at Ku _),?_⟩⟩;rw[yo D (λj hj=>by have:=Lu.mp hj;omega) (Lu.mpr ()),aj];congr 2;refine ir λj hj=>?_;unfold v2;by_cases e:j=7+i
  ·rw[e,fe,if_pos (),show 7+i-7=i by omega]
  rw[jg _ _ e];by_cases e2:7<=j/\j<7+i
  ·rw[if_pos e2,if_pos ()]
  rw[if_neg e2,if_neg ()]
 rintro σ X31 ⟨v8,v9,rfl,g31,V31⟩;have V31:X31 LV=T9 (.dK (dk N (Od 13) λj=>.int (v2 rk z 4 j))):=V31;refine K12 _ _ ?_;have S31:=g31.o _ _ (nV1 _ SV) S30;have n31:=g31.o _ _ (nV1 _ lnV) n30;try dsimp only
 refine ak λM13 K13=>⟨_,rfl,_,rfl,KG ⟨ln,_,rfl,SqL.of n31,λlm hlm=>?_⟩⟩;rw[show iM (nmL N) (T9 11) (T9 13)=nV N [11,12]from rfl];obtain⟨s32,e32⟩:=alc hlm (HO.lst (nV N [11,12]));generalize upd X31 lm _=X32 at s32 e32⊢;refine⟨_,cY.k (k:=.inr "marks") (s32 _ _ S31) (show 4<sizeLine by decide),K13 _ _ ?_⟩;rw[show Ue (st5 LR LV LD mode) (.inr "marks") (.ref lm)=st6 LR LV LD mode lm from rfl];have R31:=g31.o _ _ (nV1 _ LRV) (s2830 _ _ (g28.o _ _ (nV1 _ LRV) R27));have lmS:lm≠S:=Ub hlm S31;have lmR:lm≠LR:=Ub hlm R31;have g32:=(gA.trans (g31.to' SV)).trans (Go.new s32);have lm0:H lm=Ua:=by
  cases e:H lm with
  |none=>rfl
  |some o=>
   have lmV:lm≠LV:=Ub hlm V31;have:=(gA.trans (g31.to' SV)).o lm o (λm=>by
    simp only[Kt,KH,or_false]at m;rcases m with m|m
    ·exact lmS m
    exact lmV m) e
   rw[hlm]at this;cases this
 have g2731:Go [LV] X27 [LV] X32:=((g28.trans (Go.new s2830)).trans g31).trans (Go.new s32);refine q ln LR lm rk z t (xs.drop t++xs.take t) _ hrk z1 z4 (g32.trans (Go.at Ku _)) ln1 LR0' lm0 lnR lmR aj (ag SV.symm (s32 _ _ V31)) (ag LRS (s32 _ _ R31)) (ag lmS e32) (ag lnS (s32 _ _ n31)) ?_;have lrZ:Paired (bS N (del [S,LR,LV] (upd X32 S (.dK (st6 LR LV LD mode lm))))) xs (cc rk z):=Paired.cS lr27 λ_ _=>bS.same λx o e=>by
  obtain⟨m,e⟩:=bq e;refine aK m (ag (λy=>m (by rw[y];exact Ku)) (g2731.o _ _ (λy=>m ?_) e));rw[Ky.mp y];simp
 exact Paired.two (Paired.E6 t lrZ) (Paired.E3 t lrZ)
theorem bS.but{X X':Hp}{v:V}{r:Lr}(h:bS N X v r)(k:∀x o,X x=T9 o->(∀y,o≠ .dK y)->X' x=T9 o):bS N X' v r:=by
 obtain⟨b,p,e1,e2,e3⟩:=h;refine⟨b,p,e1,k _ _ e2 (λy z=>by cases z),λo ho=>k _ _ (e3 o ho) (λy z=>?_)⟩;subst z;cases r<;>cases ho
noncomputable def dJ:List Dl->List (List Tr)->List Lr
 |d::ds,b::bs=>.fT d.nm d.ps::(aX b++(.fin::dJ ds bs))
 |_,_=>[]
theorem pZ:∀{ds:List Dl}{bs:List (List Tr)}(d:Dl)(b:List Tr),ds.length=bs.length->dJ (ds++[d]) (bs++[b])=dJ ds bs++(.fT d.nm d.ps::(aX b++[.fin]))
 | [],[],_,_,_=>rfl
 |d'::ds,b'::bs,d,b,h=>by
  have:=pZ (ds:=ds) (bs:=bs) d b (by simpa using h);simp[dJ,this]
structure AY(lim:Int)(dls:List Dl)(bss:List (List Tr)):Prop where
 len:dls.length=bss.length
 l4:dls.length<=4
 nm:dls.map Dl.nm=(Od dls.length).map λj=>13+3*j
 ps:∀j d,dls[j]?=T9 d->∃m,m<=2/\d.ps=MJ (14+3*j) m
 sp:∀d∈dls,0<=d.sp/\(d.sp<=lim\/d.sp=0)
 bs:∀j d b,dls[j]?=T9 d->bss[j]?=T9 b->dU ([3,4,5]++([7,8,9]++d.ps)) ([7,8,9]++d.ps) (dls.take j) b/\(cB (dls.take j) 1 b<=d.sp)
 dp:∀b∈bss,dTs b<=4
structure sS(k:Nat)(vk:List Nat)(vw:Nat->Int):Prop where
 b:∀i∈vk,i<k/\0<=vw i/\vw i<=2
 h:∀i,i<13->i∈vk
 v9:vw 9=2
 v2:vw 2=2
 l:vk.length<=64
noncomputable def gY(f:Nat->Int)(i:Nat)(v:Int):Nat->Int:=λj=>if j=i then v else f j
theorem EZ(f:Nat->Int)(i:Nat)(v:Int):nz (λj=>V.int (f j)) i (.int v)=λj=>V.int (gY f i v j):=funext λj=>by
 unfold nz gY;split<;>rfl
theorem sS.put{k:Nat}{vk:List Nat}{vw:Nat->Int}(h:sS k vk vw){i:Nat}{v:Int}(h0:13<=i)(hi:i<k)(hv:0<=v/\v<=2)(hl:vk.length<=63):sS k (ins vk i) (gY vw i v):=by
 refine⟨λj hj=>?_,λj hj=>nj (h.h j hj),?_,?_,KR (kG _ _) ()⟩
 ·rcases uY hj with e|e
  ·subst e;exact⟨hi,by unfold gY;rw[if_pos rfl];exact hv⟩
  refine⟨(h.b j e).1,?_⟩;unfold gY;split
  ·exact hv
  exact(h.b j e).2
 ·unfold gY;rw[if_neg ()];exact h.v9
 unfold gY;rw[if_neg ()];exact h.v2
theorem sS.up{k k':Nat}{vk:List Nat}{vw:Nat->Int}(h:sS k vk vw)(e:k<=k'):sS k' vk vw:=⟨λi m=>⟨KY (h.b i m).1 e,(h.b i m).2⟩,h.h,h.v9,h.v2,h.l⟩
noncomputable def st8(LR LV LD:NL)(mode:Int)(lm LH LL:NL):List (Key×V):=[(.inr "rows",.ref LR),(.inr "view",.ref LV),(.inr "deeds",.ref LD),(.inr "mode",.int mode),(.inr "marks",.ref lm),(.inr "hands",.ref LH),(.inr "lists",.ref LL)]
theorem AW{i m:Nat}(hi:i<4)(hm:m<=2):iM (nmL N) (T9 (14+3*(0+(i:Int)))) (T9 (14+3*(0+(i:Int))+(m:Int)))=nV N (MJ (14+3*i) m):=by
 have a:=lt4 i ();have b:=lt3 m ();rcases a with rfl|rfl|rfl|rfl<;>rcases b with rfl|rfl|rfl<;>rfl
theorem uw{ns:List Int}{a m:Int}(h0:0<=a)(hm:0<=m):∃cs:List Int,iM (ns.map V.int) (T9 a) (T9 (a+m))=cs.map V.int/\(cs.length:Int)<=m:=by
 rw[Co];refine⟨_,rfl,?_⟩;obtain⟨a,rfl⟩:∃n:Nat,a=(n:Int):=⟨a.toNat,()⟩;obtain⟨m,rfl⟩:∃n:Nat,m=(n:Int):=⟨m.toNat,()⟩;rw[LA,Mo];have e:∀(d x:Nat),HT.sIx ns.length d (T9 (x:Int))=min x ns.length:=λd x=>by
  show(if(x:Int)<0 then((x:Int)+ns.length).toNat else min (x:Int).toNat ns.length)=min x ns.length;rw[if_neg (),LI]
 rw[show(a:Int)+(m:Int)=((a+m:Nat):Int) by omega,e,e];omega
structure Bt(N:Nat->Str)(S LR LV LD lm LH LL:NL)(mode:Int)(lim:Int)(Hc:Hp)(hds:List Lr)(rows:List V)(dls:List Dl)(bss:List (List Tr))(marks:List Nat)(vk:List Nat)(vw:Nat->Int):Prop where
 hS:Hc S=T9 (.dK (st8 LR LV LD mode lm LH LL))\/∃x1 x2 x3 x4 x5,Hc S=T9 (.dK (st8 LR LV LD mode lm LH LL++[(.inr "targets",x1),(.inr "numbers",x2),(.inr "open",x3),(.inr "spent",x4),(.inr "limit",x5)]))
 hR:Hc LR=T9 (.lst rows)
 hV:Hc LV=T9 (.dK (dk N vk λi=>.int (vw i)))
 hD:∃ts:Nat->NL,Hc LD=T9 (.dK (dk N (dls.map Dl.nm) λi=>.ref (ts i)))/\∀e∈dls,(ts e.nm≠LR/\Hc (ts e.nm)=T9 (.tup [.ref e.lp,.int e.sp]))/\e.lp≠LR/\Hc e.lp=T9 (.lst (nV N e.ps))
 hH:Hc LH=T9 (.lst (nV N [0,1,2]))
 hL:Hc LL=T9 (.lst (nV N [6,10]))
 hm:Hc lm=T9 (.lst (nV N marks))
 hr:Paired (bS N (del [LR] Hc)) rows (hds++dJ dls bss)
 ne:LH≠LR/\LL≠LR/\lm≠LR
 mks:∀m∈marks,m∈[11,12]
 ml:marks.length<=2
 dd:AY lim dls bss
 vd:∀e∈dls,e.nm∈vk/\∀p∈e.ps,p∈vk
structure A8(lim:Int)(lrs:List Lr)(rk:Nat->Int)(z:Int)(t:Nat)(dls:List Dl)(bss:List (List Tr))(mb:List Tr):Prop where
 e:lrs=rot t (cc rk z)++dJ dls bss++(.main::(aX mb++[.fin]))
 hk:∀i,0<=rk i/\rk i<=2
 hz:1<=z/\z<=4
 dd:AY (lim/4) dls bss
 ob:dU [3,4,5,7,8,9] [7,8,9] dls mb
 l:lrs.length<=200
 pay:∃sp,cB dls 1 mb<=sp/\(sp<=lim\/sp=0)
 dp:dTs mb<=4
theorem ke{α:Type}{xs:List α}{x y:α}{j:Nat}(h:(xs++[x])[j]?=T9 y):xs[j]?=T9 y/\j<xs.length\/j=xs.length/\y=x:=by
 by_cases e:j<xs.length
 ·rw[Mi e]at h;exact .inl ⟨h,e⟩
 rw[Mf ()]at h;have l:=(KA.mp h).1;have e2:j-xs.length=0:=by simpa using l
 rw[e2]at h;exact .inr ⟨(),(NP h).symm⟩
theorem AY.add{lim:Int}{dls:List Dl}{bss:List (List Tr)}(h:AY lim dls bss)(l:dls.length<4){d:Dl}{b:List Tr}(nm:d.nm=13+3*dls.length)(ps:∃m,m<=2/\d.ps=MJ (14+3*dls.length) m)
  (sp:0<=d.sp/\(d.sp<=lim\/d.sp=0)) (ob:dU ([3,4,5]++([7,8,9]++d.ps)) ([7,8,9]++d.ps) dls b) (pay:cB dls 1 b<=d.sp) (dp:dTs b<=4):AY lim (dls++[d]) (bss++[b]):=by
 refine⟨by simp[h.len],by simp;omega,?_,λj e hj=>?_,λe m=>?_,λj e b' hj hb=>?_,λx hx=>?_⟩
 ·rw[KZ,h.nm,KC,Lp,MN,KZ];simp[nm]
 ·rcases ke hj with⟨h1,_⟩|⟨h1,h2⟩
  ·exact h.ps j e h1
  subst h1 h2;exact ps
 ·rcases Kz.mp m with m|m
  ·exact h.sp e m
  rw[Ky.mp m];exact sp
 ·rcases ke hj with⟨h1,h2⟩|⟨h1,h2⟩
  ·rcases ke hb with⟨h3,_⟩|⟨h3,_⟩
   ·rw[P6 ()];exact h.bs j e b' h1 h3
   have:=h.len;omega
  rcases ke hb with⟨_,h4⟩|⟨_,h4⟩
  ·have:=h.len;omega
  subst h1 h2 h4;rw[P6 (KD _),Lm];exact⟨ob,pay⟩
 rcases Kz.mp hx with hx|hx
 ·exact h.dp x hx
 rw[Ky.mp hx]
 exact dp
theorem dR{xs:List V}:∀y,HO.lst xs≠ .dK y:=λ_ z=>by cases z
theorem oG{xs:List V}:∀y,HO.tup xs≠ .dK y:=λ_ z=>by cases z
theorem Bt.st{S LR LV LD lm LH LL:NL}{mode:Int}{lim:Int}{Hc:Hp}{hds:List Lr}{rows:List V}{dls:List Dl}{bss:List (List Tr)}{marks vk:List Nat}{vw:Nat->Int}(B:Bt N S LR LV LD lm LH LL mode lim Hc hds rows dls bss marks vk vw) :
  ∃kvs,Hc S=T9 (.dK kvs)/\L2.fB kvs (.inr "view")=T9 (.ref LV)/\L2.fB kvs (.inr "rows")=T9 (.ref LR)/\kvs.length<=12/\∀LT LN:NL,(Ue kvs (.inr "targets") (.ref LT)).length<=12/\L2.fB (Ue kvs (.inr "targets") (.ref LT)) (.inr "targets")=T9 (.ref LT)/\
   ∀g:Gc,g.LR=LR->g.LV=LV->g.LD=LD->g.mode=mode->g.LH=LH->g.LL=LL->g.LT=LT->g.LN=LN->(Ue (Ue kvs (.inr "targets") (.ref LT)) (.inr "numbers") (.ref LN)=EW g lm\/∃x y z,Ue (Ue kvs (.inr "targets") (.ref LT)) (.inr "numbers") (.ref LN)=EW g lm++[(.inr "open",x),(.inr "spent",y),(.inr "limit",z)]):=by
 rcases B.hS with h|⟨x1,x2,x3,x4,x5,h⟩
 ·refine⟨_,h,rfl,rfl,(show 7<=12 by decide),λLT LN=>⟨(show 8<=12 by decide),rfl,?_⟩⟩;rintro g rfl rfl rfl rfl rfl rfl rfl rfl;exact .inl rfl
 refine⟨_,h,rfl,rfl,(show 12<=12 by decide),λLT LN=>⟨(show 12<=12 by decide),rfl,?_⟩⟩
 rintro g rfl rfl rfl rfl rfl rfl rfl rfl
 exact .inr ⟨x3,x4,x5,rfl⟩
inductive wW(K:NO)(vs:List V)(H:Hp)(Q:VK)(Z:XK):Prop
 |mk(a:NL)(ns:List Int)(mode:Int)(lim:Int):vs=[.ref a,.int mode,.int lim]->SqL K H a (ns.map V.int)->(∀(LR:NL)(rows:List V)(lrs:List Lr)(rk:Nat->Int)(z:Int)(t:Nat)(dls:List Dl)(bss:List (List Tr))(mb:List Tr)(H':Hp),aq H H'->H LR=Ua->H' LR=T9 (.lst rows)->Paired (bS (nmV (cellAt ns 1)) (del [LR] H')) rows lrs->A8 lim lrs rk z t dls bss mb->Q (.ref LR) H')->wW K vs H Q Z
inductive IvV(N:Nat->Str)(a S LV ln lp:NL)(mode lim c at_ r:Int)(v13:Option V)(He:Hp)(vk1 ps:List Nat)(i:Nat)(j:Nat)(σ:St)(Hx:Hp):Prop
 |mk(vk2:List Nat)(vw2:Nat->Int)(v12:Option V):σ=[T9 (.ref a),T9 (.int mode),T9 (.int lim),T9 (.ref S),T9 (.ref ln),T9 (.int c),T9 (.int at_),T9 (.int (0+(i:Int))),T9 (.int r),T9 (.str (N (13+3*i))),T9 (.ref lp),v12,v13]->Go [LV] He [LV] Hx->Hx LV=T9 (.dK (dk N vk2 λj=>.int (vw2 j)))->sS (13+3*(i+1)) vk2 vw2->(∀j∈vk1,j∈vk2)->(∀p∈ps.take j,p∈vk2)->vk2.length<=13+3*i+1+j->IvV N a S LV ln lp mode lim c at_ r v13 He vk1 ps i j σ Hx
inductive IvW(N:Nat->Str)(a S LR LV LD LH LL ln:NL)(mode lim c z:Int)(H9:Hp)(rk:Nat->Int)(t:Nat)(i:Nat)(σ:St)(Hc:Hp):Prop
 |mk(lm:NL)(rows:List V)(dls:List Dl)(bss:List (List Tr))(marks vk:List Nat)(vw:Nat->Int)(at_:Int)(v8 v9 v10 v11 v12 v13:Option V):σ=[T9 (.ref a),T9 (.int mode),T9 (.int lim),T9 (.ref S),T9 (.ref ln),T9 (.int c),T9 (.int at_),v8,v9,v10,v11,v12,v13]->0<=at_->dls.length=i->Go [S,LR,LV,LD] H9 [S,LR,LV,LD] Hc->Bt N S LR LV LD lm LH LL mode (lim/4) Hc (rot t (cc rk z)) rows dls bss marks vk vw->sS (13+3*i) vk vw->rows.length<=13+14*i->vk.length<=13+3*i->IvW N a S LR LV LD LH LL ln mode lim c z H9 rk t i σ Hc
theorem Eo(T:Txt K mg A):T.pB.Hz P w base 8 (wW K):=by
 have M4:=@mB P w _ _ base _ T;refine T.pB.hs (k:=7) bU (λf cdv A' outer s H vs Q E' hr hu h=>?_);obtain⟨a,ns,mode,lim,rfl,hA,q⟩:=h;have D:=qG (cellAt ns 1);obtain⟨N,eN⟩:∃N,N=nmV (cellAt ns 1):=⟨_,rfl⟩;rw[<-eN]at D q;refine⟨_,(ae (pst 3 bU.nd (qy (cG ao (bA af) (cG ao (eM) (cG ao (eM) (cG ao (fv 1) (qz))))) rfl rfl (by intro z;cases z) ∅))
 (ae (pst 4 bU.nd (ar (Ef T) hr (fv 0^fv 3^af)))
 (ae (bo (cM eU (fv 4) nr (bY ab)) (bz (fv 3) ao (bu hu Uc)))
 (ae (bo (bA (px hu (fv 4) ab^px hu (fv 4) ab^af)) (bz (fv 3) ao (bu hu Uc)))
 (ae (pst 5 bU.nd (ar (yQ T) hr (fv 0^ab^af)))
 (ae (pst 6 bU.nd ab)
 (ae (df Oa rfl (hZ rfl T.g8 (ar M4 hr (fv 5^ab^ab^af)^af)) (pgn (i:=7) bU.nd rfl)
  (ae (pst 8 bU.nd (ar M4 hr (fv 5^aw bC ab (fv 7)^ab^af)))
  (ae (pst 9 bU.nd (px hu (fv 4) (aw bC ab (aw dg ab (fv 7)))))
  (ae (pst 10 bU.nd (cM eU (fv 4) (bY (aw bC ab (aw dg ab (fv 7)))) (bY (aw bC (aw bC ab (aw dg ab (fv 7))) (ar M4 hr (fv 5^aw bC ab (fv 7)^ab^af))))))
  (ae (bo (fv 8) (bz (px hu (fv 3) ao) (fv 9) (bu hu Uc)))
  (ae (df Oa rfl (cA (fv 10)) (pgn (i:=11) bU.nd rfl)
   (ah (bo (pcB Bf T.sG (fv 8^ar M4 hr (fv 5^ab^ab^af)^af)) (bz (px hu (fv 3) ao) (fv 11) (bu hu Uc)))))
  (ae (aI (cw (px hu (fv 3) ao) (bp (ao^fv 9^fv 10^af)^af)))
  (ae (bo (aw bC (cM eU (fv 4) (bY ab) (bY ab)) (fv 10)) (bz (fv 3) ao (bu hu Uc)))
  (ae (bo (aw bC (cM eU (fv 4) (bY ab) (bY ab)) (px hu (fv 3) ao)) (bz (fv 3) ao (bu hu Uc)))
  (ae (pst 12 bU.nd (ar M4 hr (fv 5^aw oT ab (fv 7)^ab^af)))
  (ae (aI (ar (BX T) hr (fv 3^cM eU (fv 0) (bY (fv 6)) (bY (aw bC (fv 6) (fv 12)))^fv 8^aw cE (fv 2) ab^af)))
  (ae (bo (bp (fv 10^px hu (fv 3) ao^af)) (bz (px hu (fv 3) ao) (fv 9) (bu hu Uc)))
  (ah (pst 6 bU.nd (aw bC (fv 6) (fv 12))))))))))))))))
 (ae (aI (cw (px hu (fv 3) ao) (bp (ao^af)^af)))
 (ae (bo (cM eU (fv 4) (bY ab) (bY ab)) (bz (fv 3) ao (bu hu Uc)))
 (ae (bo (aw bC (cM eU (fv 4) (bY ab) (bY ab)) (px hu (fv 3) ao)) (bz (fv 3) ao (bu hu Uc)))
 (ae (aI (ar (BX T) hr (fv 3^cM eU (fv 0) (bY (fv 6)) (bY (aw bC (fv 6) ab))^ab^fv 2^af)))
 (ah (aB (px hu (fv 3) ao)))))))))))))),?_⟩
 refine ak λM1 K1 S hS0=>?_;obtain⟨s1,e1⟩:=alc hS0 (HO.dK []);generalize upd H S _=H1 at s1 e1⊢;refine⟨KW _,λL0 hL0=>?_⟩;obtain⟨s2,e2⟩:=alc hL0 (HO.lst []);generalize upd H1 L0 _=H2 at s2 e2⊢;refine λLV hLV=>?_;obtain⟨s3,e3⟩:=alc hLV (HO.dK []);generalize upd H2 LV _=H3 at s3 e3⊢;refine λLD hLD=>?_;obtain⟨s4,e4⟩:=alc hLD (HO.dK []);generalize upd H3 LD _=H4 at s4 e4⊢;have s24:=(s2.trans s3).trans s4;refine⟨s24 _ _ e1,[((.inr "rows":Key),.ref L0),(.inr "view",.ref LV),(.inr "deeds",.ref LD),(.inr "mode",.int mode)],rfl,(show 4<=15 by decide),K1 _ _ ?_⟩;rw[show cm [] [((.inr "rows":Key),V.ref L0),(.inr "view",.ref LV),(.inr "deeds",.ref LD),(.inr "mode",.int mode)]=st5 L0 LV LD mode from rfl];have VS:LV≠S:=Ub hLV ((s2) _ _ e1);have DS:LD≠S:=Ub hLD ((s2.trans s3) _ _ e1);have DV:LD≠LV:=Ub hLD e3;have S0:H S=Ua:=hS0;have V0:H LV=Ua:=aq.free (s1.trans s2) hLV;have D0:H LD=Ua:=aq.free ((s1.trans s2).trans s3) hLD;have t4:=s1.trans s24;have g5:Go [S] H [S] (upd H4 S (.dK (st5 L0 LV LD mode))):=(Go.new t4).trans (Go.at Ku _);have k5:aq H (upd H4 S (.dK (st5 L0 LV LD mode))):=g5.keep (aq.refl _) (λx m=>by rw[Ky.mp m];exact S0);have S5:upd H4 S (.dK (st5 L0 LV LD mode)) S=T9 (.dK (st5 L0 LV LD mode)):=aj;have V5:upd H4 S (.dK (st5 L0 LV LD mode)) LV=T9 (.dK []):=ag VS (s4 _ _ e3);have D5:upd H4 S (.dK (st5 L0 LV LD mode)) LD=T9 (.dK []):=ag DS e4;generalize upd H4 S (.dK (st5 L0 LV LD mode))=H5 at k5 S5 V5 D5⊢;clear g5 t4 s24 s4 s3 s2 s1 e1 e2 e3 e4 hLD hLV hL0 hS0;try dsimp only
 refine ak λM2 K2=>⟨a,S,L0,LV,LD,ns,mode,rfl,k5.seq hA,S5,V5,λln LR lm rk z t rows0 H6 hrk z1 z4 g6 ln5 LR5 lm5 lnR lmR S6 V6 R6 m6 n6 lr6=>?_⟩;rw[<-eN]at V6 m6 n6 lr6;have nSV:∀x,x≠S->x≠LV->x∉[S,LV]:=λx h1 h2 m=>by
  simp only[Kt,KH,or_false]at m;rcases m with m|m
  ·exact h1 m
  exact h2 m
 have RS:LR≠S:=Ub LR5 S5;have RV:LR≠LV:=Ub LR5 V5;have RD:LR≠LD:=Ub LR5 D5;have LR0:H LR=Ua:=aq.free k5 LR5;have D6:=g6.o _ _ (nSV _ DS DV) D5;have k6:aq H H6:=g6.keep k5 (λx m=>by
  simp only[Kt,KH,or_false]at m;rcases m with m|m
  ·rw[m];exact S0
  rw[m];exact V0)
 have lnS:ln≠S:=Ub ln5 S5;have lnV:ln≠LV:=Ub ln5 V5;have lnD:ln≠LD:=Ub ln5 D5;have lmS:lm≠S:=Ub lm5 S5;have lmV:lm≠LV:=Ub lm5 V5;have lmD:lm≠LD:=Ub lm5 D5;have ln0:H ln=Ua:=aq.free k5 ln5;clear g6 k5 S5 V5 D5 ln5 LR5 lm5;refine K2 _ _ ?_;try dsimp only
 refine ak λM3 K3=>⟨_,rfl,KG ⟨ln,_,rfl,SqL.of n6,λLH hLH=>?_⟩⟩;rw[show iM (nmL N) Ua (T9 3)=nV N [0,1,2]from rfl];obtain⟨s7,e7⟩:=alc hLH (HO.lst (nV N [0,1,2]));generalize upd H6 LH _=H7 at s7 e7⊢;have HS:LH≠S:=Ub hLH S6;have HV:LH≠LV:=Ub hLH V6;have HR:LH≠LR:=Ub hLH R6;have HD:LH≠LD:=Ub hLH D6;refine⟨_,cY.k (k:=.inr "hands") (s7 _ _ S6) (show 5<sizeLine by decide),K3 _ _ ?_⟩;try dsimp only
 refine ak λM4 K4=>lix (SqL.of (ag lnS (s7 _ _ n6))) (gW N (i:=6) ∅) (lix (SqL.of (ag lnS (s7 _ _ n6))) (gW N (i:=10) ∅) ⟨by show 2<=sizeLine;decide,λLL hLL=>?_⟩);have LLS:LL≠S:=Ub hLL aj;have hLL7:H7 LL=Ua:=by rw[ay LLS]at hLL;exact hLL
 have LLV:LL≠LV:=Ub hLL7 (s7 _ _ V6);have LLR:LL≠LR:=Ub hLL7 (s7 _ _ R6);have LLD:LL≠LD:=Ub hLL7 (s7 _ _ D6);have LLH:LL≠LH:=Ub hLL7 e7;refine⟨_,cY.k (k:=.inr "lists") (ag LLS.symm aj) (show 6<sizeLine by decide),?_⟩;have go8:∀(x:NL)(o:HO),x≠S->H7 x=T9 o->upd (upd (upd H7 S (.dK (Ue (st6 LR LV LD mode lm) (.inr "hands") (.ref LH)))) LL (.lst [.str (N 6),.str (N 10)])) S (.dK (Ue (Ue (st6 LR LV LD mode lm) (.inr "hands") (.ref LH)) (.inr "lists") (.ref LL))) x=T9 o:=λx o h e=>ag h (ag (λz=>by rw[z,hLL7]at e;cases e) (ag h e));have S8:upd (upd (upd H7 S (.dK (Ue (st6 LR LV LD mode lm) (.inr "hands") (.ref LH)))) LL (.lst [.str (N 6),.str (N 10)])) S (.dK (Ue (Ue (st6 LR LV LD mode lm) (.inr "hands") (.ref LH)) (.inr "lists") (.ref LL))) S=T9 (.dK (st8 LR LV LD mode lm LH LL)):=aj;have L8:upd (upd (upd H7 S (.dK (Ue (st6 LR LV LD mode lm) (.inr "hands") (.ref LH)))) LL (.lst [.str (N 6),.str (N 10)])) S (.dK (Ue (Ue (st6 LR LV LD mode lm) (.inr "hands") (.ref LH)) (.inr "lists") (.ref LL))) LL=T9 (.lst (nV N [6,10])):=ag LLS aj;generalize upd (upd (upd H7 S (.dK (Ue (st6 LR LV LD mode lm) (.inr "hands") (.ref LH)))) LL (.lst [.str (N 6),.str (N 10)])) S (.dK (Ue (Ue (st6 LR LV LD mode lm) (.inr "hands") (.ref LH)) (.inr "lists") (.ref LL)))=H8 at go8 S8 L8⊢;have k8:aq H H8:=λx o e=>go8 x o (λz=>by rw[z,S0]at e;cases e) (s7 _ _ (k6 _ _ e));have n8:=go8 _ _ lnS (s7 _ _ n6);have hd0:sS 13 (Od 13) (v2 rk z 4):=by
  refine⟨λi m=>⟨Lu.mp m,?_⟩,λi h=>Lu.mpr h,rfl,rfl,∅⟩;have i13:=Lu.mp m;have r0:=hrk 0;have r1:=hrk 1;have r2:=hrk 2;have r3:=hrk 3;have r4:=hrk 4;have r5:=hrk 5;have r6:=hrk 6;have:=Ib i ();rcases this with rfl|rfl|rfl|rfl|rfl|rfl|rfl|rfl|rfl|rfl|rfl|rfl|rfl<;>(simp[v2,v1,w4];try omega)
 have B8:Bt N S LR LV LD lm LH LL mode (lim/4) H8 (rot t (cc rk z)) rows0 [] [] [11,12] (Od 13) (v2 rk z 4):=by
  refine⟨.inl S8,go8 _ _ RS (s7 _ _ R6),go8 _ _ VS (s7 _ _ V6),⟨λ_=>S,go8 _ _ DS (s7 _ _ D6),λe m=>by cases m⟩,go8 _ _ HS e7,L8,go8 _ _ lmS (s7 _ _ m6),?_,⟨HR,LLR,lmR⟩,λ_ h=>h,∅,⟨rfl,∅,rfl,λj d e=>(by cases e),λd m=>(by cases m),λj d b e=>(by cases e),λb m=>(by cases m)⟩,λe m=>(by cases m)⟩;rw[show dJ [] []=[]from rfl,Lv];refine Paired.cS lr6 λv h l=>l.but λx o e nd=>?_;obtain⟨m,e⟩:=bq e;simp only[Kt,KH,or_false,not_or]at m;exact aK (λy=>m.2.1 (Ky.mp y)) (go8 _ _ m.1 (s7 _ _ e))
 have lr0:(rot t (cc rk z)).length=13:=by
  unfold rot;rw[KC,Mo,LA];show 13-t+min t 13=13;omega
 clear go8 S8 L8 s7 e7 k6 hLL hLL7 hLH S6 V6 R6 m6 n6 lr6 D6;refine K4 _ _ ?_;try dsimp only
 refine ak λM5 K5=>⟨a,ns,3,rfl,k8.seq hA,∅,K5 _ _ ?_⟩;obtain⟨c,hc⟩:∃c,c=cellAt ns 3:=⟨_,rfl⟩;rw[<-hc];try dsimp only
 refine ak λM6 K6=>K6 _ _ ?_;try dsimp only
 refine ak λM7 K7=>⟨c,0,5,rfl,∅,∅,λn H9 n0 n1 s9=>?_⟩;obtain⟨n,rfl⟩:∃k:Nat,n=(k:Int):=⟨n.toNat,()⟩;refine⟨n,rfl,(),(),?_⟩;rw[LI];have k9:aq H H9:=k8.trans s9;have n9:=s9 _ _ n8;have B9:Bt N S LR LV LD lm LH LL mode (lim/4) H9 (rot t (cc rk z)) rows0 [] [] [11,12] (Od 13) (v2 rk z 4):=by
  obtain⟨ts,h1,_⟩:=B8.hD;refine⟨?_,s9 _ _ B8.hR,s9 _ _ B8.hV,⟨ts,s9 _ _ h1,λe m=>by cases m⟩,s9 _ _ B8.hH,s9 _ _ B8.hL,s9 _ _ B8.hm,Paired.cS B8.hr λv h l=>l.same (Go.new s9).same,B8.ne,B8.mks,B8.ml,B8.dd,B8.vd⟩;rcases B8.hS with h|⟨x1,x2,x3,x4,x5,h⟩
  ·exact .inl (s9 _ _ h)
  exact .inr ⟨x1,x2,x3,x4,x5,s9 _ _ h⟩
 have l0:rows0.length=13:=by
  have:=NV B8.hr;rw[this,KC,lr0];rfl
 have fr0:∀x∈[S,LR,LV,LD],H x=Ua:=λx m=>by
  simp only[Kt,KH,or_false]at m;rcases m with m|m|m|m
  ·rw[m];exact S0
  ·rw[m];exact LR0
  ·rw[m];exact V0
  rw[m];exact D0
 have ln4:ln∉[S,LR,LV,LD]:=λm=>by
  simp only[Kt,KH,or_false]at m;rcases m with m|m|m|m
  ·exact lnS m
  ·exact lnR m
  ·exact lnV m
  exact lnD m
 clear B8 k8 n8 s9;refine mY (lo:=0) (IvW N a S LR LV LD LH LL ln mode lim c z H9 rk t) ⟨lm,rows0,[],[],[11,12],_,_,8,Ua,Ua,Ua,Ua,Ua,Ua,rfl,∅,rfl,Go.refl _ _,B9,hd0,(),by show 13<=13;decide⟩ ?_ ?_
 ·rintro i σ Hc hi ⟨lm,rows,dls,bss,marks,vk,vw,at_,v8,v9,v10,v11,v12,v13,rfl,at0,dl,gc,B,W0,rl,vl⟩;have i4:i<4:=()
  have kc:aq H Hc:=gc.keep k9 fr0;have nc:=gc.o _ _ ln4 n9;obtain⟨kvs,eS,gv,gr,lk,fin⟩:=B.st;have GV:∀Hx:Hp,Hx S=T9 (.dK kvs)->cP Hx S (.str "view") (T9 (.ref LV)):=λHx e=>by rw[<-gv];exact cP.k (k:=.inr "view") e
  have GR:∀Hx:Hp,Hx S=T9 (.dK kvs)->cP Hx S (.str "rows") (T9 (.ref LR)):=λHx e=>by rw[<-gr];exact cP.k (k:=.inr "rows") e
  try dsimp only
  refine ak λN1 J1=>⟨c,1+i,3,(congrArg (λx:Int=>[V.int c,V.int x,V.int 3]) (show 1+(0+(i:Int))=((1+i:Nat):Int) by omega)),(),∅,λr Ha r0 r1 sa=>J1 _ _ ?_⟩;try dsimp only
  refine ak λN2 J2=>⟨KG ⟨∅,∅⟩,(lix (SqL.of (sa _ _ nc)) (by rw[show 13+3*(0+(i:Int))=((13+3*i:Nat):Int) by omega];exact gW N ()) (J2 _ _ ?_))⟩;try dsimp only
  refine ak λN3 J3=>⟨KG ⟨∅,∅⟩,_,rfl,KG ⟨∅,∅⟩,c,3+i,3,(congrArg (λx:Int=>[V.int c,V.int x,V.int 3]) (show 3+(0+(i:Int))=((3+i:Nat):Int) by omega)),(),∅,λm Hb m0 m1 sb=>⟨_,rfl,KG ⟨ln,_,rfl,SqL.of ((sa.trans sb) _ _ nc),λlp hlp=>J3 _ _ ?_⟩⟩⟩;obtain⟨m,rfl⟩:∃k:Nat,m=(k:Int):=⟨m.toNat,()⟩;rw[AW i4 ()];obtain⟨ps,hps⟩:∃ps,ps=MJ (14+3*i) m:=⟨_,rfl⟩;rw[<-hps];have pm:∀p∈ps,14+3*i<=p/\p<14+3*i+m:=λp hp=>by rw[hps]at hp;simpa using Nj.mp hp
  have pl:ps.length=m:=by rw[hps];simp
  obtain⟨sc,ec⟩:=alc hlp (HO.lst (nV N ps));generalize upd Hb lp _=Hd at sc ec⊢;have sd:=(sa.trans sb).trans sc;have lpR:lp≠LR:=Ub hlp ((sa.trans sb) _ _ B.hR);have lpS:lp≠S:=Ub hlp ((sa.trans sb) _ _ eS);have lpV:lp≠LV:=Ub hlp ((sa.trans sb) _ _ B.hV);clear hlp;try dsimp only
  refine ak λN4 J4=>⟨_,GV _ (sd _ _ eS),_,cY.k (k:=.inr (N (13+3*i))) (sd _ _ B.hV) (ax (by rw[dS];omega)),J4 _ _ ?_⟩;rw[u3 D () (λj hj=>by have:=(W0.b j hj).1;omega),EZ];have V1:sS (13+3*(i+1)) (ins vk (13+3*i)) (gY vw (13+3*i) r):=(W0.up ()).put () () ⟨r0,()⟩ ();have nk:13+3*i∈ins vk (13+3*i):=sk _ _;have ok1:∀j∈vk,j∈ins vk (13+3*i):=λj h=>nj h;have lk1:=kG vk (13+3*i);generalize ins vk (13+3*i)=vk1 at V1 nk ok1 lk1⊢;generalize gY vw (13+3*i) r=vw1 at V1⊢;have ge:Go [LV] Hc [LV] (upd Hd LV (.dK (dk N vk1 λj=>.int (vw1 j)))):=(Go.new sd).trans (Go.at Ku _);have eV:upd Hd LV (.dK (dk N vk1 λj=>.int (vw1 j))) LV=T9 (.dK (dk N vk1 λj=>.int (vw1 j))):=aj;have ep:=ag (u:=.dK (dk N vk1 λj=>.int (vw1 j))) lpV ec;generalize upd Hd LV (.dK (dk N vk1 λj=>.int (vw1 j)))=He at ge eV ep⊢;have nV1:∀x:NL,x≠LV->x∉[LV]:=λx h m=>h (Ky.mp m);clear sc sd sa sb ec;try dsimp only
  refine ak λN5 J5=>KG ⟨⟨_,SqL.of ep⟩,cL (K:=K) (xs:=nV N ps) (IvV N a S LV ln lp mode lim c at_ r v13 He vk1 ps i) ⟨vk1,vw1,v12,rfl,Go.refl _ _,eV,V1,λ_ h=>h,λp hp=>(by cases hp),()⟩ (λj σ Hx _ ⟨_,_,_,_,gx,_,_,_,_,_⟩=>SqL.of (gx.o _ _ (nV1 _ lpV) ep)) ?_ ?_⟩
  ·rintro j v σ Hx hv ⟨vk2,vw2,v12,rfl,gx,eV2,V2,ok2,pk2,lk2⟩;rw[KO]at hv;obtain⟨p,hp,rfl⟩:=Ly.mp hv;have pb:=pm p (KI hp);have jl:j<ps.length:=(KA.mp hp).1;try dsimp only
   refine⟨c,5,3,rfl,∅,∅,λm2 Hy h0 h1 sy=>⟨_,_,rfl,?_⟩⟩;obtain⟨u,hu'⟩:∃u:Int,u=if m2>r then m2 else r:=⟨_,rfl⟩
   rw[<-hu'];have ub:0<=u/\u<=2:=by rw[hu'];split<;>omega
   refine⟨_,GV _ (sy _ _ (gx.o _ _ (nV1 _ VS.symm) (ge.o _ _ (nV1 _ VS.symm) eS))),_,cY.k (k:=.inr (N p)) (sy _ _ eV2) (ax (by rw[dS];omega)),ins vk2 p,gY vw2 p u,_,rfl,(gx.trans (Go.new sy)).trans (Go.at Ku _),?_,V2.put () () ub (),λj h=>nj (ok2 j h),λx hx=>?_,KR (kG _ _) ()⟩
   ·rw[u3 D () (λj hj=>by have:=(V2.b j hj).1;omega),EZ,aj]
   rw[Lx,hp]at hx;rcases Kz.mp hx with h|h
   ·exact nj (pk2 x h)
   have:x=p:=by simpa using h
   rw[this];exact sk _ _
  rintro σ Hf ⟨vk2,vw2,v12',rfl,gx,eV2,V2,ok2,pk2,lk2⟩;rw[Kx,Lm]at pk2;rw[Kx]at lk2;refine J5 _ _ ?_;have gf:Go [LV] Hc [LV] Hf:=ge.trans gx;have Sf:=gf.o _ _ (nV1 _ VS.symm) eS;have Rf:=gf.o _ _ (nV1 _ RV) B.hR;have pf:=gx.o _ _ (nV1 _ lpV) ep;have nf:=gf.o _ _ (nV1 _ lnV) nc;try dsimp only
  refine ak λN6 J6=>⟨_,GR _ Sf,KG ⟨rfl,_,SqL.of Rf⟩,by show 3<=sizeLine;decide,λtd htd=>?_⟩;have tdR:td≠LR:=Ub htd Rf;refine⟨_,_,_,rfl,rfl,ag tdR.symm Rf,ax (),J6 _ _ ?_⟩;have tdS:td≠S:=Ub htd Sf;have tdV:td≠LV:=Ub htd eV2;have tdp:td≠lp:=Ub htd pf;have gg:Go [S,LR,LV] Hc [S,LR,LV] (upd (upd Hf td (.tup [.str "deed",.str (N (13+3*i)),.ref lp])) LR (.lst (rows++[.ref td]))):=by
   have h1:Go [S,LR,LV] Hc [S,LR,LV] Hf:=⟨λx o m e=>gf.o x o (λy=>m (by rw[Ky.mp y];simp)) e,λ_ m=>.inl m⟩;exact(h1.trans (Go.new (aq.upd htd _))).trans (Go.at (Kw _ Ku) _)
  have Sg:=ag (u:=.lst (rows++[.ref td])) RS.symm (ag (u:=.tup [.str "deed",.str (N (13+3*i)),.ref lp]) tdS.symm Sf);have Rg:upd (upd Hf td (.tup [.str "deed",.str (N (13+3*i)),.ref lp])) LR (.lst (rows++[.ref td])) LR=T9 (.lst (rows++[.ref td])):=aj;have Vg:=ag (u:=.lst (rows++[.ref td])) RV.symm (ag (u:=.tup [.str "deed",.str (N (13+3*i)),.ref lp]) tdV.symm eV2);have pg:=ag (u:=.lst (rows++[.ref td])) lpR (ag (u:=.tup [.str "deed",.str (N (13+3*i)),.ref lp]) tdp.symm pf);have ng:=ag (u:=.lst (rows++[.ref td])) lnR (ag (u:=.tup [.str "deed",.str (N (13+3*i)),.ref lp]) (Ub htd nf).symm nf);have tg:upd (upd Hf td (.tup [.str "deed",.str (N (13+3*i)),.ref lp])) LR (.lst (rows++[.ref td])) td=T9 (.tup [.str "deed",.str (N (13+3*i)),.ref lp]):=ag tdR aj;generalize upd (upd Hf td (.tup [.str "deed",.str (N (13+3*i)),.ref lp])) LR (.lst (rows++[.ref td]))=Hg at gg Sg Rg Vg pg ng tg⊢;clear htd Sf Rf pf nf gf eV2 gx ep ge eV;try dsimp only
  refine ak λN7 J7=>⟨_,rfl,_,rfl,KG ⟨ln,_,rfl,SqL.of ng,λp1 hp1=>?_⟩⟩;rw[show iM (nmL N) (T9 7) (T9 10)=nV N [7,8,9]from rfl];obtain⟨sh,eh⟩:=alc hp1 (HO.lst (nV N [7,8,9]));generalize upd Hg p1 _=Hh at sh eh⊢;refine⟨p1,lp,_,_,rfl,rfl,eh,sh _ _ pg,sz (by rw[Kx,Kx];show 3+ps.length<=1000;omega),λLT hLT=>?_⟩;rw[show nV N [7,8,9]++nV N ps=nV N ([7,8,9]++ps) by simp];obtain⟨si,ei⟩:=alc hLT (HO.lst (nV N ([7,8,9]++ps)));generalize upd Hh LT _=Hi at si ei⊢;have TS:LT≠S:=Ub hLT (sh _ _ Sg);have TR:LT≠LR:=Ub hLT (sh _ _ Rg);have shi:=sh.trans si;refine⟨_,cY.k (k:=.inr "targets") (shi _ _ Sg) (ax ()),?_⟩;have gj:Go [S] Hg [S] (upd Hi S (.dK (Ue kvs (.inr "targets") (.ref LT)))):=(Go.new shi).trans (Go.at Ku _);have Sj:upd Hi S (.dK (Ue kvs (.inr "targets") (.ref LT))) S=T9 (.dK (Ue kvs (.inr "targets") (.ref LT))):=aj;have Tj:=ag (u:=.dK (Ue kvs (.inr "targets") (.ref LT))) TS ei;generalize upd Hi S (.dK (Ue kvs (.inr "targets") (.ref LT)))=Hj at gj Sj Tj⊢;clear sh eh si ei shi hLT hp1;have nS1:∀x:NL,x≠S->x∉[S]:=λx h m=>h (Ky.mp m);refine J7 _ _ ?_;try dsimp only
  refine ak λN8 J8=>⟨_,rfl,_,rfl,KG ⟨ln,_,rfl,SqL.of (gj.o _ _ (nS1 _ lnS) ng),λp2 hp2=>?_⟩⟩;rw[show iM (nmL N) (T9 3) (T9 6)=nV N [3,4,5]from rfl];obtain⟨sh,eh⟩:=alc hp2 (HO.lst (nV N [3,4,5]));generalize upd Hj p2 _=Hh at sh eh⊢;refine⟨.ref LT,(by rw[<-(fin LT LT).2.1];exact cP.k (k:=.inr "targets") (sh _ _ Sj)),p2,LT,_,_,rfl,rfl,eh,sh _ _ Tj,sz (by rw[Kx,Kx,KC];show 3+(3+ps.length)<=1000;omega),λLN hLN=>?_⟩;rw[show nV N [3,4,5]++nV N ([7,8,9]++ps)=nV N ([3,4,5]++([7,8,9]++ps)) by simp];obtain⟨si,ei⟩:=alc hLN (HO.lst (nV N ([3,4,5]++([7,8,9]++ps))));generalize upd Hh LN _=Hi at si ei⊢;have Rj:=gj.o _ _ (nS1 _ RS) Rg;have NS:LN≠S:=Ub hLN (sh _ _ Sj);have NR:LN≠LR:=Ub hLN (sh _ _ Rj);have shi:=sh.trans si;refine⟨_,cY.k (k:=.inr "numbers") (shi _ _ Sj) (ax (by have:=(fin LT LT).1;omega)),J8 _ _ ?_⟩;have gk:Go [S] Hg [S] (upd Hi S (.dK (Ue (Ue kvs (.inr "targets") (.ref LT)) (.inr "numbers") (.ref LN)))):=gj.trans ((Go.new shi).trans (Go.at Ku _));have Sk:upd Hi S (.dK (Ue (Ue kvs (.inr "targets") (.ref LT)) (.inr "numbers") (.ref LN))) S=T9 (.dK (Ue (Ue kvs (.inr "targets") (.ref LT)) (.inr "numbers") (.ref LN))):=aj;have Tk:=ag (u:=.dK (Ue (Ue kvs (.inr "targets") (.ref LT)) (.inr "numbers") (.ref LN))) TS (shi _ _ Tj);have Nk:=ag (u:=.dK (Ue (Ue kvs (.inr "targets") (.ref LT)) (.inr "numbers") (.ref LN))) NS ei;generalize upd Hi S (.dK (Ue (Ue kvs (.inr "targets") (.ref LT)) (.inr "numbers") (.ref LN)))=Hk at gk Sk Tk Nk⊢;clear sh eh si ei shi hLN hp2 gj Sj Tj Rj;try dsimp only
  refine ak λN9 J9=>⟨c,6-i,5,(congrArg (λx:Int=>[V.int c,V.int x,V.int 5]) (show 6-(0+(i:Int))=((6-i:Nat):Int) by omega)),(),∅,λmany Hl y0 y1 sl=>J9 _ _ ?_⟩;have kl:∀(x:NL)(o:HO),x≠S->x≠LR->x≠LV->Hc x=T9 o->Hl x=T9 o:=λx o h1 h2 h3 e=>sl _ _ (gk.o _ _ (nS1 _ h1) (gg.o _ _ (λm=>by
   simp only[Kt,KH,or_false]at m;rcases m with m|m|m
   ·exact h1 m
   ·exact h2 m
   exact h3 m) e))
  have kn:∀(x:NL)(o:HO),x≠LR->(∀y,o≠ .dK y)->Hc x=T9 o->Hl x=T9 o:=λx o h1 nd e=>kl x o (λy=>by rw[y,eS]at e;exact nd _ (NP e).symm) h1 (λy=>by rw[y,B.hV]at e;exact nd _ (NP e).symm) e;have gl:Go [S,LR,LV] Hc [S,LR,LV] Hl:=⟨λx o m e=>by
   simp only[Kt,KH,or_false,not_or]at m;exact kl x o m.1 m.2.1 m.2.2 e,λ_ m=>.inl m⟩
  have hc':aq H Hl:=λx o e=>kl x o (λy=>by rw[y,S0]at e;cases e) (λy=>by rw[y,LR0]at e;cases e) (λy=>by rw[y,V0]at e;cases e) (kc _ _ e);have Sl:=sl _ _ Sk;have Rl:=sl _ _ (gk.o _ _ (nS1 _ RS) Rg);have Vl:=sl _ _ (gk.o _ _ (nS1 _ VS) Vg);have pL:=sl _ _ (gk.o _ _ (nS1 _ lpS) pg);have tL:=sl _ _ (gk.o _ _ (nS1 _ tdS) tg);have Tl:=sl _ _ Tk;have Nl:=sl _ _ Nk;clear gk sl gg Sk Rg Vg pg tg Tk Nk Sg ng;try dsimp only
  refine ak λN10 J10=>⟨_,rfl,_,rfl,KG ⟨a,_,rfl,hc'.seq hA,λcl hcl=>?_⟩⟩;obtain⟨cs,ecs,lcs⟩:=uw (ns:=ns) at0 y0;rw[ecs];obtain⟨sm,em⟩:=alc hcl (HO.lst (cs.map V.int));generalize upd Hl cl _=Hm at sm em⊢;have clR:cl≠LR:=Ub hcl Rl;clear hcl;have lenR:=NV B.hr;have n2:∀x,x≠S->x≠LR->x∉[S,LR]:=λx h1 h2 m=>by
   simp only[Kt,KH,or_false]at m;rcases m with m|m
   ·exact h1 m
   exact h2 m
  have nS:∀(x:NL)(o:HO),(∀y,o≠ .dK y)->Hm x=T9 o->x≠S:=λx o nd e y=>by
   rw[y,sm _ _ Sl]at e;exact nd _ (NP e).symm
  obtain⟨ts,hLDc,hts⟩:=B.hD;have LDm:=sm _ _ (kl _ _ DS RD.symm DV hLDc);obtain⟨g,hg⟩:∃g:Gc,g=⟨N,S,LR,LV,LD,LH,LL,LT,LN,mode,vk2,vw2,[7,8,9]++ps,[3,4,5]++([7,8,9]++ps),dls,lim/4,rot t (cc rk z)++dJ dls bss++[.fT (13+3*i) ps],r⟩:=⟨_,rfl⟩;have dn:∀k,k<=4->((Od k).map λj=>13+3*j).Nodup:=∅
  have dvk:∀e∈dls,e.nm∈vk2/\∀p∈e.ps,p∈vk2:=λe m=>⟨ok2 _ (ok1 _ (B.vd e m).1),λp hp=>ok2 _ (ok1 _ ((B.vd e m).2 p hp))⟩;have tv:∀j∈[7,8,9]++ps,j∈vk2:=λj hj=>by
   rcases Kz.mp hj with h|h
   ·refine V2.h j ?_;simp only[Kt,KH,or_false]at h;omega
   exact pk2 j h
  have GO:j9 g:=by
   rw[hg];refine⟨D,λj hj=>⟨by have:=(V2.b j hj).1;omega,(V2.b j hj).2⟩,tv,λj hj=>?_,λj hj=>V2.h j ?_,(by show 9∈[7,8,9]++ps;simp),V2.v9,V2.v2,λe m=>?_,?_,B.dd.l4,(by show([7,8,9]++ps).length<=5;simp;omega),(by show([3,4,5]++([7,8,9]++ps)).length<=8;simp;omega),⟨r0,(by show r<=2;omega)⟩,?_⟩
   ·rcases Kz.mp hj with h|h
    ·refine V2.h j ?_;simp only[Kt,KH,or_false]at h;omega
    exact tv j h
   ·simp only[Kt,KH,or_false]at hj;omega
   ·obtain⟨j,hj⟩:=La m;obtain⟨k,hk,ek⟩:=B.dd.ps j e hj;have sp:=B.dd.sp e m;exact⟨(dvk e m).1,by rw[ek,MH];exact hk,sp.1,(dvk e m).2⟩
   ·show(dls.map Dl.nm).Nodup;rw[B.dd.nm];exact dn _ B.dd.l4
   show(rot t (cc rk z)++dJ dls bss++[Lr.fT (13+3*i) ps]).length<=500;rw[KC,<-lenR];show rows.length+1<=500;omega
  have PA:BK g Hm lm marks (rows++[.ref td]):=by
   have fg:=(fin LT LN).2.2 g (by rw[hg]) (by rw[hg]) (by rw[hg]) (by rw[hg]) (by rw[hg]) (by rw[hg]) (by rw[hg]) (by rw[hg]);refine⟨?_,?_,?_,?_,?_,?_,B.mks,B.ml⟩
   ·rw[show g.S=S by rw[hg]];rcases fg with h|⟨x,y,z,h⟩
    ·exact .inl (by rw[<-h];exact sm _ _ Sl)
    exact .inr ⟨x,y,z,by rw[<-h];exact sm _ _ Sl⟩
   ·rw[hg];exact sm _ _ Rl
   ·rw[hg];exact RS.symm
   ·rw[hg];have lst:∀(x:NL)(xs:List V),x≠LR->Hm x=T9 (.lst xs)->del [S,LR] Hm x=T9 (.lst xs):=λx xs h e=>aK (n2 _ (nS x _ dR e) h) e;refine⟨aK (n2 _ VS RV.symm) (sm _ _ Vl),⟨ts,aK (n2 _ DS RD.symm) LDm,λe m=>?_⟩,lst _ _ B.ne.1 (sm _ _ (kn _ _ B.ne.1 dR B.hH)),lst _ _ B.ne.2.1 (sm _ _ (kn _ _ B.ne.2.1 dR B.hL)),lst _ _ TR (sm _ _ Tl),lst _ _ NR (sm _ _ Nl)⟩;obtain⟨⟨h1,h2⟩,h3,h4⟩:=hts e m;have h2':=sm _ _ (kn _ _ h1 oG h2);exact⟨aK (n2 _ (nS _ _ oG h2') h1) h2',lst _ _ h3 (sm _ _ (kn _ _ h3 dR h4))⟩
   ·rw[hg];have h:=sm _ _ (kn _ _ B.ne.2.2 dR B.hm);exact aK (n2 _ (nS _ _ dR h) B.ne.2.2) h
   rw[hg];refine Ot ⟨td,lp,rfl,aK (n2 _ tdS tdR) (sm _ _ tL),λo ho=>?_⟩ (Paired.cS B.hr λv h l=>l.but λx o e nd=>?_)
   ·obtain⟨m,e⟩:=bq e;have xR:x≠LR:=λy=>m (by rw[y];exact Ku);have h:=sm _ _ (kn _ _ xR nd e);exact aK (n2 _ (nS _ _ nd h) xR) h
   cases ho;exact aK (n2 _ lpS lpR) (sm _ _ pL)
  refine⟨⟨∅,∅⟩,g,cl,lm,cs,marks,rows++[.ref td],(by rw[hg];rfl),GO,PA,em,(by rw[hg];exact clR),(),λd rows' Hn gn E fl=>?_⟩;rw[show g.S=S by rw[hg],show g.LR=LR by rw[hg]]at gn;have ES:Hn S=T9 (.dK (stK g d)):=by
   have:=E.hS;rw[show g.S=S by rw[hg]]at this;exact this
  have ER:Hn LR=T9 (.lst rows'):=by
   have:=E.hR;rw[show g.LR=LR by rw[hg]]at this;exact this
  have Em:=E.hm;have Er:=E.hr;rw[show g.S=S by rw[hg],show g.LR=LR by rw[hg],show g.N=N by rw[hg]]at Em Er;have Ln:=gn.o _ _ (n2 _ DS RD.symm) LDm;refine J10 _ _ ?_;try dsimp only
  refine ak λN11 J11=>dgk ES rfl ⟨by show 2<=sizeLine;decide,λt2 ht2=>?_⟩;have t2S:t2≠S:=Ub ht2 ES;have t2R:t2≠LR:=Ub ht2 ER;have t2D:t2≠LD:=Ub ht2 Ln;have gD:cP (upd Hn t2 (.tup [.ref lp,.int d.spent])) S (.str "deeds") (T9 (.ref g.LD)):=cP.k (k:=.inr "deeds") (ag t2S.symm ES);rw[show g.LD=LD by rw[hg]]at gD;refine⟨_,gD,_,cY.k (k:=.inr (N (13+3*i))) (ag t2D.symm Ln) (ax (by rw[dS,Kx];omega)),J11 _ _ ?_⟩;have nm':(13+3*i)∉dls.map Dl.nm:=λm=>by
   rw[B.dd.nm,dl]at m;obtain⟨j,hj,e⟩:=KS.mp m;have:=Lu.mp hj;omega
  rw[i8 D () (λj hj=>by
   obtain⟨e,he,rfl⟩:=KS.mp hj;have:=(W0.b _ (B.vd e he).1).1;omega) nm']
  obtain⟨tz,htz⟩:∃tz:Nat->NL,tz=λj=>if j=13+3*i then t2 else ts j:=⟨_,rfl⟩
  rw[show nz (λj=>V.ref (ts j)) (13+3*i) (.ref t2)=λj=>V.ref (tz j)from funext λj=>by rw[htz];unfold nz;dsimp only;split<;>rfl];obtain⟨dl',hdl'⟩:∃dl':Dl,dl'=⟨13+3*i,ps,d.spent,lp⟩:=⟨_,rfl⟩;rw[show dls.map Dl.nm++[13+3*i]=(dls++[dl']).map Dl.nm by rw[hdl'];simp];have tl':tz (13+3*i)=t2:=by rw[htz];exact if_pos rfl
  have to':∀e∈dls,tz e.nm=ts e.nm:=λe m=>by
   rw[htz];exact if_neg λy=>nm' (by rw[<-y];exact MB m)
  have kz:∀(x:NL)(o:HO),x≠LR->(∀y,o≠ .dK y)->Hn x=T9 o->upd (upd Hn t2 (.tup [.ref lp,.int d.spent])) LD (.dK (dk N ((dls++[dl']).map Dl.nm) λj=>.ref (tz j))) x=T9 o:=λx o _ nd e=>ag (λy=>by rw[y,Ln]at e;exact nd _ (NP e).symm) (ag (λy=>by rw[y,ht2]at e;cases e) e);have kn2:∀(x:NL)(o:HO),x≠LR->(∀y,o≠ .dK y)->Hc x=T9 o->upd (upd Hn t2 (.tup [.ref lp,.int d.spent])) LD (.dK (dk N ((dls++[dl']).map Dl.nm) λj=>.ref (tz j))) x=T9 o:=λx o h nd e=>by
   have h1:=sm _ _ (kn x o h nd e);exact kz x o h nd (gn.o _ _ (n2 _ (nS _ _ nd h1) h) h1)
  have lpn:=gn.o _ _ (n2 _ lpS lpR) (sm _ _ pL);have gz:Go [S,LR,LV,LD] Hc [S,LR,LV,LD] (upd (upd Hn t2 (.tup [.ref lp,.int d.spent])) LD (.dK (dk N ((dls++[dl']).map Dl.nm) λj=>.ref (tz j)))):=by
   have w1:Go [S,LR,LV,LD] Hc [S,LR,LV,LD] Hl:=⟨λx o m e=>by
    simp only[Kt,KH,or_false,not_or]at m;exact kl x o m.1 m.2.1 m.2.2.1 e,λ_ m=>.inl m⟩
   have w2:Go [S,LR,LV,LD] Hm [S,LR,LV,LD] Hn:=⟨λx o m e=>by
    simp only[Kt,KH,or_false,not_or]at m;exact gn.o x o (n2 _ m.1 m.2.1) e,λ_ m=>.inl m⟩
   exact(((w1.trans (Go.new sm)).trans w2).trans (Go.new (aq.upd ht2 _))).trans (Go.at (by simp) _)
  have pre':g.pre++aX d.bs++[.fin]=rot t (cc rk z)++dJ (dls++[dl']) (bss++[d.bs]):=by
   rw[pZ _ _ B.dd.len,hg,hdl'];simp
  rw[pre']at Er;have lenE:=NV Er;rw[pZ _ _ B.dd.len,<-Le,KC,<-lenR]at lenE;have dmR:d.lm≠LR:=λy=>(bq Em).1 (by rw[y];simp);have Bn:Bt N S LR LV LD d.lm LH LL mode (lim/4) (upd (upd Hn t2 (.tup [.ref lp,.int d.spent])) LD (.dK (dk N ((dls++[dl']).map Dl.nm) λj=>.ref (tz j)))) (rot t (cc rk z)) rows' (dls++[dl']) (bss++[d.bs]) d.marks vk2 vw2:=by
   refine⟨.inr ⟨.ref LT,.ref LN,.ref d.lo,.int d.spent,.int (lim/4),?_⟩,ag RD (ag t2R.symm ER),ag DV.symm (ag (Ub ht2 (gn.o _ _ (n2 _ VS RV.symm) (sm _ _ Vl))).symm (gn.o _ _ (n2 _ VS RV.symm) (sm _ _ Vl))),⟨tz,aj,λe m=>?_⟩,kn2 _ _ B.ne.1 dR B.hH,kn2 _ _ B.ne.2.1 dR B.hL,kz _ _ dmR dR (bq Em).2,Paired.cS Er λv h l=>l.but λx o e nd=>?_,⟨B.ne.1,B.ne.2.1,dmR⟩,E.mks,E.ml,?_,λe m=>?_⟩
   ·have h:=ag (u:=.dK (dk N ((dls++[dl']).map Dl.nm) λj=>.ref (tz j))) DS.symm (ag (u:=.tup [.ref lp,.int d.spent]) t2S.symm ES);rw[hg]at h;exact h
   ·rcases Kz.mp m with m|m
    ·obtain⟨⟨h1,h2⟩,h3,h4⟩:=hts e m;rw[to' e m];exact⟨⟨h1,kn2 _ _ h1 oG h2⟩,h3,kn2 _ _ h3 dR h4⟩
    rw[Ky.mp m,show dl'.nm=13+3*i by rw[hdl'],show dl'.lp=lp by rw[hdl'],show dl'.sp=d.spent by rw[hdl'],show dl'.ps=ps by rw[hdl'],tl'];exact⟨⟨t2R,ag t2D aj⟩,lpR,kz _ _ lpR dR lpn⟩
   ·obtain⟨m,e⟩:=bq e;have xR:x≠LR:=λy=>m (by rw[y];simp);exact aK (λy=>xR (Ky.mp y)) (kz _ _ xR nd e)
   ·have ebs:=E.bs;have esp:=E.sp;have epy:=E.pay;rw[hg]at ebs esp epy;exact B.dd.add () (by rw[hdl',dl]) ⟨m,(),by rw[hdl',dl];exact hps⟩ (by rw[hdl'];exact esp) (by rw[hdl'];exact ebs) (by rw[hdl'];exact epy) E.dp
   rcases Kz.mp m with m|m
   ·exact dvk e m
   rw[Ky.mp m,hdl'];exact⟨ok2 _ nk,pk2⟩
  try dsimp only
  exact⟨d.lm,rows',dls++[dl'],bss++[d.bs],d.marks,vk2,vw2,at_+many,_,_,_,_,_,_,rfl,(),by simp[dl],gc.trans gz,Bn,V2,by simp at lenE;omega,()⟩
 rintro σ Hc ⟨lm,rows,dls,bss,marks,vk,vw,at_,v8,v9,v10,v11,v12,v13,rfl,at0,dl,gc,B,W0,rl,vl⟩;refine K7 _ _ ?_;have kc:aq H Hc:=gc.keep k9 fr0;have nc:=gc.o _ _ ln4 n9;obtain⟨kvs,eS,gv,gr,lk,fin⟩:=B.st;have GR:∀Hx:Hp,Hx S=T9 (.dK kvs)->cP Hx S (.str "rows") (T9 (.ref LR)):=λHx e=>by rw[<-gr];exact cP.k (k:=.inr "rows") e
 have dl4:=B.dd.l4;try dsimp only
 refine ak λN6 J6=>⟨_,GR _ eS,KG ⟨rfl,_,SqL.of B.hR⟩,by show 1<=sizeLine;decide,λtd htd=>?_⟩;have tdR:td≠LR:=Ub htd B.hR;refine⟨_,_,_,rfl,rfl,ag tdR.symm B.hR,ax (),J6 _ _ ?_⟩;have tdS:td≠S:=Ub htd eS;have tdV:td≠LV:=Ub htd B.hV;have gg:Go [S,LR,LV] Hc [S,LR,LV] (upd (upd Hc td (.tup [.str "main"])) LR (.lst (rows++[.ref td]))):=(Go.new (aq.upd htd _)).trans (Go.at (Kw _ Ku) _);have Sg:=ag (u:=.lst (rows++[.ref td])) RS.symm (ag (u:=.tup [.str "main"]) tdS.symm eS);have Rg:upd (upd Hc td (.tup [.str "main"])) LR (.lst (rows++[.ref td])) LR=T9 (.lst (rows++[.ref td])):=aj;have Vg:=ag (u:=.lst (rows++[.ref td])) RV.symm (ag (u:=.tup [.str "main"]) tdV.symm B.hV);have ng:=ag (u:=.lst (rows++[.ref td])) lnR (ag (u:=.tup [.str "main"]) (Ub htd nc).symm nc);have tg:upd (upd Hc td (.tup [.str "main"])) LR (.lst (rows++[.ref td])) td=T9 (.tup [.str "main"]):=ag tdR aj;generalize upd (upd Hc td (.tup [.str "main"])) LR (.lst (rows++[.ref td]))=Hg at gg Sg Rg Vg ng tg⊢;clear htd;try dsimp only
 refine ak λN7 J7=>⟨_,rfl,_,rfl,KG ⟨ln,_,rfl,SqL.of ng,λLT hLT=>?_⟩⟩;rw[show iM (nmL N) (T9 7) (T9 10)=nV N [7,8,9]from rfl];obtain⟨si,ei⟩:=alc hLT (HO.lst (nV N [7,8,9]));generalize upd Hg LT _=Hi at si ei⊢;have TS:LT≠S:=Ub hLT Sg;have TR:LT≠LR:=Ub hLT Rg;refine⟨_,cY.k (k:=.inr "targets") (si _ _ Sg) (ax ()),?_⟩;have gj:Go [S] Hg [S] (upd Hi S (.dK (Ue kvs (.inr "targets") (.ref LT)))):=(Go.new si).trans (Go.at Ku _);have Sj:upd Hi S (.dK (Ue kvs (.inr "targets") (.ref LT))) S=T9 (.dK (Ue kvs (.inr "targets") (.ref LT))):=aj;have Tj:=ag (u:=.dK (Ue kvs (.inr "targets") (.ref LT))) TS ei;generalize upd Hi S (.dK (Ue kvs (.inr "targets") (.ref LT)))=Hj at gj Sj Tj⊢;clear si ei hLT;have nS1:∀x:NL,x≠S->x∉[S]:=λx h m=>h (Ky.mp m);refine J7 _ _ ?_;try dsimp only
 refine ak λN8 J8=>⟨_,rfl,_,rfl,KG ⟨ln,_,rfl,SqL.of (gj.o _ _ (nS1 _ lnS) ng),λp2 hp2=>?_⟩⟩;rw[show iM (nmL N) (T9 3) (T9 6)=nV N [3,4,5]from rfl];obtain⟨sh,eh⟩:=alc hp2 (HO.lst (nV N [3,4,5]));generalize upd Hj p2 _=Hh at sh eh⊢;refine⟨.ref LT,(by rw[<-(fin LT LT).2.1];exact cP.k (k:=.inr "targets") (sh _ _ Sj)),p2,LT,_,_,rfl,rfl,eh,sh _ _ Tj,sz (by show 6<=1000;decide),λLN hLN=>?_⟩;rw[show nV N [3,4,5]++nV N [7,8,9]=nV N [3,4,5,7,8,9]from rfl];obtain⟨si,ei⟩:=alc hLN (HO.lst (nV N [3,4,5,7,8,9]));generalize upd Hh LN _=Hi at si ei⊢;have Rj:=gj.o _ _ (nS1 _ RS) Rg;have NS:LN≠S:=Ub hLN (sh _ _ Sj);have NR:LN≠LR:=Ub hLN (sh _ _ Rj);have shi:=sh.trans si;refine⟨_,cY.k (k:=.inr "numbers") (shi _ _ Sj) (ax (by have:=(fin LT LT).1;omega)),?_⟩;have gk:Go [S] Hg [S] (upd Hi S (.dK (Ue (Ue kvs (.inr "targets") (.ref LT)) (.inr "numbers") (.ref LN)))):=gj.trans ((Go.new shi).trans (Go.at Ku _));have Sl:upd Hi S (.dK (Ue (Ue kvs (.inr "targets") (.ref LT)) (.inr "numbers") (.ref LN))) S=T9 (.dK (Ue (Ue kvs (.inr "targets") (.ref LT)) (.inr "numbers") (.ref LN))):=aj;have Tl:=ag (u:=.dK (Ue (Ue kvs (.inr "targets") (.ref LT)) (.inr "numbers") (.ref LN))) TS (shi _ _ Tj);have Nl:=ag (u:=.dK (Ue (Ue kvs (.inr "targets") (.ref LT)) (.inr "numbers") (.ref LN))) NS ei;generalize upd Hi S (.dK (Ue (Ue kvs (.inr "targets") (.ref LT)) (.inr "numbers") (.ref LN)))=Hl at gk Sl Tl Nl⊢;clear sh eh si ei shi hLN hp2 gj Sj Tj Rj;have kl:∀(x:NL)(o:HO),x≠S->x≠LR->x≠LV->Hc x=T9 o->Hl x=T9 o:=λx o h1 h2 h3 e=>gk.o _ _ (nS1 _ h1) (gg.o _ _ (λm=>by
  simp only[Kt,KH,or_false]at m;rcases m with m|m|m
  ·exact h1 m
  ·exact h2 m
  exact h3 m) e)
 have kn:∀(x:NL)(o:HO),x≠LR->(∀y,o≠ .dK y)->Hc x=T9 o->Hl x=T9 o:=λx o h1 nd e=>kl x o (λy=>by rw[y,eS]at e;exact nd _ (NP e).symm) h1 (λy=>by rw[y,B.hV]at e;exact nd _ (NP e).symm) e;have hc':aq H Hl:=λx o e=>kl x o (λy=>by rw[y,S0]at e;cases e) (λy=>by rw[y,LR0]at e;cases e) (λy=>by rw[y,V0]at e;cases e) (kc _ _ e);have Rl:=gk.o _ _ (nS1 _ RS) Rg;have Vl:=gk.o _ _ (nS1 _ VS) Vg;have tL:=gk.o _ _ (nS1 _ tdS) tg;clear gk gg Rg Vg tg Sg ng;refine J8 _ _ ?_;try dsimp only
 refine ak λN10 J10=>⟨_,rfl,_,rfl,KG ⟨a,_,rfl,hc'.seq hA,λcl hcl=>?_⟩⟩;obtain⟨cs,ecs,lcs⟩:=uw (ns:=ns) at0 (show(0:Int)<=40 by decide);rw[ecs];obtain⟨sm,em⟩:=alc hcl (HO.lst (cs.map V.int));generalize upd Hl cl _=Hm at sm em⊢;have clR:cl≠LR:=Ub hcl Rl;clear hcl;have lenR:=NV B.hr;have n2:∀x,x≠S->x≠LR->x∉[S,LR]:=λx h1 h2 m=>by
  simp only[Kt,KH,or_false]at m;rcases m with m|m
  ·exact h1 m
  exact h2 m
 have nS:∀(x:NL)(o:HO),(∀y,o≠ .dK y)->Hm x=T9 o->x≠S:=λx o nd e y=>by
  rw[y,sm _ _ Sl]at e;exact nd _ (NP e).symm
 obtain⟨ts,hLDc,hts⟩:=B.hD;have LDm:=sm _ _ (kl _ _ DS RD.symm DV hLDc);obtain⟨g,hg⟩:∃g:Gc,g=⟨N,S,LR,LV,LD,LH,LL,LT,LN,mode,vk,vw,[7,8,9],[3,4,5,7,8,9],dls,lim,rot t (cc rk z)++dJ dls bss++[.main],0⟩:=⟨_,rfl⟩;have dn:∀k,k<=4->((Od k).map λj=>13+3*j).Nodup:=∅
 have low:∀(l:List Nat),(∀x∈l,x<13)->∀j∈l,j∈vk:=λl h j hj=>W0.h j (h j hj);have GO:j9 g:=by
  rw[hg];refine⟨D,λj hj=>⟨by have:=(W0.b j hj).1;omega,(W0.b j hj).2⟩,low [7,8,9] ∅,low [3,4,5,7,8,9] ∅,low [0,1,2,6,10,11,12] ∅,(by show 9∈[7,8,9];decide),W0.v9,W0.v2,λe m=>?_,?_,B.dd.l4,(by show 3<=5;decide),(by show 6<=8;decide),⟨(by show(0:Int)<=0;decide),(by show(0:Int)<=2;decide)⟩,?_⟩
  ·obtain⟨j,hj⟩:=La m;obtain⟨k,hk,ek⟩:=B.dd.ps j e hj;have sp:=B.dd.sp e m;exact⟨(B.vd e m).1,by rw[ek,MH];exact hk,sp.1,(B.vd e m).2⟩
  ·show(dls.map Dl.nm).Nodup;rw[B.dd.nm];exact dn _ B.dd.l4
  show(rot t (cc rk z)++dJ dls bss++[Lr.main]).length<=500;rw[KC,<-lenR];show rows.length+1<=500;omega
 have PA:BK g Hm lm marks (rows++[.ref td]):=by
  have fg:=(fin LT LN).2.2 g (by rw[hg]) (by rw[hg]) (by rw[hg]) (by rw[hg]) (by rw[hg]) (by rw[hg]) (by rw[hg]) (by rw[hg]);refine⟨?_,?_,?_,?_,?_,?_,B.mks,B.ml⟩
  ·rw[show g.S=S by rw[hg]];rcases fg with h|⟨x,y,z,h⟩
   ·exact .inl (by rw[<-h];exact sm _ _ Sl)
   exact .inr ⟨x,y,z,by rw[<-h];exact sm _ _ Sl⟩
  ·rw[hg];exact sm _ _ Rl
  ·rw[hg];exact RS.symm
  ·rw[hg];have lst:∀(x:NL)(xs:List V),x≠LR->Hm x=T9 (.lst xs)->del [S,LR] Hm x=T9 (.lst xs):=λx xs h e=>aK (n2 _ (nS x _ dR e) h) e;refine⟨aK (n2 _ VS RV.symm) (sm _ _ Vl),⟨ts,aK (n2 _ DS RD.symm) LDm,λe m=>?_⟩,lst _ _ B.ne.1 (sm _ _ (kn _ _ B.ne.1 dR B.hH)),lst _ _ B.ne.2.1 (sm _ _ (kn _ _ B.ne.2.1 dR B.hL)),lst _ _ TR (sm _ _ Tl),lst _ _ NR (sm _ _ Nl)⟩;obtain⟨⟨h1,h2⟩,h3,h4⟩:=hts e m;have h2':=sm _ _ (kn _ _ h1 oG h2);exact⟨aK (n2 _ (nS _ _ oG h2') h1) h2',lst _ _ h3 (sm _ _ (kn _ _ h3 dR h4))⟩
  ·rw[hg];have h:=sm _ _ (kn _ _ B.ne.2.2 dR B.hm);exact aK (n2 _ (nS _ _ dR h) B.ne.2.2) h
  rw[hg];refine Ot ⟨td,td,rfl,aK (n2 _ tdS tdR) (sm _ _ tL),λo ho=>by cases ho⟩ (Paired.cS B.hr λv h l=>l.but λx o e nd=>?_);obtain⟨m,e⟩:=bq e;have xR:x≠LR:=λy=>m (by rw[y];exact Ku);have h:=sm _ _ (kn _ _ xR nd e);exact aK (n2 _ (nS _ _ nd h) xR) h
 refine⟨g,cl,lm,cs,marks,rows++[.ref td],(by rw[hg];rfl),GO,PA,em,(by rw[hg];exact clR),(),λd rows' Hn gn E fl=>?_⟩;rw[show g.S=S by rw[hg],show g.LR=LR by rw[hg]]at gn;have ES:Hn S=T9 (.dK (stK g d)):=by
  have:=E.hS;rw[show g.S=S by rw[hg]]at this;exact this
 have ER:Hn LR=T9 (.lst rows'):=by
  have:=E.hR;rw[show g.LR=LR by rw[hg]]at this;exact this
 have Er:=E.hr;rw[show g.S=S by rw[hg],show g.LR=LR by rw[hg],show g.N=N by rw[hg]]at Er;have pre':g.pre++aX d.bs++[.fin]=rot t (cc rk z)++dJ dls bss++(.main::(aX d.bs++[.fin])):=by
  rw[hg];simp
 have kn':aq H Hn:=λx o e=>gn.o _ _ (n2 _ (λy=>by rw[y,S0]at e;cases e) (λy=>by rw[y,LR0]at e;cases e)) (sm _ _ (hc' _ _ e));rw[pre']at Er;have gR:cP Hn S (.str "rows") (T9 (.ref g.LR)):=cP.k (k:=.inr "rows") ES;rw[show g.LR=LR by rw[hg]]at gR;refine J10 _ _ ?_;try dsimp only
 refine⟨_,gR,?_⟩;have ebs:=E.bs;have esp:=E.sp;have epy:=E.pay;rw[hg]at ebs esp epy;refine q LR rows' _ rk z t dls bss d.bs Hn kn' LR0 ER (Paired.cS Er λv h l=>l.same λx o e=>?_) ⟨rfl,hrk,⟨z1,z4⟩,B.dd,ebs,?_,⟨d.spent,epy,esp.2⟩,E.dp⟩
 ·obtain⟨m,e⟩:=bq e;exact aK (λy=>m (by rw[Ky.mp y];simp)) e
 rw[KC,<-lenR];simp;omega
theorem dY{a b:Str}(h:decide (V.str a=V.str b)=true):a=b:=V.str.inj (of_decide_eq_true h)
theorem jb{a b:Str}(h:¬ decide (V.str a=V.str b)=true):a≠b:=λe=>h (decide_eq_true (by rw[e]))
noncomputable def yY(A:Adr)(N:Nat->Str)(X:Hp)(v:V)(n:Int):Lr->Prop
 | .hand i r=>∃a dx,v=.ref a/\X a=T9 (.ins A.ck dx [("number",.int n),("name",.str (N i)),("rank",.int r)])
 | .giv i r z=>∃a dx,v=.ref a/\X a=T9 (.ins A.bj dx [("number",.int n),("name",.str (N i)),("rank",.int r),("size",.int z)])
 | .own i z=>∃a dx,v=.ref a/\X a=T9 (.ins A.bP dx [("number",.int n),("name",.str (N i)),("size",.int z)])
 | .lt i r=>∃a dx,v=.ref a/\X a=T9 (.ins A.cN dx [("number",.int n),("name",.str (N i)),("rank",.int r)])
 | .set x val=>∃a dx p,v=.ref a/\X a=T9 (.ins A.cR dx [("number",.int n),("name",.str (N x)),("value",.ref p)])/\X p=T9 (.tup (vV N val))
 | .put x pl val=>∃a dx p,v=.ref a/\X a=T9 (.ins A.cD dx [("number",.int n),("name",.str (N x)),("place",pl.v N),("value",.ref p)])/\X p=T9 (.tup (vV N val))
 | .snd h val=>∃a dx p,v=.ref a/\X a=T9 (.ins A.bH dx [("number",.int n),("name",.str (N h)),("value",.ref p)])/\X p=T9 (.tup (vV N val))
 | .say x val m=>∃a dx p,v=.ref a/\X a=T9 (.ins A.cj dx [("number",.int n),("name",.str (N x)),("value",.ref p),("mark",.str (N m))])/\X p=T9 (.tup (vV N val))
 | .call i ts=>∃a dx p,v=.ref a/\X a=T9 (.ins A.cz dx [("number",.int n),("name",.str (N i)),("things",.ref p)])/\X p=T9 (.lst (ts.map (Th.v N)))
 | .last=>∃a dx,v=.ref a/\X a=T9 (.ins A.cO dx [("number",.int n)])
 |_=>False
theorem yY.same{X X':Hp}(s:aq X X'){v:V}{n:Int}{r:Lr}(h:yY A N X v n r):yY A N X' v n r:=by
 cases r with
 |hand i r=>obtain⟨a,dx,e,h1⟩:=h;exact⟨a,dx,e,s _ _ h1⟩
 |giv i r z=>obtain⟨a,dx,e,h1⟩:=h;exact⟨a,dx,e,s _ _ h1⟩
 |own i z=>obtain⟨a,dx,e,h1⟩:=h;exact⟨a,dx,e,s _ _ h1⟩
 |lt i r=>obtain⟨a,dx,e,h1⟩:=h;exact⟨a,dx,e,s _ _ h1⟩
 |set x val=>obtain⟨a,dx,p,e,h1,h2⟩:=h;exact⟨a,dx,p,e,s _ _ h1,s _ _ h2⟩
 |put x pl val=>obtain⟨a,dx,p,e,h1,h2⟩:=h;exact⟨a,dx,p,e,s _ _ h1,s _ _ h2⟩
 |snd h val=>obtain⟨a,dx,p,e,h1,h2⟩:=h;exact⟨a,dx,p,e,s _ _ h1,s _ _ h2⟩
 |say x val m=>obtain⟨a,dx,p,e,h1,h2⟩:=h;exact⟨a,dx,p,e,s _ _ h1,s _ _ h2⟩
 |call i ts=>obtain⟨a,dx,p,e,h1,h2⟩:=h;exact⟨a,dx,p,e,s _ _ h1,s _ _ h2⟩
 |last=>obtain⟨a,dx,e,h1⟩:=h;exact⟨a,dx,e,s _ _ h1⟩
 |_=>exact h.elim
theorem yU{H:Hp}{x dx:NL}{R:VK}{v0:V}(T:Txt K mg A)(hx:H x=Ua)(hd:H dx=Ua)(q:∀(H':Hp),aq H H'->H' x=T9 (.ins A.cO dx [("number",v0)])->R .non H'):gy K A (.ref x::([v0]++[])) (upd (upd H dx (.own x)) x (.ins A.cO dx [])) R E0:=
 ⟨x,A.cO,dx,[],_,rfl,aj,T.aT.cl,T.fL,∅,q _ (aq.out (aq.out (aq.upd hd _) hx _) hx _) aj⟩
noncomputable def Lr.lS:Lr->Bool
 | .iff _ _ _=>false| .loop _ _ _ _=>false| .els=>false| .fin=>false| .fT _ _=>false| .main=>false
 |_=>true
theorem pe{K:NO}{i:Nat}{a c:Str}{B U:TS}{D:Uw}{σ:St}{H:Hp}(hv:σ[i]?=T9 (T9 (.str a)))(k:U D σ H)(ne:¬ a=c:=by decide):xh (AS (uy (tOp (G0 K) (xG i) (tC (.str c)))) B Cq) U D σ H:=by
 unfold xh AS uy tOp xG;rw[hv];exact⟨rfl,_,rfl,aV (λz=>absurd (dY z) ne) λ_=>k⟩
theorem kQ{K:NO}{i:Nat}{a:Str}{B U:TS}{D:Uw}{σ:St}{H:Hp}(hv:σ[i]?=T9 (T9 (.str a)))(k:B { D with nx:=U D } σ H):xh (AS (uy (tOp (G0 K) (xG i) (tC (.str a)))) B Cq) U D σ H:=by
 unfold xh AS uy tOp xG;rw[hv];exact⟨rfl,_,rfl,aV (λ_=>k) λz=>absurd rfl (jb z)⟩
inductive oO(A:Adr)(vs:List V)(H:Hp)(Q:VK)(Z:XK):Prop
 |mk(N:Nat->Str)(M:List NL)(n:Int)(v:V)(r:Lr):vs=[.int n,v]->bS N (del M H) v r->r.lS=true->(∀m∈M,H m≠Ua)->(∀(a:NL)(H':Hp),aq H H'->H a=Ua->yY A N (del M H') (.ref a) n r->Q (.ref a) H')->oO A vs H Q Z
theorem qc(T:Txt K mg A):T.j6.Hz P w base 5 (oO A):=by
 have ND:=nL (P:=P) (w:=w) (mg:=mg) (base:=base) (A:=A) T.mI;refine T.j6.hs (k:=4) kh (λf cdv A' outer s H vs Q E' hr hu h=>?_);obtain⟨N,M,n,v,r,rfl,⟨t,p,rfl,et0,ep⟩,fb,hM,q⟩:=h;have et:=(bq et0).2;have nw:∀{x:NL}{o:HO}{H':Hp},H x=Ua->H' x=T9 o->del M H' x=T9 o:=λ{x o H'} h e=>aK (λm=>hM x m h) e;have od:∀{x:NL}{o:HO}{H':Hp},aq H H'->del M H x=T9 o->del M H' x=T9 o:=λ{x o H'} z e=>aK (bq e).1 (z _ _ (bq e).2);have et':=SqT.of (K:=K) et;refine⟨_,(ae (pst 2 kh.nd (px hu (fv 1) ab))
 (ae (aL (ptc (aZ hu) (fv 2) ao)
  (ah (aB (cK T.bG (sv T) hr (fv 0^px hu (fv 1) ab^px hu (fv 1) ab^af))))
  aC)
 (ae (aL (ptc (aZ hu) (fv 2) ao)
  (ah (aB (cK T.aJ (qm T) hr (fv 0^px hu (fv 1) ab^px hu (fv 1) ab^px hu (fv 1) ab^af))))
  aC)
 (ae (aL (ptc (aZ hu) (fv 2) ao)
  (ah (aB (cK T.bb (sU T) hr (fv 0^px hu (fv 1) ab^px hu (fv 1) ab^af))))
  aC)
 (ae (aL (ptc (aZ hu) (fv 2) ao)
  (ah (aB (cK T.bW (sT T) hr (fv 0^px hu (fv 1) ab^px hu (fv 1) ab^af))))
  aC)
 (ae (aL (ptc (aZ hu) (fv 2) ao)
  (ah (aB (cK T.bT (sO T) hr (fv 0^px hu (fv 1) ab^px hu (fv 1) ab^af))))
  aC)
 (ae (aL (ptc (aZ hu) (fv 2) ao)
  (ah (aB (cK T.bE (sP T) hr (fv 0^px hu (fv 1) ab^px hu (fv 1) ab^px hu (fv 1) ab^af))))
  aC)
 (ae (aL (ptc (aZ hu) (fv 2) ao)
  (ah (aB (cK T.aP (qW T) hr (fv 0^px hu (fv 1) ab^px hu (fv 1) ab^af))))
  aC)
 (ae (aL (ptc (aZ hu) (fv 2) ao)
  (ah (aB (cK T.aU (tw T) hr (fv 0^px hu (fv 1) ab^px hu (fv 1) ab^px hu (fv 1) ab^af))))
  aC)
 (ae (aL (ptc (aZ hu) (fv 2) ao)
  (ah (aB (cK T.aY (qO T) hr (fv 0^px hu (fv 1) ab^pcT hJ T.cC (px hu (fv 1) ab^af)^af))))
  aC)
 (ah (aB (cK T.aT ND hr (fv 0^af)))))))))))))),?_⟩
 refine ak λM0 K0=>tix (j:=0) et' rfl (K0 _ _ ?_);clear K0 M0;try dsimp only
 cases r with
 |hand i r=>
  exact kQ rfl (tix (j:=1) et' rfl (tix (j:=2) et' rfl (λr6 dx hr6 hd_ hne_=>⟨_,_,_,_,_,_,rfl,rfl,hr6,hd_,λH6 s6 hx=>⟨rfl,q r6 H6 s6 hr6 ⟨r6,dx,rfl,nw hr6 hx⟩⟩⟩)))
 |giv i r z=>
  iterate 1 refine pe (a:="given") rfl ?_
  exact kQ rfl (tix (j:=1) et' rfl (tix (j:=2) et' rfl (tix (j:=3) et' rfl (λr6 dx hr6 hd_ hne_=>⟨_,_,_,_,_,_,_,rfl,rfl,hr6,hd_,λH6 s6 hx=>⟨rfl,q r6 H6 s6 hr6 ⟨r6,dx,rfl,nw hr6 hx⟩⟩⟩))))
 |own i z=>
  iterate 2 refine pe (a:="own") rfl ?_
  exact kQ rfl (tix (j:=1) et' rfl (tix (j:=2) et' rfl (λr6 dx hr6 hd_ hne_=>⟨_,_,_,_,_,_,rfl,rfl,hr6,hd_,λH6 s6 hx=>⟨rfl,q r6 H6 s6 hr6 ⟨r6,dx,rfl,nw hr6 hx⟩⟩⟩)))
 |lt i r=>
  iterate 3 refine pe (a:="let") rfl ?_
  exact kQ rfl (tix (j:=1) et' rfl (tix (j:=2) et' rfl (λr6 dx hr6 hd_ hne_=>⟨_,_,_,_,_,_,rfl,rfl,hr6,hd_,λH6 s6 hx=>⟨rfl,q r6 H6 s6 hr6 ⟨r6,dx,rfl,nw hr6 hx⟩⟩⟩)))
 |set x val=>
  iterate 4 refine pe (a:="set") rfl ?_
  exact kQ rfl (tix (j:=1) et' rfl (tix (j:=2) et' rfl (λr6 dx hr6 hd_ hne_=>⟨_,_,_,_,_,_,rfl,rfl,hr6,hd_,λH6 s6 hx=>⟨rfl,q r6 H6 s6 hr6 ⟨r6,dx,p,rfl,nw hr6 hx,od s6 (ep _ rfl)⟩⟩⟩)))
 |put x pl val=>
  iterate 5 refine pe (a:="put") rfl ?_
  exact kQ rfl (tix (j:=1) et' rfl (tix (j:=2) et' rfl (tix (j:=3) et' rfl (λr6 dx hr6 hd_ hne_=>⟨_,_,_,_,_,_,_,rfl,rfl,hr6,hd_,λH6 s6 hx=>⟨rfl,q r6 H6 s6 hr6 ⟨r6,dx,p,rfl,nw hr6 hx,od s6 (ep _ rfl)⟩⟩⟩))))
 |snd h val=>
  iterate 6 refine pe (a:="send") rfl ?_
  exact kQ rfl (tix (j:=1) et' rfl (tix (j:=2) et' rfl (λr6 dx hr6 hd_ hne_=>⟨_,_,_,_,_,_,rfl,rfl,hr6,hd_,λH6 s6 hx=>⟨rfl,q r6 H6 s6 hr6 ⟨r6,dx,p,rfl,nw hr6 hx,od s6 (ep _ rfl)⟩⟩⟩)))
 |say x val m=>
  iterate 7 refine pe (a:="say") rfl ?_
  exact kQ rfl (tix (j:=1) et' rfl (tix (j:=2) et' rfl (tix (j:=3) et' rfl (λr6 dx hr6 hd_ hne_=>⟨_,_,_,_,_,_,_,rfl,rfl,hr6,hd_,λH6 s6 hx=>⟨rfl,q r6 H6 s6 hr6 ⟨r6,dx,p,rfl,nw hr6 hx,od s6 (ep _ rfl)⟩⟩⟩))))
 |call i ts=>
  iterate 8 refine pe (a:="call") rfl ?_
  refine kQ rfl (tix (j:=1) et' rfl (tix (j:=2) et' rfl ?_));have epp:=(bq (ep _ rfl)).2;refine KG ⟨p,_,rfl,KG (SqL.of epp),λl5 hl5=>?_⟩;obtain⟨s5,e5⟩:=alc hl5 (HO.lst (ts.map (Th.v N)));generalize upd H l5 _=H5 at s5 e5⊢;exact λr6 dx hr6 hd_ hne_=>⟨_,_,_,_,_,_,_,rfl,rfl,hr6,hd_,(SqL.of e5),λn6 H6 f6 s6 h6 hx=>⟨rfl,q r6 H6 (s5.trans s6) (aq.free s5 hr6) ⟨r6,dx,n6,rfl,nw (aq.free s5 hr6) hx,nw (aq.free s5 f6) h6⟩⟩⟩
 |last  =>
  iterate 9 refine pe (a:="last") rfl ?_
  exact λr6 dx hr6 hd_ hne_=>yU T hr6 hd_ λH6 s6 hx=>⟨rfl,q r6 H6 s6 hr6 ⟨r6,dx,rfl,nw hr6 hx⟩⟩
 |_=>cases fb
inductive Pt where
 |leaf (n:Int) (r:Lr)
 |iff (n:Int) (v:Val) (l r:Int) (f o:List Pt)
 |loop (n:Int) (t:Th) (m l r:Int) (b:List Pt)
 |fT (n:Int) (i:Nat) (ps:List Nat) (b:List Pt)
mutual
noncomputable def dQ(A:Adr)(N:Nat->Str)(X:Hp):V->Pt->Prop
 |v,.leaf n r=>yY A N X v n r
 |v,.iff n val l r f o=>∃a dx p pf po xf xo,v=.ref a/\X a=T9 (.ins A.dz dx [("number",.int n),("value",.ref p),("first",.ref pf),("other",.ref po),("left",.int l),("right",.int r)])/\X p=T9 (.tup (vV N val))/\X pf=T9 (.lst xf)/\X po=T9 (.lst xo)/\aD A N X xf f/\aD A N X xo o
 |v,.loop n t m l r b=>∃a dx pb xb,v=.ref a/\X a=T9 (.ins A.bK dx [("number",.int n),("thing",t.v N),("most",.int m),("body",.ref pb),("left",.int l),("right",.int r)])/\X pb=T9 (.lst xb)/\aD A N X xb b
 |v,.fT n i ps b=>∃a dx pp pb xb,v=.ref a/\X a=T9 (.ins A.bZ dx [("number",.int n),("name",.str (N i)),("parts",.ref pp),("body",.ref pb)])/\X pp=T9 (.lst (nV N ps))/\X pb=T9 (.lst xb)/\aD A N X xb b
noncomputable def aD(A:Adr)(N:Nat->Str)(X:Hp):List V->List Pt->Prop
 |vs,[]=>vs=[]
 |vs,t::ts=>∃x xs,vs=x::xs/\dQ A N X x t/\aD A N X xs ts
end
mutual
theorem dQ.same{X X':Hp}(s:aq X X'):∀(t:Pt)(v:V),dQ A N X v t->dQ A N X' v t
 | .leaf n r,v,h=>by
  unfold dQ at h⊢;exact yY.same s h
 | .iff n val l r f o,v,h=>by
  unfold dQ at h⊢;obtain⟨a,dx,p,pf,po,xf,xo,e,h1,h2,h3,h4,h5,h6⟩:=h;exact⟨a,dx,p,pf,po,xf,xo,e,s _ _ h1,s _ _ h2,s _ _ h3,s _ _ h4,aD.same s f _ h5,aD.same s o _ h6⟩
 | .loop n t m l r b,v,h=>by
  unfold dQ at h⊢;obtain⟨a,dx,pb,xb,e,h1,h2,h3⟩:=h;exact⟨a,dx,pb,xb,e,s _ _ h1,s _ _ h2,aD.same s b _ h3⟩
 | .fT n i ps b,v,h=>by
  unfold dQ at h⊢;obtain⟨a,dx,pp,pb,xb,e,h1,h2,h3,h4⟩:=h;exact⟨a,dx,pp,pb,xb,e,s _ _ h1,s _ _ h2,s _ _ h3,aD.same s b _ h4⟩
theorem aD.same{X X':Hp}(s:aq X X'):∀(ts:List Pt)(vs:List V),aD A N X vs ts->aD A N X' vs ts
 | [],vs,h=>by
  unfold aD at h⊢;exact h
 |t::ts,vs,h=>by
  unfold aD at h⊢;obtain⟨x,xs,e,h1,h2⟩:=h;exact⟨x,xs,e,dQ.same s t _ h1,aD.same s ts _ h2⟩
end
theorem aD.snoc{X:Hp}{x:V}{t:Pt}(h:dQ A N X x t):∀{ts:List Pt}{vs:List V},aD A N X vs ts->aD A N X (vs++[x]) (ts++[t])
 | [],vs,h'=>by
  unfold aD at h';subst h';show aD A N X [x] [t];unfold aD;exact⟨x,[],rfl,h,by unfold aD;rfl⟩
 |t'::ts,vs,h'=>by
  unfold aD at h';obtain⟨y,ys,e,h1,h2⟩:=h';subst e;show aD A N X (y::(ys++[x])) (t'::(ts++[t]));unfold aD;exact⟨y,ys++[x],rfl,h1,aD.snoc h h2⟩
theorem aD.nil{X:Hp}:aD A N X [] []:=by
 unfold aD;rfl
theorem aD.len{X:Hp}:∀{ts:List Pt}{vs:List V},aD A N X vs ts->vs.length=ts.length
 | [],vs,h=>by
  unfold aD at h;rw[h];rfl
 |t::ts,vs,h=>by
  unfold aD at h;obtain⟨y,ys,e,h1,h2⟩:=h;subst e;simp[aD.len h2]
theorem aD.get{X:Hp}:∀{ts:List Pt}{vs:List V}{i:Nat}{v:V},aD A N X vs ts->vs[i]?=T9 v->∃t,ts[i]?=T9 t/\dQ A N X v t
 | [],vs,i,v,h,e=>by
  unfold aD at h;rw[h]at e;cases e
 |t::ts,vs,i,v,h,e=>by
  unfold aD at h;obtain⟨y,ys,e',h1,h2⟩:=h;subst e';cases i with
  |zero=>cases e;exact⟨t,rfl,h1⟩
  |succ i=>exact aD.get (i:=i) h2 e
noncomputable def nst(n:Int)(f o:List Pt):Lr->Pt
 | .iff v l r=>.iff n v l r f o
 | .loop t m l r=>.loop n t m l r o
 | .fT i ps=>.fT n i ps o
 |r=>.leaf n r
noncomputable def Lr.AU:Lr->Bool
 | .iff _ _ _=>true| .loop _ _ _ _=>true| .fT _ _=>true
 |_=>false
noncomputable def frT(n:Int)(row:V)(lf lr:NL):List (Key×V):=[(.inr "number",.int n),(.inr "row",row),(.inr "first",.ref lf),(.inr "rows",.ref lr)]
inductive nF(A:Adr)(vs:List V)(H:Hp)(Q:VK)(Z:XK):Prop
 |mk(N:Nat->Str)(M:List NL)(fr lf lr:NL)(n:Int)(v:V)(r:Lr)(xf xo:List V)(f o:List Pt):vs=[.ref fr]->H fr=T9 (.dK (frT n v lf lr))->bS N (del M H) v r->r.AU=true->(∀m∈M,H m≠Ua)->H lf=T9 (.lst xf)->H lr=T9 (.lst xo)->aD A N (del M H) xf f->aD A N (del M H) xo o->(∀(a:NL)(H':Hp),aq H H'->H a=Ua->dQ A N (del M H') (.ref a) (nst n f o r)->Q (.ref a) H')->nF A vs H Q Z
theorem vU(T:Txt K mg A):T.ik.Hz P w base 5 (nF A):=by
 refine T.ik.hs (k:=4) fD (λf cdv A' outer s H vs Q E' hr hu h=>?_);obtain⟨N,M,fr,lf,lr,n,v,r,xf,xo,tf,to,rfl,hfr,⟨t,p,rfl,et0,ep⟩,fb,hM,hlf,hlr,pf,po,q⟩:=h;have et:=(bq et0).2;have nw:∀{x:NL}{o:HO}{H':Hp},H x=Ua->H' x=T9 o->del M H' x=T9 o:=λ{x o H'} h e=>aK (λm=>hM x m h) e;have od:∀{H':Hp},aq H H'->aq (del M H) (del M H'):=λ{H'} z=>(Go.new z).same;have et':=SqT.of (K:=K) et;refine⟨_,(ae (pst 1 fD.nd (px hu (fv 0) ao))
 (ae (pst 2 fD.nd (px hu (fv 0) ao))
 (ae (aL (ptc (aZ hu) (px hu (fv 2) ab) ao)
  (ah (aB (cK T.bJ (vH T) hr (fv 1^px hu (fv 2) ab^px hu (fv 0) ao^px hu (fv 0) ao^px hu (fv 2) ab^px hu (fv 2) ab^af))))
  aC)
 (ae (aL (ptc (aZ hu) (px hu (fv 2) ab) ao)
  (ah (aB (cK T.aQ (sF T) hr (fv 1^px hu (fv 2) ab^px hu (fv 2) ab^px hu (fv 0) ao^px hu (fv 2) ab^px hu (fv 2) ab^af))))
  aC)
 (ah (aB (cK T.fX (rK T) hr (fv 1^px hu (fv 2) ab^pcT hJ T.cC (px hu (fv 2) ab^af)^px hu (fv 0) ao^af)))))))),?_⟩
 refine ak λM1 K1=>dgk hfr rfl (K1 _ _ ?_);clear K1 M1;try dsimp only
 refine ak λM2 K2=>dgk hfr rfl (K2 _ _ ?_);clear K2 M2;try dsimp only
 cases r with
 |iff val l r=>
  refine ak λM3 K3=>tix (j:=0) et' rfl ⟨rfl,_,rfl,aV (λ_=>?_) (λz=>absurd rfl (jb z))⟩;refine tix (j:=1) et' rfl (dgk hfr rfl (dgk hfr rfl (tix (j:=2) et' rfl (tix (j:=3) et' rfl (λr6 dx hr6 hd_ hne_=>⟨_,_,_,_,_,_,_,_,_,_,_,rfl,rfl,hr6,hd_,(SqL.of hlf),(SqL.of hlr),λn6 n7 H6 f6 f7 s6 h6 h7 hx=>⟨rfl,q r6 H6 s6 hr6 ?_⟩⟩)))));show dQ A N (del M H6) (.ref r6) (.iff n val l r tf to);unfold dQ;exact⟨r6,dx,p,n6,n7,xf,xo,rfl,nw hr6 hx,od s6 _ _ (ep _ rfl),nw f6 h6,nw f7 h7,aD.same (od s6) _ _ pf,aD.same (od s6) _ _ po⟩
 |loop th m l r=>
  refine ak λM3 K3=>tix (j:=0) et' rfl ⟨rfl,_,rfl,aV (λz=>absurd (dY z) (show ¬ ("loop":Str)="if" by decide)) (λ_=>K3 _ _ ?_)⟩;clear K3 M3;try dsimp only
  refine ak λM3 K3=>tix (j:=0) et' rfl ⟨rfl,_,rfl,aV (λ_=>?_) (λz=>absurd rfl (jb z))⟩;refine tix (j:=1) et' rfl (tix (j:=2) et' rfl (dgk hfr rfl (tix (j:=3) et' rfl (tix (j:=4) et' rfl (λr6 dx hr6 hd_ hne_=>⟨_,_,_,_,_,_,_,_,_,_,rfl,rfl,hr6,hd_,(SqL.of hlr),λn6 H6 f6 s6 h6 hx=>⟨rfl,q r6 H6 s6 hr6 ?_⟩⟩)))));show dQ A N (del M H6) (.ref r6) (.loop n th m l r to);unfold dQ;exact⟨r6,dx,n6,xo,rfl,nw hr6 hx,nw f6 h6,aD.same (od s6) _ _ po⟩
 |fT i ps=>
  refine ak λM3 K3=>tix (j:=0) et' rfl ⟨rfl,_,rfl,aV (λz=>absurd (dY z) (show ¬ ("deed":Str)="if" by decide)) (λ_=>K3 _ _ ?_)⟩;clear K3 M3;try dsimp only
  refine ak λM3 K3=>tix (j:=0) et' rfl ⟨rfl,_,rfl,aV (λz=>absurd (dY z) (show ¬ ("deed":Str)="loop" by decide)) (λ_=>K3 _ _ ?_)⟩;clear K3 M3;try dsimp only
  have epp:=(bq (ep _ rfl)).2;refine tix (j:=1) et' rfl (tix (j:=2) et' rfl (KG ⟨p,_,rfl,KG (SqL.of epp),λl5 hl5=>?_⟩));obtain⟨s5,e5⟩:=alc hl5 (HO.lst (nV N ps));generalize upd H l5 _=H5 at s5 e5⊢;refine dgk (s5 _ _ hfr) rfl (λr6 dx hr6 hd_ hne_=>⟨_,_,_,_,_,_,_,_,_,rfl,rfl,hr6,hd_,(SqL.of e5),(SqL.of (s5 _ _ hlr)),λn6 n7 H6 f6 f7 s6 h6 h7 hx=>⟨rfl,q r6 H6 (s5.trans s6) (aq.free s5 hr6) ?_⟩⟩);show dQ A N (del M H6) (.ref r6) (.fT n i ps to);unfold dQ;exact⟨r6,dx,n6,n7,xo,rfl,nw (aq.free s5 hr6) hx,nw (aq.free s5 f6) h6,nw (aq.free s5 f7) h7,aD.same (od (s5.trans s6)) _ _ po⟩
 |_=>cases fb
end
section
variable{P:Program}{w:NW}{K:NO}{mg:Str->Option NK}{base:Oi}{A:Adr}{N:Nat->Str}
structure Zf where
 n:Int
 op:Lr
 fst:List Pt
 rows:List Pt
structure Zs where
 heads:List Pt
 Dt:List Pt
 fs:List Zf
noncomputable def Lr.yZ:Lr->Bool
 | .iff _ _ _=>true| .loop _ _ _ _=>true| .fT _ _=>true| .main=>true
 |_=>false
noncomputable def Zf.done(f:Zf):Pt:=nst f.n f.fst f.rows f.op
inductive Stp(k:Nat):Zs->Lr->Zs->Prop
 |opn {h d:List Pt}{fs:List Zf}{r:Lr} (b:r.yZ=true):Stp k ⟨h,d,fs⟩ r ⟨h,d,⟨(k:Int)+1,r,[],[]⟩::fs⟩
 |els {h d:List Pt}{f:Zf}{fs:List Zf}:Stp k ⟨h,d,f::fs⟩ .els ⟨h,d,⟨f.n,f.op,f.rows,[]⟩::fs⟩
 |fin1 {h d:List Pt}{f g:Zf}{fs:List Zf} (b:f.op.AU=true):Stp k ⟨h,d,f::g::fs⟩ .fin ⟨h,d,⟨g.n,g.op,g.fst,g.rows++[f.done]⟩::fs⟩
 |fin0 {h d:List Pt}{f:Zf} (b:f.op.AU=true):Stp k ⟨h,d,[f]⟩ .fin ⟨h,d++[f.done],[]⟩
 |head {h d:List Pt}{r:Lr} (b:r.lS=true):Stp k ⟨h,d,[]⟩ r ⟨h++[.leaf ((k:Int)+1) r],d,[]⟩
 |row {h d:List Pt}{f:Zf}{fs:List Zf}{r:Lr} (b:r.lS=true):Stp k ⟨h,d,f::fs⟩ r ⟨h,d,⟨f.n,f.op,f.fst,f.rows++[.leaf ((k:Int)+1) r]⟩::fs⟩
inductive iA:Nat->Zs->List Lr->Zs->Prop
 |nil {k:Nat}{s:Zs}:iA k s [] s
 |cons {k:Nat}{s s' s2:Zs}{r:Lr}{rs:List Lr} (h:Stp k s r s') (t:iA (k+1) s' rs s2):iA k s (r::rs) s2
theorem iA.inv{k:Nat}{s s2:Zs}{r:Lr}{rs:List Lr}(h:iA k s (r::rs) s2):∃s',Stp k s r s'/\iA (k+1) s' rs s2:=by
 cases h with
 |cons h t=>exact⟨_,h,t⟩
theorem iA.Kr{k:Nat}{s s2:Zs}(h:iA k s [] s2):s=s2:=by
 cases h;rfl
theorem Stp.inv1{k:Nat}{s s':Zs}{r:Lr}(h:Stp k s r s')(c:r.yZ=true)(fl:r.lS=true->False):s'=⟨s.heads,s.Dt,⟨(k:Int)+1,r,[],[]⟩::s.fs⟩:=by
 cases h with
 |opn b=>rfl
 |els=>cases c
 |fin1 b=>cases c
 |fin0 b=>cases c
 |head b=>exact(fl b).elim
 |row b=>exact(fl b).elim
theorem Stp.inv{k:Nat}{s s':Zs}{r:Lr}(h:Stp k s r s')(c:r.yZ=false):(∃h d f fs,r=.els/\s=⟨h,d,f::fs⟩/\s'=⟨h,d,⟨f.n,f.op,f.rows,[]⟩::fs⟩)\/(∃h d f g fs,f.op.AU=true/\r=.fin/\s=⟨h,d,f::g::fs⟩/\s'=⟨h,d,⟨g.n,g.op,g.fst,g.rows++[f.done]⟩::fs⟩)\/(∃h d f,f.op.AU=true/\r=.fin/\s=⟨h,d,[f]⟩/\s'=⟨h,d++[f.done],[]⟩)\/(∃h d,r.lS=true/\s=⟨h,d,[]⟩/\s'=⟨h++[.leaf ((k:Int)+1) r],d,[]⟩)\/(∃h d f fs,r.lS=true/\s=⟨h,d,f::fs⟩/\s'=⟨h,d,⟨f.n,f.op,f.fst,f.rows++[.leaf ((k:Int)+1) r]⟩::fs⟩):=by
 cases h with
 |opn b=>rw[b]at c;cases c
 |els=>exact .inl ⟨_,_,_,_,rfl,rfl,rfl⟩
 |fin1 b=>exact .inr (.inl ⟨_,_,_,_,_,b,rfl,rfl,rfl⟩)
 |fin0 b=>exact .inr (.inr (.inl ⟨_,_,_,b,rfl,rfl,rfl⟩))
 |head b=>exact .inr (.inr (.inr (.inl ⟨_,_,b,rfl,rfl⟩)))
 |row b=>exact .inr (.inr (.inr (.inr ⟨_,_,_,_,b,rfl,rfl⟩)))
theorem iA.app{k:Nat}{s s1 s2:Zs}{a b:List Lr}(h:iA k s a s1)(h2:iA (k+a.length) s1 b s2):iA k s (a++b) s2:=by
 induction h with
 |nil=>exact h2
 |cons h t ih=>
  refine .cons h (ih ?_);rw[Lb]at h2;rw[show ∀k n:Nat,k+1+n=k+(n+1)from λk n=>()];exact h2
mutual
noncomputable def pt(k:Nat):Tr->Pt
 | .leaf r=>.leaf ((k:Int)+1) r
 | .iff v l r f o=>.iff ((k:Int)+1) v l r (pts (k+1) f) (pts (k+1+(aX f).length+1) o)
 | .loop t m l r b=>.loop ((k:Int)+1) t m l r (pts (k+1) b)
noncomputable def pts(k:Nat):List Tr->List Pt
 | []=>[]
 |t::ts=>pt k t::pts (k+(flat t).length) ts
end
theorem BU{ns tg:List Nat}{dd:List Dl}{r:Lr}(h:r.ok ns tg dd):r.lS=true:=by
 cases r<;>first|rfl|exact h.elim
mutual
theorem Fy{ns tg:List Nat}{dd:List Dl}:∀(t:Tr)(k:Nat)(h d:List Pt)(f:Zf)(fs:List Zf),t.ok ns tg dd->iA k ⟨h,d,f::fs⟩ (flat t) ⟨h,d,⟨f.n,f.op,f.fst,f.rows++[pt k t]⟩::fs⟩
 | .leaf r,k,h,d,f,fs,ok=>by
  unfold Tr.ok at ok;unfold flat pt;exact .cons (.row (BU ok)) .nil
 | .iff v l r a b,k,h,d,f,fs,ok=>by
  unfold Tr.ok at ok;obtain⟨_,_,_,oa,ob⟩:=ok;unfold flat pt;exact .cons (.opn rfl) (iA.app (nh a (k+1) h d _ _ oa) (.cons .els (iA.app (nh b _ h d _ _ ob) (.cons (.fin1 rfl) .nil))))
 | .loop t m l r b,k,h,d,f,fs,ok=>by
  unfold Tr.ok at ok;obtain⟨_,_,_,_,_,ob⟩:=ok;unfold flat pt;exact .cons (.opn rfl) (iA.app (nh b (k+1) h d _ _ ob) (.cons (.fin1 rfl) .nil))
theorem nh{ns tg:List Nat}{dd:List Dl}:∀(ts:List Tr)(k:Nat)(h d:List Pt)(f:Zf)(fs:List Zf),dU ns tg dd ts->iA k ⟨h,d,f::fs⟩ (aX ts) ⟨h,d,⟨f.n,f.op,f.fst,f.rows++pts k ts⟩::fs⟩
 | [],k,h,d,f,fs,ok=>by
  unfold aX pts;rw[Lv];exact .nil
 |t::ts,k,h,d,f,fs,ok=>by
  unfold dU at ok;unfold aX pts;have h1:=Fy t k h d f fs ok.1;have h2:=nh ts (k+(flat t).length) h d ⟨f.n,f.op,f.fst,f.rows++[pt k t]⟩ fs ok.2;rw[show f.rows++[pt k t]++pts (k+(flat t).length) ts=f.rows++pt k t::pts (k+(flat t).length) ts by simp]at h2;exact h1.app h2
end
noncomputable def ptD(k:Nat):List Dl->List (List Tr)->List Pt
 |d::ds,b::bs=>.fT ((k:Int)+1) d.nm d.ps (pts (k+1) b)::ptD (k+1+(aX b).length+1) ds bs
 |_,_=>[]
theorem Bq:∀(ds:List Dl)(bs:List (List Tr))(k:Nat)(h e:List Pt),(∀b∈bs,∃ns tg dd,dU ns tg dd b)->iA k ⟨h,e,[]⟩ (dJ ds bs) ⟨h,e++ptD k ds bs,[]⟩
 | [],_,k,h,e,_=>by
  unfold dJ ptD;rw[Lv];exact .nil
 |d::ds,[],k,h,e,_=>by
  unfold dJ ptD;rw[Lv];exact .nil
 |d::ds,b::bs,k,h,e,ok=>by
  unfold dJ ptD;obtain⟨ns,tg,dd,ob⟩:=ok b Ku;refine .cons (.opn rfl) (iA.app (nh b (k+1) h e _ _ ob) (.cons (.fin0 rfl) ?_));have:=Bq ds bs (k+1+(aX b).length+1) h (e++[.fT ((k:Int)+1) d.nm d.ps (pts (k+1) b)]) (λx hx=>ok x (Kw _ hx));rw[Le]at this;exact this
noncomputable def lfs(k:Nat):List Lr->List Pt
 | []=>[]
 |r::rs=>.leaf ((k:Int)+1) r::lfs (k+1) rs
theorem CW:∀(rs:List Lr)(k:Nat)(h e:List Pt),(∀r∈rs,r.lS=true)->iA k ⟨h,e,[]⟩ rs ⟨h++lfs k rs,e,[]⟩
 | [],k,h,e,_=>by
  unfold lfs;rw[Lv];exact .nil
 |r::rs,k,h,e,ok=>by
  unfold lfs;refine .cons (.head (ok r Ku)) ?_;have:=CW rs (k+1) (h++[.leaf ((k:Int)+1) r]) e (λx hx=>ok x (Kw _ hx));rw[Le]at this;exact this
theorem BQ{lim:Int}{lrs:List Lr}{rk:Nat->Int}{z:Int}{t:Nat}{dls:List Dl}{bss:List (List Tr)}{mb:List Tr}(D:A8 lim lrs rk z t dls bss mb) :
  ∃body,lrs=body++[.fin]/\∃n:Nat,iA 0 ⟨[],[],[]⟩ body ⟨lfs 0 (rot t (cc rk z)),ptD (rot t (cc rk z)).length dls bss,[⟨(n:Int)+1,.main,[],pts (n+1) mb⟩]⟩/\n=(rot t (cc rk z)).length+(dJ dls bss).length:=by
 refine⟨rot t (cc rk z)++dJ dls bss++(.main::aX mb),by rw[D.e];simp,_,?_,rfl⟩
 have hb:∀r∈rot t (cc rk z),r.lS=true:=λr hr=>by
  have:r∈cc rk z:=by
   rcases Kz.mp hr with h|h
   ·exact Ro h
   exact Rp h
  simp only[cc,Kt,KH,or_false]at this;rcases this with e|e|e|e|e|e|e|e|e|e|e|e|e<;>(rw[e];rfl)
 have h1:=CW (rot t (cc rk z)) 0 [] [] hb
 have h2:=Bq dls bss (0+(rot t (cc rk z)).length) ([]++lfs 0 (rot t (cc rk z))) [] (λb hb=>by
  obtain⟨j,hj⟩:=La hb;have jl:j<dls.length:=by
   rw[D.dd.len];exact(KA.mp hj).1
  exact⟨_,_,_,(D.dd.bs j _ b (Kv jl) hj).1⟩)
 have h12:=h1.app h2
 refine h12.app (.cons (.opn rfl) ?_)
 have h3:=nh mb (0+(rot t (cc rk z)++dJ dls bss).length+1) (lfs 0 (rot t (cc rk z))) (ptD (rot t (cc rk z)).length dls bss) ⟨((0+(rot t (cc rk z)++dJ dls bss).length:Nat):Int)+1,.main,[],[]⟩ [] D.ob
 simpa using h3
end
section
variable{P:Program}{w:NW}{K:NO}{mg:Str->Option NK}{base:Oi}{A:Adr}{N:Nat->Str}
structure Fa where
 fr:NL
 lf:NL
 lr:NL
noncomputable def Fa.l(a:Fa):List NL:=[a.fr,a.lf,a.lr]
noncomputable def Tm(lh ld lf:NL)(as:List Fa):List NL:=lh::ld::lf::as.flatMap Fa.l
noncomputable def CZ(A:Adr)(N:Nat->Str)(X H:Hp)(a:Fa)(f:Zf):Prop:=∃v xf xo,H a.fr=T9 (.dK (frT f.n v a.lf a.lr))/\bS N X v f.op/\H a.lf=T9 (.lst xf)/\H a.lr=T9 (.lst xo)/\aD A N X xf f.fst/\aD A N X xo f.rows
theorem CZ.go{X X' H H':Hp}{a:Fa}{f:Zf}(s:aq X X')(k:∀x∈a.l,∀o,H x=T9 o->H' x=T9 o)(h:CZ A N X H a f):CZ A N X' H' a f:=by
 obtain⟨v,xf,xo,h1,h2,h3,h4,h5,h6⟩:=h;exact⟨v,xf,xo,k _ (by simp[Fa.l]) _ h1,h2.same s,k _ (by simp[Fa.l]) _ h3,k _ (by simp[Fa.l]) _ h4,aD.same s _ _ h5,aD.same s _ _ h6⟩
theorem Paired.mapM{α β:Type}{F G:α->β->Prop}:∀{xs:List α}{ys:List β},Paired F xs ys->(∀a b,a∈xs->F a b->G a b)->Paired G xs ys
 |_,_,.nil,_=>.nil
 |_,_,.cons h r,k=>.cons (k _ _ Ku h) (Paired.mapM r λa b m=>k a b (Kw _ m))
structure fH(A:Adr)(N:Nat->Str)(H:Hp)(lh ld lf:NL)(as:List Fa)(s:Zs)(i:Nat):Prop where
 hh:∃xs,H lh=T9 (.lst xs)/\aD A N (del (Tm lh ld lf as) H) xs s.heads
 hd:∃xs,H ld=T9 (.lst xs)/\aD A N (del (Tm lh ld lf as) H) xs s.Dt
 hf:H lf=T9 (.lst (as.reverse.map λa=>V.ref a.fr))
 fr:Paired (CZ A N (del (Tm lh ld lf as) H) H) as s.fs
 nd:(Tm lh ld lf as).Nodup
 bd:s.heads.length<=i/\s.Dt.length<=i/\s.fs.length<=i/\∀f∈s.fs,f.rows.length<=i
variable{H H':Hp}{lh ld lf:NL}{as:List Fa}{a:Fa}{s:Zs}{i:Nat}{h d:List Pt}{f:Zf}{fs:List Zf}
theorem fH.same(z:aq H H')(t:fH A N H lh ld lf as s i):fH A N H' lh ld lf as s i:=by
 have sx:=(Go.new (M:=Tm lh ld lf as) z).same;obtain⟨x1,h1,p1⟩:=t.hh;obtain⟨x2,h2,p2⟩:=t.hd;exact⟨⟨x1,z _ _ h1,aD.same sx _ _ p1⟩,⟨x2,z _ _ h2,aD.same sx _ _ p2⟩,z _ _ t.hf,Paired.cS t.fr λ_ _ q=>q.go sx λx _ o e=>z _ _ e,t.nd,t.bd⟩
theorem kB{b:Fa}{x:NL}(hb:b∈as)(hx:x∈b.l):x∈as.flatMap Fa.l:=LB.mpr ⟨b,hb,hx⟩
theorem fH.al(t:fH A N H lh ld lf as s i):∀x∈Tm lh ld lf as,H x≠Ua:=λx m e=>by
 obtain⟨x1,h1,_⟩:=t.hh;obtain⟨x2,h2,_⟩:=t.hd;unfold Tm at m;rcases Kt.mp m with rfl|m
 ·rw[h1]at e;cases e
 rcases Kt.mp m with rfl|m
 ·rw[h2]at e;cases e
 rcases Kt.mp m with rfl|m
 ·rw[t.hf]at e;cases e
 obtain⟨b,hb,hx⟩:=LB.mp m;obtain⟨j,hj⟩:=La hb;obtain⟨f,_,v,xf,xo,q1,_,q3,q4,_⟩:=bg t.fr hj;simp only[Fa.l,Kt,KH,or_false]at hx;rcases hx with rfl|rfl|rfl
 ·rw[q1]at e;cases e
 ·rw[q3]at e;cases e
 rw[q4]at e;cases e
theorem tm3(nd:(Tm lh ld lf as).Nodup):lh≠ld/\lh≠lf/\ld≠lf/\(∀x∈as.flatMap Fa.l,x≠lh/\x≠ld/\x≠lf)/\(as.flatMap Fa.l).Nodup:=by
 unfold Tm at nd;obtain⟨n1,nd⟩:=KU.mp nd;obtain⟨n2,nd⟩:=KU.mp nd;obtain⟨n3,nd⟩:=KU.mp nd;refine⟨λe=>n1 (by rw[e];simp),λe=>n1 (by rw[e];simp),λe=>n2 (by rw[e];simp),λx m=>⟨λe=>n1 ?_,λe=>n2 ?_,λe=>n3 ?_⟩,nd⟩
 ·rw[<-e];simp only[Kt];exact .inr (.inr m)
 ·rw[<-e];simp only[Kt];exact .inr m
 rw[<-e];exact m
theorem yb(nd:((a::as).flatMap Fa.l).Nodup):a.fr≠a.lf/\a.fr≠a.lr/\a.lf≠a.lr/\(∀x∈as.flatMap Fa.l,x≠a.fr/\x≠a.lf/\x≠a.lr)/\(as.flatMap Fa.l).Nodup:=by
 rw[Lf]at nd;have e:a.l=[a.fr,a.lf,a.lr]:=rfl;rw[e]at nd;obtain⟨n1,nd⟩:=KU.mp (show(a.fr::a.lf::a.lr::as.flatMap Fa.l).Nodup from nd);obtain⟨n2,nd⟩:=KU.mp nd;obtain⟨n3,nd⟩:=KU.mp nd;refine⟨λe=>n1 (by rw[e];simp),λe=>n1 (by rw[e];simp),λe=>n2 (by rw[e];simp),λx m=>⟨λe=>n1 ?_,λe=>n2 ?_,λe=>n3 ?_⟩,nd⟩
 ·rw[<-e];simp only[Kt];exact .inr (.inr m)
 ·rw[<-e];simp only[Kt];exact .inr m
 rw[<-e];exact m
theorem fH.Jj{xs:List V}{x:V}{p:Pt}(t:fH A N H lh ld lf as ⟨h,d,fs⟩ i)(e:H lh=T9 (.lst xs))(hp:dQ A N (del (Tm lh ld lf as) H) x p):fH A N (upd H lh (.lst (xs++[x]))) lh ld lf as ⟨h++[p],d,fs⟩ (i+1):=by
 obtain⟨n1,n2,n3,n4,n5⟩:=tm3 t.nd;have sx:=(Go.at (M:=Tm lh ld lf as) (H:=H) (x:=lh) (by simp[Tm]) (.lst (xs++[x]))).same;obtain⟨x1,h1,p1⟩:=t.hh;obtain⟨x2,h2,p2⟩:=t.hd;rw[e]at h1;cases h1;refine⟨⟨_,aj,(aD.same sx _ _ p1).snoc (dQ.same sx _ _ hp)⟩,⟨x2,ag n1.symm h2,aD.same sx _ _ p2⟩,ag n2.symm t.hf,Paired.mapM t.fr λb q hb r=>r.go sx λy hy o z=>ag (n4 y (kB hb hy)).1 z,t.nd,?_⟩;obtain⟨b1,b2,b3,b4⟩:=t.bd;exact⟨by simp at b1⊢;omega,Ld b2,Ld b3,λf hf=>Ld (b4 f hf)⟩
theorem fH.JC{xs:List V}{x:V}{p:Pt}(t:fH A N H lh ld lf as ⟨h,d,fs⟩ i)(e:H ld=T9 (.lst xs))(hp:dQ A N (del (Tm lh ld lf as) H) x p):fH A N (upd H ld (.lst (xs++[x]))) lh ld lf as ⟨h,d++[p],fs⟩ (i+1):=by
 obtain⟨n1,n2,n3,n4,n5⟩:=tm3 t.nd;have sx:=(Go.at (M:=Tm lh ld lf as) (H:=H) (x:=ld) (by simp[Tm]) (.lst (xs++[x]))).same;obtain⟨x1,h1,p1⟩:=t.hh;obtain⟨x2,h2,p2⟩:=t.hd;rw[e]at h2;cases h2;refine⟨⟨x1,ag n1 h1,aD.same sx _ _ p1⟩,⟨_,aj,(aD.same sx _ _ p2).snoc (dQ.same sx _ _ hp)⟩,ag n3.symm t.hf,Paired.mapM t.fr λb q hb r=>r.go sx λy hy o z=>ag (n4 y (kB hb hy)).2.1 z,t.nd,?_⟩;obtain⟨b1,b2,b3,b4⟩:=t.bd;exact⟨Ld b1,by simp at b2⊢;omega,Ld b3,λf hf=>Ld (b4 f hf)⟩
theorem fH.Fd{xs:List V}{x:V}{p:Pt}(t:fH A N H lh ld lf (a::as) ⟨h,d,f::fs⟩ i)(e:H a.lr=T9 (.lst xs))(hp:dQ A N (del (Tm lh ld lf (a::as)) H) x p):fH A N (upd H a.lr (.lst (xs++[x]))) lh ld lf (a::as) ⟨h,d,⟨f.n,f.op,f.fst,f.rows++[p]⟩::fs⟩ (i+1):=by
 obtain⟨n1,n2,n3,n4,n5⟩:=tm3 t.nd;obtain⟨m1,m2,m3,m4,_⟩:=yb n5;have im:a.lr∈(a::as).flatMap Fa.l:=kB Ku (by simp[Fa.l]);obtain⟨k1,k2,k3⟩:=n4 _ im;have sx:=(Go.at (M:=Tm lh ld lf (a::as)) (H:=H) (x:=a.lr) (by unfold Tm;simp only[Kt];exact .inr (.inr (.inr im))) (.lst (xs++[x]))).same;obtain⟨x1,h1,p1⟩:=t.hh;obtain⟨x2,h2,p2⟩:=t.hd;cases t.fr with
 |cons q r=>
  obtain⟨v,xf,xo,q1,q2,q3,q4,q5,q6⟩:=q;rw[e]at q4;cases q4;refine⟨⟨x1,ag k1.symm h1,aD.same sx _ _ p1⟩,⟨x2,ag k2.symm h2,aD.same sx _ _ p2⟩,ag k3.symm t.hf,.cons ⟨v,xf,xs++[x],ag m2 q1,q2.same sx,ag m3 q3,aj,aD.same sx _ _ q5,(aD.same sx _ _ q6).snoc (dQ.same sx _ _ hp)⟩ (Paired.mapM r λb q hb r=>r.go sx λy hy o z=>ag (m4 y (kB hb hy)).2.2 z),t.nd,?_⟩;obtain⟨b1,b2,b3,b4⟩:=t.bd;refine⟨Ld b1,Ld b2,Ld b3,λf' hf=>?_⟩;rcases Kt.mp hf with rfl|hf
  ·have:=b4 f Ku;simp;exact this
  exact Ld (b4 f' (Kw _ hf))
theorem rq{x:NL}(m:x∈Tm lh ld lf as):x∈Tm lh ld lf (a::as):=by
 unfold Tm at m⊢;simp only[Kt,Lf,Kz]at m⊢;rcases m with m|m|m|m
 ·exact .inl m
 ·exact .inr (.inl m)
 ·exact .inr (.inr (.inl m))
 exact .inr (.inr (.inr (.inr m)))
theorem fH.pop(t:fH A N H lh ld lf (a::as) ⟨h,d,f::fs⟩ i):fH A N (upd H lf (.lst (as.reverse.map λa=>V.ref a.fr))) lh ld lf as ⟨h,d,fs⟩ i/\CZ A N (del (Tm lh ld lf (a::as)) (upd H lf (.lst (as.reverse.map λa=>V.ref a.fr)))) (upd H lf (.lst (as.reverse.map λa=>V.ref a.fr))) a f:=by
 obtain⟨n1,n2,n3,n4,n5⟩:=tm3 t.nd;obtain⟨m1,m2,m3,m4,m5⟩:=yb n5;have sx:=(Go.at (M:=Tm lh ld lf (a::as)) (H:=H) (x:=lf) (by simp[Tm]) (.lst (as.reverse.map λa=>V.ref a.fr))).same;have sy:aq (del (Tm lh ld lf (a::as)) (upd H lf (.lst (as.reverse.map λa=>V.ref a.fr)))) (del (Tm lh ld lf as) (upd H lf (.lst (as.reverse.map λa=>V.ref a.fr)))):=λx o e=>aK (λm=>(bq e).1 (rq m)) (bq e).2;have sz':=sx.trans sy;obtain⟨x1,h1,p1⟩:=t.hh;obtain⟨x2,h2,p2⟩:=t.hd;cases t.fr with
 |cons q r=>
  refine⟨⟨⟨x1,ag n2 h1,aD.same sz' _ _ p1⟩,⟨x2,ag n3 h2,aD.same sz' _ _ p2⟩,aj,Paired.mapM r λb q hb r=>r.go sz' λy hy o z=>ag (n4 y (kB (Kw _ hb) hy)).2.2 z,?_,?_⟩,q.go sx λy hy o z=>ag (n4 y (kB Ku hy)).2.2 z⟩
  ·have nd:=t.nd;unfold Tm at nd⊢;rw[Lf]at nd;exact nd.sublist (((List.sublist_append_right _ _).cons₂ _).cons₂ _ |>.cons₂ _)
  obtain⟨b1,b2,b3,b4⟩:=t.bd;exact⟨b1,b2,Nat.le_of_succ_le b3,λf' hf=>b4 f' (Kw _ hf)⟩
theorem fH.opn{H1:Hp}{fr l1 l2:NL}{n:Int}{v:V}{r:Lr}(t:fH A N H lh ld lf as ⟨h,d,fs⟩ i)(s1:aq H H1)(f0:H fr=Ua)(f1:H l1=Ua)(f2:H l2=Ua)(d1:fr≠l1)(d2:fr≠l2)(d3:l1≠l2)(e0:H1 fr=T9 (.dK (frT n v l1 l2)))(e1:H1 l1=T9 (.lst []))(e2:H1 l2=T9 (.lst []))(lr:bS N (del (Tm lh ld lf as) H) v r) :
  fH A N (upd H1 lf (.lst ((as.reverse.map λa=>V.ref a.fr)++[.ref fr]))) lh ld lf (⟨fr,l1,l2⟩::as) ⟨h,d,⟨n,r,[],[]⟩::fs⟩ (i+1):=by
 obtain⟨n1,n2,n3,n4,n5⟩:=tm3 t.nd
 have al:=t.al
 have o0:fr∉Tm lh ld lf as:=λm=>al _ m f0
 have o1:l1∉Tm lh ld lf as:=λm=>al _ m f1
 have o2:l2∉Tm lh ld lf as:=λm=>al _ m f2
 have il:lf∈Tm lh ld lf as:=by simp[Tm]
 have g:Go (Tm lh ld lf as) H (Tm lh ld lf (⟨fr,l1,l2⟩::as)) (upd H1 lf (.lst ((as.reverse.map λa=>V.ref a.fr)++[.ref fr]))):=((Go.new s1).trans (Go.at il _)).to λx m=>by
  unfold Tm at m;simp only[Kt,Lf,Kz,Fa.l,KH,or_false]at m;rcases m with m|m|m|(m|m|m)|m
  ·exact .inl (by rw[m];simp[Tm])
  ·exact .inl (by rw[m];simp[Tm])
  ·exact .inl (by rw[m];exact il)
  ·exact .inr (.inr (by rw[m];exact f0))
  ·exact .inr (.inr (by rw[m];exact f1))
  ·exact .inr (.inr (by rw[m];exact f2))
  exact .inl (by unfold Tm;simp only[Kt];exact .inr (.inr (.inr m)))
 have sx:=g.same
 obtain⟨x1,h1,p1⟩:=t.hh
 obtain⟨x2,h2,p2⟩:=t.hd
 have frl:fr≠lf:=λz=>o0 (by rw[z];exact il)
 have l1l:l1≠lf:=λz=>o1 (by rw[z];exact il)
 have l2l:l2≠lf:=λz=>o2 (by rw[z];exact il)
 refine⟨⟨x1,ag n2 (s1 _ _ h1),aD.same sx _ _ p1⟩,⟨x2,ag n3 (s1 _ _ h2),aD.same sx _ _ p2⟩,?_,.cons ⟨v,[],[],ag frl e0,lr.same sx,ag l1l e1,ag l2l e2,aD.nil,aD.nil⟩ (Paired.mapM t.fr λb q hb r=>r.go sx λy hy o z=>ag (n4 y (kB hb hy)).2.2 (s1 _ _ z)),?_,?_⟩
 ·rw[aj,Lz,KZ];rfl
 ·unfold Tm;rw[Lf];show(lh::ld::lf::fr::l1::l2::as.flatMap Fa.l).Nodup;have nn:∀x,x∉Tm lh ld lf as->x≠lh/\x≠ld/\x≠lf/\x∉as.flatMap Fa.l:=λx hx=>by
   unfold Tm at hx;simp only[Kt,not_or]at hx;exact hx
  obtain⟨a1,a2,a3,a4⟩:=nn _ o0;obtain⟨b1,b2,b3,b4⟩:=nn _ o1;obtain⟨c1,c2,c3,c4⟩:=nn _ o2;have y1:lh∉as.flatMap Fa.l:=λm=>(n4 _ m).1 rfl;have y2:ld∉as.flatMap Fa.l:=λm=>(n4 _ m).2.1 rfl;have y3:lf∉as.flatMap Fa.l:=λm=>(n4 _ m).2.2 rfl;simp only[KU,Kt,not_or];exact⟨⟨n1,n2,a1.symm,b1.symm,c1.symm,y1⟩,⟨n3,a2.symm,b2.symm,c2.symm,y2⟩,⟨a3.symm,b3.symm,c3.symm,y3⟩,⟨d1,d2,a4⟩,⟨d3,b4⟩,c4,n5⟩
 obtain⟨b1,b2,b3,b4⟩:=t.bd
 refine⟨Ld b1,Ld b2,Mq b3,λf hf=>?_⟩
 rcases Kt.mp hf with rfl|hf
 ·exact KW _
 exact Ld (b4 f hf)
end
section
variable{P:Program}{w:NW}{K:NO}{mg:Str->Option NK}{base:Oi}{A:Adr}{N:Nat->Str}
seal PE PA PS PSs PT PW
theorem fH.els{H H3:Hp}{lh ld lf l:NL}{as:List Fa}{a:Fa}{i:Nat}{h d:List Pt}{f:Zf}{fs:List Zf}{v:V}{xo:List V}(t:fH A N H lh ld lf (a::as) ⟨h,d,f::fs⟩ i)(q2:bS N (del (Tm lh ld lf (a::as)) H) v f.op)(q4:H a.lr=T9 (.lst xo))(q6:aD A N (del (Tm lh ld lf (a::as)) H) xo f.rows)(l0:H l=Ua)(k:∀x o,x≠a.fr->H x=T9 o->H3 x=T9 o)(e1:H3 a.fr=T9 (.dK (frT f.n v a.lr l)))(e2:H3 l=T9 (.lst [])) :
  fH A N H3 lh ld lf (⟨a.fr,a.lr,l⟩::as) ⟨h,d,⟨f.n,f.op,f.rows,[]⟩::fs⟩ (i+1)/\Go (Tm lh ld lf (a::as)) H (Tm lh ld lf (⟨a.fr,a.lr,l⟩::as)) H3:=by
 obtain⟨n1,n2,n3,n4,n5⟩:=tm3 t.nd
 obtain⟨m1,m2,m3,m4,m5⟩:=yb n5
 have al:=t.al
 have ol:l∉Tm lh ld lf (a::as):=λm=>al _ m l0
 have imf:a.fr∈(a::as).flatMap Fa.l:=kB Ku (by simp[Fa.l])
 have imr:a.lr∈(a::as).flatMap Fa.l:=kB Ku (by simp[Fa.l])
 obtain⟨k1,k2,k3⟩:=n4 _ imf
 obtain⟨r1,r2,r3⟩:=n4 _ imr
 have g:Go (Tm lh ld lf (a::as)) H (Tm lh ld lf (⟨a.fr,a.lr,l⟩::as)) H3:=by
  refine⟨λx o m e=>k x o (λz=>m ?_) e,λx m=>?_⟩
  ·rw[z];unfold Tm;simp only[Kt];exact .inr (.inr (.inr imf))
  unfold Tm at m;simp only[Kt,Lf,Kz,Fa.l,KH,or_false]at m;unfold Tm;simp only[Kt,Lf,Kz,Fa.l,KH,or_false];rcases m with m|m|m|(m|m|m)|m
  ·exact .inl (.inl m)
  ·exact .inl (.inr (.inl m))
  ·exact .inl (.inr (.inr (.inl m)))
  ·exact .inl (.inr (.inr (.inr (.inl (.inl m)))))
  ·exact .inl (.inr (.inr (.inr (.inl (.inr (.inr m))))))
  ·exact .inr (by rw[m];exact l0)
  exact .inl (.inr (.inr (.inr (.inr m))))
 have sx:=g.same
 obtain⟨x1,h1,p1⟩:=t.hh
 obtain⟨x2,h2,p2⟩:=t.hd
 refine⟨?_,g⟩
 have hf:=t.hf
 rw[Lz,KZ]at hf
 cases t.fr with
 |cons q r=>
  refine⟨⟨x1,k _ _ k1.symm h1,aD.same sx _ _ p1⟩,⟨x2,k _ _ k2.symm h2,aD.same sx _ _ p2⟩,?_,.cons ⟨v,xo,[],e1,q2.same sx,k _ _ m2.symm q4,e2,aD.same sx _ _ q6,aD.nil⟩ (Paired.mapM r λb q hb r=>r.go sx λy hy o z=>k _ _ (m4 y (kB hb hy)).1 z),?_,?_⟩
  ·rw[Lz,KZ];exact k _ _ k3.symm hf
  ·unfold Tm;rw[Lf];show(lh::ld::lf::a.fr::a.lr::l::as.flatMap Fa.l).Nodup;unfold Tm at ol;simp only[Kt,Lf,Kz,Fa.l,KH,or_false,not_or]at ol;obtain⟨c1,c2,c3,⟨c4,c5,c6⟩,c7⟩:=ol;have sub:∀x,x∈as.flatMap Fa.l->x∈(a::as).flatMap Fa.l:=λx m=>by rw[Lf];exact KQ _ m
   have y1:lh∉as.flatMap Fa.l:=λm=>(n4 _ (sub _ m)).1 rfl;have y2:ld∉as.flatMap Fa.l:=λm=>(n4 _ (sub _ m)).2.1 rfl;have y3:lf∉as.flatMap Fa.l:=λm=>(n4 _ (sub _ m)).2.2 rfl;have y4:a.fr∉as.flatMap Fa.l:=λm=>(m4 _ m).1 rfl;have y5:a.lr∉as.flatMap Fa.l:=λm=>(m4 _ m).2.2 rfl;simp only[KU,Kt,not_or];exact⟨⟨n1,n2,k1.symm,r1.symm,LF c1,y1⟩,⟨n3,k2.symm,r2.symm,LF c2,y2⟩,⟨k3.symm,r3.symm,LF c3,y3⟩,⟨m2,LF c4,y4⟩,⟨LF c6,y5⟩,c7,m5⟩
  obtain⟨b1,b2,b3,b4⟩:=t.bd
  refine⟨Ld b1,Ld b2,Ld b3,λf' hf=>?_⟩
  rcases Kt.mp hf with rfl|hf
  ·exact KW _
  exact Ld (b4 f' (Kw _ hf))
noncomputable def sY(A:Adr)(N:Nat->Str)(X:Hp)(v:V)(hs ds ms:List Pt):Prop:=∃a dx n0 n1 n2 x0 x1 x2,v=.ref a/\X a=T9 (.ins A.Program dx [("heads",.ref n0),("deeds",.ref n1),("main",.ref n2)])/\X n0=T9 (.lst x0)/\X n1=T9 (.lst x1)/\X n2=T9 (.lst x2)/\aD A N X x0 hs/\aD A N X x1 ds/\aD A N X x2 ms
theorem sY.same{X X':Hp}(s:aq X X'){v:V}{hs ds ms:List Pt}(h:sY A N X v hs ds ms):sY A N X' v hs ds ms:=by
 obtain⟨a,dx,n0,n1,n2,x0,x1,x2,e,h1,h2,h3,h4,h5,h6,h7⟩:=h;exact⟨a,dx,n0,n1,n2,x0,x1,x2,e,s _ _ h1,s _ _ h2,s _ _ h3,s _ _ h4,aD.same s _ _ h5,aD.same s _ _ h6,aD.same s _ _ h7⟩
noncomputable abbrev op4:List V:=[.str "if",.str "loop",.str "deed",.str "main"]
theorem Fh(r:Lr):inV (.str r.w) op4=r.yZ:=by
 cases r<;>(first|exact(show inV (V.str "hand") op4=false by decide)|exact(show inV (V.str "given") op4=false by decide)|exact(show inV (V.str "own") op4=false by decide)|exact(show inV (V.str "let") op4=false by decide)|exact(show inV (V.str "set") op4=false by decide)|exact(show inV (V.str "put") op4=false by decide)|exact(show inV (V.str "send") op4=false by decide)|exact(show inV (V.str "say") op4=false by decide)|exact(show inV (V.str "call") op4=false by decide)|exact(show inV (V.str "last") op4=false by decide)|exact(show inV (V.str "if") op4=true by decide)|exact(show inV (V.str "loop") op4=true by decide)|exact(show inV (V.str "else") op4=false by decide)|exact(show inV (V.str "end") op4=false by decide)|exact(show inV (V.str "deed") op4=true by decide)|exact(show inV (V.str "main") op4=true by decide))
theorem u5{r:Lr}(b:r.lS=true)(c:r.yZ=true):False:=by
 cases r<;>first|exact Mz b|exact Mz c
theorem Ca{r:Lr}(b:r.lS=true):r.w≠"else"/\r.w≠"end":=by
 cases r with
 |hand _ _=>exact(show("hand":Str)≠"else"/\("hand":Str)≠"end" by decide)
 |giv _ _ _=>exact(show("given":Str)≠"else"/\("given":Str)≠"end" by decide)
 |own _ _=>exact(show("own":Str)≠"else"/\("own":Str)≠"end" by decide)
 |lt _ _=>exact(show("let":Str)≠"else"/\("let":Str)≠"end" by decide)
 |set _ _=>exact(show("set":Str)≠"else"/\("set":Str)≠"end" by decide)
 |put _ _ _=>exact(show("put":Str)≠"else"/\("put":Str)≠"end" by decide)
 |snd _ _=>exact(show("send":Str)≠"else"/\("send":Str)≠"end" by decide)
 |say _ _ _=>exact(show("say":Str)≠"else"/\("say":Str)≠"end" by decide)
 |call _ _=>exact(show("call":Str)≠"else"/\("call":Str)≠"end" by decide)
 |last=>exact(show("last":Str)≠"else"/\("last":Str)≠"end" by decide)
 |_=>exact Mz b
theorem E2{r:Lr}(b:r.AU=true):r.w≠"main":=by
 cases r with
 |iff _ _ _=>exact(show("if":Str)≠"main" by decide)
 |loop _ _ _ _=>exact(show("loop":Str)≠"main" by decide)
 |fT _ _=>exact(show("deed":Str)≠"main" by decide)
 |_=>exact Mz b
theorem BZ{X:Hp}{v:V}{r:Lr}(h:bS N X v r):∃t xs,v=.ref t/\X t=T9 (.tup (.str r.w::xs)):=by
 obtain⟨t,p,e,h1,_⟩:=h;exact⟨t,_,e,h1⟩
inductive Al(A:Adr)(vs:List V)(H:Hp)(Q:VK)(Z:XK):Prop
 |mk(N:Nat->Str)(LR:NL)(rows:List V)(body:List Lr)(n:Int)(fo hs ds ms:List Pt):vs=[.ref LR]->H LR=T9 (.lst rows)->Paired (bS N H) rows (body++[.fin])->iA 0 ⟨[],[],[]⟩ body ⟨hs,ds,[⟨n,.main,fo,ms⟩]⟩->body.length<=500->(∀(v:V)(H':Hp),aq H H'->sY A N H' v hs ds ms->Q v H')->Al A vs H Q Z
inductive IvT(A:Adr)(N:Nat->Str)(LR lh ld lf:NL)(body:List Lr)(H:Hp)(hs ds fo ms:List Pt)(n:Int)(i:Nat)(σ:St)(Hc:Hp):Prop
 |mk(as:List Fa)(z:Zs)(v4 v5 v6 v7:Option V):σ=[T9 (.ref LR),T9 (.ref lh),T9 (.ref ld),T9 (.ref lf),v4,v5,v6,v7]->i<=body.length->Go [] H (Tm lh ld lf as) Hc->fH A N Hc lh ld lf as z i->iA i z (body.drop i) ⟨hs,ds,[⟨n,.main,fo,ms⟩]⟩->IvT A N LR lh ld lf body H hs ds fo ms n i σ Hc
theorem F6(T:Txt K mg A):T.sj.Hz P w base 6 (Al A):=by
 refine T.sj.hs (k:=5) c8 (λf cdv A' outer s H vs Q E' hr hu h=>?_);obtain⟨N,LR,rows,body,n,fo,hs,ds,ms,rfl,hLR,pr,st,bl,q⟩:=h;have lr:rows.length=body.length+1:=by
  have:=NV pr;rw[this,KC];rfl
 refine⟨_,(ae (pst 1 c8.nd (bA af))
 (ae (pst 2 c8.nd (bA af))
 (ae (pst 3 c8.nd (bA af))
 (ae (df Oa rfl (hZ rfl T.g8 (pcB cu T.cI (fv 0^af)^af)) (pgn (i:=4) c8.nd rfl)
  (ae (pst 5 c8.nd (px hu (px hu (fv 0) (fv 4)) ab))
  (ah (aL (ptc (BN hu) (fv 5) (bp (ao^ao^ao^ao^af)) ((by with_unfolding_all rfl)))
   (ah (aI (cw (fv 3) ((qy (cG ao (aw bC (fv 4) ab) (cG ao (px hu (fv 0) (fv 4)) (cG ao (bA af) (cG ao (bA af) (qz))))) rfl rfl (by intro z;cases z) ∅)^af))))
   (ah (aL (ptc (aZ hu) (fv 5) ao)
    (ae (bo (px hu (px hu (fv 3) (jq fw ab)) ao) (bz (px hu (fv 3) (jq fw ab)) ao (bu hu Uc)))
    (ah (bo (bA af) (bz (px hu (fv 3) (jq fw ab)) ao (bu hu Uc)))))
    (ah (aL (ptc (aZ hu) (fv 5) ao)
     (ae (pst 6 c8.nd (E8 (fv 3)))
     (ae (aL (ptc (aZ hu) (px hu (px hu (fv 6) ao) ab) ao)
      (ah (aB (cK T.dO (rZ T) hr (fv 1^fv 2^px hu (fv 6) ao^af))))
      aC)
     (ae (pst 7 c8.nd (fv 2))
     (ae (aL (ptc qq (pcB cu T.cI (fv 3^af)) ab)
      (ah (pst 7 c8.nd (px hu (px hu (fv 3) (jq fw ab)) ao)))
      aC)
     (ah (aI (cw (fv 7) (ar (vU T) hr (fv 6^af)^af))))))))
     (ah (aL (ptc (aZ hu) (pcB cu T.cI (fv 3^af)) ab)
      (ah (aI (cw (fv 1) (ar (qc T) hr (aw bC (fv 4) ab^px hu (fv 0) (fv 4)^af)^af))))
      (ah (aI (cw (px hu (px hu (fv 3) (jq fw ab)) ao) (ar (qc T) hr (aw bC (fv 4) ab^px hu (fv 0) (fv 4)^af)^af))))))))))))))
 (ah (aB mH)))))),?_⟩
 refine ak λM1 K1=>⟨KW _,λlh hlh=>?_⟩;obtain⟨s1,e1⟩:=alc hlh (HO.lst []);generalize upd H lh _=H1 at s1 e1⊢;refine K1 _ _ ?_;clear K1 M1;try dsimp only
 refine ak λM1 K1=>⟨KW _,λld hld=>?_⟩;obtain⟨s2,e2⟩:=alc hld (HO.lst []);generalize upd H1 ld _=H2 at s2 e2⊢;refine K1 _ _ ?_;clear K1 M1;try dsimp only
 refine ak λM1 K1=>⟨KW _,λlf hlf=>?_⟩;obtain⟨s3,e3⟩:=alc hlf (HO.lst []);generalize upd H2 lf _=H3 at s3 e3⊢;have s03:=(s1.trans s2).trans s3;have d0:H ld=Ua:=aq.free s1 hld;have f0:H lf=Ua:=aq.free (s1.trans s2) hlf;have g3:Go [] H (Tm lh ld lf []) H3:=(Go.new s03).to λx m=>by
  simp only[Tm,SX,Kt,KH,or_false]at m;rcases m with m|m|m
  ·exact .inr (.inr (by rw[m];exact hlh))
  ·exact .inr (.inr (by rw[m];exact d0))
  exact .inr (.inr (by rw[m];exact f0))
 have T3:fH A N H3 lh ld lf [] ⟨[],[],[]⟩ 0:=by
  have hd:ld≠lh:=Ub hld e1;have hf1:lf≠lh:=Ub hlf (s2 _ _ e1);have hf2:lf≠ld:=Ub hlf e2;refine⟨⟨[],(s2.trans s3) _ _ e1,aD.nil⟩,⟨[],s3 _ _ e2,aD.nil⟩,e3,.nil,?_,⟨KD _,KD _,KD _,λf m=>(by cases m)⟩⟩;simp[Tm,hd.symm,hf1.symm,hf2.symm]
 clear s1 s2 s3 e1 e2 e3 hld hlf hlh;refine K1 _ _ ?_;clear K1 M1;try dsimp only
 refine ak λM1 K1=>lnl (s03 _ _ hLR) ⟨_,rfl,by rw[lr];omega,by rw[lr];omega,?_⟩;rw[LI];refine mY (lo:=0) (IvT A N LR lh ld lf body H hs ds fo ms n) ⟨[],_,Ua,Ua,Ua,Ua,rfl,KW _,g3,T3,st⟩ ?_ ?_
 ·rintro i σ Hc hi ⟨as,z,v4,v5,v6,v7,rfl,ib,gc,Tc,st⟩;have sx:aq H (del (Tm lh ld lf as) Hc):=λx o e=>gc.same _ _ (aK (λm=>by cases m) e);have sc:aq H Hc:=sx.trans aA;obtain⟨v,hv⟩:∃v,rows[i]?=T9 v:=⟨_,Kv hi⟩;obtain⟨r,hr',la⟩:=bg pr hv;have la:=la.same sx;obtain⟨t,p,rfl,et0,ep⟩:=la;have la:bS N (del (Tm lh ld lf as) Hc) (.ref t) r:=⟨t,p,rfl,et0,ep⟩;have et:=SqT.of (K:=K) (bq et0).2;have ai:atI rows (0+(i:Int))=T9 (.ref t):=by rw[MG];exact eG hv
  have ai':∀Hx,aq Hc Hx->SqL K Hx LR rows:=λHx zz=>SqL.of (zz _ _ (sc _ _ hLR));try dsimp only
  refine ak λN1 J1=>lix (ai' _ (aq.refl _)) ai (tix (j:=0) et rfl (J1 _ _ ?_));clear J1 N1;try dsimp only
  refine⟨by show 4<=sizeLine;decide,λtp htp=>?_⟩;obtain⟨sd,ed⟩:=alc htp (HO.tup op4);generalize upd Hc tp _=Hd at sd ed⊢;have Td:=Tc.same sd;have gd:Go [] H (Tm lh ld lf as) Hd:=gc.trans (Go.new sd);have lad:bS N (del (Tm lh ld lf as) Hd) (.ref t) r:=la.same (Go.new sd).same;have etd:=SqT.of (K:=K) (sd _ _ (bq et0).2);have b6:i<=500:=()
  clear Tc gc la htp;refine KG ⟨_,Lg (SqT.of ed),rfl,rfl,_,rfl,aV (λc=>?_) (λc=>?_)⟩
  ·
   have c':r.yZ=true:=by rw[<-Fh];exact c
   rcases ke hr' with⟨hb,il⟩|⟨_,rfl⟩;rotate_left
   ·cases c'
   have ed':body.drop i=r::body.drop (i+1):=by rw[Mj il,(KA.mp hb).2]
   rw[ed']at st;refine⟨KG ⟨rfl,_,SqL.of Td.hf⟩,λfr hfr=>?_⟩;obtain⟨s1,e1⟩:=alc hfr (HO.dK []);generalize upd Hd fr _=X1 at s1 e1⊢;refine lix (ai' _ (sd.trans s1)) ai ⟨KW _,λl1 hl1=>?_⟩;obtain⟨s2,e2⟩:=alc hl1 (HO.lst []);generalize upd X1 l1 _=X2 at s2 e2⊢;refine⟨KW _,λl2 hl2=>?_⟩;obtain⟨s3,e3⟩:=alc hl2 (HO.lst []);generalize upd X2 l2 _=X3 at s3 e3⊢;refine⟨(s2.trans s3) _ _ e1,[((.inr "number":Key),.int (0+(i:Int)+1)),(.inr "row",.ref t),(.inr "first",.ref l1),(.inr "rows",.ref l2)],rfl,(show 4<=15 by decide),?_⟩;rw[show cm [] [((.inr "number":Key),V.int (0+(i:Int)+1)),(.inr "row",.ref t),(.inr "first",.ref l1),(.inr "rows",.ref l2)]=frT ((i:Int)+1) (.ref t) l1 l2 by rw[MG];rfl];have n1:l1≠fr:=Ub hl1 e1;have n2:l2≠fr:=Ub hl2 (s2 _ _ e1);have n3:l2≠l1:=Ub hl2 e2;have k4:aq Hd (upd X3 fr (.dK (frT ((i:Int)+1) (.ref t) l1 l2))):=aq.out ((s1.trans s2).trans s3) hfr _;have T4:∀fs h d,z=⟨h,d,fs⟩->fH A N _ lh ld lf (⟨fr,l1,l2⟩::as) ⟨h,d,⟨(i:Int)+1,r,[],[]⟩::fs⟩ (i+1):=λfs h d e=>fH.opn (H:=Hd) (by rw[<-e];exact Td) k4 hfr (aq.free s1 hl1) (aq.free (s1.trans s2) hl2) n1.symm n2.symm n3.symm aj (ag n1 (s3 _ _ e2)) (ag n2 e3) lad;refine⟨_,_,_,rfl,rfl,k4 _ _ Td.hf,ax (by have:=Td.bd.2.2.1;have:=NV Td.fr;rw[Kx,MU];omega),?_⟩;have g4:Go [] H (Tm lh ld lf (⟨fr,l1,l2⟩::as)) (upd (upd X3 fr (.dK (frT ((i:Int)+1) (.ref t) l1 l2))) lf (.lst ((as.reverse.map λa=>V.ref a.fr)++[.ref fr]))):=(gd.trans ((Go.new k4).trans (Go.at (by simp[Tm]) _))).to λx m=>by
    unfold Tm at m;simp only[Kt,Lf,Kz,Fa.l,KH,or_false]at m;unfold Tm;simp only[Kt];rcases m with m|m|m|(m|m|m)|m
    ·exact .inl (.inl m)
    ·exact .inl (.inr (.inl m))
    ·exact .inl (.inr (.inr (.inl m)))
    ·exact .inr (.inr (by rw[m];exact aq.free (sc.trans sd) hfr))
    ·exact .inr (.inr (by rw[m];exact aq.free ((sc.trans sd).trans s1) hl1))
    ·exact .inr (.inr (by rw[m];exact aq.free (((sc.trans sd).trans s1).trans s2) hl2))
    exact .inl (.inr (.inr (.inr m)))
   obtain⟨s',h1,h2⟩:=st.inv;obtain rfl:=h1.inv1 c' (λb=>u5 b c');exact⟨_,_,_,_,_,_,rfl,il,g4,T4 _ _ _ rfl,h2⟩
  have c':r.yZ=false:=by
   rw[<-Fh];exact LO.mpr c
  clear c;rcases ke hr' with⟨hb,il⟩|⟨ie,rfl⟩
  ·have ed':body.drop i=r::body.drop (i+1):=by rw[Mj il,(KA.mp hb).2]
   rw[ed']at st;obtain⟨s',h1,h2⟩:=st.inv;rcases h1.inv c' with⟨h,d,f,fs,rfl,rfl,rfl⟩|⟨h,d,f,g,fs,b,rfl,rfl,rfl⟩|⟨h,d,f,b,rfl,rfl,rfl⟩|⟨h,d,b,rfl,rfl⟩|⟨h,d,f,fs,b,rfl,rfl⟩
   ·
     have fr:=Td.fr
     cases as with
     |nil=>cases fr
     |cons a as=>
     cases fr with
     |cons fa fr=>
     obtain⟨v,xf,xo,q1,q2,q3,q4,q5,q6⟩:=fa
     have lst:atI ((a::as).reverse.map λa=>V.ref a.fr) (-1)=T9 (.ref a.fr):=by
      rw[Lz,KZ];exact qQ _ _
     obtain⟨n1,n2,n3,n4,n5⟩:=tm3 Td.nd
     have imf:a.fr∈(a::as).flatMap Fa.l:=kB Ku (by simp[Fa.l])
     obtain⟨k1,k2,k3⟩:=n4 _ imf
     refine⟨rfl,_,rfl,aV (λ_=>?_) (λz=>absurd rfl (jb z))⟩
     refine ak λN1 J1=>⟨_,rfl,(lix (SqL.of Td.hf) lst (dgk q1 rfl ⟨_,rfl,(lix (SqL.of Td.hf) lst ⟨_,cY.k (k:=.inr "first") q1 (show 4<sizeLine by decide),J1 _ _ ?_⟩)⟩))⟩
     clear J1 N1
     rw[show Ue (frT f.n v a.lf a.lr) (.inr "first") (.ref a.lr)=frT f.n v a.lr a.lr from rfl]
     have hf1:=ag (u:=.dK (frT f.n v a.lr a.lr)) k3.symm Td.hf
     refine⟨KW _,λl hl=>?_⟩
     have lfr:l≠a.fr:=Ub hl aj
     have l0:Hd l=Ua:=by rw[ay lfr]at hl;exact hl
     have llf:l≠lf:=Ub l0 Td.hf
     refine⟨_,rfl,(lix (SqL.of (ag llf.symm hf1)) lst ⟨_,cY.k (k:=.inr "rows") (ag lfr.symm aj) (show 4<sizeLine by decide),?_⟩)⟩
     rw[show Ue (frT f.n v a.lr a.lr) (.inr "rows") (.ref l)=frT f.n v a.lr l from rfl]
     obtain⟨T5,g5⟩:=Td.els (H3:=upd (upd (upd Hd a.fr (.dK (frT f.n v a.lr a.lr))) l (.lst [])) a.fr (.dK (frT f.n v a.lr l))) q2 q4 q6 l0 (λx o h e=>ag h (ag (λz=>by rw[z,l0]at e;cases e) (ag h e))) aj (ag lfr aj)
     exact⟨_,_,_,_,_,_,rfl,il,gd.trans g5,T5,h2⟩
   ·
     have fr:=Td.fr
     cases as with
     |nil=>cases fr
     |cons a as=>
     cases as with
     |nil=>cases fr with|cons _ fr=>cases fr
     |cons a2 as=>
     obtain⟨Tp,v,xf,xo,q1,q2,q3,q4,q5,q6⟩:=Td.pop
     have dl:((a::a2::as).reverse.map λa=>V.ref a.fr).dropLast=(a2::as).reverse.map λa=>V.ref a.fr:=by
      rw[Lz,KZ];exact Rn
     refine⟨rfl,_,rfl,aV (λz=>absurd (dY z) (show ¬ ("end":Str)="else" by decide)) (λ_=>⟨rfl,_,rfl,aV (λ_=>?_) (λz=>absurd rfl (jb z))⟩)⟩
     refine ak λN1 J1=>⟨KG ⟨rfl,_,SqL.of Td.hf⟩,_,_,.ref a.fr,rfl,rfl,Td.hf,(by rw[Lz,KZ];exact xj _ _),J1 _ _ ?_⟩
     clear J1 N1
     rw[dl]
     have alp:∀m∈Tm lh ld lf (a::a2::as),upd Hd lf (.lst ((a2::as).reverse.map λa=>V.ref a.fr)) m≠Ua:=λm hm e=>by
      by_cases z:m=lf
      ·rw[z,aj]at e;cases e
      rw[ay z]at e;exact Td.al m hm e
     have gp:Go [] H (Tm lh ld lf (a::a2::as)) (upd Hd lf (.lst ((a2::as).reverse.map λa=>V.ref a.fr))):=gd.trans (Go.at (by simp[Tm]) _)
     generalize upd Hd lf (.lst ((a2::as).reverse.map λa=>V.ref a.fr))=Hp at Tp q1 q2 q3 q4 q5 q6 alp gp⊢
     obtain⟨t',xs',rfl,et'⟩:=BZ q2
     try dsimp only
     refine ak λN1 J1=>dgk q1 rfl (tix (j:=0) (SqT.of (bq et').2) rfl ⟨rfl,_,rfl,aV (λz=>absurd (dY z) (E2 b)) (λ_=>J1 _ _ ?_)⟩)
     clear J1 N1
     try dsimp only
     refine ak λN1 J1=>J1 _ _ ?_
     clear J1 N1
     try dsimp only
     refine ak λN1 J1=>lnl Tp.hf ⟨_,rfl,aV (λ_=>?_) (λz=>absurd (decide_eq_true (by simp)) z)⟩
     have lst:atI ((a2::as).reverse.map λa=>V.ref a.fr) (-1)=T9 (.ref a2.fr):=by
      rw[Lz,KZ];exact qQ _ _
     have fr2:=Tp.fr
     cases fr2 with
     |cons fa fr2=>
     obtain⟨v',xf',xo',y1,y2,y3,y4,y5,y6⟩:=fa
     refine⟨_,rfl,(lix (SqL.of Tp.hf) lst (dgk y1 rfl (J1 _ _ ?_)))⟩
     clear J1 N1
     try dsimp only
     refine⟨KG ⟨rfl,_,SqL.of y4⟩,N,Tm lh ld lf (a::a2::as),a.fr,a.lf,a.lr,f.n,.ref t',f.op,xf,xo,f.fst,f.rows,rfl,q1,q2,b,alp,q3,q4,q5,q6,λra Hq sq h0 hp=>?_⟩
     have Tq:=Tp.same sq
     have ly:xo'.length<=1000:=by
      have:=aD.len y6;have:=Tp.bd.2.2.2 g Ku;omega
     refine⟨_,_,_,rfl,rfl,sq _ _ y4,ax ly,?_⟩
     have T6:=Tq.Fd (sq _ _ y4) (dQ.same (λx o e=>aK (λm=>(bq e).1 (rq m)) (bq e).2) _ _ hp)
     have g6:Go [] H (Tm lh ld lf (a2::as)) (upd Hq a2.lr (.lst (xo'++[.ref ra]))):=(((gp.to λx m=>.inl (rq m)).trans (Go.new sq)).trans (Go.at (by unfold Tm;simp only[Kt];exact .inr (.inr (.inr (kB Ku (by simp[Fa.l]))))) _))
     exact⟨_,_,_,_,_,_,rfl,il,g6,T6,h2⟩
   ·
     have fr:=Td.fr
     cases as with
     |nil=>cases fr
     |cons a as=>
     cases as with
     |cons a2 as=>cases fr with|cons _ fr=>cases fr
     |nil=>
     obtain⟨Tp,v,xf,xo,q1,q2,q3,q4,q5,q6⟩:=Td.pop
     refine⟨rfl,_,rfl,aV (λz=>absurd (dY z) (show ¬ ("end":Str)="else" by decide)) (λ_=>⟨rfl,_,rfl,aV (λ_=>?_) (λz=>absurd rfl (jb z))⟩)⟩
     refine ak λN1 J1=>⟨KG ⟨rfl,_,SqL.of Td.hf⟩,_,_,.ref a.fr,rfl,rfl,Td.hf,rfl,J1 _ _ ?_⟩
     clear J1 N1
     rw[show(([a].reverse.map λa=>V.ref a.fr).dropLast)=([]:List Fa).reverse.map λa=>V.ref a.fr from rfl]
     have alp:∀m∈Tm lh ld lf [a],upd Hd lf (.lst (([]:List Fa).reverse.map λa=>V.ref a.fr)) m≠Ua:=λm hm e=>by
      by_cases z:m=lf
      ·rw[z,aj]at e;cases e
      rw[ay z]at e;exact Td.al m hm e
     have gp:Go [] H (Tm lh ld lf [a]) (upd Hd lf (.lst (([]:List Fa).reverse.map λa=>V.ref a.fr))):=gd.trans (Go.at (by simp[Tm]) _)
     generalize upd Hd lf (.lst (([]:List Fa).reverse.map λa=>V.ref a.fr))=Hp at Tp q1 q2 q3 q4 q5 q6 alp gp⊢
     obtain⟨t',xs',rfl,et'⟩:=BZ q2
     try dsimp only
     refine ak λN1 J1=>dgk q1 rfl (tix (j:=0) (SqT.of (bq et').2) rfl ⟨rfl,_,rfl,aV (λz=>absurd (dY z) (E2 b)) (λ_=>J1 _ _ ?_)⟩)
     clear J1 N1
     try dsimp only
     refine ak λN1 J1=>J1 _ _ ?_
     clear J1 N1
     try dsimp only
     refine ak λN1 J1=>lnl Tp.hf ⟨_,rfl,aV (λz=>absurd (of_decide_eq_true z) (by simp)) (λ_=>J1 _ _ ?_)⟩
     clear J1 N1
     try dsimp only
     obtain⟨xd,ed1,pd⟩:=Tp.hd
     refine⟨KG ⟨rfl,_,SqL.of ed1⟩,N,Tm lh ld lf [a],a.fr,a.lf,a.lr,f.n,.ref t',f.op,xf,xo,f.fst,f.rows,rfl,q1,q2,b,alp,q3,q4,q5,q6,λra Hq sq h0 hp=>?_⟩
     have Tq:=Tp.same sq
     have ly:xd.length<=1000:=by
      have h1:=aD.len pd;have h2:=Tp.bd.2.1;rw[h1];exact KR h2 ()
     refine⟨_,_,_,rfl,rfl,sq _ _ ed1,ax ly,?_⟩
     have T6:=Tq.JC (sq _ _ ed1) (dQ.same (λx o e=>aK (λm=>(bq e).1 (rq m)) (bq e).2) _ _ hp)
     have g6:Go [] H (Tm lh ld lf []) (upd Hq ld (.lst (xd++[.ref ra]))):=(((gp.to λx m=>.inl (rq m)).trans (Go.new sq)).trans (Go.at (by simp[Tm]) _))
     exact⟨_,_,_,_,_,_,rfl,il,g6,T6,h2⟩
   ·
     have fr:=Td.fr
     cases as with
     |cons a as=>cases fr
     |nil=>
     obtain⟨w1,w2⟩:=Ca b
     refine⟨rfl,_,rfl,aV (λz=>absurd (dY z) w1) (λ_=>⟨rfl,_,rfl,aV (λz=>absurd (dY z) w2) (λ_=>lnl Td.hf ⟨rfl,_,rfl,aV (λ_=>?_) (λz=>absurd (decide_eq_true rfl) z)⟩)⟩)⟩
     obtain⟨xd,ed1,pd⟩:=Td.hh
     refine⟨KG ⟨rfl,_,SqL.of ed1⟩,(lix (ai' _ sd) ai ⟨N,Tm lh ld lf [],_,_,r,rfl,lad,b,Td.al,λra Hq sq h0 hp=>?_⟩)⟩
     have Tq:=Td.same sq
     have ly:xd.length<=1000:=by
      have h1:=aD.len pd;have h2:=Td.bd.1;rw[h1];exact KR h2 ()
     refine⟨_,_,_,rfl,rfl,sq _ _ ed1,ax ly,?_⟩
     rw[MG]at hp
     have T6:=Tq.Jj (sq _ _ ed1) (p:=.leaf ((i:Int)+1) r) (by unfold dQ;exact hp)
     have g6:Go [] H (Tm lh ld lf []) (upd Hq lh (.lst (xd++[.ref ra]))):=((gd.trans (Go.new sq)).trans (Go.at (by simp[Tm]) _))
     exact⟨_,_,_,_,_,_,rfl,il,g6,T6,h2⟩
   have fr:=Td.fr;cases as with
   |nil=>cases fr
   |cons a as=>
   cases fr with
   |cons fa fr=>
   obtain⟨v,xf,xo,q1,q2,q3,q4,q5,q6⟩:=fa;have lst:atI ((a::as).reverse.map λa=>V.ref a.fr) (-1)=T9 (.ref a.fr):=by
    rw[Lz,KZ];exact qQ _ _
   obtain⟨w1,w2⟩:=Ca b;refine⟨rfl,_,rfl,aV (λz=>absurd (dY z) w1) (λ_=>⟨rfl,_,rfl,aV (λz=>absurd (dY z) w2) (λ_=>lnl Td.hf ⟨rfl,_,rfl,aV (λz=>absurd (of_decide_eq_true z) (λy=>by have:=V.int.inj y;simp at this;omega)) (λ_=>⟨_,rfl,(lix (SqL.of Td.hf) lst (dgk q1 rfl ⟨KG ⟨rfl,_,SqL.of q4⟩,(lix (ai' _ sd) ai ⟨N,Tm lh ld lf (a::as),_,_,r,rfl,lad,b,Td.al,λra Hq sq h0 hp=>?_⟩)⟩))⟩)⟩)⟩)⟩;have Tq:=Td.same sq;have ly:xo.length<=1000:=by
    have h1:=aD.len q6;have h2:=Td.bd.2.2.2 f Ku;omega
   refine⟨_,_,_,rfl,rfl,sq _ _ q4,ax ly,?_⟩;rw[MG]at hp;have T6:=Tq.Fd (sq _ _ q4) (p:=.leaf ((i:Int)+1) r) (by unfold dQ;exact hp);have g6:Go [] H (Tm lh ld lf (a::as)) (upd Hq a.lr (.lst (xo++[.ref ra]))):=((gd.trans (Go.new sq)).trans (Go.at (by unfold Tm;simp only[Kt];exact .inr (.inr (.inr (kB Ku (by simp[Fa.l]))))) _));exact⟨_,_,_,_,_,_,rfl,il,g6,T6,h2⟩
  rw[ie,List.drop_length]at st;obtain rfl:=st.Kr;have fr:=Td.fr;cases as with
  |nil=>cases fr
  |cons a as=>
  cases as with
  |cons a2 as=>cases fr with|cons _ fr=>cases fr
  |nil=>
  obtain⟨Tp,v,xf,xo,q1,q2,q3,q4,q5,q6⟩:=Td.pop;refine⟨rfl,_,rfl,aV (λz=>absurd (dY z) (show ¬ ("end":Str)="else" by decide)) (λ_=>⟨rfl,_,rfl,aV (λ_=>?_) (λz=>absurd rfl (jb z))⟩)⟩;refine ak λN1 J1=>⟨KG ⟨rfl,_,SqL.of Td.hf⟩,_,_,.ref a.fr,rfl,rfl,Td.hf,rfl,J1 _ _ ?_⟩;clear J1 N1;rw[show(([a].reverse.map λa=>V.ref a.fr).dropLast)=([]:List Fa).reverse.map λa=>V.ref a.fr from rfl];have gp:Go [] H (Tm lh ld lf [a]) (upd Hd lf (.lst (([]:List Fa).reverse.map λa=>V.ref a.fr))):=gd.trans (Go.at (by simp[Tm]) _);generalize upd Hd lf (.lst (([]:List Fa).reverse.map λa=>V.ref a.fr))=Hp at Tp q1 q2 q3 q4 q5 q6 gp⊢;obtain⟨t',xs',rfl,et'⟩:=BZ q2;have sp:aq H Hp:=λx o e=>gp.o x o (λm=>by cases m) e;obtain⟨x1,h1,p1⟩:=Tp.hh;obtain⟨x2,h2,p2⟩:=Tp.hd;try dsimp only
  refine ak λN1 J1=>dgk q1 rfl (tix (j:=0) (SqT.of (bq et').2) rfl ⟨rfl,_,rfl,aV (λ_=>?_) (λz=>absurd rfl (jb z))⟩);refine dgk q1 rfl (λr6 dx hr6 hd_ hne_=>⟨_,_,_,_,_,_,_,_,_,rfl,rfl,hr6,hd_,(SqL.of h1),(SqL.of h2),(SqL.of q4),λn6 n7 n8 H6 f6 f7 f8 s6 h6 h7 h8 hx=>⟨rfl,?_⟩⟩);have s6':∀{M:List NL},aq (del M Hp) H6:=λx o e=>s6 _ _ (bq e).2;exact q _ H6 (sp.trans s6) ⟨r6,dx,n6,n7,n8,x1,x2,xo,rfl,hx,h6,h7,h8,aD.same s6' _ _ p1,aD.same s6' _ _ p2,aD.same s6' _ _ q6⟩
 rintro σ Hc ⟨as,z,v4,v5,v6,v7,rfl,ib,_⟩;exact absurd ib (by rw[lr];omega)
end
section
inductive Rw where
 |set (n:Int) (x:Nat) (v:Val)
 |put (n:Int) (x:Nat) (p:Th) (v:Val)
 |snd (n:Int) (h:Nat) (v:Val)
 |say (n:Int) (x:Nat) (v:Val) (m:Nat)
 |last (n:Int)
 |call (n:Int) (i:Nat) (ts:List Th)
 |iff (n:Int) (v:Val) (f o:List Rw) (l r:Int)
 |loop (n:Int) (t:Th) (m:Int) (b:List Rw) (l r:Int)
structure Dd where
 nm:Nat
 parts:List Nat
 body:List Rw
structure En where
 N:Nat->Str
 idx:List Nat
 sz:Nat->Nat
 ds:List Dd
 dv:List V
structure S where
 num:Nat->Int
 lst:Nat->List Int
 steps:Int
 trace:List (List V)
 d8:List (List V)
 vC:List (List V)
variable{E:En}{s:S}{B:Int}
noncomputable def Th.num(s:S):Th->Int
 | .i n=>n
 | .x a=>s.num a
noncomputable def lat(xs:List Int)(i:Int):Int:=xs.getD (i%(xs.length:Int)).toNat 0
noncomputable def Val.num(s:S):Val->Int
 | .one a=>a.num s
 | .op a w b=>rkn (a.num s) (b.num s) w
 | .atl x b=>lat (s.lst x) (b.num s)
noncomputable def Th.okE(E:En):Th->Prop
 | .i n=>In n
 | .x a=>a∈E.idx/\E.sz a=0
noncomputable def Val.okE(E:En):Val->Prop
 | .one a=>a.okE E
 | .op a w b=>a.okE E/\b.okE E/\w∈opW
 | .atl x b=>x∈E.idx/\0<E.sz x/\b.okE E
structure S.ok(E:En)(s:S):Prop where
 num:∀a,In (s.num a)
 lst:∀x,∀n∈s.lst x,In n
 len:∀x∈E.idx,0<E.sz x->(s.lst x).length=E.sz x
theorem Gy{xs:List Int}(h:∀n∈xs,In n)(i:Int):In (lat xs i):=by
 unfold lat;rw[Lk];cases e:xs[(i%(xs.length:Int)).toNat]? with
 |none=>exact⟨∅,∅⟩
 |some n=>exact h n (KI e)
theorem Th.eW(hs:s.ok E){t:Th}(h:t.okE E):In (t.num s):=by
 cases t with
 |i n=>exact h
 |x a=>exact hs.num a
theorem Val.eW(hs:s.ok E){v:Val}(h:v.okE E):In (v.num s):=by
 cases v with
 |one a=>exact Th.eW hs h
 |op a w b=>exact Gv (Th.eW hs h.1) (Th.eW hs h.2.1) w
 |atl x b=>exact Gy (hs.lst x) _
noncomputable def S.idle(s:S)(n:Int):S:={ s with steps:=s.steps+n }
noncomputable def S.tell(s:S)(n:Int)(v:V):S:={ s with steps:=s.steps+1,trace:=s.trace++[[.int n,.int (s.steps+1),v]] }
noncomputable def S.qN(s:S)(w:List V):S:={ s with d8:=s.d8++[w] }
noncomputable def S.qP(s:S)(w:List V):S:={ s with vC:=s.vC++[w] }
noncomputable def S.put(s:S)(x:Nat)(v:Int):S:={ s with num:=λa=>if a=x then v else s.num a }
noncomputable def S.yX(s:S)(x:Nat)(i v:Int):S:={ s with lst:=λa=>if a=x then(s.lst x).set (i%((s.lst x).length:Int)).toNat v else s.lst a }
noncomputable def S.xI(s:S)(xs:List (Nat×Int)):S:=xs.foldl (λs p=>s.put p.1 p.2) s
noncomputable def Uh(body:S->S×Bool)(l:Int):Nat->Nat->S->S×Nat
 |0,k,s=>(s,k)
 |n+1,k,s=>if(body s).2=true then((body s).1.idle l,k+1)else Uh body l n (k+1) ((body s).1.idle l)
noncomputable def step(f:S->Rw->S×Bool)(p:S×Bool)(r:Rw):S×Bool:=((f p.1 r).1,p.2||(f p.1 r).2)
noncomputable def bQ(f:S->Rw->S×Bool)(s:S)(xs:List Rw):S×Bool:=xs.foldl (step f) (s,false)
noncomputable def leaf(N:Nat->Str)(s:S):Rw->S×Bool
 | .set n x v=>((s.tell n .non).put x (v.num s),false)
 | .put n x p v=>((s.tell n .non).yX x (p.num s) (v.num s),false)
 | .snd n h v=>((s.tell n (.int (v.num s))).qN [.int (s.steps+1),.int n,.str (N h),.int (v.num s)],false)
 | .say n x v m=>(((s.tell n (.int (v.num s))).put x (v.num s)).qP [.int (s.steps+1),.int n,.str (N m),.int (v.num s)],false)
 | .last n=>(s.tell n .non,true)
 | .call n _ _=>(s.tell n .non,false)
 | .iff n _ _ _ _ _=>(s.tell n .non,false)
 | .loop n _ _ _ _ _=>(s.tell n .non,false)
noncomputable def Um(s:S)(t:Th)(m:Int):Int:=if m<t.num s then m else t.num s
noncomputable def doR(E:En):Nat->S->Rw->S×Bool
 |d+1,s,.call n i ts=>match E.ds[i]? with
  |some D=>((bQ (doR E d) ((s.tell n .non).xI (D.parts.zip (ts.map (Th.num s)))) D.body).1,false)
  |none=>(s.tell n .non,false)
 |d+1,s,.iff n v f o l r=>if v.num s≠0 then((bQ (doR E d) (s.tell n .non) f).1.idle l,(bQ (doR E d) (s.tell n .non) f).2)else((bQ (doR E d) (s.tell n .non) o).1.idle r,(bQ (doR E d) (s.tell n .non) o).2)
 |d+1,s,.loop n t m b l r=>((Uh (λs=>bQ (doR E d) s b) l (Um s t m).toNat 0 (s.tell n .non)).1.idle (r*(m-(Uh (λs=>bQ (doR E d) s b) l (Um s t m).toNat 0 (s.tell n .non)).2)),false)
 |_,s,r=>leaf E.N s r
noncomputable def aM(E:En):Nat->Rw->Int
 |d+1,.call _ i _=>match E.ds[i]? with
  |some D=>1+(D.body.map (aM E d)).sum
  |none=>1
 |d+1,.iff _ _ f o l r=>1+(if l+(f.map (aM E d)).sum<r+(o.map (aM E d)).sum then r+(o.map (aM E d)).sum else l+(f.map (aM E d)).sum)
 |d+1,.loop _ _ m b l r=>1+m*(if l+(b.map (aM E d)).sum<r then r else l+(b.map (aM E d)).sum)
 |_,_=>1
noncomputable def Wf(E:En):Nat->Rw->Prop
 |_,.set _ x v=>x∈E.idx/\E.sz x=0/\v.okE E
 |_,.put _ x p v=>x∈E.idx/\0<E.sz x/\p.okE E/\v.okE E
 |_,.snd _ h v=>v.okE E/\h<3
 |_,.say _ x v _=>x∈E.idx/\E.sz x=0/\v.okE E
 |_,.last _=>True
 |d+1,.call _ i ts=>(∀t∈ts,t.okE E)/\ts.length<=4/\∃D,E.ds[i]?=T9 D/\D.parts.length=ts.length/\∀r∈D.body,Wf E d r
 |d+1,.iff _ v f o l r=>v.okE E/\0<=l/\0<=r/\(∀q∈f,Wf E d q)/\∀q∈o,Wf E d q
 |d+1,.loop _ t m b l r=>t.okE E/\0<=m/\m<=1000/\0<=l/\0<=r/\∀q∈b,Wf E d q
 |0,.call _ _ _=>False
 |0,.iff _ _ _ _ _ _=>False
 |0,.loop _ _ _ _ _ _=>False
structure S.room(s:S)(B n:Int):Prop where
 st:s.steps+n<=B
 t:(s.trace.length:Int)<=s.steps
 l:(s.d8.length:Int)<=s.steps
 d:(s.vC.length:Int)<=s.steps
theorem S.room.le{n m:Int}(h:s.room B n)(hm:m<=n):s.room B m:=⟨by have:=h.st;omega,h.t,h.l,h.d⟩
theorem hW{n:Int}(h:s.room B (1+n))(m:Int)(v:V):(s.tell m v).room B n:=⟨by have:=h.st;show s.steps+1+n<=_;omega,by have:=h.t;show((s.trace++[_]).length:Int)<=s.steps+1;rw[KC];simp;omega,by have:=h.l;show(s.d8.length:Int)<=s.steps+1;omega,by have:=h.d;show(s.vC.length:Int)<=s.steps+1;omega⟩
theorem kq{n l:Int}(h:s.room B (l+n))(h0:0<=l):(s.idle l).room B n:=⟨by have:=h.st;show s.steps+l+n<=_;omega,by have:=h.t;show(s.trace.length:Int)<=s.steps+l;omega,by have:=h.l;show(s.d8.length:Int)<=s.steps+l;omega,by have:=h.d;show(s.vC.length:Int)<=s.steps+l;omega⟩
theorem wX{n:Int}(h:s.room B n)(x:Nat)(v:Int):(s.put x v).room B n:=⟨h.st,h.t,h.l,h.d⟩
theorem uh{n:Int}(h:s.room B n):∀xs:List (Nat×Int),(s.xI xs).room B n:=λxs=>by
 induction xs generalizing s with
 |nil=>exact h
 |cons p r ih=>exact ih (s:=s.put p.1 p.2) (wX h _ _)
theorem tN(E:En):∀(d:Nat)(r:Rw),Wf E d r->1<=aM E d r:=by
 have nn:∀(d:Nat)(xs:List Rw),(∀r∈xs,1<=aM E d r)->0<=(xs.map (aM E d)).sum:=λd xs h=>by
  induction xs with
  |nil=>exact Lc _
  |cons x r ih=>
   rw[KP,Mg];have:=h x Ku;have:=ih λq hq=>h q (Kw _ hq);omega
 intro d;induction d with
 |zero=>intro r h;cases r<;>first|exact Lc _|exact h.elim
 |succ d ih=>
  intro r h;cases r with
  |call n i ts=>
   obtain⟨_,_,D,hD,_,hb⟩:=h;unfold aM;rw[hD];have:=nn d D.body λq hq=>ih q (hb q hq);show 1<=1+_;omega
  |iff n v f o l r=>
   obtain⟨_,h1,h2,h3,h4⟩:=h;unfold aM;have:=nn d f λq hq=>ih q (h3 q hq);have:=nn d o λq hq=>ih q (h4 q hq);split<;>omega
  |loop n t m b l r=>
   obtain⟨_,h1,_,h2,h3,h4⟩:=h;unfold aM;have:=nn d b λq hq=>ih q (h4 q hq);have:0<=m*(if l+(b.map (aM E d)).sum<r then r else l+(b.map (aM E d)).sum):=Lo h1 (by split<;>omega);omega
  |_=>exact Lc _
theorem pD(E:En){d:Nat}{xs:List Rw}(h:∀r∈xs,Wf E d r):0<=(xs.map (aM E d)).sum:=by
 induction xs with
 |nil=>exact Lc _
 |cons x r ih=>
  rw[KP,Mg];have:=tN E d x (h x Ku);have:=ih λq hq=>h q (Kw _ hq);omega
theorem mZ{E:En}{f:S->Rw->S×Bool}{c:Rw->Int}{p:Rw->Prop}(one:∀(s:S)(r:Rw)(n:Int),p r->s.room B (c r+n)->(f s r).1.room B n):∀(xs:List Rw)(s:S×Bool)(n:Int),(∀r∈xs,p r)->s.1.room B ((xs.map c).sum+n)->(xs.foldl (step f) s).1.room B n
 | [],s,n,_,h=>by simpa using h
 |r::xs,s,n,hp,h=>by
  rw[MM];refine mZ (E:=E) one xs _ n (λq hq=>hp q (Kw _ hq)) (one s.1 r _ (hp r Ku) ?_);rw[KP,Mg,Int.add_assoc]at h;exact h
theorem qg{body:S->S×Bool}{c l:Int}(l0:0<=l)(one:∀(s:S)(n:Int),s.room B (c+n)->(body s).1.room B n)(c0:0<=c):∀(k j:Nat)(s:S)(n:Int),s.room B ((k:Int)*(l+c)+n)->((Uh body l k j s).1.room B ((k:Int)*(l+c)-((Uh body l k j s).2-j:Int)*(l+c)+n))/\j<=(Uh body l k j s).2/\(Uh body l k j s).2<=k+j
 |0,j,s,n,h=>by
  simp only[Uh];refine⟨?_,KD _,()⟩;rw[Int.sub_self,Int.zero_mul,Int.sub_zero];exact h
 |k+1,j,s,n,h=>by
  have e:((k+1:Nat):Int)*(l+c)=(k:Int)*(l+c)+(l+c):=by rw[SY,Ny,Nu]
  rw[e]at h⊢;have h1:((body s).1.idle l).room B ((k:Int)*(l+c)+n):=kq (one s _ (h.le ())) l0;simp only[Uh];split
  ·refine⟨?_,by show j<=j+1;omega,by show j+1<=k+1+j;omega⟩;show S.room _ B ((k:Int)*(l+c)+(l+c)-(((j+1:Nat):Int)-j)*(l+c)+n);rw[show((j+1:Nat):Int)-j=1 by omega,Nu];exact h1.le ()
  obtain⟨i1,i2,i3⟩:=qg l0 one c0 k (j+1) ((body s).1.idle l) n h1;refine⟨i1.le ?_,(),()⟩;have:(((Uh body l k (j+1) ((body s).1.idle l)).2:Int)-(j:Int))*(l+c)=(((Uh body l k (j+1) ((body s).1.idle l)).2:Int)-((j+1:Nat):Int))*(l+c)+(l+c):=by
   rw[show((Uh body l k (j+1) ((body s).1.idle l)).2:Int)-(j:Int)=(((Uh body l k (j+1) ((body s).1.idle l)).2:Int)-((j+1:Nat):Int))+1 by omega,Ny,Nu]
  omega
theorem hU(N:Nat->Str){n:Int}(h:s.room B (1+n))(r:Rw):(leaf N s r).1.room B n:=by
 have a:=λm v=>hW h m v;cases r with
 |set m x v=>exact wX (a m .non) _ _
 |put m x p v=>exact⟨(a m .non).st,(a m .non).t,(a m .non).l,(a m .non).d⟩
 |snd m x v=>
  have b:=a m (.int (v.num s));refine⟨b.st,b.t,?_,b.d⟩;have:=h.l;show((s.d8++[_]).length:Int)<=s.steps+1;rw[KC];simp;omega
 |say m x v y=>
  have b:=a m (.int (v.num s));refine⟨b.st,b.t,b.l,?_⟩;have:=h.d;show((s.vC++[_]).length:Int)<=s.steps+1;rw[KC];simp;omega
 |last m=>exact a m .non
 |call m i ts=>exact a m .non
 |iff m v f o l r=>exact a m .non
 |loop m t k b l r=>exact a m .non
theorem Ac(s:S)(t:Th)(m:Int):Um s t m<=m:=by unfold Um;split<;>omega
theorem DR(hs:s.ok E){t:Th}(ht:t.okE E){m:Int}(hm:0<=m):0<=Um s t m:=by
 have:=(Th.eW hs ht).1;unfold Um;split<;>omega
theorem qZ(E:En):∀(d:Nat)(s:S)(r:Rw)(n:Int),Wf E d r->s.room B (aM E d r+n)->(doR E d s r).1.room B n:=by
 intro d;induction d with
 |zero=>intro s r n w h;cases r<;>first|exact hU E.N h _|exact w.elim
 |succ d ih=>
  intro s r n w h;have rows:∀(xs:List Rw)(s:S)(n:Int),(∀r∈xs,Wf E d r)->s.room B ((xs.map (aM E d)).sum+n)->(bQ (doR E d) s xs).1.room B n:=λxs s n hw hr=>mZ (E:=E) (p:=Wf E d) (λs r n w h=>ih s r n w h) xs (s,false) n hw hr;cases r with
  |call m i ts=>
   obtain⟨_,_,D,hD,_,hb⟩:=w;unfold aM at h;unfold doR;rw[hD]at h⊢;dsimp only at h⊢;exact rows D.body _ n hb (uh (hW (h.le ()) m .non) _)
  |iff m v f o l r=>
   obtain⟨_,h1,h2,h3,h4⟩:=w;unfold aM at h;unfold doR;have b1:1+(l+(f.map (aM E d)).sum)+n<=1+(if l+(f.map (aM E d)).sum<r+(o.map (aM E d)).sum then r+(o.map (aM E d)).sum else l+(f.map (aM E d)).sum)+n:=by split<;>omega
   have b2:1+(r+(o.map (aM E d)).sum)+n<=1+(if l+(f.map (aM E d)).sum<r+(o.map (aM E d)).sum then r+(o.map (aM E d)).sum else l+(f.map (aM E d)).sum)+n:=by split<;>omega
   split
   ·exact kq (rows f _ (l+n) h3 (hW (h.le ()) m .non)) h1
   exact kq (rows o _ (r+n) h4 (hW (h.le ()) m .non)) h2
  |loop m t k b l r=>
   obtain⟨_,h1,_,h2,h3,h4⟩:=w;unfold aM at h;unfold doR;have c0:=pD E h4;generalize hc:(b.map (aM E d)).sum=c at h c0;have mx:l+c<=(if l+c<r then r else l+c)/\r<=(if l+c<r then r else l+c):=by split<;>omega
   generalize (if l+c<r then r else l+c)=x at h mx;have wk:=Ac s t k;have kn:((Um s t k).toNat:Int)<=k:=()
   have q1:((Um s t k).toNat:Int)*(l+c)<=k*x:=MQ (LZ kn ()) (Li mx.1 h1);have q0:((Um s t k).toNat:Int)*(l+c)+(k*x-((Um s t k).toNat:Int)*(l+c)+n)=k*x+n:=()
   obtain⟨i1,i2,i3⟩:=qg (body:=λs=>bQ (doR E d) s b) (c:=c) h2 (λs n hh=>rows b s n h4 (by rw[hc];exact hh)) c0 (Um s t k).toNat 0 (s.tell m .non) (k*x-((Um s t k).toNat:Int)*(l+c)+n) (by rw[q0];exact hW (h.le ()) m .non);generalize Uh (λs=>bQ (doR E d) s b) l (Um s t k).toNat 0 (s.tell m .non)=q at i1 i2 i3;have j0:(0:Int)<=(q.2:Int):=()
   have jk:(q.2:Int)<=k:=()
   have r1:r*(k-(q.2:Int))<=x*(k-(q.2:Int)):=LZ mx.2 ();have r2:(q.2:Int)*(l+c)<=(q.2:Int)*x:=Li mx.1 j0;have r3:x*(k-(q.2:Int))+(q.2:Int)*x=k*x:=by
    rw[Int.mul_sub,Int.mul_comm x k,Int.mul_comm x];omega
   have r4:0<=r*(k-(q.2:Int)):=Lo h3 ();refine kq (i1.le ?_) r4;rw[show((q.2:Int)-((0:Nat):Int))=(q.2:Int) by omega];omega
  |set m x v=>exact hU E.N h _
  |put m x p v=>exact hU E.N h _
  |snd m x v=>exact hU E.N h _
  |say m x v y=>exact hU E.N h _
  |last m=>exact hU E.N h _
end
section
variable{P:Program}{w:NW}{K:NO}{mg:Str->Option NK}{base:Oi}{A:Adr}{E:En}
noncomputable def dW(A:Adr)(E:En)(X:Hp):Nat->V->Rw->Prop
 |_,v,.set n x val=>∃a dx p,v=.ref a/\X a=T9 (.ins A.cR dx [("number",.int n),("name",.str (E.N x)),("value",.ref p)])/\X p=T9 (.tup (vV E.N val))
 |_,v,.put n x pl val=>∃a dx p,v=.ref a/\X a=T9 (.ins A.cD dx [("number",.int n),("name",.str (E.N x)),("place",pl.v E.N),("value",.ref p)])/\X p=T9 (.tup (vV E.N val))
 |_,v,.snd n h val=>∃a dx p,v=.ref a/\X a=T9 (.ins A.bH dx [("number",.int n),("name",.str (E.N h)),("value",.ref p)])/\X p=T9 (.tup (vV E.N val))
 |_,v,.say n x val m=>∃a dx p,v=.ref a/\X a=T9 (.ins A.cj dx [("number",.int n),("name",.str (E.N x)),("value",.ref p),("mark",.str (E.N m))])/\X p=T9 (.tup (vV E.N val))
 |_,v,.last n=>∃a dx,v=.ref a/\X a=T9 (.ins A.cO dx [("number",.int n)])
 |d+1,v,.call n i ts=>∃a dx p D,v=.ref a/\E.ds[i]?=T9 D/\X a=T9 (.ins A.cz dx [("number",.int n),("name",.str (E.N D.nm)),("things",.ref p)])/\X p=T9 (.lst (ts.map (Th.v E.N)))/\
  ∃da dy dn pp pb xs,E.dv[i]?=T9 (.ref da)/\X da=T9 (.ins A.bZ dy [("number",dn),("name",.str (E.N D.nm)),("parts",.ref pp),("body",.ref pb)])/\X pp=T9 (.lst (D.parts.map λj=>V.str (E.N j)))/\X pb=T9 (.lst xs)/\Paired (dW A E X d) xs D.body
 |d+1,v,.iff n val f o l r=>∃a dx p pf po xf xo,v=.ref a/\X a=T9 (.ins A.dz dx [("number",.int n),("value",.ref p),("first",.ref pf),("other",.ref po),("left",.int l),("right",.int r)])/\X p=T9 (.tup (vV E.N val))/\X pf=T9 (.lst xf)/\X po=T9 (.lst xo)/\Paired (dW A E X d) xf f/\Paired (dW A E X d) xo o
 |d+1,v,.loop n t m b l r=>∃a dx pb xb,v=.ref a/\X a=T9 (.ins A.bK dx [("number",.int n),("thing",t.v E.N),("most",.int m),("body",.ref pb),("left",.int l),("right",.int r)])/\X pb=T9 (.lst xb)/\Paired (dW A E X d) xb b
 |0,_,.call _ _ _=>False
 |0,_,.iff _ _ _ _ _ _=>False
 |0,_,.loop _ _ _ _ _ _=>False
theorem dW.same{X X':Hp}(s:aq X X'):∀{d:Nat}{v:V}{r:Rw},dW A E X d v r->dW A E X' d v r:=by
 intro d;induction d with
 |zero=>
  intro v r h;cases r with
  |set n x val=>obtain⟨a,dx,p,e,h1,h2⟩:=h;exact⟨a,dx,p,e,s _ _ h1,s _ _ h2⟩
  |put n x pl val=>obtain⟨a,dx,p,e,h1,h2⟩:=h;exact⟨a,dx,p,e,s _ _ h1,s _ _ h2⟩
  |snd n h' val=>obtain⟨a,dx,p,e,h1,h2⟩:=h;exact⟨a,dx,p,e,s _ _ h1,s _ _ h2⟩
  |say n x val m=>obtain⟨a,dx,p,e,h1,h2⟩:=h;exact⟨a,dx,p,e,s _ _ h1,s _ _ h2⟩
  |last n=>obtain⟨a,dx,e,h1⟩:=h;exact⟨a,dx,e,s _ _ h1⟩
  |call n i ts=>exact h.elim
  |iff n v f o l r=>exact h.elim
  |loop n t m b l r=>exact h.elim
 |succ d ih=>
  intro v r h;cases r with
  |set n x val=>obtain⟨a,dx,p,e,h1,h2⟩:=h;exact⟨a,dx,p,e,s _ _ h1,s _ _ h2⟩
  |put n x pl val=>obtain⟨a,dx,p,e,h1,h2⟩:=h;exact⟨a,dx,p,e,s _ _ h1,s _ _ h2⟩
  |snd n h' val=>obtain⟨a,dx,p,e,h1,h2⟩:=h;exact⟨a,dx,p,e,s _ _ h1,s _ _ h2⟩
  |say n x val m=>obtain⟨a,dx,p,e,h1,h2⟩:=h;exact⟨a,dx,p,e,s _ _ h1,s _ _ h2⟩
  |last n=>obtain⟨a,dx,e,h1⟩:=h;exact⟨a,dx,e,s _ _ h1⟩
  |call n i ts=>
   obtain⟨a,dx,p,D,e,h0,h1,h2,da,dy,dn,pp,pb,xs,g0,g1,g2,g3,g4⟩:=h;exact⟨a,dx,p,D,e,h0,s _ _ h1,s _ _ h2,da,dy,dn,pp,pb,xs,g0,s _ _ g1,s _ _ g2,s _ _ g3,Paired.cS g4 λ_ _=>ih⟩
  |iff n v f o l r=>
   obtain⟨a,dx,p,pf,po,xf,xo,e,h1,h2,h3,h4,h5,h6⟩:=h;exact⟨a,dx,p,pf,po,xf,xo,e,s _ _ h1,s _ _ h2,s _ _ h3,s _ _ h4,Paired.cS h5 λ_ _=>ih,Paired.cS h6 λ_ _=>ih⟩
  |loop n t m b l r=>
   obtain⟨a,dx,pb,xb,e,h1,h2,h3⟩:=h;exact⟨a,dx,pb,xb,e,s _ _ h1,s _ _ h2,Paired.cS h3 λ_ _=>ih⟩
structure En.Ok(E:En):Prop where
 D:eX E.N
 b:∀j∈E.idx,j<25
 nd:E.idx.Nodup
 dn:∀d∈E.ds,d.nm<25
 dd:(E.ds.map Dd.nm).Nodup
 dl:E.ds.length<=64
 dv:E.dv.length=E.ds.length
 pt:∀d∈E.ds,∀j∈d.parts,j∈E.idx/\E.sz j=0
 z:∀x,E.sz x<=1000
 len:E.idx.length<=64
structure Ra where
 s:NL
 ds:NL
 d:NL
 c:NL
 b:NL
 db:NL
 sd:NL
 e:NL
 t:NL
 l:NL
 la:Nat->NL
noncomputable def En.ls(E:En):List Nat:=E.idx.filter λi=>decide (0<E.sz i)
noncomputable def Ra.M(r:Ra)(E:En):List NL:=[r.b,r.c,r.t,r.l,r.sd]++E.ls.map r.la
noncomputable def cV(E:En)(la:Nat->NL)(num:Nat->Int)(i:Nat):V:=if E.sz i=0 then .int (num i)else .ref (la i)
noncomputable def dG(E:En)(j:Nat):V:=match (E.ds.zip E.dv).find? λp=>decide (p.1.nm=j)with
 |some p=>p.2
 |none=>.non
noncomputable def sD(r:Ra)(k:S):List (Str×V):=[("letters",.ref r.l),("said",.ref r.sd),("trace",.ref r.t),("steps",.int k.steps),("ends",.ref r.e)]
structure bf(A:Adr)(E:En)(H:Hp)(r:Ra)(k:S):Prop where
 nd:(r.M E).Nodup
 hs:del (r.M E) H r.s=T9 (.ins A.Run r.ds [("deeds",.ref r.d),("cells",.ref r.c),("book",.ref r.b)])
 hk:del (r.M E) H r.d=T9 (.dK (dk E.N (E.ds.map Dd.nm) (dG E)))
 hb:H r.b=T9 (.ins A.fh r.db (sD r k))
 hc:H r.c=T9 (.dK (dk E.N E.idx (cV E r.la k.num)))
 ht:∃xs,H r.t=T9 (.lst xs)/\kD (del (r.M E) H) xs k.trace
 hl:∃xs,H r.l=T9 (.lst xs)/\kD (del (r.M E) H) xs k.d8
 hd:∃xs,H r.sd=T9 (.lst xs)/\kD (del (r.M E) H) xs k.vC
 ha:∀i∈E.ls,H (r.la i)=T9 (.lst ((k.lst i).map V.int))
 ok:k.ok E
variable{H H':Hp}{r:Ra}{k:S}
theorem bf.s(R:bf A E H r k):H r.s=T9 (.ins A.Run r.ds [("deeds",.ref r.d),("cells",.ref r.c),("book",.ref r.b)]):=aA _ _ R.hs
theorem bf.same(R:bf A E H r k)(s:aq H H'):bf A E H' r k:=by
 have g:=(Go.new (M:=r.M E) s).same;obtain⟨ts,t1,t2⟩:=R.ht;obtain⟨ls,l1,l2⟩:=R.hl;obtain⟨ds,d1,d2⟩:=R.hd;exact⟨R.nd,g _ _ R.hs,g _ _ R.hk,s _ _ R.hb,s _ _ R.hc,⟨ts,s _ _ t1,t2.same g⟩,⟨ls,s _ _ l1,l2.same g⟩,⟨ds,s _ _ d1,d2.same g⟩,λi h=>s _ _ (R.ha i h),R.ok⟩
theorem bf.has(R:bf A E H r k){a:NL}(m:a∈r.M E):∃o,H a=T9 o:=by
 unfold Ra.M at m;rcases Kz.mp m with m|m
 ·simp only[Kt,KH,or_false]at m;obtain⟨ts,t1,t2⟩:=R.ht;obtain⟨ls,l1,l2⟩:=R.hl;obtain⟨ds,d1,d2⟩:=R.hd;rcases m with rfl|rfl|rfl|rfl|rfl
  ·exact⟨_,R.hb⟩
  ·exact⟨_,R.hc⟩
  ·exact⟨_,t1⟩
  ·exact⟨_,l1⟩
  exact⟨_,d1⟩
 obtain⟨i,hi,rfl⟩:=KS.mp m;exact⟨_,R.ha i hi⟩
theorem bf.free(R:bf A E H r k){a:NL}(e:H a=Ua):a∉r.M E:=λm=>by
 obtain⟨o,z⟩:=R.has m;rw[e]at z;cases z
structure Nes(r:Ra)(E:En):Prop where
 bc:r.b≠r.c
 bt:r.b≠r.t
 bl:r.b≠r.l
 bd:r.b≠r.sd
 ct:r.c≠r.t
 cl:r.c≠r.l
 cd:r.c≠r.sd
 tl:r.t≠r.l
 td:r.t≠r.sd
 ld:r.l≠r.sd
 a:∀i∈E.ls,r.la i≠r.b/\r.la i≠r.c/\r.la i≠r.t/\r.la i≠r.l/\r.la i≠r.sd
 i:∀i∈E.ls,∀j∈E.ls,r.la i=r.la j->i=j
theorem Nes.of(h:(r.M E).Nodup):Nes r E:=by
 unfold Ra.M at h;rw[Ls]at h;obtain⟨h1,h2,h3⟩:=h;simp only[KU,Kt,KH,or_false,not_or,not_false_eq_true,Nv,and_true]at h1;obtain⟨⟨a1,a2,a3,a4⟩,⟨a5,a6,a7⟩,⟨a8,a9⟩,a10⟩:=h1;have m:∀i∈E.ls,r.la i∈E.ls.map r.la:=λi hi=>KS.mpr ⟨i,hi,rfl⟩;refine⟨a1,a2,a3,a4,a5,a6,a7,a8,a9,a10,λi hi=>⟨(h3 _ (by simp) _ (m i hi)).symm,(h3 _ (by simp) _ (m i hi)).symm,(h3 _ (by simp) _ (m i hi)).symm,(h3 _ (by simp) _ (m i hi)).symm,(h3 _ (by simp) _ (m i hi)).symm⟩,?_⟩;have:∀xs:List Nat,(xs.map r.la).Nodup->∀i∈xs,∀j∈xs,r.la i=r.la j->i=j:=by
  intro xs;induction xs with
  |nil=>intro _ i h;cases h
  |cons x t ih=>
   intro h i hi j hj e;rw[KP,KU]at h;rcases Kt.mp hi with hi|hi<;>rcases Kt.mp hj with hj|hj
   ·exact hi.trans hj.symm
   ·rw[hi]at e;exact absurd (show r.la x∈t.map r.la from KS.mpr ⟨j,hj,e.symm⟩) h.1
   ·rw[hj]at e;exact absurd (show r.la x∈t.map r.la from KS.mpr ⟨i,hi,e⟩) h.1
   exact ih h.2 i hi j hj e
 exact this _ h2
theorem bf.ne(R:bf A E H r k):Nes r E:=Nes.of R.nd
theorem Ra.inM(r:Ra)(E:En):r.b∈r.M E/\r.c∈r.M E/\r.t∈r.M E/\r.l∈r.M E/\r.sd∈r.M E/\∀i∈E.ls,r.la i∈r.M E:=by
 unfold Ra.M;refine⟨by simp,by simp,by simp,by simp,by simp,λi hi=>KQ _ (KS.mpr ⟨i,hi,rfl⟩)⟩
theorem bf.steps(R:bf A E H r k)(n:Int):bf A E (upd H r.b (.ins A.fh r.db (sD r { k with steps:=n }))) r { k with steps:=n }:=by
 have g:=(Go.at (H:=H) (r.inM E).1 (.ins A.fh r.db (sD r { k with steps:=n }))).same;have ne:=R.ne;obtain⟨ts,t1,t2⟩:=R.ht;obtain⟨ls,l1,l2⟩:=R.hl;obtain⟨ds,d1,d2⟩:=R.hd;exact⟨R.nd,g _ _ R.hs,g _ _ R.hk,aj,ag ne.bc.symm R.hc,⟨ts,ag ne.bt.symm t1,t2.same g⟩,⟨ls,ag ne.bl.symm l1,l2.same g⟩,⟨ds,ag ne.bd.symm d1,d2.same g⟩,λi h=>ag (ne.a i h).1 (R.ha i h),⟨R.ok.num,R.ok.lst,R.ok.len⟩⟩
theorem bf.trace(R:bf A E H r k){p:NL}{us w:List V}(hp:H p=Ua)(ht:H r.t=T9 (.lst us)):bf A E (upd (upd H p (.tup w)) r.t (.lst (us++[.ref p]))) r { k with trace:=k.trace++[w] }:=by
 have R1:=R.same (aq.upd hp (HO.tup w));have pm:=R.free hp;have hp1:(upd H p (.tup w)) p=T9 (.tup w):=aj;have ht1:=aq.upd hp (HO.tup w) _ _ ht;generalize upd H p (.tup w)=H1 at R1 hp1 ht1⊢;have g:=(Go.at (H:=H1) (r.inM E).2.2.1 (.lst (us++[.ref p]))).same;have ne:=R.ne;obtain⟨ts,t1,t2⟩:=R1.ht;obtain⟨ls,l1,l2⟩:=R1.hl;obtain⟨ds,d1,d2⟩:=R1.hd;rw[ht1]at t1;cases t1;exact⟨R.nd,g _ _ R1.hs,g _ _ R1.hk,ag ne.bt R1.hb,ag ne.ct R1.hc,⟨_,aj,Pf (t2.same g) ⟨p,rfl,g _ _ (aK pm hp1)⟩⟩,⟨ls,ag ne.tl.symm l1,l2.same g⟩,⟨ds,ag ne.td.symm d1,d2.same g⟩,λi h=>ag (ne.a i h).2.2.1 (R1.ha i h),⟨R.ok.num,R.ok.lst,R.ok.len⟩⟩
theorem bf.qN(R:bf A E H r k){p:NL}{us w:List V}(hp:H p=Ua)(ht:H r.l=T9 (.lst us)):bf A E (upd (upd H p (.tup w)) r.l (.lst (us++[.ref p]))) r (k.qN w):=by
 have R1:=R.same (aq.upd hp (HO.tup w));have pm:=R.free hp;have hp1:(upd H p (.tup w)) p=T9 (.tup w):=aj;have ht1:=aq.upd hp (HO.tup w) _ _ ht;generalize upd H p (.tup w)=H1 at R1 hp1 ht1⊢;have g:=(Go.at (H:=H1) (r.inM E).2.2.2.1 (.lst (us++[.ref p]))).same;have ne:=R.ne;obtain⟨ts,t1,t2⟩:=R1.ht;obtain⟨ls,l1,l2⟩:=R1.hl;obtain⟨ds,d1,d2⟩:=R1.hd;rw[ht1]at l1;cases l1;exact⟨R.nd,g _ _ R1.hs,g _ _ R1.hk,ag ne.bl R1.hb,ag ne.cl R1.hc,⟨ts,ag ne.tl t1,t2.same g⟩,⟨_,aj,Pf (l2.same g) ⟨p,rfl,g _ _ (aK pm hp1)⟩⟩,⟨ds,ag ne.ld.symm d1,d2.same g⟩,λi h=>ag (ne.a i h).2.2.2.1 (R1.ha i h),⟨R.ok.num,R.ok.lst,R.ok.len⟩⟩
theorem bf.qP(R:bf A E H r k){p:NL}{us w:List V}(hp:H p=Ua)(ht:H r.sd=T9 (.lst us)):bf A E (upd (upd H p (.tup w)) r.sd (.lst (us++[.ref p]))) r (k.qP w):=by
 have R1:=R.same (aq.upd hp (HO.tup w));have pm:=R.free hp;have hp1:(upd H p (.tup w)) p=T9 (.tup w):=aj;have ht1:=aq.upd hp (HO.tup w) _ _ ht;generalize upd H p (.tup w)=H1 at R1 hp1 ht1⊢;have g:=(Go.at (H:=H1) (r.inM E).2.2.2.2.1 (.lst (us++[.ref p]))).same;have ne:=R.ne;obtain⟨ts,t1,t2⟩:=R1.ht;obtain⟨ls,l1,l2⟩:=R1.hl;obtain⟨ds,d1,d2⟩:=R1.hd;rw[ht1]at d1;cases d1;exact⟨R.nd,g _ _ R1.hs,g _ _ R1.hk,ag ne.bd R1.hb,ag ne.cd R1.hc,⟨ts,ag ne.td t1,t2.same g⟩,⟨ls,ag ne.ld l1,l2.same g⟩,⟨_,aj,Pf (d2.same g) ⟨p,rfl,g _ _ (aK pm hp1)⟩⟩,λi h=>ag (ne.a i h).2.2.2.2 (R1.ha i h),⟨R.ok.num,R.ok.lst,R.ok.len⟩⟩
theorem bf.put(R:bf A E H r k)(O:E.Ok){x:Nat}(hx:x∈E.idx)(hz:E.sz x=0){v:Int}(hv:In v):bf A E (upd H r.c (.dK (Ue (dk E.N E.idx (cV E r.la k.num)) (.inr (E.N x)) (.int v)))) r (k.put x v):=by
 have e:Ue (dk E.N E.idx (cV E r.la k.num)) (.inr (E.N x)) (.int v)=dk E.N E.idx (cV E r.la (k.put x v).num):=by
  rw[yo O.D O.b hx];refine ir λj _=>?_;unfold nz cV;show _=if E.sz j=0 then V.int (if j=x then v else k.num j)else _
  by_cases c:j=x
  ·rw[if_pos c,c,if_pos hz,if_pos rfl]
  rw[if_neg c,if_neg c]
 rw[e];have g:=(Go.at (H:=H) (r.inM E).2.1 (.dK (dk E.N E.idx (cV E r.la (k.put x v).num)))).same;have ne:=R.ne;obtain⟨ts,t1,t2⟩:=R.ht;obtain⟨ls,l1,l2⟩:=R.hl;obtain⟨ds,d1,d2⟩:=R.hd;refine⟨R.nd,g _ _ R.hs,g _ _ R.hk,ag ne.bc R.hb,aj,⟨ts,ag ne.ct.symm t1,t2.same g⟩,⟨ls,ag ne.cl.symm l1,l2.same g⟩,⟨ds,ag ne.cd.symm d1,d2.same g⟩,λi h=>ag (ne.a i h).2.1 (R.ha i h),⟨λa=>?_,R.ok.lst,R.ok.len⟩⟩;show In (if a=x then v else k.num a);split
 ·exact hv
 exact R.ok.num a
theorem bf.yX(R:bf A E H r k){x:Nat}(hx:x∈E.ls)(i:Int){v:Int}(hv:In v):bf A E (upd H (r.la x) (.lst (((k.lst x).map V.int).set (i%((k.lst x).length:Int)).toNat (.int v)))) r (k.yX x i v):=by
 have g:=(Go.at (H:=H) ((r.inM E).2.2.2.2.2 x hx) (.lst (((k.lst x).map V.int).set (i%((k.lst x).length:Int)).toNat (.int v)))).same;have ne:=R.ne;obtain⟨a1,a2,a3,a4,a5⟩:=ne.a x hx;obtain⟨ts,t1,t2⟩:=R.ht;obtain⟨ls,l1,l2⟩:=R.hl;obtain⟨ds,d1,d2⟩:=R.hd;have el:∀j,(k.yX x i v).lst j=if j=x then(k.lst x).set (i%((k.lst x).length:Int)).toNat v else k.lst j:=λ_=>rfl
 refine⟨R.nd,g _ _ R.hs,g _ _ R.hk,ag a1.symm R.hb,ag a2.symm R.hc,⟨ts,ag a3.symm t1,t2.same g⟩,⟨ls,ag a4.symm l1,l2.same g⟩,⟨ds,ag a5.symm d1,d2.same g⟩,λj h=>?_,⟨R.ok.num,λj n hn=>?_,λj hj hz=>?_⟩⟩
 ·rw[el];by_cases c:j=x
  ·rw[c,if_pos rfl,aj,List.map_set]
  rw[if_neg c];exact ag (λz=>c (ne.i j h x hx z)) (R.ha j h)
 ·rw[el]at hn;split at hn
  ·rcases Qv hn with z|z
   ·exact R.ok.lst x n z
   rw[z];exact hv
  exact R.ok.lst j n hn
 rw[el];split
 ·rename_i c;rw[Nq];rw[c]at hj hz⊢;exact R.ok.len x hj hz
 exact R.ok.len j hj hz
theorem bf.get(R:bf A E H r k)(O:E.Ok){i:Nat}(hi:i∈E.idx):cP H r.c (.str (E.N i)) (T9 (cV E r.la k.num i)):=by
 have:=cP.k (k:=.inr (E.N i)) R.hc;rw[oF O.D O.b hi]at this;exact this
theorem bf.gn(R:bf A E H r k)(O:E.Ok){i:Nat}(hi:i∈E.idx)(hz:E.sz i=0):cP H r.c (.str (E.N i)) (T9 (.int (k.num i))):=by
 have:=R.get O hi;unfold cV at this;rw[if_pos hz]at this;exact this
theorem bf.gl(R:bf A E H r k)(O:E.Ok){i:Nat}(hi:i∈E.idx)(hz:0<E.sz i):cP H r.c (.str (E.N i)) (T9 (.ref (r.la i))):=by
 have:=R.get O hi;unfold cV at this;rw[if_neg ()]at this;exact this
theorem vg{i:Nat}(hi:i∈E.idx)(hz:0<E.sz i):i∈E.ls:=LJ.mpr ⟨hi,decide_eq_true hz⟩
theorem sJ{v:V}{D:Dd}:∀{ds:List Dd}{dv:List V}{i:Nat},(ds.map Dd.nm).Nodup->ds[i]?=T9 D->dv[i]?=T9 v->∃q,(ds.zip dv).find? (λp=>decide (p.1.nm=D.nm))=T9 q/\q.2=v
 | [],_,_,_,h,_=>by cases h
 |_::_,[],_,_,_,h=>by cases h
 |x::ds,y::dv,0,_,h1,h2=>by
  cases h1;cases h2;exact⟨(D,v),by rw[R8,Lw,decide_eq_true rfl],rfl⟩
 |x::ds,y::dv,i+1,nd,h1,h2=>by
  rw[KP,KU]at nd;have ne:x.nm≠D.nm:=λz=>nd.1 (by rw[z];exact KS.mpr ⟨D,KI (by simpa using h1),rfl⟩);obtain⟨q,e1,e2⟩:=sJ (i:=i) nd.2 (by simpa using h1) (by simpa using h2);exact⟨q,by rw[R8,Lw,decide_eq_false ne];exact e1,e2⟩
theorem bf.fT(R:bf A E H r k)(O:E.Ok){i:Nat}{D:Dd}{v:V}(h1:E.ds[i]?=T9 D)(h2:E.dv[i]?=T9 v):cP H r.d (.str (E.N D.nm)) (T9 v):=by
 have:=cP.k (k:=.inr (E.N D.nm)) (aA _ _ R.hk);rw[oF O.D (λj hj=>by obtain⟨d,hd,rfl⟩:=KS.mp hj;exact O.dn d hd) (KS.mpr ⟨D,KI h1,rfl⟩)]at this;obtain⟨q,e1,e2⟩:=sJ O.dd h1 h2;unfold dG at this;rw[e1]at this;dsimp only at this;rw[e2]at this;exact this
inductive tP(vs:List V)(H:Hp)(Q:VK)(Z:XK):Prop
 |mk(a b:Int)(x:Str):vs=[.int a,.str x,.int b]->0<=a->a<1000000000000->0<=b->b<1000000000000->Q (.int (rkn a b x)) H->tP vs H Q Z
theorem wU(T:Txt K mg A):T.reckon.Hz P w base 1 tP:=by
 refine T.reckon.hs AE (λf cdv A outer s H vs Q E hr hu h=>?_);obtain⟨a,b,x,rfl,a0,a1,b0,b1,q⟩:=h;refine⟨_,(ae (aL (ptc (aZ hu) (fv 1) ao)
  (ah (aB (aw bF (aw bC (fv 0) (fv 2)) (qE T.qA))))
  aC)
 (ae (aL (ptc (aZ hu) (fv 1) ao)
  (ah (aB (aw bF (aw oT (fv 0) (fv 2)) (qE T.qA))))
  aC)
 (ae (aL (ptc (aZ hu) (fv 1) ao)
  (ah (aB (aw bF (aw dg (fv 0) (fv 2)) (qE T.qA))))
  aC)
 (ae (aL (ptc (aZ hu) (fv 1) ao)
  (ah (aB (iS (ptc (aZ hu) (fv 2) ab) ab (aw cE (fv 0) (fv 2)))))
  aC)
 (ae (aL (ptc (aZ hu) (fv 1) ao)
  (ah (aB (iS (ptc (aZ hu) (fv 2) ab) (fv 0) (aw bF (fv 0) (fv 2)))))
  aC)
 (ae (aL (ptc (aZ hu) (fv 1) ao)
  (ah (aB (iS (ptc vI (fv 0) (fv 2)) ab ab)))
  aC)
 (ah (aB (iS (ptc (aZ hu) (fv 0) (fv 2)) ab ab))))))))),?_⟩
 unfold rkn at q;refine⟨rfl,_,rfl,aV (λc=>?_) (λc=>?_)⟩
 ·rw[if_pos c]at q;exact⟨(by show(0:Int)<1000000000000;decide),q⟩
 rw[if_neg c]at q;refine⟨rfl,_,rfl,aV (λc=>?_) (λc=>?_)⟩
 ·rw[if_pos c]at q;exact⟨(by show(0:Int)<1000000000000;decide),q⟩
 rw[if_neg c]at q;refine⟨rfl,_,rfl,aV (λc=>?_) (λc=>?_)⟩
 ·rw[if_pos c]at q;exact⟨.inl ⟨(),()⟩,(by show(0:Int)<1000000000000;decide),q⟩
 rw[if_neg c]at q;refine⟨rfl,_,rfl,aV (λc=>?_) (λc=>?_)⟩
 ·rw[if_pos c]at q;refine⟨rfl,_,rfl,aV (λd=>?_) (λd=>?_)⟩
  ·rw[if_pos d]at q;exact q
  rw[if_neg d]at q;have hb:b≠0:=λz=>d (by rw[z];rfl);exact⟨⟨(),()⟩,q⟩
 rw[if_neg c]at q;refine⟨rfl,_,rfl,aV (λc=>?_) (λc=>?_)⟩
 ·rw[if_pos c]at q;refine⟨rfl,_,rfl,aV (λd=>?_) (λd=>?_)⟩
  ·rw[if_pos d]at q;exact q
  rw[if_neg d]at q;have hb:b≠0:=λz=>d (by rw[z];rfl);exact⟨(),q⟩
 rw[if_neg c]at q;refine⟨rfl,_,rfl,aV (λc=>?_) (λc=>?_)⟩
 ·rw[if_pos c]at q;refine⟨_,rfl,aV (λd=>?_) (λd=>?_)⟩
  ·rw[if_pos d]at q;exact q
  rw[if_neg d]at q;exact q
 rw[if_neg c]at q;refine⟨rfl,_,rfl,aV (λd=>?_) (λd=>?_)⟩
 ·rw[if_pos d]at q;exact q
 rw[if_neg d]at q;exact q
inductive wN(vs:List V)(H:Hp)(Q:VK)(Z:XK):Prop
 |mk(a:Int):vs=[.int a]->In a->Q (.bl true) H->wN vs H Q Z
theorem DH(T:Txt K mg A):T.pw.Hz P w base 1 wN:=by
 refine T.pw.hs vS (λf cdv A outer s H vs Q E hr hu h=>?_);obtain⟨a,rfl,ha,q⟩:=h;refine⟨_,(ae (aL (PW.pt (pw_or (bN (pcB bw T.aG (fv 0^(gX (v:=.ty "bool") rfl T.vN (by boot_by_name) rfl)^af)) (λ_=>rfl)) (pw_or1 (vP (bN (pcB bw T.aG (fv 0^(gX (v:=.ty "int") rfl T.mG (by boot_by_name) rfl)^af)) (λ_=>rfl))))))
  (ah (aB gU))
  aC)
 (ah (aB (Cd vY vY ab (fv 0) (qE T.nQ))))),?_⟩
 refine⟨_,_,_,false,rfl,(λz=>by cases z),.int a,GX,false,rfl,ba ⟨_,_,_,true,rfl,(λz=>by cases z),.int a,HP,true,rfl,ba ⟨_,rfl,aV (λc=>?_) (λc=>absurd (decide_eq_true ha.1) c)⟩⟩⟩;have e:decide (a<=999999999999)=true:=decide_eq_true (by have:=ha.2;omega);show Q (.bl (decide (a<=999999999999))) H;rw[e];exact q
noncomputable def A6:Sp:=λvs H Q _=>(∃a:Int,vs=[.int a,.int 0]/\In a/\Q (.bl true) H)\/
 ∃(p:NL)(rs:List Int),vs=[.ref p,.int rs.length]/\0<rs.length/\rs.length<=1000/\H p=T9 (.lst (rs.map V.int))/\(∀a∈rs,In a)/\∀H',aq H H'->Q (.bl true) H'
theorem Bj(T:Txt K mg A):Has P w K mg base 2 "is_good" ["gift","size"] A6:=by
 have Nz:=@DH P w _ _ base _ T;refine T.zI.hs y8 (λf cdv A outer s H vs Q E hr hu h=>?_) (λvs H Q E h=>by rcases h with⟨a,rfl,_⟩|⟨p,rs,rfl,_⟩<;>rfl);rcases h with⟨a,rfl,ha,q⟩|⟨p,rs,rfl,hn,hl,hS,hb,q⟩
 ·refine⟨_,(ae (aL (ptc (aZ hu) (fv 1) ab)
  (ah (aB (ar Nz hr (fv 0^af))))
  aC)
 (ah (aB (pE (pcB bw T.aG (fv 0^(gX (v:=.ty "list") rfl T.cC (by boot_by_name) rfl)^af)) (pE (pec (aZ hu) (pcB cu T.cI (fv 0^af)) (fv 1)) (rR (pcB Dh T.tD ((jo (N:=["thing"]) (own:=1) (fr:=[]) (cJ.of (by kernel_rfl!)) rfl (cA (fv 0)) (λb=>pgn (i:=0) (show OS (["thing"]:List OY) by decide+kernel) rfl) (λb=>pN) (λb=>ar Nz hr (fv 0^af)))^af)))))))),?_⟩
  refine⟨rfl,_,rfl,aV (λc=>?_) (λc=>absurd rfl c)⟩
  exact⟨a,rfl,ha,q⟩
 ·refine⟨_,(ae (aL (ptc (aZ hu) (fv 1) ab)
  (ah (aB (ar Nz hr (fv 0^af))))
  aC)
 (ah (aB (pE (pcB bw T.aG (fv 0^(gX (v:=.ty "list") rfl T.cC (by boot_by_name) rfl)^af)) (pE (pec (aZ hu) (pcB cu T.cI (fv 0^af)) (fv 1)) (rR (pcB Dh T.tD ((jo (N:=["thing"]) (own:=1) (fr:=[]) (cJ.of (by kernel_rfl!)) rfl (cA (fv 0)) (λb=>pgn (i:=0) (show OS (["thing"]:List OY) by decide+kernel) rfl) (λb=>pN) (λb=>ar Nz hr (fv 0^af)))^af)))))))),?_⟩
  refine⟨rfl,_,rfl,aV (λc=>absurd c ?_) (λc=>?_)⟩
  ·rw[qi,decide_eq_true_iff];omega
  refine⟨_,_,_,true,rfl,(λz=>by cases z),.lst hS,ya,_,rfl,eI (lnl hS ⟨rfl,_,rfl,aV (λc2=>?_) (λc2=>absurd ?_ c2)⟩)⟩
  ·refine KG ⟨⟨_,SqL.of hS⟩,fU (K:=K) (λ_=>true) (λ_=>.bl true) (SqL.of hS) (by rw[Kx];exact ax hl) (λb x H2 R _ _ k=>k _ (aq.refl _)) (λb x H2 R hx _ s2 k=>?_) (λD H2 hD s2 e=>?_)⟩
   ·obtain⟨a,ha,rfl⟩:=KS.mp hx;exact⟨a,rfl,hb a ha,k _ (aq.refl _)⟩
   rw[p9,Mx]at e;refine⟨D,rs.map (λ_=>true),rfl,SqL.of (by rw[e,Mx];rfl),?_⟩;have:(rs.map (λ_=>true)).all id=true:=by simp
   rw[this];exact q _ s2
  rw[qi,Kx,decide_eq_true_iff]
inductive wB(vs:List V)(H:Hp)(Q:VK)(Z:XK):Prop
 |mk(a:Int)(n:Nat):vs=[.int a,.int n]->In a->0<n->n<=1000->Q (.int (a%(n:Int))) H->wB vs H Q Z
theorem zx(T:Txt K mg A):T.mP.Hz P w base 2 wB:=by
 refine T.mP.hs su (λf cdv A outer s H vs Q E hr hu h=>?_);obtain⟨a,n,rfl,ha,h0,h1,q⟩:=h;exact⟨_,(ah (aB (ar (wU T) hr (fv 0^ao^fv 1^af)))),⟨a,n,_,rfl,ha.1,ha.2,(),(),by rw[C8 h0];exact q⟩⟩
inductive Fj(A:Adr)(E:En)(vs:List V)(H:Hp)(Q:VK)(Z:XK):Prop
 |mk(r:Ra)(k:S)(t:Th):vs=[.ref r.s,t.v E.N]->bf A E H r k->t.okE E->Q (.int (t.num k)) H->Fj A E vs H Q Z
theorem Eu(T:Txt K mg A)(O:E.Ok):T.gH.Hz P w mg base 1 (Fj A E):=by
 refine T.gH.hs (k:=0) p6 (λf cdv A' outer s' H vs Q E' hr hu h=>?_);obtain⟨r,k,t,rfl,R,ht,q⟩:=h;refine⟨_,(ah (aB (iS (bN (pcB bw T.aG (fv 1^(gX (v:=.ty "str") rfl T.xy (by boot_by_name) rfl)^af)) (λ_=>rfl)) (px hu (aE (fv 0) rfl) (fv 1)) (fv 1)))),?_⟩;cases t with
 |i n=>exact⟨_,_,_,false,rfl,(λz=>by cases z),.int n,Cv,false,rfl,ba q⟩
 |x a=>exact⟨_,_,_,true,rfl,(λz=>by cases z),.str _,BM,true,rfl,eI (fdI R.s T.bR.cl T.c9 rfl ⟨_,R.gn O ht.1 ht.2,q⟩)⟩
theorem HJ{xs:List Int}(h:0<xs.length)(i:Int):atI (xs.map V.int) (i%(xs.length:Int))=T9 (.int (lat xs i)):=by
 obtain⟨m0,m1⟩:=cf i (show(0:Int)<(xs.length:Int) by omega);obtain⟨x,_,e1,e2⟩:=mF V.int m0 m1;rw[e2];unfold lat;rw[Lk,e1];rfl
inductive Bu(A:Adr)(E:En)(vs:List V)(H:Hp)(Q:VK)(Z:XK):Prop
 |mk(r:Ra)(k:S)(p:NL)(val:Val):vs=[.ref r.s,.ref p]->bf A E H r k->H p=T9 (.tup (vV E.N val))->val.okE E->Q (.int (val.num k)) H->Bu A E vs H Q Z
theorem zG(T:Txt K mg A)(O:E.Ok):T.fY.Hz P w mg base 3 (Bu A E):=by
 have NB:=Eu (P:=P) (w:=w) (base:=base) T O;refine T.fY.hs (k:=2) ft (λf cdv A' outer s' H vs Q E' hr hu h=>?_);obtain⟨r,k,p,val,rfl,R,hp,vo,q⟩:=h;have hT:SqT K H p (vV E.N val):=SqT.of hp;refine⟨_,(ae (aL (ptc (aZ hu) (pcB cu T.cI (fv 1^af)) ab)
  (ah (aB (bh (fv 0) T.bR.cl NB hr (px hu (fv 1) ab^af))))
  aC)
 (ae (pst 2 ft.nd (bh (fv 0) T.bR.cl NB hr (px hu (fv 1) ab^af)))
 (ae (aL (ptc (aZ hu) (px hu (fv 1) ab) ao)
  (ae (pst 3 ft.nd (px hu (aE (fv 0) rfl) (px hu (fv 1) ab)))
  (ah (aB (px hu (fv 3) (ar (zx T) hr (fv 2^pcB cu T.cI (fv 3^af)^af))))))
  aC)
 (ah (aB (ar (wU T) hr (bh (fv 0) T.bR.cl NB hr (px hu (fv 1) ab^af)^px hu (fv 1) ab^fv 2^af))))))),?_⟩
 refine KG ⟨_,_,rfl,Lg ⟨_,hT,rfl⟩,rfl,_,rfl,?_⟩;cases val with
 |one a=>
  refine aV (λb=>?_) (λb=>absurd rfl b);exact⟨r.s,r.ds,_,rfl,R.s,rfl,KG ⟨_,_,Lg hT,rfl,r,k,a,rfl,R,vo,q⟩⟩
 |op a x i=>
  exact aV (λb=>absurd b (by show ¬ decide (V.int 3=V.int 1)=true;decide)) (λb=>⟨r.s,r.ds,_,rfl,R.s,rfl,KG ⟨_,_,Lg hT,rfl,r,k,i,rfl,R,vo.2.1,KG ⟨_,_,Lg hT,rfl,rfl,_,rfl,aV (λb=>absurd (of_decide_eq_true b) (λz=>I0 vo.2.2 (V.str.inj z))) (λb=>⟨r.s,r.ds,_,rfl,R.s,rfl,KG ⟨_,_,Lg hT,rfl,r,k,a,rfl,R,vo.1,KG ⟨_,_,Lg hT,rfl,_,_,_,rfl,(Th.eW R.ok vo.1).1,(Th.eW R.ok vo.1).2,(Th.eW R.ok vo.2.1).1,(Th.eW R.ok vo.2.1).2,q⟩⟩⟩)⟩⟩⟩)
 |atl l i=>
  obtain⟨v1,v2,v3⟩:=vo;have ln:=R.ok.len l v1 v2;have lz:=O.z l;refine aV (λb=>absurd b (by show ¬ decide (V.int 3=V.int 1)=true;decide)) (λb=>⟨r.s,r.ds,_,rfl,R.s,rfl,KG ⟨_,_,Lg hT,rfl,r,k,i,rfl,R,v3,KG ⟨_,_,Lg hT,rfl,rfl,_,rfl,aV (λb=>?_) (λb=>absurd (show decide (V.str "at"=V.str "at")=true by decide) b)⟩⟩⟩);refine fdI R.s T.bR.cl T.c9 rfl (KG ⟨_,_,Lg hT,rfl,_,R.gl O v1 v2,?_⟩);have hL:=SqL.of (K:=K) (R.ha l (vg v1 v2));exact KG ⟨_,_,rfl,KG ⟨_,hL,rfl⟩,_,(k.lst l).length,by rw[Kx];rfl,Th.eW R.ok v3,(),(),lix hL (HJ () _) q⟩
inductive uQ(K:NO)(A:Adr)(E:En)(vs:List V)(H:Hp)(Q:VK)(Z:XK):Prop
 |mk(r:Ra)(k:S)(a:NL):vs=[.ref r.s,.ref a]->bf A E H r k->((∃(dx p:NL)(n h:V)(val:Val),val.okE E/\H a=T9 (.ins A.bH dx [("number",n),("name",h),("value",.ref p)])/\H p=T9 (.tup (vV E.N val))/\Q (.int (val.num k)) H)\/(∃(dx p:NL)(n x m:V)(val:Val),val.okE E/\H a=T9 (.ins A.cj dx [("number",n),("name",x),("value",.ref p),("mark",m)])/\H p=T9 (.tup (vV E.N val))/\Q (.int (val.num k)) H)\/(∃C:NL,lV K H (.ref a) (.ref C)/\OH K (.ref C) (.ref A.bH)=T9 false/\OH K (.ref C) (.ref A.cj)=T9 false/\Q .non H))->uQ K A E vs H Q Z
theorem FC(T:Txt K mg A)(O:E.Ok):T.fq.Hz P w mg base 4 (uQ K A E):=by
 refine T.fq.hs (k:=3) oy (λf cdv A' outer s' H vs Q E' hr hu h=>?_);obtain⟨r,k,a,rfl,R,h⟩:=h;refine⟨_,(ae (aL (PW.pt (pw_or (bN (pcB bw T.aG (fv 1^dh T.aP.mg^af)) (λ_=>rfl)) (pw_or1 (bN (pcB bw T.aG (fv 1^dh T.aU.mg^af)) (λ_=>rfl)))))
  (ah (aB (bh (fv 0) T.bR.cl (zG T O) hr (aE (fv 1) rfl^af))))
  aC)
 (ah (aB mH))),?_⟩
 rcases h with⟨dx,p,n,hh,val,vo,ha,hp,q⟩|⟨dx,p,n,x,m,val,vo,ha,hp,q⟩|⟨C,ty,k1,k2,q⟩
 ·exact isB (T.aP.bM ha) (nA T.aP) (eI ⟨r.s,r.ds,_,rfl,R.s,rfl,fdI ha T.aP.cl T.gO rfl ⟨r,k,p,val,rfl,R,hp,vo,q⟩⟩)
 ·exact isB (T.aU.bM ha) (bV T.aU T.aP (au T 7 8) (au T 7 0)) (ba (isB (T.aU.bM ha) (nA T.aU) (eI ⟨r.s,r.ds,_,rfl,R.s,rfl,fdI ha T.aU.cl T.iN rfl ⟨r,k,p,val,rfl,R,hp,vo,q⟩⟩)))
 exact⟨_,_,_,false,rfl,(λz=>by cases z),ty,k1,false,rfl,ba ⟨_,_,_,false,rfl,(λz=>by cases z),ty,k2,false,rfl,ba q⟩⟩
inductive zA(A:Adr)(E:En)(vs:List V)(H:Hp)(Q:VK)(Z:XK):Prop
 |mk(r:Ra)(n:Int)(k:S):vs=[.ref r.s,.int n]->bf A E H r k->(∀H',Go (r.M E) H (r.M E) H'->bf A E H' r (k.idle n)->Q .non H')->zA A E vs H Q Z
theorem yk(T:Txt K mg A):T.fQ.Hz P w mg base 1 (zA A E):=by
 refine T.fQ.hs (k:=0) jh (λf cdv A' outer s' H vs Q E' hr hu h=>?_);obtain⟨r,n,k,rfl,R,q⟩:=h;refine⟨_,(ae (pst 2 jh.nd (aE (fv 0) rfl))
 (ah (AQ (fv 2) (fv 1) FY))),?_⟩
 exact fdI R.s T.bR.cl T.iO rfl ⟨r.b,_,r.db,_,_,rfl,R.hb,T.fi.cl,T.d9,rfl,_,_,rfl,rfl,r.db,_,R.hb,by simp[sD],q _ (Go.at (r.inM E).1 _) (R.steps (k.steps+n))⟩
theorem HH{xs:List Int}(h:0<xs.length)(i:Int):ixN (xs.map V.int).length (i%(xs.length:Int))=T9 (i%(xs.length:Int)).toNat:=by
 obtain⟨m0,m1⟩:=cf i (show(0:Int)<(xs.length:Int) by omega);unfold ixN;rw[if_pos m0,Kx,if_pos m1]
inductive xH(A:Adr)(E:En)(vs:List V)(H:Hp)(Q:VK)(Z:XK):Prop
 |mk(r:Ra)(k:S)(n:V)(x:Nat)(t:Th)(val:Val)(a dx p:NL):vs=[.ref r.s,.ref a]->bf A E H r k->x∈E.idx->0<E.sz x->t.okE E->val.okE E->H a=T9 (.ins A.cD dx [("number",n),("name",.str (E.N x)),("place",t.v E.N),("value",.ref p)])->H p=T9 (.tup (vV E.N val))->(∀H',bf A E H' r (k.yX x (t.num k) (val.num k))->Go (r.M E) H (r.M E) H'->Q .non H')->xH A E vs H Q Z
theorem EU(T:Txt K mg A)(O:E.Ok):T.kX.Hz P w mg base 4 (xH A E):=by
 refine T.kX.hs (k:=3) nJ (λf cdv A' outer s' H vs Q E' hr hu h=>?_);obtain⟨r,k,n,x,t,val,a,dx,p,rfl,R,hx,hz,to,vo,ha,hp,q⟩:=h;have ln:=R.ok.len x hx hz;have lz:=O.z x;refine⟨_,(ae (pst 2 nJ.nd (px hu (aE (fv 0) rfl) (aE (fv 1) rfl)))
 (ah (bo (bh (fv 0) T.bR.cl (zG T O) hr (aE (fv 1) rfl^af)) (bz (fv 2) (ar (zx T) hr (bh (fv 0) T.bR.cl (Eu T O) hr (aE (fv 1) rfl^af)^pcB cu T.cI (fv 2^af)^af)) (bu hu Uc))))),?_⟩
 refine fdI R.s T.bR.cl T.c9 rfl (fdI ha T.bE.cl T.jP rfl ⟨_,R.gl O hx hz,⟨r.s,r.ds,_,rfl,R.s,rfl,fdI ha T.bE.cl T.iK rfl ⟨r,k,p,val,rfl,R,hp,vo,⟨r.s,r.ds,_,rfl,R.s,rfl,fdI ha T.bE.cl T.iT rfl ⟨r,k,t,rfl,R,to,?_⟩⟩⟩⟩⟩);have hL:=R.ha x (vg hx hz);exact lnl hL ⟨_,(k.lst x).length,by rw[Kx];rfl,Th.eW R.ok to,(),(),KG ⟨_,_,hL,HH () _,q _ (R.yX (vg hx hz) (t.num k) (Val.eW R.ok vo)) (Go.at ((r.inM E).2.2.2.2.2 x (vg hx hz)) _)⟩⟩
noncomputable def Rw.no:Rw->Int
 | .set n _ _=>n
 | .put n _ _ _=>n
 | .snd n _ _=>n
 | .say n _ _ _=>n
 | .last n=>n
 | .call n _ _=>n
 | .iff n _ _ _ _ _=>n
 | .loop n _ _ _ _ _=>n
noncomputable def Rw.told(s:S):Rw->V
 | .snd _ _ v=>.int (v.num s)
 | .say _ _ v _=>.int (v.num s)
 |_=>.non
noncomputable def Rw.cl(A:Adr):Rw->NL
 | .set _ _ _=>A.cR
 | .put _ _ _ _=>A.cD
 | .snd _ _ _=>A.bH
 | .say _ _ _ _=>A.cj
 | .last _=>A.cO
 | .call _ _ _=>A.cz
 | .iff _ _ _ _ _ _=>A.dz
 | .loop _ _ _ _ _ _=>A.bK
theorem Cj{X:Hp}{d:Nat}{v:V}{rw:Rw}(h:dW A E X d v rw):∃a dx fs,v=.ref a/\X a=T9 (.ins (rw.cl A) dx (("number",.int rw.no)::fs)):=by
 cases rw with
 |set n x val=>cases d<;>(obtain⟨a,dx,p,e,h1,h2⟩:=h;exact⟨a,dx,_,e,h1⟩)
 |put n x pl val=>cases d<;>(obtain⟨a,dx,p,e,h1,h2⟩:=h;exact⟨a,dx,_,e,h1⟩)
 |snd n x val=>cases d<;>(obtain⟨a,dx,p,e,h1,h2⟩:=h;exact⟨a,dx,_,e,h1⟩)
 |say n x val m=>cases d<;>(obtain⟨a,dx,p,e,h1,h2⟩:=h;exact⟨a,dx,_,e,h1⟩)
 |last n=>cases d<;>(obtain⟨a,dx,e,h1⟩:=h;exact⟨a,dx,_,e,h1⟩)
 |call n i ts=>
  cases d with
  |zero=>exact h.elim
  |succ d=>obtain⟨a,dx,p,D,e,h0,h1,_⟩:=h;exact⟨a,dx,_,e,h1⟩
 |iff n val f o l r=>
  cases d with
  |zero=>exact h.elim
  |succ d=>obtain⟨a,dx,p,pf,po,xf,xo,e,h1,_⟩:=h;exact⟨a,dx,_,e,h1⟩
 |loop n t m b l r=>
  cases d with
  |zero=>exact h.elim
  |succ d=>obtain⟨a,dx,pb,xb,e,h1,_⟩:=h;exact⟨a,dx,_,e,h1⟩
theorem IE(T:Txt K mg A)(rw:Rw):Cls K (rw.cl A)/\aH K (rw.cl A) "number":=by
 cases rw with
 |set n x val=>exact⟨T.bT.cl,T.gG⟩
 |put n x pl val=>exact⟨T.bE.cl,T.gI⟩
 |snd n x val=>exact⟨T.aP.cl,T.eA⟩
 |say n x val m=>exact⟨T.aU.cl,T.eQ⟩
 |last n=>exact⟨T.aT.cl,T.fL⟩
 |call n i ts=>exact⟨T.aY.cl,T.fG⟩
 |iff n val f o l r=>exact⟨T.bJ.cl,T.iW⟩
 |loop n t m b l r=>exact⟨T.aQ.cl,T.fP⟩
theorem DG(T:Txt K mg A){X H:Hp}{d:Nat}{a:NL}{rw:Rw}{r:Ra}{k:S}{Q:VK}{E0:XK}(h:dW A E X d (.ref a) rw)(wf:Wf E d rw)(s:aq X H)(R:bf A E H r k)(q:Q (rw.told k) H):uQ K A E (.ref r.s::([.ref a]++[])) H Q E0:=by
 refine⟨r,k,a,rfl,R,?_⟩;have no:∀{C D:NL}{x:Str}{up:List NL},eK K mg C x up->(∃dx fs,X a=T9 (.ins C dx fs))->OH K (.ref C) (.ref A.bH)=T9 false->OH K (.ref C) (.ref A.cj)=T9 false->rw.told k=.non->∃C:NL,lV K H (.ref a) (.ref C)/\OH K (.ref C) (.ref A.bH)=T9 false/\OH K (.ref C) (.ref A.cj)=T9 false/\Q .non H:=λ{C D x up} o ⟨dx,fs,e⟩ k1 k2 z=>⟨C,o.bM (s _ _ e),k1,k2,by rw[z]at q;exact q⟩;obtain⟨a',dx,fs,ea,h1⟩:=Cj h;cases ea;cases rw with
 |set n x val=>exact Lg (Lg (no (D:=a) T.bT ⟨_,_,h1⟩ (bV T.bT T.aP (au T 7 5) (au T 7 0)) (bV T.bT T.aU (au T 8 5) (au T 8 0)) rfl))
 |put n x pl val=>exact Lg (Lg (no (D:=a) T.bE ⟨_,_,h1⟩ (bV T.bE T.aP (au T 7 6) (au T 7 0)) (bV T.bE T.aU (au T 8 6) (au T 8 0)) rfl))
 |snd n x val=>
  obtain⟨a',dx,p,ea,h1,h2⟩:∃a' dx p,V.ref a=.ref a'/\X a'=T9 (.ins A.bH dx [("number",.int n),("name",.str (E.N x)),("value",.ref p)])/\X p=T9 (.tup (vV E.N val)):=by cases d<;>exact h
  cases ea;have vo:val.okE E:=by cases d<;>exact wf.1
  exact KG ⟨dx,p,_,_,val,vo,s _ _ h1,s _ _ h2,q⟩
 |say n x val m=>
  obtain⟨a',dx,p,ea,h1,h2⟩:∃a' dx p,V.ref a=.ref a'/\X a'=T9 (.ins A.cj dx [("number",.int n),("name",.str (E.N x)),("value",.ref p),("mark",.str (E.N m))])/\X p=T9 (.tup (vV E.N val)):=by cases d<;>exact h
  cases ea;have vo:x∈E.idx/\E.sz x=0/\val.okE E:=by cases d<;>exact wf
  exact Lg (KG ⟨dx,p,_,_,_,val,vo.2.2,s _ _ h1,s _ _ h2,q⟩)
 |last n=>exact Lg (Lg (no (D:=a) T.aT ⟨_,_,h1⟩ (bV T.aT T.aP (au T 7 10) (au T 7 0)) (bV T.aT T.aU (au T 8 10) (au T 8 0)) rfl))
 |call n i ts=>exact Lg (Lg (no (D:=a) T.aY ⟨_,_,h1⟩ (bV T.aY T.aP (au T 7 9) (au T 7 0)) (bV T.aY T.aU (au T 8 9) (au T 8 0)) rfl))
 |iff n val f o l r=>exact Lg (Lg (no (D:=a) T.bJ ⟨_,_,h1⟩ (bV T.bJ T.aP (au T 7 11) (au T 7 0)) (bV T.bJ T.aU (au T 8 11) (au T 8 0)) rfl))
 |loop n t m b l r=>exact Lg (Lg (no (D:=a) T.aQ ⟨_,_,h1⟩ (bV T.aQ T.aP (au T 7 12) (au T 7 0)) (bV T.aQ T.aU (au T 8 12) (au T 8 0)) rfl))
noncomputable abbrev BIG:Int:=1000000
noncomputable def Uz(A:Adr)(E:En)(H:Hp)(r:Ra)(k:S)(v:V)(Q:VK):Prop:=∀H',Go (r.M E) H (r.M E) H'->bf A E H' r k->Q v H'
inductive qI(A:Adr)(E:En)(f:Nat)(vs:List V)(H:Hp)(Q:VK)(Z:XK):Prop
 |mk(r:Ra)(k:S)(v:V)(rw:Rw):vs=[.ref r.s,v]->bf A E H r k->dW A E (del (r.M E) H) f v rw->Wf E f rw->k.room BIG (aM E f rw)->Uz A E H r (doR E f k rw).1 (.bl (doR E f k rw).2) Q->qI A E f vs H Q Z
inductive nq(A:Adr)(E:En)(f:Nat)(vs:List V)(H:Hp)(Q:VK)(Z:XK):Prop
 |mk(r:Ra)(k:S)(q:NL)(xs:List V)(rows:List Rw):vs=[.ref r.s,.ref q]->bf A E H r k->del (r.M E) H q=T9 (.lst xs)->Paired (dW A E (del (r.M E) H) f) xs rows->(∀rw∈rows,Wf E f rw)->k.room BIG ((rows.map (aM E f)).sum)->Uz A E H r (bQ (doR E f) k rows).1 (.bl (bQ (doR E f) k rows).2) Q->nq A E f vs H Q Z
noncomputable def kY(A:Adr)(E:En):Nat->Sp
 |0=>λ_ _ _ _=>False
 |f+1=>nq A E f
noncomputable def mU(A:Adr)(E:En)(P:Rw->Prop)(G:Nat->S->Rw->S×V):Nat->Sp
 |0=>λ_ _ _ _=>False
 |f+1=>λvs H Q _=>∃(r:Ra)(k:S)(a:NL)(rw:Rw),P rw/\vs=[.ref r.s,.ref a]/\bf A E H r k/\dW A E (del (r.M E) H) (f+1) (.ref a) rw/\Wf E (f+1) rw/\k.room BIG (aM E (f+1) rw-1)/\Uz A E H r (G f k rw).1 (G f k rw).2 Q
noncomputable def IL:Rw->Prop
 | .iff _ _ _ _ _ _=>True
 |_=>False
noncomputable def Df:Rw->Prop
 | .loop _ _ _ _ _ _=>True
 |_=>False
noncomputable def BR:Rw->Prop
 | .call _ _ _=>True
 |_=>False
noncomputable def gIf(E:En)(d:Nat)(s:S):Rw->S×V
 | .iff _ v f o l r=>if v.num s≠0 then((bQ (doR E d) s f).1.idle l,.bl (bQ (doR E d) s f).2)else((bQ (doR E d) s o).1.idle r,.bl (bQ (doR E d) s o).2)
 |_=>(s,.non)
noncomputable def xE(E:En)(d:Nat)(s:S):Rw->S×V
 | .loop _ t m b l r=>((Uh (λs=>bQ (doR E d) s b) l (Um s t m).toNat 0 s).1.idle (r*(m-(Uh (λs=>bQ (doR E d) s b) l (Um s t m).toNat 0 s).2)),.non)
 |_=>(s,.non)
noncomputable def qJ(E:En)(d:Nat)(s:S):Rw->S×V
 | .call _ i ts=>match E.ds[i]? with
  |some D=>((bQ (doR E d) (s.xI (D.parts.zip (ts.map (Th.num s)))) D.body).1,.non)
  |none=>(s,.non)
 |_=>(s,.non)
theorem yM{f:S->Rw->S×Bool}{p:S×Bool}{xs:List Rw}{i:Nat}{x:Rw}(h:xs[i]?=T9 x):(xs.take (i+1)).foldl (step f) p=step f ((xs.take i).foldl (step f) p) x:=tV _ _ h
theorem qF{α:Type}{xs:List α}{i:Nat}{x:α}(h:xs[i]?=T9 x):xs.drop i=x::xs.drop (i+1):=by
 obtain⟨hi,e⟩:=KA.mp h;rw[Mj hi,e]
theorem xw{j f:Nat}(T:Txt K mg A)(D:jI P w K mg base j A.Run "do_row" ["self","row"] (qI A E f)):T.f9.Hz P w mg base (j+1) (nq A E f):=by
 have NI:=D;refine T.f9.hs (k:=j) dZ (λf' cdv A' outer s' H vs Q E' hr hu h=>?_);obtain⟨r,k,q,xs,rows,rfl,R,hq,pr,wf,rm,g⟩:=h;refine⟨_,(ae (pst 2 dZ.nd gU)
 (ae (df Oa rfl (cA (fv 1)) (pgn (i:=3) dZ.nd rfl)
  (ah (aL (bN (bh (hj:=by omega) (fv 0) T.bR.cl NI hr (fv 3^af)) (λ_=>rfl))
   (ah (pst 2 dZ.nd gU))
   aC)))
 (ah (aB (fv 2))))),?_⟩
 refine KG ⟨⟨_,SqL.of (aA _ _ hq)⟩,cL (K:=K) (xs:=xs) (λi σ H2=>Go (r.M E) H (r.M E) H2/\bf A E H2 r ((rows.take i).foldl (step (doR E f)) (k,false)).1/\((rows.take i).foldl (step (doR E f)) (k,false)).1.room BIG (((rows.drop i).map (aM E f)).sum)/\
  ∃v,σ=[T9 (.ref r.s),T9 (.ref q),T9 (.bl ((rows.take i).foldl (step (doR E f)) (k,false)).2),v]) ⟨Go.refl _ _,R,rm,Ua,rfl⟩ (λi σ H2 _ h=>SqL.of (aA _ _ (h.1.same _ _ hq))) ?_ ?_⟩
 ·rintro i v σ H2 hx ⟨g2,R2,rm2,z,rfl⟩;obtain⟨rw,hrw,W⟩:=bg pr hx;rw[yM hrw];rw[qF hrw,KP,Mg]at rm2;generalize (rows.take i).foldl (step (doR E f)) (k,false)=p at R2 rm2⊢;have wr:=wf rw (KI hrw);have nn:=pD E (d:=f) (xs:=rows.drop (i+1)) λq hq=>wf q (Ro hq);refine⟨r.s,r.ds,_,rfl,R2.s,rfl,r,p.1,v,rw,rfl,R2,W.same g2.same,wr,rm2.le (),λH3 g3 R3=>⟨_,rfl,?_⟩⟩;have rm3:=qZ E f p.1 rw _ wr rm2;show if(doR E f p.1 rw).2=true then _ else _
  unfold step;cases hb:(doR E f p.1 rw).2 with
  |true=>
   refine eI ⟨g2.trans g3,R3,rm3,T9 v,?_⟩;rw[Bool.or_true];rfl
  |false=>
   refine ba ⟨g2.trans g3,R3,rm3,T9 v,?_⟩;rw[Bool.or_false];rfl
 rintro σ H2 ⟨g2,R2,rm2,z,rfl⟩;have hl:xs.length=rows.length:=NV pr;rw[hl,Lm]at R2⊢;exact g H2 g2 R2
theorem u9(k:S)(n:Int)(v:V):Th.num (k.tell n v)=Th.num k:=by
 funext a
 cases a<;>rfl
theorem oV(k:S)(n:Int)(v:V)(val:Val):val.num (k.tell n v)=val.num k:=by
 cases val with
 |one a=>cases a<;>rfl
 |op a w b=>cases a<;>cases b<;>rfl
 |atl x b=>cases b<;>rfl
theorem AN(k:S)(n:Int)(rw:Rw):rw.told (k.idle n)=rw.told k:=by
 have e:∀val:Val,val.num (k.idle n)=val.num k:=λval=>by
  cases val with
  |one a=>cases a<;>rfl
  |op a w b=>cases a<;>cases b<;>rfl
  |atl x b=>cases b<;>rfl
 cases rw<;>first|rfl|exact congrArg V.int (e _)
theorem yf{n:Nat}{B s:Int}(h:(n:Int)<=s)(h2:s+1<=B)(h3:B<=1000000):n<sizeLine:=by
 have:sizeLine ≥ 1000001:=∅
 omega
theorem Fx{j:Nat}(hj:3<=j)(T:Txt K mg A)(O:E.Ok):∀{n:Nat},jI P w K mg base j A.Run "do_rows" ["self","rows"] (kY A E n)->jI P w K mg base (j+1) A.Run "do_if" ["self","row"] (mU A E IL (gIf E) n)
 |0,_=>T.lY.hs (k:=j) g9 (λ_ _ _ _ _ _ _ _ _ _ _ h=>h.elim) (λ_ _ _ _ h=>h.elim)
 |d+1,D=>by
  have M9:=D;have M6:=yk (P:=P) (w:=w) (base:=base) (E:=E) T;refine T.lY.hs (k:=j) g9 (λf cdv A' outer s' H vs Q E' hr hu h=>?_) (λvs H Q E h=>by obtain⟨r,k,a,rw,_,rfl,_⟩:=h;rfl);obtain⟨r,k,a,rw,hP,rfl,R,W,wf,rm,g⟩:=h;cases rw with
  |iff n val fs os l r0=>
   obtain⟨a',dx,p,pf,po,xf,xo,ea,ha,hp,hf,ho,r1,r2⟩:=W;cases ea;obtain⟨vo,l0,r00,wf1,wf2⟩:=wf;have s0:aq (del (r.M E) H) H:=aA;unfold aM at rm;refine⟨_,(ae (aL (ptc (uX hu) (bh (hj:=by omega) (fv 0) T.bR.cl (zG T O) hr (aE (fv 1) rfl^af)) ab)
  (ae (pst 2 g9.nd (bh (hj:=by omega) (fv 0) T.bR.cl M9 hr (aE (fv 1) rfl^af)))
  (ah (aI (bh (hj:=by omega) (fv 0) T.bR.cl M6 hr (aE (fv 1) rfl^af)))))
  (ae (pst 2 g9.nd (bh (hj:=by omega) (fv 0) T.bR.cl M9 hr (aE (fv 1) rfl^af)))
  (ah (aI (bh (hj:=by omega) (fv 0) T.bR.cl M6 hr (aE (fv 1) rfl^af))))))
  (ah (aB (fv 2)))),?_⟩
   refine⟨r.s,r.ds,_,rfl,R.s,rfl,fdI (s0 _ _ ha) T.bJ.cl T.jy rfl ⟨r,k,p,val,rfl,R,s0 _ _ hp,vo,rfl,_,rfl,?_⟩⟩
   have b1:(fs.map (aM E d)).sum<=1+(if l+(fs.map (aM E d)).sum<r0+(os.map (aM E d)).sum then r0+(os.map (aM E d)).sum else l+(fs.map (aM E d)).sum)-1:=by split<;>omega
   have b2:(os.map (aM E d)).sum<=1+(if l+(fs.map (aM E d)).sum<r0+(os.map (aM E d)).sum then r0+(os.map (aM E d)).sum else l+(fs.map (aM E d)).sum)-1:=by split<;>omega
   unfold gIf at g
   dsimp only at g
   by_cases c:val.num k=0
   ·rw[show(!decide (V.int (val.num k)=V.int 0))=false by rw[qi,c];rfl];refine ba ?_;rw[if_neg (λz=>z c)]at g;refine⟨r.s,r.ds,_,rfl,R.s,rfl,fdI (s0 _ _ ha) T.bJ.cl T.jX rfl ⟨r,k,po,xo,os,rfl,R,ho,r2,wf2,rm.le b2,λH2 g2 R2=>?_⟩⟩;have ha2:=aA _ _ (g2.same _ _ ha);exact⟨r.s,r.ds,_,rfl,R2.s,rfl,fdI ha2 T.bJ.cl T.j8 rfl ⟨r,r0,_,rfl,R2,λH3 g3 R3=>g H3 (g2.trans g3) R3⟩⟩
   rw[show(!decide (V.int (val.num k)=V.int 0))=true by rw[qi,decide_eq_false c];rfl]
   refine eI ?_
   rw[if_pos c]at g
   refine⟨r.s,r.ds,_,rfl,R.s,rfl,fdI (s0 _ _ ha) T.bJ.cl T.jU rfl ⟨r,k,pf,xf,fs,rfl,R,hf,r1,wf1,rm.le b1,λH2 g2 R2=>?_⟩⟩
   have ha2:=aA _ _ (g2.same _ _ ha)
   exact⟨r.s,r.ds,_,rfl,R2.s,rfl,fdI ha2 T.bJ.cl T.kH rfl ⟨r,l,_,rfl,R2,λH3 g3 R3=>g H3 (g2.trans g3) R3⟩⟩
  |_=>exact(show False from hP).elim
theorem yp{i i':Nat}{v v':V}{t u:TS}{D:Uw}{σ:St}{H:Hp}(h:∀N:St->Hp->Prop,(∀σ H,u D σ H->N σ H)->t { D with nx:=N } ((σ.set i (T9 v)).set i' (T9 v')) H):kf i v σ H (xh (CA (tC v') (kf i')) (xh t u) D):=h (u D) λ_ _ z=>z
theorem uA(body:S->S×Bool)(l:Int):∀(n j:Nat)(s:S),j<=(Uh body l n j s).2/\(Uh body l n j s).2<=n+j
 |0,j,s=>by simp[Uh]
 |n+1,j,s=>by
  simp only[Uh];split
  ·simp;omega
  have:=uA body l n (j+1) ((body s).1.idle l);omega
theorem CG{j:Nat}(hj:3<=j)(T:Txt K mg A)(O:E.Ok):∀{n:Nat},jI P w K mg base j A.Run "do_rows" ["self","rows"] (kY A E n)->jI P w K mg base (j+1) A.Run "do_loop" ["self","row"] (mU A E Df (xE E) n)
 |0,_=>T.jF.hs (k:=j) dD (λ_ _ _ _ _ _ _ _ _ _ _ h=>h.elim) (λ_ _ _ _ h=>h.elim)
 |d+1,D=>by
  have M9:=D;have M6:=yk (P:=P) (w:=w) (base:=base) (E:=E) T;refine T.jF.hs (k:=j) dD (λf cdv A' outer s' H vs Q E' hr hu h=>?_) (λvs H Q E h=>by obtain⟨r,k,a,rw,_,rfl,_⟩:=h;rfl);obtain⟨r,k,a,rw,hP,rfl,R,W,wf,rm,g⟩:=h;cases rw with
  |loop n th m b l r0=>
   obtain⟨a',dx,q,xs,ea,ha,hq,pr⟩:=W;cases ea;obtain⟨to,m0,m1,l0,r00,wfb⟩:=wf;unfold aM at rm;have c0:=pD E wfb;have lr:(m*(l+(b.map (aM E d)).sum))<=1+m*(if l+(b.map (aM E d)).sum<r0 then r0 else l+(b.map (aM E d)).sum)-1:=by
    have:m*(l+(b.map (aM E d)).sum)<=m*(if l+(b.map (aM E d)).sum<r0 then r0 else l+(b.map (aM E d)).sum):=Li (by split<;>omega) m0;omega
   have rm1:=rm.le lr;have s0:aq (del (r.M E) H) H:=aA;refine⟨_,(ae (pst 2 dD.nd (pcB IY T.Ae ((bh (hj:=by omega) (fv 0) T.bR.cl (Eu T O) hr (aE (fv 1) rfl^af))^aE (fv 1) rfl^af)))
  (ae (pst 3 dD.nd ab)
  (ae (vZ Oa (ptc vI (fv 3) (fv 2))
  (ae (GD (i:=3) dD.nd rfl (by first|exact KG rfl|exact Lg rfl) ab FH)
  (ae (pst 4 dD.nd (bh (hj:=by omega) (fv 0) T.bR.cl M9 hr (aE (fv 1) rfl^af)))
  (ae (aI (bh (hj:=by omega) (fv 0) T.bR.cl M6 hr (aE (fv 1) rfl^af)))
  (ah (aL (bN (fv 4) (λ_=>rfl))
   (ah (BB))
   aC))))))
  (ah (aI (bh (hj:=by omega) (fv 0) T.bR.cl M6 hr (aw dg (aE (fv 1) rfl) (aw oT (aE (fv 1) rfl) (fv 3))^af))))))),?_⟩
   refine⟨r.s,r.ds,_,rfl,R.s,rfl,fdI (s0 _ _ ha) T.aQ.cl T.gK rfl ⟨r,k,th,rfl,R,to,fdI (s0 _ _ ha) T.aQ.cl T.fA rfl ⟨_,_,rfl,?_⟩⟩⟩
   dsimp only
   refine yp λN KN=>?_
   have wn:=DR R.ok to m0
   have wm:=Ac k th m
   have ew:(if m<th.num k then m else th.num k)=Um k th m:=rfl
   rw[ew]
   have gdef:xE E d k (.loop n th m b l r0)=((Uh (λs=>bQ (doR E d) s b) l (Um k th m).toNat 0 k).1.idle (r0*(m-(Uh (λs=>bQ (doR E d) s b) l (Um k th m).toNat 0 k).2)),.non):=rfl
   rw[gdef]at g
   have rl:=uA (λs=>bQ (doR E d) s b) l (Um k th m).toNat 0 k
   generalize hX:Uh (λs=>bQ (doR E d) s b) l (Um k th m).toNat 0 k=X at g rl
   generalize Um k th m=wt at wn wm hX rl⊢
   have tail:∀(kk:S)(jj:Nat)(v4:Option V)(Hx:Hp),Go (r.M E) H (r.M E) Hx->bf A E Hx r kk->X=(kk,jj)->N [T9 (.ref r.s),T9 (.ref a),T9 (.int wt),T9 (.int (jj:Int)),v4] Hx:=by
    intro kk jj v4 Hx gx Rx ex;refine KN _ _ ?_;rw[ex]at rl g;dsimp only at rl;have hax:=aA _ _ (gx.same _ _ ha);exact⟨r.s,r.ds,_,rfl,Rx.s,rfl,fdI hax T.aQ.cl T.gP rfl (fdI hax T.aQ.cl T.fA rfl ⟨.inr ⟨(),()⟩,⟨r,_,kk,rfl,Rx,λH3 g3 R3=>g H3 (gx.trans g3) R3⟩⟩)⟩
   refine⟨λmm σ Hx=>∃(jj:Nat)(kj:S)(v4:Option V),mm+jj=wt.toNat/\σ=[T9 (.ref r.s),T9 (.ref a),T9 (.int wt),T9 (.int (jj:Int)),v4]/\Go (r.M E) H (r.M E) Hx/\bf A E Hx r kj/\kj.room BIG ((mm:Int)*(l+(b.map (aM E d)).sum))/\Uh (λs=>bQ (doR E d) s b) l mm jj kj=X,⟨_,0,k,Ua,Nat.add_zero _,rfl,Go.refl _ _,R,rm1.le (LZ () ()),hX⟩,?_⟩
   rintro mm σ Hx ⟨jj,kj,v4,hmm,rfl,gx,Rx,rmx,ex⟩
   refine⟨_,rfl,aV (λc=>?_) (λc=>?_)⟩
   ·have hc:(jj:Int)<wt:=of_decide_eq_true c;obtain⟨m',rfl⟩:∃m',mm=m'+1:=⟨mm-1,()⟩;have em:((m'+1:Nat):Int)*(l+(b.map (aM E d)).sum)=(m':Int)*(l+(b.map (aM E d)).sum)+(l+(b.map (aM E d)).sum):=by rw[SY,Ny,Nu]
    rw[em]at rmx;have m0':0<=(m':Int)*(l+(b.map (aM E d)).sum):=Lo () ();refine⟨λσ' H'=>∃(jj:Nat)(kj:S)(v4:Option V),m'+jj=wt.toNat/\σ'=[T9 (.ref r.s),T9 (.ref a),T9 (.int wt),T9 (.int (jj:Int)),v4]/\Go (r.M E) H (r.M E) H'/\bf A E H' r kj/\kj.room BIG ((m':Int)*(l+(b.map (aM E d)).sum))/\Uh (λs=>bQ (doR E d) s b) l m' jj kj=X,λσ' H' h'=>⟨m',Mn _,h'⟩,⟨_,rfl,_,_,rfl,rfl,?_⟩⟩;have hax:=aA _ _ (gx.same _ _ ha);refine⟨r.s,r.ds,_,rfl,Rx.s,rfl,fdI hax T.aQ.cl T.i9 rfl ⟨r,kj,q,xs,b,rfl,Rx,gx.same _ _ hq,Paired.cS pr (λ_ _=>dW.same gx.same),wfb,rmx.le (),λH2 g2 R2=>?_⟩⟩;have g02:=gx.trans g2;have ha2:=aA _ _ (g02.same _ _ ha);refine⟨r.s,r.ds,_,rfl,R2.s,rfl,fdI ha2 T.aQ.cl T.iP rfl ⟨r,l,_,rfl,R2,λH3 g3 R3=>?_⟩⟩;have g03:=g02.trans g3;have rm3:((bQ (doR E d) kj b).1.idle l).room BIG ((m':Int)*(l+(b.map (aM E d)).sum)):=kq (mZ (E:=E) (p:=Wf E d) (λs r n w h=>qZ E d s r n w h) b (kj,false) _ wfb (rmx.le ())) l0;simp only[Uh]at ex;refine⟨_,rfl,?_⟩;cases hb:(bQ (doR E d) kj b).2 with
    |true=>
     refine eI ?_;rw[hb,if_pos rfl]at ex;exact tail _ (jj+1) _ H3 g03 R3 ex.symm
    |false=>
     refine ba ?_;rw[hb,if_neg KJ]at ex;exact⟨jj+1,_,_,(),rfl,g03,R3,rm3,ex⟩
   have hc:¬ (jj:Int)<wt:=λz=>c (decide_eq_true z)
   obtain rfl:mm=0:=()
   exact tail kj jj v4 Hx gx Rx ex.symm
  |_=>exact(show False from hP).elim
theorem JX{i:Nat}{v:V}{σ:St}{H:Hp}{G:List V->Hp->Prop}(hv:∀Q:V->Hp->Prop,Q v H->xG i σ H Q)(h:G [v] H):E7 (xG i) Ed σ H G:=hv _ h
theorem Au{k:S}{xs:List (Nat×Int)}{i:Nat}{p:Nat×Int}(h:xs[i]?=T9 p):k.xI (xs.take (i+1))=(k.xI (xs.take i)).put p.1 p.2:=tV _ _ h
theorem Cu{j:Nat}(hj:3<=j)(T:Txt K mg A)(O:E.Ok):∀{n:Nat},jI P w K mg base j A.Run "do_rows" ["self","rows"] (kY A E n)->jI P w K mg base (j+1) A.Run "do_call" ["self","row"] (mU A E BR (qJ E) n)
 |0,_=>T.jS.hs (k:=j) dw (λ_ _ _ _ _ _ _ _ _ _ _ h=>h.elim) (λ_ _ _ _ h=>h.elim)
 |d+1,D=>by
  have M9:=D;refine T.jS.hs (k:=j) dw (λf' cdv A' outer s' H vs Q E' hr hu h=>?_) (λvs H Q E h=>by obtain⟨r,k,a,rw,_,rfl,_⟩:=h;rfl);obtain⟨r,k,a,rw,hP,rfl,R,W,wf,rm,g⟩:=h;cases rw with
  |call n i ts=>
   obtain⟨a',dx,p,D,ea,hD,ha,hp,b,bx,bn,pp,pb,bs,hdv,hb,hpp,hpb,W⟩:=W;cases ea;obtain⟨to,tl4,D',hD',pl,wb⟩:=wf;rw[hD]at hD';cases hD';unfold aM at rm;unfold qJ at g;rw[hD]at rm;dsimp only at g rm;rw[hD]at g;dsimp only at g;have s0:aq (del (r.M E) H) H:=aA;refine⟨_,(ae (pst 2 dw.nd (px hu (aE (fv 0) rfl) (aE (fv 1) rfl)))
  (ae (iw (j:=3) (N:=["thing","self"]) (own:=1) (fr:=[0]) (cJ.of (by kernel_rfl!)) rfl dw.nd rfl (KG rfl) (cA (aE (fv 1) rfl)) (λb=>pgn (i:=0) (show OS (["thing","self"]:List OY) by decide+kernel) rfl) (λb=>pN) (λb=>bh (hj:=by omega) (fv 1) T.bR.cl (Eu T O) hr (fv 0^af)))
  (ae (df Oa rfl (Bz rfl T.xJ (aE (fv 2) rfl^fv 3^af)) (yF rfl (kA (pgn (i:=4) dw.nd rfl) (kA (pgn (i:=5) dw.nd rfl) vt)))
  (ah (bo (fv 5) (bz (aE (fv 0) rfl) (fv 4) (bu hu Uc)))))
  (ah (aI (bh (hj:=by omega) (fv 0) T.bR.cl M9 hr (aE (fv 2) rfl^af))))))),?_⟩
   refine ak λM1 K1=>fdI R.s T.bR.cl T.jn rfl (fdI (s0 _ _ ha) T.aY.cl T.iy rfl ⟨_,R.fT O hD hdv,K1 _ _ (ak λM2 K2=>fdI (s0 _ _ ha) T.aY.cl T.fW rfl (KG ⟨⟨_,SqL.of (s0 _ _ hp)⟩,Cn (K:=K) (λi y _=>∀t,ts[i]?=T9 t->y=.int (t.num k)) (SqL.of (s0 _ _ hp)) (ax (by rw[Kx];omega)) (λb' i x H2 G hx s2 kk=>?_) (λ_ _ _ _ _ h=>h) (λ_ _ _ _ _ _ _ h=>h) (λnl H2 ys hnl s2 e2 yl hy=>?_)⟩))⟩)
   ·rw[KO]at hx;cases ht:ts[i]? with
    |none=>rw[ht]at hx;cases hx
    |some t=>
     rw[ht]at hx;cases hx;have R2:=R.same s2;exact⟨r.s,r.ds,_,rfl,R2.s,rfl,r,k,t,rfl,R2,to t (KI ht),kk _ _ (aq.refl _) λt' h'=>by rw[ht]at h';cases h';rfl⟩
   have ey:ys=(ts.map (Th.num k)).map V.int:=by
    refine Nh λi=>?_;rw[Kx]at yl;rw[KO,KO];cases h1:ts[i]? with
    |none=>
     have:ts.length<=i:=List.getElem?_eq_none_iff.mp h1;exact LX ()
    |some t=>
     have lt:i<ys.length:=by have:=(KA.mp h1).1;omega
     rw[Kv lt,hy i _ (Kv lt) t h1];rfl
   subst ey
   refine K2 _ _ (ak λM3 K3=>?_)
   have g2:Go (r.M E) H (r.M E) H2:=Go.new s2
   have nlM:=R.free hnl
   refine fdI (aA _ _ (g2.same _ _ hb)) T.fX.cl T.eP rfl ⟨_,_,rfl,⟨_,SqL.of (aA _ _ (g2.same _ _ hpp))⟩,⟨_,SqL.of e2⟩,An (K:=K) (xs:=D.parts.map λi=>V.str (E.N i)) (ys:=(ts.map (Th.num k)).map V.int) (λi σ H3=>Go (r.M E) H (r.M E) H3/\bf A E H3 r (k.xI ((D.parts.zip (ts.map (Th.num k))).take i))/\H3 nl=T9 (.lst ((ts.map (Th.num k)).map V.int))/\∃z4 z5,σ=[T9 (.ref r.s),T9 (.ref a),T9 (.ref b),T9 (.ref nl),z4,z5]) ⟨g2,R.same s2,e2,Ua,Ua,rfl⟩ (λi σ H3 _ h=>⟨SqL.of (aA _ _ (h.1.same _ _ hpp)),SqL.of h.2.2.1⟩) (by rw[Kx,Kx,Kx];exact pl) ?_ ?_⟩
   ·rintro i x y σ H3 tp hx hy ⟨g3,R3,e3,z4,z5,rfl⟩ htp;rw[KO]at hx hy;cases hpi:D.parts[i]? with
    |none=>rw[hpi]at hx;cases hx
    |some q=>
    cases hvi:(ts.map (Th.num k))[i]? with
    |none=>rw[hvi]at hy;cases hy
    |some u=>
    rw[hpi]at hx;rw[hvi]at hy;cases hx;cases hy;have zi:(D.parts.zip (ts.map (Th.num k)))[i]?=T9 (q,u):=by
     rw[LY];exact⟨hpi,hvi⟩
    have ui:In u:=by
     have:=KI hvi;obtain⟨t,ht,rfl⟩:=KS.mp this;exact Th.eW R.ok (to t ht)
    rw[Au zi];generalize k.xI ((D.parts.zip (ts.map (Th.num k))).take i)=k3 at R3⊢;obtain⟨s4,e4⟩:=alc htp (HO.tup [V.str (E.N q),.int u]);generalize upd H3 tp _=H4 at s4 e4⊢;have R4:=R3.same s4;refine⟨tp,_,rfl,SqT.of e4,rfl,_,_,rfl,_,_,rfl,rfl,?_⟩;obtain⟨x1,x2⟩:=O.pt D (KI hD) q (KI hpi);exact fdI R4.s T.bR.cl T.c9 rfl ⟨_,cY.k (k:=.inr (E.N q)) R4.hc (ax (by rw[dS];have:=O.len;omega)),⟨(g3.trans (Go.new s4)).trans (Go.at (r.inM E).2.1 _),R4.put O x1 x2 ui,ag (λz=>nlM (z▸(r.inM E).2.1)) (s4 _ _ e3),_,_,rfl⟩⟩
   rintro σ H3 ⟨g3,R3,e3,z4,z5,rfl⟩
   have full:(D.parts.zip (ts.map (Th.num k))).take (D.parts.map λi=>V.str (E.N i)).length=D.parts.zip (ts.map (Th.num k)):=Mt (by simp only[MP,Kx];exact Nat.min_le_left _ _)
   rw[full]at R3
   refine K3 _ _ ?_
   have hb3:=aA _ _ (g3.same _ _ hb)
   exact⟨r.s,r.ds,_,rfl,R3.s,rfl,fdI hb3 T.fX.cl T.iq rfl ⟨r,_,pb,bs,D.body,rfl,R3,g3.same _ _ hpb,Paired.cS W (λ_ _=>dW.same g3.same),wb,uh (rm.le ()) _,λH4 g4 R4=>g H4 (g3.trans g4) R4⟩⟩
  |_=>exact(show False from hP).elim
theorem D7{j d:Nat}(hj:4<=j)(T:Txt K mg A)(O:E.Ok)(D1:jI P w K mg base j A.Run "do_if" ["self","row"] (mU A E IL (gIf E) d))(D2:jI P w K mg base j A.Run "do_loop" ["self","row"] (mU A E Df (xE E) d))(D3:jI P w K mg base j A.Run "do_call" ["self","row"] (mU A E BR (qJ E) d)) :
  jI P w K mg base (j+1) A.Run "do_row" ["self","row"] (qI A E d):=by
 have NJ:=D1
 have NG:=D2
 have NH:=D3
 have M6:=yk (P:=P) (w:=w) (base:=base) (E:=E) T
 refine T.o7.hs (k:=j) js (λf cdv A' outer s' H vs Q E' hr hu h=>?_) (λvs H Q E h=>by obtain⟨r,k,v,rw,rfl,_⟩:=h;rfl)
 obtain⟨r,k,v,rw,rfl,R,W,wf,rm,g⟩:=h
 have rm1:=rm.le (tN E d rw wf)
 refine⟨_,(ae (aI (bh (hj:=by omega) (fv 0) T.bR.cl M6 hr (ab^af)))
 (ae (pst 2 js.nd (aE (fv 0) rfl))
 (ae (pst 3 js.nd (bh (hj:=by omega) (fv 0) T.bR.cl (FC T O) hr (fv 1^af)))
 (ae (aI (cw (aE (fv 2) rfl) (bp (aE (fv 1) rfl^aE (fv 2) rfl^fv 3^af)^af)))
 (ae (aL (bN (pcB bw T.aG (fv 1^dh T.bT.mg^af)) (λ_=>rfl))
  (ah (bo (bh (hj:=by omega) (fv 0) T.bR.cl (zG T O) hr (aE (fv 1) rfl^af)) (bz (aE (fv 0) rfl) (aE (fv 1) rfl) (bu hu Uc))))
  (ah (aL (bN (pcB bw T.aG (fv 1^dh T.bE.mg^af)) (λ_=>rfl))
   (ah (aI (bh (hj:=by omega) (fv 0) T.bR.cl (EU T O) hr (fv 1^af))))
   (ah (aL (bN (pcB bw T.aG (fv 1^dh T.aP.mg^af)) (λ_=>rfl))
    (ah (aI (cw (aE (fv 2) rfl) (bp (aE (fv 2) rfl^aE (fv 1) rfl^aE (fv 1) rfl^fv 3^af)^af))))
    (ah (aL (bN (pcB bw T.aG (fv 1^dh T.aU.mg^af)) (λ_=>rfl))
     (ae (bo (fv 3) (bz (aE (fv 0) rfl) (aE (fv 1) rfl) (bu hu Uc)))
     (ah (aI (cw (aE (fv 2) rfl) (bp (aE (fv 2) rfl^aE (fv 1) rfl^aE (fv 1) rfl^fv 3^af)^af)))))
     (ah (aL (bN (pcB bw T.aG (fv 1^dh T.aY.mg^af)) (λ_=>rfl))
      (ah (aI (bh (hj:=by omega) (fv 0) T.bR.cl NH hr (fv 1^af))))
      (ah (aL (bN (pcB bw T.aG (fv 1^dh T.bJ.mg^af)) (λ_=>rfl))
       (ah (aB (bh (hj:=by omega) (fv 0) T.bR.cl NJ hr (fv 1^af))))
       (ah (aL (bN (pcB bw T.aG (fv 1^dh T.aQ.mg^af)) (λ_=>rfl))
        (ah (aI (bh (hj:=by omega) (fv 0) T.bR.cl NG hr (fv 1^af))))
        aC)))))))))))))
 (ah (aB (pcB bw T.aG (fv 1^dh T.aT.mg^af))))))))),?_⟩
 refine⟨r.s,r.ds,_,rfl,R.s,rfl,r,1,k,rfl,R,λH2 g2 R2=>fdI R2.s T.bR.cl T.iO rfl ?_⟩
 obtain⟨a,dx,fs,rfl,ha⟩:=Cj W
 obtain⟨cl,cn⟩:=IE T rw
 obtain⟨ts,ht,tt⟩:=R2.ht
 have tlen:ts.length<sizeLine:=by
  have:=tt.len;exact yf (n:=ts.length) (B:=BIG) (by rw[this];exact rm1.t) rm1.st (Lc _)
 refine⟨r.s,r.ds,_,rfl,R2.s,rfl,JX (v:=.ref a) (λ_ z=>z) ?_⟩
 dsimp only
 refine DG T (W.same g2.same) wf aA R2 ?_
 rw[AN]
 have ha2:=aA _ _ (g2.same _ _ ha)
 refine fdI R2.hb T.fi.cl T.kI rfl ⟨KG ⟨rfl,_,SqL.of ht⟩,a,_,dx,_,_,rfl,ha2,cl,cn,rfl,fdI R2.hb T.fi.cl T.d9 rfl ⟨(show 3<=sizeLine by decide),λp3 hp3=>⟨_,_,_,rfl,rfl,aq.upd hp3 _ _ _ ht,tlen,?_⟩⟩⟩
 have R4:bf A E _ r (k.tell rw.no (rw.told k)):=R2.trace (w:=[.int rw.no,.int (k.idle 1).steps,rw.told k]) hp3 ht
 have g4:Go (r.M E) H (r.M E) (upd (upd H2 p3 (HO.tup [.int rw.no,.int (k.idle 1).steps,rw.told k])) r.t (HO.lst (ts++[.ref p3]))):=(g2.trans (Go.new (aq.upd hp3 _))).trans (Go.at (r.inM E).2.2.1 _)
 generalize upd (upd H2 p3 (HO.tup [.int rw.no,.int (k.idle 1).steps,rw.told k])) r.t (HO.lst (ts++[.ref p3]))=H4 at R4 g4⊢
 have W4:=W.same g4.same
 have room4:(k.tell rw.no (rw.told k)).room BIG (aM E d rw-1):=hW (rm.le ()) _ _
 cases rw with
 |set n x val=>
  obtain⟨a',dx,p,ea,ha,hp⟩:∃a' dx p,V.ref a=.ref a'/\del (r.M E) H4 a'=T9 (.ins A.cR dx [("number",.int n),("name",.str (E.N x)),("value",.ref p)])/\del (r.M E) H4 p=T9 (.tup (vV E.N val)):=by cases d<;>exact W4
  cases ea
  obtain⟨x1,x2,vo⟩:x∈E.idx/\E.sz x=0/\val.okE E:=by cases d<;>exact wf
  have ha4:=aA _ _ ha
  have eg:doR E d k (.set n x val)=((k.tell n .non).put x (val.num k),false):=by cases d<;>rfl
  rw[eg]at g
  refine isB (T.bT.bM ha4) (nA T.bT) (eI ⟨r.s,r.ds,_,rfl,R4.s,rfl,fdI ha4 T.bT.cl T.iI rfl ⟨r,k.tell n .non,p,val,rfl,R4,aA _ _ hp,vo,?_⟩⟩)
  rw[oV]
  refine fdI R4.s T.bR.cl T.c9 rfl (fdI ha4 T.bT.cl T.jD rfl ⟨_,cY.k (k:=.inr (E.N x)) R4.hc (ax (by rw[dS];have:=O.len;omega)),?_⟩)
  have g5:=Go.at (H:=H4) (r.inM E).2.1 (HO.dK (Ue (dk E.N E.idx (cV E r.la (k.tell n .non).num)) (.inr (E.N x)) (.int (val.num k))))
  have ha5:=aA _ _ (g5.same _ _ ha)
  exact⟨_,_,_,false,rfl,(λz=>by cases z),T.bT.bM ha5,(bV T.bT T.aT (au T 10 5) (au T 10 0)),g _ (g4.trans g5) (R4.put O x1 x2 (Val.eW R.ok vo))⟩
 |put n x pl val=>
  obtain⟨a',dx,p,ea,ha,hp⟩:∃a' dx p,V.ref a=.ref a'/\del (r.M E) H4 a'=T9 (.ins A.cD dx [("number",.int n),("name",.str (E.N x)),("place",pl.v E.N),("value",.ref p)])/\del (r.M E) H4 p=T9 (.tup (vV E.N val)):=by cases d<;>exact W4
  cases ea
  obtain⟨x1,x2,po,vo⟩:x∈E.idx/\0<E.sz x/\pl.okE E/\val.okE E:=by cases d<;>exact wf
  have ha4:=aA _ _ ha
  have eg:doR E d k (.put n x pl val)=((k.tell n .non).yX x (pl.num k) (val.num k),false):=by cases d<;>rfl
  rw[eg]at g
  refine isB (T.bE.bM ha4) (bV T.bE T.bT (au T 5 6) (au T 5 0)) (ba (isB (T.bE.bM ha4) (nA T.bE) (eI ⟨r.s,r.ds,_,rfl,R4.s,rfl,r,k.tell n .non,_,x,pl,val,a,dx,p,rfl,R4,x1,x2,po,vo,ha4,aA _ _ hp,λH5 R5 g5=>?_⟩)))
  rw[oV,u9]at R5
  have ha5:=aA _ _ (g5.same _ _ ha)
  exact⟨_,_,_,false,rfl,(λz=>by cases z),T.bE.bM ha5,(bV T.bE T.aT (au T 10 6) (au T 10 0)),g _ (g4.trans g5) R5⟩
 |snd n x val=>
  obtain⟨a',dx,p,ea,ha,hp⟩:∃a' dx p,V.ref a=.ref a'/\del (r.M E) H4 a'=T9 (.ins A.bH dx [("number",.int n),("name",.str (E.N x)),("value",.ref p)])/\del (r.M E) H4 p=T9 (.tup (vV E.N val)):=by cases d<;>exact W4
  cases ea
  have ha4:=aA _ _ ha
  have eg:doR E d k (.snd n x val)=((k.tell n (.int (val.num k))).qN [.int (k.steps+1),.int n,.str (E.N x),.int (val.num k)],false):=by cases d<;>rfl
  rw[eg]at g
  obtain⟨ls,hl,tl⟩:=R4.hl
  have llen:ls.length<sizeLine:=by
   have:=tl.len;exact yf (n:=ls.length) (B:=BIG) (by rw[this];exact rm1.l) rm1.st (Lc _)
  refine isB (T.aP.bM ha4) (bV T.aP T.bT (au T 5 7) (au T 5 0)) (ba (isB (T.aP.bM ha4) (bV T.aP T.bE (au T 6 7) (au T 6 0)) (ba (isB (T.aP.bM ha4) (nA T.aP) (eI (fdI R4.hb T.fi.cl T.dA rfl ⟨KG ⟨rfl,_,SqL.of hl⟩,fdI R4.hb T.fi.cl T.d9 rfl (fdI ha4 T.aP.cl T.eA rfl (fdI ha4 T.aP.cl T.i7 rfl ⟨(show 4<=sizeLine by decide),λp5 hp5=>⟨_,_,_,rfl,rfl,aq.upd hp5 _ _ _ hl,llen,?_⟩⟩))⟩))))))
  have R6:=R4.qN (w:=[.int (k.steps+1),.int n,.str (E.N x),.int (val.num k)]) hp5 hl
  have g6:Go (r.M E) H4 (r.M E) (upd (upd H4 p5 (HO.tup [.int (k.steps+1),.int n,.str (E.N x),.int (val.num k)])) r.l (HO.lst (ls++[.ref p5]))):=(Go.new (aq.upd hp5 _)).trans (Go.at (r.inM E).2.2.2.1 _)
  have ha6:=aA _ _ (g6.same _ _ ha)
  exact⟨_,_,_,false,rfl,(λz=>by cases z),T.aP.bM ha6,(bV T.aP T.aT (au T 10 7) (au T 10 0)),g _ (g4.trans g6) R6⟩
 |say n x val m=>
  obtain⟨a',dx,p,ea,ha,hp⟩:∃a' dx p,V.ref a=.ref a'/\del (r.M E) H4 a'=T9 (.ins A.cj dx [("number",.int n),("name",.str (E.N x)),("value",.ref p),("mark",.str (E.N m))])/\del (r.M E) H4 p=T9 (.tup (vV E.N val)):=by cases d<;>exact W4
  cases ea
  obtain⟨x1,x2,vo⟩:x∈E.idx/\E.sz x=0/\val.okE E:=by cases d<;>exact wf
  have ha4:=aA _ _ ha
  have eg:doR E d k (.say n x val m)=(((k.tell n (.int (val.num k))).put x (val.num k)).qP [.int (k.steps+1),.int n,.str (E.N m),.int (val.num k)],false):=by cases d<;>rfl
  rw[eg]at g
  refine isB (T.aU.bM ha4) (bV T.aU T.bT (au T 5 8) (au T 5 0)) (ba (isB (T.aU.bM ha4) (bV T.aU T.bE (au T 6 8) (au T 6 0)) (ba (isB (T.aU.bM ha4) (bV T.aU T.aP (au T 7 8) (au T 7 0)) (ba (isB (T.aU.bM ha4) (nA T.aU) (eI (fdI R4.s T.bR.cl T.c9 rfl (fdI ha4 T.aU.cl T.jw rfl ⟨_,cY.k (k:=.inr (E.N x)) R4.hc (ax (by rw[dS];have:=O.len;omega)),?_⟩)))))))))
  have R5:=R4.put O x1 x2 (Val.eW R.ok vo)
  have g5:=Go.at (H:=H4) (r.inM E).2.1 (HO.dK (Ue (dk E.N E.idx (cV E r.la (k.tell n (.int (val.num k))).num)) (.inr (E.N x)) (.int (val.num k))))
  dsimp only[Rw.no,Rw.told]at R5⊢
  generalize upd H4 r.c (HO.dK (Ue (dk E.N E.idx (cV E r.la (k.tell n (.int (val.num k))).num)) (.inr (E.N x)) (.int (val.num k))))=H5 at R5 g5⊢
  have ha5':=g5.same _ _ ha
  have ha5:=aA _ _ ha5'
  obtain⟨ls,hl,tl⟩:=R5.hd
  have llen:ls.length<sizeLine:=by
   have:=tl.len;exact yf (n:=ls.length) (B:=BIG) (by rw[this];exact rm1.d) rm1.st (Lc _)
  refine fdI R5.hb T.fi.cl T.mh rfl ⟨KG ⟨rfl,_,SqL.of hl⟩,fdI R5.hb T.fi.cl T.d9 rfl (fdI ha5 T.aU.cl T.eQ rfl (fdI ha5 T.aU.cl T.jQ rfl ⟨(show 4<=sizeLine by decide),λp5 hp5=>⟨_,_,_,rfl,rfl,aq.upd hp5 _ _ _ hl,llen,?_⟩⟩))⟩
  have R6:=R5.qP (w:=[.int (k.steps+1),.int n,.str (E.N m),.int (val.num k)]) hp5 hl
  have g6:Go (r.M E) H5 (r.M E) (upd (upd H5 p5 (HO.tup [.int (k.steps+1),.int n,.str (E.N m),.int (val.num k)])) r.sd (HO.lst (ls++[.ref p5]))):=(Go.new (aq.upd hp5 _)).trans (Go.at (r.inM E).2.2.2.2.1 _)
  have ha6:=aA _ _ (g6.same _ _ ha5')
  exact⟨_,_,_,false,rfl,(λz=>by cases z),T.aU.bM ha6,(bV T.aU T.aT (au T 10 8) (au T 10 0)),g _ ((g4.trans g5).trans g6) R6⟩
 |last n=>
  obtain⟨a',dx,ea,ha⟩:∃a' dx,V.ref a=.ref a'/\del (r.M E) H4 a'=T9 (.ins A.cO dx [("number",.int n)]):=by cases d<;>exact W4
  cases ea
  have ha4:=aA _ _ ha
  have eg:doR E d k (.last n)=(k.tell n .non,true):=by cases d<;>rfl
  rw[eg]at g
  exact isB (T.aT.bM ha4) (bV T.aT T.bT (au T 5 10) (au T 5 0)) (ba (isB (T.aT.bM ha4) (bV T.aT T.bE (au T 6 10) (au T 6 0)) (ba (isB (T.aT.bM ha4) (bV T.aT T.aP (au T 7 10) (au T 7 0)) (ba (isB (T.aT.bM ha4) (bV T.aT T.aU (au T 8 10) (au T 8 0)) (ba (isB (T.aT.bM ha4) (bV T.aT T.aY (au T 9 10) (au T 9 0)) (ba (isB (T.aT.bM ha4) (bV T.aT T.bJ (au T 11 10) (au T 11 0)) (ba (isB (T.aT.bM ha4) (bV T.aT T.aQ (au T 12 10) (au T 12 0)) (ba ⟨_,_,_,true,rfl,(λz=>by cases z),T.aT.bM ha4,nA T.aT,g _ g4 R4⟩)))))))))))))
 |call n i ts=>
  cases d with
  |zero=>exact(show False from wf).elim
  |succ d=>
  obtain⟨a',dx,p,D,ea,hD,ha,_⟩:=id W4
  cases ea
  have ha4:=aA _ _ ha
  have eg:doR E (d+1) k (.call n i ts)=((qJ E d (k.tell n .non) (.call n i ts)).1,false):=by
   simp only[doR,qJ,hD,u9]
  have e2:(qJ E d (k.tell n .non) (.call n i ts)).2=.non:=by simp only[qJ,hD]
  rw[eg]at g
  refine isB (T.aY.bM ha4) (bV T.aY T.bT (au T 5 9) (au T 5 0)) (ba (isB (T.aY.bM ha4) (bV T.aY T.bE (au T 6 9) (au T 6 0)) (ba (isB (T.aY.bM ha4) (bV T.aY T.aP (au T 7 9) (au T 7 0)) (ba (isB (T.aY.bM ha4) (bV T.aY T.aU (au T 8 9) (au T 8 0)) (ba (isB (T.aY.bM ha4) (nA T.aY) (eI ⟨r.s,r.ds,_,rfl,R4.s,rfl,r,k.tell n .non,a,.call n i ts,trivial,rfl,R4,W4,wf,room4,?_⟩)))))))))
  rw[e2]
  intro H5 g5 R5
  have ha5:=aA _ _ (g5.same _ _ ha)
  exact⟨_,_,_,false,rfl,(λz=>by cases z),T.aY.bM ha5,(bV T.aY T.aT (au T 10 9) (au T 10 0)),g _ (g4.trans g5) R5⟩
 |iff n val fs os l r0=>
  cases d with
  |zero=>exact(show False from wf).elim
  |succ d=>
  obtain⟨a',dx,p,pf,po,xf,xo,ea,ha,_⟩:=id W4
  cases ea
  have ha4:=aA _ _ ha
  refine isB (T.bJ.bM ha4) (bV T.bJ T.bT (au T 5 11) (au T 5 0)) (ba (isB (T.bJ.bM ha4) (bV T.bJ T.bE (au T 6 11) (au T 6 0)) (ba (isB (T.bJ.bM ha4) (bV T.bJ T.aP (au T 7 11) (au T 7 0)) (ba (isB (T.bJ.bM ha4) (bV T.bJ T.aU (au T 8 11) (au T 8 0)) (ba (isB (T.bJ.bM ha4) (bV T.bJ T.aY (au T 9 11) (au T 9 0)) (ba (isB (T.bJ.bM ha4) (nA T.bJ) (eI ⟨r.s,r.ds,_,rfl,R4.s,rfl,r,k.tell n .non,a,.iff n val fs os l r0,trivial,rfl,R4,W4,wf,room4,?_⟩)))))))))))
  have e1:(gIf E d (k.tell n .non) (.iff n val fs os l r0)).1=(doR E (d+1) k (.iff n val fs os l r0)).1:=by
   simp only[doR,gIf,oV];split<;>rfl
  have e2:(gIf E d (k.tell n .non) (.iff n val fs os l r0)).2=.bl (doR E (d+1) k (.iff n val fs os l r0)).2:=by
   simp only[doR,gIf,oV];split<;>rfl
  rw[e1,e2]
  exact λH5 g5 R5=>g _ (g4.trans g5) R5
 |loop n t m b l r0=>
  cases d with
  |zero=>exact(show False from wf).elim
  |succ d=>
  obtain⟨a',dx,pb,xb,ea,ha,_⟩:=id W4
  cases ea
  have ha4:=aA _ _ ha
  refine isB (T.aQ.bM ha4) (bV T.aQ T.bT (au T 5 12) (au T 5 0)) (ba (isB (T.aQ.bM ha4) (bV T.aQ T.bE (au T 6 12) (au T 6 0)) (ba (isB (T.aQ.bM ha4) (bV T.aQ T.aP (au T 7 12) (au T 7 0)) (ba (isB (T.aQ.bM ha4) (bV T.aQ T.aU (au T 8 12) (au T 8 0)) (ba (isB (T.aQ.bM ha4) (bV T.aQ T.aY (au T 9 12) (au T 9 0)) (ba (isB (T.aQ.bM ha4) (bV T.aQ T.bJ (au T 11 12) (au T 11 0)) (ba (isB (T.aQ.bM ha4) (nA T.aQ) (eI ⟨r.s,r.ds,_,rfl,R4.s,rfl,r,k.tell n .non,a,.loop n t m b l r0,trivial,rfl,R4,W4,wf,room4,?_⟩)))))))))))))
  have ew:Um (k.tell n .non) t m=Um k t m:=by unfold Um;rw[u9]
  have eg:doR E (d+1) k (.loop n t m b l r0)=((xE E d (k.tell n .non) (.loop n t m b l r0)).1,false):=by
   simp only[doR,xE,ew]
  rw[eg]at g
  intro H5 g5 R5
  have ha5:=aA _ _ (g5.same _ _ ha)
  exact⟨_,_,_,false,rfl,(λz=>by cases z),T.aQ.bM ha5,(bV T.aQ T.aT (au T 10 12) (au T 10 0)),g _ (g4.trans g5) R5⟩
theorem mW(T:Txt K mg A)(O:E.Ok):∀n,jI P w K mg base (3*n+5) A.Run "do_rows" ["self","rows"] (kY A E n)
 |0=>T.f9.hs (k:=4) dZ (λ_ _ _ _ _ _ _ _ _ _ _ h=>h.elim) (λ_ _ _ _ h=>h.elim)
 |d+1=>xw T (D7 () T O (Fx () T O (mW T O d)) (CG () T O (mW T O d)) (Cu () T O (mW T O d)))
noncomputable def Uv(n:Nat):List Int:=Oc n 0
theorem yE(n:Nat):(Oc n [V.int 0]).flatten=(Uv n).map V.int:=by
 unfold Uv;rw[R0];induction n with
 |zero=>rfl
 |succ n ih=>rw[Lq,Lq,Mu,ih];rfl
inductive By(A:Adr)(vs:List V)(H:Hp)(Q:VK)(Z:XK):Prop
 |mk(a dx:NL)(k:V)(n:Nat)(x:V):vs=[.ref a]->n<=1000->H a=T9 (.ins A.bP dx [("number",k),("name",x),("size",.int n)])->(n=0->Q (.int 0) H)->(0<n->∀p H',aq H H'->H p=Ua->H' p=T9 (.lst ((Uv n).map V.int))->Q (.ref p) H')->By A vs H Q Z
theorem IH(T:Txt K mg A):T.rg.Hz P w base 1 (By A):=by
 refine T.rg.hs wK (λf cdv A' outer s H vs Q E hr hu h=>?_);obtain⟨a,dx,k,n,x,rfl,hn,ha,q0,q1⟩:=h;refine⟨_,(ah (aB (iS (ptc (aZ hu) (aE (fv 0) rfl) ab) ab (aw dg (bA (ab^af)) (aE (fv 0) rfl))))),fdI ha T.bb.cl T.gq rfl ⟨rfl,_,rfl,aV (λc=>?_) (λc=>?_)⟩⟩
 ·rw[qi,decide_eq_true_iff]at c;exact q0 ()
 rw[qi,decide_eq_true_iff]at c;refine⟨by show 1<=sizeLine;decide,λl hl=>?_⟩;obtain⟨s1,e1⟩:=alc hl (HO.lst [V.int 0]);generalize upd H l _=H1 at s1 e1⊢;refine fdI (s1 _ _ ha) T.bb.cl T.gq rfl ⟨_,e1,(),(),?_,λp hp=>?_⟩
 ·show 1*((n:Int)).toNat<=sizeLine;have:=sz hn;omega
 refine q1 () p _ (s1.trans (aq.upd hp _)) (aq.free s1 hp) ?_;rw[aj,<-yE];rfl
inductive xp(A:Adr)(vs:List V)(H:Hp)(Q:VK)(Z:XK):Prop
 |mk(a g dx:NL)(k rk:V)(x:Str)(z:Nat)(kvs:List (Key×V))(gv:V):vs=[.ref a,.ref g]->H a=T9 (.ins A.bj dx [("number",k),("name",.str x),("rank",rk),("size",.int z)])->H g=T9 (.dK kvs)->L2.fB kvs (.inr x)=T9 gv->((z=0/\∃n:Int,gv=.int n/\In n/\Q (.int n) H)\/(0<z/\z<=1000/\∃(l:NL)(ns:List Int),gv=.ref l/\H l=T9 (.lst (ns.map V.int))/\ns.length=z/\(∀n∈ns,In n)/\∀p H',aq H H'->H p=Ua->H' p=T9 (.lst (ns.map V.int))->Q (.ref p) H'))->xp A vs H Q Z
theorem EK(T:Txt K mg A):T.nX.Hz P w base 3 (xp A):=by
 refine T.nX.hs nK (λf cdv A' outer s H vs Q E hr hu h=>?_);obtain⟨a,g,dx,k,rk,x,z,kvs,gv,rfl,ha,hg,hv,hq⟩:=h;have d1:cP H g (.str x) (T9 gv):=by
  have:=cP.k (k:=.inr x) hg;rw[hv]at this;exact this
 refine⟨_,(ae (pst 2 nK.nd (Ce (MF (Nat.add_le_add_left (show 1<=64 by decide) _) hu) (fv 1) (aE (fv 0) rfl) ⟨rfl,rfl,rfl,rfl⟩))
 (ae (aL (vP (bN (ar (Bj T) hr (fv 2^aE (fv 0) rfl^af)) (λ_=>rfl)))
  AR
  aC)
 (ah (aB (iS (ptc (aZ hu) (aE (fv 0) rfl) ab) (fv 2) (pcT hJ T.cC (fv 2^af))))))),?_⟩
 refine⟨g,rfl,KG ⟨_,KG hg⟩,fdI ha T.aJ.cl T.cq rfl ⟨_,d1,?_⟩⟩;rcases hq with⟨rfl,n,rfl,hn,q⟩|⟨z0,z1,l,ns,rfl,hl,rfl,hn,q⟩
 ·exact fdI ha T.aJ.cl T.cU rfl (KG ⟨n,rfl,hn,true,rfl,ba (fdI ha T.aJ.cl T.cU rfl ⟨rfl,_,rfl,eI q⟩)⟩)
 refine fdI ha T.aJ.cl T.cU rfl (Lg ⟨l,ns,rfl,z0,z1,hl,hn,λH2 s2=>⟨true,rfl,ba (fdI (s2 _ _ ha) T.aJ.cl T.cU rfl ⟨rfl,_,rfl,aV (λc=>absurd c ?_) (λc=>?_)⟩)⟩⟩)
 ·rw[qi,decide_eq_true_iff];omega
 exact KG ⟨_,_,rfl,KG (SqL.of (s2 _ _ hl)),λp hp=>q p _ (s2.trans (aq.upd hp _)) (aq.free s2 hp) aj⟩
inductive Hd where
 |hand (i:Nat)|giv (i z:Nat)|own (i z:Nat)|lt (i:Nat)
noncomputable def Hd.cell:Hd->List Nat
 | .giv i _=>[i]
 | .own i _=>[i]
 |_=>[]
noncomputable def vE(A:Adr)(N:Nat->Str)(X:Hp)(v:V):Hd->Prop
 | .hand i=>∃a dx n rk,v=.ref a/\X a=T9 (.ins A.ck dx [("number",n),("name",.str (N i)),("rank",rk)])
 | .giv i z=>∃a dx n rk,v=.ref a/\X a=T9 (.ins A.bj dx [("number",n),("name",.str (N i)),("rank",rk),("size",.int z)])
 | .own i z=>∃a dx n,v=.ref a/\X a=T9 (.ins A.bP dx [("number",n),("name",.str (N i)),("size",.int z)])
 | .lt i=>∃a dx n rk,v=.ref a/\X a=T9 (.ins A.cN dx [("number",n),("name",.str (N i)),("rank",rk)])
theorem vE.same{N:Nat->Str}{X X':Hp}(s:aq X X'){v:V}:∀{h:Hd},vE A N X v h->vE A N X' v h
 | .hand _,⟨a,dx,n,rk,e,h⟩=>⟨a,dx,n,rk,e,s _ _ h⟩
 | .giv _ _,⟨a,dx,n,rk,e,h⟩=>⟨a,dx,n,rk,e,s _ _ h⟩
 | .own _ _,⟨a,dx,n,e,h⟩=>⟨a,dx,n,e,s _ _ h⟩
 | .lt _,⟨a,dx,n,rk,e,h⟩=>⟨a,dx,n,rk,e,s _ _ h⟩
noncomputable def isG(hs:List Hd)(i:Nat):Bool:=hs.any λh=>match h with
 | .giv j _=>decide (j=i)
 |_=>false
noncomputable def S.new(E:En)(hs:List Hd)(gn:Nat->Int)(gl:Nat->List Int):S:=⟨λi=>if isG hs i then gn i else 0,λi=>if isG hs i then gl i else Uv (E.sz i),0,[],[],[]⟩
structure Hds(E:En)(hs:List Hd):Prop where
 e:E.idx=hs.flatMap Hd.cell++E.ds.flatMap Dd.parts
 g:∀i z,Hd.giv i z∈hs->E.sz i=z
 o:∀i z,Hd.own i z∈hs->E.sz i=z
structure oI(E:En)(hs:List Hd)(H:Hp)(g:NL)(gn:Nat->Int)(gl:Nat->List Int):Prop where
 d:∃kvs,H g=T9 (.dK kvs)/\∀i z,Hd.giv i z∈hs->(z=0->L2.fB kvs (.inr (E.N i))=T9 (.int (gn i)))/\(0<z->∃l,L2.fB kvs (.inr (E.N i))=T9 (.ref l)/\H l=T9 (.lst ((gl i).map V.int))/\(gl i).length=z)
 n:∀i,In (gn i)
 l:∀i,∀n∈gl i,In n
theorem oI.same{hs:List Hd}{H H':Hp}{g:NL}{gn:Nat->Int}{gl:Nat->List Int}(s:aq H H')(G:oI E hs H g gn gl):oI E hs H' g gn gl:=by
 obtain⟨kvs,h1,h2⟩:=G.d;refine⟨⟨kvs,s _ _ h1,λi z m=>⟨(h2 i z m).1,λz0=>?_⟩⟩,G.n,G.l⟩;obtain⟨l,a,b,c⟩:=(h2 i z m).2 z0;exact⟨l,a,s _ _ b,c⟩
noncomputable def laP(la:Nat->NL)(i:Nat)(u:NL)(j:Nat):NL:=if j=i then u else la j
theorem zR(la:Nat->NL)(i:Nat)(u:NL):laP la i u i=u:=if_pos rfl
theorem uv(la:Nat->NL){i j:Nat}(u:NL)(h:j≠i):laP la i u j=la j:=if_neg h
structure Uq(E:En)(H H2:Hp)(c:NL)(la:Nat->NL)(k:S)(ix:List Nat):Prop where
 s:aq H H2
 hc:H2 c=T9 (.dK (dk E.N ix (cV E la k.num)))
 l:∀i∈ix,0<E.sz i->H (la i)=Ua/\la i≠c/\H2 (la i)=T9 (.lst ((k.lst i).map V.int))
 i:∀i∈ix,∀j∈ix,0<E.sz i->0<E.sz j->la i=la j->i=j
theorem Uq.num{H H2:Hp}{c:NL}{la:Nat->NL}{k:S}{ix:List Nat}{i:Nat}{n:Int}(C:Uq E H H2 c la k ix)(O:E.Ok)(c0:H c=Ua)(hi:i<25)(hb:∀j∈ix,j<25)(m:i∉ix)(hz:E.sz i=0)(en:k.num i=n):Uq E H (upd H2 c (.dK (Ue (dk E.N ix (cV E la k.num)) (.inr (E.N i)) (.int n)))) c la k (ix++[i]):=by
 refine⟨aq.out C.s c0 _,?_,λj hj z=>?_,λa ha b hb' za zb e=>?_⟩
 ·rw[aj,i8 O.D hi hb m];refine congrArg T9 (congrArg HO.dK (ir λj _=>?_));by_cases e:j=i
  ·rw[e,fe];unfold cV;rw[if_pos hz,en]
  rw[jg _ _ e]
 ·rcases Kz.mp hj with hj|hj
  ·obtain⟨h1,h2,h3⟩:=C.l j hj z;exact⟨h1,h2,ag h2 h3⟩
  rw[Ky.mp hj,hz]at z;cases z
 rcases Kz.mp ha with ha|ha
 ·rcases Kz.mp hb' with hb'|hb'
  ·exact C.i a ha b hb' za zb e
  rw[Ky.mp hb',hz]at zb;cases zb
 rw[Ky.mp ha,hz]at za;cases za
theorem Uq.lst{H H2 H3:Hp}{c u:NL}{la:Nat->NL}{k:S}{ix:List Nat}{i:Nat}(C:Uq E H H2 c la k ix)(O:E.Ok)(c0:H c=Ua)(hi:i<25)(hb:∀j∈ix,j<25)(m:i∉ix)(hz:0<E.sz i)(s3:aq H2 H3)(u0:H2 u=Ua)(hu:H3 u=T9 (.lst ((k.lst i).map V.int))) :
  Uq E H (upd H3 c (.dK (Ue (dk E.N ix (cV E la k.num)) (.inr (E.N i)) (.ref u)))) c (laP la i u) k (ix++[i]):=by
 have uc:u≠c:=λw=>by rw[w,C.hc]at u0;cases u0
 have ne:∀j∈ix,j≠i:=λj hj z=>m (z▸hj)
 refine⟨aq.out (C.s.trans s3) c0 _,?_,λj hj z=>?_,λa ha b hb' za zb e=>?_⟩
 ·rw[aj,i8 O.D hi hb m];refine congrArg T9 (congrArg HO.dK (ir λj _=>?_));unfold cV;by_cases e:j=i
  ·rw[e,fe,if_neg (),zR]
  rw[jg _ _ e,uv _ _ e]
 ·rcases Kz.mp hj with hj|hj
  ·obtain⟨h1,h2,h3⟩:=C.l j hj z;rw[uv _ _ (ne j hj)];exact⟨h1,h2,ag h2 (s3 _ _ h3)⟩
  rw[Ky.mp hj,zR];exact⟨aq.free C.s u0,uc,ag uc hu⟩
 have nu:∀j∈ix,0<E.sz j->la j≠u:=λj hj z w=>by
  have:=(C.l j hj z).2.2;rw[w,u0]at this;cases this
 rcases Kz.mp ha with ha|ha
 ·rcases Kz.mp hb' with hb'|hb'
  ·rw[uv _ _ (ne a ha),uv _ _ (ne b hb')]at e;exact C.i a ha b hb' za zb e
  rw[Ky.mp hb',uv _ _ (ne a ha),zR]at e;exact absurd e (nu a ha za)
 rcases Kz.mp hb' with hb'|hb'
 ·rw[Ky.mp ha,zR,uv _ _ (ne b hb')]at e;exact absurd e.symm (nu b hb' zb)
 rw[Ky.mp ha,Ky.mp hb']
structure Pa where
 pa:NL
 dp:NL
 hd:NL
 dd:NL
 mn:NL
noncomputable def Ip(A:Adr)(N:Nat->Str)(X:Hp)(v:V)(D:Dd):Prop:=∃a dx n pp pb,v=.ref a/\X a=T9 (.ins A.bZ dx [("number",n),("name",.str (N D.nm)),("parts",.ref pp),("body",.ref pb)])/\X pp=T9 (.lst (D.parts.map λi=>V.str (N i)))
structure xD(A:Adr)(E:En)(H:Hp)(p:Pa)(hv:List V)(hs:List Hd)(xs:List V):Prop where
 pr:H p.pa=T9 (.ins A.Program p.dp [("heads",.ref p.hd),("deeds",.ref p.dd),("main",.ref p.mn)])
 hd:H p.hd=T9 (.lst hv)
 dd:H p.dd=T9 (.lst E.dv)
 mn:H p.mn=T9 (.lst xs)
 h:Paired (vE A E.N H) hv hs
 d:Paired (Ip A E.N H) E.dv E.ds
 l:hv.length<=64
theorem xD.same{H H':Hp}{p:Pa}{hv:List V}{hs:List Hd}{xs:List V}(s:aq H H')(R:xD A E H p hv hs xs):xD A E H' p hv hs xs:=⟨s _ _ R.pr,s _ _ R.hd,s _ _ R.dd,s _ _ R.mn,Paired.cS R.h λ_ _=>vE.same s,Paired.cS R.d λ_ _ ⟨a,dx,n,pp,pb,e,h1,h2⟩=>⟨a,dx,n,pp,pb,e,s _ _ h1,s _ _ h2⟩,R.l⟩
theorem Uj{α:Type}{ks:List α}{i:Nat}{j:α}(h:ks[i]?=T9 j):ks.take (i+1)=ks.take i++[j]:=by
 rw[Lx,h];rfl
theorem F7{hs:List Hd}{i z:Nat}(h:Hd.giv i z∈hs):isG hs i=true:=by
 unfold isG;rw[LM];exact⟨_,h,by simp⟩
theorem rf{α:Type}{f:α->List Nat}{xs:List α}{i:Nat}{x:α}(h:xs[i]?=T9 x):xs.flatMap f=(xs.take i).flatMap f++(f x++(xs.drop (i+1)).flatMap f):=by
 have e:xs=xs.take i++x::xs.drop (i+1):=by rw[<-qF h,Me]
 conv=>lhs;rw[e]
 rw[MX,Lf]
theorem vL{L xs ys zs:List Nat}{x:Nat}(e:L=xs++(x::ys)++zs)(nd:L.Nodup):x∉xs/\(∀j∈xs,j∈L)/\x∈L:=by
 subst e;refine⟨λm=>?_,λj hj=>by simp[hj],by simp⟩;rw[Le]at nd;exact(Ls.mp nd).2.2 x m x (by simp) rfl
theorem GW{hs:List Hd}{i z:Nat}(nd:(hs.flatMap Hd.cell).Nodup)(h:Hd.own i z∈hs):isG hs i=false:=by
 cases e:isG hs i with
 |false=>rfl
 |true=>
  exfalso;unfold isG at e;rw[LM]at e;obtain⟨g,hg,eg⟩:=e;obtain⟨y,rfl⟩:∃y,g=.giv i y:=by
   cases g with
   |giv j y=>exact⟨y,by rw[of_decide_eq_true eg]⟩
   |_=>cases eg
  obtain⟨a,ha⟩:=La h;obtain⟨b,hb⟩:=La hg;have ne:a≠b:=λz=>by rw[z,hb]at ha;cases ha
  have key:∀{a b:Nat}{p q:Hd},hs[a]?=T9 p->hs[b]?=T9 q->a<b->i∈p.cell->i∈q.cell->False:=λ{a b p q} ha hb lt m1 m2=>by
   rw[rf hb]at nd;have:i∈(hs.take b).flatMap Hd.cell:=LB.mpr ⟨p,KI (by rw[Qz lt];exact ha),m1⟩;exact(Ls.mp nd).2.2 i this i (Lj _ m2) rfl
  rcases Nat.lt_or_gt_of_ne ne with lt|lt
  ·exact key ha hb lt (by simp[Hd.cell]) (by simp[Hd.cell])
  exact key hb ha lt (by simp[Hd.cell]) (by simp[Hd.cell])
inductive wV(A:Adr)(E:En)(vs:List V)(H:Hp)(Q:VK)(Z:XK):Prop
 |mk(p:Pa)(g:NL)(hv xs:List V)(hs:List Hd)(gn:Nat->Int)(gl:Nat->List Int):vs=[.ref p.pa,.ref g]->xD A E H p hv hs xs->Hds E hs->oI E hs H g gn gl->(∀c la H',H c=Ua->Uq E H H' c la (S.new E hs gn gl) E.idx->Q (.ref c) H')->wV A E vs H Q Z
theorem Et(T:Txt K mg A)(O:E.Ok):T.qT.Hz P w base 4 (wV A E):=by
 refine T.qT.hs gw (λf cdv A' outer s H vs Q E' hr hu h=>?_);obtain⟨p,g,hv,xs,hs,gn,gl,rfl,R,Z,G,q⟩:=h;refine⟨_,(ae (pst 2 gw.nd (eM))
 (ae (df Oa rfl (cA (aE (fv 0) rfl)) (pgn (i:=3) gw.nd rfl)
  (ah (aL (bN (pcB bw T.aG (fv 3^dh T.aJ.mg^af)) (λ_=>rfl))
   (ah (bo (ar (EK T) hr (fv 3^fv 1^af)) (bz (fv 2) (aE (fv 3) rfl) (bu hu Uc))))
   (ah (aL (bN (pcB bw T.aG (fv 3^dh T.bb.mg^af)) (λ_=>rfl))
    (ah (bo (ar (IH T) hr (fv 3^af)) (bz (fv 2) (aE (fv 3) rfl) (bu hu Uc))))
    aC)))))
 (ae (df Oa rfl (cA (aE (fv 0) rfl)) (pgn (i:=4) gw.nd rfl)
  (ah (df Oa rfl (cA (aE (fv 4) rfl)) (pgn (i:=5) gw.nd rfl)
   (ah (bo ab (bz (fv 2) (fv 5) (bu hu Uc)))))))
 (ah (aB (fv 2)))))),?_⟩
 refine ak λM1 K1 c hc=>?_;have C1:Uq E H (upd H c (HO.dK [])) c (λ_=>0) (S.new E hs gn gl) []:=⟨aq.upd hc _,aj,λ_ h=>(by cases h),λ_ h=>(by cases h)⟩;generalize upd H c (HO.dK [])=H1 at C1⊢;refine K1 _ _ (ak λM2 K2=>fdI (C1.s _ _ R.pr) T.dO.cl T.cX rfl (KG ⟨⟨_,SqL.of (C1.s _ _ R.hd)⟩,cL (K:=K) (xs:=hv) (λi σ H2=>(∃la,Uq E H H2 c la (S.new E hs gn gl) ((hs.take i).flatMap Hd.cell))/\∃v,σ=[T9 (.ref p.pa),T9 (.ref g),T9 (.ref c),v,Ua,Ua]) ⟨⟨_,C1⟩,Ua,rfl⟩ (λi σ H2 _ h=>by obtain⟨⟨la,C⟩,_⟩:=h;exact SqL.of (C.s _ _ R.hd)) ?_ ?_⟩))
 ·rintro i v σ H2 hx ⟨⟨la,C⟩,z,rfl⟩;obtain⟨h,hh,W⟩:=bg R.h hx;have hm:=KI hh;have W2:=W.same C.s;have eL:E.idx=(hs.take i).flatMap Hd.cell++(h.cell++(hs.drop (i+1)).flatMap Hd.cell)++E.ds.flatMap Dd.parts:=by rw[Z.e,rf hh]
  rw[show(hs.take (i+1)).flatMap Hd.cell=(hs.take i).flatMap Hd.cell++h.cell by rw[Uj hh,MX];simp];have ndh:(hs.flatMap Hd.cell).Nodup:=by
   have:=O.nd;rw[Z.e]at this;exact(Ls.mp this).1
  generalize (hs.take i).flatMap Hd.cell=ix at C eL⊢;have llen:∀(g:Nat->V),(dk E.N ix g).length<sizeLine:=λg=>ax (by
   rw[dS];have:=O.len;rw[eL,KC,KC]at this;omega)
  cases h with
  |hand x=>
   obtain⟨a,dx,n,rk,rfl,ha⟩:=W2;exact isB (T.bG.bM ha) (bV T.bG T.aJ (au T 2 1) (au T 2 0)) (ba (isB (T.bG.bM ha) (bV T.bG T.bb (au T 3 1) (au T 3 0)) (ba ⟨⟨la,by rw[show Hd.cell (.hand x)=[]from rfl,Lv];exact C⟩,_,rfl⟩)))
  |lt x=>
   obtain⟨a,dx,n,rk,rfl,ha⟩:=W2;exact isB (T.bW.bM ha) (bV T.bW T.aJ (au T 2 4) (au T 2 0)) (ba (isB (T.bW.bM ha) (bV T.bW T.bb (au T 3 4) (au T 3 0)) (ba ⟨⟨la,by rw[show Hd.cell (.lt x)=[]from rfl,Lv];exact C⟩,_,rfl⟩)))
  |giv x zz=>
   obtain⟨n1,n2,n3⟩:=vL (x:=x) eL O.nd;have hb:∀j∈ix,j<25:=λj hj=>O.b j (n2 j hj);have ez:=Z.g x zz hm;have ig:=F7 hm;obtain⟨a,dx,n,rk,rfl,ha⟩:=W2;obtain⟨kvs,k1,k2⟩:=(G.same C.s).d;have zl:=O.z x;rw[ez]at zl;refine isB (T.aJ.bM ha) (nA T.aJ) (eI ?_);by_cases z0:zz=0
   ·have e0:=(k2 x zz hm).1 z0;exact⟨a,g,dx,_,_,_,zz,kvs,_,rfl,ha,k1,e0,KG ⟨z0,_,rfl,G.n x,fdI ha T.aJ.cl T.cq rfl ⟨_,cY.k (k:=.inr (E.N x)) C.hc (llen _),⟨⟨la,C.num O hc (O.b x n3) hb n1 (by rw[ez,z0]) (by show(if isG hs x=true then gn x else 0)=_;rw[if_pos ig])⟩,_,rfl⟩⟩⟩⟩
   obtain⟨l,e0,e1,e2⟩:=(k2 x zz hm).2 ();exact⟨a,g,dx,_,_,_,zz,kvs,_,rfl,ha,k1,e0,Lg ⟨(),zl,l,_,rfl,e1,e2,G.l x,λu H3 s3 u0 hu3=>fdI (s3 _ _ ha) T.aJ.cl T.cq rfl ⟨_,cY.k (k:=.inr (E.N x)) (s3 _ _ C.hc) (llen _),⟨⟨_,C.lst O hc (O.b x n3) hb n1 (by rw[ez];omega) s3 u0 (by rw[hu3];show _=T9 (HO.lst ((if isG hs x=true then gl x else Uv (E.sz x)).map V.int));rw[if_pos ig])⟩,_,rfl⟩⟩⟩⟩
  |own x zz=>
   obtain⟨n1,n2,n3⟩:=vL (x:=x) eL O.nd;have hb:∀j∈ix,j<25:=λj hj=>O.b j (n2 j hj);have ez:=Z.o x zz hm;have ig:=GW ndh hm;obtain⟨a,dx,n,rfl,ha⟩:=W2;have zl:=O.z x;rw[ez]at zl;refine isB (T.bb.bM ha) (bV T.bb T.aJ (au T 2 3) (au T 2 0)) (ba (isB (T.bb.bM ha) (nA T.bb) (eI ⟨a,dx,_,zz,_,rfl,zl,ha,λz0=>?_,λz0 u H3 s3 u0 hu3=>?_⟩)))
   ·exact fdI ha T.bb.cl T.dP rfl ⟨_,cY.k (k:=.inr (E.N x)) C.hc (llen _),⟨⟨la,C.num O hc (O.b x n3) hb n1 (by rw[ez,z0]) (by show(if isG hs x=true then gn x else 0)=_;rw[ig];rfl)⟩,_,rfl⟩⟩
   exact fdI (s3 _ _ ha) T.bb.cl T.dP rfl ⟨_,cY.k (k:=.inr (E.N x)) (s3 _ _ C.hc) (llen _),⟨⟨_,C.lst O hc (O.b x n3) hb n1 (by rw[ez];omega) s3 u0 (by rw[hu3];show _=T9 (HO.lst ((if isG hs x=true then gl x else Uv (E.sz x)).map V.int));rw[ig,if_neg KJ,ez])⟩,_,rfl⟩⟩
 rintro σ H2 ⟨⟨la,C⟩,z,rfl⟩;rw[NV R.h,Lm]at C;refine K2 _ _ (ak λM3 K3=>fdI (C.s _ _ R.pr) T.dO.cl T.eO rfl (KG ⟨⟨_,SqL.of (C.s _ _ R.dd)⟩,cL (K:=K) (xs:=E.dv) (λi σ H3=>Uq E H H3 c la (S.new E hs gn gl) (hs.flatMap Hd.cell++(E.ds.take i).flatMap Dd.parts)/\∃z4 z5,σ=[T9 (.ref p.pa),T9 (.ref g),T9 (.ref c),z,z4,z5]) ⟨by rw[Ml,SX,Lv];exact C,Ua,Ua,rfl⟩ (λi σ H3 _ h=>SqL.of (h.1.s _ _ R.dd)) ?_ ?_⟩))
 ·rintro i u σ H3 hx ⟨C3,z4,z5,rfl⟩;obtain⟨D,hD,a,dx,n,pp,pb,rfl,ha,hp⟩:=bg R.d hx;refine fdI (C3.s _ _ ha) T.fX.cl T.eP rfl (KG ⟨⟨_,SqL.of (C3.s _ _ hp)⟩,cL (K:=K) (xs:=D.parts.map λi=>V.str (E.N i)) (λj σ H4=>Uq E H H4 c la (S.new E hs gn gl) (hs.flatMap Hd.cell++(E.ds.take i).flatMap Dd.parts++D.parts.take j)/\∃z5,σ=[T9 (.ref p.pa),T9 (.ref g),T9 (.ref c),z,T9 (.ref a),z5]) ⟨by rw[Ml,Lv];exact C3,_,rfl⟩ (λi σ H4 _ h=>SqL.of (h.1.s _ _ hp)) ?_ ?_⟩)
  ·rintro j u σ H4 hu' ⟨C4,z6,rfl⟩;rw[KO]at hu';cases hj:D.parts[j]? with
   |none=>rw[hj]at hu';cases hu'
   |some x=>
    rw[hj]at hu';cases hu';have eL:E.idx=(hs.flatMap Hd.cell++(E.ds.take i).flatMap Dd.parts++D.parts.take j)++(x::D.parts.drop (j+1))++(E.ds.drop (i+1)).flatMap Dd.parts:=by
     rw[Z.e,rf hD,<-qF hj,Le,Le,Le,<-Le (D.parts.take j),Me]
    obtain⟨n1,n2,n3⟩:=vL (x:=x) eL O.nd;obtain⟨x1,x2⟩:=O.pt D (KI hD) x (KI hj);have ng:isG hs x=false:=by
     cases e:isG hs x with
     |false=>rfl
     |true=>
      exfalso;unfold isG at e;rw[LM]at e;obtain⟨gg,hg,eg⟩:=e;refine n1 (Lj _ (Lj _ (LB.mpr ⟨gg,hg,?_⟩)));cases gg with
      |giv j y=>rw[of_decide_eq_true eg];simp[Hd.cell]
      |_=>cases eg
    have llen:(dk E.N (hs.flatMap Hd.cell++(E.ds.take i).flatMap Dd.parts++D.parts.take j) (cV E la (S.new E hs gn gl).num)).length<sizeLine:=ax (by
     rw[dS];have:=O.len;rw[eL,KC,KC]at this;omega)
    refine⟨_,cY.k (k:=.inr (E.N x)) C4.hc llen,?_⟩;rw[Uj hj,<-Le];exact⟨C4.num O hc (O.b x n3) (λj hj=>O.b j (n2 j hj)) n1 x2 (by show(if isG hs x=true then gn x else 0)=_;rw[ng];rfl),_,rfl⟩
  rintro σ H4 ⟨C4,z6,rfl⟩;rw[Kx,Lm]at C4;refine⟨?_,_,_,rfl⟩;rw[Uj hD,MX,<-Le,show List.flatMap Dd.parts [D]=D.parts by simp];exact C4
 rintro σ H3 ⟨C3,z4,z5,rfl⟩;refine K3 _ _ ?_;rw[NV R.d,Lm,<-Z.e]at C3;exact q c la H3 hc C3
end
section
variable{P:Program}{w:NW}{K:NO}{mg:Str->Option NK}{base:Oi}{A:Adr}{E:En}{N:Nat->Str}
structure EV(A:Adr)(H:Hp)(x dx l sd t e:NL):Prop where
 b:H x=T9 (.ins A.fh dx [("letters",.ref l),("said",.ref sd),("trace",.ref t),("steps",.int 0),("ends",.ref e)])
 hl:H l=T9 (.lst [])
 hs:H sd=T9 (.lst [])
 ht:H t=T9 (.lst [])
 tl:t≠l
 dt:sd≠t
 dl:sd≠l
 he:H e=T9 (.dK [])
inductive pq(A:Adr)(vs:List V)(H:Hp)(Q:VK)(Z:XK):Prop
 |mk(x:_)(dx:_):vs=[.ref x]->H x=T9 (.ins A.fh dx [])->(∀(l sd t e:NL)(H':Hp),H l=Ua->H sd=Ua->H t=Ua->H e=Ua->But x H H'->EV A H' x dx l sd t e->Q .non H')->pq A vs H Q Z
theorem xr(T:Txt K mg A):T.lW.Hz P w mg base 1 (pq A):=by
 refine T.lW.hs (k:=0) vm (λf cdv A' outer s H vs Q E hr hu h=>?_);obtain⟨x,dx,rfl,hx,q⟩:=h;refine⟨_,(ae (aW (fv 0) (bA af) rfl)
 (ae (aW (fv 0) (bA af) rfl)
 (ae (aW (fv 0) (bA af) rfl)
 (ae (aW (fv 0) ab rfl)
 (ah (aW (fv 0) (eM) rfl)))))),?_⟩
 have of:∀{b},b≠x->(if b=x then Ua else H b)=H b:=λh=>if_neg h;have a:IA K (λb=>if b=x then Ua else H b) x A.fh dx [] 0 [] H:=⟨λb o h=>by
  by_cases e:b=x
  ·rw[if_pos e]at h;cases h
  rwa [of e]at h,hx,trivial,if_pos rfl,T.fi.cl,KD _⟩
 refine⟨KW _,λl hl=>?_⟩;replace a:=a.nw hl (.lst []);refine a.fld T.dA λH a=>⟨KW _,λsd hs=>?_⟩;have dl:sd≠l:=Ub hs a.k.1.1;replace a:=a.nw hs (.lst []);refine a.fld T.mh λH a=>⟨KW _,λt ht=>?_⟩;have tl:t≠l:=Ub ht a.k.2.1.1;have ts:sd≠t:=(Ub ht a.k.1.1).symm;replace a:=a.nw ht (.lst []);refine a.fld T.kI λH a=>a.fld T.d9 λH a=>λe he=>?_;replace a:=a.nw he (.dK []);refine a.fld T.mj λH a=>?_;obtain⟨⟨k1,x1,e1⟩,⟨k2,x2,e2⟩,⟨k3,x3,e3⟩,⟨k4,x4,e4⟩,_⟩:=a.k;exact q l sd t e _ ((of x4).symm.trans e4) ((of x3).symm.trans e3) ((of x2).symm.trans e2) ((of x1).symm.trans e1) (λb hb o h=>a.s b o ((of hb).trans h)) ⟨a.i,k4,k3,k2,tl,ts,dl,k1⟩
theorem tI{H:Hp}{f:Nat->V}:∀{idx:List Nat}{ys:List V},Paired (λj y=>∃t,y=V.ref t/\H t=T9 (.tup [.str (N j),f j])) idx ys->∃ps:List NL,ys=ps.map V.ref/\ps.length=idx.length/\∀(i:Nat) t k v,ps[i]?=T9 t->(dk N idx f)[i]?=T9 (k,v)->SqT K H t [kV k,v]
 |_,_,.nil=>⟨[],rfl,rfl,λi t k v h=>by cases h⟩
 |j::idx,y::ys,.cons ⟨t,e,ht⟩ r=>by
  obtain⟨ps,h1,h2,h3⟩:=tI r;refine⟨t::ps,by rw[e,h1];rfl,by simp[h2],λi t' k v a b=>?_⟩;cases i with
  |zero=>
   have a':t=t':=NP a;have b':((LC (N j):Key),f j)=(k,v):=NP b;cases b';rw[<-a'];exact SqT.of ht
  |succ i=>exact h3 i t' k v a b
noncomputable def tY(A:Adr)(H:Hp):V->Bool
 | .ref a=>match H a with
  |some (.ins C _ _)=>decide (C=A.bP)
  |_=>false
 |_=>false
theorem eB{H:Hp}{a C dx:NL}{fs:List (Str×V)}(h:H a=T9 (.ins C dx fs)):tY A H (.ref a)=decide (C=A.bP):=by
 unfold tY;simp only[h]
theorem JE(O:E.Ok){i:Nat}{D:Dd}{v:V}(h1:E.ds[i]?=T9 D)(h2:E.dv[i]?=T9 v):dG E D.nm=v:=by
 obtain⟨q,e1,e2⟩:=sJ O.dd h1 h2;unfold dG;rw[e1];exact e2
inductive p8(A:Adr)(E:En)(vs:List V)(H:Hp)(Q:VK)(Z:XK):Prop
 |mk(s ds c:NL)(p:Pa)(hv xs:List V)(hs:List Hd)(la:Nat->NL)(k:S):vs=[.ref s,.ref p.pa,.ref c]->H s=T9 (.ins A.Run ds [])->xD A E H p hv hs xs->H c=T9 (.dK (dk E.N E.idx (cV E la k.num)))->(∀i∈E.ls,la i≠c/\H (la i)=T9 (.lst ((k.lst i).map V.int)))->(∀i∈E.ls,∀j∈E.ls,la i=la j->i=j)->k.ok E->k.steps=0->k.trace=[]->k.d8=[]->k.vC=[]->(∀(d b db sd e t l:NL)(H':Hp),But s H H'->H b=Ua->H t=Ua->H l=Ua->H sd=Ua->bf A E H' ⟨s,ds,d,c,b,db,sd,e,t,l,la⟩ k->Q .non H')->p8 A E vs H Q Z
theorem tE{la:Nat->NL}:∀{xs:List Nat},xs.Nodup->(∀i∈xs,∀j∈xs,la i=la j->i=j)->(xs.map la).Nodup
 | [],_,_=>Nv
 |x::r,nd,h=>by
  rw[KU]at nd;rw[KP,KU];refine⟨λm=>?_,tE nd.2 λi hi j hj=>h i (Kw _ hi) j (Kw _ hj)⟩;obtain⟨j,hj,e⟩:=KS.mp m;rw[<-h j (Kw _ hj) x Ku e]at nd;exact nd.1 hj
theorem yi(T:Txt K mg A)(O:E.Ok):T.oH.Hz P w mg base 3 (p8 A E):=by
 refine T.oH.hs (k:=2) qe (λf cdv A' outer s' H vs Q E' hr hu h=>?_);obtain⟨s,ds,c,p,hv,xs,hs0,la,k,rfl,hs,R,G,hL,hI,ok,k1,k2,k3,k4,q⟩:=h;refine⟨_,(ae (aW (fv 0) (eM) rfl)
 (ae (df Oa rfl (cA (aE (fv 1) rfl)) (pgn (i:=3) qe.nd rfl)
  (ah (bo (fv 3) (bz (aE (fv 0) rfl) (aE (fv 3) rfl) (bu hu Uc)))))
 (ae (aW (fv 0) (fv 2) rfl)
 (ah (aW (fv 0) (AZ T.fi (xr T) hr) rfl))))),?_⟩
 refine λd hd=>?_;have sm1:=aq.upd hd (HO.dK []);have ds0:d≠s:=λz=>by rw[z,hs]at hd;cases hd
 refine⟨s,_,ds,_,rfl,sm1 _ _ hs,T.bR.cl,T.jn,by simp,?_⟩;have b2:But s H (upd (upd H d (HO.dK [])) s (.ins A.Run ds (dX "deeds" (.ref d) []))):=(But.of sm1).trans (But.at s _ _);have x2:(upd (upd H d (HO.dK [])) s (.ins A.Run ds (dX "deeds" (.ref d) []))) s=T9 (.ins A.Run ds [("deeds",.ref d)]):=aj;have d2:(upd (upd H d (HO.dK [])) s (.ins A.Run ds (dX "deeds" (.ref d) []))) d=T9 (.dK []):=by rw[ay ds0];exact aj
 generalize upd (upd H d (HO.dK [])) s (.ins A.Run ds (dX "deeds" (.ref d) []))=H2 at b2 x2 d2⊢;have ps:p.pa≠s:=λz=>by have:=R.pr;rw[z,hs]at this;exact absurd (HO.ins.inj (NP this)).1 (au T 16 14)
 have dds:p.dd≠s:=λz=>by have:=R.dd;rw[z,hs]at this;cases this
 refine fdI (b2 _ ps _ R.pr) T.dO.cl T.eO rfl (KG ⟨⟨_,SqL.of (b2 _ dds _ R.dd)⟩,cL (K:=K) (xs:=E.dv) (λi σ H3=>But s H H3/\H3 s=T9 (.ins A.Run ds [("deeds",.ref d)])/\H3 d=T9 (.dK (dk E.N ((E.ds.take i).map Dd.nm) (dG E)))/\∃v,σ=[T9 (.ref s),T9 (.ref p.pa),T9 (.ref c),v]) ⟨b2,x2,d2,_,rfl⟩ (λi σ H3 _ h=>SqL.of (h.1 _ dds _ R.dd)) ?_ ?_⟩)
 ·rintro i u σ H3 hx ⟨b3,x3,d3,z,rfl⟩;obtain⟨D,hD,a,dx,n,pp,pb,rfl,ha,_⟩:=bg R.d hx;have as:a≠s:=λz=>by rw[z,hs]at ha;exact absurd (HO.ins.inj (NP ha)).1 (au T 16 13)
  have il:i<E.ds.length:=(KA.mp hD).1;have dl:=O.dl;refine fdI x3 T.bR.cl T.jn rfl (fdI (b3 _ as _ ha) T.fX.cl T.i5 rfl ⟨_,cY.k (k:=.inr (E.N D.nm)) d3 (ax (by rw[dS,Kx,LA];omega)),⟨λb hb o hq=>by rw[ay (eR hq hd)];exact b3 b hb o hq,by rw[ay (LF ds0)];exact x3,?_,_,rfl⟩⟩);have nm:∀j∈(E.ds.take i).map Dd.nm,j<25:=λj hj=>by
   obtain⟨d',hd',rfl⟩:=KS.mp hj;exact O.dn d' (Rp hd')
  have nn:D.nm∉(E.ds.take i).map Dd.nm:=λhj=>by
   have:=O.dd;rw[show E.ds=E.ds.take i++D::E.ds.drop (i+1) by rw[<-qF hD,Me],KZ,KP]at this;exact(Ls.mp this).2.2 _ hj _ Ku rfl
  rw[aj,i8 O.D (O.dn D (KI hD)) nm nn,Uj hD,KZ];refine congrArg T9 (congrArg HO.dK (ir λj _=>?_));by_cases e:j=D.nm
  ·rw[e,fe,JE O hD hx]
  rw[jg _ _ e]
 rintro σ H3 ⟨b3,x3,d3,z,rfl⟩;rw[show E.dv.length=E.ds.length from O.dv,Lm]at d3;refine⟨s,_,ds,_,rfl,x3,T.bR.cl,T.c9,by simp,?_⟩;have b4:But s H (upd H3 s (.ins A.Run ds (dX "cells" (.ref c) [("deeds",.ref d)]))):=b3.trans (But.at s _ _);have x4:(upd H3 s (.ins A.Run ds (dX "cells" (.ref c) [("deeds",.ref d)]))) s=T9 (.ins A.Run ds [("deeds",.ref d),("cells",.ref c)]):=aj;have d4:(upd H3 s (.ins A.Run ds (dX "cells" (.ref c) [("deeds",.ref d)]))) d=T9 (.dK (dk E.N (E.ds.map Dd.nm) (dG E))):=by rw[ay ds0];exact d3
 generalize upd H3 s (.ins A.Run ds (dX "cells" (.ref c) [("deeds",.ref d)]))=H4 at b4 x4 d4⊢;refine λb db hb hdb hne=>⟨b,db,rfl,aj,λl sd t e H5 nl ns nt _ bt nb=>⟨rfl,?_⟩⟩;have sm5:aq H4 H5:=But.same bt hb hdb;have l4:=iY hb hdb nl;have t4:=iY hb hdb nt;have sd4:=iY hb hdb ns;have ne4:∀{x y:NL}{o:HO},H4 x=Ua->H4 y=T9 o->x≠y:=λh1 h2 z=>by rw[z,h2]at h1;cases h1
 have cs:c≠s:=λz=>by rw[z,hs]at G;cases G
 have c4:=b4 _ cs _ G;have las:∀i∈E.ls,la i≠s:=λi hi z=>by have:=(hL i hi).2;rw[z,hs]at this;cases this
 have la4:∀i∈E.ls,H4 (la i)=T9 (.lst ((k.lst i).map V.int)):=λi hi=>b4 _ (las i hi) _ (hL i hi).2;have bs:=ne4 hb x4;have ls:=ne4 l4 x4;have ts:=ne4 t4 x4;have ss:=ne4 sd4 x4;have cd:d≠c:=λz=>by rw[z,G]at hd;cases hd
 refine⟨s,_,ds,_,rfl,sm5 _ _ x4,T.bR.cl,T.iO,by simp,?_⟩;have up:∀{x:NL}{o:HO},x≠s->H5 x=T9 o->(upd H5 s (.ins A.Run ds (dX "book" (.ref b) [("deeds",.ref d),("cells",.ref c)]))) x=T9 o:=λh1 h2=>ag h1 h2;have bt':b≠t:=λz=>by have:=nb.b;rw[z,nb.ht]at this;cases this
 have bl':b≠l:=λz=>by have:=nb.b;rw[z,nb.hl]at this;cases this
 have bd':b≠sd:=λz=>by have:=nb.b;rw[z,nb.hs]at this;cases this
 have db':d≠b:=(ne4 hb d4).symm;have dt':d≠t:=(ne4 t4 d4).symm;have dl':d≠l:=(ne4 l4 d4).symm;have dd':d≠sd:=(ne4 sd4 d4).symm;have sM:s∉Ra.M ⟨s,ds,d,c,b,db,sd,e,t,l,la⟩ E:=λm=>by
  unfold Ra.M at m;rcases Kz.mp m with m|m
  ·simp only[Kt,KH,or_false]at m;rcases m with z|z|z|z|z
   ·exact bs z.symm
   ·exact cs z.symm
   ·exact ts z.symm
   ·exact ls z.symm
   exact ss z.symm
  obtain⟨i,hi,z⟩:=KS.mp m;exact las i hi z
 have dM:d∉Ra.M ⟨s,ds,d,c,b,db,sd,e,t,l,la⟩ E:=λm=>by
  unfold Ra.M at m;rcases Kz.mp m with m|m
  ·simp only[Kt,KH,or_false]at m;rcases m with z|z|z|z|z
   ·exact db' z
   ·exact cd z
   ·exact dt' z
   ·exact dl' z
   exact dd' z
  obtain⟨i,hi,z⟩:=KS.mp m;have:=la4 i hi;rw[show la i=d from z,d4]at this;cases this
 have lsn:E.ls.Nodup:=O.nd.sublist List.filter_sublist;have nod:(Ra.M ⟨s,ds,d,c,b,db,sd,e,t,l,la⟩ E).Nodup:=by
  unfold Ra.M;refine Ls.mpr ⟨?_,tE lsn hI,λx hx y hy z=>?_⟩
  ·simp[ne4 hb c4,bt',bl',bd',(ne4 t4 c4).symm,(ne4 l4 c4).symm,(ne4 sd4 c4).symm,nb.tl,LF nb.dt,LF nb.dl]
  obtain⟨i,hi,rfl⟩:=KS.mp hy;have l1:=la4 i hi;simp only[Kt,KH,or_false]at hx;rcases hx with w|w|w|w|w
  ·exact ne4 hb l1 (w.symm.trans z)
  ·exact(hL i hi).1 (z.symm.trans w)
  ·exact ne4 t4 l1 (w.symm.trans z)
  ·exact ne4 l4 l1 (w.symm.trans z)
  exact ne4 sd4 l1 (w.symm.trans z)
 refine q d b db sd e t l _ ((b4.trans (But.of sm5)).trans (But.at s _ _)) (b4.none bs hb) (b4.none ts t4) (b4.none ls l4) (b4.none ss sd4) ⟨nod,aK sM aj,aK dM (up ds0 (sm5 _ _ d4)),?_,up cs (sm5 _ _ c4),⟨[],up ts nb.ht,by rw[k2];exact .nil⟩,⟨[],up ls nb.hl,by rw[k3];exact .nil⟩,⟨[],up ss nb.hs,by rw[k4];exact .nil⟩,λi hi=>up (las i hi) (sm5 _ _ (la4 i hi)),ok⟩;show _=T9 (HO.ins A.fh db [("letters",.ref l),("said",.ref sd),("trace",.ref t),("steps",.int k.steps),("ends",.ref e)]);rw[k1];exact up bs nb.b
noncomputable def Hd.own?:Hd->List Nat
 | .own i _=>[i]
 |_=>[]
theorem oS(T:Txt K mg A){H H2:Hp}{f:Nat->V}{S0:List Hd}:∀{hv:List V}{hs:List Hd}{ys:List V},(∀h∈hs,h∈S0)->Paired (vE A N H) hv hs->Paired (λx y=>∀i z,Hd.own i z∈S0->vE A N H x (.own i z)->∃t,y=V.ref t/\H2 t=T9 (.tup [.str (N i),f i])) (hv.filter (tY A H)) ys->Paired (λj y=>∃t,y=V.ref t/\H2 t=T9 (.tup [.str (N j),f j])) (hs.flatMap Hd.own?) ys
 |_,_,_,_,.nil,h=>by
  cases h;exact .nil
 |v::hv,h::hs,ys,sb,.cons p r,q=>by
  have sb':∀h∈hs,h∈S0:=λh m=>sb h (Kw _ m);rw[Lf];have no:∀{C:NL}{a dx:NL}{fs:List (Str×V)},v=.ref a->H a=T9 (.ins C dx fs)->C≠A.bP->tY A H v=false:=λe h n=>by rw[e,eB h,decide_eq_false n]
  cases h with
  |hand x=>
   obtain⟨a,dx,n,rk,e,ha⟩:=p;rw[LU,no e ha (show A.ck≠A.bP from au T 1 3)]at q;exact oS T sb' r q
  |giv x z=>
   obtain⟨a,dx,n,rk,e,ha⟩:=p;rw[LU,no e ha (show A.bj≠A.bP from au T 2 3)]at q;exact oS T sb' r q
  |lt x=>
   obtain⟨a,dx,n,rk,e,ha⟩:=p;rw[LU,no e ha (show A.cN≠A.bP from au T 4 3)]at q;exact oS T sb' r q
  |own x z=>
   have p0:=p;obtain⟨a,dx,n,e,ha⟩:=p;rw[LU,show tY A H v=true by rw[e,eB ha,decide_eq_true rfl],if_pos rfl]at q;cases q with
   |cons h1 h2=>exact .cons (h1 x z (sb _ Ku) p0) (oS T sb' r h2)
end
section
variable{P:Program}{w:NW}{K:NO}{mg:Str->Option NK}{base:Oi}{A:Adr}{E:En}
noncomputable def Uk(hs:List Hd):List Nat:=hs.flatMap Hd.own?
inductive zW(A:Adr)(E:En)(vs:List V)(H:Hp)(Q:VK)(Z:XK):Prop
 |mk(p:Pa)(c:NL)(hv xs:List V)(hs:List Hd)(f:Nat->V):vs=[.ref p.pa,.ref c]->xD A E H p hv hs xs->Hds E hs->H c=T9 (.dK (dk E.N E.idx f))->(∀e H',aq H H'->H e=Ua->H' e=T9 (.dK (dk E.N (Uk hs) f))->Q (.ref e) H')->zW A E vs H Q Z
theorem qX{hs:List Hd}(Z:Hds E hs):∀i∈Uk hs,i∈E.idx:=λi hi=>by
 obtain⟨h,hm,m⟩:=LB.mp hi;rw[Z.e];refine Lj _ (LB.mpr ⟨h,hm,?_⟩);cases h with
 |own j z=>exact m
 |_=>cases m
theorem vv:∀hs:List Hd,(Uk hs).Sublist (hs.flatMap Hd.cell)
 | []=>PM _
 |x::r=>by
  unfold Uk;rw[Lf,Lf];refine List.Sublist.append ?_ (vv r);cases x with
  |own j z=>exact PM _
  |giv j z=>exact List.nil_sublist _
  |hand j=>exact PM _
  |lt j=>exact PM _
theorem wA{N:Nat->Str}(D:eX N){f:Nat->V}:∀(r pre:List Nat),(∀j∈pre++r,j<25)->(pre++r).Nodup->cm (dk N pre f) (dk N r f)=dk N (pre++r) f
 | [],pre,_,_=>by rw[Lv];rfl
 |i::r,pre,hb,nd=>by
  have e:pre++i::r=(pre++[i])++r:=by rw[Le];rfl
  have m:i∉pre:=λz=>(Ls.mp nd).2.2 i z i Ku rfl;have hi:i<25:=hb i (by simp);show cm (Ue (dk N pre f) (.inr (N i)) (f i)) (dk N r f)=_;rw[i8 D hi (λj hj=>hb j (Lj _ hj)) m];have c:dk N (pre++[i]) (nz f i (f i))=dk N (pre++[i]) f:=ir λj _=>by
   by_cases z:j=i
   ·rw[z,fe]
   rw[jg _ _ z]
  rw[c,e];exact wA D r (pre++[i]) (by rw[<-e];exact hb) (by rw[<-e];exact nd)
theorem GK(T:Txt K mg A)(O:E.Ok):T.vj.Hz P w base 1 (zW A E):=by
 refine T.vj.hs yr (λf' cdv A' outer s' H vs Q E' hr hu h=>?_);obtain⟨p,c,hv,xs,hs,f,rfl,R,Z,hc,q⟩:=h;have hl:=R.l;refine⟨_,(ah (aB (pcT DL T.u7 ((jo (N:=["head","cells"]) (own:=1) (fr:=[1]) (cJ.of (by kernel_rfl!)) rfl (cA (aE (fv 0) rfl)) (λb=>pgn (i:=0) (show OS (["head","cells"]:List OY) by decide+kernel) rfl) (λb=>ox (bN (pcB bw T.aG (fv 0^dh T.bb.mg^af)) (λ_=>rfl))) (λb=>bp (aE (fv 0) rfl^px hu (fv 1) (aE (fv 0) rfl)^af)))^af)))),fdI R.pr T.dO.cl T.cX rfl (KG ⟨⟨_,SqL.of R.hd⟩,yu (K:=K) (tY A H) (λx y H2=>∀i z,Hd.own i z∈hs->vE A E.N H x (.own i z)->∃t,y=V.ref t/\H2 t=T9 (.tup [.str (E.N i),f i])) (SqL.of R.hd) (ax ()) (λb v H2 G hv' s2 k=>?_) (λb v H2 G hv' hp s2 k=>?_) ?_ ?_ (λD H2 ys hD s2 e pr=>?_)⟩)⟩
 ·obtain⟨n,hn⟩:=La hv';obtain⟨h,hh,W⟩:=bg R.h hn;cases h with
  |hand x=>
   obtain⟨a,dx,n,rk,rfl,ha⟩:=W;rw[eB ha,decide_eq_false (show A.ck≠A.bP from au T 1 3)]at k;exact isB (T.bG.bM (s2 _ _ ha)) (bV T.bG T.bb (au T 3 1) (au T 3 0)) (k _ (aq.refl _))
  |giv x z=>
   obtain⟨a,dx,n,rk,rfl,ha⟩:=W;rw[eB ha,decide_eq_false (show A.bj≠A.bP from au T 2 3)]at k;exact isB (T.aJ.bM (s2 _ _ ha)) (bV T.aJ T.bb (au T 3 2) (au T 3 0)) (k _ (aq.refl _))
  |lt x=>
   obtain⟨a,dx,n,rk,rfl,ha⟩:=W;rw[eB ha,decide_eq_false (show A.cN≠A.bP from au T 4 3)]at k;exact isB (T.bW.bM (s2 _ _ ha)) (bV T.bW T.bb (au T 3 4) (au T 3 0)) (k _ (aq.refl _))
  |own x z=>
   obtain⟨a,dx,n,rfl,ha⟩:=W;rw[eB ha,decide_eq_true rfl]at k;exact isB (T.bb.bM (s2 _ _ ha)) (nA T.bb) (k _ (aq.refl _))
 ·obtain⟨n,hn⟩:=La hv';obtain⟨h,hh,W⟩:=bg R.h hn;cases h with
  |hand x=>
   obtain⟨a,dx,n,rk,rfl,ha⟩:=W;rw[eB ha,decide_eq_false (show A.ck≠A.bP from au T 1 3)]at hp;cases hp
  |giv x z=>
   obtain⟨a,dx,n,rk,rfl,ha⟩:=W;rw[eB ha,decide_eq_false (show A.bj≠A.bP from au T 2 3)]at hp;cases hp
  |lt x=>
   obtain⟨a,dx,n,rk,rfl,ha⟩:=W;rw[eB ha,decide_eq_false (show A.cN≠A.bP from au T 4 3)]at hp;cases hp
  |own x z=>
   obtain⟨a,dx,n,rfl,ha⟩:=W;have xm:x∈E.idx:=qX Z x (LB.mpr ⟨_,KI hh,by simp[Hd.own?]⟩);have gd:cP H2 c (.str (E.N x)) (T9 (f x)):=by
    have:=cP.k (k:=.inr (E.N x)) (s2 _ _ hc);rw[oF O.D O.b xm]at this;exact this
   refine fdI (s2 _ _ ha) T.bb.cl T.dP rfl (fdI (s2 _ _ ha) T.bb.cl T.dP rfl ⟨_,gd,(show 2<=sizeLine by decide),λt ht=>k _ _ (aq.upd ht _) λi z' im W'=>⟨t,rfl,?_⟩⟩);obtain⟨a',dx',n',e',ha'⟩:=W';cases e';have im':i∈E.idx:=qX Z i (LB.mpr ⟨_,im,by simp[Hd.own?]⟩);have ex:E.N x=E.N i:=by
    have h1:=ha.symm.trans ha';simp at h1;exact h1.2.2.1
   rw[aj,O.D x i (O.b x xm) (O.b i im') ex]
 ·rintro x y' H2 H3 s h i z im W';obtain⟨t,e4,e5⟩:=h i z im W';exact⟨t,e4,s _ _ e5⟩
 ·rintro x y' H2 D ys zs hD h i z im W';obtain⟨t,e4,e5⟩:=h i z im W';exact⟨t,e4,by rw[ay (λz=>by rw[z,hD]at e5;cases e5)];exact e5⟩
 have pk:=oS T (λ_ h=>h) R.h pr;obtain⟨ps,e1,e2,e3⟩:=tI (K:=K) pk;have nd:=O.nd;rw[Z.e]at nd;have em:cm [] (dk E.N (Uk hs) f)=dk E.N (Uk hs) f:=wA O.D (Uk hs) [] (λj hj=>O.b j (qX Z j hj)) ((Ls.mp nd).1.sublist (vv hs));have ll:(Uk hs).length<=1000:=by
  have l1:=(vv hs).length_le;have l2:=O.len;rw[Z.e,KC]at l2;omega
 refine⟨D,ps,dk E.N (Uk hs) f,rfl,by rw[<-e1];exact SqL.of e,by rw[e2,dS];rfl,by rw[dS];exact ll,e3,λp4 hp4=>q p4 _ (s2.trans (aq.upd hp4 _)) (aq.free s2 hp4) (by rw[aj,em])⟩
structure GA(A:Adr)(E:En)(hs:List Hd)(H:Hp)(b db l sd t e:NL)(la:Nat->NL)(k:S):Prop where
 hb:H b=T9 (.ins A.fh db [("letters",.ref l),("said",.ref sd),("trace",.ref t),("steps",.int k.steps),("ends",.ref e)])
 he:H e=T9 (.dK (dk E.N (Uk hs) (cV E la k.num)))
 ht:∃xs,H t=T9 (.lst xs)/\kD H xs k.trace
 hl:∃xs,H l=T9 (.lst xs)/\kD H xs k.d8
 hd:∃xs,H sd=T9 (.lst xs)/\kD H xs k.vC
 ha:∀i∈E.ls,H (la i)=T9 (.lst ((k.lst i).map V.int))
inductive yA(A:Adr)(E:En)(f:Nat)(vs:List V)(H:Hp)(Q:VK)(Z:XK):Prop
 |mk(p:Pa)(g:NL)(hv xs:List V)(hs:List Hd)(gn:Nat->Int)(gl:Nat->List Int)(rows:List Rw):vs=[.ref p.pa,.ref g]->xD A E H p hv hs xs->Hds E hs->oI E hs H g gn gl->Paired (dW A E H f) xs rows->(∀rw∈rows,Wf E f rw)->(rows.map (aM E f)).sum<=BIG->(∀(b db l sd t e:NL)(la:Nat->NL)(H':Hp),aq H H'->GA A E hs H' b db l sd t e la (bQ (doR E f) (S.new E hs gn gl) rows).1->(bQ (doR E f) (S.new E hs gn gl) rows).1.ok E->Q (.ref b) H')->yA A E f vs H Q Z
theorem FJ{hs:List Hd}{H:Hp}{g:NL}{gn:Nat->Int}{gl:Nat->List Int}(Z:Hds E hs)(G:oI E hs H g gn gl):(S.new E hs gn gl).ok E:=by
 refine⟨λa=>?_,λx n hn=>?_,λx hx hz=>?_⟩
 ·show In (if isG hs a then gn a else 0);split
  ·exact G.n a
  exact⟨∅,∅⟩
 ·have hn:n∈(if isG hs x then gl x else Uv (E.sz x)):=hn;split at hn
  ·exact G.l x n hn
  rw[QC hn];exact⟨∅,∅⟩
 show(if isG hs x then gl x else Uv (E.sz x)).length=E.sz x;split
 ·rename_i c;unfold isG at c;rw[LM]at c;obtain⟨h,hm,e⟩:=c;cases h with
  |giv j z=>
   have ej:j=x:=of_decide_eq_true e;subst ej;obtain⟨kvs,k1,k2⟩:=G.d;have ez:=Z.g j z hm;obtain⟨l,_,_,e3⟩:=(k2 j z hm).2 ();rw[e3,ez]
  |_=>cases e
 exact LW
theorem Jy(T:Txt K mg A)(O:E.Ok)(f:Nat):T.run.Hz P w base (3*f+9) (yA A E f):=by
 refine T.run.hs (k:=3*f+8) yC (λf' cdv A' outer s' H vs Q E' hr hu h=>?_);obtain⟨p,g,hv,xs,hs,gn,gl,rows,rfl,R,Z,G,pr,wf,rm,q⟩:=h;have M9:jI P w K mg base (3*(f+1)+5) A.Run "do_rows" ["self","rows"] (nq A E f):=mW (P:=P) (w:=w) (base:=base) T O (f+1);refine⟨_,(ae (pst 2 yC.nd (cK (hj:=by omega) T.bR (yi T O) hr (fv 0^(ar (hj:=by omega) (Et T O) hr (fv 0^fv 1^af))^af)))
 (ae (aI (bh (hj:=by omega) (fv 2) T.bR.cl M9 hr (aE (fv 0) rfl^af)))
 (ae (pst 3 yC.nd (aE (fv 2) rfl))
 (ae (aW (fv 3) (ar (hj:=by omega) (GK T O) hr (fv 0^aE (fv 2) rfl^af)) rfl)
 (ah (aB (fv 3))))))),?_⟩
 refine⟨p,g,hv,xs,hs,gn,gl,rfl,R,Z,G,λc la H1 c0 C=>?_⟩;have s1:=C.s;refine λs ds' hs' hds hne=>?_;have sm:aq H1 (upd (upd H1 ds' (.own s)) s (.ins A.Run ds' [])):=But.same (But.refl _ _) hs' hds;have ok0:=FJ Z G;have lsi:∀i∈E.ls,i∈E.idx/\0<E.sz i:=λi hi=>by
  obtain⟨h1,h2⟩:=LJ.mp hi;exact⟨h1,of_decide_eq_true h2⟩
 refine⟨s,ds',c,p,hv,xs,hs,la,S.new E hs gn gl,rfl,aj,(R.same s1).same sm,sm _ _ C.hc,λi hi=>?_,λi hi j hj e=>C.i i (lsi i hi).1 j (lsi j hj).1 (lsi i hi).2 (lsi j hj).2 e,ok0,rfl,rfl,rfl,rfl,λd b db sd e t lt H2 b2 nb nt nl nd R2=>⟨rfl,?_⟩⟩
 ·obtain⟨_,h2,h3⟩:=C.l i (lsi i hi).1 (lsi i hi).2;exact⟨h2,sm _ _ h3⟩
 have s12:aq H1 H2:=But.same b2 hs' hds;have s2:aq H H2:=s1.trans s12;have b0:=aq.free s1 (iY hs' hds nb);have t0:=aq.free s1 (iY hs' hds nt);have l0:=aq.free s1 (iY hs' hds nl);have d0:=aq.free s1 (iY hs' hds nd);have fM:∀x∈Ra.M ⟨s,ds',d,c,b,db,sd,e,t,lt,la⟩ E,H x=Ua:=λx m=>by
  unfold Ra.M at m;rcases Kz.mp m with m|m
  ·simp only[Kt,KH,or_false]at m;rcases m with rfl|rfl|rfl|rfl|rfl
   ·exact b0
   ·exact c0
   ·exact t0
   ·exact l0
   exact d0
  obtain⟨i,hi,rfl⟩:=KS.mp m;exact(C.l i (lsi i hi).1 (lsi i hi).2).1
 have sX:aq H (del (Ra.M ⟨s,ds',d,c,b,db,sd,e,t,lt,la⟩ E) H2):=λa o h=>aK (λm=>by rw[fM a m]at h;cases h) (s2 a o h);refine⟨s,ds',_,rfl,R2.s,rfl,fdI (s2 _ _ R.pr) T.dO.cl T.ic rfl ⟨⟨s,ds',d,c,b,db,sd,e,t,lt,la⟩,S.new E hs gn gl,p.mn,xs,rows,rfl,R2,sX _ _ R.mn,Paired.cS pr (λ_ _=>dW.same sX),wf,⟨by show 0+_<=_;omega,by show(0:Int)<=0;decide,by show(0:Int)<=0;decide,by show(0:Int)<=0;decide⟩,λH3 g3 R3=>?_⟩⟩;have s3:=g3.keep s2 fM;generalize (bQ (doR E f) (S.new E hs gn gl) rows).1=k at R3 q;refine fdI R3.s T.bR.cl T.iO rfl (fdI R3.s T.bR.cl T.c9 rfl ⟨p,c,hv,xs,hs,_,rfl,R.same s3,Z,R3.hc,λe' H4 s4 e0 he4=>?_⟩);have R4:=R3.same s4;have hb4:=R4.hb;obtain⟨ts,ht,tt⟩:=R4.ht;obtain⟨ls,hl,tl⟩:=R4.hl;obtain⟨ss,hd,td⟩:=R4.hd;have ne:=R4.ne;refine⟨b,_,db,_,rfl,hb4,T.fi.cl,T.mj,by simp[sD],?_⟩;have g5:=Go.at (H:=H4) (Ra.inM ⟨s,ds',d,c,b,db,sd,e,t,lt,la⟩ E).1 (.ins A.fh db (dX "ends" (.ref e') (sD ⟨s,ds',d,c,b,db,sd,e,t,lt,la⟩ k)));have st:aq (del (Ra.M ⟨s,ds',d,c,b,db,sd,e,t,lt,la⟩ E) H4) (upd H4 b (.ins A.fh db (dX "ends" (.ref e') (sD ⟨s,ds',d,c,b,db,sd,e,t,lt,la⟩ k)))):=λa o h=>aA _ _ (g5.same a o h);have eb:e'≠b:=λz=>by rw[z,hb4]at he4;cases he4
 refine q b db lt sd t e' la _ (aq.out (s3.trans s4) b0 _) ⟨aj,ag eb he4,⟨ts,ag ne.bt.symm ht,tt.same st⟩,⟨ls,ag ne.bl.symm hl,tl.same st⟩,⟨ss,ag ne.bd.symm hd,td.same st⟩,λi hi=>ag (ne.a i hi).1 (R4.ha i hi)⟩ R3.ok
end
section
variable{E:En}{s:S}
end
section
variable{P:Program}{w:NW}{K:NO}{mg:Str->Option NK}{base:Oi}{A:Adr}{E:En}{F:Nat}
theorem Has.ex{ι:Type}{k:Nat}{x:Str}{ps:List Str}{sp:ι->Sp}{p:ι->Prop}(i0:ι)(h0:p i0)(h:∀i,p i->Has P w K mg base k x ps (sp i)):Has P w K mg base k x ps (λvs H Q E=>∃i,p i/\sp i vs H Q E):=by
 obtain⟨f,fd,F,b,kp,m,oc,od,osl,lk⟩:=h i0 h0;have same:∀i,p i->k7 P w K mg base CX0 k f fd ps (sp i):=λi hi=>by
  obtain⟨f',fd',F',b',kp',m',oc',od',osl',lk'⟩:=h i hi;have e:f'=f:=by rw[m]at m';cases m';rfl
  subst e;rw[lk]at lk';cases lk';exact F'
 exact⟨f,fd,⟨λvs H Q E ⟨i,hi,q⟩=>(same i hi).len vs H Q E q,λA outer s H args us vs Q E hr he hb hv ⟨i,hi,q⟩=>(same i hi).run A outer s H args us vs Q E hr he hb hv q⟩,b,kp,m,oc,od,osl,lk⟩
end
section
variable{A:Adr}{E:En}{X:Hp}{F:Nat}{ns tg:List Nat}{dd:List Dl}
noncomputable def rwL(n:Int):Lr->Rw
 | .set x v=>.set n x v| .put x p v=>.put n x p v| .snd h v=>.snd n h v| .say x v m=>.say n x v m
 | .call i ts=>.call n ((i-13)/3) ts
 |_=>.last n
mutual
noncomputable def rwP:Pt->Rw
 | .leaf n r=>rwL n r
 | .iff n v l r f o=>.iff n v (oA f) (oA o) l r
 | .loop n t m l r b=>.loop n t m (oA b) l r
 | .fT n _ _ _=>.last n
noncomputable def oA:List Pt->List Rw
 | []=>[]
 |t::ts=>rwP t::oA ts
end
structure Env(E:En)(ns tg:List Nat):Prop where
 n:∀a∈ns,a∈E.idx/\E.sz a=0
 t:∀a∈tg,a∈E.idx/\E.sz a=0
 l:∀a∈[6,10],a∈E.idx/\0<E.sz a
theorem Env.th(J:Env E ns tg){t:Th}(h:t.ok ns):t.okE E:=by
 cases t with
 |i n=>exact h
 |x a=>exact J.n a h
theorem Env.val(J:Env E ns tg){v:Val}(h:v.ok ns):v.okE E:=by
 cases v with
 |one a=>exact J.th h
 |op a w b=>exact⟨J.th h.1,J.th h.2.1,h.2.2⟩
 |atl x b=>exact⟨(J.l x h.1).1,(J.l x h.1).2,J.th h.2⟩
noncomputable def Cal(A:Adr)(E:En)(X:Hp)(F:Nat)(dd:List Dl):Prop:=∀d∈dd,∃(j:Nat)(D:Dd)(da dy:NL)(dn:V)(pp pb:NL)(xs:List V),d.nm=13+3*j/\E.ds[j]?=T9 D/\D.nm=d.nm/\D.parts=d.ps/\d.ps.length<=4/\E.dv[j]?=T9 (.ref da)/\X da=T9 (.ins A.bZ dy [("number",dn),("name",.str (E.N D.nm)),("parts",.ref pp),("body",.ref pb)])/\X pp=T9 (.lst (D.parts.map λj=>V.str (E.N j)))/\X pb=T9 (.lst xs)/\
 ∀G,F<=G->Paired (dW A E X G) xs D.body/\(∀r∈D.body,Wf E G r)/\(D.body.map (aM E G)).sum<=d.sp
theorem rw_leaf(J:Env E ns tg)(C:Cal A E X F dd){r:Lr}(ok:r.ok ns tg dd){v:V}{n:Int}(h:yY A E.N X v n r){G:Nat}(hG:F+1<=G):dW A E X G v (rwL n r)/\Wf E G (rwL n r)/\aM E G (rwL n r)<=tj dd r:=by
 obtain⟨G,rfl⟩:∃g,G=g+1:=⟨G-1,()⟩;cases r with
 |set x val=>exact⟨h,⟨(J.t x ok.1).1,(J.t x ok.1).2,J.val ok.2⟩,Lc _⟩
 |put x pl val=>
  obtain⟨rfl,o2,o3⟩:=ok;exact⟨h,⟨(J.l 10 (by simp)).1,(J.l 10 (by simp)).2,J.th o2,J.val o3⟩,Lc _⟩
 |snd h' val=>exact⟨h,⟨J.val ok.2,by have:=ok.1;simp at this;omega⟩,Lc _⟩
 |say x val m=>exact⟨h,⟨(J.t x ok.1).1,(J.t x ok.1).2,J.val ok.2.1⟩,Lc _⟩
 |last=>exact⟨h,trivial,Lc _⟩
 |call i ts=>
  obtain⟨d,md,e,el,ot⟩:=ok;obtain⟨a,dx,p,ev,h1,h2⟩:=h;have hf:∃d',dd.find? (λd=>decide (d.nm=i))=T9 d':=by
   cases c:dd.find? (λd=>decide (d.nm=i))with
   |some d'=>exact⟨d',rfl⟩
   |none=>
    rw[Ng]at c;exact absurd (decide_eq_true e) (c d md)
  obtain⟨d',hf⟩:=hf;have e':d'.nm=i:=of_decide_eq_true (Ti (p:=λd:Dl=>decide (d.nm=i)) hf);obtain⟨j,D,_,_,_,_,_,_,a1,a2,_,a4,_⟩:=C d md;obtain⟨j',D',da,dy,dn,pp,pb,xs,b1,b2,b3,b4,b5,b6,b7,b8,b9,b10⟩:=C d' (MD hf);have ej:j'=j:=()
  subst ej;rw[a2]at b2;cases b2;have ei:(i-13)/3=j':=()
  obtain⟨c1,c2,c3⟩:=b10 G ();have pl:D.parts.length=ts.length:=by rw[a4,el]
  refine⟨?_,?_,?_⟩
  ·show dW A E X (G+1) v (.call n ((i-13)/3) ts);rw[ei];refine⟨a,dx,p,D,ev,a2,?_,h2,da,dy,dn,pp,pb,xs,b6,b7,b8,b9,c1⟩;rw[b3,e'];exact h1
  ·show Wf E (G+1) (.call n ((i-13)/3) ts);rw[ei];exact⟨λt ht=>J.th (ot t ht),by rw[<-pl,b4];exact b5,D,a2,pl,c2⟩
  show aM E (G+1) (.call n ((i-13)/3) ts)<=tj dd (.call i ts);have ec:tj dd (.call i ts)=1+d'.sp:=by
   show(match dd.find? (λd=>decide (d.nm=i))with|some d=>1+d.sp|none=>1)=1+d'.sp;rw[hf]
  rw[ec];unfold aM;rw[ei,a2];show 1+_<=1+_;omega
 |_=>exact ok.elim
mutual
theorem rw_t(J:Env E ns tg)(C:Cal A E X F dd):∀(t:Tr)(k:Nat)(v:V)(G:Nat),t.ok ns tg dd->dQ A E.N X v (pt k t)->F+dT t<=G->dW A E X G v (rwP (pt k t))/\Wf E G (rwP (pt k t))/\∀h,0<=h->h*aM E G (rwP (pt k t))<=nB dd h t
 | .leaf r,k,v,G,ok,h,hG=>by
  unfold Tr.ok at ok;unfold pt at h⊢;unfold dQ at h;unfold dT at hG;obtain⟨a,b,c⟩:=rw_leaf J C ok h hG;unfold rwP;refine⟨a,b,λz hz=>?_⟩;unfold nB;exact Li c hz
 | .iff val l r f o,k,v,G,ok,h,hG=>by
  obtain⟨G,rfl⟩:∃g,G=g+1:=⟨G-1,by unfold dT at hG;omega⟩;unfold Tr.ok at ok;obtain⟨o1,o2,o3,o4,o5⟩:=ok;unfold pt at h⊢;unfold dQ at h;obtain⟨a,dx,p,pf,po,xf,xo,e,h1,h2,h3,h4,h5,h6⟩:=h;unfold dT at hG;obtain⟨a1,a2,a3⟩:=rw_ts J C f (k+1) xf G o4 h5 ();obtain⟨b1,b2,b3⟩:=rw_ts J C o (k+1+(aX f).length+1) xo G o5 h6 ();unfold rwP;refine⟨⟨a,dx,p,pf,po,xf,xo,e,h1,h2,h3,h4,a1,b1⟩,⟨J.val o1,o2,o3,a2,b2⟩,λz hz=>?_⟩;have q1:=a3 z hz;have q2:=b3 z hz;have n1:=pD E a2;have n2:=pD E b2;unfold nB aM;generalize ((oA (pts (k+1) f)).map (aM E G)).sum=c1 at q1 n1⊢;generalize ((oA (pts (k+1+(aX f).length+1) o)).map (aM E G)).sum=c2 at q2 n2⊢;have le:1+(if l+c1<r+c2 then r+c2 else l+c1)<=1+1*(l+r)+c1+c2:=by split<;>omega
  refine MQ (Li le hz) ?_;rw[Nd,Nd];omega
 | .loop t m l r b,k,v,G,ok,h,hG=>by
  obtain⟨G,rfl⟩:∃g,G=g+1:=⟨G-1,by unfold dT at hG;omega⟩;unfold Tr.ok at ok;obtain⟨o1,o2,o3,o4,o5,o6⟩:=ok;unfold pt at h⊢;unfold dQ at h;obtain⟨a,dx,pb,xb,e,h1,h2,h3⟩:=h;unfold dT at hG;obtain⟨a1,a2,a3⟩:=rw_ts J C b (k+1) xb G o6 h3 ();unfold rwP;refine⟨⟨a,dx,pb,xb,e,h1,h2,a1⟩,⟨J.th o1,(),(),o4,o5,a2⟩,λz hz=>?_⟩;have q1:=a3 (z*m) (Lo hz ());have n1:=pD E a2;unfold nB aM;generalize ((oA (pts (k+1) b)).map (aM E G)).sum=c at q1 n1⊢;have le:(if l+c<r then r else l+c)<=l+r+c:=by split<;>omega
  have le2:1+m*(if l+c<r then r else l+c)<=1+m*(l+r)+m*c:=by
   have:=Li le (show 0<=m by omega);rw[Nd m (l+r) c]at this;omega
  refine MQ (Li le2 hz) ?_;rw[Nd z _ (m*c),<-Int.mul_assoc];omega
theorem rw_ts(J:Env E ns tg)(C:Cal A E X F dd):∀(ts:List Tr)(k:Nat)(xs:List V)(G:Nat),dU ns tg dd ts->aD A E.N X xs (pts k ts)->F+dTs ts<=G->Paired (dW A E X G) xs (oA (pts k ts))/\(∀r∈oA (pts k ts),Wf E G r)/\∀h,0<=h->h*((oA (pts k ts)).map (aM E G)).sum<=cB dd h ts
 | [],k,xs,G,ok,h,hG=>by
  unfold pts at h⊢;unfold aD at h;subst h;unfold oA cB;exact⟨.nil,λr hr=>(by cases hr),λz _=>by simp⟩
 |t::ts,k,xs,G,ok,h,hG=>by
  unfold dU at ok;unfold pts at h⊢;unfold aD at h;obtain⟨y,ys,e,h1,h2⟩:=h;subst e;unfold dTs at hG;obtain⟨a1,a2,a3⟩:=rw_t J C t k y G ok.1 h1 ();obtain⟨b1,b2,b3⟩:=rw_ts J C ts (k+(flat t).length) ys G ok.2 h2 ();unfold oA cB;refine⟨.cons a1 b1,λr hr=>?_,λz hz=>?_⟩
  ·rcases Kt.mp hr with rfl|hr
   ·exact a2
   exact b2 r hr
  rw[KP,Mg,Nd];have:=a3 z hz;have:=b3 z hz;omega
end
end
section
variable{A:Adr}{N:Nat->Str}{X:Hp}
noncomputable def hdL:Lr->Hd
 | .giv i _ z=>.giv i z.toNat| .own i z=>.own i z.toNat| .lt i _=>.lt i| .hand i _=>.hand i
 |_=>.hand 0
noncomputable def ddP:Pt->Dd
 | .fT _ i ps b=>⟨i,ps,oA b⟩
 |_=>⟨0,[],[]⟩
noncomputable def szF(z:Int)(i:Nat):Nat:=if i=6\/i=10 then z.toNat else 0
noncomputable def enP(N:Nat->Str)(z:Int)(rs:List Lr)(ds:List Pt)(dv:List V):En:=⟨N,(rs.map hdL).flatMap Hd.cell++(ds.map ddP).flatMap Dd.parts,szF z,ds.map ddP,dv⟩
theorem Br:∀{dls:List Dl}{bss:List (List Tr)}{k j:Nat}{d:Dl}{b:List Tr},dls[j]?=T9 d->bss[j]?=T9 b->∃k':Nat,(ptD k dls bss)[j]?=T9 (.fT ((k':Int)+1) d.nm d.ps (pts (k'+1) b))
 |_::_,_::_,k,0,_,_,h1,h2=>by
  cases h1;cases h2;exact⟨k,rfl⟩
 |_::ds,_::bs,k,j+1,_,_,h1,h2=>by
  obtain⟨k',e⟩:=Br (dls:=ds) (bss:=bs) (k:=k+1+(aX _).length+1) (j:=j) (by simpa using h1) (by simpa using h2);exact⟨k',by unfold ptD;rw[MI];exact e⟩
 | [],_,_,_,_,_,h1,_=>by cases h1
 |_::_,[],_,_,_,_,_,h2=>by cases h2
theorem uV:∀{dls:List Dl}{bss:List (List Tr)}(k:Nat),dls.length=bss.length->((ptD k dls bss).map ddP).map Dd.nm=dls.map Dl.nm/\((ptD k dls bss).map ddP).flatMap Dd.parts=dls.flatMap Dl.ps/\(ptD k dls bss).length=dls.length
 | [],_,_,_=>⟨rfl,rfl,rfl⟩
 |d::ds,b::bs,k,h=>by
  obtain⟨h1,h2,h3⟩:=uV (dls:=ds) (bss:=bs) (k+1+(aX b).length+1) (by simpa using h);unfold ptD;refine⟨?_,?_,?_⟩
  ·rw[KP,KP,KP,h1];rfl
  ·rw[KP,Lf,Lf,h2];rfl
  rw[Lb,Lb,h3]
 |_::_,[],_,h=>by cases h
theorem xQ:∀{dls:List Dl}{j0:Nat},(∀j d,dls[j]?=T9 d->∃m,m<=2/\d.ps=MJ (14+3*(j0+j)) m)->(dls.flatMap Dl.ps).Pairwise (· < ·)/\(∀p∈dls.flatMap Dl.ps,14+3*j0<=p/\p+1<14+3*(j0+dls.length))/\(dls.flatMap Dl.ps).length<=2*dls.length
 | [],_,_=>⟨.nil,λp hp=>(by cases hp),KD _⟩
 |d::ds,j0,h=>by
  obtain⟨m,m2,e⟩:=h 0 d rfl;obtain⟨h1,h2,h3⟩:=xQ (dls:=ds) (j0:=j0+1) (λj d' hj=>by
   obtain⟨m,m2,e⟩:=h (j+1) d' (by simpa using hj);exact⟨m,m2,by rw[e,show j0+1+j=j0+(j+1) by omega]⟩)
  have dp:∀p∈d.ps,14+3*j0<=p/\p<14+3*j0+2:=λp hp=>by
   rw[e,Nj]at hp;omega
  rw[Lf];refine⟨List.pairwise_append.mpr ⟨by rw[e];exact List.pairwise_lt_range',h1,λa ha b hb=>?_⟩,λp hp=>?_,?_⟩
  ·have:=dp a ha;have:=h2 b hb;omega
  ·rw[Lb];rcases Kz.mp hp with hp|hp
   ·have:=dp p hp;omega
   have:=h2 p hp;omega
  rw[KC,Lb,e,MH];omega
theorem dC(t:Nat)(xs:List Lr):(rot t xs).Perm xs:=by
 unfold rot;refine List.perm_append_comm.trans ?_;rw[Me]
theorem yj(rk:Nat->Int)(z:Int)(t:Nat):(((rot t (cc rk z)).map hdL).flatMap Hd.cell).Perm [3,4,5,6,7,8,9,10]:=(((dC t _).map hdL).flatMap_right Hd.cell).trans (List.Perm.of_eq rfl)
theorem HK{dls:List Dl}(l4:dls.length<=4)(h:dls.map Dl.nm=(Od dls.length).map λj=>13+3*j):(dls.map Dl.nm).Nodup/\∀d∈dls,13<=d.nm/\d.nm<25:=by
 have hm:∀d∈dls,d.nm∈dls.map Dl.nm:=λd hd=>KS.mpr ⟨d,hd,rfl⟩;rw[h]at hm⊢;generalize dls.length=n at l4 hm⊢;have:=lt5 n ();refine⟨by rcases this with rfl|rfl|rfl|rfl|rfl<;>decide,λd hd=>?_⟩;obtain⟨j,hj,e⟩:=KS.mp (hm d hd);have:=Lu.mp hj;omega
structure zN(N:Nat->Str)(rk:Nat->Int)(z:Int)(t:Nat)(dls:List Dl)(E:En):Prop where
 ok:E.Ok
 c:∀i∈[3,4,5,6,7,8,9,10],i∈E.idx
 p:∀d∈dls,∀i∈d.ps,i∈E.idx/\14<=i
 n:E.N=N
 z:E.sz=szF z
theorem GY{lim:Int}{lrs:List Lr}{rk:Nat->Int}{z:Int}{t:Nat}{dls:List Dl}{bss:List (List Tr)}{mb:List Tr}(D:A8 lim lrs rk z t dls bss mb)(hN:eX N){dv:List V}(hv:dv.length=dls.length)(k:Nat):zN N rk z t dls (enP N z (rot t (cc rk z)) (ptD k dls bss) dv):=by
 obtain⟨e1,e2,e3⟩:=uV (dls:=dls) (bss:=bss) k D.dd.len;obtain⟨p1,p2,p3⟩:=xQ (dls:=dls) (j0:=0) (λj d hj=>by rw[Nat.zero_add];exact D.dd.ps j d hj);obtain⟨n1,n2⟩:=HK D.dd.l4 D.dd.nm;have cp:=yj rk z t;have l4:=D.dd.l4;have hz:=D.hz;have pb:∀p∈dls.flatMap Dl.ps,14<=p/\p<25:=λp hp=>by
  have:=p2 p hp;omega
 have cb:∀p∈((rot t (cc rk z)).map hdL).flatMap Hd.cell,3<=p/\p<=10:=λp hp=>by
  have:=cp.mem_iff.mp hp;simp at this;omega
 have ei:(enP N z (rot t (cc rk z)) (ptD k dls bss) dv).idx=((rot t (cc rk z)).map hdL).flatMap Hd.cell++dls.flatMap Dl.ps:=by
  show _++((ptD k dls bss).map ddP).flatMap Dd.parts=_;rw[e2]
 refine⟨⟨hN,?_,?_,?_,?_,?_,?_,?_,?_,?_⟩,?_,?_,rfl,rfl⟩
 ·rw[ei];intro j hj;rcases Kz.mp hj with hj|hj
  ·have:=cb j hj;omega
  exact(pb j hj).2
 ·rw[ei];refine Ls.mpr ⟨cp.nodup_iff.mpr ∅,p1.imp (λh=>Ll h),λa ha b hb=>?_⟩;have:=cb a ha;have:=pb b hb;omega
 ·intro d hd;have:d.nm∈((ptD k dls bss).map ddP).map Dd.nm:=KS.mpr ⟨d,hd,rfl⟩;rw[e1]at this;obtain⟨d',hd',e⟩:=KS.mp this;rw[<-e];exact(n2 d' hd').2
 ·show(((ptD k dls bss).map ddP).map Dd.nm).Nodup;rw[e1];exact n1
 ·show((ptD k dls bss).map ddP).length<=64;rw[Kx,e3];omega
 ·show dv.length=((ptD k dls bss).map ddP).length;rw[Kx,e3,hv]
 ·intro d hd j hj;have:j∈((ptD k dls bss).map ddP).flatMap Dd.parts:=LB.mpr ⟨d,hd,hj⟩;rw[e2]at this;refine⟨by rw[ei];exact KQ _ this,?_⟩;have:=pb j this;show szF z j=0;unfold szF;rw[if_neg ()]
 ·intro x;show szF z x<=1000;unfold szF;split<;>omega
 ·rw[ei,KC,cp.length_eq];show 8+_<=64;omega
 ·intro i hi;rw[ei];exact Lj _ (cp.mem_iff.mpr hi)
 intro d hd i hi;have m:i∈dls.flatMap Dl.ps:=LB.mpr ⟨d,hd,hi⟩;exact⟨by rw[ei];exact KQ _ m,(pb i m).1⟩
theorem zN.env{rk:Nat->Int}{z:Int}{t:Nat}{dls:List Dl}{E:En}(h:zN N rk z t dls E)(hz:1<=z){ps:List Nat}(hp:∀i∈ps,i∈E.idx/\14<=i):Env E ([3,4,5]++([7,8,9]++ps)) ([7,8,9]++ps):=by
 have s0:∀a,a≠6->a≠10->E.sz a=0:=λa h1 h2=>by
  rw[h.z];unfold szF;rw[if_neg ()]
 have tg:∀a∈[7,8,9]++ps,a∈E.idx/\E.sz a=0:=λa ha=>by
  rcases Kz.mp ha with ha|ha
  ·have d:=(by decide:∀a∈[7,8,9],a∈[3,4,5,6,7,8,9,10]/\a≠6/\a≠10) a ha;exact⟨h.c a d.1,s0 a d.2.1 d.2.2⟩
  have:=hp a ha;exact⟨this.1,s0 a () ()⟩
 refine⟨λa ha=>?_,tg,λa ha=>?_⟩
 ·rcases Kz.mp ha with ha|ha
  ·have d:=(by decide:∀a∈[3,4,5],a∈[3,4,5,6,7,8,9,10]/\a≠6/\a≠10) a ha;exact⟨h.c a d.1,s0 a d.2.1 d.2.2⟩
  exact tg a ha
 have d:=(by decide:∀a∈[6,10],a∈[3,4,5,6,7,8,9,10]/\(a=6\/a=10)) a ha;refine⟨h.c a d.1,?_⟩;rw[h.z];unfold szF;rw[if_pos d.2];omega
theorem Cal.up{E:En}{F F':Nat}{dd:List Dl}(h:Cal A E X F dd)(le:F<=F'):Cal A E X F' dd:=λd hd=>by
 obtain⟨j,D,da,dy,dn,pp,pb,xs,h1,h2,h3,h4,h5,h6,h7,h8,h9,h10⟩:=h d hd;exact⟨j,D,da,dy,dn,pp,pb,xs,h1,h2,h3,h4,h5,h6,h7,h8,h9,λG hG=>h10 G (KR le hG)⟩
noncomputable def fS(bss:List (List Tr))(j:Nat):Nat:=((bss.take j).map dTs).sum
theorem DF{bss:List (List Tr)}{j:Nat}{b:List Tr}(h:bss[j]?=T9 b):fS bss (j+1)=fS bss j+dTs b:=by
 unfold fS;rw[Lx,h,KZ,List.sum_append];simp
theorem Cr{lim:Int}{rk:Nat->Int}{z:Int}{t:Nat}{dls:List Dl}{bss:List (List Tr)}{ds:List Dd}{ns:Nat->Str}{ix:List Nat}{sz:Nat->Nat}{k0:Nat}{dv:List V}(B:AY lim dls bss)(O:zN N rk z t dls ⟨ns,ix,sz,ds,dv⟩)(hz:1<=z)(ed:ds=(ptD k0 dls bss).map ddP)(pd:aD A N X dv (ptD k0 dls bss)):∀j,j<=dls.length->Cal A ⟨ns,ix,sz,ds,dv⟩ X (fS bss j) (dls.take j)
 |0,_=>λd hd=>by
  rw[Ml]at hd;cases hd
 |j+1,hj=>by
  have ih:=Cr B O hz ed pd j ();have en:ns=N:=O.n;obtain⟨d,hd⟩:∃d,dls[j]?=T9 d:=⟨_,Kv ()⟩;obtain⟨b,hb⟩:∃b,bss[j]?=T9 b:=⟨_,Kv (by rw[<-B.len];omega)⟩;obtain⟨k',hp⟩:=Br (k:=k0) hd hb;obtain⟨v,hv⟩:∃v,dv[j]?=T9 v:=⟨_,Kv (by
   have:=pd.len;have:=(uV (dls:=dls) (bss:=bss) k0 B.len).2.2;omega)⟩
  obtain⟨p,hp',pa⟩:=pd.get hv;rw[hp]at hp';cases hp';unfold dQ at pa;obtain⟨a,dx,pp,pb,xb,rfl,h1,h2,h3,h4⟩:=pa;obtain⟨ob,pay⟩:=B.bs j d b hd hb;have dm:d∈dls:=KI hd;have J:=O.env hz (ps:=d.ps) (λi hi=>O.p d dm i hi);rw[DF hb,Uj hd];intro e he;rcases Kz.mp he with he|he
  ·exact ih.up (LK _ _) e he
  rw[Ky.mp he];obtain⟨m,m2,ps⟩:=B.ps j d hd;have nm:d.nm=13+3*j:=by
   have:(dls.map Dl.nm)[j]?=T9 d.nm:=by rw[KO,hd];rfl
   rw[B.nm,KO,Mr ()]at this;exact(NP this).symm
  have eD:ds[j]?=T9 ⟨d.nm,d.ps,oA (pts (k'+1) b)⟩:=by
   rw[ed,KO,hp];rfl
  refine⟨j,_,a,dx,_,pp,pb,xb,nm,eD,rfl,rfl,by rw[ps,MH];omega,hv,by rw[<-en]at h1;exact h1,by rw[<-en]at h2;exact h2,h3,λG hG=>?_⟩;rw[<-en]at h4;obtain⟨q1,q2,q3⟩:=rw_ts J ih b (k'+1) xb G ob h4 hG;refine⟨q1,q2,?_⟩;have h1:=q3 1 ∅;have h2:=pay;show((oA (pts (k'+1) b)).map _).sum<=_;omega
theorem Fg:∀{bss:List (List Tr)},(∀b∈bss,dTs b<=4)->(bss.map dTs).sum<=4*bss.length
 | [],_=>KD _
 |b::bs,h=>by
  have h1:=Fg (bss:=bs) λx hx=>h x (Kw _ hx);have h2:=h b Ku;rw[KP,Mg,Lb];omega
theorem xu:∀{rs:List Lr}{k:Nat}{xs:List V},(∀r∈rs,(∃i m,r=.hand i m)\/(∃i m z,r=.giv i m z/\0<=z)\/(∃i z,r=.own i z/\0<=z)\/∃i m,r=.lt i m)->aD A N X xs (lfs k rs)->Paired (vE A N X) xs (rs.map hdL)
 | [],k,xs,_,h=>by
  unfold lfs aD at h;rw[h];exact .nil
 |r::rs,k,xs,hr,h=>by
  unfold lfs aD at h;obtain⟨y,ys,rfl,h1,h2⟩:=h;rw[KP];refine .cons ?_ (xu (λr m=>hr r (Kw _ m)) h2);unfold dQ at h1;rcases hr r Ku with⟨i,m,rfl⟩|⟨i,m,z,rfl,hz⟩|⟨i,z,rfl,hz⟩|⟨i,m,rfl⟩
  ·obtain⟨a,dx,e,h⟩:=h1;exact⟨a,dx,_,_,e,h⟩
  ·obtain⟨a,dx,e,h⟩:=h1;refine⟨a,dx,.int ((k:Int)+1),.int m,e,?_⟩;rw[MY hz];exact h
  ·obtain⟨a,dx,e,h⟩:=h1;refine⟨a,dx,.int ((k:Int)+1),e,?_⟩;rw[MY hz];exact h
  obtain⟨a,dx,e,h⟩:=h1;exact⟨a,dx,_,_,e,h⟩
theorem wY:∀{dls:List Dl}{bss:List (List Tr)}{k:Nat}{xs:List V},aD A N X xs (ptD k dls bss)->Paired (Ip A N X) xs ((ptD k dls bss).map ddP)
 | [],_,k,xs,h=>by
  unfold ptD aD at h;rw[h];exact .nil
 |_::_,[],k,xs,h=>by
  unfold ptD aD at h;rw[h];exact .nil
 |d::ds,b::bs,k,xs,h=>by
  unfold ptD aD at h;obtain⟨y,ys,rfl,h1,h2⟩:=h;unfold ptD;rw[KP];refine .cons ?_ (wY h2);unfold dQ at h1;obtain⟨a,dx,pp,pb,xb,e,h1,h2,h3,h4⟩:=h1;exact⟨a,dx,_,pp,pb,e,h1,h2⟩
theorem wu{rk:Nat->Int}{z:Int}(hz:1<=z){r:Lr}(h:r∈cc rk z):(∃i m,r=.hand i m)\/(∃i m z,r=.giv i m z/\0<=z)\/(∃i z,r=.own i z/\0<=z)\/∃i m,r=.lt i m:=by
 have z0:0<=z:=()
 simp only[cc,Kt,KH,or_false]at h;rcases h with e|e|e|e|e|e|e|e|e|e|e|e|e<;>rw[e]
 ·exact .inl ⟨_,_,rfl⟩
 ·exact .inl ⟨_,_,rfl⟩
 ·exact .inl ⟨_,_,rfl⟩
 ·exact .inr (.inl ⟨_,_,_,rfl,Lc _⟩)
 ·exact .inr (.inl ⟨_,_,_,rfl,Lc _⟩)
 ·exact .inr (.inl ⟨_,_,_,rfl,Lc _⟩)
 ·exact .inr (.inl ⟨_,_,_,rfl,z0⟩)
 ·exact .inr (.inr (.inl ⟨_,_,rfl,Lc _⟩))
 ·exact .inr (.inr (.inl ⟨_,_,rfl,Lc _⟩))
 ·exact .inr (.inr (.inl ⟨_,_,rfl,Lc _⟩))
 ·exact .inr (.inr (.inl ⟨_,_,rfl,z0⟩))
 ·exact .inr (.inr (.inr ⟨_,_,rfl⟩))
 exact .inr (.inr (.inr ⟨_,_,rfl⟩))
structure UC(A:Adr)(N:Nat->Str)(X:Hp)(v:V)(E:En)(hs:List Hd)(p:Pa)(hv xs:List V)(rows:List Rw):Prop where
 v:v=.ref p.pa
 ok:E.Ok
 n:E.N=N
 pr:xD A E X p hv hs xs
 hd:Hds E hs
 rw:Paired (dW A E X 20) xs rows
 wf:∀r∈rows,Wf E 20 r
 ms:(rows.map (aM E 20)).sum<=1000
theorem UC.same{X':Hp}{v:V}{E:En}{hs:List Hd}{p:Pa}{hv xs:List V}{rows:List Rw}(s:aq X X')(R:UC A N X v E hs p hv xs rows):UC A N X' v E hs p hv xs rows:=⟨R.v,R.ok,R.n,R.pr.same s,R.hd,Paired.cS R.rw λ_ _=>dW.same s,R.wf,R.ms⟩
theorem EY{lim:Int}{lrs:List Lr}{rk:Nat->Int}{z:Int}{t:Nat}{dls:List Dl}{bss:List (List Tr)}{mb:List Tr}{v:V}{n:Nat}(D:A8 lim lrs rk z t dls bss mb)(hl:lim<=1000)(hN:eX N)(pg:sY A N X v (lfs 0 (rot t (cc rk z))) (ptD (rot t (cc rk z)).length dls bss) (pts (n+1) mb)):∃E p hv xs rows,UC A N X v E ((rot t (cc rk z)).map hdL) p hv xs rows/\E.sz=szF z:=by
 obtain⟨a,dx,n0,n1,n2,x0,x1,x2,rfl,ha,e0,e1,e2,p0,p1,p2⟩:=pg;have lr:(rot t (cc rk z)).length=13:=(dC t _).length_eq;have ld:=(uV (dls:=dls) (bss:=bss) (rot t (cc rk z)).length D.dd.len).2.2;have lx:x1.length=dls.length:=by
  have:=p1.len;omega
 have O:=GY D hN (dv:=x1) lx (rot t (cc rk z)).length;have hz:=D.hz;have C:=Cr D.dd O hz.1 rfl p1 dls.length (KD _);rw[Lm]at C;have J:=O.env hz.1 (ps:=[]) (λi hi=>by cases hi);rw[Lv]at J;have ef:fS bss dls.length=(bss.map dTs).sum:=by
  unfold fS;rw[D.dd.len,Lm]
 have dl:fS bss dls.length+dTs mb<=20:=by
  have h1:=Fg D.dd.dp;have h2:=D.dp;have h3:=D.dd.l4;have h4:=D.dd.len;omega
 obtain⟨q1,q2,q3⟩:=rw_ts J C mb (n+1) x2 20 D.ob p2 dl;have hds:=xu (λr m=>wu hz.1 ((dC t _).mem_iff.mp m)) p0;obtain⟨sp,s1,s2⟩:=D.pay;refine⟨_,⟨a,dx,n0,n1,n2⟩,x0,x2,_,⟨rfl,O.ok,rfl,⟨ha,e0,e1,e2,hds,wY p1,?_⟩,⟨rfl,?_,?_⟩,q1,q2,?_⟩,rfl⟩
 ·have:=NV hds;rw[Kx,lr]at this;omega
 ·intro i y m;obtain⟨r,hr,e⟩:=KS.mp m;have hr:=(dC t _).mem_iff.mp hr;simp only[cc,Kt,KH,or_false]at hr;rcases hr with e'|e'|e'|e'|e'|e'|e'|e'|e'|e'|e'|e'|e'<;>(rw[e']at e;cases e;try rfl)
 ·intro i y m;obtain⟨r,hr,e⟩:=KS.mp m;have hr:=(dC t _).mem_iff.mp hr;simp only[cc,Kt,KH,or_false]at hr;rcases hr with e'|e'|e'|e'|e'|e'|e'|e'|e'|e'|e'|e'|e'<;>(rw[e']at e;cases e;try rfl)
 have:=q3 1 ∅;omega
end
section
variable{P:Program}{w:NW}{K:NO}{mg:Str->Option NK}{base:Oi}{A:Adr}{N:Nat->Str}{E:En}
noncomputable def rE(N:Nat->Str)(w:List V):Prop:=∃(a n:Int)(h:Nat)(v:Int),w=[.int a,.int n,.str (N h),.int v]/\h<3
noncomputable def Lts(N:Nat->Str)(s:S):Prop:=∀w∈s.d8,rE N w
theorem BF{s:S}:∀(xs:List (Nat×Int)),(s.xI xs).d8=s.d8:=λxs=>by
 induction xs generalizing s with
 |nil=>rfl
 |cons p r ih=>exact ih (s:=s.put p.1 p.2)
theorem rW{f:S->Rw->S×Bool}{p:Rw->Prop}(one:∀s r,p r->Lts N s->Lts N (f s r).1):∀(xs:List Rw)(s:S×Bool),(∀r∈xs,p r)->Lts N s.1->Lts N (xs.foldl (step f) s).1
 | [],_,_,h=>h
 |r::xs,s,hp,h=>rW one xs _ (λq hq=>hp q (Kw _ hq)) (one s.1 r (hp r Ku) h)
theorem r8{body:S->S×Bool}{l:Int}(one:∀s,Lts N s->Lts N (body s).1):∀(k j:Nat)(s:S),Lts N s->Lts N (Uh body l k j s).1
 |0,_,_,h=>h
 |k+1,j,s,h=>by
  unfold Uh;split
  ·exact one s h
  exact r8 one k (j+1) _ (one s h)
theorem xc{d:Nat}{s:S}{r:Rw}(h:Lts E.N s)(wf:Wf E d r):Lts E.N (leaf E.N s r).1:=by
 cases r with
 |snd n x v=>
  have hx:x<3:=by cases d<;>exact wf.2
  intro w hw;rcases Kz.mp hw with hw|hw
  ·exact h w hw
  rw[Ky.mp hw];exact⟨_,_,x,_,rfl,hx⟩
 |_=>exact h
theorem EL:∀(d:Nat)(s:S)(r:Rw),Wf E d r->Lts E.N s->Lts E.N (doR E d s r).1:=by
 intro d;induction d with
 |zero=>intro s r wf h;cases r<;>first|exact xc h wf|exact wf.elim
 |succ d ih=>
  intro s r wf h;have rows:∀(xs:List Rw)(s:S),(∀r∈xs,Wf E d r)->Lts E.N s->Lts E.N (bQ (doR E d) s xs).1:=λxs s hw h=>rW (p:=Wf E d) (λs r w h=>ih s r w h) xs (s,false) hw h;cases r with
  |call m i ts=>
   obtain⟨_,_,D,hD,_,hb⟩:=wf;unfold doR;rw[hD];refine rows D.body _ hb ?_;unfold Lts;rw[BF];exact h
  |iff m v f o l r=>
   obtain⟨_,_,_,h3,h4⟩:=wf;unfold doR;split
   ·exact rows f _ h3 h
   exact rows o _ h4 h
  |loop m t k b l r=>
   obtain⟨_,_,_,_,_,h4⟩:=wf;unfold doR;exact r8 (λs hs=>rows b s h4 hs) _ _ _ h
  |_=>exact xc (d:=d+1) h wf
noncomputable def ltF(E:En)(hs:List Hd)(rows:List Rw)(gn:Nat->Int)(gl:Nat->List Int):List (List V):=(bQ (doR E 20) (S.new E hs gn gl) rows).1.d8
theorem G9{hs:List Hd}{rows:List Rw}(wf:∀r∈rows,Wf E 20 r)(gn:Nat->Int)(gl:Nat->List Int):∀w∈ltF E hs rows gn gl,rE E.N w:=rW (p:=Wf E 20) (λs r w h=>EL 20 s r w h) rows (S.new E hs gn gl,false) wf (λw hw=>by cases hw)
theorem DT{hs:List Hd}{rows:List Rw}(wf:∀r∈rows,Wf E 20 r)(ms:(rows.map (aM E 20)).sum<=1000)(gn:Nat->Int)(gl:Nat->List Int):(ltF E hs rows gn gl).length<=1000:=by
 have:=mZ (E:=E) (B:=1000) (f:=doR E 20) (c:=aM E 20) (p:=Wf E 20) (λs r n w h=>qZ E 20 s r n w h) rows (S.new E hs gn gl,false) 0 wf ⟨by show 0+_<=_;omega,by show(0:Int)<=0;decide,by show(0:Int)<=0;decide,by show(0:Int)<=0;decide⟩;have h1:=this.l;have h2:=this.st;have h3:((ltF E hs rows gn gl).length:Int)<=1000:=MQ h1 ();omega
noncomputable def lC(N:Nat->Str)(rank:Int)(w:List V):Bool:=(Od 3).any λh=>decide (w.getD 2 .non=V.str (N h))&&decide ((h:Int)<=rank)
theorem w9(D:eX N){rank:Int}{a n v:V}{h:Nat}(hh:h<3):lC N rank [a,n,.str (N h),v]=decide ((h:Int)<=rank):=by
 unfold lC;rw[LP,LM,decide_eq_true_iff];constructor
 ·rintro⟨j,hj,e⟩;obtain⟨e1,e2⟩:=MR.mp e;have e1:N h=N j:=V.str.inj (of_decide_eq_true e1);have:=D h j () (by have:=Lu.mp hj;omega) e1;rw[this];exact of_decide_eq_true e2
 exact λe=>⟨h,Lu.mpr hh,by rw[decide_eq_true e,Bool.and_true];exact decide_eq_true rfl⟩
noncomputable def ofH(H:Hp)(q:List V->Bool):V->Bool
 | .ref a=>match H a with
  |some (.tup w)=>q w
  |_=>false
 |_=>false
theorem jc{H:Hp}(q:List V->Bool):∀{xs:List V}{ws:List (List V)},kD H xs ws->kD H (xs.filter (ofH H q)) (ws.filter q)
 |_,_,.nil=>.nil
 |_,_,.cons (b:=y) h t=>by
  obtain⟨p,rfl,e⟩:=h;have e2:ofH H q (.ref p)=q y:=by
   show(match H p with|some (.tup w)=>q w|_=>false)=q y;rw[e]
  rw[LU,LU,e2];split
  ·exact .cons ⟨p,rfl,e⟩ (jc q t)
  exact jc q t
theorem xq{H:Hp}{xs:List V}{ws:List (List V)}(h:kD H xs ws){x:V}(m:x∈xs):∃p w,x=.ref p/\H p=T9 (.tup w)/\w∈ws:=by
 obtain⟨i,hi⟩:=La m;obtain⟨w,hw,p,e,hp⟩:=bg h hi;exact⟨p,w,e,hp,KI hw⟩
end
section
variable{P:Program}{w:NW}{K:NO}{mg:Str->Option NK}{base:Oi}{A:Adr}{N:Nat->Str}{E:En}
seal PE PA PS PSs PT PW
structure EI(rs:List Lr):Prop where
 h:∀i m,Lr.hand i m∈rs->i<3/\m=(i:Int)
 l:∀i m,Lr.lt i m∈rs->3<=i/\i<25
 a:∀h,h<3->∃m,Lr.hand h m∈rs
structure RkM(N:Nat->Str)(H:Hp)(D:NL)(rs:List Lr)(i:Nat)(ix:List Nat)(f:Nat->V):Prop where
 d:H D=T9 (.dK (dk N ix f))
 b:∀j∈ix,j<25
 v:∀h,h<3->h∈ix->f h=.int h
 l:ix.length<=i
 m:∀h m,Lr.hand h m∈rs.take i->h∈ix
noncomputable def wj(N:Nat->Str)(H:Hp)(D:NL):Prop:=∃ix f,H D=T9 (.dK (dk N ix f))/\(∀j∈ix,j<25)/\∀h,h<3->h∈ix/\f h=.int h
theorem wj.same{H H':Hp}{D:NL}(s:aq H H')(h:wj N H D):wj N H' D:=by
 obtain⟨ix,f,h1,h2⟩:=h;exact⟨ix,f,s _ _ h1,h2⟩
theorem wj.get{H:Hp}{D:NL}(d:eX N)(R:wj N H D){h:Nat}(hh:h<3):cP H D (.str (N h)) (T9 (.int h)):=by
 obtain⟨ix,f,h1,h2,h3⟩:=R;have:=eJ d (.inl h1) h2 (h3 h hh).1;rw[(h3 h hh).2]at this;exact this
theorem RkM.done{H:Hp}{D:NL}{rs:List Lr}{ix:List Nat}{f:Nat->V}(O:EI rs)(R:RkM N H D rs rs.length ix f):wj N H D:=⟨ix,f,R.d,R.b,λh hh=>by
 obtain⟨m,hm⟩:=O.a h hh;have:=R.m h m (by rw[Lm];exact hm);exact⟨this,R.v h hh this⟩⟩
theorem RkM.skip{H H':Hp}{D:NL}{rs:List Lr}{i:Nat}{ix:List Nat}{f:Nat->V}{r:Lr}(R:RkM N H D rs i ix f)(s:aq H H')(hr:rs[i]?=T9 r)(no:∀h m,r≠ .hand h m):RkM N H' D rs (i+1) ix f:=⟨s _ _ R.d,R.b,R.v,Ld R.l,λh m hm=>by
 rw[Lx,hr]at hm;rcases Kz.mp hm with hm|hm
 ·exact R.m h m hm
 exact absurd (Ky.mp hm).symm (no h m)⟩
theorem RkM.put{H H':Hp}{D:NL}{rs:List Lr}{i j:Nat}{ix:List Nat}{f:Nat->V}{r:Lr}{v:V}(d:eX N)(R:RkM N H D rs i ix f)(hr:rs[i]?=T9 r)(hj:j<25)(hv:j<3->v=.int j)(ry:∀h m,r=.hand h m->h=j)(e:H' D=T9 (.dK (Ue (dk N ix f) (.inr (N j)) v))):RkM N H' D rs (i+1) (ins ix j) (nz f j v):=by
 refine⟨by rw[e,u3 d hj R.b],BE R.b hj,λh hh hm=>?_,KR (kG _ _) (Mq R.l),λh m hm=>?_⟩
 ·unfold nz;split
  ·rename_i c;rw[c];exact hv ()
  rename_i c;rcases uY hm with e|e
  ·exact absurd e c
  exact R.v h hh e
 rw[Lx,hr]at hm;rcases Kz.mp hm with hm|hm
 ·exact nj (R.m h m hm)
 rw[ry h m (Ky.mp hm).symm];exact sk _ _
theorem va:∀{rs:List Lr}{k i:Nat}{p:Pt},(lfs k rs)[i]?=T9 p->∃r,rs[i]?=T9 r/\p=.leaf (((k+i:Nat):Int)+1) r
 |r::rs,k,0,p,h=>by
  cases h;exact⟨r,rfl,rfl⟩
 |r::rs,k,i+1,p,h=>by
  obtain⟨r',h1,h2⟩:=va (rs:=rs) (k:=k+1) (i:=i) h;refine⟨r',h1,?_⟩;rw[h2,show k+1+i=k+(i+1) by omega]
theorem vM:∀(rs:List Lr)(k:Nat),(lfs k rs).length=rs.length
 | [],_=>rfl
 |r::rs,k=>by
  show(lfs (k+1) rs).length+1=rs.length+1;rw[vM rs]
noncomputable def yL(rs:List Lr):Prop:=∀r∈rs,(∃i m,r=.hand i m)\/(∃i m z,r=.giv i m z/\0<=z)\/(∃i z,r=.own i z/\0<=z)\/∃i m,r=.lt i m
inductive xN(A:Adr)(vs:List V)(H:Hp)(Q:VK)(Z:XK):Prop
 |mk(N:Nat->Str)(v:V)(rs:List Lr)(k:Nat)(ds ms:List Pt):vs=[v]->eX N->sY A N H v (lfs k rs) ds ms->rs.length<=500->yL rs->EI rs->(∀(D:NL)(H':Hp),aq H H'->wj N H' D->Q (.ref D) H')->xN A vs H Q Z
theorem EJ(T:Txt K mg A):T.nT.Hz P w base 1 (xN A):=by
 refine T.nT.hs jM (λf cdv A' outer s H vs Q E' hr hu h=>?_);obtain⟨N,v,rs,k,ds,ms,rfl,dN,⟨a,dx,n0,n1,n2,x0,x1,x2,rfl,ha,e0,e1,e2,p0,p1,p2⟩,ln,hk,ro,q⟩:=h;refine⟨_,(ae (pst 1 jM.nd (eM))
 (ae (df Oa rfl (cA (aE (fv 0) rfl)) (pgn (i:=2) jM.nd rfl)
  (ah (aL (PW.pt (pw_or (bN (pcB bw T.aG (fv 2^dh T.bG.mg^af)) (λ_=>rfl)) (pw_or1 (bN (pcB bw T.aG (fv 2^dh T.bW.mg^af)) (λ_=>rfl)))))
   (ah (bo (aE (fv 2) rfl) (bz (fv 1) (aE (fv 2) rfl) (bu hu Uc))))
   aC)))
 (ah (aB (fv 1))))),?_⟩
 refine ak λM1 K1 D hD=>?_;obtain⟨s1,eD⟩:=alc hD (HO.dK []);generalize upd H D _=H1 at s1 eD⊢;refine K1 _ _ ?_;clear K1 M1;try dsimp only
 refine ak λM1 K1=>fdI (s1 _ _ ha) T.dO.cl T.cX rfl (KG ⟨⟨_,SqL.of (s1 _ _ e0)⟩,cL (K:=K) (xs:=x0) (λi σ Hc=>∃(v2:Option V)(ix:List Nat)(f:Nat->V),σ=[T9 (.ref a),T9 (.ref D),v2]/\aq H Hc/\RkM N Hc D rs i ix f) ⟨Ua,[],λ_=>.non,rfl,s1,⟨eD,λj hj=>(by cases hj),λh _ hh=>(by cases hh),KD _,λh m hm=>(by rw[Ml]at hm;cases hm)⟩⟩ (λi σ Hc _ ⟨_,_,_,_,z,_⟩=>SqL.of (z _ _ e0)) ?_ ?_⟩)
 ·rintro i v σ Hc hv ⟨v2,ix,f,rfl,sc,R⟩;obtain⟨t,ht,pa⟩:=p0.get hv;obtain⟨r,hr',rfl⟩:=va ht;have il:i<rs.length:=(KA.mp hr').1;have mr:r∈rs:=KI hr';have kl:(dk N ix f).length<=1000:=by
   have:=R.l;unfold dk;rw[Kx];omega
  unfold dQ at pa;try dsimp only
  rcases hk r mr with⟨j,m,rfl⟩|⟨j,m,z,rfl,_⟩|⟨j,z,rfl,_⟩|⟨j,m,rfl⟩
  ·obtain⟨a2,dx2,rfl,h1⟩:=pa;obtain⟨j3,rfl⟩:=ro.h _ _ mr;have h1:=sc _ _ h1;refine isB (T.bG.bM h1) (nA T.bG) (eI (fdI h1 T.bG.cl T.iH rfl (fdI h1 T.bG.cl T.iz rfl ⟨_,cY.k (k:=.inr (N j)) R.d (ax kl),_,_,_,rfl,aq.out sc hD _,R.put dN hr' () (λ_=>rfl) (λh m e=>by cases e;rfl) aj⟩)))
  ·obtain⟨a2,dx2,rfl,h1⟩:=pa;have h1:=sc _ _ h1;refine isB (T.aJ.bM h1) (bV T.aJ T.bG (au T 1 2) (au T 1 0)) (ba (isB (T.aJ.bM h1) (bV T.aJ T.bW (au T 4 2) (au T 4 0)) (ba ⟨_,_,_,rfl,sc,R.skip (aq.refl _) hr' (λ_ _ e=>by cases e)⟩)))
  ·obtain⟨a2,dx2,rfl,h1⟩:=pa;have h1:=sc _ _ h1;refine isB (T.bb.bM h1) (bV T.bb T.bG (au T 1 3) (au T 1 0)) (ba (isB (T.bb.bM h1) (bV T.bb T.bW (au T 4 3) (au T 4 0)) (ba ⟨_,_,_,rfl,sc,R.skip (aq.refl _) hr' (λ_ _ e=>by cases e)⟩)))
  obtain⟨a2,dx2,rfl,h1⟩:=pa;obtain⟨j3,j4⟩:=ro.l _ _ mr;have h1:=sc _ _ h1;refine isB (T.bW.bM h1) (bV T.bW T.bG (au T 1 4) (au T 1 0)) (ba (isB (T.bW.bM h1) (nA T.bW) (eI (fdI h1 T.bW.cl T.j5 rfl (fdI h1 T.bW.cl T.j2 rfl ⟨_,cY.k (k:=.inr (N j)) R.d (ax kl),_,_,_,rfl,aq.out sc hD _,R.put dN hr' j4 (λz=>absurd z ()) (λh m e=>by cases e) aj⟩)))))
 rintro σ Hc ⟨v2,ix,f,rfl,sc,R⟩;have lx:x0.length=rs.length:=by rw[p0.len,vM]
 rw[lx]at R;exact K1 _ _ (q D Hc sc (R.done ro))
noncomputable def dV:V->Qb
 | .int i=>.int i
 | .str s=>.str s
 |_=>.none
noncomputable def dT'(w:List V):Qb:=.tuple (w.map dV)
noncomputable def dL(ws:List (List V)):Qb:=.list (ws.map dT')
theorem Cf{H:Hp}:∀{xs:List V}{ws:List (List V)},kD H xs ws->(∀w∈ws,rE N w)->gC K H xs (ws.map dT')
 |_,_,.nil,_=>.nil
 |_,w::_,.cons h t,l=>by
  obtain⟨a,n,j,v,rfl,_⟩:=l w Ku;obtain⟨p,rfl,e⟩:=h;exact .cons (.tup (SqT.of e) (.cons (.int _) (.cons (.int _) (.cons (.str _) (.cons (.int _) .nil))))) (Cf t λw hw=>l w (Kw _ hw))
theorem qa{H:Hp}{l:NL}{xs:List V}{ws:List (List V)}(e:H l=T9 (.lst xs))(t:kD H xs ws)(lo:∀w∈ws,rE N w):hE K H (.ref l) (dL ws):=.lst (SqL.of e) (Cf t lo)
theorem Bv(ok:∀i,Oo (N i)=true):∀{ws:List (List V)},(∀w∈ws,rE N w)->Qy (ws.map dT')=true/\Pw (ws.map dT')<=1
 | [],_=>⟨rfl,KW _⟩
 |w::ws,l=>by
  obtain⟨a,n,j,v,rfl,_⟩:=l w Ku;obtain⟨h1,h2⟩:=Bv ok (ws:=ws) λw hw=>l w (Kw _ hw);simp only[KP,Qy,Pw];refine⟨?_,?_⟩
  ·rw[h1];simp[dT',dV,PyData.canLay0,Qy,ok j]
  refine Nat.max_le.mpr ⟨?_,h2⟩;simp[dT',dV,PyData.depth,Pw]
theorem Iu(ok:∀i,Oo (N i)=true){ws:List (List V)}(l:∀w∈ws,rE N w):Ol (dL ws)=true/\P2 (dL ws) (dL ws)=true:=by
 obtain⟨h1,h2⟩:=Bv ok l;have c:(dL ws).canLay0=true:=h1;refine⟨?_,TM _ c⟩;unfold Ol;rw[c,decide_eq_true (show(dL ws).depth<=64 by show Pw (ws.map dT')+1<=64;omega)];rfl
structure Bg where
 N:Nat->Str
 rs:List Lr
 k:Nat
 ds:List Pt
 ms:List Pt
 E:En
 hs:List Hd
 p:Pa
 hv:List V
 xs:List V
 rows:List Rw
structure Prg(A:Adr)(H:Hp)(v:V)(g:Bg):Prop where
 D:eX g.N
 ok:∀i,Oo (g.N i)=true
 pg:sY A g.N H v (lfs g.k g.rs) g.ds g.ms
 l:g.rs.length<=500
 hk:yL g.rs
 ro:EI g.rs
 R:UC A g.N H v g.E g.hs g.p g.hv g.xs g.rows
theorem Prg.same{H H':Hp}{v:V}{g:Bg}(s:aq H H')(h:Prg A H v g):Prg A H' v g:=⟨h.D,h.ok,h.pg.same s,h.l,h.hk,h.ro,h.R.same s⟩
noncomputable def Bg.lt(g:Bg)(gn:Nat->Int)(gl:Nat->List Int):List (List V):=ltF g.E g.hs g.rows gn gl
theorem Prg.lts{H:Hp}{v:V}{g:Bg}(h:Prg A H v g)(gn:Nat->Int)(gl:Nat->List Int):(∀w∈g.lt gn gl,rE g.N w)/\(g.lt gn gl).length<=1000:=⟨by rw[<-h.R.n];exact G9 h.R.wf gn gl,DT h.R.wf h.R.ms gn gl⟩
theorem HZ:(⟨nmV 0,[],λ_=>0,[],[]⟩:En).Ok:=⟨qG 0,λ_ h=>(by cases h),.nil,λ_ h=>(by cases h),.nil,KW _,rfl,λ_ h=>(by cases h),λ_=>KW _,KW _⟩
noncomputable def EN(A:Adr)(H:Hp)(b l:NL)(xs:List V)(ws:List (List V)):Prop:=∃db f2 f3 f4 f5,H b=T9 (.ins A.fh db [("letters",.ref l),("said",f2),("trace",f3),("steps",f4),("ends",f5)])/\H l=T9 (.lst xs)/\kD H xs ws
inductive Ao(A:Adr)(vs:List V)(H:Hp)(Q:VK)(Z:XK):Prop
 |mk(v:V)(g:Bg)(gp:NL)(gn:Nat->Int)(gl:Nat->List Int):vs=[v,.ref gp]->Prg A H v g->oI g.E g.hs H gp gn gl->(∀b l xs H',aq H H'->EN A H' b l xs (g.lt gn gl)->Q (.ref b) H')->Ao A vs H Q Z
theorem GJ(T:Txt K mg A):Has P w K mg base 69 "run" ["program","gifts"] (Ao A):=
 (Has.ex (P:=P) (w:=w) (base:=base) (sp:=λE:En=>yA A E 20) (p:=λE=>E.Ok) ⟨nmV 0,[],λ_=>0,[],[]⟩ HZ λE h=>Jy T h 20).imp λvs H Q E0 h=>by
  obtain⟨v,g,gp,gn,gl,rfl,B,G,q⟩:=h;refine⟨g.E,B.R.ok,g.p,gp,g.hv,g.xs,g.hs,gn,gl,g.rows,by rw[B.R.v],B.R.pr,B.R.hd,G,B.R.rw,B.R.wf,MQ B.R.ms ∅,λb db l sd t e la H' s D _=>?_⟩;obtain⟨xs,h1,h2⟩:=D.hl;exact q b l xs H' s ⟨db,_,_,_,_,D.hb,h1,h2⟩
inductive Aj(A:Adr)(vs:List V)(H:Hp)(Q:VK)(Z:XK):Prop
 |mk(v:V)(g:Bg)(b l:NL)(xs:List V)(ws:List (List V))(rank:Int):vs=[v,.ref b,.int rank]->Prg A H v g->EN A H b l xs ws->(∀w∈ws,rE g.N w)->ws.length<=1000->(∀D ys H',aq H H'->H D=Ua->H' D=T9 (.lst ys)->kD H' ys (ws.filter (lC g.N rank))->Q (.ref D) H')->Aj A vs H Q Z
theorem xA{H1 H2:Hp}{D:NL}{rank:Int}{x:V}{xs:List V}{ws:List (List V)}(d:eX N)(R:wj N H1 D)(tp:kD H1 xs ws)(lo:∀w∈ws,rE N w)(hm:x∈xs)(s2:aq H1 H2):∃p a n h v,x=.ref p/\h<3/\H2 p=T9 (.tup [.int a,.int n,.str (N h),.int v])/\cP H2 D (.str (N h)) (T9 (.int (h:Nat)))/\ofH H1 (lC N rank) (.ref p)=decide ((h:Int)<=rank):=by
 obtain⟨p,w,rfl,hp,hw⟩:=xq tp hm;obtain⟨a,n,h,v,rfl,hh⟩:=lo w hw;refine⟨p,a,n,h,v,rfl,hh,s2 _ _ hp,(R.same s2).get d hh,?_⟩;show(match H1 p with|some (.tup w)=>lC N rank w|_=>false)=_;rw[hp];exact w9 d hh
theorem Gj(T:Txt K mg A):T.seen.Hz P w base 2 (Aj A):=by
 refine T.seen.hs (k:=1) zX (λf cdv A' outer s H vs Q E' hr hu h=>?_);obtain⟨v,g,b,l,xs,ws,rank,rfl,B,⟨db,f2,f3,f4,f5,hb,hl,tp⟩,lo,ln,q⟩:=h;refine⟨_,(ae (pst 3 zX.nd (ar (EJ T) hr (fv 0^af)))
 (ah (aB (jo (N:=["letter","rank","ranks"]) (own:=1) (fr:=[2,3]) (cJ.of (by kernel_rfl!)) rfl (cA (aE (fv 1) rfl)) (λb=>pgn (i:=0) (show OS (["letter","rank","ranks"]:List OY) by decide+kernel) rfl) (λb=>ox (ptc vY (px hu (fv 2) (px hu (fv 0) ab)) (fv 1))) (λb=>fv 0))))),?_⟩
 refine ak λM1 K1=>⟨g.N,v,g.rs,g.k,g.ds,g.ms,rfl,B.D,B.pg,B.l,B.hk,B.ro,λD H1 s1 R=>K1 _ _ ?_⟩;clear K1 M1;try dsimp only
 have lx:xs.length<=1000:=by
  have:=tp.len;omega
 have hl1:=SqL.of (K:=K) (s1 _ _ hl);have tp1:=tp.same s1;refine fdI (s1 _ _ hb) T.fi.cl T.dA rfl (KG ⟨⟨_,hl1⟩,fU (K:=K) (ofH H1 (lC g.N rank)) (λx=>x) hl1 (ax lx) (λb' x H2 R' hm s2 k=>?_) (λb' x H2 R' hm hp s2 k=>k _ (aq.refl _)) (λD2 H2 hD s2 e=>?_)⟩)
 ·obtain⟨p,a,n,h,v',rfl,hh,hp,hg,e⟩:=xA (rank:=rank) B.D R tp1 lo hm s2;rw[e]at k;exact tix (j:=2) (SqT.of hp) rfl ⟨_,hg,_,rfl,k _ (aq.refl _)⟩
 rw[MO]at e;exact q D2 _ H2 (s1.trans s2) (aq.free s1 hD) e ((jc _ tp1).same s2)
noncomputable def CD(c:Int):Int:=if c%4<2 then c/4%4 else if c%4=2 then 1000000000000-1-c/4%3 else c/4%1000000000000
theorem uZ(c:Int):In (CD c):=by
 have m4:=cf (c/4) (show(0:Int)<4 by decide);have m3:=cf (c/4) (show(0:Int)<3 by decide);have mm:=cf (c/4) (show(0:Int)<1000000000000 by decide);unfold CD In;split
 ·omega
 split<;>omega
inductive zM(vs:List V)(H:Hp)(Q:VK)(Z:XK):Prop
 |mk(c:Int):vs=[.int c]->Q (.int (CD c)) H->zM vs H Q Z
theorem Gs(T:Txt K mg A):T.iG.Hz P w base 1 zM:=by
 refine T.iG.hs nH (λf cdv A' outer s H vs Q E hr hu h=>?_);obtain⟨c,rfl,q⟩:=h;refine⟨_,(ae (aL (ptc vI (aw bF (fv 0) ab) ab)
  (ah (aB (aw bF (aw cE (fv 0) ab) ab)))
  aC)
 (ae (aL (ptc (aZ hu) (aw bF (fv 0) ab) ab)
  (ah (aB (aw oT (aw oT (aw oW ab ab) ab) (aw bF (aw cE (fv 0) ab) ab))))
  aC)
 (ah (aB (aw bF (aw cE (fv 0) ab) (aw oW ab ab)))))),?_⟩
 unfold CD at q;refine⟨(by show(0:Int)<4;decide),_,rfl,aV (λz=>?_) (λz=>?_)⟩
 ·rw[if_pos (of_decide_eq_true z)]at q;exact⟨⟨∅,∅⟩,(by show(0:Int)<4;decide),q⟩
 rw[if_neg (λy=>z (decide_eq_true y))]at q;refine⟨(by show(0:Int)<4;decide),rfl,_,rfl,aV (λz=>?_) (λz=>?_)⟩
 ·rw[if_pos (V.int.inj (of_decide_eq_true z))]at q;exact⟨⟨∅,∅,∅⟩,⟨∅,∅⟩,(by show(0:Int)<3;decide),by rw[wI];exact q⟩
 rw[if_neg (λy=>z (decide_eq_true (congrArg V.int y)))]at q;exact⟨⟨∅,∅⟩,⟨∅,∅,∅⟩,(by show(0:Int)<10^(12:Int).toNat;decide),by rw[wI];exact q⟩
noncomputable def Gg(c:Int)(k j:Nat):Int:=if c/10^(18:Int).toNat=0 then c%10^(15:Int).toNat*((k:Int)+3)/((j:Int)+2)else c/2^(44*(4*(k:Int)+(j:Int))+1).toNat
noncomputable def uN(c:Int)(k j:Nat):Int:=CD (Gg c k j)
noncomputable def gls(c:Int)(k z:Nat):List Int:=(Od z).map (uN c k)
theorem Cs{c n:Int}{k z:Nat}(h:n∈gls c k z):In n:=by
 obtain⟨j,_,rfl⟩:=KS.mp h;exact uZ _
noncomputable def JO(H:Hp)(v:V)(c:Int)(k z:Nat):Prop:=(z=0->v=.int (uN c k 0))/\(0<z->∃a,v=.ref a/\H a=T9 (.lst ((gls c k z).map V.int))/\(gls c k z).length=z)
inductive Ad(vs:List V)(H:Hp)(Q:VK)(Z:XK):Prop
 |mk(c:Int)(k z:Nat):vs=[.int c,.int k,.int z]->k<=500->z<=4->(∀v H',aq H H'->JO H' v c k z->Q v H')->Ad vs H Q Z
theorem Fs(T:Txt K mg A):T.rB.Hz P w base 2 Ad:=by
 refine T.rB.hs (k:=1) je (λf cdv A' outer s H vs Q E hr hu h=>?_);obtain⟨c,k,z,rfl,hk,hz,q⟩:=h;refine⟨_,(ae (pst 3 je.nd (bA af))
 (ae (df Oa rfl (hZ rfl T.g8 (pcB Bf T.sG (ab^fv 2^af)^af)) (pgn (i:=4) je.nd rfl)
  (ae (pst 5 je.nd (pcT nY T.mG (pec (uX hu) (aw cE (fv 0) (aw oW ab ab)) ab^af)))
  (ah (aI (cw (fv 3) (ar (Gs T) hr (px hu (bA (aw cE (aw dg (aw bF (fv 0) (aw oW ab ab)) (aw bC (fv 1) ab)) (aw bC (fv 4) ab)^aw BD (fv 0) (aw bC (aw dg ab (aw bC (aw dg ab (fv 1)) (fv 4))) ab)^af)) (fv 5)^af)^af))))))
 (ae (aL (ptc (aZ hu) (fv 2) ab)
  (ah (aB (px hu (fv 3) ab)))
  aC)
 (ah (aB (fv 3)))))),?_⟩
 refine ak λM1 K1=>⟨KW _,λL hL=>?_⟩;obtain⟨s1,e1⟩:=alc hL (HO.lst []);generalize upd H L _=H1 at s1 e1⊢;refine K1 _ _ ?_;clear K1 M1;try dsimp only
 refine ak λM1 K1=>⟨_,_,rfl,?_⟩;rw[show(if(z:Int)>1 then(z:Int)else 1)=((max 1 z:Nat):Int) by split<;>omega];refine⟨_,rfl,(),(),?_⟩;rw[LI];refine mY (lo:=0) (λi σ Hc=>∃(v4 v5:Option V),σ=[T9 (.int c),T9 (.int k),T9 (.int z),T9 (.ref L),v4,v5]/\aq H Hc/\Hc L=T9 (.lst ((gls c k i).map V.int))) ⟨Ua,Ua,rfl,s1,e1⟩ ?_ ?_
 ·rintro i σ Hc hi ⟨v4,v5,rfl,sc,hLc⟩;try dsimp only
  rw[show(0:Int)+(i:Int)=(i:Int) by omega];refine ak λM2 K2=>⟨⟨∅,∅,∅⟩,⟨∅,∅⟩,rfl,_,rfl,K2 _ _ ?_⟩;clear K2 M2;try dsimp only
  refine⟨KG ⟨rfl,_,SqL.of hLc⟩,⟨∅,∅,∅⟩,(by show(0:Int)<10^(15:Int).toNat;decide),.inr ⟨(),()⟩,⟨(),()⟩,.inl ⟨∅,∅⟩,.inl ⟨∅,∅⟩,(by show(0:Int)<=44*(4*(k:Int)+(i:Int))+1;omega),⟨by show 2<=sizeLine;decide,λl hl=>?_⟩⟩;obtain⟨s3,e3⟩:=alc hl (HO.lst [V.int (c%10^(15:Int).toNat*((k:Int)+3)/((i:Int)+2)),V.int (c/2^(44*(4*(k:Int)+(i:Int))+1).toNat)]);have lL:l≠L:=Ub hl hLc;have ll:(gls c k i).length<=1000:=by
   unfold gls;rw[Kx,Mh];omega
  have eg:gls c k (i+1)=gls c k i++[uN c k i]:=by
   unfold gls;rw[MN,KZ];rfl
  refine KG ?_;by_cases c0:c/10^(18:Int).toNat=0
  ·rw[show decide (V.int (c/10^(18:Int).toNat)=V.int 0)=true from decide_eq_true (by rw[c0])];refine⟨_,_,KG (SqL.of e3),rfl,_,rfl,⟨_,_,_,rfl,rfl,ag lL.symm hLc,ax (by rw[Kx];exact ll),⟨_,_,rfl,aq.out (sc.trans s3) hL _,?_⟩⟩⟩;rw[aj,eg,KZ];unfold uN Gg;rw[if_pos c0];rfl
  rw[show decide (V.int (c/10^(18:Int).toNat)=V.int 0)=false from decide_eq_false (λy=>c0 (V.int.inj y))];refine⟨_,_,KG (SqL.of e3),rfl,_,rfl,⟨_,_,_,rfl,rfl,ag lL.symm hLc,ax (by rw[Kx];exact ll),⟨_,_,rfl,aq.out (sc.trans s3) hL _,?_⟩⟩⟩;rw[aj,eg,KZ];unfold uN Gg;rw[if_neg c0];rfl
 rintro σ Hc ⟨v4,v5,rfl,sc,hLc⟩;refine K1 _ _ ?_;clear K1 M1;try dsimp only
 refine ak λM1 K1=>⟨rfl,_,rfl,aV (λy=>?_) (λy=>K1 _ _ ?_)⟩
 ·have y:(z:Int)=0:=V.int.inj (of_decide_eq_true y);have y:z=0:=()
  subst y;exact lix (SqL.of hLc) rfl (q _ _ sc ⟨λ_=>rfl,λe=>absurd e ∅⟩)
 have y:z≠0:=λe=>y (decide_eq_true (by rw[e];rfl));rw[show max 1 z=z by omega]at hLc;exact q _ Hc sc ⟨λe=>absurd e y,λ_=>⟨L,rfl,hLc,by unfold gls;rw[Kx,Mh]⟩⟩
structure GS where
 ix:List Nat
 n1:Nat->Int
 l1:Nat->List Int
 n2:Nat->Int
 l2:Nat->List Int
noncomputable def oX(f:Nat->List Int)(i:Nat)(v:List Int):Nat->List Int:=λj=>if j=i then v else f j
noncomputable def Am(c m hi:Int)(k:Nat)(s:GS):Lr->GS
 | .giv x r y=>⟨ins s.ix x,gY s.n1 x (uN c k 0),oX s.l1 x (gls c k y.toNat),gY s.n2 x (uN (if hi<r then m else c) k 0),oX s.l2 x (gls (if hi<r then m else c) k y.toNat)⟩
 |_=>s
noncomputable def eT(c m hi:Int)(lrs:List Lr):Nat->GS
 |0=>⟨[],λ_=>0,λ_=>[],λ_=>0,λ_=>[]⟩
 |i+1=>match lrs[i]? with
  |some r=>Am c m hi i (eT c m hi lrs i) r
  |none=>eT c m hi lrs i
structure GIn(s:GS):Prop where
 n1:∀i,In (s.n1 i)
 n2:∀i,In (s.n2 i)
 l1:∀i,∀n∈s.l1 i,In n
 l2:∀i,∀n∈s.l2 i,In n
theorem zU{f:Nat->Int}(h:∀i,In (f i))(x:Nat){v:Int}(hv:In v):∀i,In (gY f x v i):=λi=>by
 unfold gY;split
 ·exact hv
 exact h i
theorem vi{f:Nat->List Int}(h:∀i,∀n∈f i,In n)(x:Nat){v:List Int}(hv:∀n∈v,In n):∀i,∀n∈oX f x v i,In n:=λi=>by
 unfold oX;split
 ·exact hv
 exact h i
theorem zK(c m hi:Int)(lrs:List Lr):∀i,GIn (eT c m hi lrs i)
 |0=>⟨λ_=>⟨(show(0:Int)<=0 by decide),(show(0:Int)<1000000000000 by decide)⟩,λ_=>⟨(show(0:Int)<=0 by decide),(show(0:Int)<1000000000000 by decide)⟩,λ_ n h=>(by cases h),λ_ n h=>(by cases h)⟩
 |i+1=>by
  have h:=zK c m hi lrs i;unfold eT;split
  ·rename_i r _;cases r with
   |giv x r y=>exact⟨zU h.n1 x (uZ _),zU h.n2 x (uZ _),vi h.l1 x (λn hn=>Cs hn),vi h.l2 x (λn hn=>Cs hn)⟩
   |_=>exact h
  exact h
theorem wZ{c m hi:Int}{lrs:List Lr}{x:Nat}{r y:Int}:∀{i j:Nat},j<i->lrs[j]?=T9 (.giv x r y)->x∈(eT c m hi lrs i).ix
 |i+1,j,h,e=>by
  by_cases c':j=i
  ·subst c';unfold eT;rw[e];exact sk _ _
  have:=wZ (c:=c) (m:=m) (hi:=hi) (i:=i) () e;unfold eT;split
  ·rename_i r' _;cases r' with
   |giv x' r y=>exact nj this
   |_=>exact this
  exact this
noncomputable def GAt(N:Nat->Str)(z:Int)(H:Hp)(g:NL)(ix:List Nat)(n:Nat->Int)(l:Nat->List Int):Prop:=∃f:Nat->V,H g=T9 (.dK (dk N ix f))/\(∀j∈ix,j<25)/\∀x∈ix,(szF z x=0->f x=.int (n x))/\(0<szF z x->∃a,f x=.ref a/\H a=T9 (.lst ((l x).map V.int))/\(l x).length=szF z x)
theorem GAt.same{z:Int}{H H':Hp}{g:NL}{ix:List Nat}{n:Nat->Int}{l:Nat->List Int}(s:aq H H')(h:GAt N z H g ix n l):GAt N z H' g ix n l:=by
 obtain⟨f,h1,h2,h3⟩:=h;refine⟨f,s _ _ h1,h2,λx hx=>⟨(h3 x hx).1,λh=>?_⟩⟩;obtain⟨a,e1,e2,e3⟩:=(h3 x hx).2 h;exact⟨a,e1,s _ _ e2,e3⟩
theorem GAt.but{z:Int}{H:Hp}{g g':NL}{ix:List Nat}{n:Nat->Int}{l:Nat->List Int}{o:HO}{kvs:List (Key×V)}(h:GAt N z H g ix n l)(ne:g≠g')(e:H g'=T9 (.dK kvs)):GAt N z (upd H g' o) g ix n l:=by
 obtain⟨f,h1,h2,h3⟩:=h;refine⟨f,ag ne h1,h2,λx hx=>⟨(h3 x hx).1,λh=>?_⟩⟩;obtain⟨a,e1,e2,e3⟩:=(h3 x hx).2 h;exact⟨a,e1,ag (λz=>by rw[z,e]at e2;cases e2) e2,e3⟩
theorem GAt.put{z:Int}{H:Hp}{g:NL}{ix:List Nat}{n:Nat->Int}{l:Nat->List Int}{x:Nat}{f:Nat->V}{v:V}{m:Int}{k:List Int}(d:eX N)(hx:x<25)(h1:H g=T9 (.dK (dk N ix f)))(h2:∀j∈ix,j<25)(h3:∀x∈ix,(szF z x=0->f x=.int (n x))/\(0<szF z x->∃a,f x=.ref a/\H a=T9 (.lst ((l x).map V.int))/\(l x).length=szF z x))(v0:szF z x=0->v=.int m)(v1:0<szF z x->∃a,v=.ref a/\H a=T9 (.lst (k.map V.int))/\k.length=szF z x):GAt N z (upd H g (.dK (Ue (dk N ix f) (.inr (N x)) v))) g (ins ix x) (gY n x m) (oX l x k):=by
 refine⟨nz f x v,by rw[aj,u3 d hx h2],BE h2 hx,λy hy=>?_⟩;have kp:∀{a:NL}{xs:List V},H a=T9 (.lst xs)->upd H g (.dK (Ue (dk N ix f) (.inr (N x)) v)) a=T9 (.lst xs):=λe=>ag (λz=>by rw[z,h1]at e;cases e) e;unfold nz gY oX;by_cases c:y=x
 ·rw[if_pos c,if_pos c,if_pos c,c];refine⟨v0,λh=>?_⟩;obtain⟨a,e1,e2,e3⟩:=v1 h;exact⟨a,e1,kp e2,e3⟩
 rw[if_neg c,if_neg c,if_neg c];have hy:=h3 y ((uY hy).resolve_left c);refine⟨hy.1,λh=>?_⟩;obtain⟨a,e1,e2,e3⟩:=hy.2 h;exact⟨a,e1,kp e2,e3⟩
theorem EG(ix:List Nat)(x:Nat):ins (ins ix x) x=ins ix x:=if_pos (sk ix x)
theorem Jz(f:Nat->Int)(x:Nat)(a b:Int):gY (gY f x a) x b=gY f x b:=funext λj=>by
 unfold gY;split<;>rfl
theorem JF(f:Nat->List Int)(x:Nat)(a b:List Int):oX (oX f x a) x b=oX f x b:=funext λj=>by
 unfold oX;split<;>rfl
theorem Dr{r:Lr}(h:r.w="given"):∃i m z,r=.giv i m z:=by
 cases r with
 |giv i m z=>exact⟨i,m,z,rfl⟩
 |hand _ _=>exact absurd h (show ¬ ("hand":Str)="given" by decide)
 |own _ _=>exact absurd h (show ¬ ("own":Str)="given" by decide)
 |lt _ _=>exact absurd h (show ¬ ("let":Str)="given" by decide)
 |set _ _=>exact absurd h (show ¬ ("set":Str)="given" by decide)
 |put _ _ _=>exact absurd h (show ¬ ("put":Str)="given" by decide)
 |snd _ _=>exact absurd h (show ¬ ("send":Str)="given" by decide)
 |say _ _ _=>exact absurd h (show ¬ ("say":Str)="given" by decide)
 |call _ _=>exact absurd h (show ¬ ("call":Str)="given" by decide)
 |last=>exact absurd h (show ¬ ("last":Str)="given" by decide)
 |iff _ _ _=>exact absurd h (show ¬ ("if":Str)="given" by decide)
 |loop _ _ _ _=>exact absurd h (show ¬ ("loop":Str)="given" by decide)
 |els=>exact absurd h (show ¬ ("else":Str)="given" by decide)
 |fin=>exact absurd h (show ¬ ("end":Str)="given" by decide)
 |fT _ _=>exact absurd h (show ¬ ("deed":Str)="given" by decide)
 |main=>exact absurd h (show ¬ ("main":Str)="given" by decide)
noncomputable def FE(z:Int)(lrs:List Lr):Prop:=∀i r y,Lr.giv i r y∈lrs->i<25/\y=(szF z i:Int)
inductive xZ(K:NO)(vs:List V)(H:Hp)(Q:VK)(Z:XK):Prop
 |mk(N:Nat->Str)(z:Int)(LR:NL)(rows:List V)(lrs:List Lr)(c m hi:Int):vs=[.ref LR,.int c,.int m,.int hi]->eX N->z<=4->H LR=T9 (.lst rows)->Paired (bS N H) rows lrs->lrs.length<=500->FE z lrs->(∀(g1 g2 t:NL)(H':Hp),aq H H'->H g2=Ua->g2≠g1->H' t=T9 (.tup [.ref g1,.ref g2])->GAt N z H' g1 (eT c m hi lrs lrs.length).ix (eT c m hi lrs lrs.length).n1 (eT c m hi lrs lrs.length).l1->GAt N z H' g2 (eT c m hi lrs lrs.length).ix (eT c m hi lrs lrs.length).n2 (eT c m hi lrs lrs.length).l2->Q (.ref t) H')->xZ K vs H Q Z
theorem Ew(T:Txt K mg A):T.pR.Hz P w base 3 (xZ K):=by
 have NC:=@Fs P w _ _ base _ T;refine T.pR.hs (k:=2) gZ (λf cdv A' outer s H vs Q E hr hu h=>?_);obtain⟨N,z,LR,rows,lrs,c,m,hi,rfl,d,hz,hLR,pr,ln,go,q⟩:=h;have lr:rows.length=lrs.length:=NV pr;have s4:∀x,szF z x<=4:=λx=>by
  unfold szF;split<;>omega
 refine⟨_,(ae (pst 4 gZ.nd (eM))
 (ae (pst 5 gZ.nd (eM))
 (ae (df Oa rfl (hZ rfl T.g8 (pcB cu T.cI (fv 0^af)^af)) (pgn (i:=6) gZ.nd rfl)
  (ah (aL (ptc (aZ hu) (px hu (px hu (fv 0) (fv 6)) ab) ao)
   (ae (bo (ar NC hr (fv 1^fv 6^px hu (px hu (fv 0) (fv 6)) ab^af)) (bz (fv 4) (px hu (px hu (fv 0) (fv 6)) ab) (bu hu Uc)))
   (ae (bo (ar NC hr (fv 1^fv 6^px hu (px hu (fv 0) (fv 6)) ab^af)) (bz (fv 5) (px hu (px hu (fv 0) (fv 6)) ab) (bu hu Uc)))
   (ah (aL (ptc qq (px hu (px hu (fv 0) (fv 6)) ab) (fv 3))
    (ah (bo (ar NC hr (fv 2^fv 6^px hu (px hu (fv 0) (fv 6)) ab^af)) (bz (fv 5) (px hu (px hu (fv 0) (fv 6)) ab) (bu hu Uc))))
    aC))))
   aC)))
 (ah (aB (bp (fv 4^fv 5^af))))))),?_⟩
 refine ak λM1 K1 g1 hg1=>?_;obtain⟨s1,e1⟩:=alc hg1 (HO.dK []);generalize upd H g1 _=H1 at s1 e1⊢;refine K1 _ _ ?_;clear K1 M1;try dsimp only
 refine ak λM1 K1 g2 hg2=>?_;have n12:g2≠g1:=Ub hg2 e1;have hg2':=aq.free s1 hg2;obtain⟨s2,e2⟩:=alc hg2 (HO.dK []);generalize upd H1 g2 _=H2 at s2 e2⊢;have e1:=s2 _ _ e1;have s02:=s1.trans s2;clear s1 s2 hg2;refine K1 _ _ ?_;clear K1 M1;try dsimp only
 refine ak λM1 K1=>lnl (s02 _ _ hLR) ⟨_,rfl,(),(),?_⟩;rw[LI];refine mY (lo:=0) (λi σ Hc=>∃(v6:Option V),σ=[T9 (.ref LR),T9 (.int c),T9 (.int m),T9 (.int hi),T9 (.ref g1),T9 (.ref g2),v6]/\aq H Hc/\GAt N z Hc g1 (eT c m hi lrs i).ix (eT c m hi lrs i).n1 (eT c m hi lrs i).l1/\GAt N z Hc g2 (eT c m hi lrs i).ix (eT c m hi lrs i).n2 (eT c m hi lrs i).l2/\(eT c m hi lrs i).ix.length<=i) ⟨Ua,rfl,s02,⟨λ_=>.non,e1,λj h=>(by cases h),λj h=>(by cases h)⟩,⟨λ_=>.non,e2,λj h=>(by cases h),λj h=>(by cases h)⟩,KD _⟩ ?_ ?_
 ·rintro i σ Hc hi' ⟨v6,rfl,sc,G1,G2,gl⟩;try dsimp only
  rw[show(0:Int)+(i:Int)=(i:Int) by omega];have il:i<lrs.length:=()
  obtain⟨v,hv⟩:∃v,rows[i]?=T9 v:=⟨_,Kv hi'⟩;obtain⟨r,hr',t,p,rfl,et,_⟩:=bg pr hv;have at_:∀{X:Hp},aq H X->SqL K X LR rows:=λz=>SqL.of (z _ _ hLR);have ai:atI rows (i:Int)=T9 (.ref t):=eG hv;have ga:eT c m hi lrs (i+1)=Am c m hi i (eT c m hi lrs i) r:=by
   show(match lrs[i]? with|some r=>Am c m hi i (eT c m hi lrs i) r|none=>eT c m hi lrs i)=_;rw[hr']
  refine lix (at_ sc) ai (tix (j:=0) (SqT.of (sc _ _ et)) rfl ⟨rfl,_,rfl,aV (λy=>?_) (λy=>?_)⟩)
  ·obtain⟨x,rk,yz,rfl⟩:=Dr (dY y);obtain⟨x25,rfl⟩:=go x rk yz (KI hr');have et:H t=T9 (.tup [.str "given",.str (N x),.int rk,.int (szF z x:Int)]):=et;rw[ga];generalize eT c m hi lrs i=g at G1 G2 gl;have dl:∀{f:Nat->V},(dk N g.ix f).length<=1000:=λ{f}=>by
    unfold dk;rw[Kx];omega
   refine ak λM2 K2=>lix (at_ sc) ai (tix (j:=3) (SqT.of (sc _ _ et)) rfl ⟨c,i,szF z x,rfl,(),s4 x,λw1 Ha sa ⟨w10,w11⟩=>?_⟩);have sca:=sc.trans sa;obtain⟨f1,a1,a2,a3⟩:=G1.same sa;have G2a:=G2.same sa;refine lix (at_ sca) ai (tix (j:=1) (SqT.of (sca _ _ et)) rfl ⟨_,cY.k (k:=.inr (N x)) a1 (ax dl),?_⟩);have G1b:=GAt.put d x25 a1 a2 a3 w10 w11;have G2b:=G2a.but (o:=.dK (Ue (dk N g.ix f1) (.inr (N x)) w1)) n12 a1;have scb:aq H (upd Ha g1 (.dK (Ue (dk N g.ix f1) (.inr (N x)) w1))):=aq.out sca hg1 _;generalize upd Ha g1 (.dK (Ue (dk N g.ix f1) (.inr (N x)) w1))=Hb at G1b G2b scb⊢;clear G2a a1 a3 w10 w11;refine K2 _ _ ?_;clear K2 M2;try dsimp only
   refine ak λM2 K2=>lix (at_ scb) ai (tix (j:=3) (SqT.of (scb _ _ et)) rfl ⟨c,i,szF z x,rfl,(),s4 x,λw2 Hd sd ⟨w20,w21⟩=>?_⟩);have scd:=scb.trans sd;obtain⟨f2,b1,b2,b3⟩:=G2b.same sd;have G1d:=G1b.same sd;refine lix (at_ scd) ai (tix (j:=1) (SqT.of (scd _ _ et)) rfl ⟨_,cY.k (k:=.inr (N x)) b1 (ax dl),?_⟩);have G2e:=GAt.put d x25 b1 b2 b3 w20 w21;have G1e:=G1d.but (o:=.dK (Ue (dk N g.ix f2) (.inr (N x)) w2)) n12.symm b1;have sce:aq H (upd Hd g2 (.dK (Ue (dk N g.ix f2) (.inr (N x)) w2))):=aq.out scd hg2' _;generalize upd Hd g2 (.dK (Ue (dk N g.ix f2) (.inr (N x)) w2))=He at G1e G2e sce⊢;refine K2 _ _ ?_;clear K2 M2;try dsimp only
   refine lix (at_ sce) ai (tix (j:=2) (SqT.of (sce _ _ et)) rfl ⟨_,rfl,aV (λy=>?_) (λy=>?_)⟩)
   ·have y:rk>hi:=of_decide_eq_true y;refine lix (at_ sce) ai (tix (j:=3) (SqT.of (sce _ _ et)) rfl ⟨m,i,szF z x,rfl,(),s4 x,λw3 Hf sf ⟨w30,w31⟩=>?_⟩);have scf:=sce.trans sf;obtain⟨f4,k1,k2,k3⟩:=G2e.same sf;have G1f:=G1e.same sf;have dl':(dk N (ins g.ix x) f4).length<=1000:=by
     unfold dk;rw[Kx];have:=kG g.ix x;omega
    refine lix (at_ scf) ai (tix (j:=1) (SqT.of (scf _ _ et)) rfl ⟨_,cY.k (k:=.inr (N x)) k1 (ax dl'),?_⟩);have G2g:=GAt.put d x25 k1 k2 k3 w30 w31;have G1g:=G1f.but (o:=.dK (Ue (dk N (ins g.ix x) f4) (.inr (N x)) w3)) n12.symm k1;rw[EG,Jz,JF]at G2g;refine⟨_,rfl,aq.out scf hg2' _,G1g,?_,KR (kG _ _) (Mq gl)⟩;show GAt N z _ g2 (ins g.ix x) (gY g.n2 x (uN (if hi<rk then m else c) i 0)) (oX g.l2 x (gls (if hi<rk then m else c) i _));rw[if_pos y,LI];exact G2g
   have y:¬ hi<rk:=λh=>y (decide_eq_true h);refine⟨_,rfl,sce,G1e,?_,KR (kG _ _) (Mq gl)⟩;show GAt N z _ g2 (ins g.ix x) (gY g.n2 x (uN (if hi<rk then m else c) i 0)) (oX g.l2 x (gls (if hi<rk then m else c) i _));rw[if_neg y,LI];exact G2e
  have same:Am c m hi i (eT c m hi lrs i) r=eT c m hi lrs i:=by
   cases r with
   |giv i m z=>exact absurd (decide_eq_true rfl) y
   |_=>rfl
  rw[ga,same];exact⟨_,rfl,sc,G1,G2,Ld gl⟩
 rintro σ Hc ⟨v6,rfl,sc,G1,G2,gl⟩;refine K1 _ _ ?_;rw[lr]at G1 G2;exact⟨by show 2<=sizeLine;decide,λt ht=>q g1 g2 t _ (sc.trans (aq.upd ht _)) hg2' n12 aj (G1.same (aq.upd ht _)) (G2.same (aq.upd ht _))⟩
theorem HA{ix:List Nat}(h:ix.Nodup)(x:Nat):(ins ix x).Nodup:=by
 unfold ins;split
 ·exact h
 rename_i c;exact Ls.mpr ⟨h,by simp,λa ha b hb z=>by rw[Ky.mp hb]at z;exact c (z▸ha)⟩
theorem zO(c m hi:Int)(lrs:List Lr):∀i,(eT c m hi lrs i).ix.Nodup
 |0=>Nv
 |i+1=>by
  have h:=zO c m hi lrs i;unfold eT;split
  ·rename_i r _;cases r with
   |giv x r y=>exact HA h x
   |_=>exact h
  exact h
theorem vf(f:Nat->Int)(x:Nat):gY f x (f x)=f:=funext λj=>by
 unfold gY;split
 ·rename_i c;rw[c]
 rfl
theorem zw(f:Nat->List Int)(x:Nat):oX f x (f x)=f:=funext λj=>by
 unfold oX;split
 ·rename_i c;rw[c]
 rfl
theorem wa{ix:List Nat}{x:Nat}(h:x∈ix):ins ix x=ix:=if_pos h
theorem GAt.go{z:Int}{H H':Hp}{g g':NL}{ix:List Nat}{n:Nat->Int}{l:Nat->List Int}{kvs:List (Key×V)}(h:GAt N z H g ix n l)(ne:g≠g')(e:H g'=T9 (.dK kvs))(go:Go [g'] H [g'] H'):GAt N z H' g ix n l:=by
 have kp:∀{a:NL}{o:HO},a≠g'->H a=T9 o->H' a=T9 o:=λh=>go.o _ _ (λm=>h (Ky.mp m));obtain⟨f,h1,h2,h3⟩:=h;refine⟨f,kp ne h1,h2,λx hx=>⟨(h3 x hx).1,λh=>?_⟩⟩;obtain⟨a,e1,e2,e3⟩:=(h3 x hx).2 h;exact⟨a,e1,kp (λz=>by rw[z,e]at e2;cases e2) e2,e3⟩
theorem G5{z:Int}{x:Nat}(h:(0:Int)<(szF z x:Int)):0<szF z x:=()
inductive w6(vs:List V)(H:Hp)(Q:VK)(Z:XK):Prop
 |mk(N:Nat->Str)(z:Int)(LR g:NL)(rows:List V)(lrs:List Lr)(c:Int)(ix:List Nat)(n:Nat->Int)(l:Nat->List Int):vs=[.ref LR,.ref g,.int c]->eX N->H LR=T9 (.lst rows)->Paired (bS N H) rows lrs->FE z lrs->(∀x r y,Lr.giv x r y∈lrs->x∈ix)->ix.length<=500->GAt N z H g ix n l->(∀i,∀k∈l i,In k)->(∀x,szF z x<=4)->(∀(l':Nat->List Int)(H':Hp),Go [g] H [g] H'->GAt N z H' g ix n l'->(∀i,∀k∈l' i,In k)->Q .non H')->w6 vs H Q Z
theorem Dy(T:Txt K mg A):T.gJ.Hz P w base 1 w6:=by
 refine T.gJ.hs dF (λf cdv A' outer s H vs Q E hr hu h=>?_);obtain⟨N,z,LR,g,rows,lrs,c,ix,n,l,rfl,d,hLR,pr,go,gi,il,G,li,s4,q⟩:=h;have hg:∃kvs,H g=T9 (.dK kvs):=by obtain⟨f,h1,_⟩:=G;exact⟨_,h1⟩
 obtain⟨kvs,hg⟩:=hg;have kp:∀{Hc:Hp}{a:NL}{o:HO},Go [g] H [g] Hc->(∀k,o≠ .dK k)->H a=T9 o->Hc a=T9 o:=λgc nd e=>gc.o _ _ (λm=>by rw[Ky.mp m,hg]at e;exact nd _ (NP e).symm) e;refine⟨_,(ah (df Oa rfl (cA (fv 0)) (pgn (i:=3) dF.nd rfl)
  (ah (aL (PW.pt (pw_and (ptc (aZ hu) (px hu (fv 3) ab) ao) (pw_and1 (ptc qq (px hu (fv 3) ab) ab))))
   (ae (pst 4 dF.nd (pcT hJ T.cC (px hu (fv 1) (px hu (fv 3) ab)^af)))
   (ae (pst 5 dF.nd (aw bF (fv 2) (pcB cu T.cI (fv 4^af))))
   (ae (bo (aw bF (aw bC (aw bC (px hu (fv 4) (fv 5)) ab) (aw bF (aw cE (fv 2) ab) ab)) (aw oW ab ab)) (bz (fv 4) (fv 5) (bu hu Uc)))
   (ah (bo (fv 4) (bz (fv 1) (px hu (fv 3) ab) (bu hu Uc)))))))
   aC)))),?_⟩
 refine KG ⟨⟨_,SqL.of hLR⟩,cL (K:=K) (xs:=rows) (λi σ Hc=>∃(v3 v4 v5:Option V)(l':Nat->List Int),σ=[T9 (.ref LR),T9 (.ref g),T9 (.int c),v3,v4,v5]/\Go [g] H [g] Hc/\GAt N z Hc g ix n l'/\∀i,∀k∈l' i,In k) ⟨Ua,Ua,Ua,l,rfl,Go.refl _ _,G,li⟩ (λi σ Hc _ ⟨_,_,_,_,_,gc,_⟩=>SqL.of (kp gc dR hLR)) ?_ ?_⟩
 ·rintro i v σ Hc hv ⟨v3,v4,v5,l',rfl,gc,Gc,lc⟩;obtain⟨r,hr',t,p,rfl,et,_⟩:=bg pr hv;have et':=SqT.of (K:=K) (kp gc oG et);try dsimp only
  refine tix (j:=0) et' rfl ⟨rfl,_,rfl,aV (λy=>?_) (λy=>ba ⟨_,_,_,_,rfl,gc,Gc,lc⟩)⟩;obtain⟨x,rk,yz,rfl⟩:=Dr (dY y);obtain⟨x25,rfl⟩:=go x rk yz (KI hr');have hx:=gi x rk _ (KI hr');obtain⟨f,h1,h2,h3⟩:=Gc;refine tix (j:=3) et' rfl ⟨_,rfl,aV (λy=>?_) (λy=>⟨_,_,_,_,rfl,gc,⟨f,h1,h2,h3⟩,lc⟩)⟩;have zp:=G5 (of_decide_eq_true y);obtain⟨a,fa,ha,al⟩:=(h3 x hx).2 zp;have gx:=eJ d (.inl h1) h2 hx;rw[fa]at gx;try dsimp only
  refine ak λM1 K1=>tix (j:=1) et' rfl ⟨_,gx,KG ⟨a,_,rfl,KG (SqL.of ha),λL hL=>?_⟩⟩;obtain⟨s1,e1⟩:=alc hL (HO.lst ((l' x).map V.int));generalize upd Hc L _=H1 at s1 e1⊢;have ll:((l' x).map V.int).length=szF z x:=by rw[Kx,al]
  have zl:=s4 x;have LG:L≠g:=Ub hL h1;have go1:Go [g] H [g] H1:=gc.trans (Go.new s1);refine K1 _ _ ?_;clear K1 M1;try dsimp only
  refine ak λM1 K1=>lnl e1 ⟨(by rw[ll];omega),K1 _ _ ?_⟩;clear K1 M1;rw[ll];try dsimp only
  obtain⟨m0,m1⟩:=cf c (show(0:Int)<(szF z x:Int) by omega);obtain⟨j,hj⟩:∃j:Nat,c%(szF z x:Int)=(j:Int):=⟨(c%(szF z x:Int)).toNat,()⟩;rw[hj]at m0 m1⊢;have jl:j<(l' x).length:=()
  have jx:((l' x).map V.int)[j]?=T9 (.int ((l' x)[j]'jl)):=by rw[KO,Kv jl];rfl
  try dsimp only
  refine ak λM1 K1=>lix (SqL.of e1) (eG jx) ⟨⟨∅,∅⟩,(by show(0:Int)<3;decide),⟨∅,∅,∅⟩,(by show(0:Int)<10^(12:Int).toNat;decide),KG ⟨_,_,e1,FK (by rw[ll];omega),K1 _ _ ?_⟩⟩;try dsimp only
  obtain⟨u,hu'⟩:∃u,u=((l' x)[j]'jl+1+c/5%3)%10^(12:Int).toNat:=⟨_,rfl⟩;rw[<-hu'];have uin:In u:=by rw[hu',wI];exact cf _ ∅
  have e2:((l' x).map V.int).set j (.int u)=((l' x).set j u).map V.int:=by rw[List.map_set]
  rw[e2];have go2:Go [g] H [g] (upd H1 L (.lst (((l' x).set j u).map V.int))):=⟨λb o m e=>by
   rw[ay (λz=>by
    have:=gc.o b o m e;rw[z,hL]at this;cases this)]
   exact go1.o b o m e,go1.m⟩
  have h1':upd H1 L (.lst (((l' x).set j u).map V.int)) g=T9 (.dK (dk N ix f)):=ag LG.symm (s1 _ _ h1);have h3':∀y∈ix,(szF z y=0->f y=.int (n y))/\(0<szF z y->∃a,f y=.ref a/\upd H1 L (.lst (((l' x).set j u).map V.int)) a=T9 (.lst ((l' y).map V.int))/\(l' y).length=szF z y):=λy hy=>⟨(h3 y hy).1,λh=>by
   obtain⟨b,e1,e2,e3⟩:=(h3 y hy).2 h;exact⟨b,e1,ag (λz=>by rw[z,hL]at e2;cases e2) (s1 _ _ e2),e3⟩⟩
  have eL:upd H1 L (.lst (((l' x).set j u).map V.int)) L=T9 (.lst (((l' x).set j u).map V.int)):=aj;have et2:=kp go2 oG et;generalize upd H1 L _=H2 at go2 h1' h3' eL et2⊢;clear K1 M1;try dsimp only
  refine tix (j:=1) (SqT.of et2) rfl ⟨_,cY.k (k:=.inr (N x)) h1' (ax (by rw[dS];omega)),?_⟩;have G3:=GAt.put (m:=n x) (k:=(l' x).set j u) d x25 h1' h2 h3' (λe=>absurd e ()) (λ_=>⟨L,rfl,eL,by rw[Nq];exact al⟩);rw[wa hx,vf]at G3;refine⟨_,_,_,_,rfl,go2.trans (Go.at Ku _),G3,vi lc x λk hk=>?_⟩;rcases Qv hk with hk|hk
  ·exact lc x k hk
  rw[hk];exact uin
 rintro σ Hc ⟨v3,v4,v5,l',rfl,gc,Gc,lc⟩;exact q l' Hc gc Gc lc
noncomputable def oZ(t:Int)(ix:List Nat):List Nat:=if t=0 then ix else ix.reverse
theorem oJ{t:Int}{ix:List Nat}{x:Nat}:x∈oZ t ix↔x∈ix:=by
 unfold oZ;split
 ·rfl
 exact List.mem_reverse
theorem DP{t:Int}{ix:List Nat}(h:ix.Nodup):(oZ t ix).Nodup:=by
 unfold oZ;split
 ·exact h
 exact List.pairwise_reverse.mpr (h.imp λe=>e.symm)
theorem so(t:Int)(ix:List Nat):(oZ t ix).length=ix.length:=by
 unfold oZ;split
 ·rfl
 exact MU
theorem BW{b:List Nat}(h:b.Nodup){i x:Nat}(e:b[i]?=T9 x):ins (b.take i) x=b.take (i+1):=by
 rw[Lx,e];refine if_neg λm=>?_;obtain⟨j,hj⟩:=La m;rw[List.getElem?_take]at hj;split at hj
 ·rename_i c;obtain⟨k1,k2⟩:=KA.mp hj;obtain⟨k3,k4⟩:=KA.mp e;have:=(My h).mp (k2.trans k4.symm);omega
 cases hj
inductive ud(vs:List V)(H:Hp)(Q:VK)(Z:XK):Prop
 |mk(N:Nat->Str)(z:Int)(g:NL)(t:Int)(ix:List Nat)(n:Nat->Int)(l:Nat->List Int):vs=[.ref g,.int t]->(t=0\/t=1)->eX N->ix.Nodup->ix.length<=500->GAt N z H g ix n l->(∀(m:NL)(H':Hp),aq H H'->GAt N z H' m (oZ t ix) n l->Q (.ref m) H')->ud vs H Q Z
theorem C5(T:Txt K mg A):T.oB.Hz P w base 1 ud:=by
 refine T.oB.hs jY (λf cdv A' outer s H vs Q E hr hu h=>?_);obtain⟨N,z,g,t,ix,n,l,rfl,ht,d,nd,il,⟨f,h1,h2,h3⟩,q⟩:=h;refine⟨_,(ae (pst 2 jY.nd (eM))
 (ae (df Oa rfl (cA (px hu (bA (pcT hJ T.cC (fv 0^af)^G8 (pcT hJ T.cC (fv 0^af))^af)) (fv 1))) (pgn (i:=3) jY.nd rfl)
  (ae (bo (px hu (fv 0) (fv 3)) (bz (fv 2) (fv 3) (bu hu Uc)))
  (ah (aL (bN (pcB bw T.aG (px hu (fv 0) (fv 3)^(gX (v:=.ty "list") rfl T.cC (by boot_by_name) rfl)^af)) (λ_=>rfl))
   (ah (bo (pcT hJ T.cC (px hu (fv 0) (fv 3)^af)) (bz (fv 2) (fv 3) (bu hu Uc))))
   aC))))
 (ah (aB (fv 2))))),?_⟩
 refine ak λM1 K1 m hm=>?_;obtain⟨s1,e1⟩:=alc hm (HO.dK []);generalize upd H m _=H1 at s1 e1⊢;refine K1 _ _ ?_;clear K1 M1;try dsimp only
 refine ak λM1 K1=>?_;have ek:((dk N ix f).map λkv=>kV kv.1)=nV N ix:=by
  unfold dk;rw[Mx];rfl
 refine Lg ⟨g,_,rfl,.inl (s1 _ _ h1),λl1 hl1=>?_⟩;rw[ek];obtain⟨s2,e2⟩:=alc hl1 (HO.lst (nV N ix));generalize upd H1 l1 _=H2 at s2 e2⊢;refine Lg ⟨g,_,rfl,.inl ((s1.trans s2) _ _ h1),λl2 hl2=>?_⟩;rw[ek];obtain⟨s3,e3⟩:=alc hl2 (HO.lst (nV N ix));generalize upd H2 l2 _=H3 at s3 e3⊢;refine⟨l2,_,rfl,SqL.of e3,λl3 hl3=>?_⟩;obtain⟨s4,e4⟩:=alc hl3 (HO.lst (nV N ix).reverse);generalize upd H3 l3 _=H4 at s4 e4⊢;refine⟨by show 2<=sizeLine;decide,λl4 hl4=>?_⟩;obtain⟨s5,e5⟩:=alc hl4 (HO.lst [V.ref l1,.ref l3]);generalize upd H4 l4 _=H5 at s5 e5⊢;have s15:aq H1 H5:=((s2.trans s3).trans s4).trans s5;have s05:=s1.trans s15;obtain⟨L,hL,eL⟩:∃L,atI [V.ref l1,.ref l3] t=T9 (.ref L)/\H5 L=T9 (.lst (nV N (oZ t ix))):=by
  rcases ht with rfl|rfl
  ·exact⟨l1,rfl,((s3.trans s4).trans s5) _ _ e2⟩
  refine⟨l3,rfl,?_⟩;have:=s5 _ _ e4;rw[<-List.map_reverse]at this;exact this
 have e1:=s15 _ _ e1;clear s1 s2 s3 s4 s5 s15 e2 e3 e4 hl1 hl2 hl3;have od:=DP (t:=t) nd;have om:=@oJ t ix;have oln:=so t ix;generalize oZ t ix=b at eL od om oln q;refine lix (SqL.of e5) hL ?_;have mL:L≠m:=λz=>by rw[z,e1]at eL;cases eL
 refine KG ⟨⟨_,SqL.of eL⟩,cL (K:=K) (xs:=nV N b) (λi σ Hc=>∃(v3:Option V),σ=[T9 (.ref g),T9 (.int t),T9 (.ref m),v3]/\Go [m] H5 [m] Hc/\GAt N z Hc m (b.take i) n l) ⟨Ua,rfl,Go.refl _ _,λ_=>.non,e1,λ_ h=>(by cases h),λ_ h=>(by cases h)⟩ (λi σ Hc _ ⟨_,_,gc,_⟩=>SqL.of (gc.o _ _ (λz=>mL (Ky.mp z)) eL)) ?_ ?_⟩
 ·rintro i v σ Hc hv ⟨v3,rfl,gc,Gc⟩;rw[KO]at hv;obtain⟨x,hx,rfl⟩:=Ly.mp hv;have ib:i<b.length:=(KA.mp hx).1;have xi:=om.mp (KI hx);have x25:=h2 x xi;have sc:aq H Hc:=gc.keep s05 (λa ha=>by rw[Ky.mp ha];exact hm);obtain⟨w0,w1⟩:=h3 x xi;obtain⟨f2,a1,a2,a3⟩:=Gc;have dl:∀{j:Nat}{f:Nat->V},(dk N (b.take j) f).length<=1000:=λ{j f}=>by
   rw[dS,LA];omega
  try dsimp only
  refine ak λM2 K2=>⟨_,eJ d (.inl (sc _ _ h1)) h2 xi,_,cY.k (k:=.inr (N x)) a1 (ax dl),K2 _ _ ?_⟩;have w1c:0<szF z x->∃a,f x=.ref a/\Hc a=T9 (.lst ((l x).map V.int))/\(l x).length=szF z x:=λh=>by
   obtain⟨a,e1,e2,e3⟩:=w1 h;exact⟨a,e1,sc _ _ e2,e3⟩
  have G1:=GAt.put (m:=n x) (k:=l x) d x25 a1 a2 a3 w0 w1c;rw[vf,zw,BW od hx]at G1;have go1:Go [m] H5 [m] (upd Hc m (.dK (Ue (dk N (b.take i) f2) (.inr (N x)) (f x)))):=gc.trans (Go.at Ku _);generalize upd Hc m _=Hd at G1 go1⊢;have sd:aq H Hd:=go1.keep s05 (λa ha=>by rw[Ky.mp ha];exact hm);clear K2 M2 a1 a3;try dsimp only
  refine⟨_,eJ d (.inl (sd _ _ h1)) h2 xi,?_⟩;by_cases c:szF z x=0
  ·rw[w0 c];exact⟨_,_,_,false,rfl,(λz=>by cases z),.int _,HN,false,rfl,ba ⟨_,rfl,go1,G1⟩⟩
  obtain⟨a,fa,ha,al⟩:=w1 ();have gx:=eJ d (.inl (sd _ _ h1)) h2 xi;rw[fa]at gx⊢;refine⟨_,_,_,true,rfl,(λz=>by cases z),.lst (sd _ _ ha),ya,true,rfl,eI ⟨_,gx,KG ⟨a,_,rfl,KG (SqL.of (sd _ _ ha)),λL' hL'=>?_⟩⟩⟩;obtain⟨s6,e6⟩:=alc hL' (HO.lst ((l x).map V.int));generalize upd Hd L' _=He at s6 e6⊢;obtain⟨f4,b1,b2,b3⟩:=G1.same s6;refine⟨_,cY.k (k:=.inr (N x)) b1 (ax dl),_,rfl,(go1.trans (Go.new s6)).trans (Go.at Ku _),?_⟩;have G2:=GAt.put (m:=n x) (k:=l x) d x25 b1 b2 b3 (λe=>absurd e c) (λ_=>⟨L',rfl,e6,al⟩);rw[vf,zw,wa (by rw[Lx,hx];simp)]at G2;exact G2
 rintro σ Hc ⟨v3,rfl,gc,Gc⟩;rw[show b.take (nV N b).length=b by rw[Kx];exact Lm]at Gc;exact K1 _ _ (q m Hc (gc.keep s05 (λa ha=>by rw[Ky.mp ha];exact hm)) Gc)
noncomputable def Lr.hdB:Lr->Bool
 | .hand _ _=>true| .giv _ _ _=>true| .own _ _=>true| .lt _ _=>true
 |_=>false
mutual
theorem JL{ns tg:List Nat}{dd:List Dl}:∀t:Tr,t.ok ns tg dd->∀r∈flat t,r.hdB=false
 | .leaf r,ok,r',m=>by
  unfold Tr.ok at ok;unfold flat at m;rw[Ky.mp m];cases r<;>first|rfl|exact ok.elim
 | .iff v l r f o,ok,r',m=>by
  unfold Tr.ok at ok;unfold flat at m;simp only[Kt,Kz,KH,or_false]at m;rcases m with e|m|e|m|e
  ·rw[e];rfl
  ·exact sE f ok.2.2.2.1 r' m
  ·rw[e];rfl
  ·exact sE o ok.2.2.2.2 r' m
  rw[e];rfl
 | .loop t m' l r b,ok,r',m=>by
  unfold Tr.ok at ok;unfold flat at m;simp only[Kt,Kz,KH,or_false]at m;rcases m with e|m|e
  ·rw[e];rfl
  ·exact sE b ok.2.2.2.2.2 r' m
  rw[e];rfl
theorem sE{ns tg:List Nat}{dd:List Dl}:∀ts:List Tr,dU ns tg dd ts->∀r∈aX ts,r.hdB=false
 | [],_,r',m=>by
  unfold aX at m;cases m
 |t::ts,ok,r',m=>by
  unfold dU at ok;unfold aX at m;rcases Kz.mp m with m|m
  ·exact JL t ok.1 r' m
  exact sE ts ok.2 r' m
end
theorem HI:∀(ds:List Dl)(bs:List (List Tr)),(∀b∈bs,∃ns tg dd,dU ns tg dd b)->∀r∈dJ ds bs,r.hdB=false
 | [],_,_,r,m=>by
  unfold dJ at m;cases m
 |_::_,[],_,r,m=>by
  unfold dJ at m;cases m
 |d::ds,b::bs,ok,r,m=>by
  unfold dJ at m;simp only[Kt,Kz]at m;obtain⟨ns,tg,dd,ob⟩:=ok b Ku;rcases m with e|m|e|m
  ·rw[e];rfl
  ·exact sE b ob r m
  ·rw[e];rfl
  exact HI ds bs (λx hx=>ok x (Kw _ hx)) r m
structure sI(L:List Lr)(rk:Nat->Int)(z:Int):Prop where
 i:∀r∈L,r.hdB=true->r∈cc rk z
 o:∀r∈cc rk z,r∈L
theorem Dx{lim:Int}{lrs:List Lr}{rk:Nat->Int}{z:Int}{t:Nat}{dls:List Dl}{bss:List (List Tr)}{mb:List Tr}(D:A8 lim lrs rk z t dls bss mb):sI lrs rk z:=by
 refine⟨λr m h=>?_,λr m=>?_⟩
 ·rw[D.e]at m;simp only[Kz,Kt,KH,or_false]at m;rcases m with(m|m)|e|m|e
  ·exact(dC t _).mem_iff.mp m
  ·have:=HI dls bss (λb hb=>by
    obtain⟨j,hj⟩:=La hb;have jl:j<dls.length:=by
     rw[D.dd.len];exact(KA.mp hj).1
    exact⟨_,_,_,(D.dd.bs j _ b (Kv jl) hj).1⟩) r m
   rw[h]at this;cases this
  ·rw[e]at h;cases h
  ·have:=sE mb D.ob r m;rw[h]at this;cases this
  rw[e]at h;cases h
 rw[D.e];exact Lj _ (Lj _ ((dC t _).mem_iff.mpr m))
theorem EB(rk:Nat->Int)(z:Int)(t:Nat):sI (rot t (cc rk z)) rk z:=⟨λr m _=>(dC t _).mem_iff.mp m,λr m=>(dC t _).mem_iff.mpr m⟩
theorem sI.rk{L:List Lr}{rk:Nat->Int}{z:Int}(h:sI L rk z):EI L:=by
 refine⟨λi m hm=>?_,λi m hm=>?_,λj hj=>⟨j,h.o _ ?_⟩⟩
 ·have:=h.i _ hm rfl;simp[cc]at this;omega
 ·have:=h.i _ hm rfl;simp[cc]at this;omega
 have:=lt3 j ();rcases this with rfl|rfl|rfl<;>simp[cc]
theorem sI.gv{L:List Lr}{rk:Nat->Int}{z:Int}(h:sI L rk z)(hz:1<=z):FE z L:=λi r y hm=>by
 have:=h.i _ hm rfl;simp only[cc,Kt,KH,or_false]at this;have z0:((z.toNat:Nat):Int)=z:=MY ();rcases this with e|e|e|e|e|e|e|e|e|e|e|e|e<;>cases e
 ·exact⟨∅,rfl⟩
 ·exact⟨∅,rfl⟩
 ·exact⟨∅,rfl⟩
 exact⟨∅,z0.symm⟩
theorem CF{H:Hp}{g:NL}{ix:List Nat}{lrs:List Lr}{rk:Nat->Int}{z:Int}{t:Nat}{n:Nat->Int}{l:Nat->List Int}(D:eX N)(eN:E.N=N)(hh:sI lrs rk z)(hz:1<=z)(hm:∀x r y,Lr.giv x r y∈lrs->x∈ix)(G:GAt N z H g ix n l)(i1:∀i,In (n i))(i2:∀i,∀k∈l i,In k):oI E ((rot t (cc rk z)).map hdL) H g n l:=by
 obtain⟨f,h1,h2,h3⟩:=G;refine⟨⟨_,h1,λi y hy=>?_⟩,i1,i2⟩;obtain⟨r,hr,e⟩:=KS.mp hy;have hr':r∈cc rk z:=(dC t _).mem_iff.mp hr;have er:∃a b,r=.giv i a b/\y=b.toNat:=by
  cases r with
  |giv j a b=>cases e;exact⟨a,b,rfl,rfl⟩
  |_=>cases e
 obtain⟨a,b,rfl,rfl⟩:=er;have ml:=hh.o _ hr';obtain⟨_,eb⟩:=hh.gv hz i a b ml;subst eb;have mi:=hm _ _ _ ml;rw[eN,oF D h2 mi,LI];obtain⟨k1,k2⟩:=h3 i mi;refine⟨λe=>by rw[k1 e],λe=>?_⟩;obtain⟨x,q1,q2,q3⟩:=k2 e;exact⟨x,by rw[q1],q2,q3⟩
theorem Ak{H:Hp}{z:Int}{g g':NL}{ix ix':List Nat}{n:Nat->Int}{l:Nat->List Int}(D:eX N)(hl:ix.length=ix'.length)(hs:∀x∈ix,x∈ix')(G:GAt N z H g ix n l)(G':GAt N z H g' ix' n l):pY K H g g':=by
 obtain⟨f,h1,h2,h3⟩:=G;obtain⟨f',h1',h2',h3'⟩:=G';refine⟨_,_,.inl h1,.inl h1',by rw[dS,dS,hl],λk v hv=>?_⟩;obtain⟨j,hj,rfl,rfl⟩:=GH D h2 hv;have hj':=hs j hj;refine⟨f' j,oF D h2' hj',?_⟩;by_cases e:szF z j=0
 ·refine .inl ⟨by rw[(h3 j hj).1 e,(h3' j hj').1 e],by rw[(h3 j hj).1 e];rfl⟩
 obtain⟨a,e1,e2,_⟩:=(h3 j hj).2 ();obtain⟨a',e1',e2',_⟩:=(h3' j hj').2 ();refine .inr ⟨a,a',_,e1,e1',SqL.of e2,SqL.of e2',?_⟩;rw[List.all_map];exact Mp.mpr λ_ _=>rfl
end
section
variable{P:Program}{w:NW}{K:NO}{mg:Str->Option NK}{base:Oi}{A:Adr}{N:Nat->Str}{E:En}
seal PE PA PS PSs PT PW
noncomputable def lO(z:Int)(n1:Nat->Int)(l1:Nat->List Int)(n2:Nat->Int)(l2:Nat->List Int)(x:Nat):Bool:=if szF z x=0 then !decide (n1 x=n2 x)else !decide (l1 x=l2 x)
noncomputable def isU(d:Nat->Bool)(rank:Int):Lr->Bool
 | .giv x r _=>decide (r<=rank)&&d x
 |_=>false
noncomputable def ulF(N:Nat->Str)(d:Nat->Bool)(rank:Int)(rs:List Lr):V:=match rs.find? (isU d rank)with
 |some (.giv x _ _)=>.str (N x)
 |_=>.non
theorem Dq{d:Nat->Bool}{rank r y:Int}{rs:List Lr}{i x:Nat}(h:rs[i]?=T9 (.giv x r y))(no:∀q∈rs.take i,isU d rank q=false)(u:isU d rank (.giv x r y)=true):ulF N d rank rs=.str (N x):=by
 have:rs.find? (isU d rank)=T9 (.giv x r y):=by
  rw[List.find?_eq_some_iff_append];refine⟨u,rs.take i,rs.drop (i+1),?_,λq hq=>by rw[no q hq];rfl⟩;obtain⟨k,e⟩:=KA.mp h;rw[<-e,List.getElem_cons_drop];exact(Me i rs).symm
 unfold ulF;rw[this]
theorem Bl{d:Nat->Bool}{rank:Int}{rs:List Lr}(no:∀q∈rs,isU d rank q=false):ulF N d rank rs=.non:=by
 have:rs.find? (isU d rank)=Ua:=Ng.mpr λq hq=>by rw[no q hq];decide
 unfold ulF;rw[this]
theorem Fu{d:Nat->Bool}{rank:Int}{a b:List Lr}(h:∀r∈b,r.hdB=false):ulF N d rank (a++b)=ulF N d rank a:=by
 have:b.find? (isU d rank)=Ua:=Ng.mpr λq hq=>by
  have:=h q hq;cases q with
  |giv x r y=>cases this
  |_=>exact λz=>Mz z
 unfold ulF;rw[List.find?_append,this,Option.or_none]
theorem jr{d:Nat->Bool}{rank:Int}{rs:List Lr}{i:Nat}{r:Lr}(no:∀q∈rs.take i,isU d rank q=false)(h:rs[i]?=T9 r)(e:isU d rank r=false):∀q∈rs.take (i+1),isU d rank q=false:=λq hq=>by
 rw[Lx,h]at hq;rcases Kz.mp hq with hq|hq
 ·exact no q hq
 rw[Ky.mp hq];exact e
theorem zZ{z:Int}{H:Hp}{g1 g2:NL}{ix1 ix2:List Nat}{n1 n2:Nat->Int}{l1 l2:Nat->List Int}(d:eX N)(G1:GAt N z H g1 ix1 n1 l1)(G2:GAt N z H g2 ix2 n2 l2){x:Nat}(m1:x∈ix1)(m2:x∈ix2):∃v1 v2 d1 d2,cP H g1 (.str (N x)) (T9 v1)/\cP H g2 (.str (N x)) (T9 v2)/\hE K H v1 d1/\hE K H v2 d2/\Ol d1=true/\Ol d2=true/\(!PyData.eqv d1 d2)=lO z n1 l1 n2 l2 x:=by
 obtain⟨f,h1,h2,h3⟩:=G1;obtain⟨f',h1',h2',h3'⟩:=G2;refine⟨f x,f' x,?_⟩;unfold lO;by_cases c:szF z x=0
 ·rw[if_pos c];refine⟨.int (n1 x),.int (n2 x),eJ d (.inl h1) h2 m1,eJ d (.inl h1') h2' m2,?_,?_,rfl,rfl,?_⟩
  ·rw[(h3 x m1).1 c];exact .int _
  ·rw[(h3' x m2).1 c];exact .int _
  rw[LP];simp[P2]
 rw[if_neg c];obtain⟨a,e1,e2,_⟩:=(h3 x m1).2 ();obtain⟨a',e1',e2',_⟩:=(h3' x m2).2 ();refine⟨.list ((l1 x).map Px),.list ((l2 x).map Px),eJ d (.inl h1) h2 m1,eJ d (.inl h1') h2' m2,?_,?_,Up _,Up _,by rw[BV]⟩
 ·rw[e1];exact .lst (SqL.of e2) (.ints _)
 rw[e1'];exact .lst (SqL.of e2') (.ints _)
inductive uz(A:Adr)(vs:List V)(H:Hp)(Q:VK)(Z:XK):Prop
 |mk(N:Nat->Str)(v:V)(rs:List Lr)(k:Nat)(ds ms:List Pt)(z rank:Int)(g1 g2:NL)(ix1 ix2:List Nat)(n1 n2:Nat->Int)(l1 l2:Nat->List Int):vs=[v,.int rank,.ref g1,.ref g2]->eX N->sY A N H v (lfs k rs) ds ms->yL rs->(∀x r y,Lr.giv x r y∈rs->x∈ix1/\x∈ix2)->GAt N z H g1 ix1 n1 l1->GAt N z H g2 ix2 n2 l2->Q (ulF N (lO z n1 l1 n2 l2) rank rs) H->uz A vs H Q Z
theorem xn(T:Txt K mg A):T.kS.Hz P w base 1 (uz A):=by
 refine T.kS.hs lI (λf cdv A' outer s H vs Q E' hr hu h=>?_);obtain⟨N,v,rs,k,ds,ms,z,rank,g1,g2,ix1,ix2,n1,n2,l1,l2,rfl,dN,⟨a,dx,m0,m1,m2,x0,x1,x2,rfl,ha,e0,e1,e2,p0,p1,p2⟩,hk,gi,G1,G2,q⟩:=h;refine⟨_,(ae (df Oa rfl (cA (aE (fv 0) rfl)) (pgn (i:=4) lI.nd rfl)
  (ah (aL (PW.pt (pw_and (bN (pcB bw T.aG (fv 4^dh T.aJ.mg^af)) (λ_=>rfl)) (pw_and (ptc vY (aE (fv 4) rfl) (fv 1)) (pw_and1 (ptc (Ct hu) (px hu (fv 2) (aE (fv 4) rfl)) (px hu (fv 3) (aE (fv 4) rfl)))))))
   (ah (aB (aE (fv 4) rfl)))
   aC)))
 (ah (aB mH))),?_⟩
 refine ak λM1 K1=>fdI ha T.dO.cl T.cX rfl (KG ⟨⟨_,SqL.of e0⟩,cL (K:=K) (xs:=x0) (λi σ Hc=>∃(v4:Option V),σ=[T9 (.ref a),T9 (.int rank),T9 (.ref g1),T9 (.ref g2),v4]/\Hc=H/\∀q∈rs.take i,isU (lO z n1 l1 n2 l2) rank q=false) ⟨Ua,rfl,rfl,λq hq=>by rw[Ml]at hq;cases hq⟩ (λi σ Hc _ ⟨_,_,z,_⟩=>by rw[z];exact SqL.of e0) ?_ ?_⟩)
 ·rintro i v σ Hc hv ⟨v4,rfl,rfl,no⟩;obtain⟨t,ht,pa⟩:=p0.get hv;obtain⟨r,hr',rfl⟩:=va ht;have mr:r∈rs:=KI hr';unfold dQ at pa;try dsimp only
  rcases hk r mr with⟨j,m,rfl⟩|⟨j,m,y,rfl,_⟩|⟨j,y,rfl,_⟩|⟨j,m,rfl⟩
  ·obtain⟨b,db,rfl,h1⟩:=pa;exact isB (T.bG.bM h1) (bV T.bG T.aJ (au T 2 1) (au T 2 0)) (ba (ba ⟨_,rfl,rfl,jr no hr' rfl⟩))
  ·obtain⟨b,db,rfl,h1⟩:=pa;refine isB (T.aJ.bM h1) (nA T.aJ) (eI (fdI h1 T.aJ.cl T.gM rfl ⟨_,rfl,aV (λy1=>?_) (λy1=>ba ⟨_,rfl,rfl,jr no hr' ?_⟩)⟩))
   ·obtain⟨i1,i2⟩:=gi _ _ _ mr;obtain⟨u1,u2,d1,d2,q1,q2,q3,q4,q5,q6,q7⟩:=zZ (K:=K) dN G1 G2 i1 i2;refine fdI h1 T.aJ.cl T.cq rfl ⟨_,q1,fdI h1 T.aJ.cl T.cq rfl ⟨_,q2,d1,d2,q3,q4,q5,q6,_,rfl,?_⟩⟩;rw[q7];refine aV (λy2=>?_) (λy2=>⟨_,rfl,rfl,jr no hr' ?_⟩)
    ·rw[Dq hr' no (show(decide (m<=rank)&&lO z n1 l1 n2 l2 j)=true by rw[y1,y2];rfl)]at q;exact fdI h1 T.aJ.cl T.cq rfl q
    show(decide (m<=rank)&&lO z n1 l1 n2 l2 j)=false;rw[LO.mpr y2,TN]
   show(decide (m<=rank)&&lO z n1 l1 n2 l2 j)=false;rw[LO.mpr y1,Nb]
  ·obtain⟨b,db,rfl,h1⟩:=pa;exact isB (T.bb.bM h1) (bV T.bb T.aJ (au T 2 3) (au T 2 0)) (ba (ba ⟨_,rfl,rfl,jr no hr' rfl⟩))
  obtain⟨b,db,rfl,h1⟩:=pa;exact isB (T.bW.bM h1) (bV T.bW T.aJ (au T 2 4) (au T 2 0)) (ba (ba ⟨_,rfl,rfl,jr no hr' rfl⟩))
 rintro σ Hc ⟨v4,rfl,rfl,no⟩;rw[show rs.take x0.length=rs by rw[p0.len,vM];exact Lm]at no;rw[Bl no]at q;exact K1 _ _ q
inductive C9(K:NO)(vs:List V)(H:Hp)(Q:VK)(Z:XK):Prop
 |mk(N:Nat->Str)(LR:NL)(rows:List V)(rs:List Lr)(z rank:Int)(g1 g2:NL)(ix1 ix2:List Nat)(n1 n2:Nat->Int)(l1 l2:Nat->List Int):vs=[.ref LR,.ref g1,.ref g2,.int rank]->eX N->H LR=T9 (.lst rows)->Paired (bS N H) rows rs->(∀x r y,Lr.giv x r y∈rs->x∈ix1/\x∈ix2)->GAt N z H g1 ix1 n1 l1->GAt N z H g2 ix2 n2 l2->Q (ulF N (lO z n1 l1 n2 l2) rank rs) H->C9 K vs H Q Z
theorem IF(T:Txt K mg A):T.uU.Hz P w base 1 (C9 K):=by
 refine T.uU.hs rM (λf cdv A' outer s H vs Q E' hr hu h=>?_);obtain⟨N,LR,rows,rs,z,rank,g1,g2,ix1,ix2,n1,n2,l1,l2,rfl,dN,hLR,pr,gi,G1,G2,q⟩:=h;refine⟨_,(ae (df Oa rfl (cA (fv 0)) (pgn (i:=4) rM.nd rfl)
  (ah (aL (PW.pt (pw_and (ptc (aZ hu) (px hu (fv 4) ab) ao) (pw_and (ptc vY (px hu (fv 4) ab) (fv 3)) (pw_and1 (ptc (Ct hu) (px hu (fv 1) (px hu (fv 4) ab)) (px hu (fv 2) (px hu (fv 4) ab)))))))
   (ah (aB (px hu (fv 4) ab)))
   aC)))
 (ah (aB mH))),?_⟩
 refine ak λM1 K1=>KG ⟨⟨_,SqL.of hLR⟩,cL (K:=K) (xs:=rows) (λi σ Hc=>∃(v4:Option V),σ=[T9 (.ref LR),T9 (.ref g1),T9 (.ref g2),T9 (.int rank),v4]/\Hc=H/\∀q∈rs.take i,isU (lO z n1 l1 n2 l2) rank q=false) ⟨Ua,rfl,rfl,λq hq=>by rw[Ml]at hq;cases hq⟩ (λi σ Hc _ ⟨_,_,z,_⟩=>by rw[z];exact SqL.of hLR) ?_ ?_⟩
 ·rintro i v σ Hc hv ⟨v4,rfl,rfl,no⟩;obtain⟨r,hr',t,p,rfl,et,_⟩:=bg pr hv;have et':=SqT.of (K:=K) et;try dsimp only
  refine tix (j:=0) et' rfl ⟨rfl,_,rfl,aV (λy=>?_) (λy=>ba ⟨_,rfl,rfl,jr no hr' ?_⟩)⟩
  ·obtain⟨x,m,yz,rfl⟩:=Dr (dY y);refine tix (j:=2) et' rfl ⟨_,rfl,aV (λy1=>?_) (λy1=>ba ⟨_,rfl,rfl,jr no hr' ?_⟩)⟩
   ·obtain⟨i1,i2⟩:=gi _ _ _ (KI hr');obtain⟨u1,u2,d1,d2,q1,q2,q3,q4,q5,q6,q7⟩:=zZ (K:=K) dN G1 G2 i1 i2;refine tix (j:=1) et' rfl ⟨_,q1,(tix (j:=1) et' rfl ⟨_,q2,d1,d2,q3,q4,q5,q6,_,rfl,?_⟩)⟩;rw[q7];refine aV (λy2=>?_) (λy2=>⟨_,rfl,rfl,jr no hr' ?_⟩)
    ·rw[Dq hr' no (show(decide (m<=rank)&&lO z n1 l1 n2 l2 x)=true by rw[y1,y2];rfl)]at q;exact tix (j:=1) et' rfl q
    show(decide (m<=rank)&&lO z n1 l1 n2 l2 x)=false;rw[LO.mpr y2,TN]
   show(decide (m<=rank)&&lO z n1 l1 n2 l2 x)=false;rw[LO.mpr y1,Nb]
  cases r with
  |giv x m yz=>exact absurd (decide_eq_true rfl) y
  |_=>rfl
 rintro σ Hc ⟨v4,rfl,rfl,no⟩;rw[NV pr,Lm]at no;rw[Bl no]at q;exact K1 _ _ q
theorem GG{r:Lr}(h:r.w="hand"):∃i m,r=.hand i m:=by
 cases r with
 |hand i m=>exact⟨i,m,rfl⟩
 |giv _ _ _=>exact absurd h (show ¬ ("given":Str)="hand" by decide)
 |own _ _=>exact absurd h (show ¬ ("own":Str)="hand" by decide)
 |lt _ _=>exact absurd h (show ¬ ("let":Str)="hand" by decide)
 |set _ _=>exact absurd h (show ¬ ("set":Str)="hand" by decide)
 |put _ _ _=>exact absurd h (show ¬ ("put":Str)="hand" by decide)
 |snd _ _=>exact absurd h (show ¬ ("send":Str)="hand" by decide)
 |say _ _ _=>exact absurd h (show ¬ ("say":Str)="hand" by decide)
 |call _ _=>exact absurd h (show ¬ ("call":Str)="hand" by decide)
 |last=>exact absurd h (show ¬ ("last":Str)="hand" by decide)
 |iff _ _ _=>exact absurd h (show ¬ ("if":Str)="hand" by decide)
 |loop _ _ _ _=>exact absurd h (show ¬ ("loop":Str)="hand" by decide)
 |els=>exact absurd h (show ¬ ("else":Str)="hand" by decide)
 |fin=>exact absurd h (show ¬ ("end":Str)="hand" by decide)
 |fT _ _=>exact absurd h (show ¬ ("deed":Str)="hand" by decide)
 |main=>exact absurd h (show ¬ ("main":Str)="hand" by decide)
theorem Ge{d:Nat->Bool}{rank lim:Int}{lrs:List Lr}{rk:Nat->Int}{z:Int}{t:Nat}{dls:List Dl}{bss:List (List Tr)}{mb:List Tr}(D:A8 lim lrs rk z t dls bss mb):ulF N d rank lrs=ulF N d rank (rot t (cc rk z)):=by
 rw[D.e,Le];refine Fu λr m=>?_;simp only[Kz,Kt,KH,or_false]at m;rcases m with m|e|m|e
 ·exact HI dls bss (λb hb=>by
   obtain⟨j,hj⟩:=La hb;have jl:j<dls.length:=by
    rw[D.dd.len];exact(KA.mp hj).1
   exact⟨_,_,_,(D.dd.bs j _ b (Kv jl) hj).1⟩) r m
 ·rw[e];rfl
 ·exact sE mb D.ob r m
 rw[e];rfl
theorem Dw(ok:∀i,Oo (N i)=true)(d:Nat->Bool)(rank:Int)(rs:List Lr):∃e,(∀H,hE K H (ulF N d rank rs) e)/\Ol e=true/\P2 e e=true:=by
 unfold ulF;split
 ·rename_i x _ _ _;have c:(PyData.str (N x)).canLay0=true:=ok x;refine⟨.str (N x),λ_=>.str _,?_,TM _ c⟩;unfold Ol;rw[c];rfl
 exact⟨.none,λ_=>.non,rfl,rfl⟩
theorem Eh{z rank:Int}{n:Nat->Int}{l:Nat->List Int}{rs:List Lr}:ulF N (lO z n l n l) rank rs=.non:=Bl λq _=>by
 cases q with
 |giv x r y=>
  show(decide (r<=rank)&&lO z n l n l x)=false;unfold lO;rw[decide_eq_true rfl,decide_eq_true rfl];split<;>simp
 |_=>rfl
theorem DQ{ws:List (List V)}(d:eX N)(l:∀w∈ws,rE N w):ws.filter (lC N 2)=ws:=List.filter_eq_self.mpr λw hw=>by
 obtain⟨a,n,h,v,rfl,hh⟩:=l w hw;rw[w9 d hh];exact decide_eq_true ()
noncomputable def uK(K:NO):Sp:=λvs H Q _=>∃(a:NL)(ns:List Int),vs=[.ref a]/\SqL K H a (ns.map V.int)/\ns.length<=63/\∀H',Q (.bl true) H'
theorem Jh(T:Txt K mg A)(F:bL K mg "law" rQ ["_law_script"]):Has P w K mg base 70 "law" ["_law_script"] (uK K):=by
 have E9:=@yQ P w _ _ base _ T;have NA:=@C5 P w _ _ base _ T;have NF:=@Gj P w _ _ base _ T;refine F.hs (k:=69) eZ (λf cdv A' outer s0 H vs Q E hr hu h=>?_) (λvs H Q E h=>by obtain⟨a,ns,rfl,_⟩:=h;rfl);obtain⟨a,ns,rfl,hA,hlen,q⟩:=h;refine⟨_,(ae (pst 1 eZ.nd (ar (Eo T) hr (fv 0^aw bC (aw bF (ar E9 hr (fv 0^ab^af)) ab) ab^ab^af)))
 (ae (pst 2 eZ.nd (ar (F6 T) hr (fv 1^af)))
 (ae (pst 3 eZ.nd (aw bF (ar E9 hr (fv 0^ab^af)) ab))
 (ae (bo (ar (Ew T) hr (fv 1^ar E9 hr (fv 0^ab^af)^ar E9 hr (fv 0^ab^af)^aw bF (aw cE (ar E9 hr (fv 0^ab^af)) ab) ab^af)) (yF rfl (kA (pgn (i:=4) eZ.nd rfl) (kA (pgn (i:=5) eZ.nd rfl) vt))))
 (ae (aL (ptc (aZ hu) (aw bF (aw cE (ar E9 hr (fv 0^ab^af)) ab) ab) ab)
  (ah (aI (ar (Dy T) hr (fv 1^fv 5^aw bF (ar E9 hr (fv 0^ab^af)) ab^af))))
  aC)
 (ae (pst 6 eZ.nd (bA (ar NA hr (fv 4^aw bF (aw cE (ar E9 hr (fv 0^ab^af)) ab) ab^af)^ar NA hr (fv 5^aw bF (aw cE (ar E9 hr (fv 0^ab^af)) ab) ab^af)^af)))
 (ae (pst 7 eZ.nd (ar (xn T) hr (fv 2^fv 3^px hu (fv 6) ab^px hu (fv 6) ab^af)))
 (ae (pst 8 eZ.nd (ar (IF T) hr (fv 1^fv 4^fv 5^fv 3^af)))
 (ae (aL (PW.pt (pw_or (ptc (uX hu) (pec Jw (fv 7) mH) (pec Jw (fv 8) mH)) (pw_or (ptc (Ct hu) (fv 7) (fv 8)) (pw_or1 (ptc (Fm hu) (fv 6) (bA (fv 4^fv 5^af)))))))
  (ah (aB gU))
  aC)
 (ae (aL (ptc ED (ar (xn T) hr (fv 2^fv 3^px hu (fv 6) ab^ar NA hr (fv 4^ab^af)^af)) mH)
  (ah (aB gU))
  aC)
 (ae (pst 9 eZ.nd (ar (GJ T) hr (fv 2^px hu (fv 6) ab^af)))
 (ae (pst 10 eZ.nd (pcT hJ T.cC (aE (fv 9) rfl^af)))
 (ae (pst 11 eZ.nd (eM))
 (ae (df Oa rfl (cA (fv 1)) (pgn (i:=12) eZ.nd rfl)
  (ah (aL (ptc (aZ hu) (px hu (fv 12) ab) ao)
   (ah (bo (px hu (fv 12) ab) (bz (fv 11) (px hu (fv 12) ab) (bu hu Uc))))
   aC)))
 (ae (iw (j:=13) (N:=["_law_letter","_law_rank","_law_ranks"]) (own:=1) (fr:=[3,11]) (cJ.of (by kernel_rfl!)) rfl eZ.nd rfl (KG rfl) (cA (fv 10)) (λb=>pgn (i:=0) (show OS (["_law_letter","_law_rank","_law_ranks"]:List OY) by decide+kernel) rfl) (λb=>ox (ptc vY (px hu (fv 2) (px hu (fv 0) ab)) (fv 1))) (λb=>fv 0))
 (ae (pst 14 eZ.nd (ar NF hr (fv 2^fv 9^fv 3^af)))
 (ae (aL (PW.pt (pw_or (vP (bN (pcB bw T.aG (fv 14^(gX (v:=.ty "list") rfl T.cC (by boot_by_name) rfl)^af)) (λ_=>rfl))) (pw_or (ptc (uX hu) (fv 14) (fv 13)) (pw_or1 (vP (bN (pcB Dh T.tD ((jo (N:=["_law_letter"]) (own:=1) (fr:=[]) (cJ.of (by kernel_rfl!)) rfl (cA (fv 14)) (λb=>pgn (i:=0) (show OS (["_law_letter"]:List OY) by decide+kernel) rfl) (λb=>pN) (λb=>pcB bw T.aG (fv 0^(gX (v:=.ty "tuple") rfl T.qC (by boot_by_name) rfl)^af)))^af)) (λ_=>rfl)))))))
  (ah (aB gU))
  aC)
 (ae (aI (cw (fv 14) (mH^af)))
 (ae (aL (PW.pt (pw_or (ptc (uX hu) (ar NF hr (fv 2^fv 9^fv 3^af)) (fv 13)) (pw_or1 (ptc (uX hu) (ar NF hr (fv 2^fv 9^ab^af)) (fv 10)))))
  (ah (aB gU))
  aC)
 (ah (aB (pE (pec (aZ hu) (aE (fv 9) rfl) (fv 10)) (rR (pec (F2 hu) (fv 6) (bA (fv 4^fv 5^af)))))))))))))))))))))))))),?_⟩
 refine ak λM1 K1=>⟨a,ns,0,rfl,hA,∅,(by show(0:Int)<2;decide),a,ns,_,300,rfl,hA,λLR rows lrs rk z t dls bss mb H1 s1 hLR eLR pr D=>?_⟩;obtain⟨N,hN⟩:∃N,N=nmV (cellAt ns 1):=⟨_,rfl⟩;have dN:eX N:=by rw[hN];exact qG _
 have oN:∀i,Oo (N i)=true:=λi=>by rw[hN];exact IG _ i
 rw[<-hN]at pr;have pr1:Paired (bS N H1) rows lrs:=Paired.cS pr λ_ _ l=>l.same aA;obtain⟨body,eb,n,st,_⟩:=BQ D;have pr2:=pr1;rw[eb]at pr2;have ln:=D.l;have bl:body.length<=500:=by
  rw[eb,KC]at ln;omega
 have hz:=D.hz;have hd1:=Dx D;have hd2:=EB rk z t;refine K1 _ _ ?_;clear K1 M1;try dsimp only
 refine ak λM1 K1=>⟨N,LR,rows,body,_,_,_,_,_,rfl,eLR,pr2,st,bl,λv H2 s2 pg=>?_⟩;obtain⟨E1,p,hv,xs,rs,R,eS⟩:=EY D ∅ dN pg;obtain⟨g,hg⟩:∃g:Bg,g=⟨N,rot t (cc rk z),0,ptD (rot t (cc rk z)).length dls bss,pts (n+1) mb,E1,(rot t (cc rk z)).map hdL,p,hv,xs,rs⟩:=⟨_,rfl⟩;have gN:g.N=N:=by rw[hg]
 have gE:g.E.N=N:=by rw[hg];exact R.n
 have gh:g.hs=(rot t (cc rk z)).map hdL:=by rw[hg]
 have gr:g.rs=rot t (cc rk z):=by rw[hg]
 have B:Prg A H2 v g:=by
  subst hg;refine⟨dN,oN,pg,?_,λr m=>wu hz.1 ((dC t _).mem_iff.mp m),hd2.rk,R⟩;rw[(dC t _).length_eq];show 13<=500;decide
 have ulr:∀(d:Nat->Bool)(rank:Int),ulF N d rank lrs=ulF N d rank g.rs:=λd rank=>by rw[gr];exact Ge D
 clear hg R eS pg pr pr2 st;have s02:=s1.trans s2;have eLR:=s2 _ _ eLR;have pr:=Paired.cS pr1 λ_ _ l=>bS.same s2 l;clear pr1 s1 s2;have A2:=s02.seq hA;refine K1 _ _ ?_;clear K1 M1;try dsimp only
 refine ak λM1 K1=>⟨a,ns,4,rfl,A2,∅,(by show(0:Int)<3;decide),?_⟩;obtain⟨rank,hrk⟩:∃rank,rank=cellAt ns 4%3:=⟨_,rfl⟩;refine K1 _ _ ?_;clear K1 M1;try dsimp only
 rw[<-hrk];refine ak λM1 K1=>⟨a,ns,5,rfl,A2,∅,a,ns,6,rfl,A2,∅,a,ns,4,rfl,A2,∅,⟨∅,∅⟩,(by show(0:Int)<3;decide),N,z,LR,rows,lrs,_,_,(cellAt ns 4/3%3),rfl,dN,hz.2,eLR,pr,(),hd1.gv hz.1,λg1 g2 tg H3 s3 g20 n12 et G1 G2=>⟨tg,_,rfl,SqT.of et,rfl,_,_,rfl,_,_,rfl,rfl,K1 _ _ ?_⟩⟩;clear K1 M1 et;have gi:=zK (cellAt ns 5) (cellAt ns 6) (cellAt ns 4/3%3) lrs lrs.length;have nd:=zO (cellAt ns 5) (cellAt ns 6) (cellAt ns 4/3%3) lrs lrs.length;have im:∀x r y,Lr.giv x r y∈lrs->x∈(eT (cellAt ns 5) (cellAt ns 6) (cellAt ns 4/3%3) lrs lrs.length).ix:=λx r y m=>by
  obtain⟨j,hj⟩:=La m;exact wZ (KA.mp hj).1 hj
 generalize eT (cellAt ns 5) (cellAt ns 6) (cellAt ns 4/3%3) lrs lrs.length=gs at G1 G2 gi nd im;have il:gs.ix.length<=500:=by
  obtain⟨f,_,h2,_⟩:=G1;have:gs.ix.length<=(Od 25).length:=List.Nodup.length_le_of_subset nd λj hj=>Lu.mpr (h2 j hj);rw[Mh]at this;omega
 have s4:∀x,szF z x<=4:=λx=>by
  have:=hz.2;unfold szF;split<;>omega
 obtain⟨k2,hg2⟩:∃kvs,H3 g2=T9 (.dK kvs):=by obtain⟨f,h1,_⟩:=G2;exact⟨_,h1⟩
 have A3:=s3.seq A2;try dsimp only
 refine ak λM1 K1=>?_;have rest:∀(l2:Nat->List Int)(H4:Hp),Go [g2] H3 [g2] H4->GAt N z H4 g2 gs.ix gs.n2 l2->(∀i,∀k∈l2 i,In k)->M1 [T9 (.ref a),T9 (.ref LR),T9 v,T9 (.int rank),T9 (.ref g1),T9 (.ref g2),Ua,Ua,Ua,Ua,Ua,Ua,Ua,Ua,Ua] H4:=λl2 H4 go4 G2 li=>K1 _ _ (by
  clear K1 M1;have s24:aq H2 H4:=go4.keep s3 (λx hx=>by rw[Ky.mp hx];exact g20);have G1:=G1.go n12.symm hg2 go4;have A4:=s24.seq A2;have B:=B.same s24;have eLR:=s24 _ _ eLR;have pr:=Paired.cS pr λ_ _ l=>bS.same s24 l;clear s24 go4 A2 A3 s3 hg2 g20 s02 hA;refine ak λM1 K1=>?_;obtain⟨t1,ht1⟩:∃t1,t1=cellAt ns 0/2%2:=⟨_,rfl⟩;obtain⟨t2,ht2⟩:∃t2,t2=cellAt ns 0/4%2:=⟨_,rfl⟩;refine⟨a,ns,0,rfl,A4,∅,⟨∅,∅⟩,(by show(0:Int)<2;decide),N,z,g1,t1,gs.ix,gs.n1,gs.l1,(by rw[ht1];rfl),(),dN,nd,il,G1,λm1 H5 s5 C1=>⟨a,ns,0,rfl,s5.seq A4,∅,⟨∅,∅⟩,(by show(0:Int)<2;decide),N,z,g2,t2,gs.ix,gs.n2,l2,(by rw[ht2];rfl),(),dN,nd,il,G2.same s5,λm2 H6 s6 C2=>⟨by show 2<=sizeLine;decide,λhd hhd=>K1 _ _ ?_⟩⟩⟩;clear K1 M1;obtain⟨s7,e7⟩:=alc hhd (HO.lst [V.ref m1,.ref m2]);generalize upd H6 hd _=H7 at s7 e7⊢;have s47:=(s5.trans s6).trans s7;have C1:=C1.same (s6.trans s7);have C2:=C2.same s7;have G1:=G1.same s47;have G2:=G2.same s47;have B:=B.same s47;have eLR:=s47 _ _ eLR;have pr:=Paired.cS pr λ_ _ l=>bS.same s47 l;clear s5 s6 s7 s47 A4 hhd;have l1:=so t1 gs.ix;have l2':=so t2 gs.ix;have q1:∀x,x∈oZ t1 gs.ix↔x∈gs.ix:=λx=>oJ;have q2:∀x,x∈oZ t2 gs.ix↔x∈gs.ix:=λx=>oJ;generalize oZ t1 gs.ix=o1 at C1 l1 q1;generalize oZ t2 gs.ix=o2 at C2 l2' q2;have ig:∀x r y,Lr.giv x r y∈g.rs->x∈gs.ix:=λx r y m=>im x r y (hd1.o _ ((dC t _).mem_iff.mp (by rw[gr]at m;exact m)));have pgN:sY A N H7 v (lfs g.k g.rs) g.ds g.ms:=by rw[<-gN];exact B.pg
  try dsimp only
  refine ak λM1 K1=>lix (SqL.of e7) rfl (lix (SqL.of e7) rfl ⟨N,v,g.rs,g.k,g.ds,g.ms,z,rank,m1,m2,o1,o2,gs.n1,gs.n2,gs.l1,l2,rfl,dN,pgN,B.hk,λx r y m=>⟨(q1 x).mpr (ig x r y m),(q2 x).mpr (ig x r y m)⟩,C1,C2,K1 _ _ ?_⟩);clear K1 M1;try dsimp only
  refine ak λM1 K1=>⟨N,LR,rows,lrs,z,rank,g1,g2,gs.ix,gs.ix,gs.n1,gs.n2,gs.l1,l2,rfl,dN,eLR,pr,λx r y m=>⟨im x r y m,im x r y m⟩,G1,G2,K1 _ _ ?_⟩;clear K1 M1;rw[ulr];have uk:=Dw (K:=K) oN (lO z gs.n1 gs.l1 gs.n2 l2) rank g.rs;generalize ulF N (lO z gs.n1 gs.l1 gs.n2 l2) rank g.rs=u at uk⊢;try dsimp only
  refine ak λM1 K1=>⟨rfl,rfl,rfl,_,rfl,aV (λc=>absurd c (by rw[decide_eq_true rfl];decide)) (λ_=>?_)⟩;obtain⟨du,ur,us,ue⟩:=uk;refine⟨du,du,ur _,ur _,us,us,_,rfl,?_⟩;rw[ue];refine ba ⟨by show 2<=sizeLine;decide,λl8 hl8=>?_⟩;obtain⟨s8,e8⟩:=alc hl8 (HO.lst [V.ref g1,.ref g2]);generalize upd H7 l8 _=H8 at s8 e8⊢;have C1:=C1.same s8;have C2:=C2.same s8;have G1:=G1.same s8;have G2:=G2.same s8;have B:=B.same s8;have e7:=s8 _ _ e7;have eLR:=s8 _ _ eLR;have pr:=Paired.cS pr λ_ _ l=>bS.same s8 l;have dq:∀{H':Hp},aq H8 H'->∀(i:Nat)(x y:V),[V.ref m1,.ref m2][i]?=T9 x->[V.ref g1,.ref g2][i]?=T9 y->∃d e,x=.ref d/\y=.ref e/\pY K H' d e:=λ{H'} s i x y hx hy=>by
   match i,hx,hy with
   |0,hx,hy=>
    cases hx;cases hy;exact⟨m1,g1,rfl,rfl,Ak dN l1 (λx h=>(q1 x).mp h) (C1.same s) (G1.same s)⟩
   |1,hx,hy=>
    cases hx;cases hy;exact⟨m2,g2,rfl,rfl,Ak dN l2' (λx h=>(q2 x).mp h) (C2.same s) (G2.same s)⟩
  refine⟨hd,l8,_,_,rfl,rfl,SqL.of e7,SqL.of e8,rfl,dq (aq.refl _),_,rfl,ba (K1 _ _ ?_)⟩;clear K1 M1 s8 hl8 e8 ur us ue pgN;try dsimp only
  refine ak λM1 K1=>lix (SqL.of e7) rfl ⟨N,z,g1,1,gs.ix,gs.n1,gs.l1,rfl,.inr rfl,dN,nd,il,G1,λm3 H9 s9 C3=>?_⟩;have pgN:sY A N H9 v (lfs g.k g.rs) g.ds g.ms:=by rw[<-gN];exact(B.same s9).pg
  refine⟨N,v,g.rs,g.k,g.ds,g.ms,z,rank,m1,m3,o1,oZ 1 gs.ix,gs.n1,gs.n1,gs.l1,gs.l1,rfl,dN,pgN,B.hk,λx r y m=>⟨(q1 x).mpr (ig x r y m),oJ.mpr (ig x r y m)⟩,C1.same s9,C3,?_⟩;rw[Eh];refine⟨rfl,_,rfl,ba (K1 _ _ ?_)⟩;clear K1 M1 C3 pgN;have J1:oI g.E g.hs H9 m1 gs.n1 gs.l1:=by rw[gh];exact CF dN gE hd1 hz.1 (λx r y m=>(q1 x).mpr (im x r y m)) (C1.same s9) gi.n1 gi.l1
  obtain⟨ol,ml⟩:=B.lts gs.n1 gs.l1;rw[gN]at ol;have e7':=s9 _ _ e7;try dsimp only
  refine ak λM1 K1=>lix (SqL.of e7') rfl ⟨v,g,m1,gs.n1,gs.l1,rfl,B.same s9,J1,λb l xs H10 s10 bk=>K1 _ _ ?_⟩;clear K1 M1 J1 e7';generalize g.lt gs.n1 gs.l1=ws at ol ml bk;have s810:=s9.trans s10;obtain⟨db,f2,f3,f4,f5,hb,hl,tp⟩:=bk;have lx:xs.length<=1000:=by
   have:=tp.len;omega
  try dsimp only
  refine ak λM1 K1=>fdI hb T.fi.cl T.dA rfl (KG ⟨l,xs,rfl,KG (SqL.of hl),λlc hlc=>K1 _ _ ?_⟩);clear K1 M1;obtain⟨s11,elc⟩:=alc hlc (HO.lst xs);generalize upd H10 lc _=H11 at s11 elc⊢;try dsimp only
  refine ak λM1 K1 D hD=>?_;obtain⟨s12,eD⟩:=alc hD (HO.dK []);generalize upd H11 D _=H12 at s12 eD⊢;have hLR:=(s810.trans s11) _ _ eLR;have pr:=Paired.cS pr λ_ _ l=>bS.same (s810.trans s11) l;refine K1 _ _ ?_;clear K1 M1;try dsimp only
  refine ak λM1 K1=>KG ⟨⟨_,SqL.of (s12 _ _ hLR)⟩,cL (K:=K) (xs:=rows) (λi σ Hc=>∃(vx:Option V)(ix:List Nat)(f:Nat->V),σ=[T9 (.ref a),T9 (.ref LR),T9 v,T9 (.int rank),T9 (.ref g1),T9 (.ref g2),T9 (.ref hd),T9 u,T9 u,T9 (.ref b),T9 (.ref lc),T9 (.ref D),vx,Ua,Ua]/\aq H11 Hc/\RkM N Hc D lrs i ix f) ⟨Ua,[],λ_=>.non,rfl,s12,⟨eD,λj hj=>(by cases hj),λh _ hh=>(by cases hh),KD _,λh m hm=>(by rw[Ml]at hm;cases hm)⟩⟩ (λi σ Hc _ ⟨_,_,_,_,z,_⟩=>SqL.of (z _ _ hLR)) ?_ ?_⟩
  ·rintro i v σ Hc hv ⟨v4,ix,f,rfl,sc,R⟩;obtain⟨r,hr',t,p,rfl,et,_⟩:=bg pr hv;have ill:i<lrs.length:=(KA.mp hr').1;have kl:(dk N ix f).length<=1000:=by
    have:=R.l;rw[dS];omega
   have et':=SqT.of (K:=K) (sc _ _ et);try dsimp only
   refine tix (j:=0) et' rfl ⟨rfl,_,rfl,aV (λy=>?_) (λy=>?_)⟩
   ·obtain⟨j,m,rfl⟩:=GG (dY y);obtain⟨j3,rfl⟩:=hd1.rk.h _ _ (KI hr');exact tix (j:=2) et' rfl (tix (j:=1) et' rfl ⟨_,cY.k (k:=.inr (N j)) R.d (ax kl),_,_,_,rfl,aq.out sc hD _,R.put dN hr' () (λ_=>rfl) (λh m e=>by cases e;rfl) aj⟩)
   exact⟨_,_,_,rfl,sc,R.skip (aq.refl _) hr' (λh m e=>y (decide_eq_true (by rw[e];rfl)))⟩
  rintro σ Hc ⟨vx,ix,f,rfl,sc,R⟩;rw[NV pr]at R;have R:=R.done hd1.rk;refine K1 _ _ ?_;clear K1 M1 s12 eD hD pr hLR eLR;have s8c:=(s810.trans s11).trans sc;have hb:=(s11.trans sc) _ _ hb;have hl:=(s11.trans sc) _ _ hl;have tp:=(tp.same s11).same sc;have elc:=sc _ _ elc;have B:=B.same s8c;clear sc s11 s810 s9 s10;try dsimp only
  refine ak λM1 K1=>KG ⟨⟨_,SqL.of elc⟩,fU (K:=K) (ofH Hc (lC N rank)) (λx=>x) (SqL.of elc) (ax lx) (λb' x H2 R' hm s2 k=>?_) (λb' x H2 R' hm hp s2 k=>k _ (aq.refl _)) (λD2 H13 hD2 s13 e13=>K1 _ _ ?_)⟩
  ·obtain⟨p,a,n,h,v',rfl,hh,hp,hg,e⟩:=xA (rank:=rank) dN R tp ol hm s2;rw[e]at k;exact tix (j:=2) (SqT.of hp) rfl ⟨_,hg,_,rfl,k _ (aq.refl _)⟩
  clear K1 M1;rw[MO]at e13;have td:=(jc (lC N rank) tp).same s13;generalize xs.filter (ofH Hc (lC N rank))=yd at e13 td;have s8c:=s8c.trans s13;have hb:=s13 _ _ hb;have hl:=s13 _ _ hl;have tp:=tp.same s13;have elc:=s13 _ _ elc;have B:=B.same s13;clear s13 R hD2;have bk:EN A H13 b l xs ws:=⟨db,f2,f3,f4,f5,hb,hl,tp⟩;have lf:(ws.filter (lC N rank)).length<=1000:=KR (Mb _ _) ml;have of:∀w∈ws.filter (lC N rank),rE N w:=λw hw=>ol w (LJ.mp hw).1;obtain⟨sf,ef⟩:=Iu oN of;obtain⟨sw,ew⟩:=Iu oN ol;try dsimp only
  refine ak λM1 K1=>⟨v,g,b,l,xs,ws,rank,rfl,B,bk,by rw[gN];exact ol,ml,λD3 y3 H14 s14 hD3 e14 t14=>?_⟩;rw[gN]at t14;have l14:y3.length<=1000:=by
   have:=t14.len;omega
  refine K1 _ _ ?_;clear K1 M1;try dsimp only
  refine ak λM1 K1=>⟨_,_,_,true,rfl,(λz=>by cases z),.lst e14,ya,true,rfl,ba ⟨_,_,qa e14 t14 of,qa (s14 _ _ e13) (td.same s14) of,sf,sf,_,rfl,?_⟩⟩;rw[ef];refine ba (KG ⟨⟨_,SqL.of e14⟩,fU (K:=K) (λ_=>true) (λ_=>.bl true) (SqL.of e14) (ax l14) (λb x H2 R _ _ k=>k _ (aq.refl _)) (λb x H2 R hx _ s2 k=>?_) (λD4 H15 hD4 s15 e15=>?_)⟩)
  ·obtain⟨p,w',rfl,hp,_⟩:=xq t14 hx;exact⟨_,_,_,true,rfl,(λz=>by cases z),.tup (s2 _ _ hp),HB,k _ (aq.refl _)⟩
  rw[p9]at e15;refine⟨D4,y3.map (λ_=>true),rfl,SqL.of (by rw[e15,Mx];rfl),?_⟩;rw[show(y3.map (λ_=>true)).all id=true by simp];refine⟨_,rfl,ba (K1 _ _ ?_)⟩;clear K1 M1 hD4 e15;have e14:=s15 _ _ e14;try dsimp only
  refine ak λM1 K1=>⟨KG ⟨rfl,_,SqL.of e14⟩,_,_,_,rfl,rfl,e14,ax l14,?_⟩;have s16:aq H13 (upd H15 D3 (.lst (y3++[.non]))):=aq.out (s14.trans s15) hD3 _;generalize upd H15 D3 _=H16 at s16⊢;clear s14 s15 e14 t14 hD3;have s8c:=s8c.trans s16;have hb:=s16 _ _ hb;have hl:=s16 _ _ hl;have tp:=tp.same s16;have elc:=s16 _ _ elc;have B:=B.same s16;have bk:EN A H16 b l xs ws:=⟨db,f2,f3,f4,f5,hb,hl,tp⟩;have e13:=s16 _ _ e13;have td:=td.same s16;refine K1 _ _ ?_;clear K1 M1;try dsimp only
  refine ak λM1 K1=>⟨v,g,b,l,xs,ws,rank,rfl,B,bk,by rw[gN];exact ol,ml,λD5 y5 H17 s17 _ e17 t17=>?_⟩;rw[gN]at t17;refine⟨_,_,qa e17 t17 of,qa (s17 _ _ e13) (td.same s17) of,sf,sf,_,rfl,?_⟩;rw[ef];refine ba ⟨v,g,b,l,xs,ws,2,rfl,B.same s17,⟨db,f2,f3,f4,f5,s17 _ _ hb,s17 _ _ hl,tp.same s17⟩,by rw[gN];exact ol,ml,λD6 y6 H18 s18 _ e18 t18=>?_⟩;rw[gN,DQ dN ol]at t18;have s1618:=s17.trans s18;refine⟨_,_,qa e18 t18 ol,qa (s1618 _ _ elc) (tp.same s1618) ol,sw,sw,_,rfl,?_⟩;rw[ew];refine ba (K1 _ _ ?_);clear K1 M1 e17 t17 e18 t18;have s8c:=s8c.trans s1618;try dsimp only
  refine fdI (s1618 _ _ hb) T.fi.cl T.dA rfl (KG (KG ⟨_,_,qa (s1618 _ _ hl) (tp.same s1618) ol,qa (s1618 _ _ elc) (tp.same s1618) ol,sw,sw,_,rfl,?_⟩));rw[ew];refine eI ⟨by show 2<=sizeLine;decide,λl9 hl9=>?_⟩;have s19:=s8c.trans (aq.upd hl9 (HO.lst [V.ref g1,.ref g2]));exact⟨hd,l9,_,_,rfl,rfl,SqL.of (s19 _ _ e7),SqL.of aj,rfl,dq s19,q _⟩)
 refine⟨a,ns,4,rfl,A3,∅,⟨∅,∅⟩,(by show(0:Int)<3;decide),rfl,_,rfl,aV (λ_=>?_) (λ_=>rest gs.l2 H3 (Go.refl _ _) G2 gi.l2)⟩;exact⟨a,ns,7,rfl,A3,∅,(by show(0:Int)<1000003;decide),N,z,LR,g2,rows,lrs,_,gs.ix,gs.n2,gs.l2,rfl,dN,s3 _ _ eLR,Paired.cS pr (λ_ _ l=>bS.same s3 l),hd1.gv hz.1,im,il,G2,gi.l2,s4,λl' H4 go G li=>rest l' H4 go G li⟩
end
noncomputable abbrev FnI(K:NO)(f:NL)(x y:Str)(s:Oj):Prop:=∃(oc:NK)(od:Option NL)(kV dc pm:NK)(an:Option NL)(cd ct:NK)(sl:Array (Option NK)),K.lookup f=T9 ⟨oc,od,.func (PH x y (eE s) (dj s) (av s) .none kV dc pm an cd ct),sl⟩/\Q9 K cd y=true/\Po K (.ref f)=true
noncomputable abbrev dH(K:NO)(x:Str)(s:Oj):Prop:=∃f,TK K Of x=T9 (T9 (.ref f))/\FnI K f x x s
noncomputable abbrev fE(K:NO)(C:NL)(m q:Str)(s:Oj):Prop:=∃f,OJ K (.ref C) m=T9 (T9 (.ref f))/\TY K (.ref f)=true/\FnI K f m q s
noncomputable abbrev lM(K:NO)(C:NL)(x:Str)(up:List NL):Prop:=TK K Of x=T9 (T9 (.ref C))/\(∃cd,W.clsIn K C=T9 cd/\cd.mro=up.map NZ++[PV "object"])/\QQ K C Qi=true/\Q7 K C=true/\S4 K C=true/\OJ K (.ref C) "__setattr__"=T9 (T9 (.builtin "object.__setattr__"))/\W.typeIn K (.ref C)=T9 (.type "type")/\OJ K (.ref C) "__class__"=T9 (T9 (.builtin "object.__class__"))/\SN K C=true/\Po K (.ref C)=true
noncomputable abbrev NsI(K:NO)(x:Str):Prop:=TK K Of x=T9 Ua
noncomputable abbrev NoI(K:NO)(C:NL)(x:Str):Prop:=OJ K (.ref C) x=T9 Ua
section
variable{K:NO}{mg:Str->Option NK}{h:Oi}{x m q:Str}{s:Oj}{ps:List Str}{C:NL}{up:List NL}
theorem dI(X:K.In h)(G:h.Ns Of mg)(t:dH K x s)(b:∀(kV doc pm:NK)(an:Option NL)(cdv ct:NK)(us:List NK),us.length=ps.length->Q8 (PH x x (eE s) (dj s) (av s) .none kV doc pm an cdv ct) ⟨us,[]⟩=pure (ps.zip us)):bL K mg x s ps:=by
 obtain⟨f,a,_,_,_,_,_,_,_,_,_,l,c,k⟩:=t;exact BC X G a l c k b
theorem fR(t:fE K C m q s)(b:∀(kV doc pm:NK)(an:Option NL)(cdv ct:NK)(us:List NK),us.length=ps.length->Q8 (PH m q (eE s) (dj s) (av s) .none kV doc pm an cdv ct) ⟨us,[]⟩=pure (ps.zip us)):MFn K C m q s ps:=by
 obtain⟨f,a,i,_,_,_,_,_,_,_,_,_,l,c,k⟩:=t;exact HC a i l c k b
theorem lZ(X:K.In h)(G:h.Ns Of mg)(cg:PB K (.builtin "object.__class__") "__get__"=T9 (T9 (.builtin "getset_descriptor.__get__")))(ct:SO K (.builtin "object.__class__")=T9 true)(t:lM K C x up):eK K mg C x up:=by
 obtain⟨a,b,c,d,e,f,g,i,j,k⟩:=t;exact⟨Sw X G a,⟨c,d,e,f⟩,b,g,i,cg,ct,j,k⟩
end
theorem ar0{p:List NK->Prop}(h:p []):∀us:List NK,us.length=0->p us:=λus e=>by
 cases us with
 |nil=>exact h
 |cons b t=>cases e
theorem arS{p:List NK->Prop}{n:Nat}(h:∀a,∀us:List NK,us.length=n->p (a::us)):∀us:List NK,us.length=n+1->p us:=λus e=>by
 cases us with
 |nil=>cases e
 |cons b t=>exact h b t (Nat.succ.inj e)
theorem ar1{p:List NK->Prop}(h:∀a0,p [a0]):∀us:List NK,us.length=1->p us:=arS λa0=>ar0 (h a0)
theorem ar2{p:List NK->Prop}(h:∀a0 a1,p [a0,a1]):∀us:List NK,us.length=2->p us:=arS λa0=>arS λa1=>ar0 (h a0 a1)
theorem ar3{p:List NK->Prop}(h:∀a0 a1 a2,p [a0,a1,a2]):∀us:List NK,us.length=3->p us:=arS λa0=>arS λa1=>arS λa2=>ar0 (h a0 a1 a2)
theorem ar4{p:List NK->Prop}(h:∀a0 a1 a2 a3,p [a0,a1,a2,a3]):∀us:List NK,us.length=4->p us:=arS λa0=>arS λa1=>arS λa2=>arS λa3=>ar0 (h a0 a1 a2 a3)
theorem ar5{p:List NK->Prop}(h:∀a0 a1 a2 a3 a4,p [a0,a1,a2,a3,a4]):∀us:List NK,us.length=5->p us:=arS λa0=>arS λa1=>arS λa2=>arS λa3=>arS λa4=>ar0 (h a0 a1 a2 a3 a4)
theorem ar7{p:List NK->Prop}(h:∀a0 a1 a2 a3 a4 a5 a6,p [a0,a1,a2,a3,a4,a5,a6]):∀us:List NK,us.length=7->p us:=arS λa0=>arS λa1=>arS λa2=>arS λa3=>arS λa4=>arS λa5=>arS λa6=>ar0 (h a0 a1 a2 a3 a4 a5 a6)
theorem all_mk{l:SH}{w:NW}{K:NO}{h:Oi}{mg:Str->Option NK}{fa:NL}(A:Adr)(X:K.In h)(G:h.Ns Of mg)(hfa:mg "law"=T9 (.ref fa))
 (t1:dH K "ranks_told" kK) (t2:dH K "is_number" lT) (t3:dH K "is_good" pV) (t4:dH K "given_cell" kU)
 (t5:dH K "own_cell" ou) (t6:dH K "cells_of" oh) (t7:dH K "reckon" rO) (t8:dH K "round_place" jR)
 (t9:dH K "ends_of" pS) (t10:dH K "run" Bm) (t11:dH K "unlike_given" iE) (t12:dH K "seen" yh)
 (t13:dH K "_law_cell_at" jZ) (t14:dH K "_law_mix" pX) (t15:dH K "_law_name" oE) (t16:dH K "_law_number" kN)
 (t17:dH K "_law_heads" lU) (t18:dH K "_law_fit" pv) (t19:dH K "_law_thing" l7) (t20:dH K "_law_value" mD)
 (t21:dH K "_law_add" pT) (t22:dH K "_law_said" oi) (t23:dH K "_law_plain" l6) (t24:dH K "_law_opened" kJ)
 (t25:dH K "_law_closed" kO) (t26:dH K "_law_called" lg) (t27:dH K "_law_turned" kE) (t28:dH K "_law_body" oo)
 (t29:dH K "_law_drawn" mw) (t30:dH K "_law_plain_row" gT) (t31:dH K "_law_nested_row" fV) (t32:dH K "_law_tree" oq)
 (t33:dH K "_law_gift" oj) (t34:dH K "_law_gifts" mJ) (t35:dH K "_law_due" pW) (t36:dH K "_law_turned_list" fk)
 (t37:dH K "_law_copied" kF) (t38:dH K "law" rQ) (tD:NsI K "all") (vN:NsI K "bool")
 (u7:NsI K "dict") (mG:NsI K "int") (aG:NsI K "isinstance") (cI:NsI K "len")
 (cC:NsI K "list") (sG:NsI K "max") (Ae:NsI K "min") (g8:NsI K "range")
 (xy:NsI K "str") (zH:NsI K "sum") (qC:NsI K "tuple") (xJ:NsI K "zip")
 (g_MOST_NUMBER:∃k:Tok,TK K Of "MOST_NUMBER"=T9 (T9 (.int 999999999999 k))) (g_ROUND:∃k:Tok,TK K Of "ROUND"=T9 (T9 (.int 1000000000000 k))) (cg:PB K (.builtin "object.__class__") "__get__"=T9 (T9 (.builtin "getset_descriptor.__get__"))) (ct:SO K (.builtin "object.__class__")=T9 true)
 (x_Row:lM K A.Row "Row" [A.Row]) (x_HandRow:lM K A.ck "HandRow" [A.ck,A.Row]) (x_GivenRow:lM K A.bj "GivenRow" [A.bj,A.Row]) (x_OwnRow:lM K A.bP "OwnRow" [A.bP,A.Row])
 (x_LetRow:lM K A.cN "LetRow" [A.cN,A.Row]) (x_SetRow:lM K A.cR "SetRow" [A.cR,A.Row]) (x_PutRow:lM K A.cD "PutRow" [A.cD,A.Row]) (x_SendRow:lM K A.bH "SendRow" [A.bH,A.Row])
 (x_SayRow:lM K A.cj "SayRow" [A.cj,A.Row]) (x_CallRow:lM K A.cz "CallRow" [A.cz,A.Row]) (x_LastRow:lM K A.cO "LastRow" [A.cO,A.Row]) (x_IfRow:lM K A.dz "IfRow" [A.dz,A.Row])
 (x_LoopRow:lM K A.bK "LoopRow" [A.bK,A.Row]) (x_DeedRow:lM K A.bZ "DeedRow" [A.bZ,A.Row]) (x_Program:lM K A.Program "Program" [A.Program]) (x_Book:lM K A.fh "Book" [A.fh])
 (x_Run:lM K A.Run "Run" [A.Run]) (m1:fE K A.Row "__init__" "Row.__init__" fJ) (m2:fE K A.ck "__init__" "HandRow.__init__" iV) (m3:fE K A.bj "__init__" "GivenRow.__init__" gL)
 (m4:fE K A.bP "__init__" "OwnRow.__init__" kb) (m5:fE K A.cN "__init__" "LetRow.__init__" j7) (m6:fE K A.cR "__init__" "SetRow.__init__" jv) (m7:fE K A.cD "__init__" "PutRow.__init__" jE)
 (m8:fE K A.bH "__init__" "SendRow.__init__" iZ) (m9:fE K A.cj "__init__" "SayRow.__init__" jN) (m10:fE K A.cz "__init__" "CallRow.__init__" iR) (m11:fE K A.cO "__init__" "Row.__init__" fJ)
 (m12:fE K A.dz "__init__" "IfRow.__init__" kZ) (m13:fE K A.bK "__init__" "LoopRow.__init__" iC) (m14:fE K A.bZ "__init__" "DeedRow.__init__" iL) (m15:fE K A.Program "__init__" "Program.__init__" iJ)
 (m16:fE K A.fh "__init__" "Book.__init__" me) (m17:fE K A.Run "__init__" "Run.__init__" nZ) (m18:fE K A.Run "number_at" "Run.number_at" gB) (m19:fE K A.Run "number_for" "Run.number_for" fO)
 (m20:fE K A.Run "number_told" "Run.number_told" fm) (m21:fE K A.Run "pass_steps" "Run.pass_steps" fK) (m22:fE K A.Run "do_rows" "Run.do_rows" jG) (m23:fE K A.Run "do_row" "Run.do_row" kR)
 (m24:fE K A.Run "do_put" "Run.do_put" kM) (m25:fE K A.Run "do_call" "Run.do_call" jW) (m26:fE K A.Run "do_if" "Run.do_if" mQ) (m27:fE K A.Run "do_loop" "Run.do_loop" jH)
 (n1:NoI K A.ck "name") (n2:NoI K A.ck "rank") (n3:NoI K A.ck "number") (n4:NoI K A.bj "name")
 (n5:NoI K A.bj "rank") (n6:NoI K A.bj "size") (n7:NoI K A.bj "number") (n8:NoI K A.bP "name")
 (n9:NoI K A.bP "size") (n10:NoI K A.bP "number") (n11:NoI K A.cN "name") (n12:NoI K A.cN "rank")
 (n13:NoI K A.cN "number") (n14:NoI K A.cR "name") (n15:NoI K A.cR "value") (n16:NoI K A.cR "number")
 (n17:NoI K A.cD "name") (n18:NoI K A.cD "place") (n19:NoI K A.cD "value") (n20:NoI K A.cD "number")
 (n21:NoI K A.bH "name") (n22:NoI K A.bH "value") (n23:NoI K A.bH "number") (n24:NoI K A.cj "name")
 (n25:NoI K A.cj "value") (n26:NoI K A.cj "mark") (n27:NoI K A.cj "number") (n28:NoI K A.cz "name")
 (n29:NoI K A.cz "things") (n30:NoI K A.cz "number") (n31:NoI K A.cO "number") (n32:NoI K A.dz "value")
 (n33:NoI K A.dz "first") (n34:NoI K A.dz "other") (n35:NoI K A.dz "left") (n36:NoI K A.dz "right")
 (n37:NoI K A.dz "number") (n38:NoI K A.bK "thing") (n39:NoI K A.bK "most") (n40:NoI K A.bK "body")
 (n41:NoI K A.bK "left") (n42:NoI K A.bK "right") (n43:NoI K A.bK "number") (n44:NoI K A.bZ "name")
 (n45:NoI K A.bZ "parts") (n46:NoI K A.bZ "body") (n47:NoI K A.bZ "number") (n48:NoI K A.Program "heads")
 (n49:NoI K A.Program "deeds") (n50:NoI K A.Program "main") (n51:NoI K A.fh "letters") (n52:NoI K A.fh "said")
 (n53:NoI K A.fh "trace") (n54:NoI K A.fh "steps") (n55:NoI K A.fh "ends") (n56:NoI K A.Run "deeds")
 (n57:NoI K A.Run "cells") (n58:NoI K A.Run "book") (y_Row_init:PB K (.ref A.Row) "__getattribute__"=T9 (T9 (.builtin "type.__getattribute__"))/\W.readsIn K A.Row (.type "type")=true/\∃f,OJ K (.ref A.Row) "__init__"=T9 (T9 (.ref f))/\W.findCls K (.ref A.Row) (.type "type") "__init__"=T9 (.val (.ref f))) (nod:[A.Row,A.ck,A.bj,A.bP,A.cN,A.cR,A.cD,A.bH,A.cj,A.cz,A.cO,A.dz,A.bK,A.bZ,A.Program,A.fh,A.Run].Nodup)
:∃fd:O0,(∀(s:NM)(v:NK),Ru s fd ⟨[v],[]⟩ [("_law_script",v)])/\∀base:Oi,K.In base->base.Ns Of mg->k7 l.prog w K mg base CX0 70 fa fd ["_law_script"] (uK K):=by
 have T:Txt K mg A:={
  nT:=dI X G t1 λ_ _ _ _ _ _=>ar1 λ_=>rfl,pw:=dI X G t2 λ_ _ _ _ _ _=>ar1 λ_=>rfl,zI:=dI X G t3 λ_ _ _ _ _ _=>ar2 λ_ _=>rfl,
  nX:=dI X G t4 λ_ _ _ _ _ _=>ar2 λ_ _=>rfl,rg:=dI X G t5 λ_ _ _ _ _ _=>ar1 λ_=>rfl,qT:=dI X G t6 λ_ _ _ _ _ _=>ar2 λ_ _=>rfl,
  reckon:=dI X G t7 λ_ _ _ _ _ _=>ar3 λ_ _ _=>rfl,mP:=dI X G t8 λ_ _ _ _ _ _=>ar2 λ_ _=>rfl,vj:=dI X G t9 λ_ _ _ _ _ _=>ar2 λ_ _=>rfl,
  run:=dI X G t10 λ_ _ _ _ _ _=>ar2 λ_ _=>rfl,kS:=dI X G t11 λ_ _ _ _ _ _=>ar4 λ_ _ _ _=>rfl,seen:=dI X G t12 λ_ _ _ _ _ _=>ar3 λ_ _ _=>rfl,
  mz:=dI X G t13 λ_ _ _ _ _ _=>ar2 λ_ _=>rfl,vn:=dI X G t14 λ_ _ _ _ _ _=>ar3 λ_ _ _=>rfl,qR:=dI X G t15 λ_ _ _ _ _ _=>ar2 λ_ _=>rfl,
  iG:=dI X G t16 λ_ _ _ _ _ _=>ar1 λ_=>rfl,pJ:=dI X G t17 λ_ _ _ _ _ _=>ar2 λ_ _=>rfl,u4:=dI X G t18 λ_ _ _ _ _ _=>ar5 λ_ _ _ _ _=>rfl,
  pI:=dI X G t19 λ_ _ _ _ _ _=>ar4 λ_ _ _ _=>rfl,pO:=dI X G t20 λ_ _ _ _ _ _=>ar3 λ_ _ _=>rfl,uM:=dI X G t21 λ_ _ _ _ _ _=>ar3 λ_ _ _=>rfl,
  qL:=dI X G t22 λ_ _ _ _ _ _=>ar3 λ_ _ _=>rfl,pA:=dI X G t23 λ_ _ _ _ _ _=>ar4 λ_ _ _ _=>rfl,og:=dI X G t24 λ_ _ _ _ _ _=>ar4 λ_ _ _ _=>rfl,
  oe:=dI X G t25 λ_ _ _ _ _ _=>ar1 λ_=>rfl,nW:=dI X G t26 λ_ _ _ _ _ _=>ar3 λ_ _ _=>rfl,ow:=dI X G t27 λ_ _ _ _ _ _=>ar4 λ_ _ _ _=>rfl,
  qS:=dI X G t28 λ_ _ _ _ _ _=>ar4 λ_ _ _ _=>rfl,pB:=dI X G t29 λ_ _ _ _ _ _=>ar3 λ_ _ _=>rfl,j6:=dI X G t30 λ_ _ _ _ _ _=>ar2 λ_ _=>rfl,
  ik:=dI X G t31 λ_ _ _ _ _ _=>ar1 λ_=>rfl,sj:=dI X G t32 λ_ _ _ _ _ _=>ar1 λ_=>rfl,rB:=dI X G t33 λ_ _ _ _ _ _=>ar3 λ_ _ _=>rfl,
  pR:=dI X G t34 λ_ _ _ _ _ _=>ar4 λ_ _ _ _=>rfl,uU:=dI X G t35 λ_ _ _ _ _ _=>ar4 λ_ _ _ _=>rfl,gJ:=dI X G t36 λ_ _ _ _ _ _=>ar3 λ_ _ _=>rfl,
  oB:=dI X G t37 λ_ _ _ _ _ _=>ar2 λ_ _=>rfl,tD:=Ox X G tD,vN:=Ox X G vN,
  u7:=Ox X G u7,mG:=Ox X G mG,aG:=Ox X G aG,
  cI:=Ox X G cI,cC:=Ox X G cC,sG:=Ox X G sG,
  Ae:=Ox X G Ae,g8:=Ox X G g8,xy:=Ox X G xy,
  zH:=Ox X G zH,qC:=Ox X G qC,xJ:=Ox X G xJ,
  nQ:=g_MOST_NUMBER.imp λ_ e=>Sw X G e,qA:=g_ROUND.imp λ_ e=>Sw X G e,ki:=lZ X G cg ct x_Row,
  rH:=fR m1 λ_ _ _ _ _ _=>ar2 λ_ _=>rfl,bG:=lZ X G cg ct x_HandRow,iB:=fR m2 λ_ _ _ _ _ _=>ar4 λ_ _ _ _=>rfl,
  iz:=n1,iH:=n2,km:=n3,
  aJ:=lZ X G cg ct x_GivenRow,gQ:=fR m3 λ_ _ _ _ _ _=>ar5 λ_ _ _ _ _=>rfl,cq:=n4,
  gM:=n5,cU:=n6,ja:=n7,
  bb:=lZ X G cg ct x_OwnRow,jT:=fR m4 λ_ _ _ _ _ _=>ar4 λ_ _ _ _=>rfl,dP:=n8,
  gq:=n9,lG:=n10,bW:=lZ X G cg ct x_LetRow,
  jC:=fR m5 λ_ _ _ _ _ _=>ar4 λ_ _ _ _=>rfl,j2:=n11,j5:=n12,
  lD:=n13,bT:=lZ X G cg ct x_SetRow,ka:=fR m6 λ_ _ _ _ _ _=>ar4 λ_ _ _ _=>rfl,
  jD:=n14,iI:=n15,gG:=n16,
  bE:=lZ X G cg ct x_PutRow,jK:=fR m7 λ_ _ _ _ _ _=>ar5 λ_ _ _ _ _=>rfl,jP:=n17,
  iT:=n18,iK:=n19,gI:=n20,
  aP:=lZ X G cg ct x_SendRow,ip:=fR m8 λ_ _ _ _ _ _=>ar4 λ_ _ _ _=>rfl,i7:=n21,
  gO:=n22,eA:=n23,aU:=lZ X G cg ct x_SayRow,
  jB:=fR m9 λ_ _ _ _ _ _=>ar5 λ_ _ _ _ _=>rfl,jw:=n24,iN:=n25,
  jQ:=n26,eQ:=n27,aY:=lZ X G cg ct x_CallRow,
  iD:=fR m10 λ_ _ _ _ _ _=>ar4 λ_ _ _ _=>rfl,iy:=n28,fW:=n29,
  fG:=n30,aT:=lZ X G cg ct x_LastRow,mI:=fR m11 λ_ _ _ _ _ _=>ar2 λ_ _=>rfl,
  fL:=n31,bJ:=lZ X G cg ct x_IfRow,kW:=fR m12 λ_ _ _ _ _ _=>ar7 λ_ _ _ _ _ _ _=>rfl,
  jy:=n32,jU:=n33,jX:=n34,
  kH:=n35,j8:=n36,iW:=n37,
  aQ:=lZ X G cg ct x_LoopRow,iF:=fR m13 λ_ _ _ _ _ _=>ar7 λ_ _ _ _ _ _ _=>rfl,gK:=n38,
  fA:=n39,i9:=n40,iP:=n41,
  gP:=n42,fP:=n43,fX:=lZ X G cg ct x_DeedRow,
  iQ:=fR m14 λ_ _ _ _ _ _=>ar5 λ_ _ _ _ _=>rfl,i5:=n44,eP:=n45,
  iq:=n46,kr:=n47,dO:=lZ X G cg ct x_Program,
  iU:=fR m15 λ_ _ _ _ _ _=>ar4 λ_ _ _ _=>rfl,cX:=n48,eO:=n49,
  ic:=n50,fi:=lZ X G cg ct x_Book,lW:=fR m16 λ_ _ _ _ _ _=>ar1 λ_=>rfl,
  dA:=n51,mh:=n52,kI:=n53,
  d9:=n54,mj:=n55,bR:=lZ X G cg ct x_Run,
  oH:=fR m17 λ_ _ _ _ _ _=>ar3 λ_ _ _=>rfl,gH:=fR m18 λ_ _ _ _ _ _=>ar2 λ_ _=>rfl,fY:=fR m19 λ_ _ _ _ _ _=>ar2 λ_ _=>rfl,
  fq:=fR m20 λ_ _ _ _ _ _=>ar2 λ_ _=>rfl,fQ:=fR m21 λ_ _ _ _ _ _=>ar2 λ_ _=>rfl,f9:=fR m22 λ_ _ _ _ _ _=>ar2 λ_ _=>rfl,
  o7:=fR m23 λ_ _ _ _ _ _=>ar2 λ_ _=>rfl,kX:=fR m24 λ_ _ _ _ _ _=>ar2 λ_ _=>rfl,jS:=fR m25 λ_ _ _ _ _ _=>ar2 λ_ _=>rfl,
  lY:=fR m26 λ_ _ _ _ _ _=>ar2 λ_ _=>rfl,jF:=fR m27 λ_ _ _ _ _ _=>ar2 λ_ _=>rfl,jn:=n56,
  c9:=n57,iO:=n58,bX:=⟨y_Row_init.1,y_Row_init.2.1,y_Row_init.2.2⟩,
  nd:=nod }
 have F:bL K mg "law" rQ ["_law_script"]:=dI X G t38 λ_ _ _ _ _ _=>ar1 λ_=>rfl;obtain⟨f,a,oc,od,kV,dc,pm,an,cd,ct,sl,lk,_,_⟩:=t38;refine⟨PH "law" "law" (eE rQ) (dj rQ) (av rQ) .none kV dc pm an cd ct,λs v=>.of_eq rfl,λbase _ _=>?_⟩;have e:=hfa.symm.trans (Sw X G a);cases e;exact HL (Jh (P:=l.prog) (w:=w) (base:=base) T F) (Sw X G a) lk
theorem walk{l:SH}{q:Program}{loose:List Str}{XP:(Str->Option NK)->Oi->Prop}{YP:NW->Oi->Prop}{d:DefRec}{K:O8->NO}(hn:l.most=T9 63)(hdf:d.params.defaults=[])(hY:∀(w:NW)(h:Oi),YP w h->(K w.params).In h)
  (F:∀(w:NW)(mg:Str->Option NK)(fa:NL)(h:Oi),(K w.params).In h->h.Ns Of mg->mg d.name=T9 (.ref fa)->∃fd:O0,(∀(s:NM)(u:NK),Ru s fd ⟨[u],[]⟩ [("_law_script",u)])/\∀base:Oi,(K w.params).In base->base.Ns Of mg->k7 l.prog w (K w.params) mg base CX0 70 fa fd ["_law_script"] (uK (K w.params))) :
  W.WalkO q loose XP YP l.row.toRowW d [] (λf vs=>TC f vs):=
 L2.Ee (n:=63) (k:=70) (x:="_law_script") (CX:=λ_=>CX0) (sp:=λw=>uK (K w.params)) hn ∅ hdf ⟨rfl,∅,∅⟩ hY F (λ_ _ a ns hl _ hS=>⟨a,ns,rfl,hS,hl,λ_=>rfl⟩) λ_ _ _ _ _ z=>z
end K60
open PySem PySem.W PyProof.Rows
set_option maxRecDepth 100000 in
set_option maxHeartbeats 0 in
theorem PySem.Challenge.cw_hushrow_k60_letters_seen_holds : PySem.Challenge.rw_hushrow_k60_letters_seen.Holds := by
 w_on;o_law
 refine W.holds_open (q:=K60.ju) (loose:=[]) (Xt:=K60.test) (XP:=W.XL K60.ju []) (Yf:=(Sb K60.heapK K60.qd K60.ky).obs) (Ya:=(Sb K60.heapK K60.qd K60.ky).val) (YP:=(Sb K60.heapK K60.qd K60.ky).says) (N:=14044) K60.left (Sb K60.heapK K60.qd K60.ky).of (Sb K60.heapK K60.qd K60.ky).keeps
  (λs e=>W.xl_of s (MR.mp e).1) W.XL.keeps (by rfl) (by rfl) (by rfl) (λs e=>W.recFacts_of (MR.mp e).2) ?h4 ?h5 ?h6 ⟨rfl,rfl,rfl,rfl,rfl,by decide+kernel⟩ ?hw ?hc
 (case h4=>rfl);(case h5=>first|assumption|decide+kernel);(case h6=>decide+kernel);(case hw=>w_witness2)
 k_fill
 refine K60.walk (l:=PySem.Challenge.rw_hushrow_k60_letters_seen) rfl rfl (λw h Y=>W.kIn_of Y) ?F;case F=>
  intro w mg fa h KX G hmg;refine K60.all_mk ⟨84,112,138,164,190,230,270,303,343,376,395,428,461,487,506,534,670⟩ KX G hmg ?_ ?_ ?_ ?_ ?_ ?_ ?_ ?_ ?_ ?_ ?_ ?_ ?_ ?_ ?_ ?_ ?_ ?_ ?_ ?_ ?_ ?_ ?_ ?_ ?_ ?_ ?_ ?_ ?_ ?_ ?_ ?_ ?_ ?_ ?_ ?_ ?_ ?_ ?_ ?_ ?_ ?_ ?_ ?_ ?_ ?_ ?_ ?_ ?_ ?_ ?_ ?_ ?_ ?_ ?_ ?_ ?_ ?_ ?_ ?_ ?_ ?_ ?_ ?_ ?_ ?_ ?_ ?_ ?_ ?_ ?_ ?_ ?_ ?_ ?_ ?_ ?_ ?_ ?_ ?_ ?_ ?_ ?_ ?_ ?_ ?_ ?_ ?_ ?_ ?_ ?_ ?_ ?_ ?_ ?_ ?_ ?_ ?_ ?_ ?_ ?_ ?_ ?_ ?_ ?_ ?_ ?_ ?_ ?_ ?_ ?_ ?_ ?_ ?_ ?_ ?_ ?_ ?_ ?_ ?_ ?_ ?_ ?_ ?_ ?_ ?_ ?_ ?_ ?_ ?_ ?_ ?_ ?_ ?_ ?_ ?_ ?_ ?_ ?_ ?_ ?_ ?_ ?_ ?_ ?_ ?_ ?_ ?_ ?_ ?_ ?_ ?_ ?_ ?_ ?_ ?_ ?_ ?_ ?_ ?_;iterate 38 exact⟨_,by k_is,_,_,_,_,_,_,_,_,_,by k_is,by k_is,by k_is⟩
  iterate 14 (show _=_;k_is)
  iterate 2 exact⟨_,by k_is⟩
  iterate 2 (show _=_;k_is)
  iterate 17 exact⟨by k_is,⟨_,by k_is,rfl⟩,by k_is,by k_is,by k_is,by k_is,by k_is,by k_is,by k_is,by k_is⟩
  iterate 27 exact⟨_,by k_is,by k_is,_,_,_,_,_,_,_,_,_,by k_is,by k_is,by k_is⟩
  iterate 58 (show _=_;k_is)
  iterate 1 exact⟨by k_is,by k_is,_,by k_is,by k_is⟩
  iterate 1 decide

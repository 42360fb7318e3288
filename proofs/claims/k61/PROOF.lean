import PyProof.Rows.All
import Wide.All
import OpenK.AllK
import Wide.FinOn
import Lean
import PyProof.EqAt
import PyProof.EqKinds
import PyProof.TupleCall
import PyProof.AttrMissSeq
import KE.KDictList
import PyProof.WalksEnum
import PyProof.EnumMake
import PyProof.ZipIter
import PyProof.Rows.ZipGen
import PyProof.Rows.SumAny
import PyProof.DictUpdate
import KE.KRevSl
import PyProof.Rows.FStr
import PyProof.WalkInts
import PyProof.Rows.SortShellK
import PyProof.Rows.SortWalk
import PySem.Challenge.RW_hushrow_k61_laid_side_by_side
open PySem renaming Addr->OM,Value->ON,Shared->OO,wpAny_bind->OP,wpAny_pure->OT,starEach->OV,World->OX,model->OZ,compareOp->O4,mainGlobals->O5,mem_of_lookup->O6,Around->O7,Heap->O8,Stmt->O9,wpAny_truthy_bool->Pk,cellsFrom->Pl,sysModules->Pm,eval->Pn,binaryOp->Pp,wpAny_dictEntries->Pq,backTo->Pw,wpAny_richCompare_same_room->PD,attributeBase->PH,cLine->PJ,wpAny_mono->PK,wpAny_passesOwn->PR,bootBuiltins->PU,FuncData->PV,NameKind->PY,wpAny_getItem_str_slice->PZ,Str->P0,Params->P2,wpAny_Call_Name_kw->P4,wpAny_notOrdered_dict->P6,wpAny_newObj_type->P8,sizeLine_eq->P9,keywordEach->Qb,treeTable->Qe,behindInMarks->Qg,importedModules->Qk,holding->Ql,pushCells_keeps->Qm,tupleKind_room_in1->Qn,Scope->Qo,sliceBounds->Qq,wpAny_call_entry->QD,pushCells->QF,Keyword->QH,wpAny_execs_nil->QJ,letOwnedTupleGo->QK,PyData->QN,post_val_or_str->QO,codeAny_builtin->QP,Spec->QV,assignEach->QX,backToKw->QZ,call_meets->Q2,Builtin->Q5,wpAny_pyIter_list->Q7,plainId_quiet->Rb,tupleKind->Ri,wpAny_forIn_list->Rr,wpAny_isInstance->Rt,builtinsNs->Rv,wpAny_pyNext_list_item->RA,codeAny_mono->RC,call_meetsIn->RI,wpAny_dictEpoch->RM,wpAny_pyNext_list_end->RN,wpAny_loadName_local->RW,bindArgs->RY,isSubtype_type->R8,OsState->Sh,swapsWith->Sm,getMethod->Sn,BindsTo->So,getItem->Sq,callerA->Sr,wpAny_loadName_cell->Su,wpAny_standAt->Sy,IsPart->SJ,typeIs_str->SK,wpAny_pyIter_tuple->SQ,getattributeRaised->SS,GenState->S2,Within->S9,Operator->Ta,standAt->Te,wpAny_typeOf->Ts,seqIndex_neg->Tu,wpAny_dictFind_of->Tz,argBest->TC,intItems->TF,DictEntry->TJ,wpAny_execs_cons->TM,noFill_tuple_add->TV,wpAny_pyIter_zip->TZ,wpAny_field->Uh,seqIndex_of->Ui,atKey->Uj,wpAny_ite_split->Up,wpAny_Name->Uu,recursionLimit->Ux,bindL->Uy,bindC->Uz,typeIs_int->UB,call->UD,newFunctionEnv->UE,compPost->UG,storeName->UN,inplaceOp->UO,Result->UR
open PySem.W renaming Frag->OQ,mg_none_of->Ph,findIn->Pr,kitOne->Pu,emptyDict->P1,kia_one->P5,keepIn->Qh,specialIn->Qp,fnOf->Qr,instObj->QB,cellsFrom_some->QC,Frag->QR,boot_heap->Rh,plainGet->RB,hasDictIn->RX,codeIn->RZ,plainGet_of->Sz,topStub->S3,kHook->S4,callWith_K->To,mg_of->Tv,OpenLaw->TK,boot_o_0->TL,makesIn->TQ,takesIn->TU,methodObj->Ue,plainOver->Ug,namesBound->Us,lookIn->Uw,nsIn->UI,staticsOk->UM,takerIn->UP,isFn->UQ,mroIn->US
open PySem.Heap renaming get?_push_of_some->OR,lt_size->OW,get?_push_size->O3,size_push->PL,SameBut->QS,get?_update_other->RH
open Option.some renaming inj->OS,injEq->Qt
open PySem.Paired renaming length->OU,snoc->Pb,snoc->Qv
open PySem.Value renaming ref->OY,type->QA,int->QT,bool->Ru,str->Si,isStrOf_shape->Ss,isStrOf->Sx,none->SH,isInt_shape->S7,isInt->Uc,float->Ud
open List renaming replicate->O0,range->O2,Nodup->PM,lookup->Qa,take_append_of_le_length->QI,getElem?_take_of_lt->Q8,eq_of_mem_replicate->Rc,getElem?_replicate->Rk,getElem?_set_self->Rz,findIdx?_toArray->RQ,getElem?_set_ne->RU,dropLast_concat->Sa,mem_of_mem_drop->Sb,mem_of_mem_take->Sd,range_eq_range'->Se,filter_append->SR,findIdx?_cons->SU,map_replicate->SX,zip_cons_cons->S1,any_eq_false->Tf,foldl_append->Tx,append_inj'->T9,flatMap_nil->Ua,length_set->Uk,nil_append->Ul,find?_some->Uq,foldl->UC,nodup_nil->UK
open PySem.PassesOwn renaming never->O1
open PySem.PyData renaming strOk->Pc,eqv->QG,canLayAll0->TH,depthAll->Ur,canLay0->UL
open PySem.NameKind renaming cell->Pd,free->Po
open PySem.SeqAt renaming shaped->Pe,EqAt->QE
open PySem.Builtin.Dict renaming samePairs->Pf,dictSlotArgs->Pj,updateFrom->Rq,pairItems->RK,showsAll->RO
open PySem.AutoSeq1 renaming wpAny_loadPart'->Pg
open Option renaming none->Px,isSome_some->SO,isSome_map->Tw,getD_none->TX,getD_some->TY,some->UT,none->UU
open PySem.F renaming slot_dict_eq->Py,args_dict_eq_2->Qu,slot_dict_get->Qy,entry_dict_eq->Qz,slot_list_contains->Q3,args_tuple_add_2->Q9,entry_tuple_add->Rm,plainAttrs_list->Ro,args_dict_get_2->Rp,slot_tuple_add->RE,entry_dict_get->RJ,slot_tuple_eq->RR,slot_int_rmul->Um
open PySem.Builtin.Str renaming occurrences->Pz,strKind->Sv
open False renaming elim->PB
open PySem.MeetsSeq renaming plain_contains_loop->PC,entry_contains_loop->QQ
open PySem.Builtin.Slice renaming slicePlaces->PQ,sliceAdjust->Qf,sliceApplied->Q0
open PySem.Builtin.Tuple renaming tupleExact->PX
open PyProof.Rows renaming callWith_type1->P7,slot_tuple_getitem->Qx,envOfC->QL,AllBare->Q6,subscriptTail_builtinR->RF,subscriptTail->SD,IntsAre->Tt,slicePart_none->UA
open PySem.Around renaming under_plainId->Qc,under->Tg
open Std.Legacy.Range renaming forIn_eq_forIn_range'->Qd,size->RP
open PySem.Builtin.List renaming listTooLong->Qi
open PySem.Value.ref renaming inj->Qj
open PySem.Calls renaming callWith_builtin->Qs,Name_function_global->QW,evalArgs_plain->R0,spliced_cons->SI,spliced_nil->Tn
open List.Sublist renaming refl->Qw
open ForInStep renaming yield->QM
open PySem.Str renaming empty->QU
open Int renaming fdiv_eq_ediv_of_nonneg->QY,natCast_succ->Ub
open PySem.SeqAt.EqAt renaming int_int->Q1,same->RL,int_str->SF,str_int->SG,str_str->SM
open Array renaming getElem?_eq_getElem->Q4,toArray_toList->R7,toList_append->Sw,size_append->TB,size_map->UJ
open PySem.Obj renaming mapSeq->RG
open Prod.mk renaming inj->RT
open Nat renaming add_le_add_right->R9,add_sub_cancel->SW
open List.cons renaming inj->SE
open Bool renaming false_eq_true->SN,false_and->Uv
open PySem.Txt renaming slice_le->SY
open PySem.Code renaming isFrame->Ti
open PySem.Data renaming cell->TN
open PySem.Heap.DictOf renaming new->Uo
open Prod renaming ext->Ut
open PySem.Walks renaming strAscii->UH
open List renaming mem_cons->Ku,mem_cons_self->Kv,getElem?_eq_getElem->Kw,mem_cons_of_mem->Kx,length_map->Ky,length_append->Kz,mem_append->KA,mem_singleton->KC,not_mem_nil->KD,mem_of_getElem?->KG,getElem?_eq_some_iff->KH,size_toArray->KO,getElem?_map->KP,map_cons->KQ,mem_append_right->KR,mem_map->KU,nodup_cons->KW,map_append->La,length_cons->Lc,getElem?_of_mem->Le,flatMap_cons->Lf,append_assoc->Li,mem_append_left->Lk,getD_eq_getElem?_getD->Ll,nodup_append->Lm,length_singleton->Lo,replicate_succ->Ls,mem_range->Lu,mem_filter->Lw,append_nil->Lx,find?_cons->Ly,take_length->Lz,length_filter_le->LB,getElem?_eq_none->LC,mem_flatMap->LF,length_take->LJ,any_eq_true->LM,take_add_one->LO,reverse_cons->LP,filter_cons->LU,length_replicate->LW,getElem?_append_left->LX,drop_eq_getElem_cons->LY,getElem?_zip_eq_some->LZ,lookup_cons->Me,getElem?_append_right->Mf,sum_cons->Mg,range'->Mh,length_drop->Mj,all_eq_true->Ml,getElem?_range->Mn,getElem?_cons_zero->Mo,take_of_length_le->Mp,flatten_cons->Mq,length_range->Ms,take_append_drop->Mv,any_cons->Mw,mem_map_of_mem->Mx,mem_of_find?_eq_some->Mz,getElem?_eq_none_iff->MA,length_range'->MD,take_zero->ME,getElem?_cons_succ->MF,getElem_inj->MG,map_nil->MK,foldl_cons->ML,range_succ->MM,map_map->MN,length_nil->MO,map_id'->MP,length_zip->MQ,filterMap_cons->MT,length_pos_iff->MV,map_congr_left->MW,flatMap_append->MX,mem_filterMap->Nb,find?_eq_none->Nd,ext_getElem?->Nf,mem_range'_1->Nh,cons_append->Nj,of_mem_zip->Nm,filter_map->Nn
open Nat renaming le_refl->KI,le_trans->KS,zero_le->KY,lt_of_lt_of_le->KZ,le_succ_of_le->Ld,ne_of_lt->Lp,le_add_right->LK,lt_irrefl->LS,lt_succ_self->Mi,lt_succ_of_lt->Mr,succ_le_succ->MH,ne_of_gt->MJ,lt_of_le_of_lt->Nc,le_of_lt->Ni,le_succ->Np,le_of_eq->Nt,min_self->Nu
open Or renaming inl->KJ,inr->Lg
open Bool renaming false_ne_true->KL,eq_iff_iff->LQ,and_eq_true->Mb,eq_false_iff->Mt,noConfusion->MI,and_eq_true_iff->MS,true_and->Nr
open Int renaming le_refl->Lb,mul_le_mul_of_nonneg_left->Lh,mul_nonneg->Lq,toNat_natCast->LA,mul_le_mul_of_nonneg_right->Ma,zero_add->MC,le_trans->MR,toNat_of_nonneg->MY,mul_add->Na,one_mul->Nq,add_mul->Nv
open True renaming intro->Lj
open Ne renaming symm->Lv
open Option renaming map_eq_some_iff->LG,map_some->My,isSome_iff_exists->MB
open Sum renaming inr->LI,inl->MZ
open Array renaming getElem?_toList->Mu,length_toList->MU,getElem_mem->Ng,mk->Nw
set_option Elab.async false
set_option linter.all false
set_option maxRecDepth 100000
namespace Hd
open PySem PySem.W PySem.Calls PyProof.Rows
def wU(tb:String->Option Q5)(p:Program)(w:OX)(n₀:Nat)(ann:Option ON):Nat->SharedT->Thread->Option SharedT
 |0,_,_=>UU
 |n+1,s,t=>match through t with
  |true=>UT s
  |false=>match stepOk n₀ ann t with
   |false=>UU
   |true=>match stepT (denote tb) p w s t with
    |some (s',t')=>wU tb p w n₀ ann n s' t'
    |none=>UU
theorem Cr{tb:String->Option Q5}{p:Program}{w:OX}{n₀:Nat}{ann:Option ON}:∀{n:Nat}{s s':SharedT}{t:Thread},
  wU tb p w n₀ ann n s t=UT s'->topRun tb p w n₀ ann n s.abs t=UT s'.abs
 |0,_,_,_,h=>by cases h
 |n+1,s,s',t,h=>by
  unfold wU at h;unfold topRun;cases he:through t with
  |true=>rw[he]at h;cases h;rfl
  |false=>
   rw[he]at h;cases hk:stepOk n₀ ann t with
   |false=>rw[hk]at h;cases h
   |true=>
    rw[hk]at h;cases hs:stepT (denote tb) p w s t with
    |none=>rw[hs]at h;cases h
    |some r=>obtain⟨s₂,t₂⟩:=r;rw[hs]at h;rw[stepT_spec hs];exact Cr h
def Jb(p q:Program)(loose:List Str)(Xt:OO->Bool){α:Type}(Yf:OO->α)(g0:Bool)(H:O8)(s:OO):=
 (UM (Qk p.main.body) H s.heap&&Us p s.heap&&gensDone s&&laidKept H s.heap,openSeen q loose (Qk p.main.body) Xt g0 s,Yf s)
def Dr(p q:Program)(loose:List Str)(Xt:OO->Bool)(g0:Bool)(H:O8)(s:OO):=
 (UM (Qk p.main.body) H s.heap&&Us p s.heap&&gensDone s&&laidKept H s.heap,openSeen q loose (Qk p.main.body) Xt g0 s)
def treeOf:List Obj->Nat->BT->BT
 | [],_,t=>t
 |o::r,i,t=>treeOf r (i+1) (t.ins i o)
theorem DK{p q:Program}{loose:List Str}{Xt:OO->Bool}{α:Type}{Yf:OO->α}{Ya:OX->α}{N:Nat}{g0:Bool}{H₀:P2->O8}{gs₀:Array S2}{d₀:Drawn}{k₀ m₀ n₀:Nat}{ann:Option ON}{T₀:P2->BT}{life:Life}
  (opn:∀w:OX,(fencedOpening Qe p w N).map (λs=>(s.heap,s.gens,s.drawn,s.toks))=UT (H₀ w.params,gs₀,d₀,k₀))
  (size:∀w:OX,((H₀ w.params).isNs O5&&gs₀.size==0,(H₀ w.params).objs.size,(H₀ w.params).nsMap O5 "__annotations__")=(true,m₀,ann))
  (tree:∀P:P2,absHeap (T₀ P) n₀ life=H₀ P)
  (look:∀(w:OX)(os:Sh),(wU Qe p w m₀ ann N ⟨T₀ w.params,n₀,life,gs₀,d₀,k₀,os⟩ (S3 p)).map (λs=>Jb p q loose Xt Yf g0 (H₀ w.params) s.abs)=UT (true,openGood q loose,Ya w)) :
  LeftO p q loose Xt Yf Ya N g0:=λw=>by
 obtain⟨⟨h,gs,d,k,os⟩,e,e'⟩:=LG.mp (opn w)
 obtain⟨rfl,rfl,rfl,rfl⟩:h=H₀ w.params/\gs=gs₀/\d=d₀/\k=k₀:=by simpa using e'
 obtain⟨z1,z2,z3⟩:_/\_/\_:=by simpa only[Prod.mk.injEq] using size w
 obtain⟨s,hs,hl⟩:=LG.mp (look w os)
 obtain⟨l1,l23⟩:=RT hl
 obtain⟨l2,l3⟩:=RT l23
 have r:=Cr hs
 have t:topFrom Qe p w N ⟨H₀ w.params,gs,d,k,os⟩=UT s.abs:=by
  unfold topFrom;dsimp only;rw[z1,z2,z3];unfold SharedT.abs at r;dsimp only at r;rw[tree w.params]at r;show(topRun Qe p w m₀ ann N ⟨H₀ w.params,gs,d,k,os⟩ (S3 p)).bind _=_;rw[r];show(match UM (Qk p.main.body) (H₀ w.params) s.abs.heap&&Us p s.abs.heap&&gensDone s.abs&&laidKept (H₀ w.params) s.abs.heap with|true=>_|false=>_)=_;rw[l1];rfl
 unfold openEnds
 rw[e]
 show(topFrom Qe p w N _).map _=_
 rw[t]
 exact congrArg UT (Ut l2 l3)
theorem BC{p q:Program}{loose:List Str}{Xt:OO->Bool}{α:Type}{Yf:OO->α}{Ya:OX->α}{N:Nat}{g0:Bool}{H₀:P2->O8}{gs₀:Array S2}{d₀:Drawn}{k₀ m₀ n₀:Nat}{ann:Option ON}{T₀:P2->BT}{life:Life}
  (opn:∀w:OX,(fencedOpening Qe p w N).map (λs=>(s.heap,s.gens,s.drawn,s.toks))=UT (H₀ w.params,gs₀,d₀,k₀))
  (size:∀w:OX,((H₀ w.params).isNs O5&&gs₀.size==0,(H₀ w.params).objs.size,(H₀ w.params).nsMap O5 "__annotations__")=(true,m₀,ann))
  (tree:∀P:P2,absHeap (T₀ P) n₀ life=H₀ P)
  (look1:∀(w:OX)(os:Sh),(wU Qe p w m₀ ann N ⟨T₀ w.params,n₀,life,gs₀,d₀,k₀,os⟩ (S3 p)).map (λs=>Dr p q loose Xt g0 (H₀ w.params) s.abs)=UT (true,openGood q loose))
  (look2:∀(w:OX)(os:Sh),(wU Qe p w m₀ ann N ⟨T₀ w.params,n₀,life,gs₀,d₀,k₀,os⟩ (S3 p)).map (λs=>Yf s.abs)=UT (Ya w)) :
  LeftO p q loose Xt Yf Ya N g0:=DK opn size tree λw os=>by
 obtain⟨s,hs,h1⟩:=LG.mp (look1 w os)
 have h2:=look2 w os
 rw[hs]at h2⊢
 exact congrArg UT (Ut (RT h1).1 (Ut (RT h1).2 (OS h2)))
end Hd
namespace L2
open PySem PySem.Spec PyProof.Rows
def UY(s:O9)(j:Nat):O9:=match s with
 | .ClassDef _ _ _ body _ _ _ _ _ _ _=>body.getD j (.Pass ⟨0,0,0,0⟩)
 |_=>.Pass ⟨0,0,0,0⟩
def eO(s:O9):Arguments:=match s with
 | .FunctionDef _ a _ _ _ _ _ _ _ _=>a
 |_=>{ posonlyargs:=[],args:=[],vararg:=UU,kwonlyargs:=[],kw_defaults:=[],kwarg:=UU,defaults:=[] }
def dq(s:O9):List O9:=match s with
 | .FunctionDef _ _ b _ _ _ _ _ _ _=>b
 |_=>[]
def au(s:O9):Qo:=match s with
 | .FunctionDef _ _ _ _ _ _ sc _ _ _=>sc
 |_=>{ kind:=.function,names:=[],isGenerator:=false,isCoroutine:=false }
end L2
namespace K61
open PySem
def top(i:Nat):O9:=PySem.Challenge.pw_hushrow_k61_laid_side_by_side.main.body.getD i (.Pass ⟨0,0,0,0⟩)
end K61
set_option maxHeartbeats 0
namespace K61
open PySem L2 PySem.W
noncomputable abbrev E(P:P2)(x:Str)(t:Nat)(v:ON):TJ:=⟨PyData.keyHash P x,.str x t,v⟩
noncomputable abbrev FL(P:P2)(a:Nat)(l:Int)(b:Nat):=E P "__firstlineno__" a (.int l b)
noncomputable abbrev SA(P:P2)(a b:Nat):=E P "__static_attributes__" a (.ref b)
noncomputable abbrev DO(P:P2)(a:Nat):=E P "__doc__" a .none
noncomputable abbrev M3O(P:P2)(a:Nat):=E P "__module__" a (.str "hushrow.rows" 239)
noncomputable abbrev ER(P:P2)(x:Str)(a b:Nat):=E P x a (.ref b)
noncomputable abbrev DI(x:Array TJ)(n:Nat):Obj:=⟨.type "dict",UU,.dict x n,#[]⟩
noncomputable abbrev WR(x:Str)(a b:Nat)(y:String):Obj:=⟨.type "getset_descriptor",UU,.fields #[.str x a,.ref b,.builtin y,.none],#[]⟩
noncomputable abbrev CX(n:Str)(a c:Nat)(bs m s:List ON)(d:Option ON)(u v:Nat)(w:String):Obj:=⟨.type "type",UU,.cls { name:=n,bases:=bs,mro:=.ref a::m,ns:=c,qualname:=n,hasDict:=true,slotNames:=[],subclasses:=s,abstract:=false,collection:=UU,hasDel:=false },#[d,UU,UT (.str n u),UT (.str n v),UT (.builtin w),UT (.bool true)]⟩
noncomputable abbrev CR(n:Str)(a c d u:Nat):Obj:=CX n a c [.ref 84] [.ref 84,.type "object"] [] (UT (.ref d)) u (u+8) "object.__new__"
noncomputable abbrev CO(n q:Str)(t:Nat)(l a:Int)(r:Nat)(m:Nat):Obj:=⟨.type "code",UU,.fields #[.str n t,.str q (t+1),.str "/claim/cut.py" (t+2),.int l 0,.int a 0,.int 0 0,.int 0 0,.int 3 0,.ref r,.bool true,.int 181 0,.ref (r+1),.none,.ref (r+2),.ref (r+3),.ref (r+4),.int m 0,.int l 0,.str "/claim/cut.py" (m+1)],#[]⟩
noncomputable abbrev FU(n q:Str)(s:O9)(m:Str)(t c:Nat):Obj:=⟨.type "function",UU,.func (Qr n q (eO s) (dq s) (au s) .none .none .none (.str m t) UU (.ref c) .none),#[]⟩
noncomputable abbrev F7T(x:Str)(i c:Nat):=FU x x (top i) "hushrow.gifts" 895 c
noncomputable abbrev F8T(x:Str)(i c:Nat):=FU x x (top i) "hushrow.pairs" 1102 c
noncomputable abbrev F9T(x:Str)(i c:Nat):=FU x x (top i) "law_hushrow_k61_laid_side_by_side" 1140 c
noncomputable abbrev oB(x y:Str)(i j c:Nat):=FU x y (UY (top i) j) "hushrow.rows" 239 c
noncomputable abbrev rC(x y:Str)(i j c:Nat):=FU x y (UY (top i) j) "hushrow.runner" 961 c
noncomputable def heapK(P:P2):OQ:=
 (nat_lit 2,⟨.none,UU,.dict #[] 0,#[]⟩)::
 (nat_lit 3,DI #[E P "__name__" 165 (.str "law_hushrow_k61_laid_side_by_side" 1140),DO P 166,E P "__package__" 167 .none,E P "__loader__" 168 (.builtin "__main__.__loader__#opaque"),E P "__spec__" 169 .none,ER P "__annotations__" 170 6,ER P "__builtins__" 171 4,E P "__file__" 173 (.str "/claim/cut.py" 172),E P "__cached__" 174 .none,ER P "_wall" 193 21,ER P "HushError" 213 31,ER P "NoGift" 238 51,ER P "Row" 283 84,ER P "HandRow" 318 112,ER P "GivenRow" 355 138,ER P "OwnRow" 390 164,ER P "LetRow" 425 190,ER P "SetRow" 474 230,ER P "PutRow" 525 270,ER P "SendRow" 567 303,ER P "SayRow" 618 343,ER P "CallRow" 660 376,ER P "LastRow" 683 395,ER P "IfRow" 731 428,ER P "LoopRow" 779 461,ER P "DeedRow" 816 487,ER P "Program" 849 506,ER P "ranks_told" 860 517,ER P "Book" 894 534,E P "MOST_NUMBER" 898 (.int (999999999999) 897),ER P "is_number" 905 545,ER P "is_good" 911 550,ER P "given_cell" 920 557,ER P "own_cell" 927 564,ER P "cells_of" 939 571,E P "ROUND" 943 (.int (1000000000000) 942),ER P "reckon" 952 578,ER P "round_place" 960 585,ER P "Run" 1085 670,ER P "ends_of" 1091 679,ER P "run" 1101 686,ER P "seen" 1109 691,ER P "letter_at" 1117 698,ER P "told_by" 1124 705,ER P "laid" 1139 712,ER P "_law_cell_at" 1149 719,ER P "_law_mix" 1159 726,ER P "_law_name" 1173 733,ER P "_law_number" 1180 740,ER P "_law_heads" 1186 745,ER P "_law_fit" 1192 750,ER P "_law_thing" 1204 757,ER P "_law_value" 1217 764,ER P "_law_add" 1227 771,ER P "_law_said" 1233 776,ER P "_law_plain" 1249 783,ER P "_law_opened" 1255 788,ER P "_law_closed" 1266 795,ER P "_law_else" 1274 802,ER P "_law_called" 1290 809,ER P "_law_turned" 1296 814,ER P "_law_body" 1309 821,ER P "_law_drawn" 1329 828,ER P "_law_plain_row" 1338 835,ER P "_law_nested_row" 1347 842,ER P "_law_tree" 1361 849,ER P "_law_gift" 1373 856,ER P "_law_gifts" 1386 863,ER P "_law_heard_by" 1392 868,ER P "_law_letter" 1400 875,ER P "_law_first" 1411 882,ER P "_law_alike" 1419 889,ER P "law" 1435 896] 73)::
 (nat_lit 30,DI #[E P "__module__" 203 (.str "hushrow.errors" 194),FL P 207 5 206,SA P 208 29,ER P "__weakref__" 210 32,DO P 211] 3)::
 (nat_lit 31,CX "HushError" 31 30 [.type "ValueError"] [.type "ValueError",.type "Exception",.type "BaseException",.type "object"] [.ref 51] (UT (.ref 22)) 196 204 "ValueError.__new__")::
 (nat_lit 32,WR "__weakref__" 209 31 "ExceptionGroup.__weakref__")::
 (nat_lit 50,DI #[E P "__module__" 221 (.str "hushrow.errors" 194),FL P 225 7 224,ER P "__init__" 233 48,SA P 235 49,DO P 236] 2)::
 (nat_lit 51,CX "NoGift" 51 50 [.ref 31] [.ref 31,.type "ValueError",.type "Exception",.type "BaseException",.type "object"] [] (UT (.ref 35)) 214 222 "ValueError.__new__")::
 (nat_lit 66,CO "__init__" "Row.__init__" 253 14 2 61 258)::
 (nat_lit 67,oB "__init__" "Row.__init__" 5 0 66)::
 (nat_lit 83,DI #[M3O P 248,FL P 252 12 251,ER P "__init__" 260 67,ER P "reads" 267 74,ER P "target" 274 81,SA P 276 82,ER P "__dict__" 278 85,ER P "__weakref__" 280 86,DO P 281] 4)::
 (nat_lit 84,CX "Row" 84 83 [.type "object"] [.type "object"] [.ref 112,.ref 138,.ref 164,.ref 190,.ref 230,.ref 270,.ref 303,.ref 343,.ref 376,.ref 395,.ref 428,.ref 461,.ref 487] UU 241 249 "object.__new__")::
 (nat_lit 85,⟨(.type "getset_descriptor"),UU,.fields #[(.str "__dict__" 277),(.ref 84),(.builtin "function.__dict__"),(.builtin "function.__dict__#set")],#[]⟩)::
 (nat_lit 86,WR "__weakref__" 279 84 "ExceptionGroup.__weakref__")::
 (nat_lit 101,CO "__init__" "HandRow.__init__" 296 24 4 96 303)::
 (nat_lit 102,oB "__init__" "HandRow.__init__" 6 0 101)::
 (nat_lit 111,DI #[M3O P 291,FL P 295 22 294,ER P "__init__" 305 102,ER P "shown" 312 109,SA P 315 110,DO P 316] 2)::
 (nat_lit 112,CR "HandRow" 112 111 89 284)::
 (nat_lit 127,CO "__init__" "GivenRow.__init__" 331 33 5 122 339)::
 (nat_lit 128,oB "__init__" "GivenRow.__init__" 7 0 127)::
 (nat_lit 137,DI #[M3O P 326,FL P 330 31 329,ER P "__init__" 341 128,ER P "shown" 348 135,SA P 352 136,DO P 353] 2)::
 (nat_lit 138,CR "GivenRow" 138 137 115 319)::
 (nat_lit 153,CO "__init__" "OwnRow.__init__" 368 43 4 148 375)::
 (nat_lit 154,oB "__init__" "OwnRow.__init__" 8 0 153)::
 (nat_lit 163,DI #[M3O P 363,FL P 367 41 366,ER P "__init__" 377 154,ER P "shown" 384 161,SA P 387 162,DO P 388] 2)::
 (nat_lit 164,CR "OwnRow" 164 163 141 356)::
 (nat_lit 179,CO "__init__" "LetRow.__init__" 403 52 4 174 410)::
 (nat_lit 180,oB "__init__" "LetRow.__init__" 9 0 179)::
 (nat_lit 189,DI #[M3O P 398,FL P 402 50 401,ER P "__init__" 412 180,ER P "shown" 419 187,SA P 422 188,DO P 423] 2)::
 (nat_lit 190,CR "LetRow" 190 189 167 391)::
 (nat_lit 205,CO "__init__" "SetRow.__init__" 438 61 4 200 445)::
 (nat_lit 206,oB "__init__" "SetRow.__init__" 10 0 205)::
 (nat_lit 229,DI #[M3O P 433,FL P 437 59 436,ER P "__init__" 447 206,ER P "shown" 454 213,ER P "reads" 461 220,ER P "target" 468 227,SA P 471 228,DO P 472] 2)::
 (nat_lit 230,CR "SetRow" 230 229 193 426)::
 (nat_lit 245,CO "__init__" "PutRow.__init__" 487 76 5 240 495)::
 (nat_lit 246,oB "__init__" "PutRow.__init__" 11 0 245)::
 (nat_lit 269,DI #[M3O P 482,FL P 486 74 485,ER P "__init__" 497 246,ER P "shown" 504 253,ER P "reads" 511 260,ER P "target" 518 267,SA P 522 268,DO P 523] 2)::
 (nat_lit 270,CR "PutRow" 270 269 233 475)::
 (nat_lit 285,CO "__init__" "SendRow.__init__" 538 92 4 280 545)::
 (nat_lit 286,oB "__init__" "SendRow.__init__" 12 0 285)::
 (nat_lit 302,DI #[M3O P 533,FL P 537 90 536,ER P "__init__" 547 286,ER P "shown" 554 293,ER P "reads" 561 300,SA P 564 301,DO P 565] 2)::
 (nat_lit 303,CR "SendRow" 303 302 273 526)::
 (nat_lit 318,CO "__init__" "SayRow.__init__" 580 104 5 313 588)::
 (nat_lit 319,oB "__init__" "SayRow.__init__" 13 0 318)::
 (nat_lit 342,DI #[M3O P 575,FL P 579 102 578,ER P "__init__" 590 319,ER P "shown" 597 326,ER P "reads" 604 333,ER P "target" 611 340,SA P 615 341,DO P 616] 2)::
 (nat_lit 343,CR "SayRow" 343 342 306 568)::
 (nat_lit 358,CO "__init__" "CallRow.__init__" 631 120 4 353 638)::
 (nat_lit 359,oB "__init__" "CallRow.__init__" 14 0 358)::
 (nat_lit 375,DI #[M3O P 626,FL P 630 118 629,ER P "__init__" 640 359,ER P "shown" 647 366,ER P "reads" 654 373,SA P 657 374,DO P 658] 2)::
 (nat_lit 376,CR "CallRow" 376 375 346 619)::
 (nat_lit 394,DI #[M3O P 668,FL P 672 130 671,ER P "shown" 679 392,SA P 680 393,DO P 681] 2)::
 (nat_lit 395,CR "LastRow" 395 394 379 661)::
 (nat_lit 410,CO "__init__" "IfRow.__init__" 696 136 7 405 706)::
 (nat_lit 411,oB "__init__" "IfRow.__init__" 16 0 410)::
 (nat_lit 427,DI #[M3O P 691,FL P 695 134 694,ER P "__init__" 708 411,ER P "shown" 715 418,ER P "reads" 722 425,SA P 728 426,DO P 729] 2)::
 (nat_lit 428,CR "IfRow" 428 427 398 684)::
 (nat_lit 443,CO "__init__" "LoopRow.__init__" 744 151 7 438 754)::
 (nat_lit 444,oB "__init__" "LoopRow.__init__" 17 0 443)::
 (nat_lit 460,DI #[M3O P 739,FL P 743 149 742,ER P "__init__" 756 444,ER P "shown" 763 451,ER P "reads" 770 458,SA P 776 459,DO P 777] 2)::
 (nat_lit 461,CR "LoopRow" 461 460 431 732)::
 (nat_lit 476,CO "__init__" "DeedRow.__init__" 792 166 5 471 800)::
 (nat_lit 477,oB "__init__" "DeedRow.__init__" 18 0 476)::
 (nat_lit 486,DI #[M3O P 787,FL P 791 164 790,ER P "__init__" 802 477,ER P "shown" 809 484,SA P 813 485,DO P 814] 2)::
 (nat_lit 487,CR "DeedRow" 487 486 464 780)::
 (nat_lit 502,CO "__init__" "Program.__init__" 829 176 4 497 836)::
 (nat_lit 503,oB "__init__" "Program.__init__" 19 0 502)::
 (nat_lit 505,DI #[M3O P 824,FL P 828 174 827,ER P "__init__" 838 503,SA P 842 504,ER P "__dict__" 844 507,ER P "__weakref__" 846 508,DO P 847] 4)::
 (nat_lit 506,CX "Program" 506 505 [.type "object"] [.type "object"] [] UU 817 825 "object.__new__")::
 (nat_lit 507,⟨(.type "getset_descriptor"),UU,.fields #[(.str "__dict__" 843),(.ref 506),(.builtin "function.__dict__"),(.builtin "function.__dict__#set")],#[]⟩)::
 (nat_lit 508,WR "__weakref__" 845 506 "ExceptionGroup.__weakref__")::
 (nat_lit 516,CO "ranks_told" "ranks_told" 852 181 1 511 858)::
 (nat_lit 517,FU "ranks_told" "ranks_told" (top 21) "hushrow.looker" 850 516)::
 (nat_lit 530,CO "__init__" "Book.__init__" 875 190 1 525 879)::
 (nat_lit 531,FU "__init__" "Book.__init__" (UY (top 23) 0) "hushrow.books" 861 530)::
 (nat_lit 533,DI #[E P "__module__" 870 (.str "hushrow.books" 861),FL P 874 188 873,ER P "__init__" 881 531,SA P 887 532,ER P "__dict__" 889 535,ER P "__weakref__" 891 536,DO P 892] 4)::
 (nat_lit 534,CX "Book" 534 533 [.type "object"] [.type "object"] [] UU 863 871 "object.__new__")::
 (nat_lit 535,⟨(.type "getset_descriptor"),UU,.fields #[(.str "__dict__" 888),(.ref 534),(.builtin "function.__dict__"),(.builtin "function.__dict__#set")],#[]⟩)::
 (nat_lit 536,WR "__weakref__" 890 534 "ExceptionGroup.__weakref__")::
 (nat_lit 544,CO "is_number" "is_number" 899 198 1 539 903)::
 (nat_lit 545,F7T "is_number" 26 544)::
 (nat_lit 549,⟨(.type "code"),UU,.fields #[(.str "is_good" 906),(.str "is_good" 907),(.str "/claim/cut.py" 908),(.int (202) 0),(.int (2) 0),(.int (0) 0),(.int (0) 0),(.int (3) 0),(.ref 546),(.bool true),(.int (181) 0),(.ref 547),.none,.none,.none,(.ref 548),(.int (909) 0),(.int (202) 0),(.str "/claim/cut.py" 910)],#[]⟩)::
 (nat_lit 550,F7T "is_good" 27 549)::
 (nat_lit 556,CO "given_cell" "given_cell" 912 206 2 551 918)::
 (nat_lit 557,F7T "given_cell" 28 556)::
 (nat_lit 563,CO "own_cell" "own_cell" 921 211 1 558 925)::
 (nat_lit 564,F7T "own_cell" 29 563)::
 (nat_lit 570,CO "cells_of" "cells_of" 928 213 2 565 937)::
 (nat_lit 571,F7T "cells_of" 30 570)::
 (nat_lit 577,CO "reckon" "reckon" 944 226 3 572 950)::
 (nat_lit 578,FU "reckon" "reckon" (top 33) "hushrow.sums" 940 577)::
 (nat_lit 584,CO "round_place" "round_place" 953 240 2 579 958)::
 (nat_lit 585,FU "round_place" "round_place" (top 34) "hushrow.sums" 940 584)::
 (nat_lit 598,CO "__init__" "Run.__init__" 975 245 3 593 982)::
 (nat_lit 599,rC "__init__" "Run.__init__" 36 0 598)::
 (nat_lit 605,CO "number_at" "Run.number_at" 985 252 2 600 990)::
 (nat_lit 606,rC "number_at" "Run.number_at" 36 1 605)::
 (nat_lit 612,CO "number_for" "Run.number_for" 993 255 2 607 1000)::
 (nat_lit 613,rC "number_for" "Run.number_for" 36 2 612)::
 (nat_lit 619,CO "number_told" "Run.number_told" 1003 264 2 614 1008)::
 (nat_lit 620,rC "number_told" "Run.number_told" 36 3 619)::
 (nat_lit 626,CO "pass_steps" "Run.pass_steps" 1011 269 2 621 1017)::
 (nat_lit 627,rC "pass_steps" "Run.pass_steps" 36 4 626)::
 (nat_lit 633,CO "do_rows" "Run.do_rows" 1020 273 2 628 1027)::
 (nat_lit 634,rC "do_rows" "Run.do_rows" 36 5 633)::
 (nat_lit 640,CO "do_row" "Run.do_row" 1030 280 2 635 1037)::
 (nat_lit 641,rC "do_row" "Run.do_row" 36 6 640)::
 (nat_lit 647,CO "do_put" "Run.do_put" 1040 302 2 642 1046)::
 (nat_lit 648,rC "do_put" "Run.do_put" 36 7 647)::
 (nat_lit 652,⟨(.type "code"),UU,.fields #[(.str "do_call" 1049),(.str "Run.do_call" 1050),(.str "/claim/cut.py" 1051),(.int (306) 0),(.int (2) 0),(.int (0) 0),(.int (0) 0),(.int (3) 0),(.ref 649),(.bool true),(.int (181) 0),(.ref 650),.none,.none,.none,(.ref 651),(.int (1052) 0),(.int (306) 0),(.str "/claim/cut.py" 1053)],#[]⟩)::
 (nat_lit 653,rC "do_call" "Run.do_call" 36 8 652)::
 (nat_lit 659,CO "do_if" "Run.do_if" 1055 313 2 654 1061)::
 (nat_lit 660,rC "do_if" "Run.do_if" 36 9 659)::
 (nat_lit 666,CO "do_loop" "Run.do_loop" 1064 322 2 661 1072)::
 (nat_lit 667,rC "do_loop" "Run.do_loop" 36 10 666)::
 (nat_lit 669,DI #[E P "__module__" 970 (.str "hushrow.runner" 961),FL P 974 243 973,ER P "__init__" 984 599,ER P "number_at" 992 606,ER P "number_for" 1002 613,ER P "number_told" 1010 620,ER P "pass_steps" 1019 627,ER P "do_rows" 1029 634,ER P "do_row" 1039 641,ER P "do_put" 1048 648,ER P "do_call" 1054 653,ER P "do_if" 1063 660,ER P "do_loop" 1074 667,SA P 1078 668,ER P "__dict__" 1080 671,ER P "__weakref__" 1082 672,DO P 1083] 4)::
 (nat_lit 670,CX "Run" 670 669 [.type "object"] [.type "object"] [] UU 963 971 "object.__new__")::
 (nat_lit 671,⟨(.type "getset_descriptor"),UU,.fields #[(.str "__dict__" 1079),(.ref 670),(.builtin "function.__dict__"),(.builtin "function.__dict__#set")],#[]⟩)::
 (nat_lit 672,WR "__weakref__" 1081 670 "ExceptionGroup.__weakref__")::
 (nat_lit 678,⟨(.type "code"),UU,.fields #[(.str "ends_of" 1086),(.str "ends_of" 1087),(.str "/claim/cut.py" 1088),(.int (332) 0),(.int (2) 0),(.int (0) 0),(.int (0) 0),(.int (3) 0),(.ref 675),(.bool true),(.int (181) 0),(.ref 676),.none,.none,.none,(.ref 677),(.int (1089) 0),(.int (332) 0),(.str "/claim/cut.py" 1090)],#[]⟩)::
 (nat_lit 679,FU "ends_of" "ends_of" (top 37) "hushrow.runner" 961 678)::
 (nat_lit 685,CO "run" "run" 1092 334 2 680 1099)::
 (nat_lit 686,FU "run" "run" (top 38) "hushrow.runner" 961 685)::
 (nat_lit 690,⟨(.type "code"),UU,.fields #[(.str "seen" 1104),(.str "seen" 1105),(.str "/claim/cut.py" 1106),(.int (341) 0),(.int (3) 0),(.int (0) 0),(.int (0) 0),(.int (3) 0),(.ref 687),(.bool true),(.int (181) 0),(.ref 688),.none,.none,.none,(.ref 689),(.int (1107) 0),(.int (341) 0),(.str "/claim/cut.py" 1108)],#[]⟩)::
 (nat_lit 691,F8T "seen" 40 690)::
 (nat_lit 697,CO "letter_at" "letter_at" 1110 344 2 692 1115)::
 (nat_lit 698,F8T "letter_at" 41 697)::
 (nat_lit 704,CO "told_by" "told_by" 1118 346 1 699 1122)::
 (nat_lit 705,F8T "told_by" 42 704)::
 (nat_lit 711,CO "laid" "laid" 1125 348 4 706 1137)::
 (nat_lit 712,F8T "laid" 43 711)::
 (nat_lit 718,CO "_law_cell_at" "_law_cell_at" 1142 358 2 713 1147)::
 (nat_lit 719,F9T "_law_cell_at" 45 718)::
 (nat_lit 725,CO "_law_mix" "_law_mix" 1150 362 3 720 1157)::
 (nat_lit 726,F9T "_law_mix" 46 725)::
 (nat_lit 732,CO "_law_name" "_law_name" 1160 368 2 727 1171)::
 (nat_lit 733,F9T "_law_name" 47 732)::
 (nat_lit 739,CO "_law_number" "_law_number" 1174 380 1 734 1178)::
 (nat_lit 740,F9T "_law_number" 48 739)::
 (nat_lit 744,⟨(.type "code"),UU,.fields #[(.str "_law_heads" 1181),(.str "_law_heads" 1182),(.str "/claim/cut.py" 1183),(.int (386) 0),(.int (2) 0),(.int (0) 0),(.int (0) 0),(.int (3) 0),(.ref 741),(.bool true),(.int (181) 0),(.ref 742),.none,.none,.none,(.ref 743),(.int (1184) 0),(.int (386) 0),(.str "/claim/cut.py" 1185)],#[]⟩)::
 (nat_lit 745,F9T "_law_heads" 49 744)::
 (nat_lit 749,⟨(.type "code"),UU,.fields #[(.str "_law_fit" 1187),(.str "_law_fit" 1188),(.str "/claim/cut.py" 1189),(.int (403) 0),(.int (5) 0),(.int (0) 0),(.int (0) 0),(.int (3) 0),(.ref 746),(.bool true),(.int (181) 0),(.ref 747),.none,.none,.none,(.ref 748),(.int (1190) 0),(.int (403) 0),(.str "/claim/cut.py" 1191)],#[]⟩)::
 (nat_lit 750,F9T "_law_fit" 50 749)::
 (nat_lit 756,CO "_law_thing" "_law_thing" 1193 405 4 751 1202)::
 (nat_lit 757,F9T "_law_thing" 51 756)::
 (nat_lit 763,CO "_law_value" "_law_value" 1205 411 3 758 1215)::
 (nat_lit 764,F9T "_law_value" 52 763)::
 (nat_lit 770,CO "_law_add" "_law_add" 1218 421 3 765 1225)::
 (nat_lit 771,F9T "_law_add" 53 770)::
 (nat_lit 775,⟨(.type "code"),UU,.fields #[(.str "_law_said" 1228),(.str "_law_said" 1229),(.str "/claim/cut.py" 1230),(.int (429) 0),(.int (3) 0),(.int (0) 0),(.int (0) 0),(.int (3) 0),(.ref 772),(.bool true),(.int (181) 0),(.ref 773),.none,.none,.none,(.ref 774),(.int (1231) 0),(.int (429) 0),(.str "/claim/cut.py" 1232)],#[]⟩)::
 (nat_lit 776,F9T "_law_said" 54 775)::
 (nat_lit 782,CO "_law_plain" "_law_plain" 1234 439 4 777 1247)::
 (nat_lit 783,F9T "_law_plain" 55 782)::
 (nat_lit 787,⟨(.type "code"),UU,.fields #[(.str "_law_opened" 1250),(.str "_law_opened" 1251),(.str "/claim/cut.py" 1252),(.int (454) 0),(.int (4) 0),(.int (0) 0),(.int (0) 0),(.int (3) 0),(.ref 784),(.bool true),(.int (181) 0),(.ref 785),.none,.none,.none,(.ref 786),(.int (1253) 0),(.int (454) 0),(.str "/claim/cut.py" 1254)],#[]⟩)::
 (nat_lit 788,F9T "_law_opened" 56 787)::
 (nat_lit 794,CO "_law_closed" "_law_closed" 1256 473 1 789 1264)::
 (nat_lit 795,F9T "_law_closed" 57 794)::
 (nat_lit 801,CO "_law_else" "_law_else" 1267 488 2 796 1272)::
 (nat_lit 802,F9T "_law_else" 58 801)::
 (nat_lit 808,CO "_law_called" "_law_called" 1275 492 3 803 1288)::
 (nat_lit 809,F9T "_law_called" 59 808)::
 (nat_lit 813,⟨(.type "code"),UU,.fields #[(.str "_law_turned" 1291),(.str "_law_turned" 1292),(.str "/claim/cut.py" 1293),(.int (506) 0),(.int (4) 0),(.int (0) 0),(.int (0) 0),(.int (3) 0),(.ref 810),(.bool true),(.int (181) 0),(.ref 811),.none,.none,.none,(.ref 812),(.int (1294) 0),(.int (506) 0),(.str "/claim/cut.py" 1295)],#[]⟩)::
 (nat_lit 814,F9T "_law_turned" 60 813)::
 (nat_lit 820,CO "_law_body" "_law_body" 1297 517 4 815 1307)::
 (nat_lit 821,F9T "_law_body" 61 820)::
 (nat_lit 827,CO "_law_drawn" "_law_drawn" 1310 535 4 822 1327)::
 (nat_lit 828,F9T "_law_drawn" 62 827)::
 (nat_lit 834,CO "_law_plain_row" "_law_plain_row" 1330 561 2 829 1336)::
 (nat_lit 835,F9T "_law_plain_row" 63 834)::
 (nat_lit 841,CO "_law_nested_row" "_law_nested_row" 1339 582 1 836 1345)::
 (nat_lit 842,F9T "_law_nested_row" 64 841)::
 (nat_lit 848,CO "_law_tree" "_law_tree" 1348 590 1 843 1359)::
 (nat_lit 849,F9T "_law_tree" 65 848)::
 (nat_lit 855,CO "_law_gift" "_law_gift" 1362 614 3 850 1371)::
 (nat_lit 856,F9T "_law_gift" 66 855)::
 (nat_lit 862,CO "_law_gifts" "_law_gifts" 1374 622 4 857 1384)::
 (nat_lit 863,F9T "_law_gifts" 67 862)::
 (nat_lit 867,⟨(.type "code"),UU,.fields #[(.str "_law_heard_by" 1387),(.str "_law_heard_by" 1388),(.str "/claim/cut.py" 1389),(.int (632) 0),(.int (3) 0),(.int (0) 0),(.int (0) 0),(.int (3) 0),(.ref 864),(.bool true),(.int (181) 0),(.ref 865),.none,.none,.none,(.ref 866),(.int (1390) 0),(.int (632) 0),(.str "/claim/cut.py" 1391)],#[]⟩)::
 (nat_lit 868,F9T "_law_heard_by" 68 867)::
 (nat_lit 874,CO "_law_letter" "_law_letter" 1393 638 2 869 1398)::
 (nat_lit 875,F9T "_law_letter" 69 874)::
 (nat_lit 881,CO "_law_first" "_law_first" 1401 642 2 876 1409)::
 (nat_lit 882,F9T "_law_first" 70 881)::
 (nat_lit 888,CO "_law_alike" "_law_alike" 1412 649 2 883 1417)::
 (nat_lit 889,F9T "_law_alike" 71 888)::
 (nat_lit 895,CO "law" "law" 1420 653 1 890 1433)::
 (nat_lit 896,F9T "law" 72 895)::[]
noncomputable def pP:List OM:=[2,3,30,31,32,50,51,66,67,83,84,85,86,101,102,111,112,127,128,137,138,153,154,163,164,179,180,189,190,205,206,229,230,245,246,269,270,285,286,302,303,318,319,342,343,358,359,375,376,394,395,410,411,427,428,443,444,460,461,476,477,486,487,502,503,505,506,507,508,516,517,530,531,533,534,535,536,544,545,549,550,556,557,563,564,570,571,577,578,584,585,598,599,605,606,612,613,619,620,626,627,633,634,640,641,647,648,652,653,659,660,666,667,669,670,671,672,678,679,685,686,690,691,697,698,704,705,711,712,718,719,725,726,732,733,739,740,744,745,749,750,756,757,763,764,770,771,775,776,782,783,787,788,794,795,801,802,808,809,813,814,820,821,827,828,834,835,841,842,848,849,855,856,862,863,867,868,874,875,881,882,888,889,895,896]
theorem kq(P:P2):pP=(heapK P).map (·.1):=by kernel_rfl
noncomputable abbrev prog:Program:=PySem.Challenge.pw_hushrow_k61_laid_side_by_side
noncomputable abbrev law:TK:=PySem.Challenge.rw_hushrow_k61_laid_side_by_side
noncomputable def pv:Program:={ prog with main:={ prog.main with body:=[top 0,top 2,top 3,top 5,top 6,top 7,top 8,top 9,top 10,top 11,top 12,top 13,top 14,top 15,top 16,top 17,top 18,top 19,top 21,top 23,top 25,top 26,top 27,top 28,top 29,top 30,top 32,top 33,top 34,top 36,top 37,top 38,top 40,top 41,top 42,top 43,top 45,top 46,top 47,top 48,top 49,top 50,top 51,top 52,top 53,top 54,top 55,top 56,top 57,top 58,top 59,top 60,top 61,top 62,top 63,top 64,top 65,top 66,top 67,top 68,top 69,top 70,top 71,top 72] } }
noncomputable abbrev hook:W.Hook:=S4 heapK pP kq
noncomputable abbrev test:OO->Bool:=λs=>xlAt pv [] s&&recOk (RowW.records law.row.toRowW) s
noncomputable abbrev Ji:OO->List (Option Obj):=λs=>pP.map s.heap.get?
noncomputable abbrev Kg:OX->List (Option Obj):=λw=>(heapK w.params).map λp=>UT p.2
noncomputable def T₀(P:P2):BT:=Hd.treeOf (Rh P).objs.toList 0 .nil
noncomputable def lookL(w:OX)(os:Sh):=(Hd.wU Qe prog w 11 (UT (.ref 6)) 14302 ⟨T₀ w.params,11,{},Nw [],boot_drawn,boot_toks,os⟩ (S3 prog)).map λs=>Hd.Dr prog pv [] test true (Rh w.params) s.abs
noncomputable def lookR(w:OX)(os:Sh):=UT (true,openGood pv [])
noncomputable def lookM(w:OX)(os:Sh):=(Hd.wU Qe prog w 11 (UT (.ref 6)) 14302 ⟨T₀ w.params,11,{},Nw [],boot_drawn,boot_toks,os⟩ (S3 prog)).map λs=>Ji s.abs
noncomputable def lookS(w:OX)(os:Sh):=UT (Kg w)
theorem lookL_self:lookL=lookL:=rfl
theorem lookR_self:lookR=lookR:=rfl
theorem lookM_self:lookM=lookM:=rfl
theorem lookS_self:lookS=lookS:=rfl
end K61
noncomputable def PySem.W.Fast.tw14598715356260435866:PySem.Params->PySem.Obj:=TL
theorem PySem.W.Fast.te14598715356260435866:TL=PySem.W.Fast.tw14598715356260435866:=rfl
noncomputable def PySem.W.Fast.tw662468141631087605:PySem.Program:=PySem.Challenge.pw_hushrow_k61_laid_side_by_side
theorem PySem.W.Fast.te662468141631087605:PySem.Challenge.pw_hushrow_k61_laid_side_by_side=PySem.W.Fast.tw662468141631087605:=rfl
noncomputable def PySem.W.Fast.tw11762429603476719446:PySem.Params->QR:=K61.heapK
theorem PySem.W.Fast.te11762429603476719446:K61.heapK=PySem.W.Fast.tw11762429603476719446:=rfl
lay_quick K61.lookL K61.lookR K61.lookM K61.lookS
name_quick K61lookL for K61.lookL by K61.lookL_self
name_quick K61lookR for K61.lookR by K61.lookR_self
name_quick K61lookM for K61.lookM by K61.lookM_self
name_quick K61lookS for K61.lookS by K61.lookS_self
namespace K61
open PySem L2 PySem.W
theorem xw:W.Fast.K61lookL=W.Fast.K61lookR:=by kernel_rfl
theorem vh:W.Fast.K61lookM=W.Fast.K61lookS:=by kernel_rfl
theorem yA:lookL=lookR:=W.Fast.K61lookL_eq.trans (xw.trans W.Fast.K61lookR_eq.symm)
theorem wB:lookM=lookS:=W.Fast.K61lookM_eq.trans (vh.trans W.Fast.K61lookS_eq.symm)
theorem Ej(P:P2):absHeap (T₀ P) 11 {}=Rh P:=by kernel_rfl
theorem EL(w:OX):((Rh w.params).isNs O5&&(Nw []:Array S2).size==0,(Rh w.params).objs.size,(Rh w.params).nsMap O5 "__annotations__")=(true,11,UT (.ref 6)):=by kernel_rfl
theorem left:LeftO prog pv [] test hook.obs hook.val 14302:=Hd.BC (boot_open (p:=prog) (N:=14302) (by kernel_rfl) rfl (λ_=>rfl)) EL Ej (λw os=>congrFun (congrFun yA w) os) (λw os=>congrFun (congrFun wB w) os)
end K61
namespace L2
open PySem PySem.Spec PyProof.Rows
abbrev Key:=Sum Int Str
def sS:Key->ON->Bool
 | .inl k,v=>Uc k v
 | .inr x,v=>Sx x v
def JW(w:OX):Key->Int
 | .inl k=>hashInt k
 | .inr x=>hashStr w x
theorem cZ:∀{k:Key}{v:ON},sS k v=true->(∃i t,k=MZ i/\v=QT i t)\/(∃x t,k=LI x/\v=Si x t)
 | .inl i,v,h=>by
  obtain⟨t,e⟩:=S7 (k:=i) (v:=v) h;exact .inl ⟨i,t,rfl,e⟩
 | .inr x,v,h=>by
  obtain⟨t,e⟩:=Ss (x:=x) (v:=v) h;exact .inr ⟨x,t,rfl,e⟩
theorem AW(i:Int)(t:Tok):sS (.inl i) (.int i t)=true:=by simp[sS,Uc]
theorem A8(x:Str)(t:Tok):sS (.inr x) (.str x t)=true:=by simp[sS,Sx]
theorem F6(a b:Int):decide ((MZ a:Key)=MZ b)=(a==b):=by
 by_cases e:a=b
 ·subst e;simp
 have h:¬ (MZ a:Key)=MZ b:=λq=>e (MZ.inj q);rw[decide_eq_false h];exact(beq_eq_false_iff_ne.mpr e).symm
theorem Fv(a b:Str):decide ((LI a:Key)=LI b)=decide (a=b):=by
 by_cases e:a=b
 ·subst e;simp
 have h:¬ (LI a:Key)=LI b:=λq=>e (LI.inj q);rw[decide_eq_false h,decide_eq_false e]
theorem GL(a:Int)(b:Str):decide ((MZ a:Key)=LI b)=false:=decide_eq_false (λq=>nomatch q)
theorem Gq(a:Str)(b:Int):decide ((LI a:Key)=MZ b)=false:=decide_eq_false (λq=>nomatch q)
def cF(prog:Program)(w:OX):PySem.KeyKind prog w Key where
 is:=sS
 hash:=JW w
 inj:=λv a b ha hb=>by
  rcases cZ ha with⟨i,t,rfl,rfl⟩|⟨x,t,rfl,rfl⟩
  ·rcases cZ hb with⟨j,u,rfl,e⟩|⟨y,u,rfl,e⟩
   ·injection e with e1 _;rw[e1]
   exact nomatch e
  rcases cZ hb with⟨j,u,rfl,e⟩|⟨y,u,rfl,e⟩
  ·exact nomatch e
  injection e with e1 _;rw[e1]
 byValue:=λk v h=>by
  rcases cZ h with⟨i,t,rfl,rfl⟩|⟨x,t,rfl,rfl⟩<;>rfl
 pyHash:=λhv h=>by
  rcases cZ hv with⟨i,t,rfl,rfl⟩|⟨x,t,rfl,rfl⟩
  ·exact wpAny_pyHash_int h
  exact wpAny_pyHash_str h
 eqBool:=λhu hv h=>by
  rcases cZ hu with⟨i,t,rfl,rfl⟩|⟨x,t,rfl,rfl⟩
  ·rcases cZ hv with⟨j,u,rfl,rfl⟩|⟨y,u,rfl,rfl⟩
   ·rw[F6]at h;exact wpAny_eqBool_int h
   rw[GL]at h;exact SF i t y u _ _ _ _ h
  rcases cZ hv with⟨j,u,rfl,rfl⟩|⟨y,u,rfl,rfl⟩
  ·rw[Gq]at h;exact SG x t j u _ _ _ _ h
  rw[Fv]at h;exact wpAny_eqBool_str h
 «strs»:=λk x t v h=>by
  rcases cZ h with⟨i,u,rfl,e⟩|⟨y,u,rfl,e⟩
  ·exact nomatch e
  injection e with e1 _;subst e1;cases v<;>rfl
theorem wK(prog:Program)(w:OX)(i:Int)(t:Tok):(cF prog w).is (.inl i) (.int i t)=true:=AW i t
theorem vN(prog:Program)(w:OX)(x:Str)(t:Tok):(cF prog w).is (.inr x) (.str x t)=true:=A8 x t
inductive V where
 |non|bl (b:Bool)|int (i:Int)|str (x:Str)|byt (b:Array UInt8)|flt (b:UInt64)|ref (a:OM)|ty (n:String)
 deriving DecidableEq
def U2:V->ON->Prop
 | .non,u=>u=SH
 | .bl b,u=>u=Ru b
 | .int i,u=>∃t,u=QT i t
 | .str x,u=>∃t,u=Si x t
 | .byt b,u=>∃t,u=Value.bytes b t
 | .flt b,u=>∃t,u=Ud b t
 | .ref a,u=>u=OY a
 | .ty n,u=>u=QA n
abbrev U1:List V->List ON->Prop:=Paired U2
theorem U1.length{xs:List V}{us:List ON}(r:U1 xs us):xs.length=us.length:=OU r
theorem U1.get:∀{xs:List V}{us:List ON}{i:Nat}{x:V},U1 xs us->xs[i]?=UT x->∃u,us[i]?=UT u/\U2 x u
 |_,_,_,_,.nil,e=>by simp at e
 |_,_,0,_,.cons r _,e=>by simp at e;subst e;exact⟨_,rfl,r⟩
 |_,_,i+1,x,.cons _ t,e=>by
  obtain⟨u,h1,h2⟩:=U1.get (i:=i) (x:=x) t (by simpa using e);exact⟨u,by simpa using h1,h2⟩
theorem U1.set{x:V}{u:ON}(r:U2 x u):∀{xs:List V}{us:List ON}(i:Nat),U1 xs us->U1 (xs.set i x) (us.set i u)
 |_,_,_,.nil=>.nil
 |_,_,0,.cons _ t=>.cons r t
 |_,_,i+1,.cons q t=>.cons q (U1.set r i t)
theorem U1.append:∀{xs ys:List V}{us ws:List ON},U1 xs us->U1 ys ws->U1 (xs++ys) (us++ws)
 |_,_,_,_,.nil,s=>s
 |_,_,_,_,.cons r t,s=>.cons r (U1.append t s)
theorem U1.take:∀{xs:List V}{us:List ON}(n:Nat),U1 xs us->U1 (xs.take n) (us.take n)
 |_,_,0,_=>.nil
 |_,_,_+1,.nil=>.nil
 |_,_,n+1,.cons r t=>.cons r (U1.take n t)
theorem U1.drop:∀{xs:List V}{us:List ON}(n:Nat),U1 xs us->U1 (xs.drop n) (us.drop n)
 |_,_,0,r=>r
 |_,_,_+1,.nil=>.nil
 |_,_,n+1,.cons _ t=>U1.drop n t
def lC:Option V->Option ON->Prop
 |some v,UT u=>U2 v u
 |none,UU=>True
 |_,_=>False
def KV{κ:Type}:List (κ×V)->List (κ×ON)->Prop:=Paired λ(p:κ×V)(q:κ×ON)=>p.1=q.1/\U2 p.2 q.2
def kV:Key->V
 | .inl i=>.int i
 | .inr x=>.str x
inductive HO where
 |lst (xs:List V)
 |tup (xs:List V)
 |dK (kvs:List (Key×V))|dT (kvs:List (List Key×V))
 |set (S:Int->Bool) (n:Nat)
 |ins (C dx:OM) (fs:List (Str×V))
 |own (x:OM)
 |xd (fs:List (Str×V))
 |met (f x:OM)
 |rng (lo hi:Int)
 |frz (o:Obj) (u:HO)
 |tbl (ps:Array ON)
 |ext (φ:O8->Prop)
abbrev Hp:=OM->Option HO
def upd(H:Hp)(a:OM)(o:HO):Hp:=λb=>if b=a then UT o else H b
theorem ak{H:Hp}{a:OM}{o:HO}:upd H a o a=UT o:=by unfold upd;rw[if_pos rfl]
theorem aw{H:Hp}{a b:OM}{o:HO}(h:b≠a):upd H a o b=H b:=by unfold upd;rw[if_neg h]
theorem kG{H:Hp}{a:OM}{o u:HO}:upd (upd H a o) a u=upd H a u:=by
 funext b;unfold upd;split<;>rfl
theorem IY{H:Hp}{a b:OM}{o u:HO}(h:H a=UT o)(h':H b=UT u)(d:o≠u):a≠b:=by
 intro e;subst e;rw[h]at h';exact d (OS h')
theorem eI{H:Hp}{a b:OM}{o:HO}(h:H a=UT o)(h':H b=UU):a≠b:=by
 intro e;subst e;rw[h]at h';cases h'
section
variable(P:Program)(w:OX)
def dB(H:Hp)(h:O8)(a:OM):HO->Prop
 | .lst xs=>xs.length<=sizeLine/\∃(its:List ON)(n:Nat),U1 xs its/\h.get? a=UT { cls:=.type "list",data:=.seq its.toArray n }
 | .tup xs=>xs.length<=sizeLine/\∃its:List ON,U1 xs its/\IsTup h a its.toArray
 | .dK kvs=>kvs.length<=sizeLine/\(a==Pm)=false/\∃vs,KV kvs vs/\h.DictOf (cF P w) a vs
 | .dT kvs=>kvs.length<=sizeLine/\(a==Pm)=false/\∃xs:List (List Key×OM×ON),
   Paired (λ(p:List Key×V)(q:List Key×OM×ON)=>p.1=q.1/\H q.2.1=UT (.tup (p.1.map kV))/\U2 p.2 q.2.2) kvs xs/\
   ∃o es ep,h.get? a=UT o/\o.ExactDict/\o.data=.dict es ep/\es.toList=xs.map (entryOfKey (Ri (cF P w)))/\(xs.map (·.1)).Nodup
 | .set S n=>h.SetOf (intKind P w) a S n
 | .ins C dx fs=>H dx=UT (.own a)/\fs.length<=1000/\dx≠a/\h.get? a=UT (QB C dx)/\
   ∃mA,h.Ns1 dx mA/\(∀f,lC (fs.lookup f) (mA f))/\S9 mA (fs.map (·.1))
 | .own _=>∃o,h.get? a=UT o
 | .xd fs=>∃mA,h.Ns1 a mA/\∀f,lC (fs.lookup f) (mA f)
 | .rng lo hi=>∃t u v,h.get? a=UT { cls:=.type "range",data:=.fields #[.int lo t,.int hi u,.int 1 v] }
 | .frz o u=>h.get? a=UT o/\dB H h a u
 | .tbl ps=>h.get? a=UT { cls:=.none,data:=.fields ps }
 | .met f x=>h.get? a=UT (Ue (.ref f) (.ref x))
 | .ext φ=>φ h/\(∃o,h.get? a=UT o)/\∀h1 h2:O8,φ h1->(∀o,h1.get? a=UT o->h2.get? a=UT o)->φ h2
def HOk(H:Hp)(h:O8):Prop:=∀a o,H a=UT o->dB P w H h a o
end
section
variable{P:Program}{w:OX}{H H':Hp}{h h':O8}{a:OM}{o:HO}
theorem dB.lt(x:dB P w H h a o):a<h.objs.size:=by
 cases o with
 |lst xs=>obtain⟨_,_,_,_,e⟩:=x;exact OW e
 |tup xs=>obtain⟨_,_,_,p⟩:=x;exact p.lt
 |dK kvs=>obtain⟨_,_,_,_,o,_,_,e,_⟩:=x;exact OW e
 |dT kvs=>obtain⟨_,_,_,_,o,_,_,e,_⟩:=x;exact OW e
 |set S n=>obtain⟨o,_,_,_,e,_⟩:=x;exact OW e
 |ins C dx fs=>obtain⟨_,_,_,e,_⟩:=x;exact OW e
 |own y=>obtain⟨_,e⟩:=x;exact OW e
 |xd fs=>obtain⟨_,⟨_,_,_,e,_⟩,_⟩:=x;exact OW e
 |rng lo hi=>obtain⟨_,_,_,e⟩:=x;exact OW e
 |frz ob u=>obtain⟨e,_⟩:=x;exact OW e
 |tbl ps=>exact OW (show h.get? a=UT _ from x)
 |met f y=>exact OW (show h.get? a=UT _ from x)
 |ext φ=>obtain⟨_,⟨_,e⟩,_⟩:=x;exact OW e
theorem Paired.cR{α β:Type}{F G:α->β->Prop}:∀{l₁:List α}{l₂:List β},Paired F l₁ l₂->(∀a b,F a b->G a b)->Paired G l₁ l₂
 |_,_,.nil,_=>.nil
 |_,_,.cons r t,f=>.cons (f _ _ r) (Paired.cR t f)
theorem dB.yR(x:dB P w H h a o)(k:∀b u,(b=a\/H b=UT (.own a))->h.get? b=UT u->h'.get? b=UT u)
  (ho:∀b,H b=UT (.own a)->H' b=UT (.own a)) (ht:∀b xs,H b=UT (.tup xs)->H' b=UT (.tup xs)):dB P w H' h' a o:=by
 induction o with
 |lst xs=>obtain⟨z,its,n,r,e⟩:=x;exact⟨z,its,n,r,k _ _ (.inl rfl) e⟩
 |tup xs=>obtain⟨z,its,r,ob,e,c⟩:=x;exact⟨z,its,r,ob,k _ _ (.inl rfl) e,c⟩
 |dK kvs=>obtain⟨z,y,vs,r,ob,es,ep,e,c⟩:=x;exact⟨z,y,vs,r,ob,es,ep,k _ _ (.inl rfl) e,c⟩
 |dT kvs=>
  obtain⟨z,y,xs,r,ob,es,ep,e,c⟩:=x
  exact⟨z,y,xs,Paired.cR r λp q z=>⟨z.1,ht _ _ z.2.1,z.2.2⟩,ob,es,ep,k _ _ (.inl rfl) e,c⟩
 |set S n=>obtain⟨ob,es,ep,t,e,c⟩:=x;exact⟨ob,es,ep,t,k _ _ (.inl rfl) e,c⟩
 |ins C dx fs=>
  obtain⟨d,z,ne,e,mA,⟨od,es,ep,e2,c⟩,r⟩:=x
  exact⟨ho _ d,z,ne,k _ _ (.inl rfl) e,mA,⟨od,es,ep,k _ _ (.inr d) e2,c⟩,r⟩
 |own y=>obtain⟨ob,e⟩:=x;exact⟨ob,k _ _ (.inl rfl) e⟩
 |xd fs=>obtain⟨mA,⟨od,es,ep,e,c⟩,r⟩:=x;exact⟨mA,⟨od,es,ep,k _ _ (.inl rfl) e,c⟩,r⟩
 |rng lo hi=>obtain⟨t,u,v,e⟩:=x;exact⟨t,u,v,k _ _ (.inl rfl) e⟩
 |frz ob u ih=>obtain⟨e,q⟩:=x;exact⟨k _ _ (.inl rfl) e,ih q⟩
 |tbl ps=>
  have e:h.get? a=UT { cls:=.none,data:=.fields ps }:=x
  show h'.get? a=UT { cls:=.none,data:=.fields ps }
  exact k a _ (.inl rfl) e
 |met f y=>
  have e:h.get? a=UT (Ue (.ref f) (.ref y)):=x
  show h'.get? a=UT (Ue (.ref f) (.ref y))
  exact k a _ (.inl rfl) e
 |ext φ=>obtain⟨p,⟨o,e⟩,st⟩:=x;exact⟨st _ _ p λo q=>k _ _ (.inl rfl) q,⟨o,k _ _ (.inl rfl) e⟩,st⟩
theorem HOk.lt(x:HOk P w H h)(e:H a=UT o):a<h.objs.size:=(x a o e).lt
theorem HOk.fresh(x:HOk P w H h)(e:h.objs.size<=a):H a=UU:=by
 cases q:H a with
 |none=>rfl
 |some u=>exact absurd (KZ (x.lt q) e) (LS _)
theorem HOk.kept(x:HOk P w H h)(k:∀b u,h.get? b=UT u->h'.get? b=UT u):HOk P w H h':=λa o e=>
 (x a o e).yR (λb u _ q=>k b u q) (λ_ q=>q) λ_ _ q=>q
theorem HOk.laid(x:HOk P w H h)(k:∀b u,h.get? b=UT u->h'.get? b=UT u)(hp:h.objs.size<=a)(new:dB P w (upd H a o) h' a o):HOk P w (upd H a o) h':=λb u e=>by
 have hn:=x.fresh hp;by_cases hb:b=a
 ·subst hb;rw[ak]at e;cases e;exact new
 rw[aw hb]at e;exact(x b u e).yR (λc v _ q=>k c v q) (λc q=>by rw[aw (eI q hn)];exact q) λc xs q=>by rw[aw (eI q hn)];exact q
end
def Rd(H:Hp)(a:OM)(u:HO):Prop:=H a=UT u\/∃o,H a=UT (.frz o u)
theorem Rd.ok{P:Program}{w:OX}{H:Hp}{h:O8}{a:OM}{u:HO}(r:Rd H a u)(x:HOk P w H h):dB P w H h a u:=by
 rcases r with r|⟨o,r⟩
 ·exact x a u r
 obtain⟨_,q⟩:=x a _ r;exact q
def Mut:Option HO->Prop
 |some (.lst _)=>True
 |some (.dK _)=>True
 |some (.dT _)=>True
 |some (.set _ _)=>True
 |some (.ins _ _ _)=>True
 |some (.ext _)=>True
 |_=>False
section
variable{P:Program}{w:OX}{H:Hp}{h h':O8}{x e:OM}{o':HO}
theorem HOk.write(ok:HOk P w H h)(mu:Mut (H x))(he:e=x\/H e=UT (.own x))(k:∀b u,b≠e->h.get? b=UT u->h'.get? b=UT u)(heo:∃u,h'.get? e=UT u)
  (new:dB P w (upd H x o') h' x o'):HOk P w (upd H x o') h':=λb u q=>by
 have nown:∀c y,H c=UT (.own y)->c≠x:=λc y r z=>by subst z;rw[r]at mu;exact mu
 have ntup:∀c xs,H c=UT (.tup xs)->c≠x:=λc xs r z=>by subst z;rw[r]at mu;exact mu
 by_cases hb:b=x
 ·subst hb;rw[ak]at q;cases q;exact new
 rw[aw hb]at q
 by_cases hbe:b=e
 ·have q':H b=UT (.own x):=by
   rcases he with z|z
   ·exact absurd (hbe.trans z) hb
   rw[hbe];exact z
  rw[q]at q';cases q';obtain⟨v,hv⟩:=heo;exact⟨v,by rw[hbe];exact hv⟩
 refine(ok b u q).yR (λc v hc r=>k c v ?_ r) (λc r=>by rw[aw (nown c b r)];exact r) λc xs r=>by rw[aw (ntup c xs r)];exact r
 rcases hc with rfl|hc
 ·exact hbe
 rintro rfl
 rcases he with z|z
 ·exact nown c b hc z
 rw[hc]at z;cases z;exact hb rfl
end
structure Un(fs ex:List OM)(H H':Hp)(h h':O8):Prop where
 keep:∀b o,h.get? b=UT o->H b=UU->b∉fs->b∉ex->h'.get? b=UT o
 slot:∀b o,h.get? b=UT o->H b=UU->b∈fs->b∉ex->∃sl,h'.get? b=UT { o with slots:=sl }
 free:∀b o,h.get? b=UT o->H b=UU->b∉ex->H' b=UU
 there:∀b o,h.get? b=UT o->b∉ex->∃o',h'.get? b=UT o'
 uL:∀b xs,H b=UT (.tup xs)->H' b=UT (.tup xs)
 sJ:∀b o u,H b=UT (.frz o u)->H' b=UT (.frz o u)
 vm:∀b ps,H b=UT (.tbl ps)->∃more,H' b=UT (.tbl (ps++more))
section
variable{fs fs' ex ex':List OM}{H H1 H2:Hp}{h h1 h2 h':O8}{a x e:OM}{o:HO}
theorem Un.any(u:Un fs ex H H1 h h1){b:OM}{ob:Obj}(q:h.get? b=UT ob)(n:H b=UU)(hx:b∉ex):∃sl,h1.get? b=UT { ob with slots:=sl }:=by
 by_cases hb:b∈fs
 ·exact u.slot b ob q n hb hx
 exact⟨ob.slots,u.keep b ob q n hb hx⟩
theorem Un.kept(k:∀b u,h.get? b=UT u->h'.get? b=UT u):Un fs ex H H h h':=
 ⟨λb ob q _ _ _=>k b ob q,λb ob q _ _ _=>⟨ob.slots,k b ob q⟩,λ_ _ _ n _=>n,λb ob q _=>⟨ob,k b ob q⟩,λ_ _ q=>q,λ_ _ _ q=>q,λ_ ps q=>⟨#[],by rw[q];simp⟩⟩
theorem Un.refl:Un fs ex H H h h:=Un.kept λ_ _ q=>q
theorem Un.laid(k:∀b u,h.get? b=UT u->h'.get? b=UT u)(hp:h.objs.size<=a)(hn:H a=UU):Un fs ex H (upd H a o) h h' where
 keep:=λb u q _ _ _=>k b u q
 slot:=λb u q _ _ _=>⟨u.slots,k b u q⟩
 free:=λb u q n _=>by rw[aw (Lp (KZ (OW q) hp))];exact n
 there:=λb u q _=>⟨u,k b u q⟩
 uL:=λb xs q=>by rw[aw (eI q hn)];exact q
 sJ:=λb u xs q=>by rw[aw (eI q hn)];exact q
 vm:=λb ps q=>⟨#[],by rw[aw (eI q hn),q];simp⟩
theorem Un.write(mu:Mut (H x))(he:e=x\/H e=UT (.own x))(k:∀b u,b≠e->h.get? b=UT u->h'.get? b=UT u)(heo:∃u,h'.get? e=UT u):Un fs ex H (upd H x o) h h':=by
 have hx:∀b,H b=UU->b≠x:=λb n z=>by subst z;rw[n]at mu;exact mu
 have hb:∀b,H b=UU->b≠e:=λb n z=>by
  subst z;rcases he with r|r
  ·exact hx b n r
  rw[n]at r;cases r
 have hm:∀b u,H b=UT u->¬ Mut (UT u)->b≠x:=λb u q nm z=>by subst z;rw[q]at mu;exact nm mu
 refine⟨λb u q n _ _=>k b u (hb b n) q,λb u q n _ _=>⟨u.slots,k b u (hb b n) q⟩,λb u q n _=>by rw[aw (hx b n)];exact n,λb u q _=>?_,
  λb xs q=>by rw[aw (hm b _ q λz=>z)];exact q,λb u xs q=>by rw[aw (hm b _ q λz=>z)];exact q,λb ps q=>⟨#[],by rw[aw (hm b _ q λz=>z),q];simp⟩⟩
 by_cases hbe:b=e
 ·subst hbe;exact heo
 exact⟨u,k b u hbe q⟩
end
def trk(h:O8)(H:Hp):List OM:=(O2 h.objs.size).filter λa=>(H a).isSome
def vv(h:O8)(H:Hp):O8:=W.hideAll h (trk h H)
theorem AA(h:O8)(H:Hp):(vv h H).objs.size=h.objs.size:=W.hideAll_size _ _
theorem CW{h:O8}{H:Hp}{b:OM}{o:Obj}(e:h.get? b=UT o)(n:H b=UU):(vv h H).get? b=UT o:=
 W.hideAll_get _ e λhm=>by
  have q:(H b).isSome=true:=(Lw.mp hm).2;rw[n]at q;simp at q
theorem EV{h:O8}{H:Hp}{b:OM}{o:Obj}(e:(vv h H).get? b=UT o):h.get? b=UT o/\H b=UU:=by
 have e':h.get? b=UT o:=W.of_hideAll (trk h H) e;refine⟨e',?_⟩;cases q:H b with
 |none=>rfl
 |some x=>
  have hm:b∈trk h H:=Lw.mpr ⟨Lu.mpr (OW e'),by simp[q]⟩;have z:(vv h H).get? b=UU:=W.hideAll_none (trk h H) hm;rw[z]at e;cases e
structure Mod(K:OQ)(mg:Str->Option ON)(base:O8):Prop where
 kin:K.In base
 glob:base.Ns O5 mg
 blt:∃mb,base.Ns Rv mb/\∀x:Str,x≠"__name__"->mb x=PU x
 nolimit:base.NoLimit
structure Cx where
 prog:Program
 w:OX
 K:OQ
 mg:Str->Option ON
 base:O8
 A:O7
 N:List Str
 s₀:OO
 H₀:Hp
 env:Env
 outer:List Env
 stack:List Env
 ex:List OM
 fn:Str->Bool
 calm:Bool
 pn:List (OM×Obj)
 xe:ON->OO->Prop
def frs(l:List Env):List OM:=l.filterMap (·.frame)
abbrev Cx.fs(X:Cx):List OM:=frs X.outer
def Vis(sc:Qo)(x:Str):Prop:=sc.names.lookup x=UT .local\/sc.names.lookup x=UT .cell\/sc.names.lookup x=UT .free
def Loc(sc:Qo)(x:Str):Prop:=sc.names.lookup x=UT .local\/sc.names.lookup x=UT .cell
def Vp(env:Env)(h:O8)(m:Str->Option ON)(x:Str)(u:ON):Prop:=
 (env.kindOf x=UT .local/\m x=UT u)\/((env.kindOf x=UT .cell\/env.kindOf x=UT .free)/\∃c,env.cells.lookup x=UT c/\h.IsCell c (UT u))
structure Cx.Ok(X:Cx):Prop where
 mod:Mod X.K X.mg X.base
 kind:X.env.scope.kind=.function
 glob:X.env.globals=O5
 blt:X.env.builtins=Rv
 above:X.s₀.heap.objs.size<=X.env.locals
 inj:∀x y c,X.env.cells.lookup x=UT c->X.env.cells.lookup y=UT c->x=y
 has:∀x,(X.env.kindOf x=UT .cell\/X.env.kindOf x=UT .free)->∃c,X.env.cells.lookup x=UT c
 cab:∀x c,X.fn x=true->X.env.cells.lookup x=UT c->X.s₀.heap.objs.size<=c
 hd:X.calm=true->X.A.handled=UU
 frames:X.A.frames=UT X.stack
 stk:X.stack=X.outer\/(X.stack=X.env::X.outer/\X.env.frame=UT X.env.locals)
 exf:∀b∈X.ex,b≠X.env.locals/\∀x c,X.env.cells.lookup x=UT c->c≠b
 bs:∀b o,X.base.get? b=UT o->X.s₀.heap.get? b=UT o/\X.H₀ b=UU
 bsz:X.base.objs.size<=X.s₀.heap.objs.size
 Df:∀b o,X.base.get? b=UT o->b∉X.ex
 BG:∀b∈X.ex,b∉X.fs
 p6:X.s₀.heap.FunFrames X.base X.outer
 frf:∀b∈X.fs,X.H₀ b=UU
structure Inv(X:Cx)(pins:List (OM×Obj))(σ:List (Option V))(H:Hp)(s:OO):Prop where
 ok:X.Ok
 os:s.os=X.s₀.os
 bare:Q6 s.gens
 base:Un X.fs X.ex X.H₀ H X.s₀.heap s.heap
 loc:∃m,s.heap.Ns X.env.locals m/\∀(i:Nat)(x:Str)(v:V),X.N[i]?=UT x->σ[i]?=UT (UT v)->Vis X.env.scope x->∃u,U2 v u/\Vp X.env s.heap m x u
 cell:∀x c,X.env.cells.lookup x=UT c->∃v,s.heap.IsCell c v
 free:H X.env.locals=UU
 lN:∀x c,X.env.cells.lookup x=UT c->H c=UU
 pin:∀p∈X.pn++pins,s.heap.get? p.1=UT p.2/\H p.1=UU/\p.1≠X.env.locals/\p.1∉X.fs/\∀v,p.2.data≠ .cell v
 hok:HOk X.prog X.w H s.heap
 len:σ.length=X.N.length
section
variable{X:Cx}{pins:List (OM×Obj)}{σ:List (Option V)}{H H':Hp}{s:OO}{h':O8}
theorem Cx.Ok.JP(ok:X.Ok){b:OM}{o:Obj}(e:X.base.get? b=UT o):b∉X.fs:=λhb=>by
 have:=(ok.p6.mem hb).1;rw[e]at this;cases this
theorem Inv.bs(I:Inv X pins σ H s):∀b o,X.base.get? b=UT o->s.heap.get? b=UT o/\H b=UU:=λb o e=>
 ⟨I.base.keep b o (I.ok.bs b o e).1 (I.ok.bs b o e).2 (I.ok.JP e) (I.ok.Df b o e),I.base.free b o (I.ok.bs b o e).1 (I.ok.bs b o e).2 (I.ok.Df b o e)⟩
theorem Inv.bk(I:Inv X pins σ H s):∀b o,X.base.get? b=UT o->s.heap.get? b=UT o:=λb o e=>(I.bs b o e).1
theorem Inv.mod(I:Inv X pins σ H s):Mod X.K X.mg X.base:=I.ok.mod
theorem Inv.kIn(I:Inv X pins σ H s):X.K.In s.heap:=I.ok.mod.kin.keeps I.bk
theorem Inv.lt(I:Inv X pins σ H s):X.env.locals<s.heap.objs.size:=let ⟨_,hn,_⟩:=I.loc;hn.lt
theorem Inv.sz(I:Inv X pins σ H s):X.s₀.heap.objs.size<=s.heap.objs.size:=KS I.ok.above (Ni I.lt)
theorem Inv.IG(I:Inv X pins σ H s){a:OM}(h:s.heap.objs.size<=a):a∉X.fs:=λhb=>by
 obtain⟨_,o,ho,_⟩:=I.ok.p6.mem hb;exact absurd (KZ (OW ho) (KS I.sz h)) (LS _)
theorem Inv.cne(I:Inv X pins σ H s):∀x c,X.env.cells.lookup x=UT c->c≠X.env.locals:=λx c e z=>by
 obtain⟨v,o,ho,hd⟩:=I.cell x c e;obtain⟨m,⟨o',es,ep,ho',hd',_⟩,_⟩:=I.loc;rw[z,ho']at ho;cases ho;rw[hd']at hd;cases hd
theorem Inv.p6(I:Inv X pins σ H s):s.heap.FunFrames X.base X.outer:=by
 have all:∀(l:List Env),(∀b∈frs l,b∈X.fs)->X.s₀.heap.FunFrames X.base l->s.heap.FunFrames X.base l:=by
  intro l;induction l with
  |nil=>intro _ _;trivial
  |cons env r ih=>
   intro hs hl;obtain⟨hk,⟨L,o,hf,hn,ho,hd⟩,hr⟩:=hl;have hL:L∈X.fs:=hs L (by unfold frs;rw[MT,hf];exact Kv);obtain⟨sl,e⟩:=I.base.slot L o ho (I.ok.frf L hL) hL λz=>I.ok.BG L z hL;exact⟨hk,⟨L,_,hf,hn,e,hd⟩,ih (λb hb=>hs b (by unfold frs;rw[MT,hf];exact Kx _ hb)) hr⟩
 exact all X.outer (λ_ hb=>hb) I.ok.p6
theorem Inv.stack(I:Inv X pins σ H s):s.heap.FunFrames X.base X.stack:=by
 rcases I.ok.stk with e|⟨e,hf⟩
 ·rw[e];exact I.p6
 rw[e];obtain⟨m,hn,_⟩:=I.loc;refine .cons (by rw[I.ok.kind];decide) hf hn ?_ I.p6;exact Heap.get?_none_of_le (KS I.ok.bsz I.ok.above)
theorem Inv.xO(I:Inv X pins σ H s):∀b∈frs X.stack,b∈X.env.locals::X.fs:=λb hb=>by
 rcases I.ok.stk with e|⟨e,hf⟩
 ·rw[e]at hb;exact Kx _ hb
 rw[e]at hb;unfold frs at hb;rw[MT,hf]at hb;exact hb
theorem Inv.zx(I:Inv X pins σ H s):∀b∈frs X.stack,H b=UU:=λb hb=>by
 rcases Ku.mp (I.xO b hb)with e|hb
 ·rw[e];exact I.free
 obtain⟨_,o,ho,_⟩:=I.ok.p6.mem hb;exact I.base.free b o ho (I.ok.frf b hb) λz=>I.ok.BG b z hb
theorem Inv.step{g':Array S2}{t':Nat}{d':Drawn}{ch:List OM}(I:Inv X pins σ H s)
  (hch:∀b∈ch,(b∈X.ex\/X.s₀.heap.objs.size<=b)/\b≠X.env.locals/\(∀x c,X.env.cells.lookup x=UT c->c≠b)/\∀p∈X.pn++pins,p.1≠b)
  (keep:∀b o,b≠X.env.locals->b∉X.fs->b∉ch->s.heap.get? b=UT o->H b=UU->h'.get? b=UT o)
  (slot:∀b o,b≠X.env.locals->b∈X.fs->b∉ch->s.heap.get? b=UT o->H b=UU->∃sl,h'.get? b=UT { o with slots:=sl }) (free:∀b o,b∉ch->s.heap.get? b=UT o->H b=UU->H' b=UU)
  (there:∀b o,b∉ch->s.heap.get? b=UT o->∃o',h'.get? b=UT o')
  (uL:∀b xs,H b=UT (.tup xs)->H' b=UT (.tup xs)) (sJ:∀b o u,H b=UT (.frz o u)->H' b=UT (.frz o u)) (vm:∀b ps,H b=UT (.tbl ps)->∃more,H' b=UT (.tbl (ps++more)))
  (ns:∀m,s.heap.Ns X.env.locals m->h'.Ns X.env.locals m) (hok:HOk X.prog X.w H' h') (hg:Q6 g') :
  Inv X pins σ H' { s with heap:=h',gens:=g',drawn:=d',toks:=t' }:=by
 have neL:∀b o,X.s₀.heap.get? b=UT o->b≠X.env.locals:=λb o e=>Lp (KZ (OW e) I.ok.above)
 have neC:∀b o,X.s₀.heap.get? b=UT o->b∉X.ex->b∉ch:=λb o e hx hb=>by
  rcases(hch b hb).1 with z|z
  ·exact hx z
  exact absurd (KZ (OW e) z) (LS _)
 have cellK:∀x c,X.env.cells.lookup x=UT c->∀v,s.heap.IsCell c v->h'.IsCell c v:=λx c e v ⟨o,ho,hd⟩=>by
  have nch:c∉ch:=λz=>(hch c z).2.2.1 x c e rfl;by_cases hc:c∈X.fs
  ·obtain⟨sl,q⟩:=slot c o (I.cne x c e) hc nch ho (I.lN x c e);exact⟨_,q,hd⟩
  exact⟨o,keep c o (I.cne x c e) hc nch ho (I.lN x c e),hd⟩
 refine⟨I.ok,I.os,hg,⟨λb o e n hb hx=>?_,λb o e n hb hx=>?_,λb o e n hx=>?_,λb o e hx=>?_,λb xs e=>uL b xs (I.base.uL b xs e),λb o xs e=>sJ b o xs (I.base.sJ b o xs e),λb ps e=>?_⟩,?_,λx c e=>?_,?_,λx c e=>?_,λp hp=>?_,hok,I.len⟩
 ·exact keep b o (neL b o e) hb (neC b o e hx) (I.base.keep b o e n hb hx) (I.base.free b o e n hx)
 ·obtain⟨sl,e1⟩:=I.base.slot b o e n hb hx;obtain⟨sl',e2⟩:=slot b _ (neL b o e) hb (neC b o e hx) e1 (I.base.free b o e n hx);exact⟨sl',e2⟩
 ·obtain⟨o',e1⟩:=I.base.there b o e hx;exact free b o' (neC b o e hx) e1 (I.base.free b o e n hx)
 ·obtain⟨o',e1⟩:=I.base.there b o e hx;exact there b o' (neC b o e hx) e1
 ·obtain⟨m1,e1⟩:=I.base.vm b ps e;obtain⟨m2,e2⟩:=vm b _ e1;exact⟨m1++m2,by rw[e2,Array.append_assoc]⟩
 ·obtain⟨m,hn,hl⟩:=I.loc;refine⟨m,ns m hn,λi x v e1 e2 e3=>?_⟩;obtain⟨u,r,l⟩:=hl i x v e1 e2 e3;refine⟨u,r,?_⟩;rcases l with l|⟨k,c,e,z⟩
  ·exact .inl l
  exact .inr ⟨k,c,e,cellK x c e _ z⟩
 ·obtain⟨v,z⟩:=I.cell x c e;exact⟨v,cellK x c e v z⟩
 ·obtain⟨m,⟨o,_,_,ho,_⟩,_⟩:=I.loc;exact free _ o (λz=>(hch _ z).2.1 rfl) ho I.free
 ·obtain⟨v,o,ho,hd⟩:=I.cell x c e;exact free c o (λz=>(hch c z).2.2.1 x c e rfl) ho (I.lN x c e)
 obtain⟨e,n,ne,nf,d⟩:=I.pin p hp
 have nch:p.1∉ch:=λz=>(hch p.1 z).2.2.2 p hp rfl
 exact⟨keep p.1 p.2 ne nf nch e n,free p.1 p.2 nch e n,ne,nf,d⟩
theorem Inv.un{t':Nat}(I:Inv X pins σ H s)(u:Un X.fs [] H H' s.heap h')(hok:HOk X.prog X.w H' h'):Inv X pins σ H' { s with heap:=h',toks:=t' }:=by
 obtain⟨m,⟨o,es,ep,ho,r⟩,_⟩:=id I.loc;obtain⟨sl,hL⟩:=u.any ho I.free (by simp);exact I.step (g':=s.gens) (d':=s.drawn) (ch:=[]) (λ_ z=>nomatch z) (λb o _ hb _ e n=>u.keep b o e n hb (by simp)) (λb o _ hb _ e n=>u.slot b o e n hb (by simp)) (λb o _ e n=>u.free b o e n (by simp)) (λb o _ e=>u.there b o e (by simp)) u.uL u.sJ u.vm (λm' hm=>by
  obtain⟨o',es',ep',ho',r'⟩:=hm;rw[ho]at ho';cases ho';exact⟨_,es',ep',hL,r'⟩) hok I.bare
theorem Inv.call{g':Array S2}{t':Nat}{d':Drawn}{ch:List OM}(I:Inv X pins σ H s)(u:Un (frs X.stack) ch H H' s.heap h')(hok:HOk X.prog X.w H' h')(hg:Q6 g')
  (hch:∀b∈ch,(b∈X.ex\/X.s₀.heap.objs.size<=b)/\b≠X.env.locals/\(∀x c,X.env.cells.lookup x=UT c->c≠b)/\∀p∈X.pn++pins,p.1≠b) :
  Inv X pins σ H' { s with heap:=h',gens:=g',drawn:=d',toks:=t' }:=by
 obtain⟨m,⟨o,es,ep,ho,r⟩,_⟩:=id I.loc
 obtain⟨sl,hL⟩:=u.any ho I.free λz=>(hch _ z).2.1 rfl
 exact I.step (ch:=ch) hch (λb o hL hb hc e n=>u.keep b o e n (λz=>(Ku.mp (I.xO b z)).elim hL hb) hc) (λb o _ _ hc e n=>u.any e n hc) (λb o hc e n=>u.free b o e n hc) (λb o hc e=>u.there b o e hc) u.uL u.sJ u.vm (λm' hm=>by
  obtain⟨o',es',ep',ho',r'⟩:=hm;rw[ho]at ho';cases ho';exact⟨_,es',ep',hL,r'⟩) hok hg
theorem Inv.turned{t':Nat}{it:OM}(I:Inv X pins σ H s)(k:∀b o,b≠it->s.heap.get? b=UT o->h'.get? b=UT o)(hn:H it=UU)(hL:it≠X.env.locals)
  (h1:it∈X.ex\/X.s₀.heap.objs.size<=it) (h2:∀x c,X.env.cells.lookup x=UT c->c≠it) (h3:∀p∈X.pn++pins,p.1≠it):Inv X pins σ H { s with heap:=h',toks:=t' }:=by
 have nit:∀b u,H b=UT u->b≠it:=λb u e z=>by rw[z,hn]at e;cases e
 refine I.step (g':=s.gens) (d':=s.drawn) (ch:=[it]) (λb hb=>?_) (λb o _ _ hc e _=>k b o (λz=>hc (by simp[z])) e) (λb o _ _ hc e _=>⟨o.slots,k b o (λz=>hc (by simp[z])) e⟩) (λ_ _ _ _ n=>n)
  (λb o hc e=>⟨o,k b o (λz=>hc (by simp[z])) e⟩) (λ_ _ e=>e) (λ_ _ _ e=>e) (λb ps e=>⟨#[],by rw[e];simp⟩) (λm hm=>?_) (λb u e=>?_) I.bare
 ·have e:b=it:=by simpa using hb
  subst e;exact⟨h1,hL,h2,h3⟩
 ·obtain⟨o,es,ep,ho,r⟩:=hm;exact⟨o,es,ep,k _ o (Lv hL) ho,r⟩
 refine(I.hok b u e).yR (λc v hc q=>k c v ?_ q) (λ_ q=>q) λ_ _ q=>q
 rcases hc with z|z
 ·rw[z];exact nit b u e
 exact nit c _ z
theorem Inv.tok(I:Inv X pins σ H s)(t:Nat):Inv X pins σ H { s with toks:=t }:=I.un (h':=s.heap) (t':=t) Un.refl I.hok
theorem Inv.kept{t':Nat}(I:Inv X pins σ H s)(k:∀b u,s.heap.get? b=UT u->h'.get? b=UT u):Inv X pins σ H { s with heap:=h',toks:=t' }:=I.un (Un.kept k) (I.hok.kept k)
theorem Inv.laid{a:OM}{o:HO}{t':Nat}(I:Inv X pins σ H s)(k:∀b u,s.heap.get? b=UT u->h'.get? b=UT u)(hp:s.heap.objs.size<=a)(new:dB X.prog X.w (upd H a o) h' a o) :
  Inv X pins σ (upd H a o) { s with heap:=h',toks:=t' }:=I.un (Un.laid k hp (I.hok.fresh hp)) (I.hok.laid k hp new)
theorem Inv.write{x e:OM}{o:HO}{t':Nat}(I:Inv X pins σ H s)(mu:Mut (H x))(he:e=x\/H e=UT (.own x))(k:∀b u,b≠e->s.heap.get? b=UT u->h'.get? b=UT u)(heo:∃u,h'.get? e=UT u)
  (new:dB X.prog X.w (upd H x o) h' x o):Inv X pins σ (upd H x o) { s with heap:=h',toks:=t' }:=I.un (Un.write mu he k heo) (I.hok.write mu he k heo new)
theorem Inv.uE{pins':List (OM×Obj)}(I:Inv X pins σ H s)(h:∀p∈pins',s.heap.get? p.1=UT p.2/\H p.1=UU/\p.1≠X.env.locals/\p.1∉X.fs/\∀v,p.2.data≠ .cell v):Inv X pins' σ H s:=
 ⟨I.ok,I.os,I.bare,I.base,I.loc,I.cell,I.free,I.lN,λp hp=>(KA.mp hp).elim (λz=>I.pin p (Lk _ z)) (h p),I.hok,I.len⟩
theorem vI{N:List Str}(hN:N.Nodup){i j:Nat}{x:Str}(a:N[i]?=UT x)(b:N[j]?=UT x):i=j:=by
 obtain⟨h1,e1⟩:=KH.mp a;obtain⟨h2,e2⟩:=KH.mp b;exact(MG hN).mp (e1.trans e2.symm)
theorem AR{M:Model}{A:O7}{E:ON->OO->Prop}{i:Nat}{x:Str}{v:V}{u:ON}{Q:Unit->OO->Prop}(I:Inv X pins σ H s)(hN:X.N.Nodup)(hi:X.N[i]?=UT x)(hx:Loc X.env.scope x)(r:U2 v u)
  (h:∀s',Inv X pins (σ.set i (UT v)) H s'->(∃a,QS a s.heap s'.heap/\(a=X.env.locals\/X.env.cells.lookup x=UT a))->Q () s') (hf:X.fn x=true\/X.env.scope.names.lookup x=UT .local:=by first|exact .inl rfl|exact .inr rfl|assumption):wpAny M A (UN X.env x u) Q E s:=by
 obtain⟨m,hn,hl⟩:=id I.loc
 have hcls:(X.env.scope.kind== .class||(X.env.scope.kind== .module&&X.env.locals !=X.env.globals))=false:=by rw[I.ok.kind];rfl
 have hiσ:i<σ.length:=by rw[I.len];exact(KH.mp hi).1
 have cne:=I.cne
 have tracked:∀{a:OM}{h':O8},(∃o,s.heap.get? a=UT o/\H a=UU)->QS a s.heap h'->HOk X.prog X.w H h':=λ{a h'} ha hs b ob e=>by
  obtain⟨_,_,hfree⟩:=ha;refine(I.hok b ob e).yR (λc w' hc q=>(hs.2 c ?_).trans q) (λ_ q=>q) λ_ _ q=>q;rintro rfl;rcases hc with rfl|hc
  ·rw[hfree]at e;cases e
  rw[hfree]at hc;cases hc
 rcases hx with hk|hk
 ·refine wpAny_storeName_local hk hn (λh' hn' hs=>?_) hcls;obtain⟨oL,_,_,hoL,_⟩:=id hn;refine h _ ⟨I.ok,I.os,I.bare,⟨λb o e n hb hx=>?_,λb o e n hb hx=>?_,I.base.free,λb o e hx=>?_,I.base.uL,I.base.sJ,I.base.vm⟩,⟨_,hn',λj y v' e1 e2 e3=>?_⟩,λy c e=>?_,I.free,I.lN,λp hp=>?_,tracked ⟨oL,hoL,I.free⟩ hs,by simpa using I.len⟩ ⟨_,hs,.inl rfl⟩
  ·exact(hs.2 b (Lp (KZ (OW e) I.ok.above))).trans (I.base.keep b o e n hb hx)
  ·obtain⟨sl,e1⟩:=I.base.slot b o e n hb hx;exact⟨sl,(hs.2 b (Lp (KZ (OW e) I.ok.above))).trans e1⟩
  ·obtain⟨o',e1⟩:=I.base.there b o e hx;exact⟨o',(hs.2 b (Lp (KZ (OW e) I.ok.above))).trans e1⟩
  ·by_cases hj:j=i
   ·subst hj;rw[hi]at e1;cases e1;rw[Rz hiσ]at e2;cases e2;exact⟨u,r,.inl ⟨hk,by simp⟩⟩
   rw[RU (Lv hj)]at e2;obtain⟨u',r',q⟩:=hl j y v' e1 e2 e3;refine⟨u',r',?_⟩;rcases q with⟨k,e⟩|⟨k,c,e,z⟩
   ·refine .inl ⟨k,?_⟩;have:y≠x:=λe=>hj (vI hN e1 (e▸hi));simp[this,e]
   exact .inr ⟨k,c,e,z.sameBut hs (cne y c e)⟩
  ·obtain⟨w',z⟩:=I.cell y c e;exact⟨w',z.sameBut hs (cne y c e)⟩
  obtain⟨e,n,ne,nf,d⟩:=I.pin p hp;exact⟨(hs.2 p.1 ne).trans e,n,ne,nf,d⟩
 have hfn:X.fn x=true:=by
  rcases hf with z|z
  ·exact z
  rw[z]at hk;cases hk
 obtain⟨c,hc⟩:=I.ok.has x (.inl hk)
 obtain⟨w',z⟩:=I.cell x c hc
 refine wpAny_storeName_cell I.ok.kind hk hc z (λh' hc' hs=>?_)
 obtain⟨oc,hoc,hocd⟩:=id z
 refine h { s with heap:=h' } ⟨I.ok,I.os,I.bare,⟨λb o e n hb hx=>?_,λb o e n hb hx=>?_,I.base.free,λb o e hx=>?_,I.base.uL,I.base.sJ,I.base.vm⟩,⟨m,hn.sameBut hs (Lv (cne x c hc)),λj y v' e1 e2 e3=>?_⟩,λy c' e=>?_,I.free,I.lN,λp hp=>?_,tracked ⟨oc,hoc,I.lN x c hc⟩ hs,by simpa using I.len⟩ ⟨c,hs,.inr hc⟩
 ·exact(hs.2 b (Lp (KZ (OW e) (I.ok.cab x c hfn hc)))).trans (I.base.keep b o e n hb hx)
 ·obtain⟨sl,e1⟩:=I.base.slot b o e n hb hx;exact⟨sl,(hs.2 b (Lp (KZ (OW e) (I.ok.cab x c hfn hc)))).trans e1⟩
 ·obtain⟨o',e1⟩:=I.base.there b o e hx;exact⟨o',(hs.2 b (Lp (KZ (OW e) (I.ok.cab x c hfn hc)))).trans e1⟩
 ·by_cases hj:j=i
  ·subst hj;rw[hi]at e1;cases e1;rw[Rz hiσ]at e2;cases e2;exact⟨u,r,.inr ⟨.inl hk,c,hc,hc'⟩⟩
  rw[RU (Lv hj)]at e2;obtain⟨u',r',q⟩:=hl j y v' e1 e2 e3;refine⟨u',r',?_⟩;rcases q with q|⟨k,c',e,z'⟩
  ·exact .inl q
  refine .inr ⟨k,c',e,z'.sameBut hs ?_⟩;rintro rfl;exact hj (vI hN e1 (I.ok.inj _ _ _ e hc▸hi))
 ·by_cases hcc:c'=c
  ·subst hcc;exact⟨_,hc'⟩
  obtain⟨w2,z2⟩:=I.cell y c' e;exact⟨w2,z2.sameBut hs hcc⟩
 obtain⟨e,n,ne,nf,d⟩:=I.pin p hp
 refine⟨(hs.2 p.1 ?_).trans e,n,ne,nf,d⟩
 intro q
 rw[q,hoc]at e
 have q':oc=p.2:=OS e
 exact d w' (by rw[<-q'];exact hocd)
theorem rh{M:Model}{A:O7}{E:ON->OO->Prop}{i:Nat}{x:Str}{v:V}{u:ON}{Q:Unit->OO->Prop}(I:Inv X pins σ H s)(hN:X.N.Nodup)(hi:X.N[i]?=UT x)(hx:Loc X.env.scope x)(r:U2 v u)
  (h:∀s',Inv X pins (σ.set i (UT v)) H s'->Q () s') (hf:X.fn x=true\/X.env.scope.names.lookup x=UT .local:=by first|exact .inl rfl|exact .inr rfl|assumption):wpAny M A (UN X.env x u) Q E s:=
 AR I hN hi hx r (λs' I' _=>h s' I') hf
theorem Inv.JE{s':OO}{ch:List OM}(I:Inv X pins σ H s)(ho:s'.os=s.os)(u:Un (frs X.stack) ch H H' s.heap s'.heap)(hok:HOk X.prog X.w H' s'.heap)(hg:Q6 s'.gens)
  (hch:∀b∈ch,(b∈X.ex\/X.s₀.heap.objs.size<=b)/\b≠X.env.locals/\(∀x c,X.env.cells.lookup x=UT c->c≠b)/\∀p∈X.pn++pins,p.1≠b):Inv X pins σ H' s':=by
 obtain⟨h',g',d',t',o'⟩:=s'
 have e:o'=s.os:=ho
 subst e
 exact I.call (g':=g') (t':=t') (d':=d') u hok hg hch
end
abbrev XK:=ON->Option OM->Hp->Prop
abbrev St:=List (Option V)
abbrev VK:=V->Hp->Prop
abbrev TE:=St->Hp->VK->Prop
abbrev TT:=St->Hp->(Bool->Hp->Prop)->Prop
abbrev TA:=St->Hp->(List V->Hp->Prop)->Prop
structure Ve where
 nx:St->Hp->Prop
 rt:VK
 bk:St->Hp->Prop:=λ_ _=>False
 ct:St->Hp->Prop:=λ_ _=>False
abbrev TS:=Ve->St->Hp->Prop
def EP(X:Cx)(pins:List (OM×Obj))(σ:St)(Q:VK)(u:ON)(s':OO):Prop:=∃v H',Inv X pins σ H' s'/\U2 v u/\Q v H'
def TP(X:Cx)(pins:List (OM×Obj))(σ:St)(Q:Bool->Hp->Prop)(b:Bool)(s':OO):Prop:=∃H',Inv X pins σ H' s'/\Q b H'
def AP(X:Cx)(pins:List (OM×Obj))(σ:St)(Q:List V->Hp->Prop)(us:List ON)(s':OO):Prop:=∃vs H',Inv X pins σ H' s'/\U1 vs us/\Q vs H'
def SP(X:Cx)(pins:List (OM×Obj))(D:Ve)(f:Flow)(s':OO):Prop:=
 match f with
 | .next=>∃σ' H',Inv X pins σ' H' s'/\D.nx σ' H'
 | .brk=>∃σ' H',Inv X pins σ' H' s'/\D.bk σ' H'
 | .cont=>∃σ' H',Inv X pins σ' H' s'/\D.ct σ' H'
 | .ret u=>∃v σ' H',Inv X pins σ' H' s'/\U2 v u/\D.rt v H'
def PE(X:Cx)(e:Expr)(t:TE):Prop:=
 ∀(pins:List (OM×Obj))(s:OO)(σ:St)(H:Hp)(Q:VK),Inv X pins σ H s->t σ H Q->wpAny (OZ X.prog X.w) X.A (Pn e X.env) (EP X pins σ Q) X.xe s
def PT(X:Cx)(e:Expr)(t:TT):Prop:=
 ∀(pins:List (OM×Obj))(s:OO)(σ:St)(H:Hp)(Q:Bool->Hp->Prop),Inv X pins σ H s->t σ H Q->wpAny (OZ X.prog X.w) X.A (isTrue e X.env (Pn e X.env)) (TP X pins σ Q) X.xe s
def PW(X:Cx)(e:Expr)(t:TT):Prop:=
 ∀(whole:Sem ON)(pins:List (OM×Obj))(s:OO)(σ:St)(H:Hp)(Q:Bool->Hp->Prop),Inv X pins σ H s->t σ H Q->wpAny (OZ X.prog X.w) X.A (isTrue e X.env whole) (TP X pins σ Q) X.xe s
theorem PW.pt{X:Cx}{e:Expr}{t:TT}(h:PW X e t):PT X e t:=h _
def PA(X:Cx)(es:List Expr)(t:TA):Prop:=
 ∀(pos:Pos)(pins:List (OM×Obj))(s:OO)(σ:St)(H:Hp)(Q:List V->Hp->Prop),Inv X pins σ H s->t σ H Q->wpAny (OZ X.prog X.w) X.A (spliced (Pw pos (OV es X.env))) (AP X pins σ Q) X.xe s
def PS(X:Cx)(st:O9)(t:TS):Prop:=
 ∀(pins:List (OM×Obj))(s:OO)(σ:St)(H:Hp)(D:Ve),Inv X pins σ H s->t D σ H->wpAny (OZ X.prog X.w) X.A (exec st X.env) (SP X pins D) X.xe s
def PSs(X:Cx)(st:List O9)(t:TS):Prop:=
 ∀(pins:List (OM×Obj))(s:OO)(σ:St)(H:Hp)(D:Ve),Inv X pins σ H s->t D σ H->wpAny (OZ X.prog X.w) X.A (execs st X.env) (SP X pins D) X.xe s
theorem thn{α:Type}{t:Sem α}{Q Q':α->OO->Prop}{M:Model}{A:O7}{E:ON->OO->Prop}{s:OO}(h:wpAny M A t Q E s)(hQ:∀a s,Q a s->Q' a s):wpAny M A t Q' E s:=PK h hQ λ_ _ x=>x
section
variable{X:Cx}
def JN(i:Nat):TE:=λσ H Q=>∃v,σ[i]?=UT (UT v)/\Q v H
def tC(v:V):TE:=λ_ H Q=>Q v H
theorem Gx{i:Nat}{x:Str}{pos:Pos}(hN:X.N[i]?=UT x)(hv:Vis X.env.scope x)(hd:(x==("__debug__":Str))=false:=by decide)(hcd:(x==("__classdict__":Str))=false:=by decide):PE X (.Name x pos) (JN i):=by
 intro pins s σ H Q I h;obtain⟨v,e,h⟩:=h;obtain⟨m,hn,hl⟩:=I.loc;obtain⟨u,r,l⟩:=hl i x v hN e hv;have fin:EP X pins σ Q u s:=⟨v,H,I,r,h⟩;rcases l with⟨hk,hm⟩|⟨hk,c,hc,hcell⟩
 ·exact Uu (RW I.ok.kind hk hn hm fin) hd
 rcases hk with hk|hk
 ·exact Uu (Su I.ok.kind hk hc hcell fin) hd
 exact Uu (wpAny_loadName_free I.ok.kind hk hc hcell fin hcd) hd
theorem ab{i j pos}:PE X (.Constant (.int i) j pos) (tC (.int i)):=λ_ _ _ H _ I h=>wpAny_Constant_int ⟨.int i,H,I.tok _,⟨_,rfl⟩,h⟩
theorem lq{b j pos}:PE X (.Constant (.bool b) j pos) (tC (.bl b)):=λ_ _ _ H _ I h=>Constant_bool ⟨.bl b,H,I,rfl,h⟩
theorem d5{j pos}:PE X (.Constant .none j pos) (tC .non):=λ_ _ _ H _ I h=>Constant_none ⟨.non,H,I,rfl,h⟩
theorem ao{x j pos}:PE X (.Constant (.str x) j pos) (tC (.str x)):=λ_ _ _ H _ I h=>Calls.Constant_str ⟨.str x,H,I.tok _,⟨_,rfl⟩,h⟩
def Gl(X:Cx)(x:Str):Prop:=X.env.kindOf x=UT .globalImplicit
theorem oO{E:ON->OO->Prop}{pins:List (OM×Obj)}{s:OO}{σ:St}{H:Hp}{x:Str}{u:ON}{pos:Pos}{Q:ON->OO->Prop}(I:Inv X pins σ H s)(hg:Gl X x)(hm:X.mg x=UT u)(h:Q u s)
  (hd:(x==("__debug__":Str))=false:=by decide):wpAny (OZ X.prog X.w) X.A (Pn (.Name x pos) X.env) Q E s:=
 QW I.ok.kind hg (Calls.loadGlobal_global (by rw[I.ok.glob];exact I.mod.glob.keeps I.bk) hm h) hd
theorem rq{E:ON->OO->Prop}{pins:List (OM×Obj)}{s:OO}{σ:St}{H:Hp}{x:Str}{u:ON}{pos:Pos}{Q:ON->OO->Prop}(I:Inv X pins σ H s)(hg:Gl X x)(hm:X.mg x=UU)(hv:PU x=UT u)(h:Q u s)
  (hn:x≠"__name__":=by decide) (hd:(x==("__debug__":Str))=false:=by decide):wpAny (OZ X.prog X.w) X.A (Pn (.Name x pos) X.env) Q E s:=by
 obtain⟨mb,h1,h2⟩:=I.mod.blt
 exact QW I.ok.kind hg (Calls.loadGlobal_builtin (by rw[I.ok.glob];exact I.mod.glob.keeps I.bk) hm (by rw[I.ok.blt];exact h1.keeps I.bk) ((h2 x hn).trans hv) h) hd
theorem zA{x:Str}{v:V}{u:ON}{pos:Pos}(hg:Gl X x)(hm:X.mg x=UT u)(r:U2 v u)(hd:(x==("__debug__":Str))=false:=by decide):PE X (.Name x pos) (tC v):=
 λ_ _ _ H _ I h=>oO I hg hm ⟨v,H,I,r,h⟩ hd
theorem ji{x:Str}{v:V}{u:ON}{pos:Pos}(hg:Gl X x)(hm:X.mg x=UU)(hv:PU x=UT u)(r:U2 v u)(hn:x≠"__name__":=by decide)(hd:(x==("__debug__":Str))=false:=by decide):PE X (.Name x pos) (tC v):=
 λ_ _ _ H _ I h=>rq I hg hm hv ⟨v,H,I,r,h⟩ hn hd
variable{a b:Expr}{ta tb:TE}{pos:Pos}
variable{tA tB':TT}{rest:List Expr}
def Ki(t u:TT):TT:=λσ H Q=>t σ H λc H1=>if c=true then u σ H1 Q else Q false H1
def tOr(t u:TT):TT:=λσ H Q=>t σ H λc H1=>if c=true then Q true H1 else u σ H1 Q
def JI(t:TT):TT:=λσ H Q=>t σ H λc H1=>Q (!c) H1
theorem pw_and1(ha:PT X a tA):PW X (.BoolOp .And [a] pos) tA:=by
 intro wh pins s σ H Q I h;refine isTrue_and (thn (ha pins s σ H Q I h) λc s1 e=>?_);cases c with
 |true=>exact isTrue_and_nil e
 |false=>exact e
theorem pw_or1(ha:PT X a tA):PW X (.BoolOp .Or [a] pos) tA:=by
 intro wh pins s σ H Q I h;refine isTrue_or (thn (ha pins s σ H Q I h) λc s1 e=>?_);cases c with
 |false=>exact isTrue_or_nil e
 |true=>exact e
theorem pw_and(ha:PT X a tA)(hb:PW X (.BoolOp .And (b::rest) pos) tB'):PW X (.BoolOp .And (a::b::rest) pos) (Ki tA tB'):=by
 intro wh pins s σ H Q I h;refine isTrue_and (thn (ha pins s σ H _ I h) λc s1 ⟨H1,I1,q1⟩=>?_);cases c with
 |true=>exact hb wh pins s1 σ H1 Q I1 q1
 |false=>exact⟨H1,I1,q1⟩
theorem pw_or(ha:PT X a tA)(hb:PW X (.BoolOp .Or (b::rest) pos) tB'):PW X (.BoolOp .Or (a::b::rest) pos) (tOr tA tB'):=by
 intro wh pins s σ H Q I h;refine isTrue_or (thn (ha pins s σ H _ I h) λc s1 ⟨H1,I1,q1⟩=>?_);cases c with
 |true=>exact⟨H1,I1,q1⟩
 |false=>exact hb wh pins s1 σ H1 Q I1 q1
theorem vf(ha:PT X a tA):PT X (.UnaryOp .Not a pos) (JI tA):=by
 intro pins s σ H Q I h;exact isTrue_not (ha pins s σ H (λc H1=>Q (!c) H1) I h)
def Iz(ta tb:TE):TE:=λσ H Q=>ta σ H λx H1=>∃c,x=.bl c/\if c=true then tb σ H1 Q else Q (.bl false) H1
def Ka(ta tb:TE):TE:=λσ H Q=>ta σ H λx H1=>∃c,x=.bl c/\if c=true then Q (.bl true) H1 else tb σ H1 Q
theorem oY{op}{t:TE}(h:PE X a t):PE X (.BoolOp op [a] pos) t:=λpins s σ H Q I hw=>BoolOp_one (h pins s σ H Q I hw)
theorem kK(ha:PE X a ta)(hb:PE X (.BoolOp .And (b::rest) pos) tb):PE X (.BoolOp .And (a::b::rest) pos) (Iz ta tb):=by
 intro pins s σ H Q I h;refine BoolOp_and (thn (ha pins s σ H _ I h) λv s1 ⟨x,H1,I1,r1,q1⟩=>?_);obtain⟨c,rfl,q1⟩:=q1;cases r1;refine Pk ?_;cases c with
 |true=>exact hb pins s1 σ H1 Q I1 q1
 |false=>exact⟨.bl false,H1,I1,rfl,q1⟩
theorem Il(ha:PE X a ta)(hb:PE X (.BoolOp .Or (b::rest) pos) tb):PE X (.BoolOp .Or (a::b::rest) pos) (Ka ta tb):=by
 intro pins s σ H Q I h;refine BoolOp_or (thn (ha pins s σ H _ I h) λv s1 ⟨x,H1,I1,r1,q1⟩=>?_);obtain⟨c,rfl,q1⟩:=q1;cases r1;refine Pk ?_;cases c with
 |false=>exact hb pins s1 σ H1 Q I1 q1
 |true=>exact⟨.bl true,H1,I1,rfl,q1⟩
def tIf(t:TT)(ta tb:TE):TE:=λσ H Q=>t σ H λc H1=>if c=true then ta σ H1 Q else tb σ H1 Q
theorem fA{c:Expr}(hc:PT X c tA)(ha:PE X a ta)(hb:PE X b tb):PE X (.IfExp c a b pos) (tIf tA ta tb):=by
 intro pins s σ H Q I h;refine wpAny_IfExp (thn (hc pins s σ H _ I h) λd s1 ⟨H1,I1,q1⟩=>?_);cases d with
 |true=>exact ha pins s1 σ H1 Q I1 q1
 |false=>exact hb pins s1 σ H1 Q I1 q1
end
def SqL(K:OQ)(H:Hp)(a:OM)(xs:List V):Prop:=
 Rd H a (.lst xs)\/
  ∃(o:Obj)(its:Array ON)(n:Nat),K.lookup a=UT o/\o.cls=.type "list"/\o.dict=UU/\o.data=.seq its n/\its.size<=sizeLine/\U1 xs its.toList
def SqT(K:OQ)(H:Hp)(a:OM)(xs:List V):Prop:=
 Rd H a (.tup xs)\/
  ∃(o:Obj)(its:Array ON)(n:Nat),K.lookup a=UT o/\o.cls=.type "tuple"/\o.data=.seq its n/\its.size<=sizeLine/\U1 xs its.toList
def JQ:ON->Option V
 | .none=>UT .non
 | .bool b=>UT (.bl b)
 | .int i _=>UT (.int i)
 | .str x _=>UT (.str x)
 | .bytes b _=>UT (.byt b)
 | .float b _=>UT (.flt b)
 | .ref a=>UT (.ref a)
 | .type n=>UT (.ty n)
 |_=>UU
theorem U2.abs{x:V}{u:ON}(r:U2 x u):JQ u=UT x:=by
 cases x with
 |non=>cases r;rfl
 |bl _=>cases r;rfl
 |int _=>obtain⟨t,rfl⟩:=r;rfl
 |str _=>obtain⟨t,rfl⟩:=r;rfl
 |byt _=>obtain⟨t,rfl⟩:=r;rfl
 |flt _=>obtain⟨t,rfl⟩:=r;rfl
 |ref _=>cases r;rfl
 |ty _=>cases r;rfl
theorem U2.inj{x y:V}{u:ON}(r:U2 x u)(q:U2 y u):x=y:=OS (r.abs.symm.trans q.abs)
theorem U1.inj:∀{xs ys:List V}{us:List ON},U1 xs us->U1 ys us->xs=ys
 |_,_,_,.nil,.nil=>rfl
 |_,_,_,.cons r t,.cons r' t'=>by rw[r.inj r',U1.inj t t']
section
variable{X:Cx}{pins:List (OM×Obj)}{σ:St}{H:Hp}{s:OO}{a:OM}{xs ys:List V}
theorem SqL.of{K:OQ}(h:H a=UT (.lst xs)):SqL K H a xs:=.inl (.inl h)
theorem SqT.of{K:OQ}(h:H a=UT (.tup xs)):SqT K H a xs:=.inl (.inl h)
theorem Inv.list(I:Inv X pins σ H s)(h:SqL X.K H a xs):∃its:List ON,U1 xs its/\PlainL s.heap a its.toArray/\xs.length<=sizeLine:=by
 rcases h with h|⟨o,its,n,hk,hc,hd,hs,hz,r⟩
 ·obtain⟨z,its,n,r,e⟩:=h.ok I.hok;exact⟨its,r,⟨_,n,e,rfl,rfl,rfl⟩,z⟩
 refine⟨its.toList,r,⟨o,n,I.kIn a o hk,hc,hd,by simpa using hs⟩,?_⟩;have e:=r.length;simp only[MU]at e;omega
theorem Inv.tuple(I:Inv X pins σ H s)(h:SqT X.K H a xs):∃its:List ON,U1 xs its/\IsTup s.heap a its.toArray/\xs.length<=sizeLine:=by
 rcases h with h|⟨o,its,n,hk,hc,hs,hz,r⟩
 ·obtain⟨z,its,r,p⟩:=h.ok I.hok;exact⟨its,r,p,z⟩
 refine⟨its.toList,r,⟨o,I.kIn a o hk,hc,n,by simpa using hs⟩,?_⟩;have e:=r.length;simp only[MU]at e;omega
theorem Inv.r8(I:Inv X pins σ H s)(h:SqL X.K H a xs)(h':SqL X.K H a ys):xs=ys:=by
 obtain⟨its,r,⟨o,n,e,_,_,d⟩,_⟩:=I.list h;obtain⟨its',r',⟨o',n',e',_,_,d'⟩,_⟩:=I.list h';rw[e]at e';cases e';rw[d]at d';injection d' with d1 _;have:its=its':=by simpa using congrArg Array.toList d1
 subst this;exact r.inj r'
theorem Inv.As(I:Inv X pins σ H s)(h:SqT X.K H a xs)(h':SqT X.K H a ys):xs=ys:=by
 obtain⟨its,r,⟨o,e,_,n,d⟩,_⟩:=I.tuple h;obtain⟨its',r',⟨o',e',_,n',d'⟩,_⟩:=I.tuple h';rw[e]at e';cases e';rw[d]at d';injection d' with d1 _;have:its=its':=by simpa using congrArg Array.toList d1
 subst this;exact r.inj r'
end
abbrev Cx.sG(X:Cx)(E:ON->OO->Prop):Cx:={ X with xe:=E }
abbrev Cx.nox(X:Cx):Cx:=X.sG λ_ _=>False
theorem Cx.Ok.sG{X:Cx}(ok:X.Ok)(E:ON->OO->Prop):(X.sG E).Ok:=
 ⟨ok.mod,ok.kind,ok.glob,ok.blt,ok.above,ok.inj,ok.has,ok.cab,ok.hd,ok.frames,ok.stk,ok.exf,ok.bs,ok.bsz,ok.Df,ok.BG,ok.p6,ok.frf⟩
theorem Cx.Ok.my{X:Cx}{E:ON->OO->Prop}(ok:(X.sG E).Ok):X.Ok:=
 ⟨ok.mod,ok.kind,ok.glob,ok.blt,ok.above,ok.inj,ok.has,ok.cab,ok.hd,ok.frames,ok.stk,ok.exf,ok.bs,ok.bsz,ok.Df,ok.BG,ok.p6,ok.frf⟩
section
variable{X:Cx}{pins:List (OM×Obj)}{σ:St}{H:Hp}{s:OO}{E:ON->OO->Prop}
theorem Inv.sG(I:Inv X pins σ H s)(E:ON->OO->Prop):Inv (X.sG E) pins σ H s:=⟨I.ok.sG E,I.os,I.bare,I.base,I.loc,I.cell,I.free,I.lN,I.pin,I.hok,I.len⟩
theorem Inv.my(I:Inv (X.sG E) pins σ H s):Inv X pins σ H s:=⟨I.ok.my,I.os,I.bare,I.base,I.loc,I.cell,I.free,I.lN,I.pin,I.hok,I.len⟩
theorem SP.my{D:Ve}{f:Flow}{s':OO}(h:SP (X.sG E) pins D f s'):SP X pins D f s':=by
 cases f with
 |next=>obtain⟨σ',H',I,q⟩:=h;exact⟨σ',H',I.my,q⟩
 |brk=>obtain⟨σ',H',I,q⟩:=h;exact⟨σ',H',I.my,q⟩
 |cont=>obtain⟨σ',H',I,q⟩:=h;exact⟨σ',H',I.my,q⟩
 |ret u=>obtain⟨v,σ',H',I,r,q⟩:=h;exact⟨v,σ',H',I.my,r,q⟩
theorem PSs.nox{st:List O9}{t:TS}(h:PSs X.nox st t):PSs X st t:=λpins s σ H D I hw=>
 PK (h pins s σ H D (I.sG _) hw) (λ_ _ q=>q.my) λ_ _ z=>PB z
end
section
variable{X:Cx}{st:O9}{rest:List O9}{t u:TS}{e:Expr}{te:TE}{pos:Pos}
def IL:TS:=λD σ H=>D.nx σ H
def DD(t u:TS):TS:=λD σ H=>t { D with nx:=u D } σ H
theorem aC:PSs X [] IL:=λ_ _ σ H _ I h=>QJ ⟨σ,H,I,h⟩
theorem ae(h1:PS X st t)(h2:PSs X rest u):PSs X (st::rest) (DD t u):=by
 intro pins s σ H D I h;refine TM (thn (h1 pins s σ H { D with nx:=u D } I h) λf s1 q=>?_);cases f with
 |next=>
  obtain⟨σ',H',I',q⟩:=q;exact h2 pins s1 σ' H' D I' q
 |ret v=>exact q
 |brk=>exact q
 |cont=>exact q
theorem aj(h1:PS X st t):PSs X [st] t:=by
 intro pins s σ H D I h;refine TM (thn (h1 pins s σ H D I h) λf s1 q=>?_);cases f with
 |next=>exact QJ q
 |ret v=>exact q
 |brk=>exact q
 |cont=>exact q
def Fy:TS:=λD σ H=>D.bk σ H
theorem BI:PS X (.Break pos) Fy:=λ_ _ σ H _ I h=>wpAny_Break ⟨σ,H,I,h⟩
theorem Inv.quiet{pins:List (OM×Obj)}{σ:St}{H:Hp}{s:OO}(I:Inv X pins σ H s):interactive X.env=false:=by simp[interactive,I.ok.kind]
def Ie(te:TE):TS:=λD σ H=>te σ H λ_ H1=>D.nx σ H1
theorem aK(he:PE X e te)(hs:Sm e UU pos.line X.env=pure false:=by rfl):PS X (.Expr e pos) (Ie te):=by
 intro pins s σ H D I h;exact wpAny_Expr_any (thn (he pins s σ H _ I h) λv s1 ⟨x,H1,I1,r1,q1⟩=>⟨σ,H1,I1,q1⟩) I.quiet hs
def JV(te:TE):TS:=λD σ H=>te σ H D.rt
theorem aA(he:PE X e te):PS X (.Return (UT e) pos) (JV te):=by
 intro pins s σ H D I h;exact wpAny_Return_some (thn (he pins s σ H _ I h) λv s1 ⟨x,H1,I1,r1,q1⟩=>⟨x,σ,H1,I1,r1,q1⟩)
def IC:TS:=λD _ H=>D.rt .non H
theorem uD:PS X (.Return UU pos) IC:=λ_ _ σ H _ I h=>wpAny_Return_none ⟨.non,σ,H,I,rfl,h⟩
def Gv(c:TT)(t u:TS):TS:=λD σ H=>c σ H λb H1=>if b=true then t D σ H1 else u D σ H1
theorem aM{c:Expr}{a b:List O9}{tc:TT}(hc:PT X c tc)(ha:PSs X a t)(hb:PSs X b u):PS X (.If c a b pos) (Gv tc t u):=by
 intro pins s σ H D I h;refine wpAny_If (thn (hc pins s σ H _ I h) λd s1 ⟨H1,I1,q1⟩=>?_);cases d with
 |true=>exact ha pins s1 σ H1 D I1 q1
 |false=>exact hb pins s1 σ H1 D I1 q1
def HB:TS:=λ_ _ _=>False
theorem Ao{sts:List O9}:PSs X sts HB:=λ_ _ _ _ _ _ h=>h.elim
end
abbrev TG:=V->St->Hp->(St->Hp->Prop)->Prop
abbrev TGs:=List V->St->Hp->(St->Hp->Prop)->Prop
def PG(X:Cx)(target:Expr)(t:TG):Prop:=
 ∀(pins:List (OM×Obj))(s:OO)(σ:St)(H:Hp)(v:V)(u:ON)(Q:St->Hp->Prop),Inv X pins σ H s->U2 v u->t v σ H Q->
  wpAny (OZ X.prog X.w) X.A (assign target X.env u) (λ_ s'=>∃σ' H',Inv X pins σ' H' s'/\Q σ' H') X.xe s
def PGs(X:Cx)(ts:List Expr)(t:TGs):Prop:=
 ∀(pins:List (OM×Obj))(s:OO)(σ:St)(H:Hp)(vs:List V)(us:List ON)(Q:St->Hp->Prop),Inv X pins σ H s->U1 vs us->t vs σ H Q->
  wpAny (OZ X.prog X.w) X.A (assignInOrder ((QX ts X.env).map (·.2)) us) (λ_ s'=>∃σ' H',Inv X pins σ' H' s'/\Q σ' H') X.xe s
abbrev Es:=V->V->V->Hp->(Hp->Prop)->Prop
def BO(X:Cx)(t:Es):Prop:=
 ∀(pins:List (OM×Obj))(s:OO)(σ:St)(H:Hp)(o i v:V)(ov iv u:ON)(Q:Hp->Prop),Inv X pins σ H s->U2 o ov->U2 i iv->U2 v u->t o i v H Q->
  wpAny (OZ X.prog X.w) X.A (setItem ov iv u) (λ_ s'=>∃H',Inv X pins σ H' s'/\Q H') X.xe s
abbrev TIp:=V->V->Hp->VK->Prop
def PIp(X:Cx)(op:Ta)(t:TIp):Prop:=
 ∀(pins:List (OM×Obj))(s:OO)(σ:St)(H:Hp)(x y:V)(v u:ON)(Q:VK),Inv X pins σ H s->U2 x v->U2 y u->t x y H Q->
  wpAny (OZ X.prog X.w) X.A (UO op v u) (EP X pins σ Q) X.xe s
section
variable{X:Cx}{pos:Pos}
def ki(i:Nat):TG:=λv σ H Q=>Q (σ.set i (UT v)) H
theorem Aj{i:Nat}{x:Str}(hN:X.N.Nodup)(hi:X.N[i]?=UT x)(hx:Loc X.env.scope x)(hf:X.fn x=true\/X.env.scope.names.lookup x=UT .local:=by first|exact .inl rfl|exact .inr rfl|assumption):PG X (.Name x pos) (ki i):=by
 intro pins s σ H v u Q I r h;exact wpAny_assign_Name (rh I hN hi hx r (λs' I'=>⟨_,H,I',h⟩) hf)
def Kc:TGs:=λvs σ H Q=>vs=[]/\Q σ H
def Jo(t:TG)(u:TGs):TGs:=λvs σ H Q=>∃v r,vs=v::r/\t v σ H λσ' H'=>u r σ' H' Q
theorem uP:PGs X [] Kc:=by
 intro pins s σ H vs us Q I r h;obtain⟨e,h⟩:=h;subst e;cases r;exact assignInOrder_nil ⟨σ,H,I,h⟩
theorem kx{e:Expr}{es:List Expr}{t:TG}{u:TGs}(h1:PG X e t)(h2:PGs X es u)
  (hs:(QX (e::es) X.env).map (·.2)=assign e X.env::(QX es X.env).map (·.2):=by rfl):PGs X (e::es) (Jo t u):=by
 intro pins s σ H vs us Q I r h
 obtain⟨v,vr,e1,h⟩:=h
 subst e1
 cases r with
 |cons r rr=>
  rw[hs]
  refine assignInOrder_cons (thn (h1 pins s σ H _ _ _ I r h) λ_ s1 ⟨σ1,H1,I1,q1⟩=>?_)
  exact h2 pins s1 σ1 H1 _ _ Q I1 rr q1
inductive JH(K:OQ)(n:Nat)(v:V)(H:Hp)(R:List V->Prop):Prop
 |mk(a:OM)(xs:List V)(h0:v=.ref a)(h1:SqT K H a xs)(h2:xs.length=n)(q:R xs):JH K n v H R
def JJ(K:OQ)(n:Nat)(t:TGs):TG:=λv σ H Q=>JH K n v H (λxs=>t xs σ H Q)
theorem yT{es:List Expr}{k:Nat}{t:TGs}{n:Nat}(hc:X.calm=true)(h:PGs X es t)
  (hn:(QX es X.env).length=n:=by rfl) (hst:(QX es X.env).findIdx? (·.1)=UU:=by rfl):PG X (.Tuple es k pos) (JJ X.K n t):=by
 intro pins s σ H v u Q I r hw
 obtain⟨a,xs,e1,hq,hl,hw⟩:=hw
 subst e1
 cases r
 obtain⟨its,rv,ht,hz⟩:=I.tuple hq
 refine assign_Tuple_tuple (I.ok.hd hc) ht (by simp[hn,<-hl,rv.length]) hst λh' hx=>?_
 have I1:Inv X pins σ H { s with heap:=h' }:=I.kept (t':=s.toks) λb o e=>hx b o (Lp (OW e)) e
 exact h pins _ σ H xs _ Q I1 (by simpa using rv) hw
def Kk(to ti:TE)(t:Es):TG:=λv σ H Q=>to σ H λo H1=>ti σ H1 λi H2=>t o i v H2 λH3=>Q σ H3
theorem bC{o i:Expr}{to ti:TE}{t:Es}(ho:PE X o to)(hi:PE X i ti)(hs:BO X t)
  (ha:∀v,assign (.Subscript o i pos) X.env v=(do
   let ov<-Ql [v] (Pn o X.env)
   let iv<-Ql [v,ov] (Pn i X.env)
   Te pos
   Ql [v,ov,iv] (setItem ov iv v)
   release [v,ov,iv] []):=by intro _;rfl):PG X (.Subscript o i pos) (Kk to ti t):=by
 intro pins s σ H v u Q I r h
 rw[ha]
 refine OP (wpAny_holding (thn (ho pins s σ H _ I h) λov s1 ⟨x,H1,I1,r1,q1⟩=>?_))
 refine OP (wpAny_holding (thn (hi pins s1 σ H1 _ I1 q1) λiv s2 ⟨y,H2,I2,r2,q2⟩=>?_))
 refine OP (Sy (OP (wpAny_holding (thn (hs pins s2 σ H2 x y v ov iv u _ I2 r1 r2 r q2) λ_ s3 ⟨H3,I3,q3⟩=>?_))))
 exact wpAny_release ⟨σ,H3,I3,q3⟩
def Di(te:TE)(g:TG):TS:=λD σ H=>te σ H λx H1=>g x σ H1 D.nx
theorem bu{tg e:Expr}{te:TE}{g:TG}(he:PE X e te)(hg:PG X tg g)(hs:swapsWithSole [tg] e pos.line X.env=pure false:=by rfl)(hw:swappedStores [tg] e X.env=pure UU:=by rfl)
  (h1:(QX [tg] X.env).map (·.2)=[assign tg X.env]:=by rfl):PS X (.Assign [tg] e pos) (Di te g):=by
 intro pins s σ H D I h
 refine wpAny_Assign_stores (thn (he pins s σ H _ I h) λv s1 ⟨x,H1,I1,r1,q1⟩=>?_) hs hw
 rw[h1]
 exact thn (hg pins s1 σ H1 x v _ I1 r1 q1) λ_ s2 q=>q
theorem FD{i:Nat}{x:Str}{e:Expr}{te:TE}{pos':Pos}(hN:X.N.Nodup)(hi:X.N[i]?=UT x)(hx:Loc X.env.scope x)(he:PE X e te)(hs:Sm e (UT (.Name x pos')) pos.line X.env=pure false:=by rfl)(hf:X.fn x=true\/X.env.scope.names.lookup x=UT .local:=by first|exact .inl rfl|exact .inr rfl|assumption) :
  PS X (.Assign [.Name x pos'] e pos) (Di te (ki i)):=by
 intro pins s σ H D I h
 refine wpAny_Assign_Name (thn (he pins s σ H _ I h) λv s1 ⟨y,H1,I1,r1,q1⟩=>?_) hs
 exact rh I1 hN hi hx r1 (λs2 I2=>⟨_,H1,I2,q1⟩) hf
def JT(i:Nat)(te:TE)(ti:TIp):TS:=λD σ H=>∃x,σ[i]?=UT (UT x)/\te σ H λy H1=>ti x y H1 λz H2=>D.nx (σ.set i (UT z)) H2
theorem Gp{i:Nat}{x:Str}{e:Expr}{te:TE}{op:Ta}{ti:TIp}{pos':Pos}(hN:X.N.Nodup)(hi:X.N[i]?=UT x)(hx:Loc X.env.scope x)(he:PE X e te)(ho:PIp X op ti)(hf:X.fn x=true\/X.env.scope.names.lookup x=UT .local:=by first|exact .inl rfl|exact .inr rfl|assumption) :
  PS X (.AugAssign (.Name x pos') op e pos) (JT i te ti):=by
 intro pins s σ H D I h
 obtain⟨v,e1,h⟩:=h
 obtain⟨m,hn,hl⟩:=I.loc
 have vis:Vis X.env.scope x:=by rcases hx with k|k;exact .inl k;exact .inr (.inl k)
 obtain⟨u,r,l⟩:=hl i x v hi e1 vis
 refine wpAny_AugAssign_Name ?_
 have go:wpAny (OZ X.prog X.w) X.A (Pn e X.env) (λw s₂=>wpAny (OZ X.prog X.w) X.A (UO op u w) (λr s₃=>wpAny (OZ X.prog X.w) X.A (UN X.env x r) (λ_=>SP X pins D .next) X.xe s₃) X.xe s₂) X.xe s:=by
  refine thn (he pins s σ H _ I h) λw s1 ⟨y,H1,I1,r1,q1⟩=>?_;refine thn (ho pins s1 σ H1 v y u w _ I1 r r1 q1) λz s2 ⟨zv,H2,I2,r2,q2⟩=>?_;exact rh I2 hN hi hx r2 (λs3 I3=>⟨_,H2,I3,q2⟩) hf
 rcases l with⟨hk,hm⟩|⟨hk,c,hc,hcell⟩
 ·exact RW I.ok.kind hk hn hm go
 rcases hk with hk|hk
 ·exact Su I.ok.kind hk hc hcell go
 rcases hx with k|k
 ·have:X.env.scope.names.lookup x=UT .free:=hk;rw[k]at this;cases this
 have:X.env.scope.names.lookup x=UT .free:=hk
 rw[k]at this;cases this
def ipI(f:Int->Int->Int):TIp:=λx y H Q=>∃i j,x=.int i/\y=.int j/\Q (.int (f i j)) H
theorem Ht:PIp X .Add (ipI λi j=>i+j):=by
 intro pins s σ H x y v u Q I r1 r2 h;obtain⟨i,j,e1,e2,q⟩:=h;subst e1;subst e2;obtain⟨t,rfl⟩:=r1;obtain⟨t',rfl⟩:=r2;exact iadd_int ⟨.int _,H,I.tok _,⟨_,rfl⟩,q⟩
def Hr(c:TT)(tb:TS):TS:=λD σ H=>∃W:Nat->St->Hp->Prop,(∃m,W m σ H)/\∀m σ H,W m σ H->
 c σ H λb H1=>if b=true then ∃N:St->Hp->Prop,(∀σ' H',N σ' H'->∃m',m'<m/\W m' σ' H')/\tb { D with nx:=N,ct:=N,bk:=D.nx } σ H1 else D.nx σ H1
theorem vG{c:Expr}{body:List O9}{tc:TT}{tb:TS}(hp:PassesOwn (OZ X.prog X.w) X.A X.env X.xe)(hc:PT X c tc)(hb:PSs X body tb):PS X (.While c body [] pos) (Hr tc tb):=by
 intro pins s σ H D I h;obtain⟨W,⟨m0,w0⟩,turn⟩:=h;refine wpAny_While (codeAny_whileLoop (λn s'=>∃σ' H',Inv X pins σ' H' s'/\W n σ' H') ?_ m0 ⟨σ,H,I,w0⟩);rintro n s1 ⟨σ1,H1,I1,w1⟩;refine PR hp (thn (hc pins s1 σ1 H1 _ I1 (turn n σ1 H1 w1)) λb s2 ⟨H2,I2,q2⟩=>?_);cases b with
 |true=>
  obtain⟨N,hN,q2⟩:=q2;rw[if_pos rfl];refine PR hp (thn (hb pins s2 σ1 H2 _ I2 q2) λf s3 q3=>?_);cases f with
  |next=>
   obtain⟨σ3,H3,I3,n3⟩:=q3;obtain⟨m',hm,w3⟩:=hN σ3 H3 n3;exact⟨m',hm,σ3,H3,I3,w3⟩
  |cont=>
   obtain⟨σ3,H3,I3,n3⟩:=q3;obtain⟨m',hm,w3⟩:=hN σ3 H3 n3;exact⟨m',hm,σ3,H3,I3,w3⟩
  |brk=>exact q3
  |ret v=>exact q3
 |false=>
  rw[if_neg KL];exact QJ ⟨σ1,H2,I2,q2⟩
end
structure It where
 go:Nat->Hp->Prop
 yld:Nat->Hp->V->Hp->Prop
 stop:Nat->Hp->Prop
def rG(X:Cx)(pins:List (OM×Obj))(H:Hp)(b:OM):Prop:=
 H b=UU/\b≠X.env.locals/\b∉X.fs/\(b∈X.ex\/X.s₀.heap.objs.size<=b)/\(∀x c,X.env.cells.lookup x=UT c->c≠b)/\∀p∈X.pn++pins,p.1≠b
theorem Inv.yx{X:Cx}{pins:List (OM×Obj)}{σ:St}{H H':Hp}{s:OO}{b:OM}(I:Inv X pins σ H s)(hb:s.heap.objs.size<=b)(hn:H' b=UU):rG X pins H' b:=by
 refine⟨hn,MJ (KZ I.lt hb),I.IG hb,.inr (KS I.sz hb),λx c e z=>?_,λp hp z=>?_⟩
 ·obtain⟨v,q⟩:=I.cell x c e;exact absurd (KZ q.lt (by rw[z];exact hb)) (LS _)
 exact absurd (KZ (OW (I.pin p hp).1) (by rw[z];exact hb)) (LS _)
structure Vj(P:Program)(w:OX)(K:OQ)(tg:Expr)(J:It)(fp:List OM)(it:OM)(tn:Nat->O8->Prop):Prop where
 mem:it∈fp
 obj:∀i h,tn i h->∀b∈fp,∃o,h.get? b=UT o/\∀v,o.data≠ .cell v
 keep:∀i h h',tn i h->(∀b∈fp,∀o,h.get? b=UT o->h'.get? b=UT o)->tn i h'
 item:∀(X:Cx),X.prog=P->X.w=w->X.K=K->X.calm=true->∀(i:Nat)(pins:List (OM×Obj))(s:OO)(σ:St)(H:Hp)(E:ON->OO->Prop),Inv X pins σ H s->(∀b∈fp,rG X pins H b)->tn i s.heap->J.go i H->
  wpAny (OZ P w) X.A (pyNext (.ref it)) (λr s1=>∃u,r=UT u/\
   wpAny (OZ P w) X.A (QK tg (.ref it) u) (λ_ s2=>∃x H',Inv X pins σ H' s2/\U2 x u/\J.yld i H x H'/\tn (i+1) s2.heap/\∀b∈fp,H' b=UU) E s1) E s
 done:∀(X:Cx),X.prog=P->X.w=w->X.K=K->X.calm=true->∀(i:Nat)(pins:List (OM×Obj))(s:OO)(σ:St)(H:Hp)(E:ON->OO->Prop),Inv X pins σ H s->(∀b∈fp,rG X pins H b)->tn i s.heap->J.stop i H->
  wpAny (OZ P w) X.A (pyNext (.ref it)) (λr s1=>r=UU/\Inv X pins σ H s1) E s
 self:∀(A:O7)(i:Nat)(s:OO)(Q:ON->OO->Prop)(E:ON->OO->Prop),tn i s.heap->Q (.ref it) s->wpAny (OZ P w) A (pyIter (.ref it)) Q E s
abbrev TI:=St->Hp->(It->Hp->Prop)->Prop
def PIE(X:Cx)(pins:List (OM×Obj))(σ:St)(tg:Expr)(R:It->Hp->Prop)(itv:ON)(s2:OO):Prop:=
 ∃(it:OM)(fp:List OM)(tn:Nat->O8->Prop)(J:It)(H':Hp),itv=.ref it/\Inv X pins σ H' s2/\Vj X.prog X.w X.K tg J fp it tn/\tn 0 s2.heap/\(∀b∈fp,rG X pins H' b)/\R J H'
def PI(X:Cx)(tg iter:Expr)(wi:TI):Prop:=
 ∀(pins:List (OM×Obj))(s:OO)(σ:St)(H:Hp)(R:It->Hp->Prop),Inv X pins σ H s->wi σ H R->
  wpAny (OZ X.prog X.w) X.A (Pn iter X.env) (λv s1=>wpAny (OZ X.prog X.w) X.A (pyIter v) (PIE X pins σ tg R) X.xe s1) X.xe s
theorem zw{M:Model}{A:O7}{E:ON->OO->Prop}{s:OO}{tg:Expr}{it:OM}{u:ON}{o:Obj}{n:String}{vs:Array ON}{Q:Unit->OO->Prop}(ho:s.heap.get? it=UT o)(hc:o.cls=.type n)(hd:o.data=.fields vs)
    (hn:["enumerate","zip","dict_itemiterator","dict_reverseitemiterator","odict_iterator","itertools.zip_longest","itertools.pairwise"].contains n=false) (hQ:Q () s):wpAny M A (QK tg (.ref it) u) Q E s:=by
  unfold QK
  cases tg<;>first
    |exact OT hQ
    | (cases u<;>first
        |exact OT hQ
        | (refine OP (wpAny_load ho ?_)
           rw[hc,hd]
           show wpAny M A (if(["enumerate","zip","dict_itemiterator","dict_reverseitemiterator","odict_iterator","itertools.zip_longest","itertools.pairwise"].contains n&&vs[0]?==UT (rawInt _))=true then _ else _) Q E s
           rw[if_neg (by intro h;rw[hn,Uv]at h;cases h)]
           exact OT hQ))
def Itl(K:OQ)(a:OM):It:=
 ⟨λi H=>∃xs x,SqL K H a xs/\xs[i]?=UT x,λi H x H'=>H'=H/\∀xs,SqL K H a xs->xs[i]?=UT x,λi H=>∃xs,SqL K H a xs/\xs.length<=i⟩
def Itt(K:OQ)(a:OM):It:=
 ⟨λi H=>∃xs x,SqT K H a xs/\xs[i]?=UT x,λi H x H'=>H'=H/\∀xs,SqT K H a xs->xs[i]?=UT x,λi H=>∃xs,SqT K H a xs/\xs.length<=i⟩
def Itr(lo:Int)(n:Nat):It:=⟨λi _=>i<n,λi H x H'=>H'=H/\x=.int (lo+i),λi _=>n<=i⟩
theorem Bd{P:Program}{w:OX}{K:OQ}{tg:Expr}(a it:OM):Vj P w K tg (Itl K a) [it] it (λi h=>h.IsListIter it a i) where
 mem:=by simp
 obj:=λi h st b hb=>by
  have e:b=it:=by simpa using hb
  subst e;obtain⟨o,e,c,d⟩:=st;exact⟨o,e,λv z=>by rw[d]at z;cases z⟩
 keep:=λi h h' st k=>st.at λo e=>k it (by simp) o e
 item:=by
  intro X hP hw hK hc i pins s σ H E I hf st hg;subst hP hw hK;obtain⟨xs,x,hq,hx⟩:=hg;obtain⟨its,rv,p,hz⟩:=I.list hq;obtain⟨u,hu,ru⟩:=rv.get hx;obtain⟨f0,f1,f2,f3,f4,f5⟩:=hf it (by simp);refine RA st p.isList (x:=u) (by simpa using hu) λh' st' sb=>?_;have I1:Inv X pins σ H { s with heap:=h' }:=I.turned (t':=s.toks) (λb o hb e=>(sb.2 b hb).trans e) f0 f1 f3 f4 f5;obtain⟨o,e,c,d⟩:=id st';exact⟨u,rfl,zw (s:={ s with heap:=h' }) e c d (by decide) ⟨x,H,I1,ru,⟨rfl,λys hy=>by rw[I.r8 hy hq];exact hx⟩,st',λb hb=>(hf b hb).1⟩⟩
 done:=by
  intro X hP hw hK hc i pins s σ H E I hf st hg;subst hP hw hK;obtain⟨xs,hq,hx⟩:=hg;obtain⟨its,rv,p,hz⟩:=I.list hq;obtain⟨f0,f1,f2,f3,f4,f5⟩:=hf it (by simp);have hl:=rv.length;exact RN (I.ok.hd hc) st p.isList (by simp;omega) λh' eb=>⟨rfl,I.turned (t':=s.toks) (λb o hb e=>eb b o hb e) f0 f1 f3 f4 f5⟩
 self:=λ_ _ _ _ _ st h=>wpAny_pyIter_listiter st h
theorem yp{P:Program}{w:OX}{K:OQ}{tg:Expr}(a it:OM):Vj P w K tg (Itt K a) [it] it (λi h=>h.IsTupleIter it a i) where
 mem:=by simp
 obj:=λi h st b hb=>by
  have e:b=it:=by simpa using hb
  subst e;obtain⟨o,e,c,d⟩:=st;exact⟨o,e,λv z=>by rw[d]at z;cases z⟩
 keep:=λi h h' st k=>st.at λo e=>k it (by simp) o e
 item:=by
  intro X hP hw hK hc i pins s σ H E I hf st hg;subst hP hw hK;obtain⟨xs,x,hq,hx⟩:=hg;obtain⟨its,rv,p,hz⟩:=I.tuple hq;obtain⟨u,hu,ru⟩:=rv.get hx;obtain⟨f0,f1,f2,f3,f4,f5⟩:=hf it (by simp);refine wpAny_pyNext_tuple_item st (show s.heap.IsTuple a its.toArray from p) (x:=u) (by simpa using hu) λh' st' sb=>?_;have I1:Inv X pins σ H { s with heap:=h' }:=I.turned (t':=s.toks) (λb o hb e=>(sb.2 b hb).trans e) f0 f1 f3 f4 f5;obtain⟨o,e,c,d⟩:=id st';exact⟨u,rfl,zw (s:={ s with heap:=h' }) e c d (by decide) ⟨x,H,I1,ru,⟨rfl,λys hy=>by rw[I.As hy hq];exact hx⟩,st',λb hb=>(hf b hb).1⟩⟩
 done:=by
  intro X hP hw hK hc i pins s σ H E I hf st hg;subst hP hw hK;obtain⟨xs,hq,hx⟩:=hg;obtain⟨its,rv,p,hz⟩:=I.tuple hq;obtain⟨f0,f1,f2,f3,f4,f5⟩:=hf it (by simp);have hl:=rv.length;exact wpAny_pyNext_tuple_end (I.ok.hd hc) st (show s.heap.IsTuple a its.toArray from p) (by simp;omega) λh' eb=>⟨rfl,I.turned (t':=s.toks) (λb o hb e=>eb b o hb e) f0 f1 f3 f4 f5⟩
 self:=λ_ _ _ _ _ st h=>wpAny_pyIter_tupleiter st h
theorem yh{P:Program}{w:OX}{K:QR}{tg:Expr}(it:OM)(lo:Int)(n:Nat):Vj P w K tg (Itr lo n) [it] it (λi h=>IsRangeIter h it (lo+(i:Nat)*1) ((n:Int)-(i:Nat)) 1) where
 mem:=by simp
 obj:=λi h st b hb=>by
  have e:b=it:=by simpa using hb
  subst e;exact⟨_,st,λv z=>by
   have z':Data.fields _=TN v:=z;cases z'⟩
 keep:=λi h h' st k=>k it (by simp) _ st
 item:=by
  intro X hP hw hK hc i pins s σ H E I hf st hg;subst hP hw hK;obtain⟨f0,f1,f2,f3,f4,f5⟩:=hf it (by simp);have W:=Walks.range (prog:=X.prog) (w:=X.w) (I.ok.hd hc) it lo 1 n;refine W.item i s _ _ hg st λv h' tk hv st' kk=>?_;obtain⟨t,rfl⟩:=hv;have I1:Inv X pins σ H { s with heap:=h',toks:=tk }:=I.turned (λb o hb e=>kk b o (by simpa using hb) e) f0 f1 f3 f4 f5;refine⟨_,rfl,zw (s:={ s with heap:=h',toks:=tk }) (n:="range_iterator") st' rfl rfl (by decide) ⟨.int (lo+i),H,I1,⟨t,?_⟩,⟨rfl,rfl⟩,st',λb hb=>(hf b hb).1⟩⟩;rw[Int.mul_one]
 done:=by
  intro X hP hw hK hc i pins s σ H E I hf st hg;subst hP hw hK;obtain⟨f0,f1,f2,f3,f4,f5⟩:=hf it (by simp);exact wpAny_pyNext_range_end (I.ok.hd hc) st (by have:n<=i:=hg;omega) λh' eb=>⟨rfl,I.turned (t':=s.toks) (λb o hb e=>eb b o hb e) f0 f1 f3 f4 f5⟩
 self:=λ_ _ _ _ _ st h=>wpAny_pyIter_rangeiter st h
section
variable{X:Cx}{tg:Expr}
theorem Ct{pins:List (OM×Obj)}{σ:St}{H:Hp}{s:OO}{R:It->Hp->Prop}{E:ON->OO->Prop}{lo hi:Int}{t u v:Tok}{tk:Nat}(I:Inv X pins σ H s)(h1:-(2^62)<=lo)(h2:lo<2^62)(h3:-(2^62)<=hi)(h4:hi<2^62)
  (q:R (Itr lo (hi-lo).toNat) H):wpAny (OZ X.prog X.w) X.A (pyIter (.ref s.heap.objs.size)) (PIE X pins σ tg R) E { s with heap:=s.heap.push { cls:=.type "range",data:=.fields #[.int lo t,.int hi u,.int 1 v] },toks:=tk }:=by
 refine wpAny_pyIter_range (IsRange.new ..) (small_one h1 h2 h3 h4) ?_
 have I1:Inv X pins σ H { s with heap:=s.heap.push { cls:=.type "range",data:=.fields #[.int lo t,.int hi u,.int 1 v] },toks:=tk }:=I.kept λb o e=>OR _ e
 refine⟨(s.heap.push { cls:=.type "range",data:=.fields #[.int lo t,.int hi u,.int 1 v] }).objs.size,[(s.heap.push { cls:=.type "range",data:=.fields #[.int lo t,.int hi u,.int 1 v] }).objs.size],_,_,H,rfl,
  I1.kept (t':=tk) λb o e=>OR _ e,yh _ lo (hi-lo).toNat,?_,λb hb=>?_,q⟩
 ·have e1:lo+((0:Nat):Int)*1=lo:=by simp
  have e2:(((hi-lo).toNat:Nat):Int)-((0:Nat):Int)=Builtin.Range.rangeSize lo hi 1:=by rw[rangeSize_one];split<;>omega
  show IsRangeIter _ _ (lo+((0:Nat):Int)*1) ((((hi-lo).toNat:Nat):Int)-((0:Nat):Int)) 1;rw[e1,e2];exact O3 _ rfl
 have e:b=(s.heap.push { cls:=.type "range",data:=.fields #[.int lo t,.int hi u,.int 1 v] }).objs.size:=by simpa using hb
 subst e
 exact I1.yx (KI _) (I1.hok.fresh (KI _))
inductive Je(vs:List V)(H:Hp)(R:It->Hp->Prop):Prop
 |mk(j:Int)(h0:vs=[.int j])(h1:-(2^62)<=j)(h2:j<2^62)(q:R (Itr 0 j.toNat) H):Je vs H R
def HX(ta:TA):TI:=λσ H R=>ta σ H λvs H1=>Je vs H1 R
theorem fq{a:Expr}{ta:TA}{p pos:Pos}(hg:Gl X "range")(hm:X.mg "range"=UU)(ha:PA X [a] ta)(hs:OV [a] X.env=[(false,Pn a X.env)]:=by rfl):PI X tg (.Call (.Name "range" p) [a] [] pos) (HX ta):=by
 intro pins s σ H R I h;refine Call_ (rq I hg hm boot_range (P7 (thn (ha pos pins s σ H _ I h) λus s1 ⟨vs,H1,I1,r1,q1⟩=>?_) hs rfl));obtain⟨j,e,q1,q2,q⟩:=q1;subst e;cases r1 with
 |cons r rr=>
  cases rr;obtain⟨t,rfl⟩:=r;exact call_range_1 (Ct I1 (by omega) (by omega) q1 q2 (by simpa using q))
def JK(wi:TI)(g:TG)(tb:TS):TS:=λD σ H=>wi σ H λJ H1=>∃W:Nat->Nat->St->Hp->Prop,(∃m,W 0 m σ H1)/\∀i m σ H,W i m σ H->
 (J.stop i H/\D.nx σ H)\/(J.go i H/\∃N:St->Hp->Prop,(∀σ' H',N σ' H'->∃m',m'<m/\W (i+1) m' σ' H')/\∀x H',J.yld i H x H'->g x σ H' λσ2 H2=>tb { D with nx:=N,ct:=N,bk:=D.nx } σ2 H2)
def rB(fp:List OM)(h:O8):List (OM×Obj):=fp.filterMap λb=>(h.get? b).map λo=>(b,o)
theorem kQ{fp:List OM}{h:O8}{b:OM}{o:Obj}(hb:b∈fp)(e:h.get? b=UT o):(b,o)∈rB fp h:=Nb.mpr ⟨b,hb,by rw[e];rfl⟩
theorem A5{fp:List OM}{h:O8}{p:OM×Obj}(hp:p∈rB fp h):p.1∈fp/\h.get? p.1=UT p.2:=by
 obtain⟨b,hb,e⟩:=Nb.mp hp;cases q:h.get? b with
 |none=>rw[q]at e;cases e
 |some o=>
  rw[q]at e;have e':(b,o)=p:=OS e;subst e';exact⟨hb,q⟩
theorem Inv.pinned{pins:List (OM×Obj)}{σ:St}{H:Hp}{s:OO}{fp:List OM}(I:Inv X pins σ H s)(hf:∀b∈fp,rG X pins H b)(ho:∀b∈fp,∃o,s.heap.get? b=UT o/\∀v,o.data≠ .cell v):Inv X (pins++rB fp s.heap) σ H s:=
 I.uE λp hp=>(KA.mp hp).elim (λz=>I.pin p (KR _ z)) λz=>by
  obtain⟨hb,e⟩:=A5 z;obtain⟨f0,f1,f2,_⟩:=hf p.1 hb;obtain⟨o,e',d⟩:=ho p.1 hb;rw[e]at e';cases e';exact⟨e,f0,f1,f2,d⟩
theorem Inv.l8{pins pl:List (OM×Obj)}{σ:St}{H:Hp}{s:OO}(I:Inv X (pins++pl) σ H s):Inv X pins σ H s:=I.uE λp hp=>I.pin p (KR _ (Lk _ hp))
theorem dP{iter:Expr}{body:List O9}{wi:TI}{g:TG}{tb:TS}{pos:Pos}(hp:PassesOwn (OZ X.prog X.w) X.A X.env X.xe)(hc:X.calm=true)(hi:PI X tg iter wi)(hg:PG X tg g)(hb:PSs X body tb)
  (hs:∀x,foldedSetIterable iter X.env x=pure x:=by intro _;rfl):PS X (.For tg iter body [] pos) (JK wi g tb):=by
 intro pins s σ H D I h
 refine wpAny_For (thn (hi pins s σ H _ I h) λv s1 h1=>thn h1 λitv s2 h2=>?_) hs
 obtain⟨it,fp,tn,J,H2,e,I2,T,st2,f2,W,⟨m0,w0⟩,turn⟩:=h2
 subst e
 have stat:∀{H':Hp},(∀b∈fp,H' b=UU)->∀b∈fp,rG X pins H' b:=λhn b hb=>⟨hn b hb,(f2 b hb).2⟩
 refine codeAny_forLoop_any (λn s'=>∃i σ' H',Inv X pins σ' H' s'/\tn i s'.heap/\(∀b∈fp,H' b=UU)/\W i n σ' H') ?_ m0 ⟨0,σ,H2,I2,st2,λb hb=>(f2 b hb).1,w0⟩
 rintro n s3 ⟨i,σ3,H3,I3,st3,fr3,w3⟩
 rcases turn i n σ3 H3 w3 with⟨stop,qn⟩|⟨go,N,hN,step⟩
 ·refine PR hp (thn (T.done X rfl rfl rfl hc i pins s3 σ3 H3 X.xe I3 (stat fr3) st3 stop) λr s4 ⟨hr,I4⟩=>?_);subst hr;exact QJ ⟨σ3,H3,I4,qn⟩
 refine PR hp (thn (T.item X rfl rfl rfl hc i pins s3 σ3 H3 X.xe I3 (stat fr3) st3 go) λr s4 ⟨u,hr,h4⟩=>?_)
 subst hr
 refine PR hp (thn h4 λ_ s5 ⟨x,H5,I5,r5,y5,st5,fr5⟩=>?_)
 have I5':=I5.pinned (stat fr5) (T.obj _ _ st5)
 refine PR hp (thn (hg _ s5 σ3 H5 x u _ I5' r5 (step x H5 y5)) λ_ s6 ⟨σ6,H6,I6,q6⟩=>?_)
 refine PR hp (thn (hb _ s6 σ6 H6 _ I6 q6) λf s7 q7=>?_)
 have again:∀{σ7:St}{H7:Hp},Inv X (pins++rB fp s5.heap) σ7 H7 s7->N σ7 H7->∃m,m<n/\∃i σ' H',Inv X pins σ' H' s7/\tn i s7.heap/\(∀b∈fp,H' b=UU)/\W i m σ' H':=λ{σ7 H7} I7 n7=>by
  obtain⟨m',hm,w7⟩:=hN σ7 H7 n7;refine⟨m',hm,i+1,σ7,H7,I7.l8,T.keep _ _ _ st5 λb hb o e=>(I7.pin (b,o) (KR _ (KR _ (kQ hb e)))).1,λb hb=>?_,w7⟩;obtain⟨o,e,d⟩:=T.obj _ _ st5 b hb;exact(I7.pin (b,o) (KR _ (KR _ (kQ hb e)))).2.1
 cases f with
 |next=>obtain⟨σ7,H7,I7,n7⟩:=q7;exact again I7 n7
 |cont=>obtain⟨σ7,H7,I7,n7⟩:=q7;exact again I7 n7
 |brk=>obtain⟨σ7,H7,I7,q7⟩:=q7;exact⟨σ7,H7,I7.l8,q7⟩
 |ret v=>obtain⟨x7,σ7,H7,I7,r7,q7⟩:=q7;exact⟨x7,σ7,H7,I7.l8,r7,q7⟩
end
theorem eF{K:QR}{a:OM}{xs:List V}{g:TG}{tb:TS}{D:Ve}{σ:St}{H:Hp}(Pv:Nat->St->Hp->Prop)(h0:Pv 0 σ H)(hl:∀i σ H,i<=xs.length->Pv i σ H->SqL K H a xs)
  (hs:∀i x σ H,xs[i]?=UT x->Pv i σ H->g x σ H λσ2 H2=>tb { D with nx:=Pv (i+1),ct:=Pv (i+1),bk:=D.nx } σ2 H2) (hd:∀σ H,Pv xs.length σ H->D.nx σ H) :
  ∃W:Nat->Nat->St->Hp->Prop,(∃m,W 0 m σ H)/\∀i m σ H,W i m σ H->
   ((Itl K a).stop i H/\D.nx σ H)\/((Itl K a).go i H/\∃N:St->Hp->Prop,(∀σ' H',N σ' H'->∃m',m'<m/\W (i+1) m' σ' H')/\∀x H',(Itl K a).yld i H x H'->g x σ H' λσ2 H2=>tb { D with nx:=N,ct:=N,bk:=D.nx } σ2 H2):=by
 refine⟨λi m σ H=>m=xs.length-i/\i<=xs.length/\Pv i σ H,⟨xs.length,by simp,KY _,h0⟩,?_⟩
 rintro i m σ H ⟨rfl,hi,p⟩
 have q:=hl i σ H hi p
 by_cases hlt:i<xs.length
 ·refine .inr ⟨⟨xs,xs[i],q,by simp[hlt]⟩,Pv (i+1),λσ' H' p'=>⟨xs.length-(i+1),by omega,rfl,hlt,p'⟩,λx H' y=>?_⟩;obtain⟨e,y⟩:=y;subst e;exact hs i x σ _ (y xs q) p
 have e:i=xs.length:=by omega
 subst e
 exact .inl ⟨⟨xs,q,KI _⟩,hd σ H p⟩
theorem ik{lo:Int}{n:Nat}{g:TG}{tb:TS}{D:Ve}{σ:St}{H:Hp}(Pv:Nat->St->Hp->Prop)(h0:Pv 0 σ H)
  (hs:∀i σ H,i<n->Pv i σ H->g (.int (lo+i)) σ H λσ2 H2=>tb { D with nx:=Pv (i+1),ct:=Pv (i+1),bk:=D.nx } σ2 H2) (hd:∀σ H,Pv n σ H->D.nx σ H) :
  ∃W:Nat->Nat->St->Hp->Prop,(∃m,W 0 m σ H)/\∀i m σ H,W i m σ H->
   ((Itr lo n).stop i H/\D.nx σ H)\/((Itr lo n).go i H/\∃N:St->Hp->Prop,(∀σ' H',N σ' H'->∃m',m'<m/\W (i+1) m' σ' H')/\∀x H',(Itr lo n).yld i H x H'->g x σ H' λσ2 H2=>tb { D with nx:=N,ct:=N,bk:=D.nx } σ2 H2):=by
 refine⟨λi m σ H=>m=n-i/\i<=n/\Pv i σ H,⟨n,by simp,KY _,h0⟩,?_⟩
 rintro i m σ H ⟨rfl,hi,p⟩
 by_cases hlt:i<n
 ·refine .inr ⟨hlt,Pv (i+1),λσ' H' p'=>⟨n-(i+1),by omega,rfl,hlt,p'⟩,λx H' y=>?_⟩;obtain⟨e,y⟩:=y;subst e y;exact hs i σ _ hlt p
 have e:i=n:=by omega
 subst e
 exact .inl ⟨KI _,hd σ H p⟩
abbrev R2:=V->V->Hp->VK->Prop
def OpR(X:Cx)(f:ON->ON->Sem ON)(r:R2):Prop:=
 ∀(pins:List (OM×Obj))(s:OO)(σ:St)(H:Hp)(x y:V)(v u:ON)(Q:VK),Inv X pins σ H s->U2 x v->U2 y u->r x y H Q->
  wpAny (OZ X.prog X.w) X.A (f v u) (EP X pins σ Q) X.xe s
def UnR(X:Cx)(f:ON->Sem ON)(r:V->Hp->VK->Prop):Prop:=
 ∀(pins:List (OM×Obj))(s:OO)(σ:St)(H:Hp)(x:V)(v:ON)(Q:VK),Inv X pins σ H s->U2 x v->r x H Q->
  wpAny (OZ X.prog X.w) X.A (f v) (EP X pins σ Q) X.xe s
def dI(X:Cx)(f:ON)(r:List V->Hp->VK->Prop):Prop:=
 ∀(pins:List (OM×Obj))(s:OO)(σ:St)(H:Hp)(xs:List V)(us:List ON)(Q:VK),Inv X pins σ H s->U1 xs us->r xs H Q->
  wpAny (OZ X.prog X.w) X.A (call f us) (EP X pins σ Q) X.xe s
def Kb(X:Cx)(r:V->Hp->(Bool->Hp->Prop)->Prop):Prop:=
 ∀(pins:List (OM×Obj))(s:OO)(σ:St)(H:Hp)(x:V)(v:ON)(Q:Bool->Hp->Prop),Inv X pins σ H s->U2 x v->r x H Q->
  wpAny (OZ X.prog X.w) X.A (truthy v) (TP X pins σ Q) X.xe s
def tOp(r:R2)(ta tb:TE):TE:=λσ H Q=>ta σ H λx H1=>tb σ H1 λy H2=>r x y H2 Q
def tUn(r:V->Hp->VK->Prop)(ta:TE):TE:=λσ H Q=>ta σ H λx H1=>r x H1 Q
def rI(C:Int->Int->Prop)(g:Int->Int->V):R2:=λx y H Q=>∃i j,x=.int i/\y=.int j/\C i j/\Q (g i j) H
def rI0(g:Int->Int->V):R2:=λx y H Q=>∃i j,x=.int i/\y=.int j/\Q (g i j) H
def rU(g:Int->V):V->Hp->VK->Prop:=λx H Q=>∃i,x=.int i/\Q (g i) H
section
variable{X:Cx}{a b c:Expr}{ta tb tc:TE}{pos:Pos}
theorem FC(ha:PE X a ta)(hb:PE X b tb){pins:List (OM×Obj)}{s:OO}{σ:St}{H:Hp}{R:V->V->Hp->Prop}(I:Inv X pins σ H s)
  (h:ta σ H λx H1=>tb σ H1 λy H2=>R x y H2) {Q:ON->OO->Prop}{f:ON->ON->Sem ON}
  (hf:∀v u s2 x y H2,Inv X pins σ H2 s2->U2 x v->U2 y u->R x y H2->wpAny (OZ X.prog X.w) X.A (f v u) Q X.xe s2) :
  wpAny (OZ X.prog X.w) X.A (Pn a X.env) (λv s₁=>wpAny (OZ X.prog X.w) X.A (Pn b X.env) (λu s₂=>wpAny (OZ X.prog X.w) X.A (f v u) Q X.xe s₂) X.xe s₁) X.xe s:=by
 refine thn (ha pins s σ H _ I h) λv s1 ⟨x,H1,I1,r1,q1⟩=>?_
 refine thn (hb pins s1 σ H1 _ I1 q1) λu s2 ⟨y,H2,I2,r2,q2⟩=>?_
 exact hf v u s2 x y H2 I2 r1 r2 q2
theorem ax{op:Ta}{r:R2}(ho:OpR X (Pp op) r)(ha:PE X a ta)(hb:PE X b tb):PE X (.BinOp a op b pos) (tOp r ta tb):=by
 intro pins s σ H Q I h;exact wpAny_BinOp (FC ha hb I h λv u s2 x y H2 I2 rx ry q=>ho pins s2 σ H2 x y v u Q I2 rx ry q)
theorem iL{op:UnaryOp}{r:V->Hp->VK->Prop}(ho:UnR X (unaryOp op) r)(ha:PE X a ta):PE X (.UnaryOp op a pos) (tUn r ta):=by
 intro pins s σ H Q I h;exact UnaryOp_ (thn (ha pins s σ H _ I h) λv s1 ⟨x,H1,I1,r1,q1⟩=>ho pins s1 σ H1 x v Q I1 r1 q1)
theorem opI{f:ON->ON->Sem ON}{C:Int->Int->Prop}{g:Int->Int->Int}
  (rule:∀(i j:Int)(t u:Tok)(s:OO)(Q:ON->OO->Prop)(E:ON->OO->Prop),C i j->Q (.int (g i j) s.toks) { s with toks:=s.toks+1 }->wpAny (OZ X.prog X.w) X.A (f (.int i t) (.int j u)) Q E s) :
  OpR X f (rI C λi j=>.int (g i j)):=by
 intro pins s σ H x y v u Q I rx ry h
 obtain⟨i,j,rfl,rfl,hc,q⟩:=h
 obtain⟨t,rfl⟩:=rx
 obtain⟨t',rfl⟩:=ry
 exact rule i j t t' s _ _ hc ⟨.int (g i j),H,I.tok _,⟨_,rfl⟩,q⟩
theorem IV{f:ON->ON->Sem ON}{g:Int->Int->Int}
  (rule:∀(i j:Int)(t u:Tok)(s:OO)(Q:ON->OO->Prop)(E:ON->OO->Prop),Q (.int (g i j) s.toks) { s with toks:=s.toks+1 }->wpAny (OZ X.prog X.w) X.A (f (.int i t) (.int j u)) Q E s) :
  OpR X f (rI0 λi j=>.int (g i j)):=by
 intro pins s σ H x y v u Q I rx ry h
 obtain⟨i,j,rfl,rfl,q⟩:=h
 obtain⟨t,rfl⟩:=rx
 obtain⟨t',rfl⟩:=ry
 exact rule i j t t' s _ _ ⟨.int (g i j),H,I.tok _,⟨_,rfl⟩,q⟩
theorem EE{f:ON->ON->Sem ON}{g:Int->Int->Bool}
  (rule:∀(i j:Int)(t u:Tok)(s:OO)(Q:ON->OO->Prop)(E:ON->OO->Prop),Q (.bool (g i j)) s->wpAny (OZ X.prog X.w) X.A (f (.int i t) (.int j u)) Q E s) :
  OpR X f (rI0 λi j=>.bl (g i j)):=by
 intro pins s σ H x y v u Q I rx ry h
 obtain⟨i,j,rfl,rfl,q⟩:=h
 obtain⟨t,rfl⟩:=rx
 obtain⟨t',rfl⟩:=ry
 exact rule i j t t' s _ _ ⟨.bl (g i j),H,I,rfl,q⟩
def Jr(i j:Int):Prop:=0<=j/\j<=1000000/\i.natAbs<2^64
def Dt(i j:Int):Prop:=(-(2^64)<i/\i<2^64)\/(-(2^64)<j/\j<2^64)
theorem Dt.ok{i j:Int}(h:Dt i j):IntMulOk i j:=by
 rcases h with⟨h1,h2⟩|⟨h1,h2⟩
 ·exact .of_left (intBits_le_64 h1 h2)
 exact .of_right (intBits_le_64 h1 h2)
theorem yW(k:Nat):(0:Int)<=2^k:=by
 rw[two_pow_cast];exact Int.natCast_nonneg _
theorem HA:OpR X (Pp .Add) (rI0 λi j=>.int (i+j)):=IV λ_ _ _ _ _ _ _ q=>add_int q
theorem Fw:OpR X (Pp .Sub) (rI0 λi j=>.int (i-j)):=IV λ_ _ _ _ _ _ _ q=>sub_int q
theorem Fx:OpR X (Pp .Mult) (rI Dt λi j=>.int (i*j)):=opI λ_ _ _ _ _ _ _ hc q=>mul_int q hc.ok
theorem GK:OpR X (Pp .Mod) (rI (λ_ j=>0<j) λi j=>.int (i%j)):=opI λi j _ _ _ _ _ hc q=>by
 have h1:(0:Int)<j:=hc;exact mod_int' (by omega) (by rw[Int.fmod_eq_emod_of_nonneg i (by omega)];exact q)
theorem Gw:OpR X (Pp .Pow) (rI Jr λi j=>.int (i^j.toNat)):=opI λ_ _ _ _ _ _ _ hc q=>pow_int_small hc.1 hc.2.1 hc.2.2 q
theorem HC:OpR X (Pp .RShift) (rI (λ_ j=>0<=j) λi j=>.int (i/2^j.toNat)):=opI λi j _ _ _ _ _ hc q=>
 rshift_int hc (by rw[QY i (yW _)];exact q)
theorem unI{f:ON->Sem ON}{g:Int->Int}
  (rule:∀(i:Int)(t:Tok)(s:OO)(Q:ON->OO->Prop)(E:ON->OO->Prop),Q (.int (g i) s.toks) { s with toks:=s.toks+1 }->wpAny (OZ X.prog X.w) X.A (f (.int i t)) Q E s) :
  UnR X f (rU λi=>.int (g i)):=by
 intro pins s σ H x v Q I rx h
 obtain⟨i,rfl,q⟩:=h
 obtain⟨t,rfl⟩:=rx
 exact rule i t s _ _ ⟨.int (g i),H,I.tok _,⟨_,rfl⟩,q⟩
theorem fk:UnR X (unaryOp .USub) (rU λi=>.int (-i)):=unI λ_ _ _ _ _ q=>neg_int q
end
def AG:V->V->Bool
 | .non,.non=>true| .non,.int _=>true| .int _,.non=>true| .non,.bl _=>true| .bl _,.non=>true| .non,.str _=>true| .str _,.non=>true
 | .int _,.int _=>true| .bl _,.bl _=>true| .str _,.str _=>true| .byt _,.byt _=>true
 | .int _,.str _=>true| .str _,.int _=>true| .bl _,.str _=>true| .str _,.bl _=>true
 |_,_=>false
def rEq:R2:=λx y H Q=>AG x y=true/\Q (.bl (decide (x=y))) H
def rNe:R2:=λx y H Q=>AG x y=true/\Q (.bl (!decide (x=y))) H
theorem Ad{i j:Int}:decide (V.int i=V.int j)=(i==j):=by
 rw[LQ];simp
theorem BY{i j:Bool}:decide (V.bl i=V.bl j)=(i==j):=by
 rw[LQ];simp
theorem zM{i j:Str}:decide (V.str i=V.str j)=(i==j):=by
 rw[LQ];simp
theorem zO{i j:Array UInt8}:decide (V.byt i=V.byt j)=(i.toList==j.toList):=by
 rw[LQ];cases i;cases j;simp
section
variable{X:Cx}{a b c:Expr}{ta tb tc:TE}{pos:Pos}
theorem bT{pins:List (OM×Obj)}{σ:St}{H:Hp}{s:OO}{Q:VK}{k k':Bool}(I:Inv X pins σ H s)(q:Q (.bl k) H)(e:k=k'):EP X pins σ Q (.bool k') s:=by
 subst e;exact⟨.bl k,H,I,rfl,q⟩
theorem IM:OpR X (O4 .Eq) rEq:=by
 intro pins s σ H x y v u Q I rx ry h;obtain⟨hs,q⟩:=h;cases x with
 |non=>
  cases rx;cases y with
  |non=>cases ry;exact PySem.EqNone.eq_none_none (bT I q (by simp))
  |bl j=>cases ry;exact PySem.EqNone.eq_none_bool (bT I q (by simp))
  |int j=>obtain⟨t',rfl⟩:=ry;exact PySem.EqNone.eq_none_int (bT I q (by simp))
  |str j=>obtain⟨t',rfl⟩:=ry;exact PySem.EqNone.eq_none_str (bT I q (by simp))
  |_=>exact absurd (show false=true from hs) KL
 |bl i=>
  cases rx;cases y with
  |non=>cases ry;exact PySem.EqNone.eq_bool_none (bT I q (by simp))
  |bl j=>cases ry;exact eq_bool (bT I q BY)
  |str j=>obtain⟨t',rfl⟩:=ry;exact PySem.EqMixed.eq_bool_str (bT I q (by simp))
  |_=>exact absurd (show false=true from hs) KL
 |int i=>
  obtain⟨t,rfl⟩:=rx;cases y with
  |non=>cases ry;exact PySem.EqNone.eq_int_none (bT I q (by simp))
  |int j=>obtain⟨t',rfl⟩:=ry;exact eq_int (bT I q Ad)
  |str j=>obtain⟨t',rfl⟩:=ry;exact PySem.EqMixed.eq_int_str (bT I q (by simp))
  |_=>exact absurd (show false=true from hs) KL
 |str i=>
  obtain⟨t,rfl⟩:=rx;cases y with
  |non=>cases ry;exact PySem.EqNone.eq_str_none (bT I q (by simp))
  |bl j=>cases ry;exact PySem.EqMixed.eq_str_bool (bT I q (by simp))
  |int j=>obtain⟨t',rfl⟩:=ry;exact PySem.EqMixed.eq_str_int (bT I q (by simp))
  |str j=>obtain⟨t',rfl⟩:=ry;exact eq_str (bT I q zM)
  |_=>exact absurd (show false=true from hs) KL
 |byt i=>
  obtain⟨t,rfl⟩:=rx;cases y with
  |byt j=>obtain⟨t',rfl⟩:=ry;exact W.eq_bytes (bT I q zO)
  |_=>exact absurd (show false=true from hs) KL
 |_=>cases y<;>exact absurd (show false=true from hs) KL
theorem Jv:OpR X (O4 .NotEq) rNe:=by
 intro pins s σ H x y v u Q I rx ry h;obtain⟨hs,q⟩:=h;cases x with
 |non=>
  cases rx;cases y with
  |non=>cases ry;exact PySem.EqNone.ne_none_none (bT I q (by simp))
  |bl j=>cases ry;exact PySem.EqNone.ne_none_bool (bT I q (by simp))
  |int j=>obtain⟨t',rfl⟩:=ry;exact PySem.EqNone.ne_none_int (bT I q (by simp))
  |str j=>obtain⟨t',rfl⟩:=ry;exact PySem.EqNone.ne_none_str (bT I q (by simp))
  |_=>exact absurd (show false=true from hs) KL
 |bl i=>
  cases rx;cases y with
  |non=>cases ry;exact PySem.EqNone.ne_bool_none (bT I q (by simp))
  |bl j=>cases ry;exact ne_bool (bT I q (congrArg not BY))
  |str j=>obtain⟨t',rfl⟩:=ry;exact PySem.EqMixed.ne_bool_str (bT I q (by simp))
  |_=>exact absurd (show false=true from hs) KL
 |int i=>
  obtain⟨t,rfl⟩:=rx;cases y with
  |non=>cases ry;exact PySem.EqNone.ne_int_none (bT I q (by simp))
  |int j=>obtain⟨t',rfl⟩:=ry;exact ne_int (bT I q (congrArg not Ad))
  |str j=>obtain⟨t',rfl⟩:=ry;exact PySem.EqMixed.ne_int_str (bT I q (by simp))
  |_=>exact absurd (show false=true from hs) KL
 |str i=>
  obtain⟨t,rfl⟩:=rx;cases y with
  |non=>cases ry;exact PySem.EqNone.ne_str_none (bT I q (by simp))
  |bl j=>cases ry;exact PySem.EqMixed.ne_str_bool (bT I q (by simp))
  |int j=>obtain⟨t',rfl⟩:=ry;exact PySem.EqMixed.ne_str_int (bT I q (by simp))
  |str j=>obtain⟨t',rfl⟩:=ry;exact ne_str (bT I q (congrArg not zM))
  |_=>exact absurd (show false=true from hs) KL
 |byt i=>
  obtain⟨t,rfl⟩:=rx;cases y with
  |byt j=>obtain⟨t',rfl⟩:=ry;exact W.ne_bytes (bT I q (congrArg not zO))
  |_=>exact absurd (show false=true from hs) KL
 |_=>cases y<;>exact absurd (show false=true from hs) KL
theorem Iy:OpR X (O4 .Lt) (rI0 λi j=>.bl (decide (i<j))):=EE λ_ _ _ _ _ _ _ q=>lt_int q
theorem JD:OpR X (O4 .LtE) (rI0 λi j=>.bl (decide (i<=j))):=EE λ_ _ _ _ _ _ _ q=>le_int q
theorem ID:OpR X (O4 .Gt) (rI0 λi j=>.bl (decide (j<i))):=EE λ_ _ _ _ _ _ _ q=>gt_int q
theorem Ip:OpR X (O4 .GtE) (rI0 λi j=>.bl (decide (j<=i))):=EE λ_ _ _ _ _ _ _ q=>ge_int q
theorem Aq:OpR X (O4 .In) (λx y H Q=>∃i j,x=.str i/\y=.str j/\Q (.bl (!(Pz j i 0 j.length 1).isEmpty)) H):=by
 intro pins s σ H x y v u Q I rx ry h;obtain⟨i,j,rfl,rfl,q⟩:=h;obtain⟨t,rfl⟩:=rx;obtain⟨t',rfl⟩:=ry;exact in_str (bT I q rfl)
theorem GQ:OpR X (O4 .Is) (λx y H Q=>y=.non/\Q (.bl (decide (x=.non))) H):=by
 intro pins s σ H x y v u Q I rx ry h;obtain⟨rfl,q⟩:=h;cases ry;refine is_none_gen (bT I q ?_);cases x<;>first
  | (cases rx;rfl)
  | (obtain⟨t,rfl⟩:=rx;rfl)
theorem EM:OpR X (O4 .IsNot) (λx y H Q=>y=.non/\Q (.bl (!decide (x=.non))) H):=by
 intro pins s σ H x y v u Q I rx ry h;obtain⟨rfl,q⟩:=h;cases ry;refine isnot_none_gen (bT I q ?_);cases x<;>first
  | (cases rx;rfl)
  | (obtain⟨t,rfl⟩:=rx;rfl)
theorem OpR.or{f:ON->ON->Sem ON}{r r':R2}(h:OpR X f r)(h':OpR X f r'):OpR X f (λx y H Q=>r x y H Q\/r' x y H Q):=by
 intro pins s σ H x y v u Q I rx ry q;rcases q with q|q
 ·exact h pins s σ H x y v u Q I rx ry q
 exact h' pins s σ H x y v u Q I rx ry q
theorem BH(b:Expr){op:CmpOp}(h:op≠ .In:=by decide)(h2:op≠ .NotIn:=by decide):Qg op b=false:=by
 have e1:(op==CmpOp.In)=false:=by cases op<;>first|rfl|exact absurd rfl h
 have e2:(op==CmpOp.NotIn)=false:=by cases op<;>first|rfl|exact absurd rfl h2
 cases b<;>simp[Qg,e1,e2]
theorem EU{op:CmpOp}{r:R2}(ho:OpR X (O4 op) r)(ha:PE X a ta)(hb:PE X b tb)(hm:Qg op b=false):PE X (.Compare a [op] [b] pos) (tOp r ta tb):=by
 intro pins s σ H Q I h;exact wpAny_Compare1 (FC ha hb I h λv u s2 x y H2 I2 rx ry q=>ho pins s2 σ H2 x y v u Q I2 rx ry q) hm
inductive blI(x:V)(H:Hp)(Q:Bool->Hp->Prop):Prop
 |mk(k:Bool)(h:x=.bl k)(q:Q k H):blI x H Q
def E5(t:TE):TT:=λσ H Q=>t σ H λx H'=>blI x H' Q
theorem Ef{op:CmpOp}{r:R2}(ho:OpR X (O4 op) r)(ha:PE X a ta)(hb:PE X b tb)(hm:Qg op b=false):PT X (.Compare a [op] [b] pos) (E5 (tOp r ta tb)):=by
 intro pins s σ H Q I h;refine wpAny_isTrue_Compare1 (thn (ha pins s σ H _ I h) λv s1 ⟨x,H1,I1,r1,q1⟩=>thn (hb pins s1 σ H1 _ I1 q1) λu s2 ⟨y,H2,I2,r2,q2⟩=>
  thn (ho pins s2 σ H2 x y v u _ I2 r1 r2 q2) λc s3 ⟨z,H3,I3,r3,k,e,q3⟩=>?_) hm
 subst e;cases r3;exact Pk ⟨H3,I3,q3⟩
def HE(r r':R2)(ta tb tc:TE):TE:=λσ H Q=>ta σ H λx H1=>tb σ H1 λy H2=>r x y H2 λz H3=>∃k,z=.bl k/\
 (if k=true then tc σ H3 λw' H4=>r' y w' H4 Q else Q (.bl false) H3)
theorem Cf{op op':CmpOp}{r r':R2}(ho:OpR X (O4 op) r)(ho':OpR X (O4 op') r')(ha:PE X a ta)(hb:PE X b tb)(hc:PE X c tc)
  (hm:lastMarks [op,op'] [b,c]=false:=by with_unfolding_all rfl):PE X (.Compare a [op,op'] [b,c] pos) (HE r r' ta tb tc):=by
 intro pins s σ H Q I h
 refine Compare_chain (thn (ha pins s σ H _ I h) λv s1 ⟨x,H1,I1,r1,q1⟩=>chain_link (thn (hb pins s1 σ H1 _ I1 q1) λu s2 ⟨y,H2,I2,r2,q2⟩=>
  thn (ho pins s2 σ H2 x y v u _ I2 r1 r2 q2) λd s3 ⟨z,H3,I3,r3,k,e,q3⟩=>?_)) hm
 subst e
 cases r3
 refine Pk ?_
 cases k with
 |false=>exact ite_ff ⟨.bl false,H3,I3,rfl,q3⟩
 |true=>exact ite_tt (chain_last (thn (hc pins s3 σ H3 _ I3 q3) λw' s4 ⟨z',H4,I4,r4,q4⟩=>ho' pins s4 σ H4 y z' u w' Q I4 r2 r4 q4))
def IT(K:OQ)(x:V)(H:Hp)(k:Bool):Prop:=
 match x with
 | .non=>k=false
 | .bl b=>k=b
 | .int i=>k=(i !=0)
 | .str y=>y.length<=sizeLine/\k=((y.length:Int)!=0)
 | .byt y=>y.size<=sizeLine/\k=((y.size:Int)!=0)
 | .ref p=>(∃xs,SqL K H p xs/\k=!xs.isEmpty)\/(∃xs,SqT K H p xs/\k=!xs.isEmpty)\/∃kvs,H p=UT (.dK kvs)/\k=!kvs.isEmpty
 |_=>False
theorem yo{κ:Type}{kvs:List (κ×V)}{vs:List (κ×ON)}(r:KV kvs vs):(!vs.isEmpty)=!kvs.isEmpty:=by
 cases r<;>rfl
theorem rV{xs:List V}{its:List ON}(r:U1 xs its):(!its.toArray.isEmpty)=!xs.isEmpty:=by
 cases r<;>simp
theorem pA:(sizeLine:Nat)<2^63:=by rw[P9];decide
inductive Dn(K:OQ)(x:V)(H:Hp)(Q:Bool->Hp->Prop):Prop
 |mk(k:Bool)(h:IT K x H k)(q:Q k H):Dn K x H Q
theorem CZ:Kb X (Dn X.K):=by
 intro pins s σ H x v Q I rx h;obtain⟨k,e,q⟩:=h;have hl:=pA;have hs:sizeLine=16777216:=P9;cases x with
 |non=>
  cases rx;have e':k=false:=e;subst e';exact truthy_none ⟨H,I,q⟩
 |bl b=>
  cases rx;have e':k=b:=e;subst e';exact Pk ⟨H,I,q⟩
 |int i=>
  obtain⟨t,rfl⟩:=rx;have e':k=(i !=0):=e;subst e';exact PySem.P.truthy_int ⟨H,I,q⟩
 |str y=>
  obtain⟨t,rfl⟩:=rx;obtain⟨hy,e'⟩:y.length<=sizeLine/\k=((y.length:Int)!=0):=e;subst e';exact PySem.P.truthy_str (by omega) ⟨H,I.tok _,q⟩
 |byt y=>
  obtain⟨t,rfl⟩:=rx;obtain⟨hy,e'⟩:y.size<=sizeLine/\k=((y.size:Int)!=0):=e;subst e';exact W.truthy_bytes (by omega) ⟨H,I.tok _,q⟩
 |ref p=>
  cases rx;have e':(∃xs,SqL X.K H p xs/\k=!xs.isEmpty)\/(∃xs,SqT X.K H p xs/\k=!xs.isEmpty)\/∃kvs,H p=UT (.dK kvs)/\k=!kvs.isEmpty:=e;rcases e' with⟨xs,hx,e'⟩|⟨xs,hx,e'⟩|⟨kvs,hx,e'⟩
  ·subst e';obtain⟨its,r,pl,hz⟩:=I.list hx;have hlen:=r.length;exact wpAny_truthy_list pl.isList (by simp only[KO];omega) ⟨H,I.tok _,by rw[rV r];exact q⟩
  ·subst e';obtain⟨its,r,pl,hz⟩:=I.tuple hx;have hlen:=r.length;exact truthy_tuple pl (by simp only[KO];omega) ⟨H,I.tok _,by rw[rV r];exact q⟩
  subst e';obtain⟨hz,hS,vs,r,m⟩:kvs.length<=sizeLine/\(p==Pm)=false/\∃vs,KV kvs vs/\s.heap.DictOf (cF X.prog X.w) p vs:=I.hok p _ hx;have hlen:kvs.length=vs.length:=OU r;exact wpAny_truthy_dict hS m (by omega) ⟨H,I.tok _,by rw[yo r];exact q⟩
 |_=>exact(show False from e).elim
theorem BL(ha:PE X a ta)(he:∀whole,isTrue a X.env whole=(do let v<-whole;Te a.pos;Ql [v] (truthy v))) :
  PT X a (λσ H Q=>ta σ H λx H'=>Dn X.K x H' Q):=by
 intro pins s σ H Q I h
 exact isTrue_plain (thn (ha pins s σ H _ I h) λv s1 ⟨x,H1,I1,r1,q1⟩=>CZ pins s1 σ H1 x v Q I1 r1 q1) (he _)
theorem yf:OpR X (Pp .Add) (λx y H Q=>∃i j,x=.str i/\y=.str j/\i.length+j.length<=sizeLine/\Q (.str (i++j)) H):=by
 intro pins s σ H x y v u Q I rx ry h;obtain⟨i,j,rfl,rfl,hz,q⟩:=h;obtain⟨t,rfl⟩:=rx;obtain⟨t',rfl⟩:=ry;exact add_str (λt' tk=>⟨.str (i++j),H,I.tok _,⟨_,rfl⟩,q⟩) hz
theorem Vb{x:V}{us:List ON}(r:U1 [x] us):∃u,us=[u]/\U2 x u:=by
 cases r with
 |cons r1 r2=>cases r2;exact⟨_,rfl,r1⟩
theorem Vh{x y:V}{us:List ON}(r:U1 [x,y] us):∃u w',us=[u,w']/\U2 x u/\U2 y w':=by
 cases r with
 |cons r1 r2=>
  cases r2 with
  |cons r3 r4=>cases r4;exact⟨_,_,rfl,r1,r3⟩
theorem Ar(hc:X.calm=true):dI X (.builtin "max") (λxs H Q=>∃i j,xs=[.int i,.int j]/\Q (.int (if j>i then j else i)) H):=by
 intro pins s σ H xs us Q I r h;obtain⟨i,j,rfl,q⟩:=h;obtain⟨u,w',rfl,⟨t,rfl⟩,⟨t',rfl⟩⟩:=Vh r;refine max_two_ints (I.ok.hd hc) λh' tk k=>⟨_,H,I.kept k,?_,q⟩;by_cases hj:j>i
 ·rw[if_pos hj,if_pos hj];exact⟨_,rfl⟩
 rw[if_neg hj,if_neg hj];exact⟨_,rfl⟩
theorem AO(hc:X.calm=true):dI X (.builtin "min") (λxs H Q=>∃i j,xs=[.int i,.int j]/\Q (.int (if j<i then j else i)) H):=by
 intro pins s σ H xs us Q I r h;obtain⟨i,j,rfl,q⟩:=h;obtain⟨u,w',rfl,⟨t,rfl⟩,⟨t',rfl⟩⟩:=Vh r;refine min_two_ints (I.ok.hd hc) λh' tk k=>⟨_,H,I.kept k,?_,q⟩;by_cases hj:j<i
 ·rw[if_pos hj,if_pos hj];exact⟨_,rfl⟩
 rw[if_neg hj,if_neg hj];exact⟨_,rfl⟩
def Jd(K:OQ)(x:V)(H:Hp)(n:Nat):Prop:=
 match x with
 | .str y=>y.length<=sizeLine/\n=y.length
 | .byt y=>y.size<=sizeLine/\n=y.size
 | .ref p=>(∃xs,SqL K H p xs/\n=xs.length)\/∃xs,SqT K H p xs/\n=xs.length
 |_=>False
theorem Du:dI X (.builtin "len") (λxs H Q=>∃x n,xs=[x]/\Jd X.K x H n/\Q (.int n) H):=by
 intro pins s σ H xs us Q I r h;obtain⟨x,n,rfl,e,q⟩:=h;obtain⟨u,rfl,rx⟩:=Vb r;have hl:=pA;have hs:sizeLine=16777216:=P9;cases x with
 |str y=>
  obtain⟨t,rfl⟩:=rx;obtain⟨hy,e'⟩:y.length<=sizeLine/\n=y.length:=e;subst e';exact len_str (by omega) ⟨.int _,H,I.tok _,⟨_,rfl⟩,q⟩
 |byt y=>
  obtain⟨t,rfl⟩:=rx;obtain⟨hy,e'⟩:y.size<=sizeLine/\n=y.size:=e;subst e';exact W.len_bytes (by omega) ⟨.int _,H,I.tok _,⟨_,rfl⟩,q⟩
 |ref p=>
  cases rx;have e':(∃xs,SqL X.K H p xs/\n=xs.length)\/∃xs,SqT X.K H p xs/\n=xs.length:=e;rcases e' with⟨xs,hx,e'⟩|⟨xs,hx,e'⟩
  ·subst e';obtain⟨its,r',pl,hz⟩:=I.list hx;have hlen:=r'.length;exact Calls.call_len_list pl.isList (by simp only[KO];omega) ⟨.int xs.length,H,I.tok _,⟨_,by simp only[KO];rw[hlen]⟩,q⟩
  subst e';obtain⟨its,r',pl,hz⟩:=I.tuple hx;have hlen:=r'.length;exact len_tuple pl (by simp only[KO];omega) ⟨.int xs.length,H,I.tok _,⟨_,by simp only[KO];rw[hlen]⟩,q⟩
 |_=>exact(show False from e).elim
end
structure yL(h:O8)(x dx C:OM)(mA:Str->Option ON):Prop where
 obj:h.get? x=UT (QB C dx)
 ns:h.Ns1 dx mA
 ne:dx≠x
theorem AI{h:O8}{dx:OM}{mA:Str->Option ON}(n:h.Ns1 dx mA):∃od,h.get? dx=UT od/\∀name,Uw name od=UT (mA name):=by
 obtain⟨o,es,ep,ho,hd,hk,_,hm⟩:=n;refine⟨o,ho,λname=>?_⟩;have e:=hm name;unfold nsFind findBy at e;rw[<-Array.find?_toList]at e;unfold Uw;rw[hd];dsimp only;split
 ·rename_i y q;rw[q]at e;exact congrArg UT e
 rename_i q;rw[q]at e;have a:es.toList.any (·.refKey)=false:=by
  rw[Tf];intro y hy;obtain⟨z,t,hkey⟩:=hk y (Array.mem_toList_iff.mp hy);simp[DictEntry.refKey,hkey]
 have a':¬ es.toList.any (·.refKey)=true:=by rw[a];exact KL
 rw[if_neg a'];exact congrArg UT e
theorem yL.look{h:O8}{x dx C:OM}{mA:Str->Option ON}(I:yL h x dx C mA):∃od,W.InstAt h x (QB C dx) C (UT od)/\∀name,Uw name od=UT (mA name):=
 let ⟨od,ho,hl⟩:=AI I.ns
 ⟨od,⟨I.obj,rfl,rfl,ho⟩,hl⟩
section
variable{prog:Program}{w:OX}{A:O7}{E:ON->OO->Prop}{s:OO}{K:OQ}{x dx C f:OM}{mA:Str->Option ON}{name:Str}{v:ON}
theorem get_map{expr:Bool}{Q:ON->OO->Prop}(X:K.In s.heap)(I:yL s.heap x dx C mA)(hg:RB K C name=true)(hh:RX K C=true)
  (ha:Pr K (.ref C) name=UT UU) (hv:mA name=UT v) (hv':W.handedIn v=true) (h:Q v { s with toks:=s.toks+1 }) :
  wpAny (OZ prog w) A (getAttr (.ref x) name expr) Q E s:=by
 obtain⟨od,J,hl⟩:=I.look
 exact W.get_value X J (Sz hg).1 (W.findObj_own hh ha rfl (by rw[hl,hv])) hv' h
theorem Cg{pl:Sem Bool}{Q:ON×List ON->OO->Prop}(X:K.In s.heap)(I:yL s.heap x dx C mA)(hg:RB K C name=true)
  (hf:Pr K (.ref C) name=UT (UT (.ref f))) (ht:UQ K (.ref f)=true) (hv:mA name=UU) (h:Q (.ref f,[.ref x]) s) :
  wpAny (OZ prog w) A (Sn (.ref x) name pl) Q E s:=by
 obtain⟨od,J,hl⟩:=I.look
 exact W.method_fn X J (Sz hg).1 (Sz hg).2 hf (beq_iff_eq.mp ht) (by show(Uw name od).map (·.isSome)=UT false;rw[hl,hv];rfl) h
theorem Ec{ns:List Str}{Q:Unit->OO->Prop}(X:K.In s.heap)(I:yL s.heap x dx C mA)
  (hs:Pr K (.ref C) "__setattr__"=UT (UT (.builtin "object.__setattr__"))) (hp:Ug K C=true) (ht:UP K C name=UT UU) (hh:RX K C=true)
  (hw:S9 mA ns) (hsz:ns.length<=sizeLine)
  (h:∀h',yL h' x dx C (λy=>if y=name then UT v else mA y)->QS dx s.heap h'->Q () { s with heap:=h',toks:=s.toks+2 }) :
  wpAny (OZ prog w) A (setAttr (.ref x) name v) Q E s:=by
 obtain⟨od,J,hl⟩:=I.look
 refine W.set_plain X J hs (W.osa_open (s:={ s with toks:=s.toks+1 }) (r:=UU) X J hp ht λb=>?_)
 obtain⟨cd,hc,hd'⟩:=W.any_some hh
 have hx:s.heap.get? x=UT ⟨.ref C,UT dx,.plain,#[]⟩:=I.obj
 refine OP (OT (OP (OP (wpAny_loadPart hx (OP (W.Looks.here (s:={ s with toks:=s.toks+1 }) (W.looks_clsIn X hc) ?_))))))
 rw[hd']
 refine OT (a:=UT dx) (OP (OT (OP ?_)))
 refine wpAny_nsSet1 (s:={ s with toks:=s.toks+1 }) I.ns λh' hn2 hs2=>?_
 obtain⟨oD,esD,epD,hoD,hdD,hcD⟩:=hn2.count (PySem.Within.cons name v hw)
 refine OP (wpAny_lookBehind hoD (by rw[hdD];exact pastItsLine_dict (KS hcD (by rw[Lc];omega))) ?_)
 exact OT (h _ ⟨(hs2.2 _ (Lv I.ne)).trans I.obj,hn2,I.ne⟩ hs2)
theorem BU{R:UR->OO->Prop}{vs:List ON}{kw:List (Str×ON)}(X:K.In s.heap)(hm:TQ K C=true)
  (hi:Pr K (.ref C) "__init__"=UT (UT (.ref f))) (hf:W.typeIn K (.ref f)=UT (.type "function"))
  (h:codeAny (OZ prog w) (A.under (.builtin "type.__call__" ⟨.ref C::vs,kw⟩)) (.call (.ref f) ⟨.ref (s.heap.objs.size+1)::vs,kw⟩) (W.InitBack (s.heap.objs.size+1) R)
   { s with heap:=(s.heap.push P1).push (QB C s.heap.objs.size) }) :
  codeAny (OZ prog w) A (.call (.ref C) ⟨vs,kw⟩) R s:=by
 obtain⟨hh,g,d,t,os⟩:=s
 exact W.make_core (W.makes_of X hm) (W.looks_findIn X hi) (λself=>W.bind_fn X self hf) (.inl rfl) h
end
def cJ(f:Str)(v:V):List (Str×V)->List (Str×V)
 | []=>[(f,v)]
 | (g,x)::r=>if g=f then(g,v)::r else(g,x)::cJ f v r
theorem pQ(f g:Str)(v:V):∀fs:List (Str×V),(cJ f v fs).lookup g=if g=f then UT v else fs.lookup g
 | []=>by
  show Qa g [(f,v)]=_;by_cases h:g=f
  ·have hb:(g==f)=true:=beq_iff_eq.mpr h;simp only[Qa,hb,if_pos h]
  have hb:(g==f)=false:=beq_eq_false_iff_ne.mpr h;simp only[Qa,hb,if_neg h]
 | (k,x)::r=>by
  have ih:=pQ f g v r;rw[show cJ f v ((k,x)::r)=(if k=f then(k,v)::r else(k,x)::cJ f v r)from rfl];by_cases hk:k=f
  ·rw[if_pos hk];by_cases h:g=k
   ·have hb:(g==k)=true:=beq_iff_eq.mpr h;simp only[Qa,hb,if_pos (h.trans hk)]
   have hb:(g==k)=false:=beq_eq_false_iff_ne.mpr h;simp only[Qa,hb,if_neg (λe:g=f=>h (e.trans hk.symm))]
  rw[if_neg hk];by_cases h:g=k
  ·have hb:(g==k)=true:=beq_iff_eq.mpr h;simp only[Qa,hb,if_neg (λe:g=f=>hk (h.symm.trans e))]
  have hb:(g==k)=false:=beq_eq_false_iff_ne.mpr h;simp only[Qa,hb];exact ih
theorem oX(f:Str)(v:V):∀fs:List (Str×V),f∈(cJ f v fs).map (·.1)/\∀g,g∈fs.map (·.1)->g∈(cJ f v fs).map (·.1)
 | []=>⟨by simp[cJ],λg h=>by simp at h⟩
 | (k,x)::r=>by
  obtain⟨i1,i2⟩:=oX f v r;rw[show cJ f v ((k,x)::r)=(if k=f then(k,v)::r else(k,x)::cJ f v r)from rfl];by_cases hk:k=f
  ·rw[if_pos hk];subst hk;exact⟨by simp,λg h=>by simpa using h⟩
  rw[if_neg hk];refine⟨?_,λg h=>?_⟩
  ·rw[KQ];exact Kx _ i1
  rw[KQ]at h⊢;rcases Ku.mp h with e|e
  ·exact Ku.mpr (.inl e)
  exact Kx _ (i2 g e)
theorem pF(f:Str)(v:V):∀fs:List (Str×V),(cJ f v fs).length<=fs.length+1
 | []=>by simp[cJ]
 | (k,x)::r=>by
  have ih:=pF f v r;rw[show cJ f v ((k,x)::r)=(if k=f then(k,v)::r else(k,x)::cJ f v r)from rfl];by_cases hk:k=f
  ·rw[if_pos hk,Lc,Lc];omega
  rw[if_neg hk,Lc,Lc];omega
theorem lC.some_of{v:V}{o:Option ON}(r:lC (UT v) o):∃u,o=UT u/\U2 v u:=by
 cases o with
 |none=>exact(show False from r).elim
 |some u=>exact⟨u,rfl,r⟩
theorem lC.none_of{o:Option ON}(r:lC UU o):o=UU:=by
 cases o with
 |none=>rfl
 |some u=>exact(show False from r).elim
theorem Ax{v:V}{u:ON}(r:U2 v u):W.handedIn u=true:=by
 cases v with
 |non=>cases (show u=SH from r);rfl
 |bl b=>cases (show u=Ru b from r);rfl
 |int i=>obtain⟨t,e⟩:=(show ∃t,u=QT i t from r);cases e;rfl
 |str x=>obtain⟨t,e⟩:=(show ∃t,u=Si x t from r);cases e;rfl
 |byt b=>obtain⟨t,e⟩:=(show ∃t,u=Value.bytes b t from r);cases e;rfl
 |flt b=>obtain⟨t,e⟩:=(show ∃t,u=Ud b t from r);cases e;rfl
 |ref a=>cases (show u=OY a from r);rfl
 |ty n=>cases (show u=QA n from r);rfl
section
variable{P:Program}{w:OX}{H H':Hp}{h h':O8}{a C dx:OM}{fs fs':List (Str×V)}
theorem qh(hok:HOk P w H h)(e:H a=UT (.ins C dx fs)):∃mA,yL h a dx C mA/\(∀f,lC (fs.lookup f) (mA f))/\S9 mA (fs.map (·.1))/\fs.length<=1000/\H dx=UT (.own a):=by
 obtain⟨d,z,ne,ob,mA,n,r,q⟩:=(show dB P w H h a (.ins C dx fs)from hok a _ e);exact⟨mA,⟨ob,n,ne⟩,r,q,z,d⟩
end
structure Cls(K:OQ)(C:OM):Prop where
 pg:RB K C QU=true
 hd:RX K C=true
 po:Ug K C=true
 sa:Pr K (.ref C) "__setattr__"=UT (UT (.builtin "object.__setattr__"))
theorem Cls.get{K:OQ}{C:OM}(c:Cls K C)(f:Str):RB K C f=true:=c.pg
def aH(K:OQ)(C:OM)(f:Str):Prop:=Pr K (.ref C) f=UT UU
theorem aH.IE{K:OQ}{C:OM}{f:Str}(n:aH K C f):UP K C f=UT UU:=by
 unfold UP;rw[show Pr K (.ref C) f=UT UU from n];rfl
structure Con(K:OQ)(C:OM)(f:Str)(v:V)(u:ON):Prop where
 at_:Pr K (.ref C) f=UT (UT u)
 rel:U2 v u
 get:Qp K u "__get__"=UT UU
 cp:W.copiedNames.contains f=false
structure Vm(K:OQ)(C:OM)(m:Str)(f:OM):Prop where
 at_:Pr K (.ref C) m=UT (UT (.ref f))
 fn:UQ K (.ref f)=true
 kp:Qh K (.ref f)=true
section
variable{X:Cx}{pins:List (OM×Obj)}{σ:St}{H:Hp}{s:OO}{a C dx:OM}{fs:List (Str×V)}{f:Str}{v:V}{A:O7}{E:ON->OO->Prop}
theorem qG{b:Bool}{Q:ON->OO->Prop}(I:Inv X pins σ H s)(e:H a=UT (.ins C dx fs))(c:Cls X.K C)(n:aH X.K C f)(l:fs.lookup f=UT v)
  (h:∀u s',Inv X pins σ H s'->U2 v u->Q u s'):wpAny (OZ X.prog X.w) A (getAttr (.ref a) f b) Q E s:=by
 obtain⟨mA,O,r,_,_,_⟩:=qh I.hok e
 obtain⟨u,hu,ru⟩:=lC.some_of (v:=v) (o:=mA f) (by rw[<-l];exact r f)
 exact get_map I.kIn O (c.get f) c.hd n hu (Ax ru) (h u _ (I.tok _) ru)
theorem yS{m:Str}{g:OM}{pl:Sem Bool}{Q:ON×List ON->OO->Prop}(I:Inv X pins σ H s)(e:H a=UT (.ins C dx fs))(c:Cls X.K C)(k:Vm X.K C m g)(l:fs.lookup m=UU)
  (h:Q (.ref g,[.ref a]) s):wpAny (OZ X.prog X.w) A (Sn (.ref a) m pl) Q E s:=by
 obtain⟨mA,O,r,_,_,_⟩:=qh I.hok e
 have hn:mA m=UU:=lC.none_of (by rw[<-l];exact r m)
 exact Cg I.kIn O (c.get m) k.at_ k.fn hn h
theorem rH{y:V}{u:ON}{Q:Unit->OO->Prop}(I:Inv X pins σ H s)(e:H a=UT (.ins C dx fs))(c:Cls X.K C)(n:aH X.K C f)(hl:fs.length<1000)(ry:U2 y u)
  (h:∀s',Inv X pins σ (upd H a (.ins C dx (cJ f y fs))) s'->Q () s'):wpAny (OZ X.prog X.w) A (setAttr (.ref a) f u) Q E s:=by
 obtain⟨mA,O,r,wi,_,ho⟩:=qh I.hok e
 have hz:(fs.map (·.1)).length<=sizeLine:=by rw[Ky,P9];omega
 refine Ec I.kIn O c.sa c.po n.IE c.hd wi hz λh' O' sb=>h _ ?_
 have hd:∃o,h'.get? dx=UT o:=let ⟨o,_,_,e',_⟩:=O'.ns;⟨o,e'⟩
 refine I.write (x:=a) (e:=dx) (by rw[e];exact Lj) (.inr ho) (λb q hb z=>(sb.2 b hb).trans z) hd ?_
 refine⟨by rw[aw O.ne];exact ho,?_,O.ne,O'.obj,_,O'.ns,λg=>?_,λg hg=>?_⟩
 ·have:=pF f y fs;omega
 ·show lC ((cJ f y fs).lookup g) (if g=f then UT u else mA g);rw[pQ];by_cases q:g=f
  ·rw[if_pos q,if_pos q];exact ry
  rw[if_neg q,if_neg q];exact r g
 by_cases q:g=f
 ·rw[q];exact(oX f y fs).1
 refine(oX f y fs).2 g (wi g λz=>hg ?_)
 show(if g=f then UT u else mA g)=UU
 rw[if_neg q];exact z
theorem Inv.made(I:Inv X pins σ H s):Inv X pins σ (upd (upd H s.heap.objs.size (.own (s.heap.objs.size+1))) (s.heap.objs.size+1) (.ins C s.heap.objs.size []))
  { s with heap:=(s.heap.push P1).push (QB C s.heap.objs.size) }:=by
 have e1:(s.heap.push P1).get? s.heap.objs.size=UT P1:=O3 s.heap rfl
 have e2:((s.heap.push P1).push (QB C s.heap.objs.size)).get? (s.heap.objs.size+1)=UT (QB C s.heap.objs.size):=by
  have:=O3 (s.heap.push P1) (o:=QB C s.heap.objs.size) rfl;rwa [PL]at this
 have e3:(s.heap.push P1).Ns s.heap.objs.size (λ_=>UU):=⟨P1,#[],_,e1,rfl,(λe he=>absurd he (by simp)),λ_=>rfl⟩
 have I1:=I.laid (a:=s.heap.objs.size) (o:=.own (s.heap.objs.size+1)) (h':=s.heap.push P1) (t':=s.toks) (λb u q=>OR _ q) (KI _) ⟨_,e1⟩
 refine I1.laid (a:=s.heap.objs.size+1) (o:=.ins C s.heap.objs.size []) (t':=s.toks) (λb u q=>OR _ q) (Nt (PL _ _)) ?_
 have ne:s.heap.objs.size≠s.heap.objs.size+1:=Lp (Mi _)
 refine⟨by rw[aw ne,ak],KY _,ne,e2,λ_=>UU,(Heap.Ns1.of_empty e3).at λo q=>OR _ q,λ_=>Lj,λy hy=>absurd rfl hy⟩
theorem EH{prog:Program}{w:OX}{env:Env}{e:Expr}{f:Str}{pos:Pos}{s:OO}{Q:ON->OO->Prop}(hb:PH e f env (Pn e env)=Pn e env)
  (h:wpAny (OZ prog w) A (Pn e env) (λo s₁=>wpAny (OZ prog w) A (getAttr o f true) Q E s₁) E s):wpAny (OZ prog w) A (Pn (.Attribute e f pos) env) Q E s:=
 Attribute_any_ h (by rw[arm_eval_Attribute,hb])
end
inductive GJ(K:OQ)(f:Str)(x:V)(H:Hp)(Q:VK):Prop
 |mk(a C dx:OM)(fs:List (Str×V))(v:V)(h0:x=.ref a)(h1:H a=UT (.ins C dx fs))(h2:Cls K C)(h3:aH K C f)(h4:fs.lookup f=UT v)(q:Q v H):GJ K f x H Q
def JX(K:OQ)(ta:TE)(f:Str):TE:=λσ H Q=>ta σ H λx H1=>GJ K f x H1 Q
inductive IK(K:OQ)(f:Str)(y x:V)(H:Hp)(Q:Hp->Prop):Prop
 |mk(a C dx:OM)(fs:List (Str×V))(h0:x=.ref a)(h1:H a=UT (.ins C dx fs))(h2:Cls K C)(h3:aH K C f)(h4:fs.length<1000)(q:Q (upd H a (.ins C dx (cJ f y fs)))):IK K f y x H Q
def Ke(K:OQ)(ta tv:TE)(f:Str):TS:=λD σ H=>tv σ H λy H1=>ta σ H1 λx H2=>IK K f y x H2 (D.nx σ)
def Jx(X:Cx)(op:Ta)(rd:V->V->Hp->VK->Prop):Prop:=
 ∀(pins:List (OM×Obj))(s:OO)(σ:St)(H:Hp)(x y:V)(u v:ON)(Q:VK),Inv X pins σ H s->U2 x u->U2 y v->rd x y H Q->wpAny (OZ X.prog X.w) X.A (UO op u v) (EP X pins σ Q) X.xe s
def Eg(K:OQ)(ta tv:TE)(rd:V->V->Hp->VK->Prop)(f:Str):TS:=λD σ H=>ta σ H λx H1=>∃a C dx fs v,x=.ref a/\H1 a=UT (.ins C dx fs)/\Cls K C/\aH K C f/\fs.lookup f=UT v/\
 tv σ H1 λy H2=>rd v y H2 λz H3=>∃dx' fs',H3 a=UT (.ins C dx' fs')/\fs'.length<1000/\D.nx σ (upd H3 a (.ins C dx' (cJ f z fs')))
section
variable{X:Cx}{o e value:Expr}{f:Str}{pos pos' tpos:Pos}{ta tv:TE}
theorem aI(he:PE X e ta)(hb:PH e f X.env (Pn e X.env)=Pn e X.env):PE X (.Attribute e f pos) (JX X.K ta f):=by
 intro pins s σ H Q I h;refine EH hb (thn (he pins s σ H _ I h) λu s1 ⟨x,H1,I1,rx,a,C,dx,fs,v,ex,ea,c,n,l,q⟩=>?_);subst ex;obtain rfl:u=OY a:=rx;exact qG I1 ea c n l λu' s2 I2 ru=>⟨v,H1,I2,ru,q⟩
theorem ba(ha:PE X o ta)(hv:PE X value tv)(hs:Sm value (UT (.Attribute o f pos')) pos.line X.env=pure false):PS X (.Assign [.Attribute o f pos'] value pos) (Ke X.K ta tv f):=by
 intro pins s σ H D I h;refine plainObj_wpAny_Assign_Attribute (thn (hv pins s σ H _ I h) λu s1 ⟨y,H1,I1,ry,q⟩=>thn (ha pins s1 σ H1 _ I1 q) λov s2 ⟨x,H2,I2,rx,a,C,dx,fs,ex,ea,c,n,l,q2⟩=>?_) hs;subst ex;obtain rfl:ov=OY a:=rx;exact rH I2 ea c n l ry λs3 I3=>⟨σ,_,I3,q2⟩
theorem A7{op:Ta}{rd:V->V->Hp->VK->Prop}(ha:PE X o ta)(hv:PE X value tv)(hop:Jx X op rd):PS X (.AugAssign (.Attribute o f tpos) op value pos) (Eg X.K ta tv rd f):=by
 intro pins s σ H D I h;refine wpAny_AugAssign_AttributeAny (thn (ha pins s σ H _ I h) λov s1 ⟨x,H1,I1,rx,a,C,dx,fs,v,ex,ea,c,n,l,q⟩=>?_);subst ex;obtain rfl:ov=OY a:=rx;refine qG I1 ea c n l λu s2 I2 ru=>thn (hv pins s2 σ H1 _ I2 q) λw3 s3 ⟨y,H2,I3,ry,q3⟩=>thn (hop pins s3 σ H2 v y u w3 _ I3 ru ry q3) λw4 s4 ⟨z,H3,I4,rz,dx',fs',ea',l',q4⟩=>?_;exact rH I4 ea' c n l' rz λs5 I5=>⟨σ,_,I5,q4⟩
def Ko:V->V->Hp->VK->Prop:=λx y H Q=>∃i j,x=.int i/\y=.int j/\Q (.int (i+j)) H
theorem Gh:Jx X .Add Ko:=by
 rintro pins s σ H x y u v Q I rx ry ⟨i,j,rfl,rfl,q⟩;obtain⟨t,rfl⟩:=(show ∃t,u=QT i t from rx);obtain⟨t',rfl⟩:=(show ∃t',v=QT j t' from ry);exact PyProof.Rows.iadd_int ⟨.int (i+j),H,I.tok _,⟨_,rfl⟩,q⟩
end
section
variable{X:Cx}{pins:List (OM×Obj)}{σ:St}{H:Hp}{s:OO}{A:O7}{E:ON->OO->Prop}{Q:ON->OO->Prop}{c:ON}{b:Bool}
inductive mh(K:OQ)(H:Hp):V->ON->Prop where
 |non:mh K H .non (.type "NoneType")
 |bl (x:Bool):mh K H (.bl x) (.type "bool")
 |int (i:Int):mh K H (.int i) (.type "int")
 |str (x:Str):mh K H (.str x) (.type "str")
 |flt (x:UInt64):mh K H (.flt x) (.type "float")
 |lst {a:OM}{xs:List V} (e:H a=UT (.lst xs)):mh K H (.ref a) (.type "list")
 |frz {a:OM}{o:Obj}{xs:List V} (e:H a=UT (.frz o (.lst xs))):mh K H (.ref a) (.type "list")
 |tup {a:OM}{xs:List V} (e:H a=UT (.tup xs)):mh K H (.ref a) (.type "tuple")
 |dK {a:OM}{kvs:List (Key×V)} (e:H a=UT (.dK kvs)):mh K H (.ref a) (.type "dict")
 |dT {a:OM}{kvs:List (List Key×V)} (e:H a=UT (.dT kvs)):mh K H (.ref a) (.type "dict")
 |ins {a C dx:OM}{fs:List (Str×V)} (e:H a=UT (.ins C dx fs)) (cl:Cls K C) (ha:Pr K (.ref C) "__class__"=UT (UT (.builtin "object.__class__")))
   (hn:Qp K (.builtin "object.__class__") "__get__"=UT (UT (.builtin "getset_descriptor.__get__"))) (htk:TU K (.builtin "object.__class__")=UT true)
   (hm:US K C (.type "object")=UT true):mh K H (.ref a) (.ref C)
theorem AU{x:V}{u t:ON}(I:Inv X pins σ H s)(rx:U2 x u)(ty:mh X.K H x t)(e:Pu X.K t c=UT b)(h:∀tk,Q (.bool b) { s with toks:=tk }) :
  wpAny (OZ X.prog X.w) A (call (.builtin "isinstance") [u,c]) Q E s:=by
 cases ty with
 |non=>cases (show u=SH from rx);exact P5 W.kitx_none I.kIn Lj e (λz=>nomatch z) h
 |bl y=>cases (show u=Ru y from rx);exact P5 W.kitx_bool I.kIn Lj e (λz=>nomatch z) h
 |int i=>obtain⟨t,q⟩:=(show ∃t,u=QT i t from rx);cases q;exact P5 W.kitx_int I.kIn Lj e (λz=>nomatch z) h
 |str y=>obtain⟨t,q⟩:=(show ∃t,u=Si y t from rx);cases q;exact P5 W.kitx_str I.kIn Lj e (λz=>nomatch z) h
 |flt y=>obtain⟨t,q⟩:=(show ∃t,u=Ud y t from rx);cases q;exact P5 W.kitx_float I.kIn Lj e (λz=>nomatch z) h
 |@lst a xs ea=>
  cases (show u=OY a from rx)
  obtain⟨_,_,n,_,h1⟩:=(show dB X.prog X.w H s.heap a (.lst xs)from I.hok a _ ea)
  exact P5 W.kitx_list I.kIn ⟨_,h1,rfl⟩ e (λz=>nomatch z) h
 |@frz a ob xs ea=>
  cases (show u=OY a from rx)
  obtain⟨_,_,_,n,_,h1⟩:=(show dB X.prog X.w H s.heap a (.frz ob (.lst xs))from I.hok a _ ea)
  exact P5 W.kitx_list I.kIn ⟨_,h1,rfl⟩ e (λz=>nomatch z) h
 |@tup a xs ea=>
  cases (show u=OY a from rx)
  obtain⟨_,_,_,p⟩:=(show dB X.prog X.w H s.heap a (.tup xs)from I.hok a _ ea)
  obtain⟨o,h1,h2,_⟩:=p
  exact P5 W.kitx_tuple I.kIn ⟨o,h1,h2⟩ e (λz=>nomatch z) h
 |@dK a kvs ea=>
  cases (show u=OY a from rx)
  obtain⟨_,_,vs,_,p⟩:=(show dB X.prog X.w H s.heap a (.dK kvs)from I.hok a _ ea)
  obtain⟨o,es,ep,h1,h2,_⟩:=p
  exact P5 W.kitx_dict I.kIn ⟨o,h1,h2.1⟩ e (λz=>nomatch z) h
 |@dT a kvs ea=>
  cases (show u=OY a from rx)
  obtain⟨_,_,xs,_,o,es,ep,h1,h2,_⟩:=(show dB X.prog X.w H s.heap a (.dT kvs)from I.hok a _ ea)
  exact P5 W.kitx_dict I.kIn ⟨o,h1,h2.1⟩ e (λz=>nomatch z) h
 |@ins a C dx fs ea cl ha hn htk hm=>
  cases (show u=OY a from rx)
  obtain⟨mA,O,_⟩:=qh I.hok ea
  obtain⟨od,J,_⟩:=O.look
  exact P5 (W.kitx_own (cl.get _) cl.hd ha hn htk hm) I.kIn J e (λz=>nomatch z) h
end
structure fi(k:Nat)(A:O7):Prop where
 hd:A.handled=UU
 dp:A.depth+3*k+5<Ux
 un:A.units+16*k+200<PJ
theorem fi.mono{j k:Nat}{A:O7}(r:fi k A)(h:j<=k):fi j A:=⟨r.hd,by have:=r.dp;omega,by have:=r.un;omega⟩
theorem fi.deeper{k:Nat}{A:O7}(r:fi (k+1) A)(env:Env):fi k (A.deeper env):=
 ⟨r.hd,by have:=r.dp;show A.depth+1+3*k+5<_;omega,by have:=r.un;show A.units+3+16*k+200<_;omega⟩
theorem yu{A:O7}{C:OM}{us:List ON}{kw:List (Str×ON)}:(A.under (.builtin "type.__call__" ⟨.ref C::us,kw⟩)).depth=A.depth+1:=by
 first|rfl|simp[Tg,Code.weight,Code.isCreation,Code.isGuard,Code.isCaller,Code.frames,Ti,guardIds]
theorem yn{A:O7}{C:OM}{us:List ON}{kw:List (Str×ON)}:(A.under (.builtin "type.__call__" ⟨.ref C::us,kw⟩)).units=A.units+1:=by
 first|rfl|simp[Tg,Code.cUnits,Code.frames,Ti]
theorem fi.make{k:Nat}{A:O7}(r:fi (k+1) A)(C:OM)(us:List ON)(kw:List (Str×ON)):fi k (A.under (.builtin "type.__call__" ⟨.ref C::us,kw⟩)):=
 ⟨r.hd,by have:=r.dp;rw[yu];omega,by have:=r.un;rw[yn];omega⟩
theorem fi.depth{k:Nat}{A:O7}(r:fi k A):A.depth<Ux:=by have:=r.dp;omega
theorem fi.units{k:Nat}{A:O7}(r:fi k A):A.units+64<PJ:=by have:=r.un;omega
def DN:TA:=λ_ H Q=>Q [] H
def Fn(ta:TE)(tr:TA):TA:=λσ H Q=>ta σ H λx H1=>tr σ H1 λxs H2=>Q (x::xs) H2
section
variable{X:Cx}{e:Expr}{es:List Expr}{te:TE}{t:TA}{pos:Pos}
theorem af:PA X [] DN:=λ_ _ _ _ H Q I h=>Tn ⟨[],H,I,.nil,h⟩
theorem aa(ha:PE X e te)(hr:PA X es t)(hs:OV (e::es) X.env=(false,Pn e X.env)::OV es X.env:=by rfl):PA X (e::es) (Fn te t):=by
 intro pos pins s σ H Q I h;rw[hs];show wpAny _ _ (spliced ((false,Pn e X.env)::Pw pos (OV es X.env))) _ _ s;refine SI (thn (ha pins s σ H _ I h) λu s1 ⟨x,H1,I1,r1,q1⟩=>?_);exact thn (hr pos pins s1 σ H1 _ I1 q1) λus s2 ⟨xs,H2,I2,r2,q2⟩=>⟨x::xs,H2,I2,.cons r1 r2,q2⟩
def Kn(t:TA):TE:=λσ H Q=>t σ H λxs H1=>xs.length<=sizeLine/\∀p,H1 p=UU->Q (.ref p) (upd H1 p (.tup xs))
def Ks(t:TA):TE:=λσ H Q=>t σ H λxs H1=>xs.length<=sizeLine/\∀p,H1 p=UU->Q (.ref p) (upd H1 p (.lst xs))
theorem bb{x1}(h:PA X es t):PE X (.Tuple es x1 pos) (Kn t):=by
 intro pins s σ H Q I hq;refine wpAny_Tuple_spliced (thn (h pos pins s σ H _ I hq) λus s1 ⟨xs,H1,I1,r,z,q⟩=>⟨by rw[<-r.length];exact z,?_⟩);have hf:H1 s1.heap.objs.size=UU:=I1.hok.fresh (KI _);refine⟨.ref s1.heap.objs.size,upd H1 s1.heap.objs.size (.tup xs),I1.laid (t':=s1.toks) (λb u e=>OR _ e) (KI _) ?_,rfl,q _ hf⟩;exact⟨z,us,r,⟨_,O3 _ rfl,rfl,_,rfl⟩⟩
theorem bR(h:PA X es t):PE X (.List es pos) (Ks t):=by
 intro pins s σ H Q I hq;refine wpAny_List_spliced (thn (h pos pins s σ H _ I hq) λus s1 ⟨xs,H1,I1,r,z,q⟩=>⟨by rw[<-r.length];exact z,?_⟩);have hf:H1 s1.heap.objs.size=UU:=I1.hok.fresh (KI _);refine⟨.ref s1.heap.objs.size,upd H1 s1.heap.objs.size (.lst xs),I1.laid (t':=s1.toks) (λb u e=>OR _ e) (KI _) ?_,rfl,q _ hf⟩;exact⟨z,us,0,r,O3 _ rfl⟩
end
abbrev Sp:=List V->Hp->VK->XK->Prop
abbrev CXT:=List Env->Hp->OO->XK->ON->OO->Prop
structure xJ(P:Program)(w:OX)(K:OQ)(mg:Str->Option ON)(base:O8)(A:O7)(outer:List Env)(s:OO)(H:Hp):Prop where
 frames:A.frames=UT outer
 mod:Mod K mg base
 bs:∀b o,base.get? b=UT o->s.heap.get? b=UT o/\H b=UU
 bsz:base.objs.size<=s.heap.objs.size
 p6:s.heap.FunFrames base outer
 frf:∀b∈frs outer,H b=UU
 hok:HOk P w H s.heap
 bare:Q6 s.gens
def CE(outer:List Env)(P:Program)(w:OX)(H:Hp)(s:OO)(Q:VK)(u:ON)(s':OO):Prop:=
 ∃v H',s'.os=s.os/\Q6 s'.gens/\Un (frs outer) [] H H' s.heap s'.heap/\HOk P w H' s'.heap/\U2 v u/\Q v H'
def CR(CX:CXT)(outer:List Env)(P:Program)(w:OX)(H:Hp)(s:OO)(Q:VK)(E:XK)(r:UR)(s':OO):Prop:=
 match r with
 | .ok (.ret u)=>CE outer P w H s Q u s'
 | .ok _=>False
 | .error e=>CX outer H s E e s'
structure kP(P:Program)(w:OX)(K:OQ)(mg:Str->Option ON)(base:O8)(CX:CXT)(k:Nat)(f:OM)(fd:PV)(ps:List Str)(sp:Sp):Prop where
 len:∀vs H Q E,sp vs H Q E->vs.length=ps.length
 run:∀(A:O7)(outer:List Env)(s:OO)(H:Hp)(args:Args)(us:List ON)(vs:List V)(Q:VK)(E:XK),fi k A->xJ P w K mg base A outer s H->So s fd args (ps.zip us)->U1 vs us->sp vs H Q E->
  codeAny (OZ P w) A (.call (.ref f) args) (CR CX outer P w H s Q E) s
theorem kP.imp{P:Program}{w:OX}{K:OQ}{mg:Str->Option ON}{base:O8}{CX:CXT}{k:Nat}{f:OM}{fd:PV}{ps:List Str}{sp sp':Sp}(F:kP P w K mg base CX k f fd ps sp)
  (h:∀vs H Q E,sp' vs H Q E->sp vs H Q E):kP P w K mg base CX k f fd ps sp':=
 ⟨λvs H Q E q=>F.len vs H Q E (h _ _ _ _ q),λA outer s H args us vs Q E hr he hb hv hs=>F.run A outer s H args us vs Q E hr he hb hv (h _ _ _ _ hs)⟩
theorem xJ.make{P:Program}{w:OX}{K:OQ}{mg:Str->Option ON}{base:O8}{A:O7}{outer:List Env}{s:OO}{H:Hp}(e:xJ P w K mg base A outer s H)(C:OM)(us:List ON)(kw:List (Str×ON)) :
  xJ P w K mg base (A.under (.builtin "type.__call__" ⟨.ref C::us,kw⟩)) outer s H:=⟨by first|exact e.frames|(simpa [Tg,Code.envs,Ti,pushEnvs] using e.frames),e.mod,e.bs,e.bsz,e.p6,e.frf,e.hok,e.bare⟩
section
variable{X:Cx}{pins:List (OM×Obj)}{σ:St}{H:Hp}{s s':OO}
theorem Inv.BF(I:Inv X pins σ H s):xJ X.prog X.w X.K X.mg X.base X.A X.stack s H:=
 ⟨I.ok.frames,I.ok.mod,I.bs,KS I.ok.bsz I.sz,I.stack,I.zx,I.hok,I.bare⟩
theorem Inv.after{Q:VK}{u:ON}(I:Inv X pins σ H s)(h:CE X.stack X.prog X.w H s Q u s'):EP X pins σ Q u s':=by
 obtain⟨v,H',os,bare,un,hok,r,q⟩:=h;obtain⟨hh,g,d,t,os'⟩:=s';obtain rfl:os'=s.os:=os;exact⟨v,H',I.call (h':=hh) (g':=g) (d':=d) (t':=t) (ch:=[]) un hok bare (λb z=>absurd z (by simp)),r,q⟩
end
def C9(sp:Sp)(dvs:List V)(E:XK)(t:TA):TE:=λσ H Q=>t σ H λvs H1=>sp (vs++dvs) H1 Q E
inductive Ii(C:OM)(m:Str)(x:V)(H:Hp)(R:Prop):Prop
 |mk(a dx:OM)(fs:List (Str×V))(h0:x=.ref a)(h1:H a=UT (.ins C dx fs))(h2:fs.lookup m=UU)(q:R):Ii C m x H R
def Fj(C:OM)(m:Str)(sp:Sp)(dvs:List V)(E:XK)(ta:TE)(t:TA):TE:=λσ H Q=>ta σ H λx H1=>Ii C m x H1 (t σ H1 λvs H2=>sp (x::(vs++dvs)) H2 Q E)
def Ae(C:OM)(sp:Sp)(dvs:List V)(E:XK)(t:TA):TE:=λσ H Q=>t σ H λvs H1=>∀x dx,H1 x=UU->H1 dx=UU->dx≠x->
 sp (.ref x::(vs++dvs)) (upd (upd H1 dx (.own x)) x (.ins C dx [])) (λv H2=>v=.non/\Q (.ref x) H2) E
def U5(K:OQ)(fd:PV)(ps:List Str)(ds:List ON):Prop:=
 ∀(s:OO)(us:List ON),K.In s.heap->(us++ds).length=ps.length->So s fd ⟨us,[]⟩ (ps.zip (us++ds))
theorem U5.all{K:OQ}{fd:PV}{ps:List Str}(h:∀us:List ON,us.length=ps.length->RY fd ⟨us,[]⟩=pure (ps.zip us)):U5 K fd ps []:=λs us _ hl=>by
 rw[Lx]at hl⊢;exact .of_eq (h us hl)
def U8(CX:CXT)(X:Cx)(E:XK):Prop:=∀(pins:List (OM×Obj))(σ:St)(H:Hp)(s:OO)(e:ON)(s':OO),Inv X pins σ H s->CX X.stack H s E e s'->X.xe e s'
section
variable{X:Cx}{CX:CXT}{k:Nat}{f C:OM}{fd:PV}{ps:List Str}{sp:Sp}{dvs:List V}{ds:List ON}{E:XK}{x m:Str}{p pos apos:Pos}{e o:Expr}{es:List Expr}{ta:TE}{t:TA}
theorem xQ{pins:List (OM×Obj)}{σ:St}{H:Hp}{s:OO}{Q:VK}{us:List ON}{vs:List V}(F:kP X.prog X.w X.K X.mg X.base CX k f fd ps sp)(hr:fi k X.A)(hb:U5 X.K fd ps ds)(hd:U1 dvs ds)(hx:U8 CX X E)
  (I:Inv X pins σ H s) (r:U1 vs us) (h:sp (vs++dvs) H Q E):wpAny (OZ X.prog X.w) X.A (call (.ref f) us) (EP X pins σ Q) X.xe s:=by
 have r2:U1 (vs++dvs) (us++ds):=r.append hd
 have hl:(us++ds).length=ps.length:=by rw[<-r2.length];exact F.len _ _ _ _ h
 refine wpAny_call (RC (F.run X.A X.stack s H ⟨us,[]⟩ (us++ds) (vs++dvs) Q E hr I.BF (hb s us I.kIn hl) r2 h) λr s' hq=>?_)
 cases r with
 |error e=>exact hx pins σ H s e s' I hq
 |ok fl=>
  cases fl with
  |ret u=>exact I.after hq
  |next=>exact PB hq
  |brk=>exact PB hq
  |cont=>exact PB hq
theorem DZ(F:kP X.prog X.w X.K X.mg X.base CX k f fd ps sp)(hr:fi k X.A)(hg:Gl X x)(hm:X.mg x=UT (.ref f))(hk:Qh X.K (.ref f)=true)(hb:U5 X.K fd ps ds)(hd:U1 dvs ds)(hx:U8 CX X E)
  (ha:PA X (e::es) t) (hdb:(x==("__debug__":Str))=false:=by decide) (he:OV (e::es) X.env=(false,Pn e X.env)::OV es X.env:=by rfl) (hpl:(Pw pos (OV es X.env)).any (·.1)=false:=by rfl) :
  PE X (.Call (.Name x p) (e::es) [] pos) (C9 sp dvs E t):=by
 intro pins s σ H Q I h
 refine P4 (oO I hg hm ?_ hdb)
 refine To (h₀:=X.base) I.ok.mod.kin hk (thn (ha pos pins s σ H _ I h) λus s1 ⟨vs,H1,I1,r,q⟩=>⟨I1.kIn,?_⟩) he hpl
 exact xQ F hr hb hd hx I1 r q
theorem EO{pl:Sem Bool}(he:PE X o ta)(c:Cls X.K C)(hm:Vm X.K C m f)(F:kP X.prog X.w X.K X.mg X.base CX k f fd ps sp)(hr:fi k X.A)(hb:U5 X.K fd ps ds)(hd:U1 dvs ds)(hx:U8 CX X E)(ha:PA X (e::es) t)
  (hst:OV (e::es) X.env=(false,Pn e X.env)::OV es X.env:=by rfl) (hpl:(Pw pos (OV es X.env)).any (·.1)=false:=by rfl)
  (ht:Pn (.Call (.Attribute o m apos) (e::es) [] pos) X.env=(do
   let ov<-Pn o X.env
   Te apos.atName
   let (f,first)<-Ql [ov] (Sn ov m pl)
   callWith pos f first (Pw pos (OV (e::es) X.env)) (QZ pos (Qb [] X.env))):=by rfl) :
  PE X (.Call (.Attribute o m apos) (e::es) [] pos) (Fj C m sp dvs E ta t):=by
 intro pins s σ H Q I h
 refine W.methodCall_KW (pl:=pl) (thn (he pins s σ H _ I h) λu s1 ⟨x,H1,I1,rx,a,dx,fs,ex,ea,l,q⟩=>?_) ht
 subst ex
 obtain rfl:u=OY a:=rx
 refine yS I1 ea c hm l ?_
 refine To (first:=[.ref a]) (h₀:=X.base) I.ok.mod.kin hm.kp (thn (ha pos pins s1 σ H1 _ I1 q) λus s2 ⟨vs,H2,I2,r,q2⟩=>⟨I2.kIn,?_⟩) hst hpl
 exact xQ (us:=.ref a::us) (vs:=.ref a::vs) F hr hb hd hx I2 (.cons rfl r) q2
structure Mk(K:OQ)(C f:OM):Prop where
 makes:TQ K C=true
 init:Pr K (.ref C) "__init__"=UT (UT (.ref f))
 fn:UQ K (.ref f)=true
 kp:Qh K (.ref C)=true
theorem xr{pins:List (OM×Obj)}{σ:St}{H:Hp}{s:OO}{Q:VK}{us:List ON}{vs:List V}(M:Mk X.K C f)(F:kP X.prog X.w X.K X.mg X.base CX k f fd ps sp)(hr:fi (k+1) X.A)(hb:U5 X.K fd ps ds)(hd:U1 dvs ds)
  (hx:U8 CX X E) (I:Inv X pins σ H s) (r:U1 vs us)
  (h:∀x dx,H x=UU->H dx=UU->dx≠x->sp (.ref x::(vs++dvs)) (upd (upd H dx (.own x)) x (.ins C dx [])) (λv H2=>v=.non/\Q (.ref x) H2) E) :
  wpAny (OZ X.prog X.w) X.A (call (.ref C) us) (EP X pins σ Q) X.xe s:=by
 have hq:=h (s.heap.objs.size+1) s.heap.objs.size (I.hok.fresh (Np _)) (I.hok.fresh (KI _)) (Lp (Mi _))
 have I2:=Inv.made (C:=C) I
 have r2:U1 (V.ref (s.heap.objs.size+1)::(vs++dvs)) (OY (s.heap.objs.size+1)::(us++ds)):=.cons rfl (r.append hd)
 have hl:(OY (s.heap.objs.size+1)::us++ds).length=ps.length:=by
  have e:=r2.length;rw[F.len _ _ _ _ hq]at e;exact e.symm
 refine wpAny_call (BU (f:=f) I.kIn M.makes M.init (beq_iff_eq.mp M.fn) (RC (F.run _ X.stack _ _ ⟨OY (s.heap.objs.size+1)::us,[]⟩ (OY (s.heap.objs.size+1)::(us++ds)) _ _ E (hr.make C us [])
  (I2.BF.make C us []) (hb _ (OY (s.heap.objs.size+1)::us) I2.kIn hl) r2 hq) λr s' hq'=>?_))
 cases r with
 |error e=>exact hx pins σ _ _ e s' I2 hq'
 |ok fl=>
  cases fl with
  |ret u=>
   obtain⟨v,H',I3,rv,ev,q3⟩:=I2.after hq'
   subst ev
   exact⟨rv,⟨V.ref (s.heap.objs.size+1),H',I3,rfl,q3⟩⟩
  |next=>exact PB hq'
  |brk=>exact PB hq'
  |cont=>exact PB hq'
theorem DF(M:Mk X.K C f)(F:kP X.prog X.w X.K X.mg X.base CX k f fd ps sp)(hr:fi (k+1) X.A)(hg:Gl X x)(hm:X.mg x=UT (.ref C))(hb:U5 X.K fd ps ds)(hd:U1 dvs ds)(hx:U8 CX X E)
  (ha:PA X (e::es) t) (hdb:(x==("__debug__":Str))=false:=by decide) (he:OV (e::es) X.env=(false,Pn e X.env)::OV es X.env:=by rfl) (hpl:(Pw pos (OV es X.env)).any (·.1)=false:=by rfl) :
  PE X (.Call (.Name x p) (e::es) [] pos) (Ae C sp dvs E t):=by
 intro pins s σ H Q I h
 refine P4 (oO I hg hm ?_ hdb)
 refine To (h₀:=X.base) I.ok.mod.kin M.kp (thn (ha pos pins s σ H _ I h) λus s1 ⟨vs,H1,I1,r,q⟩=>⟨I1.kIn,?_⟩) he hpl
 exact xr M F hr hb hd hx I1 r q
theorem CJ(M:Mk X.K C f)(F:kP X.prog X.w X.K X.mg X.base CX k f fd ps sp)(hr:fi (k+1) X.A)(hg:Gl X x)(hm:X.mg x=UT (.ref C))(hb:U5 X.K fd ps ds)(hd:U1 dvs ds)(hx:U8 CX X E)
  (hdb:(x==("__debug__":Str))=false:=by decide):PE X (.Call (.Name x p) [] [] pos) (Ae C sp dvs E DN):=by
 intro pins s σ H Q I h
 refine P4 (oO I hg hm ?_ hdb)
 exact W.callWith_K0 I.kIn M.kp (xr (us:=[]) M F hr hb hd hx I .nil h)
end
section
variable{X:Cx}{CX:CXT}{k:Nat}{f C:OM}{fd:PV}{ps ks:List Str}{sp:Sp}{E:XK}{x m:Str}{p pos apos kpos:Pos}{e o:Expr}{es:List Expr}{kws:List QH}{te ta:TE}{t tk:TA}{nm:Option Str}
structure KBinds(K:OQ)(fd:PV)(ps ks:List Str)(g:List ON->List ON->List ON)(gV:List V->List V->List V):Prop where
 to:∀(s:OO)(us ws:List ON),K.In s.heap->(g us ws).length=ps.length->So s fd ⟨us,ks.zip ws⟩ (ps.zip (g us ws))
 rel:∀{vs:List V}{us:List ON}{zs:List V}{ws:List ON},U1 vs us->U1 zs ws->U1 (gV vs zs) (g us ws)
variable{g:List ON->List ON->List ON}{gV:List V->List V->List V}
end
structure ay(N P:List Str)(sc:Qo):Prop where
 kind:sc.kind=.function
 co:sc.isCoroutine=false
 gen:sc.isGenerator=false
 nd:N.Nodup
 pre:N.take P.length=P
 par:∀x∈P,sc.names.lookup x=UT .local\/sc.names.lookup x=UT .cell
 G5:∀y∈sc.names,y.2≠ .free
theorem tT{kindOf:Str->Option PY}{x:Str}:∀{binds:List (Str×ON)}{m:Str->Option ON},(∀v,(x,v)∉binds)->Uy kindOf binds m x=m x
 | [],_,_=>rfl
 | (n,v)::r,m,h=>by
  unfold Uy;rw[tT λw hw=>h w (Kx _ hw)];split
  ·have:x≠n:=by rintro rfl;exact h v Kv
   simp[this]
  rfl
theorem tJ{kindOf:Str->Option PY}{x:Str}:∀{binds:List (Str×ON)}{m:Str->Option ON},(∀v,(x,v)∉binds)->Uz kindOf binds m x=m x
 | [],_,_=>rfl
 | (n,v)::r,m,h=>by
  unfold Uz;rw[tJ λw hw=>h w (Kx _ hw)];split
  ·rfl
  have:x≠n:=by rintro rfl;exact h v Kv
  simp[this]
theorem tN{kindOf:Str->Option PY}{x:Str}{v:ON}:∀{P:List Str}{vs:List ON}{i:Nat}{m:Str->Option ON},P.Nodup->P[i]?=UT x->vs[i]?=UT v->kindOf x=UT .local->
  Uy kindOf (P.zip vs) m x=UT v
 | [],_,_,_,_,h,_,_=>by simp at h
 |_::_,[],_,_,_,_,h,_=>by simp at h
 |p::P,w::vs,0,m,nd,h1,h2,hk=>by
  simp at h1 h2;subst h1;subst h2;show Uy kindOf ((p,w)::P.zip vs) m p=_;unfold Uy;rw[tT λv hv=>(KW.mp nd).1 (Nm hv).1,if_pos hk];simp
 |p::P,w::vs,i+1,m,nd,h1,h2,hk=>by
  show Uy kindOf ((p,w)::P.zip vs) m x=_;unfold Uy;exact tN (i:=i) (KW.mp nd).2 (by simpa using h1) (by simpa using h2) hk
theorem sT{kindOf:Str->Option PY}{x:Str}{v:ON}:∀{P:List Str}{vs:List ON}{i:Nat}{m:Str->Option ON},P.Nodup->P[i]?=UT x->vs[i]?=UT v->kindOf x≠UT .local->
  Uz kindOf (P.zip vs) m x=UT v
 | [],_,_,_,_,h,_,_=>by simp at h
 |_::_,[],_,_,_,_,h,_=>by simp at h
 |p::P,w::vs,0,m,nd,h1,h2,hk=>by
  simp at h1 h2;subst h1;subst h2;show Uz kindOf ((p,w)::P.zip vs) m p=_;unfold Uz;rw[tJ λv hv=>(KW.mp nd).1 (Nm hv).1,if_neg hk];simp
 |p::P,w::vs,i+1,m,nd,h1,h2,hk=>by
  show Uz kindOf ((p,w)::P.zip vs) m x=_;unfold Uz;exact sT (i:=i) (KW.mp nd).2 (by simpa using h1) (by simpa using h2) hk
def U9(N:List Str)(vs:List V):St:=vs.map UT++O0 (N.length-vs.length) UU
def vZ(CX:CXT)(P:Program)(w:OX)(K:OQ)(mg:Str->Option ON)(base:O8)(N:List Str)(qual:Str)(scope:Qo)(f:OM)(cd:ON)(A:O7)(outer:List Env)(s:OO)(H:Hp)(E:XK):Cx where
 prog:=P
 w:=w
 K:=K
 mg:=mg
 base:=base
 A:=A.deeper (QL qual scope s.heap.objs.size f cd)
 N:=N
 s₀:=s
 H₀:=H
 env:=QL qual scope s.heap.objs.size f cd
 outer:=outer
 stack:=QL qual scope s.heap.objs.size f cd::outer
 ex:=[]
 calm:=true
 fn:=λ_=>true
 pn:=[]
 xe:=λe s'=>wpAny (OZ P w) (A.deeper (QL qual scope s.heap.objs.size f cd)) (leaving (QL qual scope s.heap.objs.size f cd) e) (λ_ s''=>CX outer H s E e s'') (λe' s''=>CX outer H s E e' s'') s'
theorem wq{sc:Qo}{n:Nat}{x:Str}(h:sc.names.lookup x=UT .cell):∃c,(Pl n sc.names []).lookup x=UT c:=by
 have q:=QC sc.names n [] (.inl h);exact MB.mp q
theorem AX{CX:CXT}{P:Program}{w:OX}{K:OQ}{mg:Str->Option ON}{base:O8}{N ps:List Str}{qual:Str}{scope:Qo}{f:OM}{cd:ON}{A:O7}{outer:List Env}{s s1:OO}{H:Hp}{E:XK}{us:List ON}{vs:List V}
  (S:ay N ps scope) (hd:A.handled=UU) (e0:xJ P w K mg base A outer s H) (hl:vs.length=ps.length) (r:U1 vs us)
  (x:InCallC s s.heap.objs.size (Uy (QL qual scope s.heap.objs.size f cd).kindOf (ps.zip us) λ_=>UU) (Pl (s.heap.objs.size+1) scope.names []) (Uz (QL qual scope s.heap.objs.size f cd).kindOf (ps.zip us) λ_=>UU) s1) :
  Inv (vZ CX P w K mg base N qual scope f cd A outer s H E) [] (U9 N vs) H s1:=by
 have hpl:ps.length<=N.length:=by have:=congrArg List.length S.pre;rw[LJ]at this;omega
 obtain⟨h1,tk,rfl,hk⟩:=x.done
 have noA:∀b:OM,b∉(vZ CX P w K mg base N qual scope f cd A outer s H E).ex:=λb z=>absurd (show b∈([]:List OM)from z) (by simp)
 refine⟨⟨e0.mod,S.kind,rfl,rfl,KI _,λy z c h1 h2=>?_,λy hy=>?_,λy c _ h=>?_,λ_=>hd,Around.frames_deeper e0.frames,.inr ⟨rfl,rfl⟩,λb z=>absurd z (noA b),e0.bs,e0.bsz,λb _ _=>noA b,λb z=>absurd z (noA b),e0.p6,e0.frf⟩,
  rfl,e0.bare,Un.kept hk,⟨_,x.toInCall.ns,λi y v h1 h2 h3=>?_⟩,λy c h=>⟨_,x.cell y c h⟩,e0.hok.fresh (KI _),λy c h=>?_,λp hp=>absurd (show p∈([]:List (OM×Obj))from hp) (by simp),e0.hok.kept hk,?_⟩
 ·exact name_of_addr x.apart (O6 h1) (O6 h2)
 ·have hy:scope.names.lookup y=UT .cell\/scope.names.lookup y=UT .free:=hy;rcases hy with hy|hy
  ·exact wq hy
  exact absurd rfl (S.G5 _ (O6 hy))
 ·exact Ni (x.above y c (O6 h))
 ·have hi:i<vs.length:=by
   unfold U9 at h2;by_cases hi:i<vs.length
   ·exact hi
   rw[Mf (by simpa using hi)]at h2;rw[Rk]at h2;split at h2<;>cases h2
  have ha:vs[i]?=UT v:=by
   unfold U9 at h2;rw[LX (by simpa using hi),KP]at h2;cases e:vs[i]? with
   |none=>rw[e]at h2;cases h2
   |some a=>rw[e]at h2;cases h2;rfl
  obtain⟨u,hu,rv⟩:=r.get ha;have hp:ps[i]?=UT y:=by
   rw[<-S.pre,Q8 (by omega)];exact h1
  have ndP:ps.Nodup:=by rw[<-S.pre];exact S.nd.sublist (List.take_sublist _ _)
  refine⟨u,rv,?_⟩;rcases S.par y (KG hp)with k|k
  ·exact .inl ⟨k,tN ndP hp hu k⟩
  obtain⟨c,e⟩:=wq (n:=s.heap.objs.size+1) k;refine .inr ⟨.inl k,c,e,?_⟩;have q:=x.cell y c e;rw[sT ndP hp hu (by show scope.names.lookup y≠_;rw[k];decide)]at q;exact q
 ·exact e0.hok.fresh (Ni (x.above y c (O6 h)))
 unfold U9
 show _=N.length
 rw[Kz,Ky,LW]
 omega
theorem Ih{CX:CXT}{P:Program}{w:OX}{K:OQ}{mg:Str->Option ON}{base:O8}{k:Nat}{f:OM}{name qual:Str}{params:Arguments}{body:List O9}{scope:Qo}{dV kV doc pm cdv ct oc:ON}{an od:Option OM}
  {osl:Array (Option ON)}{N ps:List Str}{sp:Sp} (lk:K.lookup f=UT ⟨oc,od,.func (Qr name qual params body scope dV kV doc pm an cdv ct),osl⟩) (hcd:RZ K cdv qual=true) (S:ay N ps scope)
  (len:∀vs H Q E,sp vs H Q E->vs.length=ps.length)
  (hbody:∀(A:O7)(outer:List Env)(s:OO)(H:Hp)(vs:List V)(Q:VK)(E:XK),fi k (A.deeper (QL qual scope s.heap.objs.size f cdv))->sp vs H Q E->
   ∃t,PSs (vZ CX P w K mg base N qual scope f cdv A outer s H E) body t/\t { nx:=λ_ H'=>Q .non H',rt:=Q } (U9 N vs) H) :
  kP P w K mg base CX (k+1) f (Qr name qual params body scope dV kV doc pm an cdv ct) ps sp:=by
 refine⟨len,λA outer s H args us vs Q E hr e0 hb r hsp=>?_⟩
 have hl:=len _ _ _ _ hsp
 have KX:K.In s.heap:=e0.mod.kin.keeps λb o e=>(e0.bs b o e).1
 have lim:s.heap.NoLimit:=e0.mod.nolimit.keeps λb o e=>(e0.bs b o e).1
 have hkind:∀y∈ps.zip us,scope.names.lookup y.1=UT .local\/(scope.names.lookup y.1=UT .cell/\((Pl (s.heap.objs.size+1) scope.names []).lookup y.1).isSome=true):=λ⟨n,v⟩ hy=>by
  rcases S.par n (Nm hy).1 with q|q
  ·exact .inl q
  exact .inr ⟨q,QC _ _ _ (.inl q)⟩
 refine codeAny_call_function hr.depth (KX _ _ lk) rfl S.co S.gen rfl (W.codeRec_of KX hcd) (hb _ _ _ _ ?_)
 refine wpAny_newFunctionEnv_cells S.kind hkind λenv he s1 x=>?_
 subst he
 refine⟨lim.keeps x.toInCall.keep,codeAny_func ?_⟩
 obtain⟨t,ht,hq⟩:=hbody A outer s H vs Q E (hr.deeper _) hsp
 have I:Inv (vZ CX P w K mg base N qual scope f cdv A outer s H E) [] (U9 N vs) H s1:=AX S hr.hd e0 hl r x
 refine PK (ht [] s1 (U9 N vs) H _ I hq) (λfl s' hs=>?_) λe s' hs=>hs
 have fin:∀{σ':St}{H':Hp}{v:V}{u:ON},Inv (vZ CX P w K mg base N qual scope f cdv A outer s H E) [] σ' H' s'->U2 v u->Q v H'->CE outer P w H s Q u s':=
  λ{σ' H' v u} J rv q=>⟨v,H',J.os,J.bare,J.base,J.hok,rv,q⟩
 cases fl with
 |ret u=>
  obtain⟨v,σ',H',J,rv,q⟩:=hs
  exact fin J rv q
 |next=>
  obtain⟨σ',H',J,q⟩:=hs
  exact fin (v:=V.non) (u:=SH) J rfl q
 |brk=>
  obtain⟨_,_,_,q⟩:=hs
  exact PB q
 |cont=>
  obtain⟨_,_,_,q⟩:=hs
  exact PB q
section
variable{X:Cx}{x:Str}{p pos:Pos}{e:Expr}{es:List Expr}{t:TA}{id T:String}{r:List V->Hp->VK->Prop}
def tCB(r:List V->Hp->VK->Prop)(t:TA):TE:=λσ H Q=>t σ H λvs H1=>r vs H1 Q
theorem CN(hc:dI X (.builtin id) r)(hg:Gl X x)(hm:X.mg x=UU)(hv:PU x=UT (.builtin id))(ha:PA X (e::es) t)(hn:x≠"__name__":=by decide)(hdb:(x==("__debug__":Str))=false:=by decide)
  (he:OV (e::es) X.env=(false,Pn e X.env)::OV es X.env:=by rfl) (hpl:(Pw pos (OV es X.env)).any (·.1)=false:=by rfl):PE X (.Call (.Name x p) (e::es) [] pos) (tCB r t):=by
 intro pins s σ H Q I h
 refine P4 (rq I hg hm hv ?_ hn hdb)
 exact PyProof.Rows.callWith_builtin1 (thn (ha pos pins s σ H _ I h) λus s1 ⟨vs,H1,I1,r1,q1⟩=>hc pins s1 σ H1 vs us Q I1 r1 q1) he hpl
theorem AS(hc:dI X (.type T) r)(hg:Gl X x)(hm:X.mg x=UU)(hv:PU x=UT (.type T))(ha:PA X (e::es) t)(hn:x≠"__name__":=by decide)(hdb:(x==("__debug__":Str))=false:=by decide)
  (he:OV (e::es) X.env=(false,Pn e X.env)::OV es X.env:=by rfl) (hpl:(Pw pos (OV es X.env)).any (·.1)=false:=by rfl):PE X (.Call (.Name x p) (e::es) [] pos) (tCB r t):=by
 intro pins s σ H Q I h
 refine P4 (rq I hg hm hv ?_ hn hdb)
 exact P7 (thn (ha pos pins s σ H _ I h) λus s1 ⟨vs,H1,I1,r1,q1⟩=>hc pins s1 σ H1 vs us Q I1 r1 q1) he hpl
end
end L2
namespace HT
open PySem PyProof.Rows
section
open PySem.SeqAt
open PySem.AutoSeq1 (wpAny_loadPart')
open PySem.MeetsSeq PySem.MeetsSeq2 PySem.MeetsSeq3
end
section
variable{prog:Program}{w:OX}{A:O7}{E:ON->OO->Prop}{s:OO}
theorem DC{t b:OM}{vs ws:List ON}{Q:ON->OO->Prop}(ht:IsTup s.heap t vs.toArray)(hb:IsTup s.heap b ws.toArray)(hv:vs≠[])
  (h1:ws=[]->Q (.ref t) s) (h2:ws≠[]->Q (.ref s.heap.objs.size) { s with heap:=s.heap.push { cls:=.type "tuple",data:=.seq (vs++ws).toArray } })
  (hsz:vs.length+ws.length<=sizeLine):wpAny (OZ prog w) A (Pp .Add (.ref t) (.ref b)) Q E s:=by
 obtain⟨⟨cls,dd,data,sl⟩,ho,hc,n,hd⟩:=id ht
 obtain⟨⟨cls2,dd2,data2,sl2⟩,ho2,hc2,n2,hd2⟩:=id hb
 simp only at hc hd hc2 hd2
 subst hc hd hc2 hd2
 have e:vs.toArray++ws.toArray=(vs++ws).toArray:=by simp
 by_cases hw:ws=[]
 ·exact concat_meets ⟨_,ho,rfl⟩ ⟨_,ho2,rfl⟩ TV seq_tuple_add RE Rm (Q9 _ _)
   (tuple_addW1 t b vs.toArray ws.toArray n n2 dd dd2 sl sl2 (by simpa using hv) (by simp[hw])) ⟨ho,ho2,h1 hw⟩
 refine concat_meets ⟨_,ho,rfl⟩ ⟨_,ho2,rfl⟩ TV seq_tuple_add RE Rm (Q9 _ _)
  (tuple_addW2 t b vs.toArray ws.toArray n n2 dd dd2 sl sl2 (by simpa using hv) (by simpa using hw) (by rw[KO,KO];exact hsz)) ⟨ho,ho2,?_⟩
 rw[e]
 exact h2 hw
def sIx(n d:Nat):Option Int->Nat
 |none=>d
 |some v=>if v<0 then(v+(n:Int)).toNat else min v.toNat n
theorem FN(n d:Nat)(hd:d<=n)(o:Option Int):sIx n d o<=n:=by
 cases o with
 |none=>exact hd
 |some v=>
  show(if v<0 then(v+(n:Int)).toNat else min v.toNat n)<=n;by_cases hv:v<0
  ·rw[if_pos hv];omega
  rw[if_neg hv];exact Nat.min_le_right _ _
theorem Af(v:Int)(n d:Nat):(if v<0 then max (v+(n:Int)) 0 else min v (n:Int))=((sIx n d (UT v):Nat):Int):=by
 show(if v<0 then max (v+(n:Int)) 0 else min v (n:Int))=(((if v<0 then(v+(n:Int)).toNat else min v.toNat n):Nat):Int);by_cases hv:v<0
 ·simp only[if_pos hv];omega
 simp only[if_neg hv];omega
theorem yw(lo hi:Option Int)(n:Nat):Qf lo hi 1 (n:Int)=(((sIx n 0 lo:Nat):Int),((sIx n n hi:Nat):Int)):=by
 have h1:¬ ((1:Int)<0):=by omega
 unfold Qf;simp only[h1,if_false];refine Ut ?_ ?_
 ·cases lo with
  |none=>rfl
  |some v=>exact Af v n 0
 cases hi with
 |none=>rfl
 |some v=>exact Af v n n
theorem yc(i j:Nat):PQ (i:Int) (j:Int) 1=j-i:=by
 unfold PQ;have h1:(1:Int)>0:=by omega
 simp only[h1,if_true,Int.ediv_one];split<;>omega
theorem rE{v:ON}{o:Option Int}{Q:Option Int->OO->Prop}(p:SJ v o)(h:Q o s):wpAny (OZ prog w) A (Builtin.Slice.slicePartIndex v) Q E s:=by
 cases p with
 |none=>exact UA h
 |int i t=>exact slicePart_int h
theorem pz{sl:OM}{vl vu:ON}{lo hi:Option Int}{n:Nat}{Q:Int×Int×Nat->OO->Prop}(hs:s.heap.IsSliceOf sl vl vu .none)(pl:SJ vl lo)(pu:SJ vu hi)
  (h:Q (((sIx n 0 lo:Nat):Int),1,sIx n n hi-sIx n 0 lo) s):wpAny (OZ prog w) A (Q0 (.ref sl) (pure (n:Int))) Q E s:=by
 obtain⟨os,hos,hcs,hds⟩:=id hs
 unfold Q0 Builtin.Slice.sliceFields
 refine OP (OP (Uh hos hds (x:=vl) rfl (OP (Uh hos hds (x:=vu) rfl (OP (Uh hos hds (x:=.none) rfl (OT ?_)))))))
 refine OP (UA ?_)
 show wpAny _ _ (if((1:Int)==0)=true then _ else _) _ _ s
 rw[if_neg (by decide)]
 refine OP (rE pl (OP (rE pu (OP (OT ?_)))))
 show wpAny _ _ (match Qf lo hi 1 (n:Int)with|(lo,hi)=>pure (lo,(1:Int),PQ lo hi 1)) _ _ s
 rw[yw lo hi n]
 show wpAny _ _ (pure (((sIx n 0 lo:Nat):Int),(1:Int),PQ ((sIx n 0 lo:Nat):Int) ((sIx n n hi:Nat):Int) 1)) _ _ s
 rw[yc]
 exact OT h
theorem BD(xs:Array ON)(i k:Nat):((O2 k).filterMap λ(m:Nat)=>xs[((i:Int)+(m:Int)*1).toNat]?).toArray=((xs.toList.drop i).take k).toArray:=by
 have e:(λ(m:Nat)=>xs[((i:Int)+(m:Int)*1).toNat]?)=λm=>xs[i+m]?:=by
  funext m
  have:((i:Int)+(m:Int)*1).toNat=i+m:=by omega
  rw[this]
 rw[e];have:=pick_run xs i k;rw[List.filterMap_map]at this;have e2:((λx=>xs[x]?)∘λx=>i+x)=λm=>xs[i+m]?:=rfl;rw[e2]at this;rw[this]
theorem oQ{t sl:OM}{items:Array ON}{vl vu:ON}{lo hi:Option Int}{Q:ON->OO->Prop}(ht:IsTup s.heap t items)(hs:s.heap.IsSliceOf sl vl vu .none)(pl:SJ vl lo)(pu:SJ vu hi)
  (hw:¬ (sIx items.size 0 lo=0/\sIx items.size items.size hi=items.size))
  (h:Q (.ref s.heap.objs.size) { s with heap:=s.heap.push { cls:=.type "tuple",data:=.seq ((items.toList.drop (sIx items.size 0 lo)).take (sIx items.size items.size hi-sIx items.size 0 lo)).toArray } })
  (hsz:items.size<=sizeLine):wpAny (OZ prog w) A (Sq (.ref t) (.ref sl)) Q E s:=by
 have htake:sizeOk (.seq ((items.toList.drop (sIx items.size 0 lo)).take (sIx items.size items.size hi-sIx items.size 0 lo)).toArray):=by
  show((items.toList.drop (sIx items.size 0 lo)).take (sIx items.size items.size hi-sIx items.size 0 lo)).toArray.size<=sizeLine;rw[KO,LJ,Mj,MU];omega
 have hj:sIx items.size items.size hi<=items.size:=FN _ _ (KI _) hi
 obtain⟨os,hos,hcs,hds⟩:=id hs
 have hTs:s.TypeIs (.ref sl) "slice":=⟨os,hos,hcs⟩
 unfold Sq
 try with_reducible refine wpAny_holding ?_
 first|refine OP (OT ?_)|skip
 refine OP (wpAny_sequenceKey ht.typeIs (by decide) ?_)
 refine OP (wpAny_callSpecial?_slot (name:=Str.ofString "__getitem__") ht.typeIs Qx
  (QD Qx ht.typeIs entry_tuple_getitem ?_ (args_tuple_getitem _ _)))
 show wpAny _ _ (Builtin.Tuple.tupleItemsOf (.ref t)>>=_) _ _ s
 refine OP (tupleItemsOf_ ht ?_)
 refine OP (Ts hTs ?_)
 rw[if_pos (by decide)]
 refine OP (pz hs pl pu ?_)
 have hno:¬ ((((sIx items.size 0 lo:Nat):Int)==0&&(1:Int)==1&&(sIx items.size items.size hi-sIx items.size 0 lo)==items.size)=true):=by
  intro q;rw[Mb,Mb]at q;have q1:((sIx items.size 0 lo:Nat):Int)=0:=eq_of_beq q.1.1;have q2:sIx items.size items.size hi-sIx items.size 0 lo=items.size:=eq_of_beq q.2;exact hw ⟨by omega,by omega⟩
 show wpAny _ _ (if(((sIx items.size 0 lo:Nat):Int)==0&&(1:Int)==1&&(sIx items.size items.size hi-sIx items.size 0 lo)==items.size)=true then _ else _) _ _ s
 rw[if_neg hno,BD]
 first
  |exact OP (m:=PX _) (P8 (OT ⟨_,rfl,OT h⟩) htake)
  |exact OP (m:=PX _) (P8 (OP (OT (OT ⟨_,rfl,OT h⟩))) htake)
  |exact OP (OP (m:=PX _) (P8 (OT (OT ⟨_,rfl,OT h⟩)) htake))
  |exact OP (OP (m:=PX _) (P8 (OT ⟨_,rfl,OT h⟩) htake))
end
end HT
namespace L2
open PySem PySem.Spec PyProof.Rows
abbrev TO:=St->Hp->(Option Int->Hp->Prop)->Prop
def PO(X:Cx)(e:Option Expr)(t:TO):Prop:=
 ∀(pins:List (OM×Obj))(s:OO)(σ:St)(H:Hp)(Q:Option Int->Hp->Prop),Inv X pins σ H s->t σ H Q->
  wpAny (OZ X.prog X.w) X.A (evalPart e X.env) (λu s'=>∃o H',Inv X pins σ H' s'/\SJ u o/\Q o H') X.xe s
def DG:TO:=λ_ H Q=>Q UU H
inductive Im(x:V)(H:Hp)(Q:Option Int->Hp->Prop):Prop
 |mk(i:Int)(h:x=.int i)(q:Q (UT i) H):Im x H Q
def Iu(t:TE):TO:=λσ H Q=>t σ H λx H1=>Im x H1 Q
theorem Va{ns:List Int}:∀{us:List ON},U1 (ns.map V.int) us->Tt us ns:=by
 induction ns with
 |nil=>intro us r;rw[MK]at r;cases r;exact .nil
 |cons n ns ih=>
  intro us r;rw[KQ]at r;cases r with
  |cons r1 r2=>
   obtain⟨t,e⟩:=r1;subst e;exact .cons n t (ih r2)
section
variable{X:Cx}{e:Expr}{te:TE}{lo hi:Option Expr}{tl th:TO}{pos p2:Pos}
theorem ky:PO X UU DG:=by
 intro pins s σ H Q I h;rw[evalPart_none];exact OT ⟨UU,H,I,.none,h⟩
theorem cf(h:PE X e te):PO X (UT e) (Iu te):=by
 intro pins s σ H Q I hw;rw[evalPart_some];refine thn (h pins s σ H _ I hw) λu s1 ⟨x,H1,I1,r1,q1⟩=>?_;obtain⟨i,rfl,q⟩:=q1;obtain⟨t,rfl⟩:=r1;exact⟨UT i,H1,I1,.int i t,q⟩
def SlR(X:Cx)(r:V->Option Int->Option Int->Hp->VK->Prop):Prop:=
 ∀(pins:List (OM×Obj))(s:OO)(σ:St)(H:Hp)(x:V)(v vl vu:ON)(lo hi:Option Int)(sl:OM)(Q:VK),Inv X pins σ H s->U2 x v->s.heap.IsSliceOf sl vl vu .none->SJ vl lo->SJ vu hi->r x lo hi H Q->
  ∃T id,typeLookup (.type T) "__getitem__"=pure (UT (.builtin id))/\s.TypeIs v T/\wpAny (OZ X.prog X.w) X.A (Sq v (.ref sl)) (EP X pins σ Q) X.xe s
theorem SlR.or{r r':V->Option Int->Option Int->Hp->VK->Prop}(h:SlR X r)(h':SlR X r'):SlR X (λx lo hi H Q=>r x lo hi H Q\/r' x lo hi H Q):=by
 intro pins s σ H x v vl vu lo hi sl Q I rx hs pl pu q;rcases q with q|q
 ·exact h pins s σ H x v vl vu lo hi sl Q I rx hs pl pu q
 exact h' pins s σ H x v vl vu lo hi sl Q I rx hs pl pu q
def tSl(r:V->Option Int->Option Int->Hp->VK->Prop)(te:TE)(tl th:TO):TE:=λσ H Q=>te σ H λx H1=>tl σ H1 λl H2=>th σ H2 λu H3=>r x l u H3 Q
theorem cK{r:V->Option Int->Option Int->Hp->VK->Prop}(hr:SlR X r)(he:PE X e te)(hl:PO X lo tl)(hu:PO X hi th):PE X (.Subscript e (.Slice lo hi UU p2) pos) (tSl r te tl th):=by
 intro pins s σ H Q I h;refine Subscript_ (thn (he pins s σ H _ I h) λv s1 ⟨x,H1,I1,r1,q1⟩=>?_);refine wpAny_Slice (thn (hl pins s1 σ H1 _ I1 q1) λvl s2 ⟨l,H2,I2,pl,q2⟩=>thn (hu pins s2 σ H2 _ I2 q2) λvu s3 ⟨u,H3,I3,pu,q3⟩=>?_);rw[evalPart_none];refine OT ?_;have I4:Inv X pins σ H3 { s3 with heap:=s3.heap.push { cls:=.type "slice",data:=.fields #[vl,vu,.none] } }:=I3.kept (t':=s3.toks) λb ob q=>OR _ q;obtain⟨T,id,hT,ht,hg⟩:=hr pins { s3 with heap:=s3.heap.push { cls:=.type "slice",data:=.fields #[vl,vu,.none] } } σ H3 x v vl vu l u s3.heap.objs.size Q I4 r1 (Heap.IsSliceOf.new ..) pl pu q3;show wpAny (OZ X.prog X.w) X.A (SD e (.Slice lo hi UU p2) v (.ref s3.heap.objs.size)) (EP X pins σ Q) X.xe { s3 with heap:=s3.heap.push { cls:=.type "slice",data:=.fields #[vl,vu,.none] } };exact tail_any (ops:=[.ref s3.heap.objs.size,v]) ht hT hg (by with_unfolding_all rfl)
def iy(xs:List V)(lo hi:Option Int):List V:=(xs.drop (HT.sIx xs.length 0 lo)).take (HT.sIx xs.length xs.length hi-HT.sIx xs.length 0 lo)
theorem pK(xs:List V)(lo hi:Option Int):(iy xs lo hi).length<=xs.length:=by
 unfold iy;rw[LJ,Mj];omega
def FF(K:OQ):V->Option Int->Option Int->Hp->VK->Prop:=λx lo hi H Q=>∃a xs,x=.ref a/\SqT K H a xs/\
 ¬ (HT.sIx xs.length 0 lo=0/\HT.sIx xs.length xs.length hi=xs.length)/\∀p,H p=UU->Q (.ref p) (upd H p (.tup (iy xs lo hi)))
theorem GF:SlR X (FF X.K):=by
 intro pins s σ H x v vl vu lo hi sl Q I rx hs pl pu h;obtain⟨a,xs,rfl,hx,hw,q⟩:=h;cases rx;obtain⟨its,r,ht,hz⟩:=I.tuple hx;have hlen:its.toArray.size=xs.length:=by rw[KO];exact r.length.symm
 refine⟨"tuple",_,PyProof.Rows.slot_tuple_getitem.lookup,ht.typeIs,?_⟩;refine HT.oQ ht hs pl pu (by rw[hlen];exact hw) ?_ (by rw[hlen];exact hz);rw[hlen];refine⟨.ref s.heap.objs.size,_,I.laid (t':=s.toks) (o:=.tup (iy xs lo hi)) (λb ob q=>OR _ q) (KI _) ?_,rfl,q _ (I.hok.fresh (KI _))⟩;exact⟨KS (pK xs lo hi) hz,_,(r.drop (HT.sIx xs.length 0 lo)).take (HT.sIx xs.length xs.length hi-HT.sIx xs.length 0 lo),IsTup.new _ _⟩
def Ja(K:OQ):R2:=λx y H Q=>∃a b xs ys,x=.ref a/\y=.ref b/\SqT K H a xs/\SqT K H b ys/\xs≠[]/\xs.length+ys.length<=sizeLine/\
 (ys=[]->Q (.ref a) H)/\(ys≠[]->∀p,H p=UU->Q (.ref p) (upd H p (.tup (xs++ys))))
theorem U1.uN{xs:List V}{us:List ON}(r:U1 xs us):us=[]↔xs=[]:=by
 cases r with
 |nil=>simp
 |cons _ _=>simp
theorem u3:OpR X (Pp .Add) (Ja X.K):=by
 intro pins s σ H x y v u Q I rx ry h;obtain⟨a,b,xs,ys,rfl,rfl,ha,hb,hx,hz,q1,q2⟩:=h;cases rx;cases ry;obtain⟨its,r1,p1,_⟩:=I.tuple ha;obtain⟨its2,r2,p2,_⟩:=I.tuple hb;refine HT.DC p1 p2 (λz=>hx (r1.uN.mp z)) (λz=>⟨.ref a,H,I,rfl,q1 (r2.uN.mp z)⟩) (λz=>?_) (by rw[<-r1.length,<-r2.length];exact hz);refine⟨.ref s.heap.objs.size,_,I.laid (t':=s.toks) (o:=.tup (xs++ys)) (λb ob q=>OR _ q) (KI _) ?_,rfl,q2 (λw=>z (r2.uN.mpr w)) _ (I.hok.fresh (KI _))⟩;exact⟨by rw[Kz];exact hz,_,r1.append r2,IsTup.new _ _⟩
end
def ixN(n:Nat)(i:Int):Option Nat:=if 0<=i then(if i<n then UT i.toNat else UU)else if -(n:Int)<=i then UT (i+n).toNat else UU
def atI{α:Type}(xs:List α)(i:Int):Option α:=(ixN xs.length i).bind λj=>xs[j]?
theorem zG{n:Nat}{i:Int}{j:Nat}(h:ixN n i=UT j):seqIndex? i n=UT j/\j<n/\-(n:Int)<=i/\i<n:=by
 unfold ixN at h;by_cases h0:0<=i
 ·rw[if_pos h0]at h;by_cases h1:i<n
  ·rw[if_pos h1]at h;have e:i.toNat=j:=OS h;exact⟨by rw[Ui h0 h1,e],by omega,by omega,h1⟩
  rw[if_neg h1]at h;cases h
 rw[if_neg h0]at h;by_cases h1:-(n:Int)<=i
 ·rw[if_pos h1]at h;have e:(i+n).toNat=j:=OS h;exact⟨by rw[Tu (by omega) h1,e],by omega,h1,by omega⟩
 rw[if_neg h1]at h;cases h
theorem vi{α:Type}{xs:List α}{i:Int}{v:α}(h:atI xs i=UT v):∃j,seqIndex? i xs.length=UT j/\xs[j]?=UT v/\j<xs.length/\-(xs.length:Int)<=i/\i<xs.length:=by
 unfold atI at h;cases e:ixN xs.length i with
 |none=>rw[e]at h;cases h
 |some j=>
  rw[e]at h;obtain⟨h1,h2,h3,h4⟩:=zG e;exact⟨j,h1,h,h2,h3,h4⟩
theorem d6{α:Type}{xs:List α}{j:Nat}{v:α}(h:xs[j]?=UT v):atI xs (j:Int)=UT v:=by
 have hj:j<xs.length:=(KH.mp h).1;have e:ixN xs.length (j:Int)=UT j:=by
  unfold ixN;rw[if_pos (by omega),if_pos (by omega)];simp
 unfold atI;rw[e];exact h
theorem rF{α:Type}(xs:List α)(v:α):atI (xs++[v]) (-1)=UT v:=by
 have hl:(xs++[v]).length=xs.length+1:=by simp
 have e:ixN (xs++[v]).length (-1)=UT xs.length:=by
  unfold ixN;rw[hl,if_neg (by decide),if_pos (by omega)];congr 1;omega
 unfold atI;rw[e];show(xs++[v])[xs.length]?=UT v;simp
def zo(b:Expr):Prop:=∀o i,subscripted b false o i=operate [o,i] (Sq o i)
def IxR(X:Cx)(r:R2):Prop:=
 ∀(value slice:Expr)(pins:List (OM×Obj))(s:OO)(σ:St)(H:Hp)(x y:V)(v u:ON)(Q:VK),Inv X pins σ H s->U2 x v->U2 y u->r x y H Q->
  subscripted slice false v u=operate [v,u] (Sq v u)->wpAny (OZ X.prog X.w) X.A (SD value slice v u) (EP X pins σ Q) X.xe s
def MtR(X:Cx)(id:String)(r:V->List V->Hp->VK->Prop):Prop:=
 ∀(pins:List (OM×Obj))(s:OO)(σ:St)(H:Hp)(x:V)(xs:List V)(v:ON)(us:List ON)(Q:VK),Inv X pins σ H s->U2 x v->U1 xs us->r x xs H Q->
  wpAny (OZ X.prog X.w) X.A (call (.builtin id) (v::us)) (EP X pins σ Q) X.xe s
section
variable{X:Cx}{a b:Expr}{ta tb:TE}{pos:Pos}
theorem Jw{r:R2}(hr:IxR X r)(ha:PE X a ta)(hb:PE X b tb)(hs:zo b):PE X (.Subscript a b pos) (tOp r ta tb):=by
 intro pins s σ H Q I h;exact Subscript_ (FC ha hb I h λv u s2 x y H2 I2 rx ry q=>hr a b pins s2 σ H2 x y v u Q I2 rx ry q (hs _ _))
def Kr(K:OQ):R2:=λx y H Q=>∃p xs i v,x=.ref p/\y=.int i/\SqL K H p xs/\atI xs i=UT v/\Q v H
def JM(K:OQ):R2:=λx y H Q=>∃p xs i v,x=.ref p/\y=.int i/\SqT K H p xs/\atI xs i=UT v/\Q v H
def Kf:R2:=λx y H Q=>∃z i c,x=.str z/\y=.int i/\z.length<=sizeLine/\atI z.cps.toList i=UT c/\Q (.str ⟨#[c]⟩) H
theorem EB:IxR X (Kr X.K):=by
 intro value slice pins s σ H x y v u Q I rx ry h hs;obtain⟨p,xs,i,z,rfl,rfl,hq,he,q⟩:=h;cases rx;obtain⟨t,rfl⟩:=ry;obtain⟨its,r,pl,hz⟩:=I.list hq;obtain⟨j,h1,h2,h3,h4,h5⟩:=vi he;obtain⟨w,ew,rw'⟩:=r.get h2;have hl:=r.length;have hn:=pA;have fin:EP X pins σ Q w s:=⟨z,H,I,rw',q⟩;by_cases h0:0<=i
 ·have hj:i.toNat=j:=by
   rw[Ui h0 h5]at h1;exact OS h1
  exact item_listR pl.isList h0 (by omega) (by rw[hj];simpa using ew) fin hs
 have hj:(i+(its.toArray.size:Int)).toNat=j:=by
  rw[Tu (by omega) h4]at h1;rw[KO,<-hl];exact OS h1
 exact RF (x:=w) pl.isList.typeIs slot_list_getitem.lookup
  (wpAny_getItem_list_neg (Q:=λr s'=>r=w/\EP X pins σ Q r s') pl.isList (by omega) (by rw[KO]<;>omega) (by omega) (by rw[hj];simpa using ew) ⟨rfl,fin⟩) hs
theorem Gr:IxR X (JM X.K):=by
 intro value slice pins s σ H x y v u Q I rx ry h hs;obtain⟨p,xs,i,z,rfl,rfl,hq,he,q⟩:=h;cases rx;obtain⟨t,rfl⟩:=ry;obtain⟨its,r,pl,hz⟩:=I.tuple hq;obtain⟨j,h1,h2,h3,h4,h5⟩:=vi he;obtain⟨w,ew,rw'⟩:=r.get h2;have hl:=r.length;have hn:=pA;have fin:EP X pins σ Q w s:=⟨z,H,I,rw',q⟩;exact RF (x:=w) pl.typeIs slot_tuple_getitem.lookup
  (getItem_tuple (j:=j) (Q:=λr s'=>r=w/\EP X pins σ Q r s') pl (by omega) (by omega) (by rw[KO,<-hl];exact h1) (by simpa using ew) ⟨rfl,fin⟩) hs
theorem G4:IxR X Kf:=by
 intro value slice pins s σ H x y v u Q I rx ry h hs;obtain⟨z,i,c,rfl,rfl,hz,he,q⟩:=h;obtain⟨t,rfl⟩:=rx;obtain⟨t',rfl⟩:=ry;obtain⟨j,h1,h2,h3,h4,h5⟩:=vi he;have hl:z.cps.toList.length=z.length:=by simp[Str.length]
 rw[hl]at h1 h4 h5;have hn:=pA;exact tail_any (SK s z t) slot_str_getitem.lookup (getItem_str (c:=c) (by
  have e1:decide (i< -(2^63:Int))=false:=decide_eq_false (by omega);have e2:decide (i ≥ 2^63)=false:=decide_eq_false (by omega);rw[e1,e2,Bool.or_false]) (by rw[h1];simpa using h2) ⟨.str ⟨#[c]⟩,H,I.tok _,⟨_,rfl⟩,q⟩) hs
theorem yY(its:List ON)(n j:Nat)(u:ON):RG (·.setIfInBounds j u) { cls:=.type "list",data:=.seq its.toArray n }={ cls:=.type "list",data:=.seq (its.set j u).toArray n }:=by
 simp[RG]
theorem Inv.lst{pins:List (OM×Obj)}{σ:St}{H:Hp}{s:OO}{p:OM}{xs:List V}(I:Inv X pins σ H s)(h:H p=UT (.lst xs)) :
  ∃(its:List ON)(n:Nat),U1 xs its/\s.heap.get? p=UT { cls:=.type "list",data:=.seq its.toArray n }/\xs.length<=sizeLine:=by
 obtain⟨z,its,n,r,e⟩:=I.hok p _ h
 exact⟨its,n,r,e,z⟩
theorem Inv.Hu{pins:List (OM×Obj)}{σ:St}{H:Hp}{s:OO}{p:OM}{xs ys:List V}{its its':List ON}{n n':Nat}{f:Obj->Obj}(I:Inv X pins σ H s)(h:H p=UT (.lst xs))
  (ho:s.heap.get? p=UT { cls:=.type "list",data:=.seq its.toArray n }) (hf:f { cls:=.type "list",data:=.seq its.toArray n }={ cls:=.type "list",data:=.seq its'.toArray n' }) (r:U1 ys its') (hz:ys.length<=sizeLine) (t:Nat) :
  Inv X pins σ (upd H p (.lst ys)) { s with heap:=s.heap.update p f,toks:=t }:=by
 have e:(s.heap.update p f).get? p=UT { cls:=.type "list",data:=.seq its'.toArray n' }:=by
  rw[Heap.get?_update_self f ho (by rw[hf]<;>rfl),hf]
 refine I.write (x:=p) (e:=p) (by rw[h];trivial) (.inl rfl) (λb u hb q=>(RH _ _ (Lv hb)).trans q) ⟨_,e⟩ ?_
 exact⟨hz,its',n',r,e⟩
def Fi:V->V->V->Hp->(Hp->Prop)->Prop:=λo i v H Q=>∃p xs k j,o=.ref p/\i=.int k/\H p=UT (.lst xs)/\ixN xs.length k=UT j/\Q (upd H p (.lst (xs.set j v)))
theorem UX:BO X Fi:=by
 intro pins s σ H o i v ov iv u Q I ro ri rv h;obtain⟨p,xs,k,j,rfl,rfl,hp,hj,q⟩:=h;cases ro;obtain⟨t,rfl⟩:=ri;obtain⟨its,n,r,ho,hz⟩:=I.lst hp;obtain⟨h1,h2,h3,h4⟩:=zG hj;have hl:=r.length;have hn:=pA;have I':Inv X pins σ (upd H p (.lst (xs.set j v))) { s with heap:=s.heap.update p (RG (·.setIfInBounds j u)) }:=
  I.Hu hp ho (yY its n j u) (r.set rv j) (by rw[Uk];exact hz) s.toks
 by_cases h0:0<=k
 ·have hk:k.toNat=j:=by
   rw[Ui h0 h4]at h1;exact OS h1
  exact W.ki_setAt ho h0 (by omega) (by rw[KO,<-hl];exact h4) (by rw[hk];exact⟨_,I',q⟩)
 have hk:(k+(its.toArray.size:Int)).toNat=j:=by
  rw[Tu (by omega) h3]at h1;rw[KO,<-hl];exact OS h1
 exact W.ki_setBack ho (by omega) (by rw[KO,<-hl];exact h3) (by omega) (by rw[hk];exact⟨_,I',q⟩)
theorem uH(lo hi:Option Int)(n:Nat):(Qq lo hi UU n).1=((HT.sIx n 0 lo:Nat):Int)/\(Qq lo hi UU n).2.1=((HT.sIx n n hi:Nat):Int)/\(Qq lo hi UU n).2.2=1:=by
 refine⟨?_,?_,rfl⟩
 ·cases lo with
  |none=>simp[Qq,HT.sIx]
  |some i=>
   simp only[Qq,HT.sIx,TX,show(1:Int)>0 by decide,if_true];by_cases h:i<0
   ·simp only[h,if_true]<;>omega
   simp only[h,if_false]<;>omega
 cases hi with
 |none=>simp[Qq,HT.sIx]
 |some i=>
  simp only[Qq,HT.sIx,TX,show(1:Int)>0 by decide,if_true];by_cases h:i<0
  ·simp only[h,if_true]<;>omega
  simp only[h,if_false]<;>omega
theorem sD(its:List ON)(lo hi:Option Int):slicePick its.toArray lo hi UU=((its.drop (HT.sIx its.length 0 lo)).take (HT.sIx its.length its.length hi-HT.sIx its.length 0 lo)).toArray:=by
 obtain⟨h1,h2,h3⟩:=uH lo hi its.toArray.size;unfold slicePick;rw[h1,h2,h3];simp only[sliceRange_one,pick_run,KO]<;>rfl
def Gn(K:OQ):V->Option Int->Option Int->Hp->VK->Prop:=λx lo hi H Q=>∃a xs,x=.ref a/\SqL K H a xs/\∀p,H p=UU->Q (.ref p) (upd H p (.lst (iy xs lo hi)))
theorem EX:SlR X (Gn X.K):=by
 intro pins s σ H x v vl vu lo hi sl Q I rx hs pl pu h;obtain⟨a,xs,rfl,hx,q⟩:=h;cases rx;obtain⟨its,r,ht,hz⟩:=I.list hx;have hlen:=r.length;refine⟨"list",_,slot_list_getitem.lookup,ht.isList.typeIs,?_⟩;refine wpAny_getItem_list_slice ht.isList hs pl pu .none (by simp) ?_ (by rw[KO]<;>omega);rw[sD,<-hlen];refine⟨.ref s.heap.objs.size,_,I.laid (t':=s.toks) (o:=.lst (iy xs lo hi)) (λb ob q=>OR _ q) (KI _) ?_,rfl,q _ (I.hok.fresh (KI _))⟩;exact⟨KS (pK xs lo hi) hz,_,0,(r.drop (HT.sIx xs.length 0 lo)).take (HT.sIx xs.length xs.length hi-HT.sIx xs.length 0 lo),O3 _ rfl⟩
def nh:V->Bool
 | .non=>true
 | .bl _=>true
 | .int _=>true
 | .str _=>true
 |_=>false
def eqV:V->V->Bool
 | .non,.non=>true
 | .bl a,.bl b=>a==b
 | .bl a,.int b=>(if a then 1 else 0)==b
 | .int a,.bl b=>a==(if b then 1 else 0)
 | .int a,.int b=>a==b
 | .str a,.str b=>a==b
 |_,_=>false
theorem FW{A:O7}{s:OO}{y x:V}{u v:ON}(ry:U2 y u)(rx:U2 x v)(fy:nh y=true)(fx:nh x=true):QE A s u v (eqV y x):=by
 cases y with
 |non=>
  cases ry;cases x with
  |non=>cases rx;exact RL _
  |bl b=>cases rx;exact SeqAt.EqAt.none_bool b
  |int b=>obtain⟨t,rfl⟩:=rx;exact SeqAt.EqAt.none_int b t
  |str b=>obtain⟨t,rfl⟩:=rx;exact SeqAt.EqAt.none_str b t
  |_=>exact absurd (show false=true from fx) KL
 |bl a=>
  cases ry;cases x with
  |non=>cases rx;exact SeqAt.EqAt.bool_none a
  |bl b=>cases rx;exact SeqAt.EqAt.bool_bool a b
  |int b=>obtain⟨t,rfl⟩:=rx;exact SeqAt.EqAt.bool_int a b t
  |str b=>obtain⟨t,rfl⟩:=rx;exact SeqAt.EqAt.bool_str a b t
  |_=>exact absurd (show false=true from fx) KL
 |int a=>
  obtain⟨t',rfl⟩:=ry;cases x with
  |non=>cases rx;exact SeqAt.EqAt.int_none a t'
  |bl b=>cases rx;exact SeqAt.EqAt.int_bool a t' b
  |int b=>obtain⟨t,rfl⟩:=rx;exact Q1 a t' b t
  |str b=>obtain⟨t,rfl⟩:=rx;exact SF a t' b t
  |_=>exact absurd (show false=true from fx) KL
 |str a=>
  obtain⟨t',rfl⟩:=ry;cases x with
  |non=>cases rx;exact SeqAt.EqAt.str_none a t'
  |bl b=>cases rx;exact SeqAt.EqAt.str_bool a t' b
  |int b=>obtain⟨t,rfl⟩:=rx;exact SG a t' b t
  |str b=>obtain⟨t,rfl⟩:=rx;exact SM a t' b t
  |_=>exact absurd (show false=true from fx) KL
 |_=>exact absurd (show false=true from fy) KL
def eqU(x:V)(u:ON):Bool:=match u with
 | .none=>eqV .non x
 | .bool b=>eqV (.bl b) x
 | .int i _=>eqV (.int i) x
 | .str z _=>eqV (.str z) x
 |_=>false
theorem Cq{x y:V}{u:ON}(r:U2 y u)(f:nh y=true):eqU x u=eqV y x:=by
 cases y with
 |non=>cases r;rfl
 |bl b=>cases r;rfl
 |int i=>obtain⟨t,rfl⟩:=r;rfl
 |str z=>obtain⟨t,rfl⟩:=r;rfl
 |_=>exact absurd (show false=true from f) KL
theorem uM{x:V}:∀{xs:List V}{us:List ON},U1 xs us->xs.all nh=true->us.any (eqU x)=xs.any λy=>eqV y x
 |_,_,.nil,_=>rfl
 |y::xs,u::us,.cons r t,f=>by
  rw[List.all_cons,Mb]at f;rw[Mw,Mw,Cq r f.1,uM t f.2]
theorem rM{A:O7}{s:OO}{x:V}{v:ON}(rx:U2 x v)(fx:nh x=true):∀{xs:List V}{us:List ON},U1 xs us->xs.all nh=true->∀u∈us,QE A s u v (eqU x u)
 |_,_,.nil,_=>λu hu=>by cases hu
 |y::xs,u::us,.cons r t,f=>λu' hu=>by
  rw[List.all_cons,Mb]at f;rcases Ku.mp hu with rfl|hu
  ·rw[Cq r f.1];exact FW r rx f.1 fx
  exact rM rx fx t f.2 u' hu
def inV(x:V)(xs:List V):Bool:=xs.any λy=>eqV y x
def rIn(K:OQ)(neg:Bool):R2:=λx y H Q=>∃p xs,y=.ref p/\(SqL K H p xs\/SqT K H p xs)/\nh x=true/\xs.all nh=true/\Q (.bl (if neg then !inV x xs else inV x xs)) H
theorem AB:OpR X (O4 .In) (rIn X.K false):=by
 intro pins s σ H x y v u Q I rx ry h;obtain⟨p,xs,rfl,hq,fx,fs,q⟩:=h;cases ry;rcases hq with hq|hq
 ·obtain⟨its,r,pl,hz⟩:=I.list hq;refine SeqAt.in_listAt (eqU x) pl.isList (λw hw=>rM rx fx r fs w (by simpa using hw)) ⟨.bl _,H,I,rfl,?_⟩;rw[show its.toArray.any (eqU x)=its.any (eqU x) by simp,uM r fs];exact q
 obtain⟨its,r,pl,hz⟩:=I.tuple hq;refine SeqAt.in_tupleAt (eqU x) pl (λw hw=>rM rx fx r fs w (by simpa using hw)) ⟨.bl _,H,I,rfl,?_⟩;rw[show its.toArray.any (eqU x)=its.any (eqU x) by simp,uM r fs];exact q
theorem dI.or{f:ON}{r r':List V->Hp->VK->Prop}(h:dI X f r)(h':dI X f r'):dI X f (λxs H Q=>r xs H Q\/r' xs H Q):=by
 intro pins s σ H xs us Q I rs q;rcases q with q|q
 ·exact h pins s σ H xs us Q I rs q
 exact h' pins s σ H xs us Q I rs q
theorem vc:dI X (.type "list") (λxs H Q=>∃p ys,xs=[.ref p]/\(SqL X.K H p ys\/SqT X.K H p ys)/\∀l,H l=UU->Q (.ref l) (upd H l (.lst ys))):=by
 intro pins s σ H xs us Q I r h;obtain⟨p,ys,rfl,hq,q⟩:=h;obtain⟨u,rfl,rx⟩:=Vb r;cases rx;have fin:∀(its:List ON),U1 ys its->ys.length<=sizeLine->∀(h':O8)(c':Nat),(∀b o',s.heap.get? b=UT o'->h'.get? b=UT o')->
   h'.get? s.heap.objs.size=UT { cls:=.type "list",dict:=UU,data:=.seq its.toArray c',slots:=#[] }->EP X pins σ Q (.ref s.heap.objs.size) { s with heap:=h' }:=λits r' hz h' c' kp e=>
  ⟨.ref s.heap.objs.size,_,I.laid (t':=s.toks) kp (KI _) (show dB X.prog X.w _ h' _ (.lst ys)from⟨hz,its,c',r',e⟩),rfl,q _ (I.hok.fresh (KI _))⟩
 rcases hq with hq|hq
 ·obtain⟨its,r',pl,hz⟩:=I.list hq;have hlen:=r'.length;obtain⟨o,ho,hc,n,hd⟩:=pl.isList;exact call_list_seq p (.inl rfl) ho hc hd (λh' c' kp e=>fin its r' hz h' c' kp e) (by simp only[KO]<;>omega)
 obtain⟨its,r',pl,hz⟩:=I.tuple hq;have hlen:=r'.length;obtain⟨o,ho,hc,n,hd⟩:=pl;exact call_list_seq p (.inr rfl) ho hc hd (λh' c' kp e=>fin its r' hz h' c' kp e) (by simp only[KO]<;>omega)
def tyV(K:OQ)(T:String)(x:V)(H:Hp):Prop:=match x with
 | .str _=>T="str"
 | .int _=>T="int"
 | .ref p=>(T="list"/\∃xs,SqL K H p xs)\/(T="tuple"/\∃o,K.lookup p=UT o/\o.cls=.type "tuple"/\o.dict=UU)\/
   (T="dict"/\((∃kvs,H p=UT (.dK kvs))\/∃kvs,H p=UT (.dT kvs)))\/(T="set"/\∃S n,H p=UT (.set S n))
 |_=>False
theorem Ds{pins:List (OM×Obj)}{σ:St}{H:Hp}{s:OO}{T:String}{x:V}{v:ON}(I:Inv X pins σ H s)(r:U2 x v)(ty:tyV X.K T x H) :
  s.TypeIs v T/\∀a,v=.ref a->∃ob,s.heap.get? a=UT ob/\ob.dict=UU:=by
 cases x with
 |str z=>
  obtain⟨t,rfl⟩:=r
  cases (show T="str" from ty)
  exact⟨SK s z t,λ_ e=>nomatch e⟩
 |int i=>
  obtain⟨t,rfl⟩:=r
  cases (show T="int" from ty)
  exact⟨UB s i t,λ_ e=>nomatch e⟩
 |ref p=>
  cases r
  rcases ty with⟨rfl,xs,hq⟩|⟨rfl,o,hk,hc,hd⟩|⟨rfl,hk⟩|⟨rfl,S,n,hk⟩
  ·obtain⟨its,_,pl,_⟩:=I.list hq;refine⟨pl.isList.typeIs,λa e=>?_⟩;cases e;obtain⟨o,n,e,c,hd,_⟩:=pl;exact⟨o,e,hd⟩
  ·refine⟨⟨o,I.kIn p o hk,hc⟩,λa e=>?_⟩;cases e;exact⟨o,I.kIn _ o hk,hd⟩
  ·have z:∃o,s.heap.get? p=UT o/\o.ExactDict:=by
    rcases hk with⟨kvs,hk⟩|⟨kvs,hk⟩
    ·obtain⟨_,_,_,_,o,_,_,e,ex,_⟩:=I.hok p _ hk;exact⟨o,e,ex⟩
    obtain⟨_,_,_,_,o,_,_,e,ex,_⟩:=I.hok p _ hk;exact⟨o,e,ex⟩
   obtain⟨o,e,ex⟩:=z;refine⟨⟨o,e,ex.1⟩,λa e2=>?_⟩;cases e2;exact⟨o,e,ex.2.1⟩
  obtain⟨o,_,_,_,e,ex,_⟩:=I.hok p _ hk
  refine⟨⟨o,e,ex.1⟩,λa e2=>?_⟩
  cases e2
  exact⟨o,e,ex.2.1⟩
 |_=>exact PB ty
def Jg(K:OQ)(T:String)(r:V->List V->Hp->VK->Prop)(to:TE):TE:=λσ H Q=>to σ H λx H1=>tyV K T x H1/\r x [] H1 Q
def tBM(K:OQ)(T:String)(r:V->List V->Hp->VK->Prop)(to:TE)(t:TA):TE:=λσ H Q=>to σ H λx H1=>tyV K T x H1/\t σ H1 λxs H2=>r x xs H2 Q
variable{o e:Expr}{es:List Expr}{to:TE}{t:TA}{name:Str}{apos cpos:Pos}{T id:String}{r:V->List V->Hp->VK->Prop}
theorem Hw(pa:PlainAttrs T)(slot:Slot T name id)(hty:typeOf (.builtin id)=pure (.type "method_descriptor"))(hm:MtR X id r)(ho:PE X o to)
  (hbase:PH o name X.env (Pn o X.env)=Pn o X.env:=by rfl) (hline:(apos.endLine==cpos.line)=true:=by rfl):PE X (.Call (.Attribute o name apos) [] [] cpos) (Jg X.K T r to):=by
 intro pins s σ H Q I h
 refine wpAny_Call_method0_late hbase hline (thn (ho pins s σ H _ I h) λv s1 ⟨x,H1,I1,r1,ty,q1⟩=>?_)
 obtain⟨h1,h2⟩:=Ds I1 r1 ty
 exact⟨T,id,pa,slot,hty,h1,h2,Qs rfl (PySem.evalArgs_none (hm pins s1 σ H1 x [] v [] Q I1 r1 .nil q1))⟩
theorem Fm(pa:PlainAttrs T)(slot:Slot T name id)(hty:typeOf (.builtin id)=pure (.type "method_descriptor"))(hm:MtR X id r)(ho:PE X o to)(ha:PA X (e::es) t)
  (hbase:PH o name X.env (Pn o X.env)=Pn o X.env:=by rfl)
  (hfew:((Pw cpos (OV (e::es) X.env)).all (λx=>!x.1)&&(QZ cpos (Qb [] X.env)).all (λx=>x.1.isSome)
   &&decide ((e::es).length+([]:List QH).length+(if([]:List QH).isEmpty then 0 else 1)<30))=true:=by rfl)
  (hline:(apos.endLine==cpos.line)=true:=by rfl) (hs:OV (e::es) X.env=(false,Pn e X.env)::OV es X.env:=by rfl) (hplain:(Pw cpos (OV es X.env)).any (·.1)=false:=by rfl) :
  PE X (.Call (.Attribute o name apos) (e::es) [] cpos) (tBM X.K T r to t):=by
 intro pins s σ H Q I h
 refine wpAny_Call_method_late hbase hfew hline rfl (thn (ho pins s σ H _ I h) λv s1 ⟨x,H1,I1,r1,ty,q1⟩=>?_)
 obtain⟨h1,h2⟩:=Ds I1 r1 ty
 refine⟨T,id,pa,slot,hty,h1,h2,?_⟩
 have hA:=ha cpos pins s1 σ H1 _ I1 q1
 rw[hs]at hA⊢
 refine Qs (by show(false||(Pw cpos (OV es X.env)).any (·.1))=false;rw[hplain]<;>rfl) (R0 ?_)
 exact thn hA λus s2 ⟨vs,H2,I2,r2,q2⟩=>hm pins s2 σ H2 x vs v us Q I2 r1 r2 q2
end
def MtM(X:Cx)(id:String)(r:V->List V->Hp->VK->Prop):Prop:=
 ∀(pins:List (OM×Obj))(s:OO)(σ:St)(H:Hp)(x:V)(xs:List V)(v:ON)(us:List ON)(Q:VK),Inv X pins σ H s->U2 x v->U1 xs us->r x xs H Q->
  wpAny (OZ X.prog X.w) X.A (call (.builtin id) (v::us)) (EP X pins σ Q) X.xe s
theorem U1.one:∀{x:V}{us:List ON},U1 [x] us->∃u,us=[u]/\U2 x u
 |_,_,.cons r .nil=>⟨_,rfl,r⟩
theorem U1.zero:∀{us:List ON},U1 [] us->us=[]
 |_,.nil=>rfl
theorem U1.dropLast{xs:List V}{us:List ON}(h:U1 xs us):U1 xs.dropLast us.dropLast:=by
 induction h with
 |nil=>exact .nil
 |cons r t ih=>
  cases t with
  |nil=>exact .nil
  |cons q t'=>exact .cons r ih
theorem U1.rep{xs:List V}{us:List ON}(h:U1 xs us):∀k:Nat,U1 (O0 k xs).flatten (O0 k us).flatten
 |0=>.nil
 |k+1=>by
  rw[Ls,Ls,Mq,Mq];exact U1.append h (U1.rep h k)
theorem yZ{α:Type}(l:List α):l.eraseIdx (l.length-1)=l.dropLast:=by
 induction l with
 |nil=>rfl
 |cons a r ih=>
  cases r with
  |nil=>rfl
  |cons b r=>
   have e:(a::b::r).length-1=((b::r).length-1)+1:=by
    have h1:(a::b::r).length=r.length+2:=rfl;have h2:(b::r).length=r.length+1:=rfl;omega
   rw[e,List.eraseIdx_cons_succ,ih];all_goals rfl
theorem Vc(its:List ON):∀(k:Nat)(acc:List ON),
  UC (λx1 x2=>x1++x2) acc.toArray (O0 k its.toArray)=(acc++(O0 k its).flatten).toArray
 |0,acc=>by simp
 |k+1,acc=>by
  have e:acc.toArray++its.toArray=(acc++its).toArray:=by simp
  have e2:(acc++its)++(O0 k its).flatten=acc++(O0 (k+1) its).flatten:=by
   rw[Ls,Mq,Li]
  rw[<-e2,<-Vc its k (acc++its),<-e,Ls,ML]
section
variable{X:Cx}{pins:List (OM×Obj)}{σ:St}{H:Hp}{s:OO}{l b:OM}{xs ys zs:List V}
theorem Inv.Io{its its':List ON}{n:Nat}{f:Array ON->Array ON}{t':Nat}(I:Inv X pins σ H s)(hH:H l=UT (.lst xs))
  (e:s.heap.get? l=UT { cls:=.type "list",data:=.seq its.toArray n }) (hf:f its.toArray=its'.toArray) (hv:U1 ys its') (hz:ys.length<=sizeLine) :
  Inv X pins σ (upd H l (.lst ys)) { s with heap:=s.heap.update l (RG f),toks:=t' }:=by
 have q:=PySem.IsL.update e f
 rw[hf]at q
 refine I.write (x:=l) (e:=l) (by rw[hH];exact trivial) (.inl rfl) (λb' u hb hu=>(RH s.heap (RG f) (Lv hb)).trans hu) ⟨_,q⟩ ?_
 exact⟨hz,its',_,hv,q⟩
theorem Inv.GU{its:List ON}{t':Nat}(I:Inv X pins σ H s)(hv:U1 ys its)(hz:ys.length<=sizeLine) :
  Inv X pins σ (upd H s.heap.objs.size (.lst ys)) { s with heap:=s.heap.push { cls:=.type "list",data:=.seq its.toArray },toks:=t' }:=
 I.laid (λ_ _ q=>OR _ q) (KI _) ⟨hz,its,0,hv,O3 _ rfl⟩
theorem Inv.fresh(I:Inv X pins σ H s):H s.heap.objs.size=UU:=I.hok.fresh (KI _)
theorem Inv.C5(I:Inv X pins σ H s)(hH:H l=UT (.lst xs)):xs.length<=sizeLine/\∃(its:List ON)(n:Nat),U1 xs its/\xs.length=its.length/\s.heap.get? l=UT { cls:=.type "list",data:=.seq its.toArray n }:=by
 obtain⟨z,its,n,r,e⟩:=I.hok l _ hH;exact⟨z,its,n,r,r.length,e⟩
theorem Bl{n:Nat}(h:n<=sizeLine):Qi n=false:=by
 unfold Qi;exact decide_eq_false (by omega)
end
section
variable{X:Cx}
inductive vn(x:V)(vs:List V)(H:Hp)(Q:VK):Prop
 |mk(l:OM)(xs:List V)(y:V)(h0:x=.ref l)(h1:vs=[y])(h2:H l=UT (.lst xs))(h3:xs.length<sizeLine)(q:Q .non (upd H l (.lst (xs++[y])))):vn x vs H Q
theorem tQ:MtM X "list.append" vn:=by
 intro pins s σ H x vs v us Q I rx rv h;obtain⟨l,xs,y,rfl,rfl,hH,hz,q⟩:=h;cases rx;obtain⟨u,rfl,ru⟩:=rv.one;obtain⟨z,its,n,r,hl,e⟩:=I.C5 hH;refine Q2 F.slot_list_append ⟨_,e,rfl⟩ F.entry_list_append (F.args_list_append_2 _ _) (PySem.list_append l its.toArray n u (by rw[KO];omega)) ⟨e,?_⟩;refine⟨.non,_,I.Io (its':=its++[u]) hH e (by simp) (r.append (.cons ru .nil)) ?_,rfl,q⟩;rw[Kz,Lo];omega
inductive HP(x:V)(vs:List V)(H:Hp)(Q:VK):Prop
 |mk(l:OM)(xs:List V)(y:V)(h0:x=.ref l)(h1:vs=[])(h2:H l=UT (.lst xs))(h3:xs[xs.length-1]?=UT y)(q:Q y (upd H l (.lst xs.dropLast))):HP x vs H Q
theorem Fu:MtM X "list.pop" HP:=by
 intro pins s σ H x vs v us Q I rx rv h;obtain⟨l,xs,y,rfl,rfl,hH,hy,q⟩:=h;cases rx;have hus:=rv.zero;subst hus;obtain⟨z,its,n,r,hl,e⟩:=I.C5 hH;obtain⟨u,hu,ru⟩:=r.get hy;have hy':its.toArray[its.toArray.size-1]?=UT u:=by
  show its.toArray[its.length-1]?=UT u;rw[<-Mu,<-hl];exact hu
 refine Q2 F.slot_list_pop ⟨_,e,rfl⟩ F.entry_list_pop (F.args_list_pop_1 _) (MeetsSeq.list_pop_last l its.toArray n u hy' (by rw[KO];omega)) ⟨e,?_⟩;refine⟨y,_,I.Io (its':=its.dropLast) hH e ?_ r.dropLast ?_,ru,q⟩
 ·show its.toArray.eraseIdxIfInBounds (its.toArray.size-1)=its.dropLast.toArray;rw[KO,List.eraseIdxIfInBounds_toArray,yZ]
 rw[List.length_dropLast];omega
def Jp:R2:=λx y H Q=>∃l b xs zs,x=.ref l/\y=.ref b/\H l=UT (.lst xs)/\H b=UT (.lst zs)/\xs.length+zs.length<=sizeLine/\∀p,H p=UU->Q (.ref p) (upd H p (.lst (xs++zs)))
theorem HF:OpR X (Pp .Add) Jp:=by
 intro pins s σ H x y v u Q I rx ry h;obtain⟨l,b,xs,zs,rfl,rfl,hH,hB,hz,q⟩:=h;cases rx;cases ry;obtain⟨z,its,n,r,hl,e⟩:=I.C5 hH;obtain⟨z2,its2,n2,r2,hl2,e2⟩:=I.C5 hB;refine PySem.P.add_list e e2 ?_ (by rw[KO,KO];omega);have ea:its.toArray++its2.toArray=(its++its2).toArray:=by simp
 rw[ea];exact⟨.ref _,_,I.GU (t':=s.toks) (r.append r2) (by rw[Kz];omega),rfl,q _ I.fresh⟩
def JR:R2:=λx y H Q=>∃l k xs,x=.ref l/\y=.int k/\H l=UT (.lst xs)/\-(2^63)<=k/\k<2^63/\xs.length*k.toNat<=sizeLine/\
 ∀p,H p=UU->Q (.ref p) (upd H p (.lst (O0 k.toNat xs).flatten))
theorem len_rep{α:Type}(xs:List α)(k:Nat):(O0 k xs).flatten.length=k*xs.length:=by
 induction k with
 |zero=>simp
 |succ k ih=>rw[Ls,Mq,Kz,ih,Nat.succ_mul,Nat.add_comm]
theorem G8:OpR X (Pp .Mult) JR:=by
 intro pins s σ H x y v u Q I rx ry h;obtain⟨l,k,xs,rfl,rfl,hH,h1,h2,hz,q⟩:=h;cases rx;obtain⟨t,rfl⟩:=ry;obtain⟨z,its,n,r,hl,e⟩:=I.C5 hH;have hlen:its.toArray.size*k.toNat<=sizeLine:=by rw[KO,<-hl];exact hz
 have hcap:¬ its.toArray.size*k.toNat>(2^63-1)/8:=by
  have:(sizeLine:Nat)<=(2^63-1)/8:=by decide
  omega
 have hfit:¬ (!Builtin.List.listFitsIndex k)=true:=by
  rw[fitsIndex_both h1 h2];exact KL
 have hlong:¬ Qi (its.toArray.size*k.toNat)=true:=by
  rw[Bl hlen];exact KL
 have hnew:UC (λx1 x2=>x1++x2) #[] (O0 (if its.toArray.isEmpty=true then 0 else k.toNat) its.toArray)=(O0 k.toNat its).flatten.toArray:=by
  have f0:∀m:Nat,UC (λx1 x2=>x1++x2) #[] (O0 m its.toArray)=(O0 m its).flatten.toArray:=λm=>by
   have:=Vc its m [];rw[Ul]at this;exact this
  rw[f0];cases its with
  |nil=>simp
  |cons a r'=>rw[if_neg (by simp)]
 refine wpAny_binaryOp_repeat_ref (T:="list") (U:="int") (by decide) ⟨_,e,rfl⟩ (λs'=>UB s' k t) noFill_list_mul F.fills_int_mul Um repeat_list F.slot_int_index.lookup
  (Q2 Um (UB s k t) F.entry_int_rmul (F.args_int_rmul_2 _ _) (int___rmul___int_list k t l its.toArray n)
   ⟨e,rfl,⟨_,e,rfl⟩,Q2 F.slot_list_mul ⟨_,e,rfl⟩ F.entry_list_mul (F.args_list_mul_2 _ _) (AutoListH.list___mul___list_int_3 l its.toArray n k t hfit hcap hlong) ⟨e,?_⟩⟩)
 rw[hnew];exact⟨.ref _,_,I.GU (t':=s.toks) (r.rep k.toNat) (by rw[len_rep,Nat.mul_comm];exact hz),rfl,q _ I.fresh⟩
end
section
variable{prog:Program}{w:OX}{A:O7}{E:ON->OO->Prop}{s:OO}
end
section
variable{X:Cx}
end
end L2
namespace Att
open PySem PySem.W PySem.Calls PyProof.Rows
theorem pU{P:P2}{h:O8}:∀(ns:List Int)(vs:List ON),WellAll P h vs (ns.map WData.int)->Tt vs ns:=by
 intro ns;induction ns with
 |nil=>
  intro vs w;rw[MK]at w;cases w;exact .nil
 |cons n ns ih=>
  intro vs w;rw[KQ]at w;cases w with
  |cons a b=>
   cases a;exact .cons _ _ (ih _ b)
theorem AV{l:OpenLaw}{n:Nat}(hn:l.most=UT n){P:P2}{h:O8}{args:List WData}{vals:List ON}
  (hpre:l.row.toRowW.claim.pre args=true) (hwl:WellAll P h vals args) :
  ∃a vs ns,vals=[OY a]/\args=[WData.list (ns.map WData.int)]/\h.get? a=UT { cls:=.type "list",data:=.seq vs.toArray }/\Tt vs ns/\ns.length<=n:=by
 have hsh:WShape.hasAll [] args [.list .int]=true:=(pre_splitW hpre).1
 have hc:l.pre.holds [] { args:=args }=true:=(pre_splitW hpre).2
 obtain⟨d,r,rfl,h1,h2⟩:=hasAllW_cons hsh
 obtain rfl:=hasAllW_nil h2
 obtain⟨xs,rfl,h3⟩:=hasW_list h1
 obtain⟨ns,rfl⟩:=items_int h3
 have hlen:ns.length<=n:=by
  unfold OpenLaw.pre at hc;have h4:(WTm.not (.lt (.lit (.int (n:Int))) (.len (.arg 0)))).holds [] { args:=[.list (ns.map .int)] }=true:=by
   have h4:=(holds_andW hc).1;rw[hn]at h4;exact h4
  have h5:=condW_of h4 (w_not (w_lt w_lit (w_len_list (w_arg rfl))));rw[Ky]at h5;refine Nat.le_of_not_lt λq=>?_;have q':(n:Int)<((ns.length:Nat):Int):=by omega
  first
   | (rw[decide_eq_true q']at h5;exact absurd h5 (by decide))
   | (simp at h5;omega)
 cases hwl with
 |cons w1 w2=>
  cases w2
  cases w1 with
  |list ho hall=>exact⟨_,_,ns,rfl,rfl,ho,pU ns _ hall,hlen⟩
theorem Ap(l:OpenLaw)(args:List WData):l.row.toRowW.claim.post args (.bool true) args=true:=
 postW_of (r:=l.row.toRowW) (X:=(true==true))
  (show WShape.has [] (.bool true) .bool=true by first|rfl|decide|simp[WShape.has,WShape.arms,WShape.armsAll])
  (show(WTm.eq .res (.lit (.bool true))).value [] { args:=args,res:=UT (.bool true),after:=args }=UT (.bool (true==true))from w_eq_bool (w_res rfl) w_lit) rfl
theorem wL{l:OpenLaw}{n:Nat}{q:Program}{loose:List Str}{XP:(Str->Option ON)->O8->Prop}{YP:OX->O8->Prop}{d:DefRec}
  (hn:l.most=UT n) (hdf:d.params.defaults=[])
  (call:∀(w:OX)(s₀ s₁:OO)(mg mb:Str->Option ON)(fa:OM)(o:Obj)(pm cd doc:ON)(a:OM)(vs:List ON)(ns:List Int),
   Ground q loose [] XP w s₀ mg mb s₁.heap->YP w s₁.heap->
   s₁.heap.get? fa=UT o->o.data=.func (docDef d.name d.params d.body d.scope pm cd doc)->s₁.heap.CodeRec cd d.name->mg d.name=UT (.ref fa)->
   s₁.heap.get? a=UT { cls:=.type "list",data:=.seq vs.toArray }->Tt vs ns->ns.length<=n->s₁.gens=#[]->
   codeAny (OZ l.prog w) Sr (.call (.ref fa) ⟨[.ref a],[]⟩) (λr s'=>r=.ok (.ret (.bool true))/\OldK s₁.heap s'.heap/\s'.os=s₁.os/\Q6 s'.gens) s₁) :
  WalkO q loose XP YP l.row.toRowW d [] (λf vs=>UD f vs):=by
 intro w s₀ s₁ mg mb G Y fa o pm cd doc dV kV ho hd hcd hD hmg hg args vals as hpre hlay hrd hwl hlo
 obtain rfl:dV=.none:=Dflts.none hD hdf
 obtain rfl:kV=.none:=Dflts.noKw hD
 obtain⟨a,vs,ns,rfl,rfl,hobj,hints,hlen⟩:=AV hn hpre hwl
 refine enter_call (RC (call w s₀ s₁ mg mb fa o pm cd doc a vs ns G Y ho (fd_plain hd) hcd hmg hobj hints hlen hg) λr s' hq=>?_)
 obtain⟨rfl,h2,h3,h4⟩:=hq
 exact⟨.inl ⟨.bool true,.bool true,[],rfl,λ_=>rfl,.bool true,Ap l _,λ_=>⟨List.Pairwise.nil,λ_ hm=>(nomatch hm)⟩⟩,h2,h3,h4⟩
section
variable{prog:Program}{w:OX}{A:O7}{E:ON->OO->Prop}{s:OO}{K:Frag}
end
end Att
namespace L2
open PySem PySem.Spec PyProof.Rows
theorem sO:∀{vs:List ON}{ns:List Int},Tt vs ns->U1 (ns.map V.int) vs
 |_,_,.nil=>.nil
 |_,_,.cons n t h=>.cons ⟨t,rfl⟩ (sO h)
def HG(H:Hp):Prop:=∀b,H b=UU\/∃o xs,H b=UT (.frz o (.lst xs))
theorem Bp{P:Program}{w:OX}{K:OQ}{mg mb:Str->Option ON}{CX:CXT}{k:Nat}{fa a:OM}{fd:PV}{x:Str}{sp:Sp}{s₁:OO}{vs:List ON}{ns:List Int}
  (KX:K.In s₁.heap) (hns:s₁.heap.Ns O5 mg) (hb:s₁.heap.Ns Rv mb) (hbb:∀x:Str,x≠"__name__"->mb x=PU x) (hlim:s₁.heap.NoLimit) (hg:s₁.gens=#[])
  (ha:s₁.heap.get? a=UT { cls:=.type "list",data:=.seq vs.toArray }) (hi:Tt vs ns) (hl:ns.length<=sizeLine) (hr:fi k Sr)
  (F:∀base:O8,K.In base->base.Ns O5 mg->kP P w K mg base CX k fa fd [x] sp) (hbind:∀(s:OO)(u:ON),So s fd ⟨[u],[]⟩ [(x,u)])
  (hsp:∀H:Hp,HG H->SqL K H a (ns.map V.int)->sp [.ref a] H (λv _=>v=.bl true) λ_ _ _=>False)
  (hCX:∀H e s',CX [] H s₁ (λ_ _ _=>False) e s'->False) :
  codeAny (OZ P w) Sr (.call (.ref fa) ⟨[.ref a],[]⟩) (λr s'=>r=.ok (.ret (.bool true))/\OldK s₁.heap s'.heap/\s'.os=s₁.os/\Q6 s'.gens) s₁:=by
 have rv:=sO hi
 have lenV:=hi.length
 have core:∀H:Hp,HG H->SqL K H a (ns.map V.int)->HOk P w H s₁.heap->(∀b,H b≠UU->b=a)->(H a≠UU->K.lookup a=UU)->
   codeAny (OZ P w) Sr (.call (.ref fa) ⟨[.ref a],[]⟩) (λr s'=>r=.ok (.ret (.bool true))/\OldK s₁.heap s'.heap/\s'.os=s₁.os/\Q6 s'.gens) s₁:=by
  intro H hO hS hok hA hK
  have base_of:∀{b:OM}{o:Obj},s₁.heap.get? b=UT o->H b=UU->(vv s₁.heap H).get? b=UT o:=λe n=>CW e n
  have noA:∀{b:OM}{o:Obj}{es:Array TJ}{ep:Nat},s₁.heap.get? b=UT o->o.data=.dict es ep->H b=UU:=λ{b o es ep} e d=>by
   cases q:H b with
   |none=>rfl
   |some u=>
    have e':b=a:=hA b (by rw[q];simp);subst e';rw[ha]at e;cases e;have d':Data.seq vs.toArray _=Data.dict es ep:=d;cases d'
  have nsK:∀{b:OM}{m:Str->Option ON},s₁.heap.Ns b m->(vv s₁.heap H).Ns b m:=λ{b m} ⟨o,es,ep,e,d,r⟩=>⟨o,es,ep,base_of e (noA e d),d,r⟩
  have hKb:K.In (vv s₁.heap H):=λb o e=>base_of (KX b o e) (by
   cases q:H b with
   |none=>rfl
   |some u=>
    have e':b=a:=hA b (by rw[q];simp);subst e';rw[hK (by rw[q];simp)]at e;cases e)
  have hM:Mod K mg (vv s₁.heap H):=⟨hKb,nsK hns,⟨mb,nsK hb,hbb⟩,let ⟨mc,h1,h2⟩:=hlim;⟨mc,nsK h1,h2⟩⟩
  have e0:xJ P w K mg (vv s₁.heap H) Sr [] s₁ H:=⟨rfl,hM,λb o e=>EV e,Nt (AA _ _),trivial,λb hb=>absurd (show b∈([]:List OM)from hb) (by simp),hok,.of_eq hg⟩
  refine RC ((F _ hKb (nsK hns)).run Sr [] s₁ H ⟨[.ref a],[]⟩ [.ref a] [.ref a] _ _ hr e0 (hbind s₁ (.ref a)) (.cons rfl .nil) (hsp H hO hS)) λr s' h=>?_
  cases r with
  |error e=>exact(hCX H e s' h).elim
  |ok fl=>
   cases fl with
   |next=>exact PB h
   |brk=>exact PB h
   |cont=>exact PB h
   |ret u=>
    obtain⟨v,H',os,bare,un,hok',r',q⟩:=h
    have q':v=.bl true:=q
    subst q'
    obtain rfl:u=Ru true:=r'
    refine⟨rfl,OldK.of_keep λb o e=>?_,os,bare⟩
    cases q:H b with
    |none=>exact un.keep b o e q (by intro z;exact absurd (show b∈([]:List OM)from z) (by simp)) (by simp)
    |some u=>
     rcases hO b with z|⟨ob,xs,z⟩
     ·rw[q]at z;cases z
     have z2:=un.sJ b ob _ z
     obtain⟨e1,_⟩:=hok b _ z
     obtain⟨e2,_⟩:=hok' b _ z2
     rw[e]at e1;cases e1
     exact e2
 cases hk:K.lookup a with
 |some o=>
  have e:=KX a o hk
  rw[ha]at e
  cases e
  refine core (λ_=>UU) (λ_=>.inl rfl) (.inr ⟨_,vs.toArray,_,hk,rfl,rfl,rfl,by rw[KO,lenV];exact hl,by simpa using rv⟩) (λb u z=>by have z':(UU:Option HO)=UT u:=z;cases z') (λb z=>absurd rfl z) λz=>absurd rfl z
 |none=>
  refine core (λb=>if b=a then UT (.frz { cls:=.type "list",data:=.seq vs.toArray } (.lst (ns.map V.int)))else UU) (λb=>?_) (.inl (.inr ⟨{ cls:=.type "list",data:=.seq vs.toArray },if_pos rfl⟩)) (λb u z=>?_) (λb z=>?_) λ_=>hk
  ·by_cases hb:b=a
   ·exact .inr ⟨_,_,if_pos hb⟩
   exact .inl (if_neg hb)
  ·by_cases hb:b=a
   ·have z':=(if_pos hb).symm.trans z;cases z';subst hb;exact⟨ha,by rw[Ky];exact hl,vs,_,rv,ha⟩
   have z':=(if_neg hb).symm.trans z;cases z'
  by_cases hb:b=a
  ·exact hb
  exact absurd (if_neg hb) z
theorem DW{l:TK}{n k:Nat}{q:Program}{loose:List Str}{XP:(Str->Option ON)->O8->Prop}{YP:OX->O8->Prop}{d:DefRec}{K:P2->OQ}{CX:OX->CXT}{sp:OX->Sp}{x:Str}
  (hn:l.most=UT n) (hn2:n<=sizeLine) (hdf:d.params.defaults=[]) (hr:fi k Sr)
  (hY:∀(w:OX)(h:O8),YP w h->(K w.params).In h)
  (F:∀(w:OX)(mg:Str->Option ON)(fa:OM)(h:O8),(K w.params).In h->h.Ns O5 mg->mg d.name=UT (.ref fa)->
   ∃fd:PV,(∀(s:OO)(u:ON),So s fd ⟨[u],[]⟩ [(x,u)])/\
    ∀base:O8,(K w.params).In base->base.Ns O5 mg->kP l.prog w (K w.params) mg base (CX w) k fa fd [x] (sp w))
  (hsp:∀(w:OX)(H:Hp)(a:OM)(ns:List Int),ns.length<=n->HG H->SqL (K w.params) H a (ns.map V.int)->sp w [.ref a] H (λv _=>v=.bl true) λ_ _ _=>False)
  (hCX:∀(w:OX)(H:Hp)(s:OO)(e:ON)(s':OO),CX w [] H s (λ_ _ _=>False) e s'->False) :
  W.WalkO q loose XP YP l.row.toRowW d [] (λf vs=>UD f vs):=by
 refine Att.wL hn hdf λw s₀ s₁ mg mb fa o pm cd doc a vs ns G Y ho hd hcd hmg hobj hints hlen hg=>?_
 have KX:=hY w _ Y
 obtain⟨fd,hb,hF⟩:=F w mg fa _ KX G.T.g hmg
 exact Bp KX G.T.g G.T.b G.T.builtins G.T.nolimit hg hobj hints (KS hlen hn2) hr hF hb (λH hO hS=>hsp w H a ns hlen hO hS) λH e s'=>hCX w H s₁ e s'
abbrev CX0:CXT:=λ_ _ _ _ _ _=>False
abbrev E0:XK:=λ_ _ _=>False
theorem vF{X:Cx}:U8 CX0 X E0:=λ_ _ _ _ _ _ _ h=>h.elim
structure Fun(K:OQ)(x qual:Str)(st:O9)(f:OM)(fd:PV):Prop where
 ex:∃(oc:ON)(od:Option OM)(kV doc pm:ON)(an:Option OM)(cdv ct:ON)(osl:Array (Option ON)),
  fd=Qr x qual (eO st) (dq st) (au st) .none kV doc pm an cdv ct/\K.lookup f=UT ⟨oc,od,.func fd,osl⟩/\RZ K cdv qual=true
 kp:Qh K (.ref f)=true
section
variable{P:Program}{w:OX}{K:OQ}{mg:Str->Option ON}{base:O8}
theorem Fun.ok{x qual:Str}{st:O9}{f:OM}{fd:PV}{N ps:List Str}{k:Nat}{sp:Sp}(F:Fun K x qual st f fd)(S:ay N ps (au st))(len:∀vs H Q E,sp vs H Q E->vs.length=ps.length)
  (hbody:∀(cdv:ON)(A:O7)(outer:List Env)(s:OO)(H:Hp)(vs:List V)(Q:VK)(E:XK),fi k (A.deeper (QL qual (au st) s.heap.objs.size f cdv))->sp vs H Q E->
   ∃t,PSs (vZ CX0 P w K mg base N qual (au st) f cdv A outer s H E).nox (dq st) t/\t { nx:=λ_ H'=>Q .non H',rt:=Q } (U9 N vs) H):kP P w K mg base CX0 (k+1) f fd ps sp:=by
 obtain⟨oc,od,kV,doc,pm,an,cdv,ct,osl,rfl,lk,hcd⟩:=F.ex
 refine Ih lk hcd S len λA outer s H vs Q E hr hsp=>?_
 obtain⟨t,h,q⟩:=hbody cdv A outer s H vs Q E hr hsp
 exact⟨t,h.nox,q⟩
theorem Fun.binds{x qual:Str}{st:O9}{f:OM}{fd:PV}{ps:List Str}(F:Fun K x qual st f fd)
  (h:∀(kV doc pm:ON)(an:Option OM)(cdv ct:ON)(us:List ON),us.length=ps.length->RY (Qr x qual (eO st) (dq st) (au st) .none kV doc pm an cdv ct) ⟨us,[]⟩=pure (ps.zip us)):U5 K fd ps []:=by
 obtain⟨oc,od,kV,doc,pm,an,cdv,ct,osl,rfl,lk,hcd⟩:=F.ex
 exact .all (h kV doc pm an cdv ct)
theorem u6{x qual:Str}{st:O9}{f:OM}{oc:ON}{od an:Option OM}{osl:Array (Option ON)}{kV doc pm cdv ct:ON}(l:K.lookup f=UT ⟨oc,od,.func (Qr x qual (eO st) (dq st) (au st) .none kV doc pm an cdv ct),osl⟩)
  (c:RZ K cdv qual=true) (k:Qh K (.ref f)=true):Fun K x qual st f (Qr x qual (eO st) (dq st) (au st) .none kV doc pm an cdv ct):=⟨⟨oc,od,kV,doc,pm,an,cdv,ct,osl,rfl,l,c⟩,k⟩
end
theorem az{n:Nat}(h:n<=1000):n<sizeLine:=Nc h (by decide)
section
variable{X:Cx}
end
theorem bH{A B:Prop}(h:B):if false=true then A else B:=by
 rw[if_neg KL];exact h
theorem dO{A B:Prop}(h:A):if true=true then A else B:=by
 rw[if_pos rfl];exact h
theorem aE{c A B:Prop}[Decidable c](h1:c->A)(h2:¬ c->B):if c then A else B:=by
 by_cases h:c
 ·rw[if_pos h];exact h1 h
 rw[if_neg h];exact h2 h
def aq(H H':Hp):Prop:=∀b o,H b=UT o->H' b=UT o
theorem aq.refl(H:Hp):aq H H:=λ_ _ h=>h
theorem aq.trans{H H1 H2:Hp}(a:aq H H1)(b:aq H1 H2):aq H H2:=λc o h=>b c o (a c o h)
theorem aq.free{H H':Hp}(e:aq H H'){l:OM}(h:H' l=Px):H l=Px:=by
 cases q:H l with
 |none=>rfl
 |some o=>
  rw[e l o q]at h;cases h
theorem aq.seq{K:OQ}{H H':Hp}{a:OM}{xs:List V}(e:aq H H')(h:SqL K H a xs):SqL K H' a xs:=by
 rcases h with(h|⟨o,h⟩)|h
 ·exact .inl (.inl (e _ _ h))
 ·exact .inl (.inr ⟨o,e _ _ h⟩)
 exact .inr h
theorem pD{α β:Type}{l:List α}{f:α->β->Sem (ForInStep β)}(g:β->α->β)(c:β)(h:∀x∈l,∀c,f x c=pure (.yield (g c x))) :
  forIn l c f=pure (l.foldl g c):=by
 induction l generalizing c with
 |nil=>rfl
 |cons x l ih=>
  rw[List.forIn_cons,h x Kv,pure_bind]
  exact ih _ λy hy=>h y (Kx _ hy)
def fX(env:Env)(cs:List (Str×OM))(x:Str×PY):List (Str×OM):=
 if x.2== .free then(x.1,(env.cells.lookup x.1).getD 0)::cs else cs
def qE(env:Env)(names:List (Str×PY)):List (Str×OM):=names.foldl (fX env) []
theorem pX{scope:Qo}{env:Env}(h:∀x∈scope.names,x.2=.free->∃c,env.cells.lookup x.1=UT c):closureFor scope env=pure (qE env scope.names):=by
 simp only[closureFor];rw[pD (fX env) [] (λx hx c=>by
  obtain⟨n,kind⟩:=x;cases hk:kind==Po with
  |false=>simp only[fX,hk,SN,if_false]
  |true=>
   obtain⟨a,ha⟩:=h (n,kind) hx (by simpa using hk);have ha':env.cells.lookup n=UT a:=ha;simp only[fX,hk,if_true,cellOf,ha',TY,pure_bind])]
 rfl
theorem qF{env:Env}:∀{names:List (Str×PY)}{cs:List (Str×OM)}{n:Str}{c:OM},(n,c)∈names.foldl (fX env) cs->(n,c)∈cs\/((n,Po)∈names/\c=(env.cells.lookup n).getD 0)
 | [],_,_,_,h=>.inl h
 | (m,k)::r,cs,n,c,h=>by
  rcases qF (names:=r) (cs:=fX env cs (m,k)) h with h|⟨h,e⟩
  ·unfold fX at h;by_cases hk:(k==Po)=true
   ·rw[if_pos hk]at h;rcases Ku.mp h with e|h
    ·cases e;have hk':k=.free:=by simpa using hk
     subst hk';exact .inr ⟨Kv,rfl⟩
    exact .inl h
   rw[if_neg hk]at h;exact .inl h
  exact .inr ⟨Kx _ h,e⟩
theorem uh{env:Env}{p:Str×OM}:∀{names:List (Str×PY)}{cs:List (Str×OM)},p∈cs->p∈names.foldl (fX env) cs
 | [],_,h=>h
 |x::r,cs,h=>uh (names:=r) (cs:=fX env cs x) (by
  unfold fX;split
  ·exact Kx _ h
  exact h)
theorem uw{env:Env}{n:Str}:∀{names:List (Str×PY)}{cs:List (Str×OM)},(n,Po)∈names->(n,(env.cells.lookup n).getD 0)∈names.foldl (fX env) cs
 |x::r,cs,h=>by
  rcases Ku.mp h with e|h
  ·subst e;refine uh (names:=r) (cs:=fX env cs (n,.free)) ?_;unfold fX;rw[if_pos (by rfl)];exact Kv
  exact uw (names:=r) h
theorem jB{α:Type}:∀{l:List (Str×α)}{n:Str}{c:α},(n,c)∈l->∃c',l.lookup n=UT c'
 | (k,v)::r,n,c,h=>by
  rw[Me];cases hb:n==k with
  |true=>exact⟨v,rfl⟩
  |false=>
   rcases Ku.mp h with e|h
   ·cases e;simp at hb
   exact jB h
theorem gu:∀{names:List (Str×PY)}{k:Nat}{acc:List (Str×OM)}{n:Str}{c:OM},(n,c)∈Pl k names acc->(n,c)∈acc\/(k<=c/\(n,Pd)∈names)
 | [],_,_,_,_,h=>.inl h
 | (m,kd)::r,k,acc,n,c,h=>by
  unfold Pl at h;by_cases hk:(kd==Pd)=true
  ·rw[if_pos hk]at h;have hk':kd=.cell:=by simpa using hk
   subst hk';rcases gu (names:=r) h with h|⟨h1,h2⟩
   ·rcases Ku.mp h with e|h
    ·cases e;exact .inr ⟨KI _,Kv⟩
    exact .inl h
   exact .inr ⟨by omega,Kx _ h2⟩
  rw[if_neg hk]at h;rcases gu (names:=r) h with h|⟨h1,h2⟩
  ·exact .inl h
  exact .inr ⟨h1,Kx _ h2⟩
theorem jX:∀{names:List (Str×PY)}{k:Nat}{acc:List (Str×OM)},(∀n c,(n,c)∈acc->c<k)->(∀n n' c,(n,c)∈acc->(n',c)∈acc->n=n')->
  ∀{n n':Str}{c:OM},(n,c)∈Pl k names acc->(n',c)∈Pl k names acc->n=n'
 | [],_,_,_,hi,_,_,_,h,h'=>hi _ _ _ h h'
 | (m,kd)::r,k,acc,hl,hi,n,n',c,h,h'=>by
  unfold Pl at h h';by_cases hk:(kd==Pd)=true
  ·rw[if_pos hk]at h h';refine jX (names:=r) (acc:=(m,k)::acc) (λa b hab=>?_) (λa a' b ha ha'=>?_) h h'
   ·rcases Ku.mp hab with e|e
    ·cases e;exact Mi _
    exact Mr (hl _ _ e)
   rcases Ku.mp ha with e|e<;>rcases Ku.mp ha' with e'|e'
   ·cases e;cases e';rfl
   ·cases e;exact absurd (hl _ _ e') (LS _)
   ·cases e';exact absurd (hl _ _ e) (LS _)
   exact hi _ _ _ e e'
  rw[if_neg hk]at h h';exact jX (names:=r) hl hi h h'
theorem iw:∀{names:List (Str×PY)}{h:O8}{acc:List (Str×OM)}{n:Str}{c:OM},(n,c)∈Pl h.objs.size names acc->(n,c)∈acc\/(QF h names).IsCell c UU
 | [],_,_,_,_,q=>.inl q
 | (m,kd)::r,h,acc,n,c,q=>by
  unfold Pl at q;unfold QF;by_cases hk:(kd==Pd)=true
  ·rw[if_pos hk]at q;rw[if_pos hk];have e:h.objs.size+1=(h.push { cls:=.type "cell",data:=.cell UU }).objs.size:=(PL ..).symm;rw[e]at q;rcases iw (names:=r) q with q|q
   ·rcases Ku.mp q with e'|q
    ·cases e';exact .inr ⟨_,Qm r _ _ _ (O3 _ rfl),rfl⟩
    exact .inl q
   exact .inr q
  rw[if_neg hk]at q;rw[if_neg hk];exact iw (names:=r) q
theorem jS{x:Str}:∀{names:List (Str×PY)}{k:Nat}{acc:List (Str×OM)},(x,Pd)∉names->(Pl k names acc).lookup x=acc.lookup x
 | [],_,_,_=>rfl
 | (m,kd)::r,k,acc,h=>by
  unfold Pl;have hr:(x,Pd)∉r:=λz=>h (Kx _ z);by_cases hk:(kd==Pd)=true
  ·have hk':kd=.cell:=by simpa using hk
   subst hk';rw[if_pos hk,jS hr,Me];have ne:(x==m)=false:=by
    cases hb:x==m with
    |false=>rfl
    |true=>exact absurd (by rw[beq_iff_eq.mp hb];exact Kv) h
   rw[ne]
  rw[if_neg hk];exact jS hr
section
variable{M:Model}{A:O7}{E:ON->OO->Prop}{s:OO}
theorem xh{scope:Qo}{globals:OM}{cl:List (Str×OM)}{qual:Str}{BF:Env}{Q:Env->OO->Prop}
  (h:Q (newEnv scope s.heap.objs.size globals (Pl (s.heap.objs.size+1) scope.names cl) qual UU .none (UT BF) Rv) { s with heap:=QF (s.heap.push { cls:=.type "dict",data:=.dict #[] }) scope.names }) :
  wpAny M A (UE scope globals cl [] qual UU .none (UT BF)) Q E s:=by
 simp only[UE,SO,if_true]
 refine OP (wpAny_alloc ?_)
 refine OP (wpAny_layCells _ (λname kind cells=>by cases hkc:kind==Pd<;>simp[hkc]) _ _ _ _ ?_)
 rw[show({ s with heap:=s.heap.push { cls:=.type "dict",data:=.dict #[] } }:OO).heap.objs.size=s.heap.objs.size+1 from PL ..]
 refine OP ?_
 rw[List.forIn_nil]
 exact OT (OT h)
end
structure CB where
 C:OM
 ex:List OM
 s:OO
 H:Hp
def cxC(X:Cx)(N:List Str)(scope:Qo)(b:CB):Cx:={ X with
 N:=N
 s₀:=b.s
 H₀:=b.H
 env:=compEnvC scope (Pl (b.C+1) scope.names (qE X.env scope.names)) b.C X.env
 outer:=X.stack
 ex:=b.ex
 fn:=λx=>scope.names.lookup x==UT .cell
 pn:=[]
 xe:=λ_ _=>False }
theorem mE{env:Env}{x:Str}:∀{names:List (Str×PY)},
  (names.map λ(n,k)=>if(k==Po&&env.scope.kind== .function&&env.kindOf n==UT .cell)then(n,Pd)else(n,k)).lookup x=
   (names.lookup x).map λk=>if(k==Po&&env.scope.kind== .function&&env.kindOf x==UT .cell)then Pd else k
 | []=>rfl
 | (n,k)::r=>by
  have ih:=@mE env x r;show Qa x ((if(k==Po&&env.scope.kind== .function&&env.kindOf n==UT .cell)=true then(n,Pd)else(n,k))::_)=_;cases hx:x==n with
  |true=>
   have e:x=n:=beq_iff_eq.mp hx;subst e;by_cases hc:(k==Po&&env.scope.kind== .function&&env.kindOf x==UT .cell)=true
   ·rw[if_pos hc];simp only[Me,hx,My,hc,if_true]
   rw[if_neg hc];simp only[Me,hx,My];rw[if_neg hc]
  |false=>
   by_cases hc:(k==Po&&env.scope.kind== .function&&env.kindOf n==UT .cell)=true
   ·rw[if_pos hc];simp only[Me,hx];exact ih
   rw[if_neg hc];simp only[Me,hx];exact ih
structure cQ(psc:Qo)(PN N:List Str)(own:Nat)(fr:List Nat)(scope:Qo):Prop where
 kind:scope.kind=.function
 nd:(scope.names.map (·.1)).Nodup
 free:∀x∈scope.names,x.2=.free->psc.names.lookup x.1=UT .cell\/psc.names.lookup x.1=UT .free
 len:N.length=own+fr.length
 frn:∀i,i<fr.length->N[own+i]?=(fr[i]?).bind λj=>PN[j]?
 frk:∀i,i<fr.length->∀y,N[own+i]?=UT y->scope.names.lookup y=UT .free
def zH(psc:Qo)(PN N:List Str)(own:Nat)(fr:List Nat)(scope:Qo):Bool:=
 scope.kind== .function&&decide (scope.names.map (·.1)).Nodup&&scope.names.all (λx=>x.2 != .free||(psc.names.lookup x.1==UT .cell||psc.names.lookup x.1==UT .free))&&
  (N.length==own+fr.length)&&((fr.map λj=>PN[j]?)==(N.drop own).map UT)&&(N.drop own).all (λy=>scope.names.lookup y==UT .free)
theorem cQ.of{psc:Qo}{PN N:List Str}{own:Nat}{fr:List Nat}{scope:Qo}(h:zH psc PN N own fr scope=true):cQ psc PN N own fr scope:=by
 unfold zH at h;simp only[Mb]at h;obtain⟨⟨⟨⟨⟨h1,h2⟩,h3⟩,h4⟩,h5⟩,h6⟩:=h;have h4':N.length=own+fr.length:=eq_of_beq h4;have h5':(fr.map λj=>PN[j]?)=(N.drop own).map UT:=eq_of_beq h5;have dr:∀i,N[own+i]?=(N.drop own)[i]?:=λi=>by rw[List.getElem?_drop]
 refine⟨eq_of_beq h1,of_decide_eq_true h2,λx hx hk=>?_,h4',λi hi=>?_,λi hi y hy=>?_⟩
 ·have q:=Ml.mp h3 x hx;rw[hk]at q;simpa using q
 ·have q:=congrArg (λl=>l[i]?) h5';simp only[KP]at q;rw[dr];have ej:fr[i]?=UT fr[i]:=Kw hi;rw[ej]at q⊢;cases e:(N.drop own)[i]? with
  |none=>rw[e]at q;cases q
  |some y=>
   rw[e]at q;exact(OS q).symm
 rw[dr]at hy;have q:=Ml.mp h6 y (KG hy);simpa using q
def cSt(own:Nat)(fr:List Nat)(σ:St):St:=O0 own UU++fr.map λj=>(σ[j]?).getD UU
theorem g8{α:Type}:∀{l:List (Str×α)}{n:Str}{k:α},(l.map (·.1)).Nodup->(n,k)∈l->l.lookup n=UT k
 | (m,v)::r,n,k,nd,h=>by
  rw[KQ,KW]at nd;rw[Me];rcases Ku.mp h with e|h
  ·cases e;simp
  have ne:(n==m)=false:=by
   cases hb:n==m with
   |false=>rfl
   |true=>exact absurd (KU.mpr ⟨(n,k),h,beq_iff_eq.mp hb⟩) nd.1
  rw[ne];exact g8 nd.2 h
section
variable{X:Cx}{pins:List (OM×Obj)}{σ:St}{H:Hp}{s:OO}{N:List Str}{own:Nat}{fr:List Nat}{scope:Qo}
theorem cQ.cells(S:cQ X.env.scope X.N N own fr scope)(ok:X.Ok):∀x∈scope.names,x.2=.free->∃c,X.env.cells.lookup x.1=UT c:=λx hx hk=>
 ok.has x.1 (S.free x hx hk)
theorem cQ.cl(S:cQ X.env.scope X.N N own fr scope)(ok:X.Ok){n:Str}{c:OM}(h:(n,c)∈qE X.env scope.names):X.env.cells.lookup n=UT c:=by
 rcases qF h with h|⟨h,e⟩
 ·cases h
 obtain⟨c',e'⟩:=S.cells ok (n,.free) h rfl;have e2:X.env.cells.lookup n=UT c':=e';rw[e2]at e;rw[e,e2];rfl
theorem CQ{D C:OM}{h':O8}{fp:List OM}(S:cQ X.env.scope X.N N own fr scope)(I:Inv X pins σ H s)(hD:D=s.heap.objs.size)(hC:C=s.heap.objs.size+1)
  (hh:h'=QF ((s.heap.push { cls:=.type "list",data:=.seq #[] }).push { cls:=.type "dict",data:=.dict #[] }) scope.names) (hfp:∀b∈fp,rG X pins H b) (hlt:∀b∈fp,b<s.heap.objs.size) :
  Inv (cxC X N scope ⟨C,fp,s,H⟩) [] (cSt own fr σ) (upd H D (.lst [])) { s with heap:=h' }:=by
 subst hD hC
 have eD:(s.heap.push { cls:=.type "list",data:=.seq #[] }).objs.size=s.heap.objs.size+1:=PL ..
 have eC:((s.heap.push { cls:=.type "list",data:=.seq #[] }).push { cls:=.type "dict",data:=.dict #[] }).objs.size=s.heap.objs.size+2:=by rw[PL,eD]
 have keep:∀b o,s.heap.get? b=UT o->h'.get? b=UT o:=λb o e=>by
  rw[hh];exact Qm _ _ _ _ (OR _ (OR _ e))
 have lst:h'.get? s.heap.objs.size=UT { cls:=.type "list",data:=.seq #[] }:=by
  rw[hh];exact Qm _ _ _ _ (OR _ (O3 _ rfl))
 have dct:h'.get? (s.heap.objs.size+1)=UT { cls:=.type "dict",data:=.dict #[] }:=by
  rw[hh];refine Qm _ _ _ _ ?_;have:=O3 (s.heap.push { cls:=.type "list",data:=.seq #[] }) (o:={ cls:=.type "dict",data:=.dict #[] }) rfl;rw[eD]at this;exact this
 have hnD:H s.heap.objs.size=UU:=I.hok.fresh (KI _)
 have hnC:H (s.heap.objs.size+1)=UU:=I.hok.fresh (Np _)
 have inCl:∀{n:Str}{c:OM},(n,c)∈qE X.env scope.names->X.env.cells.lookup n=UT c:=λh=>S.cl I.ok h
 have clt:∀{n:Str}{c:OM},X.env.cells.lookup n=UT c->c<s.heap.objs.size:=λh=>by
  obtain⟨v,z⟩:=I.cell _ _ h;exact z.lt
 have cases_:∀{n:Str}{c:OM},(Pl (s.heap.objs.size+1+1) scope.names (qE X.env scope.names)).lookup n=UT c->X.env.cells.lookup n=UT c\/(s.heap.objs.size+2<=c/\(n,Pd)∈scope.names/\h'.IsCell c UU):=λ{n c} h=>by
  have hm:=O6 h;have hcell:=hm;rw[show s.heap.objs.size+1+1=((s.heap.push { cls:=.type "list",data:=.seq #[] }).push { cls:=.type "dict",data:=.dict #[] }).objs.size from eC.symm]at hcell;rcases gu hm with h1|⟨h1,h2⟩
  ·exact .inl (inCl h1)
  rcases iw hcell with h3|h3
  ·exact .inl (inCl h3)
  exact .inr ⟨h1,h2,by rw[hh];exact h3⟩
 have kindOf:∀x,(cxC X N scope ⟨s.heap.objs.size+1,fp,s,H⟩).env.kindOf x=(scope.names.lookup x).map λk=>if(k==Po&&X.env.scope.kind== .function&&X.env.kindOf x==UT .cell)then Pd else k:=λx=>mE
 have hasName:∀x,((cxC X N scope ⟨s.heap.objs.size+1,fp,s,H⟩).env.kindOf x=UT .cell\/(cxC X N scope ⟨s.heap.objs.size+1,fp,s,H⟩).env.kindOf x=UT .free)->∃c,(Pl (s.heap.objs.size+1+1) scope.names (qE X.env scope.names)).lookup x=UT c:=λx hx=>by
  rw[kindOf]at hx;have h2:scope.names.lookup x=UT .cell\/scope.names.lookup x=UT .free:=by
   cases e:scope.names.lookup x with
   |none=>rw[e]at hx;rcases hx with z|z<;>cases z
   |some k=>
    rw[e]at hx;by_cases hk:k=.free
    ·exact .inr (by rw[hk])
    have hk':(k==Po)=false:=by simpa using hk
    simp only[My,hk',Uv,SN,if_false]at hx;rcases hx with z|z
    ·exact .inl z
    exact .inr z
  rcases h2 with h2|h2
  ·exact MB.mp (QC scope.names _ _ (.inl h2))
  obtain⟨c,hc⟩:=jB (uw (env:=X.env) (cs:=[]) (O6 h2));exact MB.mp (QC scope.names _ _ (.inr (by rw[show(qE X.env scope.names).lookup x=UT c from hc];rfl)))
 have cellAt:∀x c,(Pl (s.heap.objs.size+1+1) scope.names (qE X.env scope.names)).lookup x=UT c->∃v,h'.IsCell c v:=λx c e=>by
  rcases cases_ e with q|⟨_,_,q⟩
  ·obtain⟨v,o,ho,hd⟩:=I.cell x c q;exact⟨v,o,keep c o ho,hd⟩
  exact⟨UU,q⟩
 refine⟨⟨I.ok.mod,S.kind,I.ok.glob,I.ok.blt,Np _,λy z c h1 h2=>?_,hasName,λy c hy h=>?_,I.ok.hd,I.ok.frames,.inl rfl,λb hb=>⟨?_,λx c e z=>?_⟩,λb o e=>I.bs b o e,KS I.ok.bsz I.sz,λb o e hb=>?_,λb hb hf=>?_,I.stack,I.zx⟩,
  rfl,I.bare,?_,⟨λ_=>UU,⟨_,#[],_,dct,rfl,λe he=>absurd he (by simp),λ_=>rfl⟩,λi x v h1 h2 h3=>?_⟩,cellAt,?_,λx c e=>?_,λp hp=>absurd (show p∈([]:List (OM×Obj))from hp) (by simp),?_,?_⟩
 ·
  refine jX (λn c hm=>?_) (λn n' c hm hm'=>I.ok.inj n n' c (inCl hm) (inCl hm')) (O6 h1) (O6 h2);exact Mr (Mr (clt (inCl hm)))
 ·
  have hy':scope.names.lookup y=UT .cell:=by simpa using (show(scope.names.lookup y==UT .cell)=true from hy)
  rcases cases_ h with q|⟨q,_⟩
  ·rcases gu (O6 h)with q2|⟨q2,_⟩
   ·rcases qF q2 with z|⟨z,_⟩
    ·cases z
    have:=g8 S.nd z;rw[hy']at this;cases this
   exact KS (LK _ 2) q2
  exact KS (LK _ 2) q
 ·exact Lp (Mr (hlt b hb))
 ·rcases cases_ e with q|⟨q,_⟩
  ·exact(hfp b hb).2.2.2.2.1 x c q z
  have hb':=hlt b hb;rw[<-z]at hb';exact absurd (KZ hb' (KS (LK _ 2) q)) (LS _)
 ·rcases(hfp b hb).2.2.2.1 with z|z
  ·exact I.ok.Df b o e z
  exact LS _ (KZ (OW e) (KS I.ok.bsz z))
 ·rcases Ku.mp (I.xO b hf)with z|z
  ·exact(hfp b hb).2.1 z
  exact(hfp b hb).2.2.1 z
 ·exact Un.laid keep (KI _) hnD
 ·
  have h1:N[i]?=UT x:=h1;have hlen:i<N.length:=(KH.mp h1).1;by_cases hi:i<own
  ·exfalso;have h2':(cSt own fr σ)[i]?=UT UU:=by
    unfold cSt;rw[LX (by simpa using hi),Rk,if_pos hi]
   rw[h2']at h2;cases h2
  have hfi:i-own<fr.length:=by have:=S.len;omega
  have ei:own+(i-own)=i:=by omega
  have hk:=S.frk (i-own) hfi x (by rw[ei];exact h1);have hn:=S.frn (i-own) hfi;rw[ei,h1]at hn;have ej:fr[i-own]?=UT fr[i-own]:=Kw hfi;rw[ej]at hn;have hn':X.N[fr[i-own]]?=UT x:=hn.symm;have h2':(cSt own fr σ)[i]?=UT ((σ[fr[i-own]]?).getD UU):=by
   unfold cSt;rw[Mf (by simpa using Nat.not_lt.mp hi),LW,KP,ej];rfl
  rw[h2']at h2;have h2'':(σ[fr[i-own]]?).getD UU=UT v:=OS h2;have hσ:σ[fr[i-own]]?=UT (UT v):=by
   cases e:σ[fr[i-own]]? with
   |none=>rw[e]at h2'';cases h2''
   |some w=>rw[e]at h2'';exact congrArg UT h2''
  obtain⟨m,hm,hl⟩:=I.loc;have hfree:=S.free (x,.free) (O6 hk) rfl;obtain⟨u,r,l⟩:=hl _ x v hn' hσ (hfree.elim (λz=>.inr (.inl z)) λz=>.inr (.inr z));refine⟨u,r,.inr ?_⟩;have hcell:∃c,X.env.cells.lookup x=UT c/\s.heap.IsCell c (UT u):=by
   rcases l with⟨l,_⟩|⟨_,c,e,z⟩
   ·exfalso;rcases hfree with z|z
    ·have l':X.env.scope.names.lookup x=UT .local:=l
     have z':X.env.scope.names.lookup x=UT .cell:=z;rw[l']at z';cases z'
    have l':X.env.scope.names.lookup x=UT .local:=l
    have z':X.env.scope.names.lookup x=UT .free:=z;rw[l']at z';cases z'
   exact⟨c,e,z⟩
  obtain⟨c,e,o,ho,hd⟩:=hcell;refine⟨?_,c,?_,o,keep c o ho,hd⟩
  ·rw[kindOf,hk];by_cases z:(X.env.scope.kind== .function&&X.env.kindOf x==UT .cell)=true
   ·left
    simp only[My,beq_self_eq_true,Nr,z,if_true]
   right
   simp only[My,beq_self_eq_true,Nr];rw[if_neg z]
  show(Pl (s.heap.objs.size+1+1) scope.names (qE X.env scope.names)).lookup x=UT c;rw[jS λz=>by
   have:=g8 S.nd z;rw[hk]at this;cases this]
  obtain⟨c',hc'⟩:=jB (uw (env:=X.env) (cs:=[]) (O6 hk));have hc2:(qE X.env scope.names).lookup x=UT c':=hc';rw[hc2];have:=inCl (O6 hc2);rw[e]at this;exact this.symm
 ·show upd H s.heap.objs.size (.lst []) (s.heap.objs.size+1)=UU;rw[aw (MJ (Mi _))];exact hnC
 ·rcases cases_ e with q|⟨q,_⟩
  ·have:=clt q;rw[aw (Lp this)];exact I.lN x c q
  rw[aw (MJ (KZ (Nat.lt_add_of_pos_right (by decide)) q))];exact I.hok.fresh (KS (LK _ 2) q)
 ·exact I.hok.laid keep (KI _) ⟨KY _,[],0,.nil,lst⟩
 show(cSt own fr σ).length=N.length
 unfold cSt
 rw[Kz,LW,Ky,S.len]
end
def PF(X:Cx)(ifs:List Expr)(t:TT):Prop:=
 ∀(pins:List (OM×Obj))(s:OO)(σ:St)(H:Hp)(Q:Bool->Hp->Prop),Inv X pins σ H s->t σ H Q->
  wpAny (OZ X.prog X.w) X.A (forIn ifs true λc r=>if r=true then do let ok<-isTrue c X.env (Pn c X.env);pure (QM ok)else pure (QM r)) (TP X pins σ Q) X.xe s
def G9:TT:=λ_ H Q=>Q true H
theorem qU{X:Cx}:PF X [] G9:=λ_ _ _ H _ I h=>wpAny_tests_nil ⟨H,I,h⟩
theorem nK{X:Cx}{c:Expr}{t:TT}(h:PT X c t):PF X [c] t:=λpins s σ H Q I hw=>wpAny_tests_one (h pins s σ H Q I hw)
theorem uW{prog:Program}{w:OX}{A:O7}{R:UR->OO->Prop}{s:OO}{elt target iter:Expr}{ifs:List Expr}{scope:Qo}{pos:Pos}{it acc:ON}{env:Env}(I:Nat->OO->Prop)
  (turn:∀n s,I n s->wpAny (OZ prog w) A (pyNext it) (λr s₁=>match r with
   |none=>R (.ok .next) s₁
   |some v=>wpAny (OZ prog w) A (QK target it v) (λ_ s₁'=>wpAny (OZ prog w) A (assign target env v) (λ_ s₂=>
     wpAny (OZ prog w) A (forIn ifs true λc r=>if r=true then do let ok<-isTrue c env (Pn c env);pure (QM ok)else pure (QM r)) (λok s₃=>
      if ok=true then wpAny (OZ prog w) A (Pn elt env) (λx s₄=>
       wpAny (OZ prog w) A (call (.builtin "list.append") [acc,x]) (λ_ s₅=>∃m,m<n/\I m s₅) (λ_ _=>False) s₄) (λ_ _=>False) s₃
      else ∃m,m<n/\I m s₃) (λ_ _=>False) s₂) (λ_ _=>False) s₁') (λ_ _=>False) s₁) (λ_ _=>False) s)
  (n:Nat) (h:I n s) :
  codeAny (OZ prog w) A (.compLoop (.ListComp elt [⟨target,iter,ifs,0⟩] scope pos) 0 it acc env) R s:=by
 refine codeAny_loop rfl I (λn s hI=>?_) n h
 show wpAny _ A ((compTurn (.ListComp elt [⟨target,iter,ifs,0⟩] scope pos) 0 it acc env).onRaise (λx=>do noteFrame x env;theTreesLotGoes x)) _ _ s
 refine wpAny_noted ?_
 rw[compTurn_list]
 have no:∀{α:Type}{t:Sem α}{Q:α->OO->Prop}{E':ON->OO->Prop}{s':OO},wpAny (OZ prog w) A t Q (λ_ _=>False) s'->wpAny (OZ prog w) A t Q E' s':=λh=>PK h (λ_ _ q=>q) λ_ _ z=>z.elim
 refine OP (Sy (OP (no (PK (turn n s hI) (λr s₁ h₁=>?_) λ_ _ h'=>h'))))
 cases r with
 |none=>exact OT h₁
 |some v=>
  refine OP (no (PK h₁ (λ_ s₁' h₁'=>?_) λ_ _ h'=>h'))
  refine OP (no (PK h₁' (λ_ s₂ h₂=>OP (no (PK h₂ (λok s₃ h₃=>?_) λ_ _ h'=>h'))) λ_ _ h'=>h'))
  cases ok with
  |false=>exact OT ⟨rfl,h₃⟩
  |true=>
   exact OP (OP (no (PK h₃ (λx s₄ h₄=>OP (no (PK h₄ (λ_ s₅ h₅=>OT (OT ⟨rfl,h₅⟩)) λ_ _ h'=>h'))) λ_ _ h'=>h')))
structure om(J:It)(own:Nat)(fr:List Nat)(g:CB->TG)(tf:CB->TT)(te:CB->TE)(Q:VK)(σ:St)(H1:Hp):Prop where
 go:∀(b:CB)(D:OM),H1 D=UU->∃W:Nat->Nat->St->Hp->Prop,(∃m,W 0 m (cSt own fr σ) (upd H1 D (.lst [])))/\∀i m σ' H',W i m σ' H'->
  (J.stop i H'/\Q (.ref D) H')\/(J.go i H'/\∃M:St->Hp->Prop,(∀σ2 H2,M σ2 H2->∃m',m'<m/\W (i+1) m' σ2 H2)/\∀x H2,J.yld i H' x H2->g b x σ' H2 λσ3 H3=>tf b σ3 H3 λk H4=>
   if k=true then te b σ3 H4 λy H5=>∃ys,H5 D=UT (.lst ys)/\ys.length<sizeLine/\M σ3 (upd H5 D (.lst (ys++[y])))else M σ3 H4)
def By(wi:TI)(own:Nat)(fr:List Nat)(g:CB->TG)(tf:CB->TT)(te:CB->TE):TE:=λσ H Q=>wi σ H λJ H1=>om J own fr g tf te Q σ H1
section
variable{X:Cx}{tg iter elt:Expr}{ifs:List Expr}{scope:Qo}{pos:Pos}{N:List Str}{own:Nat}{fr:List Nat}{wi:TI}{g:CB->TG}{tf:CB->TT}{te:CB->TE}
theorem vQ{use:Option (ON->Sem Unit)}{R:ON->OO->Prop}{pins:List (OM×Obj)}{s:OO}{σ:St}{H:Hp}{Q:VK}(S:cQ X.env.scope X.N N own fr scope)(hc:X.calm=true)(hi:PI X tg iter wi)
  (hg:∀b,PG (cxC X N scope b) tg (g b)) (hf:∀b,PF (cxC X N scope b) ifs (tf b)) (he:∀b,PE (cxC X N scope b) elt (te b)) (hs:∀x,foldedSetIterable iter X.env x=pure x) (I:Inv X pins σ H s) (h:By wi own fr g tf te σ H Q)
  (fin:∀(D C:OM)(oC:Obj)(m:Str->Option ON)(H':Hp)(s':OO),Inv X (pins++[(C,oC)]) σ H' s'->X.s₀.heap.objs.size<=C->(∀p∈X.pn++pins,p.1≠C)->(∀h':O8,h'.get? C=UT oC->h'.Ns C m)->Q (.ref D) H'->UG (OZ X.prog X.w) X.A X.xe use R (.ref D) C (.ok .next) s') :
  wpAny (OZ X.prog X.w) X.A (comprehension (.ListComp elt [⟨tg,iter,ifs,0⟩] scope pos) scope X.env (firstIterPos [⟨tg,iter,ifs,0⟩] pos) (newList []) false (Pn iter X.env) use) R X.xe s:=by
 refine wpAny_comprehension_free rfl hs (pX (S.cells I.ok)) S.kind (λx hx hk=>?_) (thn (hi pins s σ H _ I h) λv s1 h1=>thn h1 λitv s2 h2=>?_)
 ·have:=g8 S.nd (show(x.1,x.2)∈scope.names from hx);rw[this,hk]
 obtain⟨it,fp,tn,J,H2,e,I2,T,st2,f2,q⟩:=h2
 subst e
 refine P8 ?_
 refine xh ?_
 have eD:(s2.heap.push { cls:=.type "list",data:=.seq #[] }).objs.size=s2.heap.objs.size+1:=PL ..
 have hD:H2 s2.heap.objs.size=UU:=I2.hok.fresh (KI _)
 have hlt:∀b∈fp,b<s2.heap.objs.size:=λb hb=>by
  obtain⟨o,ho,_⟩:=T.obj 0 _ st2 b hb;exact OW ho
 obtain⟨W,⟨m0,w0⟩,turn⟩:=q.go ⟨s2.heap.objs.size+1,fp,s2,H2⟩ s2.heap.objs.size hD
 have IX:=CQ (fp:=fp) S I2 rfl rfl rfl f2 hlt
 have st4:tn 0 (QF ((s2.heap.push { cls:=.type "list",data:=.seq #[] }).push { cls:=.type "dict",data:=.dict #[] }) scope.names):=
  T.keep 0 _ _ st2 λb _ o e=>Qm _ _ _ _ (OR _ (OR _ e))
 have fr0:∀b∈fp,upd H2 s2.heap.objs.size (.lst []) b=UU:=λb hb=>by
  rw[aw (Lp (hlt b hb))];exact(f2 b hb).1
 have cne:∀b∈fp,∀x c,(cxC X N scope ⟨s2.heap.objs.size+1,fp,s2,H2⟩).env.cells.lookup x=UT c->c≠b:=λb hb=>((IX.ok.exf b hb).2)
 have stat:∀{H':Hp},(∀b∈fp,H' b=UU)->∀b∈fp,rG (cxC X N scope ⟨s2.heap.objs.size+1,fp,s2,H2⟩) [] H' b:=λhn b hb=>
  ⟨hn b hb,(IX.ok.exf b hb).1,IX.ok.BG b hb,.inl hb,cne b hb,λp hp=>absurd (show p∈([]:List (OM×Obj))from hp) (by simp)⟩
 have e4:∀cenv:Env,cenv=newEnv scope (s2.heap.push { cls:=.type "list",data:=.seq #[] }).objs.size X.env.globals (Pl ((s2.heap.push { cls:=.type "list",data:=.seq #[] }).objs.size+1) scope.names (qE X.env scope.names)) X.env.qual UU .none (UT X.env) Rv->
   ({ cenv with scope:=relabel scope X.env }:Env)=(cxC X N scope ⟨s2.heap.objs.size+1,fp,s2,H2⟩).env/\cenv.locals=s2.heap.objs.size+1:=λcenv e=>by
  subst e
  rw[eD]
  exact⟨rfl,rfl⟩
 obtain⟨e5,e6⟩:=e4 _ rfl
 have loop:codeAny (OZ X.prog X.w) X.A (.compLoop (.ListComp elt [⟨tg,iter,ifs,0⟩] scope pos) 0 (.ref it) (.ref s2.heap.objs.size) (cxC X N scope ⟨s2.heap.objs.size+1,fp,s2,H2⟩).env)
   (UG (OZ X.prog X.w) X.A X.xe use R (.ref s2.heap.objs.size) (s2.heap.objs.size+1)) { s2 with heap:=QF ((s2.heap.push { cls:=.type "list",data:=.seq #[] }).push { cls:=.type "dict",data:=.dict #[] }) scope.names }:=by
  refine uW (λn s'=>∃i σ' H',Inv (cxC X N scope ⟨s2.heap.objs.size+1,fp,s2,H2⟩) [] σ' H' s'/\tn i s'.heap/\(∀b∈fp,H' b=UU)/\W i n σ' H') ?_ m0 ⟨0,_,_,IX,st4,fr0,w0⟩
  rintro n s5 ⟨i,σ5,H5,I5,st5,fr5,w5⟩
  rcases turn i n σ5 H5 w5 with⟨stop,qn⟩|⟨go,M,hM,step⟩
  ·refine thn (T.done (cxC X N scope ⟨s2.heap.objs.size+1,fp,s2,H2⟩) rfl rfl rfl hc i [] s5 σ5 H5 (λ_ _=>False) I5 (stat fr5) st5 stop) λr s6 ⟨hr,I6⟩=>?_;subst hr;obtain⟨m,hn,_⟩:=I6.loc;obtain⟨oC,es,ep,hoC,hd,hk,hm⟩:=id hn;have IB:Inv X pins σ H5 s6:=I2.JE (ch:=fp) I6.os I6.base I6.hok I6.bare λb hb=>⟨(f2 b hb).2.2.2.1,(f2 b hb).2.1,(f2 b hb).2.2.2.2.1,(f2 b hb).2.2.2.2.2⟩;have young:s2.heap.objs.size<=s2.heap.objs.size+1:=Np _;refine fin s2.heap.objs.size (s2.heap.objs.size+1) oC m H5 s6 (IB.uE λp hp=>?_) (KS I2.sz young) (λp hp=>Lp (KZ (OW (I2.pin p hp).1) young)) (λh' e=>⟨oC,es,ep,e,hd,hk,hm⟩) qn;rcases KA.mp hp with z|z
   ·exact IB.pin p (KR _ z)
   have ep':p=(s2.heap.objs.size+1,oC):=by simpa using z
   subst ep';exact⟨hoC,I6.free,MJ (KZ I2.lt young),I2.IG young,λv z=>by rw[hd]at z;cases z⟩
  refine thn (T.item (cxC X N scope ⟨s2.heap.objs.size+1,fp,s2,H2⟩) rfl rfl rfl hc i [] s5 σ5 H5 (λ_ _=>False) I5 (stat fr5) st5 go) λr s6 ⟨u,hr,h6⟩=>?_
  subst hr
  refine thn h6 λ_ s7 ⟨x,H7,I7,r7,y7,st7,fr7⟩=>?_
  have I7':=I7.pinned (stat fr7) (T.obj _ _ st7)
  refine thn (hg _ _ s7 σ5 H7 x u _ I7' r7 (step x H7 y7)) λ_ s8 ⟨σ8,H8,I8,q8⟩=>?_
  refine thn (hf _ _ s8 σ8 H8 _ I8 q8) λk s9 ⟨H9,I9,q9⟩=>?_
  have again:∀{H10:Hp}{s10:OO},Inv (cxC X N scope ⟨s2.heap.objs.size+1,fp,s2,H2⟩) ([]++rB fp s7.heap) σ8 H10 s10->M σ8 H10->
    ∃m,m<n/\∃i σ' H',Inv (cxC X N scope ⟨s2.heap.objs.size+1,fp,s2,H2⟩) [] σ' H' s10/\tn i s10.heap/\(∀b∈fp,H' b=UU)/\W i m σ' H':=λ{H10 s10} I10 q10=>by
   obtain⟨m',hm,w10⟩:=hM σ8 H10 q10
   refine⟨m',hm,i+1,σ8,H10,I10.l8,T.keep _ _ _ st7 λb hb o e=>(I10.pin (b,o) (KR _ (KR _ (kQ hb e)))).1,λb hb=>?_,w10⟩
   obtain⟨o,e,d⟩:=T.obj _ _ st7 b hb
   exact(I10.pin (b,o) (KR _ (KR _ (kQ hb e)))).2.1
  cases k with
  |false=>exact again I9 q9
  |true=>
   refine thn (he _ _ s9 σ8 H9 _ I9 q9) λw10 s10 ⟨y,H10,I10,r10,ys,hys,hz,q10⟩=>?_
   refine thn (tQ _ s10 σ8 H10 (.ref s2.heap.objs.size) [y] (.ref s2.heap.objs.size) [w10] (λ_ H'=>M σ8 H') I10 rfl (.cons r10 .nil) ⟨_,ys,y,rfl,rfl,hys,hz,q10⟩) λ_ s11 ⟨_,H11,I11,_,q11⟩=>?_
   exact again I11 q11
 have go:codeAny (OZ X.prog X.w) X.A (.compStart (.ListComp elt [⟨tg,iter,ifs,0⟩] scope pos) 0 (.ref it) (.ref s2.heap.objs.size) (cxC X N scope ⟨s2.heap.objs.size+1,fp,s2,H2⟩).env)
   (UG (OZ X.prog X.w) X.A X.xe use R (.ref s2.heap.objs.size) (s2.heap.objs.size+1)) { s2 with heap:=QF ((s2.heap.push { cls:=.type "list",data:=.seq #[] }).push { cls:=.type "dict",data:=.dict #[] }) scope.names }:=
  codeAny_compStart_list loop (T.self _ 0 _ _ _ st4 loop)
 have fin2:∀(env':Env)(L:OM),env'=(cxC X N scope ⟨s2.heap.objs.size+1,fp,s2,H2⟩).env->L=s2.heap.objs.size+1->
   codeAny (OZ X.prog X.w) X.A (.compStart (.ListComp elt [⟨tg,iter,ifs,0⟩] scope pos) 0 (.ref it) (.ref s2.heap.objs.size) env') (UG (OZ X.prog X.w) X.A X.xe use R (.ref s2.heap.objs.size) L)
    { s2 with heap:=QF ((s2.heap.push { cls:=.type "list",data:=.seq #[] }).push { cls:=.type "dict",data:=.dict #[] }) scope.names }:=by
  intro env' L h1 h2
  subst h1 h2
  exact go
 exact fin2 _ _ e5 e6
theorem sZ{pins:List (OM×Obj)}{C:OM}{oC:Obj}{σ':St}{H':Hp}{s':OO}{h':O8}(I:Inv X (pins++[(C,oC)]) σ' H' s')(hy:X.s₀.heap.objs.size<=C)(hp:∀p∈X.pn++pins,p.1≠C)(sb:QS C s'.heap h') :
  Inv X pins σ' H' { s' with heap:=h' }:=by
 have pC:=I.pin (C,oC) (KR _ (KR _ (by simp)))
 have I2:Inv X pins σ' H' s':=I.l8
 refine I2.turned (it:=C) (t':=s'.toks) (λb o hb e=>(sb.2 b hb).trans e) pC.2.1 pC.2.2.1 (.inr hy) (λx c e z=>?_) hp
 obtain⟨v,o,ho,hd⟩:=I2.cell x c e
 rw[z,pC.1]at ho
 cases ho
 exact pC.2.2.2.2 v hd
theorem jd(S:cQ X.env.scope X.N N own fr scope)(hc:X.calm=true)(hi:PI X tg iter wi)(hg:∀b,PG (cxC X N scope b) tg (g b))(hf:∀b,PF (cxC X N scope b) ifs (tf b))(he:∀b,PE (cxC X N scope b) elt (te b))
  (hs:∀x,foldedSetIterable iter X.env x=pure x:=by intro _;rfl):PE X (.ListComp elt [⟨tg,iter,ifs,0⟩] scope pos) (By wi own fr g tf te):=by
 intro pins s σ H Q I h
 rw[eval_ListComp]
 refine vQ (use:=UU) S hc hi hg hf he hs I h λD C oC m H' s' I' hy hp hm q=>?_
 have pC:=I'.pin (C,oC) (KR _ (KR _ (by simp)))
 exact⟨m,hm _ pC.1,λh' sb=>⟨.ref D,H',sZ I' hy hp sb,rfl,q⟩⟩
theorem kI{j:Nat}{y:Str}{py spos:Pos}(S:cQ X.env.scope X.N N own fr scope)(hc:X.calm=true)(hN:X.N.Nodup)(hj:X.N[j]?=UT y)(hy:Loc X.env.scope y)(hi:PI X tg iter wi)(hg:∀b,PG (cxC X N scope b) tg (g b))(hf:∀b,PF (cxC X N scope b) ifs (tf b))
  (he:∀b,PE (cxC X N scope b) elt (te b)) (hfn:X.fn y=true\/X.env.scope.names.lookup y=UT .local:=by first|exact .inl rfl|exact .inr rfl|assumption) (hs:∀x,foldedSetIterable iter X.env x=pure x:=by intro _;rfl)
  (hsw:Sm (.ListComp elt [⟨tg,iter,ifs,0⟩] scope pos) (UT (.Name y py)) spos.line X.env=pure true:=by rfl) :
  PS X (.Assign [.Name y py] (.ListComp elt [⟨tg,iter,ifs,0⟩] scope pos) spos) (Di (By wi own fr g tf te) (ki j)):=by
 intro pins s σ H D I h
 rw[exec_Assign_Name_used _ _ _ _ hsw]
 refine OP (Sy (OP ?_))
 show wpAny _ _ (do let _<-comprehension (.ListComp elt [⟨tg,iter,ifs,0⟩] scope pos) scope X.env _ (newList []) false (Pn iter X.env) (UT (assign (.Name y py) X.env))) _ _ s
 refine OP (thn (vQ (use:=UT (assign (.Name y py) X.env)) (R:=λ_ s'=>SP X pins D .next s') S hc hi hg hf he hs I h λD' C oC m H' s' I' hy' hp hm q=>?_) λ_ s' q=>OT (OT q))
 show wpAny _ _ (assign (.Name y py) X.env (.ref D')) _ _ s'
 refine thn (Aj hN hj hy hfn _ s' σ H' (.ref D') (.ref D') _ I' rfl q) λ_ s'' ⟨σ2,H2,I2,q2⟩=>?_
 have pC:=I2.pin (C,oC) (KR _ (KR _ (by simp)))
 exact⟨m,hm _ pC.1,λh' sb=>⟨σ2,H2,sZ I2 hy' hp sb,q2⟩⟩
end
theorem PE.imp{X:Cx}{e:Expr}{t t':TE}(h:PE X e t)(k:∀σ H Q,t' σ H Q->t σ H Q):PE X e t':=λpins s σ H Q I q=>h pins s σ H Q I (k σ H Q q)
theorem OpR.imp{X:Cx}{f:ON->ON->Sem ON}{r r':R2}(h:OpR X f r)(k:∀x y H Q,r' x y H Q->r x y H Q):OpR X f r':=λpins s σ H x y v u Q I rx ry q=>h pins s σ H x y v u Q I rx ry (k x y H Q q)
def EK(i:Nat):TE:=λσ H Q=>match σ[i]? with
 |some (UT v)=>Q v H
 |_=>False
section
variable{X:Cx}
theorem fv(i:Nat){x:Str}{pos:Pos}(hN:X.N[i]?=UT x:=by rfl)(hv:Vis X.env.scope x:=by first|exact KJ rfl|exact Lg (KJ rfl)|exact Lg (Lg rfl))(hd:(x==("__debug__":Str))=false:=by decide)
  (hcd:(x==("__classdict__":Str))=false:=by decide):PE X (.Name x pos) (EK i):=(Gx hN hv hd hcd).imp λσ H Q q=>by
 unfold EK at q
 cases e:σ[i]? with
 |none=>rw[e]at q;exact q.elim
 |some o=>
  cases o with
  |none=>rw[e]at q;exact q.elim
  |some v=>rw[e]at q;exact⟨v,e,q⟩
def Kp:R2:=λx y H Q=>match x,y with
 | .int i,.int j=>Q (.int (i+j)) H
 | .str a,.str b=>a.length+b.length<=sizeLine/\Q (.str (a++b)) H
 | .ref p,.ref q=>Jp (.ref p) (.ref q) H Q
 |_,_=>False
theorem bz:OpR X (Pp .Add) Kp:=by
 intro pins s σ H x y v u Q I rx ry h;cases x with
 |int i=>
  cases y with
  |int j=>exact HA pins s σ H _ _ v u Q I rx ry ⟨i,j,rfl,rfl,h⟩
  |_=>exact(show False from h).elim
 |str a=>
  cases y with
  |str b=>exact yf pins s σ H _ _ v u Q I rx ry ⟨a,b,rfl,rfl,h.1,h.2⟩
  |_=>exact(show False from h).elim
 |ref p=>
  cases y with
  |ref q=>exact HF pins s σ H _ _ v u Q I rx ry h
  |_=>exact(show False from h).elim
 |_=>cases y<;>exact(show False from h).elim
def pY(C:Int->Int->Prop)(g:Int->Int->V):R2:=λx y H Q=>match x,y with
 | .int i,.int j=>C i j/\Q (g i j) H
 |_,_=>False
def lB(g:Int->Int->V):R2:=λx y H Q=>match x,y with
 | .int i,.int j=>Q (g i j) H
 |_,_=>False
theorem OpR.pY{f:ON->ON->Sem ON}{C:Int->Int->Prop}{g:Int->Int->V}(h:OpR X f (rI C g)):OpR X f (pY C g):=h.imp λx y H Q q=>by
 cases x with
 |int i=>
  cases y with
  |int j=>exact⟨i,j,rfl,rfl,q.1,q.2⟩
  |_=>exact(show False from q).elim
 |_=>cases y<;>exact(show False from q).elim
theorem OpR.lB{f:ON->ON->Sem ON}{g:Int->Int->V}(h:OpR X f (rI0 g)):OpR X f (lB g):=h.imp λx y H Q q=>by
 cases x with
 |int i=>
  cases y with
  |int j=>exact⟨i,j,rfl,rfl,q⟩
  |_=>exact(show False from q).elim
 |_=>cases y<;>exact(show False from q).elim
theorem kY:OpR X (Pp .Sub) (lB λi j=>.int (i-j)):=Fw.lB
theorem IZ:OpR X (Pp .Mult) (pY Dt λi j=>.int (i*j)):=Fx.pY
def Fg(_ j:Int):Prop:=0<j/\j<2^64
theorem Ez{j:Int}(h:Fg 0 j):j.natAbs.log2<9000:=by
 have h1:j.natAbs<2^64:=by
  have h2:j<2^64:=h.2;have h3:0<j:=h.1;omega
 have h0:j.natAbs≠0:=by have h3:0<j:=h.1;omega
 have:=(Nat.log2_lt h0).mpr h1;omega
theorem c9:OpR X (Pp .FloorDiv) (pY Fg λi j=>.int (i/j)):=(opI λi j _ _ _ _ _ hc q=>by
 have h1:(0:Int)<j:=hc.1;exact floordiv_int (by omega) (by rw[QY i (by omega)];exact q) (.inl (PyProof.noPylong_of_log2 (Ez hc)))).pY
theorem cx:OpR X (Pp .Mod) (pY (λ_ j=>0<j) λi j=>.int (i%j)):=GK.pY
theorem pE:OpR X (Pp .Pow) (pY Jr λi j=>.int (i^j.toNat)):=Gw.pY
theorem qJ:OpR X (O4 .Lt) (lB λi j=>.bl (decide (i<j))):=Iy.lB
theorem yq:OpR X (O4 .LtE) (lB λi j=>.bl (decide (i<=j))):=JD.lB
theorem rR:OpR X (O4 .Gt) (lB λi j=>.bl (decide (j<i))):=ID.lB
theorem Kj:OpR X (O4 .GtE) (lB λi j=>.bl (decide (j<=i))):=Ip.lB
mutual
inductive ja(K:OQ)(H:Hp):V->QN->Prop where
 |non:ja K H .non .none
 |bl (b:Bool):ja K H (.bl b) (.bool b)
 |int (i:Int):ja K H (.int i) (.int i)
 |str (x:Str):ja K H (.str x) (.str x)
 |lst {a:OM}{xs:List V}{ds:List QN} (h:SqL K H a xs) (r:lY K H xs ds):ja K H (.ref a) (.list ds)
 |tup {a:OM}{xs:List V}{ds:List QN} (h:SqT K H a xs) (r:lY K H xs ds):ja K H (.ref a) (.tuple ds)
inductive lY(K:OQ)(H:Hp):List V->List QN->Prop where
 |nil:lY K H [] []
 |cons {x:V}{xs:List V}{d:QN}{ds:List QN} (h:ja K H x d) (r:lY K H xs ds):lY K H (x::xs) (d::ds)
end
mutual
theorem Inv.reads{pins:List (OM×Obj)}{σ:St}{H:Hp}{s:OO}(I:Inv X pins σ H s):∀{x:V}{d:QN}{u:ON},ja X.K H x d->U2 x u->∃as,Reads s.heap u d as
 |_,_,_,.non,r=>by cases r;exact⟨_,.none⟩
 |_,_,_,.bl b,r=>by cases r;exact⟨_,.bool b⟩
 |_,_,_,.int i,r=>by obtain⟨t,rfl⟩:=r;exact⟨_,.int i t⟩
 |_,_,_,.str x,r=>by obtain⟨t,rfl⟩:=r;exact⟨_,.str x t⟩
 |_,_,_,.lst h q,r=>by
  cases r;obtain⟨its,rv,⟨o,n,e,hc,_,hd⟩,_⟩:=I.list h;obtain⟨as,z⟩:=I.readsAll q rv;exact⟨_,.list e hc hd (by simpa using z)⟩
 |_,_,_,.tup h q,r=>by
  cases r;obtain⟨its,rv,⟨o,e,hc,n,hd⟩,_⟩:=I.tuple h;obtain⟨as,z⟩:=I.readsAll q rv;exact⟨_,.tuple e hc hd (by simpa using z)⟩
theorem Inv.readsAll{pins:List (OM×Obj)}{σ:St}{H:Hp}{s:OO}(I:Inv X pins σ H s):∀{xs:List V}{ds:List QN}{us:List ON},lY X.K H xs ds->U1 xs us->∃as,ReadsAll s.heap us ds as
 |_,_,_,.nil,r=>by cases r;exact⟨_,.nil⟩
 |_,_,_,.cons h q,r=>by
  cases r with
  |cons r1 r2=>
   obtain⟨as,z⟩:=I.reads h r1;obtain⟨bs,z2⟩:=I.readsAll q r2;exact⟨_,.cons z z2⟩
end
def fEq(K:OQ):R2:=λx y H Q=>match x,y with
 | .ref p,.ref q=>∃d e,ja K H (.ref p) d/\ja K H (.ref q) e/\Pe d=true/\Pe e=true/\Q (.bl (QG d e)) H
 |x,y=>AG x y=true/\Q (.bl (decide (x=y))) H
def fNe(K:OQ):R2:=λx y H Q=>match x,y with
 | .ref p,.ref q=>∃d e,ja K H (.ref p) d/\ja K H (.ref q) e/\Pe d=true/\Pe e=true/\Q (.bl (!PyData.eqv d e)) H
 |x,y=>AG x y=true/\Q (.bl (!decide (x=y))) H
theorem JL(hu:X.A.units+64<PJ):OpR X (O4 .Eq) (fEq X.K):=by
 intro pins s σ H x y v u Q I rx ry h;by_cases hr:∃p q,x=V.ref p/\y=V.ref q
 ·obtain⟨p,q,rfl,rfl⟩:=hr;obtain⟨d,e,hd,he,sd,se,hq⟩:=h;obtain⟨as,z1⟩:=I.reads hd rx;obtain⟨bs,z2⟩:=I.reads he ry;exact eq_dataH z1 z2 sd se hu ⟨.bl _,H,I,rfl,hq⟩
 refine IM pins s σ H x y v u Q I rx ry ?_;cases x<;>cases y<;>first|exact h|exact absurd ⟨_,_,rfl,rfl⟩ hr
theorem yy(hu:X.A.units+64<PJ):OpR X (O4 .NotEq) (fNe X.K):=by
 intro pins s σ H x y v u Q I rx ry h;by_cases hr:∃p q,x=V.ref p/\y=V.ref q
 ·obtain⟨p,q,rfl,rfl⟩:=hr;obtain⟨d,e,hd,he,sd,se,hq⟩:=h;obtain⟨as,z1⟩:=I.reads hd rx;obtain⟨bs,z2⟩:=I.reads he ry;exact ne_dataH z1 z2 sd se hu ⟨.bl _,H,I,rfl,hq⟩
 refine Jv pins s σ H x y v u Q I rx ry ?_;cases x<;>cases y<;>first|exact h|exact absurd ⟨_,_,rfl,rfl⟩ hr
def fIn(K:OQ)(neg:Bool):R2:=λx y H Q=>match y with
 | .str j=>∃i,x=.str i/\Q (.bl (if neg then !(!(Pz j i 0 j.length 1).isEmpty)else !(Pz j i 0 j.length 1).isEmpty)) H
 | .ref p=>∃xs,(SqL K H p xs\/SqT K H p xs)/\nh x=true/\xs.all nh=true/\Q (.bl (if neg then !inV x xs else inV x xs)) H
 |_=>False
theorem JU:OpR X (O4 .In) (fIn X.K false):=by
 intro pins s σ H x y v u Q I rx ry h;cases y with
 |str j=>
  obtain⟨i,rfl,q⟩:=h;exact Aq pins s σ H _ _ v u Q I rx ry ⟨i,j,rfl,rfl,q⟩
 |ref p=>
  obtain⟨xs,h1,h2,h3,q⟩:=h;exact AB pins s σ H _ _ v u Q I rx ry ⟨p,xs,rfl,h1,h2,h3,q⟩
 |_=>exact(show False from h).elim
theorem vH:OpR X (O4 .Is) (λx y H Q=>y=.non/\Q (.bl (decide (x=.non))) H):=GQ
theorem DA:OpR X (O4 .IsNot) (λx y H Q=>y=.non/\Q (.bl (!decide (x=.non))) H):=EM
inductive ixS(K:OQ)(p:OM)(i:Int)(H:Hp)(Q:VK):Prop
 |mk(xs:List V)(v:V)(h0:SqL K H p xs\/SqT K H p xs)(h1:atI xs i=UT v)(q:Q v H):ixS K p i H Q
def fIx(K:OQ):R2:=λx y H Q=>match x,y with
 | .ref p,.int i=>ixS K p i H Q
 | .str z,.int i=>∃c,z.length<=sizeLine/\atI z.cps.toList i=UT c/\Q (.str ⟨#[c]⟩) H
 |_,_=>False
theorem CS:IxR X (fIx X.K):=by
 intro value slice pins s σ H x y v u Q I rx ry h hs;cases x with
 |ref p=>
  cases y with
  |int i=>
   obtain⟨xs,w,h1|h1,h2,q⟩:=h
   ·exact EB value slice pins s σ H _ _ v u Q I rx ry ⟨p,xs,i,w,rfl,rfl,h1,h2,q⟩ hs
   exact Gr value slice pins s σ H _ _ v u Q I rx ry ⟨p,xs,i,w,rfl,rfl,h1,h2,q⟩ hs
  |_=>exact(show False from h).elim
 |str z=>
  cases y with
  |int i=>
   obtain⟨c,h1,h2,q⟩:=h;exact G4 value slice pins s σ H _ _ v u Q I rx ry ⟨z,i,c,rfl,rfl,h1,h2,q⟩ hs
  |_=>exact(show False from h).elim
 |_=>cases y<;>exact(show False from h).elim
def Kt:V->Option Int->Option Int->Hp->VK->Prop:=λx lo hi H Q=>∃z,x=.str z/\z.length<=sizeLine/\Q (.str (Txt.slice z lo hi)) H
def Its(x:Str):It:=⟨λi _=>i<x.cps.size,λi H v H'=>H'=H/\∃c,x.cps[i]?=UT c/\v=.str ⟨#[c]⟩,λi _=>x.cps.size<=i⟩
theorem Ck{P:Program}{w:OX}{K:QR}{tg:Expr}{T:String}(hT:T="str_ascii_iterator"\/T="str_iterator")(it:OM)(x:Str)(t:Tok):Vj P w K tg (Its x) [it] it (λi h=>i<=x.cps.size/\h.IsStrIter it T x t i) where
 mem:=by simp
 obj:=λi h st b hb=>by
  have e:b=it:=by simpa using hb
  subst e;obtain⟨_,o,e,c,d⟩:=st;exact⟨o,e,λv z=>by rw[d]at z;cases z⟩
 keep:=λi h h' st k=>by
  obtain⟨hi,o,e,r⟩:=st;exact⟨hi,o,k it (by simp) o e,r⟩
 item:=by
  intro X hP hw hK hc i pins s σ H E I hf st hg;subst hP hw hK;obtain⟨f0,f1,f2,f3,f4,f5⟩:=hf it (by simp);have W:Walks X.prog X.w X.A it [it] [it] x.cps.size (SignAt x) (λi h=>h.IsStrIter it T x t i):=by
   rcases hT with rfl|rfl
   ·exact UH (I.ok.hd hc) it x t
   exact Walks.strWide (I.ok.hd hc) it x t
  refine W.item i s _ _ hg st.2 λv h' tk hv st' kk=>?_;obtain⟨c,u,hcp,rfl⟩:=hv;have I1:Inv X pins σ H { s with heap:=h',toks:=tk }:=I.turned (λb o hb e=>kk b o (by simpa using hb) e) f0 f1 f3 f4 f5;obtain⟨o,e,c',d⟩:=id st';refine⟨_,rfl,zw (s:={ s with heap:=h',toks:=tk }) e c' d (by rcases hT with rfl|rfl<;>decide) ⟨.str ⟨#[c]⟩,H,I1,⟨u,rfl⟩,⟨rfl,c,hcp,rfl⟩,⟨hg,st'⟩,λb hb=>(hf b hb).1⟩⟩
 done:=by
  intro X hP hw hK hc i pins s σ H E I hf st hg;subst hP hw hK;obtain⟨f0,f1,f2,f3,f4,f5⟩:=hf it (by simp);have W:Walks X.prog X.w X.A it [it] [it] x.cps.size (SignAt x) (λi h=>h.IsStrIter it T x t i):=by
   rcases hT with rfl|rfl
   ·exact UH (I.ok.hd hc) it x t
   exact Walks.strWide (I.ok.hd hc) it x t
  have e:i=x.cps.size:=Nat.le_antisymm st.1 hg;subst e;exact W.done s _ _ st.2 λh' tk kk=>⟨rfl,I.turned (λb o hb e=>kk b o (by simpa using hb) e) f0 f1 f3 f4 f5⟩
 self:=λA i s Q E st h=>by
  rcases hT with rfl|rfl
  ·exact wpAny_pyIter_striter_ascii st.2 h
  exact wpAny_pyIter_striter_wide st.2 h
def JY(K:OQ)(tl:TE):TI:=λσ H R=>tl σ H λx H1=>match x with
 | .ref a=>((∃xs,SqL K H1 a xs)/\R (Itl K a) H1)\/((∃xs,SqT K H1 a xs)/\R (Itt K a) H1)
 | .str z=>R (Its z) H1
 |_=>False
theorem df{tg l:Expr}{tl:TE}(hl:PE X l tl):PI X tg l (JY X.K tl):=by
 intro pins s σ H R I h;refine thn (hl pins s σ H _ I h) λv s1 ⟨x,H1,I1,r1,q1⟩=>?_;cases x with
 |ref a=>
  cases r1;rcases q1 with⟨⟨xs,hq⟩,q⟩|⟨⟨xs,hq⟩,q⟩
  ·obtain⟨its,rv,p,hz⟩:=I1.list hq;refine Q7 p.isList ?_;refine⟨s1.heap.objs.size,[s1.heap.objs.size],_,_,H1,rfl,I1.kept (t':=s1.toks) λb o e=>OR _ e,Bd a _,⟨_,O3 _ rfl,rfl,rfl⟩,λb hb=>?_,q⟩;have e:b=s1.heap.objs.size:=by simpa using hb
   subst e;exact I1.yx (KI _) (I1.hok.fresh (KI _))
  obtain⟨its,rv,p,hz⟩:=I1.tuple hq;refine SQ (show s1.heap.IsTuple a its.toArray from p) ?_;refine⟨s1.heap.objs.size,[s1.heap.objs.size],_,_,H1,rfl,I1.kept (t':=s1.toks) λb o e=>OR _ e,yp a _,⟨_,O3 _ rfl,rfl,rfl⟩,λb hb=>?_,q⟩;have e:b=s1.heap.objs.size:=by simpa using hb
  subst e;exact I1.yx (KI _) (I1.hok.fresh (KI _))
 |str z=>
  obtain⟨t,rfl⟩:=r1;refine wpAny_pyIter_strU ?_;refine⟨s1.heap.objs.size,[s1.heap.objs.size],_,_,H1,rfl,I1.kept (t':=s1.toks) λb o e=>OR _ e,Ck (T:=strIterType z) ?_ _ z t,⟨KY _,_,O3 _ rfl,rfl,rfl⟩,λb hb=>?_,q1⟩
  ·unfold strIterType;split
   ·exact .inl rfl
   exact .inr rfl
  have e:b=s1.heap.objs.size:=by simpa using hb
  subst e;exact I1.yx (KI _) (I1.hok.fresh (KI _))
 |_=>exact(show False from q1).elim
theorem bX{a:Expr}{ta:TE}(ha:PE X a ta)(he:∀whole,isTrue a X.env whole=(do let v<-whole;Te a.pos;Ql [v] (truthy v))) :
  PT X a (λσ H Q=>ta σ H λx H'=>Dn X.K x H' Q):=BL ha he
theorem Ei{a:Expr}{ta:TE}{pos:Pos}(ha:PE X a ta):PE X (.UnaryOp .Not a pos) (λσ H Q=>ta σ H λx H1=>∃k,IT X.K x H1 k/\Q (.bl (!k)) H1):=by
 intro pins s σ H Q I h;refine UnaryOp_ (thn (ha pins s σ H _ I h) λv s1 ⟨x,H1,I1,r1,q1⟩=>?_);obtain⟨k,ht,q⟩:=q1;exact not_of (thn (CZ pins s1 σ H1 x v (λb H2=>Q (.bl (!b)) H2) I1 r1 ⟨k,ht,q⟩) λb s2 ⟨H2,I2,q2⟩=>⟨.bl (!b),H2,I2,rfl,q2⟩)
inductive DJ(K:OQ)(xs:List V)(H:Hp)(Q:VK):Prop
 |mk(x:V)(n:Nat)(h0:xs=[x])(h1:Jd K x H n)(q:Q (.int n) H):DJ K xs H Q
theorem HZ:dI X (.builtin "len") (DJ X.K):=λpins s σ H xs us Q I r ⟨x,n,h0,h1,q⟩=>Du pins s σ H xs us Q I r ⟨x,n,h0,h1,q⟩
theorem jL:dI X (.type "list") (λxs H Q=>∃p ys,xs=[.ref p]/\(SqL X.K H p ys\/SqT X.K H p ys)/\∀l,H l=UU->Q (.ref l) (upd H l (.lst ys))):=vc
theorem AY{bs:List Bool}{its:List ON}(r:U1 (bs.map V.bl) its){i:Nat}{v:ON}(h:its[i]?=UT v):∃b,bs[i]?=UT b/\v=.bool b:=by
 have hi:i<its.length:=(KH.mp h).1;have hl:=r.length;rw[Ky]at hl;have hb:bs[i]?=UT bs[i]:=Kw (by omega);obtain⟨u,hu,ru⟩:=r.get (i:=i) (x:=V.bl bs[i]) (by rw[KP,hb];rfl);rw[h]at hu;cases hu;exact⟨_,hb,ru⟩
theorem E3(hc:X.calm=true:=by rfl):dI X (.builtin "all") (λxs H Q=>∃(p:OM)(bs:List Bool),xs=[.ref p]/\SqL X.K H p (bs.map V.bl)/\Q (.bl (bs.all id)) H):=by
 intro pins s σ H xs us Q I r h;obtain⟨p,bs,rfl,hq,q⟩:=h;obtain⟨u,rfl,rx⟩:=Vb r;cases rx;obtain⟨its,rv,pl,hz⟩:=I.list hq;have hl:=pl.isList;have hlt:p<s.heap.objs.size:=by obtain⟨_,e,_⟩:=hl;exact OW e
 have hlen:its.toArray.size=bs.length:=by have:=rv.length;rw[Ky]at this;rw[KO];omega
 refine call_all_walk (Q7 hl ?_);refine⟨s.heap.objs.size,[s.heap.objs.size,p],[s.heap.objs.size],its.toArray.size,_,_,λi=>(bs[i]?).getD true,rfl,Walks.list (A:=X.A.in1) (I.ok.hd hc) _ p (Lp hlt) its.toArray,
  ⟨⟨_,O3 _ rfl,rfl,rfl⟩,hl.push _⟩,λi v s' Q' E' hP hQ=>?_,λh' tk hk=>?_⟩
 ·obtain⟨b,e,rfl⟩:=AY rv (by simpa using hP);simp only[e,TY]at hQ;exact Pk hQ
 rw[hlen,LSm.range_all bs];exact⟨.bl _,H,I.kept (LSm.kept_iter hk),rfl,q⟩
def DU:V->ON
 | .ty n=>.type n
 | .ref a=>.ref a
 |_=>.none
theorem Bu{y:V}{u:ON}(r:U2 y u)(h:DU y≠ .none):u=DU y:=by
 cases y with
 |ty n=>exact r
 |ref a=>exact r
 |_=>exact absurd rfl h
inductive FV(K:OQ)(xs:List V)(H:Hp)(Q:VK):Prop
 |mk(x y:V)(t:ON)(b:Bool)(h0:xs=[x,y])(h1:DU y≠ .none)(h2:mh K H x t)(h3:Pu K t (DU y)=UT b)(q:Q (.bl b) H):FV K xs H Q
theorem bN:dI X (.builtin "isinstance") (FV X.K):=by
 intro pins s σ H xs us Q I r h;obtain⟨x,y,t,b,rfl,hy,ty,e,q⟩:=h;obtain⟨u,w',rfl,rx,ry⟩:=Vh r;rw[Bu ry hy];exact AU I rx ty e λtk=>⟨.bl b,H,I.tok _,rfl,q⟩
theorem cI{o e:Expr}{to:TE}{t:TA}{apos cpos:Pos}(ho:PE X o to)(ha:PA X [e] t)(hbase:PH o "append" X.env (Pn o X.env)=Pn o X.env:=by rfl)
  (hfew:((Pw cpos (OV [e] X.env)).all (λx=>!x.1)&&(QZ cpos (Qb [] X.env)).all (λx=>x.1.isSome)
   &&decide ([e].length+([]:List QH).length+(if([]:List QH).isEmpty then 0 else 1)<30))=true:=by rfl)
  (hline:(apos.endLine==cpos.line)=true:=by rfl) (hs:OV [e] X.env=(false,Pn e X.env)::OV [] X.env:=by rfl) (hplain:(Pw cpos (OV [] X.env)).any (·.1)=false:=by rfl) :
  PE X (.Call (.Attribute o "append" apos) [e] [] cpos) (tBM X.K "list" vn to t):=Fm Ro PySem.F.slot_list_append PySem.F.type_list_append tQ ho ha hbase hfew hline hs hplain
end
def Has(P:Program)(w:OX)(K:OQ)(mg:Str->Option ON)(base:O8)(k:Nat)(x:Str)(ps:List Str)(sp:Sp):Prop:=
 ∃f fd,kP P w K mg base CX0 k f fd ps sp/\U5 K fd ps []/\Qh K (.ref f)=true/\mg x=UT (.ref f)/\∃oc od osl,K.lookup f=UT ⟨oc,od,.func fd,osl⟩
structure bO(K:OQ)(mg:Str->Option ON)(x:Str)(st:O9)(ps:List Str):Prop where
 ex:∃f fd,Fun K x x st f fd/\U5 K fd ps []/\mg x=UT (.ref f)
theorem ar{X:Cx}{j k:Nat}{x:Str}{ps:List Str}{sp:Sp}{e:Expr}{es:List Expr}{t:TA}{p pos:Pos}(D:Has X.prog X.w X.K X.mg X.base j x ps sp)(hr:fi k X.A)(ha:PA X (e::es) t)(hj:j<=k:=by decide)(hg:Gl X x:=by rfl)
  (hdb:(x==("__debug__":Str))=false:=by decide) (he:OV (e::es) X.env=(false,Pn e X.env)::OV es X.env:=by rfl) (hpl:(Pw pos (OV es X.env)).any (·.1)=false:=by rfl) :
  PE X (.Call (.Name x p) (e::es) [] pos) (C9 sp [] E0 t):=by
 obtain⟨f,fd,F,b,kp,m,_⟩:=D
 exact DZ F (hr.mono hj) hg m kp b .nil vF ha hdb he hpl
theorem bO.has{P:Program}{w:OX}{K:OQ}{mg:Str->Option ON}{base:O8}{x:Str}{st:O9}{N ps:List Str}{k:Nat}{sp:Sp}(F:bO K mg x st ps)(S:ay N ps (au st))(len:∀vs H Q E,sp vs H Q E->vs.length=ps.length)
  (hbody:∀(f:OM)(cdv:ON)(A:O7)(outer:List Env)(s:OO)(H:Hp)(vs:List V)(Q:VK)(E:XK),fi k (A.deeper (QL x (au st) s.heap.objs.size f cdv))->(A.deeper (QL x (au st) s.heap.objs.size f cdv)).units+64<PJ->sp vs H Q E->
   ∃t,PSs (vZ CX0 P w K mg base N x (au st) f cdv A outer s H E).nox (dq st) t/\t { nx:=λ_ H'=>Q .non H',rt:=Q } (U9 N vs) H):Has P w K mg base (k+1) x ps sp:=by
 obtain⟨f,fd,F,b,m⟩:=F.ex
 obtain⟨oc,od,kV,doc,pm,an,cdv,ct,osl,e,lk,hcd⟩:=F.ex
 exact⟨f,fd,F.ok S len λcdv A outer s H vs Q E hr h=>hbody f cdv A outer s H vs Q E hr hr.units h,b,F.kp,m,oc,od,osl,lk⟩
theorem aq.upd{H:Hp}{p:OM}(h:H p=UU)(o:HO):aq H (upd H p o):=λb u q=>by rw[aw (eI q h)];exact q
theorem aq.tup{K:OQ}{H H':Hp}{a:OM}{xs:List V}(e:aq H H')(h:SqT K H a xs):SqT K H' a xs:=by
 rcases h with(h|⟨o,h⟩)|h
 ·exact .inl (.inl (e _ _ h))
 ·exact .inl (.inr ⟨o,e _ _ h⟩)
 exact .inr h
mutual
theorem aq.rep{K:OQ}{H H':Hp}(e:aq H H'):∀{x:V}{d:QN},ja K H x d->ja K H' x d
 |_,_,.non=>.non
 |_,_,.bl b=>.bl b
 |_,_,.int i=>.int i
 |_,_,.str x=>.str x
 |_,_,.lst h r=>.lst (e.seq h) (e.xP r)
 |_,_,.tup h r=>.tup (e.tup h) (e.xP r)
theorem aq.xP{K:OQ}{H H':Hp}(e:aq H H'):∀{xs:List V}{ds:List QN},lY K H xs ds->lY K H' xs ds
 |_,_,.nil=>.nil
 |_,_,.cons h r=>.cons (e.rep h) (e.xP r)
end
def cFr(fr:List Nat)(σ:St):St:=fr.map λj=>(σ[j]?).getD UU
theorem yI{J:It}{n:Nat}{x:Nat->V}{fr:List Nat}{tf:CB->TT}{te:CB->TE}{Q:VK}{σ:St}{H1:Hp}(p:Nat->Bool)(f:Nat->V)(hn:n<sizeLine)
  (stop:∀H,aq H1 H->J.stop n H) (go:∀i H,i<n->aq H1 H->J.go i H) (yld:∀i H v H',i<n->aq H1 H->J.yld i H v H'->H'=H/\v=x i)
  (hf:∀b i H (R:Bool->Hp->Prop),i<n->aq H1 H->(∀H',aq H H'->R (p i) H')->tf b (UT (x i)::cFr fr σ) H R)
  (he:∀b i H (R:VK),i<n->p i=true->aq H1 H->(∀H',aq H H'->R (f i) H')->te b (UT (x i)::cFr fr σ) H R)
  (fin:∀D H,H1 D=UU->aq H1 H->H D=UT (.lst (((O2 n).filter p).map f))->Q (.ref D) H):om J 1 fr (λ_=>ki 0) tf te Q σ H1:=by
 refine⟨λb D hD=>?_⟩
 have lenf:∀i,(((O2 i).filter p).map f).length<=i:=λi=>by
  rw[Ky];exact KS (LB _ _) (Nt Ms)
 refine⟨λi m σ' H'=>m=n-i/\i<=n/\(∃v0,σ'=v0::cFr fr σ)/\aq H1 H'/\H' D=UT (.lst (((O2 i).filter p).map f)),⟨n,rfl,KY _,⟨UU,rfl⟩,aq.upd hD _,ak⟩,?_⟩
 rintro i m σ' H' ⟨rfl,hi,⟨v0,rfl⟩,sm,hl⟩
 by_cases hlt:i<n
 ·refine .inr ⟨go i H' hlt sm,λσ2 H2=>(∃v0,σ2=v0::cFr fr σ)/\aq H1 H2/\H2 D=UT (.lst (((O2 (i+1)).filter p).map f)),λσ2 H2 q=>⟨n-(i+1),by omega,rfl,hlt,q⟩,λv H2 y=>?_⟩;obtain⟨rfl,rfl⟩:=yld i H' v H2 hlt sm y;show tf b (UT (x i)::cFr fr σ) _ _;refine hf b i _ _ hlt sm λH3 s3=>?_;have e1:(O2 (i+1)).filter p=(O2 i).filter p++(if p i then[i]else[]):=by
   rw[MM,SR];congr 1;cases hp:p i<;>simp[hp]
  cases hp:p i with
  |false=>
   rw[if_neg KL];refine⟨⟨_,rfl⟩,sm.trans s3,?_⟩;rw[s3 _ _ hl,e1,hp];simp
  |true=>
   rw[if_pos rfl];refine he b i _ _ hlt hp (sm.trans s3) λH4 s4=>⟨_,s4 _ _ (s3 _ _ hl),?_,⟨_,rfl⟩,?_,?_⟩
   ·exact Nc (lenf i) (Nat.lt_trans hlt hn)
   ·have sm4:aq H1 H4:=sm.trans (s3.trans s4);intro c o q;by_cases hc:c=D
    ·rw[hc,hD]at q;cases q
    rw[aw hc];exact sm4 c o q
   rw[ak,e1,hp];simp
 have e:i=n:=by omega
 subst e
 exact .inl ⟨stop H' sm,fin D H' hD sm hl⟩
theorem map_range{α:Type}{β:Type}(xs:List α)(d:α)(f:α->β):(O2 xs.length).map (λi=>f (xs.getD i d))=xs.map f:=by
 apply Nf;intro i;rw[KP,KP];by_cases h:i<xs.length
 ·rw[Mn h,Kw h];simp[List.getD,Kw h]
 rw[LC (by simpa using h),LC (by simpa using h)];rfl
theorem uJ{α:Type}{β:Type}(p:α->Bool)(f:α->β)(d:α):∀(xs:List α),((O2 xs.length).filter λi=>p (xs.getD i d)).map (λi=>f (xs.getD i d))=(xs.filter p).map f:=by
 intro xs;have e:=map_range xs d id;have e2:xs=(O2 xs.length).map λi=>xs.getD i d:=by simpa using e.symm
 have e3:xs.filter p=((O2 xs.length).filter λi=>p (xs.getD i d)).map λi=>xs.getD i d:=by
  conv=>lhs;rw[e2]
  rw[Nn];rfl
 rw[e3,MN];rfl
theorem hZ{K:OQ}{a:OM}{xs:List V}{fr:List Nat}{tf:CB->TT}{te:CB->TE}{Q:VK}{σ:St}{H1:Hp}(p:V->Bool)(f:V->V)(hx:SqL K H1 a xs)(hn:xs.length<sizeLine)
  (hf:∀b x H (R:Bool->Hp->Prop),x∈xs->aq H1 H->(∀H',aq H H'->R (p x) H')->tf b (UT x::cFr fr σ) H R)
  (he:∀b x H (R:VK),x∈xs->p x=true->aq H1 H->(∀H',aq H H'->R (f x) H')->te b (UT x::cFr fr σ) H R)
  (fin:∀D H,H1 D=UU->aq H1 H->H D=UT (.lst ((xs.filter p).map f))->Q (.ref D) H):om (Itl K a) 1 fr (λ_=>ki 0) tf te Q σ H1:=by
 have mem:∀i,i<xs.length->xs.getD i .non∈xs:=λi h=>by
  rw[Ll,Kw h];exact List.getElem_mem h
 refine yI (x:=λi=>xs.getD i .non) (λi=>p (xs.getD i .non)) (λi=>f (xs.getD i .non)) hn (λH s=>⟨xs,s.seq hx,KI _⟩) (λi H h s=>⟨xs,xs[i],s.seq hx,Kw h⟩)
  (λi H v H' h s y=>⟨y.1,?_⟩) (λb i H R h s k=>hf b _ H R (mem i h) s k) (λb i H R h hp s k=>he b _ H R (mem i h) hp s k) λD H hD s e=>fin D H hD s ?_
 ·have:=y.2 xs (s.seq hx);rw[Ll,this];rfl
 rw[e,uJ p f]
section
variable{X:Cx}
def F8(K:OQ):V->Option Int->Option Int->Hp->VK->Prop:=λx lo hi H Q=>Gn K x lo hi H Q\/FF K x lo hi H Q
theorem Gj:SlR X (F8 X.K):=EX.or GF
end
theorem Bj{α:Type}(f:α->V)(xs:List α)(lo hi:Option Int):iy (xs.map f) lo hi=((xs.drop (HT.sIx xs.length 0 lo)).take (HT.sIx xs.length xs.length hi-HT.sIx xs.length 0 lo)).map f:=by
 unfold iy;rw[Ky,List.map_take,List.map_drop]
theorem Dm{K:OQ}{mg:Str->Option ON}{h:O8}{x:Str}{st:O9}{ps:List Str}{f:OM}{oc:ON}{od an:Option OM}{osl:Array (Option ON)}{kV doc pm cdv ct:ON}(X:K.In h)(G:h.Ns O5 mg)
  (a:UI K O5 x=UT (UT (.ref f))) (l:K.lookup f=UT ⟨oc,od,.func (Qr x x (eO st) (dq st) (au st) .none kV doc pm an cdv ct),osl⟩) (c:RZ K cdv x=true) (k:Qh K (.ref f)=true)
  (hb:∀(kV doc pm:ON)(an:Option OM)(cdv ct:ON)(us:List ON),us.length=ps.length->RY (Qr x x (eO st) (dq st) (au st) .none kV doc pm an cdv ct) ⟨us,[]⟩=pure (ps.zip us)):bO K mg x st ps:=
 ⟨f,_,u6 l c k,(u6 l c k).binds hb,Tv X G a⟩
theorem GI{P:Program}{w:OX}{K:OQ}{mg:Str->Option ON}{base:O8}{k:Nat}{x:Str}{ps:List Str}{sp:Sp}{f:OM}{oc:ON}{od:Option OM}{osl:Array (Option ON)}{fd:PV}(D:Has P w K mg base k x ps sp)(m:mg x=UT (.ref f))
  (l:K.lookup f=UT ⟨oc,od,.func fd,osl⟩):kP P w K mg base CX0 k f fd ps sp:=by
 obtain⟨g,gd,F,b,kp,mg',_,_,_,l'⟩:=id D
 rw[m]at mg'
 cases mg'
 rw[l]at l'
 cases l'
 exact F
section
variable{prog:Program}{w:OX}{A:O7}{R:UR->OO->Prop}{I l:OM}{its:Array ON}{ns:List Int}{St:Nat->O8->Prop}{fp wr:List OM}{d:ON}
end
section
variable{X:Cx}
theorem Gz:SlR X Kt:=by
 intro pins s σ H x v vl vu lo hi sl Q I rx hs pl pu h;obtain⟨z,rfl,hz,q⟩:=h;obtain⟨t,rfl⟩:=rx;have fin:∀t' k,EP X pins σ Q (.str (Txt.slice z lo hi) t') { s with toks:=k }:=λt' k=>⟨.str _,H,I.tok _,⟨_,rfl⟩,q⟩;have len:=KS (Txt.slice_le z lo hi) hz;obtain⟨o,ho,hc,hd⟩:=hs;refine⟨"str",_,PySem.F.slot_str_getitem.lookup,SK _ _ _,?_⟩;cases pl with
 |none=>
  cases pu with
  |none=>exact PZ (l:=Px) (u:=Px) (st:=Px) ⟨o,ho,hc,hd⟩ rfl (QO ⟨len,λt' k=>fin t' k⟩)
  |int j uj=>exact PZ (l:=Px) (u:=UT (j,uj)) (st:=Px) ⟨o,ho,hc,hd⟩ rfl (QO ⟨len,λt' k=>fin t' k⟩)
 |int i ui=>
  cases pu with
  |none=>exact PZ (l:=UT (i,ui)) (u:=Px) (st:=Px) ⟨o,ho,hc,hd⟩ rfl (QO ⟨len,λt' k=>fin t' k⟩)
  |int j uj=>exact PZ (l:=UT (i,ui)) (u:=UT (j,uj)) (st:=Px) ⟨o,ho,hc,hd⟩ rfl (QO ⟨len,λt' k=>fin t' k⟩)
def fSl(K:OQ):V->Option Int->Option Int->Hp->VK->Prop:=λx lo hi H Q=>match x with
 | .str z=>z.length<=sizeLine/\Q (.str (Txt.slice z lo hi)) H
 |x=>Gn K x lo hi H Q\/FF K x lo hi H Q
theorem eT:SlR X (fSl X.K):=by
 intro pins s σ H x v vl vu lo hi sl Q I rx hs pl pu h;by_cases hx:∃z,x=.str z
 ·obtain⟨z,rfl⟩:=hx;exact Gz pins s σ H _ v vl vu lo hi sl Q I rx hs pl pu ⟨z,rfl,h.1,h.2⟩
 refine Gj pins s σ H x v vl vu lo hi sl Q I rx hs pl pu ?_;cases x<;>first|exact h|exact absurd ⟨_,rfl⟩ hx
theorem sV(hc:X.calm=true:=by rfl):dI X (.builtin "max") (λxs H Q=>∃i j,xs=[.int i,.int j]/\Q (.int (if j>i then j else i)) H):=Ar hc
theorem Jl(hc:X.calm=true:=by rfl):dI X (.builtin "min") (λxs H Q=>∃i j,xs=[.int i,.int j]/\Q (.int (if j<i then j else i)) H):=AO hc
theorem qq{x:Str}{z:Int}{pos:Pos}(h:∃t,X.mg x=UT (.int z t))(hg:Gl X x:=by rfl)(hd:(x==("__debug__":Str))=false:=by decide):PE X (.Name x pos) (tC (.int z)):=by
 obtain⟨t,e⟩:=h;exact zA hg e ⟨t,rfl⟩ hd
end
section
variable{X:Cx}{tg:Expr}
theorem dJ{x:Str}{pos:Pos}{a:OM}(h:X.mg x=UT (.ref a))(hg:Gl X x:=by rfl)(hd:(x==("__debug__":Str))=false:=by decide):PE X (.Name x pos) (tC (.ref a)):=zA hg h rfl hd
end
theorem qr{J:It}{n:Nat}{x:Nat->V}{fr:List Nat}{te:CB->TE}{Q:VK}{σ:St}{H1:Hp}(R:Nat->V->Hp->Prop)(hn:n<sizeLine)
  (stop:∀H,aq H1 H->J.stop n H) (go:∀i H,i<n->aq H1 H->J.go i H) (yld:∀i H v H',i<n->aq H1 H->J.yld i H v H'->H'=H/\v=x i)
  (he:∀b i H (G:VK),i<n->aq H1 H->(∀y H',aq H H'->R i y H'->G y H')->te b (UT (x i)::cFr fr σ) H G)
  (mono:∀i y H H',aq H H'->R i y H->R i y H') (st:∀i y H D ys zs,H D=UT (.lst ys)->R i y H->R i y (upd H D (.lst zs)))
  (fin:∀D H ys,H1 D=UU->aq H1 H->H D=UT (.lst ys)->ys.length=n->(∀(i:Nat) y,ys[i]?=UT y->R i y H)->Q (.ref D) H):om J 1 fr (λ_=>ki 0) (λ_=>G9) te Q σ H1:=by
 refine⟨λb D hD=>?_⟩
 refine⟨λi m σ' H'=>m=n-i/\i<=n/\(∃v0,σ'=v0::cFr fr σ)/\aq H1 H'/\∃ys,H' D=UT (.lst ys)/\ys.length=i/\∀(j:Nat) y,ys[j]?=UT y->R j y H',⟨n,rfl,KY _,⟨UU,rfl⟩,aq.upd hD _,[],ak,rfl,λj y h=>by cases h⟩,?_⟩
 rintro i m σ' H' ⟨rfl,hi,⟨v0,rfl⟩,sm,ys,hl,hy,hR⟩
 by_cases hlt:i<n
 ·refine .inr ⟨go i H' hlt sm,λσ2 H2=>(∃v0,σ2=v0::cFr fr σ)/\aq H1 H2/\∃ys,H2 D=UT (.lst ys)/\ys.length=i+1/\∀(j:Nat) y,ys[j]?=UT y->R j y H2,λσ2 H2 q=>⟨n-(i+1),by omega,rfl,hlt,q⟩,λv H2 y=>?_⟩;obtain⟨rfl,rfl⟩:=yld i H' v H2 hlt sm y;refine he b i _ _ hlt sm λz H4 s4 rz=>⟨ys,s4 _ _ hl,by omega,⟨_,rfl⟩,?_,ys++[z],ak,by simp[hy],λj y' hj=>?_⟩
  ·intro c o q;by_cases hc:c=D
   ·rw[hc,hD]at q;cases q
   rw[aw hc];exact(sm.trans s4) c o q
  have hD4:=s4 _ _ hl;by_cases hji:j<ys.length
  ·rw[LX hji]at hj;exact st _ _ _ _ _ _ hD4 (mono _ _ _ _ s4 (hR j y' hj))
  by_cases e:j=ys.length
  ·subst e;rw[Mf (KI _)]at hj;simp at hj;subst hj;rw[hy];exact st _ _ _ _ _ _ hD4 rz
  rw[LC (by simp;omega)]at hj;cases hj
 have e:i=n:=by omega
 subst e
 exact .inl ⟨stop H' sm,fin D H' ys hD sm hl hy hR⟩
section
variable{P:Program}{w:OX}{K:OQ}{mg:Str->Option ON}{base:O8}
structure MFn(K:OQ)(C:OM)(m qual:Str)(st:O9)(ps:List Str):Prop where
 ex:∃f fd,Fun K m qual st f fd/\U5 K fd ps []/\Vm K C m f
def dz(P:Program)(w:OX)(K:OQ)(mg:Str->Option ON)(base:O8)(k:Nat)(C:OM)(m:Str)(ps:List Str)(sp:Sp):Prop:=
 ∃f fd,kP P w K mg base CX0 k f fd ps sp/\U5 K fd ps []/\Vm K C m f
theorem MFn.has{C:OM}{m qual:Str}{st:O9}{N ps:List Str}{k:Nat}{sp:Sp}(F:MFn K C m qual st ps)(S:ay N ps (au st))(len:∀vs H Q E,sp vs H Q E->vs.length=ps.length)
  (hbody:∀(f:OM)(cdv:ON)(A:O7)(outer:List Env)(s:OO)(H:Hp)(vs:List V)(Q:VK)(E:XK),fi k (A.deeper (QL qual (au st) s.heap.objs.size f cdv))->(A.deeper (QL qual (au st) s.heap.objs.size f cdv)).units+64<PJ->sp vs H Q E->
   ∃t,PSs (vZ CX0 P w K mg base N qual (au st) f cdv A outer s H E).nox (dq st) t/\t { nx:=λ_ H'=>Q .non H',rt:=Q } (U9 N vs) H):dz P w K mg base (k+1) C m ps sp:=by
 obtain⟨f,fd,F,b,m⟩:=F.ex
 exact⟨f,fd,F.ok S len λcdv A outer s H vs Q E hr h=>hbody f cdv A outer s H vs Q E hr hr.units h,b,m⟩
theorem Has.imp{k:Nat}{x:Str}{ps:List Str}{sp sp':Sp}(D:Has P w K mg base k x ps sp)(h:∀vs H Q E,sp' vs H Q E->sp vs H Q E):Has P w K mg base k x ps sp':=by
 obtain⟨f,fd,F,b⟩:=D;exact⟨f,fd,F.imp h,b⟩
structure eW(K:OQ)(mg:Str->Option ON)(C:OM)(x:Str)(up:List OM):Prop where
 mg:mg x=UT (.ref C)
 cl:Cls K C
 mro:∃cd,W.clsIn K C=UT cd/\cd.mro=up.map OY++[QA "object"]
 ty:W.typeIn K (.ref C)=UT (.type "type")
 kc:Pr K (.ref C) "__class__"=UT (UT (.builtin "object.__class__"))
 cg:Qp K (.builtin "object.__class__") "__get__"=UT (UT (.builtin "getset_descriptor.__get__"))
 ct:TU K (.builtin "object.__class__")=UT true
 mks:TQ K C=true
 kp:Qh K (.ref C)=true
variable{C D:OM}{x y:Str}{up vp:List OM}
theorem eW.sub(O:eW K mg C x up)(b:ON):US K C b=UT ((up.map OY++[QA "object"]).contains b):=by
 obtain⟨cd,h1,h2⟩:=O.mro;unfold US;rw[h1];show(if cd.mro.isEmpty=true then UU else UT (cd.mro.contains b))=_;rw[h2,if_neg (by cases up<;>simp)]
theorem sE(up:List OM)(D:OM):(up.map OY++[QA "object"]).contains (OY D)=decide (D∈up):=by
 induction up with
 |nil=>rfl
 |cons a r ih=>
  show((OY D==OY a)||(r.map OY++[QA "object"]).contains (OY D))=_;rw[ih];by_cases h:D=a
  ·subst h;simp
  have:(OY D==OY a)=false:=by
   rw[Mt];intro z;exact h (Qj (beq_iff_eq.mp z))
  rw[this,Bool.false_or];simp[h]
theorem eW.kit(O:eW K mg C x up)(U:eW K mg D y vp)(hs:C∈up):Pu K (.ref C) (.ref D)=UT (decide (D∈up)):=by
 unfold Pu;split
 ·rename_i q;have:C=D:=Qj (beq_iff_eq.mp q);rw[<-this,decide_eq_true hs]
 obtain⟨cd,h1,_⟩:=U.mro;unfold W.kitCls;dsimp only;rw[h1,U.ty];rw[if_pos (by rfl)];show US K C (.ref D)=_;rw[O.sub,sE]
theorem eW.cc(O:eW K mg C x up){H:Hp}{a dx:OM}{fs:List (Str×V)}(e:H a=UT (.ins C dx fs)):mh K H (.ref a) (.ref C):=
 .ins e O.cl O.kc O.cg O.ct ((O.sub _).trans (by simp))
end
section
variable{X:Cx}{k j:Nat}{C:OM}{x m:Str}{ps:List Str}{sp:Sp}{o e:Expr}{es:List Expr}{ta:TE}{t:TA}{p apos pos:Pos}{up:List OM}
theorem cN(O:eW X.K X.mg C x up)(D:dz X.prog X.w X.K X.mg X.base j C "__init__" ps sp)(hr:fi k X.A)(ha:PA X (e::es) t)(hj:j+1<=k:=by decide)(hg:Gl X x:=by rfl)(hdb:(x==("__debug__":Str))=false:=by decide)
  (he:OV (e::es) X.env=(false,Pn e X.env)::OV es X.env:=by rfl) (hpl:(Pw pos (OV es X.env)).any (·.1)=false:=by rfl):PE X (.Call (.Name x p) (e::es) [] pos) (Ae C sp [] E0 t):=by
 obtain⟨f,fd,F,b,m⟩:=D
 exact DF ⟨O.mks,m.at_,m.fn,O.kp⟩ F (hr.mono hj) hg O.mg b .nil vF ha hdb he hpl
theorem A6(O:eW X.K X.mg C x up)(D:dz X.prog X.w X.K X.mg X.base j C "__init__" ps sp)(hr:fi k X.A)(hj:j+1<=k:=by decide)(hg:Gl X x:=by rfl)(hdb:(x==("__debug__":Str))=false:=by decide):PE X (.Call (.Name x p) [] [] pos) (Ae C sp [] E0 DN):=by
 obtain⟨f,fd,F,b,m⟩:=D;exact CJ ⟨O.mks,m.at_,m.fn,O.kp⟩ F (hr.mono hj) hg O.mg b .nil vF hdb
theorem bF{pl:Sem Bool}(he:PE X o ta)(c:Cls X.K C)(D:dz X.prog X.w X.K X.mg X.base j C m ps sp)(hr:fi k X.A)(ha:PA X (e::es) t)(hj:j<=k:=by decide)
  (hst:OV (e::es) X.env=(false,Pn e X.env)::OV es X.env:=by rfl) (hpl:(Pw pos (OV es X.env)).any (·.1)=false:=by rfl)
  (ht:Pn (.Call (.Attribute o m apos) (e::es) [] pos) X.env=(do
   let ov<-Pn o X.env
   Te apos.atName
   let (f,first)<-Ql [ov] (Sn ov m pl)
   callWith pos f first (Pw pos (OV (e::es) X.env)) (QZ pos (Qb [] X.env))):=by rfl) :
  PE X (.Call (.Attribute o m apos) (e::es) [] pos) (Fj C m sp [] E0 ta t):=by
 obtain⟨f,fd,F,b,hm⟩:=D
 exact EO (pl:=pl) he c hm F (hr.mono hj) b .nil vF ha hst hpl ht
structure OfC(K:OQ)(C:OM)(m:Str):Prop where
 ga:Qp K (.ref C) "__getattribute__"=UT (UT (.builtin "type.__getattribute__"))
 rd:W.readsIn K C (.type "type")=true
 fc:∃f,Pr K (.ref C) m=UT (UT (.ref f))/\W.findCls K (.ref C) (.type "type") m=UT (.val (.ref f))
theorem cU{pl:Sem Bool}(O:eW X.K X.mg C x up)(W:OfC X.K C m)(D:dz X.prog X.w X.K X.mg X.base j C m ps sp)(hr:fi k X.A)(ha:PA X (e::es) t)(hj:j<=k:=by decide)(hg:Gl X x:=by rfl)(hdb:(x==("__debug__":Str))=false:=by decide)
  (hst:OV (e::es) X.env=(false,Pn e X.env)::OV es X.env:=by rfl) (hpl:(Pw pos (OV es X.env)).any (·.1)=false:=by rfl)
  (ht:Pn (.Call (.Attribute (.Name x p) m apos) (e::es) [] pos) X.env=(do
   let ov<-Pn (.Name x p) X.env
   Te apos.atName
   let (f,first)<-Ql [ov] (Sn ov m pl)
   callWith pos f first (Pw pos (OV (e::es) X.env)) (QZ pos (Qb [] X.env))):=by rfl) :
  PE X (.Call (.Attribute (.Name x p) m apos) (e::es) [] pos) (C9 sp [] E0 t):=by
 obtain⟨f,fd,F,b,hm⟩:=D
 intro pins s σ H Q I h
 refine PySem.W.methodCall_KW (pl:=pl) (oO I hg O.mg ?_ hdb) ht
 obtain⟨f',h1,h2⟩:=W.fc
 have ef:f=f':=by
  have:=hm.at_.symm.trans h1;cases this;rfl
 subst ef
 refine PySem.W.method_cls I.kIn W.ga (PySem.W.cls_value I.kIn W.rd h2 rfl ?_)
 refine PySem.W.callWith_K (h₀:=X.base) I.ok.mod.kin hm.kp (thn (ha pos pins _ σ H _ (I.tok _) h) λus s2 ⟨vs,H2,I2,r,q2⟩=>⟨I2.kIn,?_⟩) hst hpl
 exact xQ (us:=us) (vs:=vs) F (hr.mono hj) b .nil vF I2 r q2
end
theorem FT{K:OQ}{C:OM}{m qual:Str}{st:O9}{ps:List Str}{f:OM}{oc:ON}{od an:Option OM}{osl:Array (Option ON)}{kV doc pm cdv ct:ON}
  (a:Pr K (.ref C) m=UT (UT (.ref f))) (fn:UQ K (.ref f)=true) (l:K.lookup f=UT ⟨oc,od,.func (Qr m qual (eO st) (dq st) (au st) .none kV doc pm an cdv ct),osl⟩) (c:RZ K cdv qual=true) (k:Qh K (.ref f)=true)
  (hb:∀(kV doc pm:ON)(an:Option OM)(cdv ct:ON)(us:List ON),us.length=ps.length->RY (Qr m qual (eO st) (dq st) (au st) .none kV doc pm an cdv ct) ⟨us,[]⟩=pure (ps.zip us)):MFn K C m qual st ps:=
 ⟨f,_,u6 l c k,(u6 l c k).binds hb,⟨a,fn,k⟩⟩
def But(x:OM)(H H':Hp):Prop:=∀b,b≠x->∀o,H b=UT o->H' b=UT o
theorem But.refl(x:OM)(H:Hp):But x H H:=λ_ _ _ h=>h
theorem But.trans{x:OM}{H H1 H2:Hp}(a:But x H H1)(b:But x H1 H2):But x H H2:=λc hc o h=>b c hc o (a c hc o h)
theorem But.at(x:OM)(H:Hp)(o:HO):But x H (upd H x o):=λb hb u q=>by rw[aw hb];exact q
theorem But.new{x p:OM}{H:Hp}(h:H p=UU)(o:HO):But x H (upd H p o):=λb _ u q=>by rw[aw (eI q h)];exact q
theorem But.of{x:OM}{H H':Hp}(s:aq H H'):But x H H':=λb _ o h=>s b o h
theorem But.same{x dx:OM}{H H':Hp}{o o':HO}(b:But x (upd (upd H dx o) x o') H')(hx:H x=UU)(hd:H dx=UU):aq H H':=λa u q=>by
 have h1:a≠x:=λz=>by rw[z,hx]at q;cases q
 have h2:a≠dx:=λz=>by rw[z,hd]at q;cases q
 exact b a h1 u (by rw[aw h1,aw h2];exact q)
end L2
namespace L2
open PySem
theorem ip{H:Hp}{x dx p:OM}{o o':HO}(hx:H x=UU)(hd:H dx=UU)(h:upd (upd H dx o) x o' p=UU):H p=UU:=by
 unfold upd at h;split at h
 ·cases h
 split at h
 ·cases h
 exact h
theorem But.none{x p:OM}{H H':Hp}(b:But x H H')(e:p≠x)(h:H' p=Px):H p=Px:=by
 cases z:H p with
 |none=>rfl
 |some o=>exact absurd (h.symm.trans (b _ e _ z)) (by intro w;cases w)
end L2
namespace L2
open PySem PySem.Spec PyProof.Rows
section
variable{X:Cx}
def tV:V->Bool
 | .flt _=>false
 | .byt _=>false
 |_=>true
theorem o8{x:V}{u v:ON}(hx:tV x=true)(ru:U2 x u)(rv:U2 x v)(A:O7)(s:OO):QE A s u v true:=by
 cases x with
 |non=>cases ru;cases rv;exact .same _
 |bl b=>cases ru;cases rv;exact .same _
 |int i=>
  obtain⟨t,rfl⟩:=ru;obtain⟨t',rfl⟩:=rv;have:=Q1 (A:=A) (s:=s) i t i t';rwa [beq_self_eq_true]at this
 |str y=>
  obtain⟨t,rfl⟩:=ru;obtain⟨t',rfl⟩:=rv;have:=SM (A:=A) (s:=s) y t y t';rwa [beq_self_eq_true]at this
 |byt _=>cases hx
 |flt _=>cases hx
 |ref a=>cases ru;cases rv;exact .same _
 |ty n=>cases ru;cases rv;exact .same _
theorem IU(hu:X.A.units+64<PJ):OpR X (O4 .Eq) (λx y H Q=>∃p q xs,x=.ref p/\y=.ref q/\SqL X.K H p xs/\SqL X.K H q xs/\xs.all tV=true/\Q (.bl true) H):=by
 intro pins s σ H x y v u Q I rx ry h;obtain⟨p,q,xs,rfl,rfl,hp,hq,hf,k⟩:=h;cases rx;cases ry;obtain⟨its,r1,⟨o,n,e1,c1,_,d1⟩,_⟩:=I.list hp;obtain⟨jts,r2,⟨o2,n2,e2,c2,_,d2⟩,_⟩:=I.list hq;have l1:=r1.length;have l2:=r2.length;refine SeqAt.eq_listAt (e:=λ_=>true) ⟨o,e1,c1,n,d1⟩ ⟨o2,e2,c2,n2,d2⟩ (by simp;omega) (by omega) (λj h1 h2=>?_) ?_
 ·simp at h1 h2;obtain⟨x,hx⟩:∃x,xs[j]?=UT x:=⟨xs[j]'(by omega),Kw (by omega)⟩;obtain⟨u1,g1,w1⟩:=r1.get hx;obtain⟨u2,g2,w2⟩:=r2.get hx;have z1:its.toArray[j]'(by simpa using h1)=u1:=by
   have:=Kw h1;rw[g1]at this;simpa using (OS this).symm
  have z2:jts.toArray[j]'(by simpa using h2)=u2:=by
   have:=Kw h2;rw[g2]at this;simpa using (OS this).symm
  rw[z1,z2];exact o8 (Ml.mp hf x (KG hx)) w1 w2 _ _
 have:((O2 its.toArray.size).all λ_=>true)=true:=by simp
 rw[this];exact⟨.bl true,H,I,rfl,k⟩
def JZ(K:OQ):R2:=λx y H Q=>match x,y with
 | .ref p,.ref q=>(∃d e,ja K H (.ref p) d/\ja K H (.ref q) e/\Pe d=true/\Pe e=true/\Q (.bl (QG d e)) H)\/(∃xs,SqL K H p xs/\SqL K H q xs/\xs.all tV=true/\Q (.bl true) H)
 |x,y=>AG x y=true/\Q (.bl (decide (x=y))) H
theorem IF(hu:X.A.units+64<PJ):OpR X (O4 .Eq) (JZ X.K):=((JL hu).or (IU hu)).imp λx y H Q q=>by
 by_cases hr:∃p q,x=V.ref p/\y=V.ref q
 ·obtain⟨p,q',rfl,rfl⟩:=hr;rcases q with q|⟨xs,h1,h2,h3,h4⟩
  ·exact .inl q
  exact .inr ⟨p,q',xs,rfl,rfl,h1,h2,h3,h4⟩
 refine .inl ?_;cases x<;>cases y<;>first|exact q|exact absurd ⟨_,_,rfl,rfl⟩ hr
theorem oe:dI X (.type "int") (λxs H Q=>∃b,xs=[.bl b]/\Q (.int (if b=true then 1 else 0)) H):=by
 intro pins s σ H xs us Q I r h;obtain⟨b,rfl,q⟩:=h;obtain⟨u,rfl,rfl⟩:=Vb r;exact PySem.call_int_bool ⟨.int _,H,I.tok _,⟨_,rfl⟩,q⟩
end
section
variable{κ:Type}[DecidableEq κ]
def ft(kvs:List (κ×V))(k:κ):Option V:=(kvs.find? λkv=>decide (kv.1=k)).map (·.2)
def UZ(kvs:List (κ×V))(k:κ)(v:V):List (κ×V):=
 if(kvs.any λkv=>decide (kv.1=k))=true then kvs.map (λkv=>if kv.1=k then(kv.1,v)else kv)else kvs++[(k,v)]
theorem mz{p:κ×V}{r:List (κ×V)}{k:κ}(e:p.1=k):ft (p::r) k=UT p.2:=by simp[ft,Ly,e]
theorem oz{p:κ×V}{r:List (κ×V)}{k:κ}(e:¬ p.1=k):ft (p::r) k=ft r k:=by simp[ft,Ly,e]
theorem vD(k:κ):∀kvs:List (κ×V),(kvs.any λkv=>decide (kv.1=k))=(ft kvs k).isSome
 | []=>rfl
 |p::r=>by
  rw[Mw];by_cases e:p.1=k
  ·simp only[mz e,decide_eq_true e,Bool.true_or,SO]
  rw[oz e,decide_eq_false e,Bool.false_or];exact vD k r
theorem jf(kvs:List (κ×V))(k:κ)(v:V):(UZ kvs k v).length<=kvs.length+1:=by
 unfold UZ;split
 ·rw[Ky];omega
 rw[Kz,Lc,MO];omega
theorem lC.o9{o:Option V}{u:Option ON}(r:lC o u):o.isSome=u.isSome:=by
 cases o with
 |none=>cases u with
  |none=>rfl
  |some _=>exact(show False from r).elim
 |some _=>cases u with
  |none=>exact(show False from r).elim
  |some _=>rfl
theorem lC.getD{o:Option V}{u:Option ON}{d:V}{d':ON}(r:lC o u)(rd:U2 d d'):U2 (o.getD d) (u.getD d'):=by
 cases o with
 |none=>cases u with
  |none=>exact rd
  |some _=>exact(show False from r).elim
 |some _=>cases u with
  |none=>exact(show False from r).elim
  |some _=>exact r
theorem KV.val{kvs:List (κ×V)}{vs:List (κ×ON)}(r:KV kvs vs)(k:κ):lC (ft kvs k) (valueAt vs k):=by
 unfold KV at r;induction r with
 |nil=>exact Lj
 |@cons p q ps qs h t ih=>
  obtain⟨h1,h2⟩:=h;by_cases e:p.1=k
  ·have e':q.1=k:=h1.symm.trans e;have b:valueAt (q::qs) k=UT q.2:=by simp[valueAt,Ly,e']
   rw[mz e,b];exact h2
  have e':¬ q.1=k:=λz=>e (h1.trans z);have b:valueAt (q::qs) k=valueAt qs k:=by simp[valueAt,Ly,e']
  rw[oz e,b];exact ih
theorem KV.any{kvs:List (κ×V)}{vs:List (κ×ON)}(r:KV kvs vs)(k:κ):(kvs.any λkv=>decide (kv.1=k))=vs.any λkv=>decide (kv.1=k):=by
 unfold KV at r;induction r with
 |nil=>rfl
 |cons h t ih=>rw[Mw,Mw,ih,h.1]
theorem KV.GH{kvs:List (κ×V)}{vs:List (κ×ON)}(r:KV kvs vs)(k:κ){y:V}{u:ON}(ry:U2 y u) :
  KV (kvs.map λkv=>if kv.1=k then(kv.1,y)else kv) (vs.map λkv=>if kv.1=k then(kv.1,u)else kv):=by
 unfold KV at r⊢
 induction r with
 |nil=>exact .nil
 |@cons p q ps qs h t ih=>
  rw[KQ,KQ]
  refine .cons ?_ ih
  obtain⟨h1,h2⟩:=h
  by_cases e:p.1=k
  ·rw[if_pos e,if_pos (h1.symm.trans e)];exact⟨h1,ry⟩
  rw[if_neg e,if_neg (λz=>e (h1.trans z))];exact⟨h1,h2⟩
theorem KV.put{kvs:List (κ×V)}{vs:List (κ×ON)}(r:KV kvs vs)(k:κ){y:V}{u:ON}(ry:U2 y u):KV (UZ kvs k y) (stored vs k u):=by
 unfold UZ stored;rw[r.any k];by_cases e:(vs.any λkv=>decide (kv.1=k))=true
 ·rw[if_pos e,if_pos e];exact r.GH k ry
 rw[if_neg e,if_neg e];exact Pb r ⟨rfl,ry⟩
theorem KV.keys{kvs:List (κ×V)}{vs:List (κ×ON)}(r:KV kvs vs):kvs.map (·.1)=vs.map (·.1):=by
 unfold KV at r;induction r with
 |nil=>rfl
 |cons h t ih=>rw[KQ,KQ,ih,h.1]
theorem KV.length{kvs:List (κ×V)}{vs:List (κ×ON)}(r:KV kvs vs):kvs.length=vs.length:=OU r
end
theorem qC{P:Program}{w:OX}{k:Key}{u:ON}(r:U2 (kV k) u):(cF P w).is k u=true:=by
 cases k with
 |inl i=>obtain⟨t,e⟩:=(show ∃t,u=QT i t from r);subst e;exact wK P w i t
 |inr x=>obtain⟨t,e⟩:=(show ∃t,u=Si x t from r);subst e;exact vN P w x t
theorem uq{P:Program}{w:OX}:∀{ks:List Key}{us:List ON},U1 (ks.map kV) us->ItemsAre (cF P w) ks us
 | [],_,r=>by rw[MK]at r;cases r;exact .nil
 |k::ks,_,r=>by
  rw[KQ]at r;cases r with
  |cons h t=>exact .cons (qC h) (uq t)
abbrev KT(H:Hp):List (List Key×V)->List (List Key×OM×ON)->Prop:=Paired λp q=>p.1=q.1/\H q.2.1=UT (.tup (p.1.map kV))/\U2 p.2 q.2.2
theorem KT.val{H:Hp}{kvs:List (List Key×V)}{xs:List (List Key×OM×ON)}(r:KT H kvs xs)(k:List Key):lC (ft kvs k) ((Uj xs k).map (·.2)):=by
 induction r with
 |nil=>exact Lj
 |@cons p q ps qs h t ih=>
  obtain⟨h1,_,h2⟩:=h;by_cases e:p.1=k
  ·have e':q.1=k:=h1.symm.trans e;have b:Uj (q::qs) k=UT q.2:=by simp[Uj,Ly,e']
   rw[mz e,b];exact h2
  have e':¬ q.1=k:=λz=>e (h1.trans z);have b:Uj (q::qs) k=Uj qs k:=by simp[Uj,Ly,e']
  rw[oz e,b];exact ih
theorem KT.GH{H:Hp}{kvs:List (List Key×V)}{xs:List (List Key×OM×ON)}(r:KT H kvs xs)(k:List Key){y:V}{u:ON}(ry:U2 y u) :
  KT H (kvs.map λkv=>if kv.1=k then(kv.1,y)else kv) (xs.map (putAt k u)):=by
 induction r with
 |nil=>exact .nil
 |@cons p q ps qs h t ih=>
  rw[KQ,KQ]
  refine .cons ?_ ih
  obtain⟨h1,h2,h3⟩:=h
  unfold putAt
  by_cases e:p.1=k
  ·rw[if_pos e,if_pos (h1.symm.trans e)];exact⟨h1,h2,ry⟩
  rw[if_neg e,if_neg (λz=>e (h1.trans z))];exact⟨h1,h2,h3⟩
theorem KT.put{H:Hp}{kvs:List (List Key×V)}{xs:List (List Key×OM×ON)}(r:KT H kvs xs)(k:List Key){b:OM}{y:V}{u:ON}(hb:H b=UT (.tup (k.map kV)))(ry:U2 y u) :
  KT H (UZ kvs k y) (storedH xs k b u):=by
 have e:(kvs.any λkv=>decide (kv.1=k))=(Uj xs k).isSome:=by
  rw[vD,(r.val k).o9,Tw]
 unfold UZ storedH
 rw[e]
 by_cases q:(Uj xs k).isSome=true
 ·rw[if_pos q,if_pos q];exact r.GH k ry
 rw[if_neg q,if_neg q];exact Pb r ⟨rfl,hb,ry⟩
theorem KT.keeps{H H':Hp}{kvs:List (List Key×V)}{xs:List (List Key×OM×ON)}(r:KT H kvs xs)(ht:∀b ys,H b=UT (.tup ys)->H' b=UT (.tup ys)):KT H' kvs xs:=
 Paired.cR r λ_ _ z=>⟨z.1,ht _ _ z.2.1,z.2.2⟩
section
variable{P:Program}{w:OX}{H:Hp}{h:O8}{a:OM}
theorem Fp{u:HO}(ok:HOk P w H h)(e:Rd H a u):dB P w H h a u:=e.ok ok
theorem jh{kvs:List (Key×V)}(ok:HOk P w H h)(e:Rd H a (.dK kvs)):kvs.length<=sizeLine/\(a==Pm)=false/\∃vs,KV kvs vs/\h.DictOf (cF P w) a vs:=
 show dB P w H h a (.dK kvs)from Fp ok e
theorem Cm{kvs:List (Key×V)}(ok:HOk P w H h)(e:H a=UT (.dK kvs)):kvs.length<=sizeLine/\(a==Pm)=false/\∃vs,KV kvs vs/\h.DictOf (cF P w) a vs:=jh ok (.inl e)
theorem qB{ks:List Key}(ok:HOk P w H h)(e:H a=UT (.tup (ks.map kV))):(Ri (cF P w)).is h ks a:=by
 obtain⟨_,its,r,o,h1,h2,n,h3⟩:=(show dB P w H h a (.tup (ks.map kV))from ok a _ e);exact⟨o,its.toArray,n,h1,h2,h3,by simpa using uq r⟩
theorem tW{kvs:List (List Key×V)}(ok:HOk P w H h)(e:Rd H a (.dT kvs)):kvs.length<=sizeLine/\(a==Pm)=false/\
  ∃xs,KT H kvs xs/\h.DictOfH (Ri (cF P w)) a xs:=by
 obtain⟨z,y,xs,r,o,es,ep,h1,h2,h3,h4,h5⟩:=(show dB P w H h a (.dT kvs)from Fp ok e)
 refine⟨z,y,xs,r,o,es,ep,h1,h2,h3,h4,λx hx=>?_,h5⟩
 have all:∀{l:List (List Key×V)}{m:List (List Key×OM×ON)},KT H l m->∀x∈m,(Ri (cF P w)).is h x.1 x.2.1:=by
  intro l m q;induction q with
  |nil=>intro x hx;exact nomatch hx
  |@cons p q ps qs hq t ih=>
   intro x hx;rcases Ku.mp hx with e|hx
   ·subst e;exact qB ok (by rw[<-hq.1];exact hq.2.1)
   exact ih x hx
 exact all r x hx
theorem Iv{kvs:List (List Key×V)}(ok:HOk P w H h)(e:H a=UT (.dT kvs)):kvs.length<=sizeLine/\(a==Pm)=false/\
  ∃xs,KT H kvs xs/\h.DictOfH (Ri (cF P w)) a xs:=tW ok (.inl e)
end
def c8(H:Hp)(a:OM)(y:V)(r:Option V):Prop:=
 (∃kvs k,Rd H a (.dK kvs)/\y=kV k/\r=ft kvs k)\/∃kvs k b,Rd H a (.dT kvs)/\y=.ref b/\H b=UT (.tup (k.map kV))/\r=ft kvs k
def cP(H:Hp)(a:OM)(y v:V)(H':Hp):Prop:=
 (∃kvs k,H a=UT (.dK kvs)/\y=kV k/\kvs.length<sizeLine/\H'=upd H a (.dK (UZ kvs k v)))\/
 ∃kvs k b,H a=UT (.dT kvs)/\y=.ref b/\H b=UT (.tup (k.map kV))/\kvs.length<sizeLine/\H'=upd H a (.dT (UZ kvs k v))
theorem c8.k{H:Hp}{a:OM}{kvs:List (Key×V)}{k:Key}(e:H a=UT (.dK kvs)):c8 H a (kV k) (ft kvs k):=.inl ⟨kvs,k,.inl e,rfl,rfl⟩
theorem cP.k{H:Hp}{a:OM}{kvs:List (Key×V)}{k:Key}{v:V}(e:H a=UT (.dK kvs))(hl:kvs.length<sizeLine):cP H a (kV k) v (upd H a (.dK (UZ kvs k v))):=.inl ⟨kvs,k,e,rfl,hl,rfl⟩
section
variable{X:Cx}{pins:List (OM×Obj)}{σ:St}{H:Hp}{s:OO}{a:OM}{y v:V}{u r:ON}{o:Option V}{A:O7}{E:ON->OO->Prop}
theorem Inv.big(I:Inv X pins σ H s):Pm<s.heap.objs.size:=by
 have h:O5<s.heap.objs.size:=(I.mod.glob.keeps I.bk).lt;exact Nat.lt_trans (by decide) h
theorem Au{Q:ON->OO->Prop}(hu:A.units+1<PJ)(I:Inv X pins σ H s)(g:c8 H a y (UT v))(ry:U2 y u)(h:∀w' s',Inv X pins σ H s'->U2 v w'->Q w' s') :
  wpAny (OZ X.prog X.w) A (Sq (.ref a) u) Q E s:=by
 rcases g with⟨kvs,k,e,ey,l⟩|⟨kvs,k,b,e,ey,eb,l⟩
 ·subst ey;obtain⟨z,hd,vs,rel,dd⟩:=jh I.hok e;obtain⟨w',hw,rw'⟩:=lC.some_of (v:=v) (o:=valueAt vs k) (by rw[l];exact rel.val k);exact wpAny_getItem_of (qC ry) dd.mapOf hw (h w' _ (I.tok _) rw')
 subst ey
 cases (show u=OY b from ry)
 obtain⟨z,hd,xs,rel,dd⟩:=tW I.hok e
 obtain⟨w',hw,rw'⟩:=lC.some_of (v:=v) (o:=(Uj xs k).map (·.2)) (by rw[l];exact rel.val k)
 obtain⟨p,hp,hp2⟩:=LG.mp hw
 refine wpAny_getItem_heap (Qn hu) (qB I.hok eb) dd hp ?_
 rw[hp2]
 exact h w' _ (I.tok _) rw'
theorem Kq{Q:ON->OO->Prop}(hu:A.units+1<PJ)(I:Inv X pins σ H s)(g:c8 H a y o)(ry:U2 y u)(h:∀s',Inv X pins σ H s'->Q (.bool o.isSome) s') :
  wpAny (OZ X.prog X.w) A (O4 .In u (.ref a)) Q E s:=by
 rcases g with⟨kvs,k,e,ey,l⟩|⟨kvs,k,b,e,ey,eb,l⟩
 ·subst ey;obtain⟨z,hd,vs,rel,dd⟩:=jh I.hok e;refine wpAny_in_of (qC ry) hd dd.mapOf ?_;rw[<-(rel.val k).o9,<-l];exact h _ (I.tok _)
 subst ey
 cases (show u=OY b from ry)
 obtain⟨z,hd,xs,rel,dd⟩:=tW I.hok e
 refine wpAny_in_heap (Qn hu) (qB I.hok eb) hd dd ?_
 have q:=(rel.val k).o9
 rw[Tw]at q
 rw[<-q,<-l]
 exact h _ (I.tok _)
theorem qj{h':O8}{t':Nat}{ob:HO}(I:Inv X pins σ H s)(mu:Mut (H a))(hs:QS a s.heap h')(he:∃q,h'.get? a=UT q)(new:dB X.prog X.w (upd H a ob) h' a ob) :
  Inv X pins σ (upd H a ob) { s with heap:=h',toks:=t' }:=
 I.write (x:=a) (e:=a) mu (.inl rfl) (λb q hb z=>(hs.2 b hb).trans z) he new
theorem iC{P:Program}{w:OX}{H':Hp}{h':O8}{kvs:List (Key×V)}{vs:List (Key×ON)}(z:kvs.length<=sizeLine)(hd:(a==Pm)=false)(rel:KV kvs vs)(dd:h'.DictOf (cF P w) a vs) :
  dB P w H' h' a (.dK kvs):=⟨z,hd,vs,rel,dd⟩
theorem AZ{H':Hp}{Q:Unit->OO->Prop}(hu:A.units+1<PJ)(I:Inv X pins σ H s)(g:cP H a y v H')(ry:U2 y u)(rv:U2 v r)(h:∀s',Inv X pins σ H' s'->Q () s') :
  wpAny (OZ X.prog X.w) A (setItem (.ref a) u r) Q E s:=by
 rcases g with⟨kvs,k,e,ey,l,eH⟩|⟨kvs,k,b,e,ey,eb,l,eH⟩
 ·subst ey eH;obtain⟨z,hd,vs,rel,dd⟩:=Cm I.hok e;have hz:vs.length<=sizeLine:=by rw[<-rel.length];exact z
  have hl:(UZ kvs k v).length<=sizeLine:=by have:=jf kvs k v;omega
  refine wpAny_setItem_pairs (hsz:=hz) (qC ry) dd λh' dd' hs=>h _ ?_;have he:∃q,h'.get? a=UT q:=let ⟨q,_,_,hq,_⟩:=dd';⟨q,hq⟩
  exact qj I (by rw[e];exact Lj) hs he (iC hl hd (rel.put k rv) dd')
 subst ey eH
 cases (show u=OY b from ry)
 obtain⟨z,hd,xs,rel,dd⟩:=Iv I.hok e
 have hz:xs.length<=sizeLine:=by rw[<-OU rel];exact z
 have hl:(UZ kvs k v).length<=sizeLine:=by have:=jf kvs k v;omega
 refine wpAny_setItem_heap (hsz:=hz) (Qn hu) (qB I.hok eb) dd λh' dd' hs=>h _ ?_
 obtain⟨q,es,ep,hq,h2,h3,h4,_,h5⟩:=dd'
 refine qj I (by rw[e];exact Lj) hs ⟨q,hq⟩ ⟨hl,hd,_,(rel.put k eb rv).keeps λc ys ec=>?_,q,es,ep,hq,h2,h3,h4,h5⟩
 rw[aw (IY ec e (λz=>nomatch z))]
 exact ec
end
section
variable{X:Cx}{pins:List (OM×Obj)}{σ:St}{H:Hp}{s:OO}{a:OM}{kvs:List (Key×V)}{k:Key}{u:ON}{A:O7}{E:ON->OO->Prop}
theorem Jt{Q:ON->OO->Prop}(I:Inv X pins σ H s)(e:Rd H a (.dK kvs))(h:∀t s',Inv X pins σ H s'->Q (.int kvs.length t) s'):wpAny (OZ X.prog X.w) A (call (.builtin "len") [.ref a]) Q E s:=by
 obtain⟨z,hd,vs,rel,dd⟩:=jh I.hok e;refine call_len_dict hd dd (by rw[<-rel.length];rw[P9]at z;omega) ?_;rw[<-rel.length];exact h _ _ (I.tok _)
end
theorem wy{X:Cx}{pins:List (OM×Obj)}{σ:St}{H:Hp}{s:OO}{a:OM}{y:V}{o:Option V}(I:Inv X pins σ H s)(g:c8 H a y o):s.TypeIs (.ref a) "dict":=by
 rcases g with⟨kvs,k,e,_,_⟩|⟨kvs,k,b,e,_,_,_⟩
 ·obtain⟨_,_,vs,_,dd⟩:=jh I.hok e;exact dd.typeIs
 obtain⟨_,_,xs,_,dd⟩:=tW I.hok e;exact dd.typeIs
section
variable{X:Cx}{o i e value:Expr}{pos pos' tpos:Pos}{td ty tv:TE}
end
theorem qA{P:Program}{w:OX}{H:Hp}(h:O8)(hb:Pm<h.objs.size):dB P w H (h.push { cls:=.type "dict",data:=.dict #[] }) h.objs.size (.dK []):=
 ⟨KY _,beq_eq_false_iff_ne.mpr (Lv (Lp hb)),[],.nil,Uo h⟩
def HK:TE:=λ_ H Q=>∀p,H p=UU->Q (.ref p) (upd H p (.dK []))
section
variable{X:Cx}{pos:Pos}
theorem fC:PE X (.Dict [] [] pos) HK:=λpins s σ H Q I h=>
 wpAny_Dict_empty ⟨.ref s.heap.objs.size,_,I.laid (a:=s.heap.objs.size) (o:=.dK []) (t':=s.toks) (λ_ _ q=>OR _ q) (KI _) (qA s.heap I.big),rfl,h _ (I.hok.fresh (KI _))⟩
end
def xW:List (TE×TE)->St->Hp->(List (V×V)->Hp->Prop)->Prop
 | [],_,H,Q=>Q [] H
 | (tk,tv)::r,σ,H,Q=>tk σ H λx H1=>tv σ H1 λy H2=>xW r σ H2 λps H3=>Q ((x,y)::ps) H3
abbrev VV:List (V×V)->List (ON×ON)->Prop:=Paired λp q=>U2 p.1 q.1/\U2 p.2 q.2
def PPs(X:Cx)(pos:Pos)(keys:List (Option Expr))(values:List Expr)(trs:List (TE×TE)):Prop:=
 ∀(pins:List (OM×Obj))(s:OO)(σ:St)(H:Hp)(Q:List (V×V)->Hp->Prop),Inv X pins σ H s->xW trs σ H Q->
  wpAny (OZ X.prog X.w) X.A (evalPairs (pairTrees keys values X.env pos)) (λvs s'=>∃ps H',Inv X pins σ H' s'/\VV ps vs/\Q ps H') X.xe s
theorem qg{X:Cx}{pos:Pos}:PPs X pos [] [] []:=λpins s σ H Q I h=>pairTrees_nil_walk ⟨[],H,I,.nil,h⟩
theorem cw{X:Cx}{pos:Pos}{k v:Expr}{ks:List (Option Expr)}{vs:List Expr}{tk tv:TE}{trs:List (TE×TE)}(hk:PE X k tk)(hv:PE X v tv)(hr:PPs X pos ks vs trs) :
  PPs X pos (UT k::ks) (v::vs) ((tk,tv)::trs):=λpins s σ H Q I h=>
 pairTrees_cons_walk (thn (hk pins s σ H _ I h) λu s1 ⟨x,H1,I1,rx,q1⟩=>thn (hv pins s1 σ H1 _ I1 q1) λw2 s2 ⟨y,H2,I2,ry,q2⟩=>
  thn (hr pins s2 σ H2 _ I2 q2) λws s3 ⟨ps,H3,I3,rel,q3⟩=>⟨(x,y)::ps,H3,I3,.cons ⟨rx,ry⟩ rel,q3⟩)
def cz(kvs more:List (Key×V)):List (Key×V):=more.foldl (λacc kv=>UZ acc kv.1 kv.2) kvs
theorem KV.merge:∀{more:List (Key×V)}{rs:List (Key×ON)}{kvs:List (Key×V)}{vs:List (Key×ON)},KV more rs->KV kvs vs->KV (cz kvs more) (merged vs rs):=by
 intro more rs kvs vs r;unfold KV at r;induction r generalizing kvs vs with
 |nil=>intro q;exact q
 |@cons p q ps qs h t ih=>
  intro r0;have e:KV (UZ kvs p.1 p.2) (stored vs q.1 q.2):=by
   have:=r0.put p.1 h.2;rw[<-h.1];exact this
  exact ih e
theorem jP:∀(more kvs:List (Key×V)),(cz kvs more).length<=kvs.length+more.length
 | [],kvs=>by show kvs.length<=kvs.length+0;omega
 |p::r,kvs=>by
  have h1:=jP r (UZ kvs p.1 p.2);have h2:=jf kvs p.1 p.2;show(cz (UZ kvs p.1 p.2) r).length<=_;rw[Lc];omega
theorem qO{P:Program}{w:OX}:∀{kvs:List (Key×V)}{ws:List (ON×ON)},VV (kvs.map λkv=>(kV kv.1,kv.2)) ws->∃rs,Carries (cF P w) ws rs/\KV kvs rs
 | [],_,r=>by rw[MK]at r;cases r;exact⟨[],Lj,.nil⟩
 |p::kvs,_,r=>by
  rw[KQ]at r;cases r with
  |@cons a b as bs h t=>
   obtain⟨rs,c,q⟩:=qO (P:=P) (w:=w) t;obtain⟨b1,b2⟩:=b;exact⟨(p.1,b2)::rs,⟨qC h.1,rfl,c⟩,.cons ⟨rfl,h.2⟩ q⟩
def Ib(trs:List (TE×TE)):TE:=λσ H Q=>∀p,H p=UU->xW trs σ (upd H p (.dK [])) λps H2=>H2 p=UT (.dK [])/\∃kvs:List (Key×V),ps=kvs.map (λkv=>(kV kv.1,kv.2))/\kvs.length<=15/\Q (.ref p) (upd H2 p (.dK (cz [] kvs)))
theorem qf{X:Cx}{pos:Pos}{keys:List (Option Expr)}{values:List Expr}{trs:List (TE×TE)}(h:PPs X pos keys values trs)(hall:keys.all (·.isSome)=true)(hl:keys.length=values.length)(h0:keys≠[])
  (h15:keys.length<=15):PE X (.Dict keys values pos) (Ib trs):=by
 intro pins s σ H Q I q
 have hn:=I.hok.fresh (KI s.heap.objs.size)
 have I1:=I.laid (a:=s.heap.objs.size) (o:=.dK []) (h':=s.heap.push { cls:=.type "dict",data:=.dict #[] }) (t':=s.toks) (λ_ _ q=>OR _ q) (KI _) (qA s.heap I.big)
 refine wpAny_Dict_walk (knd:=cF X.prog X.w) hall hl h0 h15 (thn (h pins _ σ _ _ I1 (q _ hn)) λws s2 ⟨ps,H2,I2,rel,e,kvs,ep,lk,q2⟩=>?_)
 subst ep
 obtain⟨rs,c,rk⟩:=qO (P:=X.prog) (w:=X.w) rel
 obtain⟨z,hd,vs0,r0,dd⟩:=Cm I2.hok e
 cases r0
 refine⟨rs,c,dd,λh' dd' hs=>⟨.ref s.heap.objs.size,_,?_,rfl,q2⟩⟩
 have hz:(cz [] kvs).length<=sizeLine:=by
  have h1:=jP kvs [];rw[MO]at h1;rw[P9];omega
 have he:∃q,h'.get? s.heap.objs.size=UT q:=let ⟨q,_,_,hq,_⟩:=dd';⟨q,hq⟩
 exact qj I2 (by rw[e];exact Lj) hs he (iC hz hd (rk.merge .nil) dd')
structure M1(X:Cx)(o:Expr)(m:Str)(apos:Pos)(e:Expr)(cpos:Pos):Prop where
 base:PH o m X.env (Pn o X.env)=Pn o X.env
 few:((Pw cpos (OV [e] X.env)).all (λx=>!x.1)&&(QZ cpos (Qb [] X.env)).all (λx=>x.1.isSome)
  &&decide (([e]:List Expr).length+([]:List QH).length+(if([]:List QH).isEmpty then 0 else 1)<30))=true
 line:(apos.endLine==cpos.line)=true
 trees:Pw cpos (OV [e] X.env)=[(false,Pn e X.env)]
structure M2(X:Cx)(o:Expr)(m:Str)(apos:Pos)(e f:Expr)(cpos:Pos):Prop where
 base:PH o m X.env (Pn o X.env)=Pn o X.env
 few:((Pw cpos (OV [e,f] X.env)).all (λx=>!x.1)&&(QZ cpos (Qb [] X.env)).all (λx=>x.1.isSome)
  &&decide (([e,f]:List Expr).length+([]:List QH).length+(if([]:List QH).isEmpty then 0 else 1)<30))=true
 line:(apos.endLine==cpos.line)=true
 trees:Pw cpos (OV [e,f] X.env)=[(false,Pn e X.env),(false,Pn f X.env)]
def IsD(H:Hp)(a:OM):Prop:=(∃kvs,Rd H a (.dK kvs))\/∃kvs,Rd H a (.dT kvs)
theorem FH{X:Cx}{pins:List (OM×Obj)}{σ:St}{H:Hp}{s:OO}{a:OM}(I:Inv X pins σ H s)(d:IsD H a) :
  s.TypeIs (.ref a) "dict"/\(∀b,OY a=.ref b->∃ob,s.heap.get? b=UT ob/\ob.dict=UU)/\(a==Pm)=false:=by
 rcases d with⟨kvs,e⟩|⟨kvs,e⟩
 ·obtain⟨_,hd,vs,_,dd⟩:=jh I.hok e;refine⟨dd.typeIs,λb q=>?_,hd⟩;cases q;obtain⟨ob,_,_,h1,h2,_⟩:=dd;exact⟨ob,h1,h2.2.1⟩
 obtain⟨_,hd,xs,_,dd⟩:=tW I.hok e
 refine⟨dd.typeIs,λb q=>?_,hd⟩
 cases q
 obtain⟨ob,_,_,h1,h2,_⟩:=dd
 exact⟨ob,h1,h2.2.1⟩
section
variable{X:Cx}{pins:List (OM×Obj)}{σ:St}{H:Hp}{s:OO}{a:OM}{y d:V}{u r:ON}{o:Option V}{A:O7}{E:ON->OO->Prop}
theorem F2{Q:ON->OO->Prop}(hu:A.units+1<PJ)(I:Inv X pins σ H s)(g:c8 H a y o)(ry:U2 y u)(h:∀w' s',Inv X pins σ H s'->U2 (o.getD .non) w'->Q w' s') :
  wpAny (OZ X.prog X.w) A (call (.builtin "dict.get") [.ref a,u]) Q E s:=by
 rcases g with⟨kvs,k,e,ey,l⟩|⟨kvs,k,b,e,ey,eb,l⟩
 ·subst ey;obtain⟨z,hd,vs,rel,dd⟩:=jh I.hok e;refine RI Qy dd.typeIs RJ (Rp _ _) (meets_dict_get (cF X.prog X.w) a (qC ry) hd) ⟨_,dd.mapOf,h _ _ (I.tok _) ?_⟩;rw[l];exact(rel.val k).getD rfl
 subst ey
 cases (show u=OY b from ry)
 obtain⟨z,hd,xs,rel,dd⟩:=tW I.hok e
 refine RI Qy dd.typeIs RJ (Rp _ _) (meetsH_dict_get (Ri (cF X.prog X.w)) a b hd) ⟨Qn hu,k,xs,qB I.hok eb,dd,h _ _ (I.tok _) ?_⟩
 rw[l]
 exact(rel.val k).getD rfl
end
def F9(td ty:TE):TE:=λσ H Q=>td σ H λx H1=>∃a,x=.ref a/\IsD H1 a/\ty σ H1 λy H2=>∃o,c8 H2 a y o/\Q (o.getD .non) H2
section
variable{X:Cx}{o e f:Expr}{apos cpos:Pos}{td ty tx:TE}
theorem CT(hu:X.A.units+1<PJ)(ho:PE X o td)(he:PE X e ty)(m:M1 X o "get" apos e cpos):PE X (.Call (.Attribute o "get" apos) [e] [] cpos) (F9 td ty):=by
 intro pins s σ H Q I h;refine wpAny_Call_method m.base m.few m.line PySem.F.plainAttrs_dict Qy PySem.F.type_dict_get (thn (ho pins s σ H _ I h) λu s1 ⟨x,H1,I1,rx,a,ex,d,q1⟩=>?_);subst ex;obtain rfl:u=OY a:=rx;obtain⟨t1,t2,_⟩:=FH I1 d;refine⟨t1,t2,?_⟩;rw[m.trees];refine Qs rfl (R0 (SI (thn (he pins s1 σ H1 _ I1 q1) λiv s2 ⟨y,H2,I2,ry,ov,g,q2⟩=>Tn ?_)));exact F2 hu I2 g ry λw' s3 I3 rw'=>⟨_,H2,I3,rw',q2⟩
end
section
variable{X:Cx}{pins:List (OM×Obj)}{σ:St}{H:Hp}{s:OO}{a:OM}{kvs:List (Key×V)}{A:O7}{E:ON->OO->Prop}
end
section
variable{X:Cx}{pins:List (OM×Obj)}{σ:St}{H:Hp}{s:OO}{a:OM}{y:V}{u:ON}{A:O7}{E:ON->OO->Prop}
end
section
variable{X:Cx}
theorem vJ(hu:X.A.units+64<PJ):IxR X (λx y H Q=>∃a v,x=.ref a/\c8 H a y (UT v)/\Q v H):=by
 intro value slice pins s σ H x y v u Q I rx ry h hs;obtain⟨a,z,rfl,g,q⟩:=h;cases rx;have hT:=wy I g;unfold SD;refine OP ?_;rw[getitemInPython_of_ne hT.not_modules];refine OP (wpAny_specialOf hT PySem.F.slot_dict_getitem.lookup ?_);have h₂:wpAny (OZ X.prog X.w) X.A (Sq (.ref a) u) (EP X pins σ Q) X.xe s:=Au (by omega) I g ry λw' s3 I3 rw'=>⟨z,H,I3,rw',q⟩;have fin:wpAny (OZ X.prog X.w) X.A (subscripted slice false (.ref a) u) (λr s₃=>wpAny (OZ X.prog X.w) X.A (letTemporaryGo value (.ref a) r>>=λ_=>pure r) (EP X pins σ Q) X.xe s₃) X.xe s:=by
  rw[hs];exact wpAny_operating (PK h₂ (λr s₃ h₃=>OP (wpAny_letTemporaryGo (OT h₃))) λ_ _ x=>x)
 first
  |exact OT (OP fin)
  |exact OP (OT (OP fin))
  |exact OP fin
inductive dgI(p:OM)(y:V)(H:Hp)(Q:VK):Prop
 |mk(v:V)(h:c8 H p y (UT v))(q:Q v H):dgI p y H Q
def JG(K:OQ):R2:=λx y H Q=>match x,y with
 | .ref p,.int i=>ixS K p i H Q\/dgI p (.int i) H Q
 | .ref p,.str k=>dgI p (.str k) H Q
 | .str z,.int i=>∃c,z.length<=sizeLine/\atI z.cps.toList i=UT c/\Q (.str ⟨#[c]⟩) H
 |_,_=>False
theorem HM(hu:X.A.units+64<PJ):IxR X (JG X.K):=by
 intro value slice pins s σ H x y v u Q I rx ry h hs;cases x with
 |ref p=>
  cases y with
  |int i=>
   rcases h with h|⟨w,g,q⟩
   ·exact CS value slice pins s σ H _ _ v u Q I rx ry h hs
   exact vJ hu value slice pins s σ H _ _ v u Q I rx ry ⟨p,w,rfl,g,q⟩ hs
  |str k=>
   obtain⟨w,g,q⟩:=h;exact vJ hu value slice pins s σ H _ _ v u Q I rx ry ⟨p,w,rfl,g,q⟩ hs
  |_=>exact(show False from h).elim
 |str z=>
  cases y with
  |int i=>exact CS value slice pins s σ H _ _ v u Q I rx ry h hs
  |_=>exact(show False from h).elim
 |_=>cases y<;>exact(show False from h).elim
theorem xF(hu:X.A.units+64<PJ):BO X (λo i v H Q=>∃a H',o=.ref a/\cP H a i v H'/\Q H'):=by
 intro pins s σ H o i v ov iv u Q I ro ri rv h;obtain⟨a,H',rfl,g,q⟩:=h;cases ro;exact AZ (by omega) I g ri rv λs4 I4=>⟨H',I4,q⟩
inductive dpI(p:OM)(y v:V)(H:Hp)(Q:Hp->Prop):Prop
 |mk(H':Hp)(h:cP H p y v H')(q:Q H'):dpI p y v H Q
inductive stL(p:OM)(k:Int)(v:V)(H:Hp)(Q:Hp->Prop):Prop
 |mk(xs:List V)(j:Nat)(h0:H p=UT (.lst xs))(h1:ixN xs.length k=UT j)(q:Q (upd H p (.lst (xs.set j v)))):stL p k v H Q
def IQ:Es:=λo i v H Q=>match o,i with
 | .ref p,.int k=>stL p k v H Q\/dpI p (.int k) v H Q
 | .ref p,.str k=>dpI p (.str k) v H Q
 |_,_=>False
theorem bD(hu:X.A.units+64<PJ)(hl:BO X Fi):BO X IQ:=by
 intro pins s σ H o i v ov iv u Q I ro ri rv h;cases o with
 |ref p=>
  cases i with
  |int k=>
   rcases h with⟨xs,j,h1,h2,q⟩|⟨H',g,q⟩
   ·exact hl pins s σ H _ _ v ov iv u Q I ro ri rv ⟨p,xs,k,j,rfl,rfl,h1,h2,q⟩
   exact xF hu pins s σ H _ _ v ov iv u Q I ro ri rv ⟨p,H',rfl,g,q⟩
  |str k=>
   obtain⟨H',g,q⟩:=h;exact xF hu pins s σ H _ _ v ov iv u Q I ro ri rv ⟨p,H',rfl,g,q⟩
  |_=>exact(show False from h).elim
 |_=>cases i<;>exact(show False from h).elim
theorem Js(hu:X.A.units+64<PJ):OpR X (O4 .In) (λx y H Q=>∃a o,y=.ref a/\c8 H a x o/\Q (.bl o.isSome) H):=by
 intro pins s σ H x y v u Q I rx ry h;obtain⟨a,o,rfl,g,q⟩:=h;cases ry;exact Kq (by omega) I g rx λs3 I3=>⟨.bl o.isSome,H,I3,rfl,q⟩
theorem Co(hu:X.A.units+64<PJ):OpR X (O4 .In) (λx y H Q=>fIn X.K false x y H Q\/∃a o,y=.ref a/\c8 H a x o/\Q (.bl o.isSome) H):=JU.or (Js hu)
theorem FJ:dI X (.builtin "len") (λxs H Q=>∃a kvs,xs=[.ref a]/\Rd H a (.dK kvs)/\Q (.int (kvs.length:Nat)) H):=by
 intro pins s σ H xs us Q I r h;obtain⟨a,kvs,rfl,e,q⟩:=h;obtain⟨u,rfl,rfl⟩:=Vb r;exact Jt I e λt s' I'=>⟨.int _,H,I',⟨_,rfl⟩,q⟩
end
end L2
namespace PySem
open Sem (wp)
section
variable{prog:Program}{w:OX}{A:O7}{E:ON->OO->Prop}{s:OO}
theorem uU:typeLookup (.type "list") "keys"=pure UU:=am_miss_of_fast (by kernel_rfl)
theorem vB{a:OM}{o:Obj}{xs:Array ON}{k:Nat}{Q:Option ON->OO->Prop}(hx:s.heap.get? a=UT o)(hc:o.cls=.type "list")(hdat:o.data=.seq xs k)(hd:o.dict=UU)(hA:A.handled=UU)
  (h:∀h' tk,(∀b ob,s.heap.get? b=UT ob->h'.get? b=UT ob)->Q UU { s with heap:=h',toks:=tk }):wpAny (OZ prog w) A (getAttr? (.ref a) "keys") Q E s:=by
 obtain⟨c,dct,dat,sl⟩:=o
 simp only at hc hdat hd
 subst hc hdat hd
 obtain⟨hp,g,d,tk,os⟩:=s
 have hT:∀tk',(⟨hp,g,d,tk',os⟩:OO).TypeIs (.ref a) "list":=λ_=>⟨_,hx,rfl⟩
 have f1:=sub_AttributeError
 have f3:=F.slot_list_getattribute.lookup
 have f4:=F.slot_list_getattribute.bind (.ref a)
 have f5:=am_list_getattr_none
 have hmiss:=uU
 have hname:(["__module__","__name__","__qualname__","__doc__","__annotations__"]:List Str).contains "keys"=false:=by decide+kernel
 unfold getAttr? getAttrBy? getAttrBy
 repeat (any_goals (first|assumption|exact hT _|((with_reducible show wpAny _ _ (call (Value.builtin "list.__getattribute__") _ _) _ _ _);refine Q2 F.slot_list_getattribute (hT _) am_entry_list_getattribute (F.args_list_getattribute_2 _ _) (meets_getattribute_miss_list a xs k sl "keys" _ hmiss hname (by decide)) ⟨hx,hA,λh' tk' e hx'=>?_⟩)|wp_step))
 obtain⟨t',u',he⟩:=hx'.there
 have hTe:(⟨h',g,d,tk',os⟩:OO).TypeIs (.ref e) "AttributeError":=⟨_,he,rfl⟩
 show wpAny _ _ (SS _ _ _ _ _ _ _) _ _ _
 unfold SS
 repeat (any_goals (first|assumption|wp_step))
 exact h _ _ hx'.keeps
end
end PySem
namespace L2
open PySem PySem.Spec PyProof.Rows
theorem mJ:entryFor table "dict.update.loop"=UT Q5.«dict.update.loop»:=entryFor_of_tree (by kernel_rfl)
theorem fw:plainId "dict.update.loop"=true:=by decide+kernel
section
variable{X:Cx}{pins:List (OM×Obj)}{σ:St}{H0:Hp}{A:O7}
theorem pair_items{prog:Program}{w:OX}{E:ON->OO->Prop}{s:OO}{t:OM}{its:Array ON}{Q:List ON->OO->Prop}(h:s.heap.IsTuple t its)(q:Q its.toList s):wpAny (OZ prog w) A (RK (.ref t)) Q E s:=by
 obtain⟨o,ho,hc,n,hd⟩:=h;unfold RK;refine OP (Ts ⟨o,ho,hc⟩ ?_);rw[if_pos (by decide)];refine OP ?_;obtain⟨c,dct,dat,sl⟩:=o;simp only at hc hd;subst hc hd;obtain⟨hp,g,d,tk,os⟩:=s;repeat (any_goals (first|assumption|wp_step))
theorem yr(kvs:List (Key×V))(i:Nat){k:Key}{v:V}(h:kvs[i]?=UT (k,v)):cz [] (kvs.take (i+1))=UZ (cz [] (kvs.take i)) k v:=by
 unfold cz;rw[LO,h,Tx];rfl
theorem Cs(hc:X.calm=true){l p it:OM}{ps:List OM}{kvs:List (Key×V)}{R:UR->OO->Prop}(hA:A.handled=UU)(hl:SqL X.K H0 l (ps.map V.ref))(hlen:ps.length=kvs.length)(hn:kvs.length<=1000)
  (hps:∀(i:Nat) t k v,ps[i]?=UT t->kvs[i]?=UT (k,v)->SqT X.K H0 t [kV k,v]) (hp:H0 p=UU)
  (fin:∀s',Inv X pins σ (upd H0 p (.dK (cz [] kvs))) s'->R (.ok (.ret .none)) s') :
  ∀(n i:Nat)(s:OO),n+i=ps.length->Inv X pins σ (upd H0 p (.dK (cz [] (kvs.take i)))) s->rG X pins (upd H0 p (.dK (cz [] (kvs.take i)))) it->s.heap.IsListIter it l i->
   codeAny (OZ X.prog X.w) A (.builtin "dict.update.loop" ⟨[.ref p,.ref it,rawInt i,.none],[]⟩) R s:=by
 intro n
 induction n with
 |zero=>
  intro i s hi I hf st
  refine QP mJ ?_
  rw[Qc fw _]
  have sm:=aq.upd hp (.dK (cz [] (kvs.take i)))
  obtain⟨its,rv,pl,hz⟩:=I.list (sm.seq hl)
  have hll:=rv.length
  rw[Ky]at hll
  obtain⟨f0,f1,f2,f3,f4,f5⟩:=hf
  unfold Q5.«dict.update.loop»
  refine OP (RN hA st pl.isList (by simp;omega) λh' eb=>?_)
  have I':Inv X pins σ (upd H0 p (.dK (cz [] (kvs.take i)))) { s with heap:=h' }:=I.turned (t':=s.toks) (λb o hb e=>eb b o hb e) f0 f1 f3 f4 f5
  rw[Mp (by omega)]at I'
  exact OP (OT (OT (fin _ I')))
 |succ n ih=>
  intro i s hi I hf st
  refine QP mJ ?_
  rw[Qc fw _]
  have sm:=aq.upd hp (.dK (cz [] (kvs.take i)))
  obtain⟨its,rv,pl,hz⟩:=I.list (sm.seq hl)
  have hll:=rv.length
  rw[Ky]at hll
  obtain⟨t,ht⟩:∃t,ps[i]?=UT t:=⟨ps[i]'(by omega),Kw (by omega)⟩
  obtain⟨⟨k,v⟩,hk⟩:∃kv,kvs[i]?=UT kv:=⟨kvs[i]'(by omega),Kw (by omega)⟩
  obtain⟨u,hu1,hu2⟩:=rv.get (x:=.ref t) (i:=i) (by rw[KP,ht];rfl)
  cases hu2
  obtain⟨f0,f1,f2,f3,f4,f5⟩:=hf
  unfold Q5.«dict.update.loop»
  refine OP (RA st pl.isList (x:=.ref t) (by simpa using hu1) λh' st' sb=>?_)
  have I1:Inv X pins σ (upd H0 p (.dK (cz [] (kvs.take i)))) { s with heap:=h' }:=I.turned (t':=s.toks) (λb o hb e=>(sb.2 b hb).trans e) f0 f1 f3 f4 f5
  obtain⟨jts,rj,pt,_⟩:=I1.tuple (sm.tup (hps i t k v ht hk))
  obtain⟨u1,u2,e12,r1,r2⟩:∃u1 u2,jts=[u1,u2]/\U2 (kV k) u1/\U2 v u2:=by
   cases rj with
   |cons r1 q=>cases q with
    |cons r2 q=>cases q;exact⟨_,_,rfl,r1,r2⟩
  subst e12
  refine OP (wpAny_holding (OP (wpAny_tryCatch (pair_items pt ?_))))
  show wpAny _ _ (Ql [u1,u2] (dictSet p u1 u2)) _ _ _
  refine wpAny_holding ?_
  obtain⟨z,hd,vs,rel,dd⟩:=Cm I1.hok (ak (H:=H0) (a:=p) (o:=.dK (cz [] (kvs.take i))))
  have hz':vs.length<=sizeLine:=by rw[<-rel.length];exact z
  have hlk:(cz [] (kvs.take i)).length<=1000:=by
   have:=jP (kvs.take i) [];rw[LJ,MO]at this;omega
  have hlp:(UZ (cz [] (kvs.take i)) k v).length<=sizeLine:=by
   have h1:=jf (cz [] (kvs.take i)) k v;have h2:=az hlk;omega
  refine wpAny_dictSet_pairs (hsz:=hz') (qC r1) dd λh2 dd' hs=>?_
  have he:∃q,h2.get? p=UT q:=let ⟨q,_,_,hq,_⟩:=dd';⟨q,hq⟩
  have I2:=qj (t':=s.toks+1) (ob:=.dK (UZ (cz [] (kvs.take i)) k v)) I1 (by rw[ak];exact Lj) hs he (iC hlp hd (rel.put k r2) dd')
  rw[kG,<-yr kvs i hk]at I2
  have hne:it≠p:=λz=>by rw[z,ak]at f0;cases f0
  have f0':upd H0 p (.dK (cz [] (kvs.take (i+1)))) it=UU:=by
   rw[aw hne]at f0⊢;exact f0
  refine OT ⟨Rb fw _,?_⟩
  have ec:((i:Int)+1)=((i+1:Nat):Int):=by push_cast;rfl
  rw[ec]
  exact ih (i+1) _ (by omega) I2 ⟨f0',f1,f2,f3,f4,f5⟩ (st'.at λo e=>(hs.2 it hne).trans e)
theorem ET(hc:X.calm=true:=by rfl):dI X (.type "dict") (λxs H Q=>∃(l:OM)(ps:List OM)(kvs:List (Key×V)),xs=[.ref l]/\SqL X.K H l (ps.map V.ref)/\ps.length=kvs.length/\kvs.length<=1000/\
  (∀(i:Nat) t k v,ps[i]?=UT t->kvs[i]?=UT (k,v)->SqT X.K H t [kV k,v])/\∀p,H p=UU->Q (.ref p) (upd H p (.dK (cz [] kvs)))):=by
 intro pins s σ H xs us Q I r h
 obtain⟨l,ps,kvs,rfl,hl,hlen,hn,hps,q⟩:=h
 obtain⟨u,rfl,rfl⟩:=Vb r
 have hA:=I.ok.hd hc
 have hp:=I.hok.fresh (KI s.heap.objs.size)
 have I1:=I.laid (a:=s.heap.objs.size) (o:=.dK []) (t':=s.toks) (h':=s.heap.push { cls:=.type "dict",data:=.dict #[] }) (λ_ _ q=>OR _ q) (KI _) (qA s.heap I.big)
 refine callType_codes (Q₁:=λobj s₁=>obj=.ref s.heap.objs.size/\s₁={ s with heap:=s.heap.push { cls:=.type "dict",data:=.dict #[] } }) F.kt_called_dict (F.kt_typeCall_dict_1 _) F.entry_dict_init (kt_code_dict_new _ ⟨rfl,rfl⟩) ?_
 rintro obj s₁ ⟨rfl,rfl⟩
 have hnew:(s.heap.push { cls:=.type "dict",data:=.dict #[] }).DictOf (cF X.prog X.w) s.heap.objs.size []:=Uo s.heap
 have sm:=aq.upd hp (.dK [])
 obtain⟨its,rv,pl,hz⟩:=I1.list (sm.seq hl)
 obtain⟨o,n,ho,hoc,hod,hos⟩:=id pl
 refine⟨hnew.typeIs,F.args_dict_init_2 _ _,?_⟩
 unfold Q5.«dict.__init__»
 refine OP ?_
 unfold Builtin.Dict.selfAndRest
 refine OP (P6 hnew.typeIs ?_)
 show wpAny _ _ (pure (s.heap.objs.size,[OY l])) _ _ _
 refine OT ?_
 show wpAny _ _ (Rq "dict.__init__" s.heap.objs.size (.ref l) [] .none) _ _ _
 unfold Rq
 refine OP (Ts ⟨o,ho,hoc⟩ ?_)
 rw[if_pos (by decide)]
 refine OP (vB ho hoc hos hod hA λh2 tk2 k2=>?_)
 have I2:Inv X pins σ (upd H s.heap.objs.size (.dK [])) { s with heap:=h2,toks:=tk2 }:=I1.kept (t':=tk2) k2
 rw[if_pos (show(UU:Option ON).isNone=true from rfl)]
 obtain⟨its2,rv2,pl2,_⟩:=I2.list (sm.seq hl)
 refine OP (wpAny_rule (OP (Q7 pl2.isList ?_)))
 refine OT ⟨Rb fw _,?_⟩
 have I3:=I2.kept (h':=h2.push { cls:=.type "list_iterator",data:=.fields #[.ref l,.int 0 0] }) (t':=tk2) λb o e=>OR _ e
 have fp:=I2.yx (H':=upd H s.heap.objs.size (.dK [])) (KI _) (I2.hok.fresh (KI _))
 refine Cs (X:=X) (H0:=H) (A:=X.A.in1) (p:=s.heap.objs.size) (kvs:=kvs) hc hA hl hlen hn hps hp (λs' I'=>?_) ps.length 0 _ rfl I3 fp ⟨_,O3 _ rfl,rfl,rfl⟩
 exact⟨rfl,.ref s.heap.objs.size,_,I',rfl,q _ hp⟩
end
section
variable{X:Cx}{pins:List (OM×Obj)}{σ:St}{H:Hp}{s:OO}
theorem Inv.zJ{h':O8}{t':Nat}{ch:List OM}(I:Inv X pins σ H s)(hf:∀b∈ch,rG X pins H b)(k:∀b o,b∉ch->s.heap.get? b=UT o->h'.get? b=UT o):Inv X pins σ H { s with heap:=h',toks:=t' }:=by
 have nit:∀b u,H b=UT u->b∉ch:=λb u e z=>by rw[(hf b z).1]at e;cases e
 refine I.step (g':=s.gens) (d':=s.drawn) (ch:=ch) (λb hb=>⟨(hf b hb).2.2.2.1,(hf b hb).2.1,(hf b hb).2.2.2.2.1,(hf b hb).2.2.2.2.2⟩) (λb o _ _ hc e _=>k b o hc e) (λb o _ _ hc e _=>⟨o.slots,k b o hc e⟩) (λ_ _ _ _ n=>n)
  (λb o hc e=>⟨o,k b o hc e⟩) (λ_ _ e=>e) (λ_ _ _ e=>e) (λb ps e=>⟨#[],by rw[e];simp⟩) (λm hm=>?_) (λb u e=>?_) I.bare
 ·obtain⟨o,es,ep,ho,r⟩:=hm;exact⟨o,es,ep,k _ o (λz=>(hf _ z).2.1 rfl) ho,r⟩
 refine(I.hok b u e).yR (λc v hc q=>k c v ?_ q) (λ_ q=>q) λ_ _ q=>q;rcases hc with rfl|hc
 ·exact nit _ _ e
 exact nit _ _ hc
theorem Inv.Jq{T:OM}{u:HO}(I:Inv X pins σ H s)(hf:rG X pins H T)(hz:X.s₀.heap.objs.size<=T)(new:dB X.prog X.w (upd H T u) s.heap T u):Inv X pins σ (upd H T u) s:=by
 obtain⟨f0,f1,f2,f3,f4,f5⟩:=hf;have ne0:∀b o,X.s₀.heap.get? b=UT o->b≠T:=λb o e=>Lp (KZ (OW e) hz);have neS:∀b v,H b=UT v->b≠T:=λb v e z=>by rw[z,f0]at e;cases e
 refine⟨I.ok,I.os,I.bare,⟨I.base.keep,I.base.slot,λb o e n hx=>by rw[aw (ne0 b o e)];exact I.base.free b o e n hx,I.base.there,λb xs e=>by
   have:=I.base.uL b xs e;rw[aw (neS b _ this)];exact this,λb o v e=>by
   have:=I.base.sJ b o v e;rw[aw (neS b _ this)];exact this,λb ps e=>by
   obtain⟨more,q⟩:=I.base.vm b ps e;exact⟨more,by rw[aw (neS b _ q)];exact q⟩⟩,I.loc,I.cell,by rw[aw (Lv f1)];exact I.free,λx c e=>by rw[aw (f4 x c e)];exact I.lN x c e,
  λp hp=>by rw[aw (f5 p hp)];exact I.pin p hp,λb v e=>?_,I.len⟩
 by_cases hb:b=T
 ·subst hb;rw[ak]at e;cases e;exact new
 rw[aw hb]at e;exact(I.hok b v e).yR (λ_ _ _ q=>q) (λc q=>by rw[aw (neS c _ q)];exact q) λc xs q=>by rw[aw (neS c _ q)];exact q
end
theorem Ic{P:Program}{w:OX}{k:Key}{u:ON}(h:(cF P w).is k u=true):U2 (kV k) u:=by
 cases k with
 |inl i=>obtain⟨t,e⟩:=S7 (show Uc i u=true from h);exact⟨t,e⟩
 |inr x=>obtain⟨t,e⟩:=Ss (show Sx x u=true from h);exact⟨t,e⟩
section
variable{X:Cx}
end
theorem nI{α β:Type}{F:α->β->Prop}:∀{l₁:List α}{l₂:List β},l₁.length=l₂.length->(∀(i:Nat) a b,l₁[i]?=UT a->l₂[i]?=UT b->F a b)->Paired F l₁ l₂
 | [],[],_,_=>.nil
 | [],_::_,h,_=>by simp at h
 |_::_,[],h,_=>by simp at h
 |x::xs,y::ys,h,f=>.cons (f 0 x y rfl rfl) (nI (by simpa using h) λi a b ha hb=>f (i+1) a b (by simpa using ha) (by simpa using hb))
theorem sP{α β:Type}{F:α->β->Prop}{l₁:List α}{l₂:List β}(h:Paired F l₁ l₂):∀{i:Nat}{a:α}{b:β},l₁[i]?=UT a->l₂[i]?=UT b->F a b:=by
 induction h with
 |nil=>intro i a b h;simp at h
 |cons r t ih=>
  intro i a b ha hb;cases i with
  |zero=>simp only[Mo,Qt]at ha hb;subst ha hb;exact r
  |succ j=>exact ih (by simpa using ha) (by simpa using hb)
section
variable{X:Cx}{tg:Expr}
theorem EF(hc:X.calm=true:=by rfl):dI X (.type "list") (λxs H Q=>∃d kvs,xs=[.ref d]/\Rd H d (.dK kvs)/\∀l,H l=UU->Q (.ref l) (upd H l (.lst (kvs.map λkv=>kV kv.1)))):=by
 intro pins s σ H xs us Q I r h;obtain⟨d,kvs,rfl,e,q⟩:=h;obtain⟨u,rfl,rfl⟩:=Vb r;obtain⟨z,hs,vs,rel,dd⟩:=jh I.hok e;obtain⟨ep,dat⟩:=dd.dictAt;have hl:=rel.length;refine W.kdl_call (W.kdl_dict (knd:=cF X.prog X.w) (kvs:=vs) (ep:=ep) hs) (I.ok.hd hc) dat (by omega) λh' tk acc c hk hS hacc=>?_;have hp:=I.hok.fresh (KI s.heap.objs.size);refine⟨.ref s.heap.objs.size,_,I.laid (a:=s.heap.objs.size) (o:=.lst (kvs.map λkv=>kV kv.1)) (t':=tk) hk (KI _) ⟨by rw[Ky];exact z,acc.toList,c,?_,by simpa using hS⟩,rfl,q _ hp⟩;have hsz:acc.size=vs.length:=hacc.1;refine nI (by simp[hsz,hl]) λi x y hx hy=>?_;rw[KP]at hx;obtain⟨k,v,hv,hk⟩:=hacc.2 i y (by rw[<-Mu];exact hy);cases hkv:kvs[i]? with
 |none=>rw[hkv]at hx;cases hx
 |some kv=>
  rw[hkv]at hx;have hx':kV kv.1=x:=OS hx;have:=congrArg (λl=>l[i]?) rel.keys;simp only[KP,hkv,hv]at this;have hkk:kv.1=k:=by simpa using this
  rw[<-hx',hkk];exact Ic hk
end
section
variable{prog:Program}{w:OX}{K:Type}[DecidableEq K]{knd:KeyKind prog w K}{A:O7}{E:ON->OO->Prop}{s:OO}
theorem mR{d:OM}{Q:Unit->OO->Prop}(hd:(d==Pm)=false)(q:Q () s):wpAny (OZ prog w) A (RO d) Q E s:=by
 unfold RO;rw[if_neg (by rw[hd];exact KL)];exact OT q
theorem qT{k:K}{v:ON}{es:List TJ}{lvs:List (K×ON)}(h:Pairs knd es lvs):valueAt lvs k=UT v->∃j e,(es.findIdx? λe=>knd.is k e.key)=UT j/\es[j]?=UT e/\e.val=v:=by
 induction h with
 |nil=>intro z;cases z
 |@cons e kv es lvs h1 h2 t ih=>
  intro z;by_cases hk:kv.1=k
  ·subst hk;have:valueAt (kv::lvs) kv.1=UT kv.2:=by simp[valueAt,Ly]
   rw[this]at z;exact⟨0,e,by rw[SU,if_pos h1],rfl,by rw[h2];exact OS z⟩
  have:valueAt (kv::lvs) k=valueAt lvs k:=by simp[valueAt,Ly,hk]
  rw[this]at z;obtain⟨j,f,hj,hf,hv⟩:=ih z;have hn:¬ knd.is k e.key=true:=λq=>hk (knd.inj _ _ _ h1 q);exact⟨j+1,f,by rw[SU,if_neg hn,hj];rfl,hf,hv⟩
theorem rL{id:String}{a b:OM}{kvs lvs:List (K×ON)}{Q:Bool->OO->Prop}(hda:(a==Pm)=false)(hdb:(b==Pm)=false)(ha:s.heap.DictOf knd a kvs)(hb:s.heap.DictOf knd b lvs)(hl:kvs.length=lvs.length)
  (hv:∀(i:Nat) k v,kvs[i]?=UT (k,v)->∃v',valueAt lvs k=UT v'/\QE A s v v' true) (q:Q true s):wpAny (OZ prog w) A (Pf id a b) Q E s:=by
 obtain⟨o,es,ep,ho,hx,hd,hk,hp,hn⟩:=ha
 obtain⟨o2,es2,ep2,ho2,hx2,hd2,hk2,hp2,hn2⟩:=hb
 have hz:es.size=kvs.length:=by rw[<-hp.length];simp
 have hz2:es2.size=lvs.length:=by rw[<-hp2.length];simp
 unfold Pf
 refine OP (mR hda ?_)
 refine OP (mR hdb ?_)
 refine OP (Pq ho hd ?_)
 refine OP (Pq ho2 hd2 ?_)
 rw[if_neg (by simp;omega)]
 refine OP (RM ho hd ?_)
 refine OP ?_
 rw[Qd]
 simp only[RP,Nat.sub_zero,SW,Nat.div_one]
 refine Rr _ (λrest b s'=>b=(UU,())/\s'=s/\∀i∈rest,i<es.size) _ ?_ ?_ _ _ ⟨rfl,rfl,λi hi=>?_⟩
 ·rintro i rest c s' ⟨rfl,rfl,hr⟩;have hi:i<es.size:=hr i (by simp);refine OP (Pq ho hd ?_);rw[Q4 hi];obtain⟨⟨k,v⟩,hkv⟩:∃kv,kvs[i]?=UT kv:=⟨kvs[i]'(by omega),Kw (by omega)⟩;obtain⟨hkey,hval⟩:=hp.get? (e:=es[i]) (by simp[hi]) hkv;obtain⟨k',hk',hh⟩:=hk es[i] (Ng hi);obtain⟨v',hv',he⟩:=hv i k v hkv;have hkk:k'=k:=knd.inj _ _ _ hk' hkey;subst hkk;show wpAny _ _ (Ql [es[i].key,es[i].val] _>>=_) _ _ _;refine OP (wpAny_holding ?_);rw[hh,hval];refine OP (Tz hkey ho2 hd2 hk2 ?_);obtain⟨j,f,hj,hf,hfv⟩:=qT hp2 hv';rw[<-RQ,R7]at hj;rw[Mu]at hf;rw[hj];refine OP (Pq ho2 hd2 ?_);rw[hf];show wpAny _ _ (Ql [f.val] (eqBool v f.val)) _ _ _;rw[hfv];refine wpAny_holding (he _ _ _ _ ?_);rw[if_neg (by decide)];refine OP (RM ho hd ?_);rw[if_neg (by simp)];exact OT ⟨rfl,rfl,λz hz=>hr z (Kx _ hz)⟩
 ·rintro c s' ⟨rfl,rfl,_⟩;exact OT q
 have:=(Nh.mp hi).2
 omega
end
theorem uz{κ:Type}[DecidableEq κ]:∀{kvs:List (κ×V)}{i:Nat}{k:κ}{v:V},(kvs.map (·.1)).Nodup->kvs[i]?=UT (k,v)->ft kvs k=UT v
 | [],i,k,v,_,h=>by simp at h
 |p::r,0,k,v,_,h=>by
  simp only[Mo,Qt]at h;subst h;exact mz (p:=(k,v)) rfl
 |p::r,i+1,k,v,hn,h=>by
  rw[KQ]at hn;have hr:=KW.mp hn;have hi:r[i]?=UT (k,v):=by simpa using h
  have hne:¬ p.1=k:=λz=>hr.1 (by rw[z];exact Mx (f:=(·.1)) (KG hi));rw[oz hne];exact uz hr.2 hi
section
variable{X:Cx}
def De(K:OQ)(H:Hp)(v v':V):Prop:=(v=v'/\tV v=true)\/∃p q xs,v=.ref p/\v'=.ref q/\SqL K H p xs/\SqL K H q xs/\xs.all tV=true
theorem zL{pins:List (OM×Obj)}{σ:St}{H:Hp}{s:OO}{A:O7}{v v':V}{u u':ON}(I:Inv X pins σ H s)(hu:A.units<PJ)(h:De X.K H v v')(r:U2 v u)(r':U2 v' u'):QE A s u u' true:=by
 rcases h with⟨rfl,hf⟩|⟨p,q,xs,rfl,rfl,hp,hq,hf⟩
 ·exact o8 hf r r' A s
 cases r;cases r';by_cases hpq:p=q
 ·subst hpq;exact .same _
 obtain⟨its,r1,⟨o,n,e1,c1,_,d1⟩,_⟩:=I.list hp;obtain⟨jts,r2,⟨o2,n2,e2,c2,_,d2⟩,_⟩:=I.list hq;have l1:=r1.length;have l2:=r2.length;have hR:=SeqAt.RcAt.lists (A:=A) (s:=s) (e:=λ_=>true) (l:=p) (b:=q) (items:=its.toArray) (items2:=jts.toArray) ⟨o,e1,c1,n,d1⟩ ⟨o2,e2,c2,n2,d2⟩ (by simp;omega) hu (λj h1 h2=>by
  simp at h1 h2;obtain⟨x,hx⟩:∃x,xs[j]?=UT x:=⟨xs[j]'(by omega),Kw (by omega)⟩;obtain⟨u1,g1,w1⟩:=r1.get hx;obtain⟨u2,g2,w2⟩:=r2.get hx;have z1:its.toArray[j]'(by simpa using h1)=u1:=by
   have:=Kw h1;rw[g1]at this;simpa using (OS this).symm
  have z2:jts.toArray[j]'(by simpa using h2)=u2:=by
   have:=Kw h2;rw[g2]at this;simpa using (OS this).symm
  rw[z1,z2];exact o8 (Ml.mp hf x (KG hx)) w1 w2 _ _)
 have:((O2 its.toArray.size).all λ_=>true)=true:=by simp
 rw[this]at hR;exact .of_refs hpq hR
theorem Ig(hu:X.A.units+64<PJ):OpR X (O4 .Eq) (λx y H Q=>∃a b kvs lvs,x=.ref a/\y=.ref b/\Rd H a (.dK kvs)/\Rd H b (.dK lvs)/\kvs.length=lvs.length/\
  (∀k v,ft kvs k=UT v->∃v',ft lvs k=UT v'/\De X.K H v v')/\Q (.bl true) H):=by
 intro pins s σ H x y v u Q I rx ry h
 obtain⟨a,b,kvs,lvs,rfl,rfl,ha,hb,hl,hv,q⟩:=h
 cases rx
 cases ry
 obtain⟨z,hs,vs,rel,dd⟩:=jh I.hok ha
 obtain⟨z2,hs2,vs2,rel2,dd2⟩:=jh I.hok hb
 have e1:=rel.length
 have e2:=rel2.length
 refine PD (op:=.Eq) dd.typeIs dd2.typeIs Py (QD Py dd.typeIs Qz ?_ (Qu _ _)) (by omega)
 show wpAny _ _ (Pj "__eq__" ⟨[.ref a,.ref b],[]⟩>>=_) _ _ _
 refine OP ?_
 unfold Pj
 refine OP (P6 dd.typeIs ?_)
 show wpAny _ _ (pure (OY a,OY b)) _ _ _
 refine OT ?_
 refine OP (Rt (T:="dict") (b:=true) dd2.typeIs (by rw[R8];kernel_rfl) ?_)
 show wpAny _ _ (Pf "dict.__eq__" a b>>=_) _ _ _
 refine OP (rL hs hs2 dd dd2 (by omega) (λi k v hi=>?_) ?_)
 ·obtain⟨⟨k',v'⟩,hkv⟩:∃kv,kvs[i]?=UT kv:=⟨kvs[i]'(by have:=(KH.mp hi).1;omega),Kw _⟩;have hr:k'=k/\U2 v' v:=sP rel hkv hi;obtain⟨rfl,hrv⟩:=hr;obtain⟨w',hw,hq⟩:=hv k' v' (uz (by rw[rel.keys];exact(dd.dictAt.choose_spec).nodup) hkv);have hval:=rel2.val k';rw[hw]at hval;cases hvv:valueAt vs2 k' with
  |none=>rw[hvv]at hval;exact(show False from hval).elim
  |some u'=>
   rw[hvv]at hval;exact⟨u',rfl,zL I (show X.A.units+1<PJ by omega) hq hrv hval⟩
 show wpAny _ _ (ret (.bool true)) _ _ _
 exact OT ⟨.bool true,rfl,(λz=>nomatch z),.bl true,H,I,rfl,q⟩
structure uO(z y:Str)(ws:List Str):Prop where
 h1:(decide (z.length<y.length)||decide (Sv z<Sv y))=false
 hy:(y.length==0)=false
 hf:(Pz z y 0 z.length (z.length+1)).isEmpty=false
 hx:z.length<=sizeLine
 hn:ws.length<=sizeLine
 e:Builtin.Str.partsBetween z (Pz z y 0 z.length (z.length+1)) y.length=ws
theorem uf:∀(tk:Nat)(ws:List Str),U1 (ws.map V.str) (strsFrom tk ws)
 |_,[]=>.nil
 |tk,x::r=>.cons ⟨_,rfl⟩ (uf (tk+1) r)
theorem CD:MtR X "str.split" (λx xs H Q=>∃(z y:Str)(ws:List Str),x=.str z/\xs=[.str y]/\uO z y ws/\∀l,H l=UU->Q (.ref l) (upd H l (.lst (ws.map V.str)))):=by
 intro pins s σ H x xs v us Q I rx rs h;obtain⟨z,y,ws,rfl,rfl,ok,q⟩:=h;obtain⟨t,rfl⟩:=rx;obtain⟨u,rfl,ru⟩:=rs.one;obtain⟨t2,rfl⟩:=ru;obtain⟨h1,hy,hf,hx,hn,e⟩:=ok;subst e;refine Q2 F.slot_str_split (SK _ _ _) F.entry_str_split (F.args_str_split_2 _ _) (meets_str_split_sep z y t t2 h1 hy hf hx hn) ?_;exact⟨.ref _,_,I.GU (uf _ _) (by rw[Ky];exact hn),rfl,q _ I.fresh⟩
theorem m_split{o e:Expr}{to:TE}{t:TA}{apos cpos:Pos}(ho:PE X o to)(ha:PA X [e] t)(hbase:PH o "split" X.env (Pn o X.env)=Pn o X.env:=by rfl)
  (hfew:((Pw cpos (OV [e] X.env)).all (λx=>!x.1)&&(QZ cpos (Qb [] X.env)).all (λx=>x.1.isSome)
   &&decide ([e].length+([]:List QH).length+(if([]:List QH).isEmpty then 0 else 1)<30))=true:=by rfl)
  (hline:(apos.endLine==cpos.line)=true:=by rfl) (hs:OV [e] X.env=(false,Pn e X.env)::OV [] X.env:=by rfl) (hplain:(Pw cpos (OV [] X.env)).any (·.1)=false:=by rfl) :
  PE X (.Call (.Attribute o "split" apos) [e] [] cpos) (tBM X.K "str" (λx xs H Q=>∃(z y:Str)(ws:List Str),x=.str z/\xs=[.str y]/\uO z y ws/\∀l,H l=UU->Q (.ref l) (upd H l (.lst (ws.map V.str)))) to t):=
 Fm PySem.F.plainAttrs_str PySem.F.slot_str_split PySem.F.type_str_split CD ho ha hbase hfew hline hs hplain
def oR(z:Str)(n:Int):Str:=if n<1 then QU else if(n==1||z.length==0)=true then z else⟨(O0 n.toNat z.cps).foldl (· ++ ·) #[]⟩
def IH:R2:=λx y H Q=>match x,y with
 | .int i,.int j=>Dt i j/\Q (.int (i*j)) H
 | .str z,.int n=>n<1000/\-1000<n/\z.length<=1000/\Q (.str (oR z n)) H
 | .ref p,.int k=>∃xs,H p=UT (.lst xs)/\-(2^63)<=k/\k<2^63/\xs.length*k.toNat<=sizeLine/\∀l,H l=UU->Q (.ref l) (upd H l (.lst (O0 k.toNat xs).flatten))
 |_,_=>False
theorem Av(xs:List (Array Nat)):∀acc:Array Nat,(xs.foldl (· ++ ·) acc).size=acc.size+(xs.map (·.size)).sum:=by
 induction xs with
 |nil=>intro acc;simp
 |cons x r ih=>intro acc;rw[ML,ih,TB,KQ,Mg];omega
theorem vU(z:Str)(n:Nat):(⟨(O0 n z.cps).foldl (· ++ ·) #[]⟩:Str).length=n*z.length:=by
 show((O0 n z.cps).foldl (· ++ ·) #[]).size=_;rw[Av,SX];have:∀m k:Nat,(O0 m k).sum=m*k:=λm k=>by
  induction m with
  |zero=>simp
  |succ m ih=>rw[Ls,Mg,ih,Nat.succ_mul];omega
 rw[this];simp[Str.length]
theorem cS:OpR X (Pp .Mult) IH:=by
 intro pins s σ H x y v u Q I rx ry h;cases x with
 |int i=>
  cases y with
  |int j=>exact IZ pins s σ H _ _ v u Q I rx ry h
  |_=>exact(show False from h).elim
 |str z=>
  cases y with
  |int n=>
   obtain⟨h1,h2,h3,q⟩:=h;obtain⟨t,rfl⟩:=rx;obtain⟨t2,rfl⟩:=ry;have hb:¬ n<1->n.toNat*z.length<=1000000:=λhn=>by
    have e1:n.toNat<=1000:=by omega
    exact KS (Nat.mul_le_mul e1 h3) (by decide)
   refine P.mul_str (by rw[decide_eq_false (by omega),decide_eq_false (by omega)];rfl) (λhn _=>?_) (λhn _=>?_) ?_
   ·intro z1;have h0:(0:Int)<n:=by omega
    have:=Int.lt_mul_of_ediv_lt h0 z1;have e2:((z.length:Int))*n<=1000*1000:=Int.mul_le_mul (by omega) (by omega) (by omega) (by decide);omega
   ·unfold Builtin.Str.tooLong;have:=hb hn;rw[Nat.mul_comm]at this;refine decide_eq_false ?_;rw[P9];omega
   unfold oR at q;by_cases c1:n<1
   ·rw[if_pos c1]at q⊢;exact⟨by decide,.str _,H,I.tok _,⟨_,rfl⟩,q⟩
   rw[if_neg c1]at q⊢;by_cases c2:(n==1||z.length==0)=true
   ·rw[if_pos c2]at q⊢;exact⟨.str _,H,I,⟨_,rfl⟩,q⟩
   rw[if_neg c2]at q⊢;refine⟨?_,.str _,H,I.tok _,⟨_,rfl⟩,q⟩;rw[vU];have:=hb c1;rw[P9];omega
  |_=>exact(show False from h).elim
 |ref p=>
  cases y with
  |int k=>
   obtain⟨xs,h1,h2,h3,h4,q⟩:=h;exact G8 pins s σ H _ _ v u Q I rx ry ⟨p,k,xs,rfl,rfl,h1,h2,h3,h4,q⟩
  |_=>exact(show False from h).elim
 |_=>cases y<;>exact(show False from h).elim
def u7(K:OQ)(H:Hp)(a b:OM):Prop:=∃kvs lvs,Rd H a (.dK kvs)/\Rd H b (.dK lvs)/\kvs.length=lvs.length/\∀k v,ft kvs k=UT v->∃v',ft lvs k=UT v'/\De K H v v'
def Kd(K:OQ):R2:=λx y H Q=>match x,y with
 | .ref p,.ref q=>((∃d e,ja K H (.ref p) d/\ja K H (.ref q) e/\Pe d=true/\Pe e=true/\Q (.bl (QG d e)) H)\/(∃xs,SqL K H p xs/\SqL K H q xs/\xs.all tV=true/\Q (.bl true) H))\/(u7 K H p q/\Q (.bl true) H)
 |x,y=>AG x y=true/\Q (.bl (decide (x=y))) H
theorem bj(hu:X.A.units+64<PJ):OpR X (O4 .Eq) (Kd X.K):=((IF hu).or (Ig hu)).imp λx y H Q q=>by
 by_cases hr:∃p q,x=V.ref p/\y=V.ref q
 ·obtain⟨p,q',rfl,rfl⟩:=hr;rcases q with q|⟨⟨kvs,lvs,h1,h2,h3,h4⟩,h5⟩
  ·exact .inl q
  exact .inr ⟨p,q',kvs,lvs,rfl,rfl,h1,h2,h3,h4,h5⟩
 refine .inl ?_;cases x<;>cases y<;>first|exact q|exact absurd ⟨_,_,rfl,rfl⟩ hr
inductive GX(xs:List V)(H:Hp)(Q:VK):Prop
 |mk(a:OM)(kvs:List (Key×V))(h0:xs=[.ref a])(h1:Rd H a (.dK kvs))(q:Q (.int (kvs.length:Nat)) H):GX xs H Q
theorem bS:dI X (.builtin "len") (λxs H Q=>DJ X.K xs H Q\/GX xs H Q):=HZ.or λpins s σ H xs us Q I r ⟨a,kvs,h0,h1,q⟩=>FJ pins s σ H xs us Q I r ⟨a,kvs,h0,h1,q⟩
theorem qm(hc:X.calm=true:=by rfl):dI X (.type "list") (λxs H Q=>(∃p ys,xs=[.ref p]/\(SqL X.K H p ys\/SqT X.K H p ys)/\∀l,H l=UU->Q (.ref l) (upd H l (.lst ys)))\/∃d kvs,xs=[.ref d]/\Rd H d (.dK kvs)/\∀l,H l=UU->Q (.ref l) (upd H l (.lst (kvs.map λkv=>kV kv.1)))):=jL.or (EF hc)
end
section
variable{X:Cx}{pins:List (OM×Obj)}{σ:St}{H:Hp}{s:OO}
def Itz(K:OQ)(a b:OM):It:=
  ⟨λi H=>∃xs ys x y,SqL K H a xs/\SqL K H b ys/\xs[i]?=UT x/\ys[i]?=UT y,
   λi H v H'=>∃T x y,v=.ref T/\H T=UU/\H'=upd H T (.tup [x,y])/\∀xs ys,SqL K H a xs->SqL K H b ys->xs[i]?=UT x/\ys[i]?=UT y,
   λi H=>∃xs ys,SqL K H a xs/\SqL K H b ys/\(xs.length<=i\/ys.length<=i)⟩
def Jc(z TI TO i1 i2 a b:OM)(i:Nat)(h:O8):Prop:=IsZip h z TI TO .none/\IsPair h TI (.ref i1) (.ref i2)/\(∃u v,IsPair h TO u v)/\h.IsListIter i1 a i/\h.IsListIter i2 b i
theorem Cj{P:Program}{w:OX}{K:OQ}{elts:List Expr}{x1}{pos:Pos}{a b z TI TO i1 i2:OM}(D:ZipApart z TI TO i1 i2 a b) :
  Vj P w K (.Tuple elts x1 pos) (Itz K a b) [z,TI,TO,i1,i2] z (Jc z TI TO i1 i2 a b) where
 mem:=by simp
 obj:=λi h st c hc=>by
  obtain⟨hz,hI,⟨u,v,hO⟩,⟨o1,e1,_,d1⟩,⟨o2,e2,_,d2⟩⟩:=st;simp only[Ku,KD,or_false]at hc;rcases hc with rfl|rfl|rfl|rfl|rfl
  ·exact⟨_,hz,λv q=>by cases (show Data.fields _=TN v from q)⟩
  ·exact⟨_,hI,λv q=>by cases (show Data.seq _ _=TN v from q)⟩
  ·exact⟨_,hO,λv q=>by cases (show Data.seq _ _=TN v from q)⟩
  ·exact⟨o1,e1,λv q=>by rw[d1]at q;cases q⟩
  exact⟨o2,e2,λv q=>by rw[d2]at q;cases q⟩
 keep:=λi h h' st k=>by
  obtain⟨hz,hI,⟨u,v,hO⟩,h1,h2⟩:=st;exact⟨k z (by simp) _ hz,k TI (by simp) _ hI,⟨u,v,k TO (by simp) _ hO⟩,h1.at λo e=>k i1 (by simp) o e,h2.at λo e=>k i2 (by simp) o e⟩
 item:=by
  intro X hP hw hK hc i pins s σ H E I hf st hg;subst hP hw hK;obtain⟨xs,ys,x,y,hq,hq',hx,hy⟩:=hg;obtain⟨its,rv,p,hz'⟩:=I.list hq;obtain⟨its',rv',p',hz''⟩:=I.list hq';obtain⟨u,hu,ru⟩:=rv.get hx;obtain⟨v,hv,rv2⟩:=rv'.get hy;obtain⟨hz,hI,⟨u0,v0,hO⟩,h1,h2⟩:=st;have hT:=I.yx (H':=H) (KI s.heap.objs.size) (I.hok.fresh (KI _));have lt:∀{c:OM}{o:Obj},s.heap.get? c=UT o->s.heap.objs.size≠c:=λe=>MJ (OW e);refine wpAny_pyNext_zip_item D hz hI hO h1 h2 p.isList p'.isList (x:=u) (y:=v) (by simpa using hu) (by simpa using hv) λh' a1 a2 a3 a4 a5 a6 a7=>?_;have I1:Inv X pins σ H { s with heap:=h',toks:=s.toks }:=I.zJ (ch:=[z,TI,TO,i1,i2]) hf λc o hc q=>a7 c o (λe=>hc (by simp[e])) (λe=>hc (by simp[e])) (λe=>hc (by simp[e])) (λe=>hc (by simp[e])) q;have I2:=I1.Jq (u:=.tup [x,y]) hT I.sz ⟨by show 2<=sizeLine;decide,[u,v],.cons ru (.cons rv2 .nil),⟨_,a5,rfl,_,rfl⟩⟩;refine⟨_,rfl,wpAny_letOwnedTupleGo_zip (s:={ s with heap:=h' }) a1 λh2' hz2 hs2=>?_⟩;have f0:=hf z (by simp);have hI':h'.get? TI=_:=a7 TI _ D.TIz D.TITO D.TIi1 D.TIi2 hI;have zT:z≠s.heap.objs.size:=Lv (lt hz);refine⟨.ref s.heap.objs.size,_,I2.turned (t':=s.toks) (it:=z) (λc o hc q=>(hs2.2 c hc).trans q) (by rw[aw zT];exact f0.1) f0.2.1 f0.2.2.2.1 f0.2.2.2.2.1 f0.2.2.2.2.2,rfl,
   ⟨_,x,y,rfl,hT.1,rfl,λxs' ys' q q'=>by rw[I.r8 q hq,I.r8 q' hq'];exact⟨hx,hy⟩⟩,⟨hz2,(hs2.2 TI D.TIz).trans hI',⟨u,v,(hs2.2 TO D.TOz).trans a2⟩,a3.at λo q=>(hs2.2 i1 D.i1z).trans q,a4.at λo q=>(hs2.2 i2 D.i2z).trans q⟩,λc hc=>?_⟩
  have cT:c≠s.heap.objs.size:=by
   simp only[Ku,KD,or_false]at hc;rcases hc with rfl|rfl|rfl|rfl|rfl
   ·exact zT
   ·exact Lv (lt hI)
   ·exact Lv (lt hO)
   ·obtain⟨o,e,_⟩:=h1;exact Lv (lt e)
   obtain⟨o,e,_⟩:=h2;exact Lv (lt e)
  rw[aw cT];exact(hf c hc).1
 done:=by
  intro X hP hw hK hc i pins s σ H E I hf st hg;subst hP hw hK;obtain⟨xs,ys,hq,hq',hx⟩:=hg;obtain⟨its,rv,p,hz'⟩:=I.list hq;obtain⟨its',rv',p',hz''⟩:=I.list hq';obtain⟨hz,hI,⟨u0,v0,hO⟩,h1,h2⟩:=st;have hl:=rv.length;have hl':=rv'.length;refine wpAny_pyNext_zip_end (I.ok.hd hc) D hz hI hO h1 h2 p.isList p'.isList (by simp;omega) λh' eb=>⟨rfl,?_⟩;exact I.zJ (ch:=[z,TI,TO,i1,i2]) hf λc o hc q=>eb c o (λe=>hc (by simp[e])) (λe=>hc (by simp[e])) (λe=>hc (by simp[e])) (λe=>hc (by simp[e])) q
 self:=λ_ _ _ _ _ st h=>TZ st.1 h
def JS(K:OQ)(ta:TA):TI:=λσ H R=>ta σ H λvs H1=>∃a b,vs=[.ref a,.ref b]/\(∃xs,SqL K H1 a xs)/\(∃ys,SqL K H1 b ys)/\R (Itz K a b) H1
theorem AJ:PU "zip"=UT (.type "zip"):=by decide+kernel
theorem BJ{a b:Expr}{ta:TA}{p pos:Pos}{elts:List Expr}{x1}{pos2:Pos}(hg:Gl X "zip")(hm:X.mg "zip"=UU)(ha:PA X [a,b] ta)(he:OV [a,b] X.env=(false,Pn a X.env)::OV [b] X.env:=by rfl)
  (hpl:(Pw pos (OV [b] X.env)).any (·.1)=false:=by rfl):PI X (.Tuple elts x1 pos2) (.Call (.Name "zip" p) [a,b] [] pos) (JS X.K ta):=by
 intro pins s σ H R I h
 refine Call_ (rq I hg hm AJ (P7 (thn (ha pos pins s σ H _ I h) λus s1 ⟨vs,H1,I1,r1,q1⟩=>?_) he hpl))
 obtain⟨a,b,e,⟨xs,hq⟩,⟨ys,hq'⟩,q⟩:=q1
 subst e
 obtain⟨u,v,rfl,ru,rv⟩:=Vh r1
 cases ru
 cases rv
 obtain⟨its,rv1,p1,hz1⟩:=I1.list hq
 obtain⟨its',rv2,p2,hz2⟩:=I1.list hq'
 have lt:∀{c:OM}{zs:Array ON},s1.heap.IsList c zs->c<s1.heap.objs.size:=λh=>by obtain⟨o,e,_⟩:=h;exact OW e
 refine call_zip_2 p1.isList p2.isList λh' hz hI hO h1 h2 hsz hk=>?_
 refine TZ hz ?_
 refine⟨s1.heap.objs.size+4,[s1.heap.objs.size+4,s1.heap.objs.size+2,s1.heap.objs.size+3,s1.heap.objs.size,s1.heap.objs.size+1],_,_,H1,rfl,I1.kept (t':=s1.toks) hk,Cj (zipApart_new (lt p1.isList) (lt p2.isList)),⟨hz,hI,⟨_,_,hO⟩,h1,h2⟩,λc hc=>?_,q⟩
 have le:s1.heap.objs.size<=c:=by
  simp only[Ku,KD,or_false]at hc;rcases hc with h|h|h|h|h
  ·rw[h];exact LK _ _
  ·rw[h];exact LK _ _
  ·rw[h];exact LK _ _
  ·rw[h];exact KI _
  rw[h];exact LK _ _
 exact I1.yx le (I1.hok.fresh le)
end
theorem zK{K:QR}{a b:OM}{xs ys:List V}{g:TG}{tb:TS}{D:Ve}{σ:St}{H:Hp}(Pv:Nat->St->Hp->Prop)(h0:Pv 0 σ H)(hl:∀i σ H,i<=xs.length->Pv i σ H->SqL K H a xs/\SqL K H b ys)(hle:xs.length=ys.length)
  (hs:∀i x y σ H T,xs[i]?=UT x->ys[i]?=UT y->Pv i σ H->H T=UU->g (.ref T) σ (upd H T (.tup [x,y])) λσ2 H2=>tb { D with nx:=Pv (i+1),ct:=Pv (i+1),bk:=D.nx } σ2 H2) (hd:∀σ H,Pv xs.length σ H->D.nx σ H) :
  ∃W:Nat->Nat->St->Hp->Prop,(∃m,W 0 m σ H)/\∀i m σ H,W i m σ H->
   ((Itz K a b).stop i H/\D.nx σ H)\/((Itz K a b).go i H/\∃N:St->Hp->Prop,(∀σ' H',N σ' H'->∃m',m'<m/\W (i+1) m' σ' H')/\∀x H',(Itz K a b).yld i H x H'->g x σ H' λσ2 H2=>tb { D with nx:=N,ct:=N,bk:=D.nx } σ2 H2):=by
 refine⟨λi m σ H=>m=xs.length-i/\i<=xs.length/\Pv i σ H,⟨xs.length,by simp,KY _,h0⟩,?_⟩
 rintro i m σ H ⟨rfl,hi,p⟩
 obtain⟨q,q'⟩:=hl i σ H hi p
 by_cases hlt:i<xs.length
 ·have hlt':i<ys.length:=by omega
  refine .inr ⟨⟨xs,ys,xs[i],ys[i],q,q',by simp[hlt],by simp[hlt']⟩,Pv (i+1),λσ' H' p'=>⟨xs.length-(i+1),by omega,rfl,hlt,p'⟩,λv H' y=>?_⟩;obtain⟨T,x,y,rfl,hT,rfl,h⟩:=y;obtain⟨e1,e2⟩:=h xs ys q q';exact hs i x y σ _ T e1 e2 p hT
 have e:i=xs.length:=by omega
 subst e
 exact .inl ⟨⟨xs,ys,q,q',KJ (KI _)⟩,hd σ H p⟩
theorem AF{K:OQ}{a:OM}{xs:List V}{fr:List Nat}{tf:CB->TT}{te:CB->TE}{Q:VK}{σ:St}{H1:Hp}(p:V->Bool)(R:V->Hp->Prop)(hx:SqL K H1 a xs)(hn:xs.length<sizeLine)
  (hf:∀b x H (G:Bool->Hp->Prop),x∈xs->aq H1 H->(∀H',aq H H'->G (p x) H')->tf b (UT x::cFr fr σ) H G)
  (he:∀b x H (G:VK),x∈xs->p x=true->aq H1 H->(∀y H',aq H H'->R y H'->G y H')->te b (UT x::cFr fr σ) H G)
  (mono:∀y H H',aq H H'->R y H->R y H') (st:∀y H D ys zs,H D=UT (.lst ys)->R y H->R y (upd H D (.lst zs)))
  (fin:∀D H ys,H1 D=UU->aq H1 H->H D=UT (.lst ys)->ys.length<=xs.length->(∀y∈ys,R y H)->Q (.ref D) H):om (Itl K a) 1 fr (λ_=>ki 0) tf te Q σ H1:=by
 refine⟨λb D hD=>?_⟩
 refine⟨λi m σ' H'=>m=xs.length-i/\i<=xs.length/\(∃v0,σ'=v0::cFr fr σ)/\aq H1 H'/\∃ys,H' D=UT (.lst ys)/\ys.length<=i/\∀y∈ys,R y H',⟨xs.length,rfl,KY _,⟨UU,rfl⟩,aq.upd hD _,[],ak,KI _,λy h=>by cases h⟩,?_⟩
 rintro i m σ' H' ⟨rfl,hi,⟨v0,rfl⟩,sm,ys,hl,hy,hR⟩
 by_cases hlt:i<xs.length
 ·refine .inr ⟨⟨xs,xs[i],sm.seq hx,Kw hlt⟩,λσ2 H2=>(∃v0,σ2=v0::cFr fr σ)/\aq H1 H2/\∃ys,H2 D=UT (.lst ys)/\ys.length<=i+1/\∀y∈ys,R y H2,λσ2 H2 q=>⟨xs.length-(i+1),by omega,rfl,hlt,q⟩,λv H2 y=>?_⟩;obtain⟨rfl,yv⟩:=y;have ev:=yv xs (sm.seq hx);have mem:v∈xs:=KG ev;show tf b (UT v::cFr fr σ) _ _;refine hf b v _ _ mem sm λH3 s3=>?_;cases hp:p v with
  |false=>
   rw[if_neg KL];exact⟨⟨_,rfl⟩,sm.trans s3,ys,s3 _ _ hl,by omega,λy h=>mono _ _ _ s3 (hR y h)⟩
  |true=>
   rw[if_pos rfl];refine he b v _ _ mem hp (sm.trans s3) λz H4 s4 rz=>⟨ys,s4 _ _ (s3 _ _ hl),by omega,⟨_,rfl⟩,?_,ys++[z],ak,by simp;omega,λy h=>?_⟩
   ·intro c o q;by_cases hc:c=D
    ·rw[hc,hD]at q;cases q
    rw[aw hc];exact(sm.trans (s3.trans s4)) c o q
   have hD4:=s4 _ _ (s3 _ _ hl);rcases KA.mp h with h|h
   ·exact st _ _ _ _ _ hD4 (mono _ _ _ (s3.trans s4) (hR y h))
   rw[KC]at h;subst h;exact st _ _ _ _ _ hD4 rz
 have e:i=xs.length:=by omega
 subst e
 exact .inl ⟨⟨xs,sm.seq hx,KI _⟩,fin D H' ys hD sm hl hy hR⟩
set_option maxHeartbeats 4000000
theorem x8{K:OQ}{a:OM}{xs:List V}{fr:List Nat}{tf:CB->TT}{te:CB->TE}{Q:VK}{σ:St}{H1:Hp}(p:V->Bool)(R:V->V->Hp->Prop)(hx:SqL K H1 a xs)(hn:xs.length<sizeLine)
  (hf:∀b x H (G:Bool->Hp->Prop),x∈xs->aq H1 H->(∀H',aq H H'->G (p x) H')->tf b (UT x::cFr fr σ) H G)
  (he:∀b x H (G:VK),x∈xs->p x=true->aq H1 H->(∀y H',aq H H'->R x y H'->G y H')->te b (UT x::cFr fr σ) H G)
  (mono:∀x y H H',aq H H'->R x y H->R x y H') (st:∀x y H D ys zs,H D=UT (.lst ys)->R x y H->R x y (upd H D (.lst zs)))
  (fin:∀D H ys,H1 D=UU->aq H1 H->H D=UT (.lst ys)->Paired (λx y=>R x y H) (xs.filter p) ys->Q (.ref D) H):om (Itl K a) 1 fr (λ_=>ki 0) tf te Q σ H1:=by
 have len:∀{i:Nat}{ys:List V}{H:Hp},Paired (λx y=>R x y H) ((xs.take i).filter p) ys->ys.length<=i:=λ{i} _ _ h=>by
  have h1:=OU h;have h2:=LB p (xs.take i);rw[LJ]at h2;omega
 refine⟨λb D hD=>?_⟩
 refine⟨λi m σ' H'=>m=xs.length-i/\i<=xs.length/\(∃v0,σ'=v0::cFr fr σ)/\aq H1 H'/\∃ys,H' D=UT (.lst ys)/\Paired (λx y=>R x y H') ((xs.take i).filter p) ys,⟨xs.length,rfl,KY _,⟨UU,rfl⟩,aq.upd hD _,[],ak,.nil⟩,?_⟩
 rintro i m σ' H' ⟨rfl,hi,⟨v0,rfl⟩,sm,ys,hl,hR⟩
 have hy:=len hR
 by_cases hlt:i<xs.length
 ·refine .inr ⟨⟨xs,xs[i],sm.seq hx,Kw hlt⟩,λσ2 H2=>(∃v0,σ2=v0::cFr fr σ)/\aq H1 H2/\∃ys,H2 D=UT (.lst ys)/\Paired (λx y=>R x y H2) ((xs.take (i+1)).filter p) ys,λσ2 H2 q=>⟨xs.length-(i+1),by omega,rfl,hlt,q⟩,λv H2 y=>?_⟩;obtain⟨rfl,yv⟩:=y;have ev:=yv xs (sm.seq hx);have mem:v∈xs:=KG ev;rw[LO,ev,SR];show tf b (UT v::cFr fr σ) _ _;refine hf b v _ _ mem sm λH3 s3=>?_;cases hp:p v with
  |false=>
   rw[if_neg KL];refine⟨⟨_,rfl⟩,sm.trans s3,ys,s3 _ _ hl,?_⟩;have e0:((UT v).toList.filter p)=[]:=by simp[hp]
   rw[e0,Lx];exact Paired.cR hR λ_ _ h=>mono _ _ _ _ s3 h
  |true=>
   rw[if_pos rfl];have e0:((UT v).toList.filter p)=[v]:=by simp[hp]
   rw[e0];refine he b v _ _ mem hp (sm.trans s3) λz H4 s4 rz=>⟨ys,s4 _ _ (s3 _ _ hl),by omega,⟨_,rfl⟩,?_,ys++[z],ak,?_⟩
   ·intro c o q;by_cases hc:c=D
    ·rw[hc,hD]at q;cases q
    rw[aw hc];exact(sm.trans (s3.trans s4)) c o q
   have hD4:=s4 _ _ (s3 _ _ hl);exact Qv (Paired.cR hR λ_ _ h=>st _ _ _ _ _ _ hD4 (mono _ _ _ _ (s3.trans s4) h)) (st _ _ _ _ _ _ hD4 rz)
 have e:i=xs.length:=by omega
 subst e
 rw[Lz]at hR
 exact .inl ⟨⟨xs,sm.seq hx,KI _⟩,fin D H' ys hD sm hl hR⟩
section
variable{X:Cx}
theorem Fs{o:Expr}{to:TE}{apos cpos:Pos}(ho:PE X o to)(hbase:PH o "pop" X.env (Pn o X.env)=Pn o X.env:=by rfl)(hline:(apos.endLine==cpos.line)=true:=by rfl) :
  PE X (.Call (.Attribute o "pop" apos) [] [] cpos) (Jg X.K "list" HP to):=
 Hw Ro PySem.F.slot_list_pop PySem.F.type_list_pop Fu ho hbase hline
end
def EqW(prog:Program)(w:OX)(A:O7)(s:OO)(y x:ON):Prop:=∀(E:ON->OO->Prop)(Q:Bool->OO->Prop),Q true s->wpAny (OZ prog w) A (eqBool y x) Q E s
def RcW(prog:Program)(w:OX)(A:O7)(s:OO)(y x:ON):Prop:=∀(E:ON->OO->Prop)(Q:ON->OO->Prop),Q (.bool true) s->wpAny (OZ prog w) A (richCompare .Eq y x) Q E s
section
variable{X:Cx}
theorem EqW.of_refs{prog:Program}{w:OX}{A:O7}{s:OO}{l b:OM}(hne:l≠b)(h:RcW prog w A s (.ref l) (.ref b)):EqW prog w A s (.ref l) (.ref b):=λE Q hq=>by
 unfold eqBool;refine wpAny_holding (Up (λhab=>absurd (Qj (eq_of_beq hab)) hne) λ_=>OP (h E _ (Pk hq)))
theorem EY{pins:List (OM×Obj)}{σ:St}{H:Hp}{s:OO}{A:O7}{a b:OM}(I:Inv X pins σ H s)(hu:A.units+2<PJ)(h:u7 X.K H a b):EqW X.prog X.w A s (.ref a) (.ref b):=by
 by_cases hab:a=b
 ·subst hab;exact λE Q hq=>RL _ X.prog X.w E Q hq
 obtain⟨kvs,lvs,ha,hb,hl,hv⟩:=h;refine EqW.of_refs hab λE Q hq=>?_;obtain⟨z,hs,vs,rel,dd⟩:=jh I.hok ha;obtain⟨z2,hs2,vs2,rel2,dd2⟩:=jh I.hok hb;have e1:=rel.length;have e2:=rel2.length;have hvals:∀(i:Nat) k v,vs[i]?=UT (k,v)->∃v',valueAt vs2 k=UT v'/\∀A:O7,A.units<PJ->QE A s v v' true:=λi k v hi=>by
  obtain⟨⟨k',v'⟩,hkv⟩:∃kv,kvs[i]?=UT kv:=⟨kvs[i]'(by have:=(KH.mp hi).1;omega),Kw _⟩;have hr:k'=k/\U2 v' v:=sP rel hkv hi;obtain⟨rfl,hrv⟩:=hr;obtain⟨w',hw,hq⟩:=hv k' v' (uz (by rw[rel.keys];exact(dd.dictAt.choose_spec).nodup) hkv);have hval:=rel2.val k';rw[hw]at hval;cases hvv:valueAt vs2 k' with
  |none=>rw[hvv]at hval;exact(show False from hval).elim
  |some u'=>
   rw[hvv]at hval;exact⟨u',rfl,λA hA=>zL I hA hq hrv hval⟩
 refine PD (op:=.Eq) dd.typeIs dd2.typeIs Py (QD Py dd.typeIs Qz ?_ (Qu _ _)) (by omega);show wpAny _ _ (Pj "__eq__" ⟨[.ref a,.ref b],[]⟩>>=_) _ _ _;refine OP ?_;unfold Pj;refine OP (P6 dd.typeIs ?_);show wpAny _ _ (pure (OY a,OY b)) _ _ _;refine OT ?_;refine OP (Rt (T:="dict") (b:=true) dd2.typeIs (by rw[R8];kernel_rfl) ?_);show wpAny _ _ (Pf "dict.__eq__" a b>>=_) _ _ _;refine OP (rL hs hs2 dd dd2 (by omega) (λi k v hi=>?_) ?_)
 ·obtain⟨v',h1,h2⟩:=hvals i k v hi;exact⟨v',h1,h2 _ (show A.units+1<PJ by omega)⟩
 show wpAny _ _ (ret (.bool true)) _ _ _;exact OT ⟨.bool true,rfl,(λz=>nomatch z),hq⟩
end
section
variable{X:Cx}{e:Expr}{te:TE}{es:List Expr}{t:Str->TE}{pos:Pos}
end
section
variable{X:Cx}
theorem Cp:OpR X (Pp .RShift) (pY (λ_ j=>0<=j) λi j=>.int (i/2^j.toNat)):=HC.pY
theorem EI(val:Nat->Int):∀n,∀i ≤ n,val i<=val (TC (λi j=>decide (val i>val j)) n):=by
 intro n;induction n with
 |zero=>intro i hi;rw[Nat.le_zero.mp hi];exact Lb _
 |succ n ih=>
  intro i hi;have e:TC (λi j=>decide (val i>val j)) (n+1)=if decide (val (n+1)>val (TC (λi j=>decide (val i>val j)) n))=true then n+1 else TC (λi j=>decide (val i>val j)) n:=rfl
  rw[e];by_cases h:val (n+1)>val (TC (λi j=>decide (val i>val j)) n)
  ·rw[if_pos (decide_eq_true h)];rcases Nat.lt_or_ge i (n+1)with z|z
   ·have:=ih i (by omega);omega
   rw[show i=n+1 by omega];exact Lb _
  rw[if_neg (by rw[decide_eq_false h];exact KL)];rcases Nat.lt_or_ge i (n+1)with z|z
  ·exact ih i (by omega)
  rw[show i=n+1 by omega];omega
theorem GY(hc:X.calm=true:=by rfl):dI X (.builtin "max") (λxs H Q=>∃(p:OM)(ns:List Int),xs=[.ref p]/\SqL X.K H p (ns.map V.int)/\ns≠[]/\∀m∈ns,(∀n∈ns,n<=m)->Q (.int m) H):=by
 intro pins s σ H xs us Q I r h;obtain⟨p,ns,rfl,hq,ne,q⟩:=h;obtain⟨u,rfl,rx⟩:=Vb r;cases rx;obtain⟨its,rv,pl,hz⟩:=I.list hq;have hl:=pl.isList;have ia:=Va rv;obtain⟨xs,hx⟩:=ia.allInts.items;have hn:xs.toList.map (·.1)=ns:=by
  rw[<-nums_intItems,<-hx];exact ia.numsOf
 rw[hx]at hl;have hs:xs.size=ns.length:=by rw[<-hn];simp
 have l0:0<ns.length:=MV.mpr ne;have at':∀i,i<ns.length->ns[i]?=UT (numAt xs i):=λi hi=>by
  have hi':i<xs.size:=by omega
  unfold numAt;rw[<-hn,KP];simp[hi']
 refine max_intList (I.ok.hd hc) hl (by omega) λv h' tk hv hk=>?_;obtain⟨t,rfl⟩:=intItems_at hv;have bl:TC (λi j=>decide (numAt xs i>numAt xs j)) (xs.size-1)<ns.length:=by
  have z:=(Array.getElem?_eq_some_iff.mp hv).1;rw[show(TF xs).size=xs.size from UJ ..]at z;rw[<-hs];exact z
 refine⟨.int _,H,I.kept (t':=tk) hk,⟨_,rfl⟩,q _ (KG (at' _ bl)) λn hn'=>?_⟩;obtain⟨i,hi⟩:=Le hn';have hi':i<ns.length:=(KH.mp hi).1;have e:=at' i hi';rw[hi]at e;rw[OS e];exact EI (numAt xs) _ i (by omega)
theorem sj{prog:Program}{w:OX}{A:O7}{E:ON->OO->Prop}{s:OO}{l:OM}{xs:Array (Int×Tok)}{Q:ON->OO->Prop}(hl:s.heap.IsTuple l (TF xs))
  (h:∀s₂:OO,s₂={ s with heap:=s.heap.push { cls:=.type "tuple_iterator",data:=.fields #[.ref l,.int 0 0] } }->
   (s₂.heap.IsTupleIter s.heap.objs.size l 0/\s₂.heap.IsTuple l (TF xs))->(∀b∈[s.heap.objs.size,l],b<s₂.heap.objs.size)->l≠s.heap.objs.size->Q (.ref s.heap.objs.size) s₂) :
  wpAny (OZ prog w) A (pyIter (.ref l)) Q E s:=by
 have hlt:l<s.heap.objs.size:=by obtain⟨_,e,_⟩:=hl;exact OW e
 refine SQ hl (h _ rfl ⟨⟨_,O3 _ rfl,rfl,rfl⟩,hl.push _⟩ (λb hb=>?_) (Lp hlt))
 show b<(s.heap.push _).objs.size
 rw[PL]
 rcases Ku.mp hb with rfl|hb
 ·exact Mi _
 rcases Ku.mp hb with rfl|hb
 ·exact Mr hlt
 cases hb
theorem Gu(hc:X.calm=true:=by rfl):dI X (.builtin "sum") (λxs H Q=>∃(p:OM)(ns:List Int),xs=[.ref p]/\SqT X.K H p (ns.map V.int)/\Q (.int ns.sum) H):=by
 intro pins s σ H xs us Q I r h;obtain⟨p,ns,rfl,hq,q⟩:=h;obtain⟨u,rfl,rx⟩:=Vb r;cases rx;obtain⟨its,rv,hl,hz⟩:=I.tuple hq;have ia:=Va rv;obtain⟨xs,hx⟩:=ia.allInts.items;have hn:xs.toList.map (·.1)=ns:=by
  rw[<-nums_intItems,<-hx];exact ia.numsOf
 rw[hx]at hl;obtain⟨o,e1,e2,n,e3⟩:=hl;refine call_sum_walkG (sj ⟨o,e1,e2,n,e3⟩ λs₂ e st hfp hlI=>?_);subst e;refine⟨_,_,_,_,_,_,numAt xs,rfl,Walks.tuple (A:=X.A.in1) (I.ok.hd hc) _ p hlI (TF xs),st,hfp,(λ_ _=>intItems_at),λh' tk t' hk=>?_⟩;have ez:(TF xs).size=xs.size:=UJ ..;rw[ez,preSum_eq,Mp (by simp),hn];refine⟨.int _,H,I.kept (t':=tk) (λb o e=>?_),⟨_,rfl⟩,q⟩;refine hk b o (λhm=>?_) (OR _ e);rcases Ku.mp hm with z|hm
 ·exact absurd (z▸OW e) (LS _)
 cases hm
end
def EqB(prog:Program)(w:OX)(A:O7)(s:OO)(y x:ON)(b:Bool):Prop:=∀(E:ON->OO->Prop)(Q:Bool->OO->Prop),Q b s->wpAny (OZ prog w) A (eqBool y x) Q E s
theorem contains_loopW{prog:Program}{w:OX}(l:OM)(items:Array ON)(n:Nat)(dd:Option OM)(sl:Array (Option ON))(x:ON)(e:ON->Bool)(k:Nat) :
  ∀i:Nat,items.size-i=k->MeetsIn prog w (Q5.«list.__contains__.loop» ⟨[.ref l,x,rawInt i],[]⟩)
   (λA R s=>s.heap.get? l=UT { cls:=.type "list",dict:=dd,data:=.seq items n,slots:=sl }/\(∀y,y∈items->EqB prog w A.in1 s y x (e y))/\R (.ok (.ret (.bool ((items.toList.drop i).any e)))) s):=by
 induction k with
 |zero=>
  intro i hk A R s h
  obtain⟨hp,g,d,tk,os⟩:=s;obtain⟨hl,he,h⟩:=h
  wp_walk using Pg hl
  have hi:items[((i:Nat):Int).toNat]?=UU:=by simp;omega
  have hd:items.toList.drop i=[]:=by simp;omega
  rw[hd]at h
  rw[hi]
  wp_walk
  exact h
 |succ k ih=>
  intro i hk A R s h
  obtain⟨hp,g,d,tk,os⟩:=s;obtain⟨hl,he,h⟩:=h
  wp_walk using Pg hl
  have hlt:i<items.size:=by omega
  have hi:items[((i:Nat):Int).toNat]?=UT items[i]:=by simp[hlt]
  have hd:items.toList.drop i=items[i]::items.toList.drop (i+1):=by simp[LY,hlt]
  rw[hd,Mw]at h
  rw[hi]
  refine OP (he _ (Ng hlt) _ _ ?_)
  cases hb:e items[i]with
  |true=>
   rw[hb]at h
   wp_walk
   exact h
  |false=>
   rw[hb]at h
   have hc:((i:Int)+1)=((i+1:Nat):Int):=by push_cast;rfl
   wp_walk
   rw[hc]
   exact⟨Rb PC _,QP QQ (by
    rw[Qc PC _];exact ih (i+1) (by omega) A R _ ⟨hl,he,by simpa using h⟩)⟩
theorem list_containsW{prog:Program}{w:OX}(l:OM)(items:Array ON)(n:Nat)(dd:Option OM)(sl:Array (Option ON))(x:ON)(e:ON->Bool) :
  MeetsIn prog w (Q5.«list.__contains__» ⟨[.ref l,x],[]⟩)
   (λA R s=>s.heap.get? l=UT { cls:=.type "list",dict:=dd,data:=.seq items n,slots:=sl }/\(∀y,y∈items->EqB prog w A.in1 s y x (e y))/\R (.ok (.ret (.bool (items.any e)))) s):=by
 intro A R s h
 obtain⟨hp,g,d,tk,os⟩:=s;obtain⟨hl,he,h⟩:=h
 wp_walk using Pg hl
 exact⟨Rb PC _,QP QQ (by
  rw[Qc PC _];exact contains_loopW l items n dd sl x e _ 0 rfl A R _ ⟨hl,he,by simpa using h⟩)⟩
section
variable{prog:Program}{w:OX}{K:Type}[DecidableEq K]{knd:KeyKind prog w K}{A:O7}{E:ON->OO->Prop}{s:OO}
theorem yC{id:String}{a b:OM}{k:K}{v v':ON}{kvs lvs:List (K×ON)}{Q:Bool->OO->Prop}(hda:(a==Pm)=false)(hdb:(b==Pm)=false)(ha:s.heap.DictOf knd a ((k,v)::kvs))(hb:s.heap.DictOf knd b lvs)(hl:kvs.length+1=lvs.length)
  (hv:valueAt lvs k=UT v') (he:QE A s v v' false) (q:Q false s):wpAny (OZ prog w) A (Pf id a b) Q E s:=by
 obtain⟨o,es,ep,ho,hx,hd,hk,hp,hn⟩:=ha
 obtain⟨o2,es2,ep2,ho2,hx2,hd2,hk2,hp2,hn2⟩:=hb
 have hz:es.size=kvs.length+1:=by have:=hp.length;simpa using this
 have hz2:es2.size=lvs.length:=by rw[<-hp2.length];simp
 unfold Pf
 refine OP (mR hda ?_)
 refine OP (mR hdb ?_)
 refine OP (Pq ho hd ?_)
 refine OP (Pq ho2 hd2 ?_)
 rw[if_neg (by simp;omega)]
 refine OP (RM ho hd ?_)
 refine OP ?_
 rw[Qd]
 simp only[RP,Nat.sub_zero,SW,Nat.div_one]
 rw[hz,List.range'_succ]
 refine Rr _ (λrest c s'=>rest=0::Mh (0+1) kvs.length/\c=(UU,())/\s'=s) _ ?_ ?_ _ _ ⟨rfl,rfl,rfl⟩
 ·rintro i rest c s' ⟨e0,rfl,rfl⟩;have hi0:i=0:=(SE e0).1;subst hi0;have hi:0<es.size:=by omega
  refine OP (Pq ho hd ?_);rw[Q4 hi];obtain⟨hkey,hval⟩:=hp.get? (i:=0) (e:=es[0]) (by simp[hi]) rfl;obtain⟨k',hk',hh⟩:=hk es[0] (Ng hi);have hkk:k'=k:=knd.inj _ _ _ hk' hkey;subst hkk;show wpAny _ _ (Ql [es[0].key,es[0].val] _>>=_) _ _ _;refine OP (wpAny_holding ?_);rw[hh,hval];refine OP (Tz hkey ho2 hd2 hk2 ?_);obtain⟨j,f,hj,hf,hfv⟩:=qT hp2 hv;rw[<-RQ,R7]at hj;rw[Mu]at hf;rw[hj];refine OP (Pq ho2 hd2 ?_);rw[hf];show wpAny _ _ (Ql [f.val] (eqBool v f.val)) _ _ _;rw[hfv];refine wpAny_holding (he _ _ _ _ ?_);rw[if_pos (by decide)];exact OT (OT q)
 rintro c s' ⟨e0,_,_⟩
 cases e0
end
section
variable{X:Cx}
def CV(H:Hp)(a b:OM):Prop:=a≠b/\∃(k:Key)(i j:Int)(kvs lvs:List (Key×V)),Rd H a (.dK ((k,.int i)::kvs))/\Rd H b (.dK ((k,.int j)::lvs))/\kvs.length=lvs.length/\i≠j
theorem AD{pins:List (OM×Obj)}{σ:St}{H:Hp}{s:OO}{A:O7}{a b:OM}(I:Inv X pins σ H s)(hu:A.units+2<PJ)(h:CV H a b):EqB X.prog X.w A s (.ref a) (.ref b) false:=by
 obtain⟨hab,k,i,j,kvs,lvs,ha,hb,hl,hv⟩:=h;intro E Q hq;unfold eqBool;refine wpAny_holding (Up (λhab'=>absurd (Qj (eq_of_beq hab')) hab) λ_=>OP ?_);obtain⟨z,hs,vs,rel,dd⟩:=jh I.hok ha;obtain⟨z2,hs2,vs2,rel2,dd2⟩:=jh I.hok hb;have e1:=rel.length;have e2:=rel2.length;cases rel with
 |@cons _ u _ us r1 rest=>
  obtain⟨k',v'⟩:=u;obtain⟨ek,t,ev⟩:=r1;dsimp only at ek ev;subst ek ev;have hval:=rel2.val k;rw[mz (p:=(k,V.int j)) rfl]at hval;cases hvv:valueAt vs2 k with
  |none=>rw[hvv]at hval;exact(show False from hval).elim
  |some u'=>
   rw[hvv]at hval;obtain⟨t2,rfl⟩:=hval;refine PD (op:=.Eq) dd.typeIs dd2.typeIs Py (QD Py dd.typeIs Qz ?_ (Qu _ _)) (by omega);show wpAny _ _ (Pj "__eq__" ⟨[.ref a,.ref b],[]⟩>>=_) _ _ _;refine OP ?_;unfold Pj;refine OP (P6 dd.typeIs ?_);show wpAny _ _ (pure (OY a,OY b)) _ _ _;refine OT ?_;refine OP (Rt (T:="dict") (b:=true) dd2.typeIs (by rw[R8];kernel_rfl) ?_);show wpAny _ _ (Pf "dict.__eq__" a b>>=_) _ _ _;simp only[Lc]at e1 e2;refine OP (yC hs hs2 dd dd2 (by omega) hvv (by have:=Q1 (A:=A.in1) (s:=s) i t j t2;rw[beq_eq_false_iff_ne.mpr hv]at this;exact this) ?_);show wpAny _ _ (ret (.bool false)) _ _ _;exact OT ⟨.bool false,rfl,(λz=>nomatch z),Pk hq⟩
theorem ur:∀{bs:List OM}{its:List ON},U1 (bs.map V.ref) its->its=bs.map OY
 | [],_,.nil=>rfl
 |b::r,_,.cons r2 r3=>by cases r2;rw[ur r3];rfl
theorem C7(hu:X.A.units+64<PJ):OpR X (O4 .NotIn) (λx y H Q=>∃(a p:OM)(bs:List OM),x=.ref a/\y=.ref p/\SqL X.K H p (bs.map V.ref)/\(∀b∈bs,b≠a->CV H b a)/\Q (.bl (!decide (a∈bs))) H):=by
 intro pins s σ H x y v u Q I rx ry h;obtain⟨a,p,bs,rfl,rfl,hp,hb,q⟩:=h;cases rx;cases ry;obtain⟨its,r1,⟨o,n,e1,c1,_,d1⟩,_⟩:=I.list hp;obtain⟨oc,od,oda,osl⟩:=o;dsimp only at c1 d1;subst c1 d1;have eits:its=bs.map OY:=ur r1;subst eits;show wpAny _ X.A (do return Ru (!(<-contains (.ref p) (.ref a)))) _ _ s;refine OP (wpAny_contains_slot (T:="list") ⟨_,e1,rfl⟩ Q3 (PK (RI Q3 ⟨_,e1,rfl⟩ PySem.F.entry_list_contains (PySem.F.args_list_contains_2 _ _) (list_containsW p (bs.map OY).toArray n od osl (.ref a) (λv=>decide (v=.ref a)))
  (Q:=λv s'=>s'=s/\v=.bool ((bs.map OY).toArray.any λv=>decide (v=.ref a))) ⟨e1,λy hy=>?_,rfl,rfl⟩) (λv s' hv=>?_) λ_ _ e=>e))
 ·have hy':y∈bs.map OY:=by simpa using hy
  obtain⟨b,hbm,rfl⟩:=KU.mp hy';by_cases e:b=a
  ·subst e;rw[decide_eq_true rfl];exact λE Q hq=>RL _ X.prog X.w E Q hq
  rw[decide_eq_false (λz=>e (Qj z))];exact AD I (by show X.A.units+1+2<PJ;omega) (hb b hbm e)
 obtain⟨rfl,rfl⟩:=hv;have ea:((bs.map OY).toArray.any λv=>decide (v=.ref a))=decide (a∈bs):=by
  rw[List.any_toArray,List.any_map,LQ,LM,decide_eq_true_iff];exact⟨λ⟨b,h1,h2⟩=>Qj (of_decide_eq_true h2)▸h1,λh=>⟨a,h,decide_eq_true rfl⟩⟩
 rw[ea];exact Pk (OT ⟨.bl _,H,I,rfl,q⟩)
end
section
variable{prog:Program}{w:OX}{A:O7}{E:ON->OO->Prop}{s:OO}
end
section
variable{X:Cx}
theorem A1{prog:Program}{w:OX}{l b:OM}{xs ys:Array ON}{n n2:Nat}{dd dd2:Option OM}{sl sl2:Array (Option ON)}(hsz:xs.size=ys.size) :
  MeetsIn prog w (Q5.«tuple.__eq__» ⟨[.ref l,.ref b],[]⟩) (λA R s=>s.heap.get? l=UT { cls:=.type "tuple",dict:=dd,data:=.seq xs n,slots:=sl }/\
   s.heap.get? b=UT { cls:=.type "tuple",dict:=dd2,data:=.seq ys n2,slots:=sl2 }/\(∀j (h1:j<xs.size) (h2:j<ys.size),EqW prog w A.in1 s xs[j] ys[j])/\R (.ok (.ret (.bool true))) s):=by
 intro A R s h;obtain⟨hp,g,d,tk,os⟩:=s;obtain⟨h1,h2,he,h⟩:=h
 have f3:=AutoSeq1.sub_tuple_tuple;have zl:(xs.toList.zip ys.toList).length=xs.size:=by simp[hsz]
 wp_walk using Pg h1,Pg h2,Rr _ (λrs q z=>q.1=UU/\z=⟨hp,g,d,tk,os⟩/\∃k,rs=(xs.toList.zip ys.toList).drop k) _
 case turn=>
  rintro⟨y,x⟩ rs q z ⟨q0,rfl,k,hk⟩
  have lt:k<(xs.toList.zip ys.toList).length:=by
   by_cases c:k<(xs.toList.zip ys.toList).length
   ·exact c
   rw[List.drop_of_length_le (by omega)]at hk;cases hk
  rw[LY lt]at hk
  obtain⟨e1,e2⟩:=SE hk
  have a1:k<xs.size:=by omega
  have a2:k<ys.size:=by omega
  have e3:y=xs[k]:=by have:=congrArg Prod.fst e1;simpa using this
  have e4:x=ys[k]:=by have:=congrArg Prod.snd e1;simpa using this
  subst e3 e4
  refine OP (he k a1 a2 _ _ ?_)
  wp_walk
  exact⟨rfl,rfl,k+1,e2⟩
 case fin=>
  rintro⟨q1,q2⟩ z ⟨q0,rfl,k,hk⟩
  simp only at q0
  subst q0
  wp_walk
  simpa [Builtin.Tuple.tupleCompareSizes,hsz] using h
 case h=>exact⟨rfl,rfl,0,rfl⟩
theorem GP(hu:X.A.units+64<PJ):OpR X (O4 .Eq) (λx y H Q=>∃p q xs ys,x=.ref p/\y=.ref q/\SqT X.K H p xs/\SqT X.K H q ys/\xs.length=ys.length/\(∀(i:Nat) a b,xs[i]?=UT a->ys[i]?=UT b->∃d e,a=.ref d/\b=.ref e/\u7 X.K H d e)/\Q (.bl true) H):=by
 intro pins s σ H x y v u Q I rx ry h;obtain⟨p,q,xs,ys,rfl,rfl,hp,hq,hl,hf,k⟩:=h;cases rx;cases ry;obtain⟨its,r1,⟨o,e1,c1,n,d1⟩,_⟩:=I.tuple hp;obtain⟨jts,r2,⟨o2,e2,c2,n2,d2⟩,_⟩:=I.tuple hq;have l1:=r1.length;have l2:=r2.length;obtain⟨oc,od,oda,osl⟩:=o;obtain⟨oc2,od2,oda2,osl2⟩:=o2;dsimp only at c1 d1 c2 d2;subst c1 d1 c2 d2;refine PD (op:=.Eq) (T:="tuple") ⟨_,e1,rfl⟩ ⟨_,e2,rfl⟩ RR (RI RR ⟨_,e1,rfl⟩ PySem.F.entry_tuple_eq (PySem.F.args_tuple_eq_2 _ _) (A1 (by simp;omega)) ⟨e1,e2,λj h1 h2=>?_,?_⟩) (by omega)
 ·simp at h1 h2;obtain⟨x,hx⟩:∃x,xs[j]?=UT x:=⟨xs[j]'(by omega),Kw (by omega)⟩;obtain⟨y,hy⟩:∃y,ys[j]?=UT y:=⟨ys[j]'(by omega),Kw (by omega)⟩;obtain⟨d,e,rfl,rfl,de⟩:=hf j x y hx hy;obtain⟨u1,g1,w1⟩:=r1.get hx;obtain⟨u2,g2,w2⟩:=r2.get hy;have z1:its.toArray[j]'(by simpa using h1)=u1:=by
   have:=Kw h1;rw[g1]at this;simpa using (OS this).symm
  have z2:jts.toArray[j]'(by simpa using h2)=u2:=by
   have:=Kw h2;rw[g2]at this;simpa using (OS this).symm
  rw[z1,z2];cases w1;cases w2;exact EY I (by show X.A.units+1+2<PJ;omega) de
 exact⟨(λz=>nomatch z),.bl true,H,I,rfl,k⟩
theorem Iw(hu:X.A.units+64<PJ):OpR X (O4 .NotEq) (λx y H Q=>∃d e,ja X.K H x d/\ja X.K H y e/\Pe d=true/\Pe e=true/\Q (.bl (!PyData.eqv d e)) H):=by
 intro pins s σ H x y v u Q I rx ry h;obtain⟨d,e,hd,he,sd,se,hq⟩:=h;obtain⟨as,z1⟩:=I.reads hd rx;obtain⟨bs,z2⟩:=I.reads he ry;exact ne_dataH z1 z2 sd se hu ⟨.bl _,H,I,rfl,hq⟩
end
section
variable{K:OQ}{H:Hp}{Q:VK}
theorem tix{p:OM}{xs:List V}{v:V}{j:Nat}(h:SqT K H p xs)(e:xs[j]?=UT v)(q:Q v H):ixS K p (j:Int) H Q\/dgI p (.int (j:Int)) H Q:=.inl ⟨xs,v,.inr h,d6 e,q⟩
theorem lix{p:OM}{xs:List V}{v:V}{i:Int}(h:SqL K H p xs)(e:atI xs i=UT v)(q:Q v H):ixS K p i H Q\/dgI p (.int i) H Q:=.inl ⟨xs,v,.inl h,e,q⟩
theorem dgk{d:OM}{kvs:List (Key×V)}{x:Str}{v:V}(h:H d=UT (.dK kvs))(e:ft kvs (.inr x)=UT v)(q:Q v H):dgI d (.str x) H Q:=⟨v,e▸c8.k (k:=.inr x) h,q⟩
theorem fdI{a C dx:OM}{f:Str}{fs:List (Str×V)}{v:V}(h:H a=UT (.ins C dx fs))(c:Cls K C)(n:aH K C f)(e:fs.lookup f=UT v)(q:Q v H):GJ K f (.ref a) H Q:=⟨a,C,dx,fs,v,rfl,h,c,n,e,q⟩
theorem lnl{p:OM}{xs:List V}(h:H p=UT (.lst xs))(q:Q (.int (xs.length:Nat)) H):DJ K [.ref p] H Q\/GX [.ref p] H Q:=.inl ⟨_,_,rfl,.inl ⟨_,SqL.of h,rfl⟩,q⟩
theorem isB{x:V}{D:OM}{t:ON}{b:Bool}{R:Bool->Hp->Prop}(ty:mh K H x t)(k:Pu K t (.ref D)=UT b)(q:R b H):FV K [x,.ref D] H λv H1=>Dn K v H1 R:=⟨x,.ref D,t,b,rfl,(λz=>by cases z),ty,k,b,rfl,q⟩
end
end L2
namespace K61
open PySem L2
set_option genSizeOf false
local macro_rules|`($a^af)=>`(aa $a af)
local macro_rules|`($a^$b^$c)=>`(aa $a ($b^$c))
local macro_rules|`(())=>`(by omega)
local macro_rules|`(∅)=>`(by decide)
theorem scM{N P:List Str}{sc:Qo}(k:sc.kind=.function:=by rfl)(c:sc.isCoroutine=false:=by rfl)(g:sc.isGenerator=false:=by rfl)(n:N.Nodup:=by decide+kernel)(p:N.take P.length=P:=by rfl)(q:∀x∈P,sc.names.lookup x=UT .local\/sc.names.lookup x=UT .cell:=by decide+kernel)(f:∀y∈sc.names,y.2≠ .free:=by decide+kernel):ay N P sc:=⟨k,c,g,n,p,q,f⟩
theorem px{X:Cx}{a b:Expr}{ta tb:TE}{pos:Pos}(hu:X.A.units+64<PJ)(ha:PE X a ta)(hb:PE X b tb)(hs:zo b:=by exact λ_ _=>rfl):PE X (.Subscript a b pos) (tOp (JG X.K) ta tb):=Jw (HM hu) ha hb hs
theorem pgn{X:Cx}{pos:Pos}{i:Nat}{x:Str}(hN:X.N.Nodup)(hi:X.N[i]?=UT x)(hx:Loc X.env.scope x:=by first|exact KJ rfl|exact Lg rfl)(hf:X.fn x=true\/X.env.scope.names.lookup x=UT .local:=by first|exact .inl rfl|exact .inr rfl|assumption):PG X (.Name x pos) (ki i):=Aj hN hi hx hf
theorem pst{X:Cx}(i:Nat){x:Str}{e:Expr}{te:TE}{pos pos':Pos}(hN:X.N.Nodup)(he:PE X e te)(hi:X.N[i]?=UT x:=by rfl)(hx:Loc X.env.scope x:=by first|exact KJ rfl|exact Lg rfl)(hs:Sm e (UT (.Name x pos')) pos.line X.env=pure false:=by rfl)(hf:X.fn x=true\/X.env.scope.names.lookup x=UT .local:=by first|exact .inl rfl|exact .inr rfl|assumption):PS X (.Assign [.Name x pos'] e pos) (Di te (ki i)):=FD hN hi hx he hs hf
theorem pcB{X:Cx}{id:String}{r:List V->Hp->VK->Prop}{x:Str}{e:Expr}{es:List Expr}{t:TA}{p pos:Pos}(hc:dI X (.builtin id) r)(hm:X.mg x=UU)(ha:PA X (e::es) t)(hg:Gl X x:=by rfl)(hv:PU x=UT (.builtin id):=by boot_by_name)(hn:x≠"__name__":=by decide)(hdb:(x==("__debug__":Str))=false:=by decide)(he:OV (e::es) X.env=(false,Pn e X.env)::OV es X.env:=by rfl)(hpl:(Pw pos (OV es X.env)).any (·.1)=false:=by rfl):PE X (.Call (.Name x p) (e::es) [] pos) (tCB r t):=CN hc hg hm hv ha hn hdb he hpl
theorem pcT{X:Cx}{T:String}{r:List V->Hp->VK->Prop}{x:Str}{e:Expr}{es:List Expr}{t:TA}{p pos:Pos}(hc:dI X (.type T) r)(hm:X.mg x=UU)(ha:PA X (e::es) t)(hg:Gl X x:=by rfl)(hv:PU x=UT (.type T):=by boot_by_name)(hn:x≠"__name__":=by decide)(hdb:(x==("__debug__":Str))=false:=by decide)(he:OV (e::es) X.env=(false,Pn e X.env)::OV es X.env:=by rfl)(hpl:(Pw pos (OV es X.env)).any (·.1)=false:=by rfl):PE X (.Call (.Name x p) (e::es) [] pos) (tCB r t):=AS hc hg hm hv ha hn hdb he hpl
theorem ptc{X:Cx}{a b:Expr}{ta tb:TE}{pos:Pos}{op:CmpOp}{r:R2}(ho:OpR X (O4 op) r)(ha:PE X a ta)(hb:PE X b tb)(hm:Qg op b=false:=by exact BH _):PT X (.Compare a [op] [b] pos) (E5 (tOp r ta tb)):=Ef ho ha hb hm
theorem pec{X:Cx}{a b:Expr}{ta tb:TE}{pos:Pos}{op:CmpOp}{r:R2}(ho:OpR X (O4 op) r)(ha:PE X a ta)(hb:PE X b tb)(hm:Qg op b=false:=by exact BH _):PE X (.Compare a [op] [b] pos) (tOp r ta tb):=EU ho ha hb hm
abbrev kM:O9:=top 21
theorem jy:ay ["program","ranks","head"] ["program"] (au kM):=scM
abbrev lX:O9:=top 26
theorem vA:ay ["thing"] ["thing"] (au lX):=scM
abbrev pj:O9:=top 27
theorem xM:ay ["gift","size"] ["gift","size"] (au pj):=scM
abbrev kC:O9:=top 28
theorem nj:ay ["given","gifts","gift"] ["given","gifts"] (au kC):=scM
abbrev oj:O9:=top 29
theorem vX:ay ["own"] ["own"] (au oj):=scM
abbrev oh:O9:=top 30
theorem gy:ay ["program","gifts","cells","head","deed","part"] ["program","gifts"] (au oh):=scM
abbrev rJ:O9:=top 33
theorem A4:ay ["one","word","other"] ["one","word","other"] (au rJ):=scM
abbrev jY:O9:=top 34
theorem rQ:ay ["place","size"] ["place","size"] (au jY):=scM
abbrev pw:O9:=top 37
theorem xK:ay ["program","cells"] ["program","cells"] (au pw):=scM
abbrev BV:O9:=top 38
theorem yH:ay ["program","gifts","state","book"] ["program","gifts"] (au BV):=scM
abbrev ym:O9:=top 40
theorem zq:ay ["program","book","rank","ranks"] ["program","book","rank"] (au ym):=scM
abbrev lJ:O9:=top 41
theorem va:ay ["letters","at"] ["letters","at"] (au lJ):=scM
abbrev oT:O9:=top 42
theorem yd:ay ["letter"] ["letter"] (au oT):=scM
abbrev yU:O9:=top 43
theorem mW:ay ["program","rank","one","other","first","second","at","mine","yours"] ["program","rank","one","other"] (au yU):=scM
abbrev jW:O9:=top 45
theorem rD:ay ["_law_script","_law_k"] ["_law_script","_law_k"] (au jW):=scM
abbrev oS:O9:=top 46
theorem nY:ay ["_law_cell","_law_way","_law_many","_law_number_here"] ["_law_cell","_law_way","_law_many"] (au oS):=scM
abbrev nJ:O9:=top 47
theorem eG:ay ["_law_cell","_law_k","_law_letters","_law_way","_law_words","_law_size","_law_at","_law_stem"] ["_law_cell","_law_k"] (au nJ):=scM
abbrev kB:O9:=top 48
theorem nB:ay ["_law_cell"] ["_law_cell"] (au kB):=scM
abbrev lT:O9:=top 49
theorem bQ:ay ["_law_script","_law_state","_law_names","_law_ranks","_law_size","_law_heads_here","_law_turn","_law_row","_law_name_here","_law_rank"] ["_law_script","_law_state"] (au lT):=scM
abbrev oV:O9:=top 50
theorem yV:ay ["_law_state","_law_some","_law_loose","_law_low","_law_high"] ["_law_state","_law_some","_law_loose","_law_low","_law_high"] (au oV):=scM
abbrev mC:O9:=top 51
theorem kD:ay ["_law_state","_law_cell","_law_way","_law_high","_law_some","_law_pick"] ["_law_state","_law_cell","_law_way","_law_high"] (au mC):=scM
abbrev lZ:O9:=top 52
theorem fD:ay ["_law_state","_law_cell","_law_high","_law_way","_law_one","_law_some","_law_word"] ["_law_state","_law_cell","_law_high"] (au lZ):=scM
abbrev oZ:O9:=top 53
theorem qX:ay ["_law_state","_law_row","_law_steps","_law_frame"] ["_law_state","_law_row","_law_steps"] (au oZ):=scM
abbrev nX:O9:=top 54
theorem gC:ay ["_law_state","_law_cell","_law_loose","_law_marks","_law_mark","_law_some","_law_name_here"] ["_law_state","_law_cell","_law_loose"] (au nX):=scM
abbrev lW:O9:=top 55
theorem cE:ay ["_law_state","_law_cell","_law_kind","_law_loose","_law_low","_law_word","_law_some","_law_name_here","_law_high","_law_row"] ["_law_state","_law_cell","_law_kind","_law_loose"] (au lW):=scM
abbrev kR:O9:=top 56
theorem bI:ay ["_law_state","_law_cell","_law_kind","_law_loose","_law_frame","_law_low","_law_high","_law_idles","_law_times","_law_row","_law_some","_law_rank"] ["_law_state","_law_cell","_law_kind","_law_loose"] (au kR):=scM
abbrev kS:O9:=top 57
theorem dg:ay ["_law_state","_law_frame","_law_rows","_law_row","_law_cost"] ["_law_state"] (au kS):=scM
abbrev nW:O9:=top 58
theorem vP:ay ["_law_state","_law_frame"] ["_law_state","_law_frame"] (au nW):=scM
abbrev kN:O9:=top 59
theorem cM:ay ["_law_state","_law_cell","_law_loose","_law_frame","_law_some","_law_name_here","_law_deed","_law_things","_law_part","_law_high"] ["_law_state","_law_cell","_law_loose"] (au kN):=scM
abbrev kT:O9:=top 60
theorem jw:ay ["_law_state","_law_cell","_law_kind","_law_loose","_law_frame","_law_loops"] ["_law_state","_law_cell","_law_kind","_law_loose"] (au kT):=scM
abbrev nU:O9:=top 61
theorem jt:ay ["_law_state","_law_cells","_law_rank","_law_limit","_law_cell","_law_kind","_law_loose"] ["_law_state","_law_cells","_law_rank","_law_limit"] (au nU):=scM
abbrev lR:O9:=top 62
theorem cj:ay ["_law_script","_law_mode","_law_even","_law_limit","_law_state","_law_names","_law_cell","_law_at","_law_j","_law_rank","_law_name_here","_law_parts","_law_part","_law_many"] ["_law_script","_law_mode","_law_even","_law_limit"] (au lR):=scM
abbrev gG:O9:=top 63
theorem j7:ay ["_law_number_here","_law_row","_law_word"] ["_law_number_here","_law_row"] (au gG):=scM
abbrev fW:O9:=top 64
theorem fH:ay ["_law_frame","_law_number_here","_law_row"] ["_law_frame"] (au fW):=scM
abbrev og:O9:=top 65
theorem cX:ay ["_law_rows","_law_heads_here","_law_deeds","_law_frames","_law_k","_law_word","_law_frame","_law_some"] ["_law_rows"] (au og):=scM
abbrev nP:O9:=top 66
theorem jc:ay ["_law_cell","_law_k","_law_size","_law_some","_law_j","_law_far"] ["_law_cell","_law_k","_law_size"] (au nP):=scM
abbrev lE:O9:=top 67
theorem hE:ay ["_law_rows","_law_cell","_law_more","_law_rank","_law_one","_law_other","_law_k"] ["_law_rows","_law_cell","_law_more","_law_rank"] (au lE):=scM
abbrev iD:O9:=top 68
theorem gU:ay ["_law_rows","_law_letters","_law_rank","_law_ranks","_law_row"] ["_law_rows","_law_letters","_law_rank"] (au iD):=scM
abbrev kL:O9:=top 69
theorem sC:ay ["_law_some","_law_at"] ["_law_some","_law_at"] (au kL):=scM
abbrev lK:O9:=top 70
theorem g9:ay ["_law_ones","_law_others","_law_at","_law_first_here","_law_second"] ["_law_ones","_law_others"] (au lK):=scM
abbrev lV:O9:=top 71
theorem vq:ay ["_law_found","_law_due"] ["_law_found","_law_due"] (au lV):=scM
abbrev rK:O9:=top 72
theorem iJ:ay ["_law_script","_law_rows","_law_program","_law_rank","_law_high","_law_one","_law_other","_law_kept","_law_ones","_law_due"] ["_law_script"] (au rK):=scM
abbrev fY:O9:=UY (top 5) 0
theorem xB:ay ["self","number"] ["self","number"] (au fY):=scM
abbrev i8:O9:=UY (top 6) 0
theorem p8:ay ["self","number","name","rank"] ["self","number","name","rank"] (au i8):=scM
abbrev gL:O9:=UY (top 7) 0
theorem o7:ay ["self","number","name","rank","size"] ["self","number","name","rank","size"] (au gL):=scM
abbrev jR:O9:=UY (top 8) 0
theorem rA:ay ["self","number","name","size"] ["self","number","name","size"] (au jR):=scM
abbrev jO:O9:=UY (top 9) 0
theorem qM:ay ["self","number","name","rank"] ["self","number","name","rank"] (au jO):=scM
abbrev jA:O9:=UY (top 10) 0
theorem rf:ay ["self","number","name","value"] ["self","number","name","value"] (au jA):=scM
abbrev jz:O9:=UY (top 11) 0
theorem rW:ay ["self","number","name","place","value"] ["self","number","name","place","value"] (au jz):=scM
abbrev iF:O9:=UY (top 12) 0
theorem pW:ay ["self","number","name","value"] ["self","number","name","value"] (au iF):=scM
abbrev jV:O9:=UY (top 13) 0
theorem r9:ay ["self","number","name","value","mark"] ["self","number","name","value","mark"] (au jV):=scM
abbrev iE:O9:=UY (top 14) 0
theorem qc:ay ["self","number","name","things"] ["self","number","name","things"] (au iE):=scM
abbrev kE:O9:=UY (top 16) 0
theorem so:ay ["self","number","value","first","other","left","right"] ["self","number","value","first","other","left","right"] (au kE):=scM
abbrev iB:O9:=UY (top 17) 0
theorem qa:ay ["self","number","thing","most","body","left","right"] ["self","number","thing","most","body","left","right"] (au iB):=scM
abbrev iq:O9:=UY (top 18) 0
theorem pT:ay ["self","number","name","parts","body"] ["self","number","name","parts","body"] (au iq):=scM
abbrev iz:O9:=UY (top 19) 0
theorem pZ:ay ["self","heads","deeds","main"] ["self","heads","deeds","main"] (au iz):=scM
abbrev mB:O9:=UY (top 23) 0
theorem uC:ay ["self"] ["self"] (au mB):=scM
abbrev nQ:O9:=UY (top 36) 0
theorem pI:ay ["self","program","cells","deed"] ["self","program","cells"] (au nQ):=scM
abbrev gH:O9:=UY (top 36) 1
theorem pB:ay ["self","thing"] ["self","thing"] (au gH):=scM
abbrev fK:O9:=UY (top 36) 2
theorem fB:ay ["self","value","behind","numbers"] ["self","value"] (au fK):=scM
abbrev fI:O9:=UY (top 36) 3
theorem oo:ay ["self","row"] ["self","row"] (au fI):=scM
abbrev f9:O9:=UY (top 36) 4
theorem jq:ay ["self","count","book"] ["self","count"] (au f9):=scM
abbrev jT:O9:=UY (top 36) 5
theorem eB:ay ["self","rows","ending","row"] ["self","rows"] (au jT):=scM
abbrev kO:O9:=UY (top 36) 6
theorem jx:ay ["self","row","book","told"] ["self","row"] (au kO):=scM
abbrev kA:O9:=UY (top 36) 7
theorem nz:ay ["self","row","numbers"] ["self","row"] (au kA):=scM
abbrev jQ:O9:=UY (top 36) 8
theorem dD:ay ["self","row","deed","numbers","part","number"] ["self","row"] (au jQ):=scM
abbrev mI:O9:=UY (top 36) 9
theorem hU:ay ["self","row","ending"] ["self","row"] (au mI):=scM
abbrev jN:O9:=UY (top 36) 10
theorem dF:ay ["self","row","wanted","done","ending"] ["self","row"] (au jN):=scM
structure Adr where
 Row:OM
 bJ:OM
 aX:OM
 bG:OM
 cu:OM
 cB:OM
 bW:OM
 bp:OM
 bK:OM
 bL:OM
 cO:OM
 bV:OM
 aY:OM
 bg:OM
 Program:OM
 cA:OM
 Run:OM
structure Txt(K:OQ)(mg:Str->Option ON)(A:Adr):Prop where
 rP:bO K mg "ranks_told" kM ["program"]
 sQ:bO K mg "is_number" lX ["thing"]
 zB:bO K mg "is_good" pj ["gift","size"]
 qY:bO K mg "given_cell" kC ["given","gifts"]
 xH:bO K mg "own_cell" oj ["own"]
 vO:bO K mg "cells_of" oh ["program","gifts"]
 reckon:bO K mg "reckon" rJ ["one","word","other"]
 pM:bO K mg "round_place" jY ["place","size"]
 Aa:bO K mg "ends_of" pw ["program","cells"]
 run:bO K mg "run" BV ["program","gifts"]
 seen:bO K mg "seen" ym ["program","book","rank"]
 tK:bO K mg "letter_at" lJ ["letters","at"]
 zk:bO K mg "told_by" oT ["letter"]
 laid:bO K mg "laid" yU ["program","rank","one","other"]
 pH:bO K mg "_law_cell_at" jW ["_law_script","_law_k"]
 zY:bO K mg "_law_mix" oS ["_law_cell","_law_way","_law_many"]
 wg:bO K mg "_law_name" nJ ["_law_cell","_law_k"]
 nZ:bO K mg "_law_number" kB ["_law_cell"]
 sY:bO K mg "_law_heads" lT ["_law_script","_law_state"]
 zW:bO K mg "_law_fit" oV ["_law_state","_law_some","_law_loose","_law_low","_law_high"]
 tZ:bO K mg "_law_thing" mC ["_law_state","_law_cell","_law_way","_law_high"]
 tG:bO K mg "_law_value" lZ ["_law_state","_law_cell","_law_high"]
 zF:bO K mg "_law_add" oZ ["_law_state","_law_row","_law_steps"]
 xc:bO K mg "_law_said" nX ["_law_state","_law_cell","_law_loose"]
 ue:bO K mg "_law_plain" lW ["_law_state","_law_cell","_law_kind","_law_loose"]
 qH:bO K mg "_law_opened" kR ["_law_state","_law_cell","_law_kind","_law_loose"]
 qR:bO K mg "_law_closed" kS ["_law_state"]
 vR:bO K mg "_law_else" nW ["_law_state","_law_frame"]
 rO:bO K mg "_law_called" kN ["_law_state","_law_cell","_law_loose"]
 qK:bO K mg "_law_turned" kT ["_law_state","_law_cell","_law_kind","_law_loose"]
 w6:bO K mg "_law_body" nU ["_law_state","_law_cells","_law_rank","_law_limit"]
 tq:bO K mg "_law_drawn" lR ["_law_script","_law_mode","_law_even","_law_limit"]
 nA:bO K mg "_law_plain_row" gG ["_law_number_here","_law_row"]
 lU:bO K mg "_law_nested_row" fW ["_law_frame"]
 wN:bO K mg "_law_tree" og ["_law_rows"]
 xA:bO K mg "_law_gift" nP ["_law_cell","_law_k","_law_size"]
 sU:bO K mg "_law_gifts" lE ["_law_rows","_law_cell","_law_more","_law_rank"]
 oP:bO K mg "_law_heard_by" iD ["_law_rows","_law_letters","_law_rank"]
 qZ:bO K mg "_law_letter" kL ["_law_some","_law_at"]
 tH:bO K mg "_law_first" lK ["_law_ones","_law_others"]
 ud:bO K mg "_law_alike" lV ["_law_found","_law_due"]
 wC:mg "all"=UU
 qx:mg "bool"=UU
 u5:mg "dict"=UU
 mH:mg "int"=UU
 aJ:mg "isinstance"=UU
 cD:mg "len"=UU
 dY:mg "list"=UU
 nr:mg "max"=UU
 zj:mg "min"=UU
 fE:mg "range"=UU
 xy:mg "str"=UU
 zm:mg "sum"=UU
 ql:mg "tuple"=UU
 vY:mg "zip"=UU
 nH:∃t,mg "MOST_NUMBER"=UT (.int 999999999999 t)
 qp:∃t,mg "ROUND"=UT (.int 1000000000000 t)
 kf:eW K mg A.Row "Row" [A.Row]
 rT:MFn K A.Row "__init__" "Row.__init__" fY ["self","number"]
 bP:eW K mg A.bJ "HandRow" [A.bJ,A.Row]
 mK:MFn K A.bJ "__init__" "HandRow.__init__" i8 ["self","number","name","rank"]
 iM:aH K A.bJ "name"
 iX:aH K A.bJ "rank"
 kg:aH K A.bJ "number"
 aW:eW K mg A.aX "GivenRow" [A.aX,A.Row]
 kZ:MFn K A.aX "__init__" "GivenRow.__init__" gL ["self","number","name","rank","size"]
 dS:aH K A.aX "name"
 lg:aH K A.aX "rank"
 cW:aH K A.aX "size"
 jg:aH K A.aX "number"
 bh:eW K mg A.bG "OwnRow" [A.bG,A.Row]
 nG:MFn K A.bG "__init__" "OwnRow.__init__" jR ["self","number","name","size"]
 dX:aH K A.bG "name"
 gw:aH K A.bG "size"
 k7:aH K A.bG "number"
 cm:eW K mg A.cu "LetRow" [A.cu,A.Row]
 nF:MFn K A.cu "__init__" "LetRow.__init__" jO ["self","number","name","rank"]
 jK:aH K A.cu "name"
 jJ:aH K A.cu "rank"
 kX:aH K A.cu "number"
 bM:eW K mg A.cB "SetRow" [A.cB,A.Row]
 ni:MFn K A.cB "__init__" "SetRow.__init__" jA ["self","number","name","value"]
 jC:aH K A.cB "name"
 iS:aH K A.cB "value"
 gT:aH K A.cB "number"
 bE:eW K mg A.bW "PutRow" [A.bW,A.Row]
 nD:MFn K A.bW "__init__" "PutRow.__init__" jz ["self","number","name","place","value"]
 jI:aH K A.bW "name"
 iA:aH K A.bW "place"
 iK:aH K A.bW "value"
 gX:aH K A.bW "number"
 aQ:eW K mg A.bp "SendRow" [A.bp,A.Row]
 mF:MFn K A.bp "__init__" "SendRow.__init__" iF ["self","number","name","value"]
 iT:aH K A.bp "name"
 gM:aH K A.bp "value"
 eR:aH K A.bp "number"
 aU:eW K mg A.bK "SayRow" [A.bK,A.Row]
 nq:MFn K A.bK "__init__" "SayRow.__init__" jV ["self","number","name","value","mark"]
 jU:aH K A.bK "name"
 iU:aH K A.bK "value"
 jM:aH K A.bK "mark"
 eY:aH K A.bK "number"
 aZ:eW K mg A.bL "CallRow" [A.bL,A.Row]
 lQ:MFn K A.bL "__init__" "CallRow.__init__" iE ["self","number","name","things"]
 iP:aH K A.bL "name"
 fV:aH K A.bL "things"
 fQ:aH K A.bL "number"
 aV:eW K mg A.cO "LastRow" [A.cO,A.Row]
 lM:MFn K A.cO "__init__" "Row.__init__" fY ["self","number"]
 fT:aH K A.cO "number"
 bA:eW K mg A.bV "IfRow" [A.bV,A.Row]
 oH:MFn K A.bV "__init__" "IfRow.__init__" kE ["self","number","value","first","other","left","right"]
 jE:aH K A.bV "value"
 j5:aH K A.bV "first"
 jD:aH K A.bV "other"
 kW:aH K A.bV "left"
 jZ:aH K A.bV "right"
 iW:aH K A.bV "number"
 aL:eW K mg A.aY "LoopRow" [A.aY,A.Row]
 l9:MFn K A.aY "__init__" "LoopRow.__init__" iB ["self","number","thing","most","body","left","right"]
 gZ:aH K A.aY "thing"
 fF:aH K A.aY "most"
 i7:aH K A.aY "body"
 iR:aH K A.aY "left"
 gK:aH K A.aY "right"
 gq:aH K A.aY "number"
 dW:eW K mg A.bg "DeedRow" [A.bg,A.Row]
 mD:MFn K A.bg "__init__" "DeedRow.__init__" iq ["self","number","name","parts","body"]
 iI:aH K A.bg "name"
 eX:aH K A.bg "parts"
 iY:aH K A.bg "body"
 ke:aH K A.bg "number"
 dC:eW K mg A.Program "Program" [A.Program]
 lH:MFn K A.Program "__init__" "Program.__init__" iz ["self","heads","deeds","main"]
 dU:aH K A.Program "heads"
 eZ:aH K A.Program "deeds"
 iO:aH K A.Program "main"
 dZ:eW K mg A.cA "Book" [A.cA]
 pN:MFn K A.cA "__init__" "Book.__init__" mB ["self"]
 dA:aH K A.cA "letters"
 lF:aH K A.cA "said"
 kH:aH K A.cA "trace"
 eP:aH K A.cA "steps"
 mL:aH K A.cA "ends"
 bY:eW K mg A.Run "Run" [A.Run]
 qI:MFn K A.Run "__init__" "Run.__init__" nQ ["self","program","cells"]
 lA:MFn K A.Run "number_at" "Run.number_at" gH ["self","thing"]
 j9:MFn K A.Run "number_for" "Run.number_for" fK ["self","value"]
 jm:MFn K A.Run "number_told" "Run.number_told" fI ["self","row"]
 ko:MFn K A.Run "pass_steps" "Run.pass_steps" f9 ["self","count"]
 jG:MFn K A.Run "do_rows" "Run.do_rows" jT ["self","rows"]
 ox:MFn K A.Run "do_row" "Run.do_row" kO ["self","row"]
 ou:MFn K A.Run "do_put" "Run.do_put" kA ["self","row"]
 jF:MFn K A.Run "do_call" "Run.do_call" jQ ["self","row"]
 lI:MFn K A.Run "do_if" "Run.do_if" mI ["self","row"]
 jv:MFn K A.Run "do_loop" "Run.do_loop" jN ["self","row"]
 je:aH K A.Run "deeds"
 cY:aH K A.Run "cells"
 iH:aH K A.Run "book"
 ck:OfC K A.Row "__init__"
 nd:[A.Row,A.bJ,A.aX,A.bG,A.cu,A.cB,A.bW,A.bp,A.bK,A.bL,A.cO,A.bV,A.aY,A.bg,A.Program,A.cA,A.Run].Nodup
section
variable{P:Program}{w:OX}{K:OQ}{mg:Str->Option ON}{base:O8}{A:Adr}
theorem alc{H:Hp}{p:OM}(h:H p=UU)(o:HO):aq H (upd H p o)/\upd H p o p=UT o:=⟨aq.upd h o,ak⟩
theorem Ft:Pu K (.type "int") (.type "int")=UT true:=by kernel_rfl!
theorem BM:Pu K (.type "int") (.type "bool")=UT false:=by kernel_rfl!
theorem G7:Pu K (.type "tuple") (.type "tuple")=UT true:=by kernel_rfl!
theorem G6:Pu K (.type "list") (.type "list")=UT true:=by kernel_rfl!
theorem sz{n:Nat}(h:n<=1000):n<=sizeLine:=Ni (az h)
theorem cC(x:Int){m:Int}(hm:0<m):0<=x%m/\x%m<m:=⟨Int.emod_nonneg x (show m≠0 by omega),Int.emod_lt_of_pos x hm⟩
theorem Ex{α:Type}{xs:List α}{k:Int}(h0:0<=k)(h1:k<(xs.length:Int)):∃x,xs[k.toNat]?=UT x/\atI xs k=UT x:=by
 have hk:k.toNat<xs.length:=()
 have e:=d6 (xs:=xs) (j:=k.toNat) (Kw hk);rw[show((k.toNat:Nat):Int)=k by omega]at e;exact⟨_,Kw hk,e⟩
theorem lO{α:Type}(f:α->V){xs:List α}{k:Int}(h0:0<=k)(h1:k<(xs.length:Int)):∃x,x∈xs/\xs[k.toNat]?=UT x/\atI (xs.map f) k=UT (f x):=by
 obtain⟨x,e1,e2⟩:=Ex (xs:=xs.map f) h0 (by rw[Ky];exact h1);rw[KP]at e1;cases h:xs[k.toNat]? with
 |none=>rw[h]at e1;cases e1
 |some y=>
  rw[h]at e1;have:f y=x:=OS e1;exact⟨y,KG h,rfl,by rw[this];exact e2⟩
theorem qb(i j:Int):decide (V.int i=V.int j)=decide (i=j):=decide_eq_decide.mpr ⟨λh=>V.int.inj h,λh=>by rw[h]⟩
theorem HU(i j:Str):decide (V.str i=V.str j)=decide (i=j):=decide_eq_decide.mpr ⟨λh=>V.str.inj h,λh=>by rw[h]⟩
theorem xE{α:Type}(xs:List α):xs.filter (λ_=>true)=xs:=List.filter_eq_self.mpr λ_ _=>rfl
theorem aq.out{H0 H:Hp}(s:aq H0 H){x:OM}(h:H0 x=UU)(u:HO):aq H0 (upd H x u):=λa o q=>by
 rw[aw (λz=>by rw[z,h]at q;cases q)];exact s a o q
theorem ag{H:Hp}{x a:OM}{u o:HO}(n:a≠x)(e:H a=UT o):upd H x u a=UT o:=by rw[aw n];exact e
structure IA(H0:Hp)(x C dx:OM)(fs:List (Str×V))(H:Hp):Prop where
 s:aq H0 H
 i:H x=UT (.ins C dx fs)
theorem IA.one{H:Hp}{x C dx:OM}(hx:H x=UU)(hd:H dx=UU):IA H x C dx [] (upd (upd H dx (.own x)) x (.ins C dx [])):=⟨aq.out (aq.upd hd _) hx _,ak⟩
theorem IA.put{H0 H:Hp}{x C dx:OM}{fs:List (Str×V)}(a:IA H0 x C dx fs H)(hx:H0 x=UU)(gs:List (Str×V)):IA H0 x C dx gs (upd H x (.ins C dx gs)):=⟨aq.out a.s hx _,ak⟩
theorem IA.ne{H0 H:Hp}{x C dx p:OM}{fs:List (Str×V)}(a:IA H0 x C dx fs H)(hp:H p=UU):p≠x:=λz=>by rw[z,a.i]at hp;cases hp
theorem IA.new{H0 H:Hp}{x C dx p:OM}{fs:List (Str×V)}(a:IA H0 x C dx fs H)(hp:H p=UU)(o:HO):IA H0 x C dx fs (upd H p o):=⟨a.s.trans (aq.upd hp _),ag (a.ne hp).symm a.i⟩
theorem IA.nw{H0 H:Hp}{x C dx:OM}{fs:List (Str×V)}(_:IA H0 x C dx fs H)(p:OM)(o:HO):upd H p o p=UT o:=ak
inductive js(K:OQ)(A:Adr)(vs:List V)(H:Hp)(Q:VK)(Z:XK):Prop
 |mk(x C dx:OM)(fs:List (Str×V))(n:V):vs=[.ref x,n]->H x=UT (.ins C dx fs)->Cls K C->aH K C "number"->fs.length<1000->Q .non (upd H x (.ins C dx (cJ "number" n fs)))->js K A vs H Q Z
theorem nE{C:OM}(F:MFn K C "__init__" "Row.__init__" fY ["self","number"]):dz P w K mg base 2 C "__init__" ["self","number"] (js K A):=by
 refine F.has (k:=1) xB (λvs H Q E h=>?_) (λf cdv A' outer s H vs Q E hr hu h=>?_)
 ·obtain⟨x,C,dx,fs,n,rfl,_⟩:=h;rfl
 obtain⟨x,C,dx,fs,n,rfl,hx,c,na,hl,q⟩:=h;exact⟨_,(aj (ba (fv 0) (fv 1) rfl)),⟨x,C,dx,fs,rfl,hx,c,na,hl,q⟩⟩
theorem cH(T:Txt K mg A):dz P w K mg base 2 A.Row "__init__" ["self","number"] (js K A):=nE T.rT
inductive gP(K:OQ)(A:Adr)(vs:List V)(G:Hp)(R:VK)(Z:XK):Prop
 |mk(x dx:OM)(v0 v1 v2:V)(H:Hp):vs=[.ref x,v0,v1,v2]->G=upd (upd H dx (.own x)) x (.ins A.bJ dx [])->H x=UU->H dx=UU->(∀(H':Hp),aq H H'->H' x=UT (.ins A.bJ dx [("number",v0),("name",v1),("rank",v2)])->R .non H')->gP K A vs G R Z
theorem qS(T:Txt K mg A):dz P w K mg base 3 A.bJ "__init__" ["self","number","name","rank"] (gP K A):=by
 have Nx:=@cH P w _ _ base _ T;refine T.mK.has (k:=2) p8 (λvs G R E h=>?_) (λf cdv A' outer s G vs R E hr hu h=>?_)
 ·obtain⟨x,dx,v0,v1,v2,H,rfl,_⟩:=h;rfl
 obtain⟨x,dx,v0,v1,v2,H,rfl,rfl,hx,hd,q⟩:=h;refine⟨_,(ae (aK (cU T.kf T.ck Nx hr (fv 0^fv 1^af)))
 (ae (ba (fv 0) (fv 2) rfl)
 (aj (ba (fv 0) (fv 3) rfl)))),?_⟩
 have a:=IA.one (C:=A.bJ) hx hd;refine⟨x,A.bJ,dx,[],v0,rfl,a.i,T.bP.cl,T.kg,∅,?_⟩;replace a:=a.put hx [("number",v0)];refine⟨x,A.bJ,dx,_,rfl,a.i,T.bP.cl,T.iM,by simp,?_⟩;replace a:=a.put hx [("number",v0),("name",v1)];refine⟨x,A.bJ,dx,_,rfl,a.i,T.bP.cl,T.iX,by simp,?_⟩;replace a:=a.put hx [("number",v0),("name",v1),("rank",v2)];exact q _ a.s a.i
theorem xX{H:Hp}{x dx:OM}{R:VK}{v0 v1 v2:V}(hx:H x=UU)(hd:H dx=UU)(q:∀(H':Hp),aq H H'->H' x=UT (.ins A.bJ dx [("number",v0),("name",v1),("rank",v2)])->R .non H'):gP K A (.ref x::([v0,v1,v2]++[])) (upd (upd H dx (.own x)) x (.ins A.bJ dx [])) R E0:=⟨x,dx,_,_,_,H,rfl,rfl,hx,hd,q⟩
inductive fP(K:OQ)(A:Adr)(vs:List V)(G:Hp)(R:VK)(Z:XK):Prop
 |mk(x dx:OM)(v0 v1 v2 v3:V)(H:Hp):vs=[.ref x,v0,v1,v2,v3]->G=upd (upd H dx (.own x)) x (.ins A.aX dx [])->H x=UU->H dx=UU->(∀(H':Hp),aq H H'->H' x=UT (.ins A.aX dx [("number",v0),("name",v1),("rank",v2),("size",v3)])->R .non H')->fP K A vs G R Z
theorem pV(T:Txt K mg A):dz P w K mg base 3 A.aX "__init__" ["self","number","name","rank","size"] (fP K A):=by
 have Nx:=@cH P w _ _ base _ T;refine T.kZ.has (k:=2) o7 (λvs G R E h=>?_) (λf cdv A' outer s G vs R E hr hu h=>?_)
 ·obtain⟨x,dx,v0,v1,v2,v3,H,rfl,_⟩:=h;rfl
 obtain⟨x,dx,v0,v1,v2,v3,H,rfl,rfl,hx,hd,q⟩:=h;refine⟨_,(ae (aK (cU T.kf T.ck Nx hr (fv 0^fv 1^af)))
 (ae (ba (fv 0) (fv 2) rfl)
 (ae (ba (fv 0) (fv 3) rfl)
 (aj (ba (fv 0) (fv 4) rfl))))),?_⟩
 have a:=IA.one (C:=A.aX) hx hd;refine⟨x,A.aX,dx,[],v0,rfl,a.i,T.aW.cl,T.jg,∅,?_⟩;replace a:=a.put hx [("number",v0)];refine⟨x,A.aX,dx,_,rfl,a.i,T.aW.cl,T.dS,by simp,?_⟩;replace a:=a.put hx [("number",v0),("name",v1)];refine⟨x,A.aX,dx,_,rfl,a.i,T.aW.cl,T.lg,by simp,?_⟩;replace a:=a.put hx [("number",v0),("name",v1),("rank",v2)];refine⟨x,A.aX,dx,_,rfl,a.i,T.aW.cl,T.cW,by simp,?_⟩;replace a:=a.put hx [("number",v0),("name",v1),("rank",v2),("size",v3)];exact q _ a.s a.i
theorem vL{H:Hp}{x dx:OM}{R:VK}{v0 v1 v2 v3:V}(hx:H x=UU)(hd:H dx=UU)(q:∀(H':Hp),aq H H'->H' x=UT (.ins A.aX dx [("number",v0),("name",v1),("rank",v2),("size",v3)])->R .non H'):fP K A (.ref x::([v0,v1,v2,v3]++[])) (upd (upd H dx (.own x)) x (.ins A.aX dx [])) R E0:=⟨x,dx,_,_,_,_,H,rfl,rfl,hx,hd,q⟩
inductive iN(K:OQ)(A:Adr)(vs:List V)(G:Hp)(R:VK)(Z:XK):Prop
 |mk(x dx:OM)(v0 v1 v2:V)(H:Hp):vs=[.ref x,v0,v1,v2]->G=upd (upd H dx (.own x)) x (.ins A.bG dx [])->H x=UU->H dx=UU->(∀(H':Hp),aq H H'->H' x=UT (.ins A.bG dx [("number",v0),("name",v1),("size",v2)])->R .non H')->iN K A vs G R Z
theorem sL(T:Txt K mg A):dz P w K mg base 3 A.bG "__init__" ["self","number","name","size"] (iN K A):=by
 have Nx:=@cH P w _ _ base _ T;refine T.nG.has (k:=2) rA (λvs G R E h=>?_) (λf cdv A' outer s G vs R E hr hu h=>?_)
 ·obtain⟨x,dx,v0,v1,v2,H,rfl,_⟩:=h;rfl
 obtain⟨x,dx,v0,v1,v2,H,rfl,rfl,hx,hd,q⟩:=h;refine⟨_,(ae (aK (cU T.kf T.ck Nx hr (fv 0^fv 1^af)))
 (ae (ba (fv 0) (fv 2) rfl)
 (aj (ba (fv 0) (fv 3) rfl)))),?_⟩
 have a:=IA.one (C:=A.bG) hx hd;refine⟨x,A.bG,dx,[],v0,rfl,a.i,T.bh.cl,T.k7,∅,?_⟩;replace a:=a.put hx [("number",v0)];refine⟨x,A.bG,dx,_,rfl,a.i,T.bh.cl,T.dX,by simp,?_⟩;replace a:=a.put hx [("number",v0),("name",v1)];refine⟨x,A.bG,dx,_,rfl,a.i,T.bh.cl,T.gw,by simp,?_⟩;replace a:=a.put hx [("number",v0),("name",v1),("size",v2)];exact q _ a.s a.i
theorem A0{H:Hp}{x dx:OM}{R:VK}{v0 v1 v2:V}(hx:H x=UU)(hd:H dx=UU)(q:∀(H':Hp),aq H H'->H' x=UT (.ins A.bG dx [("number",v0),("name",v1),("size",v2)])->R .non H'):iN K A (.ref x::([v0,v1,v2]++[])) (upd (upd H dx (.own x)) x (.ins A.bG dx [])) R E0:=⟨x,dx,_,_,_,H,rfl,rfl,hx,hd,q⟩
inductive i9(K:OQ)(A:Adr)(vs:List V)(G:Hp)(R:VK)(Z:XK):Prop
 |mk(x dx:OM)(v0 v1 v2:V)(H:Hp):vs=[.ref x,v0,v1,v2]->G=upd (upd H dx (.own x)) x (.ins A.cu dx [])->H x=UU->H dx=UU->(∀(H':Hp),aq H H'->H' x=UT (.ins A.cu dx [("number",v0),("name",v1),("rank",v2)])->R .non H')->i9 K A vs G R Z
theorem sr(T:Txt K mg A):dz P w K mg base 3 A.cu "__init__" ["self","number","name","rank"] (i9 K A):=by
 have Nx:=@cH P w _ _ base _ T;refine T.nF.has (k:=2) qM (λvs G R E h=>?_) (λf cdv A' outer s G vs R E hr hu h=>?_)
 ·obtain⟨x,dx,v0,v1,v2,H,rfl,_⟩:=h;rfl
 obtain⟨x,dx,v0,v1,v2,H,rfl,rfl,hx,hd,q⟩:=h;refine⟨_,(ae (aK (cU T.kf T.ck Nx hr (fv 0^fv 1^af)))
 (ae (ba (fv 0) (fv 2) rfl)
 (aj (ba (fv 0) (fv 3) rfl)))),?_⟩
 have a:=IA.one (C:=A.cu) hx hd;refine⟨x,A.cu,dx,[],v0,rfl,a.i,T.cm.cl,T.kX,∅,?_⟩;replace a:=a.put hx [("number",v0)];refine⟨x,A.cu,dx,_,rfl,a.i,T.cm.cl,T.jK,by simp,?_⟩;replace a:=a.put hx [("number",v0),("name",v1)];refine⟨x,A.cu,dx,_,rfl,a.i,T.cm.cl,T.jJ,by simp,?_⟩;replace a:=a.put hx [("number",v0),("name",v1),("rank",v2)];exact q _ a.s a.i
theorem Ay{H:Hp}{x dx:OM}{R:VK}{v0 v1 v2:V}(hx:H x=UU)(hd:H dx=UU)(q:∀(H':Hp),aq H H'->H' x=UT (.ins A.cu dx [("number",v0),("name",v1),("rank",v2)])->R .non H'):i9 K A (.ref x::([v0,v1,v2]++[])) (upd (upd H dx (.own x)) x (.ins A.cu dx [])) R E0:=⟨x,dx,_,_,_,H,rfl,rfl,hx,hd,q⟩
inductive ir(K:OQ)(A:Adr)(vs:List V)(G:Hp)(R:VK)(Z:XK):Prop
 |mk(x dx:OM)(v0 v1 v2:V)(H:Hp):vs=[.ref x,v0,v1,v2]->G=upd (upd H dx (.own x)) x (.ins A.cB dx [])->H x=UU->H dx=UU->(∀(H':Hp),aq H H'->H' x=UT (.ins A.cB dx [("number",v0),("name",v1),("value",v2)])->R .non H')->ir K A vs G R Z
theorem sv(T:Txt K mg A):dz P w K mg base 3 A.cB "__init__" ["self","number","name","value"] (ir K A):=by
 have Nx:=@cH P w _ _ base _ T;refine T.ni.has (k:=2) rf (λvs G R E h=>?_) (λf cdv A' outer s G vs R E hr hu h=>?_)
 ·obtain⟨x,dx,v0,v1,v2,H,rfl,_⟩:=h;rfl
 obtain⟨x,dx,v0,v1,v2,H,rfl,rfl,hx,hd,q⟩:=h;refine⟨_,(ae (aK (cU T.kf T.ck Nx hr (fv 0^fv 1^af)))
 (ae (ba (fv 0) (fv 2) rfl)
 (aj (ba (fv 0) (fv 3) rfl)))),?_⟩
 have a:=IA.one (C:=A.cB) hx hd;refine⟨x,A.cB,dx,[],v0,rfl,a.i,T.bM.cl,T.gT,∅,?_⟩;replace a:=a.put hx [("number",v0)];refine⟨x,A.cB,dx,_,rfl,a.i,T.bM.cl,T.jC,by simp,?_⟩;replace a:=a.put hx [("number",v0),("name",v1)];refine⟨x,A.cB,dx,_,rfl,a.i,T.bM.cl,T.iS,by simp,?_⟩;replace a:=a.put hx [("number",v0),("name",v1),("value",v2)];exact q _ a.s a.i
theorem Aw{H:Hp}{x dx:OM}{R:VK}{v0 v1 v2:V}(hx:H x=UU)(hd:H dx=UU)(q:∀(H':Hp),aq H H'->H' x=UT (.ins A.cB dx [("number",v0),("name",v1),("value",v2)])->R .non H'):ir K A (.ref x::([v0,v1,v2]++[])) (upd (upd H dx (.own x)) x (.ins A.cB dx [])) R E0:=⟨x,dx,_,_,_,H,rfl,rfl,hx,hd,q⟩
inductive iV(K:OQ)(A:Adr)(vs:List V)(G:Hp)(R:VK)(Z:XK):Prop
 |mk(x dx:OM)(v0 v1 v2 v3:V)(H:Hp):vs=[.ref x,v0,v1,v2,v3]->G=upd (upd H dx (.own x)) x (.ins A.bW dx [])->H x=UU->H dx=UU->(∀(H':Hp),aq H H'->H' x=UT (.ins A.bW dx [("number",v0),("name",v1),("place",v2),("value",v3)])->R .non H')->iV K A vs G R Z
theorem sA(T:Txt K mg A):dz P w K mg base 3 A.bW "__init__" ["self","number","name","place","value"] (iV K A):=by
 have Nx:=@cH P w _ _ base _ T;refine T.nD.has (k:=2) rW (λvs G R E h=>?_) (λf cdv A' outer s G vs R E hr hu h=>?_)
 ·obtain⟨x,dx,v0,v1,v2,v3,H,rfl,_⟩:=h;rfl
 obtain⟨x,dx,v0,v1,v2,v3,H,rfl,rfl,hx,hd,q⟩:=h;refine⟨_,(ae (aK (cU T.kf T.ck Nx hr (fv 0^fv 1^af)))
 (ae (ba (fv 0) (fv 2) rfl)
 (ae (ba (fv 0) (fv 3) rfl)
 (aj (ba (fv 0) (fv 4) rfl))))),?_⟩
 have a:=IA.one (C:=A.bW) hx hd;refine⟨x,A.bW,dx,[],v0,rfl,a.i,T.bE.cl,T.gX,∅,?_⟩;replace a:=a.put hx [("number",v0)];refine⟨x,A.bW,dx,_,rfl,a.i,T.bE.cl,T.jI,by simp,?_⟩;replace a:=a.put hx [("number",v0),("name",v1)];refine⟨x,A.bW,dx,_,rfl,a.i,T.bE.cl,T.iA,by simp,?_⟩;replace a:=a.put hx [("number",v0),("name",v1),("place",v2)];refine⟨x,A.bW,dx,_,rfl,a.i,T.bE.cl,T.iK,by simp,?_⟩;replace a:=a.put hx [("number",v0),("name",v1),("place",v2),("value",v3)];exact q _ a.s a.i
theorem AN{H:Hp}{x dx:OM}{R:VK}{v0 v1 v2 v3:V}(hx:H x=UU)(hd:H dx=UU)(q:∀(H':Hp),aq H H'->H' x=UT (.ins A.bW dx [("number",v0),("name",v1),("place",v2),("value",v3)])->R .non H'):iV K A (.ref x::([v0,v1,v2,v3]++[])) (upd (upd H dx (.own x)) x (.ins A.bW dx [])) R E0:=⟨x,dx,_,_,_,_,H,rfl,rfl,hx,hd,q⟩
inductive gW(K:OQ)(A:Adr)(vs:List V)(G:Hp)(R:VK)(Z:XK):Prop
 |mk(x dx:OM)(v0 v1 v2:V)(H:Hp):vs=[.ref x,v0,v1,v2]->G=upd (upd H dx (.own x)) x (.ins A.bp dx [])->H x=UU->H dx=UU->(∀(H':Hp),aq H H'->H' x=UT (.ins A.bp dx [("number",v0),("name",v1),("value",v2)])->R .non H')->gW K A vs G R Z
theorem qD(T:Txt K mg A):dz P w K mg base 3 A.bp "__init__" ["self","number","name","value"] (gW K A):=by
 have Nx:=@cH P w _ _ base _ T;refine T.mF.has (k:=2) pW (λvs G R E h=>?_) (λf cdv A' outer s G vs R E hr hu h=>?_)
 ·obtain⟨x,dx,v0,v1,v2,H,rfl,_⟩:=h;rfl
 obtain⟨x,dx,v0,v1,v2,H,rfl,rfl,hx,hd,q⟩:=h;refine⟨_,(ae (aK (cU T.kf T.ck Nx hr (fv 0^fv 1^af)))
 (ae (ba (fv 0) (fv 2) rfl)
 (aj (ba (fv 0) (fv 3) rfl)))),?_⟩
 have a:=IA.one (C:=A.bp) hx hd;refine⟨x,A.bp,dx,[],v0,rfl,a.i,T.aQ.cl,T.eR,∅,?_⟩;replace a:=a.put hx [("number",v0)];refine⟨x,A.bp,dx,_,rfl,a.i,T.aQ.cl,T.iT,by simp,?_⟩;replace a:=a.put hx [("number",v0),("name",v1)];refine⟨x,A.bp,dx,_,rfl,a.i,T.aQ.cl,T.gM,by simp,?_⟩;replace a:=a.put hx [("number",v0),("name",v1),("value",v2)];exact q _ a.s a.i
theorem yQ{H:Hp}{x dx:OM}{R:VK}{v0 v1 v2:V}(hx:H x=UU)(hd:H dx=UU)(q:∀(H':Hp),aq H H'->H' x=UT (.ins A.bp dx [("number",v0),("name",v1),("value",v2)])->R .non H'):gW K A (.ref x::([v0,v1,v2]++[])) (upd (upd H dx (.own x)) x (.ins A.bp dx [])) R E0:=⟨x,dx,_,_,_,H,rfl,rfl,hx,hd,q⟩
inductive iZ(K:OQ)(A:Adr)(vs:List V)(G:Hp)(R:VK)(Z:XK):Prop
 |mk(x dx:OM)(v0 v1 v2 v3:V)(H:Hp):vs=[.ref x,v0,v1,v2,v3]->G=upd (upd H dx (.own x)) x (.ins A.bK dx [])->H x=UU->H dx=UU->(∀(H':Hp),aq H H'->H' x=UT (.ins A.bK dx [("number",v0),("name",v1),("value",v2),("mark",v3)])->R .non H')->iZ K A vs G R Z
theorem sI(T:Txt K mg A):dz P w K mg base 3 A.bK "__init__" ["self","number","name","value","mark"] (iZ K A):=by
 have Nx:=@cH P w _ _ base _ T;refine T.nq.has (k:=2) r9 (λvs G R E h=>?_) (λf cdv A' outer s G vs R E hr hu h=>?_)
 ·obtain⟨x,dx,v0,v1,v2,v3,H,rfl,_⟩:=h;rfl
 obtain⟨x,dx,v0,v1,v2,v3,H,rfl,rfl,hx,hd,q⟩:=h;refine⟨_,(ae (aK (cU T.kf T.ck Nx hr (fv 0^fv 1^af)))
 (ae (ba (fv 0) (fv 2) rfl)
 (ae (ba (fv 0) (fv 3) rfl)
 (aj (ba (fv 0) (fv 4) rfl))))),?_⟩
 have a:=IA.one (C:=A.bK) hx hd;refine⟨x,A.bK,dx,[],v0,rfl,a.i,T.aU.cl,T.eY,∅,?_⟩;replace a:=a.put hx [("number",v0)];refine⟨x,A.bK,dx,_,rfl,a.i,T.aU.cl,T.jU,by simp,?_⟩;replace a:=a.put hx [("number",v0),("name",v1)];refine⟨x,A.bK,dx,_,rfl,a.i,T.aU.cl,T.iU,by simp,?_⟩;replace a:=a.put hx [("number",v0),("name",v1),("value",v2)];refine⟨x,A.bK,dx,_,rfl,a.i,T.aU.cl,T.jM,by simp,?_⟩;replace a:=a.put hx [("number",v0),("name",v1),("value",v2),("mark",v3)];exact q _ a.s a.i
theorem Bf{H:Hp}{x dx:OM}{R:VK}{v0 v1 v2 v3:V}(hx:H x=UU)(hd:H dx=UU)(q:∀(H':Hp),aq H H'->H' x=UT (.ins A.bK dx [("number",v0),("name",v1),("value",v2),("mark",v3)])->R .non H'):iZ K A (.ref x::([v0,v1,v2,v3]++[])) (upd (upd H dx (.own x)) x (.ins A.bK dx [])) R E0:=⟨x,dx,_,_,_,_,H,rfl,rfl,hx,hd,q⟩
inductive gI(K:OQ)(A:Adr)(vs:List V)(G:Hp)(R:VK)(Z:XK):Prop
 |mk(x dx:OM)(v0 v1:V)(t0:OM)(l0:List V)(H:Hp):vs=[.ref x,v0,v1,.ref t0]->G=upd (upd H dx (.own x)) x (.ins A.bL dx [])->H x=UU->H dx=UU->SqL K H t0 l0->(∀(n0:OM)(H':Hp),H n0=UU->aq H H'->H' n0=UT (.lst l0)->H' x=UT (.ins A.bL dx [("number",v0),("name",v1),("things",.ref n0)])->R .non H')->gI K A vs G R Z
theorem rN(T:Txt K mg A):dz P w K mg base 3 A.bL "__init__" ["self","number","name","things"] (gI K A):=by
 have Nx:=@cH P w _ _ base _ T;refine T.lQ.has (k:=2) qc (λvs G R E h=>?_) (λf cdv A' outer s G vs R E hr hu h=>?_)
 ·obtain⟨x,dx,v0,v1,t0,l0,H,rfl,_⟩:=h;rfl
 obtain⟨x,dx,v0,v1,t0,l0,H,rfl,rfl,hx,hd,s0,q⟩:=h;refine⟨_,(ae (aK (cU T.kf T.ck Nx hr (fv 0^fv 1^af)))
 (ae (ba (fv 0) (fv 2) rfl)
 (aj (ba (fv 0) (pcT jL T.dY (fv 3^af)) rfl)))),?_⟩
 have a:=IA.one (C:=A.bL) hx hd;refine⟨x,A.bL,dx,[],v0,rfl,a.i,T.aZ.cl,T.fQ,∅,?_⟩;replace a:=a.put hx [("number",v0)];refine⟨x,A.bL,dx,_,rfl,a.i,T.aZ.cl,T.iP,by simp,?_⟩;replace a:=a.put hx [("number",v0),("name",v1)];refine⟨_,l0,rfl,.inl (a.s.seq s0),λn0 f0=>?_⟩;have e0:=a.ne f0;have h0:=aq.free a.s f0;have k0:=a.nw n0 (HO.lst l0);replace a:=a.new f0 (HO.lst l0);refine⟨x,A.bL,dx,_,rfl,a.i,T.aZ.cl,T.fV,by simp,?_⟩;replace a:=a.put hx [("number",v0),("name",v1),("things",.ref n0)];replace k0:=ag (u:=.ins A.bL dx [("number",v0),("name",v1),("things",.ref n0)]) e0 k0;exact q n0 _ h0 a.s k0 a.i
theorem ya{H:Hp}{x dx:OM}{R:VK}{v0 v1:V}{t0:OM}{l0:List V}(s0:SqL K H t0 l0)(hx:H x=UU)(hd:H dx=UU)(q:∀(n0:OM)(H':Hp),H n0=UU->aq H H'->H' n0=UT (.lst l0)->H' x=UT (.ins A.bL dx [("number",v0),("name",v1),("things",.ref n0)])->R .non H'):gI K A (.ref x::([v0,v1,.ref t0]++[])) (upd (upd H dx (.own x)) x (.ins A.bL dx [])) R E0:=⟨x,dx,_,_,_,_,H,rfl,rfl,hx,hd,s0,q⟩
inductive ju(K:OQ)(A:Adr)(vs:List V)(G:Hp)(R:VK)(Z:XK):Prop
 |mk(x dx:OM)(v0 v1 v2 v3:V)(t0 t1:OM)(l0 l1:List V)(H:Hp):vs=[.ref x,v0,v1,.ref t0,.ref t1,v2,v3]->G=upd (upd H dx (.own x)) x (.ins A.bV dx [])->H x=UU->H dx=UU->SqL K H t0 l0->SqL K H t1 l1->(∀(n0 n1:OM)(H':Hp),H n0=UU->H n1=UU->aq H H'->H' n0=UT (.lst l0)->H' n1=UT (.lst l1)->H' x=UT (.ins A.bV dx [("number",v0),("value",v1),("first",.ref n0),("other",.ref n1),("left",v2),("right",v3)])->R .non H')->ju K A vs G R Z
theorem uQ(T:Txt K mg A):dz P w K mg base 3 A.bV "__init__" ["self","number","value","first","other","left","right"] (ju K A):=by
 have Nx:=@cH P w _ _ base _ T;refine T.oH.has (k:=2) so (λvs G R E h=>?_) (λf cdv A' outer s G vs R E hr hu h=>?_)
 ·obtain⟨x,dx,v0,v1,v2,v3,t0,t1,l0,l1,H,rfl,_⟩:=h;rfl
 obtain⟨x,dx,v0,v1,v2,v3,t0,t1,l0,l1,H,rfl,rfl,hx,hd,s0,s1,q⟩:=h;refine⟨_,(ae (aK (cU T.kf T.ck Nx hr (fv 0^fv 1^af)))
 (ae (ba (fv 0) (fv 2) rfl)
 (ae (ba (fv 0) (pcT jL T.dY (fv 3^af)) rfl)
 (ae (ba (fv 0) (pcT jL T.dY (fv 4^af)) rfl)
 (ae (ba (fv 0) (fv 5) rfl)
 (aj (ba (fv 0) (fv 6) rfl))))))),?_⟩
 have a:=IA.one (C:=A.bV) hx hd;refine⟨x,A.bV,dx,[],v0,rfl,a.i,T.bA.cl,T.iW,∅,?_⟩;replace a:=a.put hx [("number",v0)];refine⟨x,A.bV,dx,_,rfl,a.i,T.bA.cl,T.jE,by simp,?_⟩;replace a:=a.put hx [("number",v0),("value",v1)];refine⟨_,l0,rfl,.inl (a.s.seq s0),λn0 f0=>?_⟩;have e0:=a.ne f0;have h0:=aq.free a.s f0;have k0:=a.nw n0 (HO.lst l0);replace a:=a.new f0 (HO.lst l0);refine⟨x,A.bV,dx,_,rfl,a.i,T.bA.cl,T.j5,by simp,?_⟩;replace a:=a.put hx [("number",v0),("value",v1),("first",.ref n0)];replace k0:=ag (u:=.ins A.bV dx [("number",v0),("value",v1),("first",.ref n0)]) e0 k0;refine⟨_,l1,rfl,.inl (a.s.seq s1),λn1 f1=>?_⟩;have e1:=a.ne f1;have h1:=aq.free a.s f1;replace k0:=aq.upd f1 (HO.lst l1) _ _ k0;have k1:=a.nw n1 (HO.lst l1);replace a:=a.new f1 (HO.lst l1);refine⟨x,A.bV,dx,_,rfl,a.i,T.bA.cl,T.jD,by simp,?_⟩;replace a:=a.put hx [("number",v0),("value",v1),("first",.ref n0),("other",.ref n1)];replace k0:=ag (u:=.ins A.bV dx [("number",v0),("value",v1),("first",.ref n0),("other",.ref n1)]) e0 k0;replace k1:=ag (u:=.ins A.bV dx [("number",v0),("value",v1),("first",.ref n0),("other",.ref n1)]) e1 k1;refine⟨x,A.bV,dx,_,rfl,a.i,T.bA.cl,T.kW,by simp,?_⟩;replace a:=a.put hx [("number",v0),("value",v1),("first",.ref n0),("other",.ref n1),("left",v2)];replace k0:=ag (u:=.ins A.bV dx [("number",v0),("value",v1),("first",.ref n0),("other",.ref n1),("left",v2)]) e0 k0;replace k1:=ag (u:=.ins A.bV dx [("number",v0),("value",v1),("first",.ref n0),("other",.ref n1),("left",v2)]) e1 k1;refine⟨x,A.bV,dx,_,rfl,a.i,T.bA.cl,T.jZ,by simp,?_⟩;replace a:=a.put hx [("number",v0),("value",v1),("first",.ref n0),("other",.ref n1),("left",v2),("right",v3)];replace k0:=ag (u:=.ins A.bV dx [("number",v0),("value",v1),("first",.ref n0),("other",.ref n1),("left",v2),("right",v3)]) e0 k0;replace k1:=ag (u:=.ins A.bV dx [("number",v0),("value",v1),("first",.ref n0),("other",.ref n1),("left",v2),("right",v3)]) e1 k1;exact q n0 n1 _ h0 h1 a.s k0 k1 a.i
theorem Cc{H:Hp}{x dx:OM}{R:VK}{v0 v1 v2 v3:V}{t0:OM}{l0:List V}(s0:SqL K H t0 l0){t1:OM}{l1:List V}(s1:SqL K H t1 l1)(hx:H x=UU)(hd:H dx=UU)(q:∀(n0 n1:OM)(H':Hp),H n0=UU->H n1=UU->aq H H'->H' n0=UT (.lst l0)->H' n1=UT (.lst l1)->H' x=UT (.ins A.bV dx [("number",v0),("value",v1),("first",.ref n0),("other",.ref n1),("left",v2),("right",v3)])->R .non H'):ju K A (.ref x::([v0,v1,.ref t0,.ref t1,v2,v3]++[])) (upd (upd H dx (.own x)) x (.ins A.bV dx [])) R E0:=⟨x,dx,_,_,_,_,_,_,_,_,H,rfl,rfl,hx,hd,s0,s1,q⟩
inductive gQ(K:OQ)(A:Adr)(vs:List V)(G:Hp)(R:VK)(Z:XK):Prop
 |mk(x dx:OM)(v0 v1 v2 v3 v4:V)(t0:OM)(l0:List V)(H:Hp):vs=[.ref x,v0,v1,v2,.ref t0,v3,v4]->G=upd (upd H dx (.own x)) x (.ins A.aY dx [])->H x=UU->H dx=UU->SqL K H t0 l0->(∀(n0:OM)(H':Hp),H n0=UU->aq H H'->H' n0=UT (.lst l0)->H' x=UT (.ins A.aY dx [("number",v0),("thing",v1),("most",v2),("body",.ref n0),("left",v3),("right",v4)])->R .non H')->gQ K A vs G R Z
theorem rZ(T:Txt K mg A):dz P w K mg base 3 A.aY "__init__" ["self","number","thing","most","body","left","right"] (gQ K A):=by
 have Nx:=@cH P w _ _ base _ T;refine T.l9.has (k:=2) qa (λvs G R E h=>?_) (λf cdv A' outer s G vs R E hr hu h=>?_)
 ·obtain⟨x,dx,v0,v1,v2,v3,v4,t0,l0,H,rfl,_⟩:=h;rfl
 obtain⟨x,dx,v0,v1,v2,v3,v4,t0,l0,H,rfl,rfl,hx,hd,s0,q⟩:=h;refine⟨_,(ae (aK (cU T.kf T.ck Nx hr (fv 0^fv 1^af)))
 (ae (ba (fv 0) (fv 2) rfl)
 (ae (ba (fv 0) (fv 3) rfl)
 (ae (ba (fv 0) (pcT jL T.dY (fv 4^af)) rfl)
 (ae (ba (fv 0) (fv 5) rfl)
 (aj (ba (fv 0) (fv 6) rfl))))))),?_⟩
 have a:=IA.one (C:=A.aY) hx hd;refine⟨x,A.aY,dx,[],v0,rfl,a.i,T.aL.cl,T.gq,∅,?_⟩;replace a:=a.put hx [("number",v0)];refine⟨x,A.aY,dx,_,rfl,a.i,T.aL.cl,T.gZ,by simp,?_⟩;replace a:=a.put hx [("number",v0),("thing",v1)];refine⟨x,A.aY,dx,_,rfl,a.i,T.aL.cl,T.fF,by simp,?_⟩;replace a:=a.put hx [("number",v0),("thing",v1),("most",v2)];refine⟨_,l0,rfl,.inl (a.s.seq s0),λn0 f0=>?_⟩;have e0:=a.ne f0;have h0:=aq.free a.s f0;have k0:=a.nw n0 (HO.lst l0);replace a:=a.new f0 (HO.lst l0);refine⟨x,A.aY,dx,_,rfl,a.i,T.aL.cl,T.i7,by simp,?_⟩;replace a:=a.put hx [("number",v0),("thing",v1),("most",v2),("body",.ref n0)];replace k0:=ag (u:=.ins A.aY dx [("number",v0),("thing",v1),("most",v2),("body",.ref n0)]) e0 k0;refine⟨x,A.aY,dx,_,rfl,a.i,T.aL.cl,T.iR,by simp,?_⟩;replace a:=a.put hx [("number",v0),("thing",v1),("most",v2),("body",.ref n0),("left",v3)];replace k0:=ag (u:=.ins A.aY dx [("number",v0),("thing",v1),("most",v2),("body",.ref n0),("left",v3)]) e0 k0;refine⟨x,A.aY,dx,_,rfl,a.i,T.aL.cl,T.gK,by simp,?_⟩;replace a:=a.put hx [("number",v0),("thing",v1),("most",v2),("body",.ref n0),("left",v3),("right",v4)];replace k0:=ag (u:=.ins A.aY dx [("number",v0),("thing",v1),("most",v2),("body",.ref n0),("left",v3),("right",v4)]) e0 k0;exact q n0 _ h0 a.s k0 a.i
theorem yP{H:Hp}{x dx:OM}{R:VK}{v0 v1 v2 v3 v4:V}{t0:OM}{l0:List V}(s0:SqL K H t0 l0)(hx:H x=UU)(hd:H dx=UU)(q:∀(n0:OM)(H':Hp),H n0=UU->aq H H'->H' n0=UT (.lst l0)->H' x=UT (.ins A.aY dx [("number",v0),("thing",v1),("most",v2),("body",.ref n0),("left",v3),("right",v4)])->R .non H'):gQ K A (.ref x::([v0,v1,v2,.ref t0,v3,v4]++[])) (upd (upd H dx (.own x)) x (.ins A.aY dx [])) R E0:=⟨x,dx,_,_,_,_,_,_,_,H,rfl,rfl,hx,hd,s0,q⟩
inductive gJ(K:OQ)(A:Adr)(vs:List V)(G:Hp)(R:VK)(Z:XK):Prop
 |mk(x dx:OM)(v0 v1:V)(t0 t1:OM)(l0 l1:List V)(H:Hp):vs=[.ref x,v0,v1,.ref t0,.ref t1]->G=upd (upd H dx (.own x)) x (.ins A.bg dx [])->H x=UU->H dx=UU->SqL K H t0 l0->SqL K H t1 l1->(∀(n0 n1:OM)(H':Hp),H n0=UU->H n1=UU->aq H H'->H' n0=UT (.lst l0)->H' n1=UT (.lst l1)->H' x=UT (.ins A.bg dx [("number",v0),("name",v1),("parts",.ref n0),("body",.ref n1)])->R .non H')->gJ K A vs G R Z
theorem qu(T:Txt K mg A):dz P w K mg base 3 A.bg "__init__" ["self","number","name","parts","body"] (gJ K A):=by
 have Nx:=@cH P w _ _ base _ T;refine T.mD.has (k:=2) pT (λvs G R E h=>?_) (λf cdv A' outer s G vs R E hr hu h=>?_)
 ·obtain⟨x,dx,v0,v1,t0,t1,l0,l1,H,rfl,_⟩:=h;rfl
 obtain⟨x,dx,v0,v1,t0,t1,l0,l1,H,rfl,rfl,hx,hd,s0,s1,q⟩:=h;refine⟨_,(ae (aK (cU T.kf T.ck Nx hr (fv 0^fv 1^af)))
 (ae (ba (fv 0) (fv 2) rfl)
 (ae (ba (fv 0) (pcT jL T.dY (fv 3^af)) rfl)
 (aj (ba (fv 0) (pcT jL T.dY (fv 4^af)) rfl))))),?_⟩
 have a:=IA.one (C:=A.bg) hx hd;refine⟨x,A.bg,dx,[],v0,rfl,a.i,T.dW.cl,T.ke,∅,?_⟩;replace a:=a.put hx [("number",v0)];refine⟨x,A.bg,dx,_,rfl,a.i,T.dW.cl,T.iI,by simp,?_⟩;replace a:=a.put hx [("number",v0),("name",v1)];refine⟨_,l0,rfl,.inl (a.s.seq s0),λn0 f0=>?_⟩;have e0:=a.ne f0;have h0:=aq.free a.s f0;have k0:=a.nw n0 (HO.lst l0);replace a:=a.new f0 (HO.lst l0);refine⟨x,A.bg,dx,_,rfl,a.i,T.dW.cl,T.eX,by simp,?_⟩;replace a:=a.put hx [("number",v0),("name",v1),("parts",.ref n0)];replace k0:=ag (u:=.ins A.bg dx [("number",v0),("name",v1),("parts",.ref n0)]) e0 k0;refine⟨_,l1,rfl,.inl (a.s.seq s1),λn1 f1=>?_⟩;have e1:=a.ne f1;have h1:=aq.free a.s f1;replace k0:=aq.upd f1 (HO.lst l1) _ _ k0;have k1:=a.nw n1 (HO.lst l1);replace a:=a.new f1 (HO.lst l1);refine⟨x,A.bg,dx,_,rfl,a.i,T.dW.cl,T.iY,by simp,?_⟩;replace a:=a.put hx [("number",v0),("name",v1),("parts",.ref n0),("body",.ref n1)];replace k0:=ag (u:=.ins A.bg dx [("number",v0),("name",v1),("parts",.ref n0),("body",.ref n1)]) e0 k0;replace k1:=ag (u:=.ins A.bg dx [("number",v0),("name",v1),("parts",.ref n0),("body",.ref n1)]) e1 k1;exact q n0 n1 _ h0 h1 a.s k0 k1 a.i
theorem yK{H:Hp}{x dx:OM}{R:VK}{v0 v1:V}{t0:OM}{l0:List V}(s0:SqL K H t0 l0){t1:OM}{l1:List V}(s1:SqL K H t1 l1)(hx:H x=UU)(hd:H dx=UU)(q:∀(n0 n1:OM)(H':Hp),H n0=UU->H n1=UU->aq H H'->H' n0=UT (.lst l0)->H' n1=UT (.lst l1)->H' x=UT (.ins A.bg dx [("number",v0),("name",v1),("parts",.ref n0),("body",.ref n1)])->R .non H'):gJ K A (.ref x::([v0,v1,.ref t0,.ref t1]++[])) (upd (upd H dx (.own x)) x (.ins A.bg dx [])) R E0:=⟨x,dx,_,_,_,_,_,_,H,rfl,rfl,hx,hd,s0,s1,q⟩
inductive gY(K:OQ)(A:Adr)(vs:List V)(G:Hp)(R:VK)(Z:XK):Prop
 |mk(x dx:OM)(t0 t1 t2:OM)(l0 l1 l2:List V)(H:Hp):vs=[.ref x,.ref t0,.ref t1,.ref t2]->G=upd (upd H dx (.own x)) x (.ins A.Program dx [])->H x=UU->H dx=UU->SqL K H t0 l0->SqL K H t1 l1->SqL K H t2 l2->(∀(n0 n1 n2:OM)(H':Hp),H n0=UU->H n1=UU->H n2=UU->aq H H'->H' n0=UT (.lst l0)->H' n1=UT (.lst l1)->H' n2=UT (.lst l2)->H' x=UT (.ins A.Program dx [("heads",.ref n0),("deeds",.ref n1),("main",.ref n2)])->R .non H')->gY K A vs G R Z
theorem qz(T:Txt K mg A):dz P w K mg base 3 A.Program "__init__" ["self","heads","deeds","main"] (gY K A):=by
 refine T.lH.has (k:=2) pZ (λvs G R E h=>?_) (λf cdv A' outer s G vs R E hr hu h=>?_)
 ·obtain⟨x,dx,t0,t1,t2,l0,l1,l2,H,rfl,_⟩:=h;rfl
 obtain⟨x,dx,t0,t1,t2,l0,l1,l2,H,rfl,rfl,hx,hd,s0,s1,s2,q⟩:=h;refine⟨_,(ae (ba (fv 0) (pcT jL T.dY (fv 1^af)) rfl)
 (ae (ba (fv 0) (pcT jL T.dY (fv 2^af)) rfl)
 (aj (ba (fv 0) (pcT jL T.dY (fv 3^af)) rfl)))),?_⟩
 have a:=IA.one (C:=A.Program) hx hd;refine⟨_,l0,rfl,.inl (a.s.seq s0),λn0 f0=>?_⟩;have e0:=a.ne f0;have h0:=aq.free a.s f0;have k0:=a.nw n0 (HO.lst l0);replace a:=a.new f0 (HO.lst l0);refine⟨x,A.Program,dx,[],rfl,a.i,T.dC.cl,T.dU,by simp,?_⟩;replace a:=a.put hx [("heads",.ref n0)];replace k0:=ag (u:=.ins A.Program dx [("heads",.ref n0)]) e0 k0;refine⟨_,l1,rfl,.inl (a.s.seq s1),λn1 f1=>?_⟩;have e1:=a.ne f1;have h1:=aq.free a.s f1;replace k0:=aq.upd f1 (HO.lst l1) _ _ k0;have k1:=a.nw n1 (HO.lst l1);replace a:=a.new f1 (HO.lst l1);refine⟨x,A.Program,dx,_,rfl,a.i,T.dC.cl,T.eZ,by simp,?_⟩;replace a:=a.put hx [("heads",.ref n0),("deeds",.ref n1)];replace k0:=ag (u:=.ins A.Program dx [("heads",.ref n0),("deeds",.ref n1)]) e0 k0;replace k1:=ag (u:=.ins A.Program dx [("heads",.ref n0),("deeds",.ref n1)]) e1 k1;refine⟨_,l2,rfl,.inl (a.s.seq s2),λn2 f2=>?_⟩;have e2:=a.ne f2;have h2:=aq.free a.s f2;replace k0:=aq.upd f2 (HO.lst l2) _ _ k0;replace k1:=aq.upd f2 (HO.lst l2) _ _ k1;have k2:=a.nw n2 (HO.lst l2);replace a:=a.new f2 (HO.lst l2);refine⟨x,A.Program,dx,_,rfl,a.i,T.dC.cl,T.iO,by simp,?_⟩;replace a:=a.put hx [("heads",.ref n0),("deeds",.ref n1),("main",.ref n2)];replace k0:=ag (u:=.ins A.Program dx [("heads",.ref n0),("deeds",.ref n1),("main",.ref n2)]) e0 k0;replace k1:=ag (u:=.ins A.Program dx [("heads",.ref n0),("deeds",.ref n1),("main",.ref n2)]) e1 k1;replace k2:=ag (u:=.ins A.Program dx [("heads",.ref n0),("deeds",.ref n1),("main",.ref n2)]) e2 k2;exact q n0 n1 n2 _ h0 h1 h2 a.s k0 k1 k2 a.i
theorem yM{H:Hp}{x dx:OM}{R:VK}{t0:OM}{l0:List V}(s0:SqL K H t0 l0){t1:OM}{l1:List V}(s1:SqL K H t1 l1){t2:OM}{l2:List V}(s2:SqL K H t2 l2)(hx:H x=UU)(hd:H dx=UU)(q:∀(n0 n1 n2:OM)(H':Hp),H n0=UU->H n1=UU->H n2=UU->aq H H'->H' n0=UT (.lst l0)->H' n1=UT (.lst l1)->H' n2=UT (.lst l2)->H' x=UT (.ins A.Program dx [("heads",.ref n0),("deeds",.ref n1),("main",.ref n2)])->R .non H'):gY K A (.ref x::([.ref t0,.ref t1,.ref t2]++[])) (upd (upd H dx (.own x)) x (.ins A.Program dx [])) R E0:=⟨x,dx,_,_,_,_,_,_,H,rfl,rfl,hx,hd,s0,s1,s2,q⟩
end
section
variable{P:Program}{w:OX}{K:OQ}{mg:Str->Option ON}{base:O8}{A:Adr}{N:Nat->Str}
theorem ah{t u:TS}{D:Ve}{σ:St}{H:Hp}(h:∀N:St->Hp->Prop,(∀σ H,u D σ H->N σ H)->t { D with nx:=N } σ H):DD t u D σ H:=h (u D) λ_ _ z=>z
def gB(N:Nat->Str):Prop:=∀i j,i<25->j<25->N i=N j->i=j
def dk(N:Nat->Str)(idx:List Nat)(f:Nat->V):List (Key×V):=idx.map λi=>(LI (N i),f i)
theorem Vf(D:gB N){i j:Nat}(hi:i<25)(hj:j<25)(h:i≠j):(LI (N i):Key)≠LI (N j):=λe=>h (D i j hi hj (LI.inj e))
theorem nN(D:gB N){f:Nat->V}{i:Nat}:∀{idx:List Nat},(∀j∈idx,j<25)->i∈idx->L2.ft (dk N idx f) (.inr (N i))=UT (f i)
 |j::r,hb,m=>by
  by_cases e:j=i
  ·subst e;unfold L2.ft dk;rw[KQ,Ly];simp
  have hj:=hb j Kv;have m':i∈r:=by
   rcases Ku.mp m with z|z
   ·exact absurd z.symm e
   exact z
  have hi:=hb i m;have ih:=nN D (f:=f) (i:=i) (idx:=r) (λk hk=>hb k (Kx _ hk)) m';unfold L2.ft dk at ih⊢;rw[KQ,Ly,decide_eq_false (Vf D hj hi e)];exact ih
theorem Dw(D:gB N){f:Nat->V}{i:Nat}(hi:i<25){idx:List Nat}(hb:∀j∈idx,j<25):((dk N idx f).any λkv=>decide (kv.1=(LI (N i):Key)))=decide (i∈idx):=by
 unfold dk;rw[List.any_map];by_cases m:i∈idx
 ·rw[decide_eq_true m,LM];exact⟨i,m,decide_eq_true rfl⟩
 rw[decide_eq_false m,Tf];intro j hj;show ¬ decide ((LI (N j):Key)=LI (N i))=true;rw[decide_eq_false (Vf D (hb j hj) hi (λz=>m (z▸hj)))];exact KL
theorem i5{f g:Nat->V}{idx:List Nat}(h:∀i∈idx,f i=g i):dk N idx f=dk N idx g:=MW λi hi=>by rw[h i hi]
def mZ(f:Nat->V)(i:Nat)(v:V):Nat->V:=λj=>if j=i then v else f j
theorem fm(f:Nat->V)(i:Nat)(v:V):mZ f i v i=v:=if_pos rfl
theorem jo(f:Nat->V){i j:Nat}(v:V)(h:j≠i):mZ f i v j=f j:=if_neg h
theorem yB(D:gB N){f:Nat->V}{i:Nat}{v:V}{idx:List Nat}(hb:∀j∈idx,j<25)(m:i∈idx):UZ (dk N idx f) (.inr (N i)) v=dk N idx (mZ f i v):=by
 unfold UZ;rw[Dw D (hb i m) hb,decide_eq_true m,if_pos rfl];unfold dk;rw[MN];refine MW λj hj=>?_;show(if(LI (N j):Key)=LI (N i)then((LI (N j):Key),v)else(LI (N j),f j))=(LI (N j),mZ f i v j);by_cases e:j=i
 ·rw[e,if_pos rfl,fm]
 rw[if_neg (Vf D (hb j hj) (hb i m) e),jo _ _ e]
theorem iC(D:gB N){f:Nat->V}{i:Nat}{v:V}{idx:List Nat}(hi:i<25)(hb:∀j∈idx,j<25)(m:i∉idx):UZ (dk N idx f) (.inr (N i)) v=dk N (idx++[i]) (mZ f i v):=by
 unfold UZ;rw[Dw D hi hb,decide_eq_false m,if_neg KL];unfold dk;rw[La,KQ,MK,fm];congr 1;refine MW λj hj=>?_;rw[jo _ _ (λz=>m (by rw[<-z];exact hj))]
def ins(idx:List Nat)(i:Nat):List Nat:=if i∈idx then idx else idx++[i]
theorem Bw{idx:List Nat}{i:Nat}(hb:∀j∈idx,j<25)(hi:i<25):∀j∈ins idx i,j<25:=by
 unfold ins;split
 ·exact hb
 intro j hj;rcases KA.mp hj with z|z
 ·exact hb j z
 rw[KC.mp z];exact hi
theorem kJ(idx:List Nat)(i:Nat):(ins idx i).length<=idx.length+1:=by
 unfold ins;split
 ·omega
 simp
theorem ux{idx:List Nat}{i j:Nat}(h:j∈ins idx i):j=i\/j∈idx:=by
 unfold ins at h;split at h
 ·exact Lg h
 rcases KA.mp h with z|z
 ·exact Lg z
 exact KJ (KC.mp z)
theorem rg(idx:List Nat)(i:Nat):i∈ins idx i:=by
 unfold ins;split
 ·assumption
 simp
theorem mP{idx:List Nat}{i j:Nat}(h:j∈idx):j∈ins idx i:=by
 unfold ins;split
 ·exact h
 exact Lk _ h
theorem vz(D:gB N){f:Nat->V}{i:Nat}{v:V}{idx:List Nat}(hi:i<25)(hb:∀j∈idx,j<25):UZ (dk N idx f) (.inr (N i)) v=dk N (ins idx i) (mZ f i v):=by
 unfold ins;by_cases m:i∈idx
 ·rw[if_pos m];exact yB D hb m
 rw[if_neg m];exact iC D hi hb m
theorem fj(f:Nat->V)(idx:List Nat):(dk N idx f).length=idx.length:=Ky _
theorem Ga(D:gB N){f:Nat->V}{idx:List Nat}(hb:∀j∈idx,j<25){k:Key}{v:V}(h:L2.ft (dk N idx f) k=UT v):∃j∈idx,k=LI (N j)/\v=f j:=by
 unfold L2.ft at h;cases e:(dk N idx f).find? λkv=>decide (kv.1=k)with
 |none=>rw[e]at h;cases h
 |some kv=>
  rw[e]at h;have h1:=Mz e;have h2:kv.1=k:=of_decide_eq_true (Uq (p:=λkv:Key×V=>decide (kv.1=k)) e);obtain⟨j,hj,rfl⟩:=KU.mp h1;exact⟨j,hj,h2.symm,(OS h).symm⟩
theorem bw{α β:Type}{F:α->β->Prop}:∀{l₁:List α}{l₂:List β}{i:Nat}{a:α},Paired F l₁ l₂->l₁[i]?=UT a->∃b,l₂[i]?=UT b/\F a b
 |_,_,_,_,.nil,h=>by cases h
 |_,_,0,_,.cons h _,e=>by cases e;exact⟨_,rfl,h⟩
 |_,_,i+1,_,.cons _ r,e=>by
  have:∃b,_:=bw (i:=i) r e;exact this
theorem tI{α β:Type}(f:β->α->β)(b:β){xs:List α}{i:Nat}{x:α}(h:xs[i]?=UT x):(xs.take (i+1)).foldl f b=f ((xs.take i).foldl f b) x:=by
 rw[LO,h,Tx];rfl
abbrev cls(A:Adr):List OM:=[A.Row,A.bJ,A.aX,A.bG,A.cu,A.cB,A.bW,A.bp,A.bK,A.bL,A.cO,A.bV,A.aY,A.bg,A.Program,A.cA,A.Run]
theorem av(T:Txt K mg A)(i j:Nat)(hi:i<17:=by decide)(hj:j<17:=by decide)(h:i≠j:=by decide):(cls A)[i]'hi≠(cls A)[j]'hj:=λe=>h ((MG T.nd).mp e)
theorem nL{C:OM}{x:Str}{up:List OM}(O:eW K mg C x up)(hs:C∈up:=by exact Kv):Pu K (.ref C) (.ref C)=UT true:=by
 rw[O.kit O hs,decide_eq_true hs]
theorem cq{C D R:OM}{x y:Str}{vp:List OM}(O:eW K mg C x [C,R])(U:eW K mg D y vp)(h1:D≠C)(h2:D≠R):Pu K (.ref C) (.ref D)=UT false:=by
 rw[O.kit U Kv,decide_eq_false];intro m;rcases Ku.mp m with e|m
 ·exact h1 e
 rcases Ku.mp m with e|m
 ·exact h2 e
 cases m
def rkn(a b:Int)(x:Str):Int:=
 if decide (V.str x=V.str "+")=true then(a+b)%1000000000000
 else if decide (V.str x=V.str "-")=true then(a-b)%1000000000000
 else if decide (V.str x=V.str "*")=true then(a*b)%1000000000000
 else if decide (V.str x=V.str "over")=true then(if decide (V.int b=V.int 0)=true then 0 else a/b)
 else if decide (V.str x=V.str "rest")=true then(if decide (V.int b=V.int 0)=true then a else a%b)
 else if decide (V.str x=V.str "<")=true then(if decide (a<b)=true then 1 else 0)
 else(if decide (V.int a=V.int b)=true then 1 else 0)
def In(n:Int):Prop:=0<=n/\n<1000000000000
theorem GC{a b:Int}(ha:In a)(hb:In b)(x:Str):In (rkn a b x):=by
 have md:∀z:Int,In (z%1000000000000):=λz=>cC z ∅;have t1:In 1:=⟨∅,∅⟩;have t0:In 0:=⟨∅,∅⟩;unfold rkn;split
 ·exact md _
 split
 ·exact md _
 split
 ·exact md _
 split
 ·split
  ·exact t0
  rename_i h;rw[qb,decide_eq_true_iff]at h;have hp:0<b:=by have:=hb.1;omega
  refine⟨Int.ediv_nonneg ha.1 hb.1,Int.lt_of_le_of_lt (Int.ediv_le_self b ha.1) ha.2⟩
 split
 ·split
  ·exact ha
  rename_i h;rw[qb,decide_eq_true_iff]at h;have hp:0<b:=by have:=hb.1;omega
  have:=cC a hp;exact⟨this.1,Int.lt_trans this.2 hb.2⟩
 split
 ·split
  ·exact t1
  exact t0
 split
 ·exact t1
 exact t0
theorem Dk{a:Int}{n:Nat}(hn:0<n):rkn a (n:Int) "rest"=a%(n:Int):=by
 unfold rkn;rw[if_neg ∅,if_neg ∅,if_neg ∅,if_neg ∅,if_pos ∅,if_neg (by rw[qb,decide_eq_true_iff];omega)]
abbrev opW:List Str:=["+","-","*","over","rest","<","="]
theorem JC{w:Str}(h:w∈opW):w≠"at":=by
 rintro rfl;revert h
 decide
theorem mG(D:gB N){H:Hp}{d:OM}{idx:List Nat}{f:Nat->V}(h:Rd H d (.dK (dk N idx f)))(hb:∀j∈idx,j<25){k:Nat}(hk:k∈idx):c8 H d (.str (N k)) (UT (f k)):=by
 rw[<-nN D (f:=f) hb hk];exact .inl ⟨_,_,h,rfl,rfl⟩
theorem CY{K:OQ}{a:OM}{xs:List V}{fr:List Nat}{te:CB->TE}{Q:VK}{σ:St}{H1:Hp}(R:Nat->V->Hp->Prop)(hx:SqL K H1 a xs)(hn:xs.length<sizeLine)
  (he:∀b i x H (G:VK),xs[i]?=UT x->aq H1 H->(∀y H',aq H H'->R i y H'->G y H')->te b (UT x::cFr fr σ) H G)
  (mono:∀i y H H',aq H H'->R i y H->R i y H') (st:∀i y H D ys zs,H D=UT (.lst ys)->R i y H->R i y (upd H D (.lst zs)))
  (fin:∀D H ys,H1 D=UU->aq H1 H->H D=UT (.lst ys)->ys.length=xs.length->(∀(i:Nat) y,ys[i]?=UT y->R i y H)->Q (.ref D) H):om (Itl K a) 1 fr (λ_=>ki 0) (λ_=>G9) te Q σ H1:=by
 refine qr (x:=λi=>xs.getD i .non) R hn (λH s=>⟨xs,s.seq hx,KI _⟩) (λi H h s=>⟨xs,xs[i],s.seq hx,Kw h⟩)
  (λi H v H' h s y=>⟨y.1,?_⟩) (λb i H G h s k=>he b i _ H G (by rw[Ll,Kw h];rfl) s k) mono st fin
 have:=y.2 xs (s.seq hx)
 rw[Ll,this]
 rfl
theorem lt3:∀i,i<3->i=0\/i=1\/i=2:=∅
theorem lt4:∀i,i<4->i=0\/i=1\/i=2\/i=3:=∅
theorem lt5:∀i,i<5->i=0\/i=1\/i=2\/i=3\/i=4:=∅
theorem lt7:∀i,i<7->i=0\/i=1\/i=2\/i=3\/i=4\/i=5\/i=6:=∅
theorem Iq:∀i,i<13->i=0\/i=1\/i=2\/i=3\/i=4\/i=5\/i=6\/i=7\/i=8\/i=9\/i=10\/i=11\/i=12:=∅
theorem CL:(∀i∈[11,12],i∈[0,1,2,6,10,11,12])/\(∀i∈[6,10],i∈[0,1,2,6,10,11,12])/\∀i∈[0,1,2],i∈[0,1,2,6,10,11,12]:=∅
end
inductive Th where
 |i (n:Int)|x (a:Nat)
inductive Val where
 |one (a:Th)|op (a:Th) (w:Str) (b:Th)|atl (x:Nat) (b:Th)
def Th.v(N:Nat->Str):Th->V
 | .i n=>.int n
 | .x a=>.str (N a)
def vV(N:Nat->Str):Val->List V
 | .one a=>[a.v N]
 | .op a w b=>[a.v N,.str w,b.v N]
 | .atl x b=>[.str (N x),.str "at",b.v N]
inductive Lr where
 |hand (i:Nat) (r:Int)|giv (i:Nat) (r z:Int)|own (i:Nat) (z:Int)|lt (i:Nat) (r:Int)
 |set (x:Nat) (v:Val)|put (x:Nat) (p:Th) (v:Val)|snd (h:Nat) (v:Val)|say (x:Nat) (v:Val) (m:Nat)
 |call (i:Nat) (ts:List Th)|last|iff (v:Val) (l r:Int)|loop (t:Th) (m l r:Int)|els|fin|fU (i:Nat) (ps:List Nat)|main
def Lr.w:Lr->Str
 | .hand _ _=>"hand"| .giv _ _ _=>"given"| .own _ _=>"own"| .lt _ _=>"let"| .set _ _=>"set"| .put _ _ _=>"put"| .snd _ _=>"send"| .say _ _ _=>"say"
 | .call _ _=>"call"| .last=>"last"| .iff _ _ _=>"if"| .loop _ _ _ _=>"loop"| .els=>"else"| .fin=>"end"| .fU _ _=>"deed"| .main=>"main"
abbrev nV(N:Nat->Str)(ns:List Nat):List V:=ns.map λi=>V.str (N i)
def Lr.tl(N:Nat->Str)(p:OM):Lr->List V
 | .hand i r=>[.str (N i),.int r]
 | .giv i r z=>[.str (N i),.int r,.int z]
 | .own i z=>[.str (N i),.int z]
 | .lt i r=>[.str (N i),.int r]
 | .set x _=>[.str (N x),.ref p]
 | .put x t _=>[.str (N x),t.v N,.ref p]
 | .snd h _=>[.str (N h),.ref p]
 | .say x _ m=>[.str (N x),.ref p,.str (N m)]
 | .call i _=>[.str (N i),.ref p]
 | .last=>[]
 | .iff _ l r=>[.ref p,.int l,.int r]
 | .loop t m l r=>[t.v N,.int m,.int l,.int r]
 | .els=>[]
 | .fin=>[]
 | .fU i _=>[.str (N i),.ref p]
 | .main=>[]
def Lr.ob(N:Nat->Str):Lr->Option HO
 | .set _ v=>UT (.tup (vV N v))
 | .put _ _ v=>UT (.tup (vV N v))
 | .snd _ v=>UT (.tup (vV N v))
 | .say _ v _=>UT (.tup (vV N v))
 | .iff v _ _=>UT (.tup (vV N v))
 | .call _ ts=>UT (.lst (ts.map (Th.v N)))
 | .fU _ ps=>UT (.lst (nV N ps))
 |_=>UU
def bZ(N:Nat->Str)(X:Hp)(v:V)(r:Lr):Prop:=∃a p,v=.ref a/\X a=UT (.tup (.str r.w::r.tl N p))/\∀o,r.ob N=UT o->X p=UT o
theorem bZ.same{N:Nat->Str}{X X':Hp}(s:aq X X'){v:V}{r:Lr}(h:bZ N X v r):bZ N X' v r:=by
 obtain⟨a,p,e,h1,h2⟩:=h;exact⟨a,p,e,s _ _ h1,λo ho=>s _ _ (h2 o ho)⟩
def Th.ok(ns:List Nat):Th->Prop
 | .i n=>In n
 | .x a=>a∈ns
def Val.ok(ns:List Nat):Val->Prop
 | .one a=>a.ok ns
 | .op a w b=>a.ok ns/\b.ok ns/\w∈opW
 | .atl x b=>x∈[6,10]/\b.ok ns
structure Dl where
 nm:Nat
 ps:List Nat
 sp:Int
 co:Int
 lp:OM
def Lr.ok(ns tg:List Nat)(dd:List Dl):Lr->Prop
 | .set x v=>x∈tg/\v.ok ns
 | .put x p v=>x=10/\p.ok ns/\v.ok ns
 | .snd h v=>h∈[0,1,2]/\v.ok ns
 | .say x v m=>x∈tg/\v.ok ns/\m∈[11,12]
 | .call i ts=>∃d∈dd,d.nm=i/\ts.length=d.ps.length/\∀t∈ts,t.ok ns
 | .last=>True
 |_=>False
inductive Tr where
 |leaf (r:Lr)
 |iff (v:Val) (l r:Int) (f o:List Tr)
 |loop (t:Th) (m l r:Int) (b:List Tr)
mutual
def flat:Tr->List Lr
 | .leaf r=>[r]
 | .iff v l r f o=>.iff v l r::(bf f++(.els::(bf o++[.fin])))
 | .loop t m l r b=>.loop t m l r::(bf b++[.fin])
def bf:List Tr->List Lr
 | []=>[]
 |t::ts=>flat t++bf ts
end
theorem mV(a b:List Tr):bf (a++b)=bf a++bf b:=by
 induction a with
 |nil=>simp[bf]
 |cons t r ih=>simp[bf,ih]
mutual
def Tr.ok(ns tg:List Nat)(dd:List Dl):Tr->Prop
 | .leaf r=>r.ok ns tg dd
 | .iff v l r f o=>v.ok ns/\0<=l/\0<=r/\eE ns tg dd f/\eE ns tg dd o
 | .loop t m l r b=>t.ok ns/\1<=m/\m<=3/\0<=l/\0<=r/\eE ns tg dd b
def eE(ns tg:List Nat)(dd:List Dl):List Tr->Prop
 | []=>True
 |t::ts=>t.ok ns tg dd/\eE ns tg dd ts
end
mutual
def dT:Tr->Nat
 | .leaf _=>1
 | .iff _ _ _ f o=>max (dTs f) (dTs o)+1
 | .loop _ _ _ _ b=>dTs b+1
def dTs:List Tr->Nat
 | []=>0
 |t::ts=>max (dT t) (dTs ts)
end
theorem ow{n:Nat}{a:List Tr}{t:Tr}(ha:dTs a<=n)(ht:dT t<=n):dTs (a++[t])<=n:=by
 induction a with
 |nil=>simp only[Ul,dTs];omega
 |cons x r ih=>
  simp only[dTs,Nj]at ha⊢;have:=ih ();omega
theorem mO{ns tg:List Nat}{dd:List Dl}{a b:List Tr}(ha:eE ns tg dd a)(hb:eE ns tg dd b):eE ns tg dd (a++b):=by
 induction a with
 |nil=>exact hb
 |cons t r ih=>exact⟨ha.1,ih ha.2⟩
def su(dd:List Dl):Lr->Int
 | .call i _=>match dd.find? (λd=>decide (d.nm=i))with
  |some d=>1+d.sp
  |none=>1
 |_=>1
mutual
def oG(dd:List Dl)(h:Int):Tr->Int
 | .leaf r=>h*su dd r
 | .iff _ l r f o=>h*(1+1*(l+r))+cG dd h f+cG dd h o
 | .loop _ m l r b=>h*(1+m*(l+r))+cG dd (h*m) b
def cG(dd:List Dl)(h:Int):List Tr->Int
 | []=>0
 |t::ts=>oG dd h t+cG dd h ts
end
theorem mN(dd:List Dl)(h:Int)(a b:List Tr):cG dd h (a++b)=cG dd h a+cG dd h b:=by
 induction a with
 |nil=>simp[cG]
 |cons t r ih=>simp[cG,ih];omega
inductive Bk where
 |iff (v:Val)|loop (t:Th) (m:Int)
structure Fz where
 bk:Bk
 l:Int
 r:Int
 fst:Option (List Tr)
 rows:List Tr
 rank:Int
 aD:Int
 cost:Int
 fc:Option Int
def Bk.m:Bk->Int
 | .iff _=>1
 | .loop _ m=>m
def Bk.lr(l r:Int):Bk->Lr
 | .iff v=>.iff v l r
 | .loop t m=>.loop t m l r
def Fz.op(f:Fz):Lr:=f.bk.lr f.l f.r
def zr:Option (List Tr)->List Lr
 |none=>[]
 |some t=>bf t++[.els]
def Fz.gF(f:Fz):List Lr:=zr f.fst++bf f.rows
def bB:List Fz->List Lr
 | []=>[]
 |f::r=>f.op::(f.gF++bB r)
theorem dH(a b:List Fz):bB (a++b)=bB a++bB b:=by
 induction a with
 |nil=>rfl
 |cons t r ih=>simp[bB,ih]
def ats(b:Nat):List Fz->List Nat
 | []=>[]
 |f::r=>b::ats (b+1+f.gF.length) r
theorem mM(b:Nat)(g:List Fz)(f:Fz):ats b (g++[f])=ats b g++[b+(bB g).length]:=by
 induction g generalizing b with
 |nil=>rfl
 |cons t r ih=>
  simp only[Nj,ats,ih,bB,Lc,Kz];rw[show b+1+t.gF.length+(bB r).length=b+(t.gF.length+(bB r).length+1) by omega]
theorem hJ(b:Nat)(g:List Fz):(ats b g).length=g.length:=by
 induction g generalizing b with
 |nil=>rfl
 |cons t r ih=>simp[ats,ih]
def oK(dd:List Dl)(h:Int):Option (List Tr)->Int
 |none=>0
 |some t=>cG dd h t
def lj(dd:List Dl)(h:Int):List Fz->Int
 | []=>0
 |f::r=>h*(1+f.bk.m*(f.l+f.r))+oK dd (h*f.bk.m) f.fst+cG dd (h*f.bk.m) f.rows+lj dd (h*f.bk.m) r
def cL(h:Int):List Fz->Int
 | []=>h
 |f::r=>cL (h*f.bk.m) r
theorem fZ(h:Int)(g:List Fz)(f:Fz):cL h (g++[f])=cL h g*f.bk.m:=by
 induction g generalizing h with
 |nil=>rfl
 |cons t r ih=>exact ih _
theorem dE(dd:List Dl)(h:Int)(g:List Fz)(f:Fz):lj dd h (g++[f])=lj dd h g+(cL h g*(1+f.bk.m*(f.l+f.r))+oK dd (cL h g*f.bk.m) f.fst+cG dd (cL h g*f.bk.m) f.rows):=by
 induction g generalizing h with
 |nil=>simp[lj,cL]
 |cons t r ih=>simp only[Nj,lj,cL,ih];omega
section
variable{P:Program}{w:OX}{K:OQ}{mg:Str->Option ON}{base:O8}{A:Adr}
def del(X:List OM)(H:Hp):Hp:=λa=>if a∈X then UU else H a
theorem aB{X:List OM}{H:Hp}:aq (del X H) H:=λa o h=>by
 unfold del at h;split at h
 ·cases h
 exact h
theorem aN{X:List OM}{H:Hp}{a:OM}{o:HO}(h:a∉X)(e:H a=UT o):del X H a=UT o:=by
 unfold del;rw[if_neg h];exact e
theorem bq{X:List OM}{H:Hp}{a:OM}{o:HO}(h:del X H a=UT o):a∉X/\H a=UT o:=by
 unfold del at h;split at h
 ·cases h
 exact⟨by assumption,h⟩
structure Go(M:List OM)(H:Hp)(M':List OM)(H':Hp):Prop where
 o:∀a o,a∉M->H a=UT o->H' a=UT o
 m:∀a∈M',a∈M\/H a=UU
theorem Go.trans{M M1 M2:List OM}{H H1 H2:Hp}(g:Go M H M1 H1)(g':Go M1 H1 M2 H2):Go M H M2 H2:=by
 refine⟨λa o h e=>g'.o a o (λm=>?_) (g.o a o h e),λa m=>?_⟩
 ·rcases g.m a m with z|z
  ·exact h z
  rw[z]at e;cases e
 rcases g'.m a m with z|z
 ·exact g.m a z
 by_cases h:a∈M
 ·exact .inl h
 refine .inr ?_;cases e:H a with
 |none=>rfl
 |some o=>rw[g.o a o h e]at z;cases z
theorem Go.same{M M':List OM}{H H':Hp}(g:Go M H M' H'):aq (del M H) (del M' H'):=λa o h=>by
 obtain⟨h1,h2⟩:=bq h;refine aN (λm=>?_) (g.o a o h1 h2);rcases g.m a m with z|z
 ·exact h1 z
 rw[z]at h2;cases h2
theorem Go.refl(M:List OM)(H:Hp):Go M H M H:=⟨λ_ _ _ h=>h,λ_ h=>.inl h⟩
theorem Go.new{M:List OM}{H H':Hp}(s:aq H H'):Go M H M H':=⟨λa o _ h=>s a o h,λ_ h=>.inl h⟩
theorem Go.at{M:List OM}{H:Hp}{x:OM}(h:x∈M)(u:HO):Go M H M (upd H x u):=⟨λa o m e=>(aw (λz:a=x=>m (by rw[z];exact h))).trans e,λ_ h=>.inl h⟩
theorem Go.to{M M1 M2:List OM}{H H1:Hp}(g:Go M H M1 H1)(h:∀a∈M2,a∈M1\/a∈M\/H a=UU):Go M H M2 H1:=⟨g.o,λa m=>by
 rcases h a m with z|z|z
 ·exact g.m a z
 ·exact .inl z
 exact .inr z⟩
theorem Go.keep{M:List OM}{H0 H H':Hp}(g:Go M H M H')(s:aq H0 H)(f:∀a∈M,H0 a=UU):aq H0 H':=λa o h=>g.o a o (λm=>by rw[f a m]at h;cases h) (s a o h)
def iG(H:Hp)(xs:List V)(ws:List (List V)):Prop:=Paired (λv w=>∃p,v=V.ref p/\H p=UT (.tup w)) xs ws
theorem iG.same{H H':Hp}(s:aq H H'){xs:List V}{ws:List (List V)}(h:iG H xs ws):iG H' xs ws:=Paired.cR h λ_ _ ⟨p,e,q⟩=>⟨p,e,s p _ q⟩
theorem iG.len{H:Hp}{xs:List V}{ws:List (List V)}(h:iG H xs ws):xs.length=ws.length:=OU h
theorem Pb{α β:Type}{F:α->β->Prop}{x:α}{y:β}(h:F x y):∀{xs:List α}{ys:List β},Paired F xs ys->Paired F (xs++[x]) (ys++[y])
 |_,_,.nil=>.cons h .nil
 |_,_,.cons g r=>.cons g (Pb h r)
theorem Paired.two{α β:Type}{F:α->β->Prop}:∀{xs zs:List α}{ys ws:List β},Paired F xs ys->Paired F zs ws->Paired F (xs++zs) (ys++ws)
 |_,_,_,_,.nil,h=>h
 |_,_,_,_,.cons g r,h=>.cons g (Paired.two r h)
structure Gc where
 N:Nat->Str
 S:OM
 LR:OM
 LV:OM
 LD:OM
 LH:OM
 LL:OM
 LT:OM
 LN:OM
 mode:Int
 ev:Bool
 vk:List Nat
 vw:Nat->Int
 tg:List Nat
 ns:List Nat
 dd:List Dl
 lim:Int
 pre:List Lr
 br:Int
structure Gd where
 lm:OM
 marks:List Nat
 lo:OM
 a0:OM
 as:List OM
 rows:List V
 bs:List Tr
 bc:Int
 fz:List Fz
 spent:Int
def Gb:Option Int->V
 |none=>.non
 |some n=>.int n
def stK(g:Gc)(d:Gd):List (Key×V):=[(.inr "rows",.ref g.LR),(.inr "view",.ref g.LV),(.inr "deeds",.ref g.LD),(.inr "mode",.int g.mode),(.inr "even",.bl g.ev),(.inr "marks",.ref d.lm),(.inr "hands",.ref g.LH),(.inr "lists",.ref g.LL),(.inr "targets",.ref g.LT),(.inr "numbers",.ref g.LN),(.inr "open",.ref d.lo),(.inr "spent",.int d.spent),(.inr "limit",.int g.lim)]
def frK(at_:Nat)(rank aD cost:Int)(fc:Option Int):List (Key×V):=[(.inr "at",.int (at_:Int)),(.inr "rank",.int rank),(.inr "heft",.int aD),(.inr "cost",.int cost),(.inr "first",Gb fc)]
def fzK(p:Nat×Fz):List (Key×V):=frK p.1 p.2.rank p.2.aD p.2.cost p.2.fc
def Gd.M(g:Gc)(d:Gd):List OM:=g.S::g.LR::d.lo::d.a0::d.as
def Gd.b(g:Gc)(d:Gd):Nat:=(g.pre++bf d.bs).length
def Gd.lrs(g:Gc)(d:Gd):List Lr:=g.pre++bf d.bs++bB d.fz
structure jH(g:Gc):Prop where
 ev:g.ev=false
 D:gB g.N
 vb:∀i∈g.vk,i<25/\0<=g.vw i/\g.vw i<=2
 tv:∀i∈g.tg,i∈g.vk
 nv:∀i∈g.ns,i∈g.vk
 cv:∀i∈[0,1,2,6,10,11,12],i∈g.vk
 t9:9∈g.tg
 v9:g.vw 9=2
 v2:g.vw 2=2
 dv:∀e∈g.dd,e.nm∈g.vk/\e.ps.length<=2/\0<=e.sp/\0<=e.co/\∀p∈e.ps,p∈g.vk
 dn:(g.dd.map Dl.nm).Nodup
 dl:g.dd.length<=4
 tl:g.tg.length<=5
 nl:g.ns.length<=8
 br:0<=g.br/\g.br<=2
 pl:g.pre.length<=500
structure yk(X:Hp)(g:Gc):Prop where
 hv:X g.LV=UT (.dK (dk g.N g.vk λi=>.int (g.vw i)))
 hd:∃ts:Nat->OM,X g.LD=UT (.dK (dk g.N (g.dd.map Dl.nm) λi=>.ref (ts i)))/\∀e∈g.dd,X (ts e.nm)=UT (.tup [.ref e.lp,.int e.sp,.int e.co])/\X e.lp=UT (.lst (nV g.N e.ps))
 hh:X g.LH=UT (.lst (nV g.N [0,1,2]))
 hl:X g.LL=UT (.lst (nV g.N [6,10]))
 ht:X g.LT=UT (.lst (nV g.N g.tg))
 hn:X g.LN=UT (.lst (nV g.N g.ns))
theorem yk.same{X X':Hp}{g:Gc}(s:aq X X')(h:yk X g):yk X' g:=by
 obtain⟨ts,h1,h2⟩:=h.hd;exact⟨s _ _ h.hv,⟨ts,s _ _ h1,λe m=>⟨s _ _ (h2 e m).1,s _ _ (h2 e m).2⟩⟩,s _ _ h.hh,s _ _ h.hl,s _ _ h.ht,s _ _ h.hn⟩
structure oU(H:Hp)(g:Gc)(d:Gd):Prop where
 hS:H g.S=UT (.dK (stK g d))
 hR:H g.LR=UT (.lst d.rows)
 hO:H d.lo=UT (.lst (.ref d.a0::d.as.map V.ref))
 h0:H d.a0=UT (.dK (frK 0 g.br 1 d.bc UU))
 hf:Paired (λa p=>H a=UT (.dK (fzK p))) d.as ((ats (d.b g) d.fz).zip d.fz)
theorem oU.same{H H':Hp}{g:Gc}{d:Gd}(s:aq H H')(h:oU H g d):oU H' g d:=⟨s _ _ h.hS,s _ _ h.hR,s _ _ h.hO,s _ _ h.h0,Paired.cR h.hf λ_ _ e=>s _ _ e⟩
def HJ(ns:List Nat):Bk->Prop
 | .iff v=>v.ok ns
 | .loop t m=>t.ok ns/\1<=m/\m<=3
structure Jn(g:Gc)(f:Fz):Prop where
 bk:HJ g.ns f.bk
 l0:0<=f.l
 r0:0<=f.r
 rows:eE g.ns g.tg g.dd f.rows
 fst:∀t,f.fst=UT t->eE g.ns g.tg g.dd t
 lp:∀t m,f.bk=.loop t m->f.fst=UU
 fc:f.fc=UU↔f.fst=UU
 f0:∀n,f.fc=UT n->0<=n
 rank:0<=f.rank/\f.rank<=2
 cost:0<=f.cost
def j6(h:Int):List Fz->Prop
 | []=>True
 |f::r=>f.aD=h*f.bk.m/\j6 f.aD r
theorem j6.app{h:Int}{g:List Fz}{f:Fz}(hg:j6 h g)(hf:f.aD=cL h g*f.bk.m):j6 h (g++[f]):=by
 induction g generalizing h with
 |nil=>exact⟨hf,Lj⟩
 |cons t r ih=>exact⟨hg.1,ih hg.2 (by rw[hg.1];exact hf)⟩
theorem j6.inv{h:Int}{g:List Fz}{f:Fz}(hg:j6 h (g++[f])):j6 h g/\f.aD=cL h g*f.bk.m:=by
 induction g generalizing h with
 |nil=>exact⟨Lj,hg.1⟩
 |cons t r ih=>
  obtain⟨a,b⟩:=ih hg.2;exact⟨⟨hg.1,a⟩,by rw[hg.1]at b;exact b⟩
def oi:Nat->List Fz->Prop
 |_,[]=>True
 |n,f::r=>dTs f.rows<=n/\(∀t,f.fst=UT t->dTs t<=n)/\oi (n-1) r
theorem oi.app{f:Fz}:∀{g:List Fz}{n:Nat},oi n g->dTs f.rows<=n-g.length->(∀t,f.fst=UT t->dTs t<=n-g.length)->oi n (g++[f])
 | [],_,_,h1,h2=>⟨h1,h2,Lj⟩
 |x::r,n,hg,h1,h2=>⟨hg.1,hg.2.1,oi.app hg.2.2 (by rw[Lc]at h1;omega) (λt e=>by have:=h2 t e;rw[Lc]at this;omega)⟩
theorem oi.inv{f:Fz}:∀{g:List Fz}{n:Nat},oi n (g++[f])->oi n g/\dTs f.rows<=n-g.length/\∀t,f.fst=UT t->dTs t<=n-g.length
 | [],_,h=>⟨Lj,h.1,h.2.1⟩
 |x::r,n,h=>by
  obtain⟨a,b,c⟩:=oi.inv (g:=r) h.2.2;refine⟨⟨h.1,h.2.1,a⟩,by rw[Lc];omega,λt e=>?_⟩;have:=c t e;rw[Lc];omega
def IP(bs:List Tr)(fz:List Fz):Prop:=dTs bs<=4/\oi 3 fz
structure xI(g:Gc)(d:Gd):Prop where
 nd:(d.M g).Nodup
 mks:∀m∈d.marks,m∈[11,12]
 ml:d.marks.length<=2
 bs:eE g.ns g.tg g.dd d.bs
 bc:0<=d.bc
 fz:∀f∈d.fz,Jn g f
 fl:d.fz.length<=3
 hf:j6 1 d.fz
 h36:∀f∈d.fz,1<=f.aD/\f.aD<=36
 pay:g.ev=false->cG g.dd 1 d.bs+lj g.dd 1 d.fz<=d.spent
 sp:0<=d.spent/\(d.spent<=g.lim\/d.spent=0)
 rl:(d.lrs g).length+2*d.fz.length<=1000
 dp:IP d.bs d.fz
structure BAt(g:Gc)(H:Hp)(d:Gd):Prop where
 st:yk (del (d.M g) H) g
 hm:del (d.M g) H d.lm=UT (.lst (nV g.N d.marks))
 hr:Paired (bZ g.N (del (d.M g) H)) d.rows (d.lrs g)
 dy:oU H g d
 ok:xI g d
variable{g:Gc}{d d':Gd}{H H':Hp}
theorem BAt.same(z:aq H H')(h:BAt g H d):BAt g H' d:=by
 have s:=(Go.new (M:=d.M g) z).same;exact⟨h.st.same s,s _ _ h.hm,Paired.cR h.hr λ_ _=>bZ.same s,h.dy.same z,h.ok⟩
theorem BAt.al(h:BAt g H d):∀a∈d.M g,H a≠UU:=λa m e=>by
 unfold Gd.M at m;rcases Ku.mp m with rfl|m
 ·rw[h.dy.hS]at e;cases e
 rcases Ku.mp m with rfl|m
 ·rw[h.dy.hR]at e;cases e
 rcases Ku.mp m with rfl|m
 ·rw[h.dy.hO]at e;cases e
 rcases Ku.mp m with rfl|m
 ·rw[h.dy.h0]at e;cases e
 obtain⟨i,hi⟩:=Le m;obtain⟨p,_,hp⟩:=bw h.dy.hf hi;rw[hp]at e;cases e
theorem BAt.go(h:BAt g H d)(z:Go (d.M g) H (d'.M g) H')(dy:oU H' g d')(ok:xI g d')(hm:del (d'.M g) H' d'.lm=UT (.lst (nV g.N d'.marks)))(hr:Paired (bZ g.N (del (d'.M g) H')) d'.rows (d'.lrs g)):BAt g H' d':=⟨h.st.same z.same,hm,hr,dy,ok⟩
theorem inS(g:Gc)(d:Gd):g.S∈d.M g:=Kv
theorem inR(g:Gc)(d:Gd):g.LR∈d.M g:=Kx _ Kv
theorem inO(g:Gc)(d:Gd):d.lo∈d.M g:=Kx _ (Kx _ Kv)
theorem in0(g:Gc)(d:Gd):d.a0∈d.M g:=Kx _ (Kx _ (Kx _ Kv))
theorem inA(g:Gc)(d:Gd){a:OM}(h:a∈d.as):a∈d.M g:=Kx _ (Kx _ (Kx _ (Kx _ h)))
end
section
variable{K:OQ}
theorem BA:Pu K (.type "str") (.type "str")=UT true:=by kernel_rfl!
theorem CG:Pu K (.type "int") (.type "str")=UT false:=by kernel_rfl!
end
section
variable{P:Program}{w:OX}{K:OQ}{mg:Str->Option ON}{base:O8}{A:Adr}
abbrev LET:Str:="abcdefghijklmnopqrstuvwxyz"
def mq(k:Int):Nat:=(97+k).toNat
theorem yi{k:Int}(h0:0<=k)(h1:k<26):atI LET.cps.toList k=UT (mq k):=by
 obtain⟨n,rfl⟩:∃n:Nat,k=(n:Int):=⟨k.toNat,()⟩;have h:∀m:Fin 26,atI LET.cps.toList ((m.val:Nat):Int)=UT (mq ((m.val:Nat):Int)):=by decide+kernel
 exact h ⟨n,()⟩
theorem DX{z:Str}{n:Int}(hz:z.length<=1)(h1:n<1000):(oR z n).length<=1000:=by
 unfold oR;split
 ·decide
 split
 ·omega
 rw[vU];have:n.toNat*z.length<=n.toNat*1:=Nat.mul_le_mul_left _ hz;omega
theorem w9(x y:Str):(x++y).length=x.length+y.length:=by
 show(x.cps++y.cps).size=x.cps.size+y.cps.size;exact TB
abbrev FX:Str:="set put send say by if else end loop most idle last call deed main at over rest"
abbrev Ge:Str:=" hand given own let open house closed"
def words:List Str:=["set","put","send","say","by","if","else","end","loop","most","idle","last","call","deed","main","at","over","rest","hand","given","own","let","open","house","closed"]
theorem BZ:uO (FX++Ge) " " words:=⟨by decide+kernel,by decide+kernel,by decide+kernel,by decide+kernel,∅,by decide+kernel⟩
theorem vE:words.Nodup:=by decide+kernel
theorem pe:words.length=25:=rfl
def nmV(c:Int)(k:Nat):Str:=
 if decide (V.int (c%4)=V.int 0)=true then words.getD ((c/4%25+k)%25).toNat QU
 else if decide (V.int (c%4)=V.int 1)=true then oR ⟨#[mq ((c/4%26+(k:Int)/8)%26)]⟩ ((k:Int)%8+1)
 else Txt.slice (oR ⟨#[mq (c/288%26)]⟩ (c/4%8)) UU (UT (c/32%(c/4%8+1)))++⟨#[mq ((k+c/7488%26)%26)]⟩++Txt.slice (oR ⟨#[mq (c/288%26)]⟩ (c/4%8)) (UT (c/32%(c/4%8+1))) UU
theorem rS(c:Nat){n:Int}(hn:1<=n):(oR ⟨#[c]⟩ n).cps.toList=O0 n.toNat c:=by
 unfold oR;rw[if_neg ()];by_cases e:n=1
 ·subst e;rfl
 have h1:¬ (n==1||(⟨#[c]⟩:Str).length==0)=true:=by
  rw[Bool.or_eq_true];rintro(h|h)
  ·exact e (eq_of_beq h)
  exact absurd h (show ¬ ((1:Nat)==0)=true by decide)
 rw[if_neg h1];have f:∀(m:Nat)(acc:Array Nat),((O0 m #[c]).foldl (· ++ ·) acc).toList=acc.toList++O0 m c:=by
  intro m;induction m with
  |zero=>intro acc;simp
  |succ m ih=>
   intro acc;rw[Ls,ML,ih,Ls];simp
 have:=f n.toNat #[];simpa using this
theorem xa{a b:Int}(ha:0<=a)(hb:0<=b)(h:mq a=mq b):a=b:=by
 unfold mq at h;omega
theorem Ey{a b:Str}{x y:Nat}(h:a++⟨#[x]⟩++b=a++⟨#[y]⟩++b):x=y:=by
 have h1:((a.cps++ #[x])++b.cps).toList=((a.cps++ #[y])++b.cps).toList:=congrArg (λz:Str=>z.cps.toList) h;simp only[Sw]at h1;have h2:=List.append_inj_left' h1 rfl;have h3:=List.append_inj_right h2 rfl;simpa using h3
theorem qe(c:Int):gB (nmV c):=by
 intro i j hi hj e;unfold nmV at e;split at e
 ·have m1:=cC (c/4%25+i) (show(0:Int)<25 by decide);have m2:=cC (c/4%25+j) (show(0:Int)<25 by decide);have b1:((c/4%25+i)%25).toNat<words.length:=by rw[pe];omega
  have b2:((c/4%25+j)%25).toNat<words.length:=by rw[pe];omega
  rw[Ll,Ll,Kw b1,Kw b2]at e;have:=(MG vE).mp (show words[((c/4%25+i)%25).toNat]=words[((c/4%25+j)%25).toNat]from e);omega
 split at e
 ·have m1:=cC (c/4%26+(i:Int)/8) (show(0:Int)<26 by decide);have m2:=cC (c/4%26+(j:Int)/8) (show(0:Int)<26 by decide);have h1:=congrArg (λz:Str=>z.cps.toList) e;rw[rS _ (),rS _ ()]at h1;have h2:=congrArg List.length h1;rw[LW,LW]at h2;obtain⟨n,hn⟩:∃n,((i:Int)%8+1).toNat=n+1:=⟨((i:Int)%8).toNat,()⟩;rw[<-h2,hn,Ls,Ls]at h1;have h3:=xa m1.1 m2.1 (SE h1).1;omega
 have m1:=cC ((i:Int)+c/7488%26) (show(0:Int)<26 by decide);have m2:=cC ((j:Int)+c/7488%26) (show(0:Int)<26 by decide);have h3:=xa m1.1 m2.1 (Ey e);omega
theorem Bi{x:Str}{lo hi:Option Int}{c:Nat}(h:c∈(Txt.slice x lo hi).cps.toList):c∈x.cps.toList:=by
 unfold Txt.slice at h;split at h
 ·exact h
 obtain⟨i,_,q⟩:=Nb.mp (by simpa using h);exact Array.mem_toList_iff.mpr (Array.mem_of_getElem? q)
theorem fL{x:Str}:Pc x=true↔∀c∈x.cps.toList,c<0x110000:=by
 unfold Pc;rw[<-Array.all_toList,Ml];exact⟨λh c hc=>of_decide_eq_true (h c hc),λh c hc=>decide_eq_true (h c hc)⟩
theorem uo{x:Str}(h:Pc x=true)(lo hi:Option Int):Pc (Txt.slice x lo hi)=true:=fL.mpr λc hc=>fL.mp h c (Bi hc)
theorem tP{x y:Str}(h:Pc x=true)(h2:Pc y=true):Pc (x++y)=true:=fL.mpr λc hc=>by
 have e:(x++y).cps=x.cps++y.cps:=rfl;rw[e,Sw]at hc;rcases KA.mp hc with q|q
 ·exact fL.mp h c q
 exact fL.mp h2 c q
theorem DM{k:Int}(h:k<26):Pc ⟨#[mq k]⟩=true:=fL.mpr λc hc=>by
 have e:c=mq k:=by simpa using hc
 rw[e];unfold mq;omega
theorem xT{k n:Int}(h:k<26):Pc (oR ⟨#[mq k]⟩ n)=true:=by
 by_cases hn:1<=n
 ·refine fL.mpr λc hc=>?_;rw[rS _ hn]at hc;rw[Rc hc];unfold mq;omega
 unfold oR;rw[if_pos ()];decide+kernel
theorem II(c:Int)(k:Nat):Pc (nmV c k)=true:=by
 unfold nmV;split
 ·have h:∀i:Fin 25,Pc (words.getD i.val QU)=true:=by decide+kernel
  have:=cC (c/4%25+k) (show(0:Int)<25 by decide);exact h ⟨((c/4%25+k)%25).toNat,()⟩
 have h1:=cC (c/288) (show(0:Int)<26 by decide);have h2:=cC ((k:Int)+c/7488%26) (show(0:Int)<26 by decide);have h3:=cC (c/4%26+(k:Int)/8) (show(0:Int)<26 by decide);split
 ·exact xT h3.2
 exact tP (tP (uo (xT h1.2) _ _) (DM h2.2)) (uo (xT h1.2) _ _)
inductive zU(vs:List V)(H:Hp)(Q:VK)(Z:XK):Prop
 |mk(c:Int)(k:Nat):vs=[.int c,.int k]->k<=100->(∀(H':Hp),aq H H'->Q (.str (nmV c k)) H')->zU vs H Q Z
theorem GN(T:Txt K mg A):Has P w K mg base 1 "_law_name" ["_law_cell","_law_k"] zU:=by
 refine T.wg.has eG (λvs H Q E h=>?_) (λf cdv A' outer s H vs Q E hr hu h=>?_)
 ·obtain⟨c,k,rfl,_⟩:=h;rfl
 obtain⟨c,k,rfl,h1,q⟩:=h;unfold nmV at q;refine⟨_,(ae (pst 2 eG.nd ao)
 (ae (pst 3 eG.nd (ax cx (fv 0) ab))
 (ae (aM (ptc (bj hu) (fv 3) ab)
  (ae (pst 4 eG.nd ao)
  (aj (aA (px hu (m_split (ax bz (fv 4) ao) (ao^af)) (ax cx (ax bz (ax cx (ax c9 (fv 0) ab) ab) (fv 1)) ab)))))
  aC)
 (ae (aM (ptc (bj hu) (fv 3) ab)
  (aj (aA (ax cS (px hu (fv 2) (ax cx (ax bz (ax cx (ax c9 (fv 0) ab) ab) (ax c9 (fv 1) ab)) ab)) (ax bz (ax cx (fv 1) ab) ab))))
  aC)
 (ae (pst 5 eG.nd (ax cx (ax c9 (fv 0) ab) ab))
 (ae (pst 6 eG.nd (ax cx (ax c9 (fv 0) ab) (ax bz (fv 5) ab)))
 (ae (pst 7 eG.nd (ax cS (px hu (fv 2) (ax cx (ax c9 (fv 0) ab) ab)) (fv 5)))
 (aj (aA (ax bz (ax bz (cK eT (fv 7) ky (cf (fv 6))) (px hu (fv 2) (ax cx (ax bz (fv 1) (ax cx (ax c9 (fv 0) ab) ab)) ab))) (cK eT (fv 7) (cf (fv 6)) ky))))))))))),?_⟩
 refine⟨(by show(0:Int)<4;decide),rfl,_,rfl,aE (λb1=>?_) (λb1=>?_)⟩
 ·rw[if_pos b1]at q;refine⟨(by decide+kernel),rfl,_,_,words,rfl,rfl,BZ,λl hl=>?_⟩;obtain⟨s1,e1⟩:=alc hl (HO.lst (words.map V.str));generalize upd H l _=H1 at s1 e1⊢;obtain⟨j0,j1⟩:=cC (c/4%25+k) (show(0:Int)<25 by decide);have hk:((c/4%25+k)%25).toNat<words.length:=by rw[pe];omega
  have e:atI (words.map V.str) ((c/4%25+k)%25)=UT (.str (words.getD ((c/4%25+k)%25).toNat QU)):=by
   have e:=d6 (xs:=words.map V.str) (j:=((c/4%25+k)%25).toNat) (v:=.str (words.getD ((c/4%25+k)%25).toNat QU)) (by rw[KP,Kw hk,Ll,Kw hk];rfl);rw[show((((c/4%25+k)%25).toNat:Nat):Int)=(c/4%25+k)%25 by omega]at e;exact e
  exact⟨⟨∅,∅⟩,(by show(0:Int)<25;decide),(by show(0:Int)<25;decide),(lix (SqL.of e1) e (q _ s1))⟩
 rw[if_neg b1]at q;refine⟨rfl,_,rfl,aE (λb2=>?_) (λb2=>?_)⟩
 ·rw[if_pos b2]at q;obtain⟨j0,j1⟩:=cC (c/4%26+(k:Int)/8) (show(0:Int)<26 by decide);obtain⟨m0,m1⟩:=cC (k:Int) (show(0:Int)<8 by decide);exact⟨⟨∅,∅⟩,(by show(0:Int)<26;decide),⟨∅,∅⟩,(by show(0:Int)<26;decide),_,by decide+kernel,yi j0 j1,(by show(0:Int)<8;decide),(),(),by show 1<=1000;decide,q _ (aq.refl _)⟩
 rw[if_neg b2]at q;obtain⟨m0,m1⟩:=cC (c/4) (show(0:Int)<8 by decide);obtain⟨j0,j1⟩:=cC (c/288) (show(0:Int)<26 by decide);obtain⟨i0,i1⟩:=cC (k+c/7488%26) (show(0:Int)<26 by decide);have rl:(oR ⟨#[mq (c/288%26)]⟩ (c/4%8)).length<=1000:=DX (KI _) ();refine⟨⟨∅,∅⟩,(by show(0:Int)<8;decide),⟨∅,∅⟩,(by show(0:Int)<c/4%8+1;omega),⟨∅,∅⟩,(by show(0:Int)<26;decide),_,by decide+kernel,yi j0 j1,(),(),by show 1<=1000;decide,?_⟩;have s1:=SY (oR ⟨#[mq (c/288%26)]⟩ (c/4%8)) UU (UT (c/32%(c/4%8+1)));have s2:=SY (oR ⟨#[mq (c/288%26)]⟩ (c/4%8)) (UT (c/32%(c/4%8+1))) UU;refine⟨_,rfl,sz rl,⟨∅,∅⟩,(by show(0:Int)<26;decide),(by show(0:Int)<26;decide),_,by decide+kernel,yi i0 i1,⟨KS (m:=1000+1) (R9 (KS s1 rl) 1) ∅,_,rfl,sz rl,⟨?_,q _ (aq.refl _)⟩⟩⟩;rw[w9];exact KS (m:=1000+1+1000) (Nat.add_le_add (R9 (KS s1 rl) 1) (KS s2 rl)) ∅
def cellAt(ns:List Int)(k:Int):Int:=if k<(ns.length:Int)then ns.getD k.toNat 0 else 0
theorem HH{ns:List Int}{k:Int}(h0:0<=k)(h1:k<(ns.length:Int)):atI (ns.map V.int) k=UT (.int (ns.getD k.toNat 0)):=by
 have hk:k.toNat<ns.length:=()
 have e:=d6 (xs:=ns.map V.int) (j:=k.toNat) (v:=.int (ns.getD k.toNat 0)) (by rw[KP,Kw hk,Ll,Kw hk];rfl);rw[show((k.toNat:Nat):Int)=k by omega]at e;exact e
inductive zX(K:OQ)(vs:List V)(H:Hp)(Q:VK)(Z:XK):Prop
 |mk(a:OM)(ns:List Int)(k:Int):vs=[.ref a,.int k]->SqL K H a (ns.map V.int)->0<=k->Q (.int (cellAt ns k)) H->zX K vs H Q Z
theorem yJ(T:Txt K mg A):Has P w K mg base 1 "_law_cell_at" ["_law_script","_law_k"] (zX K):=by
 refine T.pH.has rD (λvs H Q E h=>?_) (λf cdv A' outer s H vs Q E hr hu h=>?_)
 ·obtain⟨a,ns,k,rfl,_⟩:=h;rfl
 obtain⟨a,ns,k,rfl,hS,h0,q⟩:=h;unfold cellAt at q;have el:(((ns.map V.int).length:Nat):Int)=(ns.length:Int):=by rw[Ky]
 refine⟨_,(ae (aM (ptc qJ (fv 1) (pcB bS T.cD (fv 0^af)))
  (aj (aA (px hu (fv 0) (fv 1))))
  aC)
 (aj (aA ab))),?_⟩
 refine KJ ⟨_,_,rfl,KJ ⟨_,hS,rfl⟩,_,rfl,aE (λc=>?_) (λc=>?_)⟩
 ·have c':k<(((ns.map V.int).length:Nat):Int):=of_decide_eq_true c;rw[el]at c';rw[if_pos c']at q;exact lix hS (HH h0 c') q
 have c':¬ k<(((ns.map V.int).length:Nat):Int):=of_decide_eq_false (Mt.mpr c);rw[el]at c';rw[if_neg c']at q;exact q
theorem Ag:((10:Int)^(12:Int).toNat)=1000000000000:=∅
def Ee:List Int:=[48271,69621,39373,16807,40692,30323,51749]
def DL:List Int:=[1000033,999983,999979,1000037,999961,1000039,999959]
theorem FG(w:Nat)(h:w<=6):∃a b:Int,atI (Ee.map V.int) (w:Int)=UT (.int a)/\atI (DL.map V.int) (w:Int)=UT (.int b)/\0<a/\a<100000/\0<b:=by
 have:=lt7 w ();rcases this with rfl|rfl|rfl|rfl|rfl|rfl|rfl<;>exact⟨_,_,rfl,rfl,∅,∅,∅⟩
inductive Cb(vs:List V)(H:Hp)(Q:VK)(Z:XK):Prop
 |mk(c:Int)(k:Nat)(n:Int):vs=[.int c,.int k,.int n]->k<=6->0<n->(∀(m:Int)(H':Hp),0<=m->m<n->aq H H'->Q (.int m) H')->Cb vs H Q Z
theorem oA(T:Txt K mg A):Has P w K mg base 1 "_law_mix" ["_law_cell","_law_way","_law_many"] Cb:=by
 refine T.zY.has nY (λvs H Q E h=>?_) (λf cdv A' outer s H vs Q E hr hu h=>?_)
 ·obtain⟨c,k,n,rfl,_⟩:=h;rfl
 obtain⟨c,k,n,rfl,hk,n0,q⟩:=h;refine⟨_,(ae (aM (ptc (yy hu) (ax c9 (fv 0) (ax pE ab ab)) ab)
  (aj (aA (ax cx (ax Cp (fv 0) (ax bz (ax cS ab (fv 1)) ab)) (fv 2))))
  aC)
 (ae (pst 3 nY.nd (ax bz (ax cx (fv 0) ab) ab))
 (ae (pst 3 nY.nd (ax cS (fv 3) (px hu (bR (ab^ab^ab^ab^ab^ab^ab^af)) (fv 1))))
 (aj (aA (ax cx (ax cx (fv 3) (px hu (bR (ab^ab^ab^ab^ab^ab^ab^af)) (fv 1))) (fv 2))))))),?_⟩
 refine⟨⟨∅,∅,∅⟩,⟨∅,∅⟩,rfl,_,rfl,aE (λ_=>?_) (λ_=>?_)⟩
 ·have m:=cC (c/2^(12*(k:Int)+1).toNat) n0;exact⟨.inl ⟨∅,∅⟩,(by show(0:Int)<=12*(k:Int)+1;omega),n0,q _ _ m.1 m.2 (aq.refl _)⟩
 obtain⟨a,b,ea,eb,a0,a1,b0⟩:=FG k hk;refine⟨(by show(0:Int)<1000003;decide),⟨by show 7<=sizeLine;decide,λl hl=>?_⟩⟩;obtain⟨s1,e1⟩:=alc hl (HO.lst (Ee.map V.int));change upd H l (HO.lst (Ee.map V.int)) l=_ at e1;refine lix (SqL.of e1) ea ⟨.inr ⟨(),()⟩,⟨by show 7<=sizeLine;decide,λl2 hl2=>?_⟩⟩;have s2:=aq.upd hl2 (HO.lst (DL.map V.int));have e2:upd (upd H l (HO.lst (Ee.map V.int))) l2 (HO.lst (DL.map V.int)) l2=UT (.lst (DL.map V.int)):=ak;have m:=cC ((c%1000003+1)*a%b) n0;exact lix (SqL.of e2) eb ⟨b0,n0,q _ _ m.1 m.2 (s1.trans s2)⟩
inductive uu(vs:List V)(H:Hp)(Q:VK)(Z:XK):Prop
 |mk(c:Int):vs=[.int c]->(∀n,In n->Q (.int n) H)->uu vs H Q Z
theorem BK(T:Txt K mg A):Has P w K mg base 1 "_law_number" ["_law_cell"] uu:=by
 refine T.nZ.has nB (λvs H Q E h=>?_) (λf cdv A' outer s H vs Q E hr hu h=>?_)
 ·obtain⟨c,rfl,_⟩:=h;rfl
 obtain⟨c,rfl,q⟩:=h;refine⟨_,(ae (aM (ptc qJ (ax cx (fv 0) ab) ab)
  (aj (aA (ax cx (ax c9 (fv 0) ab) ab)))
  aC)
 (ae (aM (ptc (bj hu) (ax cx (fv 0) ab) ab)
  (aj (aA (ax kY (ax kY (ax pE ab ab) ab) (ax cx (ax c9 (fv 0) ab) ab))))
  aC)
 (aj (aA (ax cx (ax c9 (fv 0) ab) (ax pE ab ab)))))),?_⟩
 have m4:=cC (c/4) (show(0:Int)<4 by decide);have m3:=cC (c/4) (show(0:Int)<3 by decide);have mm:=cC (c/4) (show(0:Int)<1000000000000 by decide);refine⟨(by show(0:Int)<4;decide),_,rfl,aE (λ_=>⟨⟨∅,∅⟩,(by show(0:Int)<4;decide),q _ ⟨m4.1,()⟩⟩) (λ_=>⟨(by show(0:Int)<4;decide),rfl,_,rfl,aE (λ_=>⟨⟨∅,∅,∅⟩,⟨∅,∅⟩,(by show(0:Int)<3;decide),by rw[Ag];exact q _ ⟨(),()⟩⟩) (λ_=>?_)⟩)⟩;exact⟨⟨∅,∅⟩,⟨∅,∅,∅⟩,(by show(0:Int)<10^(12:Int).toNat;decide),by rw[Ag];exact q _ ⟨mm.1,mm.2⟩⟩
end
section
variable{P:Program}{w:OX}{K:OQ}{mg:Str->Option ON}{base:O8}{A:Adr}{g:Gc}{d:Gd}
seal PE PA PS PSs PT PW
def AE(g:Gc)(lo:Bool)(a b:Int)(i:Nat):Bool:=lo||(decide (a<=g.vw i)&&decide (g.vw i<=b))
def EW(g:Gc)(lo:Bool)(a b:Int):V->Bool
 | .str x=>(O2 25).any λi=>decide (g.N i=x)&&AE g lo a b i
 |_=>false
theorem zI(O:jH g){lo:Bool}{a b:Int}{i:Nat}(h:i<25):EW g lo a b (.str (g.N i))=AE g lo a b i:=by
 unfold EW;dsimp only;rw[LQ,LM];constructor
 ·rintro⟨j,hj,e⟩;rw[Mb,decide_eq_true_iff]at e;rw[O.D j i (Lu.mp hj) h e.1]at e;exact e.2
 exact λe=>⟨i,Lu.mpr h,by rw[decide_eq_true rfl,e];rfl⟩
theorem wM(O:jH g){lo:Bool}{a b:Int}:∀{xs:List Nat},(∀i∈xs,i∈g.vk)->((nV g.N xs).filter (EW g lo a b)).map (λx=>x)=nV g.N (xs.filter (AE g lo a b))
 | [],_=>rfl
 |i::r,h=>by
  have ih:=wM O (lo:=lo) (a:=a) (b:=b) (xs:=r) λj hj=>h j (Kx _ hj);have e:=zI O (lo:=lo) (a:=a) (b:=b) (O.vb i (h i Kv)).1;show((V.str (g.N i)::nV g.N r).filter _).map _=_;rw[MP]at ih⊢;rw[LU,LU,e];cases AE g lo a b i
  ·simpa using ih
  simpa using ih
structure Vo(g:Gc)(xs:List Nat)(a b:Int)(ys:List Nat):Prop where
 sub:∀i∈ys,i∈xs
 has:∀i∈xs,a<=g.vw i->g.vw i<=b->i∈ys
 len:ys.length<=xs.length
inductive CA(K:OQ)(vs:List V)(H:Hp)(Q:VK)(Z:XK):Prop
 |mk(g:Gc)(d:Gd)(l:OM)(lo:Bool)(a b:Int)(xs:List Nat):vs=[.ref g.S,.ref l,.bl lo,.int a,.int b]->jH g->BAt g H d->SqL K H l (nV g.N xs)->(∀i∈xs,i∈g.vk)->xs.length<=1000->(∀(D:OM)(ys:List Nat)(H':Hp),aq H H'->H D=UU->H' D=UT (.lst (nV g.N ys))->Vo g xs a b ys->Q (.ref D) H')->CA K vs H Q Z
theorem wX(T:Txt K mg A):Has P w K mg base 1 "_law_fit" ["_law_state","_law_some","_law_loose","_law_low","_law_high"] (CA K):=by
 refine T.zW.has yV (λvs H Q E h=>?_) (λf cdv A' outer s H vs Q E hr hu h=>?_)
 ·obtain⟨g,d,l,lo,a,b,xs,rfl,_⟩:=h;rfl
 obtain⟨g,d,l,lo,a,b,xs,rfl,O,B,hl,hx,xl,q⟩:=h;have vb:∀j∈g.vk,j<25:=λj hj=>(O.vb j hj).1;refine⟨_,(aj (aA (jd (N:=["_law_name_here","_law_loose","_law_low","_law_high","_law_state"]) (own:=1) (fr:=[2,3,4,0]) (cQ.of (by kernel_rfl!)) rfl (df (fv 1)) (λb=>pgn (i:=0) (show PM (["_law_name_here","_law_loose","_law_low","_law_high","_law_state"]:List P0) by decide+kernel) rfl) (λb=>nK (PW.pt (pw_or (bX (fv 1) (λ_=>rfl)) (pw_or1 (PW.pt (pw_and (ptc yq (fv 2) (px hu (px hu (fv 4) ao) (fv 0))) (pw_and1 (ptc yq (px hu (px hu (fv 4) ao) (fv 0)) (fv 3))))))))) (λb=>fv 0)))),KJ ⟨⟨_,hl⟩,hZ (K:=K) (EW g lo a b) (λx=>x) hl (az (by rw[Ky];exact xl)) (λb' x H2 R hm s2 k=>?_) (λb' x H2 R hm hp s2 k=>k _ (aq.refl _)) (λD H2 hD s2 e=>?_)⟩⟩
 ·obtain⟨i,hi,rfl⟩:=KU.mp hm;have hi':=hx i hi;rw[zI O (O.vb i hi').1]at k;have hS:=s2 _ _ B.dy.hS;have hv:=mG O.D (.inl (s2 _ _ (aB _ _ B.st.hv))) vb hi';unfold AE at k;cases lo with
  |true=>exact⟨true,rfl,dO (k _ (aq.refl _))⟩
  |false=>
   refine⟨false,rfl,bH (dgk hS rfl ⟨_,hv,_,rfl,aE (λc=>?_) (λc=>?_)⟩)⟩
   ·refine dgk hS rfl ⟨_,hv,_,rfl,?_⟩;have:=k _ (aq.refl _);rw[c]at this;exact this
   have:=k _ (aq.refl _);rw[Mt.mpr c]at this;exact this
 rw[wM O hx]at e;refine q D _ H2 s2 hD e ⟨λi hi=>(Lw.mp hi).1,λi hi h1 h2=>Lw.mpr ⟨hi,?_⟩,LB _ _⟩;unfold AE;rw[decide_eq_true h1,decide_eq_true h2,Bool.and_true,Bool.or_true]
inductive wj(K:OQ)(vs:List V)(H:Hp)(Q:VK)(Z:XK):Prop
 |mk(g:Gc)(d:Gd)(c:Int)(k:Nat)(b:Int):vs=[.ref g.S,.int c,.int k,.int b]->jH g->BAt g H d->k<=6->(∀(t:Th)(H':Hp),aq H H'->t.ok g.ns->Q (t.v g.N) H')->wj K vs H Q Z
theorem qo(T:Txt K mg A):Has P w K mg base 2 "_law_thing" ["_law_state","_law_cell","_law_way","_law_high"] (wj K):=by
 have NA:=@wX P w _ _ base _ T;have E9:=@oA P w _ _ base _ T;have NL:=@BK P w _ _ base _ T;refine T.tZ.has (k:=1) kD (λvs H Q E h=>?_) (λf cdv A' outer s H vs Q E hr hu h=>?_)
 ·obtain⟨g,d,c,k,b,rfl,_⟩:=h;rfl
 obtain⟨g,d,c,k,b,rfl,O,B,hk,q⟩:=h;have nl:=O.nl;refine⟨_,(ae (pst 4 kD.nd (ar NA hr (fv 0^px hu (fv 0) ao^lq^ab^fv 3^af)))
 (ae (pst 5 kD.nd (ar E9 hr (fv 1^fv 2^ax bz (pcB bS T.cD (fv 4^af)) ab^af)))
 (ae (aM (ptc qJ (fv 5) (pcB bS T.cD (fv 4^af)))
  (aj (aA (px hu (fv 4) (fv 5))))
  aC)
 (aj (aA (ar NL hr (px hu (bR (ax c9 (ax cS (ax cx (fv 1) ab) (ax bz (fv 2) ab)) ab^ax Cp (fv 1) (ax bz ab (ax cS ab (fv 2)))^af)) (pcT oe T.mH (pec (yy hu) (ax c9 (fv 1) (ax pE ab ab)) ab^af))^af))))))),?_⟩
 refine dgk B.dy.hS rfl ⟨g,d,g.LN,false,0,b,g.ns,rfl,O,B,SqL.of (aB _ _ B.st.hn),O.nv,(),λD ys H1 s1 hD eD F=>?_⟩;have e:(((nV g.N ys).length:Nat):Int)=(ys.length:Int):=by rw[Ky]
 try dsimp only
 refine lnl eD ⟨c,k,_,rfl,hk,(),λm H2 m0 m1 s2=>?_⟩;have eD2:=s2 _ _ eD;try dsimp only
 refine lnl eD2 ⟨_,rfl,aE (λz=>?_) (λ_=>?_)⟩
 ·have z:=of_decide_eq_true z;rw[e]at z;obtain⟨x,hx,_,ha⟩:=lO (λi=>V.str (g.N i)) m0 z;exact lix (SqL.of eD2) ha (q (.x x) H2 (s1.trans s2) (F.sub x hx))
 refine⟨(by show(0:Int)<1000003;decide),.inr ⟨(),()⟩,⟨∅,∅⟩,.inl ⟨∅,∅⟩,(by show(0:Int)<=85+44*(k:Int);omega),⟨by show 2<=sizeLine;decide,λl hl=>?_⟩⟩;obtain⟨s3,e3⟩:=alc hl (HO.lst [V.int (c%1000003*((k:Int)+5)/3),V.int (c/2^(85+44*(k:Int)).toNat)]);refine⟨⟨∅,∅,∅⟩,⟨∅,∅⟩,rfl,_,rfl,KJ ?_⟩;have fin:∀n,In n->Q (.int n) _:=λn hn=>q (.i n) _ ((s1.trans s2).trans s3) hn;cases (!decide (V.int (c/10^(18:Int).toNat)=V.int 0))
 ·exact⟨_,_,KJ (SqL.of e3),rfl,_,rfl,fin⟩
 exact⟨_,_,KJ (SqL.of e3),rfl,_,rfl,fin⟩
def opL:List Str:=["+","-","*","over","rest","<","="]
inductive vW(K:OQ)(vs:List V)(H:Hp)(Q:VK)(Z:XK):Prop
 |mk(g:Gc)(d:Gd)(c b:Int):vs=[.ref g.S,.int c,.int b]->jH g->BAt g H d->(∀(p:OM)(val:Val)(H':Hp),aq H H'->H p=UU->H' p=UT (.tup (vV g.N val))->val.ok g.ns->Q (.ref p) H')->vW K vs H Q Z
theorem vt(T:Txt K mg A):Has P w K mg base 3 "_law_value" ["_law_state","_law_cell","_law_high"] (vW K):=by
 have NA:=@wX P w _ _ base _ T;have E9:=@oA P w _ _ base _ T;have NB:=@qo P w _ _ base _ T;refine T.tG.has (k:=2) fD (λvs H Q E h=>?_) (λf cdv A' outer s H vs Q E hr hu h=>?_)
 ·obtain⟨g,d,c,b,rfl,_⟩:=h;rfl
 obtain⟨g,d,c,b,rfl,O,B,q⟩:=h;refine⟨_,(ae (pst 3 fD.nd (ar E9 hr (fv 1^ab^ab^af)))
 (ae (pst 4 fD.nd (ar NB hr (fv 0^fv 1^ab^fv 2^af)))
 (ae (pst 5 fD.nd (ar NA hr (fv 0^px hu (fv 0) ao^lq^ab^fv 2^af)))
 (ae (aM (ptc qJ (fv 3) ab)
  (aj (aA (bb (fv 4^af))))
  aC)
 (ae (aM (PW.pt (pw_and (ptc (bj hu) (fv 3) ab) (pw_and1 (ptc rR (pcB bS T.cD (fv 5^af)) ab))))
  (aj (aA (bb (px hu (fv 5) (ar E9 hr (fv 1^ab^pcB bS T.cD (fv 5^af)^af))^ao^fv 4^af))))
  aC)
 (ae (pst 6 fD.nd (px hu (bR (ao^ao^ao^ao^ao^ao^ao^af)) (ar E9 hr (fv 1^ab^ab^af))))
 (aj (aA (bb (fv 4^fv 6^ar NB hr (fv 0^fv 1^ab^fv 2^af)^af)))))))))),?_⟩
 refine⟨c,6,9,rfl,∅,∅,λm H1 m0 m1 s1=>?_⟩;have B1:=B.same s1;try dsimp only
 refine⟨g,d,c,1,b,rfl,O,B1,∅,λt H2 s2 ht=>?_⟩;have B2:=B1.same s2;have z2:=s1.trans s2;try dsimp only
 refine dgk B2.dy.hS rfl ⟨g,d,g.LL,false,0,b,[6,10],rfl,O,B2,SqL.of (aB _ _ B2.st.hl),(λi hi=>O.cv i (by revert i;decide)),∅,λD ys H3 s3 hD eD F=>?_⟩;have B3:=B2.same s3;have z3:=z2.trans s3;have e:(((nV g.N ys).length:Nat):Int)=(ys.length:Int):=by rw[Ky]
 have new:∀{x:OM}{H4:Hp},aq H3 H4->H4 x=UU->H x=UU:=λz h=>aq.free (z3.trans z) h;try dsimp only
 refine ah λM0 K0=>⟨_,rfl,aE (λ_=>⟨by show 1<=sizeLine;decide,λp hp=>q p (.one t) _ (z3.trans (aq.upd hp _)) (new (aq.refl _) hp) ak ht⟩) (λ_=>K0 _ _ (ah λM1 K1=>?_))⟩;have rest:M1 [UT (.ref g.S),UT (.int c),UT (.int b),UT (.int m),UT (t.v g.N),UT (.ref D),UU] H3:=K1 _ _ (by
  refine⟨by show 7<=sizeLine;decide,λl hl=>?_⟩;obtain⟨s4,e4⟩:=alc hl (HO.lst (opL.map V.str));change upd H3 l (HO.lst (opL.map V.str)) l=_ at e4;refine⟨c,4,7,rfl,∅,∅,λm2 H5 n0 n1 s5=>?_⟩;obtain⟨x,hx,_,ha⟩:=lO V.str (xs:=opL) n0 n1;refine lix (SqL.of (s5 _ _ e4)) ha ?_;have z5:=s4.trans s5;refine⟨g,d,c,2,b,rfl,O,(B3.same s4).same s5,∅,λt2 H6 s6 ht2=>?_⟩;exact⟨by show 3<=sizeLine;decide,λp hp=>q p (.op t x t2) _ ((z3.trans (z5.trans s6)).trans (aq.upd hp _)) (new (z5.trans s6) hp) ak ⟨ht,ht2,hx⟩⟩)
 refine⟨rfl,_,rfl,aE (λ_=>?_) (λ_=>bH rest)⟩;refine lnl eD ⟨_,rfl,aE (λz=>?_) (λ_=>rest)⟩;have z:=of_decide_eq_true z;rw[e]at z;refine lnl eD ⟨c,3,_,rfl,∅,(by rw[e];exact z),λm2 H5 n0 n1 s5=>?_⟩;rw[e]at n1;obtain⟨x,hx,_,ha⟩:=lO (λi=>V.str (g.N i)) n0 n1;exact lix (SqL.of (s5 _ _ eD)) ha ⟨by show 3<=sizeLine;decide,λp hp=>q p (.atl x t) _ ((z3.trans s5).trans (aq.upd hp _)) (new s5 hp) ak ⟨F.sub x hx,ht⟩⟩
end
section
variable{P:Program}{w:OX}{K:OQ}{mg:Str->Option ON}{base:O8}{A:Adr}{g:Gc}{d:Gd}{H:Hp}
seal PE PA PS PSs PT PW
structure fG(g:Gc)(d:Gd)(H:Hp)(a:OM)(at_:Nat)(rank aD cost:Int)(fc:Option Int):Prop where
 last:atI (V.ref d.a0::d.as.map V.ref) (-1)=UT (.ref a)
 fr:H a=UT (.dK (frK at_ rank aD cost fc))
 mem:a∈d.M g
 nS:a≠g.S
 nR:a≠g.LR
 nO:a≠d.lo
 rk:0<=rank/\rank<=2
 hf:aD=cL 1 d.fz
 hb:1<=aD/\aD<=36
 c0:0<=cost
 lf:fc≠UU->∃fs f,d.fz=fs++[f]/\f.fc=fc
theorem kF{α:Type}(xs:List α)(x:α):atI (xs++[x]) (-1)=UT x:=by
 unfold atI ixN;rw[if_neg ∅,if_pos (by simp;omega)];show(xs++[x])[(-1+(((xs++[x]).length:Nat):Int)).toNat]?=UT x;rw[show(-1+(((xs++[x]).length:Nat):Int)).toNat=xs.length by simp;omega];simp
theorem jr(h:(d.M g).Nodup):g.S≠g.LR/\g.S≠d.lo/\g.LR≠d.lo/\∀a∈d.a0::d.as,a≠g.S/\a≠g.LR/\a≠d.lo:=by
 unfold Gd.M at h;obtain⟨h1,h⟩:=KW.mp h;obtain⟨h2,h⟩:=KW.mp h;obtain⟨h3,h⟩:=KW.mp h;exact⟨λe=>h1 (by rw[e];simp),λe=>h1 (by rw[e];simp),λe=>h2 (by rw[e];simp),λa m=>⟨λe=>h1 (by rw[<-e];simp at m⊢;right;right;exact m),λe=>h2 (by rw[<-e];simp at m⊢;right;exact m),λe=>h3 (by rw[<-e];exact m)⟩⟩
theorem lP{α:Type}(xs:List α):xs=[]\/∃ys y,xs=ys++[y]:=by
 cases h:xs.reverse with
 |nil=>exact .inl (List.reverse_eq_nil_iff.mp h)
 |cons y r=>exact .inr ⟨r.reverse,y,by rw[<-List.reverse_reverse xs,h];simp⟩
theorem mU{α β:Type}{xs:List α}{ys:List β}{x:α}{y:β}(h:xs.length=ys.length):(xs++[x]).zip (ys++[y])=xs.zip ys++[(x,y)]:=by
 rw[List.zip_append h];rfl
theorem Paired.uZ{α β:Type}{F:α->β->Prop}:∀{xs:List α}{ys:List β}{y:β},Paired F xs (ys++[y])->∃us u,xs=us++[u]/\Paired F us ys/\F u y
 |_,[],_,.cons h .nil=>⟨[],_,rfl,.nil,h⟩
 |_,_::ys,_,.cons h r=>by
  obtain⟨us,u,e,p,q⟩:=Paired.uZ (ys:=ys) r;exact⟨_::us,u,by rw[e];rfl,.cons h p,q⟩
theorem oU.uZ(dy:oU H g d){fs:List Fz}{f:Fz}(e:d.fz=fs++[f]):∃us a,d.as=us++[a]/\Paired (λa p=>H a=UT (.dK (fzK p))) us ((ats (d.b g) fs).zip fs)/\H a=UT (.dK (fzK (d.b g+(bB fs).length,f))):=by
 have h:=dy.hf;rw[e,mM,mU (hJ _ _)]at h;exact Paired.uZ h
theorem BAt.top(h:BAt g H d)(O:jH g):∃a at_ rank aD cost fc,fG g d H a at_ rank aD cost fc:=by
 obtain⟨n1,n2,n3,n4⟩:=jr h.ok.nd;rcases lP d.fz with e|⟨fs,f,e⟩
 ·have hf:=h.dy.hf;rw[e]at hf;have ha:d.as=[]:=by
   cases ha:d.as with
   |nil=>rfl
   |cons a r=>rw[ha]at hf;cases hf
  obtain⟨m1,m2,m3⟩:=n4 d.a0 Kv;exact⟨d.a0,0,g.br,1,d.bc,UU,⟨by rw[ha];exact kF [] _,h.dy.h0,in0 g d,m1,m2,m3,O.br,by rw[e];rfl,⟨∅,∅⟩,h.ok.bc,λz=>absurd rfl z⟩⟩
 obtain⟨us,a,ea,p,fa⟩:=h.dy.uZ e;have ma:a∈d.as:=by rw[ea];simp
 obtain⟨m1,m2,m3⟩:=n4 a (Kx _ ma);have mf:f∈d.fz:=by rw[e];simp
 have F:=h.ok.fz f mf;have hh:=h.ok.hf;rw[e]at hh;refine⟨a,_,f.rank,f.aD,f.cost,f.fc,⟨?_,fa,inA g d ma,m1,m2,m3,F.rank,?_,h.ok.h36 f mf,F.cost,λ_=>⟨fs,f,e,rfl⟩⟩⟩
 ·rw[ea,La];exact kF (V.ref d.a0::us.map V.ref) _
 rw[e,fZ];exact hh.inv.2
def fN(H:Hp)(g:Gc)(d:Gd)(v:V)(n:Int)(a:OM)(at_:Nat)(rank aD cost:Int)(fc:Option Int):Hp:=upd (upd (upd H g.S (.dK (stK g { d with spent:=d.spent+aD*n }))) g.LR (.lst (d.rows++[v]))) a (.dK (frK at_ rank aD (cost+1) fc))
inductive uY(vs:List V)(H:Hp)(Q:VK)(Z:XK):Prop
 |mk(g:Gc)(d:Gd)(v:V)(n:Int)(a:OM)(at_:Nat)(rank aD cost:Int)(fc:Option Int):vs=[.ref g.S,v,.int n]->oU H g d->(d.M g).Nodup->d.rows.length<=1000->fG g d H a at_ rank aD cost fc->Q (.bl false) H->(d.spent+aD*n<=g.lim->Q (.bl true) (fN H g d v n a at_ rank aD cost fc))->uY vs H Q Z
theorem wF(T:Txt K mg A):Has P w K mg base 1 "_law_add" ["_law_state","_law_row","_law_steps"] uY:=by
 refine T.zF.has qX (λvs H Q E h=>?_) (λf cdv A' outer s H vs Q E hr hu h=>?_)
 ·obtain⟨g,d,v,n,a,at_,rank,aD,cost,fc,rfl,_⟩:=h;rfl
 obtain⟨g,d,v,n,a,at_,rank,aD,cost,fc,rfl,dy,nd,rl,T1,q1,q2⟩:=h;obtain⟨n1,n2,n3,n4⟩:=jr nd;refine⟨_,(ae (pst 3 qX.nd (px hu (px hu (fv 0) ao) (iL fk ab)))
 (ae (aM (ptc rR (ax bz (px hu (fv 0) ao) (ax cS (px hu (fv 3) ao) (fv 2))) (px hu (fv 0) ao))
  (aj (aA lq))
  aC)
 (ae (bu (ax bz (px hu (fv 0) ao) (ax cS (px hu (fv 3) ao) (fv 2))) (bC (fv 0) ao (bD hu UX)))
 (ae (aK (cI (px hu (fv 0) ao) (fv 1^af)))
 (ae (bu (ax bz (px hu (fv 3) ao) ab) (bC (fv 3) ao (bD hu UX)))
 (aj (aA lq))))))),?_⟩
 refine dgk dy.hS rfl ⟨_,rfl,(lix (SqL.of dy.hO) T1.last ?_)⟩;try dsimp only
 refine ah λM1 K1=>dgk dy.hS rfl (dgk T1.fr rfl ⟨.inl ⟨by have:=T1.hb;omega,by have:=T1.hb;omega⟩,dgk dy.hS rfl ⟨_,rfl,aE (λ_=>q1) (λc=>K1 _ _ ?_)⟩⟩);have c:¬ g.lim<d.spent+aD*n:=λz=>c (decide_eq_true z);have q2:=q2 ();try dsimp only
 refine ah λM2 K2=>dgk dy.hS rfl (dgk T1.fr rfl ⟨.inl ⟨by have:=T1.hb;omega,by have:=T1.hb;omega⟩,_,cP.k (k:=.inr "spent") dy.hS (show 13<sizeLine by decide),K2 _ _ ?_⟩);unfold fN at q2;rw[show UZ (stK g d) (.inr "spent") (.int (d.spent+aD*n))=stK g { d with spent:=d.spent+aD*n }from rfl];have hS1:upd H g.S (.dK (stK g { d with spent:=d.spent+aD*n })) g.S=UT (.dK (stK g { d with spent:=d.spent+aD*n })):=ak;have hR1:upd H g.S (.dK (stK g { d with spent:=d.spent+aD*n })) g.LR=UT (.lst d.rows):=ag n1.symm dy.hR;have hF1:upd H g.S (.dK (stK g { d with spent:=d.spent+aD*n })) a=UT (.dK (frK at_ rank aD cost fc)):=ag T1.nS T1.fr;generalize upd H g.S (.dK (stK g { d with spent:=d.spent+aD*n }))=H1 at hS1 hR1 hF1 q2⊢;try dsimp only
 refine ah λM3 K3=>dgk hS1 rfl ⟨KJ ⟨rfl,_,SqL.of hR1⟩,_,_,_,rfl,rfl,hR1,az rl,?_⟩;have hF2:upd H1 g.LR (.lst (d.rows++[v])) a=UT (.dK (frK at_ rank aD cost fc)):=ag T1.nR hF1;generalize upd H1 g.LR (.lst (d.rows++[v]))=H2 at hF2 q2⊢;refine K3 _ _ ?_;try dsimp only
 exact dgk hF2 rfl ⟨_,cP.k (k:=.inr "cost") hF2 (show 5<sizeLine by decide),q2⟩
end
section
variable{P:Program}{w:OX}{K:OQ}{mg:Str->Option ON}{base:O8}{A:Adr}{g:Gc}{d:Gd}{H:Hp}
def mu(g:Gc)(d:Gd):Nat:=(d.lrs g).length+2*d.fz.length
theorem Ce{a b:Option Int}(h:Gb a=Gb b):a=b:=by
 cases a with
 |none=>cases b with
  |none=>rfl
  |some n=>cases h
 |some m=>cases b with
  |none=>cases h
  |some n=>cases h;rfl
theorem zu{a b:Nat}{r1 r2 h1 h2 c1 c2:Int}{f1 f2:Option Int}(h:frK a r1 h1 c1 f1=frK b r2 h2 c2 f2):a=b/\r1=r2/\h1=h2/\c1=c2/\f1=f2:=by
 unfold frK at h;simp only[List.cons.injEq,Prod.mk.injEq,V.int.injEq,true_and,and_true]at h;obtain⟨e1,e2,e3,e4,e5⟩:=h;exact⟨(),e2,e3,e4,Ce e5⟩
theorem BN{a:OM}{k1 k2:List (Key×V)}(h:H a=UT (.dK k1))(h':H a=UT (.dK k2)):k1=k2:=by
 rw[h]at h';exact HO.dK.inj (OS h')
theorem fG.cases(h:oU H g d){a:OM}{at_:Nat}{rank aD cost:Int}{fc:Option Int}(T:fG g d H a at_ rank aD cost fc):(d.fz=[]/\d.as=[]/\a=d.a0/\at_=0/\rank=g.br/\aD=1/\cost=d.bc/\fc=UU)\/∃fs f us,d.fz=fs++[f]/\d.as=us++[a]/\Paired (λa p=>H a=UT (.dK (fzK p))) us ((ats (d.b g) fs).zip fs)/\at_=d.b g+(bB fs).length/\rank=f.rank/\aD=f.aD/\cost=f.cost/\fc=f.fc:=by
 rcases lP d.fz with e|⟨fs,f,e⟩
 ·have hf:=h.hf;rw[e]at hf;have ha:d.as=[]:=by
   cases ha:d.as with
   |nil=>rfl
   |cons a r=>rw[ha]at hf;cases hf
  have l:=T.last;rw[ha]at l;have l2:=kF ([]:List V) (.ref d.a0);have e0:a=d.a0:=by
   have:=l.symm.trans l2;cases this;rfl
  subst e0;obtain⟨a1,a2,a3,a4,a5⟩:=zu (BN T.fr h.h0);exact .inl ⟨e,ha,rfl,a1,a2,a3,a4,a5⟩
 obtain⟨us,a',ea,p,fa⟩:=h.uZ e;have l:=T.last;rw[ea,La]at l;have l2:=kF (V.ref d.a0::us.map V.ref) (.ref a');have e0:a=a':=by
  have:=l.symm.trans l2;cases this;rfl
 subst e0;obtain⟨a1,a2,a3,a4,a5⟩:=zu (BN T.fr fa);exact .inr ⟨fs,f,us,e,ea,p,a1,a2,a3,a4,a5⟩
variable{v:V}{r:Lr}{n:Int}{a:OM}{at_:Nat}{rank aD cost:Int}{fc:Option Int}
theorem HL(T:fG g d H a at_ rank aD cost fc)(nd:(d.M g).Nodup):fN H g d v n a at_ rank aD cost fc g.S=UT (.dK (stK g { d with spent:=d.spent+aD*n })):=by
 unfold fN;rw[aw T.nS.symm,aw (jr nd).1,ak]
theorem Gg(T:fG g d H a at_ rank aD cost fc):fN H g d v n a at_ rank aD cost fc g.LR=UT (.lst (d.rows++[v])):=by
 unfold fN;rw[aw T.nR.symm,ak]
theorem uS:fN H g d v n a at_ rank aD cost fc a=UT (.dK (frK at_ rank aD (cost+1) fc)):=ak
theorem u4{x:OM}(h1:x≠g.S)(h2:x≠g.LR)(h3:x≠a):fN H g d v n a at_ rank aD cost fc x=H x:=by
 unfold fN;rw[aw h3,aw h2,aw h1]
theorem oy(T:fG g d H a at_ rank aD cost fc):Go (d.M g) H (d.M g) (fN H g d v n a at_ rank aD cost fc):=((Go.at (inS g d) _).trans (Go.at (inR g d) _)).trans (Go.at T.mem _)
theorem wI(h:(d.M g).Nodup):d.a0∉d.as/\d.as.Nodup:=by
 unfold Gd.M at h;obtain⟨_,h⟩:=KW.mp h;obtain⟨_,h⟩:=KW.mp h;obtain⟨_,h⟩:=KW.mp h;obtain⟨h4,h5⟩:=KW.mp h;exact⟨h4,h5⟩
theorem Paired.wV{α β:Type}{F G:α->β->Prop}:∀{xs:List α}{ys:List β},Paired F xs ys->(∀x∈xs,∀y,F x y->G x y)->Paired G xs ys
 |_,_,.nil,_=>.nil
 |_,_,.cons h r,k=>.cons (k _ Kv _ h) (Paired.wV r λx m=>k x (Kx _ m))
theorem BAt.add(h:BAt g H d)(O:jH g)(T:fG g d H a at_ rank aD cost fc)(hv:bZ g.N (del (d.M g) H) v r)(ok:r.ok g.ns g.tg g.dd)(c:su g.dd r<=n)(n0:0<=n)(fit:d.spent+aD*n<=g.lim)(m3:mu g d+3<=1000) :
  ∃d':Gd,d'.M g=d.M g/\BAt g (fN H g d v n a at_ rank aD cost fc) d'/\mu g d'<=mu g d+3/\d'.fz.length=d.fz.length/\fG g d' (fN H g d v n a at_ rank aD cost fc) a at_ rank aD (cost+1) fc/\d'.marks=d.marks:=by
 have nd:=h.ok.nd
 obtain⟨n1,n2,n3,n4⟩:=jr nd
 obtain⟨nd1,nd2⟩:=wI nd
 have go:=oy (v:=v) (n:=n) T
 have hS:=HL (v:=v) (n:=n) T nd
 have hR:=Gg (v:=v) (n:=n) T
 have hO:fN H g d v n a at_ rank aD cost fc d.lo=UT (.lst (.ref d.a0::d.as.map V.ref)):=by rw[u4 n2.symm n3.symm T.nO.symm];exact h.dy.hO
 have hb:=T.hb
 have ht:aD*su g.dd r<=aD*n:=Lh c ()
 have h0:0<=aD*n:=Lq () n0
 have rows:Paired (bZ g.N (del (d.M g) (fN H g d v n a at_ rank aD cost fc))) (d.rows++[v]) (d.lrs g++[r]):=Pb (hv.same go.same) (Paired.cR h.hr λ_ _=>bZ.same go.same)
 have sp:=h.ok.sp
 unfold mu at m3⊢
 rcases T.cases h.dy with⟨ez,eas,ea,et,er,eh,ec,ef⟩|⟨fs,f,us,ez,eas,pu,et,er,eh,ec,ef⟩
 ·have lr:Gd.lrs g { d with rows:=d.rows++[v],spent:=d.spent+aD*n,bs:=d.bs++[.leaf r],bc:=d.bc+1 }=d.lrs g++[r]:=by
   unfold Gd.lrs;dsimp only;rw[ez,mV];simp[bB,bf,flat]
  have h0':fN H g d v n a at_ rank aD cost fc d.a0=UT (.dK (frK 0 g.br 1 (d.bc+1) UU)):=by rw[ea]at *;rw[uS,et,er,eh,ec,ef]
  have len:(d.lrs g++[r]).length=(d.lrs g).length+1:=by simp
  have B:BAt g (fN H g d v n a at_ rank aD cost fc) { d with rows:=d.rows++[v],spent:=d.spent+aD*n,bs:=d.bs++[.leaf r],bc:=d.bc+1 }:=by
   refine h.go (d':={ d with rows:=d.rows++[v],spent:=d.spent+aD*n,bs:=d.bs++[.leaf r],bc:=d.bc+1 }) go ⟨hS,hR,hO,h0',?_⟩ ⟨nd,h.ok.mks,h.ok.ml,mO h.ok.bs ⟨ok,Lj⟩,by have:=h.ok.bc;show 0<=d.bc+1;omega,h.ok.fz,h.ok.fl,h.ok.hf,h.ok.h36,λe=>?_,⟨by show 0<=d.spent+aD*n;omega,.inl fit⟩,?_,⟨ow h.ok.dp.1 (by unfold dT;decide),h.ok.dp.2⟩⟩ (go.same _ _ h.hm) (by rw[lr];exact rows)
   ·dsimp only;rw[ez,eas];exact .nil
   ·have:=h.ok.pay e;dsimp only;rw[mN];simp only[cG,oG];rw[eh]at ht⊢;omega
   rw[lr,len];dsimp only;omega
  refine⟨{ d with rows:=d.rows++[v],spent:=d.spent+aD*n,bs:=d.bs++[.leaf r],bc:=d.bc+1 },rfl,B,?_,rfl,⟨?_,uS,T.mem,T.nS,T.nR,T.nO,T.rk,T.hf,T.hb,by have:=T.c0;omega,λz=>absurd ef z⟩,rfl⟩
  ·rw[lr,len];dsimp only;omega
  exact T.last
 have lr:Gd.lrs g { d with rows:=d.rows++[v],spent:=d.spent+aD*n,fz:=fs++[{ f with rows:=f.rows++[.leaf r],cost:=f.cost+1 }] }=d.lrs g++[r]:=by
  unfold Gd.lrs;dsimp only;rw[ez,dH,dH];simp[bB,bf,flat,Fz.op,Fz.gF,mV]
 have len:(d.lrs g++[r]).length=(d.lrs g).length+1:=by simp
 have hh:=h.ok.hf
 rw[ez]at hh
 have F:=h.ok.fz f (by rw[ez];simp)
 have f36:=h.ok.h36 f (by rw[ez];simp)
 have fl:=h.ok.fl
 rw[ez,Kz]at fl
 have di:=h.ok.dp.2
 rw[ez]at di
 have di:=di.inv
 have a0a:d.a0≠a:=λz=>nd1 (by rw[z,eas];simp)
 have ua:∀x∈us,x≠a:=λx hx z=>by
  rw[eas]at nd2;exact(Lm.mp nd2).2.2 x hx a (by simp) z
 have um:∀x∈us,x∈d.a0::d.as:=λx hx=>by rw[eas];simp[hx]
 have B:BAt g (fN H g d v n a at_ rank aD cost fc) { d with rows:=d.rows++[v],spent:=d.spent+aD*n,fz:=fs++[{ f with rows:=f.rows++[.leaf r],cost:=f.cost+1 }] }:=by
  refine h.go (d':={ d with rows:=d.rows++[v],spent:=d.spent+aD*n,fz:=fs++[{ f with rows:=f.rows++[.leaf r],cost:=f.cost+1 }] }) go ⟨hS,hR,hO,?_,?_⟩ ⟨nd,h.ok.mks,h.ok.ml,h.ok.bs,h.ok.bc,λx hx=>?_,?_,?_,λx hx=>?_,λe=>?_,⟨by show 0<=d.spent+aD*n;omega,.inl fit⟩,?_,⟨h.ok.dp.1,oi.app di.1 (ow di.2.1 (by unfold dT;rw[Lo]at fl;omega)) di.2.2⟩⟩ (go.same _ _ h.hm) (by rw[lr];exact rows)
  ·have m:=n4 d.a0 Kv;rw[u4 m.1 m.2.1 a0a];exact h.dy.h0
  ·dsimp only[Gd.b];rw[eas,mM,mU (hJ _ _)];refine Pb ?_ (Paired.wV pu λx hx y e=>?_)
   ·rw[uS,et,er,eh,ec,ef];rfl
   have m:=n4 x (um x hx);rw[u4 m.1 m.2.1 (ua x hx)];exact e
  ·rcases KA.mp hx with hx|hx
   ·exact h.ok.fz x (by rw[ez];simp[hx])
   rw[KC.mp hx];exact⟨F.bk,F.l0,F.r0,mO F.rows ⟨ok,Lj⟩,F.fst,F.lp,F.fc,F.f0,F.rank,by have:=F.cost;show 0<=f.cost+1;omega⟩
  ·dsimp only;rw[Kz];exact fl
  ·exact j6.app hh.inv.1 hh.inv.2
  ·rcases KA.mp hx with hx|hx
   ·exact h.ok.h36 x (by rw[ez];simp[hx])
   rw[KC.mp hx];exact f36
  ·have p:=h.ok.pay e;rw[ez,dE]at p;dsimp only;rw[dE];dsimp only;rw[mN];simp only[cG,oG];have e2:=hh.inv.2;rw[eh,e2]at ht⊢;omega
  rw[lr,len];dsimp only;rw[ez,Kz]at m3;rw[Kz];simp only[Lo]at m3⊢;omega
 refine⟨{ d with rows:=d.rows++[v],spent:=d.spent+aD*n,fz:=fs++[{ f with rows:=f.rows++[.leaf r],cost:=f.cost+1 }] },rfl,B,?_,by dsimp only;rw[ez,Kz,Kz];rfl,⟨T.last,uS,T.mem,T.nS,T.nR,T.nO,T.rk,?_,T.hb,by have:=T.c0;omega,λz=>⟨fs,_,rfl,by dsimp only;rw[ef]⟩⟩,rfl⟩
 ·rw[lr,len];dsimp only;rw[ez,Kz,Kz];simp only[Lo];omega
 dsimp only
 rw[fZ,T.hf,ez,fZ]
end
section
variable{P:Program}{w:OX}{K:OQ}{mg:Str->Option ON}{base:O8}{A:Adr}{g:Gc}{d:Gd}{H:Hp}
seal PE PA PS PSs PT PW
theorem BAt.mark(h:BAt g H d){D:OM}{ms:List Nat}(hD:H D=UT (.lst (nV g.N ms)))(nM:D∉d.M g)(sub:∀m∈ms,m∈d.marks)(len:ms.length<=d.marks.length):BAt g (upd H g.S (.dK (stK g { d with lm:=D,marks:=ms }))) { d with lm:=D,marks:=ms }:=by
 obtain⟨n1,n2,n3,n4⟩:=jr h.ok.nd;have go:Go (d.M g) H (d.M g) (upd H g.S (.dK (stK g { d with lm:=D,marks:=ms }))):=Go.at (inS g d) _;have ml:=h.ok.ml;refine h.go (d':={ d with lm:=D,marks:=ms }) go ⟨ak,ag n1.symm h.dy.hR,ag n2.symm h.dy.hO,ag (n4 _ Kv).1 h.dy.h0,Paired.wV h.dy.hf λx hx y e=>ag (n4 x (Kx _ hx)).1 e⟩ ⟨h.ok.nd,λm hm=>h.ok.mks m (sub m hm),by show ms.length<=2;omega,h.ok.bs,h.ok.bc,h.ok.fz,h.ok.fl,h.ok.hf,h.ok.h36,h.ok.pay,h.ok.sp,h.ok.rl,h.ok.dp⟩ ?_ (Paired.cR h.hr λ_ _=>bZ.same go.same);exact aN nM (ag (λz:D=g.S=>nM (by rw[z];exact inS g d)) hD)
def Ca(g:Gc)(d:Gd)(H:Hp)(Q:VK)(u:V):Prop:=∀(d':Gd)(H':Hp),Go (d.M g) H (d'.M g) H'->BAt g H' d'->mu g d'<=mu g d+3->Q u H'
theorem BAt.free(h:BAt g H d){x:OM}(e:H x=UU):x∉d.M g:=λm=>h.al x m e
theorem BAt.new(h:BAt g H d){H':Hp}(z:aq H H'){x:OM}{o:HO}(e:H x=UU)(e':H' x=UT o):del (d.M g) H' x=UT o:=aN (h.free e) e'
inductive Ab(K:OQ)(vs:List V)(H:Hp)(Q:VK)(Z:XK):Prop
 |mk(g:Gc)(d:Gd)(c:Int)(lo:Bool):vs=[.ref g.S,.int c,.bl lo]->jH g->BAt g H d->mu g d+3<=1000->(∀H',aq H H'->Q (.bl false) H')->Ca g d H Q (.bl true)->Ab K vs H Q Z
theorem FE(T:Txt K mg A):Has P w K mg base 4 "_law_said" ["_law_state","_law_cell","_law_loose"] (Ab K):=by
 have NA:=@wX P w _ _ base _ T;have E9:=@oA P w _ _ base _ T;have NI:=@vt P w _ _ base _ T;have NF:=@wF P w _ _ base _ T;refine T.xc.has (k:=3) gC (λvs H Q E h=>?_) (λf cdv A' outer s H vs Q E hr hu h=>?_)
 ·obtain⟨g,d,c,lo,rfl,_⟩:=h;rfl
 obtain⟨g,d,c,lo,rfl,O,B,m3,q1,q2⟩:=h;obtain⟨a,at_,rank,aD,cost,fc,T1⟩:=B.top O;have vb:∀j∈g.vk,j<25:=λj hj=>(O.vb j hj).1;have mv:∀m∈d.marks,m∈g.vk/\m∈[11,12]:=λm hm=>⟨O.cv m (CL.1 m (B.ok.mks m hm)),B.ok.mks m hm⟩;have ml:=B.ok.ml;refine⟨_,(ae (pst 3 gC.nd (ar NA hr (fv 0^px hu (fv 0) ao^fv 2^px hu (px hu (px hu (fv 0) ao) (iL fk ab)) ao^ab^af)))
 (ae (aM (ptc (bj hu) (pcB bS T.cD (fv 3^af)) ab)
  (aj (aA lq))
  aC)
 (ae (pst 4 gC.nd (px hu (fv 3) (ar E9 hr (fv 1^ab^pcB bS T.cD (fv 3^af)^af))))
 (ae (pst 5 gC.nd (ar NA hr (fv 0^px hu (fv 0) ao^fv 2^px hu (px hu (fv 0) ao) (fv 4)^ab^af)))
 (ae (pst 6 gC.nd (px hu (fv 5) (ar E9 hr (fv 1^ab^pcB bS T.cD (fv 5^af)^af))))
 (ae (aM (bX (ar NF hr (fv 0^bb (ao^fv 6^ar NI hr (fv 0^fv 1^ab^af)^fv 4^af)^ab^af)) (λ_=>rfl))
  (aj (bu (jd (N:=["_law_one","_law_mark"]) (own:=1) (fr:=[4]) (cQ.of (by kernel_rfl!)) rfl (df (px hu (fv 0) ao)) (λb=>pgn (i:=0) (show PM (["_law_one","_law_mark"]:List P0) by decide+kernel) rfl) (λb=>nK (ptc (yy hu) (fv 0) (fv 1))) (λb=>fv 0)) (bC (fv 0) ao (bD hu UX))))
  aC)
 (aj (aA lq)))))))),?_⟩
 refine dgk B.dy.hS rfl (dgk B.dy.hS rfl ⟨_,rfl,(lix (SqL.of B.dy.hO) T1.last (dgk T1.fr rfl ⟨g,d,d.lm,lo,rank,2,d.marks,rfl,O,B,SqL.of (aB _ _ B.hm),(λi hi=>(mv i hi).1),(),λD ys H1 s1 hD eD F=>?_⟩))⟩);have B1:=B.same s1;have e:(((nV g.N ys).length:Nat):Int)=(ys.length:Int):=by rw[Ky]
 try dsimp only
 refine ah λM1 K1=>lnl eD ⟨rfl,_,rfl,aE (λ_=>q1 _ s1) (λz=>?_)⟩;have y0:0<ys.length:=by
  rw[qb,decide_eq_true_iff,e]at z;omega
 refine K1 _ _ ?_;try dsimp only
 refine ah λM2 K2=>lnl eD ⟨c,5,_,rfl,∅,(by rw[e];omega),λk1 H2 a0 a1 s2=>?_⟩;rw[e]at a1;obtain⟨mk,hmk,_,ha⟩:=lO (λi=>V.str (g.N i)) a0 a1;refine lix (SqL.of (s2 _ _ eD)) ha (K2 _ _ ?_);have B2:=B1.same s2;have mkm:=F.sub mk hmk;have mkv:=(mv mk mkm).1;try dsimp only
 refine ah λM3 K3=>dgk B2.dy.hS rfl (dgk B2.dy.hS rfl ⟨_,mG O.D (.inl (aB _ _ B2.st.hv)) vb mkv,⟨g,d,g.LT,lo,g.vw mk,2,g.tg,rfl,O,B2,SqL.of (aB _ _ B2.st.ht),O.tv,by have:=O.tl;omega,λD3 zs H3 s3 hD3 eD3 F3=>K3 _ _ ?_⟩⟩);have e3:(((nV g.N zs).length:Nat):Int)=(zs.length:Int):=by rw[Ky]
 have z9:9∈zs:=F3.has 9 O.t9 (by rw[O.v9];exact(O.vb mk mkv).2.2) (by rw[O.v9];decide);have z0:0<zs.length:=MV.mpr λe=>by rw[e]at z9;cases z9
 have B3:=B2.same s3;try dsimp only
 refine ah λM4 K4=>lnl eD3 ⟨c,0,_,rfl,∅,(by rw[e3];omega),λk2 H4 b0 b1 s4=>?_⟩;rw[e3]at b1;obtain⟨x,hx,_,hax⟩:=lO (λi=>V.str (g.N i)) b0 b1;refine lix (SqL.of (s4 _ _ eD3)) hax (K4 _ _ ?_);have B4:=B3.same s4;have t4:=((s1.trans s2).trans s3).trans s4;have xt:=F3.sub x hx;try dsimp only
 refine ah λM5 K5=>⟨g,d,c,2,rfl,O,B4,λp val H5 s5 hp ep hv=>?_⟩;have B5:=B4.same s5;refine⟨by show 4<=sizeLine;decide,λr hr'=>?_⟩;have s6:=aq.upd hr' (HO.tup [V.str "say",.str (g.N x),.ref p,.str (g.N mk)]);have e6:upd H5 r (HO.tup [V.str "say",.str (g.N x),.ref p,.str (g.N mk)]) r=UT (.tup [V.str "say",.str (g.N x),.ref p,.str (g.N mk)]):=ak;generalize upd H5 r (HO.tup [V.str "say",.str (g.N x),.ref p,.str (g.N mk)])=H6 at s6 e6⊢;have B6:=B5.same s6;have t6:=(t4.trans s5).trans s6;have T6:fG g d H6 a at_ rank aD cost fc:=⟨T1.last,t6 _ _ T1.fr,T1.mem,T1.nS,T1.nR,T1.nO,T1.rk,T1.hf,T1.hb,T1.c0,T1.lf⟩;have hrow:bZ g.N (del (d.M g) H6) (.ref r) (.say x val mk):=⟨r,p,rfl,B5.new s6 hr' e6,λo ho=>by
  cases ho;exact B4.new (s5.trans s6) hp (s6 _ _ ep)⟩
 have go6:Go (d.M g) H (d.M g) H6:=Go.new t6;have rl:d.rows.length<=1000:=by
  have:=OU B6.hr;unfold mu at m3;omega
 refine⟨g,d,.ref r,1,a,at_,rank,aD,cost,fc,rfl,B6.dy,B6.ok.nd,rl,T6,⟨false,rfl,bH (K5 _ _ (q2 d H6 go6 B6 ()))⟩,λfit=>⟨true,rfl,dO ?_⟩⟩;obtain⟨d7,M7,B7,mu7,_,_,mk7⟩:=B6.add O T6 hrow (show x∈g.tg/\val.ok g.ns/\mk∈[11,12]from⟨xt,hv,(mv mk mkm).2⟩) (show(1:Int)<=1 from Lb _) ∅ fit m3;have go7:Go (d.M g) H (d7.M g) (fN H6 g d (.ref r) 1 a at_ rank aD cost fc):=by
  rw[M7];exact go6.trans (oy T6)
 generalize fN H6 g d (.ref r) 1 a at_ rank aD cost fc=H7 at B7 go7⊢;have hm7:=aB _ _ B7.hm;have ml7:=B7.ok.ml;refine dgk B7.dy.hS rfl (KJ ⟨⟨_,SqL.of hm7⟩,hZ (K:=K) (λv=>!decide (v=.str (g.N mk))) (λx=>x) (SqL.of hm7) (az (by rw[Ky];omega)) (λb' x H2 R hm s2 k=>?_) (λb' x H2 R hm hp s2 k=>k _ (aq.refl _)) (λD8 H8 hD8 s8 e8=>?_)⟩)
 ·obtain⟨i,_,rfl⟩:=KU.mp hm;exact⟨rfl,_,rfl,k _ (aq.refl _)⟩
 rw[MP,Nn]at e8;have B8:=B7.same s8;refine⟨_,cP.k (k:=.inr "marks") B8.dy.hS (show 13<sizeLine by decide),K5 _ _ ?_⟩;have B9:=B8.mark e8 (B7.free hD8) (λm hm=>(Lw.mp hm).1) (LB _ _);exact q2 { d7 with lm:=D8,marks:=d7.marks.filter ((λv=>!decide (v=V.str (g.N mk)))∘λi=>V.str (g.N i)) } _ (go7.trans ((Go.new s8).trans (Go.at (inS g d7) _))) B9 mu7
def b01(b:Bool):Int:=if b=true then 1 else 0
theorem Ia(x y:V)(b:Bool):atI [x,y] (b01 b)=UT (if b=true then y else x):=by cases b<;>rfl
theorem fG.same{a:OM}{at_:Nat}{rank aD cost:Int}{fc:Option Int}{H':Hp}(T:fG g d H a at_ rank aD cost fc)(s:aq H H'):fG g d H' a at_ rank aD cost fc:=⟨T.last,s _ _ T.fr,T.mem,T.nS,T.nR,T.nO,T.rk,T.hf,T.hb,T.c0,T.lf⟩
theorem wH(O:jH g){H':Hp}{r:Lr}{v:V}{n:Int}{Q:VK}{a:OM}{at_:Nat}{rank aD cost:Int}{fc:Option Int}(B:BAt g H' d)(go:Go (d.M g) H (d.M g) H')(m3:mu g d+3<=1000)(T1:fG g d H' a at_ rank aD cost fc)(hv:bZ g.N (del (d.M g) H') v r)(ok:r.ok g.ns g.tg g.dd)(c:su g.dd r<=n)(n0:0<=n)
  (q1:Q (.bl false) H') (q2:∀d',d'.M g=d.M g->BAt g (fN H' g d v n a at_ rank aD cost fc) d'->mu g d'<=mu g d+3->fG g d' (fN H' g d v n a at_ rank aD cost fc) a at_ rank aD (cost+1) fc->Q (.bl true) (fN H' g d v n a at_ rank aD cost fc)):uY [.ref g.S,v,.int n] H' Q E0:=by
 have rl:d.rows.length<=1000:=by
  have:=OU B.hr;unfold mu at m3;omega
 refine⟨g,d,v,n,a,at_,rank,aD,cost,fc,rfl,B.dy,B.ok.nd,rl,T1,q1,λfit=>?_⟩
 obtain⟨d',M',B',mu',_,T',_⟩:=B.add O T1 hv ok c n0 fit m3
 exact q2 d' M' B' mu' T'
inductive oq(K:OQ)(vs:List V)(H:Hp)(Q:VK)(Z:XK):Prop
 |mk(g:Gc)(d:Gd)(c k:Int)(lo:Bool):vs=[.ref g.S,.int c,.int k,.bl lo]->jH g->BAt g H d->mu g d+3<=1000->Ca g d H Q .non->oq K vs H Q Z
theorem qk(T:Txt K mg A):Has P w K mg base 5 "_law_plain" ["_law_state","_law_cell","_law_kind","_law_loose"] (oq K):=by
 have NA:=@wX P w _ _ base _ T;have E9:=@oA P w _ _ base _ T;have NB:=@qo P w _ _ base _ T;have NI:=@vt P w _ _ base _ T;have NF:=@wF P w _ _ base _ T;have Oy:=@FE P w _ _ base _ T;refine T.ue.has (k:=4) cE (λvs H Q E h=>?_) (λf cdv A' outer s H vs Q E hr hu h=>?_)
 ·obtain⟨g,d,c,k,lo,rfl,_⟩:=h;rfl
 obtain⟨g,d,c,k,lo,rfl,O,B,m3,q⟩:=h;obtain⟨a,at_,rank,aD,cost,fc,T1⟩:=B.top O;have vb:∀j∈g.vk,j<25:=λj hj=>(O.vb j hj).1;refine⟨_,(ae (pst 4 cE.nd (px hu (px hu (px hu (fv 0) ao) (iL fk ab)) ao))
 (ae (aM (PW.pt (pw_and (ptc (bj hu) (fv 2) ab) (pw_and1 (bX (ar Oy hr (fv 0^fv 1^fv 3^af)) (λ_=>rfl)))))
  (aj (uD))
  aC)
 (ae (pst 5 cE.nd (px hu (bR (ao^ao^af)) (pcT oe T.mH ((pec (Co hu) (fv 2) (bb (ab^ab^af)) ((by with_unfolding_all rfl)))^af))))
 (ae (pst 6 cE.nd (ar NA hr (fv 0^(px hu (bR (px hu (fv 0) ao^px hu (fv 0) ao^af)) (pcT oe T.mH ((pec (Co hu) (fv 2) (bb (ab^ab^af)) ((by with_unfolding_all rfl)))^af)))^fv 3^fv 4^ab^af)))
 (ae (pst 7 cE.nd (px hu (fv 6) (ar E9 hr (fv 1^ab^pcB bS T.cD (fv 6^af)^af))))
 (ae (aM (PW.pt (pw_and (ptc (bj hu) (fv 2) ab) (pw_and1 (PW.pt (pw_or (bX (fv 3) (λ_=>rfl)) (pw_or1 (ptc Kj (px hu (px hu (fv 0) ao) (px hu (px hu (fv 0) ao) ab)) (fv 4))))))))
  (ae (pst 5 cE.nd ao)
  (aj (pst 7 cE.nd (px hu (px hu (fv 0) ao) ab))))
  aC)
 (ae (pst 8 cE.nd (px hu (bR (px hu (px hu (fv 0) ao) (fv 7)^ab^af)) (pcT oe T.mH (fv 3^af))))
 (ae (pst 9 cE.nd (bb (fv 5^fv 7^ar NI hr (fv 0^fv 1^fv 8^af)^af)))
 (ae (aM (ptc (bj hu) (fv 5) ao)
  (aj (pst 9 cE.nd (bb (fv 5^fv 7^ar NB hr (fv 0^fv 1^ab^fv 8^af)^px hu (fv 9) ab^af))))
  aC)
 (aj (aK (ar NF hr (fv 0^fv 9^ab^af))))))))))))),?_⟩
 refine dgk B.dy.hS rfl ⟨_,rfl,(lix (SqL.of B.dy.hO) T1.last (dgk T1.fr rfl ?_))⟩;try dsimp only
 refine ah λM1 K1=>?_;have main:∀H1,aq H H1->M1 [UT (.ref g.S),UT (.int c),UT (.int k),UT (.bl lo),UT (.int rank),UU,UU,UU,UU,UU] H1:=λH1 s1=>K1 _ _ (by
  have B1:=B.same s1;obtain⟨b,hb⟩:∃b:Bool,inV (.int k) [.int 5,.int 6]=b:=⟨_,rfl⟩;refine ah λM2 K2=>⟨by show 2<=sizeLine;decide,λl hl=>?_⟩;obtain⟨s2,e2⟩:=alc hl (HO.lst [V.str "set",.str "send"]);generalize upd H1 l _=H2 at s2 e2⊢;refine⟨by show 2<=sizeLine;decide,λt ht=>?_⟩;obtain⟨s3,e3⟩:=alc ht (HO.tup [V.int 5,.int 6]);generalize upd H2 t _=H3 at s3 e3⊢;refine KJ ⟨_,Lg (SqT.of e3),rfl,rfl,_,rfl,(lix (SqL.of (s3 _ _ e2)) ((congrArg (λz=>atI [V.str "set",.str "send"] (b01 z)) hb).trans (Ia _ _ b)) (K2 _ _ ?_))⟩;have B3:=(B1.same s2).same s3;have t3:=(s1.trans s2).trans s3;clear s2 s3 e2 e3 hl ht B1 s1;try dsimp only
  refine ah λM3 K3=>dgk B3.dy.hS rfl (dgk B3.dy.hS rfl ⟨by show 2<=sizeLine;decide,λl hl=>?_⟩);obtain⟨s4,e4⟩:=alc hl (HO.lst [V.ref g.LT,.ref g.LH]);generalize upd H3 l _=H4 at s4 e4⊢;refine⟨by show 2<=sizeLine;decide,λt ht=>?_⟩;obtain⟨s5,e5⟩:=alc ht (HO.tup [V.int 5,.int 6]);generalize upd H4 t _=H5 at s5 e5⊢;refine KJ ⟨_,Lg (SqT.of e5),rfl,rfl,_,rfl,(lix (SqL.of (s5 _ _ e4)) ((congrArg (λz=>atI [V.ref g.LT,.ref g.LH] (b01 z)) hb).trans (Ia _ _ b)) ?_)⟩;have B5:=(B3.same s4).same s5;have t5:=(t3.trans s4).trans s5;have lt:∃(l':OM)(xs:List Nat),(if b=true then V.ref g.LH else V.ref g.LT)=.ref l'/\SqL K H5 l' (nV g.N xs)/\(∀i∈xs,i∈g.vk)/\xs.length<=1000/\(∃i∈xs,g.vw i=2)/\∀i∈xs,if b=true then i∈[0,1,2]else i∈g.tg:=by
   cases b with
   |true=>exact⟨g.LH,[0,1,2],rfl,SqL.of (aB _ _ B5.st.hh),λi hi=>O.cv i (CL.2.2 i hi),∅,⟨2,∅,O.v2⟩,λi hi=>hi⟩
   |false=>exact⟨g.LT,g.tg,rfl,SqL.of (aB _ _ B5.st.ht),O.tv,by have:=O.tl;omega,⟨9,O.t9,O.v9⟩,λi hi=>hi⟩
  obtain⟨l',xs,el,hl',xv,xl,⟨i2,hi2,v2⟩,xok⟩:=lt;rw[el];refine⟨g,d,l',lo,rank,2,xs,rfl,O,B5,hl',xv,xl,λD ys H6 s6 hD eD F=>K3 _ _ ?_⟩;have B6:=B5.same s6;have t6:=t5.trans s6;have e:(((nV g.N ys).length:Nat):Int)=(ys.length:Int):=by rw[Ky]
  have y2:i2∈ys:=F.has i2 hi2 (by rw[v2];exact T1.rk.2) (by rw[v2];decide);have y0:0<ys.length:=MV.mpr λe=>by rw[e]at y2;cases y2
  clear s4 s5 e4 e5 hl ht B3 B5 t3 t5 el hl';try dsimp only
  refine ah λM4 K4=>lnl eD ⟨c,0,_,rfl,∅,(by rw[e];omega),λk2 H7 b0 b1 s7=>?_⟩;rw[e]at b1;obtain⟨x,hx,_,hax⟩:=lO (λi=>V.str (g.N i)) b0 b1;refine lix (SqL.of (s7 _ _ eD)) hax (K4 _ _ ?_);have B7:=B6.same s7;have t7:=t6.trans s7;have xo:=xok x (F.sub x hx);have xv':=xv x (F.sub x hx);try dsimp only
  refine ah λM5 K5=>?_;have fin:∀(wd:Str)(y:Nat),y∈g.vk->(wd="put"/\y=10\/wd=(if b=true then("send":Str)else "set")/\y=x)->M5 [UT (.ref g.S),UT (.int c),UT (.int k),UT (.bl lo),UT (.int rank),UT (.str wd),UT (.ref D),UT (.str (g.N y)),UU,UU] H7:=λwd y yv hw=>K5 _ _ (by
   refine ah λM6 K6=>dgk B7.dy.hS rfl ⟨_,mG O.D (.inl (aB _ _ B7.st.hv)) vb yv,by show 2<=sizeLine;decide,λl hl=>?_⟩;obtain⟨s8,e8⟩:=alc hl (HO.lst [V.int (g.vw y),.int 2]);generalize upd H7 l _=H8 at s8 e8⊢;have ehi:∃hi:Int,atI [V.int (g.vw y),.int 2] (b01 lo)=UT (.int hi):=by cases lo<;>exact⟨_,rfl⟩
   obtain⟨hi,ehi⟩:=ehi;refine⟨_,rfl,(lix (SqL.of e8) ehi (K6 _ _ ?_))⟩;have B8:=B7.same s8;have t8:=t7.trans s8;try dsimp only
   refine ah λM7 K7=>⟨g,d,c,hi,rfl,O,B8,λp val H9 s9 hp ep hv=>?_⟩;have B9:=B8.same s9;refine⟨by show 3<=sizeLine;decide,λr hr'=>?_⟩;have s10:=aq.upd hr' (HO.tup [V.str wd,.str (g.N y),.ref p]);have e10:upd H9 r (HO.tup [V.str wd,.str (g.N y),.ref p]) r=UT (.tup [V.str wd,.str (g.N y),.ref p]):=ak;generalize upd H9 r (HO.tup [V.str wd,.str (g.N y),.ref p])=H10 at s10 e10⊢;have B10:=B9.same s10;have t10:=(t8.trans s9).trans s10;have pp:∀{Hz:Hp},aq H10 Hz->del (d.M g) Hz p=UT (.tup (vV g.N val)):=λz=>B8.new ((s9.trans s10).trans z) hp ((s10.trans z) _ _ ep);refine K7 _ _ ?_;try dsimp only
   refine ah λM8 K8=>?_;have last:∀(H11:Hp)(r':OM)(lr:Lr),aq H10 H11->bZ g.N (del (d.M g) H11) (.ref r') lr->lr.ok g.ns g.tg g.dd->su g.dd lr<=1->M8 [UT (.ref g.S),UT (.int c),UT (.int k),UT (.bl lo),UT (.int rank),UT (.str wd),UT (.ref D),UT (.str (g.N y)),UT (.int hi),UT (.ref r')] H11:=λH11 r' lr s11 hlr ok cs=>K8 _ _ (by
    have t11:=t10.trans s11;have go:=Go.new (M:=d.M g) t11;refine wH (Q:=λ_ H'=>Q .non H') O (H:=H) (B10.same s11) go m3 (T1.same t11) hlr ok cs ∅ (q d H11 go (B10.same s11) ()) λd' M' B' mu' _=>?_;exact q d' _ (by rw[M'];exact go.trans (oy (T1.same t11))) B' mu')
   refine⟨rfl,_,rfl,aE (λz=>?_) (λz=>?_)⟩
   ·rw[HU,decide_eq_true_iff]at z;refine⟨g,d,c,5,hi,rfl,O,B10,∅,λth H11 s11 hth=>KJ ⟨_,_,Lg (SqT.of (s11 _ _ e10)),rfl,by show 4<=sizeLine;decide,λr2 hr2=>?_⟩⟩;have y10:y=10:=by
     rcases hw with⟨_,z2⟩|⟨z2,_⟩
     ·exact z2
     rw[z]at z2;cases b
     ·exact absurd z2 ∅
     exact absurd z2 ∅
    have s12:=aq.upd hr2 (HO.tup [V.str wd,.str (g.N y),th.v g.N,.ref p]);refine last _ r2 (.put y th val) (s11.trans s12) ⟨r2,p,rfl,(B10.same s11).new s12 hr2 ?_,λo ho=>by cases ho;exact pp (s11.trans s12)⟩ ⟨y10,hth,hv⟩ (Lb _);rw[ak,z];rfl
   rw[HU,decide_eq_true_iff]at z;rcases hw with⟨z2,_⟩|⟨z2,zy⟩
   ·exact absurd z2 z
   have hr10:del (d.M g) H10 r=UT (.tup [V.str wd,.str (g.N y),.ref p]):=B9.new s10 hr' e10;rw[z2]at hr10;subst zy;cases b with
   |true=>exact last H10 r (.snd y val) (aq.refl _) ⟨r,p,rfl,hr10,λo ho=>by cases ho;exact pp (aq.refl _)⟩ ⟨xo,hv⟩ (Lb _)
   |false=>exact last H10 r (.set y val) (aq.refl _) ⟨r,p,rfl,hr10,λo ho=>by cases ho;exact pp (aq.refl _)⟩ ⟨xo,hv⟩ (Lb _))
  have same:=fin (if b=true then("send":Str)else "set") x xv' (.inr ⟨rfl,rfl⟩);have eqw:(if b=true then V.str "send" else V.str "set")=V.str (if b=true then("send":Str)else "set"):=by cases b<;>rfl
  rw[eqw];have hl7:=SqL.of (K:=K) (aB _ _ B7.st.hl);have put:=fin "put" 10 (O.cv 10 ∅) (.inl ⟨rfl,rfl⟩);refine⟨rfl,_,rfl,aE (λ_=>?_) (λ_=>bH same)⟩;cases lo with
  |true=>exact⟨true,rfl,dO (dO (dgk B7.dy.hS rfl (lix hl7 rfl put)))⟩
  |false=>
   refine⟨false,rfl,bH (dgk B7.dy.hS rfl (dgk B7.dy.hS rfl (lix hl7 rfl ⟨_,mG O.D (.inl (aB _ _ B7.st.hv)) vb (O.cv 10 ∅),_,rfl,aE (λ_=>?_) (λ_=>same)⟩)))⟩;exact(dgk B7.dy.hS rfl (lix hl7 rfl put)))
 refine⟨rfl,_,rfl,aE (λ_=>?_) (λ_=>bH (main _ (aq.refl _)))⟩;refine⟨g,d,c,lo,rfl,O,B,m3,λH1 s1=>⟨false,rfl,bH (main H1 s1)⟩,λd' H' go B' mu'=>⟨true,rfl,dO (q d' H' go B' mu')⟩⟩
end
section
variable{P:Program}{w:OX}{K:OQ}{mg:Str->Option ON}{base:O8}{A:Adr}{g:Gc}{d:Gd}{H:Hp}
theorem mw{H:Hp}{x y:OM}{u v:HO}(h:x≠y):upd (upd H x u) y v=upd (upd H y v) x u:=by
 funext z
 by_cases e1:z=x
 ·rw[e1,aw h,ak,ak]
 by_cases e2:z=y
 ·rw[e2,ak,aw h.symm,ak]
 rw[aw e2,aw e1,aw e1,aw e2]
structure JO(g:Gc)(d d':Gd):Prop where
 M:d'.M g=d.M g
 rows:d'.rows=d.rows
 lrs:d'.lrs g=d.lrs g
 b:d'.b g=d.b g
 spent:d'.spent=d.spent
 lo:d'.lo=d.lo
 a0:d'.a0=d.a0
 as:d'.as=d.as
 lm:d'.lm=d.lm
 marks:d'.marks=d.marks
 len:d'.fz.length=d.fz.length
 aD:cL 1 d'.fz=cL 1 d.fz
 flat:bB d'.fz=bB d.fz
theorem BAt.bump(h:BAt g H d){a:OM}{at_:Nat}{rank aD cost:Int}{fc:Option Int}(T:fG g d H a at_ rank aD cost fc){c:Int}(c0:0<=c):∃d',JO g d d'/\BAt g (upd H a (.dK (frK at_ rank aD c fc))) d'/\fG g d' (upd H a (.dK (frK at_ rank aD c fc))) a at_ rank aD c fc:=by
 obtain⟨n1,n2,n3,n4⟩:=jr h.ok.nd;obtain⟨nd1,nd2⟩:=wI h.ok.nd;have go:Go (d.M g) H (d.M g) (upd H a (.dK (frK at_ rank aD c fc))):=Go.at T.mem _;have hS:=ag (u:=HO.dK (frK at_ rank aD c fc)) T.nS.symm h.dy.hS;have hR:=ag (u:=HO.dK (frK at_ rank aD c fc)) T.nR.symm h.dy.hR;have hO:=ag (u:=HO.dK (frK at_ rank aD c fc)) T.nO.symm h.dy.hO;rcases T.cases h.dy with⟨ez,eas,ea,et,er,eh,ec,ef⟩|⟨fs,f,us,ez,eas,pu,et,er,eh,ec,ef⟩
 ·have B:BAt g (upd H a (.dK (frK at_ rank aD c fc))) { d with bc:=c }:=by
   refine h.go (d':={ d with bc:=c }) go ⟨hS,hR,hO,?_,?_⟩ ⟨h.ok.nd,h.ok.mks,h.ok.ml,h.ok.bs,c0,h.ok.fz,h.ok.fl,h.ok.hf,h.ok.h36,h.ok.pay,h.ok.sp,h.ok.rl,h.ok.dp⟩ (go.same _ _ h.hm) (Paired.cR h.hr λ_ _=>bZ.same go.same)
   ·dsimp only;rw[<-ea,ak,et,er,eh,ef]
   dsimp only;rw[ez,eas];exact .nil
  exact⟨{ d with bc:=c },⟨rfl,rfl,rfl,rfl,rfl,rfl,rfl,rfl,rfl,rfl,rfl,rfl,rfl⟩,B,⟨T.last,ak,T.mem,T.nS,T.nR,T.nO,T.rk,T.hf,T.hb,c0,λz=>absurd ef z⟩⟩
 have F:=h.ok.fz f (by rw[ez];simp);have f36:=h.ok.h36 f (by rw[ez];simp);have hh:=h.ok.hf;rw[ez]at hh;have di:=h.ok.dp.2;rw[ez]at di;have di:=di.inv;have a0a:d.a0≠a:=λz=>nd1 (by rw[z,eas];simp);have ua:∀x∈us,x≠a:=λx hx z=>by
  rw[eas]at nd2;exact(Lm.mp nd2).2.2 x hx a (by simp) z
 have fl:bB (fs++[{ f with cost:=c }])=bB d.fz:=by rw[ez,dH,dH];rfl
 have ln:(fs++[{ f with cost:=c }]).length=d.fz.length:=by rw[ez];simp
 have lr:Gd.lrs g { d with fz:=fs++[{ f with cost:=c }] }=d.lrs g:=by
  unfold Gd.lrs;dsimp only;rw[fl]
 have B:BAt g (upd H a (.dK (frK at_ rank aD c fc))) { d with fz:=fs++[{ f with cost:=c }] }:=by
  refine h.go (d':={ d with fz:=fs++[{ f with cost:=c }] }) go ⟨hS,hR,hO,ag a0a h.dy.h0,?_⟩ ⟨h.ok.nd,h.ok.mks,h.ok.ml,h.ok.bs,h.ok.bc,λx hx=>?_,?_,j6.app hh.inv.1 hh.inv.2,λx hx=>?_,λe=>?_,h.ok.sp,?_,⟨h.ok.dp.1,oi.app di.1 di.2.1 di.2.2⟩⟩ (go.same _ _ h.hm) (by rw[lr];exact Paired.cR h.hr λ_ _=>bZ.same go.same)
  ·dsimp only[Gd.b];rw[eas,mM,mU (hJ _ _)];refine Pb ?_ (Paired.wV pu λx hx y e=>ag (ua x hx) e);rw[ak,et,er,eh,ef];rfl
  ·rcases KA.mp hx with hx|hx
   ·exact h.ok.fz x (by rw[ez];simp[hx])
   rw[KC.mp hx];exact⟨F.bk,F.l0,F.r0,F.rows,F.fst,F.lp,F.fc,F.f0,F.rank,c0⟩
  ·dsimp only;rw[ln];exact h.ok.fl
  ·rcases KA.mp hx with hx|hx
   ·exact h.ok.h36 x (by rw[ez];simp[hx])
   rw[KC.mp hx];exact f36
  ·have p:=h.ok.pay e;rw[ez,dE]at p;dsimp only;rw[dE];exact p
  rw[lr];dsimp only;rw[ln];exact h.ok.rl
 have he:cL 1 (fs++[{ f with cost:=c }])=cL 1 d.fz:=by rw[ez,fZ,fZ]
 exact⟨{ d with fz:=fs++[{ f with cost:=c }] },⟨rfl,rfl,lr,rfl,rfl,rfl,rfl,rfl,rfl,rfl,ln,he,fl⟩,B,⟨T.last,ak,T.mem,T.nS,T.nR,T.nO,T.rk,by rw[T.hf];exact he.symm,T.hb,c0,λz=>⟨fs,_,rfl,by dsimp only;rw[ef]⟩⟩⟩
def kr(H:Hp)(g:Gc)(d:Gd)(v:V)(sp:Int)(F:OM)(rank aD:Int):Hp:=upd (upd (upd (upd H g.S (.dK (stK g { d with spent:=sp }))) g.LR (.lst (d.rows++[v]))) F (.dK (frK d.rows.length rank aD 0 UU))) d.lo (.lst (.ref d.a0::d.as.map V.ref++[.ref F]))
theorem BAt.JA(h:BAt g H d){v:V}{bk:Bk}{l r rank sp:Int}{F:OM}(hF:H F=UU)(hv:bZ g.N (del (d.M g) H) v (bk.lr l r))(ok:HJ g.ns bk)(l0:0<=l)(r0:0<=r)(rk:0<=rank/\rank<=2)(fl:d.fz.length<=2)(h12:cL 1 d.fz<=12)(h1:1<=cL 1 d.fz)(esp:sp=d.spent+cL 1 d.fz*(1+bk.m*(l+r)))(lim:sp<=g.lim)(m3:mu g d+3<=1000) :
  ∃d':Gd,Go (d.M g) H (d'.M g) (kr H g d v sp F rank (cL 1 d.fz*bk.m))/\BAt g (kr H g d v sp F rank (cL 1 d.fz*bk.m)) d'/\mu g d'<=mu g d+3:=by
 obtain⟨n1,n2,n3,n4⟩:=jr h.ok.nd
 have FM:=h.free hF
 have FS:F≠g.S:=λz=>FM (by rw[z];exact inS g d)
 have FR:F≠g.LR:=λz=>FM (by rw[z];exact inR g d)
 have FO:F≠d.lo:=λz=>FM (by rw[z];exact inO g d)
 have F0:F≠d.a0:=λz=>FM (by rw[z];exact in0 g d)
 have FA:∀x∈d.as,x≠F:=λx hx z=>FM (by rw[<-z];exact inA g d hx)
 have m1:1<=bk.m/\bk.m<=3:=by
  cases bk with
  |iff v=>exact⟨(show(1:Int)<=1 by decide),(show(1:Int)<=3 by decide)⟩
  |loop t m=>exact⟨ok.2.1,ok.2.2⟩
 generalize hh:cL 1 d.fz=ht at *
 have hm1:1<=ht*bk.m/\ht*bk.m<=36:=by
  have a1:ht*1<=ht*bk.m:=Lh m1.1 ();have a2:ht*bk.m<=ht*3:=Lh m1.2 ();omega
 have p0:0<=ht*(1+bk.m*(l+r)):=Lq () (by have:=Lq (show 0<=bk.m by omega) (show 0<=l+r by omega);omega)
 obtain⟨f,hf⟩:∃f:Fz,f=⟨bk,l,r,UU,[],rank,ht*bk.m,0,UU⟩:=⟨_,rfl⟩
 obtain⟨d',hd'⟩:∃d':Gd,d'={ d with rows:=d.rows++[v],spent:=sp,as:=d.as++[F],fz:=d.fz++[f] }:=⟨_,rfl⟩
 have ff:bB [f]=[bk.lr l r]:=by rw[hf];rfl
 have lr:d'.lrs g=d.lrs g++[bk.lr l r]:=by
  rw[hd'];unfold Gd.lrs;dsimp only;rw[dH,ff,Li,Li,Li]
 have rl:=OU h.hr
 have lb:d.b g+(bB d.fz).length=d.rows.length:=by
  rw[rl];unfold Gd.b Gd.lrs;rw[Kz (as:=g.pre++bf d.bs)]
 have Mm:∀a∈d'.M g,a∈d.M g\/a=F:=λa m=>by
  rw[hd']at m;unfold Gd.M at m⊢;simp only[Ku,KA,KC,KD,or_false]at m⊢;rcases m with m|m|m|m|m|m
  ·exact .inl (.inl m)
  ·exact .inl (.inr (.inl m))
  ·exact .inl (.inr (.inr (.inl m)))
  ·exact .inl (.inr (.inr (.inr (.inl m))))
  ·exact .inl (.inr (.inr (.inr (.inr m))))
  exact .inr m
 have go:Go (d.M g) H (d'.M g) (kr H g d v sp F rank (ht*bk.m)):=⟨λa o m e=>by
  unfold kr;have aF:a≠F:=λz=>by rw[z,hF]at e;cases e
  rw[aw (λz=>m (by rw[z];exact inO g d)),aw aF,aw (λz=>m (by rw[z];exact inR g d)),aw (λz=>m (by rw[z];exact inS g d))];exact e,λa m=>by
  rcases Mm a m with z|z
  ·exact .inl z
  exact .inr (by rw[z];exact hF)⟩
 have oth:∀x,x≠g.S->x≠g.LR->x≠F->x≠d.lo->kr H g d v sp F rank (ht*bk.m) x=H x:=λx h1 h2 h3 h4=>by
  unfold kr;rw[aw h4,aw h3,aw h2,aw h1]
 have B:BAt g (kr H g d v sp F rank (ht*bk.m)) d':=by
  refine h.go go ?_ ?_ ?_ ?_
  ·rw[hd'];refine⟨?_,?_,?_,?_,?_⟩
   ·unfold kr;rw[aw n2,aw FS.symm,aw n1,ak];rfl
   ·unfold kr;rw[aw n3,aw FR.symm,ak]
   ·unfold kr;rw[ak,La];rfl
   ·have m:=n4 d.a0 Kv;rw[oth d.a0 m.1 m.2.1 F0.symm m.2.2];exact h.dy.h0
   dsimp only[Gd.b];rw[mM,mU (hJ _ _)];refine Pb ?_ (Paired.wV h.dy.hf λx hx y e=>?_)
   ·unfold kr;rw[aw FO,ak];have:(g.pre++bf d.bs).length+(bB d.fz).length=d.rows.length:=lb;rw[this,hf];rfl
   have m:=n4 x (Kx _ hx);rw[oth x m.1 m.2.1 (FA x hx) m.2.2];exact e
  ·rw[hd']at lr⊢;have fl3:(d.fz++[f]).length=d.fz.length+1:=by simp
   have sp0:=h.ok.sp.1;refine⟨?_,h.ok.mks,h.ok.ml,h.ok.bs,h.ok.bc,λx hx=>?_,?_,j6.app h.ok.hf (by rw[hf,hh]),λx hx=>?_,λe=>?_,⟨by show 0<=sp;omega,.inl lim⟩,?_,⟨h.ok.dp.1,oi.app h.ok.dp.2 (by rw[hf];exact KY _) (λt e=>by rw[hf]at e;cases e)⟩⟩
   ·have nd:=h.ok.nd;unfold Gd.M at nd FM⊢;dsimp only;rw[show g.S::g.LR::d.lo::d.a0::(d.as++[F])=(g.S::g.LR::d.lo::d.a0::d.as)++[F]from rfl];exact Lm.mpr ⟨nd,by simp,λa ha b hb z=>by rw[KC.mp hb]at z;exact FM (z▸ha)⟩
   ·rcases KA.mp hx with hx|hx
    ·exact h.ok.fz x hx
    rw[KC.mp hx,hf];exact⟨ok,l0,r0,Lj,λ_ z=>(by cases z),λ_ _ _=>rfl,⟨λ_=>rfl,λ_=>rfl⟩,λ_ z=>(by cases z),rk,Lb _⟩
   ·dsimp only;omega
   ·rcases KA.mp hx with hx|hx
    ·exact h.ok.h36 x hx
    rw[KC.mp hx,hf];exact hm1
   ·have p:=h.ok.pay e;dsimp only;rw[dE,hh,hf];simp only[oK,cG];omega
   unfold mu at m3;rw[lr,Kz];dsimp only;simp only[Lo];omega
  ·have e:d'.lm=d.lm:=by rw[hd']
   have e2:d'.marks=d.marks:=by rw[hd']
   rw[e,e2];exact go.same _ _ h.hm
  rw[lr];have e:d'.rows=d.rows++[v]:=by rw[hd']
  rw[e];exact Pb (hv.same go.same) (Paired.cR h.hr λ_ _=>bZ.same go.same)
 refine⟨d',go,B,?_⟩
 unfold mu
 rw[lr,Kz,hd']
 dsimp only
 simp only[Lo,Kz]
 omega
end
section
variable{P:Program}{w:OX}{K:OQ}{mg:Str->Option ON}{base:O8}{A:Adr}{g:Gc}{d:Gd}{H:Hp}
seal PE PA PS PSs PT PW
theorem UW{H:Hp}{x y:OM}{o:HO}(h:H x=UU)(e:H y=UT o):x≠y:=λz=>by rw[z,e]at h;cases h
theorem kG{H:Hp}{x:OM}{u v:HO}:upd (upd H x u) x v=upd H x v:=by
 funext z
 by_cases e:z=x
 ·rw[e,ak,ak]
 rw[aw e,aw e,aw e]
theorem AQ{v:V}{n:Int}{a:OM}{at_:Nat}{rank aD cost:Int}{fc:Option Int}(h1:a≠g.S)(h2:a≠g.LR):fN H g d v n a at_ rank aD cost fc=upd (upd (upd H a (.dK (frK at_ rank aD (cost+1) fc))) g.S (.dK (stK g { d with spent:=d.spent+aD*n }))) g.LR (.lst (d.rows++[v])):=by
 unfold fN;rw[mw h2.symm,mw (x:=g.S) (y:=a) h1.symm]
def VOk(g:Gc)(v:V):Prop:=(∃n,v=.int n)\/∃i∈g.vk,v=.str (g.N i)
theorem VOk.th(O:jH g){t:Th}(h:t.ok g.ns):VOk g (t.v g.N):=by
 cases t with
 |i n=>exact .inl ⟨n,rfl⟩
 |x a=>exact .inr ⟨a,O.nv a h,rfl⟩
theorem Bz(O:jH g){v:Val}(h:v.ok g.ns):∃x y,atI (vV g.N v) 0=UT x/\atI (vV g.N v) (-1)=UT y/\VOk g x/\VOk g y:=by
 cases v with
 |one a=>exact⟨_,_,rfl,rfl,.th O h,.th O h⟩
 |op a w b=>exact⟨_,_,rfl,rfl,.th O h.1,.th O h.2.1⟩
 |atl x b=>exact⟨_,_,rfl,rfl,.inr ⟨x,O.cv x (CL.2.1 x h.1),rfl⟩,.th O h.2⟩
theorem tY:∀{ys:List V},(∀y∈ys,∃n:Int,y=.int n/\0<=n/\n<=2)->∃ns:List Int,ys=ns.map V.int/\∀n∈ns,0<=n/\n<=2
 | [],_=>⟨[],rfl,λ_ h=>by cases h⟩
 |y::r,h=>by
  obtain⟨n,rfl,h0⟩:=h y Kv;obtain⟨ns,rfl,hn⟩:=tY λz hz=>h z (Kx _ hz);exact⟨n::ns,rfl,λm hm=>by
   rcases Ku.mp hm with rfl|hm
   ·exact h0
   exact hn m hm⟩
def isS:V->Bool
 | .str _=>true
 |_=>false
inductive tX(K:OQ)(vs:List V)(H:Hp)(Q:VK)(Z:XK):Prop
 |mk(g:Gc)(d:Gd)(c k:Int)(lo:Bool):vs=[.ref g.S,.int c,.int k,.bl lo]->jH g->BAt g H d->mu g d+3<=1000->Ca g d H Q .non->tX K vs H Q Z
theorem Dj(T:Txt K mg A):Has P w K mg base 6 "_law_opened" ["_law_state","_law_cell","_law_kind","_law_loose"] (tX K):=by
 have E9:=@oA P w _ _ base _ T;have NB:=@qo P w _ _ base _ T;have NI:=@vt P w _ _ base _ T;have NF:=@wF P w _ _ base _ T;have NG:=@qk P w _ _ base _ T;refine T.qH.has (k:=5) bI (λvs H Q E h=>?_) (λf cdv A' outer s H vs Q E hr hu h=>?_)
 ·obtain⟨g,d,c,k,lo,rfl,_⟩:=h;rfl
 obtain⟨g,d,c,k,lo,rfl,O,B,m3,q⟩:=h;obtain⟨a,at_,rank,aD,cost,fc,T1⟩:=B.top O;have vb:∀j∈g.vk,j<25:=λj hj=>(O.vb j hj).1;have rl:d.rows.length<=1000:=by
  have:=OU B.hr;unfold mu at m3;omega
 refine⟨_,(ae (pst 4 bI.nd (px hu (px hu (fv 0) ao) (iL fk ab)))
 (ae (aM (PW.pt (pw_or (ptc rR (pcB bS T.cD (px hu (fv 0) ao^af)) ab) (pw_or1 (ptc rR (px hu (fv 4) ao) ab))))
  (ae (aK (ar NG hr (fv 0^fv 1^ab^fv 3^af)))
  (aj (uD)))
  aC)
 (ae (pst 5 bI.nd (pcB sV T.nr (px hu (fv 4) ao^ar E9 hr (fv 1^ab^ab^af)^af)))
 (ae (pst 6 bI.nd (px hu (bR (fv 5^ab^af)) (pcT oe T.mH (fv 3^af))))
 (ae (pst 7 bI.nd (bb (ax cS (ar E9 hr (fv 1^ab^ab^af)) (ar E9 hr (fv 1^ab^ab^af))^ax cS (ar E9 hr (fv 1^ab^ab^af)) (ar E9 hr (fv 1^ab^ab^af))^af)))
 (ae (pst 8 bI.nd ab)
 (ae (pst 9 bI.nd (ax u3 (bb (ao^ar NI hr (fv 0^fv 1^fv 6^af)^af)) (fv 7)))
 (ae (pst 10 bI.nd (bR (px hu (px hu (fv 9) ab) ab^px hu (px hu (fv 9) ab) (iL fk ab)^af)))
 (ae (aM (ptc (bj hu) (fv 2) ab)
  (ae (pst 8 bI.nd (ax bz ab (ar E9 hr (fv 1^ab^ab^af))))
  (ae (pst 10 bI.nd (bR (ar NB hr (fv 0^fv 1^ab^fv 6^af)^af)))
  (aj (pst 9 bI.nd (ax u3 (bb (ao^px hu (fv 10) ab^fv 8^af)) (fv 7))))))
  aC)
 (ae (pst 11 bI.nd (pcB GY T.nr ((ax bz (bR (fv 5^af)) (jd (N:=["_law_thing_here","_law_state"]) (own:=1) (fr:=[0]) (cQ.of (by kernel_rfl!)) rfl (df (fv 10)) (λb=>pgn (i:=0) (show PM (["_law_thing_here","_law_state"]:List P0) by decide+kernel) rfl) (λb=>nK (bX (pcB bN T.aJ (fv 0^(ji (v:=.ty "str") rfl T.xy (by boot_by_name) rfl)^af)) (λ_=>rfl))) (λb=>px hu (px hu (fv 1) ao) (fv 0))))^af)))
 (aj (aM (bX (ar NF hr (fv 0^fv 9^ax bz ab (ax cS (fv 8) (pcB Gu T.zm (fv 7^af)))^af)) (λ_=>rfl))
  (ae (pst 4 bI.nd (qf (cw ao (ax kY (pcB bS T.cD (px hu (fv 0) ao^af)) ab) (cw ao (fv 11) (cw ao (ax cS (px hu (fv 4) ao) (fv 8)) (cw ao ab (cw ao d5 (qg)))))) rfl rfl (by intro z;cases z) ∅))
  (aj (aK (cI (px hu (fv 0) ao) (fv 4^af)))))
  aC)))))))))))),?_⟩
 refine dgk B.dy.hS rfl ⟨_,rfl,(lix (SqL.of B.dy.hO) T1.last ?_)⟩;try dsimp only
 refine ah λM1 K1=>?_;have body:oq K [.ref g.S,.int c,.int 0,.bl lo] H (λ_ H'=>Q .non H') E0:=⟨g,d,c,0,lo,rfl,O,B,m3,λd' H' go B' mu'=>q d' H' go B' mu'⟩;have la:=OU B.dy.hf;rw[MQ,hJ,Nu]at la;refine dgk B.dy.hS rfl (lnl B.dy.hO ⟨_,rfl,aE (λ_=>dO body) (λc1=>dgk T1.fr rfl ⟨_,rfl,aE (λ_=>body) (λc2=>K1 _ _ ?_)⟩)⟩);have f2:d.fz.length<=2:=by
  have c1:¬ (3:Int)<(((V.ref d.a0::d.as.map V.ref).length:Nat):Int):=λz=>c1 (decide_eq_true z);simp only[Lc,Ky]at c1;omega
 have h12:aD<=12:=by
  have c2:¬ (12:Int)<aD:=λz=>c2 (decide_eq_true z);omega
 clear c1 c2 body;try dsimp only
 refine ah λM2 K2=>dgk T1.fr rfl ⟨c,3,3,rfl,∅,∅,λmr H1 r0 r1 s1=>⟨_,_,rfl,K2 _ _ ?_⟩⟩;obtain⟨low,hlow⟩:∃low,low=(if mr>rank then mr else rank):=⟨_,rfl⟩;have lw:0<=low/\low<=2:=by
  have:=T1.rk;rw[hlow];split<;>omega
 rw[<-hlow];have B1:=B.same s1;try dsimp only
 refine ah λM3 K3=>⟨by show 2<=sizeLine;decide,λl hl=>?_⟩;obtain⟨s2,e2⟩:=alc hl (HO.lst [V.int low,.int 2]);generalize upd H1 l _=H2 at s2 e2⊢;obtain⟨hi,ehi⟩:∃hi:Int,atI [V.int low,.int 2] (b01 lo)=UT (.int hi):=by cases lo<;>exact⟨_,rfl⟩
 refine⟨_,rfl,(lix (SqL.of e2) ehi (K3 _ _ ?_))⟩;have B2:=B1.same s2;try dsimp only
 refine ah λM4 K4=>⟨c,4,3,rfl,∅,∅,λi1 Ha a0 a1 sa=>⟨c,5,2,rfl,∅,∅,λi2 Hb b0 b1 sb=>⟨.inl ⟨(),()⟩,c,2,2,rfl,∅,∅,λi3 Hc c0 c1 sc=>⟨c,5,2,rfl,∅,∅,λi4 Hd d0 d1 sd=>⟨.inl ⟨(),()⟩,by show 2<=sizeLine;decide,λti hti=>K4 _ _ ?_⟩⟩⟩⟩⟩;obtain⟨l',hl'⟩:∃l',l'=i1*i2:=⟨_,rfl⟩;obtain⟨r',hr'⟩:∃r',r'=i3*i4:=⟨_,rfl⟩;have l0:0<=l':=by rw[hl'];exact Lq a0 b0
 have r0':0<=r':=by rw[hr'];exact Lq c0 d0
 rw[<-hl',<-hr'];obtain⟨s3,e3⟩:=alc hti (HO.tup [V.int l',.int r']);generalize upd Hd ti _=H3 at s3 e3⊢;have z3:aq H H3:=(s1.trans s2).trans ((((sa.trans sb).trans sc).trans sd).trans s3);have B3:=B.same z3;clear s1 s2 sa sb sc sd s3 e2 hl hti B1 B2 hlow a0 a1 b0 b1 c0 c1 d0 d1 hl' hr' r0 r1;try dsimp only
 refine ah λM5 K5=>K5 _ _ ?_;try dsimp only
 refine ah λM6 K6=>⟨g,d,c,hi,rfl,O,B3,λp val H4 s4 hp ep hv=>⟨by show 2<=sizeLine;decide,λt1 ht1=>?_⟩⟩;obtain⟨s5,e5⟩:=alc ht1 (HO.tup [V.str "if",.ref p]);generalize upd H4 t1 _=H5 at s5 e5⊢;have e35:=(s4.trans s5) _ _ e3;refine⟨t1,ti,_,_,rfl,rfl,SqT.of e5,SqT.of e35,(by intro z;cases z),(by show 4<=sizeLine;decide),(λz=>by cases z),λ_ rw' hrw=>K6 _ _ ?_⟩;obtain⟨s6,e6⟩:=alc hrw (HO.tup [V.str "if",.ref p,.int l',.int r']);change aq H5 (upd H5 rw' (HO.tup ([V.str "if",.ref p]++[V.int l',.int r'])))at s6;change upd H5 rw' (HO.tup ([V.str "if",.ref p]++[V.int l',.int r'])) rw'=_ at e6;generalize upd H5 rw' _=H6 at s6 e6⊢;obtain⟨x0,y0,ex,ey,vx,vy⟩:=Bz O hv;have ep6:=(s5.trans s6) _ _ ep;try dsimp only
 refine ah λM7 K7=>KJ ⟨_,_,Lg (SqT.of e6),rfl,KJ ⟨_,_,Lg (SqT.of ep6),ex,KJ ⟨_,_,Lg (SqT.of e6),rfl,_,rfl,KJ ⟨_,_,Lg (SqT.of ep6),ey,⟨by show 2<=sizeLine;decide,λls hls=>?_⟩⟩⟩⟩⟩;obtain⟨s7,e7⟩:=alc hls (HO.lst [x0,y0]);generalize upd H6 ls _=H7 at s7 e7⊢;have z4:aq H H4:=z3.trans s4;have z7:aq H H7:=((z4.trans s5).trans s6).trans s7;have B7:=B.same z7;refine K7 _ _ ?_;try dsimp only
 refine ah λM8 K8=>?_;have fin:∀(H8:Hp)(tm:Int)(bk:Bk)(rw2 ls2:OM)(vs:List V),aq H7 H8->tm=bk.m->HJ g.ns bk->1<=tm->tm<=3->bZ g.N (del (d.M g) H8) (.ref rw2) (bk.lr l' r')->H8 ls2=UT (.lst vs)->(∀v∈vs,VOk g v)->vs.length<=2->M8 [UT (.ref g.S),UT (.int c),UT (.int k),UT (.bl lo),UT (.ref a),UT (.int low),UT (.int hi),UT (.ref ti),UT (.int tm),UT (.ref rw2),UT (.ref ls2),UU] H8:=λH8 tm bk rw2 ls2 vs s8 etm bok t1' t3' hrow els vok vl=>K8 _ _ (by
  have z8:=z7.trans s8;have B8:=B.same z8;have T8:=T1.same z8;refine ah λN1 J1=>⟨by show 1<=sizeLine;decide,λl1 hl1=>?_⟩;obtain⟨s9,e9⟩:=alc hl1 (HO.lst [V.int low]);generalize upd H8 l1 _=H9 at s9 e9⊢;have els9:=s9 _ _ els;have B9:=B8.same s9;refine KJ ⟨⟨_,SqL.of els9⟩,AF (K:=K) isS (λy _=>∃n:Int,y=.int n/\0<=n/\n<=2) (SqL.of els9) (az ()) (λb x H2 G hx s2 k=>?_) (λb x H2 G hx hp s2 k=>?_) (λ_ _ _ _ h=>h) (λ_ _ _ _ _ _ h=>h) (λD H10 ys hD s10 eD _ hy=>?_)⟩
  ·rcases vok x hx with⟨n,rfl⟩|⟨i,hi',rfl⟩
   ·exact⟨_,_,_,false,rfl,(λz=>by cases z),.int n,CG,false,rfl,k _ (aq.refl _)⟩
   exact⟨_,_,_,true,rfl,(λz=>by cases z),.str _,BA,true,rfl,k _ (aq.refl _)⟩
  ·rcases vok x hx with⟨n,rfl⟩|⟨i,hi',rfl⟩
   ·cases hp
   have B10:=B9.same s2;exact dgk B10.dy.hS rfl ⟨_,mG O.D (.inl (aB _ _ B10.st.hv)) vb hi',k _ _ (aq.refl _) ⟨_,rfl,(O.vb i hi').2⟩⟩
  obtain⟨ns,rfl,hns⟩:=tY hy;refine⟨l1,D,_,_,rfl,rfl,s10 _ _ e9,eD,?_,λl2 hl2=>?_⟩
  ·rename_i nl;rw[Ky]at nl⊢;exact sz (by simp;omega)
  obtain⟨s11,e11⟩:=alc hl2 (HO.lst ((low::ns).map V.int));change aq H10 (upd H10 l2 (HO.lst ([V.int low]++ns.map V.int)))at s11;change upd H10 l2 (HO.lst ([V.int low]++ns.map V.int)) l2=_ at e11;generalize upd H10 l2 _=H11 at s11 e11⊢;refine⟨l2,low::ns,rfl,SqL.of e11,(by intro z;cases z),λrk hrk _=>J1 _ _ ?_⟩;have rk2:0<=rk/\rk<=2:=by
   rcases Ku.mp hrk with rfl|hrk
   ·exact lw
   exact hns rk hrk
  have s811:=(s9.trans s10).trans s11;have z11:=z8.trans s811;have B11:=B8.same s811;have T11:=T8.same s811;have go11:Go (d.M g) H (d.M g) H11:=Go.new z11;have hrow11:bZ g.N (del (d.M g) H11) (.ref rw2) (bk.lr l' r'):=hrow.same (Go.new (M:=d.M g) s811).same;try dsimp only
  refine⟨ti,[l',r'],rfl,SqT.of ((((s4.trans s5).trans s6).trans s7).trans (s8.trans s811) _ _ e3),.inl ⟨(),()⟩,?_⟩;rw[show[l',r'].sum=l'+r' by simp];refine⟨g,d,.ref rw2,1+tm*(l'+r'),a,at_,rank,aD,cost,fc,rfl,B11.dy,B11.ok.nd,rl,T11,⟨false,rfl,bH (q d H11 go11 B11 ())⟩,λfit=>⟨true,rfl,dO ?_⟩⟩;rw[AQ T1.nS T1.nR];obtain⟨d1,L1,Bb,Tb⟩:=B11.bump T11 (c:=cost+1) (by have:=T1.c0;omega);have goB:Go (d.M g) H11 (d.M g) (upd H11 a (.dK (frK at_ rank aD (cost+1) fc))):=Go.at T11.mem _;generalize hHb:upd H11 a (.dK (frK at_ rank aD (cost+1) fc))=Hb at Bb Tb goB⊢;obtain⟨n1,n2,n3,n4⟩:=jr B.ok.nd;obtain⟨st,hst⟩:∃st,st=stK g { d with spent:=d.spent+aD*(1+tm*(l'+r')) }:=⟨_,rfl⟩;rw[<-hst];have hS12:upd (upd Hb g.S (.dK st)) g.LR (.lst (d.rows++[.ref rw2])) g.S=UT (.dK st):=by rw[aw n1,ak]
  have hR12:upd (upd Hb g.S (.dK st)) g.LR (.lst (d.rows++[.ref rw2])) g.LR=UT (.lst (d.rows++[.ref rw2])):=ak;have hO12:upd (upd Hb g.S (.dK st)) g.LR (.lst (d.rows++[.ref rw2])) d.lo=UT (.lst (.ref d.a0::d.as.map V.ref)):=by
   have:=Bb.dy.hO;rw[L1.lo,L1.a0,L1.as]at this;rw[aw n3.symm,aw n2.symm];exact this
  have hF12:upd (upd Hb g.S (.dK st)) g.LR (.lst (d.rows++[.ref rw2])) a=UT (.dK (frK at_ rank aD (cost+1) fc)):=by
   rw[aw T1.nR,aw T1.nS];exact Tb.fr
  have gS:∀{H':Hp}(x:Str),H' g.S=UT (.dK st)->∀v,L2.ft (stK g { d with spent:=d.spent+aD*(1+tm*(l'+r')) }) (.inr x)=UT v->c8 H' g.S (.str x) (UT v):=λx h v e=>by
   rw[hst]at h;rw[<-e];exact c8.k (k:=.inr x) h
  generalize hH12:upd (upd Hb g.S (.dK st)) g.LR (.lst (d.rows++[.ref rw2]))=H12 at hS12 hR12 hO12 hF12⊢;try dsimp only
  refine ah λN2 J2 F hF=>?_;have FS:F≠g.S:=UW hF hS12;have FR:F≠g.LR:=UW hF hR12;have FO:F≠d.lo:=UW hF hO12;have Fa:F≠a:=UW hF hF12;refine⟨_,gS "rows" (ag FS.symm hS12) _ rfl,(lnl (ag FR.symm hR12) (dgk (ag Fa.symm hF12) rfl ⟨.inl ⟨by have:=T1.hb;omega,by have:=T1.hb;omega⟩,⟨ak,[((.inr "at":Key),.int ((((d.rows++[V.ref rw2]).length:Nat):Int)-1)),(.inr "rank",.int rk),(.inr "heft",.int (aD*tm)),(.inr "cost",.int 0),(.inr "first",.non)],rfl,(show 5<=15 by decide),J2 _ _ ?_⟩⟩))⟩;rw[kG,show(cz [] [((.inr "at":Key),V.int ((((d.rows++[V.ref rw2]).length:Nat):Int)-1)),(.inr "rank",.int rk),(.inr "heft",.int (aD*tm)),(.inr "cost",.int 0),(.inr "first",.non)])=frK d.rows.length rk (aD*tm) 0 UU by
   rw[show((((d.rows++[V.ref rw2]).length:Nat):Int)-1)=(d.rows.length:Int) by rw[Kz];simp];rfl]
  try dsimp only
  have hO13:upd H12 F (.dK (frK d.rows.length rk (aD*tm) 0 UU)) d.lo=UT (.lst (.ref d.a0::d.as.map V.ref)):=ag FO.symm hO12;refine⟨_,gS "open" (ag FS.symm hS12) _ rfl,KJ ⟨rfl,_,SqL.of hO13⟩,_,_,_,rfl,rfl,hO13,az (by rw[Lc,Ky];omega),?_⟩;have hFb:Hb F=UU:=by
   rw[<-hH12]at hF;rw[aw FR,aw FS]at hF;exact hF
  have eh:cL 1 d1.fz=aD:=by rw[L1.aD];exact T1.hf.symm
  have rowb:bZ g.N (del (d1.M g) Hb) (.ref rw2) (bk.lr l' r'):=by rw[L1.M];exact hrow11.same goB.same
  have mu1:mu g d1=mu g d:=by unfold mu;rw[L1.lrs,L1.len]
  obtain⟨d',go',B',mu'⟩:=Bb.JA (v:=.ref rw2) (bk:=bk) (l:=l') (r:=r') (rank:=rk) (sp:=d.spent+aD*(1+tm*(l'+r'))) hFb rowb bok l0 r0' rk2 (by rw[L1.len];exact f2) (by rw[eh];exact h12) (by rw[eh];exact T1.hb.1) (by rw[eh,L1.spent,etm]) fit (by rw[mu1];exact m3);have eq:kr Hb g d1 (.ref rw2) (d.spent+aD*(1+tm*(l'+r'))) F rk (cL 1 d1.fz*bk.m)=upd (upd H12 F (.dK (frK d.rows.length rk (aD*tm) 0 UU))) d.lo (.lst (.ref d.a0::d.as.map V.ref++[.ref F])):=by
   unfold kr;rw[eh,<-etm,L1.rows,L1.lo,L1.a0,L1.as,<-hH12,hst];unfold stK;rw[L1.lm]
  rw[eq]at go' B';refine q d' _ (go11.trans (goB.trans ?_)) B' ();rw[L1.M]at go';exact go')
 have row6:bZ g.N (del (d.M g) H7) (.ref rw') (Bk.lr l' r' (.iff val)):=⟨rw',p,rfl,((B.same z4).same s5).new (s6.trans s7) hrw (s7 _ _ e6),λo ho=>by
  cases ho;exact B3.new (((s4.trans s5).trans s6).trans s7) hp (s7 _ _ ep6)⟩
 have first:=fin H7 1 (.iff val) rw' ls [x0,y0] (aq.refl _) rfl hv ∅ ∅ row6 e7 (λv hv'=>by
  simp only[Ku,KD,or_false]at hv';rcases hv' with rfl|rfl
  ·exact vx
  exact vy) (KI 2)
 refine⟨rfl,_,rfl,aE (λ_=>?_) (λ_=>first)⟩;refine ah λN1 J1=>⟨c,6,3,rfl,∅,∅,λi6 Ha a0 a1 sa=>J1 _ _ ?_⟩;try dsimp only
 refine ah λN2 J2=>?_;have Ba:=B7.same sa;refine⟨g,d,c,1,hi,rfl,O,Ba,∅,λth Hb sb hth=>⟨by show 1<=sizeLine;decide,λl3 hl3=>?_⟩⟩;obtain⟨sc,ec⟩:=alc hl3 (HO.lst [th.v g.N]);generalize upd Hb l3 _=Hc at sc ec⊢;have Bc:=(Ba.same sb).same sc;refine J2 _ _ ?_;try dsimp only
 refine lix (SqL.of ec) rfl ⟨by show 3<=sizeLine;decide,λt2 ht2=>?_⟩;obtain⟨sd,ed⟩:=alc ht2 (HO.tup [V.str "loop",th.v g.N,.int (1+i6)]);generalize upd Hc t2 _=Hd at sd ed⊢;have e3d:=(((s4.trans s5).trans s6).trans s7).trans (((sa.trans sb).trans sc).trans sd) _ _ e3;refine⟨t2,ti,_,_,rfl,rfl,SqT.of ed,SqT.of e3d,(by intro z;cases z),(by show 5<=sizeLine;decide),(λz=>by cases z),λ_ rl2 hrl2=>?_⟩;have se:=aq.upd hrl2 (HO.tup ([V.str "loop",th.v g.N,.int (1+i6)]++[V.int l',.int r']));have ee:upd Hd rl2 (HO.tup ([V.str "loop",th.v g.N,.int (1+i6)]++[V.int l',.int r'])) rl2=UT (.tup [V.str "loop",th.v g.N,.int (1+i6),.int l',.int r']):=ak;generalize upd Hd rl2 _=He at se ee⊢;refine fin He (1+i6) (.loop th (1+i6)) rl2 l3 [th.v g.N] ((((sa.trans sb).trans sc).trans sd).trans se) rfl ⟨hth,(),()⟩ () () ⟨rl2,0,rfl,(Bc.same sd).new se hrl2 ee,λo ho=>by cases ho⟩ ((sd.trans se) _ _ ec) (λv hv'=>by rw[KC.mp hv'];exact .th O hth) (by show 1<=2;decide)
end
section
variable{P:Program}{w:OX}{K:OQ}{mg:Str->Option ON}{base:O8}{A:Adr}{g:Gc}{d:Gd}{H:Hp}
theorem GB(dy:oU H g d)(ok:xI g d)(O:jH g):∃a at_ rank aD cost fc,fG g d H a at_ rank aD cost fc:=by
 obtain⟨n1,n2,n3,n4⟩:=jr ok.nd;rcases lP d.fz with e|⟨fs,f,e⟩
 ·have hf:=dy.hf;rw[e]at hf;have ha:d.as=[]:=by
   cases ha:d.as with
   |nil=>rfl
   |cons a r=>rw[ha]at hf;cases hf
  obtain⟨m1,m2,m3⟩:=n4 d.a0 Kv;exact⟨d.a0,0,g.br,1,d.bc,UU,⟨by rw[ha];exact kF [] _,dy.h0,in0 g d,m1,m2,m3,O.br,by rw[e];rfl,⟨∅,∅⟩,ok.bc,λz=>absurd rfl z⟩⟩
 obtain⟨us,a,ea,p,fa⟩:=dy.uZ e;have ma:a∈d.as:=by rw[ea];simp
 obtain⟨m1,m2,m3⟩:=n4 a (Kx _ ma);have mf:f∈d.fz:=by rw[e];simp
 have F:=ok.fz f mf;have hh:=ok.hf;rw[e]at hh;refine⟨a,_,f.rank,f.aD,f.cost,f.fc,⟨?_,fa,inA g d ma,m1,m2,m3,F.rank,?_,ok.h36 f mf,F.cost,λ_=>⟨fs,f,e,rfl⟩⟩⟩
 ·rw[ea,La];exact kF (V.ref d.a0::us.map V.ref) _
 rw[e,fZ];exact hh.inv.2
theorem DH{H':Hp}{nd:Tr}{rows':List V}{cst:Int}(st:yk (del (d.M g) H') g)(hm:del (d.M g) H' d.lm=UT (.lst (nV g.N d.marks)))(D1:oU H g d)(ok:xI g d){a:OM}{at_:Nat}{rank aD cost:Int}{fc:Option Int}(T:fG g d H a at_ rank aD cost fc)
  (hS:H' g.S=UT (.dK (stK g d))) (hR:H' g.LR=UT (.lst rows')) (hO:H' d.lo=UT (.lst (.ref d.a0::d.as.map V.ref))) (hp:H' a=UT (.dK (frK at_ rank aD (cost+cst) fc))) (oth:∀x∈d.a0::d.as,x≠a->H' x=H x) (c0:0<=cst) (nok:nd.ok g.ns g.tg g.dd)
  (pay:g.ev=false->cG g.dd 1 d.bs+lj g.dd 1 d.fz+oG g.dd (cL 1 d.fz) nd<=d.spent) (hr:Paired (bZ g.N (del (d.M g) H')) rows' (d.lrs g++flat nd)) (len:(d.lrs g++flat nd).length+2*d.fz.length<=1000) (dnd:dT nd+d.fz.length<=4) :
  ∃d':Gd,d'.M g=d.M g/\BAt g H' d'/\mu g d'=(d.lrs g++flat nd).length+2*d.fz.length/\d'.fz.length=d.fz.length:=by
 obtain⟨n1,n2,n3,n4⟩:=jr ok.nd
 obtain⟨nd1,nd2⟩:=wI ok.nd
 rcases T.cases D1 with⟨ez,eas,ea,et,er,eh,ec,ef⟩|⟨fs,f,us,ez,eas,pu,et,er,eh,ec,ef⟩
 ·have lr:Gd.lrs g { d with rows:=rows',bs:=d.bs++[nd],bc:=d.bc+cst }=d.lrs g++flat nd:=by
   unfold Gd.lrs;dsimp only;rw[ez,mV];simp[bB,bf]
  refine⟨{ d with rows:=rows',bs:=d.bs++[nd],bc:=d.bc+cst },rfl,⟨st,hm,by rw[lr];exact hr,⟨hS,hR,hO,?_,?_⟩,⟨ok.nd,ok.mks,ok.ml,mO ok.bs ⟨nok,Lj⟩,by have:=ok.bc;show 0<=d.bc+cst;omega,ok.fz,ok.fl,ok.hf,ok.h36,λe=>?_,ok.sp,by rw[lr];exact len,⟨ow ok.dp.1 (),ok.dp.2⟩⟩⟩,by unfold mu;rw[lr],rfl⟩
  ·dsimp only;rw[<-ea,hp,et,er,eh,ec,ef]
  ·dsimp only;rw[ez,eas];exact .nil
  have:=pay e;dsimp only;rw[mN];simp only[cG];rw[ez]at this⊢;simp only[lj,cL]at this⊢;omega
 have F:=ok.fz f (by rw[ez];simp)
 have f36:=ok.h36 f (by rw[ez];simp)
 have hh:=ok.hf
 rw[ez]at hh
 have a0a:d.a0≠a:=λz=>nd1 (by rw[z,eas];simp)
 have ua:∀x∈us,x≠a:=λx hx z=>by
  rw[eas]at nd2;exact(Lm.mp nd2).2.2 x hx a (by simp) z
 have lr:Gd.lrs g { d with rows:=rows',fz:=fs++[{ f with rows:=f.rows++[nd],cost:=f.cost+cst }] }=d.lrs g++flat nd:=by
  unfold Gd.lrs;dsimp only;rw[ez,dH,dH];simp[bB,bf,Fz.op,Fz.gF,mV]
 have ln:(fs++[{ f with rows:=f.rows++[nd],cost:=f.cost+cst }]).length=d.fz.length:=by rw[ez];simp
 have di:=ok.dp.2
 rw[ez]at di
 have di:=di.inv
 refine⟨{ d with rows:=rows',fz:=fs++[{ f with rows:=f.rows++[nd],cost:=f.cost+cst }] },rfl,⟨st,hm,by rw[lr];exact hr,⟨hS,hR,hO,?_,?_⟩,⟨ok.nd,ok.mks,ok.ml,ok.bs,ok.bc,λx hx=>?_,?_,j6.app hh.inv.1 hh.inv.2,λx hx=>?_,λe=>?_,ok.sp,by rw[lr];dsimp only;rw[ln];exact len,⟨ok.dp.1,oi.app di.1 (ow di.2.1 (by rw[ez,Kz,Lo]at dnd;omega)) di.2.2⟩⟩⟩,by unfold mu;rw[lr];dsimp only;rw[ln],ln⟩
 ·rw[oth d.a0 Kv a0a];exact D1.h0
 ·dsimp only[Gd.b];rw[eas,mM,mU (hJ _ _)];refine Pb ?_ (Paired.wV pu λx hx y e=>?_)
  ·rw[hp,et,er,eh,ec,ef];rfl
  rw[oth x (by rw[eas];simp[hx]) (ua x hx)];exact e
 ·rcases KA.mp hx with hx|hx
  ·exact ok.fz x (by rw[ez];simp[hx])
  rw[KC.mp hx];exact⟨F.bk,F.l0,F.r0,mO F.rows ⟨nok,Lj⟩,F.fst,F.lp,F.fc,F.f0,F.rank,by have:=F.cost;show 0<=f.cost+cst;omega⟩
 ·dsimp only;rw[ln];exact ok.fl
 ·rcases KA.mp hx with hx|hx
  ·exact ok.h36 x (by rw[ez];simp[hx])
  rw[KC.mp hx];exact f36
 have p:=pay e
 rw[ez,dE,fZ]at p
 dsimp only
 rw[dE]
 dsimp only
 rw[mN]
 simp only[cG]
 omega
def oE(H:Hp)(g:Gc)(d:Gd)(t a:OM)(at_:Nat)(rank aD cost:Int):Hp:=upd (upd (upd H t (.tup [.str "else"])) g.LR (.lst (d.rows++[.ref t]))) a (.dK (frK at_ rank aD 0 (UT cost)))
def p9(f:Fz):Fz:={ f with fst:=UT f.rows,rows:=[],cost:=0,fc:=UT f.cost }
theorem BAt.els(h:BAt g H d){fs:List Fz}{f:Fz}{us:List OM}{a t:OM}{v:Val}(ez:d.fz=fs++[f])(ea:d.as=us++[a])(ib:f.bk=.iff v)(nf:f.fst=UU)(ht:H t=UU)(m3:mu g d+3<=1000) :
  BAt g (oE H g d t a (d.b g+(bB fs).length) f.rank f.aD f.cost) { d with rows:=d.rows++[.ref t],fz:=fs++[p9 f] }:=by
 obtain⟨n1,n2,n3,n4⟩:=jr h.ok.nd
 obtain⟨nd1,nd2⟩:=wI h.ok.nd
 obtain⟨us',a',ea',pu,fa⟩:=h.dy.uZ ez
 rw[ea]at ea'
 obtain⟨eu,ex⟩:=T9 ea' rfl
 cases ex
 subst eu
 have ma:a∈d.a0::d.as:=by rw[ea];simp
 obtain⟨aS,aR,aO⟩:=n4 a ma
 have tM:=h.free ht
 have tS:t≠g.S:=λz=>tM (by rw[z];exact inS g d)
 have tR:t≠g.LR:=λz=>tM (by rw[z];exact inR g d)
 have tA:∀x∈d.a0::d.as,x≠t:=λx hx z=>tM (by
  rw[<-z];rcases Ku.mp hx with rfl|hx
  ·exact in0 g d
  exact inA g d hx)
 have tO:t≠d.lo:=λz=>tM (by rw[z];exact inO g d)
 have a0a:d.a0≠a:=λz=>nd1 (by rw[z,ea];simp)
 have ua:∀x∈us,x≠a:=λx hx z=>by
  rw[ea]at nd2;exact(Lm.mp nd2).2.2 x hx a (by simp) z
 have F:=h.ok.fz f (by rw[ez];simp)
 have f36:=h.ok.h36 f (by rw[ez];simp)
 have hh:=h.ok.hf
 rw[ez]at hh
 have go:Go (d.M g) H (d.M g) (oE H g d t a (d.b g+(bB fs).length) f.rank f.aD f.cost):=((Go.new (aq.upd ht _)).trans (Go.at (inR g d) _)).trans (Go.at (inA g d (by rw[ea];simp)) _)
 have lr:Gd.lrs g { d with rows:=d.rows++[.ref t],fz:=fs++[p9 f] }=d.lrs g++[.els]:=by
  unfold Gd.lrs p9;dsimp only;rw[ez,dH,dH];simp[bB,bf,Fz.op,Fz.gF,zr,nf]
 have ln:(fs++[p9 f]).length=d.fz.length:=by rw[ez];simp
 have oth:∀x,x≠t->x≠g.LR->x≠a->oE H g d t a (d.b g+(bB fs).length) f.rank f.aD f.cost x=H x:=λx h1 h2 h3=>by
  unfold oE;rw[aw h3,aw h2,aw h1]
 have hlen:(d.lrs g++[Lr.els]).length=(d.lrs g).length+1:=by simp
 have di:=h.ok.dp.2
 rw[ez]at di
 have di:=di.inv
 refine h.go (d':={ d with rows:=d.rows++[.ref t],fz:=fs++[p9 f] }) go ⟨?_,?_,?_,?_,?_⟩ ⟨h.ok.nd,h.ok.mks,h.ok.ml,h.ok.bs,h.ok.bc,λx hx=>?_,?_,j6.app hh.inv.1 hh.inv.2,λx hx=>?_,λe=>?_,h.ok.sp,?_,⟨h.ok.dp.1,oi.app di.1 (KY _) (λt z=>by cases z;exact di.2.1)⟩⟩ (go.same _ _ h.hm) ?_
 ·rw[oth g.S tS.symm n1 aS.symm];exact h.dy.hS
 ·unfold oE;rw[aw aR.symm,ak]
 ·rw[oth d.lo tO.symm n3.symm aO.symm];exact h.dy.hO
 ·rw[oth d.a0 (tA _ Kv) (n4 _ Kv).2.1 a0a];exact h.dy.h0
 ·dsimp only[Gd.b];rw[ea,mM,mU (hJ _ _)];refine Pb ?_ (Paired.wV pu λx hx y e=>?_)
  ·unfold oE;rw[ak];rfl
  have mx:x∈d.a0::d.as:=by rw[ea];simp[hx]
  exact(oth x (tA x mx) (n4 x mx).2.1 (ua x hx)).trans e
 ·rcases KA.mp hx with hx|hx
  ·exact h.ok.fz x (by rw[ez];simp[hx])
  rw[KC.mp hx];exact⟨F.bk,F.l0,F.r0,Lj,λt z=>(by cases z;exact F.rows),λt m z=>(by rw[show(p9 f).bk=f.bk from rfl,ib]at z;cases z),⟨λz=>(by cases z),λz=>(by cases z)⟩,λn z=>(by cases z;exact F.cost),F.rank,Lb _⟩
 ·dsimp only;rw[ln];exact h.ok.fl
 ·rcases KA.mp hx with hx|hx
  ·exact h.ok.h36 x (by rw[ez];simp[hx])
  rw[KC.mp hx];exact f36
 ·have p:=h.ok.pay e;rw[ez,dE,nf]at p;dsimp only;rw[dE];simp only[p9,oK,cG]at p⊢;omega
 ·rw[lr,hlen];unfold mu at m3;dsimp only;rw[ln];omega
 rw[lr]
 refine Pb ⟨t,0,rfl,?_,λo ho=>by cases ho⟩ (Paired.cR h.hr λ_ _=>bZ.same go.same)
 refine aN tM ?_
 unfold oE
 rw[aw (tA a ma).symm,aw tR,ak]
 rfl
section
seal PE PA PS PSs PT PW
inductive zS(vs:List V)(H:Hp)(Q:VK)(Z:XK):Prop
 |mk(g:Gc)(d:Gd)(a:OM)(at_:Nat)(rank aD cost:Int)(fc:Option Int):vs=[.ref g.S,.ref a]->H g.S=UT (.dK (stK g d))->H g.LR=UT (.lst d.rows)->d.rows.length<=1000->H a=UT (.dK (frK at_ rank aD cost fc))->a≠g.S->a≠g.LR->g.S≠g.LR->(∀t,H t=UU->Q .non (oE H g d t a at_ rank aD cost))->zS vs H Q Z
theorem Dg(T:Txt K mg A):Has P w K mg base 1 "_law_else" ["_law_state","_law_frame"] zS:=by
 refine T.vR.has vP (λvs H Q E h=>?_) (λf cdv A' outer s H vs Q E hr hu h=>?_)
 ·obtain⟨g,d,a,at_,rank,aD,cost,fc,rfl,_⟩:=h;rfl
 obtain⟨g,d,a,at_,rank,aD,cost,fc,rfl,hS,hR,rl,hF,aS,aR,n1,q⟩:=h;refine⟨_,(ae (aK (cI (px hu (fv 0) ao) (bb (ao^af)^af)))
 (ae (bu (px hu (fv 1) ao) (bC (fv 1) ao (bD hu UX)))
 (aj (bu ab (bC (fv 1) ao (bD hu UX)))))),?_⟩
 refine ah λM1 K1=>dgk hS rfl ⟨KJ ⟨rfl,_,SqL.of hR⟩,by show 1<=sizeLine;decide,λt ht=>?_⟩;have tR:t≠g.LR:=UW ht hR;have ta:t≠a:=UW ht hF;refine⟨_,_,_,rfl,rfl,ag tR.symm hR,az rl,K1 _ _ ?_⟩;have hF1:upd (upd H t (.tup [.str "else"])) g.LR (.lst (d.rows++[.ref t])) a=UT (.dK (frK at_ rank aD cost fc)):=ag aR (ag ta.symm hF);have q:=q t ht;unfold oE at q;generalize upd (upd H t (.tup [.str "else"])) g.LR (.lst (d.rows++[.ref t]))=H1 at hF1 q⊢;try dsimp only
 refine ah λM2 K2=>dgk hF1 rfl ⟨_,cP.k (k:=.inr "first") hF1 (show 5<sizeLine by decide),K2 _ _ ?_⟩;rw[show UZ (frK at_ rank aD cost fc) (.inr "first") (.int cost)=frK at_ rank aD cost (UT cost)from rfl];try dsimp only
 refine⟨_,cP.k (k:=.inr "cost") ak (show 5<sizeLine by decide),?_⟩;rw[show UZ (frK at_ rank aD cost (UT cost)) (.inr "cost") (.int 0)=frK at_ rank aD 0 (UT cost)from rfl,kG];exact q
end
end
section
variable{P:Program}{w:OX}{K:OQ}{mg:Str->Option ON}{base:O8}{A:Adr}{g:Gc}{d:Gd}{H:Hp}
theorem GG{dd:List Dl}(h:∀e∈dd,0<=e.sp)(r:Lr):0<=su dd r:=by
 cases r with
 |call i ts=>
  show 0<=(match dd.find? (λd=>decide (d.nm=i))with
   |some d=>1+d.sp
   |none=>1)
  cases e:dd.find? (λd=>decide (d.nm=i))with
  |none=>exact(by decide:(0:Int)<=1)
  |some x=>
   have:=h x (Mz e);show 0<=1+x.sp;omega
 |_=>exact(by decide:(0:Int)<=1)
mutual
theorem Dz{ns tg:List Nat}{dd:List Dl}(O:∀e∈dd,0<=e.sp):∀(t:Tr){h:Int},0<=h->t.ok ns tg dd->0<=oG dd h t
 | .leaf r,h,h0,_=>Lq h0 (GG O r)
 | .iff v l r f o,h,h0,k=>by
  have a:=km O f h0 k.2.2.2.1;have b:=km O o h0 k.2.2.2.2;have l0:=k.2.1;have r0:=k.2.2.1;have:=Lq h0 (show 0<=1+1*(l+r) by omega);unfold oG;omega
 | .loop t m l r b,h,h0,k=>by
  have m1:=k.2.1;have l0:=k.2.2.2.1;have r0:=k.2.2.2.2.1;have a:=km O b (Lq h0 (show 0<=m by omega)) k.2.2.2.2.2;have:=Lq h0 (show 0<=1+m*(l+r) by have:=Lq (show 0<=m by omega) (show 0<=l+r by omega);omega);unfold oG;omega
theorem km{ns tg:List Nat}{dd:List Dl}(O:∀e∈dd,0<=e.sp):∀(ts:List Tr){h:Int},0<=h->eE ns tg dd ts->0<=cG dd h ts
 | [],_,_,_=>Lb _
 |t::ts,h,h0,k=>by
  have a:=Dz O t h0 k.1;have b:=km O ts h0 k.2;unfold cG;omega
end
def lG(f:Fz)(l r:Int):Tr:=match f.bk with
 | .iff v=>.iff v l r (f.fst.getD []) f.rows
 | .loop t m=>.loop t m l r f.rows
theorem BB{f:Fz}{l r:Int}{n:Nat}(h1:dTs f.rows<=n)(h2:∀t,f.fst=UT t->dTs t<=n):dT (lG f l r)<=n+1:=by
 have h3:dTs (f.fst.getD [])<=n:=by
  cases e:f.fst with
  |none=>exact KY _
  |some t=>exact h2 t e
 unfold lG;cases f.bk with
 |iff v=>simp only[dT];omega
 |loop t m=>simp only[dT];omega
def Vn(f:Fz):Prop:=∀v,f.bk=.iff v->∃t,f.fst=UT t
theorem AM{f:Fz}{l r:Int}(h:Vn f)(lp:∀t m,f.bk=.loop t m->f.fst=UU):flat (lG f l r)=f.bk.lr l r::(f.gF++[.fin]):=by
 unfold lG Fz.gF;cases e:f.bk with
 |iff v=>
  obtain⟨t,et⟩:=h v e;rw[et];simp[flat,Bk.lr,zr]
 |loop t m=>
  rw[lp t m e];simp[flat,Bk.lr,zr]
theorem Ea{f:Fz}{l r:Int}(F:Jn g f)(h:Vn f)(l0:0<=l)(r0:0<=r):(lG f l r).ok g.ns g.tg g.dd:=by
 have bk:=F.bk;unfold lG;cases e:f.bk with
 |iff v=>
  rw[e]at bk;obtain⟨t,et⟩:=h v e;rw[et];exact⟨bk,l0,r0,F.fst t et,F.rows⟩
 |loop t m=>
  rw[e]at bk;exact⟨bk.1,bk.2.1,bk.2.2,l0,r0,F.rows⟩
theorem AL{f:Fz}{h:Int}(hf:Vn f)(lp:∀t m,f.bk=.loop t m->f.fst=UU):oG g.dd h (lG f f.l f.r)=h*(1+f.bk.m*(f.l+f.r))+oK g.dd (h*f.bk.m) f.fst+cG g.dd (h*f.bk.m) f.rows:=by
 unfold lG;cases e:f.bk with
 |iff v=>
  obtain⟨t,et⟩:=hf v e;rw[et];simp[oG,Bk.m,oK]
 |loop t m=>
  rw[lp t m e];simp[oG,Bk.m,oK]
def me(d:Gd)(us:List OM)(fs:List Fz):Gd:={ d with as:=us,fz:=fs }
theorem DQ(ok:xI g d)(O:jH g){us:List OM}{a:OM}{fs:List Fz}{f:Fz}(ez:d.fz=fs++[f])(ea:d.as=us++[a]):xI g (me d us fs):=by
 have hh:=ok.hf;rw[ez]at hh;have fl:=ok.fl;rw[ez,Kz]at fl;simp only[Lo]at fl;have F:=ok.fz f (by rw[ez];simp);have rl:=ok.rl;have di:=ok.dp.2;rw[ez]at di;have sub:(d.M g).Nodup:=ok.nd;refine⟨?_,ok.mks,ok.ml,ok.bs,ok.bc,λx hx=>ok.fz x (by rw[ez];exact Lk _ hx),by show fs.length<=3;omega,hh.inv.1,λx hx=>ok.h36 x (by rw[ez];exact Lk _ hx),λe=>?_,ok.sp,?_,⟨ok.dp.1,di.inv.1⟩⟩
 ·unfold Gd.M at sub⊢;rw[ea]at sub;show(g.S::g.LR::d.lo::d.a0::us).Nodup;rw[show g.S::g.LR::d.lo::d.a0::(us++[a])=(g.S::g.LR::d.lo::d.a0::us)++[a]from rfl]at sub;exact(Lm.mp sub).1
 ·have p:=ok.pay e;rw[ez,dE]at p;have sp:∀e∈g.dd,0<=e.sp:=λe he=>(O.dv e he).2.2.1;have h0:0<=cL 1 fs:=by
   have h36:=(ok.h36 f (by rw[ez];simp)).1;rw[hh.inv.2]at h36;have mb:1<=f.bk.m:=by
    have:=F.bk;cases eb:f.bk with
    |iff v=>exact(show(1:Int)<=1 by decide)
    |loop t m=>rw[eb]at this;exact this.2.1
   rcases Int.lt_or_le (cL 1 fs) 0 with z|z
   ·have:=Ma (show cL 1 fs<=0 by omega) (show 0<=f.bk.m by omega);omega
   exact z
  have mb:0<=f.bk.m:=by
   have:=F.bk;cases eb:f.bk with
   |iff v=>exact(show(0:Int)<=1 by decide)
   |loop t m=>rw[eb]at this;have:=this.2.1;show 0<=m;omega
  have hm:=Lq h0 mb;have a1:=km sp f.rows hm F.rows;have a2:0<=oK g.dd (cL 1 fs*f.bk.m) f.fst:=by
   cases ef:f.fst with
   |none=>exact Lb _
   |some t=>exact km sp t hm (F.fst t ef)
  have a3:=Lq h0 (show 0<=1+f.bk.m*(f.l+f.r) by have:=Lq mb (show 0<=f.l+f.r by have:=F.l0;have:=F.r0;omega);omega);show cG g.dd 1 d.bs+lj g.dd 1 fs<=d.spent;omega
 have e1:Gd.lrs g (me d us fs)=g.pre++bf d.bs++bB fs:=rfl;have e2:d.lrs g=(g.pre++bf d.bs++bB fs)++bB [f]:=by
  unfold Gd.lrs;rw[ez,dH,Li (g.pre++bf d.bs)]
 rw[e1];have e3:(d.lrs g).length=(g.pre++bf d.bs++bB fs).length+(bB [f]).length:=by rw[e2,Kz (bs:=bB [f])]
 have e4:d.fz.length=fs.length+1:=by rw[ez];simp
 rw[e3,e4]at rl;show(g.pre++bf d.bs++bB fs).length+2*fs.length<=1000;omega
end
section
variable{P:Program}{w:OX}{K:OQ}{mg:Str->Option ON}{base:O8}{A:Adr}{g:Gc}{d:Gd}{H:Hp}
seal PE PA PS PSs PT PW
theorem Ai{fs:List Fz}{f:Fz}(ez:d.fz=fs++[f]):d.lrs g=(g.pre++bf d.bs++bB fs)++f.op::f.gF:=by
 unfold Gd.lrs;rw[ez,dH,Li (g.pre++bf d.bs)];simp[bB]
theorem vC{α:Type}(xs:List α)(x:α):(xs++[x])[(xs++[x]).length-1]?=UT x:=by simp
inductive tF(vs:List V)(H:Hp)(Q:VK)(Z:XK):Prop
 |mk(g:Gc)(d:Gd):vs=[.ref g.S]->jH g->BAt g H d->d.fz≠[]->mu g d+3<=1000->(∀(d':Gd)(H':Hp),Go (d.M g) H (d'.M g) H'->BAt g H' d'->mu g d'<=mu g d->d'.fz.length+1=d.fz.length->Q .non H')->tF vs H Q Z
theorem wz(T:Txt K mg A):Has P w K mg base 2 "_law_closed" ["_law_state"] tF:=by
 have NP:=@Dg P w _ _ base _ T;refine T.qR.has (k:=1) dg (λvs H Q E h=>?_) (λf cdv A' outer s H vs Q E hr hu h=>?_)
 ·obtain⟨g,d,rfl,_⟩:=h;rfl
 obtain⟨g,d,rfl,O,B,ne,m3,q⟩:=h;obtain⟨fs,f,ez⟩:∃fs f,d.fz=fs++[f]:=(lP d.fz).resolve_left ne;obtain⟨us,a,ea,pu,fa⟩:=B.dy.uZ ez;obtain⟨n1,n2,n3,n4⟩:=jr B.ok.nd;have ma:a∈d.a0::d.as:=by rw[ea];simp
 obtain⟨aS,aR,aO⟩:=n4 a ma;have rl:d.rows.length+3<=1000:=by
  have:=OU B.hr;unfold mu at m3;omega
 have lb:(g.pre++bf d.bs++bB fs).length=d.b g+(bB fs).length:=by
  unfold Gd.b;rw[Kz (bs:=bB fs)]
 obtain⟨at_,hat⟩:∃at_,at_=d.b g+(bB fs).length:=⟨_,rfl⟩;rw[<-hat]at fa lb;have gx:(d.lrs g)[at_]?=UT f.op:=by
  rw[Ai ez,<-lb];simp
 obtain⟨rv,hrv,hrw⟩:∃rv,d.rows[at_]?=UT rv/\bZ g.N (del (d.M g) H) rv f.op:=by
  have hl:=OU B.hr;have:at_<d.rows.length:=by
   rw[hl];exact(KH.mp gx).1
  obtain⟨y,h1,h2⟩:=bw B.hr (Kw this);rw[gx]at h1;cases h1;exact⟨_,Kw this,h2⟩
 obtain⟨ra,rp,rfl,hra,hrp⟩:=hrw;have LL:(V.ref d.a0::d.as.map V.ref).dropLast=V.ref d.a0::us.map V.ref:=by
  rw[ea,La];exact Sa (l₁:=V.ref d.a0::us.map V.ref)
 refine⟨_,(ae (pst 1 dg.nd (Fs (px hu (fv 0) ao)))
 (ae (pst 2 dg.nd (px hu (fv 0) ao))
 (ae (pst 3 dg.nd (px hu (fv 2) (px hu (fv 1) ao)))
 (ae (aM (PW.pt (pw_and (ptc (bj hu) (px hu (fv 3) ab) ao) (pw_and1 (ptc vH (px hu (fv 1) ao) d5))))
  (aj (aK (ar NP hr (fv 0^fv 1^af))))
  aC)
 (ae (pst 4 dg.nd ab)
 (ae (aM (PW.pt (pw_and (bX (px hu (fv 0) ao) (λ_=>rfl)) (pw_and1 (ptc (bj hu) (px hu (fv 3) ab) ao))))
  (ae (pst 4 dg.nd (ax bz (px hu (fv 3) ab) (pcB sV T.nr (px hu (fv 1) ao^px hu (fv 1) ao^af))))
  (aj (bu (bb (ao^px hu (fv 3) ab^ax kY (fv 4) (px hu (fv 1) ao)^ax kY (fv 4) (px hu (fv 1) ao)^af)) (bC (fv 2) (px hu (fv 1) ao) (bD hu UX)))))
  (aj (aM (bX (px hu (fv 0) ao) (λ_=>rfl))
   (ae (bu (ax u3 (cK eT (fv 3) ky (cf ab)) (bb (ax bz (px hu (fv 1) ao) (px hu (fv 3) ab)^af))) (bC (fv 2) (px hu (fv 1) ao) (bD hu UX)))
   (aj (pst 4 dg.nd (ax cS (px hu (fv 3) ab) (ax bz (px hu (fv 1) ao) (px hu (fv 3) ab))))))
   aC)))
 (ae (aK (cI (fv 2) (bb (ao^af)^af)))
 (aj (bu (ax bz (px hu (px hu (px hu (fv 0) ao) (iL fk ab)) ao) (fv 4)) (bC (px hu (px hu (fv 0) ao) (iL fk ab)) ao (bD hu UX))))))))))),?_⟩
 refine ah λM1 K1=>dgk B.dy.hS rfl ⟨KJ ⟨rfl,_,SqL.of B.dy.hO⟩,_,_,.ref a,rfl,rfl,B.dy.hO,(by rw[ea,La];exact vC (V.ref d.a0::us.map V.ref) (V.ref a)),K1 _ _ ?_⟩;rw[LL];obtain⟨L,hL⟩:∃L,L=HO.lst (V.ref d.a0::us.map V.ref):=⟨_,rfl⟩;rw[<-hL];have hS1:upd H d.lo L g.S=UT (.dK (stK g d)):=ag n2 B.dy.hS;have hR1:upd H d.lo L g.LR=UT (.lst d.rows):=ag n3 B.dy.hR;have hF1:upd H d.lo L a=UT (.dK (frK at_ f.rank f.aD f.cost f.fc)):=ag aO fa;have raM:ra∉d.M g:=(bq hra).1;have raO:ra≠d.lo:=λz=>raM (by rw[z];exact inO g d);have hra1:upd H d.lo L ra=UT (.tup (.str f.op.w::f.op.tl g.N rp)):=ag raO (bq hra).2;try dsimp only
 refine ah λM2 K2=>dgk hS1 rfl (K2 _ _ ?_);try dsimp only
 refine ah λM3 K3=>dgk hF1 rfl (lix (SqL.of hR1) (d6 hrv) (K3 _ _ ?_));try dsimp only
 refine ah λM4 K4=>?_;have rest:∀(He:Hp)(de:Gd)(fe:Fz),BAt g He de->de.fz=fs++[fe]->de.as=us++[a]->de.M g=d.M g->de.lo=d.lo->de.a0=d.a0->de.b g=d.b g->fe.bk=f.bk->fe.l=f.l->fe.r=f.r->Vn fe->de.rows[at_]?=UT (.ref ra)->Go (d.M g) H (d.M g) He->mu g de<=mu g d+1->M4 [UT (.ref g.S),UT (.ref a),UT (.ref g.LR),UT (.ref ra),UU] (upd He d.lo L):=λHe de fe Be eze eae eM elo ea0 eb ebk el er full hrve goe mue=>K4 _ _ (by
  have Fe:=Be.ok.fz fe (by rw[eze];simp);obtain⟨us',a',ea',pu',fa'⟩:=Be.dy.uZ eze;rw[eae]at ea';obtain⟨eu,ex⟩:=T9 ea' rfl;cases ex;subst eu;rw[eb,<-hat]at fa';rw[eb]at pu';have lrse:de.lrs g=(g.pre++bf de.bs++bB fs)++fe.op::fe.gF:=Ai eze;have lbe:(g.pre++bf de.bs++bB fs).length=at_:=by
   rw[hat,<-eb];unfold Gd.b;rw[Kz (bs:=bB fs)]
  have rle:de.rows.length+2<=1000:=by
   have:=OU Be.hr;unfold mu at mue m3;rw[eze,ez]at mue;simp only[Kz,Lo]at mue;omega
  have gxe:(de.lrs g)[at_]?=UT fe.op:=by
   rw[lrse,<-lbe];simp
  obtain⟨y,hy1,hy2⟩:=bw Be.hr hrve;rw[gxe]at hy1;cases hy1;obtain⟨ra',rp',e0,hra',hrp'⟩:=hy2;cases e0;rw[eM]at hra' hrp';have hS2:upd He d.lo L g.S=UT (.dK (stK g de)):=ag n2 Be.dy.hS;have hR2:upd He d.lo L g.LR=UT (.lst de.rows):=ag n3 Be.dy.hR;have hF2:upd He d.lo L a=UT (.dK (frK at_ fe.rank fe.aD fe.cost fe.fc)):=ag aO fa';have hra2:upd He d.lo L ra=UT (.tup (.str fe.op.w::fe.op.tl g.N rp')):=ag raO (bq hra').2;have hO2:upd He d.lo L d.lo=UT L:=ak;have go2:Go (d.M g) He (d.M g) (upd He d.lo L):=Go.at (inO g d) _;have D0:oU (upd He d.lo L) g (me de us fs):=⟨hS2,hR2,(by show upd He d.lo L de.lo=_;rw[elo,hO2,hL];show _=UT (HO.lst (V.ref de.a0::us.map V.ref));rw[ea0]),ag (by show de.a0≠d.lo;rw[ea0];exact(n4 _ Kv).2.2) Be.dy.h0,(by
   show Paired _ us ((ats (de.b g) fs).zip fs);rw[eb];exact Paired.wV pu' λx hx y e=>ag (n4 x (by rw[ea];simp[hx])).2.2 e)⟩
  have ok0:xI g (me de us fs):=DQ Be.ok O eze eae;obtain⟨pa,pat,prk,pht,pc,pfc,T0⟩:=GB D0 ok0 O;have pam:pa∈d.a0::us:=by
   have:=T0.last;have e2:(me de us fs).a0=d.a0:=ea0;have e3:(me de us fs).as=us:=rfl;rw[e2,e3]at this;unfold atI at this;obtain⟨j,_,hj⟩:=Option.bind_eq_some_iff.mp this;have hm:=KG hj;rcases Ku.mp hm with z|z
   ·cases z;exact Kv
   obtain⟨u,hu1,hu2⟩:=KU.mp z;cases hu2;exact Kx _ hu1
  have pam':pa∈d.a0::d.as:=by
   rcases Ku.mp pam with z|z
   ·exact z▸Kv
   rw[ea];simp[z]
  obtain⟨pS,pR,pO⟩:=n4 pa pam';refine ah λN1 J1=>J1 _ _ ?_;try dsimp only
  refine ah λN2 J2=>?_;have fin:∀(H3:Hp)(rows3:List V)(cst l' r':Int),Go (d.M g) (upd He d.lo L) (d.M g) H3->H3 g.S=UT (.dK (stK g de))->H3 d.lo=UT L->H3 g.LR=UT (.lst rows3)->(∀x∈d.a0::us,H3 x=upd He d.lo L x)->(∀x∈d.M g,H3 x≠UU)->rows3.length=de.rows.length->Paired (bZ g.N (del (d.M g) H3)) rows3 ((g.pre++bf de.bs++bB fs)++f.bk.lr l' r'::fe.gF)->0<=cst->0<=l'->0<=r'->(g.ev=false->l'=f.l/\r'=f.r)->N2 [UT (.ref g.S),UT (.ref a),UT (.ref g.LR),UT (.ref ra),UT (.int cst)] H3:=λH3 rows3 cst l' r' go3 hS3 hO3 hR3 ot3 al3 rl3 hr3 c0 l0 r0 evf=>J2 _ _ (by
   refine ah λN3 J3=>⟨KJ ⟨rfl,_,SqL.of hR3⟩,by show 1<=sizeLine;decide,λte hte=>?_⟩;have teR:te≠g.LR:=UW hte hR3;have teS:te≠g.S:=UW hte hS3;have teO:te≠d.lo:=UW hte hO3;refine⟨_,_,_,rfl,rfl,ag teR.symm hR3,az (),J3 _ _ ?_⟩;have hp3:H3 pa=UT (.dK (frK pat prk pht pc pfc)):=by rw[ot3 pa pam];exact T0.fr
   have tep:te≠pa:=UW hte hp3;obtain⟨H5,hH5⟩:∃H5,H5=upd (upd H3 te (.tup [.str "end"])) g.LR (.lst (rows3++[.ref te])):=⟨_,rfl⟩;rw[<-hH5];have hS5:H5 g.S=UT (.dK (stK g de)):=by rw[hH5];exact ag n1 (ag teS.symm hS3)
   have hO5:H5 d.lo=UT L:=by rw[hH5];exact ag n3.symm (ag teO.symm hO3)
   have hp5:H5 pa=UT (.dK (frK pat prk pht pc pfc)):=by rw[hH5];exact ag pR (ag tep.symm hp3)
   have go5:Go (d.M g) H3 (d.M g) H5:=by rw[hH5];exact(Go.new (aq.upd hte _)).trans (Go.at (inR g d) _)
   have pl:=T0.last;rw[show(me de us fs).a0=d.a0 from ea0,show(me de us fs).as=us from rfl]at pl;have hO5':=hO5;rw[hL]at hO5';have gO:c8 H5 g.S (.str "open") (UT (.ref d.lo)):=by
    have:=c8.k (k:=.inr "open") hS5;rw[show L2.ft (stK g de) (.inr "open")=UT (.ref de.lo)from rfl,elo]at this;exact this
   try dsimp only
   refine⟨_,gO,_,rfl,(lix (SqL.of hO5') pl (dgk hp5 rfl ⟨_,gO,_,rfl,(lix (SqL.of hO5') pl ⟨_,cP.k (k:=.inr "cost") hp5 (show 5<sizeLine by decide),?_⟩)⟩))⟩;rw[show UZ (frK pat prk pht pc pfc) (.inr "cost") (.int (pc+cst))=frK pat prk pht (pc+cst) pfc from rfl];have M0:∀x∈Gd.M g (me de us fs),x∈d.M g:=λx hx=>by
    have hx:x∈g.S::g.LR::de.lo::de.a0::us:=hx;rw[elo,ea0]at hx;unfold Gd.M;rw[ea];simp only[Ku,KA,KC,KD,or_false]at hx⊢;rcases hx with z|z|z|z|z
    ·exact .inl z
    ·exact .inr (.inl z)
    ·exact .inr (.inr (.inl z))
    ·exact .inr (.inr (.inr (.inl z)))
    exact .inr (.inr (.inr (.inr (.inl z))))
   have go6:Go (d.M g) H5 (Gd.M g (me de us fs)) (upd H5 pa (.dK (frK pat prk pht (pc+cst) pfc))):=(Go.at (show pa∈d.M g by
    rcases Ku.mp pam' with z|z
    ·exact z▸in0 g d
    exact inA g d z) _).to λx hx=>.inl (M0 x hx)
   have goF:Go (d.M g) He (Gd.M g (me de us fs)) (upd H5 pa (.dK (frK pat prk pht (pc+cst) pfc))):=((go2.trans go3).trans go5).trans go6;obtain⟨H6,hH6⟩:∃H6,H6=upd H5 pa (.dK (frK pat prk pht (pc+cst) pfc)):=⟨_,rfl⟩;rw[<-hH6]at go6 goF⊢;have Hbk:f.bk=fe.bk:=ebk.symm;have fl:=AM (f:=fe) (l:=l') (r:=r') full Fe.lp;have lr0:Gd.lrs g (me de us fs)=g.pre++bf de.bs++bB fs:=rfl;have s35:=(go5.trans go6).same;have hte5:del (Gd.M g (me de us fs)) H6 te=UT (.tup [.str "end"]):=by
    refine aN (λz=>?_) ?_
    ·have:=M0 te z;exact al3 te this hte
    rw[hH6,aw tep,hH5,aw teR,ak]
   have hr6:Paired (bZ g.N (del (Gd.M g (me de us fs)) H6)) (rows3++[.ref te]) (Gd.lrs g (me de us fs)++flat (lG fe l' r')):=by
    rw[fl,lr0,show g.pre++bf de.bs++bB fs++(fe.bk.lr l' r'::(fe.gF++[Lr.fin]))=(g.pre++bf de.bs++bB fs++(fe.bk.lr l' r'::fe.gF))++[Lr.fin] by simp];refine Pb ⟨te,0,rfl,hte5,λo ho=>by cases ho⟩ ?_;rw[<-Hbk];exact Paired.cR hr3 λ_ _=>bZ.same s35
   have hS6:H6 g.S=UT (.dK (stK g de)):=by rw[hH6];exact ag pS.symm hS5
   have hR6:H6 g.LR=UT (.lst (rows3++[.ref te])):=by rw[hH6,aw pR.symm,hH5,ak]
   have hO6:H6 d.lo=UT L:=by rw[hH6];exact ag pO.symm hO5
   have ot6:∀x∈d.a0::us,x≠pa->H6 x=upd He d.lo L x:=λx hx ne=>by
    have xm:x∈d.a0::d.as:=by
     rcases Ku.mp hx with z|z
     ·exact z▸Kv
     rw[ea];simp[z]
    have xe:x≠te:=λz=>by
     have:=al3 x (by
      rcases Ku.mp xm with z|z
      ·exact z▸in0 g d
      exact inA g d z)
     rw[z]at this;exact this hte
    rw[hH6,aw ne,hH5,aw (n4 x xm).2.1,aw xe];exact ot3 x hx
   have sF:=goF.same;rw[<-eM]at sF;have ln:(Gd.lrs g (me de us fs)++flat (lG fe l' r')).length=(de.lrs g).length+1:=by
    rw[fl,lr0,lrse];simp only[Kz,Lc,MO];omega
   have fzl:de.fz.length=fs.length+1:=by rw[eze];simp
   have fzl':d.fz.length=fs.length+1:=by rw[ez];simp
   have z0:(me de us fs).fz.length=fs.length:=rfl;obtain⟨d',M',B',mu',fl'⟩:=DH (H':=H6) (nd:=lG fe l' r') (rows':=rows3++[.ref te]) (cst:=cst) (Be.st.same sF) (sF _ _ Be.hm) D0 ok0 T0 hS6 hR6 (by
    show H6 de.lo=UT (.lst (.ref de.a0::us.map V.ref));rw[elo,ea0,hO6,hL]) (by rw[hH6];exact ak) (λx hx ne=>ot6 x (by rw[<-ea0];exact hx) ne) c0 (Ea Fe full l0 r0) (λev=>by
    obtain⟨e1,e2⟩:=evf ev;have p:=Be.ok.pay ev;rw[eze,dE]at p;rw[e1,e2,<-el,<-er,AL full Fe.lp];show cG g.dd 1 de.bs+lj g.dd 1 fs+_<=de.spent;show cG g.dd 1 de.bs+lj g.dd 1 fs+(cL 1 fs*(1+fe.bk.m*(fe.l+fe.r))+oK g.dd (cL 1 fs*fe.bk.m) fe.fst+cG g.dd (cL 1 fs*fe.bk.m) fe.rows)<=de.spent;omega) hr6 (by
    rw[ln,z0];unfold mu at mue m3;omega) (by
    have di:=Be.ok.dp.2;rw[eze]at di;have di:=di.inv;have nf:=BB (l:=l') (r:=r') di.2.1 di.2.2;have f3:=Be.ok.fl;rw[eze,Kz,Lo]at f3;rw[z0];omega)
   refine q d' H6 ?_ B' ?_ ?_
   ·rw[M'];exact goe.trans goF
   ·rw[mu',ln,z0];unfold mu at mue⊢;omega
   rw[fl',z0,fzl'])
  have alE:∀x∈d.M g,upd He d.lo L x≠UU:=λx hx e=>by
   by_cases z:x=d.lo
   ·rw[z,ak]at e;cases e
   rw[aw z]at e;exact Be.al x (by rw[eM];exact hx) e
  have hr2:Paired (bZ g.N (del (d.M g) (upd He d.lo L))) de.rows (de.lrs g):=by
   have:=Be.hr;rw[eM]at this;exact Paired.cR this λ_ _=>bZ.same go2.same
  have gE:∀{H':Hp},H' g.S=UT (.dK (stK g de))->c8 H' g.S (.str "even") (UT (.bl g.ev)):=λh=>c8.k (k:=.inr "even") h;have ev:¬ g.ev=true:=by rw[O.ev];decide
  have goA:=fin (upd He d.lo L) de.rows 0 f.l f.r (Go.refl _ _) hS2 hO2 hR2 (λ_ _=>rfl) alE rfl (by
   rw[lrse]at hr2;have:fe.op=f.bk.lr f.l f.r:=by unfold Fz.op;rw[ebk,el,er]
   rw[this]at hr2;exact hr2) (Lb _) (by rw[<-el];exact Fe.l0) (by rw[<-er];exact Fe.r0) λ_=>⟨rfl,rfl⟩
  refine⟨_,gE hS2,_,rfl,aE (λc=>absurd c ev) (λ_=>bH ?_)⟩;exact⟨_,gE hS2,_,rfl,aE (λc=>absurd c ev) (λ_=>goA)⟩)
 have Ff:=B.ok.fz f (by rw[ez];simp);cases hbk:f.bk with
 |iff v=>
  have eop:f.op=.iff v f.l f.r:=by unfold Fz.op;rw[hbk];rfl
  rw[eop]at hra1;refine KJ ⟨_,_,Lg (SqT.of hra1),rfl,rfl,_,rfl,dO ?_⟩;cases ef:f.fst with
  |some tf=>
   obtain⟨ff,eff⟩:∃ff,f.fc=UT ff:=by
    cases e:f.fc with
    |none=>rw[Ff.fc.mp e]at ef;cases ef
    |some n=>exact⟨n,rfl⟩
   have hF1':=hF1;rw[eff]at hF1';exact dgk hF1' rfl ⟨rfl,_,rfl,bH (rest H d f B ez ea rfl rfl rfl rfl rfl rfl rfl (λv' _=>⟨tf,ef⟩) hrv (Go.refl _ _) ())⟩
  |none=>
   have efc:f.fc=UU:=Ff.fc.mpr ef;have hF1':=hF1;rw[efc]at hF1';refine dgk hF1' rfl ⟨rfl,_,rfl,dO ⟨g,d,a,at_,f.rank,f.aD,f.cost,UU,rfl,hS1,hR1,(),hF1',aS,aR,n1,λt ht=>?_⟩⟩;have tO:t≠d.lo:=λz=>by rw[z,ak]at ht;cases ht
   have ht0:H t=UU:=by rw[aw tO]at ht;exact ht
   have eq:oE (upd H d.lo L) g d t a at_ f.rank f.aD f.cost=upd (oE H g d t a at_ f.rank f.aD f.cost) d.lo L:=by
    unfold oE;rw[mw (x:=d.lo) (y:=t) tO.symm,mw (x:=d.lo) (y:=g.LR) n3.symm,mw (x:=d.lo) (y:=a) aO.symm]
   rw[eq];have Be:=B.els ez ea hbk ef ht0 m3;rw[<-hat]at Be;have goe:Go (d.M g) H (d.M g) (oE H g d t a at_ f.rank f.aD f.cost):=((Go.new (aq.upd ht0 _)).trans (Go.at (inR g d) _)).trans (Go.at (inA g d (by rw[ea];simp)) _);have lrl:(Gd.lrs g { d with rows:=d.rows++[.ref t],fz:=fs++[p9 f] }).length=(d.lrs g).length+1:=by
    have h1:=OU Be.hr;have h2:=OU B.hr;rw[<-h1,<-h2];simp
   refine rest _ { d with rows:=d.rows++[.ref t],fz:=fs++[p9 f] } (p9 f) Be rfl ea rfl rfl rfl rfl rfl rfl rfl (λv' _=>⟨f.rows,rfl⟩) ?_ goe ?_
   ·show(d.rows++[V.ref t])[at_]?=_;rw[LX (KH.mp hrv).1];exact hrv
   unfold mu;rw[lrl];dsimp only;rw[ez];simp only[Kz,Lo];omega
 |loop th m=>
  have eop:f.op=.loop th m f.l f.r:=by unfold Fz.op;rw[hbk];rfl
  rw[eop]at hra1;exact KJ ⟨_,_,Lg (SqT.of hra1),rfl,rfl,_,rfl,bH (bH (rest H d f B ez ea rfl rfl rfl rfl rfl rfl rfl (λv' z=>by rw[hbk]at z;cases z) hrv (Go.refl _ _) ()))⟩
theorem zQ:∀{dd:List Dl}{e:Dl},(dd.map Dl.nm).Nodup->e∈dd->dd.find? (λd=>decide (d.nm=e.nm))=UT e
 |x::r,e,nd,m=>by
  rw[KQ]at nd;obtain⟨n1,n2⟩:=KW.mp nd;rw[Ly];rcases Ku.mp m with rfl|m
  ·rw[decide_eq_true rfl]
  rw[decide_eq_false (λz=>n1 (by rw[z];exact Mx m))];exact zQ n2 m
inductive ug(K:OQ)(vs:List V)(H:Hp)(Q:VK)(Z:XK):Prop
 |mk(g:Gc)(d:Gd)(c:Int)(lo:Bool):vs=[.ref g.S,.int c,.bl lo]->jH g->BAt g H d->mu g d+3<=1000->Ca g d H Q .non->ug K vs H Q Z
theorem BR(T:Txt K mg A):Has P w K mg base 6 "_law_called" ["_law_state","_law_cell","_law_loose"] (ug K):=by
 have NA:=@wX P w _ _ base _ T;have E9:=@oA P w _ _ base _ T;have NB:=@qo P w _ _ base _ T;have NF:=@wF P w _ _ base _ T;have NG:=@qk P w _ _ base _ T;refine T.rO.has (k:=5) cM (λvs H Q E h=>?_) (λf cdv A' outer s H vs Q E hr hu h=>?_)
 ·obtain⟨g,d,c,lo,rfl,_⟩:=h;rfl
 obtain⟨g,d,c,lo,rfl,O,B,m3,q⟩:=h;obtain⟨a,at_,rank,aD,cost,fc,T1⟩:=B.top O;have vb:∀j∈g.vk,j<25:=λj hj=>(O.vb j hj).1;have dl:=O.dl;have dvk:∀i∈g.dd.map Dl.nm,i∈g.vk:=λi hi=>by
  obtain⟨e,he,rfl⟩:=KU.mp hi;exact(O.dv e he).1
 refine⟨_,(ae (pst 3 cM.nd (px hu (px hu (fv 0) ao) (iL fk ab)))
 (ae (pst 4 cM.nd (ar NA hr (fv 0^pcT qm T.dY (px hu (fv 0) ao^af)^fv 2^px hu (fv 3) ao^ab^af)))
 (ae (aM (ptc (bj hu) (pcB bS T.cD (fv 4^af)) ab)
  (ae (aK (ar NG hr (fv 0^fv 1^ab^fv 2^af)))
  (aj (uD)))
  aC)
 (ae (pst 5 cM.nd (px hu (fv 4) (ar E9 hr (fv 1^ab^pcB bS T.cD (fv 4^af)^af))))
 (ae (pst 6 cM.nd (px hu (px hu (fv 0) ao) (fv 5)))
 (ae (pst 7 cM.nd (bR af))
 (ae (dP O1 rfl (df (px hu (fv 6) ab)) (pgn (i:=8) cM.nd rfl)
  (ae (pst 9 cM.nd (px hu (bR (px hu (px hu (fv 0) ao) (fv 8)^ab^af)) (pcT oe T.mH (fv 2^af))))
  (aj (aK (cI (fv 7) (ar NB hr (fv 0^fv 1^ax bz ab (pcB bS T.cD (fv 7^af))^fv 9^af)^af))))))
 (aj (aM (bX (ar NF hr (fv 0^bb (ao^fv 5^fv 7^af)^ax bz ab (px hu (fv 6) ab)^af)) (λ_=>rfl))
  (aj (bu (ax bz (px hu (fv 3) ao) (px hu (fv 6) ab)) (bC (fv 3) ao (bD hu UX))))
  aC))))))))),?_⟩
 refine dgk B.dy.hS rfl ⟨_,rfl,(lix (SqL.of B.dy.hO) T1.last ?_)⟩;try dsimp only
 refine ah λM1 K1=>?_;obtain⟨ts,hd1,hd2⟩:=B.st.hd;refine dgk B.dy.hS rfl (Lg ⟨g.LD,_,rfl,.inl (aB _ _ hd1),λl hl=>?_⟩);have ek:((dk g.N (g.dd.map Dl.nm) λi=>V.ref (ts i)).map λkv=>kV kv.1)=nV g.N (g.dd.map Dl.nm):=by
  unfold dk;rw[MN];rfl
 rw[ek];obtain⟨s1,e1⟩:=alc hl (HO.lst (nV g.N (g.dd.map Dl.nm)));generalize upd H l _=H1 at s1 e1⊢;have B1:=B.same s1;refine dgk (s1 _ _ T1.fr) rfl ⟨g,d,l,lo,rank,2,g.dd.map Dl.nm,rfl,O,B1,SqL.of e1,dvk,by rw[Ky];omega,λD ys H2 s2 hD eD F=>K1 _ _ ?_⟩;have B2:=B1.same s2;have e:(((nV g.N ys).length:Nat):Int)=(ys.length:Int):=by rw[Ky]
 try dsimp only
 refine ah λM2 K2=>lnl eD ⟨rfl,_,rfl,aE (λ_=>⟨g,d,c,0,lo,rfl,O,B2,m3,λd' H' go B' mu'=>q d' H' ((Go.new (s1.trans s2)).trans go) B' mu'⟩) (λz=>K2 _ _ ?_)⟩;have y0:0<ys.length:=by
  rw[qb,decide_eq_true_iff,e]at z;omega
 try dsimp only
 refine ah λM3 K3=>lnl eD ⟨c,0,_,rfl,∅,(by rw[e];omega),λk2 H3 b0 b1 s3=>?_⟩;rw[e]at b1;obtain⟨x,hx,_,hax⟩:=lO (λi=>V.str (g.N i)) b0 b1;refine lix (SqL.of (s3 _ _ eD)) hax ?_;have B3:=B2.same s3;have t3:=(s1.trans s2).trans s3;obtain⟨dl',hdl,rfl⟩:=KU.mp (F.sub x hx);obtain⟨ts3,hd3,hd4⟩:=B3.st.hd;obtain⟨he1,he2⟩:=hd4 dl' hdl;have he1':=aB _ _ he1;have he2':=aB _ _ he2;obtain⟨dv1,dv2,dv3,dv4,dv5⟩:=O.dv dl' hdl;refine K3 _ _ ?_;try dsimp only
 refine ah λM4 K4=>dgk B3.dy.hS rfl ⟨_,mG O.D (.inl (aB _ _ hd3)) (λj hj=>vb j (dvk j hj)) (Mx hdl),K4 _ _ ?_⟩;try dsimp only
 refine ah λM5 K5=>⟨KY _,λD5 hD5=>?_⟩;have D5M:=B3.free hD5;obtain⟨s5,e5⟩:=alc hD5 (HO.lst []);generalize upd H3 D5 _=H5 at s5 e5⊢;have D5p:D5≠dl'.lp:=UW hD5 he2';refine K5 _ _ ?_;try dsimp only
 refine ah λM6 K6=>KJ ⟨_,_,Lg (SqT.of (s5 _ _ he1')),rfl,KJ ⟨⟨_,SqL.of (s5 _ _ he2')⟩,eF (K:=K) (xs:=nV g.N dl'.ps) (λi σ Hc=>aq H3 Hc/\(∃ths:List Th,Hc D5=UT (.lst (ths.map (Th.v g.N)))/\ths.length=i/\∀t∈ths,t.ok g.ns)/\∃v8 v9,σ=[UT (.ref g.S),UT (.int c),UT (.bl lo),UT (.ref a),UT (.ref D),UT (.str (g.N dl'.nm)),UT (.ref (ts3 dl'.nm)),UT (.ref D5),v8,v9]) ⟨s5,⟨[],e5,rfl,λ_ z=>(by cases z)⟩,UU,UU,rfl⟩ (λi σ Hc _ ⟨sc,_⟩=>SqL.of (sc _ _ he2')) ?_ ?_⟩⟩
 ·rintro i v σ Hc hv ⟨sc,⟨ths,eh,hlen,hok⟩,v8,v9,rfl⟩;have hv':(nV g.N dl'.ps)[i]?=UT v:=hv;rw[KP]at hv';obtain⟨pt,hpt,rfl⟩:=LG.mp hv';have ptv:=dv5 pt (KG hpt);have il:i<2:=by
   have:=(KH.mp hpt).1;omega
  have Bc:=B3.same sc;try dsimp only
  refine ah λN1 J1=>dgk Bc.dy.hS rfl ⟨_,mG O.D (.inl (aB _ _ Bc.st.hv)) vb ptv,by show 2<=sizeLine;decide,λl2 hl2=>?_⟩;obtain⟨s6,e6⟩:=alc hl2 (HO.lst [V.int (g.vw pt),.int 2]);generalize upd Hc l2 _=H6 at s6 e6⊢;obtain⟨hi',ehi⟩:∃hi:Int,atI [V.int (g.vw pt),.int 2] (b01 lo)=UT (.int hi):=by cases lo<;>exact⟨_,rfl⟩
  refine⟨_,rfl,(lix (SqL.of e6) ehi (J1 _ _ ?_))⟩;have B6:=Bc.same s6;have eh6:=s6 _ _ eh;have el:(((ths.map (Th.v g.N)).length:Nat):Int)=(i:Int):=by rw[Ky,hlen]
  try dsimp only
  refine⟨KJ ⟨rfl,_,SqL.of eh6⟩,(lnl eh6 ⟨g,d,c,1+i,hi',(by rw[el];rfl),O,B6,(),λt H7 s7 ht=>⟨_,_,_,rfl,rfl,s7 _ _ eh6,az (by rw[Ky];omega),aq.out ((sc.trans s6).trans s7) hD5 _,⟨ths++[t],?_,by simp[hlen],λt' ht'=>?_⟩,_,_,rfl⟩⟩)⟩
  ·rw[ak,La];rfl
  rcases KA.mp ht' with z|z
  ·exact hok t' z
  rw[KC.mp z];exact ht
 rintro σ Hc ⟨sc,⟨ths,eh,hlen,hok⟩,v8,v9,rfl⟩;have hlen:ths.length=dl'.ps.length:=by rw[hlen,Ky]
 refine K6 _ _ ?_;have Bc:=B3.same sc;have tc:=t3.trans sc;have he1c:=sc _ _ he1';try dsimp only
 refine⟨by show 3<=sizeLine;decide,λrw' hrw=>?_⟩;have s6:=aq.upd hrw (HO.tup [V.str "call",.str (g.N dl'.nm),.ref D5]);have e6:upd Hc rw' (HO.tup [V.str "call",.str (g.N dl'.nm),.ref D5]) rw'=UT (.tup [V.str "call",.str (g.N dl'.nm),.ref D5]):=ak;generalize upd Hc rw' _=H6 at s6 e6⊢;have B6:=Bc.same s6;have t6:=tc.trans s6;have T6:=T1.same t6;have go6:Go (d.M g) H (d.M g) H6:=Go.new t6;have hrow:bZ g.N (del (d.M g) H6) (.ref rw') (.call dl'.nm ths):=⟨rw',D5,rfl,Bc.new s6 hrw e6,λo ho=>by
  cases ho;exact aN D5M (s6 _ _ eh)⟩
 refine KJ ⟨_,.int dl'.sp,Lg (SqT.of (s6 _ _ he1c)),rfl,?_⟩;have rl:d.rows.length<=1000:=by
  have:=OU B6.hr;unfold mu at m3;omega
 have cs:su g.dd (.call dl'.nm ths)<=1+dl'.sp:=by
  show(match g.dd.find? (λd=>decide (d.nm=dl'.nm))with
   |some d=>1+d.sp
   |none=>1)<=1+dl'.sp
  rw[zQ O.dn hdl];exact Lb _
 refine⟨g,d,.ref rw',1+dl'.sp,a,at_,rank,aD,cost,fc,rfl,B6.dy,B6.ok.nd,rl,T6,⟨false,rfl,bH (q d H6 go6 B6 ())⟩,λfit=>⟨true,rfl,dO ?_⟩⟩;obtain⟨d7,M7,B7,mu7,_,T7,_⟩:=B6.add O T6 hrow ⟨dl',hdl,rfl,hlen,hok⟩ cs () fit m3;have go7:Go (d.M g) H (d7.M g) (fN H6 g d (.ref rw') (1+dl'.sp) a at_ rank aD cost fc):=by
  rw[M7];exact go6.trans (oy T6)
 have tsM:ts3 dl'.nm∉d.M g:=(bq he1).1;have he7:fN H6 g d (.ref rw') (1+dl'.sp) a at_ rank aD cost fc (ts3 dl'.nm)=UT (.tup [.ref dl'.lp,.int dl'.sp,.int dl'.co]):=by
  rw[u4 (λz=>tsM (by rw[z];exact inS g d)) (λz=>tsM (by rw[z];exact inR g d)) (λz=>tsM (by rw[z];exact T1.mem))];exact s6 _ _ he1c
 generalize fN H6 g d (.ref rw') (1+dl'.sp) a at_ rank aD cost fc=H7 at B7 T7 go7 he7⊢;obtain⟨d8,L8,B8,T8⟩:=B7.bump T7 (c:=cost+1+dl'.co) (by have:=T1.c0;omega);refine dgk T7.fr rfl (KJ ⟨_,_,Lg (SqT.of he7),rfl,_,cP.k (k:=.inr "cost") T7.fr (show 5<sizeLine by decide),q d8 _ ?_ B8 (by unfold mu;rw[L8.lrs,L8.len];exact mu7)⟩);rw[L8.M];exact go7.trans (Go.at T7.mem _)
theorem Dc:∀{fs:List Fz}{b x:Nat},x∈ats b fs->x<b+(bB fs).length
 |f::r,b,x,h=>by
  simp only[ats,Ku]at h;simp only[bB,Lc,Kz];rcases h with rfl|h
  ·omega
  have:=Dc h;omega
def F1:Bk->Bool
 | .loop _ _=>true
 | .iff _=>false
def lpV(d:Gd)(v:V):Bool:=(d.as.zip d.fz).any λq=>decide (v=.ref q.1)&&F1 q.2.bk
theorem CI(nd:d.as.Nodup)(len:d.as.length=d.fz.length){i:Nat}{a:OM}{f:Fz}(ha:d.as[i]?=UT a)(hf:d.fz[i]?=UT f):lpV d (.ref a)=F1 f.bk:=by
 unfold lpV;rw[LQ,LM];constructor
 ·rintro⟨⟨b,f'⟩,hm,e⟩;rw[Mb,decide_eq_true_iff]at e;obtain⟨j,hj⟩:=Le hm;rw[LZ]at hj;obtain⟨e1,e2⟩:=e;have eb:a=b:=V.ref.inj e1;obtain⟨la,ea⟩:=KH.mp ha;obtain⟨lb,eb'⟩:=KH.mp hj.1;have ij:i=j:=(MG nd).mp (by rw[ea,eb',eb]);rw[<-ij,hf]at hj;cases hj.2;exact e2
 exact λe=>⟨(a,f),KG (LZ.mpr ⟨ha,hf⟩),by rw[decide_eq_true rfl,e];rfl⟩
theorem wc(dy:oU H g d){a:OM}(m:a∈d.as):∃(i:Nat)(f:Fz),d.as[i]?=UT a/\d.fz[i]?=UT f/\H a=UT (.dK (fzK ((ats (d.b g) d.fz)[i]?.getD 0,f)))/\(ats (d.b g) d.fz)[i]?=UT ((ats (d.b g) d.fz)[i]?.getD 0):=by
 obtain⟨i,hi⟩:=Le m;obtain⟨⟨x,f⟩,h1,h2⟩:=bw dy.hf hi;rw[LZ]at h1;exact⟨i,f,hi,h1.2,by rw[h1.1];exact h2,by rw[h1.1];rfl⟩
theorem Gf{i:Nat}:∀{fs:List Fz}{b:List Lr}{f:Fz}{x:Nat},fs[i]?=UT f->(ats b.length fs)[i]?=UT x->(b++bB fs)[x]?=UT f.op:=by
 induction i with
 |zero=>
  intro fs b f x h1 h2;cases fs with
  |nil=>cases h1
  |cons y r=>
   simp only[Mo,Qt]at h1;simp only[ats,Mo,Qt]at h2;subst h1 h2;simp[bB]
 |succ i ih=>
  intro fs b f x h1 h2;cases fs with
  |nil=>cases h1
  |cons y r=>
   simp only[MF]at h1;simp only[ats,MF]at h2;have:=ih (fs:=r) (b:=b++(y.op::y.gF)) (f:=f) (x:=x) h1 (by rw[show(b++(y.op::y.gF)).length=b.length+1+y.gF.length by simp;omega];exact h2);simpa [bB] using this
theorem xN{t:TT}{b o:TS}{D:Ve}{σ:St}{H:Hp}(h:∀X:St->Hp->Prop,(∀σ H,o D σ H->X σ H)->t σ H λc H1=>if c=true then b D σ H1 else X σ H1):Gv t b o D σ H:=h (o D) λ_ _ z=>z
inductive uv(K:OQ)(vs:List V)(H:Hp)(Q:VK)(Z:XK):Prop
 |mk(g:Gc)(d:Gd)(c k:Int)(lo:Bool):vs=[.ref g.S,.int c,.int k,.bl lo]->jH g->BAt g H d->mu g d+3<=1000->Ca g d H Q .non->uv K vs H Q Z
theorem Cy(T:Txt K mg A):Has P w K mg base 6 "_law_turned" ["_law_state","_law_cell","_law_kind","_law_loose"] (uv K):=by
 have NF:=@wF P w _ _ base _ T;have NP:=@Dg P w _ _ base _ T;have NM:=@wz P w _ _ base _ T;have NG:=@qk P w _ _ base _ T;refine T.qK.has (k:=5) jw (λvs H Q E h=>?_) (λf cdv A' outer s H vs Q E hr hu h=>?_)
 ·obtain⟨g,d,c,k,lo,rfl,_⟩:=h;rfl
 obtain⟨g,d,c,k,lo,rfl,O,B,m3,q⟩:=h;obtain⟨a,at_,rank,aD,cost,fc,T1⟩:=B.top O;obtain⟨nd1,nd2⟩:=wI B.ok.nd;obtain⟨n1,n2,n3,n4⟩:=jr B.ok.nd;have la:=OU B.dy.hf;rw[MQ,hJ,Nu]at la;have fl:=B.ok.fl;have rl:d.rows.length<=1000:=by
  have:=OU B.hr;unfold mu at m3;omega
 refine⟨_,(ae (pst 4 jw.nd (px hu (px hu (fv 0) ao) (iL fk ab)))
 (ae (kI (j:=5) (N:=["_law_one","_law_state"]) (own:=1) (fr:=[0]) (cQ.of (by kernel_rfl!)) rfl jw.nd rfl (KJ rfl) (df (cK eT (px hu (fv 0) ao) (cf ab) ky)) (λb=>pgn (i:=0) (show PM (["_law_one","_law_state"]:List P0) by decide+kernel) rfl) (λb=>nK (ptc (bj hu) (px hu (px hu (px hu (fv 1) ao) (px hu (fv 0) ao)) ab) ao)) (λb=>fv 0))
 (aj (aM (PW.pt (pw_and (ptc (bj hu) (fv 2) ab) (pw_and (ptc rR (pcB bS T.cD (fv 5^af)) ab) (pw_and1 (PW.pt (pw_or (bX (fv 3) (λ_=>rfl)) (pw_or1 (ptc yq (px hu (fv 4) ao) (px hu (px hu (fv 5) (iL fk ab)) ao)))))))))
  (aj (aK (ar NF hr (fv 0^bb (ao^af)^ab^af))))
  (aj (aM (PW.pt (pw_and (ptc (bj hu) (fv 2) ab) (pw_and (ptc rR (pcB bS T.cD (px hu (fv 0) ao^af)) ab) (pw_and (ptc (C7 hu) (fv 4) (fv 5) ((by with_unfolding_all rfl))) (pw_and1 (ptc vH (px hu (fv 4) ao) d5))))))
   (aj (aK (ar NP hr (fv 0^fv 4^af))))
   (aj (aM (PW.pt (pw_and (ptc rR (fv 2) ab) (pw_and1 (ptc rR (pcB bS T.cD (px hu (fv 0) ao^af)) ab))))
    (aj (aK (ar NM hr (fv 0^af))))
    (aj (aK (ar NG hr (fv 0^fv 1^ax bz (ax cx (fv 2) ab) ab^fv 3^af)))))))))))),?_⟩
 refine dgk B.dy.hS rfl ⟨_,rfl,(lix (SqL.of B.dy.hO) T1.last ?_)⟩;try dsimp only
 refine ah λM1 K1=>dgk B.dy.hS rfl ⟨_,rfl,KJ ⟨d.lo,_,rfl,SqL.of B.dy.hO,λl1 hl1=>?_⟩⟩;have ec:iy (V.ref d.a0::d.as.map V.ref) (UT 1) UU=d.as.map V.ref:=by
  unfold iy;rw[show HT.sIx (V.ref d.a0::d.as.map V.ref).length 0 (UT 1)=1 by show min 1 (d.as.map V.ref).length.succ=1;omega];show(d.as.map V.ref).take (d.as.map V.ref).length=_;exact Lz
 rw[ec];obtain⟨s1,e1⟩:=alc hl1 (HO.lst (d.as.map V.ref));generalize upd H l1 _=H1 at s1 e1⊢;have B1:=B.same s1;refine KJ ⟨⟨_,SqL.of e1⟩,hZ (K:=K) (lpV d) (λx=>x) (SqL.of e1) (az (by rw[Ky];omega)) (λb' x H2 R hm s2 kk=>?_) (λb' x H2 R hm hp s2 kk=>kk _ (aq.refl _)) (λD H2 hD s2 eD=>K1 _ _ ?_)⟩
 ·obtain⟨x',hx',rfl⟩:=KU.mp hm;have B2:=B1.same s2;obtain⟨i,fr,h1,h2,h3,h4⟩:=wc B2.dy hx';rw[CI nd2 () h1 h2]at kk;have gx:=Gf h2 h4 (b:=g.pre++bf d.bs);have hl:=OU B2.hr;have li:(ats (d.b g) d.fz)[i]?.getD 0<d.rows.length:=by
   rw[hl];exact(KH.mp gx).1
  obtain⟨y,y1,y2⟩:=bw B2.hr (Kw li);have gx':(d.lrs g)[(ats (d.b g) d.fz)[i]?.getD 0]?=UT fr.op:=gx;rw[gx']at y1;cases y1;obtain⟨ra,rp,er,hra,_⟩:=y2;refine dgk B2.dy.hS rfl (dgk h3 rfl (lix (SqL.of B2.dy.hR) (d6 (Kw li)) ?_));rw[er];refine KJ ⟨_,.str fr.op.w,Lg (SqT.of (aB _ _ hra)),d6 (j:=0) rfl,rfl,_,rfl,?_⟩;have ew:decide (V.str fr.op.w=V.str "loop")=F1 fr.bk:=by
   unfold Fz.op;cases fr.bk<;>rfl
  rw[ew];exact kk _ (aq.refl _)
 obtain⟨bs,hbs⟩:∃bs:List OM,bs=d.as.filter (λa=>lpV d (.ref a)):=⟨_,rfl⟩;have eD':H2 D=UT (.lst (bs.map V.ref)):=by
  rw[eD,MP,Nn,hbs];rfl
 have bsub:∀b∈bs,b∈d.as:=λb hb=>by rw[hbs]at hb;exact(Lw.mp hb).1
 have B2:=B1.same s2;have t2:=s1.trans s2;have T2:=T1.same t2;have go2:Go (d.M g) H (d.M g) H2:=Go.new t2;have eo:(((V.ref d.a0::d.as.map V.ref).length:Nat):Int)=(d.as.length:Int)+1:=by simp
 have eb:(((bs.map V.ref).length:Nat):Int)=(bs.length:Int):=by rw[Ky]
 clear eD e1 hl1 hD B1 s1 s2;try dsimp only
 have plain:oq K [.ref g.S,.int c,.int (k%4+4),.bl lo] H2 (λ_ H'=>Q .non H') E0:=⟨g,d,c,k%4+4,lo,rfl,O,B2,m3,λd' H' go B' mu'=>q d' H' (go2.trans go) B' mu'⟩;refine xN λX1 J1=>?_;have x1:X1 [UT (.ref g.S),UT (.int c),UT (.int k),UT (.bl lo),UT (.ref a),UT (.ref D)] H2:=J1 _ _ (by
  refine xN λX2 J2=>?_;have x2:X2 [UT (.ref g.S),UT (.int c),UT (.int k),UT (.bl lo),UT (.ref a),UT (.ref D)] H2:=J2 _ _ (by
   refine xN λX3 J3=>?_;have x3:X3 [UT (.ref g.S),UT (.int c),UT (.int k),UT (.bl lo),UT (.ref a),UT (.ref D)] H2:=J3 _ _ ⟨(by show(0:Int)<4;decide),plain⟩;refine⟨_,rfl,aE (λ_=>?_) (λ_=>bH x3)⟩;refine dgk B2.dy.hS rfl (lnl B2.dy.hO ⟨_,rfl,aE (λz=>?_) (λ_=>x3)⟩);have z:=of_decide_eq_true z;rw[eo]at z;exact⟨g,d,rfl,O,B2,(λe=>by rw[e]at la;simp at la;rw[la]at z;simp at z),m3,λd' H' go B' mu' _=>q d' H' (go2.trans go) B' ()⟩)
  refine⟨rfl,_,rfl,aE (λ_=>?_) (λ_=>bH x2)⟩;refine dgk B2.dy.hS rfl (lnl B2.dy.hO ⟨_,rfl,aE (λz=>?_) (λ_=>bH x2)⟩);have z:=of_decide_eq_true z;rw[eo]at z;rcases T2.cases B2.dy with⟨_,eas,_⟩|⟨fs,f,us,ez,eas,pu,et,er,eh,ec',ef⟩
  ·rw[eas]at z;simp at z
  have iu:d.as[us.length]?=UT a:=by rw[eas];simp
  have fu:d.fz[us.length]?=UT f:=by
   have e1:us.length=fs.length:=by
    rw[eas,ez]at la;simpa using la
   rw[ez,e1];simp
  have lpa:=CI nd2 la iu fu;refine⟨a,D,bs,rfl,rfl,SqL.of eD',(λb hb ne=>?_),_,rfl,aE (λz1=>?_) (λ_=>bH x2)⟩
  ·have hb':=bsub b hb;rw[eas]at hb';rcases KA.mp hb' with hu|hu
   ·obtain⟨j,hj⟩:=Le hu;obtain⟨⟨x,f'⟩,h1,h2⟩:=bw pu hj;rw[LZ]at h1;have lt:=Dc (KG h1.1);exact⟨ne,.inr "at",(x:Int),(at_:Int),_,_,.inl h2,.inl T2.fr,rfl,()⟩
   exact absurd (KC.mp hu) ne
  have nb:a∉bs:=λm=>by
   rw[decide_eq_true m]at z1;cases z1
  have ib:∃v,f.bk=.iff v:=by
   cases eb':f.bk with
   |iff v=>exact⟨v,rfl⟩
   |loop th m=>
    rw[eb']at lpa;exact absurd (by rw[hbs];exact Lw.mpr ⟨by rw[eas];simp,lpa⟩) nb
  obtain⟨v,ib⟩:=ib;refine dgk T2.fr rfl ⟨rfl,_,rfl,aE (λz2=>?_) (λ_=>x2)⟩;have fn:fc=UU:=by
   have z2:=of_decide_eq_true z2;cases fc with
   |none=>rfl
   |some n=>cases z2
  have Ff:=B2.ok.fz f (by rw[ez];simp);have nf:f.fst=UU:=Ff.fc.mp (by rw[<-ef];exact fn);refine⟨g,d,a,at_,rank,aD,cost,fc,rfl,B2.dy.hS,B2.dy.hR,rl,T2.fr,T2.nS,T2.nR,n1,λt ht=>?_⟩;have Be:=B2.els ez eas ib nf ht m3;rw[<-et,<-er,<-eh,<-ec']at Be;have goe:Go (d.M g) H2 (d.M g) (oE H2 g d t a at_ rank aD cost):=((Go.new (aq.upd ht _)).trans (Go.at (inR g d) _)).trans (Go.at T2.mem _);refine q { d with rows:=d.rows++[.ref t],fz:=fs++[p9 f] } _ (go2.trans goe) Be ?_;have h1:=OU Be.hr;have h2:=OU B2.hr;have h3:(d.rows++[V.ref t]).length=d.rows.length+1:=by simp
  have h4:(fs++[p9 f]).length=d.fz.length:=by rw[ez];simp
  unfold mu;dsimp only at h1⊢;omega)
 have addL:∀t,H2 t=UU->uY [.ref g.S,.ref t,.int 1] (upd H2 t (.tup [.str "last"])) (λ_ H'=>Q .non H') E0:=λt ht=>by
  have s3:=aq.upd ht (HO.tup [V.str "last"]);have B3:=B2.same s3;have T3:=T2.same s3;have go3:Go (d.M g) H (d.M g) (upd H2 t (HO.tup [V.str "last"])):=go2.trans (Go.new s3);exact wH O (H:=H) B3 go3 m3 T3 (r:=.last) ⟨t,0,rfl,B2.new s3 ht ak,λo ho=>by cases ho⟩ Lj (Lb _) ∅ (q d _ go3 B3 ()) λd' M' B' mu' _=>q d' _ (by rw[M'];exact go3.trans (oy T3)) B' mu'
 refine⟨rfl,_,rfl,aE (λ_=>?_) (λ_=>bH x1)⟩;refine lnl eD' ⟨_,rfl,aE (λz=>?_) (λ_=>bH x1)⟩;have z:=of_decide_eq_true z;rw[eb]at z;cases lo with
 |true=>exact⟨true,rfl,dO ⟨by show 1<=sizeLine;decide,λt ht=>addL t ht⟩⟩
 |false=>
  refine⟨false,rfl,bH ?_⟩;obtain⟨cs,b,eb'⟩:∃cs b,bs=cs++[b]:=(lP bs).resolve_left λe=>by rw[e]at z;simp at z
  obtain⟨i,fb,h1,h2,h3,h4⟩:=wc B2.dy (bsub b (by rw[eb'];simp));refine dgk T2.fr rfl ⟨_,rfl,KJ ⟨_,.ref b,KJ (SqL.of eD'),(by rw[eb',La];exact kF _ _),dgk h3 rfl ⟨_,rfl,aE (λ_=>?_) (λ_=>x1)⟩⟩⟩;exact⟨by show 1<=sizeLine;decide,λt ht=>addL t ht⟩
def Eh(g:Gc)(lm:OM):List (Key×V):=[(.inr "rows",.ref g.LR),(.inr "view",.ref g.LV),(.inr "deeds",.ref g.LD),(.inr "mode",.int g.mode),(.inr "even",.bl g.ev),(.inr "marks",.ref lm),(.inr "hands",.ref g.LH),(.inr "lists",.ref g.LL),(.inr "targets",.ref g.LT),(.inr "numbers",.ref g.LN)]
structure BX(g:Gc)(H:Hp)(lm:OM)(marks:List Nat)(rows:List V):Prop where
 hS:H g.S=UT (.dK (Eh g lm))\/∃x y z,H g.S=UT (.dK (Eh g lm++[(.inr "open",x),(.inr "spent",y),(.inr "limit",z)]))
 hR:H g.LR=UT (.lst rows)
 ne:g.S≠g.LR
 st:yk (del [g.S,g.LR] H) g
 hm:del [g.S,g.LR] H lm=UT (.lst (nV g.N marks))
 hr:Paired (bZ g.N (del [g.S,g.LR] H)) rows g.pre
 mks:∀m∈marks,m∈[11,12]
 ml:marks.length<=2
structure HW(g:Gc)(H:Hp)(d:Gd)(rows:List V):Prop where
 hS:H g.S=UT (.dK (stK g d))
 hR:H g.LR=UT (.lst rows)
 hO:H d.lo=UT (.lst [.ref d.a0])
 h0:H d.a0=UT (.dK (frK 0 g.br 1 d.bc UU))
 no:d.lo≠g.S/\d.lo≠g.LR/\d.a0≠g.S/\d.a0≠g.LR
 st:yk (del [g.S,g.LR] H) g
 hm:del [g.S,g.LR] H d.lm=UT (.lst (nV g.N d.marks))
 hr:Paired (bZ g.N (del [g.S,g.LR] H)) rows (g.pre++bf d.bs++[.fin])
 mks:∀m∈d.marks,m∈[11,12]
 ml:d.marks.length<=2
 bs:eE g.ns g.tg g.dd d.bs
 bc:0<=d.bc
 sp:0<=d.spent/\(d.spent<=g.lim\/d.spent=0)
 pay:g.ev=false->cG g.dd 1 d.bs<=d.spent
 dp:dTs d.bs<=4
inductive zC(K:OQ)(vs:List V)(H:Hp)(Q:VK)(Z:XK):Prop
 |mk(g:Gc)(cl lm:OM)(cells:List Int)(marks:List Nat)(rows:List V):vs=[.ref g.S,.ref cl,.int g.br,.int g.lim]->jH g->BX g H lm marks rows->H cl=UT (.lst (cells.map V.int))->cl≠g.LR->cells.length<=63->(∀(d:Gd)(rows':List V)(H':Hp),Go [g.S,g.LR] H [g.S,g.LR] H'->HW g H' d rows'->(bf d.bs).length<=3*cells.length->Q .non H')->zC K vs H Q Z
inductive IvS(g:Gc)(cl:OM)(d0:Gd)(H3:Hp)(i:Nat)(σ:St)(Hc:Hp):Prop
 |mk(d:Gd)(v4 v5 v6:Option V):σ=[UT (.ref g.S),UT (.ref cl),UT (.int g.br),UT (.int g.lim),v4,v5,v6]->BAt g Hc d->Go (d0.M g) H3 (d.M g) Hc->mu g d<=g.pre.length+3*i->IvS g cl d0 H3 i σ Hc
theorem FZ(T:Txt K mg A):Has P w K mg base 7 "_law_body" ["_law_state","_law_cells","_law_rank","_law_limit"] (zC K):=by
 have E9:=@oA P w _ _ base _ T;have NG:=@qk P w _ _ base _ T;have Oi:=@Dj P w _ _ base _ T;have Oj:=@BR P w _ _ base _ T;have Ol:=@Cy P w _ _ base _ T;have NM:=@wz P w _ _ base _ T;refine T.w6.has (k:=6) jt (λvs H Q E h=>?_) (λf cdv A' outer s H vs Q E hr hu h=>?_)
 ·obtain⟨g,cl,lm,cells,marks,rows,rfl,_⟩:=h;rfl
 obtain⟨g,cl,lm,cells,marks,rows,rfl,O,R,hcl,clR,cln,q⟩:=h;have pl:=O.pl;refine⟨_,(ae (bu (bR ((qf (cw ao ab (cw ao (fv 2) (cw ao ab (cw ao ab (cw ao d5 (qg)))))) rfl rfl (by intro z;cases z) ∅)^af)) (bC (fv 0) ao (bD hu UX)))
 (ae (bu ab (bC (fv 0) ao (bD hu UX)))
 (ae (bu (fv 3) (bC (fv 0) ao (bD hu UX)))
 (ae (dP O1 rfl (df (fv 1)) (pgn (i:=4) jt.nd rfl)
  (ae (pst 5 jt.nd (ax cx (ar E9 hr (fv 4^ab^ab^af)) ab))
  (ae (pst 6 jt.nd (Il (pec (bj hu) (px hu (fv 0) ao) ab) (oY (kK (pec (bj hu) (px hu (fv 0) ao) ab) (oY (pec (bj hu) (ax cx (ar E9 hr (fv 4^ab^ab^af)) ab) ab))))))
  (aj (aM (ptc qJ (fv 5) ab)
   (aj (aK (ar NG hr (fv 0^fv 4^fv 5^fv 6^af))))
   (aj (aM (ptc qJ (fv 5) ab)
    (aj (aK (ar Oi hr (fv 0^fv 4^fv 5^fv 6^af))))
    (aj (aM (ptc (bj hu) (fv 5) ab)
     (aj (aK (ar Oj hr (fv 0^fv 4^fv 6^af))))
     (aj (aK (ar Ol hr (fv 0^fv 4^fv 5^fv 6^af)))))))))))))
 (ae (vG O1 (ptc rR (pcB bS T.cD (px hu (fv 0) ao^af)) ab)
  (aj (aK (ar NM hr (fv 0^af)))))
 (aj (aK (cI (px hu (fv 0) ao) (bb (ao^af)^af))))))))),?_⟩
 refine ah λM1 K1 a0 ha0=>⟨ak,[((.inr "at":Key),.int 0),(.inr "rank",.int g.br),(.inr "heft",.int 1),(.inr "cost",.int 0),(.inr "first",.non)],rfl,(show 5<=15 by decide),?_⟩;rw[kG,show(cz [] [((.inr "at":Key),V.int 0),(.inr "rank",.int g.br),(.inr "heft",.int 1),(.inr "cost",.int 0),(.inr "first",.non)])=frK 0 g.br 1 0 UU from rfl];obtain⟨s1,e1⟩:=alc ha0 (HO.dK (frK 0 g.br 1 0 UU));generalize upd H a0 _=H1 at s1 e1⊢;refine⟨by show 1<=sizeLine;decide,λlo hlo=>?_⟩;obtain⟨s2,e2⟩:=alc hlo (HO.lst [V.ref a0]);generalize upd H1 lo _=H2 at s2 e2⊢;have z2:=s1.trans s2;have e12:=s2 _ _ e1;have hlo0:H lo=UU:=aq.free s1 hlo;have loa:lo≠a0:=UW hlo e1;have hcl2:=z2 _ _ hcl;have hR2:=z2 _ _ R.hR;obtain⟨d0,hd0⟩:∃d0:Gd,d0=⟨lm,marks,lo,a0,[],rows,[],0,[],0⟩:=⟨_,rfl⟩;have stores:∃kvs,H2 g.S=UT (.dK kvs)/\kvs.length<=13/\UZ (UZ (UZ kvs (.inr "open") (.ref lo)) (.inr "spent") (.int 0)) (.inr "limit") (.int g.lim)=stK g d0/\(UZ kvs (.inr "open") (.ref lo)).length<=13/\(UZ (UZ kvs (.inr "open") (.ref lo)) (.inr "spent") (.int 0)).length<=13:=by
  rw[hd0];rcases R.hS with h|⟨x,y,z,h⟩
  ·exact⟨_,z2 _ _ h,(by decide:10<=13),rfl,(by decide:11<=13),(by decide:12<=13)⟩
  exact⟨_,z2 _ _ h,(by decide:13<=13),rfl,(by decide:13<=13),(by decide:13<=13)⟩
 obtain⟨kvs,hS2,l1,est,l2,l3⟩:=stores;refine⟨_,cP.k (k:=.inr "open") hS2 (az ()),K1 _ _ ?_⟩;try dsimp only
 refine ah λM2 K2=>⟨_,cP.k (k:=.inr "spent") ak (az ()),K2 _ _ ?_⟩;try dsimp only
 refine ah λM3 K3=>⟨_,cP.k (k:=.inr "limit") ak (az ()),K3 _ _ ?_⟩;rw[kG,kG,est];have ne:=R.ne;have loS:lo≠g.S:=by rcases R.hS with h|⟨x,y,z,h⟩<;>exact UW hlo (s1 _ _ h)
 have loR:lo≠g.LR:=UW hlo (s1 _ _ R.hR);have a0S:a0≠g.S:=by rcases R.hS with h|⟨x,y,z,h⟩<;>exact UW ha0 h
 have a0R:a0≠g.LR:=UW ha0 R.hR;have clS:cl≠g.S:=λz=>by rw[z]at hcl2;rw[hS2]at hcl2;cases hcl2
 have Md:d0.M g=[g.S,g.LR,lo,a0]:=by rw[hd0];rfl
 have go3:Go [g.S,g.LR] H (d0.M g) (upd H2 g.S (.dK (stK g d0))):=by
  rw[Md];exact((Go.new z2).trans (Go.at Kv _)).to λx hx=>by
   simp only[Ku,KD,or_false]at hx⊢;rcases hx with z|z|z|z
   ·exact .inl (.inl z)
   ·exact .inl (.inr z)
   ·exact .inr (.inr (by rw[z];exact hlo0))
   exact .inr (.inr (by rw[z];exact ha0))
 have s3:=go3.same;have lrs0:d0.lrs g=g.pre:=by rw[hd0];unfold Gd.lrs;simp[bf,bB]
 have B0:BAt g (upd H2 g.S (.dK (stK g d0))) d0:=by
  refine⟨R.st.same s3,?_,?_,⟨ak,?_,?_,?_,?_⟩,⟨?_,?_,?_,?_,?_,?_,?_,?_,?_,?_,?_,?_,by rw[hd0];exact⟨KY _,Lj⟩⟩⟩
  ·have:=s3 _ _ R.hm;rw[hd0]at this⊢;exact this
  ·rw[lrs0];have:=Paired.cR R.hr λ_ _=>bZ.same (X':=del (d0.M g) (upd H2 g.S (.dK (stK g d0)))) s3;rw[show d0.rows=rows by rw[hd0]];exact this
  ·rw[show d0.rows=rows by rw[hd0]];exact ag ne.symm hR2
  ·rw[hd0];exact ag loS e2
  ·rw[hd0];exact ag a0S e12
  ·rw[hd0];exact .nil
  ·rw[Md];simp[ne,loS.symm,a0S.symm,loR.symm,a0R.symm,loa]
  ·rw[hd0];exact R.mks
  ·rw[hd0];exact R.ml
  ·rw[hd0];exact Lj
  ·rw[hd0];exact Lb _
  ·rw[hd0];exact λ_ z=>(by cases z)
  ·rw[hd0];exact KY _
  ·rw[hd0];exact Lj
  ·rw[hd0];exact λ_ z=>(by cases z)
  ·rw[hd0];exact λ_=>Lb _
  ·rw[hd0];exact⟨Lb _,.inr rfl⟩
  rw[lrs0,hd0];show g.pre.length+0<=1000;omega
 have mu0:mu g d0=g.pre.length:=by unfold mu;rw[lrs0,hd0];rfl
 have hcl3:upd H2 g.S (.dK (stK g d0)) cl=UT (.lst (cells.map V.int)):=ag clS hcl2;generalize upd H2 g.S (.dK (stK g d0))=H3 at go3 s3 B0 hcl3⊢;have clM:cl∉d0.M g:=by
  rw[Md];simp only[Ku,KD,or_false];rintro(y|y|y|y)
  ·exact clS y
  ·exact clR y
  ·rw[y,hlo0]at hcl;cases hcl
  rw[y,ha0]at hcl;cases hcl
 clear s1 s2 e1 e2 e12 hcl2 hR2 z2 hS2 est l1 l2 l3 s3 ha0 hlo;try dsimp only
 refine ah λM4 K4=>KJ ⟨⟨_,SqL.of hcl3⟩,eF (K:=K) (xs:=cells.map V.int) (IvS g cl d0 H3) ⟨d0,UU,UU,UU,rfl,B0,Go.refl _ _,()⟩ (λi σ Hc _ ⟨d,_,_,_,_,_,gc,_⟩=>SqL.of (gc.o _ _ clM hcl3)) ?_ ?_⟩
 ·rintro i v σ Hc hv ⟨d,v4,v5,v6,rfl,B,gc,mui⟩;rw[KP]at hv;obtain⟨c,hc,rfl⟩:=LG.mp hv;have il:i<cells.length:=(KH.mp hc).1;try dsimp only
  refine ah λN1 J1=>⟨c,0,97,rfl,∅,∅,λm Ha m0 m1 sa=>⟨(by show(0:Int)<16;decide),J1 _ _ ?_⟩⟩;have Ba:=B.same sa;try dsimp only
  refine ah λN2 J2=>?_;have go:∀(kd:Int)(lo':Bool)(Hb:Hp),aq Ha Hb->N2 [UT (.ref g.S),UT (.ref cl),UT (.int g.br),UT (.int g.lim),UT (.int c),UT (.int kd),UT (.bl lo')] Hb  :=λkd lo' Hb sb=>J2 _ _ (by
   have Bb:=Ba.same sb;have gb:Go (d0.M g) H3 (d.M g) Hb:=gc.trans (Go.new (sa.trans sb));have m3:mu g d+3<=1000:=()
   have nx:∀(d':Gd)(H':Hp),Go (d.M g) Hb (d'.M g) H'->BAt g H' d'->mu g d'<=mu g d+3->IvS g cl d0 H3 (i+1) [UT (.ref g.S),UT (.ref cl),UT (.int g.br),UT (.int g.lim),UT (.int c),UT (.int kd),UT (.bl lo')] H':=λd' H' g' B' mu'=>⟨d',_,_,_,rfl,B',gb.trans g',()⟩;refine⟨_,rfl,aE (λ_=>⟨g,d,c,kd,lo',rfl,O,Bb,m3,λd' H' g' B' mu'=>nx d' H' g' B' mu'⟩) (λ_=>⟨_,rfl,aE (λ_=>⟨g,d,c,kd,lo',rfl,O,Bb,m3,λd' H' g' B' mu'=>nx d' H' g' B' mu'⟩) (λ_=>⟨rfl,_,rfl,aE (λ_=>⟨g,d,c,lo',rfl,O,Bb,m3,λd' H' g' B' mu'=>nx d' H' g' B' mu'⟩) (λ_=>?_)⟩)⟩)⟩;exact⟨g,d,c,kd,lo',rfl,O,Bb,m3,λd' H' g' B' mu'=>nx d' H' g' B' mu'⟩)
  have gm:=c8.k (k:=.inr "mode") Ba.dy.hS;refine⟨_,gm,rfl,_,rfl,aE (λ_=>go _ true Ha (aq.refl _)) (λ_=>?_)⟩;refine⟨_,gm,rfl,_,rfl,aE (λ_=>?_) (λ_=>go _ false Ha (aq.refl _))⟩;refine⟨c,1,101,rfl,∅,∅,λm2 Hb _ _ sb=>⟨(by show(0:Int)<9;decide),rfl,go _ _ Hb sb⟩⟩
 rintro σ Hc ⟨d,v4,v5,v6,rfl,B,gc,mui⟩;rw[Ky]at mui;refine K4 _ _ ?_;try dsimp only
 refine ah λM5 K5=>⟨λm σ Hc=>∃(d:Gd),m=d.fz.length/\σ=[UT (.ref g.S),UT (.ref cl),UT (.int g.br),UT (.int g.lim),v4,v5,v6]/\BAt g Hc d/\Go (d0.M g) H3 (d.M g) Hc/\mu g d<=g.pre.length+3*cells.length,⟨_,d,rfl,rfl,B,gc,mui⟩,?_⟩;rintro m σ Hc ⟨d,rfl,rfl,B,gc,mui⟩;have la:=OU B.dy.hf;rw[MQ,hJ,Nu]at la;have eo:(((V.ref d.a0::d.as.map V.ref).length:Nat):Int)=(d.as.length:Int)+1:=by simp
 refine dgk B.dy.hS rfl (lnl B.dy.hO ⟨_,rfl,aE (λz=>?_) (λz=>K5 _ _ ?_)⟩)
 ·have z:=of_decide_eq_true z;rw[eo]at z;exact⟨λσ' H'=>∃(d':Gd),d'.fz.length<d.fz.length/\σ'=[UT (.ref g.S),UT (.ref cl),UT (.int g.br),UT (.int g.lim),v4,v5,v6]/\BAt g H' d'/\Go (d0.M g) H3 (d'.M g) H'/\mu g d'<=g.pre.length+3*cells.length,λσ' H' ⟨d',h1,h2,h3,h4,h5⟩=>⟨_,h1,d',rfl,h2,h3,h4,h5⟩,⟨g,d,rfl,O,B,(λe=>by rw[e]at la;simp at la;rw[la]at z;simp at z),(),λd' H' g' B' mu' fl'=>⟨d',(),rfl,B',gc.trans g',()⟩⟩⟩
 have z:¬ (1:Int)<(d.as.length:Int)+1:=λy=>z (decide_eq_true (by rw[eo];exact y));have ea:d.as=[]:=List.length_eq_zero_iff.mp ();have ez:d.fz=[]:=List.length_eq_zero_iff.mp (by rw[<-la,ea];rfl);have Mc:d.M g=[g.S,g.LR,d.lo,d.a0]:=by unfold Gd.M;rw[ea]
 obtain⟨n1,n2,n3,n4⟩:=jr B.ok.nd;obtain⟨m1,m2,m3⟩:=n4 d.a0 Kv;have hl:=OU B.hr;try dsimp only
 refine dgk B.dy.hS rfl ⟨KJ ⟨rfl,_,SqL.of B.dy.hR⟩,by show 1<=sizeLine;decide,λte hte=>?_⟩;have teM:=B.free hte;have teS:te≠g.S:=λz=>teM (by rw[z];exact inS g d);have teR:te≠g.LR:=λz=>teM (by rw[z];exact inR g d);have teO:te≠d.lo:=λz=>teM (by rw[z];exact inO g d);have te0:te≠d.a0:=λz=>teM (by rw[z];exact in0 g d);refine⟨_,_,_,rfl,rfl,ag teR.symm B.dy.hR,az (by unfold mu at mui;omega),?_⟩;have go5:Go (d.M g) Hc (d.M g) (upd (upd Hc te (.tup [.str "end"])) g.LR (.lst (d.rows++[.ref te]))):=(Go.new (aq.upd hte _)).trans (Go.at (inR g d) _);have goA:Go [g.S,g.LR] H [g.S,g.LR] (upd (upd Hc te (.tup [.str "end"])) g.LR (.lst (d.rows++[.ref te]))):=(go3.trans (gc.trans go5)).to λx hx=>by
  refine .inl ?_;rw[Mc];simp only[Ku,KD,or_false]at hx⊢;rcases hx with z|z
  ·exact .inl z
  exact .inr (.inl z)
 have sub:aq (del (d.M g) Hc) (del [g.S,g.LR] (upd (upd Hc te (.tup [.str "end"])) g.LR (.lst (d.rows++[.ref te])))):=λx o e=>by
  obtain⟨h1,h2⟩:=bq (go5.same _ _ e);refine aN (λz=>h1 ?_) h2;rw[Mc];simp only[Ku,KD,or_false]at z⊢;rcases z with z|z
  ·exact .inl z
  exact .inr (.inl z)
 have elr:d.lrs g=g.pre++bf d.bs:=by unfold Gd.lrs;rw[ez];simp[bB]
 have hr:=B.hr;rw[elr]at hr;refine q d (d.rows++[.ref te]) _ goA ⟨ag n1 (ag teS.symm B.dy.hS),ak,?_,?_,⟨n2.symm,n3.symm,m1,m2⟩,B.st.same sub,sub _ _ B.hm,Pb ⟨te,0,rfl,?_,λo ho=>by cases ho⟩ (Paired.cR hr λ_ _=>bZ.same sub),B.ok.mks,B.ok.ml,B.ok.bs,B.ok.bc,B.ok.sp,λe=>?_,B.ok.dp.1⟩ ?_
 ·have:=B.dy.hO;rw[ea]at this;exact ag n3.symm (ag teO.symm this)
 ·exact ag m2 (ag te0.symm B.dy.h0)
 ·have:=B.ok.pay e;rw[ez]at this;simpa [lj] using this
 ·unfold mu at mui;rw[elr,Kz]at mui;omega
 refine aN (λz=>?_) (ag teR ak);simp only[Ku,KD,or_false]at z;rcases z with z|z
 ·exact teS z
 exact teR z
end
section
variable{P:Program}{w:OX}{K:OQ}{mg:Str->Option ON}{base:O8}{A:Adr}{N:Nat->Str}
seal PE PA PS PSs PT PW
def nmL(N:Nat->Str):List V:=(O2 25).map λi=>.str (N i)
theorem g7(N:Nat->Str){i:Nat}(h:i<25):atI (nmL N) (i:Int)=UT (.str (N i)):=by
 refine d6 ?_;unfold nmL;rw[KP,Mn h];rfl
theorem Cz{n:Nat}{ys:List V}{f:Nat->V}(ly:ys.length=n)(hy:∀(i:Nat) y,ys[i]?=UT y->y=f i):ys=(O2 n).map f:=by
 refine Nf λi=>?_;by_cases h:i<n
 ·have lt:i<ys.length:=()
  rw[KP,Mn h,Kw lt,hy i _ (Kw lt)];rfl
 rw[LC (),LC (by simp;omega)]
def rkL(rk:Nat->Int):List V:=(O2 7).map λi=>.int (rk i)
theorem qt(rk:Nat->Int){i:Nat}(h:i<7):atI (rkL rk) (i:Int)=UT (.int (rk i)):=by
 refine d6 ?_;unfold rkL;rw[KP,Mn h];rfl
theorem Jz{ys:List V}(ly:ys.length=7)(hy:∀(i:Nat) y,ys[i]?=UT y->∃n:Int,y=.int n/\0<=n/\n<3):∃rk:Nat->Int,ys=rkL rk/\∀i,0<=rk i/\rk i<=2:=by
 have h:∀i:Nat,∃n:Int,(∀y,ys[i]?=UT y->y=.int n)/\0<=n/\n<=2:=λi=>by
  cases e:ys[i]? with
  |none=>exact⟨0,λ_ z=>(by cases z),∅,∅⟩
  |some y=>
   obtain⟨n,e1,e2,e3⟩:=hy i y e;exact⟨n,λ_ z=>(by cases z;exact e1),e2,()⟩
 exact⟨λi=>(h i).choose,Cz ly λi y e=>(h i).choose_spec.1 y e,λi=>(h i).choose_spec.2⟩
def cy(rk:Nat->Int)(z:Int):List Lr:=[.hand 0 0,.hand 1 1,.hand 2 2,.giv 3 (2-rk 0%2) 0,.giv 4 (rk 1) 0,.giv 5 0 0,.giv 6 (rk 2) z,.own 7 0,.own 8 0,.own 9 0,.own 10 z,.lt 11 (rk 3),.lt 12 (rk 4%2)]
def v1(rk:Nat->Int)(z:Int)(j:Nat):Int:=[0,1,2,2-rk 0%2,rk 1,0,rk 2,0,0,0,z,rk 3,rk 4%2].getD j 0
def w4(rk:Nat->Int):List Int:=[0,rk 5,2,rk 6]
def v2(rk:Nat->Int)(z:Int)(i j:Nat):Int:=if 7<=j/\j<7+i then(w4 rk).getD (j-7) 0 else v1 rk z j
theorem Go.to'{S LV:OM}{H H':Hp}(g:Go [LV] H [LV] H')(_:S≠LV):Go [S,LV] H [S,LV] H':=⟨λa o m e=>g.o a o (λz=>m (Kx _ z)) e,λ_ m=>.inl m⟩
theorem Paired.Fo{α β:Type}{F:α->β->Prop}:∀(t:Nat){xs:List α}{ys:List β},Paired F xs ys->Paired F (xs.drop t) (ys.drop t)
 |0,_,_,h=>h
 |_+1,_,_,.nil=>.nil
 |t+1,_,_,.cons _ r=>Paired.Fo t r
theorem Paired.E4{α β:Type}{F:α->β->Prop}:∀(t:Nat){xs:List α}{ys:List β},Paired F xs ys->Paired F (xs.take t) (ys.take t)
 |0,_,_,_=>.nil
 |_+1,_,_,.nil=>.nil
 |t+1,_,_,.cons h r=>.cons h (Paired.E4 t r)
def rot(t:Nat)(xs:List Lr):List Lr:=xs.drop t++xs.take t
structure Hs(N:Nat->Str)(H0 Hc:Hp)(xs:List V)(hs:List Lr):Prop where
 s:aq H0 Hc
 p:Paired (bZ N Hc) xs hs
theorem Hs.to{H0 Hc H':Hp}{xs:List V}{hs:List Lr}(D:Hs N H0 Hc xs hs)(s:aq Hc H'):Hs N H0 H' xs hs:=⟨D.s.trans s,Paired.cR D.p λ_ _=>bZ.same s⟩
theorem Hs.add{H0 Hc:Hp}{t:OM}{xs:List V}{hs:List Lr}(D:Hs N H0 Hc xs hs)(ht:Hc t=UU)(h:Lr)(ho:h.ob N=UU)(ys:List V)(e:ys=.str h.w::h.tl N t):Hs N H0 (upd Hc t (.tup ys)) (xs++[.ref t]) (hs++[h]):=by
 subst e;refine⟨D.s.trans (aq.upd ht _),Pb ⟨t,t,rfl,ak,λo z=>by rw[ho]at z;cases z⟩ (Paired.cR D.p λ_ _=>bZ.same (aq.upd ht _))⟩
theorem Hs.sk{H0 Hc:Hp}{t L:OM}{o:HO}{xs:List V}{hs:List Lr}(D:Hs N H0 Hc xs hs)(eL:Hc L=UT o)(ht:Hc t=UU)(h:Lr)(ho:h.ob N=UU)(ys:List V)(e:ys=.str h.w::h.tl N t):Hs N H0 (upd Hc t (.tup ys)) (xs++[.ref t]) (hs++[h])/\upd Hc t (.tup ys) L=UT o:=⟨D.add ht h ho ys e,aq.upd ht _ _ _ eL⟩
theorem Hs.len{H0 Hc:Hp}{xs:List V}{hs:List Lr}(D:Hs N H0 Hc xs hs):xs.length=hs.length:=OU D.p
theorem zg{n t:Nat}(d:Nat)(h:t<=n):HT.sIx n d (UT (t:Int))=t:=by
 unfold HT.sIx;show(if(t:Int)<0 then((t:Int)+n).toNat else min (t:Int).toNat n)=t;rw[if_neg (),LA];omega
theorem FI{xs:List V}{t:Nat}(h:t<=xs.length):iy xs (UT (t:Int)) UU=xs.drop t:=by
 unfold iy;rw[zg _ h,show HT.sIx xs.length xs.length UU=xs.length from rfl];exact Mp (by rw[Mj];omega)
theorem GD{xs:List V}{t:Nat}(h:t<=xs.length):iy xs UU (UT (t:Int))=xs.take t:=by
 unfold iy;rw[zg _ h,show HT.sIx xs.length 0 UU=0 from rfl];rfl
def st5(LR LV LD:OM)(mode:Int)(ev:Bool):List (Key×V):=[(.inr "rows",.ref LR),(.inr "view",.ref LV),(.inr "deeds",.ref LD),(.inr "mode",.int mode),(.inr "even",.bl ev)]
def st6(LR LV LD:OM)(mode:Int)(ev:Bool)(lm:OM):List (Key×V):=st5 LR LV LD mode ev++[(.inr "marks",.ref lm)]
theorem Ij{H:Hp}{v:V}{rk:Nat->Int}{z:Int}{i:Nat}{h:Lr}(hi:(cy rk z)[i]?=UT h)(a:bZ N H v h):∃t xs,v=.ref t/\H t=UT (.tup xs)/\atI xs 1=UT (.str (N i))/\atI xs 2=UT (.int (v1 rk z i)):=by
 obtain⟨t,p,e,h1,_⟩:=a;have hb:i<13:=(KH.mp hi).1;have:=Iq i ();rcases this with rfl|rfl|rfl|rfl|rfl|rfl|rfl|rfl|rfl|rfl|rfl|rfl|rfl<;>(cases hi;exact⟨t,_,e,h1,rfl,rfl⟩)
inductive xk(K:OQ)(vs:List V)(H:Hp)(Q:VK)(Z:XK):Prop
 |mk(a S LR0 LV LD:OM)(ns:List Int)(mode:Int)(ev:Bool)(z0:vs=[.ref a,.ref S])(z1:SqL K H a (ns.map V.int))(z2:H S=UT (.dK (st5 LR0 LV LD mode ev)))(z3:H LV=UT (.dK (dk (nmV (cellAt ns 1)) [] λ_=>.int 0)))(z4:∀(ln LR lm:OM)(rk:Nat->Int)(z:Int)(t:Nat)(rows:List V)(H':Hp),(∀i,0<=rk i/\rk i<=2)->1<=z->z<=4->Go [S,LV] H [S,LV] H'->H ln=UU->H LR=UU->H lm=UU->ln≠LR->lm≠LR->
  H' S=UT (.dK (st6 LR LV LD mode ev lm))->H' LV=UT (.dK (dk (nmV (cellAt ns 1)) (O2 13) λi=>.int (v2 rk z 4 i)))->H' LR=UT (.lst rows)->H' lm=UT (.lst (nV (nmV (cellAt ns 1)) [11,12]))->H' ln=UT (.lst (nmL (nmV (cellAt ns 1))))->
  Paired (bZ (nmV (cellAt ns 1)) (del [S,LR,LV] H')) rows (rot t (cy rk z))->Q (.ref ln) H'):xk K vs H Q Z
theorem Ew(T:Txt K mg A):Has P w K mg base 2 "_law_heads" ["_law_script","_law_state"] (xk K):=by
 have Ny:=@yJ P w _ _ base _ T;have Oz:=@GN P w _ _ base _ T;have E9:=@oA P w _ _ base _ T;refine T.sY.has (k:=1) bQ (λvs H Q E h=>?_) (λf cdv A' outer s H vs Q E' hr hu h=>?_)
 ·obtain⟨a,S,LR0,LV,LD,ns,mode,ev,rfl,_⟩:=h;rfl
 obtain⟨a,S,LR0,LV,LD,ns,mode,ev,rfl,hA,hS,hV,q⟩:=h;have D:=qe (cellAt ns 1);obtain⟨N,eN⟩:∃N,N=nmV (cellAt ns 1):=⟨_,rfl⟩;rw[<-eN]at D q hV;refine⟨_,(ae (kI (j:=2) (N:=["_law_k","_law_script"]) (own:=1) (fr:=[0]) (cQ.of (by kernel_rfl!)) rfl bQ.nd rfl (KJ rfl) (fq rfl T.fE (ab^af)) (λb=>pgn (i:=0) (show PM (["_law_k","_law_script"]:List P0) by decide+kernel) rfl) (λb=>qU) (λb=>ar Oz hr (ar Ny hr (fv 1^ab^af)^fv 0^af)))
 (ae (kI (j:=3) (N:=["_law_way","_law_script"]) (own:=1) (fr:=[0]) (cQ.of (by kernel_rfl!)) rfl bQ.nd rfl (KJ rfl) (fq rfl T.fE (ab^af)) (λb=>pgn (i:=0) (show PM (["_law_way","_law_script"]:List P0) by decide+kernel) rfl) (λb=>qU) (λb=>ar E9 hr (ar Ny hr (fv 1^ab^af)^fv 0^ab^af)))
 (ae (pst 4 bQ.nd (ax bz ab (ar E9 hr (ar Ny hr (fv 0^ab^af)^ab^ab^af))))
 (ae (pst 5 bQ.nd (bR (bb (ao^px hu (fv 2) ab^ab^af)^bb (ao^px hu (fv 2) ab^ab^af)^bb (ao^px hu (fv 2) ab^ab^af)^af)))
 (ae (pst 5 bQ.nd (ax bz (fv 5) (bR (bb (ao^px hu (fv 2) ab^ax kY ab (ax cx (px hu (fv 3) ab) ab)^ab^af)^bb (ao^px hu (fv 2) ab^px hu (fv 3) ab^ab^af)^af))))
 (ae (pst 5 bQ.nd (ax bz (fv 5) (bR (bb (ao^px hu (fv 2) ab^ab^ab^af)^bb (ao^px hu (fv 2) ab^px hu (fv 3) ab^fv 4^af)^af))))
 (ae (pst 5 bQ.nd (ax bz (fv 5) (bR (bb (ao^px hu (fv 2) ab^ab^af)^bb (ao^px hu (fv 2) ab^ab^af)^bb (ao^px hu (fv 2) ab^ab^af)^bb (ao^px hu (fv 2) ab^fv 4^af)^af))))
 (ae (pst 5 bQ.nd (ax bz (fv 5) (bR (bb (ao^px hu (fv 2) ab^px hu (fv 3) ab^af)^bb (ao^px hu (fv 2) ab^ax cx (px hu (fv 3) ab) ab^af)^af))))
 (ae (pst 6 bQ.nd (ar E9 hr (ar Ny hr (fv 0^ab^af)^ab^ab^af)))
 (ae (bu (ax bz (cK eT (fv 5) (cf (fv 6)) ky) (cK eT (fv 5) ky (cf (fv 6)))) (bC (fv 1) ao (bD hu UX)))
 (ae (dP O1 rfl (df (fv 5)) (pgn (i:=7) bQ.nd rfl)
  (aj (bu (px hu (fv 7) ab) (bC (px hu (fv 1) ao) (px hu (fv 7) ab) (bD hu UX)))))
 (ae (dP O1 rfl (BJ rfl T.vY (cK eT (fv 2) (cf ab) (cf ab)^bR (ab^px hu (fv 3) ab^ab^px hu (fv 3) ab^af)^af)) (yT rfl (kx (pgn (i:=8) bQ.nd rfl) (kx (pgn (i:=9) bQ.nd rfl) uP)))
  (aj (bu (fv 9) (bC (px hu (fv 1) ao) (fv 8) (bD hu UX)))))
 (ae (bu (cK eT (fv 2) (cf ab) (cf ab)) (bC (fv 1) ao (bD hu UX)))
 (aj (aA (fv 2)))))))))))))))),?_⟩
 refine ah λM1 K1=>⟨_,rfl,∅,∅,qr (J:=Itr 0 25) (n:=25) (x:=λj=>.int (0+j)) (λj y _=>y=.str (N j)) (az ∅) (λ_ _=>KI _) (λ_ _ h _=>h) (λ_ _ _ _ _ _ y=>y) (λb j H1 G hj s1 kk=>⟨a,ns,1,rfl,s1.seq hA,∅,cellAt ns 1,j,(by rw[MC];rfl),(),λH2 s2=>kk _ _ s2 (by rw[eN])⟩) (λ_ _ _ _ _ h=>h) (λ_ _ _ _ _ _ _ h=>h) (λln H1 ys ln0 s1 eln ly hy=>K1 _ _ ?_)⟩;rw[Cz ly hy,show((O2 25).map λi=>V.str (N i))=nmL N from rfl]at eln;clear hy ly;try dsimp only
 refine ah λM2 K2=>⟨_,rfl,∅,∅,qr (J:=Itr 0 7) (n:=7) (x:=λj=>.int (0+j)) (λj y _=>∃n:Int,y=.int n/\0<=n/\n<3) (az ∅) (λ_ _=>KI _) (λ_ _ h _=>h) (λ_ _ _ _ _ _ y=>y) (λb j H2 G hj s2 kk=>⟨a,ns,2,rfl,(s1.trans s2).seq hA,∅,cellAt ns 2,j,3,(by rw[MC];rfl),(),∅,λm H3 m0 m1 s3=>kk _ _ s3 ⟨m,rfl,m0,m1⟩⟩) (λ_ _ _ _ _ h=>h) (λ_ _ _ _ _ _ _ h=>h) (λlk H2 ys lk0 s2 elk ly hy=>K2 _ _ ?_)⟩;obtain⟨rk,rfl,hrk⟩:=Jz ly hy;clear hy ly;have s12:=s1.trans s2;have eln2:=s2 _ _ eln;try dsimp only
 refine ah λM3 K3=>⟨a,ns,2,rfl,s12.seq hA,∅,cellAt ns 2,0,4,rfl,∅,∅,λm H3 m0 m1 s3=>K3 _ _ ?_⟩;obtain⟨z,hz⟩:∃z:Int,z=1+m:=⟨_,rfl⟩;rw[<-hz];have z1:1<=z:=()
 have z4:z<=4:=()
 have s13:=s12.trans s3;have eln3:=s3 _ _ eln2;have elk3:=s3 _ _ elk;have ln1:H ln=UU:=ln0;clear s1 s2 s3 s12 eln eln2 elk lk0 ln0 hz m0 m1;have nm:∀(Hc:Hp),aq H3 Hc->SqL K Hc ln (nmL N):=λHc z=>SqL.of (z _ _ eln3);have rm:∀(Hc:Hp),aq H3 Hc->SqL K Hc lk (rkL rk):=λHc z=>SqL.of (z _ _ elk3);try dsimp only
 refine ah λM4 K4=>?_;have D0:Hs N H3 H3 [] []:=⟨aq.refl _,.nil⟩;refine lix (nm _ D0.s) (g7 N (i:=0) ∅) ⟨by show 3<=sizeLine;decide,λt0 ht0=>?_⟩;have D1:=D0.add ht0 (.hand 0 0) rfl [V.str "hand",.str (N 0),.int 0] rfl;generalize upd H3 t0 _=X1 at D1⊢;refine lix (nm _ D1.s) (g7 N (i:=1) ∅) ⟨by show 3<=sizeLine;decide,λt1 ht1=>?_⟩;have D2:=D1.add ht1 (.hand 1 1) rfl [V.str "hand",.str (N 1),.int 1] rfl;generalize upd X1 t1 _=X2 at D2⊢;refine lix (nm _ D2.s) (g7 N (i:=2) ∅) ⟨by show 3<=sizeLine;decide,λt2 ht2=>?_⟩;have D3:=D2.add ht2 (.hand 2 2) rfl [V.str "hand",.str (N 2),.int 2] rfl;generalize upd X2 t2 _=X3 at D3⊢;refine⟨by show 3<=sizeLine;decide,λL1 hL1=>?_⟩;obtain⟨sL1,eL1⟩:=alc hL1 (HO.lst [V.ref t0,.ref t1,.ref t2]);generalize upd X3 L1 _=X4 at sL1 eL1⊢;have D4:=D3.to sL1;clear D0 D1 D2 D3 sL1 hL1 ht0 ht1 ht2;refine K4 _ _ ?_;try dsimp only
 refine ah λM5 K5=>lix (nm _ D4.s) (g7 N (i:=3) ∅) (lix (rm _ D4.s) (qt rk (i:=0) ∅) ⟨(by show(0:Int)<2;decide),by show 4<=sizeLine;decide,λt3 ht3=>?_⟩);obtain⟨D5,x5⟩:=D4.sk eL1 ht3 (.giv 3 (2-rk 0%2) 0) rfl [V.str "given",.str (N 3),.int (2-rk 0%2),.int 0] rfl;generalize upd X4 t3 _=X5 at D5 x5⊢;refine lix (nm _ D5.s) (g7 N (i:=4) ∅) (lix (rm _ D5.s) (qt rk (i:=1) ∅) ⟨by show 4<=sizeLine;decide,λt4 ht4=>?_⟩);obtain⟨D6,x6⟩:=D5.sk x5 ht4 (.giv 4 (rk 1) 0) rfl [V.str "given",.str (N 4),.int (rk 1),.int 0] rfl;generalize upd X5 t4 _=X6 at D6 x6⊢;refine⟨by show 2<=sizeLine;decide,λL2 hL2=>?_⟩;obtain⟨sL2,eL2⟩:=alc hL2 (HO.lst [V.ref t3,.ref t4]);generalize upd X6 L2 _=X7 at sL2 eL2⊢;refine⟨L1,L2,_,_,rfl,rfl,sL2 _ _ x6,eL2,(show 5<=sizeLine by decide),λL3 hL3=>?_⟩;obtain⟨sL3,eL3⟩:=alc hL3 (HO.lst ([V.ref t0,.ref t1,.ref t2]++[V.ref t3,.ref t4]));generalize upd X7 L3 _=X8 at sL3 eL3⊢;have D8:=D6.to (sL2.trans sL3);clear D4 D5 D6 x5 x6 sL2 eL2 sL3 hL2 hL3 ht3 ht4 eL1;refine K5 _ _ ?_;try dsimp only
 refine ah λM6 K6=>lix (nm _ D8.s) (g7 N (i:=5) ∅) ⟨by show 4<=sizeLine;decide,λt5 ht5=>?_⟩;obtain⟨D9,x9⟩:=D8.sk eL3 ht5 (.giv 5 0 0) rfl [V.str "given",.str (N 5),.int 0,.int 0] rfl;generalize upd X8 t5 _=X9 at D9 x9⊢;refine lix (nm _ D9.s) (g7 N (i:=6) ∅) (lix (rm _ D9.s) (qt rk (i:=2) ∅) ⟨by show 4<=sizeLine;decide,λt6 ht6=>?_⟩);obtain⟨D10,x10⟩:=D9.sk x9 ht6 (.giv 6 (rk 2) z) rfl [V.str "given",.str (N 6),.int (rk 2),.int z] rfl;generalize upd X9 t6 _=X10 at D10 x10⊢;refine⟨by show 2<=sizeLine;decide,λL4 hL4=>?_⟩;obtain⟨sL4,eL4⟩:=alc hL4 (HO.lst [V.ref t5,.ref t6]);generalize upd X10 L4 _=X11 at sL4 eL4⊢;refine⟨L3,L4,_,_,rfl,rfl,sL4 _ _ x10,eL4,(show 7<=sizeLine by decide),λL5 hL5=>?_⟩;obtain⟨sL5,eL5⟩:=alc hL5 (HO.lst ([V.ref t0,.ref t1,.ref t2]++[V.ref t3,.ref t4]++[V.ref t5,.ref t6]));generalize upd X11 L5 _=X12 at sL5 eL5⊢;have D12:=D10.to (sL4.trans sL5);clear D8 D9 D10 x9 x10 sL4 eL4 sL5 hL4 hL5 ht5 ht6 eL3;refine K6 _ _ ?_;try dsimp only
 refine ah λM7 K7=>lix (nm _ D12.s) (g7 N (i:=7) ∅) ⟨by show 3<=sizeLine;decide,λt7 ht7=>?_⟩;obtain⟨D13,x13⟩:=D12.sk eL5 ht7 (.own 7 0) rfl [V.str "own",.str (N 7),.int 0] rfl;generalize upd X12 t7 _=X13 at D13 x13⊢;refine lix (nm _ D13.s) (g7 N (i:=8) ∅) ⟨by show 3<=sizeLine;decide,λt8 ht8=>?_⟩;obtain⟨D14,x14⟩:=D13.sk x13 ht8 (.own 8 0) rfl [V.str "own",.str (N 8),.int 0] rfl;generalize upd X13 t8 _=X14 at D14 x14⊢;refine lix (nm _ D14.s) (g7 N (i:=9) ∅) ⟨by show 3<=sizeLine;decide,λt9 ht9=>?_⟩;obtain⟨D15,x15⟩:=D14.sk x14 ht9 (.own 9 0) rfl [V.str "own",.str (N 9),.int 0] rfl;generalize upd X14 t9 _=X15 at D15 x15⊢;refine lix (nm _ D15.s) (g7 N (i:=10) ∅) ⟨by show 3<=sizeLine;decide,λt10 ht10=>?_⟩;obtain⟨D16,x16⟩:=D15.sk x15 ht10 (.own 10 z) rfl [V.str "own",.str (N 10),.int z] rfl;generalize upd X15 t10 _=X16 at D16 x16⊢;refine⟨by show 4<=sizeLine;decide,λL6 hL6=>?_⟩;obtain⟨sL6,eL6⟩:=alc hL6 (HO.lst [V.ref t7,.ref t8,.ref t9,.ref t10]);generalize upd X16 L6 _=X17 at sL6 eL6⊢;refine⟨L5,L6,_,_,rfl,rfl,sL6 _ _ x16,eL6,(show 11<=sizeLine by decide),λL7 hL7=>?_⟩;obtain⟨sL7,eL7⟩:=alc hL7 (HO.lst ([V.ref t0,.ref t1,.ref t2]++[V.ref t3,.ref t4]++[V.ref t5,.ref t6]++[V.ref t7,.ref t8,.ref t9,.ref t10]));generalize upd X17 L7 _=X18 at sL7 eL7⊢;have D18:=D16.to (sL6.trans sL7);clear D12 D13 D14 D15 D16 x13 x14 x15 x16 sL6 eL6 sL7 hL6 hL7 ht7 ht8 ht9 ht10 eL5;refine K7 _ _ ?_;try dsimp only
 refine ah λM8 K8=>lix (nm _ D18.s) (g7 N (i:=11) ∅) (lix (rm _ D18.s) (qt rk (i:=3) ∅) ⟨by show 3<=sizeLine;decide,λt11 ht11=>?_⟩);obtain⟨D19,x19⟩:=D18.sk eL7 ht11 (.lt 11 (rk 3)) rfl [V.str "let",.str (N 11),.int (rk 3)] rfl;generalize upd X18 t11 _=X19 at D19 x19⊢;refine lix (nm _ D19.s) (g7 N (i:=12) ∅) (lix (rm _ D19.s) (qt rk (i:=4) ∅) ⟨(by show(0:Int)<2;decide),by show 3<=sizeLine;decide,λt12 ht12=>?_⟩);obtain⟨D20,x20⟩:=D19.sk x19 ht12 (.lt 12 (rk 4%2)) rfl [V.str "let",.str (N 12),.int (rk 4%2)] rfl;generalize upd X19 t12 _=X20 at D20 x20⊢;refine⟨by show 2<=sizeLine;decide,λL8 hL8=>?_⟩;obtain⟨sL8,eL8⟩:=alc hL8 (HO.lst [V.ref t11,.ref t12]);generalize upd X20 L8 _=X21 at sL8 eL8⊢;refine⟨L7,L8,_,_,rfl,rfl,sL8 _ _ x20,eL8,(show 13<=sizeLine by decide),λL9 hL9=>K8 _ _ ?_⟩;have L90':H L9=UU:=aq.free (s13.trans (D20.to sL8).s) hL9;obtain⟨xs,hxs⟩:∃xs,xs=[V.ref t0,.ref t1,.ref t2]++[V.ref t3,.ref t4]++[V.ref t5,.ref t6]++[V.ref t7,.ref t8,.ref t9,.ref t10]++[V.ref t11,.ref t12]:=⟨_,rfl⟩;rw[<-hxs];obtain⟨sL9,eL9⟩:=alc hL9 (HO.lst xs);generalize upd X21 L9 _=X22 at sL9 eL9⊢;have D22:Hs N H3 X22 xs (cy rk z):=by
  rw[hxs];exact D20.to (sL8.trans sL9)
 clear D18 D19 D20 x19 x20 sL8 eL8 sL9 hL8 hL9 ht11 ht12 eL7 hxs;have s3:=D22.s;have t22:=s13.trans s3;have lx:xs.length=13:=by rw[D22.len];rfl
 have e22:=s3 _ _ eln3;have k22:=s3 _ _ elk3;have L90:H L9=UU:=L90';try dsimp only
 refine ah λM9 K9=>⟨a,ns,2,rfl,t22.seq hA,∅,cellAt ns 2,5,13,rfl,∅,∅,λm X23 m0 m1 s23=>?_⟩;obtain⟨t,rfl⟩:∃t:Nat,m=(t:Int):=⟨m.toNat,()⟩;have tx:t<=xs.length:=()
 refine K9 _ _ ?_;try dsimp only
 refine ah λM10 K10=>⟨_,rfl,KJ ⟨L9,_,rfl,SqL.of (s23 _ _ eL9),λp1 hp1=>?_⟩⟩;rw[FI tx];obtain⟨s24,e24⟩:=alc hp1 (HO.lst (xs.drop t));generalize upd X23 p1 _=X24 at s24 e24⊢;refine⟨_,rfl,KJ ⟨L9,_,rfl,SqL.of ((s23.trans s24) _ _ eL9),λp2 hp2=>?_⟩⟩;rw[GD tx];obtain⟨s25,e25⟩:=alc hp2 (HO.lst (xs.take t));generalize upd X24 p2 _=X25 at s25 e25⊢;refine⟨p1,p2,_,_,rfl,rfl,s25 _ _ e24,e25,sz (by rw[Mj,LJ];omega),λLR hLR=>?_⟩;obtain⟨s26,e26⟩:=alc hLR (HO.lst (xs.drop t++xs.take t));generalize upd X25 LR _=X26 at s26 e26⊢;have s2226:=((s23.trans s24).trans s25).trans s26;have t26:=t22.trans s2226;have t25:=t22.trans ((s23.trans s24).trans s25);refine⟨_,cP.k (k:=.inr "rows") (t26 _ _ hS) (show 5<sizeLine by decide),K10 _ _ ?_⟩;rw[show UZ (st5 LR0 LV LD mode ev) (.inr "rows") (.ref LR)=st5 LR LV LD mode ev from rfl];have LR0':H LR=UU:=aq.free t25 hLR;have LRS:LR≠S:=UW LR0' hS;have LRV:LR≠LV:=UW LR0' hV;have lnR:ln≠LR:=λz=>by
  have:=((s23.trans s24).trans s25) _ _ e22;rw[z,hLR]at this;cases this
 have lnS:ln≠S:=UW ln1 hS;have lnV:ln≠LV:=UW ln1 hV;have SV:S≠LV:=λz=>by
  rw[z,hV]at hS;have:=congrArg (λo:Option HO=>match o with|some (.dK l)=>l.length|_=>0) hS;revert this
  show ¬ (0=5);decide
 have LkS:lk≠S:=λz=>by
  have:=t22 _ _ hS;rw[<-z,k22]at this;cases this
 have LkV:lk≠LV:=λz=>by
  have:=t22 _ _ hV;rw[<-z,k22]at this;cases this
 have L9S:L9≠S:=UW L90 hS;have L9V:L9≠LV:=UW L90 hV;have g27:Go [S,LV] H [S,LV] (upd X26 S (.dK (st5 LR LV LD mode ev))):=(Go.new t26).trans (Go.at Kv _);have lr27:Paired (bZ N (del [S,LR,LV] (upd X26 S (.dK (st5 LR LV LD mode ev))))) xs (cy rk z):=by
  refine Paired.cR D22.p λv h e=>?_;obtain⟨b,p,e1,e2,e3⟩:=e;have k:∀(x:OM)(o:HO),X22 x=UT o->(∀y,o≠ .dK y)->del [S,LR,LV] (upd X26 S (.dK (st5 LR LV LD mode ev))) x=UT o:=λx o e nd=>by
   have xS:x≠S:=λz=>by rw[z,t22 _ _ hS]at e;cases e;exact nd _ rfl
   have xV:x≠LV:=λz=>by rw[z,t22 _ _ hV]at e;cases e;exact nd _ rfl
   have xR:x≠LR:=λz=>by
    have:=((s23.trans s24).trans s25) _ _ e;rw[z,hLR]at this;cases this
   refine aN (λm=>?_) (ag xS (s2226 _ _ e));simp only[Ku,KD,or_false]at m;rcases m with m|m|m
   ·exact xS m
   ·exact xR m
   exact xV m
  refine⟨b,p,e1,k _ _ e2 (λy z=>by cases z),λo ho=>k _ _ (e3 o ho) (λy z=>?_)⟩;subst z;cases h<;>cases ho
 have S27:upd X26 S (.dK (st5 LR LV LD mode ev)) S=UT (.dK (st5 LR LV LD mode ev)):=ak;have V27:=ag (u:=.dK (st5 LR LV LD mode ev)) SV.symm (t26 _ _ hV);have R27:=ag (u:=.dK (st5 LR LV LD mode ev)) LRS e26;have n27:=ag (u:=.dK (st5 LR LV LD mode ev)) lnS (s2226 _ _ e22);have k27:=ag (u:=.dK (st5 LR LV LD mode ev)) LkS (s2226 _ _ k22);have x27:=ag (u:=.dK (st5 LR LV LD mode ev)) L9S (s2226 _ _ eL9);generalize upd X26 S (.dK (st5 LR LV LD mode ev))=X27 at g27 lr27 S27 V27 R27 n27 k27 x27⊢;clear s2226 s26 s25 s24 s23 e26 e25 e24 hp1 hp2 hLR t26 t25 t22 e22 k22 D22 s3 s13 eL9 nm rm eln3 elk3;try dsimp only
 refine ah λM11 K11=>KJ ⟨⟨_,SqL.of x27⟩,eF (K:=K) (xs:=xs) (λi σ Hc=>∃v7,σ=[UT (.ref a),UT (.ref S),UT (.ref ln),UT (.ref lk),UT (.int z),UT (.ref L9),UT (.int t),v7,UU,UU]/\Go [LV] X27 [LV] Hc/\Hc LV=UT (.dK (dk N (O2 i) λj=>.int (v1 rk z j)))) ⟨UU,rfl,Go.refl _ _,V27⟩ (λi σ Hc _ ⟨_,_,gc,_⟩=>SqL.of (gc.o _ _ (λm=>L9V (KC.mp m)) x27)) ?_ ?_⟩
 ·rintro i v σ Hc hv ⟨v7,rfl,gc,eV⟩;obtain⟨h,hh,hat⟩:=bw lr27 hv;obtain⟨tt,ys,rfl,ey,a1,a2⟩:=Ij hh hat;obtain⟨ny,ey⟩:=bq ey;have ty:Hc tt=UT (.tup ys):=gc.o _ _ (λm=>ny (by rw[KC.mp m];simp)) ey;have i13:i<13:=(KH.mp hh).1;have Sc:Hc S=UT (.dK (st5 LR LV LD mode ev)):=gc.o _ _ (λm=>SV (KC.mp m)) S27;try dsimp only
  refine KJ ⟨_,_,Lg (SqT.of ty),a2,dgk Sc rfl (KJ ⟨_,_,Lg (SqT.of ty),a1,⟨_,cP.k (k:=.inr (N i)) eV (az (by rw[fj,Ms];omega)),_,rfl,gc.trans (Go.at Kv _),?_⟩⟩)⟩;rw[iC D () (λj hj=>by have:=Lu.mp hj;omega) (λm=>by have:=Lu.mp m;omega),<-MM];rw[ak];congr 2;refine i5 λj hj=>?_;by_cases e:j=i
  ·rw[e,fm]
  rw[jo _ _ e]
 rintro σ X28 ⟨v7,rfl,g28,V28⟩;rw[lx]at V28;refine K11 _ _ ?_;have nV1:∀x:OM,x≠LV->x∉[LV]:=λx h m=>h (KC.mp m);have n28:=g28.o _ _ (nV1 _ lnV) n27;have k28:=g28.o _ _ (nV1 _ LkV) k27;have S28:=g28.o _ _ (nV1 _ SV) S27;try dsimp only
 refine ah λM12 K12=>⟨_,rfl,_,rfl,KJ ⟨ln,_,rfl,SqL.of n28,λp3 hp3=>?_⟩⟩;rw[show iy (nmL N) (UT 7) (UT 11)=nV N [7,8,9,10]from rfl];obtain⟨s29,e29⟩:=alc hp3 (HO.lst (nV N [7,8,9,10]));generalize upd X28 p3 _=X29 at s29 e29⊢;refine lix (SqL.of (s29 _ _ k28)) (qt rk (i:=5) ∅) (lix (SqL.of (s29 _ _ k28)) (qt rk (i:=6) ∅) ⟨by show 4<=sizeLine;decide,λp4 hp4=>?_⟩);rw[show[V.int 0,V.int (rk 5),V.int 2,V.int (rk 6)]=(w4 rk).map V.int from rfl];obtain⟨s30,e30⟩:=alc hp4 (HO.lst ((w4 rk).map V.int));generalize upd X29 p4 _=X30 at s30 e30⊢;have s2830:=s29.trans s30;have V30:=s2830 _ _ V28;have S30:=s2830 _ _ S28;have n30:=s2830 _ _ n28;have e29':=s30 _ _ e29;have p3V:p3≠LV:=UW hp3 V28;have p4V:p4≠LV:=UW hp4 (s29 _ _ V28);have gA:Go [S,LV] H [S,LV] X30:=(g27.trans (g28.to' SV)).trans (Go.new s2830);refine⟨_,_,rfl,⟨_,SqL.of e29'⟩,⟨_,SqL.of e30⟩,zK (K:=K) (xs:=nV N [7,8,9,10]) (ys:=(w4 rk).map V.int) (λi σ Hc=>∃v8 v9,σ=[UT (.ref a),UT (.ref S),UT (.ref ln),UT (.ref lk),UT (.int z),UT (.ref L9),UT (.int t),v7,v8,v9]/\Go [LV] X30 [LV] Hc/\Hc LV=UT (.dK (dk N (O2 13) λj=>.int (v2 rk z i j)))) ⟨UU,UU,rfl,Go.refl _ _,?_⟩ (λi σ Hc _ ⟨_,_,_,gc,_⟩=>⟨SqL.of (gc.o _ _ (nV1 _ p3V) e29'),SqL.of (gc.o _ _ (nV1 _ p4V) e30)⟩) rfl ?_ ?_⟩
 ·rw[V30,show(λj:Nat=>V.int (v2 rk z 0 j))=λj=>.int (v1 rk z j)from funext λj=>by unfold v2;rw[if_neg ()]]
 ·rintro i x y σ Hc tp hx hy ⟨v8,v9,rfl,gc,eV⟩ htp;have i4:i<4:=(KH.mp hx).1;have ex:x=.str (N (7+i)):=by
   have:=lt4 i ();rcases this with rfl|rfl|rfl|rfl<;>(cases hx;rfl)
  have ey:y=.int ((w4 rk).getD i 0):=by
   have:=lt4 i ();rcases this with rfl|rfl|rfl|rfl<;>(cases hy;rfl)
  subst ex ey;obtain⟨s4,e4⟩:=alc htp (HO.tup [V.str (N (7+i)),.int ((w4 rk).getD i 0)]);generalize upd Hc tp _=Hd at s4 e4⊢;have Sc:Hd S=UT (.dK (st5 LR LV LD mode ev)):=s4 _ _ (gc.o _ _ (nV1 _ SV) S30);refine⟨tp,_,rfl,SqT.of e4,rfl,_,_,rfl,_,_,rfl,rfl,dgk Sc rfl ⟨_,cP.k (k:=.inr (N (7+i))) (s4 _ _ eV) (az (by rw[fj,Ms];decide)),_,_,rfl,(gc.trans (Go.new s4)).trans (Go.at Kv _),?_⟩⟩;rw[yB D (λj hj=>by have:=Lu.mp hj;omega) (Lu.mpr ()),ak];congr 2;refine i5 λj hj=>?_;unfold v2;by_cases e:j=7+i
  ·rw[e,fm,if_pos (),show 7+i-7=i by omega]
  rw[jo _ _ e];by_cases e2:7<=j/\j<7+i
  ·rw[if_pos e2,if_pos ()]
  rw[if_neg e2,if_neg ()]
 rintro σ X31 ⟨v8,v9,rfl,g31,V31⟩;have V31:X31 LV=UT (.dK (dk N (O2 13) λj=>.int (v2 rk z 4 j))):=V31;refine K12 _ _ ?_;have S31:=g31.o _ _ (nV1 _ SV) S30;have n31:=g31.o _ _ (nV1 _ lnV) n30;try dsimp only
 refine ah λM13 K13=>⟨_,rfl,_,rfl,KJ ⟨ln,_,rfl,SqL.of n31,λlm hlm=>?_⟩⟩;rw[show iy (nmL N) (UT 11) (UT 13)=nV N [11,12]from rfl];obtain⟨s32,e32⟩:=alc hlm (HO.lst (nV N [11,12]));generalize upd X31 lm _=X32 at s32 e32⊢;refine⟨_,cP.k (k:=.inr "marks") (s32 _ _ S31) (show 5<sizeLine by decide),K13 _ _ ?_⟩;rw[show UZ (st5 LR LV LD mode ev) (.inr "marks") (.ref lm)=st6 LR LV LD mode ev lm from rfl];have R31:=g31.o _ _ (nV1 _ LRV) (s2830 _ _ (g28.o _ _ (nV1 _ LRV) R27));have lmS:lm≠S:=UW hlm S31;have lmR:lm≠LR:=UW hlm R31;have g32:=(gA.trans (g31.to' SV)).trans (Go.new s32);have lm0:H lm=UU:=by
  cases e:H lm with
  |none=>rfl
  |some o=>
   have lmV:lm≠LV:=UW hlm V31;have:=(gA.trans (g31.to' SV)).o lm o (λm=>by
    simp only[Ku,KD,or_false]at m;rcases m with m|m
    ·exact lmS m
    exact lmV m) e
   rw[hlm]at this;cases this
 have g2731:Go [LV] X27 [LV] X32:=((g28.trans (Go.new s2830)).trans g31).trans (Go.new s32);refine q ln LR lm rk z t (xs.drop t++xs.take t) _ hrk z1 z4 (g32.trans (Go.at Kv _)) ln1 LR0' lm0 lnR lmR ak (ag SV.symm (s32 _ _ V31)) (ag LRS (s32 _ _ R31)) (ag lmS e32) (ag lnS (s32 _ _ n31)) ?_;have lrZ:Paired (bZ N (del [S,LR,LV] (upd X32 S (.dK (st6 LR LV LD mode ev lm))))) xs (cy rk z):=Paired.cR lr27 λ_ _=>bZ.same λx o e=>by
  obtain⟨m,e⟩:=bq e;refine aN m (ag (λy=>m (by rw[y];exact Kv)) (g2731.o _ _ (λy=>m ?_) e));rw[KC.mp y];simp
 exact Paired.two (Paired.Fo t lrZ) (Paired.E4 t lrZ)
theorem bZ.but{X X':Hp}{v:V}{r:Lr}(h:bZ N X v r)(k:∀x o,X x=UT o->(∀y,o≠ .dK y)->X' x=UT o):bZ N X' v r:=by
 obtain⟨b,p,e1,e2,e3⟩:=h;refine⟨b,p,e1,k _ _ e2 (λy z=>by cases z),λo ho=>k _ _ (e3 o ho) (λy z=>?_)⟩;subst z;cases r<;>cases ho
def dR:List Dl->List (List Tr)->List Lr
 |d::ds,b::bs=>.fU d.nm d.ps::(bf b++(.fin::dR ds bs))
 |_,_=>[]
theorem pq:∀{ds:List Dl}{bs:List (List Tr)}(d:Dl)(b:List Tr),ds.length=bs.length->dR (ds++[d]) (bs++[b])=dR ds bs++(.fU d.nm d.ps::(bf b++[.fin]))
 | [],[],_,_,_=>rfl
 |d'::ds,b'::bs,d,b,h=>by
  have:=pq (ds:=ds) (bs:=bs) d b (by simpa using h);simp[dR,this]
structure AH(ev:Bool)(lim:Int)(dls:List Dl)(bss:List (List Tr)):Prop where
 len:dls.length=bss.length
 l4:dls.length<=4
 nm:dls.map Dl.nm=(O2 dls.length).map λj=>13+3*j
 ps:∀j d,dls[j]?=UT d->∃m,m<=2/\d.ps=Mh (14+3*j) m
 sp:∀d∈dls,0<=d.sp/\(d.sp<=lim\/d.sp=0)/\0<=d.co
 bs:∀j d b,dls[j]?=UT d->bss[j]?=UT b->eE ([3,4,5]++([7,8,9]++d.ps)) ([7,8,9]++d.ps) (dls.take j) b/\(ev=false->cG (dls.take j) 1 b<=d.sp)
 dp:∀b∈bss,dTs b<=4
structure sH(k:Nat)(vk:List Nat)(vw:Nat->Int):Prop where
 b:∀i∈vk,i<k/\0<=vw i/\vw i<=2
 h:∀i,i<13->i∈vk
 v9:vw 9=2
 v2:vw 2=2
 l:vk.length<=64
def jb(f:Nat->Int)(i:Nat)(v:Int):Nat->Int:=λj=>if j=i then v else f j
theorem Fb(f:Nat->Int)(i:Nat)(v:Int):mZ (λj=>V.int (f j)) i (.int v)=λj=>V.int (jb f i v j):=funext λj=>by
 unfold mZ jb;split<;>rfl
theorem sH.put{k:Nat}{vk:List Nat}{vw:Nat->Int}(h:sH k vk vw){i:Nat}{v:Int}(h0:13<=i)(hi:i<k)(hv:0<=v/\v<=2)(hl:vk.length<=63):sH k (ins vk i) (jb vw i v):=by
 refine⟨λj hj=>?_,λj hj=>mP (h.h j hj),?_,?_,KS (kJ _ _) ()⟩
 ·rcases ux hj with e|e
  ·subst e;exact⟨hi,by unfold jb;rw[if_pos rfl];exact hv⟩
  refine⟨(h.b j e).1,?_⟩;unfold jb;split
  ·exact hv
  exact(h.b j e).2
 ·unfold jb;rw[if_neg ()];exact h.v9
 unfold jb;rw[if_neg ()];exact h.v2
theorem sH.up{k k':Nat}{vk:List Nat}{vw:Nat->Int}(h:sH k vk vw)(e:k<=k'):sH k' vk vw:=⟨λi m=>⟨KZ (h.b i m).1 e,(h.b i m).2⟩,h.h,h.v9,h.v2,h.l⟩
def st8(LR LV LD:OM)(mode:Int)(ev:Bool)(lm LH LL:OM):List (Key×V):=[(.inr "rows",.ref LR),(.inr "view",.ref LV),(.inr "deeds",.ref LD),(.inr "mode",.int mode),(.inr "even",.bl ev),(.inr "marks",.ref lm),(.inr "hands",.ref LH),(.inr "lists",.ref LL)]
theorem Bh{i m:Nat}(hi:i<4)(hm:m<=2):iy (nmL N) (UT (14+3*(0+(i:Int)))) (UT (14+3*(0+(i:Int))+(m:Int)))=nV N (Mh (14+3*i) m):=by
 have a:=lt4 i ();have b:=lt3 m ();rcases a with rfl|rfl|rfl|rfl<;>rcases b with rfl|rfl|rfl<;>rfl
theorem tu{ns:List Int}{a m:Int}(h0:0<=a)(hm:0<=m):∃cs:List Int,iy (ns.map V.int) (UT a) (UT (a+m))=cs.map V.int/\(cs.length:Int)<=m:=by
 rw[Bj];refine⟨_,rfl,?_⟩;obtain⟨a,rfl⟩:∃n:Nat,a=(n:Int):=⟨a.toNat,()⟩;obtain⟨m,rfl⟩:∃n:Nat,m=(n:Int):=⟨m.toNat,()⟩;rw[LJ,Mj];have e:∀(d x:Nat),HT.sIx ns.length d (UT (x:Int))=min x ns.length:=λd x=>by
  show(if(x:Int)<0 then((x:Int)+ns.length).toNat else min (x:Int).toNat ns.length)=min x ns.length;rw[if_neg (),LA]
 rw[show(a:Int)+(m:Int)=((a+m:Nat):Int) by omega,e,e];omega
structure Bt(N:Nat->Str)(S LR LV LD lm LH LL:OM)(mode:Int)(ev:Bool)(lim:Int)(Hc:Hp)(hds:List Lr)(rows:List V)(dls:List Dl)(bss:List (List Tr))(marks:List Nat)(vk:List Nat)(vw:Nat->Int):Prop where
 hS:Hc S=UT (.dK (st8 LR LV LD mode ev lm LH LL))\/∃x1 x2 x3 x4 x5,Hc S=UT (.dK (st8 LR LV LD mode ev lm LH LL++[(.inr "targets",x1),(.inr "numbers",x2),(.inr "open",x3),(.inr "spent",x4),(.inr "limit",x5)]))
 hR:Hc LR=UT (.lst rows)
 hV:Hc LV=UT (.dK (dk N vk λi=>.int (vw i)))
 hD:∃ts:Nat->OM,Hc LD=UT (.dK (dk N (dls.map Dl.nm) λi=>.ref (ts i)))/\∀e∈dls,(ts e.nm≠LR/\Hc (ts e.nm)=UT (.tup [.ref e.lp,.int e.sp,.int e.co]))/\e.lp≠LR/\Hc e.lp=UT (.lst (nV N e.ps))
 hH:Hc LH=UT (.lst (nV N [0,1,2]))
 hL:Hc LL=UT (.lst (nV N [6,10]))
 hm:Hc lm=UT (.lst (nV N marks))
 hr:Paired (bZ N (del [LR] Hc)) rows (hds++dR dls bss)
 ne:LH≠LR/\LL≠LR/\lm≠LR
 mks:∀m∈marks,m∈[11,12]
 ml:marks.length<=2
 dd:AH ev lim dls bss
 vd:∀e∈dls,e.nm∈vk/\∀p∈e.ps,p∈vk
structure BW(ev:Bool)(lim:Int)(lrs:List Lr)(rk:Nat->Int)(z:Int)(t:Nat)(dls:List Dl)(bss:List (List Tr))(mb:List Tr):Prop where
 e:lrs=rot t (cy rk z)++dR dls bss++(.main::(bf mb++[.fin]))
 hk:∀i,0<=rk i/\rk i<=2
 hz:1<=z/\z<=4
 dd:AH ev (lim/4) dls bss
 ob:eE [3,4,5,7,8,9] [7,8,9] dls mb
 l:lrs.length<=200
 pay:ev=false->∃sp,cG dls 1 mb<=sp/\(sp<=lim\/sp=0)
 dp:dTs mb<=4
theorem j8{α:Type}{xs:List α}{x y:α}{j:Nat}(h:(xs++[x])[j]?=UT y):xs[j]?=UT y/\j<xs.length\/j=xs.length/\y=x:=by
 by_cases e:j<xs.length
 ·rw[LX e]at h;exact .inl ⟨h,e⟩
 rw[Mf ()]at h;have l:=(KH.mp h).1;have e2:j-xs.length=0:=by simpa using l
 rw[e2]at h;exact .inr ⟨(),(OS h).symm⟩
theorem AH.add{ev:Bool}{lim:Int}{dls:List Dl}{bss:List (List Tr)}(h:AH ev lim dls bss)(l:dls.length<4){d:Dl}{b:List Tr}(nm:d.nm=13+3*dls.length)(ps:∃m,m<=2/\d.ps=Mh (14+3*dls.length) m)
  (sp:0<=d.sp/\(d.sp<=lim\/d.sp=0)/\0<=d.co) (ob:eE ([3,4,5]++([7,8,9]++d.ps)) ([7,8,9]++d.ps) dls b) (pay:ev=false->cG dls 1 b<=d.sp) (dp:dTs b<=4):AH ev lim (dls++[d]) (bss++[b]):=by
 refine⟨by simp[h.len],by simp;omega,?_,λj e hj=>?_,λe m=>?_,λj e b' hj hb=>?_,λx hx=>?_⟩
 ·rw[La,h.nm,Kz,Lo,MM,La];simp[nm]
 ·rcases j8 hj with⟨h1,_⟩|⟨h1,h2⟩
  ·exact h.ps j e h1
  subst h1 h2;exact ps
 ·rcases KA.mp m with m|m
  ·exact h.sp e m
  rw[KC.mp m];exact sp
 ·rcases j8 hj with⟨h1,h2⟩|⟨h1,h2⟩
  ·rcases j8 hb with⟨h3,_⟩|⟨h3,_⟩
   ·rw[QI ()];exact h.bs j e b' h1 h3
   have:=h.len;omega
  rcases j8 hb with⟨_,h4⟩|⟨_,h4⟩
  ·have:=h.len;omega
  subst h1 h2 h4;rw[QI (KI _),Lz];exact⟨ob,pay⟩
 rcases KA.mp hx with hx|hx
 ·exact h.dp x hx
 rw[KC.mp hx]
 exact dp
theorem eJ{xs:List V}:∀y,HO.lst xs≠ .dK y:=λ_ z=>by cases z
theorem qw{xs:List V}:∀y,HO.tup xs≠ .dK y:=λ_ z=>by cases z
theorem Bt.st{S LR LV LD lm LH LL:OM}{mode:Int}{ev:Bool}{lim:Int}{Hc:Hp}{hds:List Lr}{rows:List V}{dls:List Dl}{bss:List (List Tr)}{marks vk:List Nat}{vw:Nat->Int}(B:Bt N S LR LV LD lm LH LL mode ev lim Hc hds rows dls bss marks vk vw) :
  ∃kvs,Hc S=UT (.dK kvs)/\L2.ft kvs (.inr "view")=UT (.ref LV)/\L2.ft kvs (.inr "rows")=UT (.ref LR)/\kvs.length<=13/\∀LT LN:OM,(UZ kvs (.inr "targets") (.ref LT)).length<=13/\L2.ft (UZ kvs (.inr "targets") (.ref LT)) (.inr "targets")=UT (.ref LT)/\
   ∀g:Gc,g.LR=LR->g.LV=LV->g.LD=LD->g.mode=mode->g.ev=ev->g.LH=LH->g.LL=LL->g.LT=LT->g.LN=LN->(UZ (UZ kvs (.inr "targets") (.ref LT)) (.inr "numbers") (.ref LN)=Eh g lm\/∃x y z,UZ (UZ kvs (.inr "targets") (.ref LT)) (.inr "numbers") (.ref LN)=Eh g lm++[(.inr "open",x),(.inr "spent",y),(.inr "limit",z)]):=by
 rcases B.hS with h|⟨x1,x2,x3,x4,x5,h⟩
 ·refine⟨_,h,rfl,rfl,(show 8<=13 by decide),λLT LN=>⟨(show 9<=13 by decide),rfl,?_⟩⟩;rintro g rfl rfl rfl rfl rfl rfl rfl rfl rfl;exact .inl rfl
 refine⟨_,h,rfl,rfl,(show 13<=13 by decide),λLT LN=>⟨(show 13<=13 by decide),rfl,?_⟩⟩
 rintro g rfl rfl rfl rfl rfl rfl rfl rfl rfl
 exact .inr ⟨x3,x4,x5,rfl⟩
inductive wo(K:OQ)(vs:List V)(H:Hp)(Q:VK)(Z:XK):Prop
 |mk(a:OM)(ns:List Int)(mode:Int)(ev:Bool)(lim:Int):vs=[.ref a,.int mode,.bl ev,.int lim]->ev=false->SqL K H a (ns.map V.int)->(∀(LR:OM)(rows:List V)(lrs:List Lr)(rk:Nat->Int)(z:Int)(t:Nat)(dls:List Dl)(bss:List (List Tr))(mb:List Tr)(H':Hp),aq H H'->H LR=UU->H' LR=UT (.lst rows)->Paired (bZ (nmV (cellAt ns 1)) (del [LR] H')) rows lrs->BW ev lim lrs rk z t dls bss mb->Q (.ref LR) H')->wo K vs H Q Z
inductive IvV(N:Nat->Str)(a S LV ln lp:OM)(mode lim c at_ r:Int)(ev:Bool)(v13:Option V)(He:Hp)(vk1 ps:List Nat)(i:Nat)(j:Nat)(σ:St)(Hx:Hp):Prop
 |mk(vk2:List Nat)(vw2:Nat->Int)(v12:Option V):σ=[UT (.ref a),UT (.int mode),UT (.bl ev),UT (.int lim),UT (.ref S),UT (.ref ln),UT (.int c),UT (.int at_),UT (.int (0+(i:Int))),UT (.int r),UT (.str (N (13+3*i))),UT (.ref lp),v12,v13]->Go [LV] He [LV] Hx->Hx LV=UT (.dK (dk N vk2 λj=>.int (vw2 j)))->sH (13+3*(i+1)) vk2 vw2->(∀j∈vk1,j∈vk2)->(∀p∈ps.take j,p∈vk2)->vk2.length<=13+3*i+1+j->IvV N a S LV ln lp mode lim c at_ r ev v13 He vk1 ps i j σ Hx
inductive IvW(N:Nat->Str)(a S LR LV LD LH LL ln:OM)(mode lim c z:Int)(ev:Bool)(H9:Hp)(rk:Nat->Int)(t:Nat)(i:Nat)(σ:St)(Hc:Hp):Prop
 |mk(lm:OM)(rows:List V)(dls:List Dl)(bss:List (List Tr))(marks vk:List Nat)(vw:Nat->Int)(at_:Int)(v8 v9 v10 v11 v12 v13:Option V):σ=[UT (.ref a),UT (.int mode),UT (.bl ev),UT (.int lim),UT (.ref S),UT (.ref ln),UT (.int c),UT (.int at_),v8,v9,v10,v11,v12,v13]->0<=at_->dls.length=i->Go [S,LR,LV,LD] H9 [S,LR,LV,LD] Hc->Bt N S LR LV LD lm LH LL mode ev (lim/4) Hc (rot t (cy rk z)) rows dls bss marks vk vw->sH (13+3*i) vk vw->rows.length<=13+14*i->vk.length<=13+3*i->IvW N a S LR LV LD LH LL ln mode lim c z ev H9 rk t i σ Hc
theorem Eb(T:Txt K mg A):Has P w K mg base 8 "_law_drawn" ["_law_script","_law_mode","_law_even","_law_limit"] (wo K):=by
 have Ny:=@yJ P w _ _ base _ T;have E9:=@oA P w _ _ base _ T;have Ou:=@Ew P w _ _ base _ T;have NZ:=@FZ P w _ _ base _ T;refine T.tq.has (k:=7) cj (λvs H Q E h=>?_) (λf cdv A' outer s H vs Q E' hr hu h=>?_)
 ·obtain⟨a,ns,mode,ev,lim,rfl,_⟩:=h;rfl
 obtain⟨a,ns,mode,ev,lim,rfl,hev,hA,q⟩:=h;have D:=qe (cellAt ns 1);obtain⟨N,eN⟩:∃N,N=nmV (cellAt ns 1):=⟨_,rfl⟩;rw[<-eN]at D q;refine⟨_,(ae (pst 4 cj.nd (qf (cw ao (bR af) (cw ao (fC) (cw ao (fC) (cw ao (fv 1) (cw ao (fv 2) (qg)))))) rfl rfl (by intro z;cases z) ∅))
 (ae (pst 5 cj.nd (ar Ou hr (fv 0^fv 4^af)))
 (ae (bu (cK eT (fv 5) ky (cf ab)) (bC (fv 4) ao (bD hu UX)))
 (ae (bu (bR (px hu (fv 5) ab^px hu (fv 5) ab^af)) (bC (fv 4) ao (bD hu UX)))
 (ae (pst 6 cj.nd (ar Ny hr (fv 0^ab^af)))
 (ae (pst 7 cj.nd ab)
 (ae (dP O1 rfl (fq rfl T.fE (ar E9 hr (fv 6^ab^ab^af)^af)) (pgn (i:=8) cj.nd rfl)
  (ae (pst 9 cj.nd (ar E9 hr (fv 6^ax bz ab (fv 8)^ab^af)))
  (ae (pst 10 cj.nd (px hu (fv 5) (ax bz ab (ax cS ab (fv 8)))))
  (ae (pst 11 cj.nd (cK eT (fv 5) (cf (ax bz ab (ax cS ab (fv 8)))) (cf (ax bz (ax bz ab (ax cS ab (fv 8))) (ar E9 hr (fv 6^ax bz ab (fv 8)^ab^af))))))
  (ae (bu (fv 9) (bC (px hu (fv 4) ao) (fv 10) (bD hu UX)))
  (ae (dP O1 rfl (df (fv 11)) (pgn (i:=12) cj.nd rfl)
   (aj (bu (pcB sV T.nr (fv 9^ar E9 hr (fv 6^ab^ab^af)^af)) (bC (px hu (fv 4) ao) (fv 12) (bD hu UX)))))
  (ae (aK (cI (px hu (fv 4) ao) (bb (ao^fv 10^fv 11^af)^af)))
  (ae (bu (ax bz (cK eT (fv 5) (cf ab) (cf ab)) (fv 11)) (bC (fv 4) ao (bD hu UX)))
  (ae (bu (ax bz (cK eT (fv 5) (cf ab) (cf ab)) (px hu (fv 4) ao)) (bC (fv 4) ao (bD hu UX)))
  (ae (pst 13 cj.nd (ar E9 hr (fv 6^ax kY ab (fv 8)^ab^af)))
  (ae (aK (ar NZ hr (fv 4^cK eT (fv 0) (cf (fv 7)) (cf (ax bz (fv 7) (fv 13)))^fv 9^ax c9 (fv 3) ab^af)))
  (ae (bu (bb (fv 11^px hu (fv 4) ao^px hu (px hu (px hu (fv 4) ao) ab) ao^af)) (bC (px hu (fv 4) ao) (fv 10) (bD hu UX)))
  (aj (pst 7 cj.nd (ax bz (fv 7) (fv 13))))))))))))))))
 (ae (aK (cI (px hu (fv 4) ao) (bb (ao^af)^af)))
 (ae (bu (cK eT (fv 5) (cf ab) (cf ab)) (bC (fv 4) ao (bD hu UX)))
 (ae (bu (ax bz (cK eT (fv 5) (cf ab) (cf ab)) (px hu (fv 4) ao)) (bC (fv 4) ao (bD hu UX)))
 (ae (aK (ar NZ hr (fv 4^cK eT (fv 0) (cf (fv 7)) (cf (ax bz (fv 7) ab))^ab^fv 3^af)))
 (aj (aA (px hu (fv 4) ao)))))))))))))),?_⟩
 refine ah λM1 K1 S hS0=>?_;obtain⟨s1,e1⟩:=alc hS0 (HO.dK []);generalize upd H S _=H1 at s1 e1⊢;refine⟨KY _,λL0 hL0=>?_⟩;obtain⟨s2,e2⟩:=alc hL0 (HO.lst []);generalize upd H1 L0 _=H2 at s2 e2⊢;refine λLV hLV=>?_;obtain⟨s3,e3⟩:=alc hLV (HO.dK []);generalize upd H2 LV _=H3 at s3 e3⊢;refine λLD hLD=>?_;obtain⟨s4,e4⟩:=alc hLD (HO.dK []);generalize upd H3 LD _=H4 at s4 e4⊢;have s24:=(s2.trans s3).trans s4;refine⟨s24 _ _ e1,[((.inr "rows":Key),.ref L0),(.inr "view",.ref LV),(.inr "deeds",.ref LD),(.inr "mode",.int mode),(.inr "even",.bl ev)],rfl,(show 5<=15 by decide),K1 _ _ ?_⟩;rw[show cz [] [((.inr "rows":Key),V.ref L0),(.inr "view",.ref LV),(.inr "deeds",.ref LD),(.inr "mode",.int mode),(.inr "even",.bl ev)]=st5 L0 LV LD mode ev from rfl];have VS:LV≠S:=UW hLV ((s2) _ _ e1);have DS:LD≠S:=UW hLD ((s2.trans s3) _ _ e1);have DV:LD≠LV:=UW hLD e3;have S0:H S=UU:=hS0;have V0:H LV=UU:=aq.free (s1.trans s2) hLV;have D0:H LD=UU:=aq.free ((s1.trans s2).trans s3) hLD;have t4:=s1.trans s24;have g5:Go [S] H [S] (upd H4 S (.dK (st5 L0 LV LD mode ev))):=(Go.new t4).trans (Go.at Kv _);have k5:aq H (upd H4 S (.dK (st5 L0 LV LD mode ev))):=g5.keep (aq.refl _) (λx m=>by rw[KC.mp m];exact S0);have S5:upd H4 S (.dK (st5 L0 LV LD mode ev)) S=UT (.dK (st5 L0 LV LD mode ev)):=ak;have V5:upd H4 S (.dK (st5 L0 LV LD mode ev)) LV=UT (.dK []):=ag VS (s4 _ _ e3);have D5:upd H4 S (.dK (st5 L0 LV LD mode ev)) LD=UT (.dK []):=ag DS e4;generalize upd H4 S (.dK (st5 L0 LV LD mode ev))=H5 at k5 S5 V5 D5⊢;clear g5 t4 s24 s4 s3 s2 s1 e1 e2 e3 e4 hLD hLV hL0 hS0;try dsimp only
 refine ah λM2 K2=>⟨a,S,L0,LV,LD,ns,mode,ev,rfl,k5.seq hA,S5,V5,λln LR lm rk z t rows0 H6 hrk z1 z4 g6 ln5 LR5 lm5 lnR lmR S6 V6 R6 m6 n6 lr6=>?_⟩;rw[<-eN]at V6 m6 n6 lr6;have nSV:∀x,x≠S->x≠LV->x∉[S,LV]:=λx h1 h2 m=>by
  simp only[Ku,KD,or_false]at m;rcases m with m|m
  ·exact h1 m
  exact h2 m
 have RS:LR≠S:=UW LR5 S5;have RV:LR≠LV:=UW LR5 V5;have RD:LR≠LD:=UW LR5 D5;have LR0:H LR=UU:=aq.free k5 LR5;have D6:=g6.o _ _ (nSV _ DS DV) D5;have k6:aq H H6:=g6.keep k5 (λx m=>by
  simp only[Ku,KD,or_false]at m;rcases m with m|m
  ·rw[m];exact S0
  rw[m];exact V0)
 have lnS:ln≠S:=UW ln5 S5;have lnV:ln≠LV:=UW ln5 V5;have lnD:ln≠LD:=UW ln5 D5;have lmS:lm≠S:=UW lm5 S5;have lmV:lm≠LV:=UW lm5 V5;have lmD:lm≠LD:=UW lm5 D5;have ln0:H ln=UU:=aq.free k5 ln5;clear g6 k5 S5 V5 D5 ln5 LR5 lm5;refine K2 _ _ ?_;try dsimp only
 refine ah λM3 K3=>⟨_,rfl,KJ ⟨ln,_,rfl,SqL.of n6,λLH hLH=>?_⟩⟩;rw[show iy (nmL N) UU (UT 3)=nV N [0,1,2]from rfl];obtain⟨s7,e7⟩:=alc hLH (HO.lst (nV N [0,1,2]));generalize upd H6 LH _=H7 at s7 e7⊢;have HS:LH≠S:=UW hLH S6;have HV:LH≠LV:=UW hLH V6;have HR:LH≠LR:=UW hLH R6;have HD:LH≠LD:=UW hLH D6;refine⟨_,cP.k (k:=.inr "hands") (s7 _ _ S6) (show 6<sizeLine by decide),K3 _ _ ?_⟩;try dsimp only
 refine ah λM4 K4=>lix (SqL.of (ag lnS (s7 _ _ n6))) (g7 N (i:=6) ∅) (lix (SqL.of (ag lnS (s7 _ _ n6))) (g7 N (i:=10) ∅) ⟨by show 2<=sizeLine;decide,λLL hLL=>?_⟩);have LLS:LL≠S:=UW hLL ak;have hLL7:H7 LL=UU:=by rw[aw LLS]at hLL;exact hLL
 have LLV:LL≠LV:=UW hLL7 (s7 _ _ V6);have LLR:LL≠LR:=UW hLL7 (s7 _ _ R6);have LLD:LL≠LD:=UW hLL7 (s7 _ _ D6);have LLH:LL≠LH:=UW hLL7 e7;refine⟨_,cP.k (k:=.inr "lists") (ag LLS.symm ak) (show 7<sizeLine by decide),?_⟩;have go8:∀(x:OM)(o:HO),x≠S->H7 x=UT o->upd (upd (upd H7 S (.dK (UZ (st6 LR LV LD mode ev lm) (.inr "hands") (.ref LH)))) LL (.lst [.str (N 6),.str (N 10)])) S (.dK (UZ (UZ (st6 LR LV LD mode ev lm) (.inr "hands") (.ref LH)) (.inr "lists") (.ref LL))) x=UT o:=λx o h e=>ag h (ag (λz=>by rw[z,hLL7]at e;cases e) (ag h e));have S8:upd (upd (upd H7 S (.dK (UZ (st6 LR LV LD mode ev lm) (.inr "hands") (.ref LH)))) LL (.lst [.str (N 6),.str (N 10)])) S (.dK (UZ (UZ (st6 LR LV LD mode ev lm) (.inr "hands") (.ref LH)) (.inr "lists") (.ref LL))) S=UT (.dK (st8 LR LV LD mode ev lm LH LL)):=ak;have L8:upd (upd (upd H7 S (.dK (UZ (st6 LR LV LD mode ev lm) (.inr "hands") (.ref LH)))) LL (.lst [.str (N 6),.str (N 10)])) S (.dK (UZ (UZ (st6 LR LV LD mode ev lm) (.inr "hands") (.ref LH)) (.inr "lists") (.ref LL))) LL=UT (.lst (nV N [6,10])):=ag LLS ak;generalize upd (upd (upd H7 S (.dK (UZ (st6 LR LV LD mode ev lm) (.inr "hands") (.ref LH)))) LL (.lst [.str (N 6),.str (N 10)])) S (.dK (UZ (UZ (st6 LR LV LD mode ev lm) (.inr "hands") (.ref LH)) (.inr "lists") (.ref LL)))=H8 at go8 S8 L8⊢;have k8:aq H H8:=λx o e=>go8 x o (λz=>by rw[z,S0]at e;cases e) (s7 _ _ (k6 _ _ e));have n8:=go8 _ _ lnS (s7 _ _ n6);have hd0:sH 13 (O2 13) (v2 rk z 4):=by
  refine⟨λi m=>⟨Lu.mp m,?_⟩,λi h=>Lu.mpr h,rfl,rfl,∅⟩;have i13:=Lu.mp m;have r0:=hrk 0;have r1:=hrk 1;have r2:=hrk 2;have r3:=hrk 3;have r4:=hrk 4;have r5:=hrk 5;have r6:=hrk 6;have:=Iq i ();rcases this with rfl|rfl|rfl|rfl|rfl|rfl|rfl|rfl|rfl|rfl|rfl|rfl|rfl<;>(simp[v2,v1,w4];try omega)
 have B8:Bt N S LR LV LD lm LH LL mode ev (lim/4) H8 (rot t (cy rk z)) rows0 [] [] [11,12] (O2 13) (v2 rk z 4):=by
  refine⟨.inl S8,go8 _ _ RS (s7 _ _ R6),go8 _ _ VS (s7 _ _ V6),⟨λ_=>S,go8 _ _ DS (s7 _ _ D6),λe m=>by cases m⟩,go8 _ _ HS e7,L8,go8 _ _ lmS (s7 _ _ m6),?_,⟨HR,LLR,lmR⟩,λ_ h=>h,∅,⟨rfl,∅,rfl,λj d e=>(by cases e),λd m=>(by cases m),λj d b e=>(by cases e),λb m=>(by cases m)⟩,λe m=>(by cases m)⟩;rw[show dR [] []=[]from rfl,Lx];refine Paired.cR lr6 λv h l=>l.but λx o e nd=>?_;obtain⟨m,e⟩:=bq e;simp only[Ku,KD,or_false,not_or]at m;exact aN (λy=>m.2.1 (KC.mp y)) (go8 _ _ m.1 (s7 _ _ e))
 have lr0:(rot t (cy rk z)).length=13:=by
  unfold rot;rw[Kz,Mj,LJ];show 13-t+min t 13=13;omega
 clear go8 S8 L8 s7 e7 k6 hLL hLL7 hLH S6 V6 R6 m6 n6 lr6 D6;refine K4 _ _ ?_;try dsimp only
 refine ah λM5 K5=>⟨a,ns,3,rfl,k8.seq hA,∅,K5 _ _ ?_⟩;obtain⟨c,hc⟩:∃c,c=cellAt ns 3:=⟨_,rfl⟩;rw[<-hc];try dsimp only
 refine ah λM6 K6=>K6 _ _ ?_;try dsimp only
 refine ah λM7 K7=>⟨c,0,5,rfl,∅,∅,λn H9 n0 n1 s9=>?_⟩;obtain⟨n,rfl⟩:∃k:Nat,n=(k:Int):=⟨n.toNat,()⟩;refine⟨n,rfl,(),(),?_⟩;rw[LA];have k9:aq H H9:=k8.trans s9;have n9:=s9 _ _ n8;have B9:Bt N S LR LV LD lm LH LL mode ev (lim/4) H9 (rot t (cy rk z)) rows0 [] [] [11,12] (O2 13) (v2 rk z 4):=by
  obtain⟨ts,h1,_⟩:=B8.hD;refine⟨?_,s9 _ _ B8.hR,s9 _ _ B8.hV,⟨ts,s9 _ _ h1,λe m=>by cases m⟩,s9 _ _ B8.hH,s9 _ _ B8.hL,s9 _ _ B8.hm,Paired.cR B8.hr λv h l=>l.same (Go.new s9).same,B8.ne,B8.mks,B8.ml,B8.dd,B8.vd⟩;rcases B8.hS with h|⟨x1,x2,x3,x4,x5,h⟩
  ·exact .inl (s9 _ _ h)
  exact .inr ⟨x1,x2,x3,x4,x5,s9 _ _ h⟩
 have l0:rows0.length=13:=by
  have:=OU B8.hr;rw[this,Kz,lr0];rfl
 have fr0:∀x∈[S,LR,LV,LD],H x=UU:=λx m=>by
  simp only[Ku,KD,or_false]at m;rcases m with m|m|m|m
  ·rw[m];exact S0
  ·rw[m];exact LR0
  ·rw[m];exact V0
  rw[m];exact D0
 have ln4:ln∉[S,LR,LV,LD]:=λm=>by
  simp only[Ku,KD,or_false]at m;rcases m with m|m|m|m
  ·exact lnS m
  ·exact lnR m
  ·exact lnV m
  exact lnD m
 clear B8 k8 n8 s9;refine ik (lo:=0) (IvW N a S LR LV LD LH LL ln mode lim c z ev H9 rk t) ⟨lm,rows0,[],[],[11,12],_,_,8,UU,UU,UU,UU,UU,UU,rfl,∅,rfl,Go.refl _ _,B9,hd0,(),by show 13<=13;decide⟩ ?_ ?_
 ·rintro i σ Hc hi ⟨lm,rows,dls,bss,marks,vk,vw,at_,v8,v9,v10,v11,v12,v13,rfl,at0,dl,gc,B,W0,rl,vl⟩;have i4:i<4:=()
  have kc:aq H Hc:=gc.keep k9 fr0;have nc:=gc.o _ _ ln4 n9;obtain⟨kvs,eS,gv,gr,lk,fin⟩:=B.st;have GV:∀Hx:Hp,Hx S=UT (.dK kvs)->c8 Hx S (.str "view") (UT (.ref LV)):=λHx e=>by rw[<-gv];exact c8.k (k:=.inr "view") e
  have GR:∀Hx:Hp,Hx S=UT (.dK kvs)->c8 Hx S (.str "rows") (UT (.ref LR)):=λHx e=>by rw[<-gr];exact c8.k (k:=.inr "rows") e
  try dsimp only
  refine ah λN1 J1=>⟨c,1+i,3,(congrArg (λx:Int=>[V.int c,V.int x,V.int 3]) (show 1+(0+(i:Int))=((1+i:Nat):Int) by omega)),(),∅,λr Ha r0 r1 sa=>J1 _ _ ?_⟩;try dsimp only
  refine ah λN2 J2=>⟨KJ ⟨∅,∅⟩,(lix (SqL.of (sa _ _ nc)) (by rw[show 13+3*(0+(i:Int))=((13+3*i:Nat):Int) by omega];exact g7 N ()) (J2 _ _ ?_))⟩;try dsimp only
  refine ah λN3 J3=>⟨KJ ⟨∅,∅⟩,_,rfl,KJ ⟨∅,∅⟩,c,3+i,3,(congrArg (λx:Int=>[V.int c,V.int x,V.int 3]) (show 3+(0+(i:Int))=((3+i:Nat):Int) by omega)),(),∅,λm Hb m0 m1 sb=>⟨_,rfl,KJ ⟨ln,_,rfl,SqL.of ((sa.trans sb) _ _ nc),λlp hlp=>J3 _ _ ?_⟩⟩⟩;obtain⟨m,rfl⟩:∃k:Nat,m=(k:Int):=⟨m.toNat,()⟩;rw[Bh i4 ()];obtain⟨ps,hps⟩:∃ps,ps=Mh (14+3*i) m:=⟨_,rfl⟩;rw[<-hps];have pm:∀p∈ps,14+3*i<=p/\p<14+3*i+m:=λp hp=>by rw[hps]at hp;simpa using Nh.mp hp
  have pl:ps.length=m:=by rw[hps];simp
  obtain⟨sc,ec⟩:=alc hlp (HO.lst (nV N ps));generalize upd Hb lp _=Hd at sc ec⊢;have sd:=(sa.trans sb).trans sc;have lpR:lp≠LR:=UW hlp ((sa.trans sb) _ _ B.hR);have lpS:lp≠S:=UW hlp ((sa.trans sb) _ _ eS);have lpV:lp≠LV:=UW hlp ((sa.trans sb) _ _ B.hV);clear hlp;try dsimp only
  refine ah λN4 J4=>⟨_,GV _ (sd _ _ eS),_,cP.k (k:=.inr (N (13+3*i))) (sd _ _ B.hV) (az (by rw[fj];omega)),J4 _ _ ?_⟩;rw[vz D () (λj hj=>by have:=(W0.b j hj).1;omega),Fb];have V1:sH (13+3*(i+1)) (ins vk (13+3*i)) (jb vw (13+3*i) r):=(W0.up ()).put () () ⟨r0,()⟩ ();have nk:13+3*i∈ins vk (13+3*i):=rg _ _;have ok1:∀j∈vk,j∈ins vk (13+3*i):=λj h=>mP h;have lk1:=kJ vk (13+3*i);generalize ins vk (13+3*i)=vk1 at V1 nk ok1 lk1⊢;generalize jb vw (13+3*i) r=vw1 at V1⊢;have ge:Go [LV] Hc [LV] (upd Hd LV (.dK (dk N vk1 λj=>.int (vw1 j)))):=(Go.new sd).trans (Go.at Kv _);have eV:upd Hd LV (.dK (dk N vk1 λj=>.int (vw1 j))) LV=UT (.dK (dk N vk1 λj=>.int (vw1 j))):=ak;have ep:=ag (u:=.dK (dk N vk1 λj=>.int (vw1 j))) lpV ec;generalize upd Hd LV (.dK (dk N vk1 λj=>.int (vw1 j)))=He at ge eV ep⊢;have nV1:∀x:OM,x≠LV->x∉[LV]:=λx h m=>h (KC.mp m);clear sc sd sa sb ec;try dsimp only
  refine ah λN5 J5=>KJ ⟨⟨_,SqL.of ep⟩,eF (K:=K) (xs:=nV N ps) (IvV N a S LV ln lp mode lim c at_ r ev v13 He vk1 ps i) ⟨vk1,vw1,v12,rfl,Go.refl _ _,eV,V1,λ_ h=>h,λp hp=>(by cases hp),()⟩ (λj σ Hx _ ⟨_,_,_,_,gx,_,_,_,_,_⟩=>SqL.of (gx.o _ _ (nV1 _ lpV) ep)) ?_ ?_⟩
  ·rintro j v σ Hx hv ⟨vk2,vw2,v12,rfl,gx,eV2,V2,ok2,pk2,lk2⟩;rw[KP]at hv;obtain⟨p,hp,rfl⟩:=LG.mp hv;have pb:=pm p (KG hp);have jl:j<ps.length:=(KH.mp hp).1;try dsimp only
   refine⟨c,5,3,rfl,∅,∅,λm2 Hy h0 h1 sy=>⟨_,_,rfl,?_⟩⟩;obtain⟨u,hu'⟩:∃u:Int,u=if m2>r then m2 else r:=⟨_,rfl⟩
   rw[<-hu'];have ub:0<=u/\u<=2:=by rw[hu'];split<;>omega
   refine⟨_,GV _ (sy _ _ (gx.o _ _ (nV1 _ VS.symm) (ge.o _ _ (nV1 _ VS.symm) eS))),_,cP.k (k:=.inr (N p)) (sy _ _ eV2) (az (by rw[fj];omega)),ins vk2 p,jb vw2 p u,_,rfl,(gx.trans (Go.new sy)).trans (Go.at Kv _),?_,V2.put () () ub (),λj h=>mP (ok2 j h),λx hx=>?_,KS (kJ _ _) ()⟩
   ·rw[vz D () (λj hj=>by have:=(V2.b j hj).1;omega),Fb,ak]
   rw[LO,hp]at hx;rcases KA.mp hx with h|h
   ·exact mP (pk2 x h)
   have:x=p:=by simpa using h
   rw[this];exact rg _ _
  rintro σ Hf ⟨vk2,vw2,v12',rfl,gx,eV2,V2,ok2,pk2,lk2⟩;rw[Ky,Lz]at pk2;rw[Ky]at lk2;refine J5 _ _ ?_;have gf:Go [LV] Hc [LV] Hf:=ge.trans gx;have Sf:=gf.o _ _ (nV1 _ VS.symm) eS;have Rf:=gf.o _ _ (nV1 _ RV) B.hR;have pf:=gx.o _ _ (nV1 _ lpV) ep;have nf:=gf.o _ _ (nV1 _ lnV) nc;try dsimp only
  refine ah λN6 J6=>⟨_,GR _ Sf,KJ ⟨rfl,_,SqL.of Rf⟩,by show 3<=sizeLine;decide,λtd htd=>?_⟩;have tdR:td≠LR:=UW htd Rf;refine⟨_,_,_,rfl,rfl,ag tdR.symm Rf,az (),J6 _ _ ?_⟩;have tdS:td≠S:=UW htd Sf;have tdV:td≠LV:=UW htd eV2;have tdp:td≠lp:=UW htd pf;have gg:Go [S,LR,LV] Hc [S,LR,LV] (upd (upd Hf td (.tup [.str "deed",.str (N (13+3*i)),.ref lp])) LR (.lst (rows++[.ref td]))):=by
   have h1:Go [S,LR,LV] Hc [S,LR,LV] Hf:=⟨λx o m e=>gf.o x o (λy=>m (by rw[KC.mp y];simp)) e,λ_ m=>.inl m⟩;exact(h1.trans (Go.new (aq.upd htd _))).trans (Go.at (Kx _ Kv) _)
  have Sg:=ag (u:=.lst (rows++[.ref td])) RS.symm (ag (u:=.tup [.str "deed",.str (N (13+3*i)),.ref lp]) tdS.symm Sf);have Rg:upd (upd Hf td (.tup [.str "deed",.str (N (13+3*i)),.ref lp])) LR (.lst (rows++[.ref td])) LR=UT (.lst (rows++[.ref td])):=ak;have Vg:=ag (u:=.lst (rows++[.ref td])) RV.symm (ag (u:=.tup [.str "deed",.str (N (13+3*i)),.ref lp]) tdV.symm eV2);have pg:=ag (u:=.lst (rows++[.ref td])) lpR (ag (u:=.tup [.str "deed",.str (N (13+3*i)),.ref lp]) tdp.symm pf);have ng:=ag (u:=.lst (rows++[.ref td])) lnR (ag (u:=.tup [.str "deed",.str (N (13+3*i)),.ref lp]) (UW htd nf).symm nf);have tg:upd (upd Hf td (.tup [.str "deed",.str (N (13+3*i)),.ref lp])) LR (.lst (rows++[.ref td])) td=UT (.tup [.str "deed",.str (N (13+3*i)),.ref lp]):=ag tdR ak;generalize upd (upd Hf td (.tup [.str "deed",.str (N (13+3*i)),.ref lp])) LR (.lst (rows++[.ref td]))=Hg at gg Sg Rg Vg pg ng tg⊢;clear htd Sf Rf pf nf gf eV2 gx ep ge eV;try dsimp only
  refine ah λN7 J7=>⟨_,rfl,_,rfl,KJ ⟨ln,_,rfl,SqL.of ng,λp1 hp1=>?_⟩⟩;rw[show iy (nmL N) (UT 7) (UT 10)=nV N [7,8,9]from rfl];obtain⟨sh,eh⟩:=alc hp1 (HO.lst (nV N [7,8,9]));generalize upd Hg p1 _=Hh at sh eh⊢;refine⟨p1,lp,_,_,rfl,rfl,eh,sh _ _ pg,sz (by rw[Ky,Ky];show 3+ps.length<=1000;omega),λLT hLT=>?_⟩;rw[show nV N [7,8,9]++nV N ps=nV N ([7,8,9]++ps) by simp];obtain⟨si,ei⟩:=alc hLT (HO.lst (nV N ([7,8,9]++ps)));generalize upd Hh LT _=Hi at si ei⊢;have TS:LT≠S:=UW hLT (sh _ _ Sg);have TR:LT≠LR:=UW hLT (sh _ _ Rg);have shi:=sh.trans si;refine⟨_,cP.k (k:=.inr "targets") (shi _ _ Sg) (az ()),?_⟩;have gj:Go [S] Hg [S] (upd Hi S (.dK (UZ kvs (.inr "targets") (.ref LT)))):=(Go.new shi).trans (Go.at Kv _);have Sj:upd Hi S (.dK (UZ kvs (.inr "targets") (.ref LT))) S=UT (.dK (UZ kvs (.inr "targets") (.ref LT))):=ak;have Tj:=ag (u:=.dK (UZ kvs (.inr "targets") (.ref LT))) TS ei;generalize upd Hi S (.dK (UZ kvs (.inr "targets") (.ref LT)))=Hj at gj Sj Tj⊢;clear sh eh si ei shi hLT hp1;have nS1:∀x:OM,x≠S->x∉[S]:=λx h m=>h (KC.mp m);refine J7 _ _ ?_;try dsimp only
  refine ah λN8 J8=>⟨_,rfl,_,rfl,KJ ⟨ln,_,rfl,SqL.of (gj.o _ _ (nS1 _ lnS) ng),λp2 hp2=>?_⟩⟩;rw[show iy (nmL N) (UT 3) (UT 6)=nV N [3,4,5]from rfl];obtain⟨sh,eh⟩:=alc hp2 (HO.lst (nV N [3,4,5]));generalize upd Hj p2 _=Hh at sh eh⊢;refine⟨.ref LT,(by rw[<-(fin LT LT).2.1];exact c8.k (k:=.inr "targets") (sh _ _ Sj)),p2,LT,_,_,rfl,rfl,eh,sh _ _ Tj,sz (by rw[Ky,Ky,Kz];show 3+(3+ps.length)<=1000;omega),λLN hLN=>?_⟩;rw[show nV N [3,4,5]++nV N ([7,8,9]++ps)=nV N ([3,4,5]++([7,8,9]++ps)) by simp];obtain⟨si,ei⟩:=alc hLN (HO.lst (nV N ([3,4,5]++([7,8,9]++ps))));generalize upd Hh LN _=Hi at si ei⊢;have Rj:=gj.o _ _ (nS1 _ RS) Rg;have NS:LN≠S:=UW hLN (sh _ _ Sj);have NR:LN≠LR:=UW hLN (sh _ _ Rj);have shi:=sh.trans si;refine⟨_,cP.k (k:=.inr "numbers") (shi _ _ Sj) (az (by have:=(fin LT LT).1;omega)),J8 _ _ ?_⟩;have gk:Go [S] Hg [S] (upd Hi S (.dK (UZ (UZ kvs (.inr "targets") (.ref LT)) (.inr "numbers") (.ref LN)))):=gj.trans ((Go.new shi).trans (Go.at Kv _));have Sk:upd Hi S (.dK (UZ (UZ kvs (.inr "targets") (.ref LT)) (.inr "numbers") (.ref LN))) S=UT (.dK (UZ (UZ kvs (.inr "targets") (.ref LT)) (.inr "numbers") (.ref LN))):=ak;have Tk:=ag (u:=.dK (UZ (UZ kvs (.inr "targets") (.ref LT)) (.inr "numbers") (.ref LN))) TS (shi _ _ Tj);have Nk:=ag (u:=.dK (UZ (UZ kvs (.inr "targets") (.ref LT)) (.inr "numbers") (.ref LN))) NS ei;generalize upd Hi S (.dK (UZ (UZ kvs (.inr "targets") (.ref LT)) (.inr "numbers") (.ref LN)))=Hk at gk Sk Tk Nk⊢;clear sh eh si ei shi hLN hp2 gj Sj Tj Rj;try dsimp only
  refine ah λN9 J9=>⟨c,6-i,5,(congrArg (λx:Int=>[V.int c,V.int x,V.int 5]) (show 6-(0+(i:Int))=((6-i:Nat):Int) by omega)),(),∅,λmany Hl y0 y1 sl=>J9 _ _ ?_⟩;have kl:∀(x:OM)(o:HO),x≠S->x≠LR->x≠LV->Hc x=UT o->Hl x=UT o:=λx o h1 h2 h3 e=>sl _ _ (gk.o _ _ (nS1 _ h1) (gg.o _ _ (λm=>by
   simp only[Ku,KD,or_false]at m;rcases m with m|m|m
   ·exact h1 m
   ·exact h2 m
   exact h3 m) e))
  have kn:∀(x:OM)(o:HO),x≠LR->(∀y,o≠ .dK y)->Hc x=UT o->Hl x=UT o:=λx o h1 nd e=>kl x o (λy=>by rw[y,eS]at e;exact nd _ (OS e).symm) h1 (λy=>by rw[y,B.hV]at e;exact nd _ (OS e).symm) e;have gl:Go [S,LR,LV] Hc [S,LR,LV] Hl:=⟨λx o m e=>by
   simp only[Ku,KD,or_false,not_or]at m;exact kl x o m.1 m.2.1 m.2.2 e,λ_ m=>.inl m⟩
  have hc':aq H Hl:=λx o e=>kl x o (λy=>by rw[y,S0]at e;cases e) (λy=>by rw[y,LR0]at e;cases e) (λy=>by rw[y,V0]at e;cases e) (kc _ _ e);have Sl:=sl _ _ Sk;have Rl:=sl _ _ (gk.o _ _ (nS1 _ RS) Rg);have Vl:=sl _ _ (gk.o _ _ (nS1 _ VS) Vg);have pL:=sl _ _ (gk.o _ _ (nS1 _ lpS) pg);have tL:=sl _ _ (gk.o _ _ (nS1 _ tdS) tg);have Tl:=sl _ _ Tk;have Nl:=sl _ _ Nk;clear gk sl gg Sk Rg Vg pg tg Tk Nk Sg ng;try dsimp only
  refine ah λN10 J10=>⟨_,rfl,_,rfl,KJ ⟨a,_,rfl,hc'.seq hA,λcl hcl=>?_⟩⟩;obtain⟨cs,ecs,lcs⟩:=tu (ns:=ns) at0 y0;rw[ecs];obtain⟨sm,em⟩:=alc hcl (HO.lst (cs.map V.int));generalize upd Hl cl _=Hm at sm em⊢;have clR:cl≠LR:=UW hcl Rl;clear hcl;have lenR:=OU B.hr;have n2:∀x,x≠S->x≠LR->x∉[S,LR]:=λx h1 h2 m=>by
   simp only[Ku,KD,or_false]at m;rcases m with m|m
   ·exact h1 m
   exact h2 m
  have nS:∀(x:OM)(o:HO),(∀y,o≠ .dK y)->Hm x=UT o->x≠S:=λx o nd e y=>by
   rw[y,sm _ _ Sl]at e;exact nd _ (OS e).symm
  obtain⟨ts,hLDc,hts⟩:=B.hD;have LDm:=sm _ _ (kl _ _ DS RD.symm DV hLDc);obtain⟨g,hg⟩:∃g:Gc,g=⟨N,S,LR,LV,LD,LH,LL,LT,LN,mode,ev,vk2,vw2,[7,8,9]++ps,[3,4,5]++([7,8,9]++ps),dls,lim/4,rot t (cy rk z)++dR dls bss++[.fU (13+3*i) ps],r⟩:=⟨_,rfl⟩;have dn:∀k,k<=4->((O2 k).map λj=>13+3*j).Nodup:=∅
  have dvk:∀e∈dls,e.nm∈vk2/\∀p∈e.ps,p∈vk2:=λe m=>⟨ok2 _ (ok1 _ (B.vd e m).1),λp hp=>ok2 _ (ok1 _ ((B.vd e m).2 p hp))⟩;have tv:∀j∈[7,8,9]++ps,j∈vk2:=λj hj=>by
   rcases KA.mp hj with h|h
   ·refine V2.h j ?_;simp only[Ku,KD,or_false]at h;omega
   exact pk2 j h
  have GO:jH g:=by
   rw[hg];refine⟨hev,D,λj hj=>⟨by have:=(V2.b j hj).1;omega,(V2.b j hj).2⟩,tv,λj hj=>?_,λj hj=>V2.h j ?_,(by show 9∈[7,8,9]++ps;simp),V2.v9,V2.v2,λe m=>?_,?_,B.dd.l4,(by show([7,8,9]++ps).length<=5;simp;omega),(by show([3,4,5]++([7,8,9]++ps)).length<=8;simp;omega),⟨r0,(by show r<=2;omega)⟩,?_⟩
   ·rcases KA.mp hj with h|h
    ·refine V2.h j ?_;simp only[Ku,KD,or_false]at h;omega
    exact tv j h
   ·simp only[Ku,KD,or_false]at hj;omega
   ·obtain⟨j,hj⟩:=Le m;obtain⟨k,hk,ek⟩:=B.dd.ps j e hj;have sp:=B.dd.sp e m;exact⟨(dvk e m).1,by rw[ek,MD];exact hk,sp.1,sp.2.2,(dvk e m).2⟩
   ·show(dls.map Dl.nm).Nodup;rw[B.dd.nm];exact dn _ B.dd.l4
   show(rot t (cy rk z)++dR dls bss++[Lr.fU (13+3*i) ps]).length<=500;rw[Kz,<-lenR];show rows.length+1<=500;omega
  have PA:BX g Hm lm marks (rows++[.ref td]):=by
   have fg:=(fin LT LN).2.2 g (by rw[hg]) (by rw[hg]) (by rw[hg]) (by rw[hg]) (by rw[hg]) (by rw[hg]) (by rw[hg]) (by rw[hg]) (by rw[hg]);refine⟨?_,?_,?_,?_,?_,?_,B.mks,B.ml⟩
   ·rw[show g.S=S by rw[hg]];rcases fg with h|⟨x,y,z,h⟩
    ·exact .inl (by rw[<-h];exact sm _ _ Sl)
    exact .inr ⟨x,y,z,by rw[<-h];exact sm _ _ Sl⟩
   ·rw[hg];exact sm _ _ Rl
   ·rw[hg];exact RS.symm
   ·rw[hg];have lst:∀(x:OM)(xs:List V),x≠LR->Hm x=UT (.lst xs)->del [S,LR] Hm x=UT (.lst xs):=λx xs h e=>aN (n2 _ (nS x _ eJ e) h) e;refine⟨aN (n2 _ VS RV.symm) (sm _ _ Vl),⟨ts,aN (n2 _ DS RD.symm) LDm,λe m=>?_⟩,lst _ _ B.ne.1 (sm _ _ (kn _ _ B.ne.1 eJ B.hH)),lst _ _ B.ne.2.1 (sm _ _ (kn _ _ B.ne.2.1 eJ B.hL)),lst _ _ TR (sm _ _ Tl),lst _ _ NR (sm _ _ Nl)⟩;obtain⟨⟨h1,h2⟩,h3,h4⟩:=hts e m;have h2':=sm _ _ (kn _ _ h1 qw h2);exact⟨aN (n2 _ (nS _ _ qw h2') h1) h2',lst _ _ h3 (sm _ _ (kn _ _ h3 eJ h4))⟩
   ·rw[hg];have h:=sm _ _ (kn _ _ B.ne.2.2 eJ B.hm);exact aN (n2 _ (nS _ _ eJ h) B.ne.2.2) h
   rw[hg];refine Pb ⟨td,lp,rfl,aN (n2 _ tdS tdR) (sm _ _ tL),λo ho=>?_⟩ (Paired.cR B.hr λv h l=>l.but λx o e nd=>?_)
   ·obtain⟨m,e⟩:=bq e;have xR:x≠LR:=λy=>m (by rw[y];exact Kv);have h:=sm _ _ (kn _ _ xR nd e);exact aN (n2 _ (nS _ _ nd h) xR) h
   cases ho;exact aN (n2 _ lpS lpR) (sm _ _ pL)
  refine⟨⟨∅,∅⟩,g,cl,lm,cs,marks,rows++[.ref td],(by rw[hg];rfl),GO,PA,em,(by rw[hg];exact clR),(),λd rows' Hn gn E fl=>?_⟩;rw[show g.S=S by rw[hg],show g.LR=LR by rw[hg]]at gn;have ES:Hn S=UT (.dK (stK g d)):=by
   have:=E.hS;rw[show g.S=S by rw[hg]]at this;exact this
  have ER:Hn LR=UT (.lst rows'):=by
   have:=E.hR;rw[show g.LR=LR by rw[hg]]at this;exact this
  have Em:=E.hm;have Er:=E.hr;rw[show g.S=S by rw[hg],show g.LR=LR by rw[hg],show g.N=N by rw[hg]]at Em Er;have Ln:=gn.o _ _ (n2 _ DS RD.symm) LDm;refine J10 _ _ ?_;try dsimp only
  refine ah λN11 J11=>dgk ES rfl (dgk ES rfl (lix (SqL.of E.hO) (d6 (j:=0) rfl) (dgk E.h0 rfl ⟨by show 3<=sizeLine;decide,λt2 ht2=>?_⟩)));have t2S:t2≠S:=UW ht2 ES;have t2R:t2≠LR:=UW ht2 ER;have t2D:t2≠LD:=UW ht2 Ln;have gD:c8 (upd Hn t2 (.tup [.ref lp,.int d.spent,.int d.bc])) S (.str "deeds") (UT (.ref g.LD)):=c8.k (k:=.inr "deeds") (ag t2S.symm ES);rw[show g.LD=LD by rw[hg]]at gD;refine⟨_,gD,_,cP.k (k:=.inr (N (13+3*i))) (ag t2D.symm Ln) (az (by rw[fj,Ky];omega)),J11 _ _ ?_⟩;have nm':(13+3*i)∉dls.map Dl.nm:=λm=>by
   rw[B.dd.nm,dl]at m;obtain⟨j,hj,e⟩:=KU.mp m;have:=Lu.mp hj;omega
  rw[iC D () (λj hj=>by
   obtain⟨e,he,rfl⟩:=KU.mp hj;have:=(W0.b _ (B.vd e he).1).1;omega) nm']
  obtain⟨tz,htz⟩:∃tz:Nat->OM,tz=λj=>if j=13+3*i then t2 else ts j:=⟨_,rfl⟩
  rw[show mZ (λj=>V.ref (ts j)) (13+3*i) (.ref t2)=λj=>V.ref (tz j)from funext λj=>by rw[htz];unfold mZ;dsimp only;split<;>rfl];obtain⟨dl',hdl'⟩:∃dl':Dl,dl'=⟨13+3*i,ps,d.spent,d.bc,lp⟩:=⟨_,rfl⟩;rw[show dls.map Dl.nm++[13+3*i]=(dls++[dl']).map Dl.nm by rw[hdl'];simp];have tl':tz (13+3*i)=t2:=by rw[htz];exact if_pos rfl
  have to':∀e∈dls,tz e.nm=ts e.nm:=λe m=>by
   rw[htz];exact if_neg λy=>nm' (by rw[<-y];exact Mx m)
  have kz:∀(x:OM)(o:HO),x≠LR->(∀y,o≠ .dK y)->Hn x=UT o->upd (upd Hn t2 (.tup [.ref lp,.int d.spent,.int d.bc])) LD (.dK (dk N ((dls++[dl']).map Dl.nm) λj=>.ref (tz j))) x=UT o:=λx o _ nd e=>ag (λy=>by rw[y,Ln]at e;exact nd _ (OS e).symm) (ag (λy=>by rw[y,ht2]at e;cases e) e);have kn2:∀(x:OM)(o:HO),x≠LR->(∀y,o≠ .dK y)->Hc x=UT o->upd (upd Hn t2 (.tup [.ref lp,.int d.spent,.int d.bc])) LD (.dK (dk N ((dls++[dl']).map Dl.nm) λj=>.ref (tz j))) x=UT o:=λx o h nd e=>by
   have h1:=sm _ _ (kn x o h nd e);exact kz x o h nd (gn.o _ _ (n2 _ (nS _ _ nd h1) h) h1)
  have lpn:=gn.o _ _ (n2 _ lpS lpR) (sm _ _ pL);have gz:Go [S,LR,LV,LD] Hc [S,LR,LV,LD] (upd (upd Hn t2 (.tup [.ref lp,.int d.spent,.int d.bc])) LD (.dK (dk N ((dls++[dl']).map Dl.nm) λj=>.ref (tz j)))):=by
   have w1:Go [S,LR,LV,LD] Hc [S,LR,LV,LD] Hl:=⟨λx o m e=>by
    simp only[Ku,KD,or_false,not_or]at m;exact kl x o m.1 m.2.1 m.2.2.1 e,λ_ m=>.inl m⟩
   have w2:Go [S,LR,LV,LD] Hm [S,LR,LV,LD] Hn:=⟨λx o m e=>by
    simp only[Ku,KD,or_false,not_or]at m;exact gn.o x o (n2 _ m.1 m.2.1) e,λ_ m=>.inl m⟩
   exact(((w1.trans (Go.new sm)).trans w2).trans (Go.new (aq.upd ht2 _))).trans (Go.at (by simp) _)
  have pre':g.pre++bf d.bs++[.fin]=rot t (cy rk z)++dR (dls++[dl']) (bss++[d.bs]):=by
   rw[pq _ _ B.dd.len,hg,hdl'];simp
  rw[pre']at Er;have lenE:=OU Er;rw[pq _ _ B.dd.len,<-Li,Kz,<-lenR]at lenE;have dmR:d.lm≠LR:=λy=>(bq Em).1 (by rw[y];simp);have Bn:Bt N S LR LV LD d.lm LH LL mode ev (lim/4) (upd (upd Hn t2 (.tup [.ref lp,.int d.spent,.int d.bc])) LD (.dK (dk N ((dls++[dl']).map Dl.nm) λj=>.ref (tz j)))) (rot t (cy rk z)) rows' (dls++[dl']) (bss++[d.bs]) d.marks vk2 vw2:=by
   refine⟨.inr ⟨.ref LT,.ref LN,.ref d.lo,.int d.spent,.int (lim/4),?_⟩,ag RD (ag t2R.symm ER),ag DV.symm (ag (UW ht2 (gn.o _ _ (n2 _ VS RV.symm) (sm _ _ Vl))).symm (gn.o _ _ (n2 _ VS RV.symm) (sm _ _ Vl))),⟨tz,ak,λe m=>?_⟩,kn2 _ _ B.ne.1 eJ B.hH,kn2 _ _ B.ne.2.1 eJ B.hL,kz _ _ dmR eJ (bq Em).2,Paired.cR Er λv h l=>l.but λx o e nd=>?_,⟨B.ne.1,B.ne.2.1,dmR⟩,E.mks,E.ml,?_,λe m=>?_⟩
   ·have h:=ag (u:=.dK (dk N ((dls++[dl']).map Dl.nm) λj=>.ref (tz j))) DS.symm (ag (u:=.tup [.ref lp,.int d.spent,.int d.bc]) t2S.symm ES);rw[hg]at h;exact h
   ·rcases KA.mp m with m|m
    ·obtain⟨⟨h1,h2⟩,h3,h4⟩:=hts e m;rw[to' e m];exact⟨⟨h1,kn2 _ _ h1 qw h2⟩,h3,kn2 _ _ h3 eJ h4⟩
    rw[KC.mp m,show dl'.nm=13+3*i by rw[hdl'],show dl'.lp=lp by rw[hdl'],show dl'.sp=d.spent by rw[hdl'],show dl'.co=d.bc by rw[hdl'],show dl'.ps=ps by rw[hdl'],tl'];exact⟨⟨t2R,ag t2D ak⟩,lpR,kz _ _ lpR eJ lpn⟩
   ·obtain⟨m,e⟩:=bq e;have xR:x≠LR:=λy=>m (by rw[y];simp);exact aN (λy=>xR (KC.mp y)) (kz _ _ xR nd e)
   ·have ebs:=E.bs;have esp:=E.sp;have epy:=E.pay;rw[hg]at ebs esp epy;exact B.dd.add () (by rw[hdl',dl]) ⟨m,(),by rw[hdl',dl];exact hps⟩ (by rw[hdl'];exact⟨esp.1,esp.2,E.bc⟩) (by rw[hdl'];exact ebs) (by rw[hdl'];exact epy) E.dp
   rcases KA.mp m with m|m
   ·exact dvk e m
   rw[KC.mp m,hdl'];exact⟨ok2 _ nk,pk2⟩
  try dsimp only
  exact⟨d.lm,rows',dls++[dl'],bss++[d.bs],d.marks,vk2,vw2,at_+many,_,_,_,_,_,_,rfl,(),by simp[dl],gc.trans gz,Bn,V2,by simp at lenE;omega,()⟩
 rintro σ Hc ⟨lm,rows,dls,bss,marks,vk,vw,at_,v8,v9,v10,v11,v12,v13,rfl,at0,dl,gc,B,W0,rl,vl⟩;refine K7 _ _ ?_;have kc:aq H Hc:=gc.keep k9 fr0;have nc:=gc.o _ _ ln4 n9;obtain⟨kvs,eS,gv,gr,lk,fin⟩:=B.st;have GR:∀Hx:Hp,Hx S=UT (.dK kvs)->c8 Hx S (.str "rows") (UT (.ref LR)):=λHx e=>by rw[<-gr];exact c8.k (k:=.inr "rows") e
 have dl4:=B.dd.l4;try dsimp only
 refine ah λN6 J6=>⟨_,GR _ eS,KJ ⟨rfl,_,SqL.of B.hR⟩,by show 1<=sizeLine;decide,λtd htd=>?_⟩;have tdR:td≠LR:=UW htd B.hR;refine⟨_,_,_,rfl,rfl,ag tdR.symm B.hR,az (),J6 _ _ ?_⟩;have tdS:td≠S:=UW htd eS;have tdV:td≠LV:=UW htd B.hV;have gg:Go [S,LR,LV] Hc [S,LR,LV] (upd (upd Hc td (.tup [.str "main"])) LR (.lst (rows++[.ref td]))):=(Go.new (aq.upd htd _)).trans (Go.at (Kx _ Kv) _);have Sg:=ag (u:=.lst (rows++[.ref td])) RS.symm (ag (u:=.tup [.str "main"]) tdS.symm eS);have Rg:upd (upd Hc td (.tup [.str "main"])) LR (.lst (rows++[.ref td])) LR=UT (.lst (rows++[.ref td])):=ak;have Vg:=ag (u:=.lst (rows++[.ref td])) RV.symm (ag (u:=.tup [.str "main"]) tdV.symm B.hV);have ng:=ag (u:=.lst (rows++[.ref td])) lnR (ag (u:=.tup [.str "main"]) (UW htd nc).symm nc);have tg:upd (upd Hc td (.tup [.str "main"])) LR (.lst (rows++[.ref td])) td=UT (.tup [.str "main"]):=ag tdR ak;generalize upd (upd Hc td (.tup [.str "main"])) LR (.lst (rows++[.ref td]))=Hg at gg Sg Rg Vg ng tg⊢;clear htd;try dsimp only
 refine ah λN7 J7=>⟨_,rfl,_,rfl,KJ ⟨ln,_,rfl,SqL.of ng,λLT hLT=>?_⟩⟩;rw[show iy (nmL N) (UT 7) (UT 10)=nV N [7,8,9]from rfl];obtain⟨si,ei⟩:=alc hLT (HO.lst (nV N [7,8,9]));generalize upd Hg LT _=Hi at si ei⊢;have TS:LT≠S:=UW hLT Sg;have TR:LT≠LR:=UW hLT Rg;refine⟨_,cP.k (k:=.inr "targets") (si _ _ Sg) (az ()),?_⟩;have gj:Go [S] Hg [S] (upd Hi S (.dK (UZ kvs (.inr "targets") (.ref LT)))):=(Go.new si).trans (Go.at Kv _);have Sj:upd Hi S (.dK (UZ kvs (.inr "targets") (.ref LT))) S=UT (.dK (UZ kvs (.inr "targets") (.ref LT))):=ak;have Tj:=ag (u:=.dK (UZ kvs (.inr "targets") (.ref LT))) TS ei;generalize upd Hi S (.dK (UZ kvs (.inr "targets") (.ref LT)))=Hj at gj Sj Tj⊢;clear si ei hLT;have nS1:∀x:OM,x≠S->x∉[S]:=λx h m=>h (KC.mp m);refine J7 _ _ ?_;try dsimp only
 refine ah λN8 J8=>⟨_,rfl,_,rfl,KJ ⟨ln,_,rfl,SqL.of (gj.o _ _ (nS1 _ lnS) ng),λp2 hp2=>?_⟩⟩;rw[show iy (nmL N) (UT 3) (UT 6)=nV N [3,4,5]from rfl];obtain⟨sh,eh⟩:=alc hp2 (HO.lst (nV N [3,4,5]));generalize upd Hj p2 _=Hh at sh eh⊢;refine⟨.ref LT,(by rw[<-(fin LT LT).2.1];exact c8.k (k:=.inr "targets") (sh _ _ Sj)),p2,LT,_,_,rfl,rfl,eh,sh _ _ Tj,sz (by show 6<=1000;decide),λLN hLN=>?_⟩;rw[show nV N [3,4,5]++nV N [7,8,9]=nV N [3,4,5,7,8,9]from rfl];obtain⟨si,ei⟩:=alc hLN (HO.lst (nV N [3,4,5,7,8,9]));generalize upd Hh LN _=Hi at si ei⊢;have Rj:=gj.o _ _ (nS1 _ RS) Rg;have NS:LN≠S:=UW hLN (sh _ _ Sj);have NR:LN≠LR:=UW hLN (sh _ _ Rj);have shi:=sh.trans si;refine⟨_,cP.k (k:=.inr "numbers") (shi _ _ Sj) (az (by have:=(fin LT LT).1;omega)),?_⟩;have gk:Go [S] Hg [S] (upd Hi S (.dK (UZ (UZ kvs (.inr "targets") (.ref LT)) (.inr "numbers") (.ref LN)))):=gj.trans ((Go.new shi).trans (Go.at Kv _));have Sl:upd Hi S (.dK (UZ (UZ kvs (.inr "targets") (.ref LT)) (.inr "numbers") (.ref LN))) S=UT (.dK (UZ (UZ kvs (.inr "targets") (.ref LT)) (.inr "numbers") (.ref LN))):=ak;have Tl:=ag (u:=.dK (UZ (UZ kvs (.inr "targets") (.ref LT)) (.inr "numbers") (.ref LN))) TS (shi _ _ Tj);have Nl:=ag (u:=.dK (UZ (UZ kvs (.inr "targets") (.ref LT)) (.inr "numbers") (.ref LN))) NS ei;generalize upd Hi S (.dK (UZ (UZ kvs (.inr "targets") (.ref LT)) (.inr "numbers") (.ref LN)))=Hl at gk Sl Tl Nl⊢;clear sh eh si ei shi hLN hp2 gj Sj Tj Rj;have kl:∀(x:OM)(o:HO),x≠S->x≠LR->x≠LV->Hc x=UT o->Hl x=UT o:=λx o h1 h2 h3 e=>gk.o _ _ (nS1 _ h1) (gg.o _ _ (λm=>by
  simp only[Ku,KD,or_false]at m;rcases m with m|m|m
  ·exact h1 m
  ·exact h2 m
  exact h3 m) e)
 have kn:∀(x:OM)(o:HO),x≠LR->(∀y,o≠ .dK y)->Hc x=UT o->Hl x=UT o:=λx o h1 nd e=>kl x o (λy=>by rw[y,eS]at e;exact nd _ (OS e).symm) h1 (λy=>by rw[y,B.hV]at e;exact nd _ (OS e).symm) e;have hc':aq H Hl:=λx o e=>kl x o (λy=>by rw[y,S0]at e;cases e) (λy=>by rw[y,LR0]at e;cases e) (λy=>by rw[y,V0]at e;cases e) (kc _ _ e);have Rl:=gk.o _ _ (nS1 _ RS) Rg;have Vl:=gk.o _ _ (nS1 _ VS) Vg;have tL:=gk.o _ _ (nS1 _ tdS) tg;clear gk gg Rg Vg tg Sg ng;refine J8 _ _ ?_;try dsimp only
 refine ah λN10 J10=>⟨_,rfl,_,rfl,KJ ⟨a,_,rfl,hc'.seq hA,λcl hcl=>?_⟩⟩;obtain⟨cs,ecs,lcs⟩:=tu (ns:=ns) at0 (show(0:Int)<=40 by decide);rw[ecs];obtain⟨sm,em⟩:=alc hcl (HO.lst (cs.map V.int));generalize upd Hl cl _=Hm at sm em⊢;have clR:cl≠LR:=UW hcl Rl;clear hcl;have lenR:=OU B.hr;have n2:∀x,x≠S->x≠LR->x∉[S,LR]:=λx h1 h2 m=>by
  simp only[Ku,KD,or_false]at m;rcases m with m|m
  ·exact h1 m
  exact h2 m
 have nS:∀(x:OM)(o:HO),(∀y,o≠ .dK y)->Hm x=UT o->x≠S:=λx o nd e y=>by
  rw[y,sm _ _ Sl]at e;exact nd _ (OS e).symm
 obtain⟨ts,hLDc,hts⟩:=B.hD;have LDm:=sm _ _ (kl _ _ DS RD.symm DV hLDc);obtain⟨g,hg⟩:∃g:Gc,g=⟨N,S,LR,LV,LD,LH,LL,LT,LN,mode,ev,vk,vw,[7,8,9],[3,4,5,7,8,9],dls,lim,rot t (cy rk z)++dR dls bss++[.main],0⟩:=⟨_,rfl⟩;have dn:∀k,k<=4->((O2 k).map λj=>13+3*j).Nodup:=∅
 have low:∀(l:List Nat),(∀x∈l,x<13)->∀j∈l,j∈vk:=λl h j hj=>W0.h j (h j hj);have GO:jH g:=by
  rw[hg];refine⟨hev,D,λj hj=>⟨by have:=(W0.b j hj).1;omega,(W0.b j hj).2⟩,low [7,8,9] ∅,low [3,4,5,7,8,9] ∅,low [0,1,2,6,10,11,12] ∅,(by show 9∈[7,8,9];decide),W0.v9,W0.v2,λe m=>?_,?_,B.dd.l4,(by show 3<=5;decide),(by show 6<=8;decide),⟨(by show(0:Int)<=0;decide),(by show(0:Int)<=2;decide)⟩,?_⟩
  ·obtain⟨j,hj⟩:=Le m;obtain⟨k,hk,ek⟩:=B.dd.ps j e hj;have sp:=B.dd.sp e m;exact⟨(B.vd e m).1,by rw[ek,MD];exact hk,sp.1,sp.2.2,(B.vd e m).2⟩
  ·show(dls.map Dl.nm).Nodup;rw[B.dd.nm];exact dn _ B.dd.l4
  show(rot t (cy rk z)++dR dls bss++[Lr.main]).length<=500;rw[Kz,<-lenR];show rows.length+1<=500;omega
 have PA:BX g Hm lm marks (rows++[.ref td]):=by
  have fg:=(fin LT LN).2.2 g (by rw[hg]) (by rw[hg]) (by rw[hg]) (by rw[hg]) (by rw[hg]) (by rw[hg]) (by rw[hg]) (by rw[hg]) (by rw[hg]);refine⟨?_,?_,?_,?_,?_,?_,B.mks,B.ml⟩
  ·rw[show g.S=S by rw[hg]];rcases fg with h|⟨x,y,z,h⟩
   ·exact .inl (by rw[<-h];exact sm _ _ Sl)
   exact .inr ⟨x,y,z,by rw[<-h];exact sm _ _ Sl⟩
  ·rw[hg];exact sm _ _ Rl
  ·rw[hg];exact RS.symm
  ·rw[hg];have lst:∀(x:OM)(xs:List V),x≠LR->Hm x=UT (.lst xs)->del [S,LR] Hm x=UT (.lst xs):=λx xs h e=>aN (n2 _ (nS x _ eJ e) h) e;refine⟨aN (n2 _ VS RV.symm) (sm _ _ Vl),⟨ts,aN (n2 _ DS RD.symm) LDm,λe m=>?_⟩,lst _ _ B.ne.1 (sm _ _ (kn _ _ B.ne.1 eJ B.hH)),lst _ _ B.ne.2.1 (sm _ _ (kn _ _ B.ne.2.1 eJ B.hL)),lst _ _ TR (sm _ _ Tl),lst _ _ NR (sm _ _ Nl)⟩;obtain⟨⟨h1,h2⟩,h3,h4⟩:=hts e m;have h2':=sm _ _ (kn _ _ h1 qw h2);exact⟨aN (n2 _ (nS _ _ qw h2') h1) h2',lst _ _ h3 (sm _ _ (kn _ _ h3 eJ h4))⟩
  ·rw[hg];have h:=sm _ _ (kn _ _ B.ne.2.2 eJ B.hm);exact aN (n2 _ (nS _ _ eJ h) B.ne.2.2) h
  rw[hg];refine Pb ⟨td,td,rfl,aN (n2 _ tdS tdR) (sm _ _ tL),λo ho=>by cases ho⟩ (Paired.cR B.hr λv h l=>l.but λx o e nd=>?_);obtain⟨m,e⟩:=bq e;have xR:x≠LR:=λy=>m (by rw[y];exact Kv);have h:=sm _ _ (kn _ _ xR nd e);exact aN (n2 _ (nS _ _ nd h) xR) h
 refine⟨g,cl,lm,cs,marks,rows++[.ref td],(by rw[hg];rfl),GO,PA,em,(by rw[hg];exact clR),(),λd rows' Hn gn E fl=>?_⟩;rw[show g.S=S by rw[hg],show g.LR=LR by rw[hg]]at gn;have ES:Hn S=UT (.dK (stK g d)):=by
  have:=E.hS;rw[show g.S=S by rw[hg]]at this;exact this
 have ER:Hn LR=UT (.lst rows'):=by
  have:=E.hR;rw[show g.LR=LR by rw[hg]]at this;exact this
 have Er:=E.hr;rw[show g.S=S by rw[hg],show g.LR=LR by rw[hg],show g.N=N by rw[hg]]at Er;have pre':g.pre++bf d.bs++[.fin]=rot t (cy rk z)++dR dls bss++(.main::(bf d.bs++[.fin])):=by
  rw[hg];simp
 have kn':aq H Hn:=λx o e=>gn.o _ _ (n2 _ (λy=>by rw[y,S0]at e;cases e) (λy=>by rw[y,LR0]at e;cases e)) (sm _ _ (hc' _ _ e));rw[pre']at Er;have gR:c8 Hn S (.str "rows") (UT (.ref g.LR)):=c8.k (k:=.inr "rows") ES;rw[show g.LR=LR by rw[hg]]at gR;refine J10 _ _ ?_;try dsimp only
 refine⟨_,gR,?_⟩;have ebs:=E.bs;have esp:=E.sp;have epy:=E.pay;rw[hg]at ebs esp epy;refine q LR rows' _ rk z t dls bss d.bs Hn kn' LR0 ER (Paired.cR Er λv h l=>l.same λx o e=>?_) ⟨rfl,hrk,⟨z1,z4⟩,B.dd,ebs,?_,λe=>⟨d.spent,epy e,esp.2⟩,E.dp⟩
 ·obtain⟨m,e⟩:=bq e;exact aN (λy=>m (by rw[KC.mp y];simp)) e
 rw[Kz,<-lenR];simp;omega
theorem aP{a b:Str}(h:decide (V.str a=V.str b)=true):a=b:=V.str.inj (of_decide_eq_true h)
theorem dw{a b:Str}(h:¬ decide (V.str a=V.str b)=true):a≠b:=λe=>h (decide_eq_true (by rw[e]))
def yN(A:Adr)(N:Nat->Str)(X:Hp)(v:V)(n:Int):Lr->Prop
 | .hand i r=>∃a dx,v=.ref a/\X a=UT (.ins A.bJ dx [("number",.int n),("name",.str (N i)),("rank",.int r)])
 | .giv i r z=>∃a dx,v=.ref a/\X a=UT (.ins A.aX dx [("number",.int n),("name",.str (N i)),("rank",.int r),("size",.int z)])
 | .own i z=>∃a dx,v=.ref a/\X a=UT (.ins A.bG dx [("number",.int n),("name",.str (N i)),("size",.int z)])
 | .lt i r=>∃a dx,v=.ref a/\X a=UT (.ins A.cu dx [("number",.int n),("name",.str (N i)),("rank",.int r)])
 | .set x val=>∃a dx p,v=.ref a/\X a=UT (.ins A.cB dx [("number",.int n),("name",.str (N x)),("value",.ref p)])/\X p=UT (.tup (vV N val))
 | .put x pl val=>∃a dx p,v=.ref a/\X a=UT (.ins A.bW dx [("number",.int n),("name",.str (N x)),("place",pl.v N),("value",.ref p)])/\X p=UT (.tup (vV N val))
 | .snd h val=>∃a dx p,v=.ref a/\X a=UT (.ins A.bp dx [("number",.int n),("name",.str (N h)),("value",.ref p)])/\X p=UT (.tup (vV N val))
 | .say x val m=>∃a dx p,v=.ref a/\X a=UT (.ins A.bK dx [("number",.int n),("name",.str (N x)),("value",.ref p),("mark",.str (N m))])/\X p=UT (.tup (vV N val))
 | .call i ts=>∃a dx p,v=.ref a/\X a=UT (.ins A.bL dx [("number",.int n),("name",.str (N i)),("things",.ref p)])/\X p=UT (.lst (ts.map (Th.v N)))
 | .last=>∃a dx,v=.ref a/\X a=UT (.ins A.cO dx [("number",.int n)])
 |_=>False
theorem yN.same{X X':Hp}(s:aq X X'){v:V}{n:Int}{r:Lr}(h:yN A N X v n r):yN A N X' v n r:=by
 cases r with
 |hand i r=>obtain⟨a,dx,e,h1⟩:=h;exact⟨a,dx,e,s _ _ h1⟩
 |giv i r z=>obtain⟨a,dx,e,h1⟩:=h;exact⟨a,dx,e,s _ _ h1⟩
 |own i z=>obtain⟨a,dx,e,h1⟩:=h;exact⟨a,dx,e,s _ _ h1⟩
 |lt i r=>obtain⟨a,dx,e,h1⟩:=h;exact⟨a,dx,e,s _ _ h1⟩
 |set x val=>obtain⟨a,dx,p,e,h1,h2⟩:=h;exact⟨a,dx,p,e,s _ _ h1,s _ _ h2⟩
 |put x pl val=>obtain⟨a,dx,p,e,h1,h2⟩:=h;exact⟨a,dx,p,e,s _ _ h1,s _ _ h2⟩
 |snd h val=>obtain⟨a,dx,p,e,h1,h2⟩:=h;exact⟨a,dx,p,e,s _ _ h1,s _ _ h2⟩
 |say x val m=>obtain⟨a,dx,p,e,h1,h2⟩:=h;exact⟨a,dx,p,e,s _ _ h1,s _ _ h2⟩
 |call i ts=>obtain⟨a,dx,p,e,h1,h2⟩:=h;exact⟨a,dx,p,e,s _ _ h1,s _ _ h2⟩
 |last=>obtain⟨a,dx,e,h1⟩:=h;exact⟨a,dx,e,s _ _ h1⟩
 |_=>exact h.elim
theorem xY{H:Hp}{x dx:OM}{R:VK}{v0:V}(T:Txt K mg A)(hx:H x=UU)(hd:H dx=UU)(q:∀(H':Hp),aq H H'->H' x=UT (.ins A.cO dx [("number",v0)])->R .non H'):js K A (.ref x::([v0]++[])) (upd (upd H dx (.own x)) x (.ins A.cO dx [])) R E0:=
 ⟨x,A.cO,dx,[],_,rfl,ak,T.aV.cl,T.fT,∅,q _ (aq.out (aq.out (aq.upd hd _) hx _) hx _) ak⟩
def Lr.mj:Lr->Bool
 | .iff _ _ _=>false| .loop _ _ _ _=>false| .els=>false| .fin=>false| .fU _ _=>false| .main=>false
 |_=>true
inductive oJ(A:Adr)(vs:List V)(H:Hp)(Q:VK)(Z:XK):Prop
 |mk(N:Nat->Str)(M:List OM)(n:Int)(v:V)(r:Lr):vs=[.int n,v]->bZ N (del M H) v r->r.mj=true->(∀m∈M,H m≠UU)->(∀(a:OM)(H':Hp),aq H H'->H a=UU->yN A N (del M H') (.ref a) n r->Q (.ref a) H')->oJ A vs H Q Z
theorem wZ(T:Txt K mg A):Has P w K mg base 5 "_law_plain_row" ["_law_number_here","_law_row"] (oJ A):=by
 have N4:=@qS P w _ _ base _ T;have N0:=@pV P w _ _ base _ T;have Oc:=@sL P w _ _ base _ T;have Od:=@sr P w _ _ base _ T;have Oe:=@sv P w _ _ base _ T;have Of:=@sA P w _ _ base _ T;have N5:=@qD P w _ _ base _ T;have Og:=@sI P w _ _ base _ T;have N6:=@rN P w _ _ base _ T;have N7:=nE (P:=P) (w:=w) (mg:=mg) (base:=base) (A:=A) T.lM;refine T.nA.has (k:=4) j7 (λvs H Q E h=>?_) (λf cdv A' outer s H vs Q E' hr hu h=>?_)
 ·obtain⟨N,M,n,v,r,rfl,_⟩:=h;rfl
 obtain⟨N,M,n,v,r,rfl,⟨t,p,rfl,et0,ep⟩,fb,hM,q⟩:=h;have et:=(bq et0).2;have nw:∀{x:OM}{o:HO}{H':Hp},H x=UU->H' x=UT o->del M H' x=UT o:=λ{x o H'} h e=>aN (λm=>hM x m h) e;have od:∀{x:OM}{o:HO}{H':Hp},aq H H'->del M H x=UT o->del M H' x=UT o:=λ{x o H'} z e=>aN (bq e).1 (z _ _ (bq e).2);have et':=SqT.of (K:=K) et;refine⟨_,(ae (pst 2 j7.nd (px hu (fv 1) ab))
 (ae (aM (ptc (bj hu) (fv 2) ao)
  (aj (aA (cN T.bP N4 hr (fv 0^px hu (fv 1) ab^px hu (fv 1) ab^af))))
  aC)
 (ae (aM (ptc (bj hu) (fv 2) ao)
  (aj (aA (cN T.aW N0 hr (fv 0^px hu (fv 1) ab^px hu (fv 1) ab^px hu (fv 1) ab^af))))
  aC)
 (ae (aM (ptc (bj hu) (fv 2) ao)
  (aj (aA (cN T.bh Oc hr (fv 0^px hu (fv 1) ab^px hu (fv 1) ab^af))))
  aC)
 (ae (aM (ptc (bj hu) (fv 2) ao)
  (aj (aA (cN T.cm Od hr (fv 0^px hu (fv 1) ab^px hu (fv 1) ab^af))))
  aC)
 (ae (aM (ptc (bj hu) (fv 2) ao)
  (aj (aA (cN T.bM Oe hr (fv 0^px hu (fv 1) ab^px hu (fv 1) ab^af))))
  aC)
 (ae (aM (ptc (bj hu) (fv 2) ao)
  (aj (aA (cN T.bE Of hr (fv 0^px hu (fv 1) ab^px hu (fv 1) ab^px hu (fv 1) ab^af))))
  aC)
 (ae (aM (ptc (bj hu) (fv 2) ao)
  (aj (aA (cN T.aQ N5 hr (fv 0^px hu (fv 1) ab^px hu (fv 1) ab^af))))
  aC)
 (ae (aM (ptc (bj hu) (fv 2) ao)
  (aj (aA (cN T.aU Og hr (fv 0^px hu (fv 1) ab^px hu (fv 1) ab^px hu (fv 1) ab^af))))
  aC)
 (ae (aM (ptc (bj hu) (fv 2) ao)
  (aj (aA (cN T.aZ N6 hr (fv 0^px hu (fv 1) ab^pcT qm T.dY (px hu (fv 1) ab^af)^af))))
  aC)
 (aj (aA (cN T.aV N7 hr (fv 0^af)))))))))))))),?_⟩
 refine ah λM0 K0=>tix (j:=0) et' rfl (K0 _ _ ?_);clear K0 M0;try dsimp only
 cases r with
 |hand i r=>
  refine ah λM1 K1=>⟨rfl,_,rfl,aE (λ_=>?_) (λz=>absurd rfl (dw z))⟩;exact tix (j:=1) et' rfl (tix (j:=2) et' rfl (λr6 dx hr6 hd_ hne_=>xX hr6 hd_ λH6 s6 hx=>⟨rfl,q r6 H6 s6 hr6 ⟨r6,dx,rfl,nw hr6 hx⟩⟩))
 |giv i r z=>
  refine ah λM1 K1=>⟨rfl,_,rfl,aE (λz=>absurd (aP z) (show ¬ ("given":Str)="hand" by decide)) (λ_=>K1 _ _ ?_)⟩;clear K1 M1;try dsimp only
  refine ah λM2 K2=>⟨rfl,_,rfl,aE (λ_=>?_) (λz=>absurd rfl (dw z))⟩;exact tix (j:=1) et' rfl (tix (j:=2) et' rfl (tix (j:=3) et' rfl (λr6 dx hr6 hd_ hne_=>vL hr6 hd_ λH6 s6 hx=>⟨rfl,q r6 H6 s6 hr6 ⟨r6,dx,rfl,nw hr6 hx⟩⟩)))
 |own i z=>
  refine ah λM1 K1=>⟨rfl,_,rfl,aE (λz=>absurd (aP z) (show ¬ ("own":Str)="hand" by decide)) (λ_=>K1 _ _ ?_)⟩;clear K1 M1;try dsimp only
  refine ah λM2 K2=>⟨rfl,_,rfl,aE (λz=>absurd (aP z) (show ¬ ("own":Str)="given" by decide)) (λ_=>K2 _ _ ?_)⟩;clear K2 M2;try dsimp only
  refine ah λM3 K3=>⟨rfl,_,rfl,aE (λ_=>?_) (λz=>absurd rfl (dw z))⟩;exact tix (j:=1) et' rfl (tix (j:=2) et' rfl (λr6 dx hr6 hd_ hne_=>A0 hr6 hd_ λH6 s6 hx=>⟨rfl,q r6 H6 s6 hr6 ⟨r6,dx,rfl,nw hr6 hx⟩⟩))
 |lt i r=>
  refine ah λM1 K1=>⟨rfl,_,rfl,aE (λz=>absurd (aP z) (show ¬ ("let":Str)="hand" by decide)) (λ_=>K1 _ _ ?_)⟩;clear K1 M1;try dsimp only
  refine ah λM2 K2=>⟨rfl,_,rfl,aE (λz=>absurd (aP z) (show ¬ ("let":Str)="given" by decide)) (λ_=>K2 _ _ ?_)⟩;clear K2 M2;try dsimp only
  refine ah λM3 K3=>⟨rfl,_,rfl,aE (λz=>absurd (aP z) (show ¬ ("let":Str)="own" by decide)) (λ_=>K3 _ _ ?_)⟩;clear K3 M3;try dsimp only
  refine ah λM4 K4=>⟨rfl,_,rfl,aE (λ_=>?_) (λz=>absurd rfl (dw z))⟩;exact tix (j:=1) et' rfl (tix (j:=2) et' rfl (λr6 dx hr6 hd_ hne_=>Ay hr6 hd_ λH6 s6 hx=>⟨rfl,q r6 H6 s6 hr6 ⟨r6,dx,rfl,nw hr6 hx⟩⟩))
 |set x val=>
  refine ah λM1 K1=>⟨rfl,_,rfl,aE (λz=>absurd (aP z) (show ¬ ("set":Str)="hand" by decide)) (λ_=>K1 _ _ ?_)⟩;clear K1 M1;try dsimp only
  refine ah λM2 K2=>⟨rfl,_,rfl,aE (λz=>absurd (aP z) (show ¬ ("set":Str)="given" by decide)) (λ_=>K2 _ _ ?_)⟩;clear K2 M2;try dsimp only
  refine ah λM3 K3=>⟨rfl,_,rfl,aE (λz=>absurd (aP z) (show ¬ ("set":Str)="own" by decide)) (λ_=>K3 _ _ ?_)⟩;clear K3 M3;try dsimp only
  refine ah λM4 K4=>⟨rfl,_,rfl,aE (λz=>absurd (aP z) (show ¬ ("set":Str)="let" by decide)) (λ_=>K4 _ _ ?_)⟩;clear K4 M4;try dsimp only
  refine ah λM5 K5=>⟨rfl,_,rfl,aE (λ_=>?_) (λz=>absurd rfl (dw z))⟩;exact tix (j:=1) et' rfl (tix (j:=2) et' rfl (λr6 dx hr6 hd_ hne_=>Aw hr6 hd_ λH6 s6 hx=>⟨rfl,q r6 H6 s6 hr6 ⟨r6,dx,p,rfl,nw hr6 hx,od s6 (ep _ rfl)⟩⟩))
 |put x pl val=>
  refine ah λM1 K1=>⟨rfl,_,rfl,aE (λz=>absurd (aP z) (show ¬ ("put":Str)="hand" by decide)) (λ_=>K1 _ _ ?_)⟩;clear K1 M1;try dsimp only
  refine ah λM2 K2=>⟨rfl,_,rfl,aE (λz=>absurd (aP z) (show ¬ ("put":Str)="given" by decide)) (λ_=>K2 _ _ ?_)⟩;clear K2 M2;try dsimp only
  refine ah λM3 K3=>⟨rfl,_,rfl,aE (λz=>absurd (aP z) (show ¬ ("put":Str)="own" by decide)) (λ_=>K3 _ _ ?_)⟩;clear K3 M3;try dsimp only
  refine ah λM4 K4=>⟨rfl,_,rfl,aE (λz=>absurd (aP z) (show ¬ ("put":Str)="let" by decide)) (λ_=>K4 _ _ ?_)⟩;clear K4 M4;try dsimp only
  refine ah λM5 K5=>⟨rfl,_,rfl,aE (λz=>absurd (aP z) (show ¬ ("put":Str)="set" by decide)) (λ_=>K5 _ _ ?_)⟩;clear K5 M5;try dsimp only
  refine ah λM6 K6=>⟨rfl,_,rfl,aE (λ_=>?_) (λz=>absurd rfl (dw z))⟩;exact tix (j:=1) et' rfl (tix (j:=2) et' rfl (tix (j:=3) et' rfl (λr6 dx hr6 hd_ hne_=>AN hr6 hd_ λH6 s6 hx=>⟨rfl,q r6 H6 s6 hr6 ⟨r6,dx,p,rfl,nw hr6 hx,od s6 (ep _ rfl)⟩⟩)))
 |snd h val=>
  refine ah λM1 K1=>⟨rfl,_,rfl,aE (λz=>absurd (aP z) (show ¬ ("send":Str)="hand" by decide)) (λ_=>K1 _ _ ?_)⟩;clear K1 M1;try dsimp only
  refine ah λM2 K2=>⟨rfl,_,rfl,aE (λz=>absurd (aP z) (show ¬ ("send":Str)="given" by decide)) (λ_=>K2 _ _ ?_)⟩;clear K2 M2;try dsimp only
  refine ah λM3 K3=>⟨rfl,_,rfl,aE (λz=>absurd (aP z) (show ¬ ("send":Str)="own" by decide)) (λ_=>K3 _ _ ?_)⟩;clear K3 M3;try dsimp only
  refine ah λM4 K4=>⟨rfl,_,rfl,aE (λz=>absurd (aP z) (show ¬ ("send":Str)="let" by decide)) (λ_=>K4 _ _ ?_)⟩;clear K4 M4;try dsimp only
  refine ah λM5 K5=>⟨rfl,_,rfl,aE (λz=>absurd (aP z) (show ¬ ("send":Str)="set" by decide)) (λ_=>K5 _ _ ?_)⟩;clear K5 M5;try dsimp only
  refine ah λM6 K6=>⟨rfl,_,rfl,aE (λz=>absurd (aP z) (show ¬ ("send":Str)="put" by decide)) (λ_=>K6 _ _ ?_)⟩;clear K6 M6;try dsimp only
  refine ah λM7 K7=>⟨rfl,_,rfl,aE (λ_=>?_) (λz=>absurd rfl (dw z))⟩;exact tix (j:=1) et' rfl (tix (j:=2) et' rfl (λr6 dx hr6 hd_ hne_=>yQ hr6 hd_ λH6 s6 hx=>⟨rfl,q r6 H6 s6 hr6 ⟨r6,dx,p,rfl,nw hr6 hx,od s6 (ep _ rfl)⟩⟩))
 |say x val m=>
  refine ah λM1 K1=>⟨rfl,_,rfl,aE (λz=>absurd (aP z) (show ¬ ("say":Str)="hand" by decide)) (λ_=>K1 _ _ ?_)⟩;clear K1 M1;try dsimp only
  refine ah λM2 K2=>⟨rfl,_,rfl,aE (λz=>absurd (aP z) (show ¬ ("say":Str)="given" by decide)) (λ_=>K2 _ _ ?_)⟩;clear K2 M2;try dsimp only
  refine ah λM3 K3=>⟨rfl,_,rfl,aE (λz=>absurd (aP z) (show ¬ ("say":Str)="own" by decide)) (λ_=>K3 _ _ ?_)⟩;clear K3 M3;try dsimp only
  refine ah λM4 K4=>⟨rfl,_,rfl,aE (λz=>absurd (aP z) (show ¬ ("say":Str)="let" by decide)) (λ_=>K4 _ _ ?_)⟩;clear K4 M4;try dsimp only
  refine ah λM5 K5=>⟨rfl,_,rfl,aE (λz=>absurd (aP z) (show ¬ ("say":Str)="set" by decide)) (λ_=>K5 _ _ ?_)⟩;clear K5 M5;try dsimp only
  refine ah λM6 K6=>⟨rfl,_,rfl,aE (λz=>absurd (aP z) (show ¬ ("say":Str)="put" by decide)) (λ_=>K6 _ _ ?_)⟩;clear K6 M6;try dsimp only
  refine ah λM7 K7=>⟨rfl,_,rfl,aE (λz=>absurd (aP z) (show ¬ ("say":Str)="send" by decide)) (λ_=>K7 _ _ ?_)⟩;clear K7 M7;try dsimp only
  refine ah λM8 K8=>⟨rfl,_,rfl,aE (λ_=>?_) (λz=>absurd rfl (dw z))⟩;exact tix (j:=1) et' rfl (tix (j:=2) et' rfl (tix (j:=3) et' rfl (λr6 dx hr6 hd_ hne_=>Bf hr6 hd_ λH6 s6 hx=>⟨rfl,q r6 H6 s6 hr6 ⟨r6,dx,p,rfl,nw hr6 hx,od s6 (ep _ rfl)⟩⟩)))
 |call i ts=>
  refine ah λM1 K1=>⟨rfl,_,rfl,aE (λz=>absurd (aP z) (show ¬ ("call":Str)="hand" by decide)) (λ_=>K1 _ _ ?_)⟩;clear K1 M1;try dsimp only
  refine ah λM2 K2=>⟨rfl,_,rfl,aE (λz=>absurd (aP z) (show ¬ ("call":Str)="given" by decide)) (λ_=>K2 _ _ ?_)⟩;clear K2 M2;try dsimp only
  refine ah λM3 K3=>⟨rfl,_,rfl,aE (λz=>absurd (aP z) (show ¬ ("call":Str)="own" by decide)) (λ_=>K3 _ _ ?_)⟩;clear K3 M3;try dsimp only
  refine ah λM4 K4=>⟨rfl,_,rfl,aE (λz=>absurd (aP z) (show ¬ ("call":Str)="let" by decide)) (λ_=>K4 _ _ ?_)⟩;clear K4 M4;try dsimp only
  refine ah λM5 K5=>⟨rfl,_,rfl,aE (λz=>absurd (aP z) (show ¬ ("call":Str)="set" by decide)) (λ_=>K5 _ _ ?_)⟩;clear K5 M5;try dsimp only
  refine ah λM6 K6=>⟨rfl,_,rfl,aE (λz=>absurd (aP z) (show ¬ ("call":Str)="put" by decide)) (λ_=>K6 _ _ ?_)⟩;clear K6 M6;try dsimp only
  refine ah λM7 K7=>⟨rfl,_,rfl,aE (λz=>absurd (aP z) (show ¬ ("call":Str)="send" by decide)) (λ_=>K7 _ _ ?_)⟩;clear K7 M7;try dsimp only
  refine ah λM8 K8=>⟨rfl,_,rfl,aE (λz=>absurd (aP z) (show ¬ ("call":Str)="say" by decide)) (λ_=>K8 _ _ ?_)⟩;clear K8 M8;try dsimp only
  refine ah λM9 K9=>⟨rfl,_,rfl,aE (λ_=>?_) (λz=>absurd rfl (dw z))⟩;refine tix (j:=1) et' rfl (tix (j:=2) et' rfl ?_);have epp:=(bq (ep _ rfl)).2;refine KJ ⟨p,_,rfl,KJ (SqL.of epp),λl5 hl5=>?_⟩;obtain⟨s5,e5⟩:=alc hl5 (HO.lst (ts.map (Th.v N)));generalize upd H l5 _=H5 at s5 e5⊢;exact λr6 dx hr6 hd_ hne_=>ya (SqL.of e5) hr6 hd_ λn6 H6 f6 s6 h6 hx=>⟨rfl,q r6 H6 (s5.trans s6) (aq.free s5 hr6) ⟨r6,dx,n6,rfl,nw (aq.free s5 hr6) hx,nw (aq.free s5 f6) h6⟩⟩
 |last  =>
  refine ah λM1 K1=>⟨rfl,_,rfl,aE (λz=>absurd (aP z) (show ¬ ("last":Str)="hand" by decide)) (λ_=>K1 _ _ ?_)⟩;clear K1 M1;try dsimp only
  refine ah λM2 K2=>⟨rfl,_,rfl,aE (λz=>absurd (aP z) (show ¬ ("last":Str)="given" by decide)) (λ_=>K2 _ _ ?_)⟩;clear K2 M2;try dsimp only
  refine ah λM3 K3=>⟨rfl,_,rfl,aE (λz=>absurd (aP z) (show ¬ ("last":Str)="own" by decide)) (λ_=>K3 _ _ ?_)⟩;clear K3 M3;try dsimp only
  refine ah λM4 K4=>⟨rfl,_,rfl,aE (λz=>absurd (aP z) (show ¬ ("last":Str)="let" by decide)) (λ_=>K4 _ _ ?_)⟩;clear K4 M4;try dsimp only
  refine ah λM5 K5=>⟨rfl,_,rfl,aE (λz=>absurd (aP z) (show ¬ ("last":Str)="set" by decide)) (λ_=>K5 _ _ ?_)⟩;clear K5 M5;try dsimp only
  refine ah λM6 K6=>⟨rfl,_,rfl,aE (λz=>absurd (aP z) (show ¬ ("last":Str)="put" by decide)) (λ_=>K6 _ _ ?_)⟩;clear K6 M6;try dsimp only
  refine ah λM7 K7=>⟨rfl,_,rfl,aE (λz=>absurd (aP z) (show ¬ ("last":Str)="send" by decide)) (λ_=>K7 _ _ ?_)⟩;clear K7 M7;try dsimp only
  refine ah λM8 K8=>⟨rfl,_,rfl,aE (λz=>absurd (aP z) (show ¬ ("last":Str)="say" by decide)) (λ_=>K8 _ _ ?_)⟩;clear K8 M8;try dsimp only
  refine ah λM9 K9=>⟨rfl,_,rfl,aE (λz=>absurd (aP z) (show ¬ ("last":Str)="call" by decide)) (λ_=>K9 _ _ ?_)⟩;clear K9 M9;try dsimp only
  exact λr6 dx hr6 hd_ hne_=>xY T hr6 hd_ λH6 s6 hx=>⟨rfl,q r6 H6 s6 hr6 ⟨r6,dx,rfl,nw hr6 hx⟩⟩
 |_=>cases fb
inductive Pt where
 |leaf (n:Int) (r:Lr)
 |iff (n:Int) (v:Val) (l r:Int) (f o:List Pt)
 |loop (n:Int) (t:Th) (m l r:Int) (b:List Pt)
 |fU (n:Int) (i:Nat) (ps:List Nat) (b:List Pt)
mutual
def d9(A:Adr)(N:Nat->Str)(X:Hp):V->Pt->Prop
 |v,.leaf n r=>yN A N X v n r
 |v,.iff n val l r f o=>∃a dx p pf po xf xo,v=.ref a/\X a=UT (.ins A.bV dx [("number",.int n),("value",.ref p),("first",.ref pf),("other",.ref po),("left",.int l),("right",.int r)])/\X p=UT (.tup (vV N val))/\X pf=UT (.lst xf)/\X po=UT (.lst xo)/\aG A N X xf f/\aG A N X xo o
 |v,.loop n t m l r b=>∃a dx pb xb,v=.ref a/\X a=UT (.ins A.aY dx [("number",.int n),("thing",t.v N),("most",.int m),("body",.ref pb),("left",.int l),("right",.int r)])/\X pb=UT (.lst xb)/\aG A N X xb b
 |v,.fU n i ps b=>∃a dx pp pb xb,v=.ref a/\X a=UT (.ins A.bg dx [("number",.int n),("name",.str (N i)),("parts",.ref pp),("body",.ref pb)])/\X pp=UT (.lst (nV N ps))/\X pb=UT (.lst xb)/\aG A N X xb b
def aG(A:Adr)(N:Nat->Str)(X:Hp):List V->List Pt->Prop
 |vs,[]=>vs=[]
 |vs,t::ts=>∃x xs,vs=x::xs/\d9 A N X x t/\aG A N X xs ts
end
mutual
theorem d9.same{X X':Hp}(s:aq X X'):∀(t:Pt)(v:V),d9 A N X v t->d9 A N X' v t
 | .leaf n r,v,h=>by
  unfold d9 at h⊢;exact yN.same s h
 | .iff n val l r f o,v,h=>by
  unfold d9 at h⊢;obtain⟨a,dx,p,pf,po,xf,xo,e,h1,h2,h3,h4,h5,h6⟩:=h;exact⟨a,dx,p,pf,po,xf,xo,e,s _ _ h1,s _ _ h2,s _ _ h3,s _ _ h4,aG.same s f _ h5,aG.same s o _ h6⟩
 | .loop n t m l r b,v,h=>by
  unfold d9 at h⊢;obtain⟨a,dx,pb,xb,e,h1,h2,h3⟩:=h;exact⟨a,dx,pb,xb,e,s _ _ h1,s _ _ h2,aG.same s b _ h3⟩
 | .fU n i ps b,v,h=>by
  unfold d9 at h⊢;obtain⟨a,dx,pp,pb,xb,e,h1,h2,h3,h4⟩:=h;exact⟨a,dx,pp,pb,xb,e,s _ _ h1,s _ _ h2,s _ _ h3,aG.same s b _ h4⟩
theorem aG.same{X X':Hp}(s:aq X X'):∀(ts:List Pt)(vs:List V),aG A N X vs ts->aG A N X' vs ts
 | [],vs,h=>by
  unfold aG at h⊢;exact h
 |t::ts,vs,h=>by
  unfold aG at h⊢;obtain⟨x,xs,e,h1,h2⟩:=h;exact⟨x,xs,e,d9.same s t _ h1,aG.same s ts _ h2⟩
end
theorem aG.snoc{X:Hp}{x:V}{t:Pt}(h:d9 A N X x t):∀{ts:List Pt}{vs:List V},aG A N X vs ts->aG A N X (vs++[x]) (ts++[t])
 | [],vs,h'=>by
  unfold aG at h';subst h';show aG A N X [x] [t];unfold aG;exact⟨x,[],rfl,h,by unfold aG;rfl⟩
 |t'::ts,vs,h'=>by
  unfold aG at h';obtain⟨y,ys,e,h1,h2⟩:=h';subst e;show aG A N X (y::(ys++[x])) (t'::(ts++[t]));unfold aG;exact⟨y,ys++[x],rfl,h1,aG.snoc h h2⟩
theorem aG.nil{X:Hp}:aG A N X [] []:=by
 unfold aG;rfl
theorem aG.len{X:Hp}:∀{ts:List Pt}{vs:List V},aG A N X vs ts->vs.length=ts.length
 | [],vs,h=>by
  unfold aG at h;rw[h];rfl
 |t::ts,vs,h=>by
  unfold aG at h;obtain⟨y,ys,e,h1,h2⟩:=h;subst e;simp[aG.len h2]
theorem aG.get{X:Hp}:∀{ts:List Pt}{vs:List V}{i:Nat}{v:V},aG A N X vs ts->vs[i]?=UT v->∃t,ts[i]?=UT t/\d9 A N X v t
 | [],vs,i,v,h,e=>by
  unfold aG at h;rw[h]at e;cases e
 |t::ts,vs,i,v,h,e=>by
  unfold aG at h;obtain⟨y,ys,e',h1,h2⟩:=h;subst e';cases i with
  |zero=>cases e;exact⟨t,rfl,h1⟩
  |succ i=>exact aG.get (i:=i) h2 e
def nst(n:Int)(f o:List Pt):Lr->Pt
 | .iff v l r=>.iff n v l r f o
 | .loop t m l r=>.loop n t m l r o
 | .fU i ps=>.fU n i ps o
 |r=>.leaf n r
def Lr.Az:Lr->Bool
 | .iff _ _ _=>true| .loop _ _ _ _=>true| .fU _ _=>true
 |_=>false
def frT(n:Int)(row:V)(lf lr:OM):List (Key×V):=[(.inr "number",.int n),(.inr "row",row),(.inr "first",.ref lf),(.inr "rows",.ref lr)]
inductive nC(A:Adr)(vs:List V)(H:Hp)(Q:VK)(Z:XK):Prop
 |mk(N:Nat->Str)(M:List OM)(fr lf lr:OM)(n:Int)(v:V)(r:Lr)(xf xo:List V)(f o:List Pt):vs=[.ref fr]->H fr=UT (.dK (frT n v lf lr))->bZ N (del M H) v r->r.Az=true->(∀m∈M,H m≠UU)->H lf=UT (.lst xf)->H lr=UT (.lst xo)->aG A N (del M H) xf f->aG A N (del M H) xo o->(∀(a:OM)(H':Hp),aq H H'->H a=UU->d9 A N (del M H') (.ref a) (nst n f o r)->Q (.ref a) H')->nC A vs H Q Z
theorem uX(T:Txt K mg A):Has P w K mg base 5 "_law_nested_row" ["_law_frame"] (nC A):=by
 have Om:=@uQ P w _ _ base _ T;have N8:=@rZ P w _ _ base _ T;have N9:=@qu P w _ _ base _ T;refine T.lU.has (k:=4) fH (λvs H Q E h=>?_) (λf cdv A' outer s H vs Q E' hr hu h=>?_)
 ·obtain⟨N,M,fr,lf,lr,n,v,r,xf,xo,f,o,rfl,_⟩:=h;rfl
 obtain⟨N,M,fr,lf,lr,n,v,r,xf,xo,tf,to,rfl,hfr,⟨t,p,rfl,et0,ep⟩,fb,hM,hlf,hlr,pf,po,q⟩:=h;have et:=(bq et0).2;have nw:∀{x:OM}{o:HO}{H':Hp},H x=UU->H' x=UT o->del M H' x=UT o:=λ{x o H'} h e=>aN (λm=>hM x m h) e;have od:∀{H':Hp},aq H H'->aq (del M H) (del M H'):=λ{H'} z=>(Go.new z).same;have et':=SqT.of (K:=K) et;refine⟨_,(ae (pst 1 fH.nd (px hu (fv 0) ao))
 (ae (pst 2 fH.nd (px hu (fv 0) ao))
 (ae (aM (ptc (bj hu) (px hu (fv 2) ab) ao)
  (aj (aA (cN T.bA Om hr (fv 1^px hu (fv 2) ab^px hu (fv 0) ao^px hu (fv 0) ao^px hu (fv 2) ab^px hu (fv 2) ab^af))))
  aC)
 (ae (aM (ptc (bj hu) (px hu (fv 2) ab) ao)
  (aj (aA (cN T.aL N8 hr (fv 1^px hu (fv 2) ab^px hu (fv 2) ab^px hu (fv 0) ao^px hu (fv 2) ab^px hu (fv 2) ab^af))))
  aC)
 (aj (aA (cN T.dW N9 hr (fv 1^px hu (fv 2) ab^pcT qm T.dY (px hu (fv 2) ab^af)^px hu (fv 0) ao^af)))))))),?_⟩
 refine ah λM1 K1=>dgk hfr rfl (K1 _ _ ?_);clear K1 M1;try dsimp only
 refine ah λM2 K2=>dgk hfr rfl (K2 _ _ ?_);clear K2 M2;try dsimp only
 cases r with
 |iff val l r=>
  refine ah λM3 K3=>tix (j:=0) et' rfl ⟨rfl,_,rfl,aE (λ_=>?_) (λz=>absurd rfl (dw z))⟩;refine tix (j:=1) et' rfl (dgk hfr rfl (dgk hfr rfl (tix (j:=2) et' rfl (tix (j:=3) et' rfl (λr6 dx hr6 hd_ hne_=>Cc (SqL.of hlf) (SqL.of hlr) hr6 hd_ λn6 n7 H6 f6 f7 s6 h6 h7 hx=>⟨rfl,q r6 H6 s6 hr6 ?_⟩)))));show d9 A N (del M H6) (.ref r6) (.iff n val l r tf to);unfold d9;exact⟨r6,dx,p,n6,n7,xf,xo,rfl,nw hr6 hx,od s6 _ _ (ep _ rfl),nw f6 h6,nw f7 h7,aG.same (od s6) _ _ pf,aG.same (od s6) _ _ po⟩
 |loop th m l r=>
  refine ah λM3 K3=>tix (j:=0) et' rfl ⟨rfl,_,rfl,aE (λz=>absurd (aP z) (show ¬ ("loop":Str)="if" by decide)) (λ_=>K3 _ _ ?_)⟩;clear K3 M3;try dsimp only
  refine ah λM3 K3=>tix (j:=0) et' rfl ⟨rfl,_,rfl,aE (λ_=>?_) (λz=>absurd rfl (dw z))⟩;refine tix (j:=1) et' rfl (tix (j:=2) et' rfl (dgk hfr rfl (tix (j:=3) et' rfl (tix (j:=4) et' rfl (λr6 dx hr6 hd_ hne_=>yP (SqL.of hlr) hr6 hd_ λn6 H6 f6 s6 h6 hx=>⟨rfl,q r6 H6 s6 hr6 ?_⟩)))));show d9 A N (del M H6) (.ref r6) (.loop n th m l r to);unfold d9;exact⟨r6,dx,n6,xo,rfl,nw hr6 hx,nw f6 h6,aG.same (od s6) _ _ po⟩
 |fU i ps=>
  refine ah λM3 K3=>tix (j:=0) et' rfl ⟨rfl,_,rfl,aE (λz=>absurd (aP z) (show ¬ ("deed":Str)="if" by decide)) (λ_=>K3 _ _ ?_)⟩;clear K3 M3;try dsimp only
  refine ah λM3 K3=>tix (j:=0) et' rfl ⟨rfl,_,rfl,aE (λz=>absurd (aP z) (show ¬ ("deed":Str)="loop" by decide)) (λ_=>K3 _ _ ?_)⟩;clear K3 M3;try dsimp only
  have epp:=(bq (ep _ rfl)).2;refine tix (j:=1) et' rfl (tix (j:=2) et' rfl (KJ ⟨p,_,rfl,KJ (SqL.of epp),λl5 hl5=>?_⟩));obtain⟨s5,e5⟩:=alc hl5 (HO.lst (nV N ps));generalize upd H l5 _=H5 at s5 e5⊢;refine dgk (s5 _ _ hfr) rfl (λr6 dx hr6 hd_ hne_=>yK (SqL.of e5) (SqL.of (s5 _ _ hlr)) hr6 hd_ λn6 n7 H6 f6 f7 s6 h6 h7 hx=>⟨rfl,q r6 H6 (s5.trans s6) (aq.free s5 hr6) ?_⟩);show d9 A N (del M H6) (.ref r6) (.fU n i ps to);unfold d9;exact⟨r6,dx,n6,n7,xo,rfl,nw (aq.free s5 hr6) hx,nw (aq.free s5 f6) h6,nw (aq.free s5 f7) h7,aG.same (od (s5.trans s6)) _ _ po⟩
 |_=>cases fb
end
section
variable{P:Program}{w:OX}{K:OQ}{mg:Str->Option ON}{base:O8}{A:Adr}{N:Nat->Str}
structure Zf where
 n:Int
 op:Lr
 fst:List Pt
 rows:List Pt
structure Zs where
 heads:List Pt
 CM:List Pt
 fs:List Zf
def Lr.xZ:Lr->Bool
 | .iff _ _ _=>true| .loop _ _ _ _=>true| .fU _ _=>true| .main=>true
 |_=>false
def Zf.done(f:Zf):Pt:=nst f.n f.fst f.rows f.op
inductive Stp(k:Nat):Zs->Lr->Zs->Prop
 |opn {h d:List Pt}{fs:List Zf}{r:Lr} (b:r.xZ=true):Stp k ⟨h,d,fs⟩ r ⟨h,d,⟨(k:Int)+1,r,[],[]⟩::fs⟩
 |els {h d:List Pt}{f:Zf}{fs:List Zf}:Stp k ⟨h,d,f::fs⟩ .els ⟨h,d,⟨f.n,f.op,f.rows,[]⟩::fs⟩
 |fin1 {h d:List Pt}{f g:Zf}{fs:List Zf} (b:f.op.Az=true):Stp k ⟨h,d,f::g::fs⟩ .fin ⟨h,d,⟨g.n,g.op,g.fst,g.rows++[f.done]⟩::fs⟩
 |fin0 {h d:List Pt}{f:Zf} (b:f.op.Az=true):Stp k ⟨h,d,[f]⟩ .fin ⟨h,d++[f.done],[]⟩
 |head {h d:List Pt}{r:Lr} (b:r.mj=true):Stp k ⟨h,d,[]⟩ r ⟨h++[.leaf ((k:Int)+1) r],d,[]⟩
 |row {h d:List Pt}{f:Zf}{fs:List Zf}{r:Lr} (b:r.mj=true):Stp k ⟨h,d,f::fs⟩ r ⟨h,d,⟨f.n,f.op,f.fst,f.rows++[.leaf ((k:Int)+1) r]⟩::fs⟩
inductive iQ:Nat->Zs->List Lr->Zs->Prop
 |nil {k:Nat}{s:Zs}:iQ k s [] s
 |cons {k:Nat}{s s' s2:Zs}{r:Lr}{rs:List Lr} (h:Stp k s r s') (t:iQ (k+1) s' rs s2):iQ k s (r::rs) s2
theorem iQ.inv{k:Nat}{s s2:Zs}{r:Lr}{rs:List Lr}(h:iQ k s (r::rs) s2):∃s',Stp k s r s'/\iQ (k+1) s' rs s2:=by
 cases h with
 |cons h t=>exact⟨_,h,t⟩
theorem iQ.J0{k:Nat}{s s2:Zs}(h:iQ k s [] s2):s=s2:=by
 cases h;rfl
theorem Stp.inv1{k:Nat}{s s':Zs}{r:Lr}(h:Stp k s r s')(c:r.xZ=true)(fl:r.mj=true->False):s'=⟨s.heads,s.CM,⟨(k:Int)+1,r,[],[]⟩::s.fs⟩:=by
 cases h with
 |opn b=>rfl
 |els=>cases c
 |fin1 b=>cases c
 |fin0 b=>cases c
 |head b=>exact(fl b).elim
 |row b=>exact(fl b).elim
theorem Stp.inv{k:Nat}{s s':Zs}{r:Lr}(h:Stp k s r s')(c:r.xZ=false):(∃h d f fs,r=.els/\s=⟨h,d,f::fs⟩/\s'=⟨h,d,⟨f.n,f.op,f.rows,[]⟩::fs⟩)\/(∃h d f g fs,f.op.Az=true/\r=.fin/\s=⟨h,d,f::g::fs⟩/\s'=⟨h,d,⟨g.n,g.op,g.fst,g.rows++[f.done]⟩::fs⟩)\/(∃h d f,f.op.Az=true/\r=.fin/\s=⟨h,d,[f]⟩/\s'=⟨h,d++[f.done],[]⟩)\/(∃h d,r.mj=true/\s=⟨h,d,[]⟩/\s'=⟨h++[.leaf ((k:Int)+1) r],d,[]⟩)\/(∃h d f fs,r.mj=true/\s=⟨h,d,f::fs⟩/\s'=⟨h,d,⟨f.n,f.op,f.fst,f.rows++[.leaf ((k:Int)+1) r]⟩::fs⟩):=by
 cases h with
 |opn b=>rw[b]at c;cases c
 |els=>exact .inl ⟨_,_,_,_,rfl,rfl,rfl⟩
 |fin1 b=>exact .inr (.inl ⟨_,_,_,_,_,b,rfl,rfl,rfl⟩)
 |fin0 b=>exact .inr (.inr (.inl ⟨_,_,_,b,rfl,rfl,rfl⟩))
 |head b=>exact .inr (.inr (.inr (.inl ⟨_,_,b,rfl,rfl⟩)))
 |row b=>exact .inr (.inr (.inr (.inr ⟨_,_,_,_,b,rfl,rfl⟩)))
theorem iQ.app{k:Nat}{s s1 s2:Zs}{a b:List Lr}(h:iQ k s a s1)(h2:iQ (k+a.length) s1 b s2):iQ k s (a++b) s2:=by
 induction h with
 |nil=>exact h2
 |cons h t ih=>
  refine .cons h (ih ?_);rw[Lc]at h2;rw[show ∀k n:Nat,k+1+n=k+(n+1)from λk n=>()];exact h2
mutual
def pt(k:Nat):Tr->Pt
 | .leaf r=>.leaf ((k:Int)+1) r
 | .iff v l r f o=>.iff ((k:Int)+1) v l r (pts (k+1) f) (pts (k+1+(bf f).length+1) o)
 | .loop t m l r b=>.loop ((k:Int)+1) t m l r (pts (k+1) b)
def pts(k:Nat):List Tr->List Pt
 | []=>[]
 |t::ts=>pt k t::pts (k+(flat t).length) ts
end
theorem C8{ns tg:List Nat}{dd:List Dl}{r:Lr}(h:r.ok ns tg dd):r.mj=true:=by
 cases r<;>first|rfl|exact h.elim
mutual
theorem Gm{ns tg:List Nat}{dd:List Dl}:∀(t:Tr)(k:Nat)(h d:List Pt)(f:Zf)(fs:List Zf),t.ok ns tg dd->iQ k ⟨h,d,f::fs⟩ (flat t) ⟨h,d,⟨f.n,f.op,f.fst,f.rows++[pt k t]⟩::fs⟩
 | .leaf r,k,h,d,f,fs,ok=>by
  unfold Tr.ok at ok;unfold flat pt;exact .cons (.row (C8 ok)) .nil
 | .iff v l r a b,k,h,d,f,fs,ok=>by
  unfold Tr.ok at ok;obtain⟨_,_,_,oa,ob⟩:=ok;unfold flat pt;exact .cons (.opn rfl) (iQ.app (mY a (k+1) h d _ _ oa) (.cons .els (iQ.app (mY b _ h d _ _ ob) (.cons (.fin1 rfl) .nil))))
 | .loop t m l r b,k,h,d,f,fs,ok=>by
  unfold Tr.ok at ok;obtain⟨_,_,_,_,_,ob⟩:=ok;unfold flat pt;exact .cons (.opn rfl) (iQ.app (mY b (k+1) h d _ _ ob) (.cons (.fin1 rfl) .nil))
theorem mY{ns tg:List Nat}{dd:List Dl}:∀(ts:List Tr)(k:Nat)(h d:List Pt)(f:Zf)(fs:List Zf),eE ns tg dd ts->iQ k ⟨h,d,f::fs⟩ (bf ts) ⟨h,d,⟨f.n,f.op,f.fst,f.rows++pts k ts⟩::fs⟩
 | [],k,h,d,f,fs,ok=>by
  unfold bf pts;rw[Lx];exact .nil
 |t::ts,k,h,d,f,fs,ok=>by
  unfold eE at ok;unfold bf pts;have h1:=Gm t k h d f fs ok.1;have h2:=mY ts (k+(flat t).length) h d ⟨f.n,f.op,f.fst,f.rows++[pt k t]⟩ fs ok.2;rw[show f.rows++[pt k t]++pts (k+(flat t).length) ts=f.rows++pt k t::pts (k+(flat t).length) ts by simp]at h2;exact h1.app h2
end
def ptD(k:Nat):List Dl->List (List Tr)->List Pt
 |d::ds,b::bs=>.fU ((k:Int)+1) d.nm d.ps (pts (k+1) b)::ptD (k+1+(bf b).length+1) ds bs
 |_,_=>[]
theorem C6:∀(ds:List Dl)(bs:List (List Tr))(k:Nat)(h e:List Pt),(∀b∈bs,∃ns tg dd,eE ns tg dd b)->iQ k ⟨h,e,[]⟩ (dR ds bs) ⟨h,e++ptD k ds bs,[]⟩
 | [],_,k,h,e,_=>by
  unfold dR ptD;rw[Lx];exact .nil
 |d::ds,[],k,h,e,_=>by
  unfold dR ptD;rw[Lx];exact .nil
 |d::ds,b::bs,k,h,e,ok=>by
  unfold dR ptD;obtain⟨ns,tg,dd,ob⟩:=ok b Kv;refine .cons (.opn rfl) (iQ.app (mY b (k+1) h e _ _ ob) (.cons (.fin0 rfl) ?_));have:=C6 ds bs (k+1+(bf b).length+1) h (e++[.fU ((k:Int)+1) d.nm d.ps (pts (k+1) b)]) (λx hx=>ok x (Kx _ hx));rw[Li]at this;exact this
def lfs(k:Nat):List Lr->List Pt
 | []=>[]
 |r::rs=>.leaf ((k:Int)+1) r::lfs (k+1) rs
theorem Bo:∀(rs:List Lr)(k:Nat)(h e:List Pt),(∀r∈rs,r.mj=true)->iQ k ⟨h,e,[]⟩ rs ⟨h++lfs k rs,e,[]⟩
 | [],k,h,e,_=>by
  unfold lfs;rw[Lx];exact .nil
 |r::rs,k,h,e,ok=>by
  unfold lfs;refine .cons (.head (ok r Kv)) ?_;have:=Bo rs (k+1) (h++[.leaf ((k:Int)+1) r]) e (λx hx=>ok x (Kx _ hx));rw[Li]at this;exact this
theorem CK{ev:Bool}{lim:Int}{lrs:List Lr}{rk:Nat->Int}{z:Int}{t:Nat}{dls:List Dl}{bss:List (List Tr)}{mb:List Tr}(D:BW ev lim lrs rk z t dls bss mb) :
  ∃body,lrs=body++[.fin]/\∃n:Nat,iQ 0 ⟨[],[],[]⟩ body ⟨lfs 0 (rot t (cy rk z)),ptD (rot t (cy rk z)).length dls bss,[⟨(n:Int)+1,.main,[],pts (n+1) mb⟩]⟩/\n=(rot t (cy rk z)).length+(dR dls bss).length:=by
 refine⟨rot t (cy rk z)++dR dls bss++(.main::bf mb),by rw[D.e];simp,_,?_,rfl⟩
 have hb:∀r∈rot t (cy rk z),r.mj=true:=λr hr=>by
  have:r∈cy rk z:=by
   rcases KA.mp hr with h|h
   ·exact Sb h
   exact Sd h
  simp only[cy,Ku,KD,or_false]at this;rcases this with e|e|e|e|e|e|e|e|e|e|e|e|e<;>(rw[e];rfl)
 have h1:=Bo (rot t (cy rk z)) 0 [] [] hb
 have h2:=C6 dls bss (0+(rot t (cy rk z)).length) ([]++lfs 0 (rot t (cy rk z))) [] (λb hb=>by
  obtain⟨j,hj⟩:=Le hb;have jl:j<dls.length:=by
   rw[D.dd.len];exact(KH.mp hj).1
  exact⟨_,_,_,(D.dd.bs j _ b (Kw jl) hj).1⟩)
 have h12:=h1.app h2
 refine h12.app (.cons (.opn rfl) ?_)
 have h3:=mY mb (0+(rot t (cy rk z)++dR dls bss).length+1) (lfs 0 (rot t (cy rk z))) (ptD (rot t (cy rk z)).length dls bss) ⟨((0+(rot t (cy rk z)++dR dls bss).length:Nat):Int)+1,.main,[],[]⟩ [] D.ob
 simpa using h3
end
section
variable{P:Program}{w:OX}{K:OQ}{mg:Str->Option ON}{base:O8}{A:Adr}{N:Nat->Str}
structure Fa where
 fr:OM
 lf:OM
 lr:OM
def Fa.l(a:Fa):List OM:=[a.fr,a.lf,a.lr]
def Tm(lh ld lf:OM)(as:List Fa):List OM:=lh::ld::lf::as.flatMap Fa.l
def Bq(A:Adr)(N:Nat->Str)(X H:Hp)(a:Fa)(f:Zf):Prop:=∃v xf xo,H a.fr=UT (.dK (frT f.n v a.lf a.lr))/\bZ N X v f.op/\H a.lf=UT (.lst xf)/\H a.lr=UT (.lst xo)/\aG A N X xf f.fst/\aG A N X xo f.rows
theorem Bq.go{X X' H H':Hp}{a:Fa}{f:Zf}(s:aq X X')(k:∀x∈a.l,∀o,H x=UT o->H' x=UT o)(h:Bq A N X H a f):Bq A N X' H' a f:=by
 obtain⟨v,xf,xo,h1,h2,h3,h4,h5,h6⟩:=h;exact⟨v,xf,xo,k _ (by simp[Fa.l]) _ h1,h2.same s,k _ (by simp[Fa.l]) _ h3,k _ (by simp[Fa.l]) _ h4,aG.same s _ _ h5,aG.same s _ _ h6⟩
theorem Paired.mapM{α β:Type}{F G:α->β->Prop}:∀{xs:List α}{ys:List β},Paired F xs ys->(∀a b,a∈xs->F a b->G a b)->Paired G xs ys
 |_,_,.nil,_=>.nil
 |_,_,.cons h r,k=>.cons (k _ _ Kv h) (Paired.mapM r λa b m=>k a b (Kx _ m))
structure fO(A:Adr)(N:Nat->Str)(H:Hp)(lh ld lf:OM)(as:List Fa)(s:Zs)(i:Nat):Prop where
 hh:∃xs,H lh=UT (.lst xs)/\aG A N (del (Tm lh ld lf as) H) xs s.heads
 hd:∃xs,H ld=UT (.lst xs)/\aG A N (del (Tm lh ld lf as) H) xs s.CM
 hf:H lf=UT (.lst (as.reverse.map λa=>V.ref a.fr))
 fr:Paired (Bq A N (del (Tm lh ld lf as) H) H) as s.fs
 nd:(Tm lh ld lf as).Nodup
 bd:s.heads.length<=i/\s.CM.length<=i/\s.fs.length<=i/\∀f∈s.fs,f.rows.length<=i
variable{H H':Hp}{lh ld lf:OM}{as:List Fa}{a:Fa}{s:Zs}{i:Nat}{h d:List Pt}{f:Zf}{fs:List Zf}
theorem fO.same(z:aq H H')(t:fO A N H lh ld lf as s i):fO A N H' lh ld lf as s i:=by
 have sx:=(Go.new (M:=Tm lh ld lf as) z).same;obtain⟨x1,h1,p1⟩:=t.hh;obtain⟨x2,h2,p2⟩:=t.hd;exact⟨⟨x1,z _ _ h1,aG.same sx _ _ p1⟩,⟨x2,z _ _ h2,aG.same sx _ _ p2⟩,z _ _ t.hf,Paired.cR t.fr λ_ _ q=>q.go sx λx _ o e=>z _ _ e,t.nd,t.bd⟩
theorem ka{b:Fa}{x:OM}(hb:b∈as)(hx:x∈b.l):x∈as.flatMap Fa.l:=LF.mpr ⟨b,hb,hx⟩
theorem fO.al(t:fO A N H lh ld lf as s i):∀x∈Tm lh ld lf as,H x≠UU:=λx m e=>by
 obtain⟨x1,h1,_⟩:=t.hh;obtain⟨x2,h2,_⟩:=t.hd;unfold Tm at m;rcases Ku.mp m with rfl|m
 ·rw[h1]at e;cases e
 rcases Ku.mp m with rfl|m
 ·rw[h2]at e;cases e
 rcases Ku.mp m with rfl|m
 ·rw[t.hf]at e;cases e
 obtain⟨b,hb,hx⟩:=LF.mp m;obtain⟨j,hj⟩:=Le hb;obtain⟨f,_,v,xf,xo,q1,_,q3,q4,_⟩:=bw t.fr hj;simp only[Fa.l,Ku,KD,or_false]at hx;rcases hx with rfl|rfl|rfl
 ·rw[q1]at e;cases e
 ·rw[q3]at e;cases e
 rw[q4]at e;cases e
theorem tm3(nd:(Tm lh ld lf as).Nodup):lh≠ld/\lh≠lf/\ld≠lf/\(∀x∈as.flatMap Fa.l,x≠lh/\x≠ld/\x≠lf)/\(as.flatMap Fa.l).Nodup:=by
 unfold Tm at nd;obtain⟨n1,nd⟩:=KW.mp nd;obtain⟨n2,nd⟩:=KW.mp nd;obtain⟨n3,nd⟩:=KW.mp nd;refine⟨λe=>n1 (by rw[e];simp),λe=>n1 (by rw[e];simp),λe=>n2 (by rw[e];simp),λx m=>⟨λe=>n1 ?_,λe=>n2 ?_,λe=>n3 ?_⟩,nd⟩
 ·rw[<-e];simp only[Ku];exact .inr (.inr m)
 ·rw[<-e];simp only[Ku];exact .inr m
 rw[<-e];exact m
theorem yX(nd:((a::as).flatMap Fa.l).Nodup):a.fr≠a.lf/\a.fr≠a.lr/\a.lf≠a.lr/\(∀x∈as.flatMap Fa.l,x≠a.fr/\x≠a.lf/\x≠a.lr)/\(as.flatMap Fa.l).Nodup:=by
 rw[Lf]at nd;have e:a.l=[a.fr,a.lf,a.lr]:=rfl;rw[e]at nd;obtain⟨n1,nd⟩:=KW.mp (show(a.fr::a.lf::a.lr::as.flatMap Fa.l).Nodup from nd);obtain⟨n2,nd⟩:=KW.mp nd;obtain⟨n3,nd⟩:=KW.mp nd;refine⟨λe=>n1 (by rw[e];simp),λe=>n1 (by rw[e];simp),λe=>n2 (by rw[e];simp),λx m=>⟨λe=>n1 ?_,λe=>n2 ?_,λe=>n3 ?_⟩,nd⟩
 ·rw[<-e];simp only[Ku];exact .inr (.inr m)
 ·rw[<-e];simp only[Ku];exact .inr m
 rw[<-e];exact m
theorem fO.Jk{xs:List V}{x:V}{p:Pt}(t:fO A N H lh ld lf as ⟨h,d,fs⟩ i)(e:H lh=UT (.lst xs))(hp:d9 A N (del (Tm lh ld lf as) H) x p):fO A N (upd H lh (.lst (xs++[x]))) lh ld lf as ⟨h++[p],d,fs⟩ (i+1):=by
 obtain⟨n1,n2,n3,n4,n5⟩:=tm3 t.nd;have sx:=(Go.at (M:=Tm lh ld lf as) (H:=H) (x:=lh) (by simp[Tm]) (.lst (xs++[x]))).same;obtain⟨x1,h1,p1⟩:=t.hh;obtain⟨x2,h2,p2⟩:=t.hd;rw[e]at h1;cases h1;refine⟨⟨_,ak,(aG.same sx _ _ p1).snoc (d9.same sx _ _ hp)⟩,⟨x2,ag n1.symm h2,aG.same sx _ _ p2⟩,ag n2.symm t.hf,Paired.mapM t.fr λb q hb r=>r.go sx λy hy o z=>ag (n4 y (ka hb hy)).1 z,t.nd,?_⟩;obtain⟨b1,b2,b3,b4⟩:=t.bd;exact⟨by simp at b1⊢;omega,Ld b2,Ld b3,λf hf=>Ld (b4 f hf)⟩
theorem fO.Ju{xs:List V}{x:V}{p:Pt}(t:fO A N H lh ld lf as ⟨h,d,fs⟩ i)(e:H ld=UT (.lst xs))(hp:d9 A N (del (Tm lh ld lf as) H) x p):fO A N (upd H ld (.lst (xs++[x]))) lh ld lf as ⟨h,d++[p],fs⟩ (i+1):=by
 obtain⟨n1,n2,n3,n4,n5⟩:=tm3 t.nd;have sx:=(Go.at (M:=Tm lh ld lf as) (H:=H) (x:=ld) (by simp[Tm]) (.lst (xs++[x]))).same;obtain⟨x1,h1,p1⟩:=t.hh;obtain⟨x2,h2,p2⟩:=t.hd;rw[e]at h2;cases h2;refine⟨⟨x1,ag n1 h1,aG.same sx _ _ p1⟩,⟨_,ak,(aG.same sx _ _ p2).snoc (d9.same sx _ _ hp)⟩,ag n3.symm t.hf,Paired.mapM t.fr λb q hb r=>r.go sx λy hy o z=>ag (n4 y (ka hb hy)).2.1 z,t.nd,?_⟩;obtain⟨b1,b2,b3,b4⟩:=t.bd;exact⟨Ld b1,by simp at b2⊢;omega,Ld b3,λf hf=>Ld (b4 f hf)⟩
theorem fO.Fd{xs:List V}{x:V}{p:Pt}(t:fO A N H lh ld lf (a::as) ⟨h,d,f::fs⟩ i)(e:H a.lr=UT (.lst xs))(hp:d9 A N (del (Tm lh ld lf (a::as)) H) x p):fO A N (upd H a.lr (.lst (xs++[x]))) lh ld lf (a::as) ⟨h,d,⟨f.n,f.op,f.fst,f.rows++[p]⟩::fs⟩ (i+1):=by
 obtain⟨n1,n2,n3,n4,n5⟩:=tm3 t.nd;obtain⟨m1,m2,m3,m4,_⟩:=yX n5;have im:a.lr∈(a::as).flatMap Fa.l:=ka Kv (by simp[Fa.l]);obtain⟨k1,k2,k3⟩:=n4 _ im;have sx:=(Go.at (M:=Tm lh ld lf (a::as)) (H:=H) (x:=a.lr) (by unfold Tm;simp only[Ku];exact .inr (.inr (.inr im))) (.lst (xs++[x]))).same;obtain⟨x1,h1,p1⟩:=t.hh;obtain⟨x2,h2,p2⟩:=t.hd;cases t.fr with
 |cons q r=>
  obtain⟨v,xf,xo,q1,q2,q3,q4,q5,q6⟩:=q;rw[e]at q4;cases q4;refine⟨⟨x1,ag k1.symm h1,aG.same sx _ _ p1⟩,⟨x2,ag k2.symm h2,aG.same sx _ _ p2⟩,ag k3.symm t.hf,.cons ⟨v,xf,xs++[x],ag m2 q1,q2.same sx,ag m3 q3,ak,aG.same sx _ _ q5,(aG.same sx _ _ q6).snoc (d9.same sx _ _ hp)⟩ (Paired.mapM r λb q hb r=>r.go sx λy hy o z=>ag (m4 y (ka hb hy)).2.2 z),t.nd,?_⟩;obtain⟨b1,b2,b3,b4⟩:=t.bd;refine⟨Ld b1,Ld b2,Ld b3,λf' hf=>?_⟩;rcases Ku.mp hf with rfl|hf
  ·have:=b4 f Kv;simp;exact this
  exact Ld (b4 f' (Kx _ hf))
theorem qy{x:OM}(m:x∈Tm lh ld lf as):x∈Tm lh ld lf (a::as):=by
 unfold Tm at m⊢;simp only[Ku,Lf,KA]at m⊢;rcases m with m|m|m|m
 ·exact .inl m
 ·exact .inr (.inl m)
 ·exact .inr (.inr (.inl m))
 exact .inr (.inr (.inr (.inr m)))
theorem fO.pop(t:fO A N H lh ld lf (a::as) ⟨h,d,f::fs⟩ i):fO A N (upd H lf (.lst (as.reverse.map λa=>V.ref a.fr))) lh ld lf as ⟨h,d,fs⟩ i/\Bq A N (del (Tm lh ld lf (a::as)) (upd H lf (.lst (as.reverse.map λa=>V.ref a.fr)))) (upd H lf (.lst (as.reverse.map λa=>V.ref a.fr))) a f:=by
 obtain⟨n1,n2,n3,n4,n5⟩:=tm3 t.nd;obtain⟨m1,m2,m3,m4,m5⟩:=yX n5;have sx:=(Go.at (M:=Tm lh ld lf (a::as)) (H:=H) (x:=lf) (by simp[Tm]) (.lst (as.reverse.map λa=>V.ref a.fr))).same;have sy:aq (del (Tm lh ld lf (a::as)) (upd H lf (.lst (as.reverse.map λa=>V.ref a.fr)))) (del (Tm lh ld lf as) (upd H lf (.lst (as.reverse.map λa=>V.ref a.fr)))):=λx o e=>aN (λm=>(bq e).1 (qy m)) (bq e).2;have sz':=sx.trans sy;obtain⟨x1,h1,p1⟩:=t.hh;obtain⟨x2,h2,p2⟩:=t.hd;cases t.fr with
 |cons q r=>
  refine⟨⟨⟨x1,ag n2 h1,aG.same sz' _ _ p1⟩,⟨x2,ag n3 h2,aG.same sz' _ _ p2⟩,ak,Paired.mapM r λb q hb r=>r.go sz' λy hy o z=>ag (n4 y (ka (Kx _ hb) hy)).2.2 z,?_,?_⟩,q.go sx λy hy o z=>ag (n4 y (ka Kv hy)).2.2 z⟩
  ·have nd:=t.nd;unfold Tm at nd⊢;rw[Lf]at nd;exact nd.sublist (((List.sublist_append_right _ _).cons₂ _).cons₂ _ |>.cons₂ _)
  obtain⟨b1,b2,b3,b4⟩:=t.bd;exact⟨b1,b2,Nat.le_of_succ_le b3,λf' hf=>b4 f' (Kx _ hf)⟩
theorem fO.opn{H1:Hp}{fr l1 l2:OM}{n:Int}{v:V}{r:Lr}(t:fO A N H lh ld lf as ⟨h,d,fs⟩ i)(s1:aq H H1)(f0:H fr=UU)(f1:H l1=UU)(f2:H l2=UU)(d1:fr≠l1)(d2:fr≠l2)(d3:l1≠l2)(e0:H1 fr=UT (.dK (frT n v l1 l2)))(e1:H1 l1=UT (.lst []))(e2:H1 l2=UT (.lst []))(lr:bZ N (del (Tm lh ld lf as) H) v r) :
  fO A N (upd H1 lf (.lst ((as.reverse.map λa=>V.ref a.fr)++[.ref fr]))) lh ld lf (⟨fr,l1,l2⟩::as) ⟨h,d,⟨n,r,[],[]⟩::fs⟩ (i+1):=by
 obtain⟨n1,n2,n3,n4,n5⟩:=tm3 t.nd
 have al:=t.al
 have o0:fr∉Tm lh ld lf as:=λm=>al _ m f0
 have o1:l1∉Tm lh ld lf as:=λm=>al _ m f1
 have o2:l2∉Tm lh ld lf as:=λm=>al _ m f2
 have il:lf∈Tm lh ld lf as:=by simp[Tm]
 have g:Go (Tm lh ld lf as) H (Tm lh ld lf (⟨fr,l1,l2⟩::as)) (upd H1 lf (.lst ((as.reverse.map λa=>V.ref a.fr)++[.ref fr]))):=((Go.new s1).trans (Go.at il _)).to λx m=>by
  unfold Tm at m;simp only[Ku,Lf,KA,Fa.l,KD,or_false]at m;rcases m with m|m|m|(m|m|m)|m
  ·exact .inl (by rw[m];simp[Tm])
  ·exact .inl (by rw[m];simp[Tm])
  ·exact .inl (by rw[m];exact il)
  ·exact .inr (.inr (by rw[m];exact f0))
  ·exact .inr (.inr (by rw[m];exact f1))
  ·exact .inr (.inr (by rw[m];exact f2))
  exact .inl (by unfold Tm;simp only[Ku];exact .inr (.inr (.inr m)))
 have sx:=g.same
 obtain⟨x1,h1,p1⟩:=t.hh
 obtain⟨x2,h2,p2⟩:=t.hd
 have frl:fr≠lf:=λz=>o0 (by rw[z];exact il)
 have l1l:l1≠lf:=λz=>o1 (by rw[z];exact il)
 have l2l:l2≠lf:=λz=>o2 (by rw[z];exact il)
 refine⟨⟨x1,ag n2 (s1 _ _ h1),aG.same sx _ _ p1⟩,⟨x2,ag n3 (s1 _ _ h2),aG.same sx _ _ p2⟩,?_,.cons ⟨v,[],[],ag frl e0,lr.same sx,ag l1l e1,ag l2l e2,aG.nil,aG.nil⟩ (Paired.mapM t.fr λb q hb r=>r.go sx λy hy o z=>ag (n4 y (ka hb hy)).2.2 (s1 _ _ z)),?_,?_⟩
 ·rw[ak,LP,La];rfl
 ·unfold Tm;rw[Lf];show(lh::ld::lf::fr::l1::l2::as.flatMap Fa.l).Nodup;have nn:∀x,x∉Tm lh ld lf as->x≠lh/\x≠ld/\x≠lf/\x∉as.flatMap Fa.l:=λx hx=>by
   unfold Tm at hx;simp only[Ku,not_or]at hx;exact hx
  obtain⟨a1,a2,a3,a4⟩:=nn _ o0;obtain⟨b1,b2,b3,b4⟩:=nn _ o1;obtain⟨c1,c2,c3,c4⟩:=nn _ o2;have y1:lh∉as.flatMap Fa.l:=λm=>(n4 _ m).1 rfl;have y2:ld∉as.flatMap Fa.l:=λm=>(n4 _ m).2.1 rfl;have y3:lf∉as.flatMap Fa.l:=λm=>(n4 _ m).2.2 rfl;simp only[KW,Ku,not_or];exact⟨⟨n1,n2,a1.symm,b1.symm,c1.symm,y1⟩,⟨n3,a2.symm,b2.symm,c2.symm,y2⟩,⟨a3.symm,b3.symm,c3.symm,y3⟩,⟨d1,d2,a4⟩,⟨d3,b4⟩,c4,n5⟩
 obtain⟨b1,b2,b3,b4⟩:=t.bd
 refine⟨Ld b1,Ld b2,MH b3,λf hf=>?_⟩
 rcases Ku.mp hf with rfl|hf
 ·exact KY _
 exact Ld (b4 f hf)
end
section
variable{P:Program}{w:OX}{K:OQ}{mg:Str->Option ON}{base:O8}{A:Adr}{N:Nat->Str}
seal PE PA PS PSs PT PW
theorem fO.els{H H3:Hp}{lh ld lf l:OM}{as:List Fa}{a:Fa}{i:Nat}{h d:List Pt}{f:Zf}{fs:List Zf}{v:V}{xo:List V}(t:fO A N H lh ld lf (a::as) ⟨h,d,f::fs⟩ i)(q2:bZ N (del (Tm lh ld lf (a::as)) H) v f.op)(q4:H a.lr=UT (.lst xo))(q6:aG A N (del (Tm lh ld lf (a::as)) H) xo f.rows)(l0:H l=UU)(k:∀x o,x≠a.fr->H x=UT o->H3 x=UT o)(e1:H3 a.fr=UT (.dK (frT f.n v a.lr l)))(e2:H3 l=UT (.lst [])) :
  fO A N H3 lh ld lf (⟨a.fr,a.lr,l⟩::as) ⟨h,d,⟨f.n,f.op,f.rows,[]⟩::fs⟩ (i+1)/\Go (Tm lh ld lf (a::as)) H (Tm lh ld lf (⟨a.fr,a.lr,l⟩::as)) H3:=by
 obtain⟨n1,n2,n3,n4,n5⟩:=tm3 t.nd
 obtain⟨m1,m2,m3,m4,m5⟩:=yX n5
 have al:=t.al
 have ol:l∉Tm lh ld lf (a::as):=λm=>al _ m l0
 have imf:a.fr∈(a::as).flatMap Fa.l:=ka Kv (by simp[Fa.l])
 have imr:a.lr∈(a::as).flatMap Fa.l:=ka Kv (by simp[Fa.l])
 obtain⟨k1,k2,k3⟩:=n4 _ imf
 obtain⟨r1,r2,r3⟩:=n4 _ imr
 have g:Go (Tm lh ld lf (a::as)) H (Tm lh ld lf (⟨a.fr,a.lr,l⟩::as)) H3:=by
  refine⟨λx o m e=>k x o (λz=>m ?_) e,λx m=>?_⟩
  ·rw[z];unfold Tm;simp only[Ku];exact .inr (.inr (.inr imf))
  unfold Tm at m;simp only[Ku,Lf,KA,Fa.l,KD,or_false]at m;unfold Tm;simp only[Ku,Lf,KA,Fa.l,KD,or_false];rcases m with m|m|m|(m|m|m)|m
  ·exact .inl (.inl m)
  ·exact .inl (.inr (.inl m))
  ·exact .inl (.inr (.inr (.inl m)))
  ·exact .inl (.inr (.inr (.inr (.inl (.inl m)))))
  ·exact .inl (.inr (.inr (.inr (.inl (.inr (.inr m))))))
  ·exact .inr (by rw[m];exact l0)
  exact .inl (.inr (.inr (.inr (.inr m))))
 have sx:=g.same
 obtain⟨x1,h1,p1⟩:=t.hh
 obtain⟨x2,h2,p2⟩:=t.hd
 refine⟨?_,g⟩
 have hf:=t.hf
 rw[LP,La]at hf
 cases t.fr with
 |cons q r=>
  refine⟨⟨x1,k _ _ k1.symm h1,aG.same sx _ _ p1⟩,⟨x2,k _ _ k2.symm h2,aG.same sx _ _ p2⟩,?_,.cons ⟨v,xo,[],e1,q2.same sx,k _ _ m2.symm q4,e2,aG.same sx _ _ q6,aG.nil⟩ (Paired.mapM r λb q hb r=>r.go sx λy hy o z=>k _ _ (m4 y (ka hb hy)).1 z),?_,?_⟩
  ·rw[LP,La];exact k _ _ k3.symm hf
  ·unfold Tm;rw[Lf];show(lh::ld::lf::a.fr::a.lr::l::as.flatMap Fa.l).Nodup;unfold Tm at ol;simp only[Ku,Lf,KA,Fa.l,KD,or_false,not_or]at ol;obtain⟨c1,c2,c3,⟨c4,c5,c6⟩,c7⟩:=ol;have sub:∀x,x∈as.flatMap Fa.l->x∈(a::as).flatMap Fa.l:=λx m=>by rw[Lf];exact KR _ m
   have y1:lh∉as.flatMap Fa.l:=λm=>(n4 _ (sub _ m)).1 rfl;have y2:ld∉as.flatMap Fa.l:=λm=>(n4 _ (sub _ m)).2.1 rfl;have y3:lf∉as.flatMap Fa.l:=λm=>(n4 _ (sub _ m)).2.2 rfl;have y4:a.fr∉as.flatMap Fa.l:=λm=>(m4 _ m).1 rfl;have y5:a.lr∉as.flatMap Fa.l:=λm=>(m4 _ m).2.2 rfl;simp only[KW,Ku,not_or];exact⟨⟨n1,n2,k1.symm,r1.symm,Lv c1,y1⟩,⟨n3,k2.symm,r2.symm,Lv c2,y2⟩,⟨k3.symm,r3.symm,Lv c3,y3⟩,⟨m2,Lv c4,y4⟩,⟨Lv c6,y5⟩,c7,m5⟩
  obtain⟨b1,b2,b3,b4⟩:=t.bd
  refine⟨Ld b1,Ld b2,Ld b3,λf' hf=>?_⟩
  rcases Ku.mp hf with rfl|hf
  ·exact KY _
  exact Ld (b4 f' (Kx _ hf))
def yg(A:Adr)(N:Nat->Str)(X:Hp)(v:V)(hs ds ms:List Pt):Prop:=∃a dx n0 n1 n2 x0 x1 x2,v=.ref a/\X a=UT (.ins A.Program dx [("heads",.ref n0),("deeds",.ref n1),("main",.ref n2)])/\X n0=UT (.lst x0)/\X n1=UT (.lst x1)/\X n2=UT (.lst x2)/\aG A N X x0 hs/\aG A N X x1 ds/\aG A N X x2 ms
theorem yg.same{X X':Hp}(s:aq X X'){v:V}{hs ds ms:List Pt}(h:yg A N X v hs ds ms):yg A N X' v hs ds ms:=by
 obtain⟨a,dx,n0,n1,n2,x0,x1,x2,e,h1,h2,h3,h4,h5,h6,h7⟩:=h;exact⟨a,dx,n0,n1,n2,x0,x1,x2,e,s _ _ h1,s _ _ h2,s _ _ h3,s _ _ h4,aG.same s _ _ h5,aG.same s _ _ h6,aG.same s _ _ h7⟩
abbrev op4:List V:=[.str "if",.str "loop",.str "deed",.str "main"]
theorem Fh(r:Lr):inV (.str r.w) op4=r.xZ:=by
 cases r<;>(first|exact(show inV (V.str "hand") op4=false by decide)|exact(show inV (V.str "given") op4=false by decide)|exact(show inV (V.str "own") op4=false by decide)|exact(show inV (V.str "let") op4=false by decide)|exact(show inV (V.str "set") op4=false by decide)|exact(show inV (V.str "put") op4=false by decide)|exact(show inV (V.str "send") op4=false by decide)|exact(show inV (V.str "say") op4=false by decide)|exact(show inV (V.str "call") op4=false by decide)|exact(show inV (V.str "last") op4=false by decide)|exact(show inV (V.str "if") op4=true by decide)|exact(show inV (V.str "loop") op4=true by decide)|exact(show inV (V.str "else") op4=false by decide)|exact(show inV (V.str "end") op4=false by decide)|exact(show inV (V.str "deed") op4=true by decide)|exact(show inV (V.str "main") op4=true by decide))
theorem ve{r:Lr}(b:r.mj=true)(c:r.xZ=true):False:=by
 cases r<;>first|exact MI b|exact MI c
theorem CC{r:Lr}(b:r.mj=true):r.w≠"else"/\r.w≠"end":=by
 cases r with
 |hand _ _=>exact(show("hand":Str)≠"else"/\("hand":Str)≠"end" by decide)
 |giv _ _ _=>exact(show("given":Str)≠"else"/\("given":Str)≠"end" by decide)
 |own _ _=>exact(show("own":Str)≠"else"/\("own":Str)≠"end" by decide)
 |lt _ _=>exact(show("let":Str)≠"else"/\("let":Str)≠"end" by decide)
 |set _ _=>exact(show("set":Str)≠"else"/\("set":Str)≠"end" by decide)
 |put _ _ _=>exact(show("put":Str)≠"else"/\("put":Str)≠"end" by decide)
 |snd _ _=>exact(show("send":Str)≠"else"/\("send":Str)≠"end" by decide)
 |say _ _ _=>exact(show("say":Str)≠"else"/\("say":Str)≠"end" by decide)
 |call _ _=>exact(show("call":Str)≠"else"/\("call":Str)≠"end" by decide)
 |last=>exact(show("last":Str)≠"else"/\("last":Str)≠"end" by decide)
 |_=>exact MI b
theorem E7{r:Lr}(b:r.Az=true):r.w≠"main":=by
 cases r with
 |iff _ _ _=>exact(show("if":Str)≠"main" by decide)
 |loop _ _ _ _=>exact(show("loop":Str)≠"main" by decide)
 |fU _ _=>exact(show("deed":Str)≠"main" by decide)
 |_=>exact MI b
theorem Bs{X:Hp}{v:V}{r:Lr}(h:bZ N X v r):∃t xs,v=.ref t/\X t=UT (.tup (.str r.w::xs)):=by
 obtain⟨t,p,e,h1,_⟩:=h;exact⟨t,_,e,h1⟩
inductive zd(A:Adr)(vs:List V)(H:Hp)(Q:VK)(Z:XK):Prop
 |mk(N:Nat->Str)(LR:OM)(rows:List V)(body:List Lr)(n:Int)(fo hs ds ms:List Pt):vs=[.ref LR]->H LR=UT (.lst rows)->Paired (bZ N H) rows (body++[.fin])->iQ 0 ⟨[],[],[]⟩ body ⟨hs,ds,[⟨n,.main,fo,ms⟩]⟩->body.length<=500->(∀(v:V)(H':Hp),aq H H'->yg A N H' v hs ds ms->Q v H')->zd A vs H Q Z
inductive IvT(A:Adr)(N:Nat->Str)(LR lh ld lf:OM)(body:List Lr)(H:Hp)(hs ds fo ms:List Pt)(n:Int)(i:Nat)(σ:St)(Hc:Hp):Prop
 |mk(as:List Fa)(z:Zs)(v4 v5 v6 v7:Option V):σ=[UT (.ref LR),UT (.ref lh),UT (.ref ld),UT (.ref lf),v4,v5,v6,v7]->i<=body.length->Go [] H (Tm lh ld lf as) Hc->fO A N Hc lh ld lf as z i->iQ i z (body.drop i) ⟨hs,ds,[⟨n,.main,fo,ms⟩]⟩->IvT A N LR lh ld lf body H hs ds fo ms n i σ Hc
theorem Gk(T:Txt K mg A):Has P w K mg base 6 "_law_tree" ["_law_rows"] (zd A):=by
 have Oa:=@qz P w _ _ base _ T;have NN:=@wZ P w _ _ base _ T;have NX:=@uX P w _ _ base _ T;refine T.wN.has (k:=5) cX (λvs H Q E h=>?_) (λf cdv A' outer s H vs Q E' hr hu h=>?_)
 ·obtain⟨N,LR,rows,body,n,fo,hs,ds,ms,rfl,_⟩:=h;rfl
 obtain⟨N,LR,rows,body,n,fo,hs,ds,ms,rfl,hLR,pr,st,bl,q⟩:=h;have lr:rows.length=body.length+1:=by
  have:=OU pr;rw[this,Kz];rfl
 refine⟨_,(ae (pst 1 cX.nd (bR af))
 (ae (pst 2 cX.nd (bR af))
 (ae (pst 3 cX.nd (bR af))
 (ae (dP O1 rfl (fq rfl T.fE (pcB bS T.cD (fv 0^af)^af)) (pgn (i:=4) cX.nd rfl)
  (ae (pst 5 cX.nd (px hu (px hu (fv 0) (fv 4)) ab))
  (aj (aM (ptc (Co hu) (fv 5) (bb (ao^ao^ao^ao^af)) ((by with_unfolding_all rfl)))
   (aj (aK (cI (fv 3) ((qf (cw ao (ax bz (fv 4) ab) (cw ao (px hu (fv 0) (fv 4)) (cw ao (bR af) (cw ao (bR af) (qg))))) rfl rfl (by intro z;cases z) ∅)^af))))
   (aj (aM (ptc (bj hu) (fv 5) ao)
    (ae (bu (px hu (px hu (fv 3) (iL fk ab)) ao) (bC (px hu (fv 3) (iL fk ab)) ao (bD hu UX)))
    (aj (bu (bR af) (bC (px hu (fv 3) (iL fk ab)) ao (bD hu UX)))))
    (aj (aM (ptc (bj hu) (fv 5) ao)
     (ae (pst 6 cX.nd (Fs (fv 3)))
     (ae (aM (ptc (bj hu) (px hu (px hu (fv 6) ao) ab) ao)
      (aj (aA (cN T.dC Oa hr (fv 1^fv 2^px hu (fv 6) ao^af))))
      aC)
     (ae (pst 7 cX.nd (fv 2))
     (ae (aM (ptc rR (pcB bS T.cD (fv 3^af)) ab)
      (aj (pst 7 cX.nd (px hu (px hu (fv 3) (iL fk ab)) ao)))
      aC)
     (aj (aK (cI (fv 7) (ar NX hr (fv 6^af)^af))))))))
     (aj (aM (ptc (bj hu) (pcB bS T.cD (fv 3^af)) ab)
      (aj (aK (cI (fv 1) (ar NN hr (ax bz (fv 4) ab^px hu (fv 0) (fv 4)^af)^af))))
      (aj (aK (cI (px hu (px hu (fv 3) (iL fk ab)) ao) (ar NN hr (ax bz (fv 4) ab^px hu (fv 0) (fv 4)^af)^af))))))))))))))
 (aj (aA d5)))))),?_⟩
 refine ah λM1 K1=>⟨KY _,λlh hlh=>?_⟩;obtain⟨s1,e1⟩:=alc hlh (HO.lst []);generalize upd H lh _=H1 at s1 e1⊢;refine K1 _ _ ?_;clear K1 M1;try dsimp only
 refine ah λM1 K1=>⟨KY _,λld hld=>?_⟩;obtain⟨s2,e2⟩:=alc hld (HO.lst []);generalize upd H1 ld _=H2 at s2 e2⊢;refine K1 _ _ ?_;clear K1 M1;try dsimp only
 refine ah λM1 K1=>⟨KY _,λlf hlf=>?_⟩;obtain⟨s3,e3⟩:=alc hlf (HO.lst []);generalize upd H2 lf _=H3 at s3 e3⊢;have s03:=(s1.trans s2).trans s3;have d0:H ld=UU:=aq.free s1 hld;have f0:H lf=UU:=aq.free (s1.trans s2) hlf;have g3:Go [] H (Tm lh ld lf []) H3:=(Go.new s03).to λx m=>by
  simp only[Tm,Ua,Ku,KD,or_false]at m;rcases m with m|m|m
  ·exact .inr (.inr (by rw[m];exact hlh))
  ·exact .inr (.inr (by rw[m];exact d0))
  exact .inr (.inr (by rw[m];exact f0))
 have T3:fO A N H3 lh ld lf [] ⟨[],[],[]⟩ 0:=by
  have hd:ld≠lh:=UW hld e1;have hf1:lf≠lh:=UW hlf (s2 _ _ e1);have hf2:lf≠ld:=UW hlf e2;refine⟨⟨[],(s2.trans s3) _ _ e1,aG.nil⟩,⟨[],s3 _ _ e2,aG.nil⟩,e3,.nil,?_,⟨KI _,KI _,KI _,λf m=>(by cases m)⟩⟩;simp[Tm,hd.symm,hf1.symm,hf2.symm]
 clear s1 s2 s3 e1 e2 e3 hld hlf hlh;refine K1 _ _ ?_;clear K1 M1;try dsimp only
 refine ah λM1 K1=>lnl (s03 _ _ hLR) ⟨_,rfl,by rw[lr];omega,by rw[lr];omega,?_⟩;rw[LA];refine ik (lo:=0) (IvT A N LR lh ld lf body H hs ds fo ms n) ⟨[],_,UU,UU,UU,UU,rfl,KY _,g3,T3,st⟩ ?_ ?_
 ·rintro i σ Hc hi ⟨as,z,v4,v5,v6,v7,rfl,ib,gc,Tc,st⟩;have sx:aq H (del (Tm lh ld lf as) Hc):=λx o e=>gc.same _ _ (aN (λm=>by cases m) e);have sc:aq H Hc:=sx.trans aB;obtain⟨v,hv⟩:∃v,rows[i]?=UT v:=⟨_,Kw hi⟩;obtain⟨r,hr',la⟩:=bw pr hv;have la:=la.same sx;obtain⟨t,p,rfl,et0,ep⟩:=la;have la:bZ N (del (Tm lh ld lf as) Hc) (.ref t) r:=⟨t,p,rfl,et0,ep⟩;have et:=SqT.of (K:=K) (bq et0).2;have ai:atI rows (0+(i:Int))=UT (.ref t):=by rw[MC];exact d6 hv
  have ai':∀Hx,aq Hc Hx->SqL K Hx LR rows:=λHx zz=>SqL.of (zz _ _ (sc _ _ hLR));try dsimp only
  refine ah λN1 J1=>lix (ai' _ (aq.refl _)) ai (tix (j:=0) et rfl (J1 _ _ ?_));clear J1 N1;try dsimp only
  refine⟨by show 4<=sizeLine;decide,λtp htp=>?_⟩;obtain⟨sd,ed⟩:=alc htp (HO.tup op4);generalize upd Hc tp _=Hd at sd ed⊢;have Td:=Tc.same sd;have gd:Go [] H (Tm lh ld lf as) Hd:=gc.trans (Go.new sd);have lad:bZ N (del (Tm lh ld lf as) Hd) (.ref t) r:=la.same (Go.new sd).same;have etd:=SqT.of (K:=K) (sd _ _ (bq et0).2);have b6:i<=500:=()
  clear Tc gc la htp;refine KJ ⟨_,Lg (SqT.of ed),rfl,rfl,_,rfl,aE (λc=>?_) (λc=>?_)⟩
  ·
   have c':r.xZ=true:=by rw[<-Fh];exact c
   rcases j8 hr' with⟨hb,il⟩|⟨_,rfl⟩;rotate_left
   ·cases c'
   have ed':body.drop i=r::body.drop (i+1):=by rw[LY il,(KH.mp hb).2]
   rw[ed']at st;refine⟨KJ ⟨rfl,_,SqL.of Td.hf⟩,λfr hfr=>?_⟩;obtain⟨s1,e1⟩:=alc hfr (HO.dK []);generalize upd Hd fr _=X1 at s1 e1⊢;refine lix (ai' _ (sd.trans s1)) ai ⟨KY _,λl1 hl1=>?_⟩;obtain⟨s2,e2⟩:=alc hl1 (HO.lst []);generalize upd X1 l1 _=X2 at s2 e2⊢;refine⟨KY _,λl2 hl2=>?_⟩;obtain⟨s3,e3⟩:=alc hl2 (HO.lst []);generalize upd X2 l2 _=X3 at s3 e3⊢;refine⟨(s2.trans s3) _ _ e1,[((.inr "number":Key),.int (0+(i:Int)+1)),(.inr "row",.ref t),(.inr "first",.ref l1),(.inr "rows",.ref l2)],rfl,(show 4<=15 by decide),?_⟩;rw[show cz [] [((.inr "number":Key),V.int (0+(i:Int)+1)),(.inr "row",.ref t),(.inr "first",.ref l1),(.inr "rows",.ref l2)]=frT ((i:Int)+1) (.ref t) l1 l2 by rw[MC];rfl];have n1:l1≠fr:=UW hl1 e1;have n2:l2≠fr:=UW hl2 (s2 _ _ e1);have n3:l2≠l1:=UW hl2 e2;have k4:aq Hd (upd X3 fr (.dK (frT ((i:Int)+1) (.ref t) l1 l2))):=aq.out ((s1.trans s2).trans s3) hfr _;have T4:∀fs h d,z=⟨h,d,fs⟩->fO A N _ lh ld lf (⟨fr,l1,l2⟩::as) ⟨h,d,⟨(i:Int)+1,r,[],[]⟩::fs⟩ (i+1):=λfs h d e=>fO.opn (H:=Hd) (by rw[<-e];exact Td) k4 hfr (aq.free s1 hl1) (aq.free (s1.trans s2) hl2) n1.symm n2.symm n3.symm ak (ag n1 (s3 _ _ e2)) (ag n2 e3) lad;refine⟨_,_,_,rfl,rfl,k4 _ _ Td.hf,az (by have:=Td.bd.2.2.1;have:=OU Td.fr;rw[Ky,List.length_reverse];omega),?_⟩;have g4:Go [] H (Tm lh ld lf (⟨fr,l1,l2⟩::as)) (upd (upd X3 fr (.dK (frT ((i:Int)+1) (.ref t) l1 l2))) lf (.lst ((as.reverse.map λa=>V.ref a.fr)++[.ref fr]))):=(gd.trans ((Go.new k4).trans (Go.at (by simp[Tm]) _))).to λx m=>by
    unfold Tm at m;simp only[Ku,Lf,KA,Fa.l,KD,or_false]at m;unfold Tm;simp only[Ku];rcases m with m|m|m|(m|m|m)|m
    ·exact .inl (.inl m)
    ·exact .inl (.inr (.inl m))
    ·exact .inl (.inr (.inr (.inl m)))
    ·exact .inr (.inr (by rw[m];exact aq.free (sc.trans sd) hfr))
    ·exact .inr (.inr (by rw[m];exact aq.free ((sc.trans sd).trans s1) hl1))
    ·exact .inr (.inr (by rw[m];exact aq.free (((sc.trans sd).trans s1).trans s2) hl2))
    exact .inl (.inr (.inr (.inr m)))
   obtain⟨s',h1,h2⟩:=st.inv;obtain rfl:=h1.inv1 c' (λb=>ve b c');exact⟨_,_,_,_,_,_,rfl,il,g4,T4 _ _ _ rfl,h2⟩
  have c':r.xZ=false:=by
   rw[<-Fh];exact Mt.mpr c
  clear c;rcases j8 hr' with⟨hb,il⟩|⟨ie,rfl⟩
  ·have ed':body.drop i=r::body.drop (i+1):=by rw[LY il,(KH.mp hb).2]
   rw[ed']at st;obtain⟨s',h1,h2⟩:=st.inv;rcases h1.inv c' with⟨h,d,f,fs,rfl,rfl,rfl⟩|⟨h,d,f,g,fs,b,rfl,rfl,rfl⟩|⟨h,d,f,b,rfl,rfl,rfl⟩|⟨h,d,b,rfl,rfl⟩|⟨h,d,f,fs,b,rfl,rfl⟩
   ·
     have fr:=Td.fr
     cases as with
     |nil=>cases fr
     |cons a as=>
     cases fr with
     |cons fa fr=>
     obtain⟨v,xf,xo,q1,q2,q3,q4,q5,q6⟩:=fa
     have lst:atI ((a::as).reverse.map λa=>V.ref a.fr) (-1)=UT (.ref a.fr):=by
      rw[LP,La];exact rF _ _
     obtain⟨n1,n2,n3,n4,n5⟩:=tm3 Td.nd
     have imf:a.fr∈(a::as).flatMap Fa.l:=ka Kv (by simp[Fa.l])
     obtain⟨k1,k2,k3⟩:=n4 _ imf
     refine⟨rfl,_,rfl,aE (λ_=>?_) (λz=>absurd rfl (dw z))⟩
     refine ah λN1 J1=>⟨_,rfl,(lix (SqL.of Td.hf) lst (dgk q1 rfl ⟨_,rfl,(lix (SqL.of Td.hf) lst ⟨_,cP.k (k:=.inr "first") q1 (show 4<sizeLine by decide),J1 _ _ ?_⟩)⟩))⟩
     clear J1 N1
     rw[show UZ (frT f.n v a.lf a.lr) (.inr "first") (.ref a.lr)=frT f.n v a.lr a.lr from rfl]
     have hf1:=ag (u:=.dK (frT f.n v a.lr a.lr)) k3.symm Td.hf
     refine⟨KY _,λl hl=>?_⟩
     have lfr:l≠a.fr:=UW hl ak
     have l0:Hd l=UU:=by rw[aw lfr]at hl;exact hl
     have llf:l≠lf:=UW l0 Td.hf
     refine⟨_,rfl,(lix (SqL.of (ag llf.symm hf1)) lst ⟨_,cP.k (k:=.inr "rows") (ag lfr.symm ak) (show 4<sizeLine by decide),?_⟩)⟩
     rw[show UZ (frT f.n v a.lr a.lr) (.inr "rows") (.ref l)=frT f.n v a.lr l from rfl]
     obtain⟨T5,g5⟩:=Td.els (H3:=upd (upd (upd Hd a.fr (.dK (frT f.n v a.lr a.lr))) l (.lst [])) a.fr (.dK (frT f.n v a.lr l))) q2 q4 q6 l0 (λx o h e=>ag h (ag (λz=>by rw[z,l0]at e;cases e) (ag h e))) ak (ag lfr ak)
     exact⟨_,_,_,_,_,_,rfl,il,gd.trans g5,T5,h2⟩
   ·
     have fr:=Td.fr
     cases as with
     |nil=>cases fr
     |cons a as=>
     cases as with
     |nil=>cases fr with|cons _ fr=>cases fr
     |cons a2 as=>
     obtain⟨Tp,v,xf,xo,q1,q2,q3,q4,q5,q6⟩:=Td.pop
     have dl:((a::a2::as).reverse.map λa=>V.ref a.fr).dropLast=(a2::as).reverse.map λa=>V.ref a.fr:=by
      rw[LP,La];exact Sa
     refine⟨rfl,_,rfl,aE (λz=>absurd (aP z) (show ¬ ("end":Str)="else" by decide)) (λ_=>⟨rfl,_,rfl,aE (λ_=>?_) (λz=>absurd rfl (dw z))⟩)⟩
     refine ah λN1 J1=>⟨KJ ⟨rfl,_,SqL.of Td.hf⟩,_,_,.ref a.fr,rfl,rfl,Td.hf,(by rw[LP,La];exact vC _ _),J1 _ _ ?_⟩
     clear J1 N1
     rw[dl]
     have alp:∀m∈Tm lh ld lf (a::a2::as),upd Hd lf (.lst ((a2::as).reverse.map λa=>V.ref a.fr)) m≠UU:=λm hm e=>by
      by_cases z:m=lf
      ·rw[z,ak]at e;cases e
      rw[aw z]at e;exact Td.al m hm e
     have gp:Go [] H (Tm lh ld lf (a::a2::as)) (upd Hd lf (.lst ((a2::as).reverse.map λa=>V.ref a.fr))):=gd.trans (Go.at (by simp[Tm]) _)
     generalize upd Hd lf (.lst ((a2::as).reverse.map λa=>V.ref a.fr))=Hp at Tp q1 q2 q3 q4 q5 q6 alp gp⊢
     obtain⟨t',xs',rfl,et'⟩:=Bs q2
     try dsimp only
     refine ah λN1 J1=>dgk q1 rfl (tix (j:=0) (SqT.of (bq et').2) rfl ⟨rfl,_,rfl,aE (λz=>absurd (aP z) (E7 b)) (λ_=>J1 _ _ ?_)⟩)
     clear J1 N1
     try dsimp only
     refine ah λN1 J1=>J1 _ _ ?_
     clear J1 N1
     try dsimp only
     refine ah λN1 J1=>lnl Tp.hf ⟨_,rfl,aE (λ_=>?_) (λz=>absurd (decide_eq_true (by simp)) z)⟩
     have lst:atI ((a2::as).reverse.map λa=>V.ref a.fr) (-1)=UT (.ref a2.fr):=by
      rw[LP,La];exact rF _ _
     have fr2:=Tp.fr
     cases fr2 with
     |cons fa fr2=>
     obtain⟨v',xf',xo',y1,y2,y3,y4,y5,y6⟩:=fa
     refine⟨_,rfl,(lix (SqL.of Tp.hf) lst (dgk y1 rfl (J1 _ _ ?_)))⟩
     clear J1 N1
     try dsimp only
     refine⟨KJ ⟨rfl,_,SqL.of y4⟩,N,Tm lh ld lf (a::a2::as),a.fr,a.lf,a.lr,f.n,.ref t',f.op,xf,xo,f.fst,f.rows,rfl,q1,q2,b,alp,q3,q4,q5,q6,λra Hq sq h0 hp=>?_⟩
     have Tq:=Tp.same sq
     have ly:xo'.length<=1000:=by
      have:=aG.len y6;have:=Tp.bd.2.2.2 g Kv;omega
     refine⟨_,_,_,rfl,rfl,sq _ _ y4,az ly,?_⟩
     have T6:=Tq.Fd (sq _ _ y4) (d9.same (λx o e=>aN (λm=>(bq e).1 (qy m)) (bq e).2) _ _ hp)
     have g6:Go [] H (Tm lh ld lf (a2::as)) (upd Hq a2.lr (.lst (xo'++[.ref ra]))):=(((gp.to λx m=>.inl (qy m)).trans (Go.new sq)).trans (Go.at (by unfold Tm;simp only[Ku];exact .inr (.inr (.inr (ka Kv (by simp[Fa.l]))))) _))
     exact⟨_,_,_,_,_,_,rfl,il,g6,T6,h2⟩
   ·
     have fr:=Td.fr
     cases as with
     |nil=>cases fr
     |cons a as=>
     cases as with
     |cons a2 as=>cases fr with|cons _ fr=>cases fr
     |nil=>
     obtain⟨Tp,v,xf,xo,q1,q2,q3,q4,q5,q6⟩:=Td.pop
     refine⟨rfl,_,rfl,aE (λz=>absurd (aP z) (show ¬ ("end":Str)="else" by decide)) (λ_=>⟨rfl,_,rfl,aE (λ_=>?_) (λz=>absurd rfl (dw z))⟩)⟩
     refine ah λN1 J1=>⟨KJ ⟨rfl,_,SqL.of Td.hf⟩,_,_,.ref a.fr,rfl,rfl,Td.hf,rfl,J1 _ _ ?_⟩
     clear J1 N1
     rw[show(([a].reverse.map λa=>V.ref a.fr).dropLast)=([]:List Fa).reverse.map λa=>V.ref a.fr from rfl]
     have alp:∀m∈Tm lh ld lf [a],upd Hd lf (.lst (([]:List Fa).reverse.map λa=>V.ref a.fr)) m≠UU:=λm hm e=>by
      by_cases z:m=lf
      ·rw[z,ak]at e;cases e
      rw[aw z]at e;exact Td.al m hm e
     have gp:Go [] H (Tm lh ld lf [a]) (upd Hd lf (.lst (([]:List Fa).reverse.map λa=>V.ref a.fr))):=gd.trans (Go.at (by simp[Tm]) _)
     generalize upd Hd lf (.lst (([]:List Fa).reverse.map λa=>V.ref a.fr))=Hp at Tp q1 q2 q3 q4 q5 q6 alp gp⊢
     obtain⟨t',xs',rfl,et'⟩:=Bs q2
     try dsimp only
     refine ah λN1 J1=>dgk q1 rfl (tix (j:=0) (SqT.of (bq et').2) rfl ⟨rfl,_,rfl,aE (λz=>absurd (aP z) (E7 b)) (λ_=>J1 _ _ ?_)⟩)
     clear J1 N1
     try dsimp only
     refine ah λN1 J1=>J1 _ _ ?_
     clear J1 N1
     try dsimp only
     refine ah λN1 J1=>lnl Tp.hf ⟨_,rfl,aE (λz=>absurd (of_decide_eq_true z) (by simp)) (λ_=>J1 _ _ ?_)⟩
     clear J1 N1
     try dsimp only
     obtain⟨xd,ed1,pd⟩:=Tp.hd
     refine⟨KJ ⟨rfl,_,SqL.of ed1⟩,N,Tm lh ld lf [a],a.fr,a.lf,a.lr,f.n,.ref t',f.op,xf,xo,f.fst,f.rows,rfl,q1,q2,b,alp,q3,q4,q5,q6,λra Hq sq h0 hp=>?_⟩
     have Tq:=Tp.same sq
     have ly:xd.length<=1000:=by
      have h1:=aG.len pd;have h2:=Tp.bd.2.1;rw[h1];exact KS h2 ()
     refine⟨_,_,_,rfl,rfl,sq _ _ ed1,az ly,?_⟩
     have T6:=Tq.Ju (sq _ _ ed1) (d9.same (λx o e=>aN (λm=>(bq e).1 (qy m)) (bq e).2) _ _ hp)
     have g6:Go [] H (Tm lh ld lf []) (upd Hq ld (.lst (xd++[.ref ra]))):=(((gp.to λx m=>.inl (qy m)).trans (Go.new sq)).trans (Go.at (by simp[Tm]) _))
     exact⟨_,_,_,_,_,_,rfl,il,g6,T6,h2⟩
   ·
     have fr:=Td.fr
     cases as with
     |cons a as=>cases fr
     |nil=>
     obtain⟨w1,w2⟩:=CC b
     refine⟨rfl,_,rfl,aE (λz=>absurd (aP z) w1) (λ_=>⟨rfl,_,rfl,aE (λz=>absurd (aP z) w2) (λ_=>lnl Td.hf ⟨rfl,_,rfl,aE (λ_=>?_) (λz=>absurd (decide_eq_true rfl) z)⟩)⟩)⟩
     obtain⟨xd,ed1,pd⟩:=Td.hh
     refine⟨KJ ⟨rfl,_,SqL.of ed1⟩,(lix (ai' _ sd) ai ⟨N,Tm lh ld lf [],_,_,r,rfl,lad,b,Td.al,λra Hq sq h0 hp=>?_⟩)⟩
     have Tq:=Td.same sq
     have ly:xd.length<=1000:=by
      have h1:=aG.len pd;have h2:=Td.bd.1;rw[h1];exact KS h2 ()
     refine⟨_,_,_,rfl,rfl,sq _ _ ed1,az ly,?_⟩
     rw[MC]at hp
     have T6:=Tq.Jk (sq _ _ ed1) (p:=.leaf ((i:Int)+1) r) (by unfold d9;exact hp)
     have g6:Go [] H (Tm lh ld lf []) (upd Hq lh (.lst (xd++[.ref ra]))):=((gd.trans (Go.new sq)).trans (Go.at (by simp[Tm]) _))
     exact⟨_,_,_,_,_,_,rfl,il,g6,T6,h2⟩
   have fr:=Td.fr;cases as with
   |nil=>cases fr
   |cons a as=>
   cases fr with
   |cons fa fr=>
   obtain⟨v,xf,xo,q1,q2,q3,q4,q5,q6⟩:=fa;have lst:atI ((a::as).reverse.map λa=>V.ref a.fr) (-1)=UT (.ref a.fr):=by
    rw[LP,La];exact rF _ _
   obtain⟨w1,w2⟩:=CC b;refine⟨rfl,_,rfl,aE (λz=>absurd (aP z) w1) (λ_=>⟨rfl,_,rfl,aE (λz=>absurd (aP z) w2) (λ_=>lnl Td.hf ⟨rfl,_,rfl,aE (λz=>absurd (of_decide_eq_true z) (λy=>by have:=V.int.inj y;simp at this;omega)) (λ_=>⟨_,rfl,(lix (SqL.of Td.hf) lst (dgk q1 rfl ⟨KJ ⟨rfl,_,SqL.of q4⟩,(lix (ai' _ sd) ai ⟨N,Tm lh ld lf (a::as),_,_,r,rfl,lad,b,Td.al,λra Hq sq h0 hp=>?_⟩)⟩))⟩)⟩)⟩)⟩;have Tq:=Td.same sq;have ly:xo.length<=1000:=by
    have h1:=aG.len q6;have h2:=Td.bd.2.2.2 f Kv;omega
   refine⟨_,_,_,rfl,rfl,sq _ _ q4,az ly,?_⟩;rw[MC]at hp;have T6:=Tq.Fd (sq _ _ q4) (p:=.leaf ((i:Int)+1) r) (by unfold d9;exact hp);have g6:Go [] H (Tm lh ld lf (a::as)) (upd Hq a.lr (.lst (xo++[.ref ra]))):=((gd.trans (Go.new sq)).trans (Go.at (by unfold Tm;simp only[Ku];exact .inr (.inr (.inr (ka Kv (by simp[Fa.l]))))) _));exact⟨_,_,_,_,_,_,rfl,il,g6,T6,h2⟩
  rw[ie,List.drop_length]at st;obtain rfl:=st.J0;have fr:=Td.fr;cases as with
  |nil=>cases fr
  |cons a as=>
  cases as with
  |cons a2 as=>cases fr with|cons _ fr=>cases fr
  |nil=>
  obtain⟨Tp,v,xf,xo,q1,q2,q3,q4,q5,q6⟩:=Td.pop;refine⟨rfl,_,rfl,aE (λz=>absurd (aP z) (show ¬ ("end":Str)="else" by decide)) (λ_=>⟨rfl,_,rfl,aE (λ_=>?_) (λz=>absurd rfl (dw z))⟩)⟩;refine ah λN1 J1=>⟨KJ ⟨rfl,_,SqL.of Td.hf⟩,_,_,.ref a.fr,rfl,rfl,Td.hf,rfl,J1 _ _ ?_⟩;clear J1 N1;rw[show(([a].reverse.map λa=>V.ref a.fr).dropLast)=([]:List Fa).reverse.map λa=>V.ref a.fr from rfl];have gp:Go [] H (Tm lh ld lf [a]) (upd Hd lf (.lst (([]:List Fa).reverse.map λa=>V.ref a.fr))):=gd.trans (Go.at (by simp[Tm]) _);generalize upd Hd lf (.lst (([]:List Fa).reverse.map λa=>V.ref a.fr))=Hp at Tp q1 q2 q3 q4 q5 q6 gp⊢;obtain⟨t',xs',rfl,et'⟩:=Bs q2;have sp:aq H Hp:=λx o e=>gp.o x o (λm=>by cases m) e;obtain⟨x1,h1,p1⟩:=Tp.hh;obtain⟨x2,h2,p2⟩:=Tp.hd;try dsimp only
  refine ah λN1 J1=>dgk q1 rfl (tix (j:=0) (SqT.of (bq et').2) rfl ⟨rfl,_,rfl,aE (λ_=>?_) (λz=>absurd rfl (dw z))⟩);refine dgk q1 rfl (λr6 dx hr6 hd_ hne_=>yM (SqL.of h1) (SqL.of h2) (SqL.of q4) hr6 hd_ λn6 n7 n8 H6 f6 f7 f8 s6 h6 h7 h8 hx=>⟨rfl,?_⟩);have s6':∀{M:List OM},aq (del M Hp) H6:=λx o e=>s6 _ _ (bq e).2;exact q _ H6 (sp.trans s6) ⟨r6,dx,n6,n7,n8,x1,x2,xo,rfl,hx,h6,h7,h8,aG.same s6' _ _ p1,aG.same s6' _ _ p2,aG.same s6' _ _ q6⟩
 rintro σ Hc ⟨as,z,v4,v5,v6,v7,rfl,ib,_⟩;exact absurd ib (by rw[lr];omega)
end
section
inductive Rw where
 |set (n:Int) (x:Nat) (v:Val)
 |put (n:Int) (x:Nat) (p:Th) (v:Val)
 |snd (n:Int) (h:Nat) (v:Val)
 |say (n:Int) (x:Nat) (v:Val) (m:Nat)
 |last (n:Int)
 |call (n:Int) (i:Nat) (ts:List Th)
 |iff (n:Int) (v:Val) (f o:List Rw) (l r:Int)
 |loop (n:Int) (t:Th) (m:Int) (b:List Rw) (l r:Int)
structure Dd where
 nm:Nat
 parts:List Nat
 body:List Rw
structure En where
 N:Nat->Str
 idx:List Nat
 sz:Nat->Nat
 ds:List Dd
 dv:List V
structure S where
 num:Nat->Int
 lst:Nat->List Int
 steps:Int
 trace:List (List V)
 eQ:List (List V)
 uT:List (List V)
variable{E:En}{s:S}{B:Int}
def Th.num(s:S):Th->Int
 | .i n=>n
 | .x a=>s.num a
def lat(xs:List Int)(i:Int):Int:=xs.getD (i%(xs.length:Int)).toNat 0
def Val.num(s:S):Val->Int
 | .one a=>a.num s
 | .op a w b=>rkn (a.num s) (b.num s) w
 | .atl x b=>lat (s.lst x) (b.num s)
def Th.okE(E:En):Th->Prop
 | .i n=>In n
 | .x a=>a∈E.idx/\E.sz a=0
def Val.okE(E:En):Val->Prop
 | .one a=>a.okE E
 | .op a w b=>a.okE E/\b.okE E/\w∈opW
 | .atl x b=>x∈E.idx/\0<E.sz x/\b.okE E
structure S.ok(E:En)(s:S):Prop where
 num:∀a,In (s.num a)
 lst:∀x,∀n∈s.lst x,In n
 len:∀x∈E.idx,0<E.sz x->(s.lst x).length=E.sz x
theorem GA{xs:List Int}(h:∀n∈xs,In n)(i:Int):In (lat xs i):=by
 unfold lat;rw[Ll];cases e:xs[(i%(xs.length:Int)).toNat]? with
 |none=>exact⟨∅,∅⟩
 |some n=>exact h n (KG e)
theorem Th.fh(hs:s.ok E){t:Th}(h:t.okE E):In (t.num s):=by
 cases t with
 |i n=>exact h
 |x a=>exact hs.num a
theorem Val.fh(hs:s.ok E){v:Val}(h:v.okE E):In (v.num s):=by
 cases v with
 |one a=>exact Th.fh hs h
 |op a w b=>exact GC (Th.fh hs h.1) (Th.fh hs h.2.1) w
 |atl x b=>exact GA (hs.lst x) _
def S.idle(s:S)(n:Int):S:={ s with steps:=s.steps+n }
def S.tell(s:S)(n:Int)(v:V):S:={ s with steps:=s.steps+1,trace:=s.trace++[[.int n,.int (s.steps+1),v]] }
def S.qQ(s:S)(w:List V):S:={ s with eQ:=s.eQ++[w] }
def S.sg(s:S)(w:List V):S:={ s with uT:=s.uT++[w] }
def S.put(s:S)(x:Nat)(v:Int):S:={ s with num:=λa=>if a=x then v else s.num a }
def S.yt(s:S)(x:Nat)(i v:Int):S:={ s with lst:=λa=>if a=x then(s.lst x).set (i%((s.lst x).length:Int)).toNat v else s.lst a }
def S.wY(s:S)(xs:List (Nat×Int)):S:=xs.foldl (λs p=>s.put p.1 p.2) s
def U0(body:S->S×Bool)(l:Int):Nat->Nat->S->S×Nat
 |0,k,s=>(s,k)
 |n+1,k,s=>if(body s).2=true then((body s).1.idle l,k+1)else U0 body l n (k+1) ((body s).1.idle l)
def step(f:S->Rw->S×Bool)(p:S×Bool)(r:Rw):S×Bool:=((f p.1 r).1,p.2||(f p.1 r).2)
def bU(f:S->Rw->S×Bool)(s:S)(xs:List Rw):S×Bool:=xs.foldl (step f) (s,false)
def leaf(N:Nat->Str)(s:S):Rw->S×Bool
 | .set n x v=>((s.tell n .non).put x (v.num s),false)
 | .put n x p v=>((s.tell n .non).yt x (p.num s) (v.num s),false)
 | .snd n h v=>((s.tell n (.int (v.num s))).qQ [.int (s.steps+1),.int n,.str (N h),.int (v.num s)],false)
 | .say n x v m=>(((s.tell n (.int (v.num s))).put x (v.num s)).sg [.int (s.steps+1),.int n,.str (N m),.int (v.num s)],false)
 | .last n=>(s.tell n .non,true)
 | .call n _ _=>(s.tell n .non,false)
 | .iff n _ _ _ _ _=>(s.tell n .non,false)
 | .loop n _ _ _ _ _=>(s.tell n .non,false)
def U6(s:S)(t:Th)(m:Int):Int:=if m<t.num s then m else t.num s
def doR(E:En):Nat->S->Rw->S×Bool
 |d+1,s,.call n i ts=>match E.ds[i]? with
  |some D=>((bU (doR E d) ((s.tell n .non).wY (D.parts.zip (ts.map (Th.num s)))) D.body).1,false)
  |none=>(s.tell n .non,false)
 |d+1,s,.iff n v f o l r=>if v.num s≠0 then((bU (doR E d) (s.tell n .non) f).1.idle l,(bU (doR E d) (s.tell n .non) f).2)else((bU (doR E d) (s.tell n .non) o).1.idle r,(bU (doR E d) (s.tell n .non) o).2)
 |d+1,s,.loop n t m b l r=>((U0 (λs=>bU (doR E d) s b) l (U6 s t m).toNat 0 (s.tell n .non)).1.idle (r*(m-(U0 (λs=>bU (doR E d) s b) l (U6 s t m).toNat 0 (s.tell n .non)).2)),false)
 |_,s,r=>leaf E.N s r
def aT(E:En):Nat->Rw->Int
 |d+1,.call _ i _=>match E.ds[i]? with
  |some D=>1+(D.body.map (aT E d)).sum
  |none=>1
 |d+1,.iff _ _ f o l r=>1+(if l+(f.map (aT E d)).sum<r+(o.map (aT E d)).sum then r+(o.map (aT E d)).sum else l+(f.map (aT E d)).sum)
 |d+1,.loop _ _ m b l r=>1+m*(if l+(b.map (aT E d)).sum<r then r else l+(b.map (aT E d)).sum)
 |_,_=>1
def Wf(E:En):Nat->Rw->Prop
 |_,.set _ x v=>x∈E.idx/\E.sz x=0/\v.okE E
 |_,.put _ x p v=>x∈E.idx/\0<E.sz x/\p.okE E/\v.okE E
 |_,.snd _ h v=>v.okE E/\h<3
 |_,.say _ x v _=>x∈E.idx/\E.sz x=0/\v.okE E
 |_,.last _=>True
 |d+1,.call _ i ts=>(∀t∈ts,t.okE E)/\ts.length<=4/\∃D,E.ds[i]?=UT D/\D.parts.length=ts.length/\∀r∈D.body,Wf E d r
 |d+1,.iff _ v f o l r=>v.okE E/\0<=l/\0<=r/\(∀q∈f,Wf E d q)/\∀q∈o,Wf E d q
 |d+1,.loop _ t m b l r=>t.okE E/\0<=m/\m<=1000/\0<=l/\0<=r/\∀q∈b,Wf E d q
 |0,.call _ _ _=>False
 |0,.iff _ _ _ _ _ _=>False
 |0,.loop _ _ _ _ _ _=>False
structure S.room(s:S)(B n:Int):Prop where
 st:s.steps+n<=B
 t:(s.trace.length:Int)<=s.steps
 l:(s.eQ.length:Int)<=s.steps
 d:(s.uT.length:Int)<=s.steps
theorem S.room.le{n m:Int}(h:s.room B n)(hm:m<=n):s.room B m:=⟨by have:=h.st;omega,h.t,h.l,h.d⟩
theorem ic{n:Int}(h:s.room B (1+n))(m:Int)(v:V):(s.tell m v).room B n:=⟨by have:=h.st;show s.steps+1+n<=_;omega,by have:=h.t;show((s.trace++[_]).length:Int)<=s.steps+1;rw[Kz];simp;omega,by have:=h.l;show(s.eQ.length:Int)<=s.steps+1;omega,by have:=h.d;show(s.uT.length:Int)<=s.steps+1;omega⟩
theorem kb{n l:Int}(h:s.room B (l+n))(h0:0<=l):(s.idle l).room B n:=⟨by have:=h.st;show s.steps+l+n<=_;omega,by have:=h.t;show(s.trace.length:Int)<=s.steps+l;omega,by have:=h.l;show(s.eQ.length:Int)<=s.steps+l;omega,by have:=h.d;show(s.uT.length:Int)<=s.steps+l;omega⟩
theorem xp{n:Int}(h:s.room B n)(x:Nat)(v:Int):(s.put x v).room B n:=⟨h.st,h.t,h.l,h.d⟩
theorem tD{n:Int}(h:s.room B n):∀xs:List (Nat×Int),(s.wY xs).room B n:=λxs=>by
 induction xs generalizing s with
 |nil=>exact h
 |cons p r ih=>exact ih (s:=s.put p.1 p.2) (xp h _ _)
theorem tj(E:En):∀(d:Nat)(r:Rw),Wf E d r->1<=aT E d r:=by
 have nn:∀(d:Nat)(xs:List Rw),(∀r∈xs,1<=aT E d r)->0<=(xs.map (aT E d)).sum:=λd xs h=>by
  induction xs with
  |nil=>exact Lb _
  |cons x r ih=>
   rw[KQ,Mg];have:=h x Kv;have:=ih λq hq=>h q (Kx _ hq);omega
 intro d;induction d with
 |zero=>intro r h;cases r<;>first|exact Lb _|exact h.elim
 |succ d ih=>
  intro r h;cases r with
  |call n i ts=>
   obtain⟨_,_,D,hD,_,hb⟩:=h;unfold aT;rw[hD];have:=nn d D.body λq hq=>ih q (hb q hq);show 1<=1+_;omega
  |iff n v f o l r=>
   obtain⟨_,h1,h2,h3,h4⟩:=h;unfold aT;have:=nn d f λq hq=>ih q (h3 q hq);have:=nn d o λq hq=>ih q (h4 q hq);split<;>omega
  |loop n t m b l r=>
   obtain⟨_,h1,_,h2,h3,h4⟩:=h;unfold aT;have:=nn d b λq hq=>ih q (h4 q hq);have:0<=m*(if l+(b.map (aT E d)).sum<r then r else l+(b.map (aT E d)).sum):=Lq h1 (by split<;>omega);omega
  |_=>exact Lb _
theorem oW(E:En){d:Nat}{xs:List Rw}(h:∀r∈xs,Wf E d r):0<=(xs.map (aT E d)).sum:=by
 induction xs with
 |nil=>exact Lb _
 |cons x r ih=>
  rw[KQ,Mg];have:=tj E d x (h x Kv);have:=ih λq hq=>h q (Kx _ hq);omega
theorem mT{E:En}{f:S->Rw->S×Bool}{c:Rw->Int}{p:Rw->Prop}(one:∀(s:S)(r:Rw)(n:Int),p r->s.room B (c r+n)->(f s r).1.room B n):∀(xs:List Rw)(s:S×Bool)(n:Int),(∀r∈xs,p r)->s.1.room B ((xs.map c).sum+n)->(xs.foldl (step f) s).1.room B n
 | [],s,n,_,h=>by simpa using h
 |r::xs,s,n,hp,h=>by
  rw[ML];refine mT (E:=E) one xs _ n (λq hq=>hp q (Kx _ hq)) (one s.1 r _ (hp r Kv) ?_);rw[KQ,Mg,Int.add_assoc]at h;exact h
theorem pJ{body:S->S×Bool}{c l:Int}(l0:0<=l)(one:∀(s:S)(n:Int),s.room B (c+n)->(body s).1.room B n)(c0:0<=c):∀(k j:Nat)(s:S)(n:Int),s.room B ((k:Int)*(l+c)+n)->((U0 body l k j s).1.room B ((k:Int)*(l+c)-((U0 body l k j s).2-j:Int)*(l+c)+n))/\j<=(U0 body l k j s).2/\(U0 body l k j s).2<=k+j
 |0,j,s,n,h=>by
  simp only[U0];refine⟨?_,KI _,()⟩;rw[Int.sub_self,Int.zero_mul,Int.sub_zero];exact h
 |k+1,j,s,n,h=>by
  have e:((k+1:Nat):Int)*(l+c)=(k:Int)*(l+c)+(l+c):=by rw[Ub,Nv,Nq]
  rw[e]at h⊢;have h1:((body s).1.idle l).room B ((k:Int)*(l+c)+n):=kb (one s _ (h.le ())) l0;simp only[U0];split
  ·refine⟨?_,by show j<=j+1;omega,by show j+1<=k+1+j;omega⟩;show S.room _ B ((k:Int)*(l+c)+(l+c)-(((j+1:Nat):Int)-j)*(l+c)+n);rw[show((j+1:Nat):Int)-j=1 by omega,Nq];exact h1.le ()
  obtain⟨i1,i2,i3⟩:=pJ l0 one c0 k (j+1) ((body s).1.idle l) n h1;refine⟨i1.le ?_,(),()⟩;have:(((U0 body l k (j+1) ((body s).1.idle l)).2:Int)-(j:Int))*(l+c)=(((U0 body l k (j+1) ((body s).1.idle l)).2:Int)-((j+1:Nat):Int))*(l+c)+(l+c):=by
   rw[show((U0 body l k (j+1) ((body s).1.idle l)).2:Int)-(j:Int)=(((U0 body l k (j+1) ((body s).1.idle l)).2:Int)-((j+1:Nat):Int))+1 by omega,Nv,Nq]
  omega
theorem hW(N:Nat->Str){n:Int}(h:s.room B (1+n))(r:Rw):(leaf N s r).1.room B n:=by
 have a:=λm v=>ic h m v;cases r with
 |set m x v=>exact xp (a m .non) _ _
 |put m x p v=>exact⟨(a m .non).st,(a m .non).t,(a m .non).l,(a m .non).d⟩
 |snd m x v=>
  have b:=a m (.int (v.num s));refine⟨b.st,b.t,?_,b.d⟩;have:=h.l;show((s.eQ++[_]).length:Int)<=s.steps+1;rw[Kz];simp;omega
 |say m x v y=>
  have b:=a m (.int (v.num s));refine⟨b.st,b.t,b.l,?_⟩;have:=h.d;show((s.uT++[_]).length:Int)<=s.steps+1;rw[Kz];simp;omega
 |last m=>exact a m .non
 |call m i ts=>exact a m .non
 |iff m v f o l r=>exact a m .non
 |loop m t k b l r=>exact a m .non
theorem zZ(s:S)(t:Th)(m:Int):U6 s t m<=m:=by unfold U6;split<;>omega
theorem EZ(hs:s.ok E){t:Th}(ht:t.okE E){m:Int}(hm:0<=m):0<=U6 s t m:=by
 have:=(Th.fh hs ht).1;unfold U6;split<;>omega
theorem qv(E:En):∀(d:Nat)(s:S)(r:Rw)(n:Int),Wf E d r->s.room B (aT E d r+n)->(doR E d s r).1.room B n:=by
 intro d;induction d with
 |zero=>intro s r n w h;cases r<;>first|exact hW E.N h _|exact w.elim
 |succ d ih=>
  intro s r n w h;have rows:∀(xs:List Rw)(s:S)(n:Int),(∀r∈xs,Wf E d r)->s.room B ((xs.map (aT E d)).sum+n)->(bU (doR E d) s xs).1.room B n:=λxs s n hw hr=>mT (E:=E) (p:=Wf E d) (λs r n w h=>ih s r n w h) xs (s,false) n hw hr;cases r with
  |call m i ts=>
   obtain⟨_,_,D,hD,_,hb⟩:=w;unfold aT at h;unfold doR;rw[hD]at h⊢;dsimp only at h⊢;exact rows D.body _ n hb (tD (ic (h.le ()) m .non) _)
  |iff m v f o l r=>
   obtain⟨_,h1,h2,h3,h4⟩:=w;unfold aT at h;unfold doR;have b1:1+(l+(f.map (aT E d)).sum)+n<=1+(if l+(f.map (aT E d)).sum<r+(o.map (aT E d)).sum then r+(o.map (aT E d)).sum else l+(f.map (aT E d)).sum)+n:=by split<;>omega
   have b2:1+(r+(o.map (aT E d)).sum)+n<=1+(if l+(f.map (aT E d)).sum<r+(o.map (aT E d)).sum then r+(o.map (aT E d)).sum else l+(f.map (aT E d)).sum)+n:=by split<;>omega
   split
   ·exact kb (rows f _ (l+n) h3 (ic (h.le ()) m .non)) h1
   exact kb (rows o _ (r+n) h4 (ic (h.le ()) m .non)) h2
  |loop m t k b l r=>
   obtain⟨_,h1,_,h2,h3,h4⟩:=w;unfold aT at h;unfold doR;have c0:=oW E h4;generalize hc:(b.map (aT E d)).sum=c at h c0;have mx:l+c<=(if l+c<r then r else l+c)/\r<=(if l+c<r then r else l+c):=by split<;>omega
   generalize (if l+c<r then r else l+c)=x at h mx;have wk:=zZ s t k;have kn:((U6 s t k).toNat:Int)<=k:=()
   have q1:((U6 s t k).toNat:Int)*(l+c)<=k*x:=MR (Ma kn ()) (Lh mx.1 h1);have q0:((U6 s t k).toNat:Int)*(l+c)+(k*x-((U6 s t k).toNat:Int)*(l+c)+n)=k*x+n:=()
   obtain⟨i1,i2,i3⟩:=pJ (body:=λs=>bU (doR E d) s b) (c:=c) h2 (λs n hh=>rows b s n h4 (by rw[hc];exact hh)) c0 (U6 s t k).toNat 0 (s.tell m .non) (k*x-((U6 s t k).toNat:Int)*(l+c)+n) (by rw[q0];exact ic (h.le ()) m .non);generalize U0 (λs=>bU (doR E d) s b) l (U6 s t k).toNat 0 (s.tell m .non)=q at i1 i2 i3;have j0:(0:Int)<=(q.2:Int):=()
   have jk:(q.2:Int)<=k:=()
   have r1:r*(k-(q.2:Int))<=x*(k-(q.2:Int)):=Ma mx.2 ();have r2:(q.2:Int)*(l+c)<=(q.2:Int)*x:=Lh mx.1 j0;have r3:x*(k-(q.2:Int))+(q.2:Int)*x=k*x:=by
    rw[Int.mul_sub,Int.mul_comm x k,Int.mul_comm x];omega
   have r4:0<=r*(k-(q.2:Int)):=Lq h3 ();refine kb (i1.le ?_) r4;rw[show((q.2:Int)-((0:Nat):Int))=(q.2:Int) by omega];omega
  |set m x v=>exact hW E.N h _
  |put m x p v=>exact hW E.N h _
  |snd m x v=>exact hW E.N h _
  |say m x v y=>exact hW E.N h _
  |last m=>exact hW E.N h _
end
section
variable{P:Program}{w:OX}{K:OQ}{mg:Str->Option ON}{base:O8}{A:Adr}{E:En}
def eA(A:Adr)(E:En)(X:Hp):Nat->V->Rw->Prop
 |_,v,.set n x val=>∃a dx p,v=.ref a/\X a=UT (.ins A.cB dx [("number",.int n),("name",.str (E.N x)),("value",.ref p)])/\X p=UT (.tup (vV E.N val))
 |_,v,.put n x pl val=>∃a dx p,v=.ref a/\X a=UT (.ins A.bW dx [("number",.int n),("name",.str (E.N x)),("place",pl.v E.N),("value",.ref p)])/\X p=UT (.tup (vV E.N val))
 |_,v,.snd n h val=>∃a dx p,v=.ref a/\X a=UT (.ins A.bp dx [("number",.int n),("name",.str (E.N h)),("value",.ref p)])/\X p=UT (.tup (vV E.N val))
 |_,v,.say n x val m=>∃a dx p,v=.ref a/\X a=UT (.ins A.bK dx [("number",.int n),("name",.str (E.N x)),("value",.ref p),("mark",.str (E.N m))])/\X p=UT (.tup (vV E.N val))
 |_,v,.last n=>∃a dx,v=.ref a/\X a=UT (.ins A.cO dx [("number",.int n)])
 |d+1,v,.call n i ts=>∃a dx p D,v=.ref a/\E.ds[i]?=UT D/\X a=UT (.ins A.bL dx [("number",.int n),("name",.str (E.N D.nm)),("things",.ref p)])/\X p=UT (.lst (ts.map (Th.v E.N)))/\
  ∃da dy dn pp pb xs,E.dv[i]?=UT (.ref da)/\X da=UT (.ins A.bg dy [("number",dn),("name",.str (E.N D.nm)),("parts",.ref pp),("body",.ref pb)])/\X pp=UT (.lst (D.parts.map λj=>V.str (E.N j)))/\X pb=UT (.lst xs)/\Paired (eA A E X d) xs D.body
 |d+1,v,.iff n val f o l r=>∃a dx p pf po xf xo,v=.ref a/\X a=UT (.ins A.bV dx [("number",.int n),("value",.ref p),("first",.ref pf),("other",.ref po),("left",.int l),("right",.int r)])/\X p=UT (.tup (vV E.N val))/\X pf=UT (.lst xf)/\X po=UT (.lst xo)/\Paired (eA A E X d) xf f/\Paired (eA A E X d) xo o
 |d+1,v,.loop n t m b l r=>∃a dx pb xb,v=.ref a/\X a=UT (.ins A.aY dx [("number",.int n),("thing",t.v E.N),("most",.int m),("body",.ref pb),("left",.int l),("right",.int r)])/\X pb=UT (.lst xb)/\Paired (eA A E X d) xb b
 |0,_,.call _ _ _=>False
 |0,_,.iff _ _ _ _ _ _=>False
 |0,_,.loop _ _ _ _ _ _=>False
theorem eA.same{X X':Hp}(s:aq X X'):∀{d:Nat}{v:V}{r:Rw},eA A E X d v r->eA A E X' d v r:=by
 intro d;induction d with
 |zero=>
  intro v r h;cases r with
  |set n x val=>obtain⟨a,dx,p,e,h1,h2⟩:=h;exact⟨a,dx,p,e,s _ _ h1,s _ _ h2⟩
  |put n x pl val=>obtain⟨a,dx,p,e,h1,h2⟩:=h;exact⟨a,dx,p,e,s _ _ h1,s _ _ h2⟩
  |snd n h' val=>obtain⟨a,dx,p,e,h1,h2⟩:=h;exact⟨a,dx,p,e,s _ _ h1,s _ _ h2⟩
  |say n x val m=>obtain⟨a,dx,p,e,h1,h2⟩:=h;exact⟨a,dx,p,e,s _ _ h1,s _ _ h2⟩
  |last n=>obtain⟨a,dx,e,h1⟩:=h;exact⟨a,dx,e,s _ _ h1⟩
  |call n i ts=>exact h.elim
  |iff n v f o l r=>exact h.elim
  |loop n t m b l r=>exact h.elim
 |succ d ih=>
  intro v r h;cases r with
  |set n x val=>obtain⟨a,dx,p,e,h1,h2⟩:=h;exact⟨a,dx,p,e,s _ _ h1,s _ _ h2⟩
  |put n x pl val=>obtain⟨a,dx,p,e,h1,h2⟩:=h;exact⟨a,dx,p,e,s _ _ h1,s _ _ h2⟩
  |snd n h' val=>obtain⟨a,dx,p,e,h1,h2⟩:=h;exact⟨a,dx,p,e,s _ _ h1,s _ _ h2⟩
  |say n x val m=>obtain⟨a,dx,p,e,h1,h2⟩:=h;exact⟨a,dx,p,e,s _ _ h1,s _ _ h2⟩
  |last n=>obtain⟨a,dx,e,h1⟩:=h;exact⟨a,dx,e,s _ _ h1⟩
  |call n i ts=>
   obtain⟨a,dx,p,D,e,h0,h1,h2,da,dy,dn,pp,pb,xs,g0,g1,g2,g3,g4⟩:=h;exact⟨a,dx,p,D,e,h0,s _ _ h1,s _ _ h2,da,dy,dn,pp,pb,xs,g0,s _ _ g1,s _ _ g2,s _ _ g3,Paired.cR g4 λ_ _=>ih⟩
  |iff n v f o l r=>
   obtain⟨a,dx,p,pf,po,xf,xo,e,h1,h2,h3,h4,h5,h6⟩:=h;exact⟨a,dx,p,pf,po,xf,xo,e,s _ _ h1,s _ _ h2,s _ _ h3,s _ _ h4,Paired.cR h5 λ_ _=>ih,Paired.cR h6 λ_ _=>ih⟩
  |loop n t m b l r=>
   obtain⟨a,dx,pb,xb,e,h1,h2,h3⟩:=h;exact⟨a,dx,pb,xb,e,s _ _ h1,s _ _ h2,Paired.cR h3 λ_ _=>ih⟩
structure En.Ok(E:En):Prop where
 D:gB E.N
 b:∀j∈E.idx,j<25
 nd:E.idx.Nodup
 dn:∀d∈E.ds,d.nm<25
 dd:(E.ds.map Dd.nm).Nodup
 dl:E.ds.length<=64
 dv:E.dv.length=E.ds.length
 pt:∀d∈E.ds,∀j∈d.parts,j∈E.idx/\E.sz j=0
 z:∀x,E.sz x<=1000
 len:E.idx.length<=64
structure Ra where
 s:OM
 ds:OM
 d:OM
 c:OM
 b:OM
 db:OM
 sd:OM
 e:OM
 t:OM
 l:OM
 la:Nat->OM
def En.ls(E:En):List Nat:=E.idx.filter λi=>decide (0<E.sz i)
def Ra.M(r:Ra)(E:En):List OM:=[r.b,r.c,r.t,r.l,r.sd]++E.ls.map r.la
def cV(E:En)(la:Nat->OM)(num:Nat->Int)(i:Nat):V:=if E.sz i=0 then .int (num i)else .ref (la i)
def dG(E:En)(j:Nat):V:=match (E.ds.zip E.dv).find? λp=>decide (p.1.nm=j)with
 |some p=>p.2
 |none=>.non
def rY(r:Ra)(k:S):List (Str×V):=[("letters",.ref r.l),("said",.ref r.sd),("trace",.ref r.t),("steps",.int k.steps),("ends",.ref r.e)]
structure bo(A:Adr)(E:En)(H:Hp)(r:Ra)(k:S):Prop where
 nd:(r.M E).Nodup
 hs:del (r.M E) H r.s=UT (.ins A.Run r.ds [("deeds",.ref r.d),("cells",.ref r.c),("book",.ref r.b)])
 hk:del (r.M E) H r.d=UT (.dK (dk E.N (E.ds.map Dd.nm) (dG E)))
 hb:H r.b=UT (.ins A.cA r.db (rY r k))
 hc:H r.c=UT (.dK (dk E.N E.idx (cV E r.la k.num)))
 ht:∃xs,H r.t=UT (.lst xs)/\iG (del (r.M E) H) xs k.trace
 hl:∃xs,H r.l=UT (.lst xs)/\iG (del (r.M E) H) xs k.eQ
 hd:∃xs,H r.sd=UT (.lst xs)/\iG (del (r.M E) H) xs k.uT
 ha:∀i∈E.ls,H (r.la i)=UT (.lst ((k.lst i).map V.int))
 ok:k.ok E
variable{H H':Hp}{r:Ra}{k:S}
theorem bo.s(R:bo A E H r k):H r.s=UT (.ins A.Run r.ds [("deeds",.ref r.d),("cells",.ref r.c),("book",.ref r.b)]):=aB _ _ R.hs
theorem bo.same(R:bo A E H r k)(s:aq H H'):bo A E H' r k:=by
 have g:=(Go.new (M:=r.M E) s).same;obtain⟨ts,t1,t2⟩:=R.ht;obtain⟨ls,l1,l2⟩:=R.hl;obtain⟨ds,d1,d2⟩:=R.hd;exact⟨R.nd,g _ _ R.hs,g _ _ R.hk,s _ _ R.hb,s _ _ R.hc,⟨ts,s _ _ t1,t2.same g⟩,⟨ls,s _ _ l1,l2.same g⟩,⟨ds,s _ _ d1,d2.same g⟩,λi h=>s _ _ (R.ha i h),R.ok⟩
theorem bo.has(R:bo A E H r k){a:OM}(m:a∈r.M E):∃o,H a=UT o:=by
 unfold Ra.M at m;rcases KA.mp m with m|m
 ·simp only[Ku,KD,or_false]at m;obtain⟨ts,t1,t2⟩:=R.ht;obtain⟨ls,l1,l2⟩:=R.hl;obtain⟨ds,d1,d2⟩:=R.hd;rcases m with rfl|rfl|rfl|rfl|rfl
  ·exact⟨_,R.hb⟩
  ·exact⟨_,R.hc⟩
  ·exact⟨_,t1⟩
  ·exact⟨_,l1⟩
  exact⟨_,d1⟩
 obtain⟨i,hi,rfl⟩:=KU.mp m;exact⟨_,R.ha i hi⟩
theorem bo.free(R:bo A E H r k){a:OM}(e:H a=UU):a∉r.M E:=λm=>by
 obtain⟨o,z⟩:=R.has m;rw[e]at z;cases z
structure Nes(r:Ra)(E:En):Prop where
 bc:r.b≠r.c
 bt:r.b≠r.t
 bl:r.b≠r.l
 bd:r.b≠r.sd
 ct:r.c≠r.t
 cl:r.c≠r.l
 cd:r.c≠r.sd
 tl:r.t≠r.l
 td:r.t≠r.sd
 ld:r.l≠r.sd
 a:∀i∈E.ls,r.la i≠r.b/\r.la i≠r.c/\r.la i≠r.t/\r.la i≠r.l/\r.la i≠r.sd
 i:∀i∈E.ls,∀j∈E.ls,r.la i=r.la j->i=j
theorem Nes.of(h:(r.M E).Nodup):Nes r E:=by
 unfold Ra.M at h;rw[Lm]at h;obtain⟨h1,h2,h3⟩:=h;simp only[KW,Ku,KD,or_false,not_or,not_false_eq_true,UK,and_true]at h1;obtain⟨⟨a1,a2,a3,a4⟩,⟨a5,a6,a7⟩,⟨a8,a9⟩,a10⟩:=h1;have m:∀i∈E.ls,r.la i∈E.ls.map r.la:=λi hi=>KU.mpr ⟨i,hi,rfl⟩;refine⟨a1,a2,a3,a4,a5,a6,a7,a8,a9,a10,λi hi=>⟨(h3 _ (by simp) _ (m i hi)).symm,(h3 _ (by simp) _ (m i hi)).symm,(h3 _ (by simp) _ (m i hi)).symm,(h3 _ (by simp) _ (m i hi)).symm,(h3 _ (by simp) _ (m i hi)).symm⟩,?_⟩;have:∀xs:List Nat,(xs.map r.la).Nodup->∀i∈xs,∀j∈xs,r.la i=r.la j->i=j:=by
  intro xs;induction xs with
  |nil=>intro _ i h;cases h
  |cons x t ih=>
   intro h i hi j hj e;rw[KQ,KW]at h;rcases Ku.mp hi with hi|hi<;>rcases Ku.mp hj with hj|hj
   ·exact hi.trans hj.symm
   ·rw[hi]at e;exact absurd (show r.la x∈t.map r.la from KU.mpr ⟨j,hj,e.symm⟩) h.1
   ·rw[hj]at e;exact absurd (show r.la x∈t.map r.la from KU.mpr ⟨i,hi,e⟩) h.1
   exact ih h.2 i hi j hj e
 exact this _ h2
theorem bo.ne(R:bo A E H r k):Nes r E:=Nes.of R.nd
theorem Ra.inM(r:Ra)(E:En):r.b∈r.M E/\r.c∈r.M E/\r.t∈r.M E/\r.l∈r.M E/\r.sd∈r.M E/\∀i∈E.ls,r.la i∈r.M E:=by
 unfold Ra.M;refine⟨by simp,by simp,by simp,by simp,by simp,λi hi=>KR _ (KU.mpr ⟨i,hi,rfl⟩)⟩
theorem bo.steps(R:bo A E H r k)(n:Int):bo A E (upd H r.b (.ins A.cA r.db (rY r { k with steps:=n }))) r { k with steps:=n }:=by
 have g:=(Go.at (H:=H) (r.inM E).1 (.ins A.cA r.db (rY r { k with steps:=n }))).same;have ne:=R.ne;obtain⟨ts,t1,t2⟩:=R.ht;obtain⟨ls,l1,l2⟩:=R.hl;obtain⟨ds,d1,d2⟩:=R.hd;exact⟨R.nd,g _ _ R.hs,g _ _ R.hk,ak,ag ne.bc.symm R.hc,⟨ts,ag ne.bt.symm t1,t2.same g⟩,⟨ls,ag ne.bl.symm l1,l2.same g⟩,⟨ds,ag ne.bd.symm d1,d2.same g⟩,λi h=>ag (ne.a i h).1 (R.ha i h),⟨R.ok.num,R.ok.lst,R.ok.len⟩⟩
theorem bo.trace(R:bo A E H r k){p:OM}{us w:List V}(hp:H p=UU)(ht:H r.t=UT (.lst us)):bo A E (upd (upd H p (.tup w)) r.t (.lst (us++[.ref p]))) r { k with trace:=k.trace++[w] }:=by
 have R1:=R.same (aq.upd hp (HO.tup w));have pm:=R.free hp;have hp1:(upd H p (.tup w)) p=UT (.tup w):=ak;have ht1:=aq.upd hp (HO.tup w) _ _ ht;generalize upd H p (.tup w)=H1 at R1 hp1 ht1⊢;have g:=(Go.at (H:=H1) (r.inM E).2.2.1 (.lst (us++[.ref p]))).same;have ne:=R.ne;obtain⟨ts,t1,t2⟩:=R1.ht;obtain⟨ls,l1,l2⟩:=R1.hl;obtain⟨ds,d1,d2⟩:=R1.hd;rw[ht1]at t1;cases t1;exact⟨R.nd,g _ _ R1.hs,g _ _ R1.hk,ag ne.bt R1.hb,ag ne.ct R1.hc,⟨_,ak,Qv (t2.same g) ⟨p,rfl,g _ _ (aN pm hp1)⟩⟩,⟨ls,ag ne.tl.symm l1,l2.same g⟩,⟨ds,ag ne.td.symm d1,d2.same g⟩,λi h=>ag (ne.a i h).2.2.1 (R1.ha i h),⟨R.ok.num,R.ok.lst,R.ok.len⟩⟩
theorem bo.qQ(R:bo A E H r k){p:OM}{us w:List V}(hp:H p=UU)(ht:H r.l=UT (.lst us)):bo A E (upd (upd H p (.tup w)) r.l (.lst (us++[.ref p]))) r (k.qQ w):=by
 have R1:=R.same (aq.upd hp (HO.tup w));have pm:=R.free hp;have hp1:(upd H p (.tup w)) p=UT (.tup w):=ak;have ht1:=aq.upd hp (HO.tup w) _ _ ht;generalize upd H p (.tup w)=H1 at R1 hp1 ht1⊢;have g:=(Go.at (H:=H1) (r.inM E).2.2.2.1 (.lst (us++[.ref p]))).same;have ne:=R.ne;obtain⟨ts,t1,t2⟩:=R1.ht;obtain⟨ls,l1,l2⟩:=R1.hl;obtain⟨ds,d1,d2⟩:=R1.hd;rw[ht1]at l1;cases l1;exact⟨R.nd,g _ _ R1.hs,g _ _ R1.hk,ag ne.bl R1.hb,ag ne.cl R1.hc,⟨ts,ag ne.tl t1,t2.same g⟩,⟨_,ak,Qv (l2.same g) ⟨p,rfl,g _ _ (aN pm hp1)⟩⟩,⟨ds,ag ne.ld.symm d1,d2.same g⟩,λi h=>ag (ne.a i h).2.2.2.1 (R1.ha i h),⟨R.ok.num,R.ok.lst,R.ok.len⟩⟩
theorem bo.sg(R:bo A E H r k){p:OM}{us w:List V}(hp:H p=UU)(ht:H r.sd=UT (.lst us)):bo A E (upd (upd H p (.tup w)) r.sd (.lst (us++[.ref p]))) r (k.sg w):=by
 have R1:=R.same (aq.upd hp (HO.tup w));have pm:=R.free hp;have hp1:(upd H p (.tup w)) p=UT (.tup w):=ak;have ht1:=aq.upd hp (HO.tup w) _ _ ht;generalize upd H p (.tup w)=H1 at R1 hp1 ht1⊢;have g:=(Go.at (H:=H1) (r.inM E).2.2.2.2.1 (.lst (us++[.ref p]))).same;have ne:=R.ne;obtain⟨ts,t1,t2⟩:=R1.ht;obtain⟨ls,l1,l2⟩:=R1.hl;obtain⟨ds,d1,d2⟩:=R1.hd;rw[ht1]at d1;cases d1;exact⟨R.nd,g _ _ R1.hs,g _ _ R1.hk,ag ne.bd R1.hb,ag ne.cd R1.hc,⟨ts,ag ne.td t1,t2.same g⟩,⟨ls,ag ne.ld l1,l2.same g⟩,⟨_,ak,Qv (d2.same g) ⟨p,rfl,g _ _ (aN pm hp1)⟩⟩,λi h=>ag (ne.a i h).2.2.2.2 (R1.ha i h),⟨R.ok.num,R.ok.lst,R.ok.len⟩⟩
theorem bo.put(R:bo A E H r k)(O:E.Ok){x:Nat}(hx:x∈E.idx)(hz:E.sz x=0){v:Int}(hv:In v):bo A E (upd H r.c (.dK (UZ (dk E.N E.idx (cV E r.la k.num)) (.inr (E.N x)) (.int v)))) r (k.put x v):=by
 have e:UZ (dk E.N E.idx (cV E r.la k.num)) (.inr (E.N x)) (.int v)=dk E.N E.idx (cV E r.la (k.put x v).num):=by
  rw[yB O.D O.b hx];refine i5 λj _=>?_;unfold mZ cV;show _=if E.sz j=0 then V.int (if j=x then v else k.num j)else _
  by_cases c:j=x
  ·rw[if_pos c,c,if_pos hz,if_pos rfl]
  rw[if_neg c,if_neg c]
 rw[e];have g:=(Go.at (H:=H) (r.inM E).2.1 (.dK (dk E.N E.idx (cV E r.la (k.put x v).num)))).same;have ne:=R.ne;obtain⟨ts,t1,t2⟩:=R.ht;obtain⟨ls,l1,l2⟩:=R.hl;obtain⟨ds,d1,d2⟩:=R.hd;refine⟨R.nd,g _ _ R.hs,g _ _ R.hk,ag ne.bc R.hb,ak,⟨ts,ag ne.ct.symm t1,t2.same g⟩,⟨ls,ag ne.cl.symm l1,l2.same g⟩,⟨ds,ag ne.cd.symm d1,d2.same g⟩,λi h=>ag (ne.a i h).2.1 (R.ha i h),⟨λa=>?_,R.ok.lst,R.ok.len⟩⟩;show In (if a=x then v else k.num a);split
 ·exact hv
 exact R.ok.num a
theorem bo.yt(R:bo A E H r k){x:Nat}(hx:x∈E.ls)(i:Int){v:Int}(hv:In v):bo A E (upd H (r.la x) (.lst (((k.lst x).map V.int).set (i%((k.lst x).length:Int)).toNat (.int v)))) r (k.yt x i v):=by
 have g:=(Go.at (H:=H) ((r.inM E).2.2.2.2.2 x hx) (.lst (((k.lst x).map V.int).set (i%((k.lst x).length:Int)).toNat (.int v)))).same;have ne:=R.ne;obtain⟨a1,a2,a3,a4,a5⟩:=ne.a x hx;obtain⟨ts,t1,t2⟩:=R.ht;obtain⟨ls,l1,l2⟩:=R.hl;obtain⟨ds,d1,d2⟩:=R.hd;have el:∀j,(k.yt x i v).lst j=if j=x then(k.lst x).set (i%((k.lst x).length:Int)).toNat v else k.lst j:=λ_=>rfl
 refine⟨R.nd,g _ _ R.hs,g _ _ R.hk,ag a1.symm R.hb,ag a2.symm R.hc,⟨ts,ag a3.symm t1,t2.same g⟩,⟨ls,ag a4.symm l1,l2.same g⟩,⟨ds,ag a5.symm d1,d2.same g⟩,λj h=>?_,⟨R.ok.num,λj n hn=>?_,λj hj hz=>?_⟩⟩
 ·rw[el];by_cases c:j=x
  ·rw[c,if_pos rfl,ak,List.map_set]
  rw[if_neg c];exact ag (λz=>c (ne.i j h x hx z)) (R.ha j h)
 ·rw[el]at hn;split at hn
  ·rcases List.mem_or_eq_of_mem_set hn with z|z
   ·exact R.ok.lst x n z
   rw[z];exact hv
  exact R.ok.lst j n hn
 rw[el];split
 ·rename_i c;rw[Uk];rw[c]at hj hz⊢;exact R.ok.len x hj hz
 exact R.ok.len j hj hz
theorem bo.get(R:bo A E H r k)(O:E.Ok){i:Nat}(hi:i∈E.idx):c8 H r.c (.str (E.N i)) (UT (cV E r.la k.num i)):=by
 have:=c8.k (k:=.inr (E.N i)) R.hc;rw[nN O.D O.b hi]at this;exact this
theorem bo.gn(R:bo A E H r k)(O:E.Ok){i:Nat}(hi:i∈E.idx)(hz:E.sz i=0):c8 H r.c (.str (E.N i)) (UT (.int (k.num i))):=by
 have:=R.get O hi;unfold cV at this;rw[if_pos hz]at this;exact this
theorem bo.gl(R:bo A E H r k)(O:E.Ok){i:Nat}(hi:i∈E.idx)(hz:0<E.sz i):c8 H r.c (.str (E.N i)) (UT (.ref (r.la i))):=by
 have:=R.get O hi;unfold cV at this;rw[if_neg ()]at this;exact this
theorem u9{i:Nat}(hi:i∈E.idx)(hz:0<E.sz i):i∈E.ls:=Lw.mpr ⟨hi,decide_eq_true hz⟩
theorem qW{v:V}{D:Dd}:∀{ds:List Dd}{dv:List V}{i:Nat},(ds.map Dd.nm).Nodup->ds[i]?=UT D->dv[i]?=UT v->∃q,(ds.zip dv).find? (λp=>decide (p.1.nm=D.nm))=UT q/\q.2=v
 | [],_,_,_,h,_=>by cases h
 |_::_,[],_,_,_,h=>by cases h
 |x::ds,y::dv,0,_,h1,h2=>by
  cases h1;cases h2;exact⟨(D,v),by rw[S1,Ly,decide_eq_true rfl],rfl⟩
 |x::ds,y::dv,i+1,nd,h1,h2=>by
  rw[KQ,KW]at nd;have ne:x.nm≠D.nm:=λz=>nd.1 (by rw[z];exact KU.mpr ⟨D,KG (by simpa using h1),rfl⟩);obtain⟨q,e1,e2⟩:=qW (i:=i) nd.2 (by simpa using h1) (by simpa using h2);exact⟨q,by rw[S1,Ly,decide_eq_false ne];exact e1,e2⟩
theorem bo.fU(R:bo A E H r k)(O:E.Ok){i:Nat}{D:Dd}{v:V}(h1:E.ds[i]?=UT D)(h2:E.dv[i]?=UT v):c8 H r.d (.str (E.N D.nm)) (UT v):=by
 have:=c8.k (k:=.inr (E.N D.nm)) (aB _ _ R.hk);rw[nN O.D (λj hj=>by obtain⟨d,hd,rfl⟩:=KU.mp hj;exact O.dn d hd) (KU.mpr ⟨D,KG h1,rfl⟩)]at this;obtain⟨q,e1,e2⟩:=qW O.dd h1 h2;unfold dG at this;rw[e1]at this;dsimp only at this;rw[e2]at this;exact this
inductive tB(vs:List V)(H:Hp)(Q:VK)(Z:XK):Prop
 |mk(a b:Int)(x:Str):vs=[.int a,.str x,.int b]->0<=a->a<1000000000000->0<=b->b<1000000000000->Q (.int (rkn a b x)) H->tB vs H Q Z
theorem wx(T:Txt K mg A):Has P w K mg base 1 "reckon" ["one","word","other"] tB:=by
 refine T.reckon.has A4 (λvs H Q E h=>?_) (λf cdv A outer s H vs Q E hr hu h=>?_)
 ·obtain⟨a,b,x,rfl,_⟩:=h;rfl
 obtain⟨a,b,x,rfl,a0,a1,b0,b1,q⟩:=h;refine⟨_,(ae (aM (ptc (bj hu) (fv 1) ao)
  (aj (aA (ax cx (ax bz (fv 0) (fv 2)) (qq T.qp))))
  aC)
 (ae (aM (ptc (bj hu) (fv 1) ao)
  (aj (aA (ax cx (ax kY (fv 0) (fv 2)) (qq T.qp))))
  aC)
 (ae (aM (ptc (bj hu) (fv 1) ao)
  (aj (aA (ax cx (ax cS (fv 0) (fv 2)) (qq T.qp))))
  aC)
 (ae (aM (ptc (bj hu) (fv 1) ao)
  (aj (aA (fA (ptc (bj hu) (fv 2) ab) ab (ax c9 (fv 0) (fv 2)))))
  aC)
 (ae (aM (ptc (bj hu) (fv 1) ao)
  (aj (aA (fA (ptc (bj hu) (fv 2) ab) (fv 0) (ax cx (fv 0) (fv 2)))))
  aC)
 (ae (aM (ptc (bj hu) (fv 1) ao)
  (aj (aA (fA (ptc qJ (fv 0) (fv 2)) ab ab)))
  aC)
 (aj (aA (fA (ptc (bj hu) (fv 0) (fv 2)) ab ab))))))))),?_⟩
 unfold rkn at q;refine⟨rfl,_,rfl,aE (λc=>?_) (λc=>?_)⟩
 ·rw[if_pos c]at q;exact⟨(by show(0:Int)<1000000000000;decide),q⟩
 rw[if_neg c]at q;refine⟨rfl,_,rfl,aE (λc=>?_) (λc=>?_)⟩
 ·rw[if_pos c]at q;exact⟨(by show(0:Int)<1000000000000;decide),q⟩
 rw[if_neg c]at q;refine⟨rfl,_,rfl,aE (λc=>?_) (λc=>?_)⟩
 ·rw[if_pos c]at q;exact⟨.inl ⟨(),()⟩,(by show(0:Int)<1000000000000;decide),q⟩
 rw[if_neg c]at q;refine⟨rfl,_,rfl,aE (λc=>?_) (λc=>?_)⟩
 ·rw[if_pos c]at q;refine⟨rfl,_,rfl,aE (λd=>?_) (λd=>?_)⟩
  ·rw[if_pos d]at q;exact q
  rw[if_neg d]at q;have hb:b≠0:=λz=>d (by rw[z];rfl);exact⟨⟨(),()⟩,q⟩
 rw[if_neg c]at q;refine⟨rfl,_,rfl,aE (λc=>?_) (λc=>?_)⟩
 ·rw[if_pos c]at q;refine⟨rfl,_,rfl,aE (λd=>?_) (λd=>?_)⟩
  ·rw[if_pos d]at q;exact q
  rw[if_neg d]at q;have hb:b≠0:=λz=>d (by rw[z];rfl);exact⟨(),q⟩
 rw[if_neg c]at q;refine⟨rfl,_,rfl,aE (λc=>?_) (λc=>?_)⟩
 ·rw[if_pos c]at q;refine⟨_,rfl,aE (λd=>?_) (λd=>?_)⟩
  ·rw[if_pos d]at q;exact q
  rw[if_neg d]at q;exact q
 rw[if_neg c]at q;refine⟨rfl,_,rfl,aE (λd=>?_) (λd=>?_)⟩
 ·rw[if_pos d]at q;exact q
 rw[if_neg d]at q;exact q
inductive wD(vs:List V)(H:Hp)(Q:VK)(Z:XK):Prop
 |mk(a:Int):vs=[.int a]->In a->Q (.bl true) H->wD vs H Q Z
theorem ED(T:Txt K mg A):Has P w K mg base 1 "is_number" ["thing"] wD:=by
 refine T.sQ.has vA (λvs H Q E h=>?_) (λf cdv A outer s H vs Q E hr hu h=>?_)
 ·obtain⟨a,rfl,_⟩:=h;rfl
 obtain⟨a,rfl,ha,q⟩:=h;refine⟨_,(ae (aM (PW.pt (pw_or (bX (pcB bN T.aJ (fv 0^(ji (v:=.ty "bool") rfl T.qx (by boot_by_name) rfl)^af)) (λ_=>rfl)) (pw_or1 (vf (bX (pcB bN T.aJ (fv 0^(ji (v:=.ty "int") rfl T.mH (by boot_by_name) rfl)^af)) (λ_=>rfl))))))
  (aj (aA lq))
  aC)
 (aj (aA (Cf yq yq ab (fv 0) (qq T.nH))))),?_⟩
 refine⟨_,_,_,false,rfl,(λz=>by cases z),.int a,BM,false,rfl,bH ⟨_,_,_,true,rfl,(λz=>by cases z),.int a,Ft,true,rfl,bH ⟨_,rfl,aE (λc=>?_) (λc=>absurd (decide_eq_true ha.1) c)⟩⟩⟩;have e:decide (a<=999999999999)=true:=decide_eq_true (by have:=ha.2;omega);show Q (.bl (decide (a<=999999999999))) H;rw[e];exact q
def AK:Sp:=λvs H Q _=>(∃a:Int,vs=[.int a,.int 0]/\In a/\Q (.bl true) H)\/
 ∃(p:OM)(rs:List Int),vs=[.ref p,.int rs.length]/\0<rs.length/\rs.length<=1000/\H p=UT (.lst (rs.map V.int))/\(∀a∈rs,In a)/\∀H',aq H H'->Q (.bl true) H'
theorem Dv(T:Txt K mg A):Has P w K mg base 2 "is_good" ["gift","size"] AK:=by
 have NJ:=@ED P w _ _ base _ T;refine T.zB.has xM (λvs H Q E h=>?_) (λf cdv A outer s H vs Q E hr hu h=>?_)
 ·rcases h with⟨a,rfl,_⟩|⟨p,rs,rfl,_⟩<;>rfl
 rcases h with⟨a,rfl,ha,q⟩|⟨p,rs,rfl,hn,hl,hS,hb,q⟩
 ·refine⟨_,(ae (aM (ptc (bj hu) (fv 1) ab)
  (aj (aA (ar NJ hr (fv 0^af))))
  aC)
 (aj (aA (kK (pcB bN T.aJ (fv 0^(ji (v:=.ty "list") rfl T.dY (by boot_by_name) rfl)^af)) (kK (pec (bj hu) (pcB bS T.cD (fv 0^af)) (fv 1)) (oY (pcB E3 T.wC ((jd (N:=["thing"]) (own:=1) (fr:=[]) (cQ.of (by kernel_rfl!)) rfl (df (fv 0)) (λb=>pgn (i:=0) (show PM (["thing"]:List P0) by decide+kernel) rfl) (λb=>qU) (λb=>ar NJ hr (fv 0^af)))^af)))))))),?_⟩
  refine⟨rfl,_,rfl,aE (λc=>?_) (λc=>absurd rfl c)⟩
  exact⟨a,rfl,ha,q⟩
 ·refine⟨_,(ae (aM (ptc (bj hu) (fv 1) ab)
  (aj (aA (ar NJ hr (fv 0^af))))
  aC)
 (aj (aA (kK (pcB bN T.aJ (fv 0^(ji (v:=.ty "list") rfl T.dY (by boot_by_name) rfl)^af)) (kK (pec (bj hu) (pcB bS T.cD (fv 0^af)) (fv 1)) (oY (pcB E3 T.wC ((jd (N:=["thing"]) (own:=1) (fr:=[]) (cQ.of (by kernel_rfl!)) rfl (df (fv 0)) (λb=>pgn (i:=0) (show PM (["thing"]:List P0) by decide+kernel) rfl) (λb=>qU) (λb=>ar NJ hr (fv 0^af)))^af)))))))),?_⟩
  refine⟨rfl,_,rfl,aE (λc=>absurd c ?_) (λc=>?_)⟩
  ·rw[qb,decide_eq_true_iff];omega
  refine⟨_,_,_,true,rfl,(λz=>by cases z),.lst hS,G6,_,rfl,dO (lnl hS ⟨rfl,_,rfl,aE (λc2=>?_) (λc2=>absurd ?_ c2)⟩)⟩
  ·refine KJ ⟨⟨_,SqL.of hS⟩,hZ (K:=K) (λ_=>true) (λ_=>.bl true) (SqL.of hS) (by rw[Ky];exact az hl) (λb x H2 R _ _ k=>k _ (aq.refl _)) (λb x H2 R hx _ s2 k=>?_) (λD H2 hD s2 e=>?_)⟩
   ·obtain⟨a,ha,rfl⟩:=KU.mp hx;exact⟨a,rfl,hb a ha,k _ (aq.refl _)⟩
   rw[xE,MN]at e;refine⟨D,rs.map (λ_=>true),rfl,SqL.of (by rw[e,MN];rfl),?_⟩;have:(rs.map (λ_=>true)).all id=true:=by simp
   rw[this];exact q _ s2
  rw[qb,Ky,decide_eq_true_iff]
inductive vS(vs:List V)(H:Hp)(Q:VK)(Z:XK):Prop
 |mk(a:Int)(n:Nat):vs=[.int a,.int n]->In a->0<n->n<=1000->Q (.int (a%(n:Int))) H->vS vs H Q Z
theorem zf(T:Txt K mg A):Has P w K mg base 2 "round_place" ["place","size"] vS:=by
 have NY:=@wx P w _ _ base _ T;refine T.pM.has rQ (λvs H Q E h=>?_) (λf cdv A outer s H vs Q E hr hu h=>?_)
 ·obtain⟨a,n,rfl,_⟩:=h;rfl
 obtain⟨a,n,rfl,ha,h0,h1,q⟩:=h;exact⟨_,(aj (aA (ar NY hr (fv 0^ao^fv 1^af)))),⟨a,n,_,rfl,ha.1,ha.2,(),(),by rw[Dk h0];exact q⟩⟩
inductive E8(A:Adr)(E:En)(vs:List V)(H:Hp)(Q:VK)(Z:XK):Prop
 |mk(r:Ra)(k:S)(t:Th):vs=[.ref r.s,t.v E.N]->bo A E H r k->t.okE E->Q (.int (t.num k)) H->E8 A E vs H Q Z
theorem Dy(T:Txt K mg A)(O:E.Ok):dz P w K mg base 1 A.Run "number_at" ["self","thing"] (E8 A E):=by
 refine T.lA.has (k:=0) pB (λvs H Q E h=>?_) (λf cdv A' outer s' H vs Q E' hr hu h=>?_)
 ·obtain⟨r,k,t,rfl,_⟩:=h;rfl
 obtain⟨r,k,t,rfl,R,ht,q⟩:=h;refine⟨_,(aj (aA (fA (bX (pcB bN T.aJ (fv 1^(ji (v:=.ty "str") rfl T.xy (by boot_by_name) rfl)^af)) (λ_=>rfl)) (px hu (aI (fv 0) rfl) (fv 1)) (fv 1)))),?_⟩;cases t with
 |i n=>exact⟨_,_,_,false,rfl,(λz=>by cases z),.int n,CG,false,rfl,bH q⟩
 |x a=>exact⟨_,_,_,true,rfl,(λz=>by cases z),.str _,BA,true,rfl,dO (fdI R.s T.bY.cl T.cY rfl ⟨_,R.gn O ht.1 ht.2,q⟩)⟩
theorem Hv{xs:List Int}(h:0<xs.length)(i:Int):atI (xs.map V.int) (i%(xs.length:Int))=UT (.int (lat xs i)):=by
 obtain⟨m0,m1⟩:=cC i (show(0:Int)<(xs.length:Int) by omega);obtain⟨x,_,e1,e2⟩:=lO V.int m0 m1;rw[e2];unfold lat;rw[Ll,e1];rfl
inductive C0(A:Adr)(E:En)(vs:List V)(H:Hp)(Q:VK)(Z:XK):Prop
 |mk(r:Ra)(k:S)(p:OM)(val:Val):vs=[.ref r.s,.ref p]->bo A E H r k->H p=UT (.tup (vV E.N val))->val.okE E->Q (.int (val.num k)) H->C0 A E vs H Q Z
theorem zp(T:Txt K mg A)(O:E.Ok):dz P w K mg base 3 A.Run "number_for" ["self","value"] (C0 A E):=by
 have Nz:=Dy (P:=P) (w:=w) (base:=base) T O;have NY:=@wx P w _ _ base _ T;have NK:=@zf P w _ _ base _ T;refine T.j9.has (k:=2) fB (λvs H Q E h=>?_) (λf cdv A' outer s' H vs Q E' hr hu h=>?_)
 ·obtain⟨r,k,p,val,rfl,_⟩:=h;rfl
 obtain⟨r,k,p,val,rfl,R,hp,vo,q⟩:=h;have hT:SqT K H p (vV E.N val):=SqT.of hp;refine⟨_,(ae (aM (ptc (bj hu) (pcB bS T.cD (fv 1^af)) ab)
  (aj (aA (bF (fv 0) T.bY.cl Nz hr (px hu (fv 1) ab^af))))
  aC)
 (ae (pst 2 fB.nd (bF (fv 0) T.bY.cl Nz hr (px hu (fv 1) ab^af)))
 (ae (aM (ptc (bj hu) (px hu (fv 1) ab) ao)
  (ae (pst 3 fB.nd (px hu (aI (fv 0) rfl) (px hu (fv 1) ab)))
  (aj (aA (px hu (fv 3) (ar NK hr (fv 2^pcB bS T.cD (fv 3^af)^af))))))
  aC)
 (aj (aA (ar NY hr (bF (fv 0) T.bY.cl Nz hr (px hu (fv 1) ab^af)^px hu (fv 1) ab^fv 2^af))))))),?_⟩
 refine KJ ⟨_,_,rfl,Lg ⟨_,hT,rfl⟩,rfl,_,rfl,?_⟩;cases val with
 |one a=>
  refine aE (λb=>?_) (λb=>absurd rfl b);exact⟨r.s,r.ds,_,rfl,R.s,rfl,KJ ⟨_,_,Lg hT,rfl,r,k,a,rfl,R,vo,q⟩⟩
 |op a x i=>
  exact aE (λb=>absurd b (by show ¬ decide (V.int 3=V.int 1)=true;decide)) (λb=>⟨r.s,r.ds,_,rfl,R.s,rfl,KJ ⟨_,_,Lg hT,rfl,r,k,i,rfl,R,vo.2.1,KJ ⟨_,_,Lg hT,rfl,rfl,_,rfl,aE (λb=>absurd (of_decide_eq_true b) (λz=>JC vo.2.2 (V.str.inj z))) (λb=>⟨r.s,r.ds,_,rfl,R.s,rfl,KJ ⟨_,_,Lg hT,rfl,r,k,a,rfl,R,vo.1,KJ ⟨_,_,Lg hT,rfl,_,_,_,rfl,(Th.fh R.ok vo.1).1,(Th.fh R.ok vo.1).2,(Th.fh R.ok vo.2.1).1,(Th.fh R.ok vo.2.1).2,q⟩⟩⟩)⟩⟩⟩)
 |atl l i=>
  obtain⟨v1,v2,v3⟩:=vo;have ln:=R.ok.len l v1 v2;have lz:=O.z l;refine aE (λb=>absurd b (by show ¬ decide (V.int 3=V.int 1)=true;decide)) (λb=>⟨r.s,r.ds,_,rfl,R.s,rfl,KJ ⟨_,_,Lg hT,rfl,r,k,i,rfl,R,v3,KJ ⟨_,_,Lg hT,rfl,rfl,_,rfl,aE (λb=>?_) (λb=>absurd (show decide (V.str "at"=V.str "at")=true by decide) b)⟩⟩⟩);refine fdI R.s T.bY.cl T.cY rfl (KJ ⟨_,_,Lg hT,rfl,_,R.gl O v1 v2,?_⟩);have hL:=SqL.of (K:=K) (R.ha l (u9 v1 v2));exact KJ ⟨_,_,rfl,KJ ⟨_,hL,rfl⟩,_,(k.lst l).length,by rw[Ky];rfl,Th.fh R.ok v3,(),(),lix hL (Hv () _) q⟩
inductive uy(K:OQ)(A:Adr)(E:En)(vs:List V)(H:Hp)(Q:VK)(Z:XK):Prop
 |mk(r:Ra)(k:S)(a:OM):vs=[.ref r.s,.ref a]->bo A E H r k->((∃(dx p:OM)(n h:V)(val:Val),val.okE E/\H a=UT (.ins A.bp dx [("number",n),("name",h),("value",.ref p)])/\H p=UT (.tup (vV E.N val))/\Q (.int (val.num k)) H)\/(∃(dx p:OM)(n x m:V)(val:Val),val.okE E/\H a=UT (.ins A.bK dx [("number",n),("name",x),("value",.ref p),("mark",m)])/\H p=UT (.tup (vV E.N val))/\Q (.int (val.num k)) H)\/(∃C:OM,mh K H (.ref a) (.ref C)/\Pu K (.ref C) (.ref A.bp)=UT false/\Pu K (.ref C) (.ref A.bK)=UT false/\Q .non H))->uy K A E vs H Q Z
theorem Gs(T:Txt K mg A)(O:E.Ok):dz P w K mg base 4 A.Run "number_told" ["self","row"] (uy K A E):=by
 have NC:=zp (P:=P) (w:=w) (base:=base) T O;refine T.jm.has (k:=3) oo (λvs H Q E h=>?_) (λf cdv A' outer s' H vs Q E' hr hu h=>?_)
 ·obtain⟨r,k,a,rfl,_⟩:=h;rfl
 obtain⟨r,k,a,rfl,R,h⟩:=h;refine⟨_,(ae (aM (PW.pt (pw_or (bX (pcB bN T.aJ (fv 1^dJ T.aQ.mg^af)) (λ_=>rfl)) (pw_or1 (bX (pcB bN T.aJ (fv 1^dJ T.aU.mg^af)) (λ_=>rfl)))))
  (aj (aA (bF (fv 0) T.bY.cl NC hr (aI (fv 1) rfl^af))))
  aC)
 (aj (aA d5))),?_⟩
 rcases h with⟨dx,p,n,hh,val,vo,ha,hp,q⟩|⟨dx,p,n,x,m,val,vo,ha,hp,q⟩|⟨C,ty,k1,k2,q⟩
 ·exact isB (T.aQ.cc ha) (nL T.aQ) (dO ⟨r.s,r.ds,_,rfl,R.s,rfl,fdI ha T.aQ.cl T.gM rfl ⟨r,k,p,val,rfl,R,hp,vo,q⟩⟩)
 ·exact isB (T.aU.cc ha) (cq T.aU T.aQ (av T 7 8) (av T 7 0)) (bH (isB (T.aU.cc ha) (nL T.aU) (dO ⟨r.s,r.ds,_,rfl,R.s,rfl,fdI ha T.aU.cl T.iU rfl ⟨r,k,p,val,rfl,R,hp,vo,q⟩⟩)))
 exact⟨_,_,_,false,rfl,(λz=>by cases z),ty,k1,false,rfl,bH ⟨_,_,_,false,rfl,(λz=>by cases z),ty,k2,false,rfl,bH q⟩⟩
inductive zV(A:Adr)(E:En)(vs:List V)(H:Hp)(Q:VK)(Z:XK):Prop
 |mk(r:Ra)(n:Int)(k:S):vs=[.ref r.s,.int n]->bo A E H r k->(∀H',Go (r.M E) H (r.M E) H'->bo A E H' r (k.idle n)->Q .non H')->zV A E vs H Q Z
theorem yF(T:Txt K mg A):dz P w K mg base 1 A.Run "pass_steps" ["self","count"] (zV A E):=by
 refine T.ko.has (k:=0) jq (λvs H Q E h=>?_) (λf cdv A' outer s' H vs Q E' hr hu h=>?_)
 ·obtain⟨r,n,k,rfl,_⟩:=h;rfl
 obtain⟨r,n,k,rfl,R,q⟩:=h;refine⟨_,(ae (pst 2 jq.nd (aI (fv 0) rfl))
 (aj (A7 (fv 2) (fv 1) Gh))),?_⟩
 exact fdI R.s T.bY.cl T.iH rfl ⟨r.b,_,r.db,_,_,rfl,R.hb,T.dZ.cl,T.eP,rfl,_,_,rfl,rfl,r.db,_,R.hb,by simp[rY],q _ (Go.at (r.inM E).1 _) (R.steps (k.steps+n))⟩
theorem GZ{xs:List Int}(h:0<xs.length)(i:Int):ixN (xs.map V.int).length (i%(xs.length:Int))=UT (i%(xs.length:Int)).toNat:=by
 obtain⟨m0,m1⟩:=cC i (show(0:Int)<(xs.length:Int) by omega);unfold ixN;rw[if_pos m0,Ky,if_pos m1]
inductive vT(A:Adr)(E:En)(vs:List V)(H:Hp)(Q:VK)(Z:XK):Prop
 |mk(r:Ra)(k:S)(n:V)(x:Nat)(t:Th)(val:Val)(a dx p:OM):vs=[.ref r.s,.ref a]->bo A E H r k->x∈E.idx->0<E.sz x->t.okE E->val.okE E->H a=UT (.ins A.bW dx [("number",n),("name",.str (E.N x)),("place",t.v E.N),("value",.ref p)])->H p=UT (.tup (vV E.N val))->(∀H',bo A E H' r (k.yt x (t.num k) (val.num k))->Go (r.M E) H (r.M E) H'->Q .non H')->vT A E vs H Q Z
theorem Eu(T:Txt K mg A)(O:E.Ok):dz P w K mg base 4 A.Run "do_put" ["self","row"] (vT A E):=by
 have Nz:=Dy (P:=P) (w:=w) (base:=base) T O;have NC:=zp (P:=P) (w:=w) (base:=base) T O;have NK:=@zf P w _ _ base _ T;refine T.ou.has (k:=3) nz (λvs H Q E h=>?_) (λf cdv A' outer s' H vs Q E' hr hu h=>?_)
 ·obtain⟨r,k,n,x,t,val,a,dx,p,rfl,_⟩:=h;rfl
 obtain⟨r,k,n,x,t,val,a,dx,p,rfl,R,hx,hz,to,vo,ha,hp,q⟩:=h;have ln:=R.ok.len x hx hz;have lz:=O.z x;refine⟨_,(ae (pst 2 nz.nd (px hu (aI (fv 0) rfl) (aI (fv 1) rfl)))
 (aj (bu (bF (fv 0) T.bY.cl NC hr (aI (fv 1) rfl^af)) (bC (fv 2) (ar NK hr (bF (fv 0) T.bY.cl Nz hr (aI (fv 1) rfl^af)^pcB bS T.cD (fv 2^af)^af)) (bD hu UX))))),?_⟩
 refine fdI R.s T.bY.cl T.cY rfl (fdI ha T.bE.cl T.jI rfl ⟨_,R.gl O hx hz,⟨r.s,r.ds,_,rfl,R.s,rfl,fdI ha T.bE.cl T.iK rfl ⟨r,k,p,val,rfl,R,hp,vo,⟨r.s,r.ds,_,rfl,R.s,rfl,fdI ha T.bE.cl T.iA rfl ⟨r,k,t,rfl,R,to,?_⟩⟩⟩⟩⟩);have hL:=R.ha x (u9 hx hz);exact lnl hL ⟨_,(k.lst x).length,by rw[Ky];rfl,Th.fh R.ok to,(),(),KJ ⟨_,_,hL,GZ () _,q _ (R.yt (u9 hx hz) (t.num k) (Val.fh R.ok vo)) (Go.at ((r.inM E).2.2.2.2.2 x (u9 hx hz)) _)⟩⟩
def Rw.no:Rw->Int
 | .set n _ _=>n
 | .put n _ _ _=>n
 | .snd n _ _=>n
 | .say n _ _ _=>n
 | .last n=>n
 | .call n _ _=>n
 | .iff n _ _ _ _ _=>n
 | .loop n _ _ _ _ _=>n
def Rw.told(s:S):Rw->V
 | .snd _ _ v=>.int (v.num s)
 | .say _ _ v _=>.int (v.num s)
 |_=>.non
def Rw.cl(A:Adr):Rw->OM
 | .set _ _ _=>A.cB
 | .put _ _ _ _=>A.bW
 | .snd _ _ _=>A.bp
 | .say _ _ _ _=>A.bK
 | .last _=>A.cO
 | .call _ _ _=>A.bL
 | .iff _ _ _ _ _ _=>A.bV
 | .loop _ _ _ _ _ _=>A.aY
theorem Dp{X:Hp}{d:Nat}{v:V}{rw:Rw}(h:eA A E X d v rw):∃a dx fs,v=.ref a/\X a=UT (.ins (rw.cl A) dx (("number",.int rw.no)::fs)):=by
 cases rw with
 |set n x val=>cases d<;>(obtain⟨a,dx,p,e,h1,h2⟩:=h;exact⟨a,dx,_,e,h1⟩)
 |put n x pl val=>cases d<;>(obtain⟨a,dx,p,e,h1,h2⟩:=h;exact⟨a,dx,_,e,h1⟩)
 |snd n x val=>cases d<;>(obtain⟨a,dx,p,e,h1,h2⟩:=h;exact⟨a,dx,_,e,h1⟩)
 |say n x val m=>cases d<;>(obtain⟨a,dx,p,e,h1,h2⟩:=h;exact⟨a,dx,_,e,h1⟩)
 |last n=>cases d<;>(obtain⟨a,dx,e,h1⟩:=h;exact⟨a,dx,_,e,h1⟩)
 |call n i ts=>
  cases d with
  |zero=>exact h.elim
  |succ d=>obtain⟨a,dx,p,D,e,h0,h1,_⟩:=h;exact⟨a,dx,_,e,h1⟩
 |iff n val f o l r=>
  cases d with
  |zero=>exact h.elim
  |succ d=>obtain⟨a,dx,p,pf,po,xf,xo,e,h1,_⟩:=h;exact⟨a,dx,_,e,h1⟩
 |loop n t m b l r=>
  cases d with
  |zero=>exact h.elim
  |succ d=>obtain⟨a,dx,pb,xb,e,h1,_⟩:=h;exact⟨a,dx,_,e,h1⟩
theorem Jf(T:Txt K mg A)(rw:Rw):Cls K (rw.cl A)/\aH K (rw.cl A) "number":=by
 cases rw with
 |set n x val=>exact⟨T.bM.cl,T.gT⟩
 |put n x pl val=>exact⟨T.bE.cl,T.gX⟩
 |snd n x val=>exact⟨T.aQ.cl,T.eR⟩
 |say n x val m=>exact⟨T.aU.cl,T.eY⟩
 |last n=>exact⟨T.aV.cl,T.fT⟩
 |call n i ts=>exact⟨T.aZ.cl,T.fQ⟩
 |iff n val f o l r=>exact⟨T.bA.cl,T.iW⟩
 |loop n t m b l r=>exact⟨T.aL.cl,T.gq⟩
theorem EG(T:Txt K mg A){X H:Hp}{d:Nat}{a:OM}{rw:Rw}{r:Ra}{k:S}{Q:VK}{E0:XK}(h:eA A E X d (.ref a) rw)(wf:Wf E d rw)(s:aq X H)(R:bo A E H r k)(q:Q (rw.told k) H):uy K A E (.ref r.s::([.ref a]++[])) H Q E0:=by
 refine⟨r,k,a,rfl,R,?_⟩;have no:∀{C D:OM}{x:Str}{up:List OM},eW K mg C x up->(∃dx fs,X a=UT (.ins C dx fs))->Pu K (.ref C) (.ref A.bp)=UT false->Pu K (.ref C) (.ref A.bK)=UT false->rw.told k=.non->∃C:OM,mh K H (.ref a) (.ref C)/\Pu K (.ref C) (.ref A.bp)=UT false/\Pu K (.ref C) (.ref A.bK)=UT false/\Q .non H:=λ{C D x up} o ⟨dx,fs,e⟩ k1 k2 z=>⟨C,o.cc (s _ _ e),k1,k2,by rw[z]at q;exact q⟩;obtain⟨a',dx,fs,ea,h1⟩:=Dp h;cases ea;cases rw with
 |set n x val=>exact Lg (Lg (no (D:=a) T.bM ⟨_,_,h1⟩ (cq T.bM T.aQ (av T 7 5) (av T 7 0)) (cq T.bM T.aU (av T 8 5) (av T 8 0)) rfl))
 |put n x pl val=>exact Lg (Lg (no (D:=a) T.bE ⟨_,_,h1⟩ (cq T.bE T.aQ (av T 7 6) (av T 7 0)) (cq T.bE T.aU (av T 8 6) (av T 8 0)) rfl))
 |snd n x val=>
  obtain⟨a',dx,p,ea,h1,h2⟩:∃a' dx p,V.ref a=.ref a'/\X a'=UT (.ins A.bp dx [("number",.int n),("name",.str (E.N x)),("value",.ref p)])/\X p=UT (.tup (vV E.N val)):=by cases d<;>exact h
  cases ea;have vo:val.okE E:=by cases d<;>exact wf.1
  exact KJ ⟨dx,p,_,_,val,vo,s _ _ h1,s _ _ h2,q⟩
 |say n x val m=>
  obtain⟨a',dx,p,ea,h1,h2⟩:∃a' dx p,V.ref a=.ref a'/\X a'=UT (.ins A.bK dx [("number",.int n),("name",.str (E.N x)),("value",.ref p),("mark",.str (E.N m))])/\X p=UT (.tup (vV E.N val)):=by cases d<;>exact h
  cases ea;have vo:x∈E.idx/\E.sz x=0/\val.okE E:=by cases d<;>exact wf
  exact Lg (KJ ⟨dx,p,_,_,_,val,vo.2.2,s _ _ h1,s _ _ h2,q⟩)
 |last n=>exact Lg (Lg (no (D:=a) T.aV ⟨_,_,h1⟩ (cq T.aV T.aQ (av T 7 10) (av T 7 0)) (cq T.aV T.aU (av T 8 10) (av T 8 0)) rfl))
 |call n i ts=>exact Lg (Lg (no (D:=a) T.aZ ⟨_,_,h1⟩ (cq T.aZ T.aQ (av T 7 9) (av T 7 0)) (cq T.aZ T.aU (av T 8 9) (av T 8 0)) rfl))
 |iff n val f o l r=>exact Lg (Lg (no (D:=a) T.bA ⟨_,_,h1⟩ (cq T.bA T.aQ (av T 7 11) (av T 7 0)) (cq T.bA T.aU (av T 8 11) (av T 8 0)) rfl))
 |loop n t m b l r=>exact Lg (Lg (no (D:=a) T.aL ⟨_,_,h1⟩ (cq T.aL T.aQ (av T 7 12) (av T 7 0)) (cq T.aL T.aU (av T 8 12) (av T 8 0)) rfl))
abbrev BIG:Int:=1000000
def Vi(A:Adr)(E:En)(H:Hp)(r:Ra)(k:S)(v:V)(Q:VK):Prop:=∀H',Go (r.M E) H (r.M E) H'->bo A E H' r k->Q v H'
inductive qN(A:Adr)(E:En)(f:Nat)(vs:List V)(H:Hp)(Q:VK)(Z:XK):Prop
 |mk(r:Ra)(k:S)(v:V)(rw:Rw):vs=[.ref r.s,v]->bo A E H r k->eA A E (del (r.M E) H) f v rw->Wf E f rw->k.room BIG (aT E f rw)->Vi A E H r (doR E f k rw).1 (.bl (doR E f k rw).2) Q->qN A E f vs H Q Z
inductive mX(A:Adr)(E:En)(f:Nat)(vs:List V)(H:Hp)(Q:VK)(Z:XK):Prop
 |mk(r:Ra)(k:S)(q:OM)(xs:List V)(rows:List Rw):vs=[.ref r.s,.ref q]->bo A E H r k->del (r.M E) H q=UT (.lst xs)->Paired (eA A E (del (r.M E) H) f) xs rows->(∀rw∈rows,Wf E f rw)->k.room BIG ((rows.map (aT E f)).sum)->Vi A E H r (bU (doR E f) k rows).1 (.bl (bU (doR E f) k rows).2) Q->mX A E f vs H Q Z
def kU(A:Adr)(E:En):Nat->Sp
 |0=>λ_ _ _ _=>False
 |f+1=>mX A E f
def mS(A:Adr)(E:En)(P:Rw->Prop)(G:Nat->S->Rw->S×V):Nat->Sp
 |0=>λ_ _ _ _=>False
 |f+1=>λvs H Q _=>∃(r:Ra)(k:S)(a:OM)(rw:Rw),P rw/\vs=[.ref r.s,.ref a]/\bo A E H r k/\eA A E (del (r.M E) H) (f+1) (.ref a) rw/\Wf E (f+1) rw/\k.room BIG (aT E (f+1) rw-1)/\Vi A E H r (G f k rw).1 (G f k rw).2 Q
def Ik:Rw->Prop
 | .iff _ _ _ _ _ _=>True
 |_=>False
def Cd:Rw->Prop
 | .loop _ _ _ _ _ _=>True
 |_=>False
def CF:Rw->Prop
 | .call _ _ _=>True
 |_=>False
def gIf(E:En)(d:Nat)(s:S):Rw->S×V
 | .iff _ v f o l r=>if v.num s≠0 then((bU (doR E d) s f).1.idle l,.bl (bU (doR E d) s f).2)else((bU (doR E d) s o).1.idle r,.bl (bU (doR E d) s o).2)
 |_=>(s,.non)
def wG(E:En)(d:Nat)(s:S):Rw->S×V
 | .loop _ t m b l r=>((U0 (λs=>bU (doR E d) s b) l (U6 s t m).toNat 0 s).1.idle (r*(m-(U0 (λs=>bU (doR E d) s b) l (U6 s t m).toNat 0 s).2)),.non)
 |_=>(s,.non)
def rX(E:En)(d:Nat)(s:S):Rw->S×V
 | .call _ i ts=>match E.ds[i]? with
  |some D=>((bU (doR E d) (s.wY (D.parts.zip (ts.map (Th.num s)))) D.body).1,.non)
  |none=>(s,.non)
 |_=>(s,.non)
theorem ye{f:S->Rw->S×Bool}{p:S×Bool}{xs:List Rw}{i:Nat}{x:Rw}(h:xs[i]?=UT x):(xs.take (i+1)).foldl (step f) p=step f ((xs.take i).foldl (step f) p) x:=tI _ _ h
theorem qi{α:Type}{xs:List α}{i:Nat}{x:α}(h:xs[i]?=UT x):xs.drop i=x::xs.drop (i+1):=by
 obtain⟨hi,e⟩:=KH.mp h;rw[LY hi,e]
theorem wJ{j f:Nat}(T:Txt K mg A)(D:dz P w K mg base j A.Run "do_row" ["self","row"] (qN A E f)):dz P w K mg base (j+1) A.Run "do_rows" ["self","rows"] (mX A E f):=by
 have OJ:=D;refine T.jG.has (k:=j) eB (λvs H Q E h=>?_) (λf' cdv A' outer s' H vs Q E' hr hu h=>?_)
 ·obtain⟨r,k,q,xs,rows,rfl,_⟩:=h;rfl
 obtain⟨r,k,q,xs,rows,rfl,R,hq,pr,wf,rm,g⟩:=h;refine⟨_,(ae (pst 2 eB.nd lq)
 (ae (dP O1 rfl (df (fv 1)) (pgn (i:=3) eB.nd rfl)
  (aj (aM (bX (bF (hj:=by omega) (fv 0) T.bY.cl OJ hr (fv 3^af)) (λ_=>rfl))
   (aj (pst 2 eB.nd lq))
   aC)))
 (aj (aA (fv 2))))),?_⟩
 refine KJ ⟨⟨_,SqL.of (aB _ _ hq)⟩,eF (K:=K) (xs:=xs) (λi σ H2=>Go (r.M E) H (r.M E) H2/\bo A E H2 r ((rows.take i).foldl (step (doR E f)) (k,false)).1/\((rows.take i).foldl (step (doR E f)) (k,false)).1.room BIG (((rows.drop i).map (aT E f)).sum)/\
  ∃v,σ=[UT (.ref r.s),UT (.ref q),UT (.bl ((rows.take i).foldl (step (doR E f)) (k,false)).2),v]) ⟨Go.refl _ _,R,rm,UU,rfl⟩ (λi σ H2 _ h=>SqL.of (aB _ _ (h.1.same _ _ hq))) ?_ ?_⟩
 ·rintro i v σ H2 hx ⟨g2,R2,rm2,z,rfl⟩;obtain⟨rw,hrw,W⟩:=bw pr hx;rw[ye hrw];rw[qi hrw,KQ,Mg]at rm2;generalize (rows.take i).foldl (step (doR E f)) (k,false)=p at R2 rm2⊢;have wr:=wf rw (KG hrw);have nn:=oW E (d:=f) (xs:=rows.drop (i+1)) λq hq=>wf q (Sb hq);refine⟨r.s,r.ds,_,rfl,R2.s,rfl,r,p.1,v,rw,rfl,R2,W.same g2.same,wr,rm2.le (),λH3 g3 R3=>⟨_,rfl,?_⟩⟩;have rm3:=qv E f p.1 rw _ wr rm2;show if(doR E f p.1 rw).2=true then _ else _
  unfold step;cases hb:(doR E f p.1 rw).2 with
  |true=>
   refine dO ⟨g2.trans g3,R3,rm3,UT v,?_⟩;rw[Bool.or_true];rfl
  |false=>
   refine bH ⟨g2.trans g3,R3,rm3,UT v,?_⟩;rw[Bool.or_false];rfl
 rintro σ H2 ⟨g2,R2,rm2,z,rfl⟩;have hl:xs.length=rows.length:=OU pr;rw[hl,Lz]at R2⊢;exact g H2 g2 R2
theorem uV(k:S)(n:Int)(v:V):Th.num (k.tell n v)=Th.num k:=by
 funext a
 cases a<;>rfl
theorem oM(k:S)(n:Int)(v:V)(val:Val):val.num (k.tell n v)=val.num k:=by
 cases val with
 |one a=>cases a<;>rfl
 |op a w b=>cases a<;>cases b<;>rfl
 |atl x b=>cases b<;>rfl
theorem An(k:S)(n:Int)(rw:Rw):rw.told (k.idle n)=rw.told k:=by
 have e:∀val:Val,val.num (k.idle n)=val.num k:=λval=>by
  cases val with
  |one a=>cases a<;>rfl
  |op a w b=>cases a<;>cases b<;>rfl
  |atl x b=>cases b<;>rfl
 cases rw<;>first|rfl|exact congrArg V.int (e _)
theorem yb{n:Nat}{B s:Int}(h:(n:Int)<=s)(h2:s+1<=B)(h3:B<=1000000):n<sizeLine:=by
 have:sizeLine ≥ 1000001:=∅
 omega
theorem FY{j:Nat}(hj:3<=j)(T:Txt K mg A)(O:E.Ok):∀{n:Nat},dz P w K mg base j A.Run "do_rows" ["self","rows"] (kU A E n)->dz P w K mg base (j+1) A.Run "do_if" ["self","row"] (mS A E Ik (gIf E) n)
 |0,_=>T.lI.has (k:=j) hU (λ_ _ _ _ h=>h.elim) (λ_ _ _ _ _ _ _ _ _ _ _ h=>h.elim)
 |d+1,D=>by
  have NH:=D;have NC:=zp (P:=P) (w:=w) (base:=base) T O;have ND:=yF (P:=P) (w:=w) (base:=base) (E:=E) T;refine T.lI.has (k:=j) hU (λvs H Q E h=>?_) (λf cdv A' outer s' H vs Q E' hr hu h=>?_)
  ·obtain⟨r,k,a,rw,_,rfl,_⟩:=h;rfl
  ·obtain⟨r,k,a,rw,hP,rfl,R,W,wf,rm,g⟩:=h;cases rw with
   |iff n val fs os l r0=>
    obtain⟨a',dx,p,pf,po,xf,xo,ea,ha,hp,hf,ho,r1,r2⟩:=W;cases ea;obtain⟨vo,l0,r00,wf1,wf2⟩:=wf;have s0:aq (del (r.M E) H) H:=aB;unfold aT at rm;refine⟨_,(ae (aM (ptc (yy hu) (bF (hj:=by omega) (fv 0) T.bY.cl NC hr (aI (fv 1) rfl^af)) ab)
   (ae (pst 2 hU.nd (bF (hj:=by omega) (fv 0) T.bY.cl NH hr (aI (fv 1) rfl^af)))
   (aj (aK (bF (hj:=by omega) (fv 0) T.bY.cl ND hr (aI (fv 1) rfl^af)))))
   (ae (pst 2 hU.nd (bF (hj:=by omega) (fv 0) T.bY.cl NH hr (aI (fv 1) rfl^af)))
   (aj (aK (bF (hj:=by omega) (fv 0) T.bY.cl ND hr (aI (fv 1) rfl^af))))))
  (aj (aA (fv 2)))),?_⟩
    refine⟨r.s,r.ds,_,rfl,R.s,rfl,fdI (s0 _ _ ha) T.bA.cl T.jE rfl ⟨r,k,p,val,rfl,R,s0 _ _ hp,vo,rfl,_,rfl,?_⟩⟩
    have b1:(fs.map (aT E d)).sum<=1+(if l+(fs.map (aT E d)).sum<r0+(os.map (aT E d)).sum then r0+(os.map (aT E d)).sum else l+(fs.map (aT E d)).sum)-1:=by split<;>omega
    have b2:(os.map (aT E d)).sum<=1+(if l+(fs.map (aT E d)).sum<r0+(os.map (aT E d)).sum then r0+(os.map (aT E d)).sum else l+(fs.map (aT E d)).sum)-1:=by split<;>omega
    unfold gIf at g
    dsimp only at g
    by_cases c:val.num k=0
    ·rw[show(!decide (V.int (val.num k)=V.int 0))=false by rw[qb,c];rfl];refine bH ?_;rw[if_neg (λz=>z c)]at g;refine⟨r.s,r.ds,_,rfl,R.s,rfl,fdI (s0 _ _ ha) T.bA.cl T.jD rfl ⟨r,k,po,xo,os,rfl,R,ho,r2,wf2,rm.le b2,λH2 g2 R2=>?_⟩⟩;have ha2:=aB _ _ (g2.same _ _ ha);exact⟨r.s,r.ds,_,rfl,R2.s,rfl,fdI ha2 T.bA.cl T.jZ rfl ⟨r,r0,_,rfl,R2,λH3 g3 R3=>g H3 (g2.trans g3) R3⟩⟩
    rw[show(!decide (V.int (val.num k)=V.int 0))=true by rw[qb,decide_eq_false c];rfl]
    refine dO ?_
    rw[if_pos c]at g
    refine⟨r.s,r.ds,_,rfl,R.s,rfl,fdI (s0 _ _ ha) T.bA.cl T.j5 rfl ⟨r,k,pf,xf,fs,rfl,R,hf,r1,wf1,rm.le b1,λH2 g2 R2=>?_⟩⟩
    have ha2:=aB _ _ (g2.same _ _ ha)
    exact⟨r.s,r.ds,_,rfl,R2.s,rfl,fdI ha2 T.bA.cl T.kW rfl ⟨r,l,_,rfl,R2,λH3 g3 R3=>g H3 (g2.trans g3) R3⟩⟩
   |_=>exact(show False from hP).elim
theorem yE{i i':Nat}{v v':V}{t u:TS}{D:Ve}{σ:St}{H:Hp}(h:∀N:St->Hp->Prop,(∀σ H,u D σ H->N σ H)->t { D with nx:=N } ((σ.set i (UT v)).set i' (UT v')) H):ki i v σ H (DD (Di (tC v') (ki i')) (DD t u) D):=h (u D) λ_ _ z=>z
theorem tE(body:S->S×Bool)(l:Int):∀(n j:Nat)(s:S),j<=(U0 body l n j s).2/\(U0 body l n j s).2<=n+j
 |0,j,s=>by simp[U0]
 |n+1,j,s=>by
  simp only[U0];split
  ·simp;omega
  have:=tE body l n (j+1) ((body s).1.idle l);omega
theorem CH{j:Nat}(hj:3<=j)(T:Txt K mg A)(O:E.Ok):∀{n:Nat},dz P w K mg base j A.Run "do_rows" ["self","rows"] (kU A E n)->dz P w K mg base (j+1) A.Run "do_loop" ["self","row"] (mS A E Cd (wG E) n)
 |0,_=>T.jv.has (k:=j) dF (λ_ _ _ _ h=>h.elim) (λ_ _ _ _ _ _ _ _ _ _ _ h=>h.elim)
 |d+1,D=>by
  have NH:=D;have Nz:=Dy (P:=P) (w:=w) (base:=base) T O;have ND:=yF (P:=P) (w:=w) (base:=base) (E:=E) T;refine T.jv.has (k:=j) dF (λvs H Q E h=>?_) (λf cdv A' outer s' H vs Q E' hr hu h=>?_)
  ·obtain⟨r,k,a,rw,_,rfl,_⟩:=h;rfl
  ·obtain⟨r,k,a,rw,hP,rfl,R,W,wf,rm,g⟩:=h;cases rw with
   |loop n th m b l r0=>
    obtain⟨a',dx,q,xs,ea,ha,hq,pr⟩:=W;cases ea;obtain⟨to,m0,m1,l0,r00,wfb⟩:=wf;unfold aT at rm;have c0:=oW E wfb;have lr:(m*(l+(b.map (aT E d)).sum))<=1+m*(if l+(b.map (aT E d)).sum<r0 then r0 else l+(b.map (aT E d)).sum)-1:=by
     have:m*(l+(b.map (aT E d)).sum)<=m*(if l+(b.map (aT E d)).sum<r0 then r0 else l+(b.map (aT E d)).sum):=Lh (by split<;>omega) m0;omega
    have rm1:=rm.le lr;have s0:aq (del (r.M E) H) H:=aB;refine⟨_,(ae (pst 2 dF.nd (pcB Jl T.zj ((bF (hj:=by omega) (fv 0) T.bY.cl Nz hr (aI (fv 1) rfl^af))^aI (fv 1) rfl^af)))
  (ae (pst 3 dF.nd ab)
  (ae (vG O1 (ptc qJ (fv 3) (fv 2))
   (ae (Gp (i:=3) dF.nd rfl (by first|exact KJ rfl|exact Lg rfl) ab Ht)
   (ae (pst 4 dF.nd (bF (hj:=by omega) (fv 0) T.bY.cl NH hr (aI (fv 1) rfl^af)))
   (ae (aK (bF (hj:=by omega) (fv 0) T.bY.cl ND hr (aI (fv 1) rfl^af)))
   (aj (aM (bX (fv 4) (λ_=>rfl))
    (aj (BI))
    aC))))))
  (aj (aK (bF (hj:=by omega) (fv 0) T.bY.cl ND hr (ax cS (aI (fv 1) rfl) (ax kY (aI (fv 1) rfl) (fv 3))^af))))))),?_⟩
    refine⟨r.s,r.ds,_,rfl,R.s,rfl,fdI (s0 _ _ ha) T.aL.cl T.gZ rfl ⟨r,k,th,rfl,R,to,fdI (s0 _ _ ha) T.aL.cl T.fF rfl ⟨_,_,rfl,?_⟩⟩⟩
    dsimp only
    refine yE λN KN=>?_
    have wn:=EZ R.ok to m0
    have wm:=zZ k th m
    have ew:(if m<th.num k then m else th.num k)=U6 k th m:=rfl
    rw[ew]
    have gdef:wG E d k (.loop n th m b l r0)=((U0 (λs=>bU (doR E d) s b) l (U6 k th m).toNat 0 k).1.idle (r0*(m-(U0 (λs=>bU (doR E d) s b) l (U6 k th m).toNat 0 k).2)),.non):=rfl
    rw[gdef]at g
    have rl:=tE (λs=>bU (doR E d) s b) l (U6 k th m).toNat 0 k
    generalize hX:U0 (λs=>bU (doR E d) s b) l (U6 k th m).toNat 0 k=X at g rl
    generalize U6 k th m=wt at wn wm hX rl⊢
    have tail:∀(kk:S)(jj:Nat)(v4:Option V)(Hx:Hp),Go (r.M E) H (r.M E) Hx->bo A E Hx r kk->X=(kk,jj)->N [UT (.ref r.s),UT (.ref a),UT (.int wt),UT (.int (jj:Int)),v4] Hx:=by
     intro kk jj v4 Hx gx Rx ex;refine KN _ _ ?_;rw[ex]at rl g;dsimp only at rl;have hax:=aB _ _ (gx.same _ _ ha);exact⟨r.s,r.ds,_,rfl,Rx.s,rfl,fdI hax T.aL.cl T.gK rfl (fdI hax T.aL.cl T.fF rfl ⟨.inr ⟨(),()⟩,⟨r,_,kk,rfl,Rx,λH3 g3 R3=>g H3 (gx.trans g3) R3⟩⟩)⟩
    refine⟨λmm σ Hx=>∃(jj:Nat)(kj:S)(v4:Option V),mm+jj=wt.toNat/\σ=[UT (.ref r.s),UT (.ref a),UT (.int wt),UT (.int (jj:Int)),v4]/\Go (r.M E) H (r.M E) Hx/\bo A E Hx r kj/\kj.room BIG ((mm:Int)*(l+(b.map (aT E d)).sum))/\U0 (λs=>bU (doR E d) s b) l mm jj kj=X,⟨_,0,k,UU,Nat.add_zero _,rfl,Go.refl _ _,R,rm1.le (Ma () ()),hX⟩,?_⟩
    rintro mm σ Hx ⟨jj,kj,v4,hmm,rfl,gx,Rx,rmx,ex⟩
    refine⟨_,rfl,aE (λc=>?_) (λc=>?_)⟩
    ·have hc:(jj:Int)<wt:=of_decide_eq_true c;obtain⟨m',rfl⟩:∃m',mm=m'+1:=⟨mm-1,()⟩;have em:((m'+1:Nat):Int)*(l+(b.map (aT E d)).sum)=(m':Int)*(l+(b.map (aT E d)).sum)+(l+(b.map (aT E d)).sum):=by rw[Ub,Nv,Nq]
     rw[em]at rmx;have m0':0<=(m':Int)*(l+(b.map (aT E d)).sum):=Lq () ();refine⟨λσ' H'=>∃(jj:Nat)(kj:S)(v4:Option V),m'+jj=wt.toNat/\σ'=[UT (.ref r.s),UT (.ref a),UT (.int wt),UT (.int (jj:Int)),v4]/\Go (r.M E) H (r.M E) H'/\bo A E H' r kj/\kj.room BIG ((m':Int)*(l+(b.map (aT E d)).sum))/\U0 (λs=>bU (doR E d) s b) l m' jj kj=X,λσ' H' h'=>⟨m',Mi _,h'⟩,⟨_,rfl,_,_,rfl,rfl,?_⟩⟩;have hax:=aB _ _ (gx.same _ _ ha);refine⟨r.s,r.ds,_,rfl,Rx.s,rfl,fdI hax T.aL.cl T.i7 rfl ⟨r,kj,q,xs,b,rfl,Rx,gx.same _ _ hq,Paired.cR pr (λ_ _=>eA.same gx.same),wfb,rmx.le (),λH2 g2 R2=>?_⟩⟩;have g02:=gx.trans g2;have ha2:=aB _ _ (g02.same _ _ ha);refine⟨r.s,r.ds,_,rfl,R2.s,rfl,fdI ha2 T.aL.cl T.iR rfl ⟨r,l,_,rfl,R2,λH3 g3 R3=>?_⟩⟩;have g03:=g02.trans g3;have rm3:((bU (doR E d) kj b).1.idle l).room BIG ((m':Int)*(l+(b.map (aT E d)).sum)):=kb (mT (E:=E) (p:=Wf E d) (λs r n w h=>qv E d s r n w h) b (kj,false) _ wfb (rmx.le ())) l0;simp only[U0]at ex;refine⟨_,rfl,?_⟩;cases hb:(bU (doR E d) kj b).2 with
     |true=>
      refine dO ?_;rw[hb,if_pos rfl]at ex;exact tail _ (jj+1) _ H3 g03 R3 ex.symm
     |false=>
      refine bH ?_;rw[hb,if_neg KL]at ex;exact⟨jj+1,_,_,(),rfl,g03,R3,rm3,ex⟩
    have hc:¬ (jj:Int)<wt:=λz=>c (decide_eq_true z)
    obtain rfl:mm=0:=()
    exact tail kj jj v4 Hx gx Rx ex.symm
   |_=>exact(show False from hP).elim
theorem Kl{i:Nat}{v:V}{σ:St}{H:Hp}{G:List V->Hp->Prop}(hv:∀Q:V->Hp->Prop,Q v H->EK i σ H Q)(h:G [v] H):Fn (EK i) DN σ H G:=hv _ h
theorem A9{k:S}{xs:List (Nat×Int)}{i:Nat}{p:Nat×Int}(h:xs[i]?=UT p):k.wY (xs.take (i+1))=(k.wY (xs.take i)).put p.1 p.2:=tI _ _ h
theorem BP{j:Nat}(hj:3<=j)(T:Txt K mg A)(O:E.Ok):∀{n:Nat},dz P w K mg base j A.Run "do_rows" ["self","rows"] (kU A E n)->dz P w K mg base (j+1) A.Run "do_call" ["self","row"] (mS A E CF (rX E) n)
 |0,_=>T.jF.has (k:=j) dD (λ_ _ _ _ h=>h.elim) (λ_ _ _ _ _ _ _ _ _ _ _ h=>h.elim)
 |d+1,D=>by
  have NH:=D;have Nz:=Dy (P:=P) (w:=w) (base:=base) T O;refine T.jF.has (k:=j) dD (λvs H Q E h=>?_) (λf' cdv A' outer s' H vs Q E' hr hu h=>?_)
  ·obtain⟨r,k,a,rw,_,rfl,_⟩:=h;rfl
  ·obtain⟨r,k,a,rw,hP,rfl,R,W,wf,rm,g⟩:=h;cases rw with
   |call n i ts=>
    obtain⟨a',dx,p,D,ea,hD,ha,hp,b,bx,bn,pp,pb,bs,hdv,hb,hpp,hpb,W⟩:=W;cases ea;obtain⟨to,tl4,D',hD',pl,wb⟩:=wf;rw[hD]at hD';cases hD';unfold aT at rm;unfold rX at g;rw[hD]at rm;dsimp only at g rm;rw[hD]at g;dsimp only at g;have s0:aq (del (r.M E) H) H:=aB;refine⟨_,(ae (pst 2 dD.nd (px hu (aI (fv 0) rfl) (aI (fv 1) rfl)))
  (ae (kI (j:=3) (N:=["thing","self"]) (own:=1) (fr:=[0]) (cQ.of (by kernel_rfl!)) rfl dD.nd rfl (KJ rfl) (df (aI (fv 1) rfl)) (λb=>pgn (i:=0) (show PM (["thing","self"]:List P0) by decide+kernel) rfl) (λb=>qU) (λb=>bF (hj:=by omega) (fv 1) T.bY.cl Nz hr (fv 0^af)))
  (ae (dP O1 rfl (BJ rfl T.vY (aI (fv 2) rfl^fv 3^af)) (yT rfl (kx (pgn (i:=4) dD.nd rfl) (kx (pgn (i:=5) dD.nd rfl) uP)))
   (aj (bu (fv 5) (bC (aI (fv 0) rfl) (fv 4) (bD hu UX)))))
  (aj (aK (bF (hj:=by omega) (fv 0) T.bY.cl NH hr (aI (fv 2) rfl^af))))))),?_⟩
    refine ah λM1 K1=>fdI R.s T.bY.cl T.je rfl (fdI (s0 _ _ ha) T.aZ.cl T.iP rfl ⟨_,R.fU O hD hdv,K1 _ _ (ah λM2 K2=>fdI (s0 _ _ ha) T.aZ.cl T.fV rfl (KJ ⟨⟨_,SqL.of (s0 _ _ hp)⟩,CY (K:=K) (λi y _=>∀t,ts[i]?=UT t->y=.int (t.num k)) (SqL.of (s0 _ _ hp)) (az (by rw[Ky];omega)) (λb' i x H2 G hx s2 kk=>?_) (λ_ _ _ _ _ h=>h) (λ_ _ _ _ _ _ _ h=>h) (λnl H2 ys hnl s2 e2 yl hy=>?_)⟩))⟩)
    ·rw[KP]at hx;cases ht:ts[i]? with
     |none=>rw[ht]at hx;cases hx
     |some t=>
      rw[ht]at hx;cases hx;have R2:=R.same s2;exact⟨r.s,r.ds,_,rfl,R2.s,rfl,r,k,t,rfl,R2,to t (KG ht),kk _ _ (aq.refl _) λt' h'=>by rw[ht]at h';cases h';rfl⟩
    have ey:ys=(ts.map (Th.num k)).map V.int:=by
     refine Nf λi=>?_;rw[Ky]at yl;rw[KP,KP];cases h1:ts[i]? with
     |none=>
      have:ts.length<=i:=MA.mp h1;exact LC ()
     |some t=>
      have lt:i<ys.length:=by have:=(KH.mp h1).1;omega
      rw[Kw lt,hy i _ (Kw lt) t h1];rfl
    subst ey
    refine K2 _ _ (ah λM3 K3=>?_)
    have g2:Go (r.M E) H (r.M E) H2:=Go.new s2
    have nlM:=R.free hnl
    refine fdI (aB _ _ (g2.same _ _ hb)) T.dW.cl T.eX rfl ⟨_,_,rfl,⟨_,SqL.of (aB _ _ (g2.same _ _ hpp))⟩,⟨_,SqL.of e2⟩,zK (K:=K) (xs:=D.parts.map λi=>V.str (E.N i)) (ys:=(ts.map (Th.num k)).map V.int) (λi σ H3=>Go (r.M E) H (r.M E) H3/\bo A E H3 r (k.wY ((D.parts.zip (ts.map (Th.num k))).take i))/\H3 nl=UT (.lst ((ts.map (Th.num k)).map V.int))/\∃z4 z5,σ=[UT (.ref r.s),UT (.ref a),UT (.ref b),UT (.ref nl),z4,z5]) ⟨g2,R.same s2,e2,UU,UU,rfl⟩ (λi σ H3 _ h=>⟨SqL.of (aB _ _ (h.1.same _ _ hpp)),SqL.of h.2.2.1⟩) (by rw[Ky,Ky,Ky];exact pl) ?_ ?_⟩
    ·rintro i x y σ H3 tp hx hy ⟨g3,R3,e3,z4,z5,rfl⟩ htp;rw[KP]at hx hy;cases hpi:D.parts[i]? with
     |none=>rw[hpi]at hx;cases hx
     |some q=>
     cases hvi:(ts.map (Th.num k))[i]? with
     |none=>rw[hvi]at hy;cases hy
     |some u=>
     rw[hpi]at hx;rw[hvi]at hy;cases hx;cases hy;have zi:(D.parts.zip (ts.map (Th.num k)))[i]?=UT (q,u):=by
      rw[LZ];exact⟨hpi,hvi⟩
     have ui:In u:=by
      have:=KG hvi;obtain⟨t,ht,rfl⟩:=KU.mp this;exact Th.fh R.ok (to t ht)
     rw[A9 zi];generalize k.wY ((D.parts.zip (ts.map (Th.num k))).take i)=k3 at R3⊢;obtain⟨s4,e4⟩:=alc htp (HO.tup [V.str (E.N q),.int u]);generalize upd H3 tp _=H4 at s4 e4⊢;have R4:=R3.same s4;refine⟨tp,_,rfl,SqT.of e4,rfl,_,_,rfl,_,_,rfl,rfl,?_⟩;obtain⟨x1,x2⟩:=O.pt D (KG hD) q (KG hpi);exact fdI R4.s T.bY.cl T.cY rfl ⟨_,cP.k (k:=.inr (E.N q)) R4.hc (az (by rw[fj];have:=O.len;omega)),⟨(g3.trans (Go.new s4)).trans (Go.at (r.inM E).2.1 _),R4.put O x1 x2 ui,ag (λz=>nlM (z▸(r.inM E).2.1)) (s4 _ _ e3),_,_,rfl⟩⟩
    rintro σ H3 ⟨g3,R3,e3,z4,z5,rfl⟩
    have full:(D.parts.zip (ts.map (Th.num k))).take (D.parts.map λi=>V.str (E.N i)).length=D.parts.zip (ts.map (Th.num k)):=Mp (by simp only[MQ,Ky];exact Nat.min_le_left _ _)
    rw[full]at R3
    refine K3 _ _ ?_
    have hb3:=aB _ _ (g3.same _ _ hb)
    exact⟨r.s,r.ds,_,rfl,R3.s,rfl,fdI hb3 T.dW.cl T.iY rfl ⟨r,_,pb,bs,D.body,rfl,R3,g3.same _ _ hpb,Paired.cR W (λ_ _=>eA.same g3.same),wb,tD (rm.le ()) _,λH4 g4 R4=>g H4 (g3.trans g4) R4⟩⟩
   |_=>exact(show False from hP).elim
theorem EJ{j d:Nat}(hj:4<=j)(T:Txt K mg A)(O:E.Ok)(D1:dz P w K mg base j A.Run "do_if" ["self","row"] (mS A E Ik (gIf E) d))(D2:dz P w K mg base j A.Run "do_loop" ["self","row"] (mS A E Cd (wG E) d))(D3:dz P w K mg base j A.Run "do_call" ["self","row"] (mS A E CF (rX E) d)) :
  dz P w K mg base (j+1) A.Run "do_row" ["self","row"] (qN A E d):=by
 have OL:=D1
 have OE:=D2
 have OF:=D3
 have Oh:=Gs (P:=P) (w:=w) (base:=base) T O
 have NC:=zp (P:=P) (w:=w) (base:=base) T O
 have OK:=Eu (P:=P) (w:=w) (base:=base) T O
 have ND:=yF (P:=P) (w:=w) (base:=base) (E:=E) T
 refine T.ox.has (k:=j) jx (λvs H Q E h=>?_) (λf cdv A' outer s' H vs Q E' hr hu h=>?_)
 ·obtain⟨r,k,v,rw,rfl,_⟩:=h;rfl
 obtain⟨r,k,v,rw,rfl,R,W,wf,rm,g⟩:=h
 have rm1:=rm.le (tj E d rw wf)
 refine⟨_,(ae (aK (bF (hj:=by omega) (fv 0) T.bY.cl ND hr (ab^af)))
 (ae (pst 2 jx.nd (aI (fv 0) rfl))
 (ae (pst 3 jx.nd (bF (hj:=by omega) (fv 0) T.bY.cl Oh hr (fv 1^af)))
 (ae (aK (cI (aI (fv 2) rfl) (bb (aI (fv 1) rfl^aI (fv 2) rfl^fv 3^af)^af)))
 (ae (aM (bX (pcB bN T.aJ (fv 1^dJ T.bM.mg^af)) (λ_=>rfl))
  (aj (bu (bF (hj:=by omega) (fv 0) T.bY.cl NC hr (aI (fv 1) rfl^af)) (bC (aI (fv 0) rfl) (aI (fv 1) rfl) (bD hu UX))))
  (aj (aM (bX (pcB bN T.aJ (fv 1^dJ T.bE.mg^af)) (λ_=>rfl))
   (aj (aK (bF (hj:=by omega) (fv 0) T.bY.cl OK hr (fv 1^af))))
   (aj (aM (bX (pcB bN T.aJ (fv 1^dJ T.aQ.mg^af)) (λ_=>rfl))
    (aj (aK (cI (aI (fv 2) rfl) (bb (aI (fv 2) rfl^aI (fv 1) rfl^aI (fv 1) rfl^fv 3^af)^af))))
    (aj (aM (bX (pcB bN T.aJ (fv 1^dJ T.aU.mg^af)) (λ_=>rfl))
     (ae (bu (fv 3) (bC (aI (fv 0) rfl) (aI (fv 1) rfl) (bD hu UX)))
     (aj (aK (cI (aI (fv 2) rfl) (bb (aI (fv 2) rfl^aI (fv 1) rfl^aI (fv 1) rfl^fv 3^af)^af)))))
     (aj (aM (bX (pcB bN T.aJ (fv 1^dJ T.aZ.mg^af)) (λ_=>rfl))
      (aj (aK (bF (hj:=by omega) (fv 0) T.bY.cl OF hr (fv 1^af))))
      (aj (aM (bX (pcB bN T.aJ (fv 1^dJ T.bA.mg^af)) (λ_=>rfl))
       (aj (aA (bF (hj:=by omega) (fv 0) T.bY.cl OL hr (fv 1^af))))
       (aj (aM (bX (pcB bN T.aJ (fv 1^dJ T.aL.mg^af)) (λ_=>rfl))
        (aj (aK (bF (hj:=by omega) (fv 0) T.bY.cl OE hr (fv 1^af))))
        aC)))))))))))))
 (aj (aA (pcB bN T.aJ (fv 1^dJ T.aV.mg^af))))))))),?_⟩
 refine⟨r.s,r.ds,_,rfl,R.s,rfl,r,1,k,rfl,R,λH2 g2 R2=>fdI R2.s T.bY.cl T.iH rfl ?_⟩
 obtain⟨a,dx,fs,rfl,ha⟩:=Dp W
 obtain⟨cl,cn⟩:=Jf T rw
 obtain⟨ts,ht,tt⟩:=R2.ht
 have tlen:ts.length<sizeLine:=by
  have:=tt.len;exact yb (n:=ts.length) (B:=BIG) (by rw[this];exact rm1.t) rm1.st (Lb _)
 refine⟨r.s,r.ds,_,rfl,R2.s,rfl,Kl (v:=.ref a) (λ_ z=>z) ?_⟩
 dsimp only
 refine EG T (W.same g2.same) wf aB R2 ?_
 rw[An]
 have ha2:=aB _ _ (g2.same _ _ ha)
 refine fdI R2.hb T.dZ.cl T.kH rfl ⟨KJ ⟨rfl,_,SqL.of ht⟩,a,_,dx,_,_,rfl,ha2,cl,cn,rfl,fdI R2.hb T.dZ.cl T.eP rfl ⟨(show 3<=sizeLine by decide),λp3 hp3=>⟨_,_,_,rfl,rfl,aq.upd hp3 _ _ _ ht,tlen,?_⟩⟩⟩
 have R4:bo A E _ r (k.tell rw.no (rw.told k)):=R2.trace (w:=[.int rw.no,.int (k.idle 1).steps,rw.told k]) hp3 ht
 have g4:Go (r.M E) H (r.M E) (upd (upd H2 p3 (HO.tup [.int rw.no,.int (k.idle 1).steps,rw.told k])) r.t (HO.lst (ts++[.ref p3]))):=(g2.trans (Go.new (aq.upd hp3 _))).trans (Go.at (r.inM E).2.2.1 _)
 generalize upd (upd H2 p3 (HO.tup [.int rw.no,.int (k.idle 1).steps,rw.told k])) r.t (HO.lst (ts++[.ref p3]))=H4 at R4 g4⊢
 have W4:=W.same g4.same
 have room4:(k.tell rw.no (rw.told k)).room BIG (aT E d rw-1):=ic (rm.le ()) _ _
 cases rw with
 |set n x val=>
  obtain⟨a',dx,p,ea,ha,hp⟩:∃a' dx p,V.ref a=.ref a'/\del (r.M E) H4 a'=UT (.ins A.cB dx [("number",.int n),("name",.str (E.N x)),("value",.ref p)])/\del (r.M E) H4 p=UT (.tup (vV E.N val)):=by cases d<;>exact W4
  cases ea
  obtain⟨x1,x2,vo⟩:x∈E.idx/\E.sz x=0/\val.okE E:=by cases d<;>exact wf
  have ha4:=aB _ _ ha
  have eg:doR E d k (.set n x val)=((k.tell n .non).put x (val.num k),false):=by cases d<;>rfl
  rw[eg]at g
  refine isB (T.bM.cc ha4) (nL T.bM) (dO ⟨r.s,r.ds,_,rfl,R4.s,rfl,fdI ha4 T.bM.cl T.iS rfl ⟨r,k.tell n .non,p,val,rfl,R4,aB _ _ hp,vo,?_⟩⟩)
  rw[oM]
  refine fdI R4.s T.bY.cl T.cY rfl (fdI ha4 T.bM.cl T.jC rfl ⟨_,cP.k (k:=.inr (E.N x)) R4.hc (az (by rw[fj];have:=O.len;omega)),?_⟩)
  have g5:=Go.at (H:=H4) (r.inM E).2.1 (HO.dK (UZ (dk E.N E.idx (cV E r.la (k.tell n .non).num)) (.inr (E.N x)) (.int (val.num k))))
  have ha5:=aB _ _ (g5.same _ _ ha)
  exact⟨_,_,_,false,rfl,(λz=>by cases z),T.bM.cc ha5,(cq T.bM T.aV (av T 10 5) (av T 10 0)),g _ (g4.trans g5) (R4.put O x1 x2 (Val.fh R.ok vo))⟩
 |put n x pl val=>
  obtain⟨a',dx,p,ea,ha,hp⟩:∃a' dx p,V.ref a=.ref a'/\del (r.M E) H4 a'=UT (.ins A.bW dx [("number",.int n),("name",.str (E.N x)),("place",pl.v E.N),("value",.ref p)])/\del (r.M E) H4 p=UT (.tup (vV E.N val)):=by cases d<;>exact W4
  cases ea
  obtain⟨x1,x2,po,vo⟩:x∈E.idx/\0<E.sz x/\pl.okE E/\val.okE E:=by cases d<;>exact wf
  have ha4:=aB _ _ ha
  have eg:doR E d k (.put n x pl val)=((k.tell n .non).yt x (pl.num k) (val.num k),false):=by cases d<;>rfl
  rw[eg]at g
  refine isB (T.bE.cc ha4) (cq T.bE T.bM (av T 5 6) (av T 5 0)) (bH (isB (T.bE.cc ha4) (nL T.bE) (dO ⟨r.s,r.ds,_,rfl,R4.s,rfl,r,k.tell n .non,_,x,pl,val,a,dx,p,rfl,R4,x1,x2,po,vo,ha4,aB _ _ hp,λH5 R5 g5=>?_⟩)))
  rw[oM,uV]at R5
  have ha5:=aB _ _ (g5.same _ _ ha)
  exact⟨_,_,_,false,rfl,(λz=>by cases z),T.bE.cc ha5,(cq T.bE T.aV (av T 10 6) (av T 10 0)),g _ (g4.trans g5) R5⟩
 |snd n x val=>
  obtain⟨a',dx,p,ea,ha,hp⟩:∃a' dx p,V.ref a=.ref a'/\del (r.M E) H4 a'=UT (.ins A.bp dx [("number",.int n),("name",.str (E.N x)),("value",.ref p)])/\del (r.M E) H4 p=UT (.tup (vV E.N val)):=by cases d<;>exact W4
  cases ea
  have ha4:=aB _ _ ha
  have eg:doR E d k (.snd n x val)=((k.tell n (.int (val.num k))).qQ [.int (k.steps+1),.int n,.str (E.N x),.int (val.num k)],false):=by cases d<;>rfl
  rw[eg]at g
  obtain⟨ls,hl,tl⟩:=R4.hl
  have llen:ls.length<sizeLine:=by
   have:=tl.len;exact yb (n:=ls.length) (B:=BIG) (by rw[this];exact rm1.l) rm1.st (Lb _)
  refine isB (T.aQ.cc ha4) (cq T.aQ T.bM (av T 5 7) (av T 5 0)) (bH (isB (T.aQ.cc ha4) (cq T.aQ T.bE (av T 6 7) (av T 6 0)) (bH (isB (T.aQ.cc ha4) (nL T.aQ) (dO (fdI R4.hb T.dZ.cl T.dA rfl ⟨KJ ⟨rfl,_,SqL.of hl⟩,fdI R4.hb T.dZ.cl T.eP rfl (fdI ha4 T.aQ.cl T.eR rfl (fdI ha4 T.aQ.cl T.iT rfl ⟨(show 4<=sizeLine by decide),λp5 hp5=>⟨_,_,_,rfl,rfl,aq.upd hp5 _ _ _ hl,llen,?_⟩⟩))⟩))))))
  have R6:=R4.qQ (w:=[.int (k.steps+1),.int n,.str (E.N x),.int (val.num k)]) hp5 hl
  have g6:Go (r.M E) H4 (r.M E) (upd (upd H4 p5 (HO.tup [.int (k.steps+1),.int n,.str (E.N x),.int (val.num k)])) r.l (HO.lst (ls++[.ref p5]))):=(Go.new (aq.upd hp5 _)).trans (Go.at (r.inM E).2.2.2.1 _)
  have ha6:=aB _ _ (g6.same _ _ ha)
  exact⟨_,_,_,false,rfl,(λz=>by cases z),T.aQ.cc ha6,(cq T.aQ T.aV (av T 10 7) (av T 10 0)),g _ (g4.trans g6) R6⟩
 |say n x val m=>
  obtain⟨a',dx,p,ea,ha,hp⟩:∃a' dx p,V.ref a=.ref a'/\del (r.M E) H4 a'=UT (.ins A.bK dx [("number",.int n),("name",.str (E.N x)),("value",.ref p),("mark",.str (E.N m))])/\del (r.M E) H4 p=UT (.tup (vV E.N val)):=by cases d<;>exact W4
  cases ea
  obtain⟨x1,x2,vo⟩:x∈E.idx/\E.sz x=0/\val.okE E:=by cases d<;>exact wf
  have ha4:=aB _ _ ha
  have eg:doR E d k (.say n x val m)=(((k.tell n (.int (val.num k))).put x (val.num k)).sg [.int (k.steps+1),.int n,.str (E.N m),.int (val.num k)],false):=by cases d<;>rfl
  rw[eg]at g
  refine isB (T.aU.cc ha4) (cq T.aU T.bM (av T 5 8) (av T 5 0)) (bH (isB (T.aU.cc ha4) (cq T.aU T.bE (av T 6 8) (av T 6 0)) (bH (isB (T.aU.cc ha4) (cq T.aU T.aQ (av T 7 8) (av T 7 0)) (bH (isB (T.aU.cc ha4) (nL T.aU) (dO (fdI R4.s T.bY.cl T.cY rfl (fdI ha4 T.aU.cl T.jU rfl ⟨_,cP.k (k:=.inr (E.N x)) R4.hc (az (by rw[fj];have:=O.len;omega)),?_⟩)))))))))
  have R5:=R4.put O x1 x2 (Val.fh R.ok vo)
  have g5:=Go.at (H:=H4) (r.inM E).2.1 (HO.dK (UZ (dk E.N E.idx (cV E r.la (k.tell n (.int (val.num k))).num)) (.inr (E.N x)) (.int (val.num k))))
  dsimp only[Rw.no,Rw.told]at R5⊢
  generalize upd H4 r.c (HO.dK (UZ (dk E.N E.idx (cV E r.la (k.tell n (.int (val.num k))).num)) (.inr (E.N x)) (.int (val.num k))))=H5 at R5 g5⊢
  have ha5':=g5.same _ _ ha
  have ha5:=aB _ _ ha5'
  obtain⟨ls,hl,tl⟩:=R5.hd
  have llen:ls.length<sizeLine:=by
   have:=tl.len;exact yb (n:=ls.length) (B:=BIG) (by rw[this];exact rm1.d) rm1.st (Lb _)
  refine fdI R5.hb T.dZ.cl T.lF rfl ⟨KJ ⟨rfl,_,SqL.of hl⟩,fdI R5.hb T.dZ.cl T.eP rfl (fdI ha5 T.aU.cl T.eY rfl (fdI ha5 T.aU.cl T.jM rfl ⟨(show 4<=sizeLine by decide),λp5 hp5=>⟨_,_,_,rfl,rfl,aq.upd hp5 _ _ _ hl,llen,?_⟩⟩))⟩
  have R6:=R5.sg (w:=[.int (k.steps+1),.int n,.str (E.N m),.int (val.num k)]) hp5 hl
  have g6:Go (r.M E) H5 (r.M E) (upd (upd H5 p5 (HO.tup [.int (k.steps+1),.int n,.str (E.N m),.int (val.num k)])) r.sd (HO.lst (ls++[.ref p5]))):=(Go.new (aq.upd hp5 _)).trans (Go.at (r.inM E).2.2.2.2.1 _)
  have ha6:=aB _ _ (g6.same _ _ ha5')
  exact⟨_,_,_,false,rfl,(λz=>by cases z),T.aU.cc ha6,(cq T.aU T.aV (av T 10 8) (av T 10 0)),g _ ((g4.trans g5).trans g6) R6⟩
 |last n=>
  obtain⟨a',dx,ea,ha⟩:∃a' dx,V.ref a=.ref a'/\del (r.M E) H4 a'=UT (.ins A.cO dx [("number",.int n)]):=by cases d<;>exact W4
  cases ea
  have ha4:=aB _ _ ha
  have eg:doR E d k (.last n)=(k.tell n .non,true):=by cases d<;>rfl
  rw[eg]at g
  exact isB (T.aV.cc ha4) (cq T.aV T.bM (av T 5 10) (av T 5 0)) (bH (isB (T.aV.cc ha4) (cq T.aV T.bE (av T 6 10) (av T 6 0)) (bH (isB (T.aV.cc ha4) (cq T.aV T.aQ (av T 7 10) (av T 7 0)) (bH (isB (T.aV.cc ha4) (cq T.aV T.aU (av T 8 10) (av T 8 0)) (bH (isB (T.aV.cc ha4) (cq T.aV T.aZ (av T 9 10) (av T 9 0)) (bH (isB (T.aV.cc ha4) (cq T.aV T.bA (av T 11 10) (av T 11 0)) (bH (isB (T.aV.cc ha4) (cq T.aV T.aL (av T 12 10) (av T 12 0)) (bH ⟨_,_,_,true,rfl,(λz=>by cases z),T.aV.cc ha4,nL T.aV,g _ g4 R4⟩)))))))))))))
 |call n i ts=>
  cases d with
  |zero=>exact(show False from wf).elim
  |succ d=>
  obtain⟨a',dx,p,D,ea,hD,ha,_⟩:=id W4
  cases ea
  have ha4:=aB _ _ ha
  have eg:doR E (d+1) k (.call n i ts)=((rX E d (k.tell n .non) (.call n i ts)).1,false):=by
   simp only[doR,rX,hD,uV]
  have e2:(rX E d (k.tell n .non) (.call n i ts)).2=.non:=by simp only[rX,hD]
  rw[eg]at g
  refine isB (T.aZ.cc ha4) (cq T.aZ T.bM (av T 5 9) (av T 5 0)) (bH (isB (T.aZ.cc ha4) (cq T.aZ T.bE (av T 6 9) (av T 6 0)) (bH (isB (T.aZ.cc ha4) (cq T.aZ T.aQ (av T 7 9) (av T 7 0)) (bH (isB (T.aZ.cc ha4) (cq T.aZ T.aU (av T 8 9) (av T 8 0)) (bH (isB (T.aZ.cc ha4) (nL T.aZ) (dO ⟨r.s,r.ds,_,rfl,R4.s,rfl,r,k.tell n .non,a,.call n i ts,trivial,rfl,R4,W4,wf,room4,?_⟩)))))))))
  rw[e2]
  intro H5 g5 R5
  have ha5:=aB _ _ (g5.same _ _ ha)
  exact⟨_,_,_,false,rfl,(λz=>by cases z),T.aZ.cc ha5,(cq T.aZ T.aV (av T 10 9) (av T 10 0)),g _ (g4.trans g5) R5⟩
 |iff n val fs os l r0=>
  cases d with
  |zero=>exact(show False from wf).elim
  |succ d=>
  obtain⟨a',dx,p,pf,po,xf,xo,ea,ha,_⟩:=id W4
  cases ea
  have ha4:=aB _ _ ha
  refine isB (T.bA.cc ha4) (cq T.bA T.bM (av T 5 11) (av T 5 0)) (bH (isB (T.bA.cc ha4) (cq T.bA T.bE (av T 6 11) (av T 6 0)) (bH (isB (T.bA.cc ha4) (cq T.bA T.aQ (av T 7 11) (av T 7 0)) (bH (isB (T.bA.cc ha4) (cq T.bA T.aU (av T 8 11) (av T 8 0)) (bH (isB (T.bA.cc ha4) (cq T.bA T.aZ (av T 9 11) (av T 9 0)) (bH (isB (T.bA.cc ha4) (nL T.bA) (dO ⟨r.s,r.ds,_,rfl,R4.s,rfl,r,k.tell n .non,a,.iff n val fs os l r0,trivial,rfl,R4,W4,wf,room4,?_⟩)))))))))))
  have e1:(gIf E d (k.tell n .non) (.iff n val fs os l r0)).1=(doR E (d+1) k (.iff n val fs os l r0)).1:=by
   simp only[doR,gIf,oM];split<;>rfl
  have e2:(gIf E d (k.tell n .non) (.iff n val fs os l r0)).2=.bl (doR E (d+1) k (.iff n val fs os l r0)).2:=by
   simp only[doR,gIf,oM];split<;>rfl
  rw[e1,e2]
  exact λH5 g5 R5=>g _ (g4.trans g5) R5
 |loop n t m b l r0=>
  cases d with
  |zero=>exact(show False from wf).elim
  |succ d=>
  obtain⟨a',dx,pb,xb,ea,ha,_⟩:=id W4
  cases ea
  have ha4:=aB _ _ ha
  refine isB (T.aL.cc ha4) (cq T.aL T.bM (av T 5 12) (av T 5 0)) (bH (isB (T.aL.cc ha4) (cq T.aL T.bE (av T 6 12) (av T 6 0)) (bH (isB (T.aL.cc ha4) (cq T.aL T.aQ (av T 7 12) (av T 7 0)) (bH (isB (T.aL.cc ha4) (cq T.aL T.aU (av T 8 12) (av T 8 0)) (bH (isB (T.aL.cc ha4) (cq T.aL T.aZ (av T 9 12) (av T 9 0)) (bH (isB (T.aL.cc ha4) (cq T.aL T.bA (av T 11 12) (av T 11 0)) (bH (isB (T.aL.cc ha4) (nL T.aL) (dO ⟨r.s,r.ds,_,rfl,R4.s,rfl,r,k.tell n .non,a,.loop n t m b l r0,trivial,rfl,R4,W4,wf,room4,?_⟩)))))))))))))
  have ew:U6 (k.tell n .non) t m=U6 k t m:=by unfold U6;rw[uV]
  have eg:doR E (d+1) k (.loop n t m b l r0)=((wG E d (k.tell n .non) (.loop n t m b l r0)).1,false):=by
   simp only[doR,wG,ew]
  rw[eg]at g
  intro H5 g5 R5
  have ha5:=aB _ _ (g5.same _ _ ha)
  exact⟨_,_,_,false,rfl,(λz=>by cases z),T.aL.cc ha5,(cq T.aL T.aV (av T 10 12) (av T 10 0)),g _ (g4.trans g5) R5⟩
theorem mQ(T:Txt K mg A)(O:E.Ok):∀n,dz P w K mg base (3*n+5) A.Run "do_rows" ["self","rows"] (kU A E n)
 |0=>T.jG.has (k:=4) eB (λ_ _ _ _ h=>h.elim) (λ_ _ _ _ _ _ _ _ _ _ _ h=>h.elim)
 |d+1=>wJ T (EJ () T O (FY () T O (mQ T O d)) (CH () T O (mQ T O d)) (BP () T O (mQ T O d)))
def Vd(n:Nat):List Int:=O0 n 0
theorem yj(n:Nat):(O0 n [V.int 0]).flatten=(Vd n).map V.int:=by
 unfold Vd;rw[SX];induction n with
 |zero=>rfl
 |succ n ih=>rw[Ls,Ls,Mq,ih];rfl
inductive BS(A:Adr)(vs:List V)(H:Hp)(Q:VK)(Z:XK):Prop
 |mk(a dx:OM)(k:V)(n:Nat)(x:V):vs=[.ref a]->n<=1000->H a=UT (.ins A.bG dx [("number",k),("name",x),("size",.int n)])->(n=0->Q (.int 0) H)->(0<n->∀p H',aq H H'->H p=UU->H' p=UT (.lst ((Vd n).map V.int))->Q (.ref p) H')->BS A vs H Q Z
theorem JF(T:Txt K mg A):Has P w K mg base 1 "own_cell" ["own"] (BS A):=by
 refine T.xH.has vX (λvs H Q E h=>?_) (λf cdv A' outer s H vs Q E hr hu h=>?_)
 ·obtain⟨a,dx,k,n,x,rfl,_⟩:=h;rfl
 obtain⟨a,dx,k,n,x,rfl,hn,ha,q0,q1⟩:=h;refine⟨_,(aj (aA (fA (ptc (bj hu) (aI (fv 0) rfl) ab) ab (ax cS (bR (ab^af)) (aI (fv 0) rfl))))),fdI ha T.bh.cl T.gw rfl ⟨rfl,_,rfl,aE (λc=>?_) (λc=>?_)⟩⟩
 ·rw[qb,decide_eq_true_iff]at c;exact q0 ()
 rw[qb,decide_eq_true_iff]at c;refine⟨by show 1<=sizeLine;decide,λl hl=>?_⟩;obtain⟨s1,e1⟩:=alc hl (HO.lst [V.int 0]);generalize upd H l _=H1 at s1 e1⊢;refine fdI (s1 _ _ ha) T.bh.cl T.gw rfl ⟨_,e1,(),(),?_,λp hp=>?_⟩
 ·show 1*((n:Int)).toNat<=sizeLine;have:=sz hn;omega
 refine q1 () p _ (s1.trans (aq.upd hp _)) (aq.free s1 hp) ?_;rw[ak,<-yj];rfl
inductive xq(A:Adr)(vs:List V)(H:Hp)(Q:VK)(Z:XK):Prop
 |mk(a g dx:OM)(k rk:V)(x:Str)(z:Nat)(kvs:List (Key×V))(gv:V):vs=[.ref a,.ref g]->H a=UT (.ins A.aX dx [("number",k),("name",.str x),("rank",rk),("size",.int z)])->H g=UT (.dK kvs)->L2.ft kvs (.inr x)=UT gv->((z=0/\∃n:Int,gv=.int n/\In n/\Q (.int n) H)\/(0<z/\z<=1000/\∃(l:OM)(ns:List Int),gv=.ref l/\H l=UT (.lst (ns.map V.int))/\ns.length=z/\(∀n∈ns,In n)/\∀p H',aq H H'->H p=UU->H' p=UT (.lst (ns.map V.int))->Q (.ref p) H'))->xq A vs H Q Z
theorem Dx(T:Txt K mg A):Has P w K mg base 3 "given_cell" ["given","gifts"] (xq A):=by
 have OG:=@Dv P w _ _ base _ T;refine T.qY.has nj (λvs H Q E h=>?_) (λf cdv A' outer s H vs Q E hr hu h=>?_)
 ·obtain⟨a,g,dx,k,rk,x,z,kvs,gv,rfl,_⟩:=h;rfl
 obtain⟨a,g,dx,k,rk,x,z,kvs,gv,rfl,ha,hg,hv,hq⟩:=h;have d1:c8 H g (.str x) (UT gv):=by
  have:=c8.k (k:=.inr x) hg;rw[hv]at this;exact this
 refine⟨_,(ae (pst 2 nj.nd (CT (Nc (Nat.add_le_add_left (show 1<=64 by decide) _) hu) (fv 1) (aI (fv 0) rfl) ⟨rfl,rfl,rfl,rfl⟩))
 (ae (aM (vf (bX (ar OG hr (fv 2^aI (fv 0) rfl^af)) (λ_=>rfl)))
  Ao
  aC)
 (aj (aA (fA (ptc (bj hu) (aI (fv 0) rfl) ab) (fv 2) (pcT qm T.dY (fv 2^af))))))),?_⟩
 refine⟨g,rfl,KJ ⟨_,KJ hg⟩,fdI ha T.aW.cl T.dS rfl ⟨_,d1,?_⟩⟩;rcases hq with⟨rfl,n,rfl,hn,q⟩|⟨z0,z1,l,ns,rfl,hl,rfl,hn,q⟩
 ·exact fdI ha T.aW.cl T.cW rfl (KJ ⟨n,rfl,hn,true,rfl,bH (fdI ha T.aW.cl T.cW rfl ⟨rfl,_,rfl,dO q⟩)⟩)
 refine fdI ha T.aW.cl T.cW rfl (Lg ⟨l,ns,rfl,z0,z1,hl,hn,λH2 s2=>⟨true,rfl,bH (fdI (s2 _ _ ha) T.aW.cl T.cW rfl ⟨rfl,_,rfl,aE (λc=>absurd c ?_) (λc=>?_)⟩)⟩⟩)
 ·rw[qb,decide_eq_true_iff];omega
 exact KJ ⟨_,_,rfl,KJ (SqL.of (s2 _ _ hl)),λp hp=>q p _ (s2.trans (aq.upd hp _)) (aq.free s2 hp) ak⟩
inductive Hd where
 |hand (i:Nat)|giv (i z:Nat)|own (i z:Nat)|lt (i:Nat)
def Hd.cell:Hd->List Nat
 | .giv i _=>[i]
 | .own i _=>[i]
 |_=>[]
def uF(A:Adr)(N:Nat->Str)(X:Hp)(v:V):Hd->Prop
 | .hand i=>∃a dx n rk,v=.ref a/\X a=UT (.ins A.bJ dx [("number",n),("name",.str (N i)),("rank",rk)])
 | .giv i z=>∃a dx n rk,v=.ref a/\X a=UT (.ins A.aX dx [("number",n),("name",.str (N i)),("rank",rk),("size",.int z)])
 | .own i z=>∃a dx n,v=.ref a/\X a=UT (.ins A.bG dx [("number",n),("name",.str (N i)),("size",.int z)])
 | .lt i=>∃a dx n rk,v=.ref a/\X a=UT (.ins A.cu dx [("number",n),("name",.str (N i)),("rank",rk)])
theorem uF.same{N:Nat->Str}{X X':Hp}(s:aq X X'){v:V}:∀{h:Hd},uF A N X v h->uF A N X' v h
 | .hand _,⟨a,dx,n,rk,e,h⟩=>⟨a,dx,n,rk,e,s _ _ h⟩
 | .giv _ _,⟨a,dx,n,rk,e,h⟩=>⟨a,dx,n,rk,e,s _ _ h⟩
 | .own _ _,⟨a,dx,n,e,h⟩=>⟨a,dx,n,e,s _ _ h⟩
 | .lt _,⟨a,dx,n,rk,e,h⟩=>⟨a,dx,n,rk,e,s _ _ h⟩
def isG(hs:List Hd)(i:Nat):Bool:=hs.any λh=>match h with
 | .giv j _=>decide (j=i)
 |_=>false
def S.new(E:En)(hs:List Hd)(gn:Nat->Int)(gl:Nat->List Int):S:=⟨λi=>if isG hs i then gn i else 0,λi=>if isG hs i then gl i else Vd (E.sz i),0,[],[],[]⟩
structure Hds(E:En)(hs:List Hd):Prop where
 e:E.idx=hs.flatMap Hd.cell++E.ds.flatMap Dd.parts
 g:∀i z,Hd.giv i z∈hs->E.sz i=z
 o:∀i z,Hd.own i z∈hs->E.sz i=z
structure lu(E:En)(hs:List Hd)(H:Hp)(g:OM)(gn:Nat->Int)(gl:Nat->List Int):Prop where
 d:∃kvs,H g=UT (.dK kvs)/\∀i z,Hd.giv i z∈hs->(z=0->L2.ft kvs (.inr (E.N i))=UT (.int (gn i)))/\(0<z->∃l,L2.ft kvs (.inr (E.N i))=UT (.ref l)/\H l=UT (.lst ((gl i).map V.int))/\(gl i).length=z)
 n:∀i,In (gn i)
 l:∀i,∀n∈gl i,In n
theorem lu.same{hs:List Hd}{H H':Hp}{g:OM}{gn:Nat->Int}{gl:Nat->List Int}(s:aq H H')(G:lu E hs H g gn gl):lu E hs H' g gn gl:=by
 obtain⟨kvs,h1,h2⟩:=G.d;refine⟨⟨kvs,s _ _ h1,λi z m=>⟨(h2 i z m).1,λz0=>?_⟩⟩,G.n,G.l⟩;obtain⟨l,a,b,c⟩:=(h2 i z m).2 z0;exact⟨l,a,s _ _ b,c⟩
def laP(la:Nat->OM)(i:Nat)(u:OM)(j:Nat):OM:=if j=i then u else la j
theorem zD(la:Nat->OM)(i:Nat)(u:OM):laP la i u i=u:=if_pos rfl
theorem uk(la:Nat->OM){i j:Nat}(u:OM)(h:j≠i):laP la i u j=la j:=if_neg h
structure U7(E:En)(H H2:Hp)(c:OM)(la:Nat->OM)(k:S)(ix:List Nat):Prop where
 s:aq H H2
 hc:H2 c=UT (.dK (dk E.N ix (cV E la k.num)))
 l:∀i∈ix,0<E.sz i->H (la i)=UU/\la i≠c/\H2 (la i)=UT (.lst ((k.lst i).map V.int))
 i:∀i∈ix,∀j∈ix,0<E.sz i->0<E.sz j->la i=la j->i=j
theorem U7.num{H H2:Hp}{c:OM}{la:Nat->OM}{k:S}{ix:List Nat}{i:Nat}{n:Int}(C:U7 E H H2 c la k ix)(O:E.Ok)(c0:H c=UU)(hi:i<25)(hb:∀j∈ix,j<25)(m:i∉ix)(hz:E.sz i=0)(en:k.num i=n):U7 E H (upd H2 c (.dK (UZ (dk E.N ix (cV E la k.num)) (.inr (E.N i)) (.int n)))) c la k (ix++[i]):=by
 refine⟨aq.out C.s c0 _,?_,λj hj z=>?_,λa ha b hb' za zb e=>?_⟩
 ·rw[ak,iC O.D hi hb m];refine congrArg UT (congrArg HO.dK (i5 λj _=>?_));by_cases e:j=i
  ·rw[e,fm];unfold cV;rw[if_pos hz,en]
  rw[jo _ _ e]
 ·rcases KA.mp hj with hj|hj
  ·obtain⟨h1,h2,h3⟩:=C.l j hj z;exact⟨h1,h2,ag h2 h3⟩
  rw[KC.mp hj,hz]at z;cases z
 rcases KA.mp ha with ha|ha
 ·rcases KA.mp hb' with hb'|hb'
  ·exact C.i a ha b hb' za zb e
  rw[KC.mp hb',hz]at zb;cases zb
 rw[KC.mp ha,hz]at za;cases za
theorem U7.lst{H H2 H3:Hp}{c u:OM}{la:Nat->OM}{k:S}{ix:List Nat}{i:Nat}(C:U7 E H H2 c la k ix)(O:E.Ok)(c0:H c=UU)(hi:i<25)(hb:∀j∈ix,j<25)(m:i∉ix)(hz:0<E.sz i)(s3:aq H2 H3)(u0:H2 u=UU)(hu:H3 u=UT (.lst ((k.lst i).map V.int))) :
  U7 E H (upd H3 c (.dK (UZ (dk E.N ix (cV E la k.num)) (.inr (E.N i)) (.ref u)))) c (laP la i u) k (ix++[i]):=by
 have uc:u≠c:=λw=>by rw[w,C.hc]at u0;cases u0
 have ne:∀j∈ix,j≠i:=λj hj z=>m (z▸hj)
 refine⟨aq.out (C.s.trans s3) c0 _,?_,λj hj z=>?_,λa ha b hb' za zb e=>?_⟩
 ·rw[ak,iC O.D hi hb m];refine congrArg UT (congrArg HO.dK (i5 λj _=>?_));unfold cV;by_cases e:j=i
  ·rw[e,fm,if_neg (),zD]
  rw[jo _ _ e,uk _ _ e]
 ·rcases KA.mp hj with hj|hj
  ·obtain⟨h1,h2,h3⟩:=C.l j hj z;rw[uk _ _ (ne j hj)];exact⟨h1,h2,ag h2 (s3 _ _ h3)⟩
  rw[KC.mp hj,zD];exact⟨aq.free C.s u0,uc,ag uc hu⟩
 have nu:∀j∈ix,0<E.sz j->la j≠u:=λj hj z w=>by
  have:=(C.l j hj z).2.2;rw[w,u0]at this;cases this
 rcases KA.mp ha with ha|ha
 ·rcases KA.mp hb' with hb'|hb'
  ·rw[uk _ _ (ne a ha),uk _ _ (ne b hb')]at e;exact C.i a ha b hb' za zb e
  rw[KC.mp hb',uk _ _ (ne a ha),zD]at e;exact absurd e (nu a ha za)
 rcases KA.mp hb' with hb'|hb'
 ·rw[KC.mp ha,zD,uk _ _ (ne b hb')]at e;exact absurd e.symm (nu b hb' zb)
 rw[KC.mp ha,KC.mp hb']
structure Pa where
 pa:OM
 dp:OM
 hd:OM
 dd:OM
 mn:OM
def IJ(A:Adr)(N:Nat->Str)(X:Hp)(v:V)(D:Dd):Prop:=∃a dx n pp pb,v=.ref a/\X a=UT (.ins A.bg dx [("number",n),("name",.str (N D.nm)),("parts",.ref pp),("body",.ref pb)])/\X pp=UT (.lst (D.parts.map λi=>V.str (N i)))
structure w8(A:Adr)(E:En)(H:Hp)(p:Pa)(hv:List V)(hs:List Hd)(xs:List V):Prop where
 pr:H p.pa=UT (.ins A.Program p.dp [("heads",.ref p.hd),("deeds",.ref p.dd),("main",.ref p.mn)])
 hd:H p.hd=UT (.lst hv)
 dd:H p.dd=UT (.lst E.dv)
 mn:H p.mn=UT (.lst xs)
 h:Paired (uF A E.N H) hv hs
 d:Paired (IJ A E.N H) E.dv E.ds
 l:hv.length<=64
theorem w8.same{H H':Hp}{p:Pa}{hv:List V}{hs:List Hd}{xs:List V}(s:aq H H')(R:w8 A E H p hv hs xs):w8 A E H' p hv hs xs:=⟨s _ _ R.pr,s _ _ R.hd,s _ _ R.dd,s _ _ R.mn,Paired.cR R.h λ_ _=>uF.same s,Paired.cR R.d λ_ _ ⟨a,dx,n,pp,pb,e,h1,h2⟩=>⟨a,dx,n,pp,pb,e,s _ _ h1,s _ _ h2⟩,R.l⟩
theorem U3{α:Type}{ks:List α}{i:Nat}{j:α}(h:ks[i]?=UT j):ks.take (i+1)=ks.take i++[j]:=by
 rw[LO,h];rfl
theorem HN{hs:List Hd}{i z:Nat}(h:Hd.giv i z∈hs):isG hs i=true:=by
 unfold isG;rw[LM];exact⟨_,h,by simp⟩
theorem rn{α:Type}{f:α->List Nat}{xs:List α}{i:Nat}{x:α}(h:xs[i]?=UT x):xs.flatMap f=(xs.take i).flatMap f++(f x++(xs.drop (i+1)).flatMap f):=by
 have e:xs=xs.take i++x::xs.drop (i+1):=by rw[<-qi h,Mv]
 conv=>lhs;rw[e]
 rw[MX,Lf]
theorem uI{L xs ys zs:List Nat}{x:Nat}(e:L=xs++(x::ys)++zs)(nd:L.Nodup):x∉xs/\(∀j∈xs,j∈L)/\x∈L:=by
 subst e;refine⟨λm=>?_,λj hj=>by simp[hj],by simp⟩;rw[Li]at nd;exact(Lm.mp nd).2.2 x m x (by simp) rfl
theorem FP{hs:List Hd}{i z:Nat}(nd:(hs.flatMap Hd.cell).Nodup)(h:Hd.own i z∈hs):isG hs i=false:=by
 cases e:isG hs i with
 |false=>rfl
 |true=>
  exfalso;unfold isG at e;rw[LM]at e;obtain⟨g,hg,eg⟩:=e;obtain⟨y,rfl⟩:∃y,g=.giv i y:=by
   cases g with
   |giv j y=>exact⟨y,by rw[of_decide_eq_true eg]⟩
   |_=>cases eg
  obtain⟨a,ha⟩:=Le h;obtain⟨b,hb⟩:=Le hg;have ne:a≠b:=λz=>by rw[z,hb]at ha;cases ha
  have key:∀{a b:Nat}{p q:Hd},hs[a]?=UT p->hs[b]?=UT q->a<b->i∈p.cell->i∈q.cell->False:=λ{a b p q} ha hb lt m1 m2=>by
   rw[rn hb]at nd;have:i∈(hs.take b).flatMap Hd.cell:=LF.mpr ⟨p,KG (by rw[Q8 lt];exact ha),m1⟩;exact(Lm.mp nd).2.2 i this i (Lk _ m2) rfl
  rcases Nat.lt_or_gt_of_ne ne with lt|lt
  ·exact key ha hb lt (by simp[Hd.cell]) (by simp[Hd.cell])
  exact key hb ha lt (by simp[Hd.cell]) (by simp[Hd.cell])
inductive wu(A:Adr)(E:En)(vs:List V)(H:Hp)(Q:VK)(Z:XK):Prop
 |mk(p:Pa)(g:OM)(hv xs:List V)(hs:List Hd)(gn:Nat->Int)(gl:Nat->List Int):vs=[.ref p.pa,.ref g]->w8 A E H p hv hs xs->Hds E hs->lu E hs H g gn gl->(∀c la H',H c=UU->U7 E H H' c la (S.new E hs gn gl) E.idx->Q (.ref c) H')->wu A E vs H Q Z
theorem DB(T:Txt K mg A)(O:E.Ok):Has P w K mg base 4 "cells_of" ["program","gifts"] (wu A E):=by
 have Oo:=@Dx P w _ _ base _ T;have OA:=@JF P w _ _ base _ T;refine T.vO.has gy (λvs H Q E h=>?_) (λf cdv A' outer s H vs Q E' hr hu h=>?_)
 ·obtain⟨p,g,hv,xs,hs,gn,gl,rfl,_⟩:=h;rfl
 obtain⟨p,g,hv,xs,hs,gn,gl,rfl,R,Z,G,q⟩:=h;refine⟨_,(ae (pst 2 gy.nd (fC))
 (ae (dP O1 rfl (df (aI (fv 0) rfl)) (pgn (i:=3) gy.nd rfl)
  (aj (aM (bX (pcB bN T.aJ (fv 3^dJ T.aW.mg^af)) (λ_=>rfl))
   (aj (bu (ar Oo hr (fv 3^fv 1^af)) (bC (fv 2) (aI (fv 3) rfl) (bD hu UX))))
   (aj (aM (bX (pcB bN T.aJ (fv 3^dJ T.bh.mg^af)) (λ_=>rfl))
    (aj (bu (ar OA hr (fv 3^af)) (bC (fv 2) (aI (fv 3) rfl) (bD hu UX))))
    aC)))))
 (ae (dP O1 rfl (df (aI (fv 0) rfl)) (pgn (i:=4) gy.nd rfl)
  (aj (dP O1 rfl (df (aI (fv 4) rfl)) (pgn (i:=5) gy.nd rfl)
   (aj (bu ab (bC (fv 2) (fv 5) (bD hu UX)))))))
 (aj (aA (fv 2)))))),?_⟩
 refine ah λM1 K1 c hc=>?_;have C1:U7 E H (upd H c (HO.dK [])) c (λ_=>0) (S.new E hs gn gl) []:=⟨aq.upd hc _,ak,λ_ h=>(by cases h),λ_ h=>(by cases h)⟩;generalize upd H c (HO.dK [])=H1 at C1⊢;refine K1 _ _ (ah λM2 K2=>fdI (C1.s _ _ R.pr) T.dC.cl T.dU rfl (KJ ⟨⟨_,SqL.of (C1.s _ _ R.hd)⟩,eF (K:=K) (xs:=hv) (λi σ H2=>(∃la,U7 E H H2 c la (S.new E hs gn gl) ((hs.take i).flatMap Hd.cell))/\∃v,σ=[UT (.ref p.pa),UT (.ref g),UT (.ref c),v,UU,UU]) ⟨⟨_,C1⟩,UU,rfl⟩ (λi σ H2 _ h=>by obtain⟨⟨la,C⟩,_⟩:=h;exact SqL.of (C.s _ _ R.hd)) ?_ ?_⟩))
 ·rintro i v σ H2 hx ⟨⟨la,C⟩,z,rfl⟩;obtain⟨h,hh,W⟩:=bw R.h hx;have hm:=KG hh;have W2:=W.same C.s;have eL:E.idx=(hs.take i).flatMap Hd.cell++(h.cell++(hs.drop (i+1)).flatMap Hd.cell)++E.ds.flatMap Dd.parts:=by rw[Z.e,rn hh]
  rw[show(hs.take (i+1)).flatMap Hd.cell=(hs.take i).flatMap Hd.cell++h.cell by rw[U3 hh,MX];simp];have ndh:(hs.flatMap Hd.cell).Nodup:=by
   have:=O.nd;rw[Z.e]at this;exact(Lm.mp this).1
  generalize (hs.take i).flatMap Hd.cell=ix at C eL⊢;have llen:∀(g:Nat->V),(dk E.N ix g).length<sizeLine:=λg=>az (by
   rw[fj];have:=O.len;rw[eL,Kz,Kz]at this;omega)
  cases h with
  |hand x=>
   obtain⟨a,dx,n,rk,rfl,ha⟩:=W2;exact isB (T.bP.cc ha) (cq T.bP T.aW (av T 2 1) (av T 2 0)) (bH (isB (T.bP.cc ha) (cq T.bP T.bh (av T 3 1) (av T 3 0)) (bH ⟨⟨la,by rw[show Hd.cell (.hand x)=[]from rfl,Lx];exact C⟩,_,rfl⟩)))
  |lt x=>
   obtain⟨a,dx,n,rk,rfl,ha⟩:=W2;exact isB (T.cm.cc ha) (cq T.cm T.aW (av T 2 4) (av T 2 0)) (bH (isB (T.cm.cc ha) (cq T.cm T.bh (av T 3 4) (av T 3 0)) (bH ⟨⟨la,by rw[show Hd.cell (.lt x)=[]from rfl,Lx];exact C⟩,_,rfl⟩)))
  |giv x zz=>
   obtain⟨n1,n2,n3⟩:=uI (x:=x) eL O.nd;have hb:∀j∈ix,j<25:=λj hj=>O.b j (n2 j hj);have ez:=Z.g x zz hm;have ig:=HN hm;obtain⟨a,dx,n,rk,rfl,ha⟩:=W2;obtain⟨kvs,k1,k2⟩:=(G.same C.s).d;have zl:=O.z x;rw[ez]at zl;refine isB (T.aW.cc ha) (nL T.aW) (dO ?_);by_cases z0:zz=0
   ·have e0:=(k2 x zz hm).1 z0;exact⟨a,g,dx,_,_,_,zz,kvs,_,rfl,ha,k1,e0,KJ ⟨z0,_,rfl,G.n x,fdI ha T.aW.cl T.dS rfl ⟨_,cP.k (k:=.inr (E.N x)) C.hc (llen _),⟨⟨la,C.num O hc (O.b x n3) hb n1 (by rw[ez,z0]) (by show(if isG hs x=true then gn x else 0)=_;rw[if_pos ig])⟩,_,rfl⟩⟩⟩⟩
   obtain⟨l,e0,e1,e2⟩:=(k2 x zz hm).2 ();exact⟨a,g,dx,_,_,_,zz,kvs,_,rfl,ha,k1,e0,Lg ⟨(),zl,l,_,rfl,e1,e2,G.l x,λu H3 s3 u0 hu3=>fdI (s3 _ _ ha) T.aW.cl T.dS rfl ⟨_,cP.k (k:=.inr (E.N x)) (s3 _ _ C.hc) (llen _),⟨⟨_,C.lst O hc (O.b x n3) hb n1 (by rw[ez];omega) s3 u0 (by rw[hu3];show _=UT (HO.lst ((if isG hs x=true then gl x else Vd (E.sz x)).map V.int));rw[if_pos ig])⟩,_,rfl⟩⟩⟩⟩
  |own x zz=>
   obtain⟨n1,n2,n3⟩:=uI (x:=x) eL O.nd;have hb:∀j∈ix,j<25:=λj hj=>O.b j (n2 j hj);have ez:=Z.o x zz hm;have ig:=FP ndh hm;obtain⟨a,dx,n,rfl,ha⟩:=W2;have zl:=O.z x;rw[ez]at zl;refine isB (T.bh.cc ha) (cq T.bh T.aW (av T 2 3) (av T 2 0)) (bH (isB (T.bh.cc ha) (nL T.bh) (dO ⟨a,dx,_,zz,_,rfl,zl,ha,λz0=>?_,λz0 u H3 s3 u0 hu3=>?_⟩)))
   ·exact fdI ha T.bh.cl T.dX rfl ⟨_,cP.k (k:=.inr (E.N x)) C.hc (llen _),⟨⟨la,C.num O hc (O.b x n3) hb n1 (by rw[ez,z0]) (by show(if isG hs x=true then gn x else 0)=_;rw[ig];rfl)⟩,_,rfl⟩⟩
   exact fdI (s3 _ _ ha) T.bh.cl T.dX rfl ⟨_,cP.k (k:=.inr (E.N x)) (s3 _ _ C.hc) (llen _),⟨⟨_,C.lst O hc (O.b x n3) hb n1 (by rw[ez];omega) s3 u0 (by rw[hu3];show _=UT (HO.lst ((if isG hs x=true then gl x else Vd (E.sz x)).map V.int));rw[ig,if_neg KL,ez])⟩,_,rfl⟩⟩
 rintro σ H2 ⟨⟨la,C⟩,z,rfl⟩;rw[OU R.h,Lz]at C;refine K2 _ _ (ah λM3 K3=>fdI (C.s _ _ R.pr) T.dC.cl T.eZ rfl (KJ ⟨⟨_,SqL.of (C.s _ _ R.dd)⟩,eF (K:=K) (xs:=E.dv) (λi σ H3=>U7 E H H3 c la (S.new E hs gn gl) (hs.flatMap Hd.cell++(E.ds.take i).flatMap Dd.parts)/\∃z4 z5,σ=[UT (.ref p.pa),UT (.ref g),UT (.ref c),z,z4,z5]) ⟨by rw[ME,Ua,Lx];exact C,UU,UU,rfl⟩ (λi σ H3 _ h=>SqL.of (h.1.s _ _ R.dd)) ?_ ?_⟩))
 ·rintro i u σ H3 hx ⟨C3,z4,z5,rfl⟩;obtain⟨D,hD,a,dx,n,pp,pb,rfl,ha,hp⟩:=bw R.d hx;refine fdI (C3.s _ _ ha) T.dW.cl T.eX rfl (KJ ⟨⟨_,SqL.of (C3.s _ _ hp)⟩,eF (K:=K) (xs:=D.parts.map λi=>V.str (E.N i)) (λj σ H4=>U7 E H H4 c la (S.new E hs gn gl) (hs.flatMap Hd.cell++(E.ds.take i).flatMap Dd.parts++D.parts.take j)/\∃z5,σ=[UT (.ref p.pa),UT (.ref g),UT (.ref c),z,UT (.ref a),z5]) ⟨by rw[ME,Lx];exact C3,_,rfl⟩ (λi σ H4 _ h=>SqL.of (h.1.s _ _ hp)) ?_ ?_⟩)
  ·rintro j u σ H4 hu' ⟨C4,z6,rfl⟩;rw[KP]at hu';cases hj:D.parts[j]? with
   |none=>rw[hj]at hu';cases hu'
   |some x=>
    rw[hj]at hu';cases hu';have eL:E.idx=(hs.flatMap Hd.cell++(E.ds.take i).flatMap Dd.parts++D.parts.take j)++(x::D.parts.drop (j+1))++(E.ds.drop (i+1)).flatMap Dd.parts:=by
     rw[Z.e,rn hD,<-qi hj,Li,Li,Li,<-Li (D.parts.take j),Mv]
    obtain⟨n1,n2,n3⟩:=uI (x:=x) eL O.nd;obtain⟨x1,x2⟩:=O.pt D (KG hD) x (KG hj);have ng:isG hs x=false:=by
     cases e:isG hs x with
     |false=>rfl
     |true=>
      exfalso;unfold isG at e;rw[LM]at e;obtain⟨gg,hg,eg⟩:=e;refine n1 (Lk _ (Lk _ (LF.mpr ⟨gg,hg,?_⟩)));cases gg with
      |giv j y=>rw[of_decide_eq_true eg];simp[Hd.cell]
      |_=>cases eg
    have llen:(dk E.N (hs.flatMap Hd.cell++(E.ds.take i).flatMap Dd.parts++D.parts.take j) (cV E la (S.new E hs gn gl).num)).length<sizeLine:=az (by
     rw[fj];have:=O.len;rw[eL,Kz,Kz]at this;omega)
    refine⟨_,cP.k (k:=.inr (E.N x)) C4.hc llen,?_⟩;rw[U3 hj,<-Li];exact⟨C4.num O hc (O.b x n3) (λj hj=>O.b j (n2 j hj)) n1 x2 (by show(if isG hs x=true then gn x else 0)=_;rw[ng];rfl),_,rfl⟩
  rintro σ H4 ⟨C4,z6,rfl⟩;rw[Ky,Lz]at C4;refine⟨?_,_,_,rfl⟩;rw[U3 hD,MX,<-Li,show List.flatMap Dd.parts [D]=D.parts by simp];exact C4
 rintro σ H3 ⟨C3,z4,z5,rfl⟩;refine K3 _ _ ?_;rw[OU R.d,Lz,<-Z.e]at C3;exact q c la H3 hc C3
end
section
variable{P:Program}{w:OX}{K:OQ}{mg:Str->Option ON}{base:O8}{A:Adr}{E:En}{N:Nat->Str}
structure DE(A:Adr)(H:Hp)(x dx l sd t e:OM):Prop where
 b:H x=UT (.ins A.cA dx [("letters",.ref l),("said",.ref sd),("trace",.ref t),("steps",.int 0),("ends",.ref e)])
 hl:H l=UT (.lst [])
 hs:H sd=UT (.lst [])
 ht:H t=UT (.lst [])
 tl:t≠l
 dt:sd≠t
 dl:sd≠l
 he:H e=UT (.dK [])
inductive oF(A:Adr)(vs:List V)(H:Hp)(Q:VK)(Z:XK):Prop
 |mk(x:_)(dx:_):vs=[.ref x]->H x=UT (.ins A.cA dx [])->(∀(l sd t e:OM)(H':Hp),H l=UU->H sd=UU->H t=UU->H e=UU->But x H H'->DE A H' x dx l sd t e->Q .non H')->oF A vs H Q Z
theorem xi(T:Txt K mg A):dz P w K mg base 1 A.cA "__init__" ["self"] (oF A):=by
 refine T.pN.has (k:=0) uC (λvs H Q E h=>?_) (λf cdv A' outer s H vs Q E hr hu h=>?_)
 ·obtain⟨x,dx,rfl,_⟩:=h;rfl
 obtain⟨x,dx,rfl,hx,q⟩:=h;refine⟨_,(ae (ba (fv 0) (bR af) rfl)
 (ae (ba (fv 0) (bR af) rfl)
 (ae (ba (fv 0) (bR af) rfl)
 (ae (ba (fv 0) ab rfl)
 (aj (ba (fv 0) (fC) rfl)))))),?_⟩
 refine⟨KY _,λl hl=>?_⟩;have lx:l≠x:=λz=>by rw[z,hx]at hl;cases hl
 have b1:But x H (upd H l (HO.lst [])):=But.new hl _;have x1:(upd H l (HO.lst [])) x=UT (.ins A.cA dx []):=by rw[aw (Lv lx)];exact hx
 have l1:(upd H l (HO.lst [])) l=UT (.lst []):=ak;generalize upd H l (HO.lst [])=H1 at b1 x1 l1⊢;refine⟨x,_,dx,_,rfl,x1,T.dZ.cl,T.dA,∅,?_⟩;have b2:But x H (upd H1 x (.ins A.cA dx (cJ "letters" (.ref l) []))):=b1.trans (But.at x _ _);have x2:(upd H1 x (.ins A.cA dx (cJ "letters" (.ref l) []))) x=UT (.ins A.cA dx [("letters",.ref l)]):=ak;have l2:(upd H1 x (.ins A.cA dx (cJ "letters" (.ref l) []))) l=UT (.lst []):=by rw[aw lx];exact l1
 generalize upd H1 x (.ins A.cA dx (cJ "letters" (.ref l) []))=H2 at b2 x2 l2⊢;refine⟨KY _,λsd hsd=>?_⟩;have sx:sd≠x:=λz=>by rw[z,x2]at hsd;cases hsd
 have dl:sd≠l:=λz=>by rw[z,l2]at hsd;cases hsd
 have sd0:H sd=UU:=b2.none sx hsd;have b3:But x H (upd H2 sd (HO.lst [])):=b2.trans (But.new hsd _);have x3:(upd H2 sd (HO.lst [])) x=UT (.ins A.cA dx [("letters",.ref l)]):=by rw[aw (Lv sx)];exact x2
 have l3:(upd H2 sd (HO.lst [])) l=UT (.lst []):=by rw[aw (Lv dl)];exact l2
 have s3:(upd H2 sd (HO.lst [])) sd=UT (.lst []):=ak;generalize upd H2 sd (HO.lst [])=H3 at b3 x3 l3 s3⊢;refine⟨x,_,dx,_,rfl,x3,T.dZ.cl,T.lF,by simp,?_⟩;have b4:But x H (upd H3 x (.ins A.cA dx (cJ "said" (.ref sd) [("letters",.ref l)]))):=b3.trans (But.at x _ _);have x4:(upd H3 x (.ins A.cA dx (cJ "said" (.ref sd) [("letters",.ref l)]))) x=UT (.ins A.cA dx [("letters",.ref l),("said",.ref sd)]):=ak;have l4:(upd H3 x (.ins A.cA dx (cJ "said" (.ref sd) [("letters",.ref l)]))) l=UT (.lst []):=by rw[aw lx];exact l3
 have s4:(upd H3 x (.ins A.cA dx (cJ "said" (.ref sd) [("letters",.ref l)]))) sd=UT (.lst []):=by rw[aw sx];exact s3
 generalize upd H3 x (.ins A.cA dx (cJ "said" (.ref sd) [("letters",.ref l)]))=H4 at b4 x4 l4 s4⊢;refine⟨KY _,λt ht=>?_⟩;have tx:t≠x:=λz=>by rw[z,x4]at ht;cases ht
 have tl:t≠l:=λz=>by rw[z,l4]at ht;cases ht
 have ts:t≠sd:=λz=>by rw[z,s4]at ht;cases ht
 have t0:H t=UU:=b4.none tx ht;have b5:But x H (upd H4 t (HO.lst [])):=b4.trans (But.new ht _);have x5:(upd H4 t (HO.lst [])) x=UT (.ins A.cA dx [("letters",.ref l),("said",.ref sd)]):=by rw[aw (Lv tx)];exact x4
 have l5:(upd H4 t (HO.lst [])) l=UT (.lst []):=by rw[aw (Lv tl)];exact l4
 have s5:(upd H4 t (HO.lst [])) sd=UT (.lst []):=by rw[aw (Lv ts)];exact s4
 have t5:(upd H4 t (HO.lst [])) t=UT (.lst []):=ak;generalize upd H4 t (HO.lst [])=H5 at b5 x5 l5 s5 t5⊢;refine⟨x,_,dx,_,rfl,x5,T.dZ.cl,T.kH,by simp,?_⟩;have b6:But x H (upd H5 x (.ins A.cA dx (cJ "trace" (.ref t) [("letters",.ref l),("said",.ref sd)]))):=b5.trans (But.at x _ _);have x6:(upd H5 x (.ins A.cA dx (cJ "trace" (.ref t) [("letters",.ref l),("said",.ref sd)]))) x=UT (.ins A.cA dx [("letters",.ref l),("said",.ref sd),("trace",.ref t)]):=ak;have l6:(upd H5 x (.ins A.cA dx (cJ "trace" (.ref t) [("letters",.ref l),("said",.ref sd)]))) l=UT (.lst []):=by rw[aw lx];exact l5
 have s6:(upd H5 x (.ins A.cA dx (cJ "trace" (.ref t) [("letters",.ref l),("said",.ref sd)]))) sd=UT (.lst []):=by rw[aw sx];exact s5
 have t6:(upd H5 x (.ins A.cA dx (cJ "trace" (.ref t) [("letters",.ref l),("said",.ref sd)]))) t=UT (.lst []):=by rw[aw tx];exact t5
 generalize upd H5 x (.ins A.cA dx (cJ "trace" (.ref t) [("letters",.ref l),("said",.ref sd)]))=H6 at b6 x6 l6 s6 t6⊢;refine⟨x,_,dx,_,rfl,x6,T.dZ.cl,T.eP,by simp,?_⟩;have b7:But x H (upd H6 x (.ins A.cA dx (cJ "steps" (.int 0) [("letters",.ref l),("said",.ref sd),("trace",.ref t)]))):=b6.trans (But.at x _ _);have x7:(upd H6 x (.ins A.cA dx (cJ "steps" (.int 0) [("letters",.ref l),("said",.ref sd),("trace",.ref t)]))) x=UT (.ins A.cA dx [("letters",.ref l),("said",.ref sd),("trace",.ref t),("steps",.int 0)]):=ak;have l7:(upd H6 x (.ins A.cA dx (cJ "steps" (.int 0) [("letters",.ref l),("said",.ref sd),("trace",.ref t)]))) l=UT (.lst []):=by rw[aw lx];exact l6
 have s7:(upd H6 x (.ins A.cA dx (cJ "steps" (.int 0) [("letters",.ref l),("said",.ref sd),("trace",.ref t)]))) sd=UT (.lst []):=by rw[aw sx];exact s6
 have t7:(upd H6 x (.ins A.cA dx (cJ "steps" (.int 0) [("letters",.ref l),("said",.ref sd),("trace",.ref t)]))) t=UT (.lst []):=by rw[aw tx];exact t6
 generalize upd H6 x (.ins A.cA dx (cJ "steps" (.int 0) [("letters",.ref l),("said",.ref sd),("trace",.ref t)]))=H7 at b7 x7 l7 s7 t7⊢;refine λe he=>?_;have ex:e≠x:=λz=>by rw[z,x7]at he;cases he
 have n8:=aq.upd he (HO.dK []);refine⟨x,_,dx,_,rfl,n8 _ _ x7,T.dZ.cl,T.mL,by simp,q l sd t e _ hl sd0 t0 (b7.none ex he) ((b7.trans (But.of n8)).trans (But.at x _ _)) ⟨ak,?_,?_,?_,tl,Lv ts,dl,?_⟩⟩
 ·rw[aw lx];exact n8 _ _ l7
 ·rw[aw sx];exact n8 _ _ s7
 ·rw[aw tx];exact n8 _ _ t7
 rw[aw ex];exact ak
theorem sW{H:Hp}{f:Nat->V}:∀{idx:List Nat}{ys:List V},Paired (λj y=>∃t,y=V.ref t/\H t=UT (.tup [.str (N j),f j])) idx ys->∃ps:List OM,ys=ps.map V.ref/\ps.length=idx.length/\∀(i:Nat) t k v,ps[i]?=UT t->(dk N idx f)[i]?=UT (k,v)->SqT K H t [kV k,v]
 |_,_,.nil=>⟨[],rfl,rfl,λi t k v h=>by cases h⟩
 |j::idx,y::ys,.cons ⟨t,e,ht⟩ r=>by
  obtain⟨ps,h1,h2,h3⟩:=sW r;refine⟨t::ps,by rw[e,h1];rfl,by simp[h2],λi t' k v a b=>?_⟩;cases i with
  |zero=>
   have a':t=t':=OS a;have b':((LI (N j):Key),f j)=(k,v):=OS b;cases b';rw[<-a'];exact SqT.of ht
  |succ i=>exact h3 i t' k v a b
def sR(A:Adr)(H:Hp):V->Bool
 | .ref a=>match H a with
  |some (.ins C _ _)=>decide (C=A.bG)
  |_=>false
 |_=>false
theorem eK{H:Hp}{a C dx:OM}{fs:List (Str×V)}(h:H a=UT (.ins C dx fs)):sR A H (.ref a)=decide (C=A.bG):=by
 unfold sR;simp only[h]
theorem IS(O:E.Ok){i:Nat}{D:Dd}{v:V}(h1:E.ds[i]?=UT D)(h2:E.dv[i]?=UT v):dG E D.nm=v:=by
 obtain⟨q,e1,e2⟩:=qW O.dd h1 h2;unfold dG;rw[e1];exact e2
inductive pG(A:Adr)(E:En)(vs:List V)(H:Hp)(Q:VK)(Z:XK):Prop
 |mk(s ds c:OM)(p:Pa)(hv xs:List V)(hs:List Hd)(la:Nat->OM)(k:S):vs=[.ref s,.ref p.pa,.ref c]->H s=UT (.ins A.Run ds [])->w8 A E H p hv hs xs->H c=UT (.dK (dk E.N E.idx (cV E la k.num)))->(∀i∈E.ls,la i≠c/\H (la i)=UT (.lst ((k.lst i).map V.int)))->(∀i∈E.ls,∀j∈E.ls,la i=la j->i=j)->k.ok E->k.steps=0->k.trace=[]->k.eQ=[]->k.uT=[]->(∀(d b db sd e t l:OM)(H':Hp),But s H H'->H b=UU->H t=UU->H l=UU->H sd=UU->bo A E H' ⟨s,ds,d,c,b,db,sd,e,t,l,la⟩ k->Q .non H')->pG A E vs H Q Z
theorem sN{la:Nat->OM}:∀{xs:List Nat},xs.Nodup->(∀i∈xs,∀j∈xs,la i=la j->i=j)->(xs.map la).Nodup
 | [],_,_=>UK
 |x::r,nd,h=>by
  rw[KW]at nd;rw[KQ,KW];refine⟨λm=>?_,sN nd.2 λi hi j hj=>h i (Kx _ hi) j (Kx _ hj)⟩;obtain⟨j,hj,e⟩:=KU.mp m;rw[<-h j (Kx _ hj) x Kv e]at nd;exact nd.1 hj
theorem yG(T:Txt K mg A)(O:E.Ok):dz P w K mg base 3 A.Run "__init__" ["self","program","cells"] (pG A E):=by
 have Ov:=@xi P w _ _ base _ T;refine T.qI.has (k:=2) pI (λvs H Q E h=>?_) (λf cdv A' outer s' H vs Q E' hr hu h=>?_)
 ·obtain⟨s,ds,c,p,hv,xs,hs,la,k,rfl,_⟩:=h;rfl
 obtain⟨s,ds,c,p,hv,xs,hs0,la,k,rfl,hs,R,G,hL,hI,ok,k1,k2,k3,k4,q⟩:=h;refine⟨_,(ae (ba (fv 0) (fC) rfl)
 (ae (dP O1 rfl (df (aI (fv 1) rfl)) (pgn (i:=3) pI.nd rfl)
  (aj (bu (fv 3) (bC (aI (fv 0) rfl) (aI (fv 3) rfl) (bD hu UX)))))
 (ae (ba (fv 0) (fv 2) rfl)
 (aj (ba (fv 0) (A6 T.dZ Ov hr) rfl))))),?_⟩
 refine λd hd=>?_;have sm1:=aq.upd hd (HO.dK []);have ds0:d≠s:=λz=>by rw[z,hs]at hd;cases hd
 refine⟨s,_,ds,_,rfl,sm1 _ _ hs,T.bY.cl,T.je,by simp,?_⟩;have b2:But s H (upd (upd H d (HO.dK [])) s (.ins A.Run ds (cJ "deeds" (.ref d) []))):=(But.of sm1).trans (But.at s _ _);have x2:(upd (upd H d (HO.dK [])) s (.ins A.Run ds (cJ "deeds" (.ref d) []))) s=UT (.ins A.Run ds [("deeds",.ref d)]):=ak;have d2:(upd (upd H d (HO.dK [])) s (.ins A.Run ds (cJ "deeds" (.ref d) []))) d=UT (.dK []):=by rw[aw ds0];exact ak
 generalize upd (upd H d (HO.dK [])) s (.ins A.Run ds (cJ "deeds" (.ref d) []))=H2 at b2 x2 d2⊢;have ps:p.pa≠s:=λz=>by have:=R.pr;rw[z,hs]at this;exact absurd (HO.ins.inj (OS this)).1 (av T 16 14)
 have dds:p.dd≠s:=λz=>by have:=R.dd;rw[z,hs]at this;cases this
 refine fdI (b2 _ ps _ R.pr) T.dC.cl T.eZ rfl (KJ ⟨⟨_,SqL.of (b2 _ dds _ R.dd)⟩,eF (K:=K) (xs:=E.dv) (λi σ H3=>But s H H3/\H3 s=UT (.ins A.Run ds [("deeds",.ref d)])/\H3 d=UT (.dK (dk E.N ((E.ds.take i).map Dd.nm) (dG E)))/\∃v,σ=[UT (.ref s),UT (.ref p.pa),UT (.ref c),v]) ⟨b2,x2,d2,_,rfl⟩ (λi σ H3 _ h=>SqL.of (h.1 _ dds _ R.dd)) ?_ ?_⟩)
 ·rintro i u σ H3 hx ⟨b3,x3,d3,z,rfl⟩;obtain⟨D,hD,a,dx,n,pp,pb,rfl,ha,_⟩:=bw R.d hx;have as:a≠s:=λz=>by rw[z,hs]at ha;exact absurd (HO.ins.inj (OS ha)).1 (av T 16 13)
  have il:i<E.ds.length:=(KH.mp hD).1;have dl:=O.dl;refine fdI x3 T.bY.cl T.je rfl (fdI (b3 _ as _ ha) T.dW.cl T.iI rfl ⟨_,cP.k (k:=.inr (E.N D.nm)) d3 (az (by rw[fj,Ky,LJ];omega)),⟨λb hb o hq=>by rw[aw (eI hq hd)];exact b3 b hb o hq,by rw[aw (Lv ds0)];exact x3,?_,_,rfl⟩⟩);have nm:∀j∈(E.ds.take i).map Dd.nm,j<25:=λj hj=>by
   obtain⟨d',hd',rfl⟩:=KU.mp hj;exact O.dn d' (Sd hd')
  have nn:D.nm∉(E.ds.take i).map Dd.nm:=λhj=>by
   have:=O.dd;rw[show E.ds=E.ds.take i++D::E.ds.drop (i+1) by rw[<-qi hD,Mv],La,KQ]at this;exact(Lm.mp this).2.2 _ hj _ Kv rfl
  rw[ak,iC O.D (O.dn D (KG hD)) nm nn,U3 hD,La];refine congrArg UT (congrArg HO.dK (i5 λj _=>?_));by_cases e:j=D.nm
  ·rw[e,fm,IS O hD hx]
  rw[jo _ _ e]
 rintro σ H3 ⟨b3,x3,d3,z,rfl⟩;rw[show E.dv.length=E.ds.length from O.dv,Lz]at d3;refine⟨s,_,ds,_,rfl,x3,T.bY.cl,T.cY,by simp,?_⟩;have b4:But s H (upd H3 s (.ins A.Run ds (cJ "cells" (.ref c) [("deeds",.ref d)]))):=b3.trans (But.at s _ _);have x4:(upd H3 s (.ins A.Run ds (cJ "cells" (.ref c) [("deeds",.ref d)]))) s=UT (.ins A.Run ds [("deeds",.ref d),("cells",.ref c)]):=ak;have d4:(upd H3 s (.ins A.Run ds (cJ "cells" (.ref c) [("deeds",.ref d)]))) d=UT (.dK (dk E.N (E.ds.map Dd.nm) (dG E))):=by rw[aw ds0];exact d3
 generalize upd H3 s (.ins A.Run ds (cJ "cells" (.ref c) [("deeds",.ref d)]))=H4 at b4 x4 d4⊢;refine λb db hb hdb hne=>⟨b,db,rfl,ak,λl sd t e H5 nl ns nt _ bt nb=>⟨rfl,?_⟩⟩;have sm5:aq H4 H5:=But.same bt hb hdb;have l4:=ip hb hdb nl;have t4:=ip hb hdb nt;have sd4:=ip hb hdb ns;have ne4:∀{x y:OM}{o:HO},H4 x=UU->H4 y=UT o->x≠y:=λh1 h2 z=>by rw[z,h2]at h1;cases h1
 have cs:c≠s:=λz=>by rw[z,hs]at G;cases G
 have c4:=b4 _ cs _ G;have las:∀i∈E.ls,la i≠s:=λi hi z=>by have:=(hL i hi).2;rw[z,hs]at this;cases this
 have la4:∀i∈E.ls,H4 (la i)=UT (.lst ((k.lst i).map V.int)):=λi hi=>b4 _ (las i hi) _ (hL i hi).2;have bs:=ne4 hb x4;have ls:=ne4 l4 x4;have ts:=ne4 t4 x4;have ss:=ne4 sd4 x4;have cd:d≠c:=λz=>by rw[z,G]at hd;cases hd
 refine⟨s,_,ds,_,rfl,sm5 _ _ x4,T.bY.cl,T.iH,by simp,?_⟩;have up:∀{x:OM}{o:HO},x≠s->H5 x=UT o->(upd H5 s (.ins A.Run ds (cJ "book" (.ref b) [("deeds",.ref d),("cells",.ref c)]))) x=UT o:=λh1 h2=>ag h1 h2;have bt':b≠t:=λz=>by have:=nb.b;rw[z,nb.ht]at this;cases this
 have bl':b≠l:=λz=>by have:=nb.b;rw[z,nb.hl]at this;cases this
 have bd':b≠sd:=λz=>by have:=nb.b;rw[z,nb.hs]at this;cases this
 have db':d≠b:=(ne4 hb d4).symm;have dt':d≠t:=(ne4 t4 d4).symm;have dl':d≠l:=(ne4 l4 d4).symm;have dd':d≠sd:=(ne4 sd4 d4).symm;have sM:s∉Ra.M ⟨s,ds,d,c,b,db,sd,e,t,l,la⟩ E:=λm=>by
  unfold Ra.M at m;rcases KA.mp m with m|m
  ·simp only[Ku,KD,or_false]at m;rcases m with z|z|z|z|z
   ·exact bs z.symm
   ·exact cs z.symm
   ·exact ts z.symm
   ·exact ls z.symm
   exact ss z.symm
  obtain⟨i,hi,z⟩:=KU.mp m;exact las i hi z
 have dM:d∉Ra.M ⟨s,ds,d,c,b,db,sd,e,t,l,la⟩ E:=λm=>by
  unfold Ra.M at m;rcases KA.mp m with m|m
  ·simp only[Ku,KD,or_false]at m;rcases m with z|z|z|z|z
   ·exact db' z
   ·exact cd z
   ·exact dt' z
   ·exact dl' z
   exact dd' z
  obtain⟨i,hi,z⟩:=KU.mp m;have:=la4 i hi;rw[show la i=d from z,d4]at this;cases this
 have lsn:E.ls.Nodup:=O.nd.sublist List.filter_sublist;have nod:(Ra.M ⟨s,ds,d,c,b,db,sd,e,t,l,la⟩ E).Nodup:=by
  unfold Ra.M;refine Lm.mpr ⟨?_,sN lsn hI,λx hx y hy z=>?_⟩
  ·simp[ne4 hb c4,bt',bl',bd',(ne4 t4 c4).symm,(ne4 l4 c4).symm,(ne4 sd4 c4).symm,nb.tl,Lv nb.dt,Lv nb.dl]
  obtain⟨i,hi,rfl⟩:=KU.mp hy;have l1:=la4 i hi;simp only[Ku,KD,or_false]at hx;rcases hx with w|w|w|w|w
  ·exact ne4 hb l1 (w.symm.trans z)
  ·exact(hL i hi).1 (z.symm.trans w)
  ·exact ne4 t4 l1 (w.symm.trans z)
  ·exact ne4 l4 l1 (w.symm.trans z)
  exact ne4 sd4 l1 (w.symm.trans z)
 refine q d b db sd e t l _ ((b4.trans (But.of sm5)).trans (But.at s _ _)) (b4.none bs hb) (b4.none ts t4) (b4.none ls l4) (b4.none ss sd4) ⟨nod,aN sM ak,aN dM (up ds0 (sm5 _ _ d4)),?_,up cs (sm5 _ _ c4),⟨[],up ts nb.ht,by rw[k2];exact .nil⟩,⟨[],up ls nb.hl,by rw[k3];exact .nil⟩,⟨[],up ss nb.hs,by rw[k4];exact .nil⟩,λi hi=>up (las i hi) (sm5 _ _ (la4 i hi)),ok⟩;show _=UT (HO.ins A.cA db [("letters",.ref l),("said",.ref sd),("trace",.ref t),("steps",.int k.steps),("ends",.ref e)]);rw[k1];exact up bs nb.b
def Hd.own?:Hd->List Nat
 | .own i _=>[i]
 |_=>[]
theorem oI(T:Txt K mg A){H H2:Hp}{f:Nat->V}{S0:List Hd}:∀{hv:List V}{hs:List Hd}{ys:List V},(∀h∈hs,h∈S0)->Paired (uF A N H) hv hs->Paired (λx y=>∀i z,Hd.own i z∈S0->uF A N H x (.own i z)->∃t,y=V.ref t/\H2 t=UT (.tup [.str (N i),f i])) (hv.filter (sR A H)) ys->Paired (λj y=>∃t,y=V.ref t/\H2 t=UT (.tup [.str (N j),f j])) (hs.flatMap Hd.own?) ys
 |_,_,_,_,.nil,h=>by
  cases h;exact .nil
 |v::hv,h::hs,ys,sb,.cons p r,q=>by
  have sb':∀h∈hs,h∈S0:=λh m=>sb h (Kx _ m);rw[Lf];have no:∀{C:OM}{a dx:OM}{fs:List (Str×V)},v=.ref a->H a=UT (.ins C dx fs)->C≠A.bG->sR A H v=false:=λe h n=>by rw[e,eK h,decide_eq_false n]
  cases h with
  |hand x=>
   obtain⟨a,dx,n,rk,e,ha⟩:=p;rw[LU,no e ha (show A.bJ≠A.bG from av T 1 3)]at q;exact oI T sb' r q
  |giv x z=>
   obtain⟨a,dx,n,rk,e,ha⟩:=p;rw[LU,no e ha (show A.aX≠A.bG from av T 2 3)]at q;exact oI T sb' r q
  |lt x=>
   obtain⟨a,dx,n,rk,e,ha⟩:=p;rw[LU,no e ha (show A.cu≠A.bG from av T 4 3)]at q;exact oI T sb' r q
  |own x z=>
   have p0:=p;obtain⟨a,dx,n,e,ha⟩:=p;rw[LU,show sR A H v=true by rw[e,eK ha,decide_eq_true rfl],if_pos rfl]at q;cases q with
   |cons h1 h2=>exact .cons (h1 x z (sb _ Kv) p0) (oI T sb' r h2)
end
section
variable{P:Program}{w:OX}{K:OQ}{mg:Str->Option ON}{base:O8}{A:Adr}{E:En}
def U4(hs:List Hd):List Nat:=hs.flatMap Hd.own?
inductive zt(A:Adr)(E:En)(vs:List V)(H:Hp)(Q:VK)(Z:XK):Prop
 |mk(p:Pa)(c:OM)(hv xs:List V)(hs:List Hd)(f:Nat->V):vs=[.ref p.pa,.ref c]->w8 A E H p hv hs xs->Hds E hs->H c=UT (.dK (dk E.N E.idx f))->(∀e H',aq H H'->H e=UU->H' e=UT (.dK (dk E.N (U4 hs) f))->Q (.ref e) H')->zt A E vs H Q Z
theorem qP{hs:List Hd}(Z:Hds E hs):∀i∈U4 hs,i∈E.idx:=λi hi=>by
 obtain⟨h,hm,m⟩:=LF.mp hi;rw[Z.e];refine Lk _ (LF.mpr ⟨h,hm,?_⟩);cases h with
 |own j z=>exact m
 |_=>cases m
theorem vg:∀hs:List Hd,(U4 hs).Sublist (hs.flatMap Hd.cell)
 | []=>Qw _
 |x::r=>by
  unfold U4;rw[Lf,Lf];refine List.Sublist.append ?_ (vg r);cases x with
  |own j z=>exact Qw _
  |giv j z=>exact List.nil_sublist _
  |hand j=>exact Qw _
  |lt j=>exact Qw _
theorem wR{N:Nat->Str}(D:gB N){f:Nat->V}:∀(r pre:List Nat),(∀j∈pre++r,j<25)->(pre++r).Nodup->cz (dk N pre f) (dk N r f)=dk N (pre++r) f
 | [],pre,_,_=>by rw[Lx];rfl
 |i::r,pre,hb,nd=>by
  have e:pre++i::r=(pre++[i])++r:=by rw[Li];rfl
  have m:i∉pre:=λz=>(Lm.mp nd).2.2 i z i Kv rfl;have hi:i<25:=hb i (by simp);show cz (UZ (dk N pre f) (.inr (N i)) (f i)) (dk N r f)=_;rw[iC D hi (λj hj=>hb j (Lk _ hj)) m];have c:dk N (pre++[i]) (mZ f i (f i))=dk N (pre++[i]) f:=i5 λj _=>by
   by_cases z:j=i
   ·rw[z,fm]
   rw[jo _ _ z]
  rw[c,e];exact wR D r (pre++[i]) (by rw[<-e];exact hb) (by rw[<-e];exact nd)
theorem F4(T:Txt K mg A)(O:E.Ok):Has P w K mg base 1 "ends_of" ["program","cells"] (zt A E):=by
 refine T.Aa.has xK (λvs H Q E h=>?_) (λf' cdv A' outer s' H vs Q E' hr hu h=>?_)
 ·obtain⟨p,c,hv,xs,hs,f,rfl,_⟩:=h;rfl
 obtain⟨p,c,hv,xs,hs,f,rfl,R,Z,hc,q⟩:=h;have hl:=R.l;refine⟨_,(aj (aA (pcT ET T.u5 ((jd (N:=["head","cells"]) (own:=1) (fr:=[1]) (cQ.of (by kernel_rfl!)) rfl (df (aI (fv 0) rfl)) (λb=>pgn (i:=0) (show PM (["head","cells"]:List P0) by decide+kernel) rfl) (λb=>nK (bX (pcB bN T.aJ (fv 0^dJ T.bh.mg^af)) (λ_=>rfl))) (λb=>bb (aI (fv 0) rfl^px hu (fv 1) (aI (fv 0) rfl)^af)))^af)))),fdI R.pr T.dC.cl T.dU rfl (KJ ⟨⟨_,SqL.of R.hd⟩,x8 (K:=K) (sR A H) (λx y H2=>∀i z,Hd.own i z∈hs->uF A E.N H x (.own i z)->∃t,y=V.ref t/\H2 t=UT (.tup [.str (E.N i),f i])) (SqL.of R.hd) (az ()) (λb v H2 G hv' s2 k=>?_) (λb v H2 G hv' hp s2 k=>?_) ?_ ?_ (λD H2 ys hD s2 e pr=>?_)⟩)⟩
 ·obtain⟨n,hn⟩:=Le hv';obtain⟨h,hh,W⟩:=bw R.h hn;cases h with
  |hand x=>
   obtain⟨a,dx,n,rk,rfl,ha⟩:=W;rw[eK ha,decide_eq_false (show A.bJ≠A.bG from av T 1 3)]at k;exact isB (T.bP.cc (s2 _ _ ha)) (cq T.bP T.bh (av T 3 1) (av T 3 0)) (k _ (aq.refl _))
  |giv x z=>
   obtain⟨a,dx,n,rk,rfl,ha⟩:=W;rw[eK ha,decide_eq_false (show A.aX≠A.bG from av T 2 3)]at k;exact isB (T.aW.cc (s2 _ _ ha)) (cq T.aW T.bh (av T 3 2) (av T 3 0)) (k _ (aq.refl _))
  |lt x=>
   obtain⟨a,dx,n,rk,rfl,ha⟩:=W;rw[eK ha,decide_eq_false (show A.cu≠A.bG from av T 4 3)]at k;exact isB (T.cm.cc (s2 _ _ ha)) (cq T.cm T.bh (av T 3 4) (av T 3 0)) (k _ (aq.refl _))
  |own x z=>
   obtain⟨a,dx,n,rfl,ha⟩:=W;rw[eK ha,decide_eq_true rfl]at k;exact isB (T.bh.cc (s2 _ _ ha)) (nL T.bh) (k _ (aq.refl _))
 ·obtain⟨n,hn⟩:=Le hv';obtain⟨h,hh,W⟩:=bw R.h hn;cases h with
  |hand x=>
   obtain⟨a,dx,n,rk,rfl,ha⟩:=W;rw[eK ha,decide_eq_false (show A.bJ≠A.bG from av T 1 3)]at hp;cases hp
  |giv x z=>
   obtain⟨a,dx,n,rk,rfl,ha⟩:=W;rw[eK ha,decide_eq_false (show A.aX≠A.bG from av T 2 3)]at hp;cases hp
  |lt x=>
   obtain⟨a,dx,n,rk,rfl,ha⟩:=W;rw[eK ha,decide_eq_false (show A.cu≠A.bG from av T 4 3)]at hp;cases hp
  |own x z=>
   obtain⟨a,dx,n,rfl,ha⟩:=W;have xm:x∈E.idx:=qP Z x (LF.mpr ⟨_,KG hh,by simp[Hd.own?]⟩);have gd:c8 H2 c (.str (E.N x)) (UT (f x)):=by
    have:=c8.k (k:=.inr (E.N x)) (s2 _ _ hc);rw[nN O.D O.b xm]at this;exact this
   refine fdI (s2 _ _ ha) T.bh.cl T.dX rfl (fdI (s2 _ _ ha) T.bh.cl T.dX rfl ⟨_,gd,(show 2<=sizeLine by decide),λt ht=>k _ _ (aq.upd ht _) λi z' im W'=>⟨t,rfl,?_⟩⟩);obtain⟨a',dx',n',e',ha'⟩:=W';cases e';have im':i∈E.idx:=qP Z i (LF.mpr ⟨_,im,by simp[Hd.own?]⟩);have ex:E.N x=E.N i:=by
    have h1:=ha.symm.trans ha';simp at h1;exact h1.2.2.1
   rw[ak,O.D x i (O.b x xm) (O.b i im') ex]
 ·rintro x y' H2 H3 s h i z im W';obtain⟨t,e4,e5⟩:=h i z im W';exact⟨t,e4,s _ _ e5⟩
 ·rintro x y' H2 D ys zs hD h i z im W';obtain⟨t,e4,e5⟩:=h i z im W';exact⟨t,e4,by rw[aw (λz=>by rw[z,hD]at e5;cases e5)];exact e5⟩
 have pk:=oI T (λ_ h=>h) R.h pr;obtain⟨ps,e1,e2,e3⟩:=sW (K:=K) pk;have nd:=O.nd;rw[Z.e]at nd;have em:cz [] (dk E.N (U4 hs) f)=dk E.N (U4 hs) f:=wR O.D (U4 hs) [] (λj hj=>O.b j (qP Z j hj)) ((Lm.mp nd).1.sublist (vg hs));have ll:(U4 hs).length<=1000:=by
  have l1:=(vg hs).length_le;have l2:=O.len;rw[Z.e,Kz]at l2;omega
 refine⟨D,ps,dk E.N (U4 hs) f,rfl,by rw[<-e1];exact SqL.of e,by rw[e2,fj];rfl,by rw[fj];exact ll,e3,λp4 hp4=>q p4 _ (s2.trans (aq.upd hp4 _)) (aq.free s2 hp4) (by rw[ak,em])⟩
structure GW(A:Adr)(E:En)(hs:List Hd)(H:Hp)(b db l sd t e:OM)(la:Nat->OM)(k:S):Prop where
 hb:H b=UT (.ins A.cA db [("letters",.ref l),("said",.ref sd),("trace",.ref t),("steps",.int k.steps),("ends",.ref e)])
 he:H e=UT (.dK (dk E.N (U4 hs) (cV E la k.num)))
 ht:∃xs,H t=UT (.lst xs)/\iG H xs k.trace
 hl:∃xs,H l=UT (.lst xs)/\iG H xs k.eQ
 hd:∃xs,H sd=UT (.lst xs)/\iG H xs k.uT
 ha:∀i∈E.ls,H (la i)=UT (.lst ((k.lst i).map V.int))
inductive yO(A:Adr)(E:En)(f:Nat)(vs:List V)(H:Hp)(Q:VK)(Z:XK):Prop
 |mk(p:Pa)(g:OM)(hv xs:List V)(hs:List Hd)(gn:Nat->Int)(gl:Nat->List Int)(rows:List Rw):vs=[.ref p.pa,.ref g]->w8 A E H p hv hs xs->Hds E hs->lu E hs H g gn gl->Paired (eA A E H f) xs rows->(∀rw∈rows,Wf E f rw)->(rows.map (aT E f)).sum<=BIG->(∀(b db l sd t e:OM)(la:Nat->OM)(H':Hp),aq H H'->GW A E hs H' b db l sd t e la (bU (doR E f) (S.new E hs gn gl) rows).1->(bU (doR E f) (S.new E hs gn gl) rows).1.ok E->Q (.ref b) H')->yO A E f vs H Q Z
theorem Ho{hs:List Hd}{H:Hp}{g:OM}{gn:Nat->Int}{gl:Nat->List Int}(Z:Hds E hs)(G:lu E hs H g gn gl):(S.new E hs gn gl).ok E:=by
 refine⟨λa=>?_,λx n hn=>?_,λx hx hz=>?_⟩
 ·show In (if isG hs a then gn a else 0);split
  ·exact G.n a
  exact⟨∅,∅⟩
 ·have hn:n∈(if isG hs x then gl x else Vd (E.sz x)):=hn;split at hn
  ·exact G.l x n hn
  rw[Rc hn];exact⟨∅,∅⟩
 show(if isG hs x then gl x else Vd (E.sz x)).length=E.sz x;split
 ·rename_i c;unfold isG at c;rw[LM]at c;obtain⟨h,hm,e⟩:=c;cases h with
  |giv j z=>
   have ej:j=x:=of_decide_eq_true e;subst ej;obtain⟨kvs,k1,k2⟩:=G.d;have ez:=Z.g j z hm;obtain⟨l,_,_,e3⟩:=(k2 j z hm).2 ();rw[e3,ez]
  |_=>cases e
 exact LW
theorem Jy(T:Txt K mg A)(O:E.Ok)(f:Nat):Has P w K mg base (3*f+9) "run" ["program","gifts"] (yO A E f):=by
 refine T.run.has (k:=3*f+8) yH (λvs H Q E h=>?_) (λf' cdv A' outer s' H vs Q E' hr hu h=>?_)
 ·obtain⟨p,g,hv,xs,hs,gn,gl,rows,rfl,_⟩:=h;rfl
 obtain⟨p,g,hv,xs,hs,gn,gl,rows,rfl,R,Z,G,pr,wf,rm,q⟩:=h;have OB:=DB (P:=P) (w:=w) (base:=base) T O;have OC:=yG (P:=P) (w:=w) (base:=base) T O;have NH:dz P w K mg base (3*(f+1)+5) A.Run "do_rows" ["self","rows"] (mX A E f):=mQ (P:=P) (w:=w) (base:=base) T O (f+1);have OH:=F4 (P:=P) (w:=w) (base:=base) T O;refine⟨_,(ae (pst 2 yH.nd (cN (hj:=by omega) T.bY OC hr (fv 0^(ar (hj:=by omega) OB hr (fv 0^fv 1^af))^af)))
 (ae (aK (bF (hj:=by omega) (fv 2) T.bY.cl NH hr (aI (fv 0) rfl^af)))
 (ae (pst 3 yH.nd (aI (fv 2) rfl))
 (ae (ba (fv 3) (ar (hj:=by omega) OH hr (fv 0^aI (fv 2) rfl^af)) rfl)
 (aj (aA (fv 3))))))),?_⟩
 refine⟨p,g,hv,xs,hs,gn,gl,rfl,R,Z,G,λc la H1 c0 C=>?_⟩;have s1:=C.s;refine λs ds' hs' hds hne=>?_;have sm:aq H1 (upd (upd H1 ds' (.own s)) s (.ins A.Run ds' [])):=But.same (But.refl _ _) hs' hds;have ok0:=Ho Z G;have lsi:∀i∈E.ls,i∈E.idx/\0<E.sz i:=λi hi=>by
  obtain⟨h1,h2⟩:=Lw.mp hi;exact⟨h1,of_decide_eq_true h2⟩
 refine⟨s,ds',c,p,hv,xs,hs,la,S.new E hs gn gl,rfl,ak,(R.same s1).same sm,sm _ _ C.hc,λi hi=>?_,λi hi j hj e=>C.i i (lsi i hi).1 j (lsi j hj).1 (lsi i hi).2 (lsi j hj).2 e,ok0,rfl,rfl,rfl,rfl,λd b db sd e t lt H2 b2 nb nt nl nd R2=>⟨rfl,?_⟩⟩
 ·obtain⟨_,h2,h3⟩:=C.l i (lsi i hi).1 (lsi i hi).2;exact⟨h2,sm _ _ h3⟩
 have s12:aq H1 H2:=But.same b2 hs' hds;have s2:aq H H2:=s1.trans s12;have b0:=aq.free s1 (ip hs' hds nb);have t0:=aq.free s1 (ip hs' hds nt);have l0:=aq.free s1 (ip hs' hds nl);have d0:=aq.free s1 (ip hs' hds nd);have fM:∀x∈Ra.M ⟨s,ds',d,c,b,db,sd,e,t,lt,la⟩ E,H x=UU:=λx m=>by
  unfold Ra.M at m;rcases KA.mp m with m|m
  ·simp only[Ku,KD,or_false]at m;rcases m with rfl|rfl|rfl|rfl|rfl
   ·exact b0
   ·exact c0
   ·exact t0
   ·exact l0
   exact d0
  obtain⟨i,hi,rfl⟩:=KU.mp m;exact(C.l i (lsi i hi).1 (lsi i hi).2).1
 have sX:aq H (del (Ra.M ⟨s,ds',d,c,b,db,sd,e,t,lt,la⟩ E) H2):=λa o h=>aN (λm=>by rw[fM a m]at h;cases h) (s2 a o h);refine⟨s,ds',_,rfl,R2.s,rfl,fdI (s2 _ _ R.pr) T.dC.cl T.iO rfl ⟨⟨s,ds',d,c,b,db,sd,e,t,lt,la⟩,S.new E hs gn gl,p.mn,xs,rows,rfl,R2,sX _ _ R.mn,Paired.cR pr (λ_ _=>eA.same sX),wf,⟨by show 0+_<=_;omega,by show(0:Int)<=0;decide,by show(0:Int)<=0;decide,by show(0:Int)<=0;decide⟩,λH3 g3 R3=>?_⟩⟩;have s3:=g3.keep s2 fM;generalize (bU (doR E f) (S.new E hs gn gl) rows).1=k at R3 q;refine fdI R3.s T.bY.cl T.iH rfl (fdI R3.s T.bY.cl T.cY rfl ⟨p,c,hv,xs,hs,_,rfl,R.same s3,Z,R3.hc,λe' H4 s4 e0 he4=>?_⟩);have R4:=R3.same s4;have hb4:=R4.hb;obtain⟨ts,ht,tt⟩:=R4.ht;obtain⟨ls,hl,tl⟩:=R4.hl;obtain⟨ss,hd,td⟩:=R4.hd;have ne:=R4.ne;refine⟨b,_,db,_,rfl,hb4,T.dZ.cl,T.mL,by simp[rY],?_⟩;have g5:=Go.at (H:=H4) (Ra.inM ⟨s,ds',d,c,b,db,sd,e,t,lt,la⟩ E).1 (.ins A.cA db (cJ "ends" (.ref e') (rY ⟨s,ds',d,c,b,db,sd,e,t,lt,la⟩ k)));have st:aq (del (Ra.M ⟨s,ds',d,c,b,db,sd,e,t,lt,la⟩ E) H4) (upd H4 b (.ins A.cA db (cJ "ends" (.ref e') (rY ⟨s,ds',d,c,b,db,sd,e,t,lt,la⟩ k)))):=λa o h=>aB _ _ (g5.same a o h);have eb:e'≠b:=λz=>by rw[z,hb4]at he4;cases he4
 refine q b db lt sd t e' la _ (aq.out (s3.trans s4) b0 _) ⟨ak,ag eb he4,⟨ts,ag ne.bt.symm ht,tt.same st⟩,⟨ls,ag ne.bl.symm hl,tl.same st⟩,⟨ss,ag ne.bd.symm hd,td.same st⟩,λi hi=>ag (ne.a i hi).1 (R4.ha i hi)⟩ R3.ok
end
section
variable{E:En}{s:S}
end
section
variable{P:Program}{w:OX}{K:OQ}{mg:Str->Option ON}{base:O8}{A:Adr}{E:En}{F:Nat}
theorem Has.ex{ι:Type}{k:Nat}{x:Str}{ps:List Str}{sp:ι->Sp}{p:ι->Prop}(i0:ι)(h0:p i0)(h:∀i,p i->Has P w K mg base k x ps (sp i)):Has P w K mg base k x ps (λvs H Q E=>∃i,p i/\sp i vs H Q E):=by
 obtain⟨f,fd,F,b,kp,m,oc,od,osl,lk⟩:=h i0 h0;have same:∀i,p i->kP P w K mg base CX0 k f fd ps (sp i):=λi hi=>by
  obtain⟨f',fd',F',b',kp',m',oc',od',osl',lk'⟩:=h i hi;have e:f'=f:=by rw[m]at m';cases m';rfl
  subst e;rw[lk]at lk';cases lk';exact F'
 exact⟨f,fd,⟨λvs H Q E ⟨i,hi,q⟩=>(same i hi).len vs H Q E q,λA outer s H args us vs Q E hr he hb hv ⟨i,hi,q⟩=>(same i hi).run A outer s H args us vs Q E hr he hb hv q⟩,b,kp,m,oc,od,osl,lk⟩
end
section
variable{A:Adr}{E:En}{X:Hp}{F:Nat}{ns tg:List Nat}{dd:List Dl}
def rwL(n:Int):Lr->Rw
 | .set x v=>.set n x v| .put x p v=>.put n x p v| .snd h v=>.snd n h v| .say x v m=>.say n x v m
 | .call i ts=>.call n ((i-13)/3) ts
 |_=>.last n
mutual
def rwP:Pt->Rw
 | .leaf n r=>rwL n r
 | .iff n v l r f o=>.iff n v (nT f) (nT o) l r
 | .loop n t m l r b=>.loop n t m (nT b) l r
 | .fU n _ _ _=>.last n
def nT:List Pt->List Rw
 | []=>[]
 |t::ts=>rwP t::nT ts
end
structure Env(E:En)(ns tg:List Nat):Prop where
 n:∀a∈ns,a∈E.idx/\E.sz a=0
 t:∀a∈tg,a∈E.idx/\E.sz a=0
 l:∀a∈[6,10],a∈E.idx/\0<E.sz a
theorem Env.th(J:Env E ns tg){t:Th}(h:t.ok ns):t.okE E:=by
 cases t with
 |i n=>exact h
 |x a=>exact J.n a h
theorem Env.val(J:Env E ns tg){v:Val}(h:v.ok ns):v.okE E:=by
 cases v with
 |one a=>exact J.th h
 |op a w b=>exact⟨J.th h.1,J.th h.2.1,h.2.2⟩
 |atl x b=>exact⟨(J.l x h.1).1,(J.l x h.1).2,J.th h.2⟩
def Cal(A:Adr)(E:En)(X:Hp)(F:Nat)(dd:List Dl):Prop:=∀d∈dd,∃(j:Nat)(D:Dd)(da dy:OM)(dn:V)(pp pb:OM)(xs:List V),d.nm=13+3*j/\E.ds[j]?=UT D/\D.nm=d.nm/\D.parts=d.ps/\d.ps.length<=4/\E.dv[j]?=UT (.ref da)/\X da=UT (.ins A.bg dy [("number",dn),("name",.str (E.N D.nm)),("parts",.ref pp),("body",.ref pb)])/\X pp=UT (.lst (D.parts.map λj=>V.str (E.N j)))/\X pb=UT (.lst xs)/\
 ∀G,F<=G->Paired (eA A E X G) xs D.body/\(∀r∈D.body,Wf E G r)/\(D.body.map (aT E G)).sum<=d.sp
theorem rw_leaf(J:Env E ns tg)(C:Cal A E X F dd){r:Lr}(ok:r.ok ns tg dd){v:V}{n:Int}(h:yN A E.N X v n r){G:Nat}(hG:F+1<=G):eA A E X G v (rwL n r)/\Wf E G (rwL n r)/\aT E G (rwL n r)<=su dd r:=by
 obtain⟨G,rfl⟩:∃g,G=g+1:=⟨G-1,()⟩;cases r with
 |set x val=>exact⟨h,⟨(J.t x ok.1).1,(J.t x ok.1).2,J.val ok.2⟩,Lb _⟩
 |put x pl val=>
  obtain⟨rfl,o2,o3⟩:=ok;exact⟨h,⟨(J.l 10 (by simp)).1,(J.l 10 (by simp)).2,J.th o2,J.val o3⟩,Lb _⟩
 |snd h' val=>exact⟨h,⟨J.val ok.2,by have:=ok.1;simp at this;omega⟩,Lb _⟩
 |say x val m=>exact⟨h,⟨(J.t x ok.1).1,(J.t x ok.1).2,J.val ok.2.1⟩,Lb _⟩
 |last=>exact⟨h,trivial,Lb _⟩
 |call i ts=>
  obtain⟨d,md,e,el,ot⟩:=ok;obtain⟨a,dx,p,ev,h1,h2⟩:=h;have hf:∃d',dd.find? (λd=>decide (d.nm=i))=UT d':=by
   cases c:dd.find? (λd=>decide (d.nm=i))with
   |some d'=>exact⟨d',rfl⟩
   |none=>
    rw[Nd]at c;exact absurd (decide_eq_true e) (c d md)
  obtain⟨d',hf⟩:=hf;have e':d'.nm=i:=of_decide_eq_true (Uq (p:=λd:Dl=>decide (d.nm=i)) hf);obtain⟨j,D,_,_,_,_,_,_,a1,a2,_,a4,_⟩:=C d md;obtain⟨j',D',da,dy,dn,pp,pb,xs,b1,b2,b3,b4,b5,b6,b7,b8,b9,b10⟩:=C d' (Mz hf);have ej:j'=j:=()
  subst ej;rw[a2]at b2;cases b2;have ei:(i-13)/3=j':=()
  obtain⟨c1,c2,c3⟩:=b10 G ();have pl:D.parts.length=ts.length:=by rw[a4,el]
  refine⟨?_,?_,?_⟩
  ·show eA A E X (G+1) v (.call n ((i-13)/3) ts);rw[ei];refine⟨a,dx,p,D,ev,a2,?_,h2,da,dy,dn,pp,pb,xs,b6,b7,b8,b9,c1⟩;rw[b3,e'];exact h1
  ·show Wf E (G+1) (.call n ((i-13)/3) ts);rw[ei];exact⟨λt ht=>J.th (ot t ht),by rw[<-pl,b4];exact b5,D,a2,pl,c2⟩
  show aT E (G+1) (.call n ((i-13)/3) ts)<=su dd (.call i ts);have ec:su dd (.call i ts)=1+d'.sp:=by
   show(match dd.find? (λd=>decide (d.nm=i))with|some d=>1+d.sp|none=>1)=1+d'.sp;rw[hf]
  rw[ec];unfold aT;rw[ei,a2];show 1+_<=1+_;omega
 |_=>exact ok.elim
mutual
theorem rw_t(J:Env E ns tg)(C:Cal A E X F dd):∀(t:Tr)(k:Nat)(v:V)(G:Nat),t.ok ns tg dd->d9 A E.N X v (pt k t)->F+dT t<=G->eA A E X G v (rwP (pt k t))/\Wf E G (rwP (pt k t))/\∀h,0<=h->h*aT E G (rwP (pt k t))<=oG dd h t
 | .leaf r,k,v,G,ok,h,hG=>by
  unfold Tr.ok at ok;unfold pt at h⊢;unfold d9 at h;unfold dT at hG;obtain⟨a,b,c⟩:=rw_leaf J C ok h hG;unfold rwP;refine⟨a,b,λz hz=>?_⟩;unfold oG;exact Lh c hz
 | .iff val l r f o,k,v,G,ok,h,hG=>by
  obtain⟨G,rfl⟩:∃g,G=g+1:=⟨G-1,by unfold dT at hG;omega⟩;unfold Tr.ok at ok;obtain⟨o1,o2,o3,o4,o5⟩:=ok;unfold pt at h⊢;unfold d9 at h;obtain⟨a,dx,p,pf,po,xf,xo,e,h1,h2,h3,h4,h5,h6⟩:=h;unfold dT at hG;obtain⟨a1,a2,a3⟩:=rw_ts J C f (k+1) xf G o4 h5 ();obtain⟨b1,b2,b3⟩:=rw_ts J C o (k+1+(bf f).length+1) xo G o5 h6 ();unfold rwP;refine⟨⟨a,dx,p,pf,po,xf,xo,e,h1,h2,h3,h4,a1,b1⟩,⟨J.val o1,o2,o3,a2,b2⟩,λz hz=>?_⟩;have q1:=a3 z hz;have q2:=b3 z hz;have n1:=oW E a2;have n2:=oW E b2;unfold oG aT;generalize ((nT (pts (k+1) f)).map (aT E G)).sum=c1 at q1 n1⊢;generalize ((nT (pts (k+1+(bf f).length+1) o)).map (aT E G)).sum=c2 at q2 n2⊢;have le:1+(if l+c1<r+c2 then r+c2 else l+c1)<=1+1*(l+r)+c1+c2:=by split<;>omega
  refine MR (Lh le hz) ?_;rw[Na,Na];omega
 | .loop t m l r b,k,v,G,ok,h,hG=>by
  obtain⟨G,rfl⟩:∃g,G=g+1:=⟨G-1,by unfold dT at hG;omega⟩;unfold Tr.ok at ok;obtain⟨o1,o2,o3,o4,o5,o6⟩:=ok;unfold pt at h⊢;unfold d9 at h;obtain⟨a,dx,pb,xb,e,h1,h2,h3⟩:=h;unfold dT at hG;obtain⟨a1,a2,a3⟩:=rw_ts J C b (k+1) xb G o6 h3 ();unfold rwP;refine⟨⟨a,dx,pb,xb,e,h1,h2,a1⟩,⟨J.th o1,(),(),o4,o5,a2⟩,λz hz=>?_⟩;have q1:=a3 (z*m) (Lq hz ());have n1:=oW E a2;unfold oG aT;generalize ((nT (pts (k+1) b)).map (aT E G)).sum=c at q1 n1⊢;have le:(if l+c<r then r else l+c)<=l+r+c:=by split<;>omega
  have le2:1+m*(if l+c<r then r else l+c)<=1+m*(l+r)+m*c:=by
   have:=Lh le (show 0<=m by omega);rw[Na m (l+r) c]at this;omega
  refine MR (Lh le2 hz) ?_;rw[Na z _ (m*c),<-Int.mul_assoc];omega
theorem rw_ts(J:Env E ns tg)(C:Cal A E X F dd):∀(ts:List Tr)(k:Nat)(xs:List V)(G:Nat),eE ns tg dd ts->aG A E.N X xs (pts k ts)->F+dTs ts<=G->Paired (eA A E X G) xs (nT (pts k ts))/\(∀r∈nT (pts k ts),Wf E G r)/\∀h,0<=h->h*((nT (pts k ts)).map (aT E G)).sum<=cG dd h ts
 | [],k,xs,G,ok,h,hG=>by
  unfold pts at h⊢;unfold aG at h;subst h;unfold nT cG;exact⟨.nil,λr hr=>(by cases hr),λz _=>by simp⟩
 |t::ts,k,xs,G,ok,h,hG=>by
  unfold eE at ok;unfold pts at h⊢;unfold aG at h;obtain⟨y,ys,e,h1,h2⟩:=h;subst e;unfold dTs at hG;obtain⟨a1,a2,a3⟩:=rw_t J C t k y G ok.1 h1 ();obtain⟨b1,b2,b3⟩:=rw_ts J C ts (k+(flat t).length) ys G ok.2 h2 ();unfold nT cG;refine⟨.cons a1 b1,λr hr=>?_,λz hz=>?_⟩
  ·rcases Ku.mp hr with rfl|hr
   ·exact a2
   exact b2 r hr
  rw[KQ,Mg,Na];have:=a3 z hz;have:=b3 z hz;omega
end
end
section
variable{A:Adr}{N:Nat->Str}{X:Hp}
def hdL:Lr->Hd
 | .giv i _ z=>.giv i z.toNat| .own i z=>.own i z.toNat| .lt i _=>.lt i| .hand i _=>.hand i
 |_=>.hand 0
def ddP:Pt->Dd
 | .fU _ i ps b=>⟨i,ps,nT b⟩
 |_=>⟨0,[],[]⟩
def szF(z:Int)(i:Nat):Nat:=if i=6\/i=10 then z.toNat else 0
def enP(N:Nat->Str)(z:Int)(rs:List Lr)(ds:List Pt)(dv:List V):En:=⟨N,(rs.map hdL).flatMap Hd.cell++(ds.map ddP).flatMap Dd.parts,szF z,ds.map ddP,dv⟩
theorem BE:∀{dls:List Dl}{bss:List (List Tr)}{k j:Nat}{d:Dl}{b:List Tr},dls[j]?=UT d->bss[j]?=UT b->∃k':Nat,(ptD k dls bss)[j]?=UT (.fU ((k':Int)+1) d.nm d.ps (pts (k'+1) b))
 |_::_,_::_,k,0,_,_,h1,h2=>by
  cases h1;cases h2;exact⟨k,rfl⟩
 |_::ds,_::bs,k,j+1,_,_,h1,h2=>by
  obtain⟨k',e⟩:=BE (dls:=ds) (bss:=bs) (k:=k+1+(bf _).length+1) (j:=j) (by simpa using h1) (by simpa using h2);exact⟨k',by unfold ptD;rw[MF];exact e⟩
 | [],_,_,_,_,_,h1,_=>by cases h1
 |_::_,[],_,_,_,_,_,h2=>by cases h2
theorem uB:∀{dls:List Dl}{bss:List (List Tr)}(k:Nat),dls.length=bss.length->((ptD k dls bss).map ddP).map Dd.nm=dls.map Dl.nm/\((ptD k dls bss).map ddP).flatMap Dd.parts=dls.flatMap Dl.ps/\(ptD k dls bss).length=dls.length
 | [],_,_,_=>⟨rfl,rfl,rfl⟩
 |d::ds,b::bs,k,h=>by
  obtain⟨h1,h2,h3⟩:=uB (dls:=ds) (bss:=bs) (k+1+(bf b).length+1) (by simpa using h);unfold ptD;refine⟨?_,?_,?_⟩
  ·rw[KQ,KQ,KQ,h1];rfl
  ·rw[KQ,Lf,Lf,h2];rfl
  rw[Lc,Lc,h3]
 |_::_,[],_,h=>by cases h
theorem wO:∀{dls:List Dl}{j0:Nat},(∀j d,dls[j]?=UT d->∃m,m<=2/\d.ps=Mh (14+3*(j0+j)) m)->(dls.flatMap Dl.ps).Pairwise (· < ·)/\(∀p∈dls.flatMap Dl.ps,14+3*j0<=p/\p+1<14+3*(j0+dls.length))/\(dls.flatMap Dl.ps).length<=2*dls.length
 | [],_,_=>⟨.nil,λp hp=>(by cases hp),KI _⟩
 |d::ds,j0,h=>by
  obtain⟨m,m2,e⟩:=h 0 d rfl;obtain⟨h1,h2,h3⟩:=wO (dls:=ds) (j0:=j0+1) (λj d' hj=>by
   obtain⟨m,m2,e⟩:=h (j+1) d' (by simpa using hj);exact⟨m,m2,by rw[e,show j0+1+j=j0+(j+1) by omega]⟩)
  have dp:∀p∈d.ps,14+3*j0<=p/\p<14+3*j0+2:=λp hp=>by
   rw[e,Nh]at hp;omega
  rw[Lf];refine⟨List.pairwise_append.mpr ⟨by rw[e];exact List.pairwise_lt_range',h1,λa ha b hb=>?_⟩,λp hp=>?_,?_⟩
  ·have:=dp a ha;have:=h2 b hb;omega
  ·rw[Lc];rcases KA.mp hp with hp|hp
   ·have:=dp p hp;omega
   have:=h2 p hp;omega
  rw[Kz,Lc,e,MD];omega
theorem dQ(t:Nat)(xs:List Lr):(rot t xs).Perm xs:=by
 unfold rot;refine List.perm_append_comm.trans ?_;rw[Mv]
theorem yD(rk:Nat->Int)(z:Int)(t:Nat):(((rot t (cy rk z)).map hdL).flatMap Hd.cell).Perm [3,4,5,6,7,8,9,10]:=(((dQ t _).map hdL).flatMap_right Hd.cell).trans (List.Perm.of_eq rfl)
theorem Gi{dls:List Dl}(l4:dls.length<=4)(h:dls.map Dl.nm=(O2 dls.length).map λj=>13+3*j):(dls.map Dl.nm).Nodup/\∀d∈dls,13<=d.nm/\d.nm<25:=by
 have hm:∀d∈dls,d.nm∈dls.map Dl.nm:=λd hd=>KU.mpr ⟨d,hd,rfl⟩;rw[h]at hm⊢;generalize dls.length=n at l4 hm⊢;have:=lt5 n ();refine⟨by rcases this with rfl|rfl|rfl|rfl|rfl<;>decide,λd hd=>?_⟩;obtain⟨j,hj,e⟩:=KU.mp (hm d hd);have:=Lu.mp hj;omega
structure Am(N:Nat->Str)(rk:Nat->Int)(z:Int)(t:Nat)(dls:List Dl)(E:En):Prop where
 ok:E.Ok
 c:∀i∈[3,4,5,6,7,8,9,10],i∈E.idx
 p:∀d∈dls,∀i∈d.ps,i∈E.idx/\14<=i
 n:E.N=N
 z:E.sz=szF z
theorem G3{ev:Bool}{lim:Int}{lrs:List Lr}{rk:Nat->Int}{z:Int}{t:Nat}{dls:List Dl}{bss:List (List Tr)}{mb:List Tr}(D:BW ev lim lrs rk z t dls bss mb)(hN:gB N){dv:List V}(hv:dv.length=dls.length)(k:Nat):Am N rk z t dls (enP N z (rot t (cy rk z)) (ptD k dls bss) dv):=by
 obtain⟨e1,e2,e3⟩:=uB (dls:=dls) (bss:=bss) k D.dd.len;obtain⟨p1,p2,p3⟩:=wO (dls:=dls) (j0:=0) (λj d hj=>by rw[Nat.zero_add];exact D.dd.ps j d hj);obtain⟨n1,n2⟩:=Gi D.dd.l4 D.dd.nm;have cp:=yD rk z t;have l4:=D.dd.l4;have hz:=D.hz;have pb:∀p∈dls.flatMap Dl.ps,14<=p/\p<25:=λp hp=>by
  have:=p2 p hp;omega
 have cb:∀p∈((rot t (cy rk z)).map hdL).flatMap Hd.cell,3<=p/\p<=10:=λp hp=>by
  have:=cp.mem_iff.mp hp;simp at this;omega
 have ei:(enP N z (rot t (cy rk z)) (ptD k dls bss) dv).idx=((rot t (cy rk z)).map hdL).flatMap Hd.cell++dls.flatMap Dl.ps:=by
  show _++((ptD k dls bss).map ddP).flatMap Dd.parts=_;rw[e2]
 refine⟨⟨hN,?_,?_,?_,?_,?_,?_,?_,?_,?_⟩,?_,?_,rfl,rfl⟩
 ·rw[ei];intro j hj;rcases KA.mp hj with hj|hj
  ·have:=cb j hj;omega
  exact(pb j hj).2
 ·rw[ei];refine Lm.mpr ⟨cp.nodup_iff.mpr ∅,p1.imp (λh=>Lp h),λa ha b hb=>?_⟩;have:=cb a ha;have:=pb b hb;omega
 ·intro d hd;have:d.nm∈((ptD k dls bss).map ddP).map Dd.nm:=KU.mpr ⟨d,hd,rfl⟩;rw[e1]at this;obtain⟨d',hd',e⟩:=KU.mp this;rw[<-e];exact(n2 d' hd').2
 ·show(((ptD k dls bss).map ddP).map Dd.nm).Nodup;rw[e1];exact n1
 ·show((ptD k dls bss).map ddP).length<=64;rw[Ky,e3];omega
 ·show dv.length=((ptD k dls bss).map ddP).length;rw[Ky,e3,hv]
 ·intro d hd j hj;have:j∈((ptD k dls bss).map ddP).flatMap Dd.parts:=LF.mpr ⟨d,hd,hj⟩;rw[e2]at this;refine⟨by rw[ei];exact KR _ this,?_⟩;have:=pb j this;show szF z j=0;unfold szF;rw[if_neg ()]
 ·intro x;show szF z x<=1000;unfold szF;split<;>omega
 ·rw[ei,Kz,cp.length_eq];show 8+_<=64;omega
 ·intro i hi;rw[ei];exact Lk _ (cp.mem_iff.mpr hi)
 intro d hd i hi;have m:i∈dls.flatMap Dl.ps:=LF.mpr ⟨d,hd,hi⟩;exact⟨by rw[ei];exact KR _ m,(pb i m).1⟩
theorem Am.env{rk:Nat->Int}{z:Int}{t:Nat}{dls:List Dl}{E:En}(h:Am N rk z t dls E)(hz:1<=z){ps:List Nat}(hp:∀i∈ps,i∈E.idx/\14<=i):Env E ([3,4,5]++([7,8,9]++ps)) ([7,8,9]++ps):=by
 have s0:∀a,a≠6->a≠10->E.sz a=0:=λa h1 h2=>by
  rw[h.z];unfold szF;rw[if_neg ()]
 have tg:∀a∈[7,8,9]++ps,a∈E.idx/\E.sz a=0:=λa ha=>by
  rcases KA.mp ha with ha|ha
  ·have d:=(by decide:∀a∈[7,8,9],a∈[3,4,5,6,7,8,9,10]/\a≠6/\a≠10) a ha;exact⟨h.c a d.1,s0 a d.2.1 d.2.2⟩
  have:=hp a ha;exact⟨this.1,s0 a () ()⟩
 refine⟨λa ha=>?_,tg,λa ha=>?_⟩
 ·rcases KA.mp ha with ha|ha
  ·have d:=(by decide:∀a∈[3,4,5],a∈[3,4,5,6,7,8,9,10]/\a≠6/\a≠10) a ha;exact⟨h.c a d.1,s0 a d.2.1 d.2.2⟩
  exact tg a ha
 have d:=(by decide:∀a∈[6,10],a∈[3,4,5,6,7,8,9,10]/\(a=6\/a=10)) a ha;refine⟨h.c a d.1,?_⟩;rw[h.z];unfold szF;rw[if_pos d.2];omega
theorem Cal.up{E:En}{F F':Nat}{dd:List Dl}(h:Cal A E X F dd)(le:F<=F'):Cal A E X F' dd:=λd hd=>by
 obtain⟨j,D,da,dy,dn,pp,pb,xs,h1,h2,h3,h4,h5,h6,h7,h8,h9,h10⟩:=h d hd;exact⟨j,D,da,dy,dn,pp,pb,xs,h1,h2,h3,h4,h5,h6,h7,h8,h9,λG hG=>h10 G (KS le hG)⟩
def fS(bss:List (List Tr))(j:Nat):Nat:=((bss.take j).map dTs).sum
theorem Ep{bss:List (List Tr)}{j:Nat}{b:List Tr}(h:bss[j]?=UT b):fS bss (j+1)=fS bss j+dTs b:=by
 unfold fS;rw[LO,h,La,List.sum_append];simp
theorem Dh{lim:Int}{rk:Nat->Int}{z:Int}{t:Nat}{dls:List Dl}{bss:List (List Tr)}{ds:List Dd}{ns:Nat->Str}{ix:List Nat}{sz:Nat->Nat}{k0:Nat}{dv:List V}(B:AH false lim dls bss)(O:Am N rk z t dls ⟨ns,ix,sz,ds,dv⟩)(hz:1<=z)(ed:ds=(ptD k0 dls bss).map ddP)(pd:aG A N X dv (ptD k0 dls bss)):∀j,j<=dls.length->Cal A ⟨ns,ix,sz,ds,dv⟩ X (fS bss j) (dls.take j)
 |0,_=>λd hd=>by
  rw[ME]at hd;cases hd
 |j+1,hj=>by
  have ih:=Dh B O hz ed pd j ();have en:ns=N:=O.n;obtain⟨d,hd⟩:∃d,dls[j]?=UT d:=⟨_,Kw ()⟩;obtain⟨b,hb⟩:∃b,bss[j]?=UT b:=⟨_,Kw (by rw[<-B.len];omega)⟩;obtain⟨k',hp⟩:=BE (k:=k0) hd hb;obtain⟨v,hv⟩:∃v,dv[j]?=UT v:=⟨_,Kw (by
   have:=pd.len;have:=(uB (dls:=dls) (bss:=bss) k0 B.len).2.2;omega)⟩
  obtain⟨p,hp',pa⟩:=pd.get hv;rw[hp]at hp';cases hp';unfold d9 at pa;obtain⟨a,dx,pp,pb,xb,rfl,h1,h2,h3,h4⟩:=pa;obtain⟨ob,pay⟩:=B.bs j d b hd hb;have dm:d∈dls:=KG hd;have J:=O.env hz (ps:=d.ps) (λi hi=>O.p d dm i hi);rw[Ep hb,U3 hd];intro e he;rcases KA.mp he with he|he
  ·exact ih.up (LK _ _) e he
  rw[KC.mp he];obtain⟨m,m2,ps⟩:=B.ps j d hd;have nm:d.nm=13+3*j:=by
   have:(dls.map Dl.nm)[j]?=UT d.nm:=by rw[KP,hd];rfl
   rw[B.nm,KP,Mn ()]at this;exact(OS this).symm
  have eD:ds[j]?=UT ⟨d.nm,d.ps,nT (pts (k'+1) b)⟩:=by
   rw[ed,KP,hp];rfl
  refine⟨j,_,a,dx,_,pp,pb,xb,nm,eD,rfl,rfl,by rw[ps,MD];omega,hv,by rw[<-en]at h1;exact h1,by rw[<-en]at h2;exact h2,h3,λG hG=>?_⟩;rw[<-en]at h4;obtain⟨q1,q2,q3⟩:=rw_ts J ih b (k'+1) xb G ob h4 hG;refine⟨q1,q2,?_⟩;have h1:=q3 1 ∅;have h2:=pay rfl;show((nT (pts (k'+1) b)).map _).sum<=_;omega
theorem Fq:∀{bss:List (List Tr)},(∀b∈bss,dTs b<=4)->(bss.map dTs).sum<=4*bss.length
 | [],_=>KI _
 |b::bs,h=>by
  have h1:=Fq (bss:=bs) λx hx=>h x (Kx _ hx);have h2:=h b Kv;rw[KQ,Mg,Lc];omega
theorem wA:∀{rs:List Lr}{k:Nat}{xs:List V},(∀r∈rs,(∃i m,r=.hand i m)\/(∃i m z,r=.giv i m z/\0<=z)\/(∃i z,r=.own i z/\0<=z)\/∃i m,r=.lt i m)->aG A N X xs (lfs k rs)->Paired (uF A N X) xs (rs.map hdL)
 | [],k,xs,_,h=>by
  unfold lfs aG at h;rw[h];exact .nil
 |r::rs,k,xs,hr,h=>by
  unfold lfs aG at h;obtain⟨y,ys,rfl,h1,h2⟩:=h;rw[KQ];refine .cons ?_ (wA (λr m=>hr r (Kx _ m)) h2);unfold d9 at h1;rcases hr r Kv with⟨i,m,rfl⟩|⟨i,m,z,rfl,hz⟩|⟨i,z,rfl,hz⟩|⟨i,m,rfl⟩
  ·obtain⟨a,dx,e,h⟩:=h1;exact⟨a,dx,_,_,e,h⟩
  ·obtain⟨a,dx,e,h⟩:=h1;refine⟨a,dx,.int ((k:Int)+1),.int m,e,?_⟩;rw[MY hz];exact h
  ·obtain⟨a,dx,e,h⟩:=h1;refine⟨a,dx,.int ((k:Int)+1),e,?_⟩;rw[MY hz];exact h
  obtain⟨a,dx,e,h⟩:=h1;exact⟨a,dx,_,_,e,h⟩
theorem vM:∀{dls:List Dl}{bss:List (List Tr)}{k:Nat}{xs:List V},aG A N X xs (ptD k dls bss)->Paired (IJ A N X) xs ((ptD k dls bss).map ddP)
 | [],_,k,xs,h=>by
  unfold ptD aG at h;rw[h];exact .nil
 |_::_,[],k,xs,h=>by
  unfold ptD aG at h;rw[h];exact .nil
 |d::ds,b::bs,k,xs,h=>by
  unfold ptD aG at h;obtain⟨y,ys,rfl,h1,h2⟩:=h;unfold ptD;rw[KQ];refine .cons ?_ (vM h2);unfold d9 at h1;obtain⟨a,dx,pp,pb,xb,e,h1,h2,h3,h4⟩:=h1;exact⟨a,dx,_,pp,pb,e,h1,h2⟩
theorem xg{rk:Nat->Int}{z:Int}(hz:1<=z){r:Lr}(h:r∈cy rk z):(∃i m,r=.hand i m)\/(∃i m z,r=.giv i m z/\0<=z)\/(∃i z,r=.own i z/\0<=z)\/∃i m,r=.lt i m:=by
 have z0:0<=z:=()
 simp only[cy,Ku,KD,or_false]at h;rcases h with e|e|e|e|e|e|e|e|e|e|e|e|e<;>rw[e]
 ·exact .inl ⟨_,_,rfl⟩
 ·exact .inl ⟨_,_,rfl⟩
 ·exact .inl ⟨_,_,rfl⟩
 ·exact .inr (.inl ⟨_,_,_,rfl,Lb _⟩)
 ·exact .inr (.inl ⟨_,_,_,rfl,Lb _⟩)
 ·exact .inr (.inl ⟨_,_,_,rfl,Lb _⟩)
 ·exact .inr (.inl ⟨_,_,_,rfl,z0⟩)
 ·exact .inr (.inr (.inl ⟨_,_,rfl,Lb _⟩))
 ·exact .inr (.inr (.inl ⟨_,_,rfl,Lb _⟩))
 ·exact .inr (.inr (.inl ⟨_,_,rfl,Lb _⟩))
 ·exact .inr (.inr (.inl ⟨_,_,rfl,z0⟩))
 ·exact .inr (.inr (.inr ⟨_,_,rfl⟩))
 exact .inr (.inr (.inr ⟨_,_,rfl⟩))
structure Vk(A:Adr)(N:Nat->Str)(X:Hp)(v:V)(E:En)(hs:List Hd)(p:Pa)(hv xs:List V)(rows:List Rw):Prop where
 v:v=.ref p.pa
 ok:E.Ok
 n:E.N=N
 pr:w8 A E X p hv hs xs
 hd:Hds E hs
 rw:Paired (eA A E X 20) xs rows
 wf:∀r∈rows,Wf E 20 r
 ms:(rows.map (aT E 20)).sum<=1000
theorem Vk.same{X':Hp}{v:V}{E:En}{hs:List Hd}{p:Pa}{hv xs:List V}{rows:List Rw}(s:aq X X')(R:Vk A N X v E hs p hv xs rows):Vk A N X' v E hs p hv xs rows:=⟨R.v,R.ok,R.n,R.pr.same s,R.hd,Paired.cR R.rw λ_ _=>eA.same s,R.wf,R.ms⟩
theorem Ed{lim:Int}{lrs:List Lr}{rk:Nat->Int}{z:Int}{t:Nat}{dls:List Dl}{bss:List (List Tr)}{mb:List Tr}{v:V}{n:Nat}(D:BW false lim lrs rk z t dls bss mb)(hl:lim<=1000)(hN:gB N)(pg:yg A N X v (lfs 0 (rot t (cy rk z))) (ptD (rot t (cy rk z)).length dls bss) (pts (n+1) mb)):∃E p hv xs rows,Vk A N X v E ((rot t (cy rk z)).map hdL) p hv xs rows/\E.sz=szF z:=by
 obtain⟨a,dx,n0,n1,n2,x0,x1,x2,rfl,ha,e0,e1,e2,p0,p1,p2⟩:=pg;have lr:(rot t (cy rk z)).length=13:=(dQ t _).length_eq;have ld:=(uB (dls:=dls) (bss:=bss) (rot t (cy rk z)).length D.dd.len).2.2;have lx:x1.length=dls.length:=by
  have:=p1.len;omega
 have O:=G3 D hN (dv:=x1) lx (rot t (cy rk z)).length;have hz:=D.hz;have C:=Dh D.dd O hz.1 rfl p1 dls.length (KI _);rw[Lz]at C;have J:=O.env hz.1 (ps:=[]) (λi hi=>by cases hi);rw[Lx]at J;have ef:fS bss dls.length=(bss.map dTs).sum:=by
  unfold fS;rw[D.dd.len,Lz]
 have dl:fS bss dls.length+dTs mb<=20:=by
  have h1:=Fq D.dd.dp;have h2:=D.dp;have h3:=D.dd.l4;have h4:=D.dd.len;omega
 obtain⟨q1,q2,q3⟩:=rw_ts J C mb (n+1) x2 20 D.ob p2 dl;have hds:=wA (λr m=>xg hz.1 ((dQ t _).mem_iff.mp m)) p0;obtain⟨sp,s1,s2⟩:=D.pay rfl;refine⟨_,⟨a,dx,n0,n1,n2⟩,x0,x2,_,⟨rfl,O.ok,rfl,⟨ha,e0,e1,e2,hds,vM p1,?_⟩,⟨rfl,?_,?_⟩,q1,q2,?_⟩,rfl⟩
 ·have:=OU hds;rw[Ky,lr]at this;omega
 ·intro i y m;obtain⟨r,hr,e⟩:=KU.mp m;have hr:=(dQ t _).mem_iff.mp hr;simp only[cy,Ku,KD,or_false]at hr;rcases hr with e'|e'|e'|e'|e'|e'|e'|e'|e'|e'|e'|e'|e'<;>(rw[e']at e;cases e;try rfl)
 ·intro i y m;obtain⟨r,hr,e⟩:=KU.mp m;have hr:=(dQ t _).mem_iff.mp hr;simp only[cy,Ku,KD,or_false]at hr;rcases hr with e'|e'|e'|e'|e'|e'|e'|e'|e'|e'|e'|e'|e'<;>(rw[e']at e;cases e;try rfl)
 have:=q3 1 ∅;omega
end
section
variable{P:Program}{w:OX}{K:OQ}{mg:Str->Option ON}{base:O8}{A:Adr}{N:Nat->Str}{E:En}
def ph(N:Nat->Str)(w:List V):Prop:=∃(a n:Int)(h:Nat)(v:Int),w=[.int a,.int n,.str (N h),.int v]/\h<3
def Lts(N:Nat->Str)(s:S):Prop:=∀w∈s.eQ,ph N w
theorem CP{s:S}:∀(xs:List (Nat×Int)),(s.wY xs).eQ=s.eQ:=λxs=>by
 induction xs generalizing s with
 |nil=>rfl
 |cons p r ih=>exact ih (s:=s.put p.1 p.2)
theorem rb{f:S->Rw->S×Bool}{p:Rw->Prop}(one:∀s r,p r->Lts N s->Lts N (f s r).1):∀(xs:List Rw)(s:S×Bool),(∀r∈xs,p r)->Lts N s.1->Lts N (xs.foldl (step f) s).1
 | [],_,_,h=>h
 |r::xs,s,hp,h=>rb one xs _ (λq hq=>hp q (Kx _ hq)) (one s.1 r (hp r Kv) h)
theorem qL{body:S->S×Bool}{l:Int}(one:∀s,Lts N s->Lts N (body s).1):∀(k j:Nat)(s:S),Lts N s->Lts N (U0 body l k j s).1
 |0,_,_,h=>h
 |k+1,j,s,h=>by
  unfold U0;split
  ·exact one s h
  exact qL one k (j+1) _ (one s h)
theorem xj{d:Nat}{s:S}{r:Rw}(h:Lts E.N s)(wf:Wf E d r):Lts E.N (leaf E.N s r).1:=by
 cases r with
 |snd n x v=>
  have hx:x<3:=by cases d<;>exact wf.2
  intro w hw;rcases KA.mp hw with hw|hw
  ·exact h w hw
  rw[KC.mp hw];exact⟨_,_,x,_,rfl,hx⟩
 |_=>exact h
theorem E2:∀(d:Nat)(s:S)(r:Rw),Wf E d r->Lts E.N s->Lts E.N (doR E d s r).1:=by
 intro d;induction d with
 |zero=>intro s r wf h;cases r<;>first|exact xj h wf|exact wf.elim
 |succ d ih=>
  intro s r wf h;have rows:∀(xs:List Rw)(s:S),(∀r∈xs,Wf E d r)->Lts E.N s->Lts E.N (bU (doR E d) s xs).1:=λxs s hw h=>rb (p:=Wf E d) (λs r w h=>ih s r w h) xs (s,false) hw h;cases r with
  |call m i ts=>
   obtain⟨_,_,D,hD,_,hb⟩:=wf;unfold doR;rw[hD];refine rows D.body _ hb ?_;unfold Lts;rw[CP];exact h
  |iff m v f o l r=>
   obtain⟨_,_,_,h3,h4⟩:=wf;unfold doR;split
   ·exact rows f _ h3 h
   exact rows o _ h4 h
  |loop m t k b l r=>
   obtain⟨_,_,_,_,_,h4⟩:=wf;unfold doR;exact qL (λs hs=>rows b s h4 hs) _ _ _ h
  |_=>exact xj (d:=d+1) h wf
def ltF(E:En)(hs:List Hd)(rows:List Rw)(gn:Nat->Int)(gl:Nat->List Int):List (List V):=(bU (doR E 20) (S.new E hs gn gl) rows).1.eQ
theorem F5{hs:List Hd}{rows:List Rw}(wf:∀r∈rows,Wf E 20 r)(gn:Nat->Int)(gl:Nat->List Int):∀w∈ltF E hs rows gn gl,ph E.N w:=rb (p:=Wf E 20) (λs r w h=>E2 20 s r w h) rows (S.new E hs gn gl,false) wf (λw hw=>by cases hw)
theorem EA{hs:List Hd}{rows:List Rw}(wf:∀r∈rows,Wf E 20 r)(ms:(rows.map (aT E 20)).sum<=1000)(gn:Nat->Int)(gl:Nat->List Int):(ltF E hs rows gn gl).length<=1000:=by
 have:=mT (E:=E) (B:=1000) (f:=doR E 20) (c:=aT E 20) (p:=Wf E 20) (λs r n w h=>qv E 20 s r n w h) rows (S.new E hs gn gl,false) 0 wf ⟨by show 0+_<=_;omega,by show(0:Int)<=0;decide,by show(0:Int)<=0;decide,by show(0:Int)<=0;decide⟩;have h1:=this.l;have h2:=this.st;have h3:((ltF E hs rows gn gl).length:Int)<=1000:=MR h1 ();omega
def ku(N:Nat->Str)(rank:Int)(w:List V):Bool:=(O2 3).any λh=>decide (w.getD 2 .non=V.str (N h))&&decide ((h:Int)<=rank)
theorem Cu(D:gB N){rank:Int}{a n v:V}{h:Nat}(hh:h<3):ku N rank [a,n,.str (N h),v]=decide ((h:Int)<=rank):=by
 unfold ku;rw[LQ,LM,decide_eq_true_iff];constructor
 ·rintro⟨j,hj,e⟩;obtain⟨e1,e2⟩:=MS.mp e;have e1:N h=N j:=V.str.inj (of_decide_eq_true e1);have:=D h j () (by have:=Lu.mp hj;omega) e1;rw[this];exact of_decide_eq_true e2
 exact λe=>⟨h,Lu.mpr hh,by rw[decide_eq_true e,Bool.and_true];exact decide_eq_true rfl⟩
def ofH(H:Hp)(q:List V->Bool):V->Bool
 | .ref a=>match H a with
  |some (.tup w)=>q w
  |_=>false
 |_=>false
theorem jn{H:Hp}(q:List V->Bool):∀{xs:List V}{ws:List (List V)},iG H xs ws->iG H (xs.filter (ofH H q)) (ws.filter q)
 |_,_,.nil=>.nil
 |_,_,.cons (b:=y) h t=>by
  obtain⟨p,rfl,e⟩:=h;have e2:ofH H q (.ref p)=q y:=by
   show(match H p with|some (.tup w)=>q w|_=>false)=q y;rw[e]
  rw[LU,LU,e2];split
  ·exact .cons ⟨p,rfl,e⟩ (jn q t)
  exact jn q t
theorem Ci{H:Hp}{xs:List V}{ws:List (List V)}(h:iG H xs ws){x:V}(m:x∈xs):∃p w,x=.ref p/\H p=UT (.tup w)/\w∈ws:=by
 obtain⟨i,hi⟩:=Le m;obtain⟨w,hw,p,e,hp⟩:=bw h hi;exact⟨p,w,e,hp,KG hw⟩
end
section
variable{P:Program}{w:OX}{K:OQ}{mg:Str->Option ON}{base:O8}{A:Adr}{N:Nat->Str}{E:En}
seal PE PA PS PSs PT PW
structure Cw(rs:List Lr):Prop where
 h:∀i m,Lr.hand i m∈rs->i<3/\m=(i:Int)
 l:∀i m,Lr.lt i m∈rs->3<=i/\i<25
 a:∀h,h<3->∃m,Lr.hand h m∈rs
structure RkM(N:Nat->Str)(H:Hp)(D:OM)(rs:List Lr)(i:Nat)(ix:List Nat)(f:Nat->V):Prop where
 d:H D=UT (.dK (dk N ix f))
 b:∀j∈ix,j<25
 v:∀h,h<3->h∈ix->f h=.int h
 l:ix.length<=i
 m:∀h m,Lr.hand h m∈rs.take i->h∈ix
def we(N:Nat->Str)(H:Hp)(D:OM):Prop:=∃ix f,H D=UT (.dK (dk N ix f))/\(∀j∈ix,j<25)/\∀h,h<3->h∈ix/\f h=.int h
theorem we.same{H H':Hp}{D:OM}(s:aq H H')(h:we N H D):we N H' D:=by
 obtain⟨ix,f,h1,h2⟩:=h;exact⟨ix,f,s _ _ h1,h2⟩
theorem we.get{H:Hp}{D:OM}(d:gB N)(R:we N H D){h:Nat}(hh:h<3):c8 H D (.str (N h)) (UT (.int h)):=by
 obtain⟨ix,f,h1,h2,h3⟩:=R;have:=mG d (.inl h1) h2 (h3 h hh).1;rw[(h3 h hh).2]at this;exact this
theorem RkM.done{H:Hp}{D:OM}{rs:List Lr}{ix:List Nat}{f:Nat->V}(O:Cw rs)(R:RkM N H D rs rs.length ix f):we N H D:=⟨ix,f,R.d,R.b,λh hh=>by
 obtain⟨m,hm⟩:=O.a h hh;have:=R.m h m (by rw[Lz];exact hm);exact⟨this,R.v h hh this⟩⟩
theorem RkM.skip{H H':Hp}{D:OM}{rs:List Lr}{i:Nat}{ix:List Nat}{f:Nat->V}{r:Lr}(R:RkM N H D rs i ix f)(s:aq H H')(hr:rs[i]?=UT r)(no:∀h m,r≠ .hand h m):RkM N H' D rs (i+1) ix f:=⟨s _ _ R.d,R.b,R.v,Ld R.l,λh m hm=>by
 rw[LO,hr]at hm;rcases KA.mp hm with hm|hm
 ·exact R.m h m hm
 exact absurd (KC.mp hm).symm (no h m)⟩
theorem RkM.put{H H':Hp}{D:OM}{rs:List Lr}{i j:Nat}{ix:List Nat}{f:Nat->V}{r:Lr}{v:V}(d:gB N)(R:RkM N H D rs i ix f)(hr:rs[i]?=UT r)(hj:j<25)(hv:j<3->v=.int j)(ry:∀h m,r=.hand h m->h=j)(e:H' D=UT (.dK (UZ (dk N ix f) (.inr (N j)) v))):RkM N H' D rs (i+1) (ins ix j) (mZ f j v):=by
 refine⟨by rw[e,vz d hj R.b],Bw R.b hj,λh hh hm=>?_,KS (kJ _ _) (MH R.l),λh m hm=>?_⟩
 ·unfold mZ;split
  ·rename_i c;rw[c];exact hv ()
  rename_i c;rcases ux hm with e|e
  ·exact absurd e c
  exact R.v h hh e
 rw[LO,hr]at hm;rcases KA.mp hm with hm|hm
 ·exact mP (R.m h m hm)
 rw[ry h m (KC.mp hm).symm];exact rg _ _
theorem Ac:∀{rs:List Lr}{k i:Nat}{p:Pt},(lfs k rs)[i]?=UT p->∃r,rs[i]?=UT r/\p=.leaf (((k+i:Nat):Int)+1) r
 |r::rs,k,0,p,h=>by
  cases h;exact⟨r,rfl,rfl⟩
 |r::rs,k,i+1,p,h=>by
  obtain⟨r',h1,h2⟩:=Ac (rs:=rs) (k:=k+1) (i:=i) h;refine⟨r',h1,?_⟩;rw[h2,show k+1+i=k+(i+1) by omega]
theorem Ak:∀(rs:List Lr)(k:Nat),(lfs k rs).length=rs.length
 | [],_=>rfl
 |r::rs,k=>by
  show(lfs (k+1) rs).length+1=rs.length+1;rw[Ak rs]
def Cv(rs:List Lr):Prop:=∀r∈rs,(∃i m,r=.hand i m)\/(∃i m z,r=.giv i m z/\0<=z)\/(∃i z,r=.own i z/\0<=z)\/∃i m,r=.lt i m
inductive wW(A:Adr)(vs:List V)(H:Hp)(Q:VK)(Z:XK):Prop
 |mk(N:Nat->Str)(v:V)(rs:List Lr)(k:Nat)(ds ms:List Pt):vs=[v]->gB N->yg A N H v (lfs k rs) ds ms->rs.length<=500->Cv rs->Cw rs->(∀(D:OM)(H':Hp),aq H H'->we N H' D->Q (.ref D) H')->wW A vs H Q Z
theorem DP(T:Txt K mg A):Has P w K mg base 1 "ranks_told" ["program"] (wW A):=by
 refine T.rP.has jy (λvs H Q E h=>?_) (λf cdv A' outer s H vs Q E' hr hu h=>?_)
 ·obtain⟨N,v,rs,k,ds,ms,rfl,_⟩:=h;rfl
 obtain⟨N,v,rs,k,ds,ms,rfl,dN,⟨a,dx,n0,n1,n2,x0,x1,x2,rfl,ha,e0,e1,e2,p0,p1,p2⟩,ln,hk,ro,q⟩:=h;refine⟨_,(ae (pst 1 jy.nd (fC))
 (ae (dP O1 rfl (df (aI (fv 0) rfl)) (pgn (i:=2) jy.nd rfl)
  (aj (aM (PW.pt (pw_or (bX (pcB bN T.aJ (fv 2^dJ T.bP.mg^af)) (λ_=>rfl)) (pw_or1 (bX (pcB bN T.aJ (fv 2^dJ T.cm.mg^af)) (λ_=>rfl)))))
   (aj (bu (aI (fv 2) rfl) (bC (fv 1) (aI (fv 2) rfl) (bD hu UX))))
   aC)))
 (aj (aA (fv 1))))),?_⟩
 refine ah λM1 K1 D hD=>?_;obtain⟨s1,eD⟩:=alc hD (HO.dK []);generalize upd H D _=H1 at s1 eD⊢;refine K1 _ _ ?_;clear K1 M1;try dsimp only
 refine ah λM1 K1=>fdI (s1 _ _ ha) T.dC.cl T.dU rfl (KJ ⟨⟨_,SqL.of (s1 _ _ e0)⟩,eF (K:=K) (xs:=x0) (λi σ Hc=>∃(v2:Option V)(ix:List Nat)(f:Nat->V),σ=[UT (.ref a),UT (.ref D),v2]/\aq H Hc/\RkM N Hc D rs i ix f) ⟨UU,[],λ_=>.non,rfl,s1,⟨eD,λj hj=>(by cases hj),λh _ hh=>(by cases hh),KI _,λh m hm=>(by rw[ME]at hm;cases hm)⟩⟩ (λi σ Hc _ ⟨_,_,_,_,z,_⟩=>SqL.of (z _ _ e0)) ?_ ?_⟩)
 ·rintro i v σ Hc hv ⟨v2,ix,f,rfl,sc,R⟩;obtain⟨t,ht,pa⟩:=p0.get hv;obtain⟨r,hr',rfl⟩:=Ac ht;have il:i<rs.length:=(KH.mp hr').1;have mr:r∈rs:=KG hr';have kl:(dk N ix f).length<=1000:=by
   have:=R.l;unfold dk;rw[Ky];omega
  unfold d9 at pa;try dsimp only
  rcases hk r mr with⟨j,m,rfl⟩|⟨j,m,z,rfl,_⟩|⟨j,z,rfl,_⟩|⟨j,m,rfl⟩
  ·obtain⟨a2,dx2,rfl,h1⟩:=pa;obtain⟨j3,rfl⟩:=ro.h _ _ mr;have h1:=sc _ _ h1;refine isB (T.bP.cc h1) (nL T.bP) (dO (fdI h1 T.bP.cl T.iX rfl (fdI h1 T.bP.cl T.iM rfl ⟨_,cP.k (k:=.inr (N j)) R.d (az kl),_,_,_,rfl,aq.out sc hD _,R.put dN hr' () (λ_=>rfl) (λh m e=>by cases e;rfl) ak⟩)))
  ·obtain⟨a2,dx2,rfl,h1⟩:=pa;have h1:=sc _ _ h1;refine isB (T.aW.cc h1) (cq T.aW T.bP (av T 1 2) (av T 1 0)) (bH (isB (T.aW.cc h1) (cq T.aW T.cm (av T 4 2) (av T 4 0)) (bH ⟨_,_,_,rfl,sc,R.skip (aq.refl _) hr' (λ_ _ e=>by cases e)⟩)))
  ·obtain⟨a2,dx2,rfl,h1⟩:=pa;have h1:=sc _ _ h1;refine isB (T.bh.cc h1) (cq T.bh T.bP (av T 1 3) (av T 1 0)) (bH (isB (T.bh.cc h1) (cq T.bh T.cm (av T 4 3) (av T 4 0)) (bH ⟨_,_,_,rfl,sc,R.skip (aq.refl _) hr' (λ_ _ e=>by cases e)⟩)))
  obtain⟨a2,dx2,rfl,h1⟩:=pa;obtain⟨j3,j4⟩:=ro.l _ _ mr;have h1:=sc _ _ h1;refine isB (T.cm.cc h1) (cq T.cm T.bP (av T 1 4) (av T 1 0)) (bH (isB (T.cm.cc h1) (nL T.cm) (dO (fdI h1 T.cm.cl T.jJ rfl (fdI h1 T.cm.cl T.jK rfl ⟨_,cP.k (k:=.inr (N j)) R.d (az kl),_,_,_,rfl,aq.out sc hD _,R.put dN hr' j4 (λz=>absurd z ()) (λh m e=>by cases e) ak⟩)))))
 rintro σ Hc ⟨v2,ix,f,rfl,sc,R⟩;have lx:x0.length=rs.length:=by rw[p0.len,Ak]
 rw[lx]at R;exact K1 _ _ (q D Hc sc (R.done ro))
def kh(H:Hp)(x:V):Option (List V)->Prop
 |none=>x=.non
 |some w=>∃p,x=.ref p/\H p=UT (.tup w)
theorem kh.same{H H':Hp}{x:V}(s:aq H H'):∀{o:Option (List V)},kh H x o->kh H' x o
 |none,h=>h
 |some _,⟨p,e,h⟩=>⟨p,e,s _ _ h⟩
def hn:Option (List V)->Option (List V)
 |none=>UU
 |some w=>UT [w.getD 2 .non,w.getD 3 .non]
def dif(a b:List (List V))(i:Nat):Bool:=!decide (hn a[i]?=hn b[i]?)
def fd(a b:List (List V)):Option Nat:=(O2 (max a.length b.length)).find? (dif a b)
def Res(H:Hp)(v:V)(a b:List (List V)):Prop:=match fd a b with
 |none=>v=.non
 |some i=>∃t x y,v=.ref t/\H t=UT (.tup [.int i,x,y])/\kh H x a[i]?/\kh H y b[i]?
theorem Res.same{H H':Hp}{v:V}{a b:List (List V)}(s:aq H H')(h:Res H v a b):Res H' v a b:=by
 unfold Res at h⊢;split
 ·rename_i e;rw[e]at h;exact h
 rename_i i e;rw[e]at h;obtain⟨t,x,y,e1,e2,e3,e4⟩:=h;exact⟨t,x,y,e1,s _ _ e2,e3.same s,e4.same s⟩
theorem BQ(a b:List (List V))(i:Nat):dif a b i=dif b a i:=by
 unfold dif;rw[decide_eq_decide.mpr (eq_comm (a:=hn a[i]?) (b:=hn b[i]?))]
theorem y9(a b:List (List V)):fd a b=fd b a:=by
 unfold fd;rw[Nat.max_comm,show dif a b=dif b a from funext (BQ a b)]
theorem DR(a:List (List V)):fd a a=UU:=by
 unfold fd;rw[Nd];intro i _;unfold dif;rw[decide_eq_true rfl];decide
theorem Fc{a b:List (List V)}{i:Nat}(hi:i<max a.length b.length)(h:dif a b i=true)(no:∀j,j<i->dif a b j=false):fd a b=UT i:=by
 unfold fd;rw[List.find?_eq_some_iff_append];refine⟨h,O2 i,Mh (i+1) (max a.length b.length-(i+1)),?_,λj hj=>by rw[no j (Lu.mp hj)];rfl⟩;rw[Se,Se,show i::Mh (i+1) (max a.length b.length-(i+1))=Mh i (max a.length b.length-i) by rw[show max a.length b.length-i=max a.length b.length-(i+1)+1 by omega];rfl];have:=List.range'_append (s:=0) (m:=i) (n:=max a.length b.length-i) (step:=1);rw[show i+(max a.length b.length-i)=max a.length b.length by omega]at this;simpa using this.symm
theorem Fl{a b:List (List V)}(no:∀j,j<max a.length b.length->dif a b j=false):fd a b=UU:=by
 unfold fd;rw[Nd];intro j hj;rw[no j (Lu.mp hj)];decide
def dV:V->QN
 | .int i=>.int i
 | .str s=>.str s
 |_=>.none
def dat:Option (List V)->QN
 |none=>.none
 |some w=>.tuple (w.map dV)
def LtO(N:Nat->Str)(o:Option (List V)):Prop:=∀w,o=UT w->ph N w
theorem uK{H:Hp}{x:V}{o:Option (List V)}(l:LtO N o)(h:kh H x o):ja K H x (dat o):=by
 cases o with
 |none=>rw[show x=.non from h];exact .non
 |some w=>
  obtain⟨a,n,j,v,rfl,_⟩:=l w rfl;obtain⟨p,rfl,e⟩:=h;exact .tup (SqT.of e) (.cons (.int _) (.cons (.int _) (.cons (.str _) (.cons (.int _) .nil))))
theorem Br{H:Hp}{x:V}{o:Option (List V)}(l:LtO N o)(h:kh H x (hn o)):ja K H x (dat (hn o)):=by
 cases o with
 |none=>rw[show x=.non from h];exact .non
 |some w=>
  obtain⟨a,n,j,v,rfl,_⟩:=l w rfl;obtain⟨p,rfl,e⟩:=h;exact .tup (SqT.of e) (.cons (.str _) (.cons (.int _) .nil))
theorem uR(ok:∀i,Pc (N i)=true){o:Option (List V)}(l:LtO N o):(dat o).canLay0=true/\(dat o).depth<=1/\(dat (hn o)).canLay0=true/\(dat (hn o)).depth<=1:=by
 cases o with
 |none=>exact⟨rfl,KY _,rfl,KY _⟩
 |some w=>
  obtain⟨a,n,j,v,rfl,_⟩:=l w rfl;simp[dat,hn,dV,UL,TH,PyData.depth,Ur,ok j]
theorem E6{d:QN}(h:d.canLay0=true)(h2:d.depth<=1):Pe d=true:=by
 unfold Pe;rw[h,decide_eq_true (show d.depth<=64 by omega)];rfl
theorem Gy{o o':Option (List V)}(l:LtO N o)(l':LtO N o'):QG (dat (hn o)) (dat (hn o'))=decide (hn o=hn o'):=by
 cases o with
 |none=>
  cases o' with
  |none=>rfl
  |some w=>rfl
 |some w=>
  obtain⟨a,n,j,v,rfl,_⟩:=l w rfl;cases o' with
  |none=>rfl
  |some w'=>
   obtain⟨a',n',j',v',rfl,_⟩:=l' w' rfl;show(QG (.str (N j)) (.str (N j'))&&(QG (.int v) (.int v')&&true))=_;rw[LQ];simp[QG,hn]
inductive xU(vs:List V)(H:Hp)(Q:VK)(Z:XK):Prop
 |mk(l:OM)(xs:List V)(ws:List (List V))(i:Nat):vs=[.ref l,.int i]->H l=UT (.lst xs)->iG H xs ws->(∀x,kh H x ws[i]?->Q x H)->xU vs H Q Z
theorem Bm{H:Hp}{xs:List V}{ws:List (List V)}{i:Nat}{x:V}(h:iG H xs ws)(hx:xs[i]?=UT x):kh H x ws[i]?:=by
 obtain⟨w,hw,p,e,hp⟩:=bw h hx;rw[hw];exact⟨p,e,hp⟩
theorem HY(T:Txt K mg A):Has P w K mg base 1 "letter_at" ["letters","at"] xU:=by
 refine T.tK.has va (λvs H Q E h=>?_) (λf cdv A' outer s H vs Q E' hr hu h=>?_)
 ·obtain⟨l,xs,ws,i,rfl,_⟩:=h;rfl
 obtain⟨l,xs,ws,i,rfl,hl,tp,q⟩:=h;have ln:xs.length=ws.length:=tp.len;refine⟨_,(aj (aA (fA (ptc qJ (fv 1) (pcB bS T.cD (fv 0^af))) (px hu (fv 0) (fv 1)) d5))),lnl hl ⟨_,rfl,aE (λz=>?_) (λz=>?_)⟩⟩
 ·have z:(i:Int)<(xs.length:Int):=of_decide_eq_true z;have hx:xs[i]?=UT (xs[i]'(())):=Kw ();exact lix (SqL.of hl) (d6 hx) (q _ (Bm tp hx))
 have z:¬ (i:Int)<(xs.length:Int):=λc=>z (decide_eq_true c);refine q _ ?_;rw[LC ()];rfl
inductive tw(vs:List V)(H:Hp)(Q:VK)(Z:XK):Prop
 |mk(N:Nat->Str)(x:V)(o:Option (List V)):vs=[x]->kh H x o->LtO N o->(∀x' H',aq H H'->kh H' x' (hn o)->Q x' H')->tw vs H Q Z
theorem Cn(T:Txt K mg A):Has P w K mg base 1 "told_by" ["letter"] tw:=by
 refine T.zk.has yd (λvs H Q E h=>?_) (λf cdv A' outer s H vs Q E' hr hu h=>?_)
 ·obtain⟨N,x,o,rfl,_⟩:=h;rfl
 obtain⟨N,x,o,rfl,ho,lo,q⟩:=h;refine⟨_,(aj (aA (fA (ptc vH (fv 0) d5) d5 (bb (px hu (fv 0) ab^px hu (fv 0) ab^af))))),?_⟩;cases o with
 |none=>
  rw[show x=.non from ho];exact⟨rfl,_,rfl,dO (q _ _ (aq.refl _) rfl)⟩
 |some w=>
  obtain⟨a,n,j,v,rfl,_⟩:=lo w rfl;obtain⟨p,rfl,e⟩:=ho;refine⟨rfl,_,rfl,bH (tix (j:=2) (SqT.of e) rfl (tix (j:=3) (SqT.of e) rfl ⟨by show 2<=sizeLine;decide,λt ht=>q _ _ (aq.upd ht _) ⟨t,rfl,ak⟩⟩))⟩
structure Bg where
 N:Nat->Str
 rs:List Lr
 k:Nat
 ds:List Pt
 ms:List Pt
 E:En
 hs:List Hd
 p:Pa
 hv:List V
 xs:List V
 rows:List Rw
structure Prg(A:Adr)(H:Hp)(v:V)(g:Bg):Prop where
 D:gB g.N
 ok:∀i,Pc (g.N i)=true
 pg:yg A g.N H v (lfs g.k g.rs) g.ds g.ms
 l:g.rs.length<=500
 hk:Cv g.rs
 ro:Cw g.rs
 R:Vk A g.N H v g.E g.hs g.p g.hv g.xs g.rows
theorem Prg.same{H H':Hp}{v:V}{g:Bg}(s:aq H H')(h:Prg A H v g):Prg A H' v g:=⟨h.D,h.ok,h.pg.same s,h.l,h.hk,h.ro,h.R.same s⟩
def Bg.lt(g:Bg)(gn:Nat->Int)(gl:Nat->List Int):List (List V):=ltF g.E g.hs g.rows gn gl
theorem Prg.lts{H:Hp}{v:V}{g:Bg}(h:Prg A H v g)(gn:Nat->Int)(gl:Nat->List Int):(∀w∈g.lt gn gl,ph g.N w)/\(g.lt gn gl).length<=1000:=⟨by rw[<-h.R.n];exact F5 h.R.wf gn gl,EA h.R.wf h.R.ms gn gl⟩
theorem HI:(⟨nmV 0,[],λ_=>0,[],[]⟩:En).Ok:=⟨qe 0,λ_ h=>(by cases h),.nil,λ_ h=>(by cases h),.nil,KY _,rfl,λ_ h=>(by cases h),λ_=>KY _,KY _⟩
def I0(A:Adr)(H:Hp)(b l:OM)(xs:List V)(ws:List (List V)):Prop:=∃db f2 f3 f4 f5,H b=UT (.ins A.cA db [("letters",.ref l),("said",f2),("trace",f3),("steps",f4),("ends",f5)])/\H l=UT (.lst xs)/\iG H xs ws
inductive y8(A:Adr)(vs:List V)(H:Hp)(Q:VK)(Z:XK):Prop
 |mk(v:V)(g:Bg)(gp:OM)(gn:Nat->Int)(gl:Nat->List Int):vs=[v,.ref gp]->Prg A H v g->lu g.E g.hs H gp gn gl->(∀b l xs H',aq H H'->I0 A H' b l xs (g.lt gn gl)->Q (.ref b) H')->y8 A vs H Q Z
theorem CU(T:Txt K mg A):Has P w K mg base 69 "run" ["program","gifts"] (y8 A):=
 (Has.ex (P:=P) (w:=w) (base:=base) (sp:=λE:En=>yO A E 20) (p:=λE=>E.Ok) ⟨nmV 0,[],λ_=>0,[],[]⟩ HI λE h=>Jy T h 20).imp λvs H Q E0 h=>by
  obtain⟨v,g,gp,gn,gl,rfl,B,G,q⟩:=h;refine⟨g.E,B.R.ok,g.p,gp,g.hv,g.xs,g.hs,gn,gl,g.rows,by rw[B.R.v],B.R.pr,B.R.hd,G,B.R.rw,B.R.wf,MR B.R.ms ∅,λb db l sd t e la H' s D _=>?_⟩;obtain⟨xs,h1,h2⟩:=D.hl;exact q b l xs H' s ⟨db,_,_,_,_,D.hb,h1,h2⟩
inductive zR(A:Adr)(vs:List V)(H:Hp)(Q:VK)(Z:XK):Prop
 |mk(v:V)(g:Bg)(b l:OM)(xs:List V)(ws:List (List V))(rank:Int):vs=[v,.ref b,.int rank]->Prg A H v g->I0 A H b l xs ws->(∀w∈ws,ph g.N w)->ws.length<=1000->(∀D ys H',aq H H'->H' D=UT (.lst ys)->iG H' ys (ws.filter (ku g.N rank))->Q (.ref D) H')->zR A vs H Q Z
theorem xG{H1 H2:Hp}{D:OM}{rank:Int}{x:V}{xs:List V}{ws:List (List V)}(d:gB N)(R:we N H1 D)(tp:iG H1 xs ws)(lo:∀w∈ws,ph N w)(hm:x∈xs)(s2:aq H1 H2):∃p a n h v,x=.ref p/\h<3/\H2 p=UT (.tup [.int a,.int n,.str (N h),.int v])/\c8 H2 D (.str (N h)) (UT (.int (h:Nat)))/\ofH H1 (ku N rank) (.ref p)=decide ((h:Int)<=rank):=by
 obtain⟨p,w,rfl,hp,hw⟩:=Ci tp hm;obtain⟨a,n,h,v,rfl,hh⟩:=lo w hw;refine⟨p,a,n,h,v,rfl,hh,s2 _ _ hp,(R.same s2).get d hh,?_⟩;show(match H1 p with|some (.tup w)=>ku N rank w|_=>false)=_;rw[hp];exact Cu d hh
theorem FK(T:Txt K mg A):Has P w K mg base 2 "seen" ["program","book","rank"] (zR A):=by
 have Oq:=@DP P w _ _ base _ T;refine T.seen.has (k:=1) zq (λvs H Q E h=>?_) (λf cdv A' outer s H vs Q E' hr hu h=>?_)
 ·obtain⟨v,g,b,l,xs,ws,rank,rfl,_⟩:=h;rfl
 obtain⟨v,g,b,l,xs,ws,rank,rfl,B,⟨db,f2,f3,f4,f5,hb,hl,tp⟩,lo,ln,q⟩:=h;refine⟨_,(ae (pst 3 zq.nd (ar Oq hr (fv 0^af)))
 (aj (aA (jd (N:=["letter","rank","ranks"]) (own:=1) (fr:=[2,3]) (cQ.of (by kernel_rfl!)) rfl (df (aI (fv 1) rfl)) (λb=>pgn (i:=0) (show PM (["letter","rank","ranks"]:List P0) by decide+kernel) rfl) (λb=>nK (ptc yq (px hu (fv 2) (px hu (fv 0) ab)) (fv 1))) (λb=>fv 0))))),?_⟩
 refine ah λM1 K1=>⟨g.N,v,g.rs,g.k,g.ds,g.ms,rfl,B.D,B.pg,B.l,B.hk,B.ro,λD H1 s1 R=>K1 _ _ ?_⟩;clear K1 M1;try dsimp only
 have lx:xs.length<=1000:=by
  have:=tp.len;omega
 have hl1:=SqL.of (K:=K) (s1 _ _ hl);have tp1:=tp.same s1;refine fdI (s1 _ _ hb) T.dZ.cl T.dA rfl (KJ ⟨⟨_,hl1⟩,hZ (K:=K) (ofH H1 (ku g.N rank)) (λx=>x) hl1 (az lx) (λb' x H2 R' hm s2 k=>?_) (λb' x H2 R' hm hp s2 k=>k _ (aq.refl _)) (λD2 H2 hD s2 e=>?_)⟩)
 ·obtain⟨p,a,n,h,v',rfl,hh,hp,hg,e⟩:=xG (rank:=rank) B.D R tp1 lo hm s2;rw[e]at k;exact tix (j:=2) (SqT.of hp) rfl ⟨_,hg,_,rfl,k _ (aq.refl _)⟩
 rw[MP]at e;exact q D2 _ H2 (s1.trans s2) e ((jn _ tp1).same s2)
def Bg.p7(g:Bg)(rank:Int)(gn:Nat->Int)(gl:Nat->List Int):List (List V):=(g.lt gn gl).filter (ku g.N rank)
inductive wQ(A:Adr)(vs:List V)(H:Hp)(Q:VK)(Z:XK):Prop
 |mk(v:V)(g:Bg)(rank:Int)(g1 g2:OM)(gn1:Nat->Int)(gl1:Nat->List Int)(gn2:Nat->Int)(gl2:Nat->List Int):vs=[v,.int rank,.ref g1,.ref g2]->Prg A H v g->lu g.E g.hs H g1 gn1 gl1->lu g.E g.hs H g2 gn2 gl2->(∀u H',aq H H'->Res H' u (g.p7 rank gn1 gl1) (g.p7 rank gn2 gl2)->Q u H')->wQ A vs H Q Z
theorem Ah(a b:Nat):(if(b:Int)>(a:Int)then(b:Int)else(a:Int))=((max a b:Nat):Int):=by
 split<;>omega
theorem D7(T:Txt K mg A):Has P w K mg base 71 "laid" ["program","rank","one","other"] (wQ A):=by
 have N3:=@CU P w _ _ base _ T;have OI:=@FK P w _ _ base _ T;have NU:=@HY P w _ _ base _ T;have Ob:=@Cn P w _ _ base _ T;refine T.laid.has (k:=70) mW (λvs H Q E h=>?_) (λf cdv A' outer s H vs Q E' hr hu h=>?_)
 ·obtain⟨v,g,rank,g1,g2,gn1,gl1,gn2,gl2,rfl,_⟩:=h;rfl
 obtain⟨v,g,rank,g1,g2,gn1,gl1,gn2,gl2,rfl,B,G1,G2,q⟩:=h;refine⟨_,(ae (pst 4 mW.nd (ar OI hr (fv 0^ar N3 hr (fv 0^fv 2^af)^fv 1^af)))
 (ae (pst 5 mW.nd (ar OI hr (fv 0^ar N3 hr (fv 0^fv 3^af)^fv 1^af)))
 (ae (dP O1 rfl (fq rfl T.fE (pcB sV T.nr (pcB bS T.cD (fv 4^af)^pcB bS T.cD (fv 5^af)^af)^af)) (pgn (i:=6) mW.nd rfl)
  (ae (pst 7 mW.nd (ar NU hr (fv 4^fv 6^af)))
  (ae (pst 8 mW.nd (ar NU hr (fv 5^fv 6^af)))
  (aj (aM (ptc (Iw hu) (ar Ob hr (fv 7^af)) (ar Ob hr (fv 8^af)))
   (aj (aA (bb (fv 6^fv 7^fv 8^af))))
   aC)))))
 (aj (aA d5))))),?_⟩
 obtain⟨o1,n1⟩:=B.lts gn1 gl1;obtain⟨o2,n2⟩:=B.lts gn2 gl2;refine ah λM1 K1=>⟨v,g,g1,gn1,gl1,rfl,B,G1,λb l xs H1 s1 bk=>⟨v,g,b,l,xs,_,rank,rfl,B.same s1,bk,o1,n1,λD1 ys1 H2 s2 e1 t1=>K1 _ _ ?_⟩⟩;clear K1 M1;have s02:=s1.trans s2;try dsimp only
 refine ah λM1 K1=>⟨v,g,g2,gn2,gl2,rfl,B.same s02,G2.same s02,λb' l' xs' H3 s3 bk'=>⟨v,g,b',l',xs',_,rank,rfl,B.same (s02.trans s3),bk',o2,n2,λD2 ys2 H4 s4 e2 t2=>?_⟩⟩;have s24:=s3.trans s4;have s04:=s02.trans s24;have e1:=s24 _ _ e1;have t1:=t1.same s24;rw[show(g.lt gn1 gl1).filter (ku g.N rank)=g.p7 rank gn1 gl1 from rfl]at t1;rw[show(g.lt gn2 gl2).filter (ku g.N rank)=g.p7 rank gn2 gl2 from rfl]at t2;have l1:∀i,LtO g.N (g.p7 rank gn1 gl1)[i]?:=λi w e=>o1 w (Lw.mp (KG e)).1;have l2:∀i,LtO g.N (g.p7 rank gn2 gl2)[i]?:=λi w e=>o2 w (Lw.mp (KG e)).1;have m1:(g.p7 rank gn1 gl1).length<=1000:=KS (LB _ _) n1;have m2:(g.p7 rank gn2 gl2).length<=1000:=KS (LB _ _) n2;generalize g.p7 rank gn1 gl1=wa at q t1 l1 m1;generalize g.p7 rank gn2 gl2=wb at q t2 l2 m2;clear bk bk' s1 s2 s3 s4 s02 s24 G1 G2;have k1:ys1.length=wa.length:=t1.len;have k2:ys2.length=wb.length:=t2.len;refine K1 _ _ ?_;clear K1 M1;try dsimp only
 refine ah λM1 K1=>lnl e1 (lnl e2 ⟨_,_,rfl,?_⟩);rw[Ah,k1,k2];refine⟨_,rfl,(),(),?_⟩;rw[LA];refine ik (lo:=0) (λi σ Hc=>∃(v6 v7 v8:Option V),σ=[UT v,UT (.int rank),UT (.ref g1),UT (.ref g2),UT (.ref D1),UT (.ref D2),v6,v7,v8]/\aq H4 Hc/\∀j,j<i->dif wa wb j=false) ⟨UU,UU,UU,rfl,aq.refl _,λj hj=>()⟩ ?_ ?_
 ·rintro i σ Hc hi ⟨v6,v7,v8,rfl,sc,no⟩;try dsimp only
  rw[show(0:Int)+(i:Int)=(i:Int) by omega];refine ah λM2 K2=>⟨D1,ys1,wa,i,rfl,sc _ _ e1,t1.same sc,λx hx=>K2 _ _ ?_⟩;clear K2 M2;try dsimp only
  refine ah λM2 K2=>⟨D2,ys2,wb,i,rfl,sc _ _ e2,t2.same sc,λy hy=>K2 _ _ ?_⟩;clear K2 M2;try dsimp only
  refine⟨g.N,x,_,rfl,hx,l1 i,λx' H5 s5 hx'=>⟨g.N,y,_,rfl,hy.same s5,l2 i,λy' H6 s6 hy'=>?_⟩⟩;have sh1:=uR B.ok (l1 i);have sh2:=uR B.ok (l2 i);refine⟨_,_,Br (l1 i) (hx'.same s6),Br (l2 i) hy',E6 sh1.2.2.1 sh1.2.2.2,E6 sh2.2.2.1 sh2.2.2.2,_,rfl,?_⟩;rw[Gy (l1 i) (l2 i)];have s56:=s5.trans s6;refine aE (λz=>?_) (λz=>?_)
  ·have fa:=Fc hi z no;refine⟨by show 3<=sizeLine;decide,λt ht=>q _ _ (((s04.trans sc).trans s56).trans (aq.upd ht _)) ?_⟩;unfold Res;rw[fa];exact⟨t,x,y,rfl,ak,hx.same (s56.trans (aq.upd ht _)),hy.same (s56.trans (aq.upd ht _))⟩
  refine⟨_,_,_,rfl,sc.trans s56,λj hj=>?_⟩;by_cases c:j=i
  ·rw[c];exact Mt.mpr z
  exact no j ()
 rintro σ Hc ⟨v6,v7,v8,rfl,sc,no⟩;refine K1 _ _ (q _ _ (s04.trans sc) ?_);unfold Res;rw[Fl no]
def Bx(c:Int):Int:=if c%4<2 then c/4%4 else if c%4=2 then 1000000000000-1-c/4%3 else c/4%1000000000000
theorem vj(c:Int):In (Bx c):=by
 have m4:=cC (c/4) (show(0:Int)<4 by decide);have m3:=cC (c/4) (show(0:Int)<3 by decide);have mm:=cC (c/4) (show(0:Int)<1000000000000 by decide);unfold Bx In;split
 ·omega
 split<;>omega
inductive ze(vs:List V)(H:Hp)(Q:VK)(Z:XK):Prop
 |mk(c:Int):vs=[.int c]->Q (.int (Bx c)) H->ze vs H Q Z
theorem F7(T:Txt K mg A):Has P w K mg base 1 "_law_number" ["_law_cell"] ze:=by
 refine T.nZ.has nB (λvs H Q E h=>?_) (λf cdv A' outer s H vs Q E hr hu h=>?_)
 ·obtain⟨c,rfl,_⟩:=h;rfl
 obtain⟨c,rfl,q⟩:=h;refine⟨_,(ae (aM (ptc qJ (ax cx (fv 0) ab) ab)
  (aj (aA (ax cx (ax c9 (fv 0) ab) ab)))
  aC)
 (ae (aM (ptc (bj hu) (ax cx (fv 0) ab) ab)
  (aj (aA (ax kY (ax kY (ax pE ab ab) ab) (ax cx (ax c9 (fv 0) ab) ab))))
  aC)
 (aj (aA (ax cx (ax c9 (fv 0) ab) (ax pE ab ab)))))),?_⟩
 unfold Bx at q;refine⟨(by show(0:Int)<4;decide),_,rfl,aE (λz=>?_) (λz=>?_)⟩
 ·rw[if_pos (of_decide_eq_true z)]at q;exact⟨⟨∅,∅⟩,(by show(0:Int)<4;decide),q⟩
 rw[if_neg (λy=>z (decide_eq_true y))]at q;refine⟨(by show(0:Int)<4;decide),rfl,_,rfl,aE (λz=>?_) (λz=>?_)⟩
 ·rw[if_pos (V.int.inj (of_decide_eq_true z))]at q;exact⟨⟨∅,∅,∅⟩,⟨∅,∅⟩,(by show(0:Int)<3;decide),by rw[Ag];exact q⟩
 rw[if_neg (λy=>z (decide_eq_true (congrArg V.int y)))]at q;exact⟨⟨∅,∅⟩,⟨∅,∅,∅⟩,(by show(0:Int)<10^(12:Int).toNat;decide),by rw[Ag];exact q⟩
def G0(c:Int)(k j:Nat):Int:=if c/10^(18:Int).toNat=0 then c%10^(15:Int).toNat*((k:Int)+3)/((j:Int)+2)else c/2^(44*(4*(k:Int)+(j:Int))+1).toNat
def uA(c:Int)(k j:Nat):Int:=Bx (G0 c k j)
def gls(c:Int)(k z:Nat):List Int:=(O2 z).map (uA c k)
theorem Dq{c n:Int}{k z:Nat}(h:n∈gls c k z):In n:=by
 obtain⟨j,_,rfl⟩:=KU.mp h;exact vj _
def Kh(H:Hp)(v:V)(c:Int)(k z:Nat):Prop:=(z=0->v=.int (uA c k 0))/\(0<z->∃a,v=.ref a/\H a=UT (.lst ((gls c k z).map V.int))/\(gls c k z).length=z)
inductive zP(vs:List V)(H:Hp)(Q:VK)(Z:XK):Prop
 |mk(c:Int)(k z:Nat):vs=[.int c,.int k,.int z]->k<=500->z<=4->(∀v H',aq H H'->Kh H' v c k z->Q v H')->zP vs H Q Z
theorem HQ(T:Txt K mg A):Has P w K mg base 2 "_law_gift" ["_law_cell","_law_k","_law_size"] zP:=by
 have NL:=@F7 P w _ _ base _ T;refine T.xA.has (k:=1) jc (λvs H Q E h=>?_) (λf cdv A' outer s H vs Q E hr hu h=>?_)
 ·obtain⟨c,k,z,rfl,_⟩:=h;rfl
 obtain⟨c,k,z,rfl,hk,hz,q⟩:=h;refine⟨_,(ae (pst 3 jc.nd (bR af))
 (ae (dP O1 rfl (fq rfl T.fE (pcB sV T.nr (ab^fv 2^af)^af)) (pgn (i:=4) jc.nd rfl)
  (ae (pst 5 jc.nd (pcT oe T.mH (pec (yy hu) (ax c9 (fv 0) (ax pE ab ab)) ab^af)))
  (aj (aK (cI (fv 3) (ar NL hr (px hu (bR (ax c9 (ax cS (ax cx (fv 0) (ax pE ab ab)) (ax bz (fv 1) ab)) (ax bz (fv 4) ab)^ax Cp (fv 0) (ax bz (ax cS ab (ax bz (ax cS ab (fv 1)) (fv 4))) ab)^af)) (fv 5)^af)^af))))))
 (ae (aM (ptc (bj hu) (fv 2) ab)
  (aj (aA (px hu (fv 3) ab)))
  aC)
 (aj (aA (fv 3)))))),?_⟩
 refine ah λM1 K1=>⟨KY _,λL hL=>?_⟩;obtain⟨s1,e1⟩:=alc hL (HO.lst []);generalize upd H L _=H1 at s1 e1⊢;refine K1 _ _ ?_;clear K1 M1;try dsimp only
 refine ah λM1 K1=>⟨_,_,rfl,?_⟩;rw[show(if(z:Int)>1 then(z:Int)else 1)=((max 1 z:Nat):Int) by split<;>omega];refine⟨_,rfl,(),(),?_⟩;rw[LA];refine ik (lo:=0) (λi σ Hc=>∃(v4 v5:Option V),σ=[UT (.int c),UT (.int k),UT (.int z),UT (.ref L),v4,v5]/\aq H Hc/\Hc L=UT (.lst ((gls c k i).map V.int))) ⟨UU,UU,rfl,s1,e1⟩ ?_ ?_
 ·rintro i σ Hc hi ⟨v4,v5,rfl,sc,hLc⟩;try dsimp only
  rw[show(0:Int)+(i:Int)=(i:Int) by omega];refine ah λM2 K2=>⟨⟨∅,∅,∅⟩,⟨∅,∅⟩,rfl,_,rfl,K2 _ _ ?_⟩;clear K2 M2;try dsimp only
  refine⟨KJ ⟨rfl,_,SqL.of hLc⟩,⟨∅,∅,∅⟩,(by show(0:Int)<10^(15:Int).toNat;decide),.inr ⟨(),()⟩,⟨(),()⟩,.inl ⟨∅,∅⟩,.inl ⟨∅,∅⟩,(by show(0:Int)<=44*(4*(k:Int)+(i:Int))+1;omega),⟨by show 2<=sizeLine;decide,λl hl=>?_⟩⟩;obtain⟨s3,e3⟩:=alc hl (HO.lst [V.int (c%10^(15:Int).toNat*((k:Int)+3)/((i:Int)+2)),V.int (c/2^(44*(4*(k:Int)+(i:Int))+1).toNat)]);have lL:l≠L:=UW hl hLc;have ll:(gls c k i).length<=1000:=by
   unfold gls;rw[Ky,Ms];omega
  have eg:gls c k (i+1)=gls c k i++[uA c k i]:=by
   unfold gls;rw[MM,La];rfl
  refine KJ ?_;by_cases c0:c/10^(18:Int).toNat=0
  ·rw[show decide (V.int (c/10^(18:Int).toNat)=V.int 0)=true from decide_eq_true (by rw[c0])];refine⟨_,_,KJ (SqL.of e3),rfl,_,rfl,⟨_,_,_,rfl,rfl,ag lL.symm hLc,az (by rw[Ky];exact ll),⟨_,_,rfl,aq.out (sc.trans s3) hL _,?_⟩⟩⟩;rw[ak,eg,La];unfold uA G0;rw[if_pos c0];rfl
  rw[show decide (V.int (c/10^(18:Int).toNat)=V.int 0)=false from decide_eq_false (λy=>c0 (V.int.inj y))];refine⟨_,_,KJ (SqL.of e3),rfl,_,rfl,⟨_,_,_,rfl,rfl,ag lL.symm hLc,az (by rw[Ky];exact ll),⟨_,_,rfl,aq.out (sc.trans s3) hL _,?_⟩⟩⟩;rw[ak,eg,La];unfold uA G0;rw[if_neg c0];rfl
 rintro σ Hc ⟨v4,v5,rfl,sc,hLc⟩;refine K1 _ _ ?_;clear K1 M1;try dsimp only
 refine ah λM1 K1=>⟨rfl,_,rfl,aE (λy=>?_) (λy=>K1 _ _ ?_)⟩
 ·have y:(z:Int)=0:=V.int.inj (of_decide_eq_true y);have y:z=0:=()
  subst y;exact lix (SqL.of hLc) rfl (q _ _ sc ⟨λ_=>rfl,λe=>absurd e ∅⟩)
 have y:z≠0:=λe=>y (decide_eq_true (by rw[e];rfl));rw[show max 1 z=z by omega]at hLc;exact q _ Hc sc ⟨λe=>absurd e y,λ_=>⟨L,rfl,hLc,by unfold gls;rw[Ky,Ms]⟩⟩
structure GS where
 ix:List Nat
 n1:Nat->Int
 l1:Nat->List Int
 n2:Nat->Int
 l2:Nat->List Int
def qd(f:Nat->List Int)(i:Nat)(v:List Int):Nat->List Int:=λj=>if j=i then v else f j
def zh(c m hi:Int)(k:Nat)(s:GS):Lr->GS
 | .giv x r y=>⟨ins s.ix x,jb s.n1 x (uA c k 0),qd s.l1 x (gls c k y.toNat),jb s.n2 x (uA (if hi<r then m else c) k 0),qd s.l2 x (gls (if hi<r then m else c) k y.toNat)⟩
 |_=>s
def eU(c m hi:Int)(lrs:List Lr):Nat->GS
 |0=>⟨[],λ_=>0,λ_=>[],λ_=>0,λ_=>[]⟩
 |i+1=>match lrs[i]? with
  |some r=>zh c m hi i (eU c m hi lrs i) r
  |none=>eU c m hi lrs i
structure GIn(s:GS):Prop where
 n1:∀i,In (s.n1 i)
 n2:∀i,In (s.n2 i)
 l1:∀i,∀n∈s.l1 i,In n
 l2:∀i,∀n∈s.l2 i,In n
theorem Al{f:Nat->Int}(h:∀i,In (f i))(x:Nat){v:Int}(hv:In v):∀i,In (jb f x v i):=λi=>by
 unfold jb;split
 ·exact hv
 exact h i
theorem zN{f:Nat->List Int}(h:∀i,∀n∈f i,In n)(x:Nat){v:List Int}(hv:∀n∈v,In n):∀i,∀n∈qd f x v i,In n:=λi=>by
 unfold qd;split
 ·exact hv
 exact h i
theorem zc(c m hi:Int)(lrs:List Lr):∀i,GIn (eU c m hi lrs i)
 |0=>⟨λ_=>⟨(show(0:Int)<=0 by decide),(show(0:Int)<1000000000000 by decide)⟩,λ_=>⟨(show(0:Int)<=0 by decide),(show(0:Int)<1000000000000 by decide)⟩,λ_ n h=>(by cases h),λ_ n h=>(by cases h)⟩
 |i+1=>by
  have h:=zc c m hi lrs i;unfold eU;split
  ·rename_i r _;cases r with
   |giv x r y=>exact⟨Al h.n1 x (vj _),Al h.n2 x (vj _),zN h.l1 x (λn hn=>Dq hn),zN h.l2 x (λn hn=>Dq hn)⟩
   |_=>exact h
  exact h
theorem xx{c m hi:Int}{lrs:List Lr}{x:Nat}{r y:Int}:∀{i j:Nat},j<i->lrs[j]?=UT (.giv x r y)->x∈(eU c m hi lrs i).ix
 |i+1,j,h,e=>by
  by_cases c':j=i
  ·subst c';unfold eU;rw[e];exact rg _ _
  have:=xx (c:=c) (m:=m) (hi:=hi) (i:=i) () e;unfold eU;split
  ·rename_i r' _;cases r' with
   |giv x' r y=>exact mP this
   |_=>exact this
  exact this
def GAt(N:Nat->Str)(z:Int)(H:Hp)(g:OM)(ix:List Nat)(n:Nat->Int)(l:Nat->List Int):Prop:=∃f:Nat->V,H g=UT (.dK (dk N ix f))/\(∀j∈ix,j<25)/\∀x∈ix,(szF z x=0->f x=.int (n x))/\(0<szF z x->∃a,f x=.ref a/\H a=UT (.lst ((l x).map V.int))/\(l x).length=szF z x)
theorem GAt.same{z:Int}{H H':Hp}{g:OM}{ix:List Nat}{n:Nat->Int}{l:Nat->List Int}(s:aq H H')(h:GAt N z H g ix n l):GAt N z H' g ix n l:=by
 obtain⟨f,h1,h2,h3⟩:=h;refine⟨f,s _ _ h1,h2,λx hx=>⟨(h3 x hx).1,λh=>?_⟩⟩;obtain⟨a,e1,e2,e3⟩:=(h3 x hx).2 h;exact⟨a,e1,s _ _ e2,e3⟩
theorem GAt.but{z:Int}{H:Hp}{g g':OM}{ix:List Nat}{n:Nat->Int}{l:Nat->List Int}{o:HO}{kvs:List (Key×V)}(h:GAt N z H g ix n l)(ne:g≠g')(e:H g'=UT (.dK kvs)):GAt N z (upd H g' o) g ix n l:=by
 obtain⟨f,h1,h2,h3⟩:=h;refine⟨f,ag ne h1,h2,λx hx=>⟨(h3 x hx).1,λh=>?_⟩⟩;obtain⟨a,e1,e2,e3⟩:=(h3 x hx).2 h;exact⟨a,e1,ag (λz=>by rw[z,e]at e2;cases e2) e2,e3⟩
theorem GAt.put{z:Int}{H:Hp}{g:OM}{ix:List Nat}{n:Nat->Int}{l:Nat->List Int}{x:Nat}{f:Nat->V}{v:V}{m:Int}{k:List Int}(d:gB N)(hx:x<25)(h1:H g=UT (.dK (dk N ix f)))(h2:∀j∈ix,j<25)(h3:∀x∈ix,(szF z x=0->f x=.int (n x))/\(0<szF z x->∃a,f x=.ref a/\H a=UT (.lst ((l x).map V.int))/\(l x).length=szF z x))(v0:szF z x=0->v=.int m)(v1:0<szF z x->∃a,v=.ref a/\H a=UT (.lst (k.map V.int))/\k.length=szF z x):GAt N z (upd H g (.dK (UZ (dk N ix f) (.inr (N x)) v))) g (ins ix x) (jb n x m) (qd l x k):=by
 refine⟨mZ f x v,by rw[ak,vz d hx h2],Bw h2 hx,λy hy=>?_⟩;have kp:∀{a:OM}{xs:List V},H a=UT (.lst xs)->upd H g (.dK (UZ (dk N ix f) (.inr (N x)) v)) a=UT (.lst xs):=λe=>ag (λz=>by rw[z,h1]at e;cases e) e;unfold mZ jb qd;by_cases c:y=x
 ·rw[if_pos c,if_pos c,if_pos c,c];refine⟨v0,λh=>?_⟩;obtain⟨a,e1,e2,e3⟩:=v1 h;exact⟨a,e1,kp e2,e3⟩
 rw[if_neg c,if_neg c,if_neg c];have hy:=h3 y ((ux hy).resolve_left c);refine⟨hy.1,λh=>?_⟩;obtain⟨a,e1,e2,e3⟩:=hy.2 h;exact⟨a,e1,kp e2,e3⟩
theorem EN(ix:List Nat)(x:Nat):ins (ins ix x) x=ins ix x:=if_pos (rg ix x)
theorem Ir(f:Nat->Int)(x:Nat)(a b:Int):jb (jb f x a) x b=jb f x b:=funext λj=>by
 unfold jb;split<;>rfl
theorem IW(f:Nat->List Int)(x:Nat)(a b:List Int):qd (qd f x a) x b=qd f x b:=funext λj=>by
 unfold qd;split<;>rfl
theorem JB{r:Lr}(h:r.w="given"):∃i m z,r=.giv i m z:=by
 cases r with
 |giv i m z=>exact⟨i,m,z,rfl⟩
 |hand _ _=>exact absurd h (show ¬ ("hand":Str)="given" by decide)
 |own _ _=>exact absurd h (show ¬ ("own":Str)="given" by decide)
 |lt _ _=>exact absurd h (show ¬ ("let":Str)="given" by decide)
 |set _ _=>exact absurd h (show ¬ ("set":Str)="given" by decide)
 |put _ _ _=>exact absurd h (show ¬ ("put":Str)="given" by decide)
 |snd _ _=>exact absurd h (show ¬ ("send":Str)="given" by decide)
 |say _ _ _=>exact absurd h (show ¬ ("say":Str)="given" by decide)
 |call _ _=>exact absurd h (show ¬ ("call":Str)="given" by decide)
 |last=>exact absurd h (show ¬ ("last":Str)="given" by decide)
 |iff _ _ _=>exact absurd h (show ¬ ("if":Str)="given" by decide)
 |loop _ _ _ _=>exact absurd h (show ¬ ("loop":Str)="given" by decide)
 |els=>exact absurd h (show ¬ ("else":Str)="given" by decide)
 |fin=>exact absurd h (show ¬ ("end":Str)="given" by decide)
 |fU _ _=>exact absurd h (show ¬ ("deed":Str)="given" by decide)
 |main=>exact absurd h (show ¬ ("main":Str)="given" by decide)
def Jj(z:Int)(lrs:List Lr):Prop:=∀i r y,Lr.giv i r y∈lrs->i<25/\y=(szF z i:Int)
inductive xD(K:OQ)(vs:List V)(H:Hp)(Q:VK)(Z:XK):Prop
 |mk(N:Nat->Str)(z:Int)(LR:OM)(rows:List V)(lrs:List Lr)(c m hi:Int):vs=[.ref LR,.int c,.int m,.int hi]->gB N->z<=4->H LR=UT (.lst rows)->Paired (bZ N H) rows lrs->lrs.length<=500->Jj z lrs->(∀(g1 g2 t:OM)(H':Hp),aq H H'->H' t=UT (.tup [.ref g1,.ref g2])->GAt N z H' g1 (eU c m hi lrs lrs.length).ix (eU c m hi lrs lrs.length).n1 (eU c m hi lrs lrs.length).l1->GAt N z H' g2 (eU c m hi lrs lrs.length).ix (eU c m hi lrs lrs.length).n2 (eU c m hi lrs lrs.length).l2->Q (.ref t) H')->xD K vs H Q Z
theorem Eo(T:Txt K mg A):Has P w K mg base 3 "_law_gifts" ["_law_rows","_law_cell","_law_more","_law_rank"] (xD K):=by
 have NQ:=@HQ P w _ _ base _ T;refine T.sU.has (k:=2) hE (λvs H Q E h=>?_) (λf cdv A' outer s H vs Q E hr hu h=>?_)
 ·obtain⟨N,z,LR,rows,lrs,c,m,hi,rfl,_⟩:=h;rfl
 obtain⟨N,z,LR,rows,lrs,c,m,hi,rfl,d,hz,hLR,pr,ln,go,q⟩:=h;have lr:rows.length=lrs.length:=OU pr;have s4:∀x,szF z x<=4:=λx=>by
  unfold szF;split<;>omega
 refine⟨_,(ae (pst 4 hE.nd (fC))
 (ae (pst 5 hE.nd (fC))
 (ae (dP O1 rfl (fq rfl T.fE (pcB bS T.cD (fv 0^af)^af)) (pgn (i:=6) hE.nd rfl)
  (aj (aM (ptc (bj hu) (px hu (px hu (fv 0) (fv 6)) ab) ao)
   (ae (bu (ar NQ hr (fv 1^fv 6^px hu (px hu (fv 0) (fv 6)) ab^af)) (bC (fv 4) (px hu (px hu (fv 0) (fv 6)) ab) (bD hu UX)))
   (ae (bu (ar NQ hr (fv 1^fv 6^px hu (px hu (fv 0) (fv 6)) ab^af)) (bC (fv 5) (px hu (px hu (fv 0) (fv 6)) ab) (bD hu UX)))
   (aj (aM (ptc rR (px hu (px hu (fv 0) (fv 6)) ab) (fv 3))
    (aj (bu (ar NQ hr (fv 2^fv 6^px hu (px hu (fv 0) (fv 6)) ab^af)) (bC (fv 5) (px hu (px hu (fv 0) (fv 6)) ab) (bD hu UX))))
    aC))))
   aC)))
 (aj (aA (bb (fv 4^fv 5^af))))))),?_⟩
 refine ah λM1 K1 g1 hg1=>?_;obtain⟨s1,e1⟩:=alc hg1 (HO.dK []);generalize upd H g1 _=H1 at s1 e1⊢;refine K1 _ _ ?_;clear K1 M1;try dsimp only
 refine ah λM1 K1 g2 hg2=>?_;have n12:g2≠g1:=UW hg2 e1;have hg2':=aq.free s1 hg2;obtain⟨s2,e2⟩:=alc hg2 (HO.dK []);generalize upd H1 g2 _=H2 at s2 e2⊢;have e1:=s2 _ _ e1;have s02:=s1.trans s2;clear s1 s2 hg2;refine K1 _ _ ?_;clear K1 M1;try dsimp only
 refine ah λM1 K1=>lnl (s02 _ _ hLR) ⟨_,rfl,(),(),?_⟩;rw[LA];refine ik (lo:=0) (λi σ Hc=>∃(v6:Option V),σ=[UT (.ref LR),UT (.int c),UT (.int m),UT (.int hi),UT (.ref g1),UT (.ref g2),v6]/\aq H Hc/\GAt N z Hc g1 (eU c m hi lrs i).ix (eU c m hi lrs i).n1 (eU c m hi lrs i).l1/\GAt N z Hc g2 (eU c m hi lrs i).ix (eU c m hi lrs i).n2 (eU c m hi lrs i).l2/\(eU c m hi lrs i).ix.length<=i) ⟨UU,rfl,s02,⟨λ_=>.non,e1,λj h=>(by cases h),λj h=>(by cases h)⟩,⟨λ_=>.non,e2,λj h=>(by cases h),λj h=>(by cases h)⟩,KI _⟩ ?_ ?_
 ·rintro i σ Hc hi' ⟨v6,rfl,sc,G1,G2,gl⟩;try dsimp only
  rw[show(0:Int)+(i:Int)=(i:Int) by omega];have il:i<lrs.length:=()
  obtain⟨v,hv⟩:∃v,rows[i]?=UT v:=⟨_,Kw hi'⟩;obtain⟨r,hr',t,p,rfl,et,_⟩:=bw pr hv;have at_:∀{X:Hp},aq H X->SqL K X LR rows:=λz=>SqL.of (z _ _ hLR);have ai:atI rows (i:Int)=UT (.ref t):=d6 hv;have ga:eU c m hi lrs (i+1)=zh c m hi i (eU c m hi lrs i) r:=by
   show(match lrs[i]? with|some r=>zh c m hi i (eU c m hi lrs i) r|none=>eU c m hi lrs i)=_;rw[hr']
  refine lix (at_ sc) ai (tix (j:=0) (SqT.of (sc _ _ et)) rfl ⟨rfl,_,rfl,aE (λy=>?_) (λy=>?_)⟩)
  ·obtain⟨x,rk,yz,rfl⟩:=JB (aP y);obtain⟨x25,rfl⟩:=go x rk yz (KG hr');have et:H t=UT (.tup [.str "given",.str (N x),.int rk,.int (szF z x:Int)]):=et;rw[ga];generalize eU c m hi lrs i=g at G1 G2 gl;have dl:∀{f:Nat->V},(dk N g.ix f).length<=1000:=λ{f}=>by
    unfold dk;rw[Ky];omega
   refine ah λM2 K2=>lix (at_ sc) ai (tix (j:=3) (SqT.of (sc _ _ et)) rfl ⟨c,i,szF z x,rfl,(),s4 x,λw1 Ha sa ⟨w10,w11⟩=>?_⟩);have sca:=sc.trans sa;obtain⟨f1,a1,a2,a3⟩:=G1.same sa;have G2a:=G2.same sa;refine lix (at_ sca) ai (tix (j:=1) (SqT.of (sca _ _ et)) rfl ⟨_,cP.k (k:=.inr (N x)) a1 (az dl),?_⟩);have G1b:=GAt.put d x25 a1 a2 a3 w10 w11;have G2b:=G2a.but (o:=.dK (UZ (dk N g.ix f1) (.inr (N x)) w1)) n12 a1;have scb:aq H (upd Ha g1 (.dK (UZ (dk N g.ix f1) (.inr (N x)) w1))):=aq.out sca hg1 _;generalize upd Ha g1 (.dK (UZ (dk N g.ix f1) (.inr (N x)) w1))=Hb at G1b G2b scb⊢;clear G2a a1 a3 w10 w11;refine K2 _ _ ?_;clear K2 M2;try dsimp only
   refine ah λM2 K2=>lix (at_ scb) ai (tix (j:=3) (SqT.of (scb _ _ et)) rfl ⟨c,i,szF z x,rfl,(),s4 x,λw2 Hd sd ⟨w20,w21⟩=>?_⟩);have scd:=scb.trans sd;obtain⟨f2,b1,b2,b3⟩:=G2b.same sd;have G1d:=G1b.same sd;refine lix (at_ scd) ai (tix (j:=1) (SqT.of (scd _ _ et)) rfl ⟨_,cP.k (k:=.inr (N x)) b1 (az dl),?_⟩);have G2e:=GAt.put d x25 b1 b2 b3 w20 w21;have G1e:=G1d.but (o:=.dK (UZ (dk N g.ix f2) (.inr (N x)) w2)) n12.symm b1;have sce:aq H (upd Hd g2 (.dK (UZ (dk N g.ix f2) (.inr (N x)) w2))):=aq.out scd hg2' _;generalize upd Hd g2 (.dK (UZ (dk N g.ix f2) (.inr (N x)) w2))=He at G1e G2e sce⊢;refine K2 _ _ ?_;clear K2 M2;try dsimp only
   refine lix (at_ sce) ai (tix (j:=2) (SqT.of (sce _ _ et)) rfl ⟨_,rfl,aE (λy=>?_) (λy=>?_)⟩)
   ·have y:rk>hi:=of_decide_eq_true y;refine lix (at_ sce) ai (tix (j:=3) (SqT.of (sce _ _ et)) rfl ⟨m,i,szF z x,rfl,(),s4 x,λw3 Hf sf ⟨w30,w31⟩=>?_⟩);have scf:=sce.trans sf;obtain⟨f4,k1,k2,k3⟩:=G2e.same sf;have G1f:=G1e.same sf;have dl':(dk N (ins g.ix x) f4).length<=1000:=by
     unfold dk;rw[Ky];have:=kJ g.ix x;omega
    refine lix (at_ scf) ai (tix (j:=1) (SqT.of (scf _ _ et)) rfl ⟨_,cP.k (k:=.inr (N x)) k1 (az dl'),?_⟩);have G2g:=GAt.put d x25 k1 k2 k3 w30 w31;have G1g:=G1f.but (o:=.dK (UZ (dk N (ins g.ix x) f4) (.inr (N x)) w3)) n12.symm k1;rw[EN,Ir,IW]at G2g;refine⟨_,rfl,aq.out scf hg2' _,G1g,?_,KS (kJ _ _) (MH gl)⟩;show GAt N z _ g2 (ins g.ix x) (jb g.n2 x (uA (if hi<rk then m else c) i 0)) (qd g.l2 x (gls (if hi<rk then m else c) i _));rw[if_pos y,LA];exact G2g
   have y:¬ hi<rk:=λh=>y (decide_eq_true h);refine⟨_,rfl,sce,G1e,?_,KS (kJ _ _) (MH gl)⟩;show GAt N z _ g2 (ins g.ix x) (jb g.n2 x (uA (if hi<rk then m else c) i 0)) (qd g.l2 x (gls (if hi<rk then m else c) i _));rw[if_neg y,LA];exact G2e
  have same:zh c m hi i (eU c m hi lrs i) r=eU c m hi lrs i:=by
   cases r with
   |giv i m z=>exact absurd (decide_eq_true rfl) y
   |_=>rfl
  rw[ga,same];exact⟨_,rfl,sc,G1,G2,Ld gl⟩
 rintro σ Hc ⟨v6,rfl,sc,G1,G2,gl⟩;refine K1 _ _ ?_;rw[lr]at G1 G2;exact⟨by show 2<=sizeLine;decide,λt ht=>q g1 g2 t _ (sc.trans (aq.upd ht _)) ak (G1.same (aq.upd ht _)) (G2.same (aq.upd ht _))⟩
theorem FQ{r:Lr}(h:r.w="hand"):∃i m,r=.hand i m:=by
 cases r with
 |hand i m=>exact⟨i,m,rfl⟩
 |giv _ _ _=>exact absurd h (show ¬ ("given":Str)="hand" by decide)
 |own _ _=>exact absurd h (show ¬ ("own":Str)="hand" by decide)
 |lt _ _=>exact absurd h (show ¬ ("let":Str)="hand" by decide)
 |set _ _=>exact absurd h (show ¬ ("set":Str)="hand" by decide)
 |put _ _ _=>exact absurd h (show ¬ ("put":Str)="hand" by decide)
 |snd _ _=>exact absurd h (show ¬ ("send":Str)="hand" by decide)
 |say _ _ _=>exact absurd h (show ¬ ("say":Str)="hand" by decide)
 |call _ _=>exact absurd h (show ¬ ("call":Str)="hand" by decide)
 |last=>exact absurd h (show ¬ ("last":Str)="hand" by decide)
 |iff _ _ _=>exact absurd h (show ¬ ("if":Str)="hand" by decide)
 |loop _ _ _ _=>exact absurd h (show ¬ ("loop":Str)="hand" by decide)
 |els=>exact absurd h (show ¬ ("else":Str)="hand" by decide)
 |fin=>exact absurd h (show ¬ ("end":Str)="hand" by decide)
 |fU _ _=>exact absurd h (show ¬ ("deed":Str)="hand" by decide)
 |main=>exact absurd h (show ¬ ("main":Str)="hand" by decide)
inductive xC(K:OQ)(vs:List V)(H:Hp)(Q:VK)(Z:XK):Prop
 |mk(N:Nat->Str)(LR:OM)(rows:List V)(lrs:List Lr)(l:OM)(xs:List V)(ws:List (List V))(rank:Int):vs=[.ref LR,.ref l,.int rank]->gB N->H LR=UT (.lst rows)->Paired (bZ N H) rows lrs->lrs.length<=500->Cw lrs->H l=UT (.lst xs)->iG H xs ws->(∀w∈ws,ph N w)->ws.length<=1000->(∀D ys H',aq H H'->H' D=UT (.lst ys)->iG H' ys (ws.filter (ku N rank))->Q (.ref D) H')->xC K vs H Q Z
theorem Ek(T:Txt K mg A):Has P w K mg base 1 "_law_heard_by" ["_law_rows","_law_letters","_law_rank"] (xC K):=by
 refine T.oP.has gU (λvs H Q E h=>?_) (λf cdv A' outer s H vs Q E' hr hu h=>?_)
 ·obtain⟨N,LR,rows,lrs,l,xs,ws,rank,rfl,_⟩:=h;rfl
 obtain⟨N,LR,rows,lrs,l,xs,ws,rank,rfl,dN,hLR,pr,ln,ro,hl,tp,lo,lw,q⟩:=h;have lr:rows.length=lrs.length:=OU pr;refine⟨_,(ae (pst 3 gU.nd (fC))
 (ae (dP O1 rfl (df (fv 0)) (pgn (i:=4) gU.nd rfl)
  (aj (aM (ptc (bj hu) (px hu (fv 4) ab) ao)
   (aj (bu (px hu (fv 4) ab) (bC (fv 3) (px hu (fv 4) ab) (bD hu UX))))
   aC)))
 (aj (aA (jd (N:=["_law_letter_here","_law_rank","_law_ranks"]) (own:=1) (fr:=[2,3]) (cQ.of (by kernel_rfl!)) rfl (df (fv 1)) (λb=>pgn (i:=0) (show PM (["_law_letter_here","_law_rank","_law_ranks"]:List P0) by decide+kernel) rfl) (λb=>nK (ptc yq (px hu (fv 2) (px hu (fv 0) ab)) (fv 1))) (λb=>fv 0)))))),?_⟩
 refine ah λM1 K1 D hD=>?_;obtain⟨s1,eD⟩:=alc hD (HO.dK []);generalize upd H D _=H1 at s1 eD⊢;refine K1 _ _ ?_;clear K1 M1;try dsimp only
 refine ah λM1 K1=>KJ ⟨⟨_,SqL.of (s1 _ _ hLR)⟩,eF (K:=K) (xs:=rows) (λi σ Hc=>∃(v4:Option V)(ix:List Nat)(f:Nat->V),σ=[UT (.ref LR),UT (.ref l),UT (.int rank),UT (.ref D),v4]/\aq H Hc/\RkM N Hc D lrs i ix f) ⟨UU,[],λ_=>.non,rfl,s1,⟨eD,λj hj=>(by cases hj),λh _ hh=>(by cases hh),KI _,λh m hm=>(by rw[ME]at hm;cases hm)⟩⟩ (λi σ Hc _ ⟨_,_,_,_,z,_⟩=>SqL.of (z _ _ hLR)) ?_ ?_⟩
 ·rintro i v σ Hc hv ⟨v4,ix,f,rfl,sc,R⟩;obtain⟨r,hr',t,p,rfl,et,_⟩:=bw pr hv;have il:i<lrs.length:=(KH.mp hr').1;have kl:(dk N ix f).length<=1000:=by
   have:=R.l;unfold dk;rw[Ky];omega
  have et':=SqT.of (K:=K) (sc _ _ et);try dsimp only
  refine tix (j:=0) et' rfl ⟨rfl,_,rfl,aE (λy=>?_) (λy=>?_)⟩
  ·obtain⟨j,m,rfl⟩:=FQ (aP y);obtain⟨j3,rfl⟩:=ro.h _ _ (KG hr');exact tix (j:=2) et' rfl (tix (j:=1) et' rfl ⟨_,cP.k (k:=.inr (N j)) R.d (az kl),_,_,_,rfl,aq.out sc hD _,R.put dN hr' () (λ_=>rfl) (λh m e=>by cases e;rfl) ak⟩)
  exact⟨_,_,_,rfl,sc,R.skip (aq.refl _) hr' (λh m e=>y (decide_eq_true (by rw[e];rfl)))⟩
 rintro σ Hc ⟨v4,ix,f,rfl,sc,R⟩;rw[lr]at R;have R:=R.done ro;refine K1 _ _ ?_;clear K1 M1;try dsimp only
 have lx:xs.length<=1000:=by
  have:=tp.len;omega
 have hl1:=SqL.of (K:=K) (sc _ _ hl);have tp1:=tp.same sc;refine KJ ⟨⟨_,hl1⟩,hZ (K:=K) (ofH Hc (ku N rank)) (λx=>x) hl1 (az lx) (λb' x H2 R' hm s2 k=>?_) (λb' x H2 R' hm hp s2 k=>k _ (aq.refl _)) (λD2 H2 hD s2 e=>?_)⟩
 ·obtain⟨p,a,n,h,v',rfl,hh,hp,hg,e⟩:=xG (rank:=rank) dN R tp1 lo hm s2;rw[e]at k;exact tix (j:=2) (SqT.of hp) rfl ⟨_,hg,_,rfl,k _ (aq.refl _)⟩
 rw[MP]at e;exact q D2 _ H2 (sc.trans s2) e ((jn _ tp1).same s2)
theorem Bv(T:Txt K mg A):Has P w K mg base 1 "_law_letter" ["_law_some","_law_at"] xU:=by
 refine T.qZ.has sC (λvs H Q E h=>?_) (λf cdv A' outer s H vs Q E' hr hu h=>?_)
 ·obtain⟨l,xs,ws,i,rfl,_⟩:=h;rfl
 obtain⟨l,xs,ws,i,rfl,hl,tp,q⟩:=h;have ln:xs.length=ws.length:=tp.len;refine⟨_,(ae (aM (ptc qJ (fv 1) (pcB bS T.cD (fv 0^af)))
  (aj (aA (px hu (fv 0) (fv 1))))
  aC)
 (aj (aA d5))),?_⟩
 refine ah λM1 K1=>lnl hl ⟨_,rfl,aE (λz=>?_) (λz=>K1 _ _ ?_)⟩
 ·have z:(i:Int)<(xs.length:Int):=of_decide_eq_true z;have hx:xs[i]?=UT (xs[i]'(())):=Kw ();exact lix (SqL.of hl) (d6 hx) (q _ (Bm tp hx))
 have z:¬ (i:Int)<(xs.length:Int):=λc=>z (decide_eq_true c);refine q _ ?_;rw[LC ()];rfl
theorem DY{t:TT}{b o:TS}{D:Ve}{σ:St}{H:Hp}(h:∀X Y:St->Hp->Prop,(∀σ H,b D σ H->Y σ H)->(∀σ H,o D σ H->X σ H)->t σ H λc H1=>if c=true then Y σ H1 else X σ H1):Gv t b o D σ H:=h (o D) (b D) (λ_ _ z=>z) λ_ _ z=>z
inductive vK(vs:List V)(H:Hp)(Q:VK)(Z:XK):Prop
 |mk(N:Nat->Str)(D1 D2:OM)(ys1 ys2:List V)(wa wb:List (List V)):vs=[.ref D1,.ref D2]->H D1=UT (.lst ys1)->H D2=UT (.lst ys2)->iG H ys1 wa->iG H ys2 wb->(∀w∈wa,ph N w)->(∀w∈wb,ph N w)->wa.length<=1000->wb.length<=1000->(∀u H',aq H H'->Res H' u wa wb->Q u H')->vK vs H Q Z
theorem Et(T:Txt K mg A):Has P w K mg base 2 "_law_first" ["_law_ones","_law_others"] vK:=by
 have NT:=@Bv P w _ _ base _ T;refine T.tH.has (k:=1) g9 (λvs H Q E h=>?_) (λf cdv A' outer s H vs Q E' hr hu h=>?_)
 ·obtain⟨N,D1,D2,ys1,ys2,wa,wb,rfl,_⟩:=h;rfl
 obtain⟨N,D1,D2,ys1,ys2,wa,wb,rfl,e1,e2,t1,t2,o1,o2,m1,m2,q⟩:=h;have k1:ys1.length=wa.length:=t1.len;have k2:ys2.length=wb.length:=t2.len;refine⟨_,(ae (dP O1 rfl (fq rfl T.fE (pcB sV T.nr (pcB bS T.cD (fv 0^af)^pcB bS T.cD (fv 1^af)^af)^af)) (pgn (i:=2) g9.nd rfl)
  (ae (pst 3 g9.nd (ar NT hr (fv 0^fv 2^af)))
  (ae (pst 4 g9.nd (ar NT hr (fv 1^fv 2^af)))
  (aj (aM (PW.pt (pw_or (ptc vH (fv 3) d5) (pw_or (ptc vH (fv 4) d5) (pw_or (ptc (yy hu) (px hu (fv 3) ab) (px hu (fv 4) ab)) (pw_or1 (ptc (yy hu) (px hu (fv 3) ab) (px hu (fv 4) ab)))))))
   (aj (aA (bb (fv 2^fv 3^fv 4^af))))
   aC)))))
 (aj (aA d5))),?_⟩
 refine ah λM1 K1=>lnl e1 (lnl e2 ⟨_,_,rfl,?_⟩);rw[Ah,k1,k2];refine⟨_,rfl,(),(),?_⟩;rw[LA];refine ik (lo:=0) (λi σ Hc=>∃(v2 v3 v4:Option V),σ=[UT (.ref D1),UT (.ref D2),v2,v3,v4]/\aq H Hc/\∀j,j<i->dif wa wb j=false) ⟨UU,UU,UU,rfl,aq.refl _,λj hj=>()⟩ ?_ ?_
 ·rintro i σ Hc hi ⟨v2,v3,v4,rfl,sc,no⟩;try dsimp only
  rw[show(0:Int)+(i:Int)=(i:Int) by omega];refine ah λM2 K2=>⟨D1,ys1,wa,i,rfl,sc _ _ e1,t1.same sc,λx hx=>K2 _ _ ?_⟩;clear K2 M2;try dsimp only
  refine ah λM2 K2=>⟨D2,ys2,wb,i,rfl,sc _ _ e2,t2.same sc,λy hy=>K2 _ _ ?_⟩;clear K2 M2;try dsimp only
  refine DY λRn Ry j1 j2=>?_;have yes:dif wa wb i=true->Ry [UT (.ref D1),UT (.ref D2),UT (.int i),UT x,UT y] Hc:=λz=>j1 _ _ (by
   have fa:=Fc hi z no;refine⟨by show 3<=sizeLine;decide,λt ht=>q _ _ (sc.trans (aq.upd ht _)) ?_⟩;unfold Res;rw[fa];exact⟨t,x,y,rfl,ak,hx.same (aq.upd ht _),hy.same (aq.upd ht _)⟩)
  have not:dif wa wb i=false->Rn [UT (.ref D1),UT (.ref D2),UT (.int i),UT x,UT y] Hc:=λz=>j2 _ _ (by
   refine⟨_,_,_,rfl,sc,λj hj=>?_⟩;by_cases c:j=i
   ·rw[c];exact z
   exact no j ())
  clear j1 j2;cases ea:wa[i]? with
  |none=>
   rw[ea]at hx;obtain rfl:x=V.non:=hx;exact⟨rfl,_,rfl,dO (yes (by
    unfold dif;rw[ea];cases eb:wb[i]? with
    |none=>
     have:=MA.mp ea;have:=MA.mp eb;omega
    |some _=>rfl))⟩
  |some w1=>
   obtain⟨a1,b1,h1,c1,rfl,_⟩:=o1 w1 (KG ea);rw[ea]at hx;obtain⟨p1,rfl,hp1⟩:=hx;refine⟨rfl,_,rfl,bH ?_⟩;cases eb:wb[i]? with
   |none=>
    rw[eb]at hy;obtain rfl:y=V.non:=hy;exact⟨rfl,_,rfl,dO (yes (by unfold dif;rw[ea,eb];rfl))⟩
   |some w2=>
    obtain⟨a2,b2,h2,c2,rfl,_⟩:=o2 w2 (KG eb);rw[eb]at hy;obtain⟨p2,rfl,hp2⟩:=hy;have ed:dif wa wb i=!decide (V.str (N h1)=V.str (N h2)/\V.int c1=V.int c2):=by
     unfold dif;rw[ea,eb];congr 1;apply decide_eq_decide.mpr;show UT [V.str (N h1),V.int c1]=UT [V.str (N h2),V.int c2]↔_;simp
    refine⟨rfl,_,rfl,bH (tix (j:=2) (SqT.of hp1) rfl (tix (j:=2) (SqT.of hp2) rfl ⟨rfl,_,rfl,aE (λz=>?_) (λz=>?_)⟩))⟩
    ·refine yes ?_;rw[ed];have z:¬ V.str (N h1)=V.str (N h2):=by simpa using z
     rw[decide_eq_false (λy=>z y.1)];rfl
    have z:V.str (N h1)=V.str (N h2):=by simpa using z
    refine tix (j:=3) (SqT.of hp1) rfl (tix (j:=3) (SqT.of hp2) rfl ⟨rfl,_,rfl,aE (λy=>?_) (λy=>?_)⟩)
    ·refine yes ?_;rw[ed];have y:¬ V.int c1=V.int c2:=by simpa using y
     rw[decide_eq_false (λz=>y z.2)];rfl
    refine not ?_;rw[ed];have y:V.int c1=V.int c2:=by simpa using y
    rw[decide_eq_true ⟨z,y⟩];rfl
 rintro σ Hc ⟨v2,v3,v4,rfl,sc,no⟩;refine K1 _ _ (q _ _ sc ?_);unfold Res;rw[Fl no]
inductive xn(K:OQ)(vs:List V)(H:Hp)(Q:VK)(Z:XK):Prop
 |mk(N:Nat->Str)(x y:V)(wa wb:List (List V)):vs=[x,y]->(∀i,Pc (N i)=true)->(∀w∈wa,ph N w)->(∀w∈wb,ph N w)->Res H x wa wb->Res H y wa wb->Q (.bl true) H->xn K vs H Q Z
theorem DT(T:Txt K mg A):Has P w K mg base 1 "_law_alike" ["_law_found","_law_due"] (xn K):=by
 refine T.ud.has vq (λvs H Q E h=>?_) (λf cdv A' outer s H vs Q E' hr hu h=>?_)
 ·obtain⟨N,x,y,wa,wb,rfl,_⟩:=h;rfl
 obtain⟨N,x,y,wa,wb,rfl,ok,o1,o2,r1,r2,q⟩:=h;refine⟨_,(ae (aM (ptc vH (fv 1) d5)
  (aj (aA (pec vH (fv 0) d5)))
  aC)
 (aj (aA (kK (pcB bN T.aJ (fv 0^(ji (v:=.ty "tuple") rfl T.ql (by boot_by_name) rfl)^af)) (kK (pec (bj hu) (pcB bS T.cD (fv 0^af)) ab) (kK (Ei (pcB bN T.aJ (px hu (fv 0) ab^(ji (v:=.ty "bool") rfl T.qx (by boot_by_name) rfl)^af))) (oY (pec (bj hu) (fv 0) (fv 1))))))))),?_⟩
 unfold Res at r1 r2;refine ah λM1 K1=>?_;cases e:fd wa wb with
 |none=>
  rw[e]at r1 r2;rw[show x=.non from r1,show y=.non from r2];exact⟨rfl,_,rfl,dO ⟨rfl,q⟩⟩
 |some i=>
  rw[e]at r1 r2;obtain⟨t1,a1,b1,rfl,h1,p1,q1⟩:=r1;obtain⟨t2,a2,b2,rfl,h2,p2,q2⟩:=r2;refine⟨rfl,_,rfl,bH (K1 _ _ ?_)⟩;clear K1 M1;try dsimp only
  refine⟨_,_,_,true,rfl,(λz=>by cases z),.tup h1,G7,true,rfl,dO (KJ ⟨_,_,rfl,Lg ⟨_,SqT.of h1,rfl⟩,rfl,true,rfl,dO (tix (j:=0) (SqT.of h1) rfl ⟨_,_,_,false,rfl,(λz=>by cases z),.int _,BM,false,rfl,true,rfl,dO ?_⟩)⟩)⟩;have l1:LtO N wa[i]?:=λw e=>o1 w (KG e);have l2:LtO N wb[i]?:=λw e=>o2 w (KG e);have s1:=uR ok l1;have s2:=uR ok l2;have lay:(PyData.tuple [.int i,dat wa[i]?,dat wb[i]?]).canLay0=true:=by
   simp only[UL,TH,s1.1,s2.1];rfl
  have sh:Pe (.tuple [.int i,dat wa[i]?,dat wb[i]?])=true:=by
   unfold Pe;rw[lay,Nr];have d1:=s1.2.1;have d2:=s2.2.1;apply decide_eq_true;simp only[PyData.depth,Ur];omega
  refine KJ (KJ ⟨_,_,.tup (SqT.of h1) (.cons (.int _) (.cons (uK l1 p1) (.cons (uK l2 q1) .nil))),.tup (SqT.of h2) (.cons (.int _) (.cons (uK l1 p2) (.cons (uK l2 q2) .nil))),sh,sh,?_⟩);rw[SeqAt.eqv_refl _ lay];exact q
def Lr.hdB:Lr->Bool
 | .hand _ _=>true| .giv _ _ _=>true| .own _ _=>true| .lt _ _=>true
 |_=>false
mutual
theorem Km{ns tg:List Nat}{dd:List Dl}:∀t:Tr,t.ok ns tg dd->∀r∈flat t,r.hdB=false
 | .leaf r,ok,r',m=>by
  unfold Tr.ok at ok;unfold flat at m;rw[KC.mp m];cases r<;>first|rfl|exact ok.elim
 | .iff v l r f o,ok,r',m=>by
  unfold Tr.ok at ok;unfold flat at m;simp only[Ku,KA,KD,or_false]at m;rcases m with e|m|e|m|e
  ·rw[e];rfl
  ·exact tU f ok.2.2.2.1 r' m
  ·rw[e];rfl
  ·exact tU o ok.2.2.2.2 r' m
  rw[e];rfl
 | .loop t m' l r b,ok,r',m=>by
  unfold Tr.ok at ok;unfold flat at m;simp only[Ku,KA,KD,or_false]at m;rcases m with e|m|e
  ·rw[e];rfl
  ·exact tU b ok.2.2.2.2.2 r' m
  rw[e];rfl
theorem tU{ns tg:List Nat}{dd:List Dl}:∀ts:List Tr,eE ns tg dd ts->∀r∈bf ts,r.hdB=false
 | [],_,r',m=>by
  unfold bf at m;cases m
 |t::ts,ok,r',m=>by
  unfold eE at ok;unfold bf at m;rcases KA.mp m with m|m
  ·exact Km t ok.1 r' m
  exact tU ts ok.2 r' m
end
theorem Jh:∀(ds:List Dl)(bs:List (List Tr)),(∀b∈bs,∃ns tg dd,eE ns tg dd b)->∀r∈dR ds bs,r.hdB=false
 | [],_,_,r,m=>by
  unfold dR at m;cases m
 |_::_,[],_,r,m=>by
  unfold dR at m;cases m
 |d::ds,b::bs,ok,r,m=>by
  unfold dR at m;simp only[Ku,KA]at m;obtain⟨ns,tg,dd,ob⟩:=ok b Kv;rcases m with e|m|e|m
  ·rw[e];rfl
  ·exact tU b ob r m
  ·rw[e];rfl
  exact Jh ds bs (λx hx=>ok x (Kx _ hx)) r m
structure qV(L:List Lr)(rk:Nat->Int)(z:Int):Prop where
 i:∀r∈L,r.hdB=true->r∈cy rk z
 o:∀r∈cy rk z,r∈L
theorem EC{ev:Bool}{lim:Int}{lrs:List Lr}{rk:Nat->Int}{z:Int}{t:Nat}{dls:List Dl}{bss:List (List Tr)}{mb:List Tr}(D:BW ev lim lrs rk z t dls bss mb):qV lrs rk z:=by
 refine⟨λr m h=>?_,λr m=>?_⟩
 ·rw[D.e]at m;simp only[KA,Ku,KD,or_false]at m;rcases m with(m|m)|e|m|e
  ·exact(dQ t _).mem_iff.mp m
  ·have:=Jh dls bss (λb hb=>by
    obtain⟨j,hj⟩:=Le hb;have jl:j<dls.length:=by
     rw[D.dd.len];exact(KH.mp hj).1
    exact⟨_,_,_,(D.dd.bs j _ b (Kw jl) hj).1⟩) r m
   rw[h]at this;cases this
  ·rw[e]at h;cases h
  ·have:=tU mb D.ob r m;rw[h]at this;cases this
  rw[e]at h;cases h
 rw[D.e];exact Lk _ (Lk _ ((dQ t _).mem_iff.mpr m))
theorem El(rk:Nat->Int)(z:Int)(t:Nat):qV (rot t (cy rk z)) rk z:=⟨λr m _=>(dQ t _).mem_iff.mp m,λr m=>(dQ t _).mem_iff.mpr m⟩
theorem qV.rk{L:List Lr}{rk:Nat->Int}{z:Int}(h:qV L rk z):Cw L:=by
 refine⟨λi m hm=>?_,λi m hm=>?_,λj hj=>⟨j,h.o _ ?_⟩⟩
 ·have:=h.i _ hm rfl;simp[cy]at this;omega
 ·have:=h.i _ hm rfl;simp[cy]at this;omega
 have:=lt3 j ();rcases this with rfl|rfl|rfl<;>simp[cy]
theorem qV.gv{L:List Lr}{rk:Nat->Int}{z:Int}(h:qV L rk z)(hz:1<=z):Jj z L:=λi r y hm=>by
 have:=h.i _ hm rfl;simp only[cy,Ku,KD,or_false]at this;have z0:((z.toNat:Nat):Int)=z:=MY ();rcases this with e|e|e|e|e|e|e|e|e|e|e|e|e<;>cases e
 ·exact⟨∅,rfl⟩
 ·exact⟨∅,rfl⟩
 ·exact⟨∅,rfl⟩
 exact⟨∅,z0.symm⟩
theorem xu{H:Hp}{g:OM}{c m hi:Int}{lrs:List Lr}{rk:Nat->Int}{z:Int}{t:Nat}{n:Nat->Int}{l:Nat->List Int}(D:gB N)(eN:E.N=N)(hh:qV lrs rk z)(hz:1<=z)(G:GAt N z H g (eU c m hi lrs lrs.length).ix n l)(i1:∀i,In (n i))(i2:∀i,∀k∈l i,In k):lu E ((rot t (cy rk z)).map hdL) H g n l:=by
 obtain⟨f,h1,h2,h3⟩:=G;refine⟨⟨_,h1,λi y hm=>?_⟩,i1,i2⟩;obtain⟨r,hr,e⟩:=KU.mp hm;have hr':r∈cy rk z:=(dQ t _).mem_iff.mp hr;have er:∃a b,r=.giv i a b/\y=b.toNat:=by
  cases r with
  |giv j a b=>cases e;exact⟨a,b,rfl,rfl⟩
  |_=>cases e
 obtain⟨a,b,rfl,rfl⟩:=er;have ml:=hh.o _ hr';obtain⟨_,eb⟩:=hh.gv hz i a b ml;subst eb;obtain⟨j,hj⟩:=Le ml;have mi:=xx (c:=c) (m:=m) (hi:=hi) (KH.mp hj).1 hj;rw[eN,nN D h2 mi,LA];obtain⟨k1,k2⟩:=h3 i mi;refine⟨λe=>by rw[k1 e],λe=>?_⟩;obtain⟨x,q1,q2,q3⟩:=k2 e;exact⟨x,by rw[q1],q2,q3⟩
theorem zE{H:Hp}{z:Int}{g g':OM}{ix:List Nat}{n:Nat->Int}{l:Nat->List Int}(D:gB N)(G:GAt N z H g ix n l)(G':GAt N z H g' ix n l):u7 K H g g':=by
 obtain⟨f,h1,h2,h3⟩:=G;obtain⟨f',h1',_,h3'⟩:=G';refine⟨_,_,.inl h1,.inl h1',by rw[fj,fj],λk v hv=>?_⟩;obtain⟨j,hj,rfl,rfl⟩:=Ga D h2 hv;refine⟨f' j,nN D h2 hj,?_⟩;by_cases e:szF z j=0
 ·refine .inl ⟨by rw[(h3 j hj).1 e,(h3' j hj).1 e],by rw[(h3 j hj).1 e];rfl⟩
 obtain⟨a,e1,e2,_⟩:=(h3 j hj).2 ();obtain⟨a',e1',e2',_⟩:=(h3' j hj).2 ();refine .inr ⟨a,a',_,e1,e1',SqL.of e2,SqL.of e2',?_⟩;rw[List.all_map];exact Ml.mpr λ_ _=>rfl
theorem Res.turn{H H':Hp}{t t':OM}{i:Nat}{a b:List (List V)}{x y:V}(e:fd a b=UT i)(s:aq H H')(h':H' t'=UT (.tup [.int i,y,x]))(p:kh H x a[i]?)(q:kh H y b[i]?):Res H' (.ref t') b a:=by
 unfold Res;rw[y9,e];exact⟨t',y,x,rfl,h',q.same s,p.same s⟩
end
section
variable{P:Program}{w:OX}{K:OQ}{mg:Str->Option ON}{base:O8}{A:Adr}
seal PE PA PS PSs PT PW
def uG(K:OQ):Sp:=λvs H Q _=>∃(a:OM)(ns:List Int),vs=[.ref a]/\SqL K H a (ns.map V.int)/\ns.length<=63/\∀H',Q (.bl true) H'
theorem Jm(T:Txt K mg A)(F:bO K mg "law" rK ["_law_script"]):Has P w K mg base 72 "law" ["_law_script"] (uG K):=by
 have Ny:=@yJ P w _ _ base _ T;have Ow:=@Eb P w _ _ base _ T;have OD:=@Gk P w _ _ base _ T;have NV:=@Eo P w _ _ base _ T;have NO:=@Ek P w _ _ base _ T;have Ox:=@Et P w _ _ base _ T;have NW:=@DT P w _ _ base _ T;have N3:=@CU P w _ _ base _ T;have Ot:=@D7 P w _ _ base _ T;refine F.has (k:=71) iJ (λvs H Q E h=>?_) (λf cdv A' outer s0 H vs Q E hr hu h=>?_)
 ·obtain⟨a,ns,rfl,_⟩:=h;rfl
 obtain⟨a,ns,rfl,hA,hlen,q⟩:=h;refine⟨_,(ae (pst 1 iJ.nd (ar Ow hr (fv 0^ax bz (ax cx (ar Ny hr (fv 0^ab^af)) ab) ab^lq^ab^af)))
 (ae (pst 2 iJ.nd (ar OD hr (fv 1^af)))
 (ae (pst 3 iJ.nd (ax cx (ar Ny hr (fv 0^ab^af)) ab))
 (ae (pst 4 iJ.nd (ax kY (ax cx (ax c9 (ar Ny hr (fv 0^ab^af)) ab) ab) ab))
 (ae (bu (ar NV hr (fv 1^ar Ny hr (fv 0^ab^af)^ar Ny hr (fv 0^ab^af)^fv 4^af)) (yT rfl (kx (pgn (i:=5) iJ.nd rfl) (kx (pgn (i:=6) iJ.nd rfl) uP))))
 (ae (pst 7 iJ.nd (ar NV hr (fv 1^ar Ny hr (fv 0^ab^af)^ar Ny hr (fv 0^ab^af)^fv 4^af)))
 (ae (pst 8 iJ.nd (ar NO hr (fv 1^aI (ar N3 hr (fv 2^fv 5^af)) rfl^fv 3^af)))
 (ae (pst 9 iJ.nd (ar Ox hr (fv 8^ar NO hr (fv 1^aI (ar N3 hr (fv 2^fv 6^af)) rfl^fv 3^af)^af)))
 (ae (aM (vf (bX (ar NW hr (ar Ot hr (fv 2^fv 3^fv 5^fv 6^af)^fv 9^af)) (λ_=>rfl)))
  (aj (aA lq))
  aC)
 (ae (aM (ptc DA (fv 9) d5)
  (aj (pst 9 iJ.nd (bb (px hu (fv 9) ab^px hu (fv 9) ab^px hu (fv 9) ab^af))))
  aC)
 (ae (aM (vf (bX (ar NW hr (ar Ot hr (fv 2^fv 3^fv 6^fv 5^af)^fv 9^af)) (λ_=>rfl)))
  (aj (aA lq))
  aC)
 (aj (aA (kK (pec vH (ar Ot hr (fv 2^fv 3^fv 5^fv 5^af)) d5) (oY (pec (GP hu) (bb (fv 5^fv 6^af)) (fv 7))))))))))))))))),?_⟩
 refine ah λM1 K1=>⟨a,ns,0,rfl,hA,∅,(by show(0:Int)<2;decide),a,ns,_,false,300,rfl,rfl,hA,λLR rows lrs rk z t dls bss mb H1 s1 hLR eLR pr D=>?_⟩;obtain⟨N,hN⟩:∃N,N=nmV (cellAt ns 1):=⟨_,rfl⟩;have dN:gB N:=by rw[hN];exact qe _
 have oN:∀i,Pc (N i)=true:=λi=>by rw[hN];exact II _ i
 rw[<-hN]at pr;have pr1:Paired (bZ N H1) rows lrs:=Paired.cR pr λ_ _ l=>l.same aB;obtain⟨body,eb,n,st,_⟩:=CK D;have pr2:=pr1;rw[eb]at pr2;have ln:=D.l;have bl:body.length<=500:=by
  rw[eb,Kz]at ln;omega
 have hz:=D.hz;have hd1:=EC D;have hd2:=El rk z t;refine K1 _ _ ?_;clear K1 M1;try dsimp only
 refine ah λM1 K1=>⟨N,LR,rows,body,_,_,_,_,_,rfl,eLR,pr2,st,bl,λv H2 s2 pg=>?_⟩;obtain⟨E1,p,hv,xs,rs,R,eS⟩:=Ed D ∅ dN pg;obtain⟨g,hg⟩:∃g:Bg,g=⟨N,rot t (cy rk z),0,ptD (rot t (cy rk z)).length dls bss,pts (n+1) mb,E1,(rot t (cy rk z)).map hdL,p,hv,xs,rs⟩:=⟨_,rfl⟩;have gN:g.N=N:=by rw[hg]
 have gE:g.E.N=N:=by rw[hg];exact R.n
 have gh:g.hs=(rot t (cy rk z)).map hdL:=by rw[hg]
 have B:Prg A H2 v g:=by
  subst hg;refine⟨dN,oN,pg,?_,λr m=>xg hz.1 ((dQ t _).mem_iff.mp m),hd2.rk,R⟩;rw[(dQ t _).length_eq];show 13<=500;decide
 clear hg R eS pg pr pr2 st;have s02:=s1.trans s2;have eLR:=s2 _ _ eLR;have pr:=Paired.cR pr1 λ_ _ l=>bZ.same s2 l;clear pr1 s1 s2;have A2:=s02.seq hA;refine K1 _ _ ?_;clear K1 M1;try dsimp only
 refine ah λM1 K1=>⟨a,ns,4,rfl,A2,∅,(by show(0:Int)<3;decide),K1 _ _ ?_⟩;clear K1 M1;try dsimp only
 refine ah λM1 K1=>⟨a,ns,4,rfl,A2,∅,⟨∅,∅⟩,(by show(0:Int)<4;decide),K1 _ _ ?_⟩;clear K1 M1;try dsimp only
 refine ah λM1 K1=>⟨a,ns,5,rfl,A2,∅,a,ns,6,rfl,A2,∅,N,z,LR,rows,lrs,_,_,(cellAt ns 4/3%4-1),rfl,dN,hz.2,eLR,pr,(),hd1.gv hz.1,λg1 g2 tg H3 s3 et G1 G2=>⟨tg,_,rfl,SqT.of et,rfl,_,_,rfl,_,_,rfl,rfl,K1 _ _ ?_⟩⟩;clear K1 M1 et;have A3:=s3.seq A2;have pr3:=Paired.cR pr λ_ _ l=>bZ.same s3 l;try dsimp only
 refine ah λM1 K1=>⟨a,ns,5,rfl,A3,∅,a,ns,6,rfl,A3,∅,N,z,LR,rows,lrs,_,_,(cellAt ns 4/3%4-1),rfl,dN,hz.2,s3 _ _ eLR,pr3,(),hd1.gv hz.1,λk1 k2 tk H4 s4 ek C1 C2=>?_⟩;have gi:=zc (cellAt ns 5) (cellAt ns 6) (cellAt ns 4/3%4-1) lrs lrs.length;have B4:=(B.same s3).same s4;have pr4:=Paired.cR pr3 λ_ _ l=>bZ.same s4 l;have eLR:=s4 _ _ (s3 _ _ eLR);have G1:=G1.same s4;have G2:=G2.same s4;have J1:lu g.E g.hs H4 g1 (eU (cellAt ns 5) (cellAt ns 6) (cellAt ns 4/3%4-1) lrs lrs.length).n1 (eU (cellAt ns 5) (cellAt ns 6) (cellAt ns 4/3%4-1) lrs lrs.length).l1:=by rw[gh];exact xu dN gE hd1 hz.1 G1 gi.n1 gi.l1
 have J2:lu g.E g.hs H4 g2 (eU (cellAt ns 5) (cellAt ns 6) (cellAt ns 4/3%4-1) lrs lrs.length).n2 (eU (cellAt ns 5) (cellAt ns 6) (cellAt ns 4/3%4-1) lrs lrs.length).l2:=by rw[gh];exact xu dN gE hd1 hz.1 G2 gi.n2 gi.l2
 generalize eU (cellAt ns 5) (cellAt ns 6) (cellAt ns 4/3%4-1) lrs lrs.length=gs at G1 G2 C1 C2 J1 J2;clear gi pr pr3 B s3 s4 A2 A3 hA;obtain⟨o1,m1⟩:=B4.lts gs.n1 gs.l1;obtain⟨o2,m2⟩:=B4.lts gs.n2 gs.l2;rw[gN]at o1 o2;refine K1 _ _ ?_;clear K1 M1;try dsimp only
 refine ah λM1 K1=>⟨v,g,g1,gs.n1,gs.l1,rfl,B4,J1,λb l xs H5 s5 ⟨db,f2,f3,f4,f5,hb,hl,tp⟩=>fdI hb T.dZ.cl T.dA rfl ⟨N,LR,rows,lrs,l,xs,_,(cellAt ns 4%3),rfl,dN,s5 _ _ eLR,Paired.cR pr4 (λ_ _ l=>bZ.same s5 l),(),hd1.rk,hl,tp,o1,m1,λD1 ys1 H6 s6 e1 t1=>K1 _ _ ?_⟩⟩;clear K1 M1 hb hl tp;have s46:=s5.trans s6;try dsimp only
 refine ah λM1 K1=>⟨v,g,g2,gs.n2,gs.l2,rfl,B4.same s46,J2.same s46,λb l xs H7 s7 ⟨db,f2,f3,f4,f5,hb,hl,tp⟩=>?_⟩;have s47:=s46.trans s7;refine fdI hb T.dZ.cl T.dA rfl ⟨N,LR,rows,lrs,l,xs,_,(cellAt ns 4%3),rfl,dN,s47 _ _ eLR,Paired.cR pr4 (λ_ _ l=>bZ.same s47 l),(),hd1.rk,hl,tp,o2,m2,λD2 ys2 H8 s8 e2 t2=>?_⟩;clear hb hl tp;have s48:=s47.trans s8;have s68:=s7.trans s8;obtain⟨wa,ewa⟩:∃wa,wa=g.p7 (cellAt ns 4%3) gs.n1 gs.l1:=⟨_,rfl⟩;obtain⟨wb,ewb⟩:∃wb,wb=g.p7 (cellAt ns 4%3) gs.n2 gs.l2:=⟨_,rfl⟩;have ea:(g.lt gs.n1 gs.l1).filter (ku N (cellAt ns 4%3))=wa:=by rw[ewa,<-gN];rfl
 have ebb:(g.lt gs.n2 gs.l2).filter (ku N (cellAt ns 4%3))=wb:=by rw[ewb,<-gN];rfl
 have oa:∀w∈wa,ph N w:=λw hw=>o1 w (by rw[<-ea]at hw;exact(Lw.mp hw).1);have ob:∀w∈wb,ph N w:=λw hw=>o2 w (by rw[<-ebb]at hw;exact(Lw.mp hw).1);have la:wa.length<=1000:=by rw[<-ea];exact KS (LB _ _) m1
 have lb:wb.length<=1000:=by rw[<-ebb];exact KS (LB _ _) m2
 rw[ea]at t1;rw[ebb]at t2;refine⟨N,D1,D2,ys1,ys2,wa,wb,rfl,s68 _ _ e1,e2,t1.same s68,t2,oa,ob,la,lb,λdu H9 s9 rd=>K1 _ _ ?_⟩;clear K1 M1 e1 e2 t1 t2 ea ebb;have B9:=(B4.same s48).same s9;have J1:=(J1.same s48).same s9;have J2:=(J2.same s48).same s9;have G1:=(G1.same s48).same s9;have G2:=(G2.same s48).same s9;have C1:=(C1.same s48).same s9;have C2:=(C2.same s48).same s9;have ek:=s9 _ _ (s48 _ _ ek);clear B4 s48 s46 s47 s68 s5 s6 s7 s8 s9 pr4 eLR;try dsimp only
 refine ah λM1 K1=>⟨v,g,(cellAt ns 4%3),g1,g2,_,_,_,_,rfl,B9,J1,J2,λu H10 s10 ru=>?_⟩;rw[<-ewa,<-ewb]at ru;refine⟨N,u,du,wa,wb,rfl,oN,oa,ob,ru,rd.same s10,true,rfl,bH (K1 _ _ ?_)⟩;clear K1 M1 ru;have rd:=rd.same s10;have B10:=B9.same s10;have J1:=J1.same s10;have J2:=J2.same s10;have G1:=G1.same s10;have G2:=G2.same s10;have C1:=C1.same s10;have C2:=C2.same s10;have ek:=s10 _ _ ek;clear B9 s10;try dsimp only
 refine ah λM1 K1=>?_;have go:∀(dv:V)(H11:Hp),aq H10 H11->Res H11 dv wb wa->M1 [UT (.ref a),UT (.ref LR),UT v,UT (.int (cellAt ns 4%3)),UT (.int (cellAt ns 4/3%4-1)),UT (.ref g1),UT (.ref g2),UT (.ref tk),UT (.ref D1),UT dv] H11:=λdv H11 s11 rv=>K1 _ _ (by
  refine ah λM2 K2=>⟨v,g,(cellAt ns 4%3),g2,g1,_,_,_,_,rfl,B10.same s11,J2.same s11,J1.same s11,λu H12 s12 ru=>?_⟩;rw[<-ewa,<-ewb]at ru;refine⟨N,u,dv,wb,wa,rfl,oN,ob,oa,ru,rv.same s12,true,rfl,bH (K2 _ _ ?_)⟩;clear K2 M2 ru;have s12:=s11.trans s12;try dsimp only
  refine⟨v,g,(cellAt ns 4%3),g1,g1,_,_,_,_,rfl,B10.same s12,J1.same s12,J1.same s12,λu H13 s13 ru=>?_⟩;have s13:=s12.trans s13;unfold Res at ru;rw[DR]at ru;rw[show u=.non from ru];refine⟨rfl,_,rfl,dO ⟨by show 2<=sizeLine;decide,λt2 ht2=>?_⟩⟩;have s14:=s13.trans (aq.upd ht2 (HO.tup [.ref g1,.ref g2]));refine⟨t2,tk,[.ref g1,.ref g2],[.ref k1,.ref k2],rfl,rfl,SqT.of ak,SqT.of (s14 _ _ ek),rfl,λi x y hx hy=>?_,q _⟩;match i,hx,hy with
  |0,hx,hy=>
   cases hx;cases hy;exact⟨g1,k1,rfl,rfl,zE dN (G1.same s14) (C1.same s14)⟩
  |1,hx,hy=>
   cases hx;cases hy;exact⟨g2,k2,rfl,rfl,zE dN (G2.same s14) (C2.same s14)⟩)
 clear K1;cases e:fd wa wb with
 |none=>
  unfold Res at rd;rw[e]at rd;obtain rfl:du=V.non:=rd;refine⟨rfl,_,rfl,bH (go _ _ (aq.refl _) ?_)⟩;unfold Res;rw[y9,e]
 |some i=>
  unfold Res at rd;rw[e]at rd;obtain⟨tt,x,y,rfl,ht,px,py⟩:=rd;refine⟨rfl,_,rfl,dO (tix (j:=0) (SqT.of ht) rfl (tix (j:=2) (SqT.of ht) rfl (tix (j:=1) (SqT.of ht) rfl ⟨by show 3<=sizeLine;decide,λt3 ht3=>go _ _ (aq.upd ht3 _) (Res.turn (t:=tt) e (aq.upd ht3 _) ak px py)⟩)))⟩
end
abbrev FnI(K:OQ)(f:OM)(x y:Str)(s:O9):Prop:=∃(oc:ON)(od:Option OM)(kV dc pm:ON)(an:Option OM)(cd ct:ON)(sl:Array (Option ON)),K.lookup f=UT ⟨oc,od,.func (Qr x y (eO s) (dq s) (au s) .none kV dc pm an cd ct),sl⟩/\RZ K cd y=true/\Qh K (.ref f)=true
abbrev dh(K:OQ)(x:Str)(s:O9):Prop:=∃f,UI K O5 x=UT (UT (.ref f))/\FnI K f x x s
abbrev fJ(K:OQ)(C:OM)(m q:Str)(s:O9):Prop:=∃f,Pr K (.ref C) m=UT (UT (.ref f))/\UQ K (.ref f)=true/\FnI K f m q s
abbrev lD(K:OQ)(C:OM)(x:Str)(up:List OM):Prop:=UI K O5 x=UT (UT (.ref C))/\(∃cd,W.clsIn K C=UT cd/\cd.mro=up.map OY++[QA "object"])/\RB K C QU=true/\RX K C=true/\Ug K C=true/\Pr K (.ref C) "__setattr__"=UT (UT (.builtin "object.__setattr__"))/\W.typeIn K (.ref C)=UT (.type "type")/\Pr K (.ref C) "__class__"=UT (UT (.builtin "object.__class__"))/\TQ K C=true/\Qh K (.ref C)=true
abbrev NsI(K:OQ)(x:Str):Prop:=UI K O5 x=UT UU
abbrev NoI(K:OQ)(C:OM)(x:Str):Prop:=Pr K (.ref C) x=UT UU
section
variable{K:OQ}{mg:Str->Option ON}{h:O8}{x m q:Str}{s:O9}{ps:List Str}{C:OM}{up:List OM}
theorem dj(X:K.In h)(G:h.Ns O5 mg)(t:dh K x s)(b:∀(kV doc pm:ON)(an:Option OM)(cdv ct:ON)(us:List ON),us.length=ps.length->RY (Qr x x (eO s) (dq s) (au s) .none kV doc pm an cdv ct) ⟨us,[]⟩=pure (ps.zip us)):bO K mg x s ps:=by
 obtain⟨f,a,_,_,_,_,_,_,_,_,_,l,c,k⟩:=t;exact Dm X G a l c k b
theorem fR(t:fJ K C m q s)(b:∀(kV doc pm:ON)(an:Option OM)(cdv ct:ON)(us:List ON),us.length=ps.length->RY (Qr m q (eO s) (dq s) (au s) .none kV doc pm an cdv ct) ⟨us,[]⟩=pure (ps.zip us)):MFn K C m q s ps:=by
 obtain⟨f,a,i,_,_,_,_,_,_,_,_,_,l,c,k⟩:=t;exact FT a i l c k b
theorem lS(X:K.In h)(G:h.Ns O5 mg)(cg:Qp K (.builtin "object.__class__") "__get__"=UT (UT (.builtin "getset_descriptor.__get__")))(ct:TU K (.builtin "object.__class__")=UT true)(t:lD K C x up):eW K mg C x up:=by
 obtain⟨a,b,c,d,e,f,g,i,j,k⟩:=t;exact⟨Tv X G a,⟨c,d,e,f⟩,b,g,i,cg,ct,j,k⟩
end
theorem ar0{p:List ON->Prop}(h:p []):∀us:List ON,us.length=0->p us:=λus e=>by
 cases us with
 |nil=>exact h
 |cons b t=>cases e
theorem arS{p:List ON->Prop}{n:Nat}(h:∀a,∀us:List ON,us.length=n->p (a::us)):∀us:List ON,us.length=n+1->p us:=λus e=>by
 cases us with
 |nil=>cases e
 |cons b t=>exact h b t (Nat.succ.inj e)
theorem ar1{p:List ON->Prop}(h:∀a0,p [a0]):∀us:List ON,us.length=1->p us:=arS λa0=>ar0 (h a0)
theorem ar2{p:List ON->Prop}(h:∀a0 a1,p [a0,a1]):∀us:List ON,us.length=2->p us:=arS λa0=>arS λa1=>ar0 (h a0 a1)
theorem ar3{p:List ON->Prop}(h:∀a0 a1 a2,p [a0,a1,a2]):∀us:List ON,us.length=3->p us:=arS λa0=>arS λa1=>arS λa2=>ar0 (h a0 a1 a2)
theorem ar4{p:List ON->Prop}(h:∀a0 a1 a2 a3,p [a0,a1,a2,a3]):∀us:List ON,us.length=4->p us:=arS λa0=>arS λa1=>arS λa2=>arS λa3=>ar0 (h a0 a1 a2 a3)
theorem ar5{p:List ON->Prop}(h:∀a0 a1 a2 a3 a4,p [a0,a1,a2,a3,a4]):∀us:List ON,us.length=5->p us:=arS λa0=>arS λa1=>arS λa2=>arS λa3=>arS λa4=>ar0 (h a0 a1 a2 a3 a4)
theorem ar7{p:List ON->Prop}(h:∀a0 a1 a2 a3 a4 a5 a6,p [a0,a1,a2,a3,a4,a5,a6]):∀us:List ON,us.length=7->p us:=arS λa0=>arS λa1=>arS λa2=>arS λa3=>arS λa4=>arS λa5=>arS λa6=>ar0 (h a0 a1 a2 a3 a4 a5 a6)
theorem all_mk{l:TK}{w:OX}{K:OQ}{h:O8}{mg:Str->Option ON}{fa:OM}(A:Adr)(X:K.In h)(G:h.Ns O5 mg)(hfa:mg "law"=UT (.ref fa))
 (t1:dh K "ranks_told" kM) (t2:dh K "is_number" lX) (t3:dh K "is_good" pj) (t4:dh K "given_cell" kC)
 (t5:dh K "own_cell" oj) (t6:dh K "cells_of" oh) (t7:dh K "reckon" rJ) (t8:dh K "round_place" jY)
 (t9:dh K "ends_of" pw) (t10:dh K "run" BV) (t11:dh K "seen" ym) (t12:dh K "letter_at" lJ)
 (t13:dh K "told_by" oT) (t14:dh K "laid" yU) (t15:dh K "_law_cell_at" jW) (t16:dh K "_law_mix" oS)
 (t17:dh K "_law_name" nJ) (t18:dh K "_law_number" kB) (t19:dh K "_law_heads" lT) (t20:dh K "_law_fit" oV)
 (t21:dh K "_law_thing" mC) (t22:dh K "_law_value" lZ) (t23:dh K "_law_add" oZ) (t24:dh K "_law_said" nX)
 (t25:dh K "_law_plain" lW) (t26:dh K "_law_opened" kR) (t27:dh K "_law_closed" kS) (t28:dh K "_law_else" nW)
 (t29:dh K "_law_called" kN) (t30:dh K "_law_turned" kT) (t31:dh K "_law_body" nU) (t32:dh K "_law_drawn" lR)
 (t33:dh K "_law_plain_row" gG) (t34:dh K "_law_nested_row" fW) (t35:dh K "_law_tree" og) (t36:dh K "_law_gift" nP)
 (t37:dh K "_law_gifts" lE) (t38:dh K "_law_heard_by" iD) (t39:dh K "_law_letter" kL) (t40:dh K "_law_first" lK)
 (t41:dh K "_law_alike" lV) (t42:dh K "law" rK) (wC:NsI K "all") (qx:NsI K "bool")
 (u5:NsI K "dict") (mH:NsI K "int") (aJ:NsI K "isinstance") (cD:NsI K "len")
 (dY:NsI K "list") (nr:NsI K "max") (zj:NsI K "min") (fE:NsI K "range")
 (xy:NsI K "str") (zm:NsI K "sum") (ql:NsI K "tuple") (vY:NsI K "zip")
 (g_MOST_NUMBER:∃k:Tok,UI K O5 "MOST_NUMBER"=UT (UT (.int 999999999999 k))) (g_ROUND:∃k:Tok,UI K O5 "ROUND"=UT (UT (.int 1000000000000 k))) (cg:Qp K (.builtin "object.__class__") "__get__"=UT (UT (.builtin "getset_descriptor.__get__"))) (ct:TU K (.builtin "object.__class__")=UT true)
 (x_Row:lD K A.Row "Row" [A.Row]) (x_HandRow:lD K A.bJ "HandRow" [A.bJ,A.Row]) (x_GivenRow:lD K A.aX "GivenRow" [A.aX,A.Row]) (x_OwnRow:lD K A.bG "OwnRow" [A.bG,A.Row])
 (x_LetRow:lD K A.cu "LetRow" [A.cu,A.Row]) (x_SetRow:lD K A.cB "SetRow" [A.cB,A.Row]) (x_PutRow:lD K A.bW "PutRow" [A.bW,A.Row]) (x_SendRow:lD K A.bp "SendRow" [A.bp,A.Row])
 (x_SayRow:lD K A.bK "SayRow" [A.bK,A.Row]) (x_CallRow:lD K A.bL "CallRow" [A.bL,A.Row]) (x_LastRow:lD K A.cO "LastRow" [A.cO,A.Row]) (x_IfRow:lD K A.bV "IfRow" [A.bV,A.Row])
 (x_LoopRow:lD K A.aY "LoopRow" [A.aY,A.Row]) (x_DeedRow:lD K A.bg "DeedRow" [A.bg,A.Row]) (x_Program:lD K A.Program "Program" [A.Program]) (x_Book:lD K A.cA "Book" [A.cA])
 (x_Run:lD K A.Run "Run" [A.Run]) (m1:fJ K A.Row "__init__" "Row.__init__" fY) (m2:fJ K A.bJ "__init__" "HandRow.__init__" i8) (m3:fJ K A.aX "__init__" "GivenRow.__init__" gL)
 (m4:fJ K A.bG "__init__" "OwnRow.__init__" jR) (m5:fJ K A.cu "__init__" "LetRow.__init__" jO) (m6:fJ K A.cB "__init__" "SetRow.__init__" jA) (m7:fJ K A.bW "__init__" "PutRow.__init__" jz)
 (m8:fJ K A.bp "__init__" "SendRow.__init__" iF) (m9:fJ K A.bK "__init__" "SayRow.__init__" jV) (m10:fJ K A.bL "__init__" "CallRow.__init__" iE) (m11:fJ K A.cO "__init__" "Row.__init__" fY)
 (m12:fJ K A.bV "__init__" "IfRow.__init__" kE) (m13:fJ K A.aY "__init__" "LoopRow.__init__" iB) (m14:fJ K A.bg "__init__" "DeedRow.__init__" iq) (m15:fJ K A.Program "__init__" "Program.__init__" iz)
 (m16:fJ K A.cA "__init__" "Book.__init__" mB) (m17:fJ K A.Run "__init__" "Run.__init__" nQ) (m18:fJ K A.Run "number_at" "Run.number_at" gH) (m19:fJ K A.Run "number_for" "Run.number_for" fK)
 (m20:fJ K A.Run "number_told" "Run.number_told" fI) (m21:fJ K A.Run "pass_steps" "Run.pass_steps" f9) (m22:fJ K A.Run "do_rows" "Run.do_rows" jT) (m23:fJ K A.Run "do_row" "Run.do_row" kO)
 (m24:fJ K A.Run "do_put" "Run.do_put" kA) (m25:fJ K A.Run "do_call" "Run.do_call" jQ) (m26:fJ K A.Run "do_if" "Run.do_if" mI) (m27:fJ K A.Run "do_loop" "Run.do_loop" jN)
 (n1:NoI K A.bJ "name") (n2:NoI K A.bJ "rank") (n3:NoI K A.bJ "number") (n4:NoI K A.aX "name")
 (n5:NoI K A.aX "rank") (n6:NoI K A.aX "size") (n7:NoI K A.aX "number") (n8:NoI K A.bG "name")
 (n9:NoI K A.bG "size") (n10:NoI K A.bG "number") (n11:NoI K A.cu "name") (n12:NoI K A.cu "rank")
 (n13:NoI K A.cu "number") (n14:NoI K A.cB "name") (n15:NoI K A.cB "value") (n16:NoI K A.cB "number")
 (n17:NoI K A.bW "name") (n18:NoI K A.bW "place") (n19:NoI K A.bW "value") (n20:NoI K A.bW "number")
 (n21:NoI K A.bp "name") (n22:NoI K A.bp "value") (n23:NoI K A.bp "number") (n24:NoI K A.bK "name")
 (n25:NoI K A.bK "value") (n26:NoI K A.bK "mark") (n27:NoI K A.bK "number") (n28:NoI K A.bL "name")
 (n29:NoI K A.bL "things") (n30:NoI K A.bL "number") (n31:NoI K A.cO "number") (n32:NoI K A.bV "value")
 (n33:NoI K A.bV "first") (n34:NoI K A.bV "other") (n35:NoI K A.bV "left") (n36:NoI K A.bV "right")
 (n37:NoI K A.bV "number") (n38:NoI K A.aY "thing") (n39:NoI K A.aY "most") (n40:NoI K A.aY "body")
 (n41:NoI K A.aY "left") (n42:NoI K A.aY "right") (n43:NoI K A.aY "number") (n44:NoI K A.bg "name")
 (n45:NoI K A.bg "parts") (n46:NoI K A.bg "body") (n47:NoI K A.bg "number") (n48:NoI K A.Program "heads")
 (n49:NoI K A.Program "deeds") (n50:NoI K A.Program "main") (n51:NoI K A.cA "letters") (n52:NoI K A.cA "said")
 (n53:NoI K A.cA "trace") (n54:NoI K A.cA "steps") (n55:NoI K A.cA "ends") (n56:NoI K A.Run "deeds")
 (n57:NoI K A.Run "cells") (n58:NoI K A.Run "book") (y_Row_init:Qp K (.ref A.Row) "__getattribute__"=UT (UT (.builtin "type.__getattribute__"))/\W.readsIn K A.Row (.type "type")=true/\∃f,Pr K (.ref A.Row) "__init__"=UT (UT (.ref f))/\W.findCls K (.ref A.Row) (.type "type") "__init__"=UT (.val (.ref f))) (nod:[A.Row,A.bJ,A.aX,A.bG,A.cu,A.cB,A.bW,A.bp,A.bK,A.bL,A.cO,A.bV,A.aY,A.bg,A.Program,A.cA,A.Run].Nodup)
:∃fd:PV,(∀(s:OO)(v:ON),So s fd ⟨[v],[]⟩ [("_law_script",v)])/\∀base:O8,K.In base->base.Ns O5 mg->kP l.prog w K mg base CX0 72 fa fd ["_law_script"] (uG K):=by
 have T:Txt K mg A:={
  rP:=dj X G t1 λ_ _ _ _ _ _=>ar1 λ_=>rfl,sQ:=dj X G t2 λ_ _ _ _ _ _=>ar1 λ_=>rfl,zB:=dj X G t3 λ_ _ _ _ _ _=>ar2 λ_ _=>rfl,
  qY:=dj X G t4 λ_ _ _ _ _ _=>ar2 λ_ _=>rfl,xH:=dj X G t5 λ_ _ _ _ _ _=>ar1 λ_=>rfl,vO:=dj X G t6 λ_ _ _ _ _ _=>ar2 λ_ _=>rfl,
  reckon:=dj X G t7 λ_ _ _ _ _ _=>ar3 λ_ _ _=>rfl,pM:=dj X G t8 λ_ _ _ _ _ _=>ar2 λ_ _=>rfl,Aa:=dj X G t9 λ_ _ _ _ _ _=>ar2 λ_ _=>rfl,
  run:=dj X G t10 λ_ _ _ _ _ _=>ar2 λ_ _=>rfl,seen:=dj X G t11 λ_ _ _ _ _ _=>ar3 λ_ _ _=>rfl,tK:=dj X G t12 λ_ _ _ _ _ _=>ar2 λ_ _=>rfl,
  zk:=dj X G t13 λ_ _ _ _ _ _=>ar1 λ_=>rfl,laid:=dj X G t14 λ_ _ _ _ _ _=>ar4 λ_ _ _ _=>rfl,pH:=dj X G t15 λ_ _ _ _ _ _=>ar2 λ_ _=>rfl,
  zY:=dj X G t16 λ_ _ _ _ _ _=>ar3 λ_ _ _=>rfl,wg:=dj X G t17 λ_ _ _ _ _ _=>ar2 λ_ _=>rfl,nZ:=dj X G t18 λ_ _ _ _ _ _=>ar1 λ_=>rfl,
  sY:=dj X G t19 λ_ _ _ _ _ _=>ar2 λ_ _=>rfl,zW:=dj X G t20 λ_ _ _ _ _ _=>ar5 λ_ _ _ _ _=>rfl,tZ:=dj X G t21 λ_ _ _ _ _ _=>ar4 λ_ _ _ _=>rfl,
  tG:=dj X G t22 λ_ _ _ _ _ _=>ar3 λ_ _ _=>rfl,zF:=dj X G t23 λ_ _ _ _ _ _=>ar3 λ_ _ _=>rfl,xc:=dj X G t24 λ_ _ _ _ _ _=>ar3 λ_ _ _=>rfl,
  ue:=dj X G t25 λ_ _ _ _ _ _=>ar4 λ_ _ _ _=>rfl,qH:=dj X G t26 λ_ _ _ _ _ _=>ar4 λ_ _ _ _=>rfl,qR:=dj X G t27 λ_ _ _ _ _ _=>ar1 λ_=>rfl,
  vR:=dj X G t28 λ_ _ _ _ _ _=>ar2 λ_ _=>rfl,rO:=dj X G t29 λ_ _ _ _ _ _=>ar3 λ_ _ _=>rfl,qK:=dj X G t30 λ_ _ _ _ _ _=>ar4 λ_ _ _ _=>rfl,
  w6:=dj X G t31 λ_ _ _ _ _ _=>ar4 λ_ _ _ _=>rfl,tq:=dj X G t32 λ_ _ _ _ _ _=>ar4 λ_ _ _ _=>rfl,nA:=dj X G t33 λ_ _ _ _ _ _=>ar2 λ_ _=>rfl,
  lU:=dj X G t34 λ_ _ _ _ _ _=>ar1 λ_=>rfl,wN:=dj X G t35 λ_ _ _ _ _ _=>ar1 λ_=>rfl,xA:=dj X G t36 λ_ _ _ _ _ _=>ar3 λ_ _ _=>rfl,
  sU:=dj X G t37 λ_ _ _ _ _ _=>ar4 λ_ _ _ _=>rfl,oP:=dj X G t38 λ_ _ _ _ _ _=>ar3 λ_ _ _=>rfl,qZ:=dj X G t39 λ_ _ _ _ _ _=>ar2 λ_ _=>rfl,
  tH:=dj X G t40 λ_ _ _ _ _ _=>ar2 λ_ _=>rfl,ud:=dj X G t41 λ_ _ _ _ _ _=>ar2 λ_ _=>rfl,wC:=Ph X G wC,
  qx:=Ph X G qx,u5:=Ph X G u5,mH:=Ph X G mH,
  aJ:=Ph X G aJ,cD:=Ph X G cD,dY:=Ph X G dY,
  nr:=Ph X G nr,zj:=Ph X G zj,fE:=Ph X G fE,
  xy:=Ph X G xy,zm:=Ph X G zm,ql:=Ph X G ql,
  vY:=Ph X G vY,nH:=g_MOST_NUMBER.imp λ_ e=>Tv X G e,qp:=g_ROUND.imp λ_ e=>Tv X G e,
  kf:=lS X G cg ct x_Row,rT:=fR m1 λ_ _ _ _ _ _=>ar2 λ_ _=>rfl,bP:=lS X G cg ct x_HandRow,
  mK:=fR m2 λ_ _ _ _ _ _=>ar4 λ_ _ _ _=>rfl,iM:=n1,iX:=n2,
  kg:=n3,aW:=lS X G cg ct x_GivenRow,kZ:=fR m3 λ_ _ _ _ _ _=>ar5 λ_ _ _ _ _=>rfl,
  dS:=n4,lg:=n5,cW:=n6,
  jg:=n7,bh:=lS X G cg ct x_OwnRow,nG:=fR m4 λ_ _ _ _ _ _=>ar4 λ_ _ _ _=>rfl,
  dX:=n8,gw:=n9,k7:=n10,
  cm:=lS X G cg ct x_LetRow,nF:=fR m5 λ_ _ _ _ _ _=>ar4 λ_ _ _ _=>rfl,jK:=n11,
  jJ:=n12,kX:=n13,bM:=lS X G cg ct x_SetRow,
  ni:=fR m6 λ_ _ _ _ _ _=>ar4 λ_ _ _ _=>rfl,jC:=n14,iS:=n15,
  gT:=n16,bE:=lS X G cg ct x_PutRow,nD:=fR m7 λ_ _ _ _ _ _=>ar5 λ_ _ _ _ _=>rfl,
  jI:=n17,iA:=n18,iK:=n19,
  gX:=n20,aQ:=lS X G cg ct x_SendRow,mF:=fR m8 λ_ _ _ _ _ _=>ar4 λ_ _ _ _=>rfl,
  iT:=n21,gM:=n22,eR:=n23,
  aU:=lS X G cg ct x_SayRow,nq:=fR m9 λ_ _ _ _ _ _=>ar5 λ_ _ _ _ _=>rfl,jU:=n24,
  iU:=n25,jM:=n26,eY:=n27,
  aZ:=lS X G cg ct x_CallRow,lQ:=fR m10 λ_ _ _ _ _ _=>ar4 λ_ _ _ _=>rfl,iP:=n28,
  fV:=n29,fQ:=n30,aV:=lS X G cg ct x_LastRow,
  lM:=fR m11 λ_ _ _ _ _ _=>ar2 λ_ _=>rfl,fT:=n31,bA:=lS X G cg ct x_IfRow,
  oH:=fR m12 λ_ _ _ _ _ _=>ar7 λ_ _ _ _ _ _ _=>rfl,jE:=n32,j5:=n33,
  jD:=n34,kW:=n35,jZ:=n36,
  iW:=n37,aL:=lS X G cg ct x_LoopRow,l9:=fR m13 λ_ _ _ _ _ _=>ar7 λ_ _ _ _ _ _ _=>rfl,
  gZ:=n38,fF:=n39,i7:=n40,
  iR:=n41,gK:=n42,gq:=n43,
  dW:=lS X G cg ct x_DeedRow,mD:=fR m14 λ_ _ _ _ _ _=>ar5 λ_ _ _ _ _=>rfl,iI:=n44,
  eX:=n45,iY:=n46,ke:=n47,
  dC:=lS X G cg ct x_Program,lH:=fR m15 λ_ _ _ _ _ _=>ar4 λ_ _ _ _=>rfl,dU:=n48,
  eZ:=n49,iO:=n50,dZ:=lS X G cg ct x_Book,
  pN:=fR m16 λ_ _ _ _ _ _=>ar1 λ_=>rfl,dA:=n51,lF:=n52,
  kH:=n53,eP:=n54,mL:=n55,
  bY:=lS X G cg ct x_Run,qI:=fR m17 λ_ _ _ _ _ _=>ar3 λ_ _ _=>rfl,lA:=fR m18 λ_ _ _ _ _ _=>ar2 λ_ _=>rfl,
  j9:=fR m19 λ_ _ _ _ _ _=>ar2 λ_ _=>rfl,jm:=fR m20 λ_ _ _ _ _ _=>ar2 λ_ _=>rfl,ko:=fR m21 λ_ _ _ _ _ _=>ar2 λ_ _=>rfl,
  jG:=fR m22 λ_ _ _ _ _ _=>ar2 λ_ _=>rfl,ox:=fR m23 λ_ _ _ _ _ _=>ar2 λ_ _=>rfl,ou:=fR m24 λ_ _ _ _ _ _=>ar2 λ_ _=>rfl,
  jF:=fR m25 λ_ _ _ _ _ _=>ar2 λ_ _=>rfl,lI:=fR m26 λ_ _ _ _ _ _=>ar2 λ_ _=>rfl,jv:=fR m27 λ_ _ _ _ _ _=>ar2 λ_ _=>rfl,
  je:=n56,cY:=n57,iH:=n58,
  ck:=⟨y_Row_init.1,y_Row_init.2.1,y_Row_init.2.2⟩,nd:=nod }
 have F:bO K mg "law" rK ["_law_script"]:=dj X G t42 λ_ _ _ _ _ _=>ar1 λ_=>rfl;obtain⟨f,a,oc,od,kV,dc,pm,an,cd,ct,sl,lk,_,_⟩:=t42;refine⟨Qr "law" "law" (eO rK) (dq rK) (au rK) .none kV dc pm an cd ct,λs v=>.of_eq rfl,λbase _ _=>?_⟩;have e:=hfa.symm.trans (Tv X G a);cases e;exact GI (Jm (P:=l.prog) (w:=w) (base:=base) T F) (Tv X G a) lk
theorem walk{l:TK}{q:Program}{loose:List Str}{XP:(Str->Option ON)->O8->Prop}{YP:OX->O8->Prop}{d:DefRec}{K:P2->OQ}(hn:l.most=UT 63)(hdf:d.params.defaults=[])(hY:∀(w:OX)(h:O8),YP w h->(K w.params).In h)
  (F:∀(w:OX)(mg:Str->Option ON)(fa:OM)(h:O8),(K w.params).In h->h.Ns O5 mg->mg d.name=UT (.ref fa)->∃fd:PV,(∀(s:OO)(u:ON),So s fd ⟨[u],[]⟩ [("_law_script",u)])/\∀base:O8,(K w.params).In base->base.Ns O5 mg->kP l.prog w (K w.params) mg base CX0 72 fa fd ["_law_script"] (uG (K w.params))) :
  W.WalkO q loose XP YP l.row.toRowW d [] (λf vs=>UD f vs):=
 L2.DW (n:=63) (k:=72) (x:="_law_script") (CX:=λ_=>CX0) (sp:=λw=>uG (K w.params)) hn ∅ hdf ⟨rfl,∅,∅⟩ hY F (λ_ _ a ns hl _ hS=>⟨a,ns,rfl,hS,hl,λ_=>rfl⟩) λ_ _ _ _ _ z=>z
end K61
open PySem PySem.W PyProof.Rows
set_option maxRecDepth 100000 in
set_option maxHeartbeats 0 in
theorem PySem.Challenge.cw_hushrow_k61_laid_side_by_side_holds : PySem.Challenge.rw_hushrow_k61_laid_side_by_side.Holds := by
 w_on;o_law
 refine W.holds_open (q:=K61.pv) (loose:=[]) (Xt:=K61.test) (XP:=W.XL K61.pv []) (Yf:=(S4 K61.heapK K61.pP K61.kq).obs) (Ya:=(S4 K61.heapK K61.pP K61.kq).val) (YP:=(S4 K61.heapK K61.pP K61.kq).says) (N:=14302) K61.left (S4 K61.heapK K61.pP K61.kq).of (S4 K61.heapK K61.pP K61.kq).keeps
  (λs e=>W.xl_of s (MS.mp e).1) W.XL.keeps (by rfl) (by rfl) (by rfl) (λs e=>W.recFacts_of (MS.mp e).2) ?h4 ?h5 ?h6 ⟨rfl,rfl,rfl,rfl,rfl,by decide+kernel⟩ ?hw ?hc
 (case h4=>rfl);(case h5=>first|assumption|decide+kernel);(case h6=>decide+kernel);(case hw=>w_witness2)
 k_fill
 refine K61.walk (l:=PySem.Challenge.rw_hushrow_k61_laid_side_by_side) rfl rfl (λw h Y=>W.kIn_of Y) ?F;case F=>
  intro w mg fa h KX G hmg;refine K61.all_mk ⟨84,112,138,164,190,230,270,303,343,376,395,428,461,487,506,534,670⟩ KX G hmg ?_ ?_ ?_ ?_ ?_ ?_ ?_ ?_ ?_ ?_ ?_ ?_ ?_ ?_ ?_ ?_ ?_ ?_ ?_ ?_ ?_ ?_ ?_ ?_ ?_ ?_ ?_ ?_ ?_ ?_ ?_ ?_ ?_ ?_ ?_ ?_ ?_ ?_ ?_ ?_ ?_ ?_ ?_ ?_ ?_ ?_ ?_ ?_ ?_ ?_ ?_ ?_ ?_ ?_ ?_ ?_ ?_ ?_ ?_ ?_ ?_ ?_ ?_ ?_ ?_ ?_ ?_ ?_ ?_ ?_ ?_ ?_ ?_ ?_ ?_ ?_ ?_ ?_ ?_ ?_ ?_ ?_ ?_ ?_ ?_ ?_ ?_ ?_ ?_ ?_ ?_ ?_ ?_ ?_ ?_ ?_ ?_ ?_ ?_ ?_ ?_ ?_ ?_ ?_ ?_ ?_ ?_ ?_ ?_ ?_ ?_ ?_ ?_ ?_ ?_ ?_ ?_ ?_ ?_ ?_ ?_ ?_ ?_ ?_ ?_ ?_ ?_ ?_ ?_ ?_ ?_ ?_ ?_ ?_ ?_ ?_ ?_ ?_ ?_ ?_ ?_ ?_ ?_ ?_ ?_ ?_ ?_ ?_ ?_ ?_ ?_ ?_ ?_ ?_ ?_ ?_ ?_ ?_ ?_ ?_ ?_ ?_ ?_ ?_;iterate 42 exact⟨_,by k_is,_,_,_,_,_,_,_,_,_,by k_is,by k_is,by k_is⟩
  iterate 14 (show _=_;k_is)
  iterate 2 exact⟨_,by k_is⟩
  iterate 2 (show _=_;k_is)
  iterate 17 exact⟨by k_is,⟨_,by k_is,rfl⟩,by k_is,by k_is,by k_is,by k_is,by k_is,by k_is,by k_is,by k_is⟩
  iterate 27 exact⟨_,by k_is,by k_is,_,_,_,_,_,_,_,_,_,by k_is,by k_is,by k_is⟩
  iterate 58 (show _=_;k_is)
  iterate 1 exact⟨by k_is,by k_is,_,by k_is,by k_is⟩
  iterate 1 decide

import PyProof.Rows.All
import Wide.All
import OpenK.AllK
import PySem.Challenge.RW_hushrow_k14_plain_programs_read
local macro_rules|`(tactic|trivial)=>`(tactic|first|exact .inl rfl|exact .inr rfl|exact .inr (.inl rfl)|exact .inr (.inr rfl)|assumption)
local macro_rules|`({$x:term,$xs,*})=>`(⟨$x,$xs,*⟩)
noncomputable section
open PySem renaming Value->Ut,Addr->Uu,starEach->Uv,wpAny_bind->Ux,Shared->Uy,wpAny_pure->UA,World->UC,mainGlobals->UD,compareOp->UH,model->UI,backTo->UM,keywordEach->UN,eval->UO,Stmt->UP,mem_of_lookup->UQ,attributeBase->UR,Around->US,Heap->UT,backToKw->UW,Keyword->U0,importedModules->U5,wpAny_mono->U8,wpAny_newObj_type->U9,cellsFrom->Va,wpAny_truthy_bool->Vc,Str->Ve,Spec->Vg,swapsWith->Vh,wpAny_Call_Name_kw->Vi,bootBuiltins->Vj,OsState->Vk,sysModules->Vm,FuncData->Vo,wpAny_passesOwn->Vu,holding->Vv,binaryOp->Vw,cLine->Vy,assignEach->VB,Params->VD,NameKind->VF,wpAny_getItem_str_slice->VJ,tupleKind_room_in1->VQ,treeTable->VU,getMethod->VW,standAt->V3,wpAny_pyIter_list->V4,intText?->V7,behindInMarks->V9,pushCells_keeps->Wb,call_meets->Wd,sliceBounds->Wf,codeAny_mono->Wi,pushCells->Wq,wpAny_standAt->Wr,getItem->Ws,Scope->Wu,sizeLine_eq->Wv,wpAny_field->Ww,wpAny_execs_nil->Wz,letOwnedTupleGo->WA,PyData->WC,post_val_or_str->WD,GenState->WJ,typeIs_str->WQ,tupleKind->W8,wpAny_callSpecial?_slot->Xa,builtinsNs->Xi,getitemInPython_of_ne->Xr,bindArgs->Xz,wpAny_letTemporaryGo->XA,codeAny_call_builtin->XB,Builtin->XE,PassesOwn->XG,BindsTo->XH,callerA->XI,evalPart_none->XO,wpAny_Constant_int->XS,IsPart->XT,Within->X9,wpAny_sequenceKey->Ye,seqIndex_neg->Yh,call_meetsIn->Yj,wpAny_Call_method->Yk,wpAny_pyIter_enum->Ym,DictEntry->Yp,wpAny_execs_cons->Ys,lastMarks->Yt,wpAny_call_entry->Yw,wpAny_getItem_of->Yz,seqIndex_of->YD,atKey->YE,wpAny_specialOf->YG,wpAny_operating->YH,wpAny_Name->YQ,recursionLimit->YT,wpAny_call->YU,bindL->YV,bindC->YW,PlainAttrs->YY,call->Y0,newFunctionEnv->Y1,compPost->Y2,letTemporaryGo->Y4,meets_dict_get->Y5,Model->Ze,setItem->Zg
open PySem.W renaming Frag->Uw,findIn->U3,mg_of->U7,mg_none_of->Vd,fnOf->Vt,keepIn->Vx,emptyDict->VL,specialIn->VM,kia_one->VY,kia_tup->VZ,nsIn->V2,kitOne->Wh,boot_heap->Wl,instObj->Wn,cellsFrom_some->Wo,openSeen->WI,codeIn->WN,takesIn->W9,plainGet->Xj,callWith_K->Xk,hasDictIn->Xw,kitx_list->Xx,kitx_dict->Xy,topStub->XF,plainGet_of->XN,openGood->X6,kHook->X7,Frag->X8,OpenLaw->Yq,boot_o_0->Yr,makesIn->Yu,methodObj->YB,plainOver->YC,methodCall_KW->YF,mroIn->YM,namesBound->YN,lookIn->YR,isFn->YS,kitAny->Y6,staticsOk->Za,takerIn->Zb,SharedT->Zf
open PySem.Heap renaming get?_push_of_some->Uz,lt_size->UG,get?_push_size->UK,size_push->Vq,SameBut->WG,get?_update_other->Xn
open PySem.Value renaming ref->UB,type->Wc,str->Wm,int->W7,none->Xf,bool->Xg,float->Xv
open Option.some renaming inj->UE
open List renaming range->UJ,Nodup->U4,lookup->V5,length->We,eq_nil_of_length_eq_zero->Wy,dropLast_concat_getLast->WE,replicate->WM,getElem?_take_of_lt->W2,filter_cons_of_pos->Xe,dropLast_eq_take->Xu,set_append_left->XC,mem_of_mem_take->XD,map_filterMap->XZ,any_eq_false->Yb,findIdx?_map->Yl,length_drop->Yv,cons_append->YA,foldl_cons->YJ
open PySem.Builtin.Str renaming occurrences->UL,strKind->Vp,partsBetween->W5
open PySem.Str renaming ofString->UU,empty->Zc
open PySem.SeqAt renaming shaped->UX,EqAt->YX
open PySem.Builtin.Tuple renaming tupleExact->UY,tupleItemsOf->V6
open PySem.Builtin.Slice renaming slicePlaces->UZ,sliceApplied->Vr,sliceAdjust->V8,sliceFields->WU
open PySem.NameKind renaming cell->U6,free->Vb
open PyProof.Rows renaming slot_tuple_getitem->Vf,envOfC->V0,callWith_type1->WH,slicePart_none->WO,AllBare->WW,subscriptTail->W3,PlainShape->W6,subscriptTail_builtinR->Xl,entry_tuple_getitem->XJ,args_tuple_getitem->XU,Subscript_->XW,IntsAre->Yg
open False renaming elim->Vn
open PySem.F renaming slot_dict_get->Vs,plainAttrs_list->VH,args_dict_get_2->Wg,entry_dict_get->Wj,args_str_split_2->WT,entry_str_split->WY,slot_tuple_index->W4,plainAttrs_dict->Xb,slot_list_index->Xc,slot_str_split->Xd,plainAttrs_str->Xo,type_dict_get->Xs
open Option renaming none->Vz,isSome_some->XY,getD_none->Yx,some->Zh,none->Zi
open PySem.PyData renaming str->VC,strOk->Wk,eqv->WS,canLayAll0->WZ,depthAll->Xq,keyHash->YO,canLay0->Y9
open PySem.Calls renaming callWith_builtin->VP,evalArgs_plain->Wx,Name_function_global->WK,spliced_cons->WL,spliced_nil->WX
open Prod renaming ext->VR
open PySem.Builtin.List renaming listTooLong->Wa
open List.cons renaming inj->Wt
open ForInStep renaming yield->WB
open Array renaming getElem?_eq_getElem->WV,getElem_mem->Yi
open PySem.Paired renaming length->W0
open PySem.Obj renaming mapSeq->Xm
open PySem.PassesOwn renaming never->Xp
open Nat renaming add_le_add_left->XM,le_of_not_lt->Yy
open PySem.SeqAt.EqAt renaming int_str->XQ,str_int->XR
open PySem.Heap.IsSliceOf renaming new->XX
open PySem.Around renaming under->Yc
open PySem.Code renaming isFrame->Yd
open PySem.NumText renaming AllDigits->Yn,digitsVal->Yo
open Bool renaming or_eq_true->YI,and_false->YZ
open List.range renaming loop->YK
open Int renaming natCast_add->YL,mul_nonneg->Y7,mul_le_mul->Y8
open PySem.Walks renaming strAscii->Y3
open PyProof.Rows.IsTup renaming new->Zd
open Option renaming bind->P6,isSome_iff_exists->Q4,getD_some->Q5,bind_some->Rj,map_eq_some_iff->RF,map_some->RY,isSome_map->Sb
open List renaming mem_cons->P7,length_map->P8,not_mem_nil->P9,mem_cons_of_mem->Qa,mem_cons_self->Qb,map_cons->Qc,length_cons->Qd,getElem?_eq_getElem->Qe,mem_singleton->Qg,getElem?_eq_some_iff->Qh,length_append->Qj,size_toArray->Qk,getElem?_append_right->Ql,append_nil->Qo,getElem?_append_left->Qp,mem_append_right->Qq,mem_map->Qr,set_set->Qt,getElem?_map->Qu,length_set->Qv,lookup_cons->Qw,filterMap_cons->Qx,map_append->Qz,append_assoc->QC,mem_append->QD,map_map->QH,getElem?_cons_succ->QJ,all_eq_true->QM,length_range->QP,map_nil->QR,getElem?_cons_zero->QV,mem_of_getElem?->QY,getD_eq_getElem?_getD->QZ,drop_eq_getElem_cons->Q2,getElem?_eq_none->Q3,mem_append_left->Q6,getElem?_replicate->Q7,nodup_append->Q8,find?_cons->Q9,length_take->Rh,getElem_mem->Ri,mem_range->Rk,length_singleton->Rl,getElem?_set_ne->Rm,nodup_cons->Rn,getElem?_set_self->Rt,drop_eq_nil_of_le->Ru,getElem?_eq_none_iff->Rv,length_filterMap_le->RB,nil_append->RD,length_replicate->RJ,set_append_right->RK,range'_succ->RL,any_cons->RQ,range'->RU,getElem?_range->RV,mem_filterMap->R0,filter_cons_of_neg->R8,lookup_eq_none_iff->R9,take_sublist->Sa,ext_getElem?->Sd,any_eq_true->Sg,take_append_drop->Si,forIn_cons->Sj,map_id->Sm,zip_cons_cons->Sn,all_cons->So,getElem?_set->Ss,getElem_inj->Su,mem_filter->Sw,of_mem_zip->Sx,length_nil->Sy,sum_cons->SF,any_map->SI
open Nat renaming le_refl->Qf,le_trans->Qi,lt_of_lt_of_le->Qm,ne_of_lt->Qy,toDigits->QB,toDigits_of_lt_base->QK,sub_self->QU,lt_irrefl->Rg,le_add_right->Rq,toDigits_append_toDigits->Rr,lt_succ_self->Ry,add_sub_cancel_left->RC,lt_succ_of_lt->RH,succ_le_succ->RM,ne_of_gt->RZ,zero_le->Se,le_succ->Sf,div_add_mod->Sk,zero_add->Sv,mod_lt->SE,le_of_lt->SG,pow_succ->SJ
open Bool renaming false_ne_true->Qn,and_eq_true->Qs,eq_iff_iff->RW,false_eq_true->R7,eq_false_iff->Sr,false_and->Sz
open True renaming intro->QL
open Sum renaming inr->Q0,inl->Sl
open Array renaming length_toList->Rf,getElem?_toList->Sh
open Int renaming eq_ofNat_of_zero_le->Ro,zero_add->SK
open Ne renaming symm->Rx
open Or renaming inr->Rz,inl->RR
set_option Elab.async false
set_option linter.all false
set_option maxRecDepth 100000
namespace Hd
open PySem PySem.W PySem.Calls PyProof.Rows
noncomputable def wc(tb:String->Option XE)(p:Program)(w:UC)(n₀:Nat)(ann:Option Ut):Nat->Zf->Thread->Option Zf
 |0,_,_=>Zi
 |n+1,s,t=>match through t with
  |true=>Zh s
  |false=>match stepOk n₀ ann t with
   |false=>Zi
   |true=>match stepT (denote tb) p w s t with
    |some (s',t')=>wc tb p w n₀ ann n s' t'
    |none=>Zi
theorem Ei{tb:String->Option XE}{p:Program}{w:UC}{n₀:Nat}{ann:Option Ut}:∀{n:Nat}{s s':Zf}{t:Thread},
  wc tb p w n₀ ann n s t=Zh s'->topRun tb p w n₀ ann n s.abs t=Zh s'.abs
 |0,_,_,_,h=>by cases h
 |n+1,s,s',t,h=>by
  unfold wc at h;unfold topRun;cases he:through t with
  |true=>rw[he]at h;cases h;rfl
  |false=>
   rw[he]at h;cases hk:stepOk n₀ ann t with
   |false=>rw[hk]at h;cases h
   |true=>
    rw[hk]at h;cases hs:stepT (denote tb) p w s t with
    |none=>rw[hs]at h;cases h
    |some r=>obtain⟨s₂,t₂⟩:=r;rw[hs]at h;rw[stepT_spec hs];exact Ei h
noncomputable def N6(p q:Program)(loose:List Str)(Xt:Uy->Bool){α:Type}(Yf:Uy->α)(g0:Bool)(H:UT)(s:Uy):=
 (Za (U5 p.main.body) H s.heap&&YN p s.heap&&gensDone s&&laidKept H s.heap,WI q loose (U5 p.main.body) Xt g0 s,Yf s)
noncomputable def wZ(p:Program)(H:UT)(s:Uy):=Za (U5 p.main.body) H s.heap&&YN p s.heap&&gensDone s&&laidKept H s.heap
noncomputable def treeOf:List Obj->Nat->BT->BT
 | [],_,t=>t
 |o::r,i,t=>treeOf r (i+1) (t.ins i o)
theorem Jw{p q:Program}{loose:List Str}{Xt:Uy->Bool}{α:Type}{Yf:Uy->α}{Ya:UC->α}{N:Nat}{g0:Bool}{H₀:VD->UT}{gs₀:Array WJ}{d₀:Drawn}{k₀ m₀ n₀:Nat}{ann:Option Ut}{T₀:VD->BT}{life:Life}
  (opn:∀w:UC,(fencedOpening VU p w N).map (λs=>(s.heap,s.gens,s.drawn,s.toks))=Zh (H₀ w.params,gs₀,d₀,k₀))
  (size:∀w:UC,((H₀ w.params).isNs UD&&gs₀.size==0,(H₀ w.params).objs.size,(H₀ w.params).nsMap UD "__annotations__")=(true,m₀,ann))
  (tree:∀P:VD,absHeap (T₀ P) n₀ life=H₀ P)
  (look:∀(w:UC)(os:Vk),(wc VU p w m₀ ann N ⟨T₀ w.params,n₀,life,gs₀,d₀,k₀,os⟩ (XF p)).map (λs=>N6 p q loose Xt Yf g0 (H₀ w.params) s.abs)=Zh (true,X6 q loose,Ya w)) :
  LeftO p q loose Xt Yf Ya N g0:=λw=>by
 obtain⟨⟨h,gs,d,k,os⟩,e,e'⟩:=RF.mp (opn w)
 obtain⟨rfl,rfl,rfl,rfl⟩:h=H₀ w.params/\gs=gs₀/\d=d₀/\k=k₀:=by simpa using e'
 obtain⟨z1,z2,z3⟩:_/\_/\_:=by simpa only[Prod.mk.injEq] using size w
 obtain⟨s,hs,hl⟩:=RF.mp (look w os)
 obtain⟨l1,l23⟩:=Prod.mk.inj hl
 obtain⟨l2,l3⟩:=Prod.mk.inj l23
 have r:=Ei hs
 have t:topFrom VU p w N ⟨H₀ w.params,gs,d,k,os⟩=Zh s.abs:=by
  unfold topFrom;dsimp only;rw[z1,z2,z3];unfold SharedT.abs at r;dsimp only at r;rw[tree w.params]at r;show(topRun VU p w m₀ ann N ⟨H₀ w.params,gs,d,k,os⟩ (XF p)).bind _=_;rw[r];show(match Za (U5 p.main.body) (H₀ w.params) s.abs.heap&&YN p s.abs.heap&&gensDone s.abs&&laidKept (H₀ w.params) s.abs.heap with|true=>_|false=>_)=_;rw[l1];rfl
 unfold openEnds
 rw[e]
 show(topFrom VU p w N _).map _=_
 rw[t]
 exact congrArg Zh (VR l2 l3)
theorem DP{p q:Program}{loose:List Str}{Xt:Uy->Bool}{α:Type}{Yf:Uy->α}{Ya:UC->α}{N:Nat}{g0:Bool}{H₀:VD->UT}{gs₀:Array WJ}{d₀:Drawn}{k₀ m₀ n₀:Nat}{ann:Option Ut}{T₀:VD->BT}{life:Life}{lit:List (Option PlainShape)}
  (opn:∀w:UC,(fencedOpening VU p w N).map (λs=>(s.heap,s.gens,s.drawn,s.toks))=Zh (H₀ w.params,gs₀,d₀,k₀))
  (size:∀w:UC,((H₀ w.params).isNs UD&&gs₀.size==0,(H₀ w.params).objs.size,(H₀ w.params).nsMap UD "__annotations__")=(true,m₀,ann))
  (tree:∀P:VD,absHeap (T₀ P) n₀ life=H₀ P)
  (EA:∀(w:UC)(os:Vk),(wc VU p w m₀ ann N ⟨T₀ w.params,n₀,life,gs₀,d₀,k₀,os⟩ (XF p)).map (λs=>wZ p (H₀ w.params) s.abs&&((WI q loose (U5 p.main.body) Xt g0 s.abs).2.2.1&&((WI q loose (U5 p.main.body) Xt g0 s.abs).2.2.2.1&&(decide ((WI q loose (U5 p.main.body) Xt g0 s.abs).2.1=(X6 q loose).2.1)&&(WI q loose (U5 p.main.body) Xt g0 s.abs).2.2.2.2.2.2.2.1.2))))=Zh true)
  (look3:∀(w:UC)(os:Vk),(wc VU p w m₀ ann N ⟨T₀ w.params,n₀,life,gs₀,d₀,k₀,os⟩ (XF p)).map (λs=>(WI q loose (U5 p.main.body) Xt g0 s.abs).1)=Zh (X6 q loose).1)
  (EP:∀(w:UC)(os:Vk),(wc VU p w m₀ ann N ⟨T₀ w.params,n₀,life,gs₀,d₀,k₀,os⟩ (XF p)).map (λs=>(WI q loose (U5 p.main.body) Xt g0 s.abs).2.2.2.2.2.1)=Zh lit)
  (look2:∀(w:UC)(os:Vk),(wc VU p w m₀ ann N ⟨T₀ w.params,n₀,life,gs₀,d₀,k₀,os⟩ (XF p)).map (λs=>Yf s.abs)=Zh (Ya w))
  (hl:lit=(X6 q loose).2.2.2.2.2.1) (e1:drecsOf q=[]) (e2:dclssOf q loose=[]) (e3:wdefsOf q=[]) (e4:wclssOf q loose=[]) :
  LeftO p q loose Xt Yf Ya N g0:=Jw opn size tree λw os=>by
 obtain⟨s,hs,h1⟩:=RF.mp (EA w os)
 simp only[Qs,decide_eq_true_eq]at h1
 obtain⟨h1,h5,h6,h7,h8⟩:=h1
 have h2:=look2 w os
 have h3:=look3 w os
 have hp:=EP w os
 rw[hs]at h2 h3 hp⊢
 have u1:pinSeenD q (drecsOf q) s.abs=pinGoodD (drecsOf q):=by rw[e1];rfl
 have u2:plainSeenE q (looseW q loose) s.abs=plainGoodE q (looseW q loose):=(UE hp).trans hl
 have u3:plainSeenD q loose s.abs=plainGoodD q loose:=by unfold plainSeenD plainGoodD;rw[e2];rfl
 have u4:wideSeen q s.abs=wideGood q:=by
  refine VR ?_ h8;show(wdefsOf q).map _=(wdefsOf q).map _;rw[e3];rfl
 have u5:clsSeenW q loose s.abs=clsGoodW q loose:=by unfold clsSeenW clsGoodW;rw[e4];rfl
 exact congrArg Zh (VR h1 (VR (VR (UE h3) (VR h7 (VR h5 (VR h6 (VR u1 (VR u2 (VR u3 (VR u4 u5)))))))) (UE h2)))
end Hd
namespace L2
open PySem PySem.Spec PyProof.Rows
noncomputable def Zk(s:UP)(j:Nat):UP:=match s with
 | .ClassDef _ _ _ body _ _ _ _ _ _ _=>body.getD j (.Pass ⟨0,0,0,0⟩)
 |_=>.Pass ⟨0,0,0,0⟩
noncomputable def cI(s:UP):Arguments:=match s with
 | .FunctionDef _ a _ _ _ _ _ _ _ _=>a
 |_=>{ posonlyargs:=[],args:=[],vararg:=Zi,kwonlyargs:=[],kw_defaults:=[],kwarg:=Zi,defaults:=[] }
noncomputable def b9(s:UP):List UP:=match s with
 | .FunctionDef _ _ b _ _ _ _ _ _ _=>b
 |_=>[]
noncomputable def aL(s:UP):Wu:=match s with
 | .FunctionDef _ _ _ _ _ _ sc _ _ _=>sc
 |_=>{ kind:=.function,names:=[],isGenerator:=false,isCoroutine:=false }
end L2
namespace K14
open PySem
noncomputable def top(i:Nat):UP:=PySem.Challenge.pw_hushrow_k14_plain_programs_read.main.body.getD i (.Pass ⟨0,0,0,0⟩)
end K14
set_option genSizeOf false
set_option bootstrap.genMatcherCode false
set_option compiler.extract_closed false
set_option maxHeartbeats 0
namespace K14
open PySem L2 PySem.W
noncomputable abbrev Ey(P:VD)(x:Str)(t:Nat)(v:Ut):Yp:=⟨YO P x,.str x t,v⟩
noncomputable abbrev FL(P:VD)(a:Nat)(l:Int)(b:Nat):=Ey P "__firstlineno__" a (.int l b)
noncomputable abbrev SA(P:VD)(a b:Nat):=Ey P "__static_attributes__" a (.ref b)
noncomputable abbrev DO(P:VD)(a:Nat):=Ey P "__doc__" a .none
noncomputable abbrev M3O(P:VD)(a:Nat):=Ey P "__module__" a (.str "hushrow.errors" 194)
noncomputable abbrev M4O(P:VD)(a:Nat):=Ey P "__module__" a (.str "hushrow.rows" 425)
noncomputable abbrev ER(P:VD)(x:Str)(a b:Nat):=Ey P x a (.ref b)
noncomputable abbrev DI(x:Array Yp)(n:Nat):Obj:={.type "dict",Zi,.dict x n,#[]}
noncomputable abbrev WR(x:Str)(a b:Nat)(y:String):Obj:={.type "getset_descriptor",Zi,.fields #[.str x a,.ref b,.builtin y,.none],#[]}
noncomputable abbrev CX(n:Str)(a c:Nat)(bs m s:List Ut)(d:Option Ut)(u v:Nat)(w:String):Obj:={.type "type",Zi,.cls { name:=n,bases:=bs,mro:=.ref a::m,ns:=c,qualname:=n,hasDict:=true,slotNames:=[],subclasses:=s,abstract:=false,collection:=Zi,hasDel:=false },#[d,Zi,Zh (.str n u),Zh (.str n v),Zh (.builtin w),Zh (.bool true)]}
noncomputable abbrev CR(n:Str)(a c d u:Nat):Obj:=CX n a c [.ref 84] [.ref 84,.type "object"] [] (Zh (.ref d)) u (u+8) "object.__new__"
noncomputable abbrev CO(n q:Str)(t:Nat)(l a:Int)(r:Nat)(m:Nat):Obj:={.type "code",Zi,.fields #[.str n t,.str q (t+1),.str "/claim/cut.py" (t+2),.int l 0,.int a 0,.int 0 0,.int 0 0,.int 3 0,.ref r,.bool true,.int 181 0,.ref (r+1),.none,.ref (r+2),.ref (r+3),.ref (r+4),.int m 0,.int l 0,.str "/claim/cut.py" (m+1)],#[]}
noncomputable abbrev FU(n q:Str)(s:UP)(m:Str)(t c:Nat):Obj:={.type "function",Zi,.func (Vt n q (cI s) (b9 s) (aL s) .none .none .none (.str m t) Zi (.ref c) .none),#[]}
noncomputable abbrev FD(n q:Str)(s:UP)(d:Nat)(m:Str)(t c:Nat):Obj:={.type "function",Zi,.func (Vt n q (cI s) (b9 s) (aL s) (.ref d) .none .none (.str m t) Zi (.ref c) .none),#[]}
noncomputable abbrev F8T(x:Str)(i c:Nat):=FU x x (top i) "hushrow.things" 354 c
noncomputable abbrev F9T(x:Str)(i c:Nat):=FU x x (top i) "hushrow.costs" 1036 c
noncomputable abbrev oy(x:Str)(i c:Nat):=FU x x (top i) "hushrow.forms" 1070 c
noncomputable abbrev HD(x:Str)(i c:Nat):=FU x x (top i) "hushrow.names" 1237 c
noncomputable abbrev HR(x:Str)(i c:Nat):=FU x x (top i) "hushrow.reader" 1358 c
noncomputable abbrev iP(x:Str)(i c:Nat):=FU x x (top i) "law_hushrow_k14_plain_programs_read" 1533 c
noncomputable abbrev qR(x y:Str)(i j c:Nat):=FU x y (Zk (top i) j) "hushrow.rows" 425 c
noncomputable abbrev D3(x y:Str)(i j c:Nat):=FU x y (Zk (top i) j) "hushrow.names" 1237 c
noncomputable abbrev wH(x y:Str)(i j c:Nat):=FU x y (Zk (top i) j) "hushrow.reader" 1358 c
noncomputable def heapK(P:VD):Uw:=
 (nat_lit 2,{.none,Zi,.dict #[] 0,#[]})::
 (nat_lit 3,DI #[Ey P "__name__" 165 (.str "law_hushrow_k14_plain_programs_read" 1533),DO P 166,Ey P "__package__" 167 .none,Ey P "__loader__" 168 (.builtin "__main__.__loader__#opaque"),Ey P "__spec__" 169 .none,ER P "__annotations__" 170 6,ER P "__builtins__" 171 4,Ey P "__file__" 173 (.str "/claim/cut.py" 172),Ey P "__cached__" 174 .none,ER P "_wall" 193 21,ER P "HushError" 213 31,ER P "NoRow" 238 51,ER P "NoNest" 263 70,ER P "TooMuch" 288 89,ER P "NoName" 315 108,ER P "TooLong" 340 127,ER P "WORDS" 346 130,ER P "rank_told" 353 137,Ey P "LETTERS" 357 (.str "abcdefghijklmnopqrstuvwxyz" 356),Ey P "FIGURES" 359 (.str "0123456789" 358),Ey P "MOST_LETTERS" 361 (.int (8) 360),Ey P "MOST_FIGURES" 363 (.int (12) 362),ER P "BETWEEN" 371 138,ER P "made_of" 377 143,ER P "is_name" 384 150,ER P "number_of" 391 157,ER P "thing_of" 398 164,ER P "value_of" 405 171,ER P "value_of_one" 413 178,ER P "value_of_three" 424 185,ER P "Row" 469 216,ER P "HandRow" 504 244,ER P "GivenRow" 541 270,ER P "OwnRow" 576 296,ER P "LetRow" 611 322,ER P "SetRow" 660 362,ER P "PutRow" 711 402,ER P "SendRow" 753 435,ER P "SayRow" 804 475,ER P "CallRow" 846 508,ER P "LastRow" 869 527,ER P "IfRow" 917 560,ER P "LoopRow" 965 593,ER P "DeedRow" 1002 619,ER P "Program" 1035 638,ER P "most_of" 1043 647,ER P "most_of_row" 1053 654,ER P "mosts" 1062 661,ER P "most" 1069 668,Ey P "MOST_SIZE" 1073 (.int (20) 1072),Ey P "MOST_ROUNDS" 1075 (.int (100) 1074),Ey P "MOST_PARTS" 1077 (.int (4) 1076),ER P "whole" 1083 673,ER P "name_told" 1090 680,ER P "number_up_to" 1099 687,ER P "alone_form" 1106 694,ER P "ranked_form" 1113 701,ER P "given_form" 1121 708,ER P "own_form" 1128 715,ER P "deed_form" 1134 720,ER P "call_form" 1140 725,ER P "listed_form" 1148 732,ER P "named_value_form" 1155 739,ER P "put_form" 1162 746,ER P "say_form" 1169 753,ER P "if_form" 1176 760,ER P "loop_form" 1184 767,ER P "idle_form" 1194 774,ER P "TAKERS" 1227 775,ER P "form_of" 1236 782,ER P "SERVING" 1261 783,ER P "names_told" 1267 794,ER P "things_used" 1273 799,ER P "value_used" 1280 806,ER P "names_used" 1287 813,ER P "Names" 1357 858,Ey P "MOST_ROWS" 1361 (.int (200) 1360),Ey P "MOST_DEEDS" 1363 (.int (8) 1362),Ey P "MOST_DEEP" 1365 (.int (6) 1364),Ey P "MOST_STEPS" 1367 (.int (10000) 1366),ER P "HEADS" 1372 863,ER P "head_made" 1380 870,ER P "row_made" 1389 877,ER P "Opened" 1422 894,ER P "Reader" 1515 962,ER P "check_steps" 1521 971,ER P "read" 1532 978,ER P "_law_cell_at" 1543 985,ER P "_law_more" 1549 990,ER P "_law_mix" 1560 997,ER P "_law_names" 1566 1002,ER P "_law_head" 1577 1009,ER P "_law_scope" 1588 1016,ER P "_law_pick" 1596 1023,ER P "_law_thing" 1604 1030,ER P "_law_value" 1615 1037,ER P "_law_row" 1621 1042,ER P "_law_rows" 1627 1047,ER P "_law_text" 1633 1052,ER P "_law_whole" 1641 1059,ER P "_law_parts" 1650 1066,ER P "_law_value_told" 1658 1073,ER P "_law_head_told" 1669 1080,ER P "_law_row_told" 1678 1087,ER P "_law_told" 1689 1094,ER P "_law_same" 1702 1101,ER P "law" 1708 1106] 107)::
 (nat_lit 30,DI #[M3O P 203,FL P 207 5 206,SA P 208 29,ER P "__weakref__" 210 32,DO P 211] 3)::
 (nat_lit 31,CX "HushError" 31 30 [.type "ValueError"] [.type "ValueError",.type "Exception",.type "BaseException",.type "object"] [.ref 51,.ref 70,.ref 89,.ref 108,.ref 127] (Zh (.ref 22)) 196 204 "ValueError.__new__")::
 (nat_lit 32,WR "__weakref__" 209 31 "ExceptionGroup.__weakref__")::
 (nat_lit 50,DI #[M3O P 221,FL P 225 7 224,ER P "__init__" 233 48,SA P 235 49,DO P 236] 2)::
 (nat_lit 51,CX "NoRow" 51 50 [.ref 31] [.ref 31,.type "ValueError",.type "Exception",.type "BaseException",.type "object"] [] (Zh (.ref 35)) 214 222 "ValueError.__new__")::
 (nat_lit 69,DI #[M3O P 246,FL P 250 11 249,ER P "__init__" 258 67,SA P 260 68,DO P 261] 2)::
 (nat_lit 70,CX "NoNest" 70 69 [.ref 31] [.ref 31,.type "ValueError",.type "Exception",.type "BaseException",.type "object"] [] (Zh (.ref 54)) 239 247 "ValueError.__new__")::
 (nat_lit 88,DI #[M3O P 271,FL P 275 15 274,ER P "__init__" 283 86,SA P 285 87,DO P 286] 2)::
 (nat_lit 89,CX "TooMuch" 89 88 [.ref 31] [.ref 31,.type "ValueError",.type "Exception",.type "BaseException",.type "object"] [] (Zh (.ref 73)) 264 272 "ValueError.__new__")::
 (nat_lit 107,DI #[M3O P 296,FL P 300 19 299,ER P "__init__" 309 105,SA P 312 106,DO P 313] 2)::
 (nat_lit 108,CX "NoName" 108 107 [.ref 31] [.ref 31,.type "ValueError",.type "Exception",.type "BaseException",.type "object"] [] (Zh (.ref 92)) 289 297 "ValueError.__new__")::
 (nat_lit 126,DI #[M3O P 323,FL P 327 24 326,ER P "__init__" 335 124,SA P 337 125,DO P 338] 2)::
 (nat_lit 127,CX "TooLong" 127 126 [.ref 31] [.ref 31,.type "ValueError",.type "Exception",.type "BaseException",.type "object"] [] (Zh (.ref 111)) 316 324 "ValueError.__new__")::
 (nat_lit 130,{(.type "tuple"),Zi,.seq #[(.str "open" 343),(.str "house" 344),(.str "closed" 345)] 0,#[]})::
 (nat_lit 136,CO "rank_told" "rank_told" 347 30 1 131 351)::
 (nat_lit 137,FU "rank_told" "rank_told" (top 10) "hushrow.ranks" 341 136)::
 (nat_lit 138,{(.type "tuple"),Zi,.seq #[(.str "+" 364),(.str "-" 365),(.str "*" 366),(.str "over" 367),(.str "rest" 368),(.str "<" 369),(.str "=" 370)] 0,#[]})::
 (nat_lit 142,{(.type "code"),Zi,.fields #[(.str "made_of" 372),(.str "made_of" 373),(.str "/claim/cut.py" 374),(.int (40) 0),(.int (3) 0),(.int (0) 0),(.int (0) 0),(.int (3) 0),(.ref 139),(.bool true),(.int (181) 0),(.ref 140),.none,.none,.none,(.ref 141),(.int (375) 0),(.int (40) 0),(.str "/claim/cut.py" 376)],#[]})::
 (nat_lit 143,F8T "made_of" 17 142)::
 (nat_lit 149,CO "is_name" "is_name" 378 42 1 144 382)::
 (nat_lit 150,F8T "is_name" 18 149)::
 (nat_lit 156,CO "number_of" "number_of" 385 44 1 151 389)::
 (nat_lit 157,F8T "number_of" 19 156)::
 (nat_lit 163,CO "thing_of" "thing_of" 392 50 1 158 396)::
 (nat_lit 164,F8T "thing_of" 20 163)::
 (nat_lit 170,CO "value_of" "value_of" 399 54 1 165 403)::
 (nat_lit 171,F8T "value_of" 21 170)::
 (nat_lit 177,CO "value_of_one" "value_of_one" 406 60 1 172 411)::
 (nat_lit 178,F8T "value_of_one" 22 177)::
 (nat_lit 184,CO "value_of_three" "value_of_three" 414 65 3 179 422)::
 (nat_lit 185,F8T "value_of_three" 23 184)::
 (nat_lit 198,CO "__init__" "Row.__init__" 439 76 2 193 444)::
 (nat_lit 199,qR "__init__" "Row.__init__" 25 0 198)::
 (nat_lit 215,DI #[M4O P 434,FL P 438 74 437,ER P "__init__" 446 199,ER P "reads" 453 206,ER P "target" 460 213,SA P 462 214,ER P "__dict__" 464 217,ER P "__weakref__" 466 218,DO P 467] 4)::
 (nat_lit 216,CX "Row" 216 215 [.type "object"] [.type "object"] [.ref 244,.ref 270,.ref 296,.ref 322,.ref 362,.ref 402,.ref 435,.ref 475,.ref 508,.ref 527,.ref 560,.ref 593,.ref 619] Zi 427 435 "object.__new__")::
 (nat_lit 217,{(.type "getset_descriptor"),Zi,.fields #[(.str "__dict__" 463),(.ref 216),(.builtin "function.__dict__"),(.builtin "function.__dict__#set")],#[]})::
 (nat_lit 218,WR "__weakref__" 465 216 "ExceptionGroup.__weakref__")::
 (nat_lit 233,CO "__init__" "HandRow.__init__" 482 86 4 228 489)::
 (nat_lit 234,qR "__init__" "HandRow.__init__" 26 0 233)::
 (nat_lit 243,DI #[M4O P 477,FL P 481 84 480,ER P "__init__" 491 234,ER P "shown" 498 241,SA P 501 242,DO P 502] 2)::
 (nat_lit 244,CX "HandRow" 244 243 [.ref 216] [.ref 216,.type "object"] [] (Zh (.ref 221)) 470 478 "object.__new__")::
 (nat_lit 259,CO "__init__" "GivenRow.__init__" 517 95 5 254 525)::
 (nat_lit 260,qR "__init__" "GivenRow.__init__" 27 0 259)::
 (nat_lit 269,DI #[M4O P 512,FL P 516 93 515,ER P "__init__" 527 260,ER P "shown" 534 267,SA P 538 268,DO P 539] 2)::
 (nat_lit 270,CX "GivenRow" 270 269 [.ref 216] [.ref 216,.type "object"] [] (Zh (.ref 247)) 505 513 "object.__new__")::
 (nat_lit 285,CO "__init__" "OwnRow.__init__" 554 105 4 280 561)::
 (nat_lit 286,qR "__init__" "OwnRow.__init__" 28 0 285)::
 (nat_lit 295,DI #[M4O P 549,FL P 553 103 552,ER P "__init__" 563 286,ER P "shown" 570 293,SA P 573 294,DO P 574] 2)::
 (nat_lit 296,CX "OwnRow" 296 295 [.ref 216] [.ref 216,.type "object"] [] (Zh (.ref 273)) 542 550 "object.__new__")::
 (nat_lit 311,CO "__init__" "LetRow.__init__" 589 114 4 306 596)::
 (nat_lit 312,qR "__init__" "LetRow.__init__" 29 0 311)::
 (nat_lit 321,DI #[M4O P 584,FL P 588 112 587,ER P "__init__" 598 312,ER P "shown" 605 319,SA P 608 320,DO P 609] 2)::
 (nat_lit 322,CX "LetRow" 322 321 [.ref 216] [.ref 216,.type "object"] [] (Zh (.ref 299)) 577 585 "object.__new__")::
 (nat_lit 337,CO "__init__" "SetRow.__init__" 624 123 4 332 631)::
 (nat_lit 338,qR "__init__" "SetRow.__init__" 30 0 337)::
 (nat_lit 361,DI #[M4O P 619,FL P 623 121 622,ER P "__init__" 633 338,ER P "shown" 640 345,ER P "reads" 647 352,ER P "target" 654 359,SA P 657 360,DO P 658] 2)::
 (nat_lit 362,CX "SetRow" 362 361 [.ref 216] [.ref 216,.type "object"] [] (Zh (.ref 325)) 612 620 "object.__new__")::
 (nat_lit 377,CO "__init__" "PutRow.__init__" 673 138 5 372 681)::
 (nat_lit 378,qR "__init__" "PutRow.__init__" 31 0 377)::
 (nat_lit 401,DI #[M4O P 668,FL P 672 136 671,ER P "__init__" 683 378,ER P "shown" 690 385,ER P "reads" 697 392,ER P "target" 704 399,SA P 708 400,DO P 709] 2)::
 (nat_lit 402,CX "PutRow" 402 401 [.ref 216] [.ref 216,.type "object"] [] (Zh (.ref 365)) 661 669 "object.__new__")::
 (nat_lit 417,CO "__init__" "SendRow.__init__" 724 154 4 412 731)::
 (nat_lit 418,qR "__init__" "SendRow.__init__" 32 0 417)::
 (nat_lit 434,DI #[M4O P 719,FL P 723 152 722,ER P "__init__" 733 418,ER P "shown" 740 425,ER P "reads" 747 432,SA P 750 433,DO P 751] 2)::
 (nat_lit 435,CX "SendRow" 435 434 [.ref 216] [.ref 216,.type "object"] [] (Zh (.ref 405)) 712 720 "object.__new__")::
 (nat_lit 450,CO "__init__" "SayRow.__init__" 766 166 5 445 774)::
 (nat_lit 451,qR "__init__" "SayRow.__init__" 33 0 450)::
 (nat_lit 474,DI #[M4O P 761,FL P 765 164 764,ER P "__init__" 776 451,ER P "shown" 783 458,ER P "reads" 790 465,ER P "target" 797 472,SA P 801 473,DO P 802] 2)::
 (nat_lit 475,CX "SayRow" 475 474 [.ref 216] [.ref 216,.type "object"] [] (Zh (.ref 438)) 754 762 "object.__new__")::
 (nat_lit 490,CO "__init__" "CallRow.__init__" 817 182 4 485 824)::
 (nat_lit 491,qR "__init__" "CallRow.__init__" 34 0 490)::
 (nat_lit 507,DI #[M4O P 812,FL P 816 180 815,ER P "__init__" 826 491,ER P "shown" 833 498,ER P "reads" 840 505,SA P 843 506,DO P 844] 2)::
 (nat_lit 508,CX "CallRow" 508 507 [.ref 216] [.ref 216,.type "object"] [] (Zh (.ref 478)) 805 813 "object.__new__")::
 (nat_lit 526,DI #[M4O P 854,FL P 858 192 857,ER P "shown" 865 524,SA P 866 525,DO P 867] 2)::
 (nat_lit 527,CX "LastRow" 527 526 [.ref 216] [.ref 216,.type "object"] [] (Zh (.ref 511)) 847 855 "object.__new__")::
 (nat_lit 559,DI #[M4O P 877,FL P 881 196 880,ER P "__init__" 894 543,ER P "shown" 901 550,ER P "reads" 908 557,SA P 914 558,DO P 915] 2)::
 (nat_lit 560,CX "IfRow" 560 559 [.ref 216] [.ref 216,.type "object"] [] (Zh (.ref 530)) 870 878 "object.__new__")::
 (nat_lit 592,DI #[M4O P 925,FL P 929 211 928,ER P "__init__" 942 576,ER P "shown" 949 583,ER P "reads" 956 590,SA P 962 591,DO P 963] 2)::
 (nat_lit 593,CX "LoopRow" 593 592 [.ref 216] [.ref 216,.type "object"] [] (Zh (.ref 563)) 918 926 "object.__new__")::
 (nat_lit 608,CO "__init__" "DeedRow.__init__" 978 228 5 603 986)::
 (nat_lit 609,qR "__init__" "DeedRow.__init__" 38 0 608)::
 (nat_lit 618,DI #[M4O P 973,FL P 977 226 976,ER P "__init__" 988 609,ER P "shown" 995 616,SA P 999 617,DO P 1000] 2)::
 (nat_lit 619,CX "DeedRow" 619 618 [.ref 216] [.ref 216,.type "object"] [] (Zh (.ref 596)) 966 974 "object.__new__")::
 (nat_lit 634,CO "__init__" "Program.__init__" 1015 238 4 629 1022)::
 (nat_lit 635,qR "__init__" "Program.__init__" 39 0 634)::
 (nat_lit 637,DI #[M4O P 1010,FL P 1014 236 1013,ER P "__init__" 1024 635,SA P 1028 636,ER P "__dict__" 1030 639,ER P "__weakref__" 1032 640,DO P 1033] 4)::
 (nat_lit 638,CX "Program" 638 637 [.type "object"] [.type "object"] [] Zi 1003 1011 "object.__new__")::
 (nat_lit 639,{(.type "getset_descriptor"),Zi,.fields #[(.str "__dict__" 1029),(.ref 638),(.builtin "function.__dict__"),(.builtin "function.__dict__#set")],#[]})::
 (nat_lit 640,WR "__weakref__" 1031 638 "ExceptionGroup.__weakref__")::
 (nat_lit 646,{(.type "code"),Zi,.fields #[(.str "most_of" 1038),(.str "most_of" 1039),(.str "/claim/cut.py" 1040),(.int (243) 0),(.int (2) 0),(.int (0) 0),(.int (0) 0),(.int (3) 0),(.ref 643),(.bool true),(.int (181) 0),(.ref 644),.none,.none,.none,(.ref 645),(.int (1041) 0),(.int (243) 0),(.str "/claim/cut.py" 1042)],#[]})::
 (nat_lit 647,F9T "most_of" 41 646)::
 (nat_lit 653,CO "most_of_row" "most_of_row" 1044 245 2 648 1051)::
 (nat_lit 654,F9T "most_of_row" 42 653)::
 (nat_lit 660,CO "mosts" "mosts" 1054 255 1 655 1060)::
 (nat_lit 661,F9T "mosts" 43 660)::
 (nat_lit 667,CO "most" "most" 1063 260 1 662 1067)::
 (nat_lit 668,F9T "most" 44 667)::
 (nat_lit 672,{(.type "code"),Zi,.fields #[(.str "whole" 1078),(.str "whole" 1079),(.str "/claim/cut.py" 1080),(.int (266) 0),(.int (1) 0),(.int (0) 0),(.int (0) 0),(.int (3) 0),(.ref 669),(.bool true),(.int (181) 0),(.ref 670),.none,.none,.none,(.ref 671),(.int (1081) 0),(.int (266) 0),(.str "/claim/cut.py" 1082)],#[]})::
 (nat_lit 673,oy "whole" 49 672)::
 (nat_lit 679,CO "name_told" "name_told" 1084 270 1 674 1088)::
 (nat_lit 680,oy "name_told" 50 679)::
 (nat_lit 686,CO "number_up_to" "number_up_to" 1091 272 2 681 1097)::
 (nat_lit 687,oy "number_up_to" 51 686)::
 (nat_lit 693,CO "alone_form" "alone_form" 1100 277 1 688 1104)::
 (nat_lit 694,oy "alone_form" 52 693)::
 (nat_lit 700,CO "ranked_form" "ranked_form" 1107 279 1 695 1111)::
 (nat_lit 701,oy "ranked_form" 53 700)::
 (nat_lit 707,CO "given_form" "given_form" 1114 283 1 702 1119)::
 (nat_lit 708,oy "given_form" 54 707)::
 (nat_lit 714,CO "own_form" "own_form" 1122 290 1 709 1126)::
 (nat_lit 715,oy "own_form" 55 714)::
 (nat_lit 719,{(.type "code"),Zi,.fields #[(.str "deed_form" 1129),(.str "deed_form" 1130),(.str "/claim/cut.py" 1131),(.int (296) 0),(.int (1) 0),(.int (0) 0),(.int (0) 0),(.int (3) 0),(.ref 716),(.bool true),(.int (181) 0),(.ref 717),.none,.none,.none,(.ref 718),(.int (1132) 0),(.int (296) 0),(.str "/claim/cut.py" 1133)],#[]})::
 (nat_lit 720,oy "deed_form" 56 719)::
 (nat_lit 724,{(.type "code"),Zi,.fields #[(.str "call_form" 1135),(.str "call_form" 1136),(.str "/claim/cut.py" 1137),(.int (300) 0),(.int (1) 0),(.int (0) 0),(.int (0) 0),(.int (3) 0),(.ref 721),(.bool true),(.int (181) 0),(.ref 722),.none,.none,.none,(.ref 723),(.int (1138) 0),(.int (300) 0),(.str "/claim/cut.py" 1139)],#[]})::
 (nat_lit 725,oy "call_form" 57 724)::
 (nat_lit 731,CO "listed_form" "listed_form" 1141 304 2 726 1146)::
 (nat_lit 732,oy "listed_form" 58 731)::
 (nat_lit 738,CO "named_value_form" "named_value_form" 1149 308 1 733 1153)::
 (nat_lit 739,oy "named_value_form" 59 738)::
 (nat_lit 745,CO "put_form" "put_form" 1156 312 1 740 1160)::
 (nat_lit 746,oy "put_form" 60 745)::
 (nat_lit 752,CO "say_form" "say_form" 1163 316 1 747 1167)::
 (nat_lit 753,oy "say_form" 61 752)::
 (nat_lit 775,DI #[ER P "hand" 1195 701,ER P "let" 1197 701,ER P "given" 1199 708,ER P "own" 1201 715,ER P "deed" 1203 720,ER P "main" 1205 694,ER P "set" 1207 739,ER P "send" 1209 739,ER P "put" 1211 746,ER P "say" 1213 753,ER P "call" 1215 725,ER P "last" 1217 694,ER P "end" 1219 694,ER P "else" 1221 694,ER P "if" 1223 760,ER P "loop" 1225 767] 16)::
 (nat_lit 781,CO "form_of" "form_of" 1228 338 1 776 1234)::
 (nat_lit 782,oy "form_of" 66 781)::
 (nat_lit 783,DI #[ER P "thing" 1239 784,ER P "list" 1243 785,ER P "place" 1246 786,ER P "put" 1249 787,ER P "hand" 1251 788,ER P "mark" 1253 789] 6)::
 (nat_lit 784,{(.type "tuple"),Zi,.seq #[(.str "given" 1240),(.str "own" 1241),(.str "part" 1242)] 0,#[]})::
 (nat_lit 785,{(.type "tuple"),Zi,.seq #[(.str "given list" 1244),(.str "own list" 1245)] 0,#[]})::
 (nat_lit 786,{(.type "tuple"),Zi,.seq #[(.str "own" 1247),(.str "part" 1248)] 0,#[]})::
 (nat_lit 787,{(.type "tuple"),Zi,.seq #[(.str "own list" 1250)] 0,#[]})::
 (nat_lit 788,{(.type "tuple"),Zi,.seq #[(.str "hand" 1252)] 0,#[]})::
 (nat_lit 789,{(.type "tuple"),Zi,.seq #[(.str "mark" 1254)] 0,#[]})::
 (nat_lit 793,{(.type "code"),Zi,.fields #[(.str "names_told" 1262),(.str "names_told" 1263),(.str "/claim/cut.py" 1264),(.int (346) 0),(.int (1) 0),(.int (0) 0),(.int (0) 0),(.int (3) 0),(.ref 790),(.bool true),(.int (181) 0),(.ref 791),.none,.none,.none,(.ref 792),(.int (1265) 0),(.int (346) 0),(.str "/claim/cut.py" 1266)],#[]})::
 (nat_lit 794,HD "names_told" 69 793)::
 (nat_lit 798,{(.type "code"),Zi,.fields #[(.str "things_used" 1268),(.str "things_used" 1269),(.str "/claim/cut.py" 1270),(.int (358) 0),(.int (1) 0),(.int (0) 0),(.int (0) 0),(.int (3) 0),(.ref 795),(.bool true),(.int (181) 0),(.ref 796),.none,.none,.none,(.ref 797),(.int (1271) 0),(.int (358) 0),(.str "/claim/cut.py" 1272)],#[]})::
 (nat_lit 799,HD "things_used" 70 798)::
 (nat_lit 805,CO "value_used" "value_used" 1274 360 1 800 1278)::
 (nat_lit 806,HD "value_used" 71 805)::
 (nat_lit 812,CO "names_used" "names_used" 1281 364 1 807 1285)::
 (nat_lit 813,HD "names_used" 72 812)::
 (nat_lit 826,CO "__init__" "Names.__init__" 1300 382 1 821 1304)::
 (nat_lit 827,D3 "__init__" "Names.__init__" 73 0 826)::
 (nat_lit 833,CO "fault" "Names.fault" 1307 388 2 828 1316)::
 (nat_lit 834,D3 "fault" "Names.fault" 73 1 833)::
 (nat_lit 840,CO "serves" "Names.serves" 1319 401 3 835 1326)::
 (nat_lit 841,D3 "serves" "Names.serves" 73 2 840)::
 (nat_lit 847,CO "keep" "Names.keep" 1329 409 2 842 1336)::
 (nat_lit 848,D3 "keep" "Names.keep" 73 3 847)::
 (nat_lit 854,CO "end_deed" "Names.end_deed" 1339 417 1 849 1343)::
 (nat_lit 855,D3 "end_deed" "Names.end_deed" 73 4 854)::
 (nat_lit 857,DI #[Ey P "__module__" 1295 (.str "hushrow.names" 1237),FL P 1299 380 1298,ER P "__init__" 1306 827,ER P "fault" 1318 834,ER P "serves" 1328 841,ER P "keep" 1338 848,ER P "end_deed" 1345 855,SA P 1350 856,ER P "__dict__" 1352 859,ER P "__weakref__" 1354 860,DO P 1355] 4)::
 (nat_lit 858,CX "Names" 858 857 [.type "object"] [.type "object"] [] Zi 1288 1296 "object.__new__")::
 (nat_lit 859,{(.type "getset_descriptor"),Zi,.fields #[(.str "__dict__" 1351),(.ref 858),(.builtin "function.__dict__"),(.builtin "function.__dict__#set")],#[]})::
 (nat_lit 860,WR "__weakref__" 1353 858 "ExceptionGroup.__weakref__")::
 (nat_lit 863,{(.type "tuple"),Zi,.seq #[(.str "hand" 1368),(.str "given" 1369),(.str "own" 1370),(.str "let" 1371)] 0,#[]})::
 (nat_lit 869,CO "head_made" "head_made" 1373 426 2 864 1378)::
 (nat_lit 870,HR "head_made" 80 869)::
 (nat_lit 876,CO "row_made" "row_made" 1381 434 2 871 1387)::
 (nat_lit 877,HR "row_made" 81 876)::
 (nat_lit 890,CO "__init__" "Opened.__init__" 1402 459 4 885 1409)::
 (nat_lit 891,wH "__init__" "Opened.__init__" 82 0 890)::
 (nat_lit 893,DI #[Ey P "__module__" 1397 (.str "hushrow.reader" 1358),FL P 1401 457 1400,ER P "__init__" 1411 891,SA P 1415 892,ER P "__dict__" 1417 895,ER P "__weakref__" 1419 896,DO P 1420] 4)::
 (nat_lit 894,CX "Opened" 894 893 [.type "object"] [.type "object"] [] Zi 1390 1398 "object.__new__")::
 (nat_lit 895,{(.type "getset_descriptor"),Zi,.fields #[(.str "__dict__" 1416),(.ref 894),(.builtin "function.__dict__"),(.builtin "function.__dict__#set")],#[]})::
 (nat_lit 896,WR "__weakref__" 1418 894 "ExceptionGroup.__weakref__")::
 (nat_lit 911,CO "__init__" "Reader.__init__" 1435 465 1 906 1439)::
 (nat_lit 912,wH "__init__" "Reader.__init__" 83 0 911)::
 (nat_lit 918,CO "take" "Reader.take" 1442 471 3 913 1450)::
 (nat_lit 919,wH "take" "Reader.take" 83 1 918)::
 (nat_lit 925,CO "inside" "Reader.inside" 1453 487 2 920 1458)::
 (nat_lit 926,wH "inside" "Reader.inside" 83 2 925)::
 (nat_lit 930,{(.type "code"),Zi,.fields #[(.str "may_stand" 1461),(.str "Reader.may_stand" 1462),(.str "/claim/cut.py" 1463),(.int (490) 0),(.int (2) 0),(.int (0) 0),(.int (0) 0),(.int (3) 0),(.ref 927),(.bool true),(.int (181) 0),(.ref 928),.none,.none,.none,(.ref 929),(.int (1464) 0),(.int (490) 0),(.str "/claim/cut.py" 1465)],#[]})::
 (nat_lit 931,wH "may_stand" "Reader.may_stand" 83 3 930)::
 (nat_lit 937,CO "check" "Reader.check" 1467 503 3 932 1474)::
 (nat_lit 938,wH "check" "Reader.check" 83 4 937)::
 (nat_lit 944,CO "turn" "Reader.turn" 1477 512 2 939 1484)::
 (nat_lit 945,wH "turn" "Reader.turn" 83 5 944)::
 (nat_lit 951,CO "place_row" "Reader.place_row" 1487 525 3 946 1493)::
 (nat_lit 952,wH "place_row" "Reader.place_row" 83 6 951)::
 (nat_lit 958,CO "done" "Reader.done" 1496 537 2 953 1501)::
 (nat_lit 959,wH "done" "Reader.done" 83 7 958)::
 (nat_lit 961,DI #[Ey P "__module__" 1430 (.str "hushrow.reader" 1358),FL P 1434 463 1433,ER P "__init__" 1441 912,ER P "take" 1452 919,ER P "inside" 1460 926,ER P "may_stand" 1466 931,ER P "check" 1476 938,ER P "turn" 1486 945,ER P "place_row" 1495 952,ER P "done" 1503 959,SA P 1508 960,ER P "__dict__" 1510 963,ER P "__weakref__" 1512 964,DO P 1513] 4)::
 (nat_lit 962,CX "Reader" 962 961 [.type "object"] [.type "object"] [] Zi 1423 1431 "object.__new__")::
 (nat_lit 963,{(.type "getset_descriptor"),Zi,.fields #[(.str "__dict__" 1509),(.ref 962),(.builtin "function.__dict__"),(.builtin "function.__dict__#set")],#[]})::
 (nat_lit 964,WR "__weakref__" 1511 962 "ExceptionGroup.__weakref__")::
 (nat_lit 970,{(.type "code"),Zi,.fields #[(.str "check_steps" 1516),(.str "check_steps" 1517),(.str "/claim/cut.py" 1518),(.int (541) 0),(.int (1) 0),(.int (0) 0),(.int (0) 0),(.int (3) 0),(.ref 967),(.bool true),(.int (181) 0),(.ref 968),.none,.none,.none,(.ref 969),(.int (1519) 0),(.int (541) 0),(.str "/claim/cut.py" 1520)],#[]})::
 (nat_lit 971,HR "check_steps" 84 970)::
 (nat_lit 977,CO "read" "read" 1522 546 1 972 1530)::
 (nat_lit 978,HR "read" 85 977)::
 (nat_lit 984,CO "_law_cell_at" "_law_cell_at" 1535 554 2 979 1541)::
 (nat_lit 985,iP "_law_cell_at" 87 984)::
 (nat_lit 989,{(.type "code"),Zi,.fields #[(.str "_law_more" 1544),(.str "_law_more" 1545),(.str "/claim/cut.py" 1546),(.int (561) 0),(.int (3) 0),(.int (0) 0),(.int (0) 0),(.int (3) 0),(.ref 986),(.bool true),(.int (181) 0),(.ref 987),.none,.none,.none,(.ref 988),(.int (1547) 0),(.int (561) 0),(.str "/claim/cut.py" 1548)],#[]})::
 (nat_lit 990,iP "_law_more" 88 989)::
 (nat_lit 996,CO "_law_mix" "_law_mix" 1550 563 2 991 1558)::
 (nat_lit 997,iP "_law_mix" 89 996)::
 (nat_lit 1001,{(.type "code"),Zi,.fields #[(.str "_law_names" 1561),(.str "_law_names" 1562),(.str "/claim/cut.py" 1563),(.int (572) 0),(.int (3) 0),(.int (0) 0),(.int (0) 0),(.int (3) 0),(.ref 998),(.bool true),(.int (181) 0),(.ref 999),.none,.none,.none,(.ref 1000),(.int (1564) 0),(.int (572) 0),(.str "/claim/cut.py" 1565)],#[]})::
 (nat_lit 1002,iP "_law_names" 90 1001)::
 (nat_lit 1008,CO "_law_head" "_law_head" 1567 588 2 1003 1575)::
 (nat_lit 1009,iP "_law_head" 91 1008)::
 (nat_lit 1015,CO "_law_scope" "_law_scope" 1578 599 2 1010 1586)::
 (nat_lit 1016,iP "_law_scope" 92 1015)::
 (nat_lit 1022,CO "_law_pick" "_law_pick" 1589 614 2 1017 1594)::
 (nat_lit 1023,iP "_law_pick" 93 1022)::
 (nat_lit 1029,CO "_law_thing" "_law_thing" 1597 616 2 1024 1602)::
 (nat_lit 1030,iP "_law_thing" 94 1029)::
 (nat_lit 1036,CO "_law_value" "_law_value" 1605 620 2 1031 1613)::
 (nat_lit 1037,iP "_law_value" 95 1036)::
 (nat_lit 1041,{(.type "code"),Zi,.fields #[(.str "_law_row" 1616),(.str "_law_row" 1617),(.str "/claim/cut.py" 1618),(.int (629) 0),(.int (3) 0),(.int (0) 0),(.int (0) 0),(.int (3) 0),(.ref 1038),(.bool true),(.int (181) 0),(.ref 1039),.none,.none,.none,(.ref 1040),(.int (1619) 0),(.int (629) 0),(.str "/claim/cut.py" 1620)],#[]})::
 (nat_lit 1042,iP "_law_row" 96 1041)::
 (nat_lit 1046,{(.type "code"),Zi,.fields #[(.str "_law_rows" 1622),(.str "_law_rows" 1623),(.str "/claim/cut.py" 1624),(.int (645) 0),(.int (3) 0),(.int (0) 0),(.int (0) 0),(.int (3) 0),(.ref 1043),(.bool true),(.int (181) 0),(.ref 1044),.none,.none,.none,(.ref 1045),(.int (1625) 0),(.int (645) 0),(.str "/claim/cut.py" 1626)],#[]})::
 (nat_lit 1047,iP "_law_rows" 97 1046)::
 (nat_lit 1051,{(.type "code"),Zi,.fields #[(.str "_law_text" 1628),(.str "_law_text" 1629),(.str "/claim/cut.py" 1630),(.int (648) 0),(.int (1) 0),(.int (0) 0),(.int (0) 0),(.int (3) 0),(.ref 1048),(.bool true),(.int (181) 0),(.ref 1049),.none,.none,.none,(.ref 1050),(.int (1631) 0),(.int (648) 0),(.str "/claim/cut.py" 1632)],#[]})::
 (nat_lit 1052,iP "_law_text" 98 1051)::
 (nat_lit 1058,CO "_law_whole" "_law_whole" 1634 656 2 1053 1639)::
 (nat_lit 1059,iP "_law_whole" 99 1058)::
 (nat_lit 1065,CO "_law_parts" "_law_parts" 1642 658 2 1060 1648)::
 (nat_lit 1066,iP "_law_parts" 100 1065)::
 (nat_lit 1072,CO "_law_value_told" "_law_value_told" 1651 668 2 1067 1656)::
 (nat_lit 1073,iP "_law_value_told" 101 1072)::
 (nat_lit 1079,CO "_law_head_told" "_law_head_told" 1659 670 2 1074 1667)::
 (nat_lit 1080,iP "_law_head_told" 102 1079)::
 (nat_lit 1086,CO "_law_row_told" "_law_row_told" 1670 685 2 1081 1676)::
 (nat_lit 1087,iP "_law_row_told" 103 1086)::
 (nat_lit 1093,CO "_law_told" "_law_told" 1679 698 3 1088 1687)::
 (nat_lit 1094,iP "_law_told" 104 1093)::
 (nat_lit 1100,CO "_law_same" "_law_same" 1690 709 5 1095 1700)::
 (nat_lit 1101,iP "_law_same" 105 1100)::
 (nat_lit 1105,{(.type "code"),Zi,.fields #[(.str "law" 1703),(.str "law" 1704),(.str "/claim/cut.py" 1705),(.int (721) 0),(.int (1) 0),(.int (0) 0),(.int (0) 0),(.int (3) 0),(.ref 1102),(.bool true),(.int (181) 0),(.ref 1103),.none,.none,.none,(.ref 1104),(.int (1706) 0),(.int (721) 0),(.str "/claim/cut.py" 1707)],#[]})::
 (nat_lit 1106,iP "law" 106 1105)::[]
noncomputable def qx:List Uu:=[2,3,30,31,32,50,51,69,70,88,89,107,108,126,127,130,136,137,138,142,143,149,150,156,157,163,164,170,171,177,178,184,185,198,199,215,216,217,218,233,234,243,244,259,260,269,270,285,286,295,296,311,312,321,322,337,338,361,362,377,378,401,402,417,418,434,435,450,451,474,475,490,491,507,508,526,527,559,560,592,593,608,609,618,619,634,635,637,638,639,640,646,647,653,654,660,661,667,668,672,673,679,680,686,687,693,694,700,701,707,708,714,715,719,720,724,725,731,732,738,739,745,746,752,753,775,781,782,783,784,785,786,787,788,789,793,794,798,799,805,806,812,813,826,827,833,834,840,841,847,848,854,855,857,858,859,860,863,869,870,876,877,890,891,893,894,895,896,911,912,918,919,925,926,930,931,937,938,944,945,951,952,958,959,961,962,963,964,970,971,977,978,984,985,989,990,996,997,1001,1002,1008,1009,1015,1016,1022,1023,1029,1030,1036,1037,1041,1042,1046,1047,1051,1052,1058,1059,1065,1066,1072,1073,1079,1080,1086,1087,1093,1094,1100,1101,1105,1106]
theorem i7(P:VD):qx=(heapK P).map (·.1):=by kernel_rfl
noncomputable abbrev prog:Program:=PySem.Challenge.pw_hushrow_k14_plain_programs_read
noncomputable abbrev law:Yq:=PySem.Challenge.rw_hushrow_k14_plain_programs_read
noncomputable def pE:Program:={ prog with main:={ prog.main with body:=[top 0,top 2,top 3,top 4,top 5,top 6,top 7,top 9,top 10,top 12,top 13,top 14,top 15,top 16,top 17,top 18,top 19,top 20,top 21,top 22,top 23,top 25,top 26,top 27,top 28,top 29,top 30,top 31,top 32,top 33,top 34,top 35,top 36,top 37,top 38,top 39,top 41,top 42,top 43,top 44,top 46,top 47,top 48,top 49,top 50,top 51,top 52,top 53,top 54,top 55,top 56,top 57,top 58,top 59,top 60,top 61,top 62,top 63,top 64,top 65,top 66,top 68,top 69,top 70,top 71,top 72,top 73,top 75,top 76,top 77,top 78,top 79,top 80,top 81,top 82,top 83,top 84,top 85,top 87,top 88,top 89,top 90,top 91,top 92,top 93,top 94,top 95,top 96,top 97,top 98,top 99,top 100,top 101,top 102,top 103,top 104,top 105,top 106] } }
noncomputable abbrev hook:W.Hook:=X7 heapK qx i7
noncomputable abbrev test:Uy->Bool:=λs=>xlAt pE [] s&&recOk (RowW.records law.row.toRowW) s
noncomputable abbrev Ej:Uy->List (Option Obj):=λs=>qx.map s.heap.get?
noncomputable abbrev Mg:UC->List (Option Obj):=λw=>(heapK w.params).map λp=>Zh p.2
noncomputable def T₀(P:VD):BT:=Hd.treeOf (Wl P).objs.toList 0 .nil
noncomputable abbrev SH(n q:Str)(s:UP):Option FnShape:=Zh {n,q,cI s,.stmts (b9 s),aL s,3,[],.none,.none,Zi,.none,0,true}
noncomputable abbrev PL(l:List (Option FnShape)):Option W6:=Zh {.type "type",true,false,true,false,6,Zh (Zh (.builtin "object.__new__")),true,true,l,true}
noncomputable def L3:List (Option W6):=[PL [SH "__init__" "Row.__init__" (Zk (top 25) 0),SH "reads" "Row.reads" (Zk (top 25) 1),SH "target" "Row.target" (Zk (top 25) 2)],PL [SH "__init__" "Program.__init__" (Zk (top 39) 0)],PL [SH "__init__" "Names.__init__" (Zk (top 73) 0),SH "fault" "Names.fault" (Zk (top 73) 1),SH "serves" "Names.serves" (Zk (top 73) 2),SH "keep" "Names.keep" (Zk (top 73) 3),SH "end_deed" "Names.end_deed" (Zk (top 73) 4)],PL [SH "__init__" "Opened.__init__" (Zk (top 82) 0)],PL [SH "__init__" "Reader.__init__" (Zk (top 83) 0),SH "take" "Reader.take" (Zk (top 83) 1),SH "inside" "Reader.inside" (Zk (top 83) 2),SH "may_stand" "Reader.may_stand" (Zk (top 83) 3),SH "check" "Reader.check" (Zk (top 83) 4),SH "turn" "Reader.turn" (Zk (top 83) 5),SH "place_row" "Reader.place_row" (Zk (top 83) 6),SH "done" "Reader.done" (Zk (top 83) 7)]]
noncomputable abbrev rn(w:UC)(os:Vk):=(Hd.wc VU prog w 11 (Zh (.ref 6)) 18516 {T₀ w.params,11,{},Array.mk [],boot_drawn,boot_toks,os} (XF prog))
noncomputable abbrev oS(s:Zf):=(WI pE ["TAKERS","SERVING"] (U5 prog.main.body) test true s.abs)
noncomputable abbrev gd:=X6 pE ["TAKERS","SERVING"]
noncomputable abbrev kt(b:Bool)(w:UC):=w.withFollow "special-get-raises" b
noncomputable def EAt(w:UC)(os:Vk):=(rn (kt true w) os).map λs=>Hd.wZ prog (Wl (kt true w).params) s.abs&&((oS s).2.2.1&&(decide ((oS s).2.1=gd.2.1)&&(oS s).2.2.2.2.2.2.2.1.2))
noncomputable def EBt(w:UC)(os:Vk):=(rn (kt true w) os).map λs=>(oS s).2.2.2.1
noncomputable def EOt(w:UC)(os:Vk):=(rn (kt true w) os).map λs=>(oS s).1
noncomputable def EPt(w:UC)(os:Vk):=(rn (kt true w) os).map λs=>(oS s).2.2.2.2.2.1
noncomputable def EMt(w:UC)(os:Vk):=(rn (kt true w) os).map λs=>Ej s.abs
noncomputable def ESt(w:UC)(os:Vk):=Zh (Mg (kt true w))
noncomputable def EAf(w:UC)(os:Vk):=(rn (kt false w) os).map λs=>Hd.wZ prog (Wl (kt false w).params) s.abs&&((oS s).2.2.1&&(decide ((oS s).2.1=gd.2.1)&&(oS s).2.2.2.2.2.2.2.1.2))
noncomputable def EBf(w:UC)(os:Vk):=(rn (kt false w) os).map λs=>(oS s).2.2.2.1
noncomputable def EOf(w:UC)(os:Vk):=(rn (kt false w) os).map λs=>(oS s).1
noncomputable def EPf(w:UC)(os:Vk):=(rn (kt false w) os).map λs=>(oS s).2.2.2.2.2.1
noncomputable def EMf(w:UC)(os:Vk):=(rn (kt false w) os).map λs=>Ej s.abs
noncomputable def ESf(w:UC)(os:Vk):=Zh (Mg (kt false w))
noncomputable def BU(w:UC)(os:Vk):=Zh true
noncomputable def CJ(w:UC)(os:Vk):=Zh L3
noncomputable def EQ(w:UC)(os:Vk):=Zh gd.1
theorem EQs:EQ=EQ:=rfl
theorem EAts:EAt=EAt:=rfl
theorem EBts:EBt=EBt:=rfl
theorem EOts:EOt=EOt:=rfl
theorem EPts:EPt=EPt:=rfl
theorem EMts:EMt=EMt:=rfl
theorem ESts:ESt=ESt:=rfl
theorem EAfs:EAf=EAf:=rfl
theorem EBfs:EBf=EBf:=rfl
theorem EOfs:EOf=EOf:=rfl
theorem EPfs:EPf=EPf:=rfl
theorem EMfs:EMf=EMf:=rfl
theorem ESfs:ESf=ESf:=rfl
end K14
noncomputable def PySem.W.Fast.tw14598715356260435866:PySem.Params->PySem.Obj:=Yr
theorem PySem.W.Fast.te14598715356260435866:Yr=PySem.W.Fast.tw14598715356260435866:=rfl
noncomputable def PySem.W.Fast.tw3162139393071077661:PySem.Program:=PySem.Challenge.pw_hushrow_k14_plain_programs_read
theorem PySem.W.Fast.te3162139393071077661:PySem.Challenge.pw_hushrow_k14_plain_programs_read=PySem.W.Fast.tw3162139393071077661:=rfl
noncomputable def PySem.W.Fast.tw16097014382603626501:PySem.Params->X8:=K14.heapK
theorem PySem.W.Fast.te16097014382603626501:K14.heapK=PySem.W.Fast.tw16097014382603626501:=rfl
lay_quick K14.EQ K14.EAt K14.EBt K14.EOt K14.EPt K14.EMt K14.ESt K14.EAf K14.EBf K14.EOf K14.EPf K14.EMf K14.ESf
name_quick K14EQ for K14.EQ by K14.EQs
name_quick K14EAt for K14.EAt by K14.EAts
name_quick K14EBt for K14.EBt by K14.EBts
name_quick K14EOt for K14.EOt by K14.EOts
name_quick K14EPt for K14.EPt by K14.EPts
name_quick K14EMt for K14.EMt by K14.EMts
name_quick K14ESt for K14.ESt by K14.ESts
name_quick K14EAf for K14.EAf by K14.EAfs
name_quick K14EBf for K14.EBf by K14.EBfs
name_quick K14EOf for K14.EOf by K14.EOfs
name_quick K14EPf for K14.EPf by K14.EPfs
name_quick K14EMf for K14.EMf by K14.EMfs
name_quick K14ESf for K14.ESf by K14.ESfs
namespace K14
open PySem L2 PySem.W
theorem Ko:L3=gd.2.2.2.2.2.1:=by kernel_rfl
theorem ur:W.Fast.K14EPt=CJ:=by kernel_rfl
theorem xA:EPt=CJ:=W.Fast.K14EPt_eq.trans ur
theorem uu:W.Fast.K14EAt=BU:=by kernel_rfl
theorem x5:EAt=BU:=W.Fast.K14EAt_eq.trans uu
theorem bn:W.Fast.K14EBt=BU:=by kernel_rfl
theorem uR:W.Fast.K14EOt=W.Fast.K14EQ:=by kernel_rfl
theorem xU:EOt=EQ:=W.Fast.K14EOt_eq.trans (uR.trans W.Fast.K14EQ_eq.symm)
theorem uA:W.Fast.K14EMt=W.Fast.K14ESt:=by kernel_rfl
theorem x2:EMt=ESt:=W.Fast.K14EMt_eq.trans (uA.trans W.Fast.K14ESt_eq.symm)
theorem uK:W.Fast.K14EPf=CJ:=by kernel_rfl
theorem xi:EPf=CJ:=W.Fast.K14EPf_eq.trans uK
theorem uM:W.Fast.K14EAf=BU:=by kernel_rfl
theorem wJ:EAf=BU:=W.Fast.K14EAf_eq.trans uM
theorem bv:W.Fast.K14EBf=BU:=by kernel_rfl
theorem ux:W.Fast.K14EOf=W.Fast.K14EQ:=by kernel_rfl
theorem wX:EOf=EQ:=W.Fast.K14EOf_eq.trans (ux.trans W.Fast.K14EQ_eq.symm)
theorem uQ:W.Fast.K14EMf=W.Fast.K14ESf:=by kernel_rfl
theorem xr:EMf=ESf:=W.Fast.K14EMf_eq.trans (uQ.trans W.Fast.K14ESf_eq.symm)
theorem Ju{Pr:UC->Prop}(h1:∀w:UC,Pr (w.withFollow "special-get-raises" true))(h2:∀w:UC,Pr (w.withFollow "special-get-raises" false))(w:UC):Pr w:=by
 have e:=World.withFollow_self w "special-get-raises";cases hb:w.params.followText "special-get-raises"<;>rw[hb]at e
 ·exact e▸h2 w
 exact e▸h1 w
theorem HY(P:VD):absHeap (T₀ P) 11 {}=Wl P:=by kernel_rfl
theorem Il(w:UC):((Wl w.params).isNs UD&&(Array.mk []:Array WJ).size==0,(Wl w.params).objs.size,(Wl w.params).nsMap UD "__annotations__")=(true,11,Zh (.ref 6)):=by kernel_rfl
theorem jp{α}{o:Option α}{a b c d:α→Bool}(h:o.map (λs=>a s&&(b s&&d s))=Zh true)(k:o.map c=Zh true):o.map (λs=>a s&&(b s&&(c s&&d s)))=Zh true:=by cases o<;>simp_all
theorem left:LeftO prog pE ["TAKERS","SERVING"] test hook.obs hook.val 18516:=Hd.DP (boot_open (p:=prog) (N:=18516) (by kernel_rfl) rfl (λ_=>rfl)) Il HY (λw os=>Ju (Pr:=λw=>(rn w os).map (λs=>Hd.wZ prog (Wl w.params) s.abs&&((oS s).2.2.1&&((oS s).2.2.2.1&&(decide ((oS s).2.1=gd.2.1)&&(oS s).2.2.2.2.2.2.2.1.2))))=Zh true) (λw=>jp (congrFun (congrFun x5 w) os) (congrFun (congrFun (W.Fast.K14EBt_eq.trans bn) w) os)) (λw=>jp (congrFun (congrFun wJ w) os) (congrFun (congrFun (W.Fast.K14EBf_eq.trans bv) w) os)) w) (λw os=>Ju (Pr:=λw=>(rn w os).map (λs=>(oS s).1)=Zh gd.1) (λw=>congrFun (congrFun xU w) os) (λw=>congrFun (congrFun wX w) os) w) (λw os=>Ju (Pr:=λw=>(rn w os).map (λs=>(oS s).2.2.2.2.2.1)=Zh L3) (λw=>congrFun (congrFun xA w) os) (λw=>congrFun (congrFun xi w) os) w) (λw os=>Ju (Pr:=λw=>(rn w os).map (λs=>Ej s.abs)=Zh (Mg w)) (λw=>congrFun (congrFun x2 w) os) (λw=>congrFun (congrFun xr w) os) w) Ko (by kernel_rfl) (by kernel_rfl) (by kernel_rfl) (by kernel_rfl)
end K14
namespace L2
open PySem PySem.Spec PyProof.Rows
noncomputable abbrev Key:=Sum Int Str
def vn:Key->Ut->Bool
 | .inl k,v=>Value.isInt k v
 | .inr x,v=>Value.isStrOf x v
def O9(w:UC):Key->Int
 | .inl k=>hashInt k
 | .inr x=>hashStr w x
theorem c8:∀{k:Key}{v:Ut},vn k v=true->(∃i t,k=Sl i/\v=W7 i t)\/(∃x t,k=Q0 x/\v=Wm x t)
 | .inl i,v,h=>by
  obtain⟨t,e⟩:=Value.isInt_shape (k:=i) (v:=v) h;exact .inl ⟨i,t,rfl,e⟩
 | .inr x,v,h=>by
  obtain⟨t,e⟩:=Value.isStrOf_shape (x:=x) (v:=v) h;exact .inr ⟨x,t,rfl,e⟩
theorem DG(i:Int)(t:Tok):vn (.inl i) (.int i t)=true:=by simp[vn,Value.isInt]
theorem Dy(x:Str)(t:Tok):vn (.inr x) (.str x t)=true:=by simp[vn,Value.isStrOf]
theorem Lp(a b:Int):decide ((Sl a:Key)=Sl b)=(a==b):=by
 by_cases e:a=b
 ·subst e;simp
 have h:¬ (Sl a:Key)=Sl b:=λq=>e (Sl.inj q);rw[decide_eq_false h];exact(beq_eq_false_iff_ne.mpr e).symm
theorem Mr(a b:Str):decide ((Q0 a:Key)=Q0 b)=decide (a=b):=by
 by_cases e:a=b
 ·subst e;simp
 have h:¬ (Q0 a:Key)=Q0 b:=λq=>e (Q0.inj q);rw[decide_eq_false h,decide_eq_false e]
theorem Ld(a:Int)(b:Str):decide ((Sl a:Key)=Q0 b)=false:=decide_eq_false (λq=>nomatch q)
theorem Ky(a:Str)(b:Int):decide ((Q0 a:Key)=Sl b)=false:=decide_eq_false (λq=>nomatch q)
def cz(prog:Program)(w:UC):PySem.KeyKind prog w Key where
 is:=vn
 hash:=O9 w
 inj:=λv a b ha hb=>by
  rcases c8 ha with⟨i,t,rfl,rfl⟩|⟨x,t,rfl,rfl⟩
  ·rcases c8 hb with⟨j,u,rfl,e⟩|⟨y,u,rfl,e⟩
   ·injection e with e1 _;rw[e1]
   exact nomatch e
  rcases c8 hb with⟨j,u,rfl,e⟩|⟨y,u,rfl,e⟩
  ·exact nomatch e
  injection e with e1 _;rw[e1]
 byValue:=λk v h=>by
  rcases c8 h with⟨i,t,rfl,rfl⟩|⟨x,t,rfl,rfl⟩<;>rfl
 pyHash:=λhv h=>by
  rcases c8 hv with⟨i,t,rfl,rfl⟩|⟨x,t,rfl,rfl⟩
  ·exact wpAny_pyHash_int h
  exact wpAny_pyHash_str h
 eqBool:=λhu hv h=>by
  rcases c8 hu with⟨i,t,rfl,rfl⟩|⟨x,t,rfl,rfl⟩
  ·rcases c8 hv with⟨j,u,rfl,rfl⟩|⟨y,u,rfl,rfl⟩
   ·rw[Lp]at h;exact wpAny_eqBool_int h
   rw[Ld]at h;exact XQ i t y u _ _ _ _ h
  rcases c8 hv with⟨j,u,rfl,rfl⟩|⟨y,u,rfl,rfl⟩
  ·rw[Ky]at h;exact XR x t j u _ _ _ _ h
  rw[Mr]at h;exact wpAny_eqBool_str h
 «strs»:=λk x t v h=>by
  rcases c8 h with⟨i,u,rfl,e⟩|⟨y,u,rfl,e⟩
  ·exact nomatch e
  injection e with e1 _;subst e1;cases v<;>rfl
theorem zX(prog:Program)(w:UC)(i:Int)(t:Tok):(cz prog w).is (.inl i) (.int i t)=true:=DG i t
theorem lC(prog:Program)(w:UC)(x:Str)(t:Tok):(cz prog w).is (.inr x) (.str x t)=true:=Dy x t
inductive V where
 |non|bl (b:Bool)|int (i:Int)|str (x:Str)|byt (b:Array UInt8)|flt (b:UInt64)|ref (a:Uu)|ty (n:String)
 deriving DecidableEq
noncomputable def Zm:V->Ut->Prop
 | .non,u=>u=Xf
 | .bl b,u=>u=Xg b
 | .int i,u=>∃t,u=W7 i t
 | .str x,u=>∃t,u=Wm x t
 | .byt b,u=>∃t,u=Value.bytes b t
 | .flt b,u=>∃t,u=Xv b t
 | .ref a,u=>u=UB a
 | .ty n,u=>u=Wc n
abbrev Zl:List V->List Ut->Prop:=Paired Zm
theorem Zl.length(r:Zl xs us):xs.length=us.length:=W0 r
theorem Zl.get:∀{xs:List V}{us:List Ut}{i:Nat}{x:V},Zl xs us->xs[i]?=Zh x->∃u,us[i]?=Zh u/\Zm x u
 |_,_,_,_,.nil,e=>by simp at e
 |_,_,0,_,.cons r _,e=>by simp at e;subst e;exact{_,rfl,r}
 |_,_,i+1,x,.cons _ t,e=>by
  obtain⟨u,h1,h2⟩:=Zl.get (i:=i) (x:=x) t (by simpa using e);exact⟨u,by simpa using h1,h2⟩
theorem Zl.set(r:Zm x u):∀{xs:List V}{us:List Ut}(i:Nat),Zl xs us->Zl (xs.set i x) (us.set i u)
 |_,_,_,.nil=>.nil
 |_,_,0,.cons _ t=>.cons r t
 |_,_,i+1,.cons q t=>.cons q (Zl.set r i t)
theorem Zl.append:∀{xs ys:List V}{us ws:List Ut},Zl xs us->Zl ys ws->Zl (xs++ys) (us++ws)
 |_,_,_,_,.nil,s=>s
 |_,_,_,_,.cons r t,s=>.cons r (Zl.append t s)
theorem Zl.take:∀{xs:List V}{us:List Ut}(n:Nat),Zl xs us->Zl (xs.take n) (us.take n)
 |_,_,0,_=>.nil
 |_,_,_+1,.nil=>.nil
 |_,_,n+1,.cons r t=>.cons r (Zl.take n t)
theorem Zl.drop:∀{xs:List V}{us:List Ut}(n:Nat),Zl xs us->Zl (xs.drop n) (us.drop n)
 |_,_,0,r=>r
 |_,_,_+1,.nil=>.nil
 |_,_,n+1,.cons _ t=>Zl.drop n t
theorem Zl.none_of:∀{xs:List V}{us:List Ut}{i:Nat},Zl xs us->xs[i]?=Zi->us[i]?=Zi:=λ{xs us i} r e=>by
 have h1:=r.length;have h2:xs.length<=i:=Rv.mp e;exact Rv.mpr (by lia)
def j4:Option V->Option Ut->Prop
 |some v,Zh u=>Zm v u
 |none,Zi=>True
 |_,_=>False
def KV{κ:Type}:List (κ×V)->List (κ×Ut)->Prop:=Paired λ(p:κ×V)(q:κ×Ut)=>p.1=q.1/\Zm p.2 q.2
def kV:Key->V
 | .inl i=>.int i
 | .inr x=>.str x
inductive HO where
 |lst (xs:List V)
 |tup (xs:List V)
 |dK (kvs:List (Key×V))|dT (kvs:List (List Key×V))
 |set (S:Int->Bool) (n:Nat)
 |ins (C dx:Uu) (fs:List (Str×V))
 |own (x:Uu)
 |xd (fs:List (Str×V))
 |met (f x:Uu)
 |rng (lo hi:Int)
 |frz (o:Obj) (u:HO)
 |tbl (ps:Array Ut)
 |ext (φ:UT->Prop)
noncomputable abbrev Hp:=Uu->Option HO
noncomputable def upd(H:Hp)(a:Uu)(o:HO):Hp:=λb=>if b=a then Zh o else H b
theorem bI:upd H a o a=Zh o:=by unfold upd;rw[if_pos rfl]
theorem bN(h:b≠a):upd H a o b=H b:=by unfold upd;rw[if_neg h]
theorem NX{H:Hp}(h:H a=Zh o)(h':H b=Zh u)(d:o≠u):a≠b:=by
 intro e;subst e;rw[h]at h';exact d (UE h')
theorem eV{H:Hp}(h:H a=Zh o)(h':H b=Zi):a≠b:=by
 intro e;subst e;rw[h]at h';cases h'
section
variable(P:Program)(w:UC)
def cS(H:Hp)(h:UT)(a:Uu):HO->Prop
 | .lst xs=>xs.length<=sizeLine/\∃(its:List Ut)(n:Nat),Zl xs its/\h.get? a=Zh { cls:=.type "list",data:=.seq its.toArray n }
 | .tup xs=>xs.length<=sizeLine/\∃its:List Ut,Zl xs its/\IsTup h a its.toArray
 | .dK kvs=>kvs.length<=sizeLine/\(a==Vm)=false/\∃vs,KV kvs vs/\h.DictOf (cz P w) a vs
 | .dT kvs=>kvs.length<=sizeLine/\(a==Vm)=false/\∃xs:List (List Key×Uu×Ut),
   Paired (λ(p:List Key×V)(q:List Key×Uu×Ut)=>p.1=q.1/\H q.2.1=Zh (.tup (p.1.map kV))/\Zm p.2 q.2.2) kvs xs/\
   ∃o es ep,h.get? a=Zh o/\o.ExactDict/\o.data=.dict es ep/\es.toList=xs.map (entryOfKey (W8 (cz P w)))/\(xs.map (·.1)).Nodup
 | .set S n=>h.SetOf (intKind P w) a S n
 | .ins C dx fs=>H dx=Zh (.own a)/\fs.length<=1000/\dx≠a/\h.get? a=Zh (Wn C dx)/\
   ∃mA,h.Ns1 dx mA/\(∀f,j4 (fs.lookup f) (mA f))/\X9 mA (fs.map (·.1))
 | .own _=>∃o,h.get? a=Zh o
 | .xd fs=>∃mA,h.Ns1 a mA/\∀f,j4 (fs.lookup f) (mA f)
 | .rng lo hi=>∃t u v,h.get? a=Zh { cls:=.type "range",data:=.fields #[.int lo t,.int hi u,.int 1 v] }
 | .frz o u=>h.get? a=Zh o/\cS H h a u
 | .tbl ps=>h.get? a=Zh { cls:=.none,data:=.fields ps }
 | .met f x=>h.get? a=Zh (YB (.ref f) (.ref x))
 | .ext φ=>φ h/\(∃o,h.get? a=Zh o)/\∀h1 h2:UT,φ h1->(∀o,h1.get? a=Zh o->h2.get? a=Zh o)->φ h2
def HOk(H:Hp)(h:UT):Prop:=∀a o,H a=Zh o->cS P w H h a o
end
section
variable{P:Program}{w:UC}{H H':Hp}{h h':UT}{a:Uu}{o:HO}
theorem cS.lt(x:cS P w H h a o):a<h.objs.size:=by
 cases o with
 |lst xs=>obtain⟨_,_,_,_,e⟩:=x;exact UG e
 |tup xs=>obtain⟨_,_,_,p⟩:=x;exact p.lt
 |dK kvs=>obtain⟨_,_,_,_,o,_,_,e,_⟩:=x;exact UG e
 |dT kvs=>obtain⟨_,_,_,_,o,_,_,e,_⟩:=x;exact UG e
 |set S n=>obtain⟨o,_,_,_,e,_⟩:=x;exact UG e
 |ins C dx fs=>obtain⟨_,_,_,e,_⟩:=x;exact UG e
 |own y=>obtain⟨_,e⟩:=x;exact UG e
 |xd fs=>obtain⟨_,⟨_,_,_,e,_⟩,_⟩:=x;exact UG e
 |rng lo hi=>obtain⟨_,_,_,e⟩:=x;exact UG e
 |frz ob u=>obtain⟨e,_⟩:=x;exact UG e
 |tbl ps=>exact UG (show h.get? a=Zh _ from x)
 |met f y=>exact UG (show h.get? a=Zh _ from x)
 |ext φ=>obtain⟨_,⟨_,e⟩,_⟩:=x;exact UG e
theorem Paired.KJ{α β:Type}{F G:α->β->Prop}:∀{l₁:List α}{l₂:List β},Paired F l₁ l₂->(∀a b,F a b->G a b)->Paired G l₁ l₂
 |_,_,.nil,_=>.nil
 |_,_,.cons r t,f=>.cons (f _ _ r) (Paired.KJ t f)
theorem cS.Ao(x:cS P w H h a o)(k:∀b u,(b=a\/H b=Zh (.own a))->h.get? b=Zh u->h'.get? b=Zh u)
  (ho:∀b,H b=Zh (.own a)->H' b=Zh (.own a)) (ht:∀b xs,H b=Zh (.tup xs)->H' b=Zh (.tup xs)):cS P w H' h' a o:=by
 induction o with
 |lst xs=>obtain⟨z,its,n,r,e⟩:=x;exact{z,its,n,r,k _ _ (.inl rfl) e}
 |tup xs=>obtain⟨z,its,r,ob,e,c⟩:=x;exact{z,its,r,ob,k _ _ (.inl rfl) e,c}
 |dK kvs=>obtain⟨z,y,vs,r,ob,es,ep,e,c⟩:=x;exact{z,y,vs,r,ob,es,ep,k _ _ (.inl rfl) e,c}
 |dT kvs=>
  obtain⟨z,y,xs,r,ob,es,ep,e,c⟩:=x
  exact{z,y,xs,Paired.KJ r λp q z=>{z.1,ht _ _ z.2.1,z.2.2},ob,es,ep,k _ _ (.inl rfl) e,c}
 |set S n=>obtain⟨ob,es,ep,t,e,c⟩:=x;exact{ob,es,ep,t,k _ _ (.inl rfl) e,c}
 |ins C dx fs=>
  obtain⟨d,z,ne,e,mA,⟨od,es,ep,e2,c⟩,r⟩:=x
  exact{ho _ d,z,ne,k _ _ (.inl rfl) e,mA,{od,es,ep,k _ _ (.inr d) e2,c},r}
 |own y=>obtain⟨ob,e⟩:=x;exact{ob,k _ _ (.inl rfl) e}
 |xd fs=>obtain⟨mA,⟨od,es,ep,e,c⟩,r⟩:=x;exact{mA,{od,es,ep,k _ _ (.inl rfl) e,c},r}
 |rng lo hi=>obtain⟨t,u,v,e⟩:=x;exact{t,u,v,k _ _ (.inl rfl) e}
 |frz ob u ih=>obtain⟨e,q⟩:=x;exact{k _ _ (.inl rfl) e,ih q}
 |tbl ps=>
  have e:h.get? a=Zh { cls:=.none,data:=.fields ps }:=x
  show h'.get? a=Zh { cls:=.none,data:=.fields ps }
  exact k a _ (.inl rfl) e
 |met f y=>
  have e:h.get? a=Zh (YB (.ref f) (.ref y)):=x
  show h'.get? a=Zh (YB (.ref f) (.ref y))
  exact k a _ (.inl rfl) e
 |ext φ=>obtain⟨p,⟨o,e⟩,st⟩:=x;exact{st _ _ p λo q=>k _ _ (.inl rfl) q,{o,k _ _ (.inl rfl) e},st}
theorem HOk.lt(x:HOk P w H h)(e:H a=Zh o):a<h.objs.size:=(x a o e).lt
theorem HOk.fresh(x:HOk P w H h)(e:h.objs.size<=a):H a=Zi:=by
 cases q:H a with
 |none=>rfl
 |some u=>exact absurd (Qm (x.lt q) e) (Rg _)
theorem HOk.kept(x:HOk P w H h)(k:∀b u,h.get? b=Zh u->h'.get? b=Zh u):HOk P w H h':=λa o e=>
 (x a o e).Ao (λb u _ q=>k b u q) (λ_ q=>q) λ_ _ q=>q
theorem HOk.laid(x:HOk P w H h)(k:∀b u,h.get? b=Zh u->h'.get? b=Zh u)(hp:h.objs.size<=a)(new:cS P w (upd H a o) h' a o):HOk P w (upd H a o) h':=λb u e=>by
 have hn:=x.fresh hp;by_cases hb:b=a
 ·subst hb;rw[bI]at e;cases e;exact new
 rw[bN hb]at e;exact(x b u e).Ao (λc v _ q=>k c v q) (λc q=>by rw[bN (eV q hn)];exact q) λc xs q=>by rw[bN (eV q hn)];exact q
end
def Rd(H:Hp)(a:Uu)(u:HO):Prop:=H a=Zh u\/∃o,H a=Zh (.frz o u)
theorem Rd.ok(r:Rd H a u)(x:HOk P w H h):cS P w H h a u:=by
 rcases r with r|⟨o,r⟩
 ·exact x a u r
 obtain⟨_,q⟩:=x a _ r;exact q
noncomputable def Mut:Option HO->Prop
 |some (.lst _)=>True
 |some (.dK _)=>True
 |some (.dT _)=>True
 |some (.set _ _)=>True
 |some (.ins _ _ _)=>True
 |some (.ext _)=>True
 |_=>False
section
variable{P:Program}{w:UC}{H:Hp}{h h':UT}{x e:Uu}{o':HO}
theorem HOk.write(ok:HOk P w H h)(mu:Mut (H x))(he:e=x\/H e=Zh (.own x))(k:∀b u,b≠e->h.get? b=Zh u->h'.get? b=Zh u)(heo:∃u,h'.get? e=Zh u)
  (new:cS P w (upd H x o') h' x o'):HOk P w (upd H x o') h':=λb u q=>by
 have nown:∀c y,H c=Zh (.own y)->c≠x:=λc y r z=>by subst z;rw[r]at mu;exact mu
 have ntup:∀c xs,H c=Zh (.tup xs)->c≠x:=λc xs r z=>by subst z;rw[r]at mu;exact mu
 by_cases hb:b=x
 ·subst hb;rw[bI]at q;cases q;exact new
 rw[bN hb]at q
 by_cases hbe:b=e
 ·have q':H b=Zh (.own x):=by
   rcases he with z|z
   ·exact absurd (hbe.trans z) hb
   rw[hbe];exact z
  rw[q]at q';cases q';obtain⟨v,hv⟩:=heo;exact{v,by rw[hbe];exact hv}
 refine(ok b u q).Ao (λc v hc r=>k c v ?_ r) (λc r=>by rw[bN (nown c b r)];exact r) λc xs r=>by rw[bN (ntup c xs r)];exact r
 rcases hc with rfl|hc
 ·exact hbe
 rintro rfl
 rcases he with z|z
 ·exact nown c b hc z
 rw[hc]at z;cases z;exact hb rfl
end
structure Un(fs ex:List Uu)(H H':Hp)(h h':UT):Prop where
 keep:∀b o,h.get? b=Zh o->H b=Zi->b∉fs->b∉ex->h'.get? b=Zh o
 slot:∀b o,h.get? b=Zh o->H b=Zi->b∈fs->b∉ex->∃sl,h'.get? b=Zh { o with slots:=sl }
 free:∀b o,h.get? b=Zh o->H b=Zi->b∉ex->H' b=Zi
 there:∀b o,h.get? b=Zh o->b∉ex->∃o',h'.get? b=Zh o'
 wx:∀b xs,H b=Zh (.tup xs)->H' b=Zh (.tup xs)
 uw:∀b o u,H b=Zh (.frz o u)->H' b=Zh (.frz o u)
 xG:∀b ps,H b=Zh (.tbl ps)->∃more,H' b=Zh (.tbl (ps++more))
section
variable{fs fs' ex ex':List Uu}{H H1 H2:Hp}{h h1 h2 h':UT}{a x e:Uu}{o:HO}
theorem Un.any(u:Un fs ex H H1 h h1)(q:h.get? b=Zh ob)(n:H b=Zi)(hx:b∉ex):∃sl,h1.get? b=Zh { ob with slots:=sl }:=by
 by_cases hb:b∈fs
 ·exact u.slot b ob q n hb hx
 exact⟨ob.slots,u.keep b ob q n hb hx⟩
theorem Un.kept(k:∀b u,h.get? b=Zh u->h'.get? b=Zh u):Un fs ex H H h h':=
 {λb ob q _ _ _=>k b ob q,λb ob q _ _ _=>⟨ob.slots,k b ob q⟩,λ_ _ _ n _=>n,λb ob q _=>⟨ob,k b ob q⟩,λ_ _ q=>q,λ_ _ _ q=>q,λ_ ps q=>{#[],by rw[q];simp}}
theorem Un.refl:Un fs ex H H h h:=Un.kept λ_ _ q=>q
theorem Un.laid(k:∀b u,h.get? b=Zh u->h'.get? b=Zh u)(hp:h.objs.size<=a)(hn:H a=Zi):Un fs ex H (upd H a o) h h' where
 keep:=λb u q _ _ _=>k b u q
 slot:=λb u q _ _ _=>⟨u.slots,k b u q⟩
 free:=λb u q n _=>by rw[bN (Qy (Qm (UG q) hp))];exact n
 there:=λb u q _=>⟨u,k b u q⟩
 wx:=λb xs q=>by rw[bN (eV q hn)];exact q
 uw:=λb u xs q=>by rw[bN (eV q hn)];exact q
 xG:=λb ps q=>{#[],by rw[bN (eV q hn),q];simp}
theorem Un.write(mu:Mut (H x))(he:e=x\/H e=Zh (.own x))(k:∀b u,b≠e->h.get? b=Zh u->h'.get? b=Zh u)(heo:∃u,h'.get? e=Zh u):Un fs ex H (upd H x o) h h':=by
 have hx:∀b,H b=Zi->b≠x:=λb n z=>by subst z;rw[n]at mu;exact mu
 have hb:∀b,H b=Zi->b≠e:=λb n z=>by
  subst z;rcases he with r|r
  ·exact hx b n r
  rw[n]at r;cases r
 have hm:∀b u,H b=Zh u->¬ Mut (Zh u)->b≠x:=λb u q nm z=>by subst z;rw[q]at mu;exact nm mu
 refine⟨λb u q n _ _=>k b u (hb b n) q,λb u q n _ _=>{u.slots,k b u (hb b n) q},λb u q n _=>by rw[bN (hx b n)];exact n,λb u q _=>?_,
  λb xs q=>by rw[bN (hm b _ q λz=>z)];exact q,λb u xs q=>by rw[bN (hm b _ q λz=>z)];exact q,λb ps q=>{#[],by rw[bN (hm b _ q λz=>z),q];simp}⟩
 by_cases hbe:b=e
 ·subst hbe;exact heo
 exact⟨u,k b u hbe q⟩
end
noncomputable def trk(h:UT)(H:Hp):List Uu:=(UJ h.objs.size).filter λa=>(H a).isSome
def xo(h:UT)(H:Hp):UT:=W.hideAll h (trk h H)
theorem CY(h:UT)(H:Hp):(xo h H).objs.size=h.objs.size:=W.hideAll_size _ _
theorem GC(e:h.get? b=Zh o)(n:H b=Zi):(xo h H).get? b=Zh o:=
 W.hideAll_get _ e λhm=>by
  have q:(H b).isSome=true:=(Sw.mp hm).2;rw[n]at q;simp at q
theorem HW(e:(xo h H).get? b=Zh o):h.get? b=Zh o/\H b=Zi:=by
 have e':h.get? b=Zh o:=W.of_hideAll (trk h H) e;refine{e',?_};cases q:H b with
 |none=>rfl
 |some x=>
  have hm:b∈trk h H:=Sw.mpr {Rk.mpr (UG e'),by simp[q]};have z:(xo h H).get? b=Zi:=W.hideAll_none (trk h H) hm;rw[z]at e;cases e
structure Mod(K:Uw)(mg:Str->Option Ut)(base:UT):Prop where
 kin:K.In base
 glob:base.Ns UD mg
 blt:∃mb,base.Ns Xi mb/\∀x:Str,x≠"__name__"->mb x=Vj x
 nolimit:base.NoLimit
structure Cx where
 prog:Program
 w:UC
 K:Uw
 mg:Str->Option Ut
 base:UT
 A:US
 N:List Str
 s₀:Uy
 H₀:Hp
 env:Env
 outer:List Env
 stack:List Env
 ex:List Uu
 fn:Str->Bool
 calm:Bool
 pn:List (Uu×Obj)
 xe:Ut->Uy->Prop
noncomputable def frs(l:List Env):List Uu:=l.filterMap (·.frame)
abbrev Cx.fs(X:Cx):List Uu:=frs X.outer
def Vis(sc:Wu)(x:Str):Prop:=sc.names.lookup x=Zh .local\/sc.names.lookup x=Zh .cell\/sc.names.lookup x=Zh .free
def Loc(sc:Wu)(x:Str):Prop:=sc.names.lookup x=Zh .local\/sc.names.lookup x=Zh .cell
def ZV(env:Env)(h:UT)(m:Str->Option Ut)(x:Str)(u:Ut):Prop:=
 (env.kindOf x=Zh .local/\m x=Zh u)\/((env.kindOf x=Zh .cell\/env.kindOf x=Zh .free)/\∃c,env.cells.lookup x=Zh c/\h.IsCell c (Zh u))
structure Cx.Ok(X:Cx):Prop where
 mod:Mod X.K X.mg X.base
 kind:X.env.scope.kind=.function
 glob:X.env.globals=UD
 blt:X.env.builtins=Xi
 above:X.s₀.heap.objs.size<=X.env.locals
 inj:∀x y c,X.env.cells.lookup x=Zh c->X.env.cells.lookup y=Zh c->x=y
 has:∀x,(X.env.kindOf x=Zh .cell\/X.env.kindOf x=Zh .free)->∃c,X.env.cells.lookup x=Zh c
 cab:∀x c,X.fn x=true->X.env.cells.lookup x=Zh c->X.s₀.heap.objs.size<=c
 hd:X.calm=true->X.A.handled=Zi
 frames:X.A.frames=Zh X.stack
 stk:X.stack=X.outer\/(X.stack=X.env::X.outer/\X.env.frame=Zh X.env.locals)
 exf:∀b∈X.ex,b≠X.env.locals/\∀x c,X.env.cells.lookup x=Zh c->c≠b
 bs:∀b o,X.base.get? b=Zh o->X.s₀.heap.get? b=Zh o/\X.H₀ b=Zi
 bsz:X.base.objs.size<=X.s₀.heap.objs.size
 Gb:∀b o,X.base.get? b=Zh o->b∉X.ex
 Eh:∀b∈X.ex,b∉X.fs
 rj:X.s₀.heap.FunFrames X.base X.outer
 frf:∀b∈X.fs,X.H₀ b=Zi
structure Inv(X:Cx)(pins:List (Uu×Obj))(B:List (Option V))(H:Hp)(s:Uy):Prop where
 ok:X.Ok
 os:s.os=X.s₀.os
 bare:WW s.gens
 base:Un X.fs X.ex X.H₀ H X.s₀.heap s.heap
 loc:∃m,s.heap.Ns X.env.locals m/\∀(i:Nat)(x:Str)(v:V),X.N[i]?=Zh x->B[i]?=Zh (Zh v)->Vis X.env.scope x->∃u,Zm v u/\ZV X.env s.heap m x u
 cell:∀x c,X.env.cells.lookup x=Zh c->∃v,s.heap.IsCell c v
 free:H X.env.locals=Zi
 lB:∀x c,X.env.cells.lookup x=Zh c->H c=Zi
 pin:∀p∈X.pn++pins,s.heap.get? p.1=Zh p.2/\H p.1=Zi/\p.1≠X.env.locals/\p.1∉X.fs/\∀v,p.2.data≠ .cell v
 hok:HOk X.prog X.w H s.heap
 len:B.length=X.N.length
section
variable{X:Cx}{pins:List (Uu×Obj)}{B:List (Option V)}{H H':Hp}{s:Uy}{h':UT}
theorem Cx.Ok.PJ(ok:X.Ok)(e:X.base.get? b=Zh o):b∉X.fs:=λhb=>by
 have:=(ok.rj.mem hb).1;rw[e]at this;cases this
theorem Inv.bs(I:Inv X pins B H s):∀b o,X.base.get? b=Zh o->s.heap.get? b=Zh o/\H b=Zi:=λb o e=>
 {I.base.keep b o (I.ok.bs b o e).1 (I.ok.bs b o e).2 (I.ok.PJ e) (I.ok.Gb b o e),I.base.free b o (I.ok.bs b o e).1 (I.ok.bs b o e).2 (I.ok.Gb b o e)}
theorem Inv.bk(I:Inv X pins B H s):∀b o,X.base.get? b=Zh o->s.heap.get? b=Zh o:=λb o e=>(I.bs b o e).1
theorem Inv.mod(I:Inv X pins B H s):Mod X.K X.mg X.base:=I.ok.mod
theorem Inv.kIn(I:Inv X pins B H s):X.K.In s.heap:=I.ok.mod.kin.keeps I.bk
theorem Inv.lt(I:Inv X pins B H s):X.env.locals<s.heap.objs.size:=let ⟨_,hn,_⟩:=I.loc;hn.lt
theorem Inv.sz(I:Inv X pins B H s):X.s₀.heap.objs.size<=s.heap.objs.size:=Qi I.ok.above (SG I.lt)
theorem Inv.NU(I:Inv X pins B H s)(h:s.heap.objs.size<=a):a∉X.fs:=λhb=>by
 obtain⟨_,o,ho,_⟩:=I.ok.rj.mem hb;exact absurd (Qm (UG ho) (Qi I.sz h)) (Rg _)
theorem Inv.cne(I:Inv X pins B H s):∀x c,X.env.cells.lookup x=Zh c->c≠X.env.locals:=λx c e z=>by
 obtain⟨v,o,ho,hd⟩:=I.cell x c e;obtain⟨m,⟨o',es,ep,ho',hd',_⟩,_⟩:=I.loc;rw[z,ho']at ho;cases ho;rw[hd']at hd;cases hd
theorem Inv.rj(I:Inv X pins B H s):s.heap.FunFrames X.base X.outer:=by
 have all:∀(l:List Env),(∀b∈frs l,b∈X.fs)->X.s₀.heap.FunFrames X.base l->s.heap.FunFrames X.base l:=by
  intro l;induction l with
  |nil=>intro _ _;trivial
  |cons env r ih=>
   intro hs hl;obtain⟨hk,⟨L,o,hf,hn,ho,hd⟩,hr⟩:=hl;have hL:L∈X.fs:=hs L (by unfold frs;rw[Qx,hf];exact Qb);obtain⟨sl,e⟩:=I.base.slot L o ho (I.ok.frf L hL) hL λz=>I.ok.Eh L z hL;exact{hk,{L,_,hf,hn,e,hd},ih (λb hb=>hs b (by unfold frs;rw[Qx,hf];exact Qa _ hb)) hr}
 exact all X.outer (λ_ hb=>hb) I.ok.rj
theorem Inv.stack(I:Inv X pins B H s):s.heap.FunFrames X.base X.stack:=by
 rcases I.ok.stk with e|⟨e,hf⟩
 ·rw[e];exact I.rj
 rw[e];obtain⟨m,hn,_⟩:=I.loc;refine .cons (by rw[I.ok.kind];decide) hf hn ?_ I.rj;exact Heap.get?_none_of_le (Qi I.ok.bsz I.ok.above)
theorem Inv.AA(I:Inv X pins B H s):∀b∈frs X.stack,b∈X.env.locals::X.fs:=λb hb=>by
 rcases I.ok.stk with e|⟨e,hf⟩
 ·rw[e]at hb;exact Qa _ hb
 rw[e]at hb;unfold frs at hb;rw[Qx,hf]at hb;exact hb
theorem Inv.Bv(I:Inv X pins B H s):∀b∈frs X.stack,H b=Zi:=λb hb=>by
 rcases P7.mp (I.AA b hb)with e|hb
 ·rw[e];exact I.free
 obtain⟨_,o,ho,_⟩:=I.ok.rj.mem hb;exact I.base.free b o ho (I.ok.frf b hb) λz=>I.ok.Eh b z hb
theorem Inv.step{g':Array WJ}{t':Nat}{d':Drawn}{ch:List Uu}(I:Inv X pins B H s)
  (hch:∀b∈ch,(b∈X.ex\/X.s₀.heap.objs.size<=b)/\b≠X.env.locals/\(∀x c,X.env.cells.lookup x=Zh c->c≠b)/\∀p∈X.pn++pins,p.1≠b)
  (keep:∀b o,b≠X.env.locals->b∉X.fs->b∉ch->s.heap.get? b=Zh o->H b=Zi->h'.get? b=Zh o)
  (slot:∀b o,b≠X.env.locals->b∈X.fs->b∉ch->s.heap.get? b=Zh o->H b=Zi->∃sl,h'.get? b=Zh { o with slots:=sl }) (free:∀b o,b∉ch->s.heap.get? b=Zh o->H b=Zi->H' b=Zi)
  (there:∀b o,b∉ch->s.heap.get? b=Zh o->∃o',h'.get? b=Zh o')
  (wx:∀b xs,H b=Zh (.tup xs)->H' b=Zh (.tup xs)) (uw:∀b o u,H b=Zh (.frz o u)->H' b=Zh (.frz o u)) (xG:∀b ps,H b=Zh (.tbl ps)->∃more,H' b=Zh (.tbl (ps++more)))
  (ns:∀m,s.heap.Ns X.env.locals m->h'.Ns X.env.locals m) (hok:HOk X.prog X.w H' h') (hg:WW g') :
  Inv X pins B H' { s with heap:=h',gens:=g',drawn:=d',toks:=t' }:=by
 have neL:∀b o,X.s₀.heap.get? b=Zh o->b≠X.env.locals:=λb o e=>Qy (Qm (UG e) I.ok.above)
 have neC:∀b o,X.s₀.heap.get? b=Zh o->b∉X.ex->b∉ch:=λb o e hx hb=>by
  rcases(hch b hb).1 with z|z
  ·exact hx z
  exact absurd (Qm (UG e) z) (Rg _)
 have cellK:∀x c,X.env.cells.lookup x=Zh c->∀v,s.heap.IsCell c v->h'.IsCell c v:=λx c e v ⟨o,ho,hd⟩=>by
  have nch:c∉ch:=λz=>(hch c z).2.2.1 x c e rfl;by_cases hc:c∈X.fs
  ·obtain⟨sl,q⟩:=slot c o (I.cne x c e) hc nch ho (I.lB x c e);exact{_,q,hd}
  exact{o,keep c o (I.cne x c e) hc nch ho (I.lB x c e),hd}
 refine{I.ok,I.os,hg,{λb o e n hb hx=>?_,λb o e n hb hx=>?_,λb o e n hx=>?_,λb o e hx=>?_,λb xs e=>wx b xs (I.base.wx b xs e),λb o xs e=>uw b o xs (I.base.uw b o xs e),λb ps e=>?_},?_,λx c e=>?_,?_,λx c e=>?_,λp hp=>?_,hok,I.len}
 ·exact keep b o (neL b o e) hb (neC b o e hx) (I.base.keep b o e n hb hx) (I.base.free b o e n hx)
 ·obtain⟨sl,e1⟩:=I.base.slot b o e n hb hx;obtain⟨sl',e2⟩:=slot b _ (neL b o e) hb (neC b o e hx) e1 (I.base.free b o e n hx);exact⟨sl',e2⟩
 ·obtain⟨o',e1⟩:=I.base.there b o e hx;exact free b o' (neC b o e hx) e1 (I.base.free b o e n hx)
 ·obtain⟨o',e1⟩:=I.base.there b o e hx;exact there b o' (neC b o e hx) e1
 ·obtain⟨m1,e1⟩:=I.base.xG b ps e;obtain⟨m2,e2⟩:=xG b _ e1;exact{m1++m2,by rw[e2,Array.append_assoc]}
 ·obtain⟨m,hn,hl⟩:=I.loc;refine{m,ns m hn,λi x v e1 e2 e3=>?_};obtain⟨u,r,l⟩:=hl i x v e1 e2 e3;refine{u,r,?_};rcases l with l|⟨k,c,e,z⟩
  ·exact .inl l
  exact .inr {k,c,e,cellK x c e _ z}
 ·obtain⟨v,z⟩:=I.cell x c e;exact⟨v,cellK x c e v z⟩
 ·obtain⟨m,⟨o,_,_,ho,_⟩,_⟩:=I.loc;exact free _ o (λz=>(hch _ z).2.1 rfl) ho I.free
 ·obtain⟨v,o,ho,hd⟩:=I.cell x c e;exact free c o (λz=>(hch c z).2.2.1 x c e rfl) ho (I.lB x c e)
 obtain⟨e,n,ne,nf,d⟩:=I.pin p hp
 have nch:p.1∉ch:=λz=>(hch p.1 z).2.2.2 p hp rfl
 exact⟨keep p.1 p.2 ne nf nch e n,free p.1 p.2 nch e n,ne,nf,d⟩
theorem Inv.un(I:Inv X pins B H s)(u:Un X.fs [] H H' s.heap h')(hok:HOk X.prog X.w H' h'):Inv X pins B H' { s with heap:=h',toks:=t' }:=by
 obtain⟨m,⟨o,es,ep,ho,r⟩,_⟩:=id I.loc;obtain⟨sl,hL⟩:=u.any ho I.free (by simp);exact I.step (g':=s.gens) (d':=s.drawn) (ch:=[]) (λ_ z=>nomatch z) (λb o _ hb _ e n=>u.keep b o e n hb (by simp)) (λb o _ hb _ e n=>u.slot b o e n hb (by simp)) (λb o _ e n=>u.free b o e n (by simp)) (λb o _ e=>u.there b o e (by simp)) u.wx u.uw u.xG (λm' hm=>by
  obtain⟨o',es',ep',ho',r'⟩:=hm;rw[ho]at ho';cases ho';exact{_,es',ep',hL,r'}) hok I.bare
theorem Inv.call(I:Inv X pins B H s)(u:Un (frs X.stack) ch H H' s.heap h')(hok:HOk X.prog X.w H' h')(hg:WW g')
  (hch:∀b∈ch,(b∈X.ex\/X.s₀.heap.objs.size<=b)/\b≠X.env.locals/\(∀x c,X.env.cells.lookup x=Zh c->c≠b)/\∀p∈X.pn++pins,p.1≠b) :
  Inv X pins B H' { s with heap:=h',gens:=g',drawn:=d',toks:=t' }:=by
 obtain⟨m,⟨o,es,ep,ho,r⟩,_⟩:=id I.loc
 obtain⟨sl,hL⟩:=u.any ho I.free λz=>(hch _ z).2.1 rfl
 exact I.step (ch:=ch) hch (λb o hL hb hc e n=>u.keep b o e n (λz=>(P7.mp (I.AA b z)).elim hL hb) hc) (λb o _ _ hc e n=>u.any e n hc) (λb o hc e n=>u.free b o e n hc) (λb o hc e=>u.there b o e hc) u.wx u.uw u.xG (λm' hm=>by
  obtain⟨o',es',ep',ho',r'⟩:=hm;rw[ho]at ho';cases ho';exact{_,es',ep',hL,r'}) hok hg
theorem Inv.turned(I:Inv X pins B H s)(k:∀b o,b≠it->s.heap.get? b=Zh o->h'.get? b=Zh o)(hn:H it=Zi)(hL:it≠X.env.locals)
  (h1:it∈X.ex\/X.s₀.heap.objs.size<=it) (h2:∀x c,X.env.cells.lookup x=Zh c->c≠it) (h3:∀p∈X.pn++pins,p.1≠it):Inv X pins B H { s with heap:=h',toks:=t' }:=by
 have nit:∀b u,H b=Zh u->b≠it:=λb u e z=>by rw[z,hn]at e;cases e
 refine I.step (g':=s.gens) (d':=s.drawn) (ch:=[it]) (λb hb=>?_) (λb o _ _ hc e _=>k b o (λz=>hc (by simp[z])) e) (λb o _ _ hc e _=>{o.slots,k b o (λz=>hc (by simp[z])) e}) (λ_ _ _ _ n=>n)
  (λb o hc e=>{o,k b o (λz=>hc (by simp[z])) e}) (λ_ _ e=>e) (λ_ _ _ e=>e) (λb ps e=>{#[],by rw[e];simp}) (λm hm=>?_) (λb u e=>?_) I.bare
 ·have e:b=it:=by simpa using hb
  subst e;exact⟨h1,hL,h2,h3⟩
 ·obtain⟨o,es,ep,ho,r⟩:=hm;exact{o,es,ep,k _ o (Rx hL) ho,r}
 refine(I.hok b u e).Ao (λc v hc q=>k c v ?_ q) (λ_ q=>q) λ_ _ q=>q
 rcases hc with z|z
 ·rw[z];exact nit b u e
 exact nit c _ z
theorem Inv.tok(I:Inv X pins B H s)(t:Nat):Inv X pins B H { s with toks:=t }:=I.un (h':=s.heap) (t':=t) Un.refl I.hok
theorem Inv.kept(I:Inv X pins B H s)(k:∀b u,s.heap.get? b=Zh u->h'.get? b=Zh u):Inv X pins B H { s with heap:=h',toks:=t' }:=I.un (Un.kept k) (I.hok.kept k)
theorem Inv.laid(I:Inv X pins B H s)(k:∀b u,s.heap.get? b=Zh u->h'.get? b=Zh u)(hp:s.heap.objs.size<=a)(new:cS X.prog X.w (upd H a o) h' a o) :
  Inv X pins B (upd H a o) { s with heap:=h',toks:=t' }:=I.un (Un.laid k hp (I.hok.fresh hp)) (I.hok.laid k hp new)
theorem Inv.write(I:Inv X pins B H s)(mu:Mut (H x))(he:e=x\/H e=Zh (.own x))(k:∀b u,b≠e->s.heap.get? b=Zh u->h'.get? b=Zh u)(heo:∃u,h'.get? e=Zh u)
  (new:cS X.prog X.w (upd H x o) h' x o):Inv X pins B (upd H x o) { s with heap:=h',toks:=t' }:=I.un (Un.write mu he k heo) (I.hok.write mu he k heo new)
theorem Inv.wC(I:Inv X pins B H s)(h:∀p∈pins',s.heap.get? p.1=Zh p.2/\H p.1=Zi/\p.1≠X.env.locals/\p.1∉X.fs/\∀v,p.2.data≠ .cell v):Inv X pins' B H s:=
 {I.ok,I.os,I.bare,I.base,I.loc,I.cell,I.free,I.lB,λp hp=>(QD.mp hp).elim (λz=>I.pin p (Q6 _ z)) (h p),I.hok,I.len}
theorem y0{N:List Str}(hN:N.Nodup){i j:Nat}{x:Str}(a:N[i]?=Zh x)(b:N[j]?=Zh x):i=j:=by
 obtain⟨h1,e1⟩:=Qh.mp a;obtain⟨h2,e2⟩:=Qh.mp b;exact(Su hN).mp (e1.trans e2.symm)
theorem Dl(I:Inv X pins B H s)(hN:X.N.Nodup)(hi:X.N[i]?=Zh x)(hx:Loc X.env.scope x)(r:Zm v u)
  (h:∀s',Inv X pins (B.set i (Zh v)) H s'->(∃a,WG a s.heap s'.heap/\(a=X.env.locals\/X.env.cells.lookup x=Zh a))->Q () s') (hf:X.fn x=true\/X.env.scope.names.lookup x=Zh .local:=by trivial):wpAny M A (storeName X.env x u) Q E s:=by
 obtain⟨m,hn,hl⟩:=id I.loc
 have hcls:(X.env.scope.kind== .class||(X.env.scope.kind== .module&&X.env.locals !=X.env.globals))=false:=by rw[I.ok.kind];rfl
 have hiσ:i<B.length:=by rw[I.len];exact(Qh.mp hi).1
 have cne:=I.cne
 have tracked:∀{a:Uu}{h':UT},(∃o,s.heap.get? a=Zh o/\H a=Zi)->WG a s.heap h'->HOk X.prog X.w H h':=λ{a h'} ha hs b ob e=>by
  obtain⟨_,_,hfree⟩:=ha;refine(I.hok b ob e).Ao (λc w' hc q=>(hs.2 c ?_).trans q) (λ_ q=>q) λ_ _ q=>q;rintro rfl;rcases hc with rfl|hc
  ·rw[hfree]at e;cases e
  rw[hfree]at hc;cases hc
 rcases hx with hk|hk
 ·refine wpAny_storeName_local hk hn (λh' hn' hs=>?_) hcls;obtain⟨oL,_,_,hoL,_⟩:=id hn;refine h _ {I.ok,I.os,I.bare,{λb o e n hb hx=>?_,λb o e n hb hx=>?_,I.base.free,λb o e hx=>?_,I.base.wx,I.base.uw,I.base.xG},{_,hn',λj y v' e1 e2 e3=>?_},λy c e=>?_,I.free,I.lB,λp hp=>?_,tracked ⟨oL,hoL,I.free⟩ hs,by simpa using I.len} {_,hs,.inl rfl}
  ·exact(hs.2 b (Qy (Qm (UG e) I.ok.above))).trans (I.base.keep b o e n hb hx)
  ·obtain⟨sl,e1⟩:=I.base.slot b o e n hb hx;exact{sl,(hs.2 b (Qy (Qm (UG e) I.ok.above))).trans e1}
  ·obtain⟨o',e1⟩:=I.base.there b o e hx;exact{o',(hs.2 b (Qy (Qm (UG e) I.ok.above))).trans e1}
  ·by_cases hj:j=i
   ·subst hj;rw[hi]at e1;cases e1;rw[Rt hiσ]at e2;cases e2;exact{u,r,.inl ⟨hk,by simp⟩}
   rw[Rm (Rx hj)]at e2;obtain⟨u',r',q⟩:=hl j y v' e1 e2 e3;refine{u',r',?_};rcases q with⟨k,e⟩|⟨k,c,e,z⟩
   ·refine .inl {k,?_};have:y≠x:=λe=>hj (y0 hN e1 (e▸hi));simp[this,e]
   exact .inr {k,c,e,z.sameBut hs (cne y c e)}
  ·obtain⟨w',z⟩:=I.cell y c e;exact{w',z.sameBut hs (cne y c e)}
  obtain⟨e,n,ne,nf,d⟩:=I.pin p hp;exact{(hs.2 p.1 ne).trans e,n,ne,nf,d}
 have hfn:X.fn x=true:=by
  rcases hf with z|z
  ·exact z
  rw[z]at hk;cases hk
 obtain⟨c,hc⟩:=I.ok.has x (.inl hk)
 obtain⟨w',z⟩:=I.cell x c hc
 refine wpAny_storeName_cell I.ok.kind hk hc z (λh' hc' hs=>?_)
 obtain⟨oc,hoc,hocd⟩:=id z
 refine h { s with heap:=h' } ⟨I.ok,I.os,I.bare,⟨λb o e n hb hx=>?_,λb o e n hb hx=>?_,I.base.free,λb o e hx=>?_,I.base.wx,I.base.uw,I.base.xG⟩,⟨m,hn.sameBut hs (Rx (cne x c hc)),λj y v' e1 e2 e3=>?_⟩,λy c' e=>?_,I.free,I.lB,λp hp=>?_,tracked ⟨oc,hoc,I.lB x c hc⟩ hs,by simpa using I.len⟩ ⟨c,hs,.inr hc⟩
 ·exact(hs.2 b (Qy (Qm (UG e) (I.ok.cab x c hfn hc)))).trans (I.base.keep b o e n hb hx)
 ·obtain⟨sl,e1⟩:=I.base.slot b o e n hb hx;exact{sl,(hs.2 b (Qy (Qm (UG e) (I.ok.cab x c hfn hc)))).trans e1}
 ·obtain⟨o',e1⟩:=I.base.there b o e hx;exact{o',(hs.2 b (Qy (Qm (UG e) (I.ok.cab x c hfn hc)))).trans e1}
 ·by_cases hj:j=i
  ·subst hj;rw[hi]at e1;cases e1;rw[Rt hiσ]at e2;cases e2;exact{u,r,.inr ⟨.inl hk,c,hc,hc'⟩}
  rw[Rm (Rx hj)]at e2;obtain⟨u',r',q⟩:=hl j y v' e1 e2 e3;refine{u',r',?_};rcases q with q|⟨k,c',e,z'⟩
  ·exact .inl q
  refine .inr {k,c',e,z'.sameBut hs ?_};rintro rfl;exact hj (y0 hN e1 (I.ok.inj _ _ _ e hc▸hi))
 ·by_cases hcc:c'=c
  ·subst hcc;exact{_,hc'}
  obtain⟨w2,z2⟩:=I.cell y c' e;exact⟨w2,z2.sameBut hs hcc⟩
 obtain⟨e,n,ne,nf,d⟩:=I.pin p hp
 refine{(hs.2 p.1 ?_).trans e,n,ne,nf,d}
 intro q
 rw[q,hoc]at e
 have q':oc=p.2:=UE e
 exact d w' (by rw[<-q'];exact hocd)
theorem zr(I:Inv X pins B H s)(hN:X.N.Nodup)(hi:X.N[i]?=Zh x)(hx:Loc X.env.scope x)(r:Zm v u)
  (h:∀s',Inv X pins (B.set i (Zh v)) H s'->Q () s') (hf:X.fn x=true\/X.env.scope.names.lookup x=Zh .local:=by trivial):wpAny M A (storeName X.env x u) Q E s:=
 Dl I hN hi hx r (λs' I' _=>h s' I') hf
theorem Inv.NN(I:Inv X pins B H s)(ho:s'.os=s.os)(u:Un (frs X.stack) ch H H' s.heap s'.heap)(hok:HOk X.prog X.w H' s'.heap)(hg:WW s'.gens)
  (hch:∀b∈ch,(b∈X.ex\/X.s₀.heap.objs.size<=b)/\b≠X.env.locals/\(∀x c,X.env.cells.lookup x=Zh c->c≠b)/\∀p∈X.pn++pins,p.1≠b):Inv X pins B H' s':=by
 obtain⟨h',g',d',t',o'⟩:=s'
 have e:o'=s.os:=ho
 subst e
 exact I.call (g':=g') (t':=t') (d':=d') u hok hg hch
end
abbrev XK:=Ut->Option Uu->Hp->Prop
noncomputable abbrev St:=List (Option V)
abbrev VK:=V->Hp->Prop
abbrev TE:=St->Hp->VK->Prop
abbrev TT:=St->Hp->(Bool->Hp->Prop)->Prop
abbrev TA:=St->Hp->(List V->Hp->Prop)->Prop
structure ZS where
 nx:St->Hp->Prop
 rt:VK
 bk:St->Hp->Prop:=λ_ _=>False
 ct:St->Hp->Prop:=λ_ _=>False
abbrev TS:=ZS->St->Hp->Prop
inductive EP(X:Cx)(pins:List (Uu×Obj))(B:St)(Q:VK)(u:Ut)(s':Uy):Prop
 |mk(v:V)(H':Hp)(h0:Inv X pins B H' s')(h1:Zm v u)(h2:Q v H'):EP X pins B Q u s'
inductive TP(X:Cx)(pins:List (Uu×Obj))(B:St)(Q:Bool->Hp->Prop)(b:Bool)(s':Uy):Prop
 |mk(H':Hp)(h0:Inv X pins B H' s')(h1:Q b H'):TP X pins B Q b s'
inductive AP(X:Cx)(pins:List (Uu×Obj))(B:St)(Q:List V->Hp->Prop)(us:List Ut)(s':Uy):Prop
 |mk(vs:List V)(H':Hp)(h0:Inv X pins B H' s')(h1:Zl vs us)(h2:Q vs H'):AP X pins B Q us s'
inductive NP(X:Cx)(pins:List (Uu×Obj))(q:St->Hp->Prop)(s':Uy):Prop
 |mk(B':St)(H':Hp)(h0:Inv X pins B' H' s')(h1:q B' H'):NP X pins q s'
inductive RP(X:Cx)(pins:List (Uu×Obj))(q:VK)(u:Ut)(s':Uy):Prop
 |mk(v:V)(B':St)(H':Hp)(h0:Inv X pins B' H' s')(h1:Zm v u)(h2:q v H'):RP X pins q u s'
def SP(X:Cx)(pins:List (Uu×Obj))(D:ZS)(f:Flow)(s':Uy):Prop:=
 match f with
 | .next=>NP X pins D.nx s'
 | .brk=>NP X pins D.bk s'
 | .cont=>NP X pins D.ct s'
 | .ret u=>RP X pins D.rt u s'
def PE(X:Cx)(e:Expr)(t:TE):Prop:=
 ∀(pins:List (Uu×Obj))(s:Uy)(B:St)(H:Hp)(Q:VK),Inv X pins B H s->t B H Q->wpAny (UI X.prog X.w) X.A (UO e X.env) (EP X pins B Q) X.xe s
def PT(X:Cx)(e:Expr)(t:TT):Prop:=
 ∀(pins:List (Uu×Obj))(s:Uy)(B:St)(H:Hp)(Q:Bool->Hp->Prop),Inv X pins B H s->t B H Q->wpAny (UI X.prog X.w) X.A (isTrue e X.env (UO e X.env)) (TP X pins B Q) X.xe s
def PW(X:Cx)(e:Expr)(t:TT):Prop:=
 ∀(whole:Sem Ut)(pins:List (Uu×Obj))(s:Uy)(B:St)(H:Hp)(Q:Bool->Hp->Prop),Inv X pins B H s->t B H Q->wpAny (UI X.prog X.w) X.A (isTrue e X.env whole) (TP X pins B Q) X.xe s
theorem PW.pt(h:PW X e t):PT X e t:=h _
def PA(X:Cx)(es:List Expr)(t:TA):Prop:=
 ∀(pos:Pos)(pins:List (Uu×Obj))(s:Uy)(B:St)(H:Hp)(Q:List V->Hp->Prop),Inv X pins B H s->t B H Q->wpAny (UI X.prog X.w) X.A (spliced (UM pos (Uv es X.env))) (AP X pins B Q) X.xe s
def PS(X:Cx)(st:UP)(t:TS):Prop:=
 ∀(pins:List (Uu×Obj))(s:Uy)(B:St)(H:Hp)(D:ZS),Inv X pins B H s->t D B H->wpAny (UI X.prog X.w) X.A (exec st X.env) (SP X pins D) X.xe s
def PSs(X:Cx)(st:List UP)(t:TS):Prop:=
 ∀(pins:List (Uu×Obj))(s:Uy)(B:St)(H:Hp)(D:ZS),Inv X pins B H s->t D B H->wpAny (UI X.prog X.w) X.A (execs st X.env) (SP X pins D) X.xe s
theorem thn(h:wpAny M A t Q E s)(hQ:∀a s,Q a s->Q' a s):wpAny M A t Q' E s:=U8 h hQ λ_ _ x=>x
section
variable{X:Cx}
noncomputable def Pn(i:Nat):TE:=λB H Q=>∃v,B[i]?=Zh (Zh v)/\Q v H
noncomputable def tC(v:V):TE:=λ_ H Q=>Q v H
theorem FH(hN:X.N[i]?=Zh x)(hv:Vis X.env.scope x)(hd:(x==("__debug__":Str))=false:=by decide)(hcd:(x==("__classdict__":Str))=false:=by decide):PE X (.Name x pos) (Pn i):=by
 intro pins s B H Q I h;obtain⟨v,e,h⟩:=h;obtain⟨m,hn,hl⟩:=I.loc;obtain⟨u,r,l⟩:=hl i x v hN e hv;have fin:EP X pins B Q u s:=⟨v,H,I,r,h⟩;rcases l with⟨hk,hm⟩|⟨hk,c,hc,hcell⟩
 ·exact YQ (wpAny_loadName_local I.ok.kind hk hn hm fin) hd
 rcases hk with hk|hk
 ·exact YQ (wpAny_loadName_cell I.ok.kind hk hc hcell fin) hd
 exact YQ (wpAny_loadName_free I.ok.kind hk hc hcell fin hcd) hd
theorem G3{i j pos}:PE X (.Constant (.int i) j pos) (tC (.int i)):=λ_ _ _ H _ I h=>XS {.int i,H,I.tok _,{_,rfl},h}
theorem N9{b j pos}:PE X (.Constant (.bool b) j pos) (tC (.bl b)):=λ_ _ _ H _ I h=>Constant_bool ⟨.bl b,H,I,rfl,h⟩
theorem Mh{j pos}:PE X (.Constant .none j pos) (tC .non):=λ_ _ _ H _ I h=>Constant_none ⟨.non,H,I,rfl,h⟩
theorem DY{x j pos}:PE X (.Constant (.str x) j pos) (tC (.str x)):=λ_ _ _ H _ I h=>Calls.Constant_str {.str x,H,I.tok _,{_,rfl},h}
def Gl(X:Cx)(x:Str):Prop:=X.env.kindOf x=Zh .globalImplicit
theorem oQ(I:Inv X pins B H s)(hg:Gl X x)(hm:X.mg x=Zh u)(h:Q u s)
  (hd:(x==("__debug__":Str))=false:=by decide):wpAny (UI X.prog X.w) X.A (UO (.Name x pos) X.env) Q E s:=
 WK I.ok.kind hg (Calls.loadGlobal_global (by rw[I.ok.glob];exact I.mod.glob.keeps I.bk) hm h) hd
theorem sX(I:Inv X pins B H s)(hg:Gl X x)(hm:X.mg x=Zi)(hv:Vj x=Zh u)(h:Q u s)
  (hn:x≠"__name__":=by decide) (hd:(x==("__debug__":Str))=false:=by decide):wpAny (UI X.prog X.w) X.A (UO (.Name x pos) X.env) Q E s:=by
 obtain⟨mb,h1,h2⟩:=I.mod.blt
 exact WK I.ok.kind hg (Calls.loadGlobal_builtin (by rw[I.ok.glob];exact I.mod.glob.keeps I.bk) hm (by rw[I.ok.blt];exact h1.keeps I.bk) ((h2 x hn).trans hv) h) hd
theorem xI(hg:Gl X x)(hm:X.mg x=Zh u)(r:Zm v u)(hd:(x==("__debug__":Str))=false:=by decide):PE X (.Name x pos) (tC v):=
 λ_ _ _ H _ I h=>oQ I hg hm ⟨v,H,I,r,h⟩ hd
theorem HQ(hg:Gl X x)(hm:X.mg x=Zi)(hv:Vj x=Zh u)(r:Zm v u)(hn:x≠"__name__":=by decide)(hd:(x==("__debug__":Str))=false:=by decide):PE X (.Name x pos) (tC v):=
 λ_ _ _ H _ I h=>sX I hg hm hv ⟨v,H,I,r,h⟩ hn hd
variable{a b:Expr}{ta tb:TE}{pos:Pos}
variable{tA tB':TT}{rest:List Expr}
noncomputable def NA(t u:TT):TT:=λB H Q=>t B H λc H1=>if c=true then u B H1 Q else Q false H1
noncomputable def tOr(t u:TT):TT:=λB H Q=>t B H λc H1=>if c=true then Q true H1 else u B H1 Q
noncomputable def Po(t:TT):TT:=λB H Q=>t B H λc H1=>Q (!c) H1
theorem pw_and1(ha:PT X a tA):PW X (.BoolOp .And [a] pos) tA:=by
 intro wh pins s B H Q I h;refine isTrue_and (thn (ha pins s B H Q I h) λc s1 e=>?_);cases c with
 |true=>exact isTrue_and_nil e
 |false=>exact e
theorem pw_or1(ha:PT X a tA):PW X (.BoolOp .Or [a] pos) tA:=by
 intro wh pins s B H Q I h;refine isTrue_or (thn (ha pins s B H Q I h) λc s1 e=>?_);cases c with
 |false=>exact isTrue_or_nil e
 |true=>exact e
theorem pw_and(ha:PT X a tA)(hb:PW X (.BoolOp .And (b::rest) pos) tB'):PW X (.BoolOp .And (a::b::rest) pos) (NA tA tB'):=by
 intro wh pins s B H Q I h;refine isTrue_and (thn (ha pins s B H _ I h) λc s1 z9=>?_);obtain⟨H1,I1,q1⟩:=z9;cases c with
 |true=>exact hb wh pins s1 B H1 Q I1 q1
 |false=>exact⟨H1,I1,q1⟩
theorem pw_or(ha:PT X a tA)(hb:PW X (.BoolOp .Or (b::rest) pos) tB'):PW X (.BoolOp .Or (a::b::rest) pos) (tOr tA tB'):=by
 intro wh pins s B H Q I h;refine isTrue_or (thn (ha pins s B H _ I h) λc s1 z9=>?_);obtain⟨H1,I1,q1⟩:=z9;cases c with
 |true=>exact⟨H1,I1,q1⟩
 |false=>exact hb wh pins s1 B H1 Q I1 q1
theorem L6(ha:PT X a tA):PT X (.UnaryOp .Not a pos) (Po tA):=by
 intro pins s B H Q I h;exact isTrue_not (thn (ha pins s B H (λc H1=>Q (!c) H1) I h) λc s1 ⟨H1,I1,q1⟩=>⟨H1,I1,q1⟩)
noncomputable def Ol(ta tb:TE):TE:=λB H Q=>ta B H λx H1=>∃c,x=.bl c/\if c=true then tb B H1 Q else Q (.bl false) H1
theorem Lz{op}(h:PE X a t):PE X (.BoolOp op [a] pos) t:=λpins s B H Q I hw=>BoolOp_one (h pins s B H Q I hw)
theorem L1(ha:PE X a ta)(hb:PE X (.BoolOp .And (b::rest) pos) tb):PE X (.BoolOp .And (a::b::rest) pos) (Ol ta tb):=by
 intro pins s B H Q I h;refine BoolOp_and (thn (ha pins s B H _ I h) λv s1 z9=>?_);obtain⟨x,H1,I1,r1,q1⟩:=z9;obtain⟨c,rfl,q1⟩:=q1;cases r1;refine Vc ?_;cases c with
 |true=>exact hb pins s1 B H1 Q I1 q1
 |false=>exact⟨.bl false,H1,I1,rfl,q1⟩
noncomputable def tIf(t:TT)(ta tb:TE):TE:=λB H Q=>t B H λc H1=>if c=true then ta B H1 Q else tb B H1 Q
theorem En(hc:PT X c tA)(ha:PE X a ta)(hb:PE X b tb):PE X (.IfExp c a b pos) (tIf tA ta tb):=by
 intro pins s B H Q I h;refine wpAny_IfExp (thn (hc pins s B H _ I h) λd s1 z9=>?_);obtain⟨H1,I1,q1⟩:=z9;cases d with
 |true=>exact ha pins s1 B H1 Q I1 q1
 |false=>exact hb pins s1 B H1 Q I1 q1
end
def SqL(K:Uw)(H:Hp)(a:Uu)(xs:List V):Prop:=
 Rd H a (.lst xs)\/
  ∃(o:Obj)(its:Array Ut)(n:Nat),K.lookup a=Zh o/\o.cls=.type "list"/\o.dict=Zi/\o.data=.seq its n/\its.size<=sizeLine/\Zl xs its.toList
def SqT(K:Uw)(H:Hp)(a:Uu)(xs:List V):Prop:=
 Rd H a (.tup xs)\/
  ∃(o:Obj)(its:Array Ut)(n:Nat),K.lookup a=Zh o/\o.cls=.type "tuple"/\o.data=.seq its n/\its.size<=sizeLine/\Zl xs its.toList
noncomputable def zt:Ut->Option V
 | .none=>Zh .non
 | .bool b=>Zh (.bl b)
 | .int i _=>Zh (.int i)
 | .str x _=>Zh (.str x)
 | .bytes b _=>Zh (.byt b)
 | .float b _=>Zh (.flt b)
 | .ref a=>Zh (.ref a)
 | .type n=>Zh (.ty n)
 |_=>Zi
theorem Zm.abs(r:Zm x u):zt u=Zh x:=by
 cases x with
 |non=>cases r;rfl
 |bl _=>cases r;rfl
 |int _=>obtain⟨t,rfl⟩:=r;rfl
 |str _=>obtain⟨t,rfl⟩:=r;rfl
 |byt _=>obtain⟨t,rfl⟩:=r;rfl
 |flt _=>obtain⟨t,rfl⟩:=r;rfl
 |ref _=>cases r;rfl
 |ty _=>cases r;rfl
theorem Zm.inj(r:Zm x u)(q:Zm y u):x=y:=UE (r.abs.symm.trans q.abs)
theorem Zl.inj:∀{xs ys:List V}{us:List Ut},Zl xs us->Zl ys us->xs=ys
 |_,_,_,.nil,.nil=>rfl
 |_,_,_,.cons r t,.cons r' t'=>by rw[r.inj r',Zl.inj t t']
section
variable{X:Cx}{pins:List (Uu×Obj)}{B:St}{H:Hp}{s:Uy}{a:Uu}{xs ys:List V}
theorem SqL.of{K:Uw}(h:H a=Zh (.lst xs)):SqL K H a xs:=.inl (.inl h)
theorem SqT.of{K:Uw}(h:H a=Zh (.tup xs)):SqT K H a xs:=.inl (.inl h)
theorem Inv.list(I:Inv X pins B H s)(h:SqL X.K H a xs):∃its:List Ut,Zl xs its/\PlainL s.heap a its.toArray/\xs.length<=sizeLine:=by
 rcases h with h|⟨o,its,n,hk,hc,hd,hs,hz,r⟩
 ·obtain⟨z,its,n,r,e⟩:=h.ok I.hok;exact{its,r,{_,n,e,rfl,rfl,rfl},z}
 refine{its.toList,r,⟨o,n,I.kIn a o hk,hc,hd,by simpa using hs⟩,?_};have e:=r.length;simp only[Rf]at e;lia
theorem Inv.tuple(I:Inv X pins B H s)(h:SqT X.K H a xs):∃its:List Ut,Zl xs its/\IsTup s.heap a its.toArray/\xs.length<=sizeLine:=by
 rcases h with h|⟨o,its,n,hk,hc,hs,hz,r⟩
 ·obtain⟨z,its,r,p⟩:=h.ok I.hok;exact⟨its,r,p,z⟩
 refine{its.toList,r,⟨o,I.kIn a o hk,hc,n,by simpa using hs⟩,?_};have e:=r.length;simp only[Rf]at e;lia
theorem Inv.y8(I:Inv X pins B H s)(h:SqL X.K H a xs)(h':SqL X.K H a ys):xs=ys:=by
 obtain⟨its,r,⟨o,n,e,_,_,d⟩,_⟩:=I.list h;obtain⟨its',r',⟨o',n',e',_,_,d'⟩,_⟩:=I.list h';rw[e]at e';cases e';rw[d]at d';injection d' with d1 _;have:its=its':=by simpa using congrArg Array.toList d1
 subst this;exact r.inj r'
theorem Inv.CV(I:Inv X pins B H s)(h:SqT X.K H a xs)(h':SqT X.K H a ys):xs=ys:=by
 obtain⟨its,r,⟨o,e,_,n,d⟩,_⟩:=I.tuple h;obtain⟨its',r',⟨o',e',_,n',d'⟩,_⟩:=I.tuple h';rw[e]at e';cases e';rw[d]at d';injection d' with d1 _;have:its=its':=by simpa using congrArg Array.toList d1
 subst this;exact r.inj r'
end
noncomputable abbrev Cx.uS(X:Cx)(E:Ut->Uy->Prop):Cx:={ X with xe:=E }
noncomputable abbrev Cx.nox(X:Cx):Cx:=X.uS λ_ _=>False
theorem Cx.Ok.uS{X:Cx}(ok:X.Ok)(E:Ut->Uy->Prop):(X.uS E).Ok:=
 ⟨ok.mod,ok.kind,ok.glob,ok.blt,ok.above,ok.inj,ok.has,ok.cab,ok.hd,ok.frames,ok.stk,ok.exf,ok.bs,ok.bsz,ok.Gb,ok.Eh,ok.rj,ok.frf⟩
theorem Cx.Ok.kD{X:Cx}{E:Ut->Uy->Prop}(ok:(X.uS E).Ok):X.Ok:=
 ⟨ok.mod,ok.kind,ok.glob,ok.blt,ok.above,ok.inj,ok.has,ok.cab,ok.hd,ok.frames,ok.stk,ok.exf,ok.bs,ok.bsz,ok.Gb,ok.Eh,ok.rj,ok.frf⟩
section
variable{X:Cx}{pins:List (Uu×Obj)}{B:St}{H:Hp}{s:Uy}{E:Ut->Uy->Prop}
theorem Inv.uS(I:Inv X pins B H s)(E:Ut->Uy->Prop):Inv (X.uS E) pins B H s:=⟨I.ok.uS E,I.os,I.bare,I.base,I.loc,I.cell,I.free,I.lB,I.pin,I.hok,I.len⟩
theorem Inv.kD(I:Inv (X.uS E) pins B H s):Inv X pins B H s:=⟨I.ok.kD,I.os,I.bare,I.base,I.loc,I.cell,I.free,I.lB,I.pin,I.hok,I.len⟩
theorem SP.kD(h:SP (X.uS E) pins D f s'):SP X pins D f s':=by
 cases f with
 |next=>obtain⟨B',H',I,q⟩:=h;exact⟨B',H',I.kD,q⟩
 |brk=>obtain⟨B',H',I,q⟩:=h;exact⟨B',H',I.kD,q⟩
 |cont=>obtain⟨B',H',I,q⟩:=h;exact⟨B',H',I.kD,q⟩
 |ret u=>obtain⟨v,B',H',I,r,q⟩:=h;exact⟨v,B',H',I.kD,r,q⟩
theorem PSs.nox{st:List UP}{t:TS}(h:PSs X.nox st t):PSs X st t:=λpins s B H D I hw=>
 U8 (h pins s B H D (I.uS _) hw) (λ_ _ q=>q.kD) λ_ _ z=>Vn z
end
section
variable{X:Cx}{st:UP}{rest:List UP}{t u:TS}{e:Expr}{te:TE}{pos:Pos}
noncomputable def Of:TS:=λD B H=>D.nx B H
noncomputable def NI(t u:TS):TS:=λD B H=>t { D with nx:=u D } B H
theorem JD:PSs X [] Of:=λ_ _ B H _ I h=>Wz ⟨B,H,I,h⟩
theorem EB(h1:PS X st t)(h2:PSs X rest u):PSs X (st::rest) (NI t u):=by
 intro pins s B H D I h;refine Ys (thn (h1 pins s B H { D with nx:=u D } I h) λf s1 q=>?_);cases f with
 |next=>
  obtain⟨B',H',I',q⟩:=q;exact h2 pins s1 B' H' D I' q
 |ret v=>exact q
 |brk=>exact q
 |cont=>exact q
theorem Ig(h1:PS X st t):PSs X [st] t:=by
 intro pins s B H D I h;refine Ys (thn (h1 pins s B H D I h) λf s1 q=>?_);cases f with
 |next=>exact Wz q
 |ret v=>exact q
 |brk=>exact q
 |cont=>exact q
theorem Inv.quiet(I:Inv X pins B H s):interactive X.env=false:=by simp[interactive,I.ok.kind]
noncomputable def OU(te:TE):TS:=λD B H=>te B H λ_ H1=>D.nx B H1
theorem nM(he:PE X e te)(hs:Vh e Zi pos.line X.env=pure false:=by rfl):PS X (.Expr e pos) (OU te):=by
 intro pins s B H D I h;exact wpAny_Expr_any (thn (he pins s B H _ I h) λv s1 ⟨x,H1,I1,r1,q1⟩=>⟨B,H1,I1,q1⟩) I.quiet hs
noncomputable def Pu(te:TE):TS:=λD B H=>te B H D.rt
theorem Gw(he:PE X e te):PS X (.Return (Zh e) pos) (Pu te):=by
 intro pins s B H D I h;exact wpAny_Return_some (thn (he pins s B H _ I h) λv s1 ⟨x,H1,I1,r1,q1⟩=>⟨x,B,H1,I1,r1,q1⟩)
noncomputable def OX(c:TT)(t u:TS):TS:=λD B H=>c B H λb H1=>if b=true then t D B H1 else u D B H1
theorem OD(hc:PT X c tc)(ha:PSs X a t)(hb:PSs X b u):PS X (.If c a b pos) (OX tc t u):=by
 intro pins s B H D I h;refine wpAny_If (thn (hc pins s B H _ I h) λd s1 z9=>?_);obtain⟨H1,I1,q1⟩:=z9;cases d with
 |true=>exact ha pins s1 B H1 D I1 q1
 |false=>exact hb pins s1 B H1 D I1 q1
noncomputable def Ex:TS:=λ_ _ _=>False
theorem Fx:PS X st Ex:=λ_ _ _ _ _ _ h=>h.elim
theorem Dw:PSs X sts Ex:=λ_ _ _ _ _ _ h=>h.elim
end
abbrev TG:=V->St->Hp->(St->Hp->Prop)->Prop
abbrev TGs:=List V->St->Hp->(St->Hp->Prop)->Prop
def PG(X:Cx)(target:Expr)(t:TG):Prop:=
 ∀(pins:List (Uu×Obj))(s:Uy)(B:St)(H:Hp)(v:V)(u:Ut)(Q:St->Hp->Prop),Inv X pins B H s->Zm v u->t v B H Q->
  wpAny (UI X.prog X.w) X.A (assign target X.env u) (λ_ s'=>NP X pins Q s') X.xe s
def PGs(X:Cx)(ts:List Expr)(t:TGs):Prop:=
 ∀(pins:List (Uu×Obj))(s:Uy)(B:St)(H:Hp)(vs:List V)(us:List Ut)(Q:St->Hp->Prop),Inv X pins B H s->Zl vs us->t vs B H Q->
  wpAny (UI X.prog X.w) X.A (assignInOrder ((VB ts X.env).map (·.2)) us) (λ_ s'=>NP X pins Q s') X.xe s
abbrev Lg:=V->V->V->Hp->(Hp->Prop)->Prop
def GD(X:Cx)(t:Lg):Prop:=
 ∀(pins:List (Uu×Obj))(s:Uy)(B:St)(H:Hp)(o i v:V)(ov iv u:Ut)(Q:Hp->Prop),Inv X pins B H s->Zm o ov->Zm i iv->Zm v u->t o i v H Q->
  wpAny (UI X.prog X.w) X.A (Zg ov iv u) (λ_ s'=>∃H',Inv X pins B H' s'/\Q H') X.xe s
section
variable{X:Cx}{pos:Pos}
noncomputable def vA(i:Nat):TG:=λv B H Q=>Q (B.set i (Zh v)) H
theorem Cu(hN:X.N.Nodup)(hi:X.N[i]?=Zh x)(hx:Loc X.env.scope x)(hf:X.fn x=true\/X.env.scope.names.lookup x=Zh .local:=by trivial):PG X (.Name x pos) (vA i):=by
 intro pins s B H v u Q I r h;exact wpAny_assign_Name (zr I hN hi hx r (λs' I'=>{_,H,I',h}) hf)
noncomputable def OZ:TGs:=λvs B H Q=>vs=[]/\Q B H
noncomputable def Nq(t:TG)(u:TGs):TGs:=λvs B H Q=>∃v r,vs=v::r/\t v B H λB' H'=>u r B' H' Q
theorem JA:PGs X [] OZ:=by
 intro pins s B H vs us Q I r h;obtain⟨e,h⟩:=h;subst e;cases r;exact assignInOrder_nil ⟨B,H,I,h⟩
theorem D5(h1:PG X e t)(h2:PGs X es u)
  (hs:(VB (e::es) X.env).map (·.2)=assign e X.env::(VB es X.env).map (·.2):=by rfl):PGs X (e::es) (Nq t u):=by
 intro pins s B H vs us Q I r h
 obtain⟨v,vr,e1,h⟩:=h
 subst e1
 cases r with
 |cons r rr=>
  rw[hs]
  refine assignInOrder_cons (thn (h1 pins s B H _ _ _ I r h) λ_ s1 z9=>?_);obtain⟨σ1,H1,I1,q1⟩:=z9
  exact h2 pins s1 σ1 H1 _ _ Q I1 rr q1
inductive Oa(K:Uw)(n:Nat)(v:V)(H:Hp)(R:List V->Prop):Prop
 |mk(a:Uu)(xs:List V)(h0:v=.ref a)(h1:SqT K H a xs)(h2:xs.length=n)(q:R xs):Oa K n v H R
noncomputable def PH(K:Uw)(n:Nat)(t:TGs):TG:=λv B H Q=>Oa K n v H (λxs=>t xs B H Q)
theorem KA(hc:X.calm=true)(h:PGs X es t)
  (hn:(VB es X.env).length=n:=by rfl) (hst:(VB es X.env).findIdx? (·.1)=Zi:=by rfl):PG X (.Tuple es k pos) (PH X.K n t):=by
 intro pins s B H v u Q I r hw
 obtain⟨a,xs,e1,hq,hl,hw⟩:=hw
 subst e1
 cases r
 obtain⟨its,rv,ht,hz⟩:=I.tuple hq
 refine assign_Tuple_tuple (I.ok.hd hc) ht (by simp[hn,<-hl,rv.length]) hst λh' hx=>?_
 have I1:Inv X pins B H { s with heap:=h' }:=I.kept (t':=s.toks) λb o e=>hx b o (Qy (UG e)) e
 exact h pins _ B H xs _ Q I1 (by simpa using rv) hw
noncomputable def Pe(to ti:TE)(t:Lg):TG:=λv B H Q=>to B H λo H1=>ti B H1 λi H2=>t o i v H2 λH3=>Q B H3
theorem Kq(ho:PE X o to)(hi:PE X i ti)(hs:GD X t)
  (ha:∀v,assign (.Subscript o i pos) X.env v=(do
   let ov<-Vv [v] (UO o X.env)
   let iv<-Vv [v,ov] (UO i X.env)
   V3 pos
   Vv [v,ov,iv] (Zg ov iv v)
   release [v,ov,iv] []):=by intro _;rfl):PG X (.Subscript o i pos) (Pe to ti t):=by
 intro pins s B H v u Q I r h
 rw[ha]
 refine Ux (wpAny_holding (thn (ho pins s B H _ I h) λov s1 z9=>?_));obtain⟨x,H1,I1,r1,q1⟩:=z9
 refine Ux (wpAny_holding (thn (hi pins s1 B H1 _ I1 q1) λiv s2 z9=>?_));obtain⟨y,H2,I2,r2,q2⟩:=z9
 refine Ux (Wr (Ux (wpAny_holding (thn (hs pins s2 B H2 x y v ov iv u _ I2 r1 r2 r q2) λ_ s3 z9=>?_))));obtain⟨H3,I3,q3⟩:=z9
 exact wpAny_release ⟨B,H3,I3,q3⟩
noncomputable def Ds(te:TE)(g:TG):TS:=λD B H=>te B H λx H1=>g x B H1 D.nx
theorem LS(he:PE X e te)(hg:PG X tg g)(hs:swapsWithSole [tg] e pos.line X.env=pure false:=by rfl)(hw:swappedStores [tg] e X.env=pure Zi:=by rfl)
  (h1:(VB [tg] X.env).map (·.2)=[assign tg X.env]:=by rfl):PS X (.Assign [tg] e pos) (Ds te g):=by
 intro pins s B H D I h
 refine wpAny_Assign_stores (thn (he pins s B H _ I h) λv s1 ⟨x,H1,I1,r1,q1⟩=>?_) hs hw
 rw[h1]
 exact thn (hg pins s1 B H1 x v _ I1 r1 q1) λ_ s2 q=>q
theorem AK(hN:X.N.Nodup)(hi:X.N[i]?=Zh x)(hx:Loc X.env.scope x)(he:PE X e te)(hs:Vh e (Zh (.Name x pos')) pos.line X.env=pure false:=by rfl)(hf:X.fn x=true\/X.env.scope.names.lookup x=Zh .local:=by trivial) :
  PS X (.Assign [.Name x pos'] e pos) (Ds te (vA i)):=by
 intro pins s B H D I h
 refine wpAny_Assign_Name (thn (he pins s B H _ I h) λv s1 ⟨y,H1,I1,r1,q1⟩=>?_) hs
 exact zr I1 hN hi hx r1 (λs2 I2=>{_,H1,I2,q1}) hf
def Fl(c:TT)(tb:TS):TS:=λD B H=>∃W:Nat->St->Hp->Prop,(∃m,W m B H)/\∀m B H,W m B H->
 c B H λb H1=>if b=true then ∃N:St->Hp->Prop,(∀B' H',N B' H'->∃m',m'<m/\W m' B' H')/\tb { D with nx:=N,ct:=N,bk:=D.nx } B H1 else D.nx B H1
theorem GB(hp:XG (UI X.prog X.w) X.A X.env X.xe)(hc:PT X c tc)(hb:PSs X body tb):PS X (.While c body [] pos) (Fl tc tb):=by
 intro pins s B H D I h;obtain⟨W,⟨m0,w0⟩,turn⟩:=h;refine wpAny_While (codeAny_whileLoop (λn s'=>NP X pins (W n) s') ?_ m0 ⟨B,H,I,w0⟩);rintro n s1 ⟨σ1,H1,I1,w1⟩;refine Vu hp (thn (hc pins s1 σ1 H1 _ I1 (turn n σ1 H1 w1)) λb s2 z9=>?_);obtain⟨H2,I2,q2⟩:=z9;cases b with
 |true=>
  obtain⟨N,hN,q2⟩:=q2;rw[if_pos rfl];refine Vu hp (thn (hb pins s2 σ1 H2 _ I2 q2) λf s3 q3=>?_);cases f with
  |next=>
   obtain⟨σ3,H3,I3,n3⟩:=q3;obtain⟨m',hm,w3⟩:=hN σ3 H3 n3;exact⟨m',hm,σ3,H3,I3,w3⟩
  |cont=>
   obtain⟨σ3,H3,I3,n3⟩:=q3;obtain⟨m',hm,w3⟩:=hN σ3 H3 n3;exact⟨m',hm,σ3,H3,I3,w3⟩
  |brk=>exact q3
  |ret v=>exact q3
 |false=>
  rw[if_neg Qn];exact Wz ⟨σ1,H2,I2,q2⟩
end
structure It where
 go:Nat->Hp->Prop
 yld:Nat->Hp->V->Hp->Prop
 stop:Nat->Hp->Prop
def uy(X:Cx)(pins:List (Uu×Obj))(H:Hp)(b:Uu):Prop:=
 H b=Zi/\b≠X.env.locals/\b∉X.fs/\(b∈X.ex\/X.s₀.heap.objs.size<=b)/\(∀x c,X.env.cells.lookup x=Zh c->c≠b)/\∀p∈X.pn++pins,p.1≠b
theorem Inv.Aw(I:Inv X pins B H s)(hb:s.heap.objs.size<=b)(hn:H' b=Zi):uy X pins H' b:=by
 refine{hn,RZ (Qm I.lt hb),I.NU hb,.inr (Qi I.sz hb),λx c e z=>?_,λp hp z=>?_}
 ·obtain⟨v,q⟩:=I.cell x c e;exact absurd (Qm q.lt (by rw[z];exact hb)) (Rg _)
 exact absurd (Qm (UG (I.pin p hp).1) (by rw[z];exact hb)) (Rg _)
structure ZR(P:Program)(w:UC)(K:Uw)(tg:Expr)(J:It)(fp:List Uu)(it:Uu)(tn:Nat->UT->Prop):Prop where
 mem:it∈fp
 obj:∀i h,tn i h->∀b∈fp,∃o,h.get? b=Zh o/\∀v,o.data≠ .cell v
 keep:∀i h h',tn i h->(∀b∈fp,∀o,h.get? b=Zh o->h'.get? b=Zh o)->tn i h'
 item:∀(X:Cx),X.prog=P->X.w=w->X.K=K->X.calm=true->∀(i:Nat)(pins:List (Uu×Obj))(s:Uy)(B:St)(H:Hp)(E:Ut->Uy->Prop),Inv X pins B H s->(∀b∈fp,uy X pins H b)->tn i s.heap->J.go i H->
  wpAny (UI P w) X.A (pyNext (.ref it)) (λr s1=>∃u,r=Zh u/\
   wpAny (UI P w) X.A (WA tg (.ref it) u) (λ_ s2=>∃x H',Inv X pins B H' s2/\Zm x u/\J.yld i H x H'/\tn (i+1) s2.heap/\∀b∈fp,H' b=Zi) E s1) E s
 done:∀(X:Cx),X.prog=P->X.w=w->X.K=K->X.calm=true->∀(i:Nat)(pins:List (Uu×Obj))(s:Uy)(B:St)(H:Hp)(E:Ut->Uy->Prop),Inv X pins B H s->(∀b∈fp,uy X pins H b)->tn i s.heap->J.stop i H->
  wpAny (UI P w) X.A (pyNext (.ref it)) (λr s1=>r=Zi/\Inv X pins B H s1) E s
 self:∀(A:US)(i:Nat)(s:Uy)(Q:Ut->Uy->Prop)(E:Ut->Uy->Prop),tn i s.heap->Q (.ref it) s->wpAny (UI P w) A (pyIter (.ref it)) Q E s
abbrev TI:=St->Hp->(It->Hp->Prop)->Prop
def PIE(X:Cx)(pins:List (Uu×Obj))(B:St)(tg:Expr)(R:It->Hp->Prop)(itv:Ut)(s2:Uy):Prop:=
 ∃(it:Uu)(fp:List Uu)(tn:Nat->UT->Prop)(J:It)(H':Hp),itv=.ref it/\Inv X pins B H' s2/\ZR X.prog X.w X.K tg J fp it tn/\tn 0 s2.heap/\(∀b∈fp,uy X pins H' b)/\R J H'
def PI(X:Cx)(tg iter:Expr)(wi:TI):Prop:=
 ∀(pins:List (Uu×Obj))(s:Uy)(B:St)(H:Hp)(R:It->Hp->Prop),Inv X pins B H s->wi B H R->
  wpAny (UI X.prog X.w) X.A (UO iter X.env) (λv s1=>wpAny (UI X.prog X.w) X.A (pyIter v) (PIE X pins B tg R) X.xe s1) X.xe s
theorem BW(ho:s.heap.get? it=Zh o)(hc:o.cls=.type n)(hd:o.data=.fields vs)
    (hn:["enumerate","zip","dict_itemiterator","dict_reverseitemiterator","odict_iterator","itertools.zip_longest","itertools.pairwise"].contains n=false) (hQ:Q () s):wpAny M A (WA tg (.ref it) u) Q E s:=by
  unfold WA
  cases tg<;>first
    |exact UA hQ
    | (cases u<;>first
        |exact UA hQ
        | (refine Ux (wpAny_load ho ?_)
           rw[hc,hd]
           show wpAny M A (if(["enumerate","zip","dict_itemiterator","dict_reverseitemiterator","odict_iterator","itertools.zip_longest","itertools.pairwise"].contains n&&vs[0]?==Zh (rawInt _))=true then _ else _) Q E s
           rw[if_neg (by intro h;rw[hn,Sz]at h;cases h)]
           exact UA hQ))
noncomputable def Itl(K:Uw)(a:Uu):It:=
 {λi H=>∃xs x,SqL K H a xs/\xs[i]?=Zh x,λi H x H'=>H'=H/\∀xs,SqL K H a xs->xs[i]?=Zh x,λi H=>∃xs,SqL K H a xs/\xs.length<=i}
noncomputable def Itt(K:Uw)(a:Uu):It:=
 {λi H=>∃xs x,SqT K H a xs/\xs[i]?=Zh x,λi H x H'=>H'=H/\∀xs,SqT K H a xs->xs[i]?=Zh x,λi H=>∃xs,SqT K H a xs/\xs.length<=i}
noncomputable def Itr(lo:Int)(n:Nat):It:={λi _=>i<n,λi H x H'=>H'=H/\x=.int (lo+i),λi _=>n<=i}
theorem C6{P:Program}{w:UC}{K:Uw}{tg:Expr}(a it:Uu):ZR P w K tg (Itl K a) [it] it (λi h=>h.IsListIter it a i) where
 mem:=by simp
 obj:=λi h st b hb=>by
  have e:b=it:=by simpa using hb
  subst e;obtain⟨o,e,c,d⟩:=st;exact{o,e,λv z=>by rw[d]at z;cases z}
 keep:=λi h h' st k=>st.at λo e=>k it (by simp) o e
 item:=by
  intro X hP hw hK hc i pins s B H E I hf st hg;subst hP hw hK;obtain⟨xs,x,hq,hx⟩:=hg;obtain⟨its,rv,p,hz⟩:=I.list hq;obtain⟨u,hu,ru⟩:=rv.get hx;obtain⟨f0,f1,f2,f3,f4,f5⟩:=hf it (by simp);refine wpAny_pyNext_list_item st p.isList (x:=u) (by simpa using hu) λh' st' sb=>?_;have I1:Inv X pins B H { s with heap:=h' }:=I.turned (t':=s.toks) (λb o hb e=>(sb.2 b hb).trans e) f0 f1 f3 f4 f5;obtain⟨o,e,c,d⟩:=id st';exact{u,rfl,BW (s:={ s with heap:=h' }) e c d (by decide) ⟨x,H,I1,ru,⟨rfl,λys hy=>by rw[I.y8 hy hq];exact hx⟩,st',λb hb=>(hf b hb).1⟩}
 done:=by
  intro X hP hw hK hc i pins s B H E I hf st hg;subst hP hw hK;obtain⟨xs,hq,hx⟩:=hg;obtain⟨its,rv,p,hz⟩:=I.list hq;obtain⟨f0,f1,f2,f3,f4,f5⟩:=hf it (by simp);have hl:=rv.length;exact wpAny_pyNext_list_end (I.ok.hd hc) st p.isList (by simp;lia) λh' eb=>{rfl,I.turned (t':=s.toks) (λb o hb e=>eb b o hb e) f0 f1 f3 f4 f5}
 self:=λ_ _ _ _ _ st h=>wpAny_pyIter_listiter st h
theorem Ax{P:Program}{w:UC}{K:Uw}{tg:Expr}(a it:Uu):ZR P w K tg (Itt K a) [it] it (λi h=>h.IsTupleIter it a i) where
 mem:=by simp
 obj:=λi h st b hb=>by
  have e:b=it:=by simpa using hb
  subst e;obtain⟨o,e,c,d⟩:=st;exact{o,e,λv z=>by rw[d]at z;cases z}
 keep:=λi h h' st k=>st.at λo e=>k it (by simp) o e
 item:=by
  intro X hP hw hK hc i pins s B H E I hf st hg;subst hP hw hK;obtain⟨xs,x,hq,hx⟩:=hg;obtain⟨its,rv,p,hz⟩:=I.tuple hq;obtain⟨u,hu,ru⟩:=rv.get hx;obtain⟨f0,f1,f2,f3,f4,f5⟩:=hf it (by simp);refine wpAny_pyNext_tuple_item st (show s.heap.IsTuple a its.toArray from p) (x:=u) (by simpa using hu) λh' st' sb=>?_;have I1:Inv X pins B H { s with heap:=h' }:=I.turned (t':=s.toks) (λb o hb e=>(sb.2 b hb).trans e) f0 f1 f3 f4 f5;obtain⟨o,e,c,d⟩:=id st';exact{u,rfl,BW (s:={ s with heap:=h' }) e c d (by decide) ⟨x,H,I1,ru,⟨rfl,λys hy=>by rw[I.CV hy hq];exact hx⟩,st',λb hb=>(hf b hb).1⟩}
 done:=by
  intro X hP hw hK hc i pins s B H E I hf st hg;subst hP hw hK;obtain⟨xs,hq,hx⟩:=hg;obtain⟨its,rv,p,hz⟩:=I.tuple hq;obtain⟨f0,f1,f2,f3,f4,f5⟩:=hf it (by simp);have hl:=rv.length;exact wpAny_pyNext_tuple_end (I.ok.hd hc) st (show s.heap.IsTuple a its.toArray from p) (by simp;lia) λh' eb=>{rfl,I.turned (t':=s.toks) (λb o hb e=>eb b o hb e) f0 f1 f3 f4 f5}
 self:=λ_ _ _ _ _ st h=>wpAny_pyIter_tupleiter st h
theorem A3{P:Program}{w:UC}{K:X8}{tg:Expr}(it:Uu)(lo:Int)(n:Nat):ZR P w K tg (Itr lo n) [it] it (λi h=>IsRangeIter h it (lo+(i:Nat)*1) ((n:Int)-(i:Nat)) 1) where
 mem:=by simp
 obj:=λi h st b hb=>by
  have e:b=it:=by simpa using hb
  subst e;exact⟨_,st,λv z=>by
   have z':Data.fields _=Data.cell v:=z;cases z'⟩
 keep:=λi h h' st k=>k it (by simp) _ st
 item:=by
  intro X hP hw hK hc i pins s B H E I hf st hg;subst hP hw hK;obtain⟨f0,f1,f2,f3,f4,f5⟩:=hf it (by simp);have W:=Walks.range (prog:=X.prog) (w:=X.w) (I.ok.hd hc) it lo 1 n;refine W.item i s _ _ hg st λv h' tk hv st' kk=>?_;obtain⟨t,rfl⟩:=hv;have I1:Inv X pins B H { s with heap:=h',toks:=tk }:=I.turned (λb o hb e=>kk b o (by simpa using hb) e) f0 f1 f3 f4 f5;refine⟨_,rfl,BW (s:={ s with heap:=h',toks:=tk }) (n:="range_iterator") st' rfl rfl (by decide) ⟨.int (lo+i),H,I1,⟨t,?_⟩,⟨rfl,rfl⟩,st',λb hb=>(hf b hb).1⟩⟩;rw[Int.mul_one]
 done:=by
  intro X hP hw hK hc i pins s B H E I hf st hg;subst hP hw hK;obtain⟨f0,f1,f2,f3,f4,f5⟩:=hf it (by simp);exact wpAny_pyNext_range_end (I.ok.hd hc) st (by have:n<=i:=hg;lia) λh' eb=>{rfl,I.turned (t':=s.toks) (λb o hb e=>eb b o hb e) f0 f1 f3 f4 f5}
 self:=λ_ _ _ _ _ st h=>wpAny_pyIter_rangeiter st h
section
variable{X:Cx}{tg:Expr}
theorem Gs{pins:List (Uu×Obj)}{B:St}{H:Hp}{s:Uy}{R:It->Hp->Prop}{E:Ut->Uy->Prop}{lo hi:Int}{t u v:Tok}{tk:Nat}(I:Inv X pins B H s)(h1:-(2^62)<=lo)(h2:lo<2^62)(h3:-(2^62)<=hi)(h4:hi<2^62)
  (q:R (Itr lo (hi-lo).toNat) H):wpAny (UI X.prog X.w) X.A (pyIter (.ref s.heap.objs.size)) (PIE X pins B tg R) E { s with heap:=s.heap.push { cls:=.type "range",data:=.fields #[.int lo t,.int hi u,.int 1 v] },toks:=tk }:=by
 refine wpAny_pyIter_range (IsRange.new ..) (small_one h1 h2 h3 h4) ?_
 have I1:Inv X pins B H { s with heap:=s.heap.push { cls:=.type "range",data:=.fields #[.int lo t,.int hi u,.int 1 v] },toks:=tk }:=I.kept λb o e=>Uz _ e
 refine⟨(s.heap.push { cls:=.type "range",data:=.fields #[.int lo t,.int hi u,.int 1 v] }).objs.size,[(s.heap.push { cls:=.type "range",data:=.fields #[.int lo t,.int hi u,.int 1 v] }).objs.size],_,_,H,rfl,
  I1.kept (t':=tk) λb o e=>Uz _ e,A3 _ lo (hi-lo).toNat,?_,λb hb=>?_,q⟩
 ·have e1:lo+((0:Nat):Int)*1=lo:=by simp
  have e2:(((hi-lo).toNat:Nat):Int)-((0:Nat):Int)=Builtin.Range.rangeSize lo hi 1:=by rw[rangeSize_one];split<;>lia
  show IsRangeIter _ _ (lo+((0:Nat):Int)*1) ((((hi-lo).toNat:Nat):Int)-((0:Nat):Int)) 1;rw[e1,e2];exact UK _ rfl
 have e:b=(s.heap.push { cls:=.type "range",data:=.fields #[.int lo t,.int hi u,.int 1 v] }).objs.size:=by simpa using hb
 subst e
 exact I1.Aw (Qf _) (I1.hok.fresh (Qf _))
inductive Ow(vs:List V)(H:Hp)(R:It->Hp->Prop):Prop
 |mk(j:Int)(h0:vs=[.int j])(h1:-(2^62)<=j)(h2:j<2^62)(q:R (Itr 0 j.toNat) H):Ow vs H R
noncomputable def Nw(ta:TA):TI:=λB H R=>ta B H λvs H1=>Ow vs H1 R
theorem DA(hg:Gl X "range")(hm:X.mg "range"=Zi)(ha:PA X [a] ta)(hs:Uv [a] X.env=[(false,UO a X.env)]:=by rfl):PI X tg (.Call (.Name "range" p) [a] [] pos) (Nw ta):=by
 intro pins s B H R I h;refine Call_ (sX I hg hm boot_range (WH (thn (ha pos pins s B H _ I h) λus s1 ⟨vs,H1,I1,r1,q1⟩=>?_) hs rfl));obtain⟨j,e,q1,q2,q⟩:=q1;subst e;cases r1 with
 |cons r rr=>
  cases rr;obtain⟨t,rfl⟩:=r;exact call_range_1 (Gs I1 (by lia) (by lia) q1 q2 (by simpa using q))
def LV(wi:TI)(g:TG)(tb:TS):TS:=λD B H=>wi B H λJ H1=>∃W:Nat->Nat->St->Hp->Prop,(∃m,W 0 m B H1)/\∀i m B H,W i m B H->
 (J.stop i H/\D.nx B H)\/(J.go i H/\∃N:St->Hp->Prop,(∀B' H',N B' H'->∃m',m'<m/\W (i+1) m' B' H')/\∀x H',J.yld i H x H'->g x B H' λσ2 H2=>tb { D with nx:=N,ct:=N,bk:=D.nx } σ2 H2)
noncomputable def tN(fp:List Uu)(h:UT):List (Uu×Obj):=fp.filterMap λb=>(h.get? b).map λo=>(b,o)
theorem jg(hb:b∈fp)(e:h.get? b=Zh o):(b,o)∈tN fp h:=R0.mpr {b,hb,by rw[e];rfl}
theorem Dq(hp:p∈tN fp h):p.1∈fp/\h.get? p.1=Zh p.2:=by
 obtain⟨b,hb,e⟩:=R0.mp hp;cases q:h.get? b with
 |none=>rw[q]at e;cases e
 |some o=>
  rw[q]at e;have e':(b,o)=p:=UE e;subst e';exact⟨hb,q⟩
theorem Inv.pinned(I:Inv X pins B H s)(hf:∀b∈fp,uy X pins H b)(ho:∀b∈fp,∃o,s.heap.get? b=Zh o/\∀v,o.data≠ .cell v):Inv X (pins++tN fp s.heap) B H s:=
 I.wC λp hp=>(QD.mp hp).elim (λz=>I.pin p (Qq _ z)) λz=>by
  obtain⟨hb,e⟩:=Dq z;obtain⟨f0,f1,f2,_⟩:=hf p.1 hb;obtain⟨o,e',d⟩:=ho p.1 hb;rw[e]at e';cases e';exact⟨e,f0,f1,f2,d⟩
theorem Inv.lu(I:Inv X (pins++pl) B H s):Inv X pins B H s:=I.wC λp hp=>I.pin p (Qq _ (Q6 _ hp))
theorem E8(hp:XG (UI X.prog X.w) X.A X.env X.xe)(hc:X.calm=true)(hi:PI X tg iter wi)(hg:PG X tg g)(hb:PSs X body tb)
  (hs:∀x,foldedSetIterable iter X.env x=pure x:=by intro _;rfl):PS X (.For tg iter body [] pos) (LV wi g tb):=by
 intro pins s B H D I h
 refine wpAny_For (thn (hi pins s B H _ I h) λv s1 h1=>thn h1 λitv s2 h2=>?_) hs
 obtain⟨it,fp,tn,J,H2,e,I2,T,st2,f2,W,⟨m0,w0⟩,turn⟩:=h2
 subst e
 have stat:∀{H':Hp},(∀b∈fp,H' b=Zi)->∀b∈fp,uy X pins H' b:=λhn b hb=>{hn b hb,(f2 b hb).2}
 refine codeAny_forLoop_any (λn s'=>∃i B' H',Inv X pins B' H' s'/\tn i s'.heap/\(∀b∈fp,H' b=Zi)/\W i n B' H') ?_ m0 {0,B,H2,I2,st2,λb hb=>(f2 b hb).1,w0}
 rintro n s3 ⟨i,σ3,H3,I3,st3,fr3,w3⟩
 rcases turn i n σ3 H3 w3 with⟨stop,qn⟩|⟨go,N,hN,step⟩
 ·refine Vu hp (thn (T.done X rfl rfl rfl hc i pins s3 σ3 H3 X.xe I3 (stat fr3) st3 stop) λr s4 z9=>?_);obtain⟨hr,I4⟩:=z9;subst hr;exact Wz ⟨σ3,H3,I4,qn⟩
 refine Vu hp (thn (T.item X rfl rfl rfl hc i pins s3 σ3 H3 X.xe I3 (stat fr3) st3 go) λr s4 z9=>?_);obtain⟨u,hr,h4⟩:=z9
 subst hr
 refine Vu hp (thn h4 λ_ s5 z9=>?_);obtain⟨x,H5,I5,r5,y5,st5,fr5⟩:=z9
 have I5':=I5.pinned (stat fr5) (T.obj _ _ st5)
 refine Vu hp (thn (hg _ s5 σ3 H5 x u _ I5' r5 (step x H5 y5)) λ_ s6 z9=>?_);obtain⟨σ6,H6,I6,q6⟩:=z9
 refine Vu hp (thn (hb _ s6 σ6 H6 _ I6 q6) λf s7 q7=>?_)
 have again:∀{σ7:St}{H7:Hp},Inv X (pins++tN fp s5.heap) σ7 H7 s7->N σ7 H7->∃m,m<n/\∃i B' H',Inv X pins B' H' s7/\tn i s7.heap/\(∀b∈fp,H' b=Zi)/\W i m B' H':=λ{σ7 H7} I7 n7=>by
  obtain⟨m',hm,w7⟩:=hN σ7 H7 n7;refine{m',hm,i+1,σ7,H7,I7.lu,T.keep _ _ _ st5 λb hb o e=>(I7.pin (b,o) (Qq _ (Qq _ (jg hb e)))).1,λb hb=>?_,w7};obtain⟨o,e,d⟩:=T.obj _ _ st5 b hb;exact(I7.pin (b,o) (Qq _ (Qq _ (jg hb e)))).2.1
 cases f with
 |next=>obtain⟨σ7,H7,I7,n7⟩:=q7;exact again I7 n7
 |cont=>obtain⟨σ7,H7,I7,n7⟩:=q7;exact again I7 n7
 |brk=>obtain⟨σ7,H7,I7,q7⟩:=q7;exact⟨σ7,H7,I7.lu,q7⟩
 |ret v=>obtain⟨x7,σ7,H7,I7,r7,q7⟩:=q7;exact⟨x7,σ7,H7,I7.lu,r7,q7⟩
end
abbrev R2:=V->V->Hp->VK->Prop
def OpR(X:Cx)(f:Ut->Ut->Sem Ut)(r:R2):Prop:=
 ∀(pins:List (Uu×Obj))(s:Uy)(B:St)(H:Hp)(x y:V)(v u:Ut)(Q:VK),Inv X pins B H s->Zm x v->Zm y u->r x y H Q->
  wpAny (UI X.prog X.w) X.A (f v u) (EP X pins B Q) X.xe s
def UnR(X:Cx)(f:Ut->Sem Ut)(r:V->Hp->VK->Prop):Prop:=
 ∀(pins:List (Uu×Obj))(s:Uy)(B:St)(H:Hp)(x:V)(v:Ut)(Q:VK),Inv X pins B H s->Zm x v->r x H Q->
  wpAny (UI X.prog X.w) X.A (f v) (EP X pins B Q) X.xe s
def dE(X:Cx)(f:Ut)(r:List V->Hp->VK->Prop):Prop:=
 ∀(pins:List (Uu×Obj))(s:Uy)(B:St)(H:Hp)(xs:List V)(us:List Ut)(Q:VK),Inv X pins B H s->Zl xs us->r xs H Q->
  wpAny (UI X.prog X.w) X.A (call f us) (EP X pins B Q) X.xe s
def P0(X:Cx)(r:V->Hp->(Bool->Hp->Prop)->Prop):Prop:=
 ∀(pins:List (Uu×Obj))(s:Uy)(B:St)(H:Hp)(x:V)(v:Ut)(Q:Bool->Hp->Prop),Inv X pins B H s->Zm x v->r x H Q->
  wpAny (UI X.prog X.w) X.A (truthy v) (TP X pins B Q) X.xe s
noncomputable def tOp(r:R2)(ta tb:TE):TE:=λB H Q=>ta B H λx H1=>tb B H1 λy H2=>r x y H2 Q
noncomputable def tUn(r:V->Hp->VK->Prop)(ta:TE):TE:=λB H Q=>ta B H λx H1=>r x H1 Q
noncomputable def rI(C:Int->Int->Prop)(g:Int->Int->V):R2:=λx y H Q=>∃i j,x=.int i/\y=.int j/\C i j/\Q (g i j) H
noncomputable def rI0(g:Int->Int->V):R2:=λx y H Q=>∃i j,x=.int i/\y=.int j/\Q (g i j) H
def rU(g:Int->V):V->Hp->VK->Prop:=λx H Q=>∃i,x=.int i/\Q (g i) H
section
variable{X:Cx}{a b c:Expr}{ta tb tc:TE}{pos:Pos}
theorem Lq(ha:PE X a ta)(hb:PE X b tb){B:St}{H:Hp}{R:V->V->Hp->Prop}(I:Inv X pins B H s)
  (h:ta B H λx H1=>tb B H1 λy H2=>R x y H2) {Q:Ut->Uy->Prop}{f:Ut->Ut->Sem Ut}
  (hf:∀v u s2 x y H2,Inv X pins B H2 s2->Zm x v->Zm y u->R x y H2->wpAny (UI X.prog X.w) X.A (f v u) Q X.xe s2) :
  wpAny (UI X.prog X.w) X.A (UO a X.env) (λv s₁=>wpAny (UI X.prog X.w) X.A (UO b X.env) (λu s₂=>wpAny (UI X.prog X.w) X.A (f v u) Q X.xe s₂) X.xe s₁) X.xe s:=by
 refine thn (ha pins s B H _ I h) λv s1 z9=>?_;obtain⟨x,H1,I1,r1,q1⟩:=z9
 refine thn (hb pins s1 B H1 _ I1 q1) λu s2 z9=>?_;obtain⟨y,H2,I2,r2,q2⟩:=z9
 exact hf v u s2 x y H2 I2 r1 r2 q2
theorem Oq(ho:OpR X (Vw op) r)(ha:PE X a ta)(hb:PE X b tb):PE X (.BinOp a op b pos) (tOp r ta tb):=by
 intro pins s B H Q I h;exact wpAny_BinOp (Lq ha hb I h λv u s2 x y H2 I2 rx ry q=>ho pins s2 B H2 x y v u Q I2 rx ry q)
theorem OO(ho:UnR X (unaryOp op) r)(ha:PE X a ta):PE X (.UnaryOp op a pos) (tUn r ta):=by
 intro pins s B H Q I h;exact UnaryOp_ (thn (ha pins s B H _ I h) λv s1 ⟨x,H1,I1,r1,q1⟩=>ho pins s1 B H1 x v Q I1 r1 q1)
theorem opI{f:Ut->Ut->Sem Ut}{C:Int->Int->Prop}{g:Int->Int->Int}
  (rule:∀(i j:Int)(t u:Tok)(s:Uy)(Q:Ut->Uy->Prop)(E:Ut->Uy->Prop),C i j->Q (.int (g i j) s.toks) { s with toks:=s.toks+1 }->wpAny (UI X.prog X.w) X.A (f (.int i t) (.int j u)) Q E s) :
  OpR X f (rI C λi j=>.int (g i j)):=by
 intro pins s B H x y v u Q I rx ry h
 obtain⟨i,j,rfl,rfl,hc,q⟩:=h
 obtain⟨t,rfl⟩:=rx
 obtain⟨t',rfl⟩:=ry
 exact rule i j t t' s _ _ hc {.int (g i j),H,I.tok _,{_,rfl},q}
theorem NB{f:Ut->Ut->Sem Ut}{g:Int->Int->Int}
  (rule:∀(i j:Int)(t u:Tok)(s:Uy)(Q:Ut->Uy->Prop)(E:Ut->Uy->Prop),Q (.int (g i j) s.toks) { s with toks:=s.toks+1 }->wpAny (UI X.prog X.w) X.A (f (.int i t) (.int j u)) Q E s) :
  OpR X f (rI0 λi j=>.int (g i j)):=by
 intro pins s B H x y v u Q I rx ry h
 obtain⟨i,j,rfl,rfl,q⟩:=h
 obtain⟨t,rfl⟩:=rx
 obtain⟨t',rfl⟩:=ry
 exact rule i j t t' s _ _ {.int (g i j),H,I.tok _,{_,rfl},q}
theorem JE{f:Ut->Ut->Sem Ut}{g:Int->Int->Bool}
  (rule:∀(i j:Int)(t u:Tok)(s:Uy)(Q:Ut->Uy->Prop)(E:Ut->Uy->Prop),Q (.bool (g i j)) s->wpAny (UI X.prog X.w) X.A (f (.int i t) (.int j u)) Q E s) :
  OpR X f (rI0 λi j=>.bl (g i j)):=by
 intro pins s B H x y v u Q I rx ry h
 obtain⟨i,j,rfl,rfl,q⟩:=h
 obtain⟨t,rfl⟩:=rx
 obtain⟨t',rfl⟩:=ry
 exact rule i j t t' s _ _ {.bl (g i j),H,I,rfl,q}
def My(i j:Int):Prop:=0<=j/\j<=1000000/\i.natAbs<2^64
def GP(i j:Int):Prop:=(-(2^64)<i/\i<2^64)\/(-(2^64)<j/\j<2^64)
theorem GP.ok(h:GP i j):IntMulOk i j:=by
 rcases h with⟨h1,h2⟩|⟨h1,h2⟩
 ·exact .of_left (intBits_le_64 h1 h2)
 exact .of_right (intBits_le_64 h1 h2)
theorem ML:OpR X (Vw .Add) (rI0 λi j=>.int (i+j)):=NB λ_ _ _ _ _ _ _ q=>add_int q
theorem Ki:OpR X (Vw .Sub) (rI0 λi j=>.int (i-j)):=NB λ_ _ _ _ _ _ _ q=>sub_int q
theorem MG:OpR X (Vw .Mult) (rI GP λi j=>.int (i*j)):=opI λ_ _ _ _ _ _ _ hc q=>mul_int q hc.ok
theorem Kh:OpR X (Vw .Mod) (rI (λ_ j=>0<j) λi j=>.int (i%j)):=opI λi j _ _ _ _ _ hc q=>by
 have h1:(0:Int)<j:=hc;exact mod_int' (by lia) (by rw[Int.fmod_eq_emod_of_nonneg i (by lia)];exact q)
theorem Kz:OpR X (Vw .Pow) (rI My λi j=>.int (i^j.toNat)):=opI λ_ _ _ _ _ _ _ hc q=>pow_int_small hc.1 hc.2.1 hc.2.2 q
theorem unI{f:Ut->Sem Ut}{g:Int->Int}
  (rule:∀(i:Int)(t:Tok)(s:Uy)(Q:Ut->Uy->Prop)(E:Ut->Uy->Prop),Q (.int (g i) s.toks) { s with toks:=s.toks+1 }->wpAny (UI X.prog X.w) X.A (f (.int i t)) Q E s) :
  UnR X f (rU λi=>.int (g i)):=by
 intro pins s B H x v Q I rx h
 obtain⟨i,rfl,q⟩:=h
 obtain⟨t,rfl⟩:=rx
 exact rule i t s _ _ {.int (g i),H,I.tok _,{_,rfl},q}
theorem La:UnR X (unaryOp .USub) (rU λi=>.int (-i)):=unI λ_ _ _ _ _ q=>neg_int q
noncomputable def Mn:V->V->Bool
 | .non,.non=>true| .non,.int _=>true| .int _,.non=>true| .non,.bl _=>true| .bl _,.non=>true| .non,.str _=>true| .str _,.non=>true
 | .int _,.int _=>true| .bl _,.bl _=>true| .str _,.str _=>true| .byt _,.byt _=>true
 | .int _,.str _=>true| .str _,.int _=>true| .bl _,.str _=>true| .str _,.bl _=>true
 |_,_=>false
def rEq:R2:=λx y H Q=>Mn x y=true/\Q (.bl (decide (x=y))) H
def rNe:R2:=λx y H Q=>Mn x y=true/\Q (.bl (!decide (x=y))) H
theorem Ce:decide (V.int i=V.int j)=(i==j):=by
 rw[RW];simp
theorem GN:decide (V.bl i=V.bl j)=(i==j):=by
 rw[RW];simp
theorem Bf:decide (V.str i=V.str j)=(i==j):=by
 rw[RW];simp
theorem BF:decide (V.byt i=V.byt j)=(i.toList==j.toList):=by
 rw[RW];cases i;cases j;simp
theorem cj(I:Inv X pins B H s)(q:Q (.bl k) H)(e:k=k'):EP X pins B Q (.bool k') s:=by
 subst e;exact⟨.bl k,H,I,rfl,q⟩
theorem NW:OpR X (UH .Eq) rEq:=by
 intro pins s B H x y v u Q I rx ry h;obtain⟨hs,q⟩:=h;cases x with
 |non=>
  cases rx;cases y with
  |non=>cases ry;exact PySem.EqNone.eq_none_none (cj I q (by simp))
  |bl j=>cases ry;exact PySem.EqNone.eq_none_bool (cj I q (by simp))
  |int j=>obtain⟨t',rfl⟩:=ry;exact PySem.EqNone.eq_none_int (cj I q (by simp))
  |str j=>obtain⟨t',rfl⟩:=ry;exact PySem.EqNone.eq_none_str (cj I q (by simp))
  |_=>exact absurd (show false=true from hs) Qn
 |bl i=>
  cases rx;cases y with
  |non=>cases ry;exact PySem.EqNone.eq_bool_none (cj I q (by simp))
  |bl j=>cases ry;exact eq_bool (cj I q GN)
  |str j=>obtain⟨t',rfl⟩:=ry;exact PySem.EqMixed.eq_bool_str (cj I q (by simp))
  |_=>exact absurd (show false=true from hs) Qn
 |int i=>
  obtain⟨t,rfl⟩:=rx;cases y with
  |non=>cases ry;exact PySem.EqNone.eq_int_none (cj I q (by simp))
  |int j=>obtain⟨t',rfl⟩:=ry;exact eq_int (cj I q Ce)
  |str j=>obtain⟨t',rfl⟩:=ry;exact PySem.EqMixed.eq_int_str (cj I q (by simp))
  |_=>exact absurd (show false=true from hs) Qn
 |str i=>
  obtain⟨t,rfl⟩:=rx;cases y with
  |non=>cases ry;exact PySem.EqNone.eq_str_none (cj I q (by simp))
  |bl j=>cases ry;exact PySem.EqMixed.eq_str_bool (cj I q (by simp))
  |int j=>obtain⟨t',rfl⟩:=ry;exact PySem.EqMixed.eq_str_int (cj I q (by simp))
  |str j=>obtain⟨t',rfl⟩:=ry;exact eq_str (cj I q Bf)
  |_=>exact absurd (show false=true from hs) Qn
 |byt i=>
  obtain⟨t,rfl⟩:=rx;cases y with
  |byt j=>obtain⟨t',rfl⟩:=ry;exact W.eq_bytes (cj I q BF)
  |_=>exact absurd (show false=true from hs) Qn
 |_=>cases y<;>exact absurd (show false=true from hs) Qn
theorem ND:OpR X (UH .NotEq) rNe:=by
 intro pins s B H x y v u Q I rx ry h;obtain⟨hs,q⟩:=h;cases x with
 |non=>
  cases rx;cases y with
  |non=>cases ry;exact PySem.EqNone.ne_none_none (cj I q (by simp))
  |bl j=>cases ry;exact PySem.EqNone.ne_none_bool (cj I q (by simp))
  |int j=>obtain⟨t',rfl⟩:=ry;exact PySem.EqNone.ne_none_int (cj I q (by simp))
  |str j=>obtain⟨t',rfl⟩:=ry;exact PySem.EqNone.ne_none_str (cj I q (by simp))
  |_=>exact absurd (show false=true from hs) Qn
 |bl i=>
  cases rx;cases y with
  |non=>cases ry;exact PySem.EqNone.ne_bool_none (cj I q (by simp))
  |bl j=>cases ry;exact ne_bool (cj I q (congrArg not GN))
  |str j=>obtain⟨t',rfl⟩:=ry;exact PySem.EqMixed.ne_bool_str (cj I q (by simp))
  |_=>exact absurd (show false=true from hs) Qn
 |int i=>
  obtain⟨t,rfl⟩:=rx;cases y with
  |non=>cases ry;exact PySem.EqNone.ne_int_none (cj I q (by simp))
  |int j=>obtain⟨t',rfl⟩:=ry;exact ne_int (cj I q (congrArg not Ce))
  |str j=>obtain⟨t',rfl⟩:=ry;exact PySem.EqMixed.ne_int_str (cj I q (by simp))
  |_=>exact absurd (show false=true from hs) Qn
 |str i=>
  obtain⟨t,rfl⟩:=rx;cases y with
  |non=>cases ry;exact PySem.EqNone.ne_str_none (cj I q (by simp))
  |bl j=>cases ry;exact PySem.EqMixed.ne_str_bool (cj I q (by simp))
  |int j=>obtain⟨t',rfl⟩:=ry;exact PySem.EqMixed.ne_str_int (cj I q (by simp))
  |str j=>obtain⟨t',rfl⟩:=ry;exact ne_str (cj I q (congrArg not Bf))
  |_=>exact absurd (show false=true from hs) Qn
 |byt i=>
  obtain⟨t,rfl⟩:=rx;cases y with
  |byt j=>obtain⟨t',rfl⟩:=ry;exact W.ne_bytes (cj I q (congrArg not BF))
  |_=>exact absurd (show false=true from hs) Qn
 |_=>cases y<;>exact absurd (show false=true from hs) Qn
theorem NR:OpR X (UH .Lt) (rI0 λi j=>.bl (decide (i<j))):=JE λ_ _ _ _ _ _ _ q=>lt_int q
theorem Nd:OpR X (UH .LtE) (rI0 λi j=>.bl (decide (i<=j))):=JE λ_ _ _ _ _ _ _ q=>le_int q
theorem Nf:OpR X (UH .Gt) (rI0 λi j=>.bl (decide (j<i))):=JE λ_ _ _ _ _ _ _ q=>gt_int q
theorem NF:OpR X (UH .GtE) (rI0 λi j=>.bl (decide (j<=i))):=JE λ_ _ _ _ _ _ _ q=>ge_int q
theorem DC:OpR X (UH .In) (λx y H Q=>∃i j,x=.str i/\y=.str j/\Q (.bl (!(UL j i 0 j.length 1).isEmpty)) H):=by
 intro pins s B H x y v u Q I rx ry h;obtain⟨i,j,rfl,rfl,q⟩:=h;obtain⟨t,rfl⟩:=rx;obtain⟨t',rfl⟩:=ry;exact in_str (cj I q rfl)
theorem LU:OpR X (UH .Is) (λx y H Q=>y=.non/\Q (.bl (decide (x=.non))) H):=by
 intro pins s B H x y v u Q I rx ry h;obtain⟨rfl,q⟩:=h;cases ry;refine is_none_gen (cj I q ?_);cases x<;>first
  | (cases rx;rfl)
  | (obtain⟨t,rfl⟩:=rx;rfl)
theorem Jf:OpR X (UH .IsNot) (λx y H Q=>y=.non/\Q (.bl (!decide (x=.non))) H):=by
 intro pins s B H x y v u Q I rx ry h;obtain⟨rfl,q⟩:=h;cases ry;refine isnot_none_gen (cj I q ?_);cases x<;>first
  | (cases rx;rfl)
  | (obtain⟨t,rfl⟩:=rx;rfl)
theorem OpR.or(h:OpR X f r)(h':OpR X f r'):OpR X f (λx y H Q=>r x y H Q\/r' x y H Q):=by
 intro pins s B H x y v u Q I rx ry q;rcases q with q|q
 ·exact h pins s B H x y v u Q I rx ry q
 exact h' pins s B H x y v u Q I rx ry q
theorem DL(b:Expr)(h:op≠ .In:=by decide)(h2:op≠ .NotIn:=by decide):V9 op b=false:=by
 have e1:(op==CmpOp.In)=false:=by cases op<;>first|rfl|exact absurd rfl h
 have e2:(op==CmpOp.NotIn)=false:=by cases op<;>first|rfl|exact absurd rfl h2
 cases b<;>simp[V9,e1,e2]
theorem Ie(ho:OpR X (UH op) r)(ha:PE X a ta)(hb:PE X b tb)(hm:V9 op b=false):PE X (.Compare a [op] [b] pos) (tOp r ta tb):=by
 intro pins s B H Q I h;exact wpAny_Compare1 (Lq ha hb I h λv u s2 x y H2 I2 rx ry q=>ho pins s2 B H2 x y v u Q I2 rx ry q) hm
inductive blI(x:V)(H:Hp)(Q:Bool->Hp->Prop):Prop
 |mk(k:Bool)(h:x=.bl k)(q:Q k H):blI x H Q
noncomputable def JZ(t:TE):TT:=λB H Q=>t B H λx H'=>blI x H' Q
theorem HZ(ho:OpR X (UH op) r)(ha:PE X a ta)(hb:PE X b tb)(hm:V9 op b=false):PT X (.Compare a [op] [b] pos) (JZ (tOp r ta tb)):=by
 intro pins s B H Q I h;refine wpAny_isTrue_Compare1 (thn (ha pins s B H _ I h) λv s1 ⟨x,H1,I1,r1,q1⟩=>thn (hb pins s1 B H1 _ I1 q1) λu s2 ⟨y,H2,I2,r2,q2⟩=>
  thn (ho pins s2 B H2 x y v u _ I2 r1 r2 q2) λc s3 ⟨z,H3,I3,r3,k,e,q3⟩=>?_) hm
 subst e;cases r3;exact Vc ⟨H3,I3,q3⟩
noncomputable def AL(r r':R2)(ta tb tc:TE):TE:=λB H Q=>ta B H λx H1=>tb B H1 λy H2=>r x y H2 λz H3=>∃k,z=.bl k/\
 (if k=true then tc B H3 λw' H4=>r' y w' H4 Q else Q (.bl false) H3)
theorem GO(ho:OpR X (UH op) r)(ho':OpR X (UH op') r')(ha:PE X a ta)(hb:PE X b tb)(hc:PE X c tc)
  (hm:Yt [op,op'] [b,c]=false:=by with_unfolding_all rfl):PE X (.Compare a [op,op'] [b,c] pos) (AL r r' ta tb tc):=by
 intro pins s B H Q I h
 refine Compare_chain (thn (ha pins s B H _ I h) λv s1 ⟨x,H1,I1,r1,q1⟩=>chain_link (thn (hb pins s1 B H1 _ I1 q1) λu s2 ⟨y,H2,I2,r2,q2⟩=>
  thn (ho pins s2 B H2 x y v u _ I2 r1 r2 q2) λd s3 ⟨z,H3,I3,r3,k,e,q3⟩=>?_)) hm
 subst e
 cases r3
 refine Vc ?_
 cases k with
 |false=>exact ite_ff ⟨.bl false,H3,I3,rfl,q3⟩
 |true=>exact ite_tt (chain_last (thn (hc pins s3 B H3 _ I3 q3) λw' s4 ⟨z',H4,I4,r4,q4⟩=>ho' pins s4 B H4 y z' u w' Q I4 r2 r4 q4))
theorem EL(ho:OpR X (UH op) r)(ho':OpR X (UH op') r')(ha:PE X a ta)(hb:PE X b tb)(hc:PE X c tc)
  (hm:Yt [op,op'] [b,c]=false:=by with_unfolding_all rfl):PT X (.Compare a [op,op'] [b,c] pos) (JZ (AL r r' ta tb tc)):=by
 intro pins s B H Q I h
 refine isTrue_chain (thn (ha pins s B H _ I h) λv s1 ⟨x,H1,I1,r1,q1⟩=>test_link (thn (hb pins s1 B H1 _ I1 q1) λu s2 ⟨y,H2,I2,r2,q2⟩=>
  thn (ho pins s2 B H2 x y v u _ I2 r1 r2 q2) λd s3 ⟨z,H3,I3,r3,k,e,q3⟩=>?_)) hm
 subst e
 cases r3
 refine Vc ?_
 cases k with
 |false=>
  obtain⟨k',e',q'⟩:=q3
  cases e'
  exact ite_ff ⟨H3,I3,q'⟩
 |true=>
  refine ite_tt (test_last (thn (hc pins s3 B H3 _ I3 q3) λw' s4 ⟨z',H4,I4,r4,q4⟩=>thn (ho' pins s4 B H4 y z' u w' _ I4 r2 r4 q4) λd' s5 z9=>?_));obtain⟨z2,H5,I5,r5,k2,e2,q5⟩:=z9
  subst e2
  cases r5
  exact Vc ⟨H5,I5,q5⟩
def Mi(K:Uw)(x:V)(H:Hp)(k:Bool):Prop:=
 match x with
 | .non=>k=false
 | .bl b=>k=b
 | .int i=>k=(i !=0)
 | .str y=>y.length<=sizeLine/\k=((y.length:Int)!=0)
 | .byt y=>y.size<=sizeLine/\k=((y.size:Int)!=0)
 | .ref p=>(∃xs,SqL K H p xs/\k=!xs.isEmpty)\/(∃xs,SqT K H p xs/\k=!xs.isEmpty)\/∃kvs,H p=Zh (.dK kvs)/\k=!kvs.isEmpty
 |_=>False
theorem AH(r:KV kvs vs):(!vs.isEmpty)=!kvs.isEmpty:=by
 cases r<;>rfl
theorem rZ(r:Zl xs its):(!its.toArray.isEmpty)=!xs.isEmpty:=by
 cases r<;>simp
theorem pV:(sizeLine:Nat)<2^63:=by rw[Wv];decide
inductive JC(K:Uw)(x:V)(H:Hp)(Q:Bool->Hp->Prop):Prop
 |mk(k:Bool)(h:Mi K x H k)(q:Q k H):JC K x H Q
theorem Gg:P0 X (JC X.K):=by
 intro pins s B H x v Q I rx h;obtain⟨k,e,q⟩:=h;have hl:=pV;have hs:sizeLine=16777216:=Wv;cases x with
 |non=>
  cases rx;have e':k=false:=e;subst e';exact truthy_none ⟨H,I,q⟩
 |bl b=>
  cases rx;have e':k=b:=e;subst e';exact Vc ⟨H,I,q⟩
 |int i=>
  obtain⟨t,rfl⟩:=rx;have e':k=(i !=0):=e;subst e';exact PySem.P.truthy_int ⟨H,I,q⟩
 |str y=>
  obtain⟨t,rfl⟩:=rx;obtain⟨hy,e'⟩:y.length<=sizeLine/\k=((y.length:Int)!=0):=e;subst e';exact PySem.P.truthy_str (by lia) {H,I.tok _,q}
 |byt y=>
  obtain⟨t,rfl⟩:=rx;obtain⟨hy,e'⟩:y.size<=sizeLine/\k=((y.size:Int)!=0):=e;subst e';exact W.truthy_bytes (by lia) {H,I.tok _,q}
 |ref p=>
  cases rx;have e':(∃xs,SqL X.K H p xs/\k=!xs.isEmpty)\/(∃xs,SqT X.K H p xs/\k=!xs.isEmpty)\/∃kvs,H p=Zh (.dK kvs)/\k=!kvs.isEmpty:=e;rcases e' with⟨xs,hx,e'⟩|⟨xs,hx,e'⟩|⟨kvs,hx,e'⟩
  ·subst e';obtain⟨its,r,pl,hz⟩:=I.list hx;have hlen:=r.length;exact wpAny_truthy_list pl.isList (by simp only[Qk];lia) {H,I.tok _,by rw[rZ r];exact q}
  ·subst e';obtain⟨its,r,pl,hz⟩:=I.tuple hx;have hlen:=r.length;exact truthy_tuple pl (by simp only[Qk];lia) {H,I.tok _,by rw[rZ r];exact q}
  subst e';obtain⟨hz,hS,vs,r,m⟩:kvs.length<=sizeLine/\(p==Vm)=false/\∃vs,KV kvs vs/\s.heap.DictOf (cz X.prog X.w) p vs:=I.hok p _ hx;have hlen:kvs.length=vs.length:=W0 r;exact wpAny_truthy_dict hS m (by lia) {H,I.tok _,by rw[AH r];exact q}
 |_=>exact(show False from e).elim
theorem Fi(ha:PE X a ta)(he:∀whole,isTrue a X.env whole=(do let v<-whole;V3 a.pos;Vv [v] (truthy v))) :
  PT X a (λB H Q=>ta B H λx H'=>JC X.K x H' Q):=by
 intro pins s B H Q I h
 exact isTrue_plain (thn (ha pins s B H _ I h) λv s1 ⟨x,H1,I1,r1,q1⟩=>Gg pins s1 B H1 x v Q I1 r1 q1) (he _)
theorem AN:OpR X (Vw .Add) (λx y H Q=>∃i j,x=.str i/\y=.str j/\i.length+j.length<=sizeLine/\Q (.str (i++j)) H):=by
 intro pins s B H x y v u Q I rx ry h;obtain⟨i,j,rfl,rfl,hz,q⟩:=h;obtain⟨t,rfl⟩:=rx;obtain⟨t',rfl⟩:=ry;exact add_str (λt' tk=>{.str (i++j),H,I.tok _,{_,rfl},q}) hz
theorem Zy(r:Zl [x] us):∃u,us=[u]/\Zm x u:=by
 cases r with
 |cons r1 r2=>cases r2;exact{_,rfl,r1}
theorem ZU(r:Zl [x,y] us):∃u w',us=[u,w']/\Zm x u/\Zm y w':=by
 cases r with
 |cons r1 r2=>
  cases r2 with
  |cons r3 r4=>cases r4;exact{_,_,rfl,r1,r3}
theorem xO:dE X (.type "str") (λxs H Q=>∃i,xs=[.int i]/\i.natAbs.log2<1920/\Q (.str (toString i)) H):=by
 intro pins s B H xs us Q I r h;obtain⟨i,rfl,hz,q⟩:=h;obtain⟨u,rfl,t,rfl⟩:=Zy r;exact PySem.P.str_of_int hz {.str _,H,I.tok _,{_,rfl},q}
def Nj(K:Uw)(x:V)(H:Hp)(n:Nat):Prop:=
 match x with
 | .str y=>y.length<=sizeLine/\n=y.length
 | .byt y=>y.size<=sizeLine/\n=y.size
 | .ref p=>(∃xs,SqL K H p xs/\n=xs.length)\/∃xs,SqT K H p xs/\n=xs.length
 |_=>False
theorem D4:dE X (.builtin "len") (λxs H Q=>∃x n,xs=[x]/\Nj X.K x H n/\Q (.int n) H):=by
 intro pins s B H xs us Q I r h;obtain⟨x,n,rfl,e,q⟩:=h;obtain⟨u,rfl,rx⟩:=Zy r;have hl:=pV;have hs:sizeLine=16777216:=Wv;cases x with
 |str y=>
  obtain⟨t,rfl⟩:=rx;obtain⟨hy,e'⟩:y.length<=sizeLine/\n=y.length:=e;subst e';exact len_str (by lia) {.int _,H,I.tok _,{_,rfl},q}
 |byt y=>
  obtain⟨t,rfl⟩:=rx;obtain⟨hy,e'⟩:y.size<=sizeLine/\n=y.size:=e;subst e';exact W.len_bytes (by lia) {.int _,H,I.tok _,{_,rfl},q}
 |ref p=>
  cases rx;have e':(∃xs,SqL X.K H p xs/\n=xs.length)\/∃xs,SqT X.K H p xs/\n=xs.length:=e;rcases e' with⟨xs,hx,e'⟩|⟨xs,hx,e'⟩
  ·subst e';obtain⟨its,r',pl,hz⟩:=I.list hx;have hlen:=r'.length;exact Calls.call_len_list pl.isList (by simp only[Qk];lia) {.int xs.length,H,I.tok _,{_,by simp only[Qk];rw[hlen]},q}
  subst e';obtain⟨its,r',pl,hz⟩:=I.tuple hx;have hlen:=r'.length;exact len_tuple pl (by simp only[Qk];lia) {.int xs.length,H,I.tok _,{_,by simp only[Qk];rw[hlen]},q}
 |_=>exact(show False from e).elim
end
structure Ak(h:UT)(x dx C:Uu)(mA:Str->Option Ut):Prop where
 obj:h.get? x=Zh (Wn C dx)
 ns:h.Ns1 dx mA
 ne:dx≠x
theorem CM{h:UT}{mA:Str->Option Ut}(n:h.Ns1 dx mA):∃od,h.get? dx=Zh od/\∀name,YR name od=Zh (mA name):=by
 obtain⟨o,es,ep,ho,hd,hk,_,hm⟩:=n;refine{o,ho,λname=>?_};have e:=hm name;unfold nsFind findBy at e;rw[<-Array.find?_toList]at e;unfold YR;rw[hd];dsimp only;split
 ·rename_i y q;rw[q]at e;exact congrArg Zh e
 rename_i q;rw[q]at e;have a:es.toList.any (·.refKey)=false:=by
  rw[Yb];intro y hy;obtain⟨z,t,hkey⟩:=hk y (Array.mem_toList_iff.mp hy);simp[DictEntry.refKey,hkey]
 have a':¬ es.toList.any (·.refKey)=true:=by rw[a];exact Qn
 rw[if_neg a'];exact congrArg Zh e
theorem Ak.look(I:Ak h x dx C mA):∃od,W.InstAt h x (Wn C dx) C (Zh od)/\∀name,YR name od=Zh (mA name):=
 let ⟨od,ho,hl⟩:=CM I.ns
 {od,⟨I.obj,rfl,rfl,ho⟩,hl}
section
variable{prog:Program}{w:UC}{A:US}{E:Ut->Uy->Prop}{s:Uy}{K:Uw}{x dx C f:Uu}{mA:Str->Option Ut}{name:Str}{v:Ut}
theorem get_map(X:K.In s.heap)(I:Ak s.heap x dx C mA)(hg:Xj K C name=true)(hh:Xw K C=true)
  (ha:U3 K (.ref C) name=Zh Zi) (hv:mA name=Zh v) (hv':W.handedIn v=true) (h:Q v { s with toks:=s.toks+1 }) :
  wpAny (UI prog w) A (getAttr (.ref x) name expr) Q E s:=by
 obtain⟨od,J,hl⟩:=I.look
 exact W.get_value X J (XN hg).1 (W.findObj_own hh ha rfl (by rw[hl,hv])) hv' h
theorem Gp(X:K.In s.heap)(I:Ak s.heap x dx C mA)(hg:Xj K C name=true)
  (hf:U3 K (.ref C) name=Zh (Zh (.ref f))) (ht:YS K (.ref f)=true) (hv:mA name=Zi) (h:Q (.ref f,[.ref x]) s) :
  wpAny (UI prog w) A (VW (.ref x) name pl) Q E s:=by
 obtain⟨od,J,hl⟩:=I.look
 exact W.method_fn X J (XN hg).1 (XN hg).2 hf (beq_iff_eq.mp ht) (by show(YR name od).map (·.isSome)=Zh false;rw[hl,hv];rfl) h
theorem Jm(X:K.In s.heap)(I:Ak s.heap x dx C mA)
  (hs:U3 K (.ref C) "__setattr__"=Zh (Zh (.builtin "object.__setattr__"))) (hp:YC K C=true) (ht:Zb K C name=Zh Zi) (hh:Xw K C=true)
  (hw:X9 mA ns) (hsz:ns.length<=sizeLine)
  (h:∀h',Ak h' x dx C (λy=>if y=name then Zh v else mA y)->WG dx s.heap h'->Q () { s with heap:=h',toks:=s.toks+2 }) :
  wpAny (UI prog w) A (setAttr (.ref x) name v) Q E s:=by
 obtain⟨od,J,hl⟩:=I.look
 refine W.set_plain X J hs (W.osa_open (s:={ s with toks:=s.toks+1 }) (r:=Zi) X J hp ht λb=>?_)
 obtain⟨cd,hc,hd'⟩:=W.any_some hh
 have hx:s.heap.get? x=Zh {.ref C,Zh dx,.plain,#[]}:=I.obj
 refine Ux (UA (Ux (Ux (wpAny_loadPart hx (Ux (W.Looks.here (s:={ s with toks:=s.toks+1 }) (W.looks_clsIn X hc) ?_))))))
 rw[hd']
 refine UA (a:=Zh dx) (Ux (UA (Ux ?_)))
 refine wpAny_nsSet1 (s:={ s with toks:=s.toks+1 }) I.ns λh' hn2 hs2=>?_
 obtain⟨oD,esD,epD,hoD,hdD,hcD⟩:=hn2.count (PySem.Within.cons name v hw)
 refine Ux (wpAny_lookBehind hoD (by rw[hdD];exact pastItsLine_dict (Qi hcD (by rw[Qd];lia))) ?_)
 exact UA (h _ {(hs2.2 _ (Rx I.ne)).trans I.obj,hn2,I.ne} hs2)
theorem Ek(X:K.In s.heap)(hm:Yu K C=true)
  (hi:U3 K (.ref C) "__init__"=Zh (Zh (.ref f))) (hf:W.typeIn K (.ref f)=Zh (.type "function"))
  (h:codeAny (UI prog w) (A.under (.builtin "type.__call__" {.ref C::vs,kw})) (.call (.ref f) {.ref (s.heap.objs.size+1)::vs,kw}) (W.InitBack (s.heap.objs.size+1) R)
   { s with heap:=(s.heap.push VL).push (Wn C s.heap.objs.size) }) :
  codeAny (UI prog w) A (.call (.ref C) ⟨vs,kw⟩) R s:=by
 obtain⟨hh,g,d,t,os⟩:=s
 exact W.make_core (W.makes_of X hm) (W.looks_findIn X hi) (λself=>W.bind_fn X self hf) (.inl rfl) h
end
noncomputable def jo(f:Str)(v:V):List (Str×V)->List (Str×V)
 | []=>[(f,v)]
 | (g,x)::r=>if g=f then(g,v)::r else(g,x)::jo f v r
theorem qL(f g:Str)(v:V):∀fs:List (Str×V),(jo f v fs).lookup g=if g=f then Zh v else fs.lookup g
 | []=>by
  show V5 g [(f,v)]=_;by_cases h:g=f
  ·have hb:(g==f)=true:=beq_iff_eq.mpr h;simp only[V5,hb,if_pos h]
  have hb:(g==f)=false:=beq_eq_false_iff_ne.mpr h;simp only[V5,hb,if_neg h]
 | (k,x)::r=>by
  have ih:=qL f g v r;rw[show jo f v ((k,x)::r)=(if k=f then(k,v)::r else(k,x)::jo f v r)from rfl];by_cases hk:k=f
  ·rw[if_pos hk];by_cases h:g=k
   ·have hb:(g==k)=true:=beq_iff_eq.mpr h;simp only[V5,hb,if_pos (h.trans hk)]
   have hb:(g==k)=false:=beq_eq_false_iff_ne.mpr h;simp only[V5,hb,if_neg (λe:g=f=>h (e.trans hk.symm))]
  rw[if_neg hk];by_cases h:g=k
  ·have hb:(g==k)=true:=beq_iff_eq.mpr h;simp only[V5,hb,if_neg (λe:g=f=>hk (h.symm.trans e))]
  have hb:(g==k)=false:=beq_eq_false_iff_ne.mpr h;simp only[V5,hb];exact ih
theorem pf(f:Str)(v:V):∀fs:List (Str×V),f∈(jo f v fs).map (·.1)/\∀g,g∈fs.map (·.1)->g∈(jo f v fs).map (·.1)
 | []=>{by simp[jo],λg h=>by simp at h}
 | (k,x)::r=>by
  obtain⟨i1,i2⟩:=pf f v r;rw[show jo f v ((k,x)::r)=(if k=f then(k,v)::r else(k,x)::jo f v r)from rfl];by_cases hk:k=f
  ·rw[if_pos hk];subst hk;exact{by simp,λg h=>by simpa using h}
  rw[if_neg hk];refine{?_,λg h=>?_}
  ·rw[Qc];exact Qa _ i1
  rw[Qc]at h⊢;rcases P7.mp h with e|e
  ·exact P7.mpr (.inl e)
  exact Qa _ (i2 g e)
theorem qG(f:Str)(v:V):∀fs:List (Str×V),(jo f v fs).length<=fs.length+1
 | []=>by simp[jo]
 | (k,x)::r=>by
  have ih:=qG f v r;rw[show jo f v ((k,x)::r)=(if k=f then(k,v)::r else(k,x)::jo f v r)from rfl];by_cases hk:k=f
  ·rw[if_pos hk,Qd,Qd];lia
  rw[if_neg hk,Qd,Qd];lia
theorem j4.some_of(r:j4 (Zh v) o):∃u,o=Zh u/\Zm v u:=by
 cases o with
 |none=>exact(show False from r).elim
 |some u=>exact⟨u,rfl,r⟩
theorem j4.none_of(r:j4 Zi o):o=Zi:=by
 cases o with
 |none=>rfl
 |some u=>exact(show False from r).elim
theorem Dz(r:Zm v u):W.handedIn u=true:=by
 cases v with
 |non=>cases (show u=Xf from r);rfl
 |bl b=>cases (show u=Xg b from r);rfl
 |int i=>obtain⟨t,e⟩:=(show ∃t,u=W7 i t from r);cases e;rfl
 |str x=>obtain⟨t,e⟩:=(show ∃t,u=Wm x t from r);cases e;rfl
 |byt b=>obtain⟨t,e⟩:=(show ∃t,u=Value.bytes b t from r);cases e;rfl
 |flt b=>obtain⟨t,e⟩:=(show ∃t,u=Xv b t from r);cases e;rfl
 |ref a=>cases (show u=UB a from r);rfl
 |ty n=>cases (show u=Wc n from r);rfl
section
variable{P:Program}{w:UC}{H H':Hp}{h h':UT}{a C dx:Uu}{fs fs':List (Str×V)}
theorem oI(hok:HOk P w H h)(e:H a=Zh (.ins C dx fs)):∃mA,Ak h a dx C mA/\(∀f,j4 (fs.lookup f) (mA f))/\X9 mA (fs.map (·.1))/\fs.length<=1000/\H dx=Zh (.own a):=by
 obtain⟨d,z,ne,ob,mA,n,r,q⟩:=(show cS P w H h a (.ins C dx fs)from hok a _ e);exact{mA,⟨ob,n,ne⟩,r,q,z,d}
end
structure Cls(K:Uw)(C:Uu):Prop where
 pg:Xj K C Zc=true
 hd:Xw K C=true
 po:YC K C=true
 sa:U3 K (.ref C) "__setattr__"=Zh (Zh (.builtin "object.__setattr__"))
theorem Cls.get{K:Uw}{C:Uu}(c:Cls K C)(f:Str):Xj K C f=true:=c.pg
def bx(K:Uw)(C:Uu)(f:Str):Prop:=U3 K (.ref C) f=Zh Zi
theorem bx.OQ{K:Uw}{C:Uu}{f:Str}(n:bx K C f):Zb K C f=Zh Zi:=by
 unfold Zb;rw[show U3 K (.ref C) f=Zh Zi from n];rfl
structure Con(K:Uw)(C:Uu)(f:Str)(v:V)(u:Ut):Prop where
 at_:U3 K (.ref C) f=Zh (Zh u)
 rel:Zm v u
 get:VM K u "__get__"=Zh Zi
 cp:W.copiedNames.contains f=false
structure ZT(K:Uw)(C:Uu)(m:Str)(f:Uu):Prop where
 at_:U3 K (.ref C) m=Zh (Zh (.ref f))
 fn:YS K (.ref f)=true
 kp:Vx K (.ref f)=true
section
variable{X:Cx}{pins:List (Uu×Obj)}{B:St}{H:Hp}{s:Uy}{a C dx:Uu}{fs:List (Str×V)}{f:Str}{v:V}{A:US}{E:Ut->Uy->Prop}
theorem Al(I:Inv X pins B H s)(e:H a=Zh (.ins C dx fs))(c:Cls X.K C)(n:bx X.K C f)(l:fs.lookup f=Zh v)
  (h:∀u s',Inv X pins B H s'->Zm v u->Q u s'):wpAny (UI X.prog X.w) A (getAttr (.ref a) f b) Q E s:=by
 obtain⟨mA,O,r,_,_,_⟩:=oI I.hok e
 obtain⟨u,hu,ru⟩:=j4.some_of (v:=v) (o:=mA f) (by rw[<-l];exact r f)
 exact get_map I.kIn O (c.get f) c.hd n hu (Dz ru) (h u _ (I.tok _) ru)
theorem ug(I:Inv X pins B H s)(e:H a=Zh (.ins C dx fs))(c:Cls X.K C)(k:ZT X.K C m g)(l:fs.lookup m=Zi)
  (h:Q (.ref g,[.ref a]) s):wpAny (UI X.prog X.w) A (VW (.ref a) m pl) Q E s:=by
 obtain⟨mA,O,r,_,_,_⟩:=oI I.hok e
 have hn:mA m=Zi:=j4.none_of (by rw[<-l];exact r m)
 exact Gp I.kIn O (c.get m) k.at_ k.fn hn h
theorem AE(I:Inv X pins B H s)(e:H a=Zh (.ins C dx fs))(c:Cls X.K C)(n:bx X.K C f)(hl:fs.length<1000)(ry:Zm y u)
  (h:∀s',Inv X pins B (upd H a (.ins C dx (jo f y fs))) s'->Q () s'):wpAny (UI X.prog X.w) A (setAttr (.ref a) f u) Q E s:=by
 obtain⟨mA,O,r,wi,_,ho⟩:=oI I.hok e
 have hz:(fs.map (·.1)).length<=sizeLine:=by rw[P8,Wv];lia
 refine Jm I.kIn O c.sa c.po n.OQ c.hd wi hz λh' O' sb=>h _ ?_
 have hd:∃o,h'.get? dx=Zh o:=let ⟨o,_,_,e',_⟩:=O'.ns;⟨o,e'⟩
 refine I.write (x:=a) (e:=dx) (by rw[e];exact QL) (.inr ho) (λb q hb z=>(sb.2 b hb).trans z) hd ?_
 refine{by rw[bN O.ne];exact ho,?_,O.ne,O'.obj,_,O'.ns,λg=>?_,λg hg=>?_}
 ·have:=qG f y fs;lia
 ·show j4 ((jo f y fs).lookup g) (if g=f then Zh u else mA g);rw[qL];by_cases q:g=f
  ·rw[if_pos q,if_pos q];exact ry
  rw[if_neg q,if_neg q];exact r g
 by_cases q:g=f
 ·rw[q];exact(pf f y fs).1
 refine(pf f y fs).2 g (wi g λz=>hg ?_)
 show(if g=f then Zh u else mA g)=Zi
 rw[if_neg q];exact z
theorem Inv.made(I:Inv X pins B H s):Inv X pins B (upd (upd H s.heap.objs.size (.own (s.heap.objs.size+1))) (s.heap.objs.size+1) (.ins C s.heap.objs.size []))
  { s with heap:=(s.heap.push VL).push (Wn C s.heap.objs.size) }:=by
 have e1:(s.heap.push VL).get? s.heap.objs.size=Zh VL:=UK s.heap rfl
 have e2:((s.heap.push VL).push (Wn C s.heap.objs.size)).get? (s.heap.objs.size+1)=Zh (Wn C s.heap.objs.size):=by
  have:=UK (s.heap.push VL) (o:=Wn C s.heap.objs.size) rfl;rwa [Vq]at this
 have e3:(s.heap.push VL).Ns s.heap.objs.size (λ_=>Zi):={VL,#[],_,e1,rfl,(λe he=>absurd he (by simp)),λ_=>rfl}
 have I1:=I.laid (a:=s.heap.objs.size) (o:=.own (s.heap.objs.size+1)) (h':=s.heap.push VL) (t':=s.toks) (λb u q=>Uz _ q) (Qf _) {_,e1}
 refine I1.laid (a:=s.heap.objs.size+1) (o:=.ins C s.heap.objs.size []) (t':=s.toks) (λb u q=>Uz _ q) (Nat.le_of_eq (Vq _ _)) ?_
 have ne:s.heap.objs.size≠s.heap.objs.size+1:=Qy (Ry _)
 refine{by rw[bN ne,bI],Se _,ne,e2,λ_=>Zi,(Heap.Ns1.of_empty e3).at λo q=>Uz _ q,λ_=>QL,λy hy=>absurd rfl hy}
theorem IW(hb:UR e f env (UO e env)=UO e env)
  (h:wpAny (UI prog w) A (UO e env) (λo s₁=>wpAny (UI prog w) A (getAttr o f true) Q E s₁) E s):wpAny (UI prog w) A (UO (.Attribute e f pos) env) Q E s:=
 Attribute_any_ h (by rw[arm_eval_Attribute,hb])
end
inductive LF(K:Uw)(f:Str)(x:V)(H:Hp)(Q:VK):Prop
 |mk(a C dx:Uu)(fs:List (Str×V))(v:V)(h0:x=.ref a)(h1:H a=Zh (.ins C dx fs))(h2:Cls K C)(h3:bx K C f)(h4:fs.lookup f=Zh v)(q:Q v H):LF K f x H Q
noncomputable def P4(K:Uw)(ta:TE)(f:Str):TE:=λB H Q=>ta B H λx H1=>LF K f x H1 Q
inductive Oy(K:Uw)(f:Str)(y x:V)(H:Hp)(Q:Hp->Prop):Prop
 |mk(a C dx:Uu)(fs:List (Str×V))(h0:x=.ref a)(h1:H a=Zh (.ins C dx fs))(h2:Cls K C)(h3:bx K C f)(h4:fs.length<1000)(q:Q (upd H a (.ins C dx (jo f y fs)))):Oy K f y x H Q
noncomputable def Pm(K:Uw)(ta tv:TE)(f:Str):TS:=λD B H=>tv B H λy H1=>ta B H1 λx H2=>Oy K f y x H2 (D.nx B)
section
variable{X:Cx}{o e value:Expr}{f:Str}{pos pos' tpos:Pos}{ta tv:TE}
theorem KO(he:PE X e ta)(hb:UR e f X.env (UO e X.env)=UO e X.env):PE X (.Attribute e f pos) (P4 X.K ta f):=by
 intro pins s B H Q I h;refine IW hb (thn (he pins s B H _ I h) λu s1 z9=>?_);obtain⟨x,H1,I1,rx,a,C,dx,fs,v,ex,ea,c,n,l,q⟩:=z9;subst ex;obtain rfl:u=UB a:=rx;exact Al I1 ea c n l λu' s2 I2 ru=>⟨v,H1,I2,ru,q⟩
theorem GI(ha:PE X o ta)(hv:PE X value tv)(hs:Vh value (Zh (.Attribute o f pos')) pos.line X.env=pure false):PS X (.Assign [.Attribute o f pos'] value pos) (Pm X.K ta tv f):=by
 intro pins s B H D I h;refine plainObj_wpAny_Assign_Attribute (thn (hv pins s B H _ I h) λu s1 ⟨y,H1,I1,ry,q⟩=>thn (ha pins s1 B H1 _ I1 q) λov s2 ⟨x,H2,I2,rx,a,C,dx,fs,ex,ea,c,n,l,q2⟩=>?_) hs;subst ex;obtain rfl:ov=UB a:=rx;exact AE I2 ea c n l ry λs3 I3=>{B,_,I3,q2}
end
section
variable{X:Cx}{pins:List (Uu×Obj)}{B:St}{H:Hp}{s:Uy}{A:US}{E:Ut->Uy->Prop}{Q:Ut->Uy->Prop}{c:Ut}{b:Bool}
inductive kN(K:Uw)(H:Hp):V->Ut->Prop where
 |non:kN K H .non (.type "NoneType")
 |bl (x:Bool):kN K H (.bl x) (.type "bool")
 |int (i:Int):kN K H (.int i) (.type "int")
 |str (x:Str):kN K H (.str x) (.type "str")
 |flt (x:UInt64):kN K H (.flt x) (.type "float")
 |lst {a:Uu}{xs:List V} (e:H a=Zh (.lst xs)):kN K H (.ref a) (.type "list")
 |frz {a:Uu}{o:Obj}{xs:List V} (e:H a=Zh (.frz o (.lst xs))):kN K H (.ref a) (.type "list")
 |tup {a:Uu}{xs:List V} (e:H a=Zh (.tup xs)):kN K H (.ref a) (.type "tuple")
 |dK {a:Uu}{kvs:List (Key×V)} (e:H a=Zh (.dK kvs)):kN K H (.ref a) (.type "dict")
 |dT {a:Uu}{kvs:List (List Key×V)} (e:H a=Zh (.dT kvs)):kN K H (.ref a) (.type "dict")
 |ins {a C dx:Uu}{fs:List (Str×V)} (e:H a=Zh (.ins C dx fs)) (cl:Cls K C) (ha:U3 K (.ref C) "__class__"=Zh (Zh (.builtin "object.__class__")))
   (hn:VM K (.builtin "object.__class__") "__get__"=Zh (Zh (.builtin "getset_descriptor.__get__"))) (htk:W9 K (.builtin "object.__class__")=Zh true)
   (hm:YM K C (.type "object")=Zh true):kN K H (.ref a) (.ref C)
theorem C9(I:Inv X pins B H s)(rx:Zm x u)(ty:kN X.K H x t)(e:Wh X.K t c=Zh b)(h:∀tk,Q (.bool b) { s with toks:=tk }) :
  wpAny (UI X.prog X.w) A (call (.builtin "isinstance") [u,c]) Q E s:=by
 cases ty with
 |non=>cases (show u=Xf from rx);exact VY W.kitx_none I.kIn QL e (λz=>nomatch z) h
 |bl y=>cases (show u=Xg y from rx);exact VY W.kitx_bool I.kIn QL e (λz=>nomatch z) h
 |int i=>obtain⟨t,q⟩:=(show ∃t,u=W7 i t from rx);cases q;exact VY W.kitx_int I.kIn QL e (λz=>nomatch z) h
 |str y=>obtain⟨t,q⟩:=(show ∃t,u=Wm y t from rx);cases q;exact VY W.kitx_str I.kIn QL e (λz=>nomatch z) h
 |flt y=>obtain⟨t,q⟩:=(show ∃t,u=Xv y t from rx);cases q;exact VY W.kitx_float I.kIn QL e (λz=>nomatch z) h
 |@lst a xs ea=>
  cases (show u=UB a from rx)
  obtain⟨_,_,n,_,h1⟩:=(show cS X.prog X.w H s.heap a (.lst xs)from I.hok a _ ea)
  exact VY Xx I.kIn {_,h1,rfl} e (λz=>nomatch z) h
 |@frz a ob xs ea=>
  cases (show u=UB a from rx)
  obtain⟨_,_,_,n,_,h1⟩:=(show cS X.prog X.w H s.heap a (.frz ob (.lst xs))from I.hok a _ ea)
  exact VY Xx I.kIn {_,h1,rfl} e (λz=>nomatch z) h
 |@tup a xs ea=>
  cases (show u=UB a from rx)
  obtain⟨_,_,_,p⟩:=(show cS X.prog X.w H s.heap a (.tup xs)from I.hok a _ ea)
  obtain⟨o,h1,h2,_⟩:=p
  exact VY W.kitx_tuple I.kIn ⟨o,h1,h2⟩ e (λz=>nomatch z) h
 |@dK a kvs ea=>
  cases (show u=UB a from rx)
  obtain⟨_,_,vs,_,p⟩:=(show cS X.prog X.w H s.heap a (.dK kvs)from I.hok a _ ea)
  obtain⟨o,es,ep,h1,h2,_⟩:=p
  exact VY Xy I.kIn ⟨o,h1,h2.1⟩ e (λz=>nomatch z) h
 |@dT a kvs ea=>
  cases (show u=UB a from rx)
  obtain⟨_,_,xs,_,o,es,ep,h1,h2,_⟩:=(show cS X.prog X.w H s.heap a (.dT kvs)from I.hok a _ ea)
  exact VY Xy I.kIn ⟨o,h1,h2.1⟩ e (λz=>nomatch z) h
 |@ins a C dx fs ea cl ha hn htk hm=>
  cases (show u=UB a from rx)
  obtain⟨mA,O,_⟩:=oI I.hok ea
  obtain⟨od,J,_⟩:=O.look
  exact VY (W.kitx_own (cl.get _) cl.hd ha hn htk hm) I.kIn J e (λz=>nomatch z) h
end
structure cV(k:Nat)(A:US):Prop where
 hd:A.handled=Zi
 dp:A.depth+3*k+5<YT
 un:A.units+16*k+200<Vy
theorem cV.mono(r:cV k A)(h:j<=k):cV j A:={r.hd,by have:=r.dp;lia,by have:=r.un;lia}
theorem cV.deeper(r:cV (k+1) A)(env:Env):cV k (A.deeper env):=
 {r.hd,by have:=r.dp;show A.depth+1+3*k+5<_;lia,by have:=r.un;show A.units+3+16*k+200<_;lia}
theorem Bb{A:US}{C:Uu}{us:List Ut}{kw:List (Str×Ut)}:(A.under (.builtin "type.__call__" {.ref C::us,kw})).depth=A.depth+1:=by
 first|rfl|simp[Yc,Code.weight,Code.isCreation,Code.isGuard,Code.isCaller,Code.frames,Yd,guardIds]
theorem z5{A:US}{C:Uu}{us:List Ut}{kw:List (Str×Ut)}:(A.under (.builtin "type.__call__" {.ref C::us,kw})).units=A.units+1:=by
 first|rfl|simp[Yc,Code.cUnits,Code.frames,Yd]
theorem cV.make(r:cV (k+1) A)(C:Uu)(us:List Ut)(kw:List (Str×Ut)):cV k (A.under (.builtin "type.__call__" {.ref C::us,kw})):=
 {r.hd,by have:=r.dp;rw[Bb];lia,by have:=r.un;rw[z5];lia}
theorem cV.depth(r:cV k A):A.depth<YT:=by have:=r.dp;lia
theorem cV.units(r:cV k A):A.units+64<Vy:=by have:=r.un;lia
noncomputable def Dn:TA:=λ_ H Q=>Q [] H
noncomputable def J9(ta:TE)(tr:TA):TA:=λB H Q=>ta B H λx H1=>tr B H1 λxs H2=>Q (x::xs) H2
section
variable{X:Cx}{e:Expr}{es:List Expr}{te:TE}{t:TA}{pos:Pos}
theorem sr:PA X [] Dn:=λ_ _ _ _ H Q I h=>WX {[],H,I,.nil,h}
theorem om(ha:PE X e te)(hr:PA X es t)(hs:Uv (e::es) X.env=(false,UO e X.env)::Uv es X.env:=by rfl):PA X (e::es) (J9 te t):=by
 intro pos pins s B H Q I h;rw[hs];show wpAny _ _ (spliced ((false,UO e X.env)::UM pos (Uv es X.env))) _ _ s;refine WL (thn (ha pins s B H _ I h) λu s1 z9=>?_);obtain⟨x,H1,I1,r1,q1⟩:=z9;exact thn (hr pos pins s1 B H1 _ I1 q1) λus s2 ⟨xs,H2,I2,r2,q2⟩=>{x::xs,H2,I2,.cons r1 r2,q2}
def Pq(t:TA):TE:=λB H Q=>t B H λxs H1=>xs.length<=sizeLine/\∀p,H1 p=Zi->Q (.ref p) (upd H1 p (.tup xs))
def Pf(t:TA):TE:=λB H Q=>t B H λxs H1=>xs.length<=sizeLine/\∀p,H1 p=Zi->Q (.ref p) (upd H1 p (.lst xs))
theorem E7{x1}(h:PA X es t):PE X (.Tuple es x1 pos) (Pq t):=by
 intro pins s B H Q I hq;refine wpAny_Tuple_spliced (thn (h pos pins s B H _ I hq) λus s1 ⟨xs,H1,I1,r,z,q⟩=>{by rw[<-r.length];exact z,?_});have hf:H1 s1.heap.objs.size=Zi:=I1.hok.fresh (Qf _);refine{.ref s1.heap.objs.size,upd H1 s1.heap.objs.size (.tup xs),I1.laid (t':=s1.toks) (λb u e=>Uz _ e) (Qf _) ?_,rfl,q _ hf};exact{z,us,r,{_,UK _ rfl,rfl,_,rfl}}
theorem GY(h:PA X es t):PE X (.List es pos) (Pf t):=by
 intro pins s B H Q I hq;refine wpAny_List_spliced (thn (h pos pins s B H _ I hq) λus s1 ⟨xs,H1,I1,r,z,q⟩=>{by rw[<-r.length];exact z,?_});have hf:H1 s1.heap.objs.size=Zi:=I1.hok.fresh (Qf _);refine{.ref s1.heap.objs.size,upd H1 s1.heap.objs.size (.lst xs),I1.laid (t':=s1.toks) (λb u e=>Uz _ e) (Qf _) ?_,rfl,q _ hf};exact{z,us,0,r,UK _ rfl}
end
abbrev Sp:=List V->Hp->VK->XK->Prop
abbrev CXT:=List Env->Hp->Uy->XK->Ut->Uy->Prop
structure A6(P:Program)(w:UC)(K:Uw)(mg:Str->Option Ut)(base:UT)(A:US)(outer:List Env)(s:Uy)(H:Hp):Prop where
 frames:A.frames=Zh outer
 mod:Mod K mg base
 bs:∀b o,base.get? b=Zh o->s.heap.get? b=Zh o/\H b=Zi
 bsz:base.objs.size<=s.heap.objs.size
 rj:s.heap.FunFrames base outer
 frf:∀b∈frs outer,H b=Zi
 hok:HOk P w H s.heap
 bare:WW s.gens
inductive CE(outer:List Env)(P:Program)(w:UC)(H:Hp)(s:Uy)(Q:VK)(u:Ut)(s':Uy):Prop
 |mk(v:V)(H':Hp)(h0:s'.os=s.os)(h1:WW s'.gens)(h2:Un (frs outer) [] H H' s.heap s'.heap)(h3:HOk P w H' s'.heap)(h4:Zm v u)(h5:Q v H'):CE outer P w H s Q u s'
def CR(CX:CXT)(outer:List Env)(P:Program)(w:UC)(H:Hp)(s:Uy)(Q:VK)(E:XK)(r:Result)(s':Uy):Prop:=
 match r with
 | .ok (.ret u)=>CE outer P w H s Q u s'
 | .ok _=>False
 | .error e=>CX outer H s E e s'
structure gI(P:Program)(w:UC)(K:Uw)(mg:Str->Option Ut)(base:UT)(CX:CXT)(k:Nat)(f:Uu)(fd:Vo)(ps:List Str)(sp:Sp):Prop where
 len:∀vs H Q E,sp vs H Q E->vs.length=ps.length
 run:∀(A:US)(outer:List Env)(s:Uy)(H:Hp)(args:Args)(us:List Ut)(vs:List V)(Q:VK)(E:XK),cV k A->A6 P w K mg base A outer s H->XH s fd args (ps.zip us)->Zl vs us->sp vs H Q E->
  codeAny (UI P w) A (.call (.ref f) args) (CR CX outer P w H s Q E) s
theorem gI.mono{P:Program}{w:UC}{K:Uw}{mg:Str->Option Ut}{base:UT}{CX:CXT}{j k:Nat}{f:Uu}{fd:Vo}{ps:List Str}{sp:Sp}(F:gI P w K mg base CX j f fd ps sp)(h:j<=k) :
  gI P w K mg base CX k f fd ps sp:={F.len,λA outer s H args us vs Q E hr=>F.run A outer s H args us vs Q E (hr.mono h)}
theorem gI.imp{P:Program}{w:UC}{K:Uw}{mg:Str->Option Ut}{base:UT}{CX:CXT}{k:Nat}{f:Uu}{fd:Vo}{ps:List Str}{sp sp':Sp}(F:gI P w K mg base CX k f fd ps sp)
  (h:∀vs H Q E,sp' vs H Q E->sp vs H Q E):gI P w K mg base CX k f fd ps sp':=
 {λvs H Q E q=>F.len vs H Q E (h _ _ _ _ q),λA outer s H args us vs Q E hr he hb hv hs=>F.run A outer s H args us vs Q E hr he hb hv (h _ _ _ _ hs)}
theorem A6.make{P:Program}{w:UC}{K:Uw}{mg:Str->Option Ut}{base:UT}{A:US}{outer:List Env}{s:Uy}{H:Hp}(e:A6 P w K mg base A outer s H)(C:Uu)(us:List Ut)(kw:List (Str×Ut)) :
  A6 P w K mg base (A.under (.builtin "type.__call__" {.ref C::us,kw})) outer s H:={by first|exact e.frames|(simpa [Yc,Code.envs,Yd,pushEnvs] using e.frames),e.mod,e.bs,e.bsz,e.rj,e.frf,e.hok,e.bare}
section
variable{X:Cx}{pins:List (Uu×Obj)}{B:St}{H:Hp}{s s':Uy}
theorem Inv.Hj(I:Inv X pins B H s):A6 X.prog X.w X.K X.mg X.base X.A X.stack s H:=
 ⟨I.ok.frames,I.ok.mod,I.bs,Qi I.ok.bsz I.sz,I.stack,I.Bv,I.hok,I.bare⟩
theorem Inv.after(I:Inv X pins B H s)(h:CE X.stack X.prog X.w H s Q u s'):EP X pins B Q u s':=by
 obtain⟨v,H',os,bare,un,hok,r,q⟩:=h;obtain⟨hh,g,d,t,os'⟩:=s';obtain rfl:os'=s.os:=os;exact{v,H',I.call (h':=hh) (g':=g) (d':=d) (t':=t) (ch:=[]) un hok bare (λb z=>absurd z (by simp)),r,q}
end
noncomputable def Bs(sp:Sp)(dvs:List V)(E:XK)(t:TA):TE:=λB H Q=>t B H λvs H1=>sp (vs++dvs) H1 Q E
inductive Om(C:Uu)(m:Str)(x:V)(H:Hp)(R:Prop):Prop
 |mk(a dx:Uu)(fs:List (Str×V))(h0:x=.ref a)(h1:H a=Zh (.ins C dx fs))(h2:fs.lookup m=Zi)(q:R):Om C m x H R
noncomputable def BS(C:Uu)(m:Str)(sp:Sp)(dvs:List V)(E:XK)(ta:TE)(t:TA):TE:=λB H Q=>ta B H λx H1=>Om C m x H1 (t B H1 λvs H2=>sp (x::(vs++dvs)) H2 Q E)
def vq(C:Uu)(sp:Sp)(dvs:List V)(E:XK)(t:TA):TE:=λB H Q=>t B H λvs H1=>∀x dx,H1 x=Zi->H1 dx=Zi->dx≠x->
 sp (.ref x::(vs++dvs)) (upd (upd H1 dx (.own x)) x (.ins C dx [])) (λv H2=>v=.non/\Q (.ref x) H2) E
def Zu(K:Uw)(fd:Vo)(ps:List Str)(ds:List Ut):Prop:=
 ∀(s:Uy)(us:List Ut),K.In s.heap->(us++ds).length=ps.length->XH s fd {us,[]} (ps.zip (us++ds))
theorem Zu.all{K:Uw}{fd:Vo}{ps:List Str}(h:∀us:List Ut,us.length=ps.length->Xz fd {us,[]}=pure (ps.zip us)):Zu K fd ps []:=λs us _ hl=>by
 rw[Qo]at hl⊢;exact .of_eq (h us hl)
def Zx(CX:CXT)(X:Cx)(E:XK):Prop:=∀(pins:List (Uu×Obj))(B:St)(H:Hp)(s:Uy)(e:Ut)(s':Uy),Inv X pins B H s->CX X.stack H s E e s'->X.xe e s'
section
variable{X:Cx}{CX:CXT}{k:Nat}{f C:Uu}{fd:Vo}{ps:List Str}{sp:Sp}{dvs:List V}{ds:List Ut}{E:XK}{x m:Str}{p pos apos:Pos}{e o:Expr}{es:List Expr}{ta:TE}{t:TA}
theorem sf(F:gI X.prog X.w X.K X.mg X.base CX k f fd ps sp)(hr:cV k X.A)(hb:Zu X.K fd ps ds)(hd:Zl dvs ds)(hx:Zx CX X E)
  (I:Inv X pins B H s) (r:Zl vs us) (h:sp (vs++dvs) H Q E):wpAny (UI X.prog X.w) X.A (call (.ref f) us) (EP X pins B Q) X.xe s:=by
 have r2:Zl (vs++dvs) (us++ds):=r.append hd
 have hl:(us++ds).length=ps.length:=by rw[<-r2.length];exact F.len _ _ _ _ h
 refine YU (Wi (F.run X.A X.stack s H {us,[]} (us++ds) (vs++dvs) Q E hr I.Hj (hb s us I.kIn hl) r2 h) λr s' hq=>?_)
 cases r with
 |error e=>exact hx pins B H s e s' I hq
 |ok fl=>
  cases fl with
  |ret u=>exact I.after hq
  |next=>exact Vn hq
  |brk=>exact Vn hq
  |cont=>exact Vn hq
theorem Ib(F:gI X.prog X.w X.K X.mg X.base CX k f fd ps sp)(hr:cV k X.A)(hg:Gl X x)(hm:X.mg x=Zh (.ref f))(hk:Vx X.K (.ref f)=true)(hb:Zu X.K fd ps ds)(hd:Zl dvs ds)(hx:Zx CX X E)
  (ha:PA X (e::es) t) (hdb:(x==("__debug__":Str))=false:=by decide) (he:Uv (e::es) X.env=(false,UO e X.env)::Uv es X.env:=by rfl) (hpl:(UM pos (Uv es X.env)).any (·.1)=false:=by rfl) :
  PE X (.Call (.Name x p) (e::es) [] pos) (Bs sp dvs E t):=by
 intro pins s B H Q I h
 refine Vi (oQ I hg hm ?_ hdb)
 refine Xk (h₀:=X.base) I.ok.mod.kin hk (thn (ha pos pins s B H _ I h) λus s1 ⟨vs,H1,I1,r,q⟩=>{I1.kIn,?_}) he hpl
 exact sf F hr hb hd hx I1 r q
theorem Hi(he:PE X o ta)(c:Cls X.K C)(hm:ZT X.K C m f)(F:gI X.prog X.w X.K X.mg X.base CX k f fd ps sp)(hr:cV k X.A)(hb:Zu X.K fd ps ds)(hd:Zl dvs ds)(hx:Zx CX X E)(ha:PA X (e::es) t)
  (hst:Uv (e::es) X.env=(false,UO e X.env)::Uv es X.env:=by rfl) (hpl:(UM pos (Uv es X.env)).any (·.1)=false:=by rfl)
  (ht:UO (.Call (.Attribute o m apos) (e::es) [] pos) X.env=(do
   let ov<-UO o X.env
   V3 apos.atName
   let (f,first)<-Vv [ov] (VW ov m pl)
   callWith pos f first (UM pos (Uv (e::es) X.env)) (UW pos (UN [] X.env))):=by rfl) :
  PE X (.Call (.Attribute o m apos) (e::es) [] pos) (BS C m sp dvs E ta t):=by
 intro pins s B H Q I h
 refine YF (pl:=pl) (thn (he pins s B H _ I h) λu s1 ⟨x,H1,I1,rx,a,dx,fs,ex,ea,l,q⟩=>?_) ht
 subst ex
 obtain rfl:u=UB a:=rx
 refine ug I1 ea c hm l ?_
 refine Xk (first:=[.ref a]) (h₀:=X.base) I.ok.mod.kin hm.kp (thn (ha pos pins s1 B H1 _ I1 q) λus s2 ⟨vs,H2,I2,r,q2⟩=>{I2.kIn,?_}) hst hpl
 exact sf (us:=.ref a::us) (vs:=.ref a::vs) F hr hb hd hx I2 (.cons rfl r) q2
theorem ED(he:PE X o ta)(c:Cls X.K C)(hm:ZT X.K C m f)(F:gI X.prog X.w X.K X.mg X.base CX k f fd ps sp)(hr:cV k X.A)(hb:Zu X.K fd ps ds)(hd:Zl dvs ds)(hx:Zx CX X E)
  (ht:UO (.Call (.Attribute o m apos) [] [] pos) X.env=(do
   let ov<-UO o X.env
   V3 apos.atName
   let (f,first)<-Vv [ov] (VW ov m pl)
   callWith pos f first (UM pos (Uv [] X.env)) (UW pos (UN [] X.env))):=by rfl) :
  PE X (.Call (.Attribute o m apos) [] [] pos) (BS C m sp dvs E ta Dn):=by
 intro pins s B H Q I h
 refine YF (pl:=pl) (thn (he pins s B H _ I h) λu s1 ⟨x,H1,I1,rx,a,dx,fs,ex,ea,l,q⟩=>?_) ht
 subst ex
 obtain rfl:u=UB a:=rx
 refine ug I1 ea c hm l ?_
 exact W.callWith_K0 (first:=[.ref a]) I1.kIn hm.kp (sf (us:=[.ref a]) (vs:=[.ref a]) F hr hb hd hx I1 (.cons rfl .nil) q)
structure Mk(K:Uw)(C f:Uu):Prop where
 makes:Yu K C=true
 init:U3 K (.ref C) "__init__"=Zh (Zh (.ref f))
 fn:YS K (.ref f)=true
 kp:Vx K (.ref C)=true
theorem yX(M:Mk X.K C f)(F:gI X.prog X.w X.K X.mg X.base CX k f fd ps sp)(hr:cV (k+1) X.A)(hb:Zu X.K fd ps ds)(hd:Zl dvs ds)
  (hx:Zx CX X E) (I:Inv X pins B H s) (r:Zl vs us)
  (h:∀x dx,H x=Zi->H dx=Zi->dx≠x->sp (.ref x::(vs++dvs)) (upd (upd H dx (.own x)) x (.ins C dx [])) (λv H2=>v=.non/\Q (.ref x) H2) E) :
  wpAny (UI X.prog X.w) X.A (call (.ref C) us) (EP X pins B Q) X.xe s:=by
 have hq:=h (s.heap.objs.size+1) s.heap.objs.size (I.hok.fresh (Sf _)) (I.hok.fresh (Qf _)) (Qy (Ry _))
 have I2:=Inv.made (C:=C) I
 have r2:Zl (V.ref (s.heap.objs.size+1)::(vs++dvs)) (UB (s.heap.objs.size+1)::(us++ds)):=.cons rfl (r.append hd)
 have hl:(UB (s.heap.objs.size+1)::us++ds).length=ps.length:=by
  have e:=r2.length;rw[F.len _ _ _ _ hq]at e;exact e.symm
 refine YU (Ek (f:=f) I.kIn M.makes M.init (beq_iff_eq.mp M.fn) (Wi (F.run _ X.stack _ _ {UB (s.heap.objs.size+1)::us,[]} (UB (s.heap.objs.size+1)::(us++ds)) _ _ E (hr.make C us [])
  (I2.Hj.make C us []) (hb _ (UB (s.heap.objs.size+1)::us) I2.kIn hl) r2 hq) λr s' hq'=>?_))
 cases r with
 |error e=>exact hx pins B _ _ e s' I2 hq'
 |ok fl=>
  cases fl with
  |ret u=>
   obtain⟨v,H',I3,rv,ev,q3⟩:=I2.after hq'
   subst ev
   exact{rv,{V.ref (s.heap.objs.size+1),H',I3,rfl,q3}}
  |next=>exact Vn hq'
  |brk=>exact Vn hq'
  |cont=>exact Vn hq'
theorem Jp(M:Mk X.K C f)(F:gI X.prog X.w X.K X.mg X.base CX k f fd ps sp)(hr:cV (k+1) X.A)(hg:Gl X x)(hm:X.mg x=Zh (.ref C))(hb:Zu X.K fd ps ds)(hd:Zl dvs ds)(hx:Zx CX X E)
  (ha:PA X (e::es) t) (hdb:(x==("__debug__":Str))=false:=by decide) (he:Uv (e::es) X.env=(false,UO e X.env)::Uv es X.env:=by rfl) (hpl:(UM pos (Uv es X.env)).any (·.1)=false:=by rfl) :
  PE X (.Call (.Name x p) (e::es) [] pos) (vq C sp dvs E t):=by
 intro pins s B H Q I h
 refine Vi (oQ I hg hm ?_ hdb)
 refine Xk (h₀:=X.base) I.ok.mod.kin M.kp (thn (ha pos pins s B H _ I h) λus s1 ⟨vs,H1,I1,r,q⟩=>{I1.kIn,?_}) he hpl
 exact yX M F hr hb hd hx I1 r q
theorem Gi(M:Mk X.K C f)(F:gI X.prog X.w X.K X.mg X.base CX k f fd ps sp)(hr:cV (k+1) X.A)(hg:Gl X x)(hm:X.mg x=Zh (.ref C))(hb:Zu X.K fd ps ds)(hd:Zl dvs ds)(hx:Zx CX X E)
  (hdb:(x==("__debug__":Str))=false:=by decide):PE X (.Call (.Name x p) [] [] pos) (vq C sp dvs E Dn):=by
 intro pins s B H Q I h
 refine Vi (oQ I hg hm ?_ hdb)
 exact W.callWith_K0 I.kIn M.kp (yX (us:=[]) M F hr hb hd hx I .nil h)
end
def PK(X:Cx)(kws:List U0)(t:TA):Prop:=
 ∀(pos:Pos)(pins:List (Uu×Obj))(s:Uy)(B:St)(H:Hp)(Q:List V->Hp->Prop),Inv X pins B H s->t B H Q->wpAny (UI X.prog X.w) X.A (evalAll ((UW pos (UN kws X.env)).map (·.2))) (AP X pins B Q) X.xe s
section
variable{X:Cx}{CX:CXT}{k:Nat}{f C:Uu}{fd:Vo}{ps ks:List Str}{sp:Sp}{E:XK}{x m:Str}{p pos apos kpos:Pos}{e o:Expr}{es:List Expr}{kws:List U0}{te ta:TE}{t tk:TA}{nm:Option Str}
theorem MX:PK X [] Dn:=λ_ _ _ _ H Q I h=>wpAny_evalAll_nil {[],H,I,.nil,h}
theorem I0(ha:PE X e te)(hr:PK X kws t):PK X (⟨nm,e,kpos⟩::kws) (J9 te t):=by
 intro pos pins s B H Q I h;show wpAny _ _ (evalAll ((do let v<-UO e X.env;V3 pos;pure v)::(UW pos (UN kws X.env)).map (·.2))) _ _ s;refine wpAny_evalAll_cons (Ux (thn (ha pins s B H _ I h) λu s1 ⟨x,H1,I1,r1,q1⟩=>Ux (Wr (UA ?_))));exact thn (hr pos pins s1 B H1 _ I1 q1) λus s2 ⟨xs,H2,I2,r2,q2⟩=>{x::xs,H2,I2,.cons r1 r2,q2}
structure MF(K:Uw)(fd:Vo)(ps ks:List Str)(g:List Ut->List Ut->List Ut)(gV:List V->List V->List V):Prop where
 to:∀(s:Uy)(us ws:List Ut),K.In s.heap->(g us ws).length=ps.length->XH s fd ⟨us,ks.zip ws⟩ (ps.zip (g us ws))
 rel:∀{vs:List V}{us:List Ut}{zs:List V}{ws:List Ut},Zl vs us->Zl zs ws->Zl (gV vs zs) (g us ws)
variable{g:List Ut->List Ut->List Ut}{gV:List V->List V->List V}
end
structure bc(N P:List Str)(sc:Wu):Prop where
 kind:sc.kind=.function
 co:sc.isCoroutine=false
 gen:sc.isGenerator=false
 nd:N.Nodup
 pre:N.take P.length=P
 par:∀x∈P,sc.names.lookup x=Zh .local\/sc.names.lookup x=Zh .cell
 Kc:∀y∈sc.names,y.2≠ .free
theorem vo{kindOf:Str->Option VF}:∀{binds:List (Str×Ut)}{m:Str->Option Ut},(∀v,(x,v)∉binds)->YV kindOf binds m x=m x
 | [],_,_=>rfl
 | (n,v)::r,m,h=>by
  unfold YV;rw[vo λw hw=>h w (Qa _ hw)];split
  ·have:x≠n:=by rintro rfl;exact h v Qb
   simp[this]
  rfl
theorem v7{kindOf:Str->Option VF}:∀{binds:List (Str×Ut)}{m:Str->Option Ut},(∀v,(x,v)∉binds)->YW kindOf binds m x=m x
 | [],_,_=>rfl
 | (n,v)::r,m,h=>by
  unfold YW;rw[v7 λw hw=>h w (Qa _ hw)];split
  ·rfl
  have:x≠n:=by rintro rfl;exact h v Qb
  simp[this]
theorem vJ{kindOf:Str->Option VF}:∀{P:List Str}{vs:List Ut}{i:Nat}{m:Str->Option Ut},P.Nodup->P[i]?=Zh x->vs[i]?=Zh v->kindOf x=Zh .local->
  YV kindOf (P.zip vs) m x=Zh v
 | [],_,_,_,_,h,_,_=>by simp at h
 |_::_,[],_,_,_,_,h,_=>by simp at h
 |p::P,w::vs,0,m,nd,h1,h2,hk=>by
  simp at h1 h2;subst h1;subst h2;show YV kindOf ((p,w)::P.zip vs) m p=_;unfold YV;rw[vo λv hv=>(Rn.mp nd).1 (Sx hv).1,if_pos hk];simp
 |p::P,w::vs,i+1,m,nd,h1,h2,hk=>by
  show YV kindOf ((p,w)::P.zip vs) m x=_;unfold YV;exact vJ (i:=i) (Rn.mp nd).2 (by simpa using h1) (by simpa using h2) hk
theorem vB{kindOf:Str->Option VF}:∀{P:List Str}{vs:List Ut}{i:Nat}{m:Str->Option Ut},P.Nodup->P[i]?=Zh x->vs[i]?=Zh v->kindOf x≠Zh .local->
  YW kindOf (P.zip vs) m x=Zh v
 | [],_,_,_,_,h,_,_=>by simp at h
 |_::_,[],_,_,_,_,h,_=>by simp at h
 |p::P,w::vs,0,m,nd,h1,h2,hk=>by
  simp at h1 h2;subst h1;subst h2;show YW kindOf ((p,w)::P.zip vs) m p=_;unfold YW;rw[v7 λv hv=>(Rn.mp nd).1 (Sx hv).1,if_neg hk];simp
 |p::P,w::vs,i+1,m,nd,h1,h2,hk=>by
  show YW kindOf ((p,w)::P.zip vs) m x=_;unfold YW;exact vB (i:=i) (Rn.mp nd).2 (by simpa using h1) (by simpa using h2) hk
noncomputable def Zs(N:List Str)(vs:List V):St:=vs.map Zh++WM (N.length-vs.length) Zi
def tL(CX:CXT)(P:Program)(w:UC)(K:Uw)(mg:Str->Option Ut)(base:UT)(N:List Str)(qual:Str)(scope:Wu)(f:Uu)(cd:Ut)(A:US)(outer:List Env)(s:Uy)(H:Hp)(E:XK):Cx where
 prog:=P
 w:=w
 K:=K
 mg:=mg
 base:=base
 A:=A.deeper (V0 qual scope s.heap.objs.size f cd)
 N:=N
 s₀:=s
 H₀:=H
 env:=V0 qual scope s.heap.objs.size f cd
 outer:=outer
 stack:=V0 qual scope s.heap.objs.size f cd::outer
 ex:=[]
 calm:=true
 fn:=λ_=>true
 pn:=[]
 xe:=λe s'=>wpAny (UI P w) (A.deeper (V0 qual scope s.heap.objs.size f cd)) (leaving (V0 qual scope s.heap.objs.size f cd) e) (λ_ s''=>CX outer H s E e s'') (λe' s''=>CX outer H s E e' s'') s'
theorem zO{sc:Wu}{n:Nat}{x:Str}(h:sc.names.lookup x=Zh .cell):∃c,(Va n sc.names []).lookup x=Zh c:=by
 have q:=Wo sc.names n [] (.inl h);exact Q4.mp q
theorem CW{CX:CXT}{P:Program}{w:UC}{K:Uw}{mg:Str->Option Ut}{base:UT}{N ps:List Str}{qual:Str}{scope:Wu}{f:Uu}{cd:Ut}{A:US}{outer:List Env}{s s1:Uy}{H:Hp}{E:XK}{us:List Ut}{vs:List V}
  (S:bc N ps scope) (hd:A.handled=Zi) (e0:A6 P w K mg base A outer s H) (hl:vs.length=ps.length) (r:Zl vs us)
  (x:InCallC s s.heap.objs.size (YV (V0 qual scope s.heap.objs.size f cd).kindOf (ps.zip us) λ_=>Zi) (Va (s.heap.objs.size+1) scope.names []) (YW (V0 qual scope s.heap.objs.size f cd).kindOf (ps.zip us) λ_=>Zi) s1) :
  Inv (tL CX P w K mg base N qual scope f cd A outer s H E) [] (Zs N vs) H s1:=by
 have hpl:ps.length<=N.length:=by have:=congrArg We S.pre;rw[Rh]at this;lia
 obtain⟨h1,tk,rfl,hk⟩:=x.done
 have noA:∀b:Uu,b∉(tL CX P w K mg base N qual scope f cd A outer s H E).ex:=λb z=>absurd (show b∈([]:List Uu)from z) (by simp)
 refine⟨{e0.mod,S.kind,rfl,rfl,Qf _,λy z c h1 h2=>?_,λy hy=>?_,λy c _ h=>?_,λ_=>hd,Around.frames_deeper e0.frames,.inr ⟨rfl,rfl⟩,λb z=>absurd z (noA b),e0.bs,e0.bsz,λb _ _=>noA b,λb z=>absurd z (noA b),e0.rj,e0.frf},
  rfl,e0.bare,Un.kept hk,{_,x.toInCall.ns,λi y v h1 h2 h3=>?_},λy c h=>{_,x.cell y c h},e0.hok.fresh (Qf _),λy c h=>?_,λp hp=>absurd (show p∈([]:List (Uu×Obj))from hp) (by simp),e0.hok.kept hk,?_⟩
 ·exact name_of_addr x.apart (UQ h1) (UQ h2)
 ·have hy:scope.names.lookup y=Zh .cell\/scope.names.lookup y=Zh .free:=hy;rcases hy with hy|hy
  ·exact zO hy
  exact absurd rfl (S.Kc _ (UQ hy))
 ·exact SG (x.above y c (UQ h))
 ·have hi:i<vs.length:=by
   unfold Zs at h2;by_cases hi:i<vs.length
   ·exact hi
   rw[Ql (by simpa using hi)]at h2;rw[Q7]at h2;split at h2<;>cases h2
  have ha:vs[i]?=Zh v:=by
   unfold Zs at h2;rw[Qp (by simpa using hi),Qu]at h2;cases e:vs[i]? with
   |none=>rw[e]at h2;cases h2
   |some a=>rw[e]at h2;cases h2;rfl
  obtain⟨u,hu,rv⟩:=r.get ha;have hp:ps[i]?=Zh y:=by
   rw[<-S.pre,W2 (by lia)];exact h1
  have ndP:ps.Nodup:=by rw[<-S.pre];exact S.nd.sublist (Sa _ _)
  refine{u,rv,?_};rcases S.par y (QY hp)with k|k
  ·exact .inl ⟨k,vJ ndP hp hu k⟩
  obtain⟨c,e⟩:=zO (n:=s.heap.objs.size+1) k;refine .inr {.inl k,c,e,?_};have q:=x.cell y c e;rw[vB ndP hp hu (by show scope.names.lookup y≠_;rw[k];decide)]at q;exact q
 ·exact e0.hok.fresh (SG (x.above y c (UQ h)))
 unfold Zs
 show _=N.length
 rw[Qj,P8,RJ]
 lia
theorem Ng{CX:CXT}{P:Program}{w:UC}{K:Uw}{mg:Str->Option Ut}{base:UT}{k:Nat}{f:Uu}{name qual:Str}{params:Arguments}{body:List UP}{scope:Wu}{dV kV doc pm cdv ct oc:Ut}{an od:Option Uu}
  {osl:Array (Option Ut)}{N ps:List Str}{sp:Sp} (lk:K.lookup f=Zh {oc,od,.func (Vt name qual params body scope dV kV doc pm an cdv ct),osl}) (hcd:WN K cdv qual=true) (S:bc N ps scope)
  (len:∀vs H Q E,sp vs H Q E->vs.length=ps.length)
  (hbody:∀(A:US)(outer:List Env)(s:Uy)(H:Hp)(vs:List V)(Q:VK)(E:XK),cV k (A.deeper (V0 qual scope s.heap.objs.size f cdv))->sp vs H Q E->
   ∃t,PSs (tL CX P w K mg base N qual scope f cdv A outer s H E) body t/\t { nx:=λ_ H'=>Q .non H',rt:=Q } (Zs N vs) H) :
  gI P w K mg base CX (k+1) f (Vt name qual params body scope dV kV doc pm an cdv ct) ps sp:=by
 refine{len,λA outer s H args us vs Q E hr e0 hb r hsp=>?_}
 have hl:=len _ _ _ _ hsp
 have KX:K.In s.heap:=e0.mod.kin.keeps λb o e=>(e0.bs b o e).1
 have lim:s.heap.NoLimit:=e0.mod.nolimit.keeps λb o e=>(e0.bs b o e).1
 have hkind:∀y∈ps.zip us,scope.names.lookup y.1=Zh .local\/(scope.names.lookup y.1=Zh .cell/\((Va (s.heap.objs.size+1) scope.names []).lookup y.1).isSome=true):=λ⟨n,v⟩ hy=>by
  rcases S.par n (Sx hy).1 with q|q
  ·exact .inl q
  exact .inr {q,Wo _ _ _ (.inl q)}
 refine codeAny_call_function hr.depth (KX _ _ lk) rfl S.co S.gen rfl (W.codeRec_of KX hcd) (hb _ _ _ _ ?_)
 refine wpAny_newFunctionEnv_cells S.kind hkind λenv he s1 x=>?_
 subst he
 refine{lim.keeps x.toInCall.keep,codeAny_func ?_}
 obtain⟨t,ht,hq⟩:=hbody A outer s H vs Q E (hr.deeper _) hsp
 have I:Inv (tL CX P w K mg base N qual scope f cdv A outer s H E) [] (Zs N vs) H s1:=CW S hr.hd e0 hl r x
 refine U8 (ht [] s1 (Zs N vs) H _ I hq) (λfl s' hs=>?_) λe s' hs=>hs
 have fin:∀{B':St}{H':Hp}{v:V}{u:Ut},Inv (tL CX P w K mg base N qual scope f cdv A outer s H E) [] B' H' s'->Zm v u->Q v H'->CE outer P w H s Q u s':=
  λ{B' H' v u} J rv q=>⟨v,H',J.os,J.bare,J.base,J.hok,rv,q⟩
 cases fl with
 |ret u=>
  obtain⟨v,B',H',J,rv,q⟩:=hs
  exact fin J rv q
 |next=>
  obtain⟨B',H',J,q⟩:=hs
  exact fin (v:=V.non) (u:=Xf) J rfl q
 |brk=>
  obtain⟨_,_,_,q⟩:=hs
  exact Vn q
 |cont=>
  obtain⟨_,_,_,q⟩:=hs
  exact Vn q
section
variable{X:Cx}{x:Str}{p pos:Pos}{e:Expr}{es:List Expr}{t:TA}{id T:String}{r:List V->Hp->VK->Prop}
noncomputable def tCB(r:List V->Hp->VK->Prop)(t:TA):TE:=λB H Q=>t B H λvs H1=>r vs H1 Q
theorem DR(hc:dE X (.builtin id) r)(hg:Gl X x)(hm:X.mg x=Zi)(hv:Vj x=Zh (.builtin id))(ha:PA X (e::es) t)(hn:x≠"__name__":=by decide)(hdb:(x==("__debug__":Str))=false:=by decide)
  (he:Uv (e::es) X.env=(false,UO e X.env)::Uv es X.env:=by rfl) (hpl:(UM pos (Uv es X.env)).any (·.1)=false:=by rfl):PE X (.Call (.Name x p) (e::es) [] pos) (tCB r t):=by
 intro pins s B H Q I h
 refine Vi (sX I hg hm hv ?_ hn hdb)
 exact PyProof.Rows.callWith_builtin1 (thn (ha pos pins s B H _ I h) λus s1 ⟨vs,H1,I1,r1,q1⟩=>hc pins s1 B H1 vs us Q I1 r1 q1) he hpl
theorem vg(hc:dE X (.type T) r)(hg:Gl X x)(hm:X.mg x=Zi)(hv:Vj x=Zh (.type T))(ha:PA X (e::es) t)(hn:x≠"__name__":=by decide)(hdb:(x==("__debug__":Str))=false:=by decide)
  (he:Uv (e::es) X.env=(false,UO e X.env)::Uv es X.env:=by rfl) (hpl:(UM pos (Uv es X.env)).any (·.1)=false:=by rfl):PE X (.Call (.Name x p) (e::es) [] pos) (tCB r t):=by
 intro pins s B H Q I h
 refine Vi (sX I hg hm hv ?_ hn hdb)
 exact WH (thn (ha pos pins s B H _ I h) λus s1 ⟨vs,H1,I1,r1,q1⟩=>hc pins s1 B H1 vs us Q I1 r1 q1) he hpl
end
end L2
namespace HT
open PySem PyProof.Rows
section
open PySem.SeqAt
open PySem.AutoSeq1 (wpAny_loadPart')
open PySem.MeetsSeq PySem.MeetsSeq2 PySem.MeetsSeq3
end
section
variable{prog:Program}{w:UC}{A:US}{E:Ut->Uy->Prop}{s:Uy}
noncomputable def sIx(n d:Nat):Option Int->Nat
 |none=>d
 |some v=>if v<0 then(v+(n:Int)).toNat else min v.toNat n
theorem yS(n d:Nat):sIx n d Zi=d:=rfl
theorem KP(n d:Nat)(hd:d<=n)(o:Option Int):sIx n d o<=n:=by
 cases o with
 |none=>exact hd
 |some v=>
  show(if v<0 then(v+(n:Int)).toNat else min v.toNat n)<=n;by_cases hv:v<0
  ·rw[if_pos hv];lia
  rw[if_neg hv];exact Nat.min_le_right _ _
theorem Bt(v:Int)(n d:Nat):(if v<0 then max (v+(n:Int)) 0 else min v (n:Int))=((sIx n d (Zh v):Nat):Int):=by
 show(if v<0 then max (v+(n:Int)) 0 else min v (n:Int))=(((if v<0 then(v+(n:Int)).toNat else min v.toNat n):Nat):Int);by_cases hv:v<0
 ·simp only[if_pos hv];lia
 simp only[if_neg hv];lia
theorem A1(lo hi:Option Int)(n:Nat):V8 lo hi 1 (n:Int)=(((sIx n 0 lo:Nat):Int),((sIx n n hi:Nat):Int)):=by
 have h1:¬ ((1:Int)<0):=by lia
 unfold V8;simp only[h1,if_false];refine VR ?_ ?_
 ·cases lo with
  |none=>rfl
  |some v=>exact Bt v n 0
 cases hi with
 |none=>rfl
 |some v=>exact Bt v n n
theorem Ap(i j:Nat):UZ (i:Int) (j:Int) 1=j-i:=by
 unfold UZ;have h1:(1:Int)>0:=by lia
 simp only[h1,if_true,Int.ediv_one];split<;>lia
theorem tZ(p:XT v o)(h:Q o s):wpAny (UI prog w) A (Builtin.Slice.slicePartIndex v) Q E s:=by
 cases p with
 |none=>exact WO h
 |int i t=>exact slicePart_int h
theorem pw{sl:Uu}{vl vu:Ut}{lo hi:Option Int}{n:Nat}{Q:Int×Int×Nat->Uy->Prop}(hs:s.heap.IsSliceOf sl vl vu .none)(pl:XT vl lo)(pu:XT vu hi)
  (h:Q (((sIx n 0 lo:Nat):Int),1,sIx n n hi-sIx n 0 lo) s):wpAny (UI prog w) A (Vr (.ref sl) (pure (n:Int))) Q E s:=by
 obtain⟨os,hos,hcs,hds⟩:=id hs
 unfold Vr WU
 refine Ux (Ux (Ww hos hds (x:=vl) rfl (Ux (Ww hos hds (x:=vu) rfl (Ux (Ww hos hds (x:=.none) rfl (UA ?_)))))))
 refine Ux (WO ?_)
 show wpAny _ _ (if((1:Int)==0)=true then _ else _) _ _ s
 rw[if_neg (by decide)]
 refine Ux (tZ pl (Ux (tZ pu (Ux (UA ?_)))))
 show wpAny _ _ (match V8 lo hi 1 (n:Int)with|(lo,hi)=>pure (lo,(1:Int),UZ lo hi 1)) _ _ s
 rw[A1 lo hi n]
 show wpAny _ _ (pure (((sIx n 0 lo:Nat):Int),(1:Int),UZ ((sIx n 0 lo:Nat):Int) ((sIx n n hi:Nat):Int) 1)) _ _ s
 rw[Ap]
 exact UA h
theorem EY(xs:Array Ut)(i k:Nat):((UJ k).filterMap λ(m:Nat)=>xs[((i:Int)+(m:Int)*1).toNat]?).toArray=((xs.toList.drop i).take k).toArray:=by
 have e:(λ(m:Nat)=>xs[((i:Int)+(m:Int)*1).toNat]?)=λm=>xs[i+m]?:=by
  funext m
  have:((i:Int)+(m:Int)*1).toNat=i+m:=by lia
  rw[this]
 rw[e];have:=pick_run xs i k;rw[List.filterMap_map]at this;have e2:((λx=>xs[x]?)∘λx=>i+x)=λm=>xs[i+m]?:=rfl;rw[e2]at this;rw[this]
theorem n0{t sl:Uu}{items:Array Ut}{vl vu:Ut}{lo hi:Option Int}{Q:Ut->Uy->Prop}(ht:IsTup s.heap t items)(hs:s.heap.IsSliceOf sl vl vu .none)(pl:XT vl lo)(pu:XT vu hi)
  (hw:¬ (sIx items.size 0 lo=0/\sIx items.size items.size hi=items.size))
  (h:Q (.ref s.heap.objs.size) { s with heap:=s.heap.push { cls:=.type "tuple",data:=.seq ((items.toList.drop (sIx items.size 0 lo)).take (sIx items.size items.size hi-sIx items.size 0 lo)).toArray } })
  (hsz:items.size<=sizeLine):wpAny (UI prog w) A (Ws (.ref t) (.ref sl)) Q E s:=by
 have htake:sizeOk (.seq ((items.toList.drop (sIx items.size 0 lo)).take (sIx items.size items.size hi-sIx items.size 0 lo)).toArray):=by
  show((items.toList.drop (sIx items.size 0 lo)).take (sIx items.size items.size hi-sIx items.size 0 lo)).toArray.size<=sizeLine;rw[Qk,Rh,Yv,Rf];lia
 have hj:sIx items.size items.size hi<=items.size:=KP _ _ (Qf _) hi
 obtain⟨os,hos,hcs,hds⟩:=id hs
 have hTs:s.TypeIs (.ref sl) "slice":=⟨os,hos,hcs⟩
 unfold Ws
 try with_reducible refine wpAny_holding ?_
 first|refine Ux (UA ?_)|skip
 refine Ux (Ye ht.typeIs (by decide) ?_)
 refine Ux (Xa (name:=UU "__getitem__") ht.typeIs Vf
  (Yw Vf ht.typeIs XJ ?_ (XU _ _)))
 show wpAny _ _ (V6 (.ref t)>>=_) _ _ s
 refine Ux (tupleItemsOf_ ht ?_)
 refine Ux (wpAny_typeOf hTs ?_)
 rw[if_pos (by decide)]
 refine Ux (pw hs pl pu ?_)
 have hno:¬ ((((sIx items.size 0 lo:Nat):Int)==0&&(1:Int)==1&&(sIx items.size items.size hi-sIx items.size 0 lo)==items.size)=true):=by
  intro q;rw[Qs,Qs]at q;have q1:((sIx items.size 0 lo:Nat):Int)=0:=eq_of_beq q.1.1;have q2:sIx items.size items.size hi-sIx items.size 0 lo=items.size:=eq_of_beq q.2;exact hw ⟨by lia,by lia⟩
 show wpAny _ _ (if(((sIx items.size 0 lo:Nat):Int)==0&&(1:Int)==1&&(sIx items.size items.size hi-sIx items.size 0 lo)==items.size)=true then _ else _) _ _ s
 rw[if_neg hno,EY]
 first
  |exact Ux (m:=UY _) (U9 (UA {_,rfl,UA h}) htake)
  |exact Ux (m:=UY _) (U9 (Ux (UA (UA {_,rfl,UA h}))) htake)
  |exact Ux (Ux (m:=UY _) (U9 (UA (UA {_,rfl,UA h})) htake))
  |exact Ux (Ux (m:=UY _) (U9 (UA {_,rfl,UA h}) htake))
end
end HT
namespace L2
open PySem PySem.Spec PyProof.Rows
abbrev TO:=St->Hp->(Option Int->Hp->Prop)->Prop
def PO(X:Cx)(e:Option Expr)(t:TO):Prop:=
 ∀(pins:List (Uu×Obj))(s:Uy)(B:St)(H:Hp)(Q:Option Int->Hp->Prop),Inv X pins B H s->t B H Q->
  wpAny (UI X.prog X.w) X.A (evalPart e X.env) (λu s'=>∃o H',Inv X pins B H' s'/\XT u o/\Q o H') X.xe s
noncomputable def Jk:TO:=λ_ H Q=>Q Zi H
inductive N0(x:V)(H:Hp)(Q:Option Int->Hp->Prop):Prop
 |mk(i:Int)(h:x=.int i)(q:Q (Zh i) H):N0 x H Q
noncomputable def Np(t:TE):TO:=λB H Q=>t B H λx H1=>N0 x H1 Q
theorem intsAre_of:∀{us:List Ut},Zl (ns.map V.int) us->Yg us ns:=by
 induction ns with
 |nil=>intro us r;rw[QR]at r;cases r;exact .nil
 |cons n ns ih=>
  intro us r;rw[Qc]at r;cases r with
  |cons r1 r2=>
   obtain⟨t,e⟩:=r1;subst e;exact .cons n t (ih r2)
section
variable{X:Cx}{e:Expr}{te:TE}{lo hi:Option Expr}{tl th:TO}{pos p2:Pos}
theorem HJ:PO X Zi Jk:=by
 intro pins s B H Q I h;rw[XO];exact UA ⟨Zi,H,I,.none,h⟩
theorem Hc(h:PE X e te):PO X (Zh e) (Np te):=by
 intro pins s B H Q I hw;rw[evalPart_some];refine thn (h pins s B H _ I hw) λu s1 z9=>?_;obtain⟨x,H1,I1,r1,q1⟩:=z9;obtain⟨i,rfl,q⟩:=q1;obtain⟨t,rfl⟩:=r1;exact⟨Zh i,H1,I1,.int i t,q⟩
def SlR(X:Cx)(r:V->Option Int->Option Int->Hp->VK->Prop):Prop:=
 ∀(pins:List (Uu×Obj))(s:Uy)(B:St)(H:Hp)(x:V)(v vl vu:Ut)(lo hi:Option Int)(sl:Uu)(Q:VK),Inv X pins B H s->Zm x v->s.heap.IsSliceOf sl vl vu .none->XT vl lo->XT vu hi->r x lo hi H Q->
  ∃T id,typeLookup (.type T) "__getitem__"=pure (Zh (.builtin id))/\s.TypeIs v T/\wpAny (UI X.prog X.w) X.A (Ws v (.ref sl)) (EP X pins B Q) X.xe s
theorem SlR.or(h:SlR X r)(h':SlR X r'):SlR X (λx lo hi H Q=>r x lo hi H Q\/r' x lo hi H Q):=by
 intro pins s B H x v vl vu lo hi sl Q I rx hs pl pu q;rcases q with q|q
 ·exact h pins s B H x v vl vu lo hi sl Q I rx hs pl pu q
 exact h' pins s B H x v vl vu lo hi sl Q I rx hs pl pu q
noncomputable def tSl(r:V->Option Int->Option Int->Hp->VK->Prop)(te:TE)(tl th:TO):TE:=λB H Q=>te B H λx H1=>tl B H1 λl H2=>th B H2 λu H3=>r x l u H3 Q
theorem Er(hr:SlR X r)(he:PE X e te)(hl:PO X lo tl)(hu:PO X hi th):PE X (.Subscript e (.Slice lo hi Zi p2) pos) (tSl r te tl th):=by
 intro pins s B H Q I h;refine XW (thn (he pins s B H _ I h) λv s1 z9=>?_);obtain⟨x,H1,I1,r1,q1⟩:=z9;refine wpAny_Slice (thn (hl pins s1 B H1 _ I1 q1) λvl s2 ⟨l,H2,I2,pl,q2⟩=>thn (hu pins s2 B H2 _ I2 q2) λvu s3 z9=>?_);obtain⟨u,H3,I3,pu,q3⟩:=z9;rw[XO];refine UA ?_;have I4:Inv X pins B H3 { s3 with heap:=s3.heap.push { cls:=.type "slice",data:=.fields #[vl,vu,.none] } }:=I3.kept (t':=s3.toks) λb ob q=>Uz _ q;obtain⟨T,id,hT,ht,hg⟩:=hr pins { s3 with heap:=s3.heap.push { cls:=.type "slice",data:=.fields #[vl,vu,.none] } } B H3 x v vl vu l u s3.heap.objs.size Q I4 r1 (XX ..) pl pu q3;show wpAny (UI X.prog X.w) X.A (W3 e (.Slice lo hi Zi p2) v (.ref s3.heap.objs.size)) (EP X pins B Q) X.xe { s3 with heap:=s3.heap.push { cls:=.type "slice",data:=.fields #[vl,vu,.none] } };exact tail_any (ops:=[.ref s3.heap.objs.size,v]) ht hT hg (by with_unfolding_all rfl)
def uH(xs:List V)(lo hi:Option Int):List V:=(xs.drop (HT.sIx xs.length 0 lo)).take (HT.sIx xs.length xs.length hi-HT.sIx xs.length 0 lo)
theorem qm(xs:List V)(lo hi:Option Int):(uH xs lo hi).length<=xs.length:=by
 unfold uH;rw[Rh,Yv];lia
def K8(K:Uw):V->Option Int->Option Int->Hp->VK->Prop:=λx lo hi H Q=>∃a xs,x=.ref a/\SqT K H a xs/\
 ¬ (HT.sIx xs.length 0 lo=0/\HT.sIx xs.length xs.length hi=xs.length)/\∀p,H p=Zi->Q (.ref p) (upd H p (.tup (uH xs lo hi)))
theorem Mv:SlR X (K8 X.K):=by
 intro pins s B H x v vl vu lo hi sl Q I rx hs pl pu h;obtain⟨a,xs,rfl,hx,hw,q⟩:=h;cases rx;obtain⟨its,r,ht,hz⟩:=I.tuple hx;have hlen:its.toArray.size=xs.length:=by rw[Qk];exact r.length.symm
 refine{"tuple",_,PyProof.Rows.slot_tuple_getitem.lookup,ht.typeIs,?_};refine HT.n0 ht hs pl pu (by rw[hlen];exact hw) ?_ (by rw[hlen];exact hz);rw[hlen];refine{.ref s.heap.objs.size,_,I.laid (t':=s.toks) (o:=.tup (uH xs lo hi)) (λb ob q=>Uz _ q) (Qf _) ?_,rfl,q _ (I.hok.fresh (Qf _))};exact{Qi (qm xs lo hi) hz,_,(r.drop (HT.sIx xs.length 0 lo)).take (HT.sIx xs.length xs.length hi-HT.sIx xs.length 0 lo),Zd _ _}
end
noncomputable def ixN(n:Nat)(i:Int):Option Nat:=if 0<=i then(if i<n then Zh i.toNat else Zi)else if -(n:Int)<=i then Zh (i+n).toNat else Zi
def atI{α:Type}(xs:List α)(i:Int):Option α:=(ixN xs.length i).bind λj=>xs[j]?
theorem BG(h:ixN n i=Zh j):seqIndex? i n=Zh j/\j<n/\-(n:Int)<=i/\i<n:=by
 unfold ixN at h;by_cases h0:0<=i
 ·rw[if_pos h0]at h;by_cases h1:i<n
  ·rw[if_pos h1]at h;have e:i.toNat=j:=UE h;exact{by rw[YD h0 h1,e],by lia,by lia,h1}
  rw[if_neg h1]at h;cases h
 rw[if_neg h0]at h;by_cases h1:-(n:Int)<=i
 ·rw[if_pos h1]at h;have e:(i+n).toNat=j:=UE h;exact{by rw[Yh (by lia) h1,e],by lia,h1,by lia}
 rw[if_neg h1]at h;cases h
theorem yc(h:atI xs i=Zh v):∃j,seqIndex? i xs.length=Zh j/\xs[j]?=Zh v/\j<xs.length/\-(xs.length:Int)<=i/\i<xs.length:=by
 unfold atI at h;cases e:ixN xs.length i with
 |none=>rw[e]at h;cases h
 |some j=>
  rw[e]at h;obtain⟨h1,h2,h3,h4⟩:=BG e;exact⟨j,h1,h,h2,h3,h4⟩
theorem Hy{α:Type}{xs:List α}{j:Nat}{v:α}(h:xs[j]?=Zh v):atI xs (j:Int)=Zh v:=by
 have hj:j<xs.length:=(Qh.mp h).1;have e:ixN xs.length (j:Int)=Zh j:=by
  unfold ixN;rw[if_pos (by lia),if_pos (by lia)];simp
 unfold atI;rw[e];exact h
def Cr(b:Expr):Prop:=∀o i,subscripted b false o i=operate [o,i] (Ws o i)
def IxR(X:Cx)(r:R2):Prop:=
 ∀(value slice:Expr)(pins:List (Uu×Obj))(s:Uy)(B:St)(H:Hp)(x y:V)(v u:Ut)(Q:VK),Inv X pins B H s->Zm x v->Zm y u->r x y H Q->
  subscripted slice false v u=operate [v,u] (Ws v u)->wpAny (UI X.prog X.w) X.A (W3 value slice v u) (EP X pins B Q) X.xe s
def MtR(X:Cx)(id:String)(r:V->List V->Hp->VK->Prop):Prop:=
 ∀(pins:List (Uu×Obj))(s:Uy)(B:St)(H:Hp)(x:V)(xs:List V)(v:Ut)(us:List Ut)(Q:VK),Inv X pins B H s->Zm x v->Zl xs us->r x xs H Q->
  wpAny (UI X.prog X.w) X.A (call (.builtin id) (v::us)) (EP X pins B Q) X.xe s
section
variable{X:Cx}{a b:Expr}{ta tb:TE}{pos:Pos}
theorem OH(hr:IxR X r)(ha:PE X a ta)(hb:PE X b tb)(hs:Cr b):PE X (.Subscript a b pos) (tOp r ta tb):=by
 intro pins s B H Q I h;exact XW (Lq ha hb I h λv u s2 x y H2 I2 rx ry q=>hr a b pins s2 B H2 x y v u Q I2 rx ry q (hs _ _))
def OY(K:Uw):R2:=λx y H Q=>∃p xs i v,x=.ref p/\y=.int i/\SqL K H p xs/\atI xs i=Zh v/\Q v H
def Ph(K:Uw):R2:=λx y H Q=>∃p xs i v,x=.ref p/\y=.int i/\SqT K H p xs/\atI xs i=Zh v/\Q v H
def PM:R2:=λx y H Q=>∃z i c,x=.str z/\y=.int i/\z.length<=sizeLine/\atI z.cps.toList i=Zh c/\Q (.str ⟨#[c]⟩) H
theorem Ip:IxR X (OY X.K):=by
 intro value slice pins s B H x y v u Q I rx ry h hs;obtain⟨p,xs,i,z,rfl,rfl,hq,he,q⟩:=h;cases rx;obtain⟨t,rfl⟩:=ry;obtain⟨its,r,pl,hz⟩:=I.list hq;obtain⟨j,h1,h2,h3,h4,h5⟩:=yc he;obtain⟨w,ew,rw'⟩:=r.get h2;have hl:=r.length;have hn:=pV;have fin:EP X pins B Q w s:=⟨z,H,I,rw',q⟩;by_cases h0:0<=i
 ·have hj:i.toNat=j:=by
   rw[YD h0 h5]at h1;exact UE h1
  exact item_listR pl.isList h0 (by lia) (by rw[hj];simpa using ew) fin hs
 have hj:(i+(its.toArray.size:Int)).toNat=j:=by
  rw[Yh (by lia) h4]at h1;rw[Qk,<-hl];exact UE h1
 exact Xl (x:=w) pl.isList.typeIs slot_list_getitem.lookup
  (wpAny_getItem_list_neg (Q:=λr s'=>r=w/\EP X pins B Q r s') pl.isList (by lia) (by rw[Qk]<;>lia) (by lia) (by rw[hj];simpa using ew) ⟨rfl,fin⟩) hs
theorem bY:IxR X (Ph X.K):=by
 intro value slice pins s B H x y v u Q I rx ry h hs;obtain⟨p,xs,i,z,rfl,rfl,hq,he,q⟩:=h;cases rx;obtain⟨t,rfl⟩:=ry;obtain⟨its,r,pl,hz⟩:=I.tuple hq;obtain⟨j,h1,h2,h3,h4,h5⟩:=yc he;obtain⟨w,ew,rw'⟩:=r.get h2;have hl:=r.length;have hn:=pV;have fin:EP X pins B Q w s:=⟨z,H,I,rw',q⟩;exact Xl (x:=w) pl.typeIs slot_tuple_getitem.lookup
  (getItem_tuple (j:=j) (Q:=λr s'=>r=w/\EP X pins B Q r s') pl (by lia) (by lia) (by rw[Qk,<-hl];exact h1) (by simpa using ew) ⟨rfl,fin⟩) hs
theorem MR:IxR X PM:=by
 intro value slice pins s B H x y v u Q I rx ry h hs;obtain⟨z,i,c,rfl,rfl,hz,he,q⟩:=h;obtain⟨t,rfl⟩:=rx;obtain⟨t',rfl⟩:=ry;obtain⟨j,h1,h2,h3,h4,h5⟩:=yc he;have hl:z.cps.toList.length=z.length:=by simp[Str.length]
 rw[hl]at h1 h4 h5;have hn:=pV;exact tail_any (WQ s z t) slot_str_getitem.lookup (getItem_str (c:=c) (by
  have e1:decide (i< -(2^63:Int))=false:=decide_eq_false (by lia);have e2:decide (i ≥ 2^63)=false:=decide_eq_false (by lia);rw[e1,e2,Bool.or_false]) (by rw[h1];simpa using h2) {.str ⟨#[c]⟩,H,I.tok _,{_,rfl},q}) hs
theorem AM(its:List Ut)(n j:Nat)(u:Ut):Xm (·.setIfInBounds j u) { cls:=.type "list",data:=.seq its.toArray n }={ cls:=.type "list",data:=.seq (its.set j u).toArray n }:=by
 simp[Xm]
theorem Inv.lst(I:Inv X pins B H s)(h:H p=Zh (.lst xs)) :
  ∃(its:List Ut)(n:Nat),Zl xs its/\s.heap.get? p=Zh { cls:=.type "list",data:=.seq its.toArray n }/\xs.length<=sizeLine:=by
 obtain⟨z,its,n,r,e⟩:=I.hok p _ h
 exact⟨its,n,r,e,z⟩
theorem Inv.Mu{pins:List (Uu×Obj)}{B:St}{H:Hp}{s:Uy}{p:Uu}{xs ys:List V}{its its':List Ut}{n n':Nat}{f:Obj->Obj}(I:Inv X pins B H s)(h:H p=Zh (.lst xs))
  (ho:s.heap.get? p=Zh { cls:=.type "list",data:=.seq its.toArray n }) (hf:f { cls:=.type "list",data:=.seq its.toArray n }={ cls:=.type "list",data:=.seq its'.toArray n' }) (r:Zl ys its') (hz:ys.length<=sizeLine) (t:Nat) :
  Inv X pins B (upd H p (.lst ys)) { s with heap:=s.heap.update p f,toks:=t }:=by
 have e:(s.heap.update p f).get? p=Zh { cls:=.type "list",data:=.seq its'.toArray n' }:=by
  rw[Heap.get?_update_self f ho (by rw[hf]<;>rfl),hf]
 refine I.write (x:=p) (e:=p) (by rw[h];trivial) (.inl rfl) (λb u hb q=>(Xn _ _ (Rx hb)).trans q) {_,e} ?_
 exact⟨hz,its',n',r,e⟩
def J8:V->V->V->Hp->(Hp->Prop)->Prop:=λo i v H Q=>∃p xs k j,o=.ref p/\i=.int k/\H p=Zh (.lst xs)/\ixN xs.length k=Zh j/\Q (upd H p (.lst (xs.set j v)))
theorem set_list:GD X J8:=by
 intro pins s B H o i v ov iv u Q I ro ri rv h;obtain⟨p,xs,k,j,rfl,rfl,hp,hj,q⟩:=h;cases ro;obtain⟨t,rfl⟩:=ri;obtain⟨its,n,r,ho,hz⟩:=I.lst hp;obtain⟨h1,h2,h3,h4⟩:=BG hj;have hl:=r.length;have hn:=pV;have I':Inv X pins B (upd H p (.lst (xs.set j v))) { s with heap:=s.heap.update p (Xm (·.setIfInBounds j u)) }:=
  I.Mu hp ho (AM its n j u) (r.set rv j) (by rw[Qv];exact hz) s.toks
 by_cases h0:0<=k
 ·have hk:k.toNat=j:=by
   rw[YD h0 h4]at h1;exact UE h1
  exact W.ki_setAt ho h0 (by lia) (by rw[Qk,<-hl];exact h4) (by rw[hk];exact{_,I',q})
 have hk:(k+(its.toArray.size:Int)).toNat=j:=by
  rw[Yh (by lia) h3]at h1;rw[Qk,<-hl];exact UE h1
 exact W.ki_setBack ho (by lia) (by rw[Qk,<-hl];exact h3) (by lia) (by rw[hk];exact{_,I',q})
theorem xj(lo hi:Option Int)(n:Nat):(Wf lo hi Zi n).1=((HT.sIx n 0 lo:Nat):Int)/\(Wf lo hi Zi n).2.1=((HT.sIx n n hi:Nat):Int)/\(Wf lo hi Zi n).2.2=1:=by
 refine{?_,?_,rfl}
 ·cases lo with
  |none=>simp[Wf,HT.sIx]
  |some i=>
   simp only[Wf,HT.sIx,Yx,show(1:Int)>0 by decide,if_true];by_cases h:i<0
   ·simp only[h,if_true]<;>lia
   simp only[h,if_false]<;>lia
 cases hi with
 |none=>simp[Wf,HT.sIx]
 |some i=>
  simp only[Wf,HT.sIx,Yx,show(1:Int)>0 by decide,if_true];by_cases h:i<0
  ·simp only[h,if_true]<;>lia
  simp only[h,if_false]<;>lia
theorem uO(its:List Ut)(lo hi:Option Int):slicePick its.toArray lo hi Zi=((its.drop (HT.sIx its.length 0 lo)).take (HT.sIx its.length its.length hi-HT.sIx its.length 0 lo)).toArray:=by
 obtain⟨h1,h2,h3⟩:=xj lo hi its.toArray.size;unfold slicePick;rw[h1,h2,h3];simp only[sliceRange_one,pick_run,Qk]<;>rfl
def LM(K:Uw):V->Option Int->Option Int->Hp->VK->Prop:=λx lo hi H Q=>∃a xs,x=.ref a/\SqL K H a xs/\∀p,H p=Zi->Q (.ref p) (upd H p (.lst (uH xs lo hi)))
theorem HG:SlR X (LM X.K):=by
 intro pins s B H x v vl vu lo hi sl Q I rx hs pl pu h;obtain⟨a,xs,rfl,hx,q⟩:=h;cases rx;obtain⟨its,r,ht,hz⟩:=I.list hx;have hlen:=r.length;refine{"list",_,slot_list_getitem.lookup,ht.isList.typeIs,?_};refine wpAny_getItem_list_slice ht.isList hs pl pu .none (by simp) ?_ (by rw[Qk]<;>lia);rw[uO,<-hlen];refine{.ref s.heap.objs.size,_,I.laid (t':=s.toks) (o:=.lst (uH xs lo hi)) (λb ob q=>Uz _ q) (Qf _) ?_,rfl,q _ (I.hok.fresh (Qf _))};exact{Qi (qm xs lo hi) hz,_,0,(r.drop (HT.sIx xs.length 0 lo)).take (HT.sIx xs.length xs.length hi-HT.sIx xs.length 0 lo),UK _ rfl}
noncomputable def fB:V->Bool
 | .non=>true
 | .bl _=>true
 | .int _=>true
 | .str _=>true
 |_=>false
noncomputable def eqV:V->V->Bool
 | .non,.non=>true
 | .bl a,.bl b=>a==b
 | .bl a,.int b=>(if a then 1 else 0)==b
 | .int a,.bl b=>a==(if b then 1 else 0)
 | .int a,.int b=>a==b
 | .str a,.str b=>a==b
 |_,_=>false
theorem LN(ry:Zm y u)(rx:Zm x v)(fy:fB y=true)(fx:fB x=true):YX A s u v (eqV y x):=by
 cases y with
 |non=>
  cases ry;cases x with
  |non=>cases rx;exact SeqAt.EqAt.same _
  |bl b=>cases rx;exact SeqAt.EqAt.none_bool b
  |int b=>obtain⟨t,rfl⟩:=rx;exact SeqAt.EqAt.none_int b t
  |str b=>obtain⟨t,rfl⟩:=rx;exact SeqAt.EqAt.none_str b t
  |_=>exact absurd (show false=true from fx) Qn
 |bl a=>
  cases ry;cases x with
  |non=>cases rx;exact SeqAt.EqAt.bool_none a
  |bl b=>cases rx;exact SeqAt.EqAt.bool_bool a b
  |int b=>obtain⟨t,rfl⟩:=rx;exact SeqAt.EqAt.bool_int a b t
  |str b=>obtain⟨t,rfl⟩:=rx;exact SeqAt.EqAt.bool_str a b t
  |_=>exact absurd (show false=true from fx) Qn
 |int a=>
  obtain⟨t',rfl⟩:=ry;cases x with
  |non=>cases rx;exact SeqAt.EqAt.int_none a t'
  |bl b=>cases rx;exact SeqAt.EqAt.int_bool a t' b
  |int b=>obtain⟨t,rfl⟩:=rx;exact SeqAt.EqAt.int_int a t' b t
  |str b=>obtain⟨t,rfl⟩:=rx;exact XQ a t' b t
  |_=>exact absurd (show false=true from fx) Qn
 |str a=>
  obtain⟨t',rfl⟩:=ry;cases x with
  |non=>cases rx;exact SeqAt.EqAt.str_none a t'
  |bl b=>cases rx;exact SeqAt.EqAt.str_bool a t' b
  |int b=>obtain⟨t,rfl⟩:=rx;exact XR a t' b t
  |str b=>obtain⟨t,rfl⟩:=rx;exact SeqAt.EqAt.str_str a t' b t
  |_=>exact absurd (show false=true from fx) Qn
 |_=>exact absurd (show false=true from fy) Qn
def eqU(x:V)(u:Ut):Bool:=match u with
 | .none=>eqV .non x
 | .bool b=>eqV (.bl b) x
 | .int i _=>eqV (.int i) x
 | .str z _=>eqV (.str z) x
 |_=>false
theorem wA(r:Zm y u)(f:fB y=true):eqU x u=eqV y x:=by
 cases y with
 |non=>cases r;rfl
 |bl b=>cases r;rfl
 |int i=>obtain⟨t,rfl⟩:=r;rfl
 |str z=>obtain⟨t,rfl⟩:=r;rfl
 |_=>exact absurd (show false=true from f) Qn
theorem nW:∀{xs:List V}{us:List Ut},Zl xs us->xs.all fB=true->us.any (eqU x)=xs.any λy=>eqV y x
 |_,_,.nil,_=>rfl
 |y::xs,u::us,.cons r t,f=>by
  rw[So,Qs]at f;rw[RQ,RQ,wA r f.1,nW t f.2]
theorem gC(rx:Zm x v)(fx:fB x=true):∀{xs:List V}{us:List Ut},Zl xs us->xs.all fB=true->∀u∈us,YX A s u v (eqU x u)
 |_,_,.nil,_=>λu hu=>by cases hu
 |y::xs,u::us,.cons r t,f=>λu' hu=>by
  rw[So,Qs]at f;rcases P7.mp hu with rfl|hu
  ·rw[wA r f.1];exact LN r rx f.1 fx
  exact gC rx fx t f.2 u' hu
def inV(x:V)(xs:List V):Bool:=xs.any λy=>eqV y x
def rIn(K:Uw)(neg:Bool):R2:=λx y H Q=>∃p xs,y=.ref p/\(SqL K H p xs\/SqT K H p xs)/\fB x=true/\xs.all fB=true/\Q (.bl (if neg then !inV x xs else inV x xs)) H
theorem Dg:OpR X (UH .In) (rIn X.K false):=by
 intro pins s B H x y v u Q I rx ry h;obtain⟨p,xs,rfl,hq,fx,fs,q⟩:=h;cases ry;rcases hq with hq|hq
 ·obtain⟨its,r,pl,hz⟩:=I.list hq;refine SeqAt.in_listAt (eqU x) pl.isList (λw hw=>gC rx fx r fs w (by simpa using hw)) {.bl _,H,I,rfl,?_};rw[show its.toArray.any (eqU x)=its.any (eqU x) by simp,nW r fs];exact q
 obtain⟨its,r,pl,hz⟩:=I.tuple hq;refine SeqAt.in_tupleAt (eqU x) pl (λw hw=>gC rx fx r fs w (by simpa using hw)) {.bl _,H,I,rfl,?_};rw[show its.toArray.any (eqU x)=its.any (eqU x) by simp,nW r fs];exact q
theorem xN:OpR X (UH .NotIn) (rIn X.K true):=by
 intro pins s B H x y v u Q I rx ry h;obtain⟨p,xs,rfl,hq,fx,fs,q⟩:=h;cases ry;rcases hq with hq|hq
 ·obtain⟨its,r,pl,hz⟩:=I.list hq;refine SeqAt.notIn_listAt (eqU x) pl.isList (λw hw=>gC rx fx r fs w (by simpa using hw)) {.bl _,H,I,rfl,?_};rw[show its.toArray.any (eqU x)=its.any (eqU x) by simp,nW r fs];exact q
 obtain⟨its,r,pl,hz⟩:=I.tuple hq;refine SeqAt.notIn_tupleAt (eqU x) pl (λw hw=>gC rx fx r fs w (by simpa using hw)) {.bl _,H,I,rfl,?_};rw[show its.toArray.any (eqU x)=its.any (eqU x) by simp,nW r fs];exact q
theorem wY:OpR X (UH .NotIn) (λx y H Q=>∃i j,x=.str i/\y=.str j/\Q (.bl (!(!(UL j i 0 j.length 1).isEmpty))) H):=by
 intro pins s B H x y v u Q I rx ry h;obtain⟨i,j,rfl,rfl,q⟩:=h;obtain⟨t,rfl⟩:=rx;obtain⟨t',rfl⟩:=ry;exact notIn_str {.bl _,H,I,rfl,q}
theorem dE.or(h:dE X f r)(h':dE X f r'):dE X f (λxs H Q=>r xs H Q\/r' xs H Q):=by
 intro pins s B H xs us Q I rs q;rcases q with q|q
 ·exact h pins s B H xs us Q I rs q
 exact h' pins s B H xs us Q I rs q
theorem wV:dE X (.type "list") (λxs H Q=>∃p ys,xs=[.ref p]/\(SqL X.K H p ys\/SqT X.K H p ys)/\∀l,H l=Zi->Q (.ref l) (upd H l (.lst ys))):=by
 intro pins s B H xs us Q I r h;obtain⟨p,ys,rfl,hq,q⟩:=h;obtain⟨u,rfl,rx⟩:=Zy r;cases rx;have fin:∀(its:List Ut),Zl ys its->ys.length<=sizeLine->∀(h':UT)(c':Nat),(∀b o',s.heap.get? b=Zh o'->h'.get? b=Zh o')->
   h'.get? s.heap.objs.size=Zh { cls:=.type "list",dict:=Zi,data:=.seq its.toArray c',slots:=#[] }->EP X pins B Q (.ref s.heap.objs.size) { s with heap:=h' }:=λits r' hz h' c' kp e=>
  {.ref s.heap.objs.size,_,I.laid (t':=s.toks) kp (Qf _) (show cS X.prog X.w _ h' _ (.lst ys)from⟨hz,its,c',r',e⟩),rfl,q _ (I.hok.fresh (Qf _))}
 rcases hq with hq|hq
 ·obtain⟨its,r',pl,hz⟩:=I.list hq;have hlen:=r'.length;obtain⟨o,ho,hc,n,hd⟩:=pl.isList;exact call_list_seq p (.inl rfl) ho hc hd (λh' c' kp e=>fin its r' hz h' c' kp e) (by simp only[Qk]<;>lia)
 obtain⟨its,r',pl,hz⟩:=I.tuple hq;have hlen:=r'.length;obtain⟨o,ho,hc,n,hd⟩:=pl;exact call_list_seq p (.inr rfl) ho hc hd (λh' c' kp e=>fin its r' hz h' c' kp e) (by simp only[Qk]<;>lia)
theorem uP:dE X (.type "tuple") (λxs H Q=>∃p ys,xs=[.ref p]/\((SqL X.K H p ys/\∀l,H l=Zi->Q (.ref l) (upd H l (.tup ys)))\/(SqT X.K H p ys/\Q (.ref p) H))):=by
 intro pins s B H xs us Q I r h;obtain⟨p,ys,rfl,h⟩:=h;obtain⟨u,rfl,rx⟩:=Zy r;cases rx;rcases h with⟨hq,q⟩|⟨hq,q⟩
 ·obtain⟨its,r',pl,hz⟩:=I.list hq;have hlen:=r'.length;refine call_tuple_list pl.isList (λh' kp=>?_) (by simp only[Qk]<;>lia);have I1:Inv X pins B H { s with heap:=h' }:=I.kept (t':=s.toks) kp;have I2:Inv X pins B (upd H h'.objs.size (.tup ys)) { s with heap:=h'.push { cls:=.type "tuple",data:=.seq its.toArray } }:=
   I1.laid (t':=s.toks) (λb o e=>Uz _ e) (Qf _) (show cS X.prog X.w _ _ _ (.tup ys)from{hz,its,r',Zd _ _})
  exact{.ref h'.objs.size,_,I2,rfl,q _ (I1.hok.fresh (Qf _))}
 obtain⟨its,r',pl,hz⟩:=I.tuple hq;exact call_tuple_same pl ⟨.ref p,H,I,rfl,q⟩
def tyV(K:Uw)(T:String)(x:V)(H:Hp):Prop:=match x with
 | .str _=>T="str"
 | .int _=>T="int"
 | .ref p=>(T="list"/\∃xs,SqL K H p xs)\/(T="tuple"/\∃o,K.lookup p=Zh o/\o.cls=.type "tuple"/\o.dict=Zi)\/
   (T="dict"/\((∃kvs,H p=Zh (.dK kvs))\/∃kvs,H p=Zh (.dT kvs)))\/(T="set"/\∃S n,H p=Zh (.set S n))
 |_=>False
theorem F3(I:Inv X pins B H s)(r:Zm x v)(ty:tyV X.K T x H) :
  s.TypeIs v T/\∀a,v=.ref a->∃ob,s.heap.get? a=Zh ob/\ob.dict=Zi:=by
 cases x with
 |str z=>
  obtain⟨t,rfl⟩:=r
  cases (show T="str" from ty)
  exact{WQ s z t,λ_ e=>nomatch e}
 |int i=>
  obtain⟨t,rfl⟩:=r
  cases (show T="int" from ty)
  exact{typeIs_int s i t,λ_ e=>nomatch e}
 |ref p=>
  cases r
  rcases ty with⟨rfl,xs,hq⟩|⟨rfl,o,hk,hc,hd⟩|⟨rfl,hk⟩|⟨rfl,S,n,hk⟩
  ·obtain⟨its,_,pl,_⟩:=I.list hq;refine{pl.isList.typeIs,λa e=>?_};cases e;obtain⟨o,n,e,c,hd,_⟩:=pl;exact⟨o,e,hd⟩
  ·refine{⟨o,I.kIn p o hk,hc⟩,λa e=>?_};cases e;exact{o,I.kIn _ o hk,hd}
  ·have z:∃o,s.heap.get? p=Zh o/\o.ExactDict:=by
    rcases hk with⟨kvs,hk⟩|⟨kvs,hk⟩
    ·obtain⟨_,_,_,_,o,_,_,e,ex,_⟩:=I.hok p _ hk;exact⟨o,e,ex⟩
    obtain⟨_,_,_,_,o,_,_,e,ex,_⟩:=I.hok p _ hk;exact⟨o,e,ex⟩
   obtain⟨o,e,ex⟩:=z;refine{⟨o,e,ex.1⟩,λa e2=>?_};cases e2;exact⟨o,e,ex.2.1⟩
  obtain⟨o,_,_,_,e,ex,_⟩:=I.hok p _ hk
  refine{⟨o,e,ex.1⟩,λa e2=>?_}
  cases e2
  exact⟨o,e,ex.2.1⟩
 |_=>exact Vn ty
noncomputable def NS(K:Uw)(T:String)(r:V->List V->Hp->VK->Prop)(to:TE):TE:=λB H Q=>to B H λx H1=>tyV K T x H1/\r x [] H1 Q
noncomputable def tBM(K:Uw)(T:String)(r:V->List V->Hp->VK->Prop)(to:TE)(t:TA):TE:=λB H Q=>to B H λx H1=>tyV K T x H1/\t B H1 λxs H2=>r x xs H2 Q
variable{o e:Expr}{es:List Expr}{to:TE}{t:TA}{name:Str}{apos cpos:Pos}{T id:String}{r:V->List V->Hp->VK->Prop}
theorem L8(pa:YY T)(slot:Slot T name id)(hty:typeOf (.builtin id)=pure (.type "method_descriptor"))(hm:MtR X id r)(ho:PE X o to)
  (hbase:UR o name X.env (UO o X.env)=UO o X.env:=by rfl) (hline:(apos.endLine==cpos.line)=true:=by rfl):PE X (.Call (.Attribute o name apos) [] [] cpos) (NS X.K T r to):=by
 intro pins s B H Q I h
 refine wpAny_Call_method0_late hbase hline (thn (ho pins s B H _ I h) λv s1 z9=>?_);obtain⟨x,H1,I1,r1,ty,q1⟩:=z9
 obtain⟨h1,h2⟩:=F3 I1 r1 ty
 exact{T,id,pa,slot,hty,h1,h2,VP rfl (PySem.evalArgs_none (hm pins s1 B H1 x [] v [] Q I1 r1 .nil q1))}
theorem CF(pa:YY T)(slot:Slot T name id)(hty:typeOf (.builtin id)=pure (.type "method_descriptor"))(hm:MtR X id r)(ho:PE X o to)(ha:PA X (e::es) t)
  (hbase:UR o name X.env (UO o X.env)=UO o X.env:=by rfl)
  (hfew:((UM cpos (Uv (e::es) X.env)).all (λx=>!x.1)&&(UW cpos (UN [] X.env)).all (λx=>x.1.isSome)
   &&decide ((e::es).length+([]:List U0).length+(if([]:List U0).isEmpty then 0 else 1)<30))=true:=by rfl)
  (hline:(apos.endLine==cpos.line)=true:=by rfl) (hs:Uv (e::es) X.env=(false,UO e X.env)::Uv es X.env:=by rfl) (hplain:(UM cpos (Uv es X.env)).any (·.1)=false:=by rfl) :
  PE X (.Call (.Attribute o name apos) (e::es) [] cpos) (tBM X.K T r to t):=by
 intro pins s B H Q I h
 refine wpAny_Call_method_late hbase hfew hline rfl (thn (ho pins s B H _ I h) λv s1 z9=>?_);obtain⟨x,H1,I1,r1,ty,q1⟩:=z9
 obtain⟨h1,h2⟩:=F3 I1 r1 ty
 refine{T,id,pa,slot,hty,h1,h2,?_}
 have hA:=ha cpos pins s1 B H1 _ I1 q1
 rw[hs]at hA⊢
 refine VP (by show(false||(UM cpos (Uv es X.env)).any (·.1))=false;rw[hplain]<;>rfl) (Wx ?_)
 exact thn hA λus s2 ⟨vs,H2,I2,r2,q2⟩=>hm pins s2 B H2 x vs v us Q I2 r1 r2 q2
end
def MtM(X:Cx)(id:String)(r:V->List V->Hp->VK->Prop):Prop:=
 ∀(pins:List (Uu×Obj))(s:Uy)(B:St)(H:Hp)(x:V)(xs:List V)(v:Ut)(us:List Ut)(Q:VK),Inv X pins B H s->Zm x v->Zl xs us->r x xs H Q->
  wpAny (UI X.prog X.w) X.A (call (.builtin id) (v::us)) (EP X pins B Q) X.xe s
theorem Zl.one:∀{x:V}{us:List Ut},Zl [x] us->∃u,us=[u]/\Zm x u
 |_,_,.cons r .nil=>{_,rfl,r}
theorem Zl.zero:∀{us:List Ut},Zl [] us->us=[]
 |_,.nil=>rfl
theorem Zl.dropLast(h:Zl xs us):Zl xs.dropLast us.dropLast:=by
 induction h with
 |nil=>exact .nil
 |cons r t ih=>
  cases t with
  |nil=>exact .nil
  |cons q t'=>exact .cons r ih
theorem Aj{α:Type}(l:List α):l.eraseIdx (l.length-1)=l.dropLast:=by
 induction l with
 |nil=>rfl
 |cons a r ih=>
  cases r with
  |nil=>rfl
  |cons b r=>
   have e:(a::b::r).length-1=((b::r).length-1)+1:=by
    have h1:(a::b::r).length=r.length+2:=rfl;have h2:(b::r).length=r.length+1:=rfl;lia
   rw[e,List.eraseIdx_cons_succ,ih];all_goals rfl
section
variable{X:Cx}{pins:List (Uu×Obj)}{B:St}{H:Hp}{s:Uy}{l b:Uu}{xs ys zs:List V}
theorem Inv.KS{its its':List Ut}{n:Nat}{f:Array Ut->Array Ut}{t':Nat}(I:Inv X pins B H s)(hH:H l=Zh (.lst xs))
  (e:s.heap.get? l=Zh { cls:=.type "list",data:=.seq its.toArray n }) (hf:f its.toArray=its'.toArray) (hv:Zl ys its') (hz:ys.length<=sizeLine) :
  Inv X pins B (upd H l (.lst ys)) { s with heap:=s.heap.update l (Xm f),toks:=t' }:=by
 have q:=PySem.IsL.update e f
 rw[hf]at q
 refine I.write (x:=l) (e:=l) (by rw[hH];exact trivial) (.inl rfl) (λb' u hb hu=>(Xn s.heap (Xm f) (Rx hb)).trans hu) {_,q} ?_
 exact{hz,its',_,hv,q}
theorem Inv.Iu(I:Inv X pins B H s)(hv:Zl ys its)(hz:ys.length<=sizeLine) :
  Inv X pins B (upd H s.heap.objs.size (.lst ys)) { s with heap:=s.heap.push { cls:=.type "list",data:=.seq its.toArray },toks:=t' }:=
 I.laid (λ_ _ q=>Uz _ q) (Qf _) {hz,its,0,hv,UK _ rfl}
theorem Inv.fresh(I:Inv X pins B H s):H s.heap.objs.size=Zi:=I.hok.fresh (Qf _)
theorem Inv.Df(I:Inv X pins B H s)(hH:H l=Zh (.lst xs)):xs.length<=sizeLine/\∃(its:List Ut)(n:Nat),Zl xs its/\xs.length=its.length/\s.heap.get? l=Zh { cls:=.type "list",data:=.seq its.toArray n }:=by
 obtain⟨z,its,n,r,e⟩:=I.hok l _ hH;exact⟨z,its,n,r,r.length,e⟩
theorem Em(h:n<=sizeLine):Wa n=false:=by
 unfold Wa;exact decide_eq_false (by lia)
end
section
variable{X:Cx}
inductive wK(x:V)(vs:List V)(H:Hp)(Q:VK):Prop
 |mk(l:Uu)(xs:List V)(y:V)(h0:x=.ref l)(h1:vs=[y])(h2:H l=Zh (.lst xs))(h3:xs.length<sizeLine)(q:Q .non (upd H l (.lst (xs++[y])))):wK x vs H Q
theorem vC:MtM X "list.append" wK:=by
 intro pins s B H x vs v us Q I rx rv h;obtain⟨l,xs,y,rfl,rfl,hH,hz,q⟩:=h;cases rx;obtain⟨u,rfl,ru⟩:=rv.one;obtain⟨z,its,n,r,hl,e⟩:=I.Df hH;refine Wd F.slot_list_append {_,e,rfl} F.entry_list_append (F.args_list_append_2 _ _) (PySem.list_append l its.toArray n u (by rw[Qk];lia)) {e,?_};refine{.non,_,I.KS (its':=its++[u]) hH e (by simp) (r.append (.cons ru .nil)) ?_,rfl,q};rw[Qj,Rl];lia
def Cs:V->List V->Hp->VK->Prop:=λx vs H Q=>∃l b xs zs,x=.ref l/\vs=[.ref b]/\H l=Zh (.lst xs)/\H b=Zh (.lst zs)/\xs.length+zs.length<=sizeLine/\Q .non (upd H l (.lst (xs++zs)))
theorem C3:MtM X "list.extend" Cs:=by
 intro pins s B H x vs v us Q I rx rv h;obtain⟨l,b,xs,zs,rfl,rfl,hH,hB,hz,q⟩:=h;cases rx;obtain⟨u,rfl,ru⟩:=rv.one;cases ru;obtain⟨z,its,n,r,hl,e⟩:=I.Df hH;obtain⟨z2,its2,n2,r2,hl2,e2⟩:=I.Df hB;have hsz:its.toArray.size+its2.toArray.size<=sizeLine:=by rw[Qk,Qk];lia
 have hlong:¬ (!its.toArray.isEmpty&&Wa (its.toArray.size+its2.toArray.size))=true:=by
  rw[Em hsz,YZ];exact Qn
 refine Wd F.slot_list_extend {_,e,rfl} F.entry_list_extend (F.args_list_extend_2 _ _)
  (AutoSeq1.list_extend_list_list_0 l its.toArray n b its2.toArray n2 hlong (by rw[Qk];lia) (by lia)) {e,e2,?_}
 refine{.non,_,I.KS (its':=its++its2) hH e (by simp) (r.append r2) ?_,rfl,q};rw[Qj];lia
inductive Kg(x:V)(vs:List V)(H:Hp)(Q:VK):Prop
 |mk(l:Uu)(xs:List V)(y:V)(h0:x=.ref l)(h1:vs=[])(h2:H l=Zh (.lst xs))(h3:xs[xs.length-1]?=Zh y)(q:Q y (upd H l (.lst xs.dropLast))):Kg x vs H Q
theorem Ll:MtM X "list.pop" Kg:=by
 intro pins s B H x vs v us Q I rx rv h;obtain⟨l,xs,y,rfl,rfl,hH,hy,q⟩:=h;cases rx;have hus:=rv.zero;subst hus;obtain⟨z,its,n,r,hl,e⟩:=I.Df hH;obtain⟨u,hu,ru⟩:=r.get hy;have hy':its.toArray[its.toArray.size-1]?=Zh u:=by
  show its.toArray[its.length-1]?=Zh u;rw[<-Sh,<-hl];exact hu
 refine Wd F.slot_list_pop {_,e,rfl} F.entry_list_pop (F.args_list_pop_1 _) (MeetsSeq.list_pop_last l its.toArray n u hy' (by rw[Qk];lia)) {e,?_};refine{y,_,I.KS (its':=its.dropLast) hH e ?_ r.dropLast ?_,ru,q}
 ·show its.toArray.eraseIdxIfInBounds (its.toArray.size-1)=its.dropLast.toArray;rw[Qk,List.eraseIdxIfInBounds_toArray,Aj]
 rw[List.length_dropLast];lia
def NY:R2:=λx y H Q=>∃l b xs zs,x=.ref l/\y=.ref b/\H l=Zh (.lst xs)/\H b=Zh (.lst zs)/\xs.length+zs.length<=sizeLine/\∀p,H p=Zi->Q (.ref p) (upd H p (.lst (xs++zs)))
theorem Ka:OpR X (Vw .Add) NY:=by
 intro pins s B H x y v u Q I rx ry h;obtain⟨l,b,xs,zs,rfl,rfl,hH,hB,hz,q⟩:=h;cases rx;cases ry;obtain⟨z,its,n,r,hl,e⟩:=I.Df hH;obtain⟨z2,its2,n2,r2,hl2,e2⟩:=I.Df hB;refine PySem.P.add_list e e2 ?_ (by rw[Qk,Qk];lia);have ea:its.toArray++its2.toArray=(its++its2).toArray:=by simp
 rw[ea];exact{.ref _,_,I.Iu (t':=s.toks) (r.append r2) (by rw[Qj];lia),rfl,q _ I.fresh}
end
end L2
namespace Att
open PySem PySem.W PySem.Calls PyProof.Rows
theorem qY:∀(ns:List Int)(vs:List Ut),WellAll P h vs (ns.map WData.int)->Yg vs ns:=by
 intro ns;induction ns with
 |nil=>
  intro vs w;rw[QR]at w;cases w;exact .nil
 |cons n ns ih=>
  intro vs w;rw[Qc]at w;cases w with
  |cons a b=>
   cases a;exact .cons _ _ (ih _ b)
theorem Dj{l:OpenLaw}{n:Nat}(hn:l.most=Zh n){P:VD}{h:UT}{args:List WData}{vals:List Ut}
  (hpre:l.row.toRowW.claim.pre args=true) (hwl:WellAll P h vals args) :
  ∃a vs ns,vals=[UB a]/\args=[WData.list (ns.map WData.int)]/\h.get? a=Zh { cls:=.type "list",data:=.seq vs.toArray }/\Yg vs ns/\ns.length<=n:=by
 have hsh:WShape.hasAll [] args [.list .int]=true:=(pre_splitW hpre).1
 have hc:l.pre.holds [] { args:=args }=true:=(pre_splitW hpre).2
 obtain⟨d,r,rfl,h1,h2⟩:=hasAllW_cons hsh
 obtain rfl:=hasAllW_nil h2
 obtain⟨xs,rfl,h3⟩:=hasW_list h1
 obtain⟨ns,rfl⟩:=items_int h3
 have hlen:ns.length<=n:=by
  unfold OpenLaw.pre at hc;have h4:(WTm.not (.lt (.lit (.int (n:Int))) (.len (.arg 0)))).holds [] { args:=[.list (ns.map .int)] }=true:=by
   have h4:=(holds_andW hc).1;rw[hn]at h4;exact h4
  have h5:=condW_of h4 (w_not (w_lt w_lit (w_len_list (w_arg rfl))));rw[P8]at h5;refine Yy λq=>?_;have q':(n:Int)<((ns.length:Nat):Int):=by lia
  first
   | (rw[decide_eq_true q']at h5;exact absurd h5 (by decide))
   | (simp at h5;lia)
 cases hwl with
 |cons w1 w2=>
  cases w2
  cases w1 with
  |list ho hall=>exact{_,_,ns,rfl,rfl,ho,qY ns _ hall,hlen}
theorem DD(l:OpenLaw)(args:List WData):l.row.toRowW.claim.post args (.bool true) args=true:=
 postW_of (r:=l.row.toRowW) (X:=(true==true))
  (show WShape.has [] (.bool true) .bool=true by first|rfl|decide|simp[WShape.has,WShape.arms,WShape.armsAll])
  (show(WTm.eq .res (.lit (.bool true))).value [] { args:=args,res:=Zh (.bool true),after:=args }=Zh (.bool (true==true))from w_eq_bool (w_res rfl) w_lit) rfl
theorem zW{l:OpenLaw}{n:Nat}{q:Program}{loose:List Str}{XP:(Str->Option Ut)->UT->Prop}{YP:UC->UT->Prop}{d:DefRec}
  (hn:l.most=Zh n) (hdf:d.params.defaults=[])
  (call:∀(w:UC)(s₀ s₁:Uy)(mg mb:Str->Option Ut)(fa:Uu)(o:Obj)(pm cd doc:Ut)(a:Uu)(vs:List Ut)(ns:List Int),
   Ground q loose [] XP w s₀ mg mb s₁.heap->YP w s₁.heap->
   s₁.heap.get? fa=Zh o->o.data=.func (docDef d.name d.params d.body d.scope pm cd doc)->s₁.heap.CodeRec cd d.name->mg d.name=Zh (.ref fa)->
   s₁.heap.get? a=Zh { cls:=.type "list",data:=.seq vs.toArray }->Yg vs ns->ns.length<=n->s₁.gens=#[]->
   codeAny (UI l.prog w) XI (.call (.ref fa) {[.ref a],[]}) (λr s'=>r=.ok (.ret (.bool true))/\OldK s₁.heap s'.heap/\s'.os=s₁.os/\WW s'.gens) s₁) :
  WalkO q loose XP YP l.row.toRowW d [] (λf vs=>Y0 f vs):=by
 intro w s₀ s₁ mg mb G Y fa o pm cd doc dV kV ho hd hcd hD hmg hg args vals as hpre hlay hrd hwl hlo
 obtain rfl:dV=.none:=Dflts.none hD hdf
 obtain rfl:kV=.none:=Dflts.noKw hD
 obtain⟨a,vs,ns,rfl,rfl,hobj,hints,hlen⟩:=Dj hn hpre hwl
 refine enter_call (Wi (call w s₀ s₁ mg mb fa o pm cd doc a vs ns G Y ho (fd_plain hd) hcd hmg hobj hints hlen hg) λr s' hq=>?_)
 obtain⟨rfl,h2,h3,h4⟩:=hq
 exact{.inl {.bool true,.bool true,[],rfl,λ_=>rfl,.bool true,DD l _,λ_=>{List.Pairwise.nil,λ_ hm=>(nomatch hm)}},h2,h3,h4}
end Att
namespace L2
open PySem PySem.Spec PyProof.Rows
theorem vD:∀{vs:List Ut}{ns:List Int},Yg vs ns->Zl (ns.map V.int) vs
 |_,_,.nil=>.nil
 |_,_,.cons n t h=>.cons ⟨t,rfl⟩ (vD h)
def MU(H:Hp):Prop:=∀b,H b=Zi\/∃o xs,H b=Zh (.frz o (.lst xs))
theorem Fe{P:Program}{w:UC}{K:Uw}{mg mb:Str->Option Ut}{CX:CXT}{k:Nat}{fa a:Uu}{fd:Vo}{x:Str}{sp:Sp}{s₁:Uy}{vs:List Ut}{ns:List Int}
  (KX:K.In s₁.heap) (hns:s₁.heap.Ns UD mg) (hb:s₁.heap.Ns Xi mb) (hbb:∀x:Str,x≠"__name__"->mb x=Vj x) (hlim:s₁.heap.NoLimit) (hg:s₁.gens=#[])
  (ha:s₁.heap.get? a=Zh { cls:=.type "list",data:=.seq vs.toArray }) (hi:Yg vs ns) (hl:ns.length<=sizeLine) (hr:cV k XI)
  (F:∀base:UT,K.In base->base.Ns UD mg->gI P w K mg base CX k fa fd [x] sp) (hbind:∀(s:Uy)(u:Ut),XH s fd {[u],[]} [(x,u)])
  (hsp:∀H:Hp,MU H->SqL K H a (ns.map V.int)->sp [.ref a] H (λv _=>v=.bl true) λ_ _ _=>False)
  (hCX:∀H e s',CX [] H s₁ (λ_ _ _=>False) e s'->False) :
  codeAny (UI P w) XI (.call (.ref fa) {[.ref a],[]}) (λr s'=>r=.ok (.ret (.bool true))/\OldK s₁.heap s'.heap/\s'.os=s₁.os/\WW s'.gens) s₁:=by
 have rv:=vD hi
 have lenV:=hi.length
 have core:∀H:Hp,MU H->SqL K H a (ns.map V.int)->HOk P w H s₁.heap->(∀b,H b≠Zi->b=a)->(H a≠Zi->K.lookup a=Zi)->
   codeAny (UI P w) XI (.call (.ref fa) {[.ref a],[]}) (λr s'=>r=.ok (.ret (.bool true))/\OldK s₁.heap s'.heap/\s'.os=s₁.os/\WW s'.gens) s₁:=by
  intro H hO hS hok hA hK
  have base_of:∀{b:Uu}{o:Obj},s₁.heap.get? b=Zh o->H b=Zi->(xo s₁.heap H).get? b=Zh o:=λe n=>GC e n
  have noA:∀{b:Uu}{o:Obj}{es:Array Yp}{ep:Nat},s₁.heap.get? b=Zh o->o.data=.dict es ep->H b=Zi:=λ{b o es ep} e d=>by
   cases q:H b with
   |none=>rfl
   |some u=>
    have e':b=a:=hA b (by rw[q];simp);subst e';rw[ha]at e;cases e;have d':Data.seq vs.toArray _=Data.dict es ep:=d;cases d'
  have nsK:∀{b:Uu}{m:Str->Option Ut},s₁.heap.Ns b m->(xo s₁.heap H).Ns b m:=λ{b m} ⟨o,es,ep,e,d,r⟩=>{o,es,ep,base_of e (noA e d),d,r}
  have hKb:K.In (xo s₁.heap H):=λb o e=>base_of (KX b o e) (by
   cases q:H b with
   |none=>rfl
   |some u=>
    have e':b=a:=hA b (by rw[q];simp);subst e';rw[hK (by rw[q];simp)]at e;cases e)
  have hM:Mod K mg (xo s₁.heap H):={hKb,nsK hns,⟨mb,nsK hb,hbb⟩,let ⟨mc,h1,h2⟩:=hlim;⟨mc,nsK h1,h2⟩}
  have e0:A6 P w K mg (xo s₁.heap H) XI [] s₁ H:={rfl,hM,λb o e=>HW e,Nat.le_of_eq (CY _ _),trivial,λb hb=>absurd (show b∈([]:List Uu)from hb) (by simp),hok,.of_eq hg}
  refine Wi ((F _ hKb (nsK hns)).run XI [] s₁ H {[.ref a],[]} [.ref a] [.ref a] _ _ hr e0 (hbind s₁ (.ref a)) (.cons rfl .nil) (hsp H hO hS)) λr s' h=>?_
  cases r with
  |error e=>exact(hCX H e s' h).elim
  |ok fl=>
   cases fl with
   |next=>exact Vn h
   |brk=>exact Vn h
   |cont=>exact Vn h
   |ret u=>
    obtain⟨v,H',os,bare,un,hok',r',q⟩:=h
    have q':v=.bl true:=q
    subst q'
    obtain rfl:u=Xg true:=r'
    refine{rfl,OldK.of_keep λb o e=>?_,os,bare}
    cases q:H b with
    |none=>exact un.keep b o e q (by intro z;exact absurd (show b∈([]:List Uu)from z) (by simp)) (by simp)
    |some u=>
     rcases hO b with z|⟨ob,xs,z⟩
     ·rw[q]at z;cases z
     have z2:=un.uw b ob _ z
     obtain⟨e1,_⟩:=hok b _ z
     obtain⟨e2,_⟩:=hok' b _ z2
     rw[e]at e1;cases e1
     exact e2
 cases hk:K.lookup a with
 |some o=>
  have e:=KX a o hk
  rw[ha]at e
  cases e
  refine core (λ_=>Zi) (λ_=>.inl rfl) (.inr {_,vs.toArray,_,hk,rfl,rfl,rfl,by rw[Qk,lenV];exact hl,by simpa using rv}) (λb u z=>by have z':(Zi:Option HO)=Zh u:=z;cases z') (λb z=>absurd rfl z) λz=>absurd rfl z
 |none=>
  refine core (λb=>if b=a then Zh (.frz { cls:=.type "list",data:=.seq vs.toArray } (.lst (ns.map V.int)))else Zi) (λb=>?_) (.inl (.inr {{ cls:=.type "list",data:=.seq vs.toArray },if_pos rfl})) (λb u z=>?_) (λb z=>?_) λ_=>hk
  ·by_cases hb:b=a
   ·exact .inr {_,_,if_pos hb}
   exact .inl (if_neg hb)
  ·by_cases hb:b=a
   ·have z':=(if_pos hb).symm.trans z;cases z';subst hb;exact{ha,by rw[P8];exact hl,vs,_,rv,ha}
   have z':=(if_neg hb).symm.trans z;cases z'
  by_cases hb:b=a
  ·exact hb
  exact absurd (if_neg hb) z
theorem Jz{l:Yq}{n k:Nat}{q:Program}{loose:List Str}{XP:(Str->Option Ut)->UT->Prop}{YP:UC->UT->Prop}{d:DefRec}{K:VD->Uw}{CX:UC->CXT}{sp:UC->Sp}{x:Str}
  (hn:l.most=Zh n) (hn2:n<=sizeLine) (hdf:d.params.defaults=[]) (hr:cV k XI)
  (hY:∀(w:UC)(h:UT),YP w h->(K w.params).In h)
  (F:∀(w:UC)(mg:Str->Option Ut)(fa:Uu)(h:UT),(K w.params).In h->h.Ns UD mg->mg d.name=Zh (.ref fa)->
   ∃fd:Vo,(∀(s:Uy)(u:Ut),XH s fd {[u],[]} [(x,u)])/\
    ∀base:UT,(K w.params).In base->base.Ns UD mg->gI l.prog w (K w.params) mg base (CX w) k fa fd [x] (sp w))
  (hsp:∀(w:UC)(H:Hp)(a:Uu)(ns:List Int),ns.length<=n->MU H->SqL (K w.params) H a (ns.map V.int)->sp w [.ref a] H (λv _=>v=.bl true) λ_ _ _=>False)
  (hCX:∀(w:UC)(H:Hp)(s:Uy)(e:Ut)(s':Uy),CX w [] H s (λ_ _ _=>False) e s'->False) :
  W.WalkO q loose XP YP l.row.toRowW d [] (λf vs=>Y0 f vs):=by
 refine Att.zW hn hdf λw s₀ s₁ mg mb fa o pm cd doc a vs ns G Y ho hd hcd hmg hobj hints hlen hg=>?_
 have KX:=hY w _ Y
 obtain⟨fd,hb,hF⟩:=F w mg fa _ KX G.T.g hmg
 exact Fe KX G.T.g G.T.b G.T.builtins G.T.nolimit hg hobj hints (Qi hlen hn2) hr hF hb (λH hO hS=>hsp w H a ns hlen hO hS) λH e s'=>hCX w H s₁ e s'
noncomputable abbrev CX0:CXT:=λ_ _ _ _ _ _=>False
noncomputable abbrev E0:XK:=λ_ _ _=>False
theorem tI:Zx CX0 X E0:=λ_ _ _ _ _ _ _ h=>h.elim
structure Fun(K:Uw)(x qual:Str)(st:UP)(f:Uu)(fd:Vo):Prop where
 ex:∃(oc:Ut)(od:Option Uu)(kV doc pm:Ut)(an:Option Uu)(cdv ct:Ut)(osl:Array (Option Ut)),
  fd=Vt x qual (cI st) (b9 st) (aL st) .none kV doc pm an cdv ct/\K.lookup f=Zh ⟨oc,od,.func fd,osl⟩/\WN K cdv qual=true
 kp:Vx K (.ref f)=true
section
variable{P:Program}{w:UC}{K:Uw}{mg:Str->Option Ut}{base:UT}
theorem Fun.ok{x qual:Str}{st:UP}{f:Uu}{fd:Vo}{N ps:List Str}{k:Nat}{sp:Sp}(F:Fun K x qual st f fd)(S:bc N ps (aL st))(len:∀vs H Q E,sp vs H Q E->vs.length=ps.length)
  (hbody:∀(cdv:Ut)(A:US)(outer:List Env)(s:Uy)(H:Hp)(vs:List V)(Q:VK)(E:XK),cV k (A.deeper (V0 qual (aL st) s.heap.objs.size f cdv))->sp vs H Q E->
   ∃t,PSs (tL CX0 P w K mg base N qual (aL st) f cdv A outer s H E).nox (b9 st) t/\t { nx:=λ_ H'=>Q .non H',rt:=Q } (Zs N vs) H):gI P w K mg base CX0 (k+1) f fd ps sp:=by
 obtain⟨oc,od,kV,doc,pm,an,cdv,ct,osl,rfl,lk,hcd⟩:=F.ex
 refine Ng lk hcd S len λA outer s H vs Q E hr hsp=>?_
 obtain⟨t,h,q⟩:=hbody cdv A outer s H vs Q E hr hsp
 exact⟨t,h.nox,q⟩
theorem Fun.binds{x qual:Str}{st:UP}{f:Uu}{fd:Vo}{ps:List Str}(F:Fun K x qual st f fd)
  (h:∀(kV doc pm:Ut)(an:Option Uu)(cdv ct:Ut)(us:List Ut),us.length=ps.length->Xz (Vt x qual (cI st) (b9 st) (aL st) .none kV doc pm an cdv ct) {us,[]}=pure (ps.zip us)):Zu K fd ps []:=by
 obtain⟨oc,od,kV,doc,pm,an,cdv,ct,osl,rfl,lk,hcd⟩:=F.ex
 exact .all (h kV doc pm an cdv ct)
theorem wu{x qual:Str}{st:UP}{f:Uu}{oc:Ut}{od an:Option Uu}{osl:Array (Option Ut)}{kV doc pm cdv ct:Ut}(l:K.lookup f=Zh {oc,od,.func (Vt x qual (cI st) (b9 st) (aL st) .none kV doc pm an cdv ct),osl})
  (c:WN K cdv qual=true) (k:Vx K (.ref f)=true):Fun K x qual st f (Vt x qual (cI st) (b9 st) (aL st) .none kV doc pm an cdv ct):={⟨oc,od,kV,doc,pm,an,cdv,ct,osl,rfl,l,c⟩,k}
end
def br(H H':Hp):Prop:=∀b o,H b=Zh o->H' b=Zh o
theorem br.refl(H:Hp):br H H:=λ_ _ h=>h
theorem br.trans(a:br H H1)(b:br H1 H2):br H H2:=λc o h=>b c o (a c o h)
theorem br.free(e:br H H')(h:H' l=Vz):H l=Vz:=by
 cases q:H l with
 |none=>rfl
 |some o=>
  rw[e l o q]at h;cases h
theorem pN{α β:Type}{l:List α}{f:α->β->Sem (ForInStep β)}(g:β->α->β)(c:β)(h:∀x∈l,∀c,f x c=pure (.yield (g c x))) :
  forIn l c f=pure (l.foldl g c):=by
 induction l generalizing c with
 |nil=>rfl
 |cons x l ih=>
  rw[Sj,h x Qb,pure_bind]
  exact ih _ λy hy=>h y (Qa _ hy)
noncomputable def eX(env:Env)(cs:List (Str×Uu))(x:Str×VF):List (Str×Uu):=
 if x.2== .free then(x.1,(env.cells.lookup x.1).getD 0)::cs else cs
def sC(env:Env)(names:List (Str×VF)):List (Str×Uu):=names.foldl (eX env) []
theorem q0(h:∀x∈scope.names,x.2=.free->∃c,env.cells.lookup x.1=Zh c):closureFor scope env=pure (sC env scope.names):=by
 simp only[closureFor];rw[pN (eX env) [] (λx hx c=>by
  obtain⟨n,kind⟩:=x;cases hk:kind==Vb with
  |false=>simp only[eX,hk,R7,if_false]
  |true=>
   obtain⟨a,ha⟩:=h (n,kind) hx (by simpa using hk);have ha':env.cells.lookup n=Zh a:=ha;simp only[eX,hk,if_true,cellOf,ha',Q5,pure_bind])]
 rfl
theorem ue:∀{names:List (Str×VF)}{cs:List (Str×Uu)}{n:Str}{c:Uu},(n,c)∈names.foldl (eX env) cs->(n,c)∈cs\/((n,Vb)∈names/\c=(env.cells.lookup n).getD 0)
 | [],_,_,_,h=>.inl h
 | (m,k)::r,cs,n,c,h=>by
  rcases ue (names:=r) (cs:=eX env cs (m,k)) h with h|⟨h,e⟩
  ·unfold eX at h;by_cases hk:(k==Vb)=true
   ·rw[if_pos hk]at h;rcases P7.mp h with e|h
    ·cases e;have hk':k=.free:=by simpa using hk
     subst hk';exact .inr ⟨Qb,rfl⟩
    exact .inl h
   rw[if_neg hk]at h;exact .inl h
  exact .inr {Qa _ h,e}
theorem uY:∀{names:List (Str×VF)}{cs:List (Str×Uu)},p∈cs->p∈names.foldl (eX env) cs
 | [],_,h=>h
 |x::r,cs,h=>uY (names:=r) (cs:=eX env cs x) (by
  unfold eX;split
  ·exact Qa _ h
  exact h)
theorem xP:∀{names:List (Str×VF)}{cs:List (Str×Uu)},(n,Vb)∈names->(n,(env.cells.lookup n).getD 0)∈names.foldl (eX env) cs
 |x::r,cs,h=>by
  rcases P7.mp h with e|h
  ·subst e;refine uY (names:=r) (cs:=eX env cs (n,.free)) ?_;unfold eX;rw[if_pos (by rfl)];exact Qb
  exact xP (names:=r) h
theorem iF{α:Type}:∀{l:List (Str×α)}{n:Str}{c:α},(n,c)∈l->∃c',l.lookup n=Zh c'
 | (k,v)::r,n,c,h=>by
  rw[Qw];cases hb:n==k with
  |true=>exact⟨v,rfl⟩
  |false=>
   rcases P7.mp h with e|h
   ·cases e;simp at hb
   exact iF h
theorem fi:∀{names:List (Str×VF)}{k:Nat}{acc:List (Str×Uu)}{n:Str}{c:Uu},(n,c)∈Va k names acc->(n,c)∈acc\/(k<=c/\(n,U6)∈names)
 | [],_,_,_,_,h=>.inl h
 | (m,kd)::r,k,acc,n,c,h=>by
  unfold Va at h;by_cases hk:(kd==U6)=true
  ·rw[if_pos hk]at h;have hk':kd=.cell:=by simpa using hk
   subst hk';rcases fi (names:=r) h with h|⟨h1,h2⟩
   ·rcases P7.mp h with e|h
    ·cases e;exact .inr {Qf _,Qb}
    exact .inl h
   exact .inr {by lia,Qa _ h2}
  rw[if_neg hk]at h;rcases fi (names:=r) h with h|⟨h1,h2⟩
  ·exact .inl h
  exact .inr {h1,Qa _ h2}
theorem iD:∀{names:List (Str×VF)}{k:Nat}{acc:List (Str×Uu)},(∀n c,(n,c)∈acc->c<k)->(∀n n' c,(n,c)∈acc->(n',c)∈acc->n=n')->
  ∀{n n':Str}{c:Uu},(n,c)∈Va k names acc->(n',c)∈Va k names acc->n=n'
 | [],_,_,_,hi,_,_,_,h,h'=>hi _ _ _ h h'
 | (m,kd)::r,k,acc,hl,hi,n,n',c,h,h'=>by
  unfold Va at h h';by_cases hk:(kd==U6)=true
  ·rw[if_pos hk]at h h';refine iD (names:=r) (acc:=(m,k)::acc) (λa b hab=>?_) (λa a' b ha ha'=>?_) h h'
   ·rcases P7.mp hab with e|e
    ·cases e;exact Ry _
    exact RH (hl _ _ e)
   rcases P7.mp ha with e|e<;>rcases P7.mp ha' with e'|e'
   ·cases e;cases e';rfl
   ·cases e;exact absurd (hl _ _ e') (Rg _)
   ·cases e';exact absurd (hl _ _ e) (Rg _)
   exact hi _ _ _ e e'
  rw[if_neg hk]at h h';exact iD (names:=r) hl hi h h'
theorem gD:∀{names:List (Str×VF)}{h:UT}{acc:List (Str×Uu)}{n:Str}{c:Uu},(n,c)∈Va h.objs.size names acc->(n,c)∈acc\/(Wq h names).IsCell c Zi
 | [],_,_,_,_,q=>.inl q
 | (m,kd)::r,h,acc,n,c,q=>by
  unfold Va at q;unfold Wq;by_cases hk:(kd==U6)=true
  ·rw[if_pos hk]at q;rw[if_pos hk];have e:h.objs.size+1=(h.push { cls:=.type "cell",data:=.cell Zi }).objs.size:=(Vq ..).symm;rw[e]at q;rcases gD (names:=r) q with q|q
   ·rcases P7.mp q with e'|q
    ·cases e';exact .inr {_,Wb r _ _ _ (UK _ rfl),rfl}
    exact .inl q
   exact .inr q
  rw[if_neg hk]at q;rw[if_neg hk];exact gD (names:=r) q
theorem ig:∀{names:List (Str×VF)}{k:Nat}{acc:List (Str×Uu)},(x,U6)∉names->(Va k names acc).lookup x=acc.lookup x
 | [],_,_,_=>rfl
 | (m,kd)::r,k,acc,h=>by
  unfold Va;have hr:(x,U6)∉r:=λz=>h (Qa _ z);by_cases hk:(kd==U6)=true
  ·have hk':kd=.cell:=by simpa using hk
   subst hk';rw[if_pos hk,ig hr,Qw];have ne:(x==m)=false:=by
    cases hb:x==m with
    |false=>rfl
    |true=>exact absurd (by rw[beq_iff_eq.mp hb];exact Qb) h
   rw[ne]
  rw[if_neg hk];exact ig hr
section
variable{M:Ze}{A:US}{E:Ut->Uy->Prop}{s:Uy}
theorem yI
  (h:Q (newEnv scope s.heap.objs.size globals (Va (s.heap.objs.size+1) scope.names cl) qual Zi .none (Zh Hj) Xi) { s with heap:=Wq (s.heap.push { cls:=.type "dict",data:=.dict #[] }) scope.names }) :
  wpAny M A (Y1 scope globals cl [] qual Zi .none (Zh Hj)) Q E s:=by
 simp only[Y1,XY,if_true]
 refine Ux (wpAny_alloc ?_)
 refine Ux (wpAny_layCells _ (λname kind cells=>by cases hkc:kind==U6<;>simp[hkc]) _ _ _ _ ?_)
 rw[show({ s with heap:=s.heap.push { cls:=.type "dict",data:=.dict #[] } }:Uy).heap.objs.size=s.heap.objs.size+1 from Vq ..]
 refine Ux ?_
 rw[List.forIn_nil]
 exact UA (UA h)
end
structure CB where
 C:Uu
 ex:List Uu
 s:Uy
 H:Hp
def cxC(X:Cx)(N:List Str)(scope:Wu)(b:CB):Cx:={ X with
 N:=N
 s₀:=b.s
 H₀:=b.H
 env:=compEnvC scope (Va (b.C+1) scope.names (sC X.env scope.names)) b.C X.env
 outer:=X.stack
 ex:=b.ex
 fn:=λx=>scope.names.lookup x==Zh .cell
 pn:=[]
 xe:=λ_ _=>False }
theorem kU{env:Env}{x:Str}:∀{names:List (Str×VF)},
  (names.map λ(n,k)=>if(k==Vb&&env.scope.kind== .function&&env.kindOf n==Zh .cell)then(n,U6)else(n,k)).lookup x=
   (names.lookup x).map λk=>if(k==Vb&&env.scope.kind== .function&&env.kindOf x==Zh .cell)then U6 else k
 | []=>rfl
 | (n,k)::r=>by
  have ih:=@kU env x r;show V5 x ((if(k==Vb&&env.scope.kind== .function&&env.kindOf n==Zh .cell)=true then(n,U6)else(n,k))::_)=_;cases hx:x==n with
  |true=>
   have e:x=n:=beq_iff_eq.mp hx;subst e;by_cases hc:(k==Vb&&env.scope.kind== .function&&env.kindOf x==Zh .cell)=true
   ·rw[if_pos hc];simp only[Qw,hx,RY,hc,if_true]
   rw[if_neg hc];simp only[Qw,hx,RY];rw[if_neg hc]
  |false=>
   by_cases hc:(k==Vb&&env.scope.kind== .function&&env.kindOf n==Zh .cell)=true
   ·rw[if_pos hc];simp only[Qw,hx];exact ih
   rw[if_neg hc];simp only[Qw,hx];exact ih
structure cv(psc:Wu)(PN N:List Str)(own:Nat)(fr:List Nat)(scope:Wu):Prop where
 kind:scope.kind=.function
 nd:(scope.names.map (·.1)).Nodup
 free:∀x∈scope.names,x.2=.free->psc.names.lookup x.1=Zh .cell\/psc.names.lookup x.1=Zh .free
 len:N.length=own+fr.length
 frn:∀i,i<fr.length->N[own+i]?=(fr[i]?).bind λj=>PN[j]?
 frk:∀i,i<fr.length->∀y,N[own+i]?=Zh y->scope.names.lookup y=Zh .free
noncomputable def Ci(psc:Wu)(PN N:List Str)(own:Nat)(fr:List Nat)(scope:Wu):Bool:=
 scope.kind== .function&&decide (scope.names.map (·.1)).Nodup&&scope.names.all (λx=>x.2 != .free||(psc.names.lookup x.1==Zh .cell||psc.names.lookup x.1==Zh .free))&&
  (N.length==own+fr.length)&&((fr.map λj=>PN[j]?)==(N.drop own).map Zh)&&(N.drop own).all (λy=>scope.names.lookup y==Zh .free)
theorem cv.of(h:Ci psc PN N own fr scope=true):cv psc PN N own fr scope:=by
 unfold Ci at h;simp only[Qs]at h;obtain⟨⟨⟨⟨⟨h1,h2⟩,h3⟩,h4⟩,h5⟩,h6⟩:=h;have h4':N.length=own+fr.length:=eq_of_beq h4;have h5':(fr.map λj=>PN[j]?)=(N.drop own).map Zh:=eq_of_beq h5;have dr:∀i,N[own+i]?=(N.drop own)[i]?:=λi=>by rw[List.getElem?_drop]
 refine{eq_of_beq h1,of_decide_eq_true h2,λx hx hk=>?_,h4',λi hi=>?_,λi hi y hy=>?_}
 ·have q:=QM.mp h3 x hx;rw[hk]at q;simpa using q
 ·have q:=congrArg (λl=>l[i]?) h5';simp only[Qu]at q;rw[dr];have ej:fr[i]?=Zh fr[i]:=Qe hi;rw[ej]at q⊢;cases e:(N.drop own)[i]? with
  |none=>rw[e]at q;cases q
  |some y=>
   rw[e]at q;exact(UE q).symm
 rw[dr]at hy;have q:=QM.mp h6 y (QY hy);simpa using q
noncomputable def cSt(own:Nat)(fr:List Nat)(B:St):St:=WM own Zi++fr.map λj=>(B[j]?).getD Zi
theorem gj{α:Type}:∀{l:List (Str×α)}{n:Str}{k:α},(l.map (·.1)).Nodup->(n,k)∈l->l.lookup n=Zh k
 | (m,v)::r,n,k,nd,h=>by
  rw[Qc,Rn]at nd;rw[Qw];rcases P7.mp h with e|h
  ·cases e;simp
  have ne:(n==m)=false:=by
   cases hb:n==m with
   |false=>rfl
   |true=>exact absurd (Qr.mpr {(n,k),h,beq_iff_eq.mp hb}) nd.1
  rw[ne];exact gj nd.2 h
section
variable{X:Cx}{pins:List (Uu×Obj)}{B:St}{H:Hp}{s:Uy}{N:List Str}{own:Nat}{fr:List Nat}{scope:Wu}
theorem cv.cells(S:cv X.env.scope X.N N own fr scope)(ok:X.Ok):∀x∈scope.names,x.2=.free->∃c,X.env.cells.lookup x.1=Zh c:=λx hx hk=>
 ok.has x.1 (S.free x hx hk)
theorem cv.cl(S:cv X.env.scope X.N N own fr scope)(ok:X.Ok)(h:(n,c)∈sC X.env scope.names):X.env.cells.lookup n=Zh c:=by
 rcases ue h with h|⟨h,e⟩
 ·cases h
 obtain⟨c',e'⟩:=S.cells ok (n,.free) h rfl;have e2:X.env.cells.lookup n=Zh c':=e';rw[e2]at e;rw[e,e2];rfl
theorem Ec(S:cv X.env.scope X.N N own fr scope)(I:Inv X pins B H s)(hD:D=s.heap.objs.size)(hC:C=s.heap.objs.size+1)
  (hh:h'=Wq ((s.heap.push { cls:=.type "list",data:=.seq #[] }).push { cls:=.type "dict",data:=.dict #[] }) scope.names) (hfp:∀b∈fp,uy X pins H b) (hlt:∀b∈fp,b<s.heap.objs.size) :
  Inv (cxC X N scope ⟨C,fp,s,H⟩) [] (cSt own fr B) (upd H D (.lst [])) { s with heap:=h' }:=by
 subst hD hC
 have eD:(s.heap.push { cls:=.type "list",data:=.seq #[] }).objs.size=s.heap.objs.size+1:=Vq ..
 have eC:((s.heap.push { cls:=.type "list",data:=.seq #[] }).push { cls:=.type "dict",data:=.dict #[] }).objs.size=s.heap.objs.size+2:=by rw[Vq,eD]
 have keep:∀b o,s.heap.get? b=Zh o->h'.get? b=Zh o:=λb o e=>by
  rw[hh];exact Wb _ _ _ _ (Uz _ (Uz _ e))
 have lst:h'.get? s.heap.objs.size=Zh { cls:=.type "list",data:=.seq #[] }:=by
  rw[hh];exact Wb _ _ _ _ (Uz _ (UK _ rfl))
 have dct:h'.get? (s.heap.objs.size+1)=Zh { cls:=.type "dict",data:=.dict #[] }:=by
  rw[hh];refine Wb _ _ _ _ ?_;have:=UK (s.heap.push { cls:=.type "list",data:=.seq #[] }) (o:={ cls:=.type "dict",data:=.dict #[] }) rfl;rw[eD]at this;exact this
 have hnD:H s.heap.objs.size=Zi:=I.hok.fresh (Qf _)
 have hnC:H (s.heap.objs.size+1)=Zi:=I.hok.fresh (Sf _)
 have inCl:∀{n:Str}{c:Uu},(n,c)∈sC X.env scope.names->X.env.cells.lookup n=Zh c:=λh=>S.cl I.ok h
 have clt:∀{n:Str}{c:Uu},X.env.cells.lookup n=Zh c->c<s.heap.objs.size:=λh=>by
  obtain⟨v,z⟩:=I.cell _ _ h;exact z.lt
 have cases_:∀{n:Str}{c:Uu},(Va (s.heap.objs.size+1+1) scope.names (sC X.env scope.names)).lookup n=Zh c->X.env.cells.lookup n=Zh c\/(s.heap.objs.size+2<=c/\(n,U6)∈scope.names/\h'.IsCell c Zi):=λ{n c} h=>by
  have hm:=UQ h;have hcell:=hm;rw[show s.heap.objs.size+1+1=((s.heap.push { cls:=.type "list",data:=.seq #[] }).push { cls:=.type "dict",data:=.dict #[] }).objs.size from eC.symm]at hcell;rcases fi hm with h1|⟨h1,h2⟩
  ·exact .inl (inCl h1)
  rcases gD hcell with h3|h3
  ·exact .inl (inCl h3)
  exact .inr {h1,h2,by rw[hh];exact h3}
 have kindOf:∀x,(cxC X N scope {s.heap.objs.size+1,fp,s,H}).env.kindOf x=(scope.names.lookup x).map λk=>if(k==Vb&&X.env.scope.kind== .function&&X.env.kindOf x==Zh .cell)then U6 else k:=λx=>kU
 have hasName:∀x,((cxC X N scope {s.heap.objs.size+1,fp,s,H}).env.kindOf x=Zh .cell\/(cxC X N scope {s.heap.objs.size+1,fp,s,H}).env.kindOf x=Zh .free)->∃c,(Va (s.heap.objs.size+1+1) scope.names (sC X.env scope.names)).lookup x=Zh c:=λx hx=>by
  rw[kindOf]at hx;have h2:scope.names.lookup x=Zh .cell\/scope.names.lookup x=Zh .free:=by
   cases e:scope.names.lookup x with
   |none=>rw[e]at hx;rcases hx with z|z<;>cases z
   |some k=>
    rw[e]at hx;by_cases hk:k=.free
    ·exact .inr (by rw[hk])
    have hk':(k==Vb)=false:=by simpa using hk
    simp only[RY,hk',Sz,R7,if_false]at hx;rcases hx with z|z
    ·exact .inl z
    exact .inr z
  rcases h2 with h2|h2
  ·exact Q4.mp (Wo scope.names _ _ (.inl h2))
  obtain⟨c,hc⟩:=iF (xP (env:=X.env) (cs:=[]) (UQ h2));exact Q4.mp (Wo scope.names _ _ (.inr (by rw[show(sC X.env scope.names).lookup x=Zh c from hc];rfl)))
 have cellAt:∀x c,(Va (s.heap.objs.size+1+1) scope.names (sC X.env scope.names)).lookup x=Zh c->∃v,h'.IsCell c v:=λx c e=>by
  rcases cases_ e with q|⟨_,_,q⟩
  ·obtain⟨v,o,ho,hd⟩:=I.cell x c q;exact⟨v,o,keep c o ho,hd⟩
  exact⟨Zi,q⟩
 refine⟨{I.ok.mod,S.kind,I.ok.glob,I.ok.blt,Sf _,λy z c h1 h2=>?_,hasName,λy c hy h=>?_,I.ok.hd,I.ok.frames,.inl rfl,λb hb=>{?_,λx c e z=>?_},λb o e=>I.bs b o e,Qi I.ok.bsz I.sz,λb o e hb=>?_,λb hb hf=>?_,I.stack,I.Bv},
  rfl,I.bare,?_,{λ_=>Zi,{_,#[],_,dct,rfl,λe he=>absurd he (by simp),λ_=>rfl},λi x v h1 h2 h3=>?_},cellAt,?_,λx c e=>?_,λp hp=>absurd (show p∈([]:List (Uu×Obj))from hp) (by simp),?_,?_⟩
 ·
  refine iD (λn c hm=>?_) (λn n' c hm hm'=>I.ok.inj n n' c (inCl hm) (inCl hm')) (UQ h1) (UQ h2);exact RH (RH (clt (inCl hm)))
 ·
  have hy':scope.names.lookup y=Zh .cell:=by simpa using (show(scope.names.lookup y==Zh .cell)=true from hy)
  rcases cases_ h with q|⟨q,_⟩
  ·rcases fi (UQ h)with q2|⟨q2,_⟩
   ·rcases ue q2 with z|⟨z,_⟩
    ·cases z
    have:=gj S.nd z;rw[hy']at this;cases this
   exact Qi (Rq _ 2) q2
  exact Qi (Rq _ 2) q
 ·exact Qy (RH (hlt b hb))
 ·rcases cases_ e with q|⟨q,_⟩
  ·exact(hfp b hb).2.2.2.2.1 x c q z
  have hb':=hlt b hb;rw[<-z]at hb';exact absurd (Qm hb' (Qi (Rq _ 2) q)) (Rg _)
 ·rcases(hfp b hb).2.2.2.1 with z|z
  ·exact I.ok.Gb b o e z
  exact Rg _ (Qm (UG e) (Qi I.ok.bsz z))
 ·rcases P7.mp (I.AA b hf)with z|z
  ·exact(hfp b hb).2.1 z
  exact(hfp b hb).2.2.1 z
 ·exact Un.laid keep (Qf _) hnD
 ·
  have h1:N[i]?=Zh x:=h1;have hlen:i<N.length:=(Qh.mp h1).1;by_cases hi:i<own
  ·exfalso;have h2':(cSt own fr B)[i]?=Zh Zi:=by
    unfold cSt;rw[Qp (by simpa using hi),Q7,if_pos hi]
   rw[h2']at h2;cases h2
  have hfi:i-own<fr.length:=by have:=S.len;lia
  have ei:own+(i-own)=i:=by lia
  have hk:=S.frk (i-own) hfi x (by rw[ei];exact h1);have hn:=S.frn (i-own) hfi;rw[ei,h1]at hn;have ej:fr[i-own]?=Zh fr[i-own]:=Qe hfi;rw[ej]at hn;have hn':X.N[fr[i-own]]?=Zh x:=hn.symm;have h2':(cSt own fr B)[i]?=Zh ((B[fr[i-own]]?).getD Zi):=by
   unfold cSt;rw[Ql (by simpa using Nat.not_lt.mp hi),RJ,Qu,ej];rfl
  rw[h2']at h2;have h2'':(B[fr[i-own]]?).getD Zi=Zh v:=UE h2;have hσ:B[fr[i-own]]?=Zh (Zh v):=by
   cases e:B[fr[i-own]]? with
   |none=>rw[e]at h2'';cases h2''
   |some w=>rw[e]at h2'';exact congrArg Zh h2''
  obtain⟨m,hm,hl⟩:=I.loc;have hfree:=S.free (x,.free) (UQ hk) rfl;obtain⟨u,r,l⟩:=hl _ x v hn' hσ (hfree.elim (λz=>.inr (.inl z)) λz=>.inr (.inr z));refine{u,r,.inr ?_};have hcell:∃c,X.env.cells.lookup x=Zh c/\s.heap.IsCell c (Zh u):=by
   rcases l with⟨l,_⟩|⟨_,c,e,z⟩
   ·exfalso;rcases hfree with z|z
    ·have l':X.env.scope.names.lookup x=Zh .local:=l
     have z':X.env.scope.names.lookup x=Zh .cell:=z;rw[l']at z';cases z'
    have l':X.env.scope.names.lookup x=Zh .local:=l
    have z':X.env.scope.names.lookup x=Zh .free:=z;rw[l']at z';cases z'
   exact⟨c,e,z⟩
  obtain⟨c,e,o,ho,hd⟩:=hcell;refine{?_,c,?_,o,keep c o ho,hd}
  ·rw[kindOf,hk];by_cases z:(X.env.scope.kind== .function&&X.env.kindOf x==Zh .cell)=true
   ·left
    simp only[RY,beq_self_eq_true,Bool.true_and,z,if_true]
   right
   simp only[RY,beq_self_eq_true,Bool.true_and];rw[if_neg z]
  show(Va (s.heap.objs.size+1+1) scope.names (sC X.env scope.names)).lookup x=Zh c;rw[ig λz=>by
   have:=gj S.nd z;rw[hk]at this;cases this]
  obtain⟨c',hc'⟩:=iF (xP (env:=X.env) (cs:=[]) (UQ hk));have hc2:(sC X.env scope.names).lookup x=Zh c':=hc';rw[hc2];have:=inCl (UQ hc2);rw[e]at this;exact this.symm
 ·show upd H s.heap.objs.size (.lst []) (s.heap.objs.size+1)=Zi;rw[bN (RZ (Ry _))];exact hnC
 ·rcases cases_ e with q|⟨q,_⟩
  ·have:=clt q;rw[bN (Qy this)];exact I.lB x c q
  rw[bN (RZ (Qm (Nat.lt_add_of_pos_right (by decide)) q))];exact I.hok.fresh (Qi (Rq _ 2) q)
 ·exact I.hok.laid keep (Qf _) {Se _,[],0,.nil,lst}
 show(cSt own fr B).length=N.length
 unfold cSt
 rw[Qj,RJ,P8,S.len]
end
def PF(X:Cx)(ifs:List Expr)(t:TT):Prop:=
 ∀(pins:List (Uu×Obj))(s:Uy)(B:St)(H:Hp)(Q:Bool->Hp->Prop),Inv X pins B H s->t B H Q->
  wpAny (UI X.prog X.w) X.A (forIn ifs true λc r=>if r=true then do let ok<-isTrue c X.env (UO c X.env);pure (WB ok)else pure (WB r)) (TP X pins B Q) X.xe s
noncomputable def Pb:TT:=λ_ H Q=>Q true H
theorem L5:PF X [] Pb:=λ_ _ _ H _ I h=>wpAny_tests_nil ⟨H,I,h⟩
theorem L0(h:PT X c t):PF X [c] t:=λpins s B H Q I hw=>wpAny_tests_one (h pins s B H Q I hw)
theorem xT(I:Nat->Uy->Prop)
  (turn:∀n s,I n s->wpAny (UI prog w) A (pyNext it) (λr s₁=>match r with
   |none=>R (.ok .next) s₁
   |some v=>wpAny (UI prog w) A (WA target it v) (λ_ s₁'=>wpAny (UI prog w) A (assign target env v) (λ_ s₂=>
     wpAny (UI prog w) A (forIn ifs true λc r=>if r=true then do let ok<-isTrue c env (UO c env);pure (WB ok)else pure (WB r)) (λok s₃=>
      if ok=true then wpAny (UI prog w) A (UO elt env) (λx s₄=>
       wpAny (UI prog w) A (call (.builtin "list.append") [acc,x]) (λ_ s₅=>∃m,m<n/\I m s₅) (λ_ _=>False) s₄) (λ_ _=>False) s₃
      else ∃m,m<n/\I m s₃) (λ_ _=>False) s₂) (λ_ _=>False) s₁') (λ_ _=>False) s₁) (λ_ _=>False) s)
  (n:Nat) (h:I n s) :
  codeAny (UI prog w) A (.compLoop (.ListComp elt [⟨target,iter,ifs,0⟩] scope pos) 0 it acc env) R s:=by
 refine codeAny_loop rfl I (λn s hI=>?_) n h
 show wpAny _ A ((compTurn (.ListComp elt [⟨target,iter,ifs,0⟩] scope pos) 0 it acc env).onRaise (λx=>do noteFrame x env;theTreesLotGoes x)) _ _ s
 refine wpAny_noted ?_
 rw[compTurn_list]
 have no:∀{α:Type}{t:Sem α}{Q:α->Uy->Prop}{E':Ut->Uy->Prop}{s':Uy},wpAny (UI prog w) A t Q (λ_ _=>False) s'->wpAny (UI prog w) A t Q E' s':=λh=>U8 h (λ_ _ q=>q) λ_ _ z=>z.elim
 refine Ux (Wr (Ux (no (U8 (turn n s hI) (λr s₁ h₁=>?_) λ_ _ h'=>h'))))
 cases r with
 |none=>exact UA h₁
 |some v=>
  refine Ux (no (U8 h₁ (λ_ s₁' h₁'=>?_) λ_ _ h'=>h'))
  refine Ux (no (U8 h₁' (λ_ s₂ h₂=>Ux (no (U8 h₂ (λok s₃ h₃=>?_) λ_ _ h'=>h'))) λ_ _ h'=>h'))
  cases ok with
  |false=>exact UA ⟨rfl,h₃⟩
  |true=>
   exact Ux (Ux (no (U8 h₃ (λx s₄ h₄=>Ux (no (U8 h₄ (λ_ s₅ h₅=>UA (UA ⟨rfl,h₅⟩)) λ_ _ h'=>h'))) λ_ _ h'=>h')))
structure Lc(J:It)(own:Nat)(fr:List Nat)(g:CB->TG)(tf:CB->TT)(te:CB->TE)(Q:VK)(B:St)(H1:Hp):Prop where
 go:∀(b:CB)(D:Uu),H1 D=Zi->∃W:Nat->Nat->St->Hp->Prop,(∃m,W 0 m (cSt own fr B) (upd H1 D (.lst [])))/\∀i m B' H',W i m B' H'->
  (J.stop i H'/\Q (.ref D) H')\/(J.go i H'/\∃M:St->Hp->Prop,(∀σ2 H2,M σ2 H2->∃m',m'<m/\W (i+1) m' σ2 H2)/\∀x H2,J.yld i H' x H2->g b x B' H2 λσ3 H3=>tf b σ3 H3 λk H4=>
   if k=true then te b σ3 H4 λy H5=>∃ys,H5 D=Zh (.lst ys)/\ys.length<sizeLine/\M σ3 (upd H5 D (.lst (ys++[y])))else M σ3 H4)
noncomputable def yD(wi:TI)(own:Nat)(fr:List Nat)(g:CB->TG)(tf:CB->TT)(te:CB->TE):TE:=λB H Q=>wi B H λJ H1=>Lc J own fr g tf te Q B H1
section
variable{X:Cx}{tg iter elt:Expr}{ifs:List Expr}{scope:Wu}{pos:Pos}{N:List Str}{own:Nat}{fr:List Nat}{wi:TI}{g:CB->TG}{tf:CB->TT}{te:CB->TE}
theorem yu(S:cv X.env.scope X.N N own fr scope)(hc:X.calm=true)(hi:PI X tg iter wi)
  (hg:∀b,PG (cxC X N scope b) tg (g b)) (hf:∀b,PF (cxC X N scope b) ifs (tf b)) (he:∀b,PE (cxC X N scope b) elt (te b)) (hs:∀x,foldedSetIterable iter X.env x=pure x) (I:Inv X pins B H s) (h:yD wi own fr g tf te B H Q)
  (fin:∀(D C:Uu)(oC:Obj)(m:Str->Option Ut)(H':Hp)(s':Uy),Inv X (pins++[(C,oC)]) B H' s'->X.s₀.heap.objs.size<=C->(∀p∈X.pn++pins,p.1≠C)->(∀h':UT,h'.get? C=Zh oC->h'.Ns C m)->Q (.ref D) H'->Y2 (UI X.prog X.w) X.A X.xe use R (.ref D) C (.ok .next) s') :
  wpAny (UI X.prog X.w) X.A (comprehension (.ListComp elt [⟨tg,iter,ifs,0⟩] scope pos) scope X.env (firstIterPos [⟨tg,iter,ifs,0⟩] pos) (newList []) false (UO iter X.env) use) R X.xe s:=by
 refine wpAny_comprehension_free rfl hs (q0 (S.cells I.ok)) S.kind (λx hx hk=>?_) (thn (hi pins s B H _ I h) λv s1 h1=>thn h1 λitv s2 h2=>?_)
 ·have:=gj S.nd (show(x.1,x.2)∈scope.names from hx);rw[this,hk]
 obtain⟨it,fp,tn,J,H2,e,I2,T,st2,f2,q⟩:=h2
 subst e
 refine U9 ?_
 refine yI ?_
 have eD:(s2.heap.push { cls:=.type "list",data:=.seq #[] }).objs.size=s2.heap.objs.size+1:=Vq ..
 have hD:H2 s2.heap.objs.size=Zi:=I2.hok.fresh (Qf _)
 have hlt:∀b∈fp,b<s2.heap.objs.size:=λb hb=>by
  obtain⟨o,ho,_⟩:=T.obj 0 _ st2 b hb;exact UG ho
 obtain⟨W,⟨m0,w0⟩,turn⟩:=q.go {s2.heap.objs.size+1,fp,s2,H2} s2.heap.objs.size hD
 have IX:=Ec (fp:=fp) S I2 rfl rfl rfl f2 hlt
 have st4:tn 0 (Wq ((s2.heap.push { cls:=.type "list",data:=.seq #[] }).push { cls:=.type "dict",data:=.dict #[] }) scope.names):=
  T.keep 0 _ _ st2 λb _ o e=>Wb _ _ _ _ (Uz _ (Uz _ e))
 have fr0:∀b∈fp,upd H2 s2.heap.objs.size (.lst []) b=Zi:=λb hb=>by
  rw[bN (Qy (hlt b hb))];exact(f2 b hb).1
 have cne:∀b∈fp,∀x c,(cxC X N scope {s2.heap.objs.size+1,fp,s2,H2}).env.cells.lookup x=Zh c->c≠b:=λb hb=>((IX.ok.exf b hb).2)
 have stat:∀{H':Hp},(∀b∈fp,H' b=Zi)->∀b∈fp,uy (cxC X N scope {s2.heap.objs.size+1,fp,s2,H2}) [] H' b:=λhn b hb=>
  {hn b hb,(IX.ok.exf b hb).1,IX.ok.Eh b hb,.inl hb,cne b hb,λp hp=>absurd (show p∈([]:List (Uu×Obj))from hp) (by simp)}
 have e4:∀cenv:Env,cenv=newEnv scope (s2.heap.push { cls:=.type "list",data:=.seq #[] }).objs.size X.env.globals (Va ((s2.heap.push { cls:=.type "list",data:=.seq #[] }).objs.size+1) scope.names (sC X.env scope.names)) X.env.qual Zi .none (Zh X.env) Xi->
   ({ cenv with scope:=relabel scope X.env }:Env)=(cxC X N scope ⟨s2.heap.objs.size+1,fp,s2,H2⟩).env/\cenv.locals=s2.heap.objs.size+1:=λcenv e=>by
  subst e
  rw[eD]
  exact⟨rfl,rfl⟩
 obtain⟨e5,e6⟩:=e4 _ rfl
 have loop:codeAny (UI X.prog X.w) X.A (.compLoop (.ListComp elt [⟨tg,iter,ifs,0⟩] scope pos) 0 (.ref it) (.ref s2.heap.objs.size) (cxC X N scope {s2.heap.objs.size+1,fp,s2,H2}).env)
   (Y2 (UI X.prog X.w) X.A X.xe use R (.ref s2.heap.objs.size) (s2.heap.objs.size+1)) { s2 with heap:=Wq ((s2.heap.push { cls:=.type "list",data:=.seq #[] }).push { cls:=.type "dict",data:=.dict #[] }) scope.names }:=by
  refine xT (λn s'=>∃i B' H',Inv (cxC X N scope {s2.heap.objs.size+1,fp,s2,H2}) [] B' H' s'/\tn i s'.heap/\(∀b∈fp,H' b=Zi)/\W i n B' H') ?_ m0 {0,_,_,IX,st4,fr0,w0}
  rintro n s5 ⟨i,σ5,H5,I5,st5,fr5,w5⟩
  rcases turn i n σ5 H5 w5 with⟨stop,qn⟩|⟨go,M,hM,step⟩
  ·refine thn (T.done (cxC X N scope {s2.heap.objs.size+1,fp,s2,H2}) rfl rfl rfl hc i [] s5 σ5 H5 (λ_ _=>False) I5 (stat fr5) st5 stop) λr s6 z9=>?_;obtain⟨hr,I6⟩:=z9;subst hr;obtain⟨m,hn,_⟩:=I6.loc;obtain⟨oC,es,ep,hoC,hd,hk,hm⟩:=id hn;have IB:Inv X pins B H5 s6:=I2.NN (ch:=fp) I6.os I6.base I6.hok I6.bare λb hb=>{(f2 b hb).2.2.2.1,(f2 b hb).2.1,(f2 b hb).2.2.2.2.1,(f2 b hb).2.2.2.2.2};have young:s2.heap.objs.size<=s2.heap.objs.size+1:=Sf _;refine fin s2.heap.objs.size (s2.heap.objs.size+1) oC m H5 s6 (IB.wC λp hp=>?_) (Qi I2.sz young) (λp hp=>Qy (Qm (UG (I2.pin p hp).1) young)) (λh' e=>⟨oC,es,ep,e,hd,hk,hm⟩) qn;rcases QD.mp hp with z|z
   ·exact IB.pin p (Qq _ z)
   have ep':p=(s2.heap.objs.size+1,oC):=by simpa using z
   subst ep';exact{hoC,I6.free,RZ (Qm I2.lt young),I2.NU young,λv z=>by rw[hd]at z;cases z}
  refine thn (T.item (cxC X N scope {s2.heap.objs.size+1,fp,s2,H2}) rfl rfl rfl hc i [] s5 σ5 H5 (λ_ _=>False) I5 (stat fr5) st5 go) λr s6 z9=>?_;obtain⟨u,hr,h6⟩:=z9
  subst hr
  refine thn h6 λ_ s7 z9=>?_;obtain⟨x,H7,I7,r7,y7,st7,fr7⟩:=z9
  have I7':=I7.pinned (stat fr7) (T.obj _ _ st7)
  refine thn (hg _ _ s7 σ5 H7 x u _ I7' r7 (step x H7 y7)) λ_ s8 z9=>?_;obtain⟨σ8,H8,I8,q8⟩:=z9
  refine thn (hf _ _ s8 σ8 H8 _ I8 q8) λk s9 z9=>?_;obtain⟨H9,I9,q9⟩:=z9
  have again:∀{H10:Hp}{s10:Uy},Inv (cxC X N scope {s2.heap.objs.size+1,fp,s2,H2}) ([]++tN fp s7.heap) σ8 H10 s10->M σ8 H10->
    ∃m,m<n/\∃i B' H',Inv (cxC X N scope {s2.heap.objs.size+1,fp,s2,H2}) [] B' H' s10/\tn i s10.heap/\(∀b∈fp,H' b=Zi)/\W i m B' H':=λ{H10 s10} I10 q10=>by
   obtain⟨m',hm,w10⟩:=hM σ8 H10 q10
   refine{m',hm,i+1,σ8,H10,I10.lu,T.keep _ _ _ st7 λb hb o e=>(I10.pin (b,o) (Qq _ (Qq _ (jg hb e)))).1,λb hb=>?_,w10}
   obtain⟨o,e,d⟩:=T.obj _ _ st7 b hb
   exact(I10.pin (b,o) (Qq _ (Qq _ (jg hb e)))).2.1
  cases k with
  |false=>exact again I9 q9
  |true=>
   refine thn (he _ _ s9 σ8 H9 _ I9 q9) λw10 s10 z9=>?_;obtain⟨y,H10,I10,r10,ys,hys,hz,q10⟩:=z9
   refine thn (vC _ s10 σ8 H10 (.ref s2.heap.objs.size) [y] (.ref s2.heap.objs.size) [w10] (λ_ H'=>M σ8 H') I10 rfl (.cons r10 .nil) {_,ys,y,rfl,rfl,hys,hz,q10}) λ_ s11 z9=>?_;obtain⟨_,H11,I11,_,q11⟩:=z9
   exact again I11 q11
 have go:codeAny (UI X.prog X.w) X.A (.compStart (.ListComp elt [⟨tg,iter,ifs,0⟩] scope pos) 0 (.ref it) (.ref s2.heap.objs.size) (cxC X N scope {s2.heap.objs.size+1,fp,s2,H2}).env)
   (Y2 (UI X.prog X.w) X.A X.xe use R (.ref s2.heap.objs.size) (s2.heap.objs.size+1)) { s2 with heap:=Wq ((s2.heap.push { cls:=.type "list",data:=.seq #[] }).push { cls:=.type "dict",data:=.dict #[] }) scope.names }:=
  codeAny_compStart_list loop (T.self _ 0 _ _ _ st4 loop)
 have fin2:∀(env':Env)(L:Uu),env'=(cxC X N scope {s2.heap.objs.size+1,fp,s2,H2}).env->L=s2.heap.objs.size+1->
   codeAny (UI X.prog X.w) X.A (.compStart (.ListComp elt [⟨tg,iter,ifs,0⟩] scope pos) 0 (.ref it) (.ref s2.heap.objs.size) env') (Y2 (UI X.prog X.w) X.A X.xe use R (.ref s2.heap.objs.size) L)
    { s2 with heap:=Wq ((s2.heap.push { cls:=.type "list",data:=.seq #[] }).push { cls:=.type "dict",data:=.dict #[] }) scope.names }:=by
  intro env' L h1 h2
  subst h1 h2
  exact go
 exact fin2 _ _ e5 e6
theorem vK(I:Inv X (pins++[(C,oC)]) B' H' s')(hy:X.s₀.heap.objs.size<=C)(hp:∀p∈X.pn++pins,p.1≠C)(sb:WG C s'.heap h') :
  Inv X pins B' H' { s' with heap:=h' }:=by
 have pC:=I.pin (C,oC) (Qq _ (Qq _ (by simp)))
 have I2:Inv X pins B' H' s':=I.lu
 refine I2.turned (it:=C) (t':=s'.toks) (λb o hb e=>(sb.2 b hb).trans e) pC.2.1 pC.2.2.1 (.inr hy) (λx c e z=>?_) hp
 obtain⟨v,o,ho,hd⟩:=I2.cell x c e
 rw[z,pC.1]at ho
 cases ho
 exact pC.2.2.2.2 v hd
theorem Jl(S:cv X.env.scope X.N N own fr scope)(hc:X.calm=true)(hi:PI X tg iter wi)(hg:∀b,PG (cxC X N scope b) tg (g b))(hf:∀b,PF (cxC X N scope b) ifs (tf b))(he:∀b,PE (cxC X N scope b) elt (te b))
  (hs:∀x,foldedSetIterable iter X.env x=pure x:=by intro _;rfl):PE X (.ListComp elt [⟨tg,iter,ifs,0⟩] scope pos) (yD wi own fr g tf te):=by
 intro pins s B H Q I h
 rw[eval_ListComp]
 refine yu (use:=Zi) S hc hi hg hf he hs I h λD C oC m H' s' I' hy hp hm q=>?_
 have pC:=I'.pin (C,oC) (Qq _ (Qq _ (by simp)))
 exact{m,hm _ pC.1,λh' sb=>⟨.ref D,H',vK I' hy hp sb,rfl,q⟩}
theorem tK(S:cv X.env.scope X.N N own fr scope)(hc:X.calm=true)(hN:X.N.Nodup)(hj:X.N[j]?=Zh y)(hy:Loc X.env.scope y)(hi:PI X tg iter wi)(hg:∀b,PG (cxC X N scope b) tg (g b))(hf:∀b,PF (cxC X N scope b) ifs (tf b))
  (he:∀b,PE (cxC X N scope b) elt (te b)) (hfn:X.fn y=true\/X.env.scope.names.lookup y=Zh .local:=by trivial) (hs:∀x,foldedSetIterable iter X.env x=pure x:=by intro _;rfl)
  (hsw:Vh (.ListComp elt [⟨tg,iter,ifs,0⟩] scope pos) (Zh (.Name y py)) spos.line X.env=pure true:=by rfl) :
  PS X (.Assign [.Name y py] (.ListComp elt [⟨tg,iter,ifs,0⟩] scope pos) spos) (Ds (yD wi own fr g tf te) (vA j)):=by
 intro pins s B H D I h
 rw[exec_Assign_Name_used _ _ _ _ hsw]
 refine Ux (Wr (Ux ?_))
 show wpAny _ _ (do let _<-comprehension (.ListComp elt [⟨tg,iter,ifs,0⟩] scope pos) scope X.env _ (newList []) false (UO iter X.env) (Zh (assign (.Name y py) X.env))) _ _ s
 refine Ux (thn (yu (use:=Zh (assign (.Name y py) X.env)) (R:=λ_ s'=>SP X pins D .next s') S hc hi hg hf he hs I h λD' C oC m H' s' I' hy' hp hm q=>?_) λ_ s' q=>UA (UA q))
 show wpAny _ _ (assign (.Name y py) X.env (.ref D')) _ _ s'
 refine thn (Cu hN hj hy hfn _ s' B H' (.ref D') (.ref D') _ I' rfl q) λ_ s'' z9=>?_;obtain⟨σ2,H2,I2,q2⟩:=z9
 have pC:=I2.pin (C,oC) (Qq _ (Qq _ (by simp)))
 exact{m,hm _ pC.1,λh' sb=>⟨σ2,H2,vK I2 hy' hp sb,q2⟩}
end
theorem PE.imp(h:PE X e t)(k:∀B H Q,t' B H Q->t B H Q):PE X e t':=λpins s B H Q I q=>h pins s B H Q I (k B H Q q)
theorem OpR.imp(h:OpR X f r)(k:∀x y H Q,r' x y H Q->r x y H Q):OpR X f r':=λpins s B H x y v u Q I rx ry q=>h pins s B H x y v u Q I rx ry (k x y H Q q)
noncomputable def Hv(i:Nat):TE:=λB H Q=>match B[i]? with
 |some (Zh v)=>Q v H
 |_=>False
section
variable{X:Cx}
theorem fv(i:Nat)(hN:X.N[i]?=Zh x:=by rfl)(hv:Vis X.env.scope x:=by trivial)(hd:(x==("__debug__":Str))=false:=by decide)
  (hcd:(x==("__classdict__":Str))=false:=by decide):PE X (.Name x pos) (Hv i):=(FH hN hv hd hcd).imp λB H Q q=>by
 unfold Hv at q
 cases e:B[i]? with
 |none=>rw[e]at q;exact q.elim
 |some o=>
  cases o with
  |none=>rw[e]at q;exact q.elim
  |some v=>rw[e]at q;exact⟨v,e,q⟩
def Nx:R2:=λx y H Q=>match x,y with
 | .int i,.int j=>Q (.int (i+j)) H
 | .str a,.str b=>a.length+b.length<=sizeLine/\Q (.str (a++b)) H
 | .ref p,.ref q=>NY (.ref p) (.ref q) H Q
 |_,_=>False
theorem cx:OpR X (Vw .Add) Nx:=by
 intro pins s B H x y v u Q I rx ry h;cases x with
 |int i=>
  cases y with
  |int j=>exact ML pins s B H _ _ v u Q I rx ry ⟨i,j,rfl,rfl,h⟩
  |_=>exact(show False from h).elim
 |str a=>
  cases y with
  |str b=>exact AN pins s B H _ _ v u Q I rx ry ⟨a,b,rfl,rfl,h.1,h.2⟩
  |_=>exact(show False from h).elim
 |ref p=>
  cases y with
  |ref q=>exact Ka pins s B H _ _ v u Q I rx ry h
  |_=>exact(show False from h).elim
 |_=>cases y<;>exact(show False from h).elim
noncomputable def nJ(C:Int->Int->Prop)(g:Int->Int->V):R2:=λx y H Q=>match x,y with
 | .int i,.int j=>C i j/\Q (g i j) H
 |_,_=>False
noncomputable def eR(g:Int->Int->V):R2:=λx y H Q=>match x,y with
 | .int i,.int j=>Q (g i j) H
 |_,_=>False
theorem OpR.nJ(h:OpR X f (rI C g)):OpR X f (nJ C g):=h.imp λx y H Q q=>by
 cases x with
 |int i=>
  cases y with
  |int j=>exact⟨i,j,rfl,rfl,q.1,q.2⟩
  |_=>exact(show False from q).elim
 |_=>cases y<;>exact(show False from q).elim
theorem OpR.eR(h:OpR X f (rI0 g)):OpR X f (eR g):=h.imp λx y H Q q=>by
 cases x with
 |int i=>
  cases y with
  |int j=>exact⟨i,j,rfl,rfl,q⟩
  |_=>exact(show False from q).elim
 |_=>cases y<;>exact(show False from q).elim
theorem El:OpR X (Vw .Sub) (eR λi j=>.int (i-j)):=Ki.eR
theorem sG:OpR X (Vw .Mult) (nJ GP λi j=>.int (i*j)):=MG.nJ
def Gy(_ j:Int):Prop:=0<j/\j<2^64
theorem IE(h:Gy 0 j):j.natAbs.log2<9000:=by
 have h1:j.natAbs<2^64:=by
  have h2:j<2^64:=h.2;have h3:0<j:=h.1;lia
 have h0:j.natAbs≠0:=by have h3:0<j:=h.1;lia
 have:=(Nat.log2_lt h0).mpr h1;lia
theorem fO:OpR X (Vw .FloorDiv) (nJ Gy λi j=>.int (i/j)):=(opI λi j _ _ _ _ _ hc q=>by
 have h1:(0:Int)<j:=hc.1;exact floordiv_int (by lia) (by rw[Int.fdiv_eq_ediv_of_nonneg i (by lia)];exact q) (.inl (PyProof.noPylong_of_log2 (IE hc)))).nJ
theorem cW:OpR X (Vw .Mod) (nJ (λ_ j=>0<j) λi j=>.int (i%j)):=Kh.nJ
theorem vv:OpR X (Vw .Pow) (nJ My λi j=>.int (i^j.toNat)):=Kz.nJ
theorem xt:OpR X (UH .Lt) (eR λi j=>.bl (decide (i<j))):=NR.eR
theorem y6:OpR X (UH .LtE) (eR λi j=>.bl (decide (i<=j))):=Nd.eR
theorem Eb:OpR X (UH .Gt) (eR λi j=>.bl (decide (j<i))):=Nf.eR
theorem LG:OpR X (UH .GtE) (eR λi j=>.bl (decide (j<=i))):=NF.eR
mutual
inductive gY(K:Uw)(H:Hp):V->WC->Prop where
 |non:gY K H .non .none
 |bl (b:Bool):gY K H (.bl b) (.bool b)
 |int (i:Int):gY K H (.int i) (.int i)
 |str (x:Str):gY K H (.str x) (.str x)
 |lst {a:Uu}{xs:List V}{ds:List WC} (h:SqL K H a xs) (r:nB K H xs ds):gY K H (.ref a) (.list ds)
 |tup {a:Uu}{xs:List V}{ds:List WC} (h:SqT K H a xs) (r:nB K H xs ds):gY K H (.ref a) (.tuple ds)
inductive nB(K:Uw)(H:Hp):List V->List WC->Prop where
 |nil:nB K H [] []
 |cons {x:V}{xs:List V}{d:WC}{ds:List WC} (h:gY K H x d) (r:nB K H xs ds):nB K H (x::xs) (d::ds)
end
mutual
theorem Inv.reads(I:Inv X pins B H s):∀{x:V}{d:WC}{u:Ut},gY X.K H x d->Zm x u->∃as,Reads s.heap u d as
 |_,_,_,.non,r=>by cases r;exact{_,.none}
 |_,_,_,.bl b,r=>by cases r;exact{_,.bool b}
 |_,_,_,.int i,r=>by obtain⟨t,rfl⟩:=r;exact{_,.int i t}
 |_,_,_,.str x,r=>by obtain⟨t,rfl⟩:=r;exact{_,.str x t}
 |_,_,_,.lst h q,r=>by
  cases r;obtain⟨its,rv,⟨o,n,e,hc,_,hd⟩,_⟩:=I.list h;obtain⟨as,z⟩:=I.readsAll q rv;exact{_,.list e hc hd (by simpa using z)}
 |_,_,_,.tup h q,r=>by
  cases r;obtain⟨its,rv,⟨o,e,hc,n,hd⟩,_⟩:=I.tuple h;obtain⟨as,z⟩:=I.readsAll q rv;exact{_,.tuple e hc hd (by simpa using z)}
theorem Inv.readsAll(I:Inv X pins B H s):∀{xs:List V}{ds:List WC}{us:List Ut},nB X.K H xs ds->Zl xs us->∃as,ReadsAll s.heap us ds as
 |_,_,_,.nil,r=>by cases r;exact{_,.nil}
 |_,_,_,.cons h q,r=>by
  cases r with
  |cons r1 r2=>
   obtain⟨as,z⟩:=I.reads h r1;obtain⟨bs,z2⟩:=I.readsAll q r2;exact{_,.cons z z2}
end
def fIn(K:Uw)(neg:Bool):R2:=λx y H Q=>match y with
 | .str j=>∃i,x=.str i/\Q (.bl (if neg then !(!(UL j i 0 j.length 1).isEmpty)else !(UL j i 0 j.length 1).isEmpty)) H
 | .ref p=>∃xs,(SqL K H p xs\/SqT K H p xs)/\fB x=true/\xs.all fB=true/\Q (.bl (if neg then !inV x xs else inV x xs)) H
 |_=>False
theorem PQ:OpR X (UH .In) (fIn X.K false):=by
 intro pins s B H x y v u Q I rx ry h;cases y with
 |str j=>
  obtain⟨i,rfl,q⟩:=h;exact DC pins s B H _ _ v u Q I rx ry ⟨i,j,rfl,rfl,q⟩
 |ref p=>
  obtain⟨xs,h1,h2,h3,q⟩:=h;exact Dg pins s B H _ _ v u Q I rx ry ⟨p,xs,rfl,h1,h2,h3,q⟩
 |_=>exact(show False from h).elim
theorem HH:OpR X (UH .NotIn) (fIn X.K true):=by
 intro pins s B H x y v u Q I rx ry h;cases y with
 |str j=>
  obtain⟨i,rfl,q⟩:=h;exact wY pins s B H _ _ v u Q I rx ry ⟨i,j,rfl,rfl,q⟩
 |ref p=>
  obtain⟨xs,h1,h2,h3,q⟩:=h;exact xN pins s B H _ _ v u Q I rx ry ⟨p,xs,rfl,h1,h2,h3,q⟩
 |_=>exact(show False from h).elim
theorem uo:OpR X (UH .Is) (λx y H Q=>y=.non/\Q (.bl (decide (x=.non))) H):=LU
theorem xg:OpR X (UH .IsNot) (λx y H Q=>y=.non/\Q (.bl (!decide (x=.non))) H):=Jf
inductive ixS(K:Uw)(p:Uu)(i:Int)(H:Hp)(Q:VK):Prop
 |mk(xs:List V)(v:V)(h0:SqL K H p xs\/SqT K H p xs)(h1:atI xs i=Zh v)(q:Q v H):ixS K p i H Q
def fIx(K:Uw):R2:=λx y H Q=>match x,y with
 | .ref p,.int i=>ixS K p i H Q
 | .str z,.int i=>∃c,z.length<=sizeLine/\atI z.cps.toList i=Zh c/\Q (.str ⟨#[c]⟩) H
 |_,_=>False
theorem DX:IxR X (fIx X.K):=by
 intro value slice pins s B H x y v u Q I rx ry h hs;cases x with
 |ref p=>
  cases y with
  |int i=>
   obtain⟨xs,w,h1|h1,h2,q⟩:=h
   ·exact Ip value slice pins s B H _ _ v u Q I rx ry ⟨p,xs,i,w,rfl,rfl,h1,h2,q⟩ hs
   exact bY value slice pins s B H _ _ v u Q I rx ry ⟨p,xs,i,w,rfl,rfl,h1,h2,q⟩ hs
  |_=>exact(show False from h).elim
 |str z=>
  cases y with
  |int i=>
   obtain⟨c,h1,h2,q⟩:=h;exact MR value slice pins s B H _ _ v u Q I rx ry ⟨z,i,c,rfl,rfl,h1,h2,q⟩ hs
  |_=>exact(show False from h).elim
 |_=>cases y<;>exact(show False from h).elim
def O3:V->Option Int->Option Int->Hp->VK->Prop:=λx lo hi H Q=>∃z,x=.str z/\z.length<=sizeLine/\Q (.str (Txt.slice z lo hi)) H
noncomputable def Its(x:Str):It:={λi _=>i<x.cps.size,λi H v H'=>H'=H/\∃c,x.cps[i]?=Zh c/\v=.str ⟨#[c]⟩,λi _=>x.cps.size<=i}
theorem Fj{P:Program}{w:UC}{K:X8}{tg:Expr}{T:String}(hT:T="str_ascii_iterator"\/T="str_iterator")(it:Uu)(x:Str)(t:Tok):ZR P w K tg (Its x) [it] it (λi h=>i<=x.cps.size/\h.IsStrIter it T x t i) where
 mem:=by simp
 obj:=λi h st b hb=>by
  have e:b=it:=by simpa using hb
  subst e;obtain⟨_,o,e,c,d⟩:=st;exact{o,e,λv z=>by rw[d]at z;cases z}
 keep:=λi h h' st k=>by
  obtain⟨hi,o,e,r⟩:=st;exact{hi,o,k it (by simp) o e,r}
 item:=by
  intro X hP hw hK hc i pins s B H E I hf st hg;subst hP hw hK;obtain⟨f0,f1,f2,f3,f4,f5⟩:=hf it (by simp);have W:Walks X.prog X.w X.A it [it] [it] x.cps.size (SignAt x) (λi h=>h.IsStrIter it T x t i):=by
   rcases hT with rfl|rfl
   ·exact Y3 (I.ok.hd hc) it x t
   exact Walks.strWide (I.ok.hd hc) it x t
  refine W.item i s _ _ hg st.2 λv h' tk hv st' kk=>?_;obtain⟨c,u,hcp,rfl⟩:=hv;have I1:Inv X pins B H { s with heap:=h',toks:=tk }:=I.turned (λb o hb e=>kk b o (by simpa using hb) e) f0 f1 f3 f4 f5;obtain⟨o,e,c',d⟩:=id st';refine{_,rfl,BW (s:={ s with heap:=h',toks:=tk }) e c' d (by rcases hT with rfl|rfl<;>decide) ⟨.str ⟨#[c]⟩,H,I1,⟨u,rfl⟩,⟨rfl,c,hcp,rfl⟩,⟨hg,st'⟩,λb hb=>(hf b hb).1⟩}
 done:=by
  intro X hP hw hK hc i pins s B H E I hf st hg;subst hP hw hK;obtain⟨f0,f1,f2,f3,f4,f5⟩:=hf it (by simp);have W:Walks X.prog X.w X.A it [it] [it] x.cps.size (SignAt x) (λi h=>h.IsStrIter it T x t i):=by
   rcases hT with rfl|rfl
   ·exact Y3 (I.ok.hd hc) it x t
   exact Walks.strWide (I.ok.hd hc) it x t
  have e:i=x.cps.size:=Nat.le_antisymm st.1 hg;subst e;exact W.done s _ _ st.2 λh' tk kk=>{rfl,I.turned (λb o hb e=>kk b o (by simpa using hb) e) f0 f1 f3 f4 f5}
 self:=λA i s Q E st h=>by
  rcases hT with rfl|rfl
  ·exact wpAny_pyIter_striter_ascii st.2 h
  exact wpAny_pyIter_striter_wide st.2 h
def OA(K:Uw)(tl:TE):TI:=λB H R=>tl B H λx H1=>match x with
 | .ref a=>((∃xs,SqL K H1 a xs)/\R (Itl K a) H1)\/((∃xs,SqT K H1 a xs)/\R (Itt K a) H1)
 | .str z=>R (Its z) H1
 |_=>False
theorem Au(hl:PE X l tl):PI X tg l (OA X.K tl):=by
 intro pins s B H R I h;refine thn (hl pins s B H _ I h) λv s1 z9=>?_;obtain⟨x,H1,I1,r1,q1⟩:=z9;cases x with
 |ref a=>
  cases r1;rcases q1 with⟨⟨xs,hq⟩,q⟩|⟨⟨xs,hq⟩,q⟩
  ·obtain⟨its,rv,p,hz⟩:=I1.list hq;refine V4 p.isList ?_;refine{s1.heap.objs.size,[s1.heap.objs.size],_,_,H1,rfl,I1.kept (t':=s1.toks) λb o e=>Uz _ e,C6 a _,{_,UK _ rfl,rfl,rfl},λb hb=>?_,q};have e:b=s1.heap.objs.size:=by simpa using hb
   subst e;exact I1.Aw (Qf _) (I1.hok.fresh (Qf _))
  obtain⟨its,rv,p,hz⟩:=I1.tuple hq;refine wpAny_pyIter_tuple (show s1.heap.IsTuple a its.toArray from p) ?_;refine{s1.heap.objs.size,[s1.heap.objs.size],_,_,H1,rfl,I1.kept (t':=s1.toks) λb o e=>Uz _ e,Ax a _,{_,UK _ rfl,rfl,rfl},λb hb=>?_,q};have e:b=s1.heap.objs.size:=by simpa using hb
  subst e;exact I1.Aw (Qf _) (I1.hok.fresh (Qf _))
 |str z=>
  obtain⟨t,rfl⟩:=r1;refine wpAny_pyIter_strU ?_;refine{s1.heap.objs.size,[s1.heap.objs.size],_,_,H1,rfl,I1.kept (t':=s1.toks) λb o e=>Uz _ e,Fj (T:=strIterType z) ?_ _ z t,{Se _,_,UK _ rfl,rfl,rfl},λb hb=>?_,q1}
  ·unfold strIterType;split
   ·exact .inl rfl
   exact .inr rfl
  have e:b=s1.heap.objs.size:=by simpa using hb
  subst e;exact I1.Aw (Qf _) (I1.hok.fresh (Qf _))
 |_=>exact(show False from q1).elim
theorem K0(ha:PE X a ta)(he:∀whole,isTrue a X.env whole=(do let v<-whole;V3 a.pos;Vv [v] (truthy v))) :
  PT X a (λB H Q=>ta B H λx H'=>JC X.K x H' Q):=Fi ha he
theorem Ik(ha:PE X a ta):PE X (.UnaryOp .Not a pos) (λB H Q=>ta B H λx H1=>∃k,Mi X.K x H1 k/\Q (.bl (!k)) H1):=by
 intro pins s B H Q I h;refine UnaryOp_ (thn (ha pins s B H _ I h) λv s1 z9=>?_);obtain⟨x,H1,I1,r1,q1⟩:=z9;obtain⟨k,ht,q⟩:=q1;exact not_of (thn (Gg pins s1 B H1 x v (λb H2=>Q (.bl (!b)) H2) I1 r1 ⟨k,ht,q⟩) λb s2 ⟨H2,I2,q2⟩=>{.bl (!b),H2,I2,rfl,q2})
inductive Hx(K:Uw)(xs:List V)(H:Hp)(Q:VK):Prop
 |mk(x:V)(n:Nat)(h0:xs=[x])(h1:Nj K x H n)(q:Q (.int n) H):Hx K xs H Q
theorem Ot:dE X (.builtin "len") (Hx X.K):=λpins s B H xs us Q I r ⟨x,n,h0,h1,q⟩=>D4 pins s B H xs us Q I r ⟨x,n,h0,h1,q⟩
theorem A8:dE X (.type "list") (λxs H Q=>∃p ys,xs=[.ref p]/\(SqL X.K H p ys\/SqT X.K H p ys)/\∀l,H l=Zi->Q (.ref l) (upd H l (.lst ys))):=wV
theorem vx{bs:List Bool}{its:List Ut}(r:Zl (bs.map V.bl) its){i:Nat}{v:Ut}(h:its[i]?=Zh v):∃b,bs[i]?=Zh b/\v=.bool b:=by
 have hi:i<its.length:=(Qh.mp h).1;have hl:=r.length;rw[P8]at hl;have hb:bs[i]?=Zh bs[i]:=Qe (by lia);obtain⟨u,hu,ru⟩:=r.get (i:=i) (x:=V.bl bs[i]) (by rw[Qu,hb];rfl);rw[h]at hu;cases hu;exact{_,hb,ru}
theorem Ny(hc:X.calm=true:=by rfl):dE X (.builtin "all") (λxs H Q=>∃(p:Uu)(bs:List Bool),xs=[.ref p]/\SqL X.K H p (bs.map V.bl)/\Q (.bl (bs.all id)) H):=by
 intro pins s B H xs us Q I r h;obtain⟨p,bs,rfl,hq,q⟩:=h;obtain⟨u,rfl,rx⟩:=Zy r;cases rx;obtain⟨its,rv,pl,hz⟩:=I.list hq;have hl:=pl.isList;have hlt:p<s.heap.objs.size:=by obtain⟨_,e,_⟩:=hl;exact UG e
 have hlen:its.toArray.size=bs.length:=by have:=rv.length;rw[P8]at this;rw[Qk];lia
 refine call_all_walk (V4 hl ?_);refine⟨s.heap.objs.size,[s.heap.objs.size,p],[s.heap.objs.size],its.toArray.size,_,_,λi=>(bs[i]?).getD true,rfl,Walks.list (A:=X.A.in1) (I.ok.hd hc) _ p (Qy hlt) its.toArray,
  {{_,UK _ rfl,rfl,rfl},hl.push _},λi v s' Q' E' hP hQ=>?_,λh' tk hk=>?_⟩
 ·obtain⟨b,e,rfl⟩:=vx rv (by simpa using hP);simp only[e,Q5]at hQ;exact Vc hQ
 rw[hlen,LSm.range_all bs];exact{.bl _,H,I.kept (LSm.kept_iter hk),rfl,q}
theorem JX(hc:X.calm=true:=by rfl):dE X (.builtin "any") (λxs H Q=>∃(p:Uu)(bs:List Bool),xs=[.ref p]/\SqL X.K H p (bs.map V.bl)/\Q (.bl (bs.any id)) H):=by
 intro pins s B H xs us Q I r h;obtain⟨p,bs,rfl,hq,q⟩:=h;obtain⟨u,rfl,rx⟩:=Zy r;cases rx;obtain⟨its,rv,pl,hz⟩:=I.list hq;have hl:=pl.isList;have hlt:p<s.heap.objs.size:=by obtain⟨_,e,_⟩:=hl;exact UG e
 have hlen:its.toArray.size=bs.length:=by have:=rv.length;rw[P8]at this;rw[Qk];lia
 refine call_any_walk (V4 hl ?_);refine⟨s.heap.objs.size,[s.heap.objs.size,p],[s.heap.objs.size],its.toArray.size,_,_,λi=>(bs[i]?).getD false,rfl,Walks.list (A:=X.A.in1) (I.ok.hd hc) _ p (Qy hlt) its.toArray,
  {{_,UK _ rfl,rfl,rfl},hl.push _},λi v s' Q' E' hP hQ=>?_,λh' tk hk=>?_⟩
 ·obtain⟨b,e,rfl⟩:=vx rv (by simpa using hP);simp only[e,Q5]at hQ;exact Vc hQ
 rw[hlen,LSm.range_any bs];exact{.bl _,H,I.kept (LSm.kept_iter hk),rfl,q}
noncomputable def pv:V->Ut
 | .ty n=>.type n
 | .ref a=>.ref a
 |_=>.none
theorem zj(r:Zm y u)(h:pv y≠ .none):u=pv y:=by
 cases y with
 |ty n=>exact r
 |ref a=>exact r
 |_=>exact absurd rfl h
inductive KD(K:Uw)(xs:List V)(H:Hp)(Q:VK):Prop
 |mk(x y:V)(t:Ut)(b:Bool)(h0:xs=[x,y])(h1:pv y≠ .none)(h2:kN K H x t)(h3:Wh K t (pv y)=Zh b)(q:Q (.bl b) H):KD K xs H Q
theorem bB:dE X (.builtin "isinstance") (KD X.K):=by
 intro pins s B H xs us Q I r h;obtain⟨x,y,t,b,rfl,hy,ty,e,q⟩:=h;obtain⟨u,w',rfl,rx,ry⟩:=ZU r;rw[zj ry hy];exact C9 I rx ty e λtk=>{.bl b,H,I.tok _,rfl,q}
theorem z4(ho:PE X o to)(ha:PA X [e] t)(hbase:UR o "append" X.env (UO o X.env)=UO o X.env:=by rfl)
  (hfew:((UM cpos (Uv [e] X.env)).all (λx=>!x.1)&&(UW cpos (UN [] X.env)).all (λx=>x.1.isSome)
   &&decide ([e].length+([]:List U0).length+(if([]:List U0).isEmpty then 0 else 1)<30))=true:=by rfl)
  (hline:(apos.endLine==cpos.line)=true:=by rfl) (hs:Uv [e] X.env=(false,UO e X.env)::Uv [] X.env:=by rfl) (hplain:(UM cpos (Uv [] X.env)).any (·.1)=false:=by rfl) :
  PE X (.Call (.Attribute o "append" apos) [e] [] cpos) (tBM X.K "list" wK to t):=CF VH PySem.F.slot_list_append PySem.F.type_list_append vC ho ha hbase hfew hline hs hplain
end
def Has(P:Program)(w:UC)(K:Uw)(mg:Str->Option Ut)(base:UT)(k:Nat)(x:Str)(ps:List Str)(sp:Sp):Prop:=
 ∃f fd,gI P w K mg base CX0 k f fd ps sp/\Zu K fd ps []/\Vx K (.ref f)=true/\mg x=Zh (.ref f)/\∃oc od osl,K.lookup f=Zh ⟨oc,od,.func fd,osl⟩
structure bW(K:Uw)(mg:Str->Option Ut)(x:Str)(st:UP)(ps:List Str):Prop where
 ex:∃f fd,Fun K x x st f fd/\Zu K fd ps []/\mg x=Zh (.ref f)
theorem tJ(D:Has X.prog X.w X.K X.mg X.base j x ps sp)(hr:cV k X.A)(ha:PA X (e::es) t)(hj:j<=k:=by decide)(hg:Gl X x:=by rfl)
  (hdb:(x==("__debug__":Str))=false:=by decide) (he:Uv (e::es) X.env=(false,UO e X.env)::Uv es X.env:=by rfl) (hpl:(UM pos (Uv es X.env)).any (·.1)=false:=by rfl) :
  PE X (.Call (.Name x p) (e::es) [] pos) (Bs sp [] E0 t):=by
 obtain⟨f,fd,F,b,kp,m,_⟩:=D
 exact Ib F (hr.mono hj) hg m kp b .nil tI ha hdb he hpl
theorem bW.hs{P:Program}{w:UC}{K:Uw}{mg:Str->Option Ut}{base:UT}{x:Str}{st:UP}{N ps:List Str}{k:Nat}{sp:Sp}(F:bW K mg x st ps)(S:bc N ps (aL st))
  (hbody:∀(f:Uu)(cdv:Ut)(A:US)(outer:List Env)(s:Uy)(H:Hp)(vs:List V)(Q:VK)(E:XK),cV k (A.deeper (V0 x (aL st) s.heap.objs.size f cdv))->(A.deeper (V0 x (aL st) s.heap.objs.size f cdv)).units+64<Vy->sp vs H Q E->
   ∃t,PSs (tL CX0 P w K mg base N x (aL st) f cdv A outer s H E).nox (b9 st) t/\t { nx:=λ_ H'=>Q .non H',rt:=Q } (Zs N vs) H) (len:∀vs H Q E,sp vs H Q E->vs.length=ps.length:=by intro _ _ _ _ h;cases h;subst_vars;rfl):Has P w K mg base (k+1) x ps sp:=by
 obtain⟨f,fd,F,b,m⟩:=F.ex
 obtain⟨oc,od,kV,doc,pm,an,cdv,ct,osl,e,lk,hcd⟩:=F.ex
 exact{f,fd,F.ok S len λcdv A outer s H vs Q E hr h=>hbody f cdv A outer s H vs Q E hr hr.units h,b,F.kp,m,oc,od,osl,lk}
theorem br.upd(h:H p=Zi)(o:HO):br H (upd H p o):=λb u q=>by rw[bN (eV q h)];exact q
theorem br.tup{K:Uw}{H H':Hp}{a:Uu}{xs:List V}(e:br H H')(h:SqT K H a xs):SqT K H' a xs:=by
 rcases h with(h|⟨o,h⟩)|h
 ·exact .inl (.inl (e _ _ h))
 ·exact .inl (.inr {o,e _ _ h})
 exact .inr h
section
variable{X:Cx}
def Lf(K:Uw):V->Option Int->Option Int->Hp->VK->Prop:=λx lo hi H Q=>LM K x lo hi H Q\/K8 K x lo hi H Q
theorem L4:SlR X (Lf X.K):=HG.or Mv
end
theorem GK{K:Uw}{mg:Str->Option Ut}{h:UT}{x:Str}{st:UP}{ps:List Str}{f:Uu}{oc:Ut}{od an:Option Uu}{osl:Array (Option Ut)}{kV doc pm cdv ct:Ut}(X:K.In h)(G:h.Ns UD mg)
  (a:V2 K UD x=Zh (Zh (.ref f))) (l:K.lookup f=Zh {oc,od,.func (Vt x x (cI st) (b9 st) (aL st) .none kV doc pm an cdv ct),osl}) (c:WN K cdv x=true) (k:Vx K (.ref f)=true)
  (hb:∀(kV doc pm:Ut)(an:Option Uu)(cdv ct:Ut)(us:List Ut),us.length=ps.length->Xz (Vt x x (cI st) (b9 st) (aL st) .none kV doc pm an cdv ct) {us,[]}=pure (ps.zip us)):bW K mg x st ps:=
 {f,_,wu l c k,(wu l c k).binds hb,U7 X G a}
theorem KC{P:Program}{w:UC}{K:Uw}{mg:Str->Option Ut}{base:UT}{k:Nat}{x:Str}{ps:List Str}{sp:Sp}{f:Uu}{oc:Ut}{od:Option Uu}{osl:Array (Option Ut)}{fd:Vo}(D:Has P w K mg base k x ps sp)(m:mg x=Zh (.ref f))
  (l:K.lookup f=Zh ⟨oc,od,.func fd,osl⟩):gI P w K mg base CX0 k f fd ps sp:=by
 obtain⟨g,gd,F,b,kp,mg',_,_,_,l'⟩:=id D
 rw[m]at mg'
 cases mg'
 rw[l]at l'
 cases l'
 exact F
section
variable{X:Cx}
theorem Kr:SlR X O3:=by
 intro pins s B H x v vl vu lo hi sl Q I rx hs pl pu h;obtain⟨z,rfl,hz,q⟩:=h;obtain⟨t,rfl⟩:=rx;have fin:∀t' k,EP X pins B Q (.str (Txt.slice z lo hi) t') { s with toks:=k }:=λt' k=>⟨.str _,H,I.tok _,⟨_,rfl⟩,q⟩;have len:=Qi (Txt.slice_le z lo hi) hz;obtain⟨o,ho,hc,hd⟩:=hs;refine{"str",_,PySem.F.slot_str_getitem.lookup,WQ _ _ _,?_};cases pl with
 |none=>
  cases pu with
  |none=>exact VJ (l:=Vz) (u:=Vz) (st:=Vz) ⟨o,ho,hc,hd⟩ rfl (WD {len,λt' k=>fin t' k})
  |int j uj=>exact VJ (l:=Vz) (u:=Zh (j,uj)) (st:=Vz) ⟨o,ho,hc,hd⟩ rfl (WD {len,λt' k=>fin t' k})
 |int i ui=>
  cases pu with
  |none=>exact VJ (l:=Zh (i,ui)) (u:=Vz) (st:=Vz) ⟨o,ho,hc,hd⟩ rfl (WD {len,λt' k=>fin t' k})
  |int j uj=>exact VJ (l:=Zh (i,ui)) (u:=Zh (j,uj)) (st:=Vz) ⟨o,ho,hc,hd⟩ rfl (WD {len,λt' k=>fin t' k})
def fSl(K:Uw):V->Option Int->Option Int->Hp->VK->Prop:=λx lo hi H Q=>match x with
 | .str z=>z.length<=sizeLine/\Q (.str (Txt.slice z lo hi)) H
 |x=>LM K x lo hi H Q\/K8 K x lo hi H Q
theorem Mx:SlR X (fSl X.K):=by
 intro pins s B H x v vl vu lo hi sl Q I rx hs pl pu h;by_cases hx:∃z,x=.str z
 ·obtain⟨z,rfl⟩:=hx;exact Kr pins s B H _ v vl vu lo hi sl Q I rx hs pl pu ⟨z,rfl,h.1,h.2⟩
 refine L4 pins s B H x v vl vu lo hi sl Q I rx hs pl pu ?_;cases x<;>first|exact h|exact absurd {_,rfl} hx
theorem NO:dE X (.type "int") (λxs H Q=>∃x n,xs=[.str x]/\V7 x=Zh n/\x.length<=640/\Q (.int n) H):=by
 intro pins s B H xs us Q I r h;obtain⟨x,n,rfl,hn,hl,q⟩:=h;obtain⟨u,rfl,t,rfl⟩:=Zy r;exact W.KIN.call_text hn hl {.int n,H,I.tok _,{_,rfl},q}
theorem ID(h:∃t,X.mg x=Zh (.str z t))(hg:Gl X x:=by rfl)(hd:(x==("__debug__":Str))=false:=by decide):PE X (.Name x pos) (tC (.str z)):=by
 obtain⟨t,e⟩:=h;exact xI hg e ⟨t,rfl⟩ hd
theorem IY(h:∃t,X.mg x=Zh (.int z t))(hg:Gl X x:=by rfl)(hd:(x==("__debug__":Str))=false:=by decide):PE X (.Name x pos) (tC (.int z)):=by
 obtain⟨t,e⟩:=h;exact xI hg e ⟨t,rfl⟩ hd
end
noncomputable def inS(sg:Str)(c:Nat):Bool:=!(UL sg ⟨#[c]⟩ 0 sg.length 1).isEmpty
theorem Es(sg:Str)(c:Nat):inS sg c=decide (c∈sg.cps.toList):=PySem.StrLaws.found_one sg c
noncomputable abbrev LET:Str:="abcdefghijklmnopqrstuvwxyz"
noncomputable abbrev FIG:Str:="0123456789"
theorem rq(c:Nat):inS LET c=decide (97<=c/\c<=122):=by
 rw[Es];have e:LET.cps.toList=[97,98,99,100,101,102,103,104,105,106,107,108,109,110,111,112,113,114,115,116,117,118,119,120,121,122]:=by decide+kernel
 rw[e];apply decide_eq_decide.mpr;simp only[P7,P9,or_false];omega
theorem Ct(c:Nat):inS FIG c=decide (48<=c/\c<=57):=by
 rw[Es];have e:FIG.cps.toList=[48,49,50,51,52,53,54,55,56,57]:=by decide+kernel
 rw[e];apply decide_eq_decide.mpr;simp only[P7,P9,or_false];omega
theorem ZC(x:Str):x.cps.toList.length=x.length:=Rf
theorem EH{x y:Str}:x=y↔x.cps.toList=y.cps.toList:=by
 constructor
 ·intro h;rw[h]
 intro h;cases x;cases y;simp only[Array.toList_inj]at h;rw[h]
section
variable{X:Cx}{tg:Expr}
noncomputable def dP{α:Type}(xs:List α):List α:=(UJ ((xs.length+1)/2)).filterMap λm=>xs[m*2]?
theorem zY{α:Type}(xs:List α):(dP xs).length<=xs.length:=by
 unfold dP;refine Qi (RB _ _) ?_;rw[QP];lia
theorem Zl.dP(r:Zl xs us):Zl (dP xs) (dP us):=by
 have hl:=r.length;unfold L2.dP;rw[hl];have gen:∀l:List Nat,Zl (l.filterMap λm=>xs[m*2]?) (l.filterMap λm=>us[m*2]?):=by
  intro l;induction l with
  |nil=>exact .nil
  |cons m l ih=>
   rw[Qx,Qx];cases e:xs[m*2]? with
   |none=>rw[r.none_of e];exact ih
   |some x=>
    obtain⟨u,hu,ru⟩:=r.get e;rw[hu];exact .cons ru ih
 exact gen _
theorem Iy(n:Nat):UZ 0 (n:Int) 2=(n+1)/2:=by
 unfold UZ;have h1:(2:Int)>0:=by lia
 simp only[h1,if_true];split<;>lia
theorem Oz(xs:Array Ut):((UJ ((xs.size+1)/2)).filterMap λ(m:Nat)=>xs[((0:Int)+(m:Int)*2).toNat]?).toArray=(dP xs.toList).toArray:=by
 unfold dP;have e:(λ(m:Nat)=>xs[((0:Int)+(m:Int)*2).toNat]?)=λm=>xs.toList[m*2]?:=by
  funext m
  have:((0:Int)+(m:Int)*2).toNat=m*2:=by lia
  rw[this,Sh]
 rw[e,Rf]
theorem Ga{prog:Program}{w:UC}{E:Ut->Uy->Prop}{Q:Int×Int×Nat->Uy->Prop}(hs:s.heap.IsSliceOf sl .none .none (.int 2 t2))(h:Q (0,2,(n+1)/2) s) :
  wpAny (UI prog w) A (Vr (.ref sl) (pure (n:Int))) Q E s:=by
 obtain⟨os,hos,hcs,hds⟩:=id hs
 unfold Vr WU
 refine Ux (Ux (Ww hos hds (x:=.none) rfl (Ux (Ww hos hds (x:=.none) rfl (Ux (Ww hos hds (x:=.int 2 t2) rfl (UA ?_)))))))
 refine Ux (slicePart_int ?_)
 show wpAny _ _ (if((2:Int)==0)=true then _ else _) _ _ s
 rw[if_neg (by decide)]
 refine Ux (WO (Ux (WO (Ux (UA ?_)))))
 show wpAny _ _ (pure ((0:Int),(2:Int),UZ 0 (n:Int) 2)) _ _ s
 rw[Iy]
 exact UA h
theorem oK(ht:IsTup s.heap t items)(hs:s.heap.IsSliceOf sl .none .none (.int 2 t2))
  (h:Q (.ref s.heap.objs.size) { s with heap:=s.heap.push { cls:=.type "tuple",data:=.seq (dP items.toList).toArray } }) (hsz:items.size<=sizeLine):wpAny (UI prog w) A (Ws (.ref t) (.ref sl)) Q E s:=by
 have htake:sizeOk (.seq (dP items.toList).toArray):=by
  show(dP items.toList).toArray.size<=sizeLine;rw[Qk];exact Qi (zY _) (by rw[Rf];exact hsz)
 obtain⟨os,hos,hcs,hds⟩:=id hs
 have hTs:s.TypeIs (.ref sl) "slice":=⟨os,hos,hcs⟩
 unfold Ws
 try with_reducible refine wpAny_holding ?_
 first|refine Ux (UA ?_)|skip
 refine Ux (Ye ht.typeIs (by decide) ?_)
 refine Ux (Xa (name:=UU "__getitem__") ht.typeIs Vf
  (Yw Vf ht.typeIs XJ ?_ (XU _ _)))
 show wpAny _ _ (V6 (.ref t)>>=_) _ _ s
 refine Ux (tupleItemsOf_ ht ?_)
 refine Ux (wpAny_typeOf hTs ?_)
 rw[if_pos (by decide)]
 refine Ux (Ga hs ?_)
 show wpAny _ _ (if((0:Int)==0&&(2:Int)==1&&((items.size+1)/2)==items.size)=true then _ else _) _ _ s
 rw[if_neg (by simp),Oz]
 first
  |exact Ux (m:=UY _) (U9 (UA {_,rfl,UA h}) htake)
  |exact Ux (m:=UY _) (U9 (Ux (UA (UA {_,rfl,UA h}))) htake)
  |exact Ux (Ux (m:=UY _) (U9 (UA (UA {_,rfl,UA h})) htake))
  |exact Ux (Ux (m:=UY _) (U9 (UA {_,rfl,UA h}) htake))
def LB(K:Uw)(te:TE):TE:=λB H Q=>te B H λx H1=>∃a xs,x=.ref a/\SqT K H1 a xs/\∀p,H1 p=Zi->Q (.ref p) (upd H1 p (.tup (dP xs)))
theorem EZ(he:PE X e te):PE X (.Subscript e (.Slice Zi Zi (Zh (.Constant (.int 2) j p3)) p2) pos) (LB X.K te):=by
 intro pins s B H Q I h;refine XW (thn (he pins s B H _ I h) λv s1 z9=>?_);obtain⟨x,H1,I1,r1,a,xs,ex,hx,q⟩:=z9;subst ex;cases r1;refine wpAny_Slice ?_;rw[XO];refine UA ?_;refine UA ?_;rw[evalPart_some];refine XS ?_;obtain⟨its,r,ht,hz⟩:=I1.tuple hx;have hlen:its.toArray.size=xs.length:=by rw[Qk];exact r.length.symm
 have I4:Inv X pins B H1 { s1 with heap:=s1.heap.push { cls:=.type "slice",data:=.fields #[.none,.none,.int 2 s1.toks] },toks:=s1.toks+1 }:=I1.kept λb ob q=>Uz _ q;have ht4:IsTup (s1.heap.push { cls:=.type "slice",data:=.fields #[.none,.none,.int 2 s1.toks] }) a its.toArray:=by
  obtain⟨o,e,r⟩:=ht;exact{o,Uz _ e,r}
 refine tail_any (ops:=[.ref a,.ref s1.heap.objs.size]) (s:={ s1 with heap:=s1.heap.push { cls:=.type "slice",data:=.fields #[.none,.none,.int 2 s1.toks] },toks:=s1.toks+1 }) ht4.typeIs PyProof.Rows.slot_tuple_getitem.lookup (oK ht4 (XX ..) ?_ (by rw[hlen];exact hz)) (by with_unfolding_all rfl);refine{.ref _,_,I4.laid (t':=s1.toks+1) (o:=.tup (dP xs)) (λb ob q=>Uz _ q) (Qf _) ?_,rfl,q _ (I4.hok.fresh (Qf _))};exact{Qi (zY xs) hz,_,r.dP,Zd _ _}
theorem sQ:∀{ys:List Str}{us:List Ut},Zl (ys.map V.str) us->StrsAre us ys
 | [],_,r=>by cases r;exact .nil
 |y::ys,_,r=>by
  cases r with
  |cons r1 r2=>
   obtain⟨t,e⟩:=r1;subst e;exact .cons y t (sQ r2)
theorem Iq:MtR X "str.join" (λx xs H Q=>∃(sep:Str)(p:Uu)(ys:List Str),x=.str sep/\xs=[.ref p]/\SqL X.K H p (ys.map V.str)/\(ys.map (·.length)).sum+ys.length*sep.length<=16777216/\Q (.str (Txt.join sep ys)) H):=by
 intro pins s B H x xs v us Q I rx rs h;obtain⟨sep,p,ys,rfl,rfl,hq,hz,q⟩:=h;obtain⟨t,rfl⟩:=rx;obtain⟨u,rfl,ru⟩:=rs.one;cases ru;obtain⟨its,rv,pl,_⟩:=I.list hq;exact join_list pl.isList (sQ rv) hz λt' k=>{.str _,H,I.tok _,{_,rfl},q}
theorem DN:dE X (.type "str") (λxs H Q=>(∃i,xs=[.int i]/\i.natAbs.log2<1920/\Q (.str (toString i)) H)\/∃x,xs=[.str x]/\Q (.str x) H):=by
 intro pins s B H xs us Q I r h;rcases h with h|⟨x,rfl,q⟩
 ·exact xO pins s B H xs us Q I r h
 obtain⟨u,rfl,t,rfl⟩:=Zy r;exact PySem.P.str_of_str {.str x,H,I,{_,rfl},q}
theorem Cw:∀{cs:List V}{us:List Ut},Zl cs us->(∀c∈cs,pv c≠ .none)->us=cs.map pv
 | [],_,r,_=>by cases r;rfl
 |c::cs,_,r,h=>by
  cases r with
  |cons r1 r2=>
   rw[Qc,Cw r2 λd hd=>h d (Qa _ hd),zj r1 (h c Qb)]
theorem AF(h:zt u=Zh x):Zm x u:=by
 cases u with
 |none=>cases h;rfl
 |bool b=>cases h;rfl
 |int i t=>cases h;exact⟨t,rfl⟩
 |str y t=>cases h;exact⟨t,rfl⟩
 |bytes y t=>cases h;exact⟨t,rfl⟩
 |float y t=>cases h;exact⟨t,rfl⟩
 |ref a=>cases h;rfl
 |type n=>cases h;rfl
 |_=>cases h
theorem qD:∀{xs:List V}{us:List Ut},us.map zt=xs.map Zh->Zl xs us
 | [],[],_=>.nil
 | [],_::_,h=>by cases h
 |_::_,[],h=>by cases h
 |x::xs,u::us,h=>by
  rw[Qc,Qc]at h;exact .cons (AF (Wt h).1) (qD (Wt h).2)
theorem rC{K:Uw}{a:Uu}{o:Obj}{its:Array Ut}{n:Nat}{xs:List V}(h:K.lookup a=Zh o)(hc:o.cls=.type "tuple")(hd:o.data=.seq its n)(hz:its.size<=sizeLine)(hv:its.toList.map zt=xs.map Zh)(H:Hp):SqT K H a xs:=
 .inr ⟨o,its,n,h,hc,hd,hz,qD hv⟩
theorem og(h:X.mg x=Zh (.ref a))(hg:Gl X x:=by rfl)(hd:(x==("__debug__":Str))=false:=by decide):PE X (.Name x pos) (tC (.ref a)):=xI hg h rfl hd
end
end L2
set_option maxHeartbeats 4000000
namespace L2
open PySem PySem.Spec PyProof.Rows
open PySem.W (Looks InstAt looks_findIn looks_mroIn looks_clsIn looks_find)
noncomputable abbrev VEs:List Ut:=[.type "ValueError",.type "Exception",.type "BaseException",.type "object"]
def Oi:List Ut->Bool
 | []=>false
 |v::r=>(v::r)==VEs||(match v with| .ref _=>Oi r|_=>false)
structure XCl(K:Uw)(C:Uu):Prop where
 ex:∃(nm q:Str)(N:Uu)(bs bm:List Ut)(sn:List Str)(sub:List Ut)(ab:Bool)(col:Option Bool)(dd:Option Uu)(k0 k1 k2 k3 k5:Option Ut),
  K.lookup C=Zh (excClassObj nm q C N bs bm true sn sub ab col dd k0 k1 k2 k3 k5 "ValueError.__new__")/\Oi bm=true/\∀h:UT,K.In h->OwnTail h VEs bm
 ga:U3 K (.ref C) "__getattribute__"=Zh (Zh (.builtin "BaseException.__getattribute__"))
 gh:U3 K (.ref C) "__getattr__"=Zh Zi
 sa:U3 K (.ref C) "__setattr__"=Zh (Zh (.builtin "object.__setattr__"))
 cl:U3 K (.ref C) "__class__"=Zh (Zh (.builtin "object.__class__"))
 cg:VM K (.builtin "object.__class__") "__get__"=Zh (Zh (.builtin "getset_descriptor.__get__"))
 ct:W9 K (.builtin "object.__class__")=Zh true
 kp:Vx K (.ref C)=true
structure XMk(K:Uw)(C f:Uu):Prop where
 cl:XCl K C
 init:U3 K (.ref C) "__init__"=Zh (Zh (.ref f))
 fn:YS K (.ref f)=true
structure TB where
 pins:List (Uu×Obj)
 xe:Ut->Uy->Prop
section
variable{X:Cx}
structure InitFn(K:Uw)(mg:Str->Option Ut)(C:Uu)(x qual:Str)(st:UP)(ps:List Str):Prop where
 ex:∃f fd,XMk K C f/\Fun K "__init__" qual st f fd/\Zu K fd ps []/\mg x=Zh (.ref C)
theorem C4{β:Type}{M:Ze}{A:US}{E:Ut->Uy->Prop}{s:Uy}{f:Nat->β->Sem (ForInStep β)}{b:β}{j n:Nat}{Q:β->Uy->Prop}(hj:j<n)
  (no:∀i,i<j->∀(R:ForInStep β->Uy->Prop),R (.yield b) s->wpAny M A (f i b) R E s) (yes:wpAny M A (f j b) (λr s'=>∃c,r=.done c/\Q c s') E s) :
  ∀(k i:Nat),j-i=k->i<=j->wpAny M A (forIn (RU i (n-i)) b f) Q E s:=by
 intro k
 induction k with
 |zero=>
  intro i hk hi
  have:i=j:=by lia
  subst this
  rw[show n-i=(n-i-1)+1 by lia,RL,Sj]
  refine Ux (U8 yes (λr s' z=>?_) λ_ _ z=>z)
  obtain⟨c,rfl,q⟩:=z
  exact UA q
 |succ k ih=>
  intro i hk hi
  rw[show n-i=(n-(i+1))+1 by lia,RL,Sj]
  exact Ux (no i (by lia) _ (ih (i+1) (by lia) (by lia)))
theorem yq{tp:Uu}{o:Obj}{items:Array Ut}{n:Nat}{x:Ut}{e:Ut->Bool}{j:Nat}(hj:j<items.size)
  (hit:e items[j]=true) (hno:∀m (hm:m<items.size),m<j->e items[m]=false) :
  Meets (XE.«tuple.index» {[.ref tp,x],[]})
   (λA R s=>s.heap.get? tp=Zh o/\o.cls=.type "tuple"/\o.data=.seq items n/\(∀y,y∈items->YX A.in1 s y x (e y))/\R (.ok (.ret (.int j s.toks))) { s with toks:=s.toks+1 }):=by
 intro prog w A R s h
 obtain⟨hp,g,d,tk,os⟩:=s
 obtain⟨hl,hc,hd,he,h⟩:=h
 obtain⟨oc,od,oda,osl⟩:=o
 dsimp only at hc hd
 subst hc hd
 have sz:[0:min items.size items.size].size=items.size-0:=by simp[Std.Legacy.Range.size]
 have e1:selfAndSome "tuple.index" "index" 1 3 { pos:=[UB tp,x] }=pure (UB tp,[x]):=rfl
 unfold XE.«tuple.index»
 simp only[Std.Legacy.Range.forIn_eq_forIn_range',e1]
 refine Ux (UA (Ux ?_))
 unfold V6
 have q:∀(QQ:Option (Array Ut)->Uy->Prop)(EE:Ut->Uy->Prop),QQ (Zh items) ⟨hp,g,d,tk,os⟩->wpAny (UI prog w) A.in1 (seqItems? (.ref tp)) QQ EE ⟨hp,g,d,tk,os⟩:=λQQ EE z=>by
  wp_walk using PySem.AutoSeq1.wpAny_loadPart' hl
  exact z
 refine Ux (q _ _ (UA ?_))
 refine Ux (UA (Ux (UA (Ux ?_))))
 rw[sz]
 refine C4 hj (λi hi R hR=>?_) ?_ (j-0) 0 rfl (Se _)
 ·have hlt:i<items.size:=by lia
  rw[WV hlt];refine Ux (he _ (Yi hlt) prog w _ _ ?_);rw[hno i hlt hi,if_neg Qn];exact UA hR
 skip
 rw[WV hj]
 refine Ux (he _ (Yi hj) prog w _ _ ?_)
 rw[hit,if_pos rfl]
 refine Ux ?_
 unfold retInt
 wp_walk
 exact{_,rfl,UA h}
def Gd(K:Uw):V->List V->Hp->VK->Prop:=λx vs H Q=>∃p xs y j,x=.ref p/\vs=[y]/\SqT K H p xs/\fB y=true/\xs.all fB=true/\xs.findIdx? (λa=>eqV a y)=Zh j/\Q (.int (j:Nat)) H
theorem CN:MtR X "tuple.index" (Gd X.K):=by
 rintro pins s B H x xs v us Q I rx r ⟨p,ys,y,j,rfl,rfl,hq,fy,fs,hj,q⟩;obtain rfl:v=UB p:=rx;obtain⟨u,rfl,ru⟩:=Zl.one r;obtain⟨its,rv,⟨o,e,hc,n,hd⟩,hz⟩:=I.tuple hq;have hl:=rv.length;obtain⟨lt,hit,hno⟩:=List.findIdx?_eq_some_iff_getElem.mp hj;have at_:∀(i:Nat)(hi:i<its.toArray.size)(hi2:i<ys.length),eqU y its.toArray[i]=eqV ys[i] y:=λi hi hi2=>by
  obtain⟨w,h1,h2⟩:=rv.get (Qe hi2);have:its.toArray[i]=w:=by
   have:its[i]?=Zh its[i]:=Qe (by simpa using hi);rw[this]at h1;simpa using UE h1
  rw[this];exact wA h2 (QM.mp fs _ (Ri hi2))
 have lt2:j<its.toArray.size:=by simp;lia
 refine Wd W4 ⟨o,e,hc⟩ PySem.F.entry_tuple_index (PySem.F.args_tuple_index_2 _ _) (yq (tp:=p) (o:=o) (n:=n) (x:=u) (e:=eqU y) lt2 (by rw[at_ j lt2 lt];exact hit) (λm hm h2=>by rw[at_ m hm (by lia)];simpa using hno m h2)) {e,hc,hd,λw hw=>gC ru fy rv fs w (by simpa using hw),?_};exact{.int j,H,I.tok _,{_,rfl},q}
theorem Ih(ho:PE X o to)(ha:PA X [e] t)(hbase:UR o "index" X.env (UO o X.env)=UO o X.env:=by rfl)
  (hfew:((UM cpos (Uv [e] X.env)).all (λx=>!x.1)&&(UW cpos (UN [] X.env)).all (λx=>x.1.isSome)
   &&decide ([e].length+([]:List U0).length+(if([]:List U0).isEmpty then 0 else 1)<30))=true:=by rfl)
  (hline:(apos.endLine==cpos.line)=true:=by rfl) (hs:Uv [e] X.env=(false,UO e X.env)::Uv [] X.env:=by rfl) (hplain:(UM cpos (Uv [] X.env)).any (·.1)=false:=by rfl) :
  PE X (.Call (.Attribute o "index" apos) [e] [] cpos) (tBM X.K "tuple" (Gd X.K) to t):=
 CF PySem.F.plainAttrs_tuple W4 PySem.F.type_tuple_index CN ho ha hbase hfew hline hs hplain
end
end L2
namespace L2
open PySem PySem.Spec PyProof.Rows
section
variable{P:Program}{w:UC}{K:Uw}{mg:Str->Option Ut}{base:UT}
structure MFn(K:Uw)(C:Uu)(m qual:Str)(st:UP)(ps:List Str):Prop where
 ex:∃f fd,Fun K m qual st f fd/\Zu K fd ps []/\ZT K C m f
def cH(P:Program)(w:UC)(K:Uw)(mg:Str->Option Ut)(base:UT)(k:Nat)(C:Uu)(m:Str)(ps:List Str)(sp:Sp):Prop:=
 ∃f fd,gI P w K mg base CX0 k f fd ps sp/\Zu K fd ps []/\ZT K C m f
theorem MFn.hs{C:Uu}{m qual:Str}{st:UP}{N ps:List Str}{k:Nat}{sp:Sp}(F:MFn K C m qual st ps)(S:bc N ps (aL st))
  (hbody:∀(f:Uu)(cdv:Ut)(A:US)(outer:List Env)(s:Uy)(H:Hp)(vs:List V)(Q:VK)(E:XK),cV k (A.deeper (V0 qual (aL st) s.heap.objs.size f cdv))->(A.deeper (V0 qual (aL st) s.heap.objs.size f cdv)).units+64<Vy->sp vs H Q E->
   ∃t,PSs (tL CX0 P w K mg base N qual (aL st) f cdv A outer s H E).nox (b9 st) t/\t { nx:=λ_ H'=>Q .non H',rt:=Q } (Zs N vs) H) (len:∀vs H Q E,sp vs H Q E->vs.length=ps.length:=by intro _ _ _ _ h;cases h;subst_vars;rfl):cH P w K mg base (k+1) C m ps sp:=by
 obtain⟨f,fd,F,b,m⟩:=F.ex
 exact{f,fd,F.ok S len λcdv A outer s H vs Q E hr h=>hbody f cdv A outer s H vs Q E hr hr.units h,b,m}
theorem cH.imp(D:cH P w K mg base k C m ps sp)(h:∀vs H Q E,sp' vs H Q E->sp vs H Q E):cH P w K mg base k C m ps sp':=by
 obtain⟨f,fd,F,b,m⟩:=D;exact⟨f,fd,F.imp h,b,m⟩
theorem Has.imp(D:Has P w K mg base k x ps sp)(h:∀vs H Q E,sp' vs H Q E->sp vs H Q E):Has P w K mg base k x ps sp':=by
 obtain⟨f,fd,F,b⟩:=D;exact⟨f,fd,F.imp h,b⟩
theorem Has.mono(D:Has P w K mg base j x ps sp)(h:j<=k):Has P w K mg base k x ps sp:=by
 obtain⟨f,fd,F,b⟩:=D;exact⟨f,fd,F.mono h,b⟩
structure dU(K:Uw)(mg:Str->Option Ut)(C:Uu)(x:Str)(up:List Uu):Prop where
 mg:mg x=Zh (.ref C)
 cl:Cls K C
 mro:∃cd,W.clsIn K C=Zh cd/\cd.mro=up.map UB++[Wc "object"]
 ty:W.typeIn K (.ref C)=Zh (.type "type")
 kc:U3 K (.ref C) "__class__"=Zh (Zh (.builtin "object.__class__"))
 cg:VM K (.builtin "object.__class__") "__get__"=Zh (Zh (.builtin "getset_descriptor.__get__"))
 ct:W9 K (.builtin "object.__class__")=Zh true
 mks:Yu K C=true
 kp:Vx K (.ref C)=true
variable{C D:Uu}{x y:Str}{up vp:List Uu}
theorem dU.sub(O:dU K mg C x up)(b:Ut):YM K C b=Zh ((up.map UB++[Wc "object"]).contains b):=by
 obtain⟨cd,h1,h2⟩:=O.mro;unfold YM;rw[h1];show(if cd.mro.isEmpty=true then Zi else Zh (cd.mro.contains b))=_;rw[h2,if_neg (by cases up<;>simp)]
theorem uz(up:List Uu)(D:Uu):(up.map UB++[Wc "object"]).contains (UB D)=decide (D∈up):=by
 induction up with
 |nil=>rfl
 |cons a r ih=>
  show((UB D==UB a)||(r.map UB++[Wc "object"]).contains (UB D))=_;rw[ih];by_cases h:D=a
  ·subst h;simp
  have:(UB D==UB a)=false:=by
   rw[Sr];intro z;exact h (Value.ref.inj (beq_iff_eq.mp z))
  rw[this,Bool.false_or];simp[h]
theorem dU.kit(O:dU K mg C x up)(U0z:dU K mg D y vp)(hs:C∈up):Wh K (.ref C) (.ref D)=Zh (decide (D∈up)):=by
 unfold Wh;split
 ·rename_i q;have:C=D:=Value.ref.inj (beq_iff_eq.mp q);rw[<-this,decide_eq_true hs]
 obtain⟨cd,h1,_⟩:=U0z.mro;unfold W.kitCls;dsimp only;rw[h1,U0z.ty];rw[if_pos (by rfl)];show YM K C (.ref D)=_;rw[O.sub,uz]
end
section
variable{X:Cx}{k j:Nat}{C:Uu}{x m:Str}{ps:List Str}{sp:Sp}{o e:Expr}{es:List Expr}{ta:TE}{t:TA}{p apos pos:Pos}{up:List Uu}
theorem zH(O:dU X.K X.mg C x up)(D:cH X.prog X.w X.K X.mg X.base j C "__init__" ps sp)(hr:cV k X.A)(ha:PA X (e::es) t)(hj:j+1<=k:=by decide)(hg:Gl X x:=by rfl)(hdb:(x==("__debug__":Str))=false:=by decide)
  (he:Uv (e::es) X.env=(false,UO e X.env)::Uv es X.env:=by rfl) (hpl:(UM pos (Uv es X.env)).any (·.1)=false:=by rfl):PE X (.Call (.Name x p) (e::es) [] pos) (vq C sp [] E0 t):=by
 obtain⟨f,fd,F,b,m⟩:=D
 exact Jp ⟨O.mks,m.at_,m.fn,O.kp⟩ F (hr.mono hj) hg O.mg b .nil tI ha hdb he hpl
theorem C0(O:dU X.K X.mg C x up)(D:cH X.prog X.w X.K X.mg X.base j C "__init__" ps sp)(hr:cV k X.A)(hj:j+1<=k:=by decide)(hg:Gl X x:=by rfl)(hdb:(x==("__debug__":Str))=false:=by decide):PE X (.Call (.Name x p) [] [] pos) (vq C sp [] E0 Dn):=by
 obtain⟨f,fd,F,b,m⟩:=D;exact Gi ⟨O.mks,m.at_,m.fn,O.kp⟩ F (hr.mono hj) hg O.mg b .nil tI hdb
theorem D9(he:PE X o ta)(c:Cls X.K C)(D:cH X.prog X.w X.K X.mg X.base j C m ps sp)(hr:cV k X.A)(ha:PA X (e::es) t)(hj:j<=k:=by decide)
  (hst:Uv (e::es) X.env=(false,UO e X.env)::Uv es X.env:=by rfl) (hpl:(UM pos (Uv es X.env)).any (·.1)=false:=by rfl)
  (ht:UO (.Call (.Attribute o m apos) (e::es) [] pos) X.env=(do
   let ov<-UO o X.env
   V3 apos.atName
   let (f,first)<-Vv [ov] (VW ov m pl)
   callWith pos f first (UM pos (Uv (e::es) X.env)) (UW pos (UN [] X.env))):=by rfl) :
  PE X (.Call (.Attribute o m apos) (e::es) [] pos) (BS C m sp [] E0 ta t):=by
 obtain⟨f,fd,F,b,hm⟩:=D
 exact Hi (pl:=pl) he c hm F (hr.mono hj) b .nil tI ha hst hpl ht
theorem Di(he:PE X o ta)(c:Cls X.K C)(D:cH X.prog X.w X.K X.mg X.base j C m ps sp)(hr:cV k X.A)(hj:j<=k:=by decide)
  (ht:UO (.Call (.Attribute o m apos) [] [] pos) X.env=(do
   let ov<-UO o X.env
   V3 apos.atName
   let (f,first)<-Vv [ov] (VW ov m pl)
   callWith pos f first (UM pos (Uv [] X.env)) (UW pos (UN [] X.env))):=by rfl) :
  PE X (.Call (.Attribute o m apos) [] [] pos) (BS C m sp [] E0 ta Dn):=by
 obtain⟨f,fd,F,b,hm⟩:=D
 exact ED (pl:=pl) he c hm F (hr.mono hj) b .nil tI ht
structure OfC(K:Uw)(C:Uu)(m:Str):Prop where
 ga:VM K (.ref C) "__getattribute__"=Zh (Zh (.builtin "type.__getattribute__"))
 rd:W.readsIn K C (.type "type")=true
 fc:∃f,U3 K (.ref C) m=Zh (Zh (.ref f))/\W.findCls K (.ref C) (.type "type") m=Zh (.val (.ref f))
theorem De(O:dU X.K X.mg C x up)(W:OfC X.K C m)(D:cH X.prog X.w X.K X.mg X.base j C m ps sp)(hr:cV k X.A)(ha:PA X (e::es) t)(hj:j<=k:=by decide)(hg:Gl X x:=by rfl)(hdb:(x==("__debug__":Str))=false:=by decide)
  (hst:Uv (e::es) X.env=(false,UO e X.env)::Uv es X.env:=by rfl) (hpl:(UM pos (Uv es X.env)).any (·.1)=false:=by rfl)
  (ht:UO (.Call (.Attribute (.Name x p) m apos) (e::es) [] pos) X.env=(do
   let ov<-UO (.Name x p) X.env
   V3 apos.atName
   let (f,first)<-Vv [ov] (VW ov m pl)
   callWith pos f first (UM pos (Uv (e::es) X.env)) (UW pos (UN [] X.env))):=by rfl) :
  PE X (.Call (.Attribute (.Name x p) m apos) (e::es) [] pos) (Bs sp [] E0 t):=by
 obtain⟨f,fd,F,b,hm⟩:=D
 intro pins s B H Q I h
 refine PySem.W.methodCall_KW (pl:=pl) (oQ I hg O.mg ?_ hdb) ht
 obtain⟨f',h1,h2⟩:=W.fc
 have ef:f=f':=by
  have:=hm.at_.symm.trans h1;cases this;rfl
 subst ef
 refine PySem.W.method_cls I.kIn W.ga (PySem.W.cls_value I.kIn W.rd h2 rfl ?_)
 refine PySem.W.callWith_K (h₀:=X.base) I.ok.mod.kin hm.kp (thn (ha pos pins _ B H _ (I.tok _) h) λus s2 ⟨vs,H2,I2,r,q2⟩=>{I2.kIn,?_}) hst hpl
 exact sf (us:=us) (vs:=vs) F (hr.mono hj) b .nil tI I2 r q2
end
theorem KR{K:Uw}{C:Uu}{m qual:Str}{st:UP}{ps:List Str}{f:Uu}{oc:Ut}{od an:Option Uu}{osl:Array (Option Ut)}{kV doc pm cdv ct:Ut}
  (a:U3 K (.ref C) m=Zh (Zh (.ref f))) (fn:YS K (.ref f)=true) (l:K.lookup f=Zh {oc,od,.func (Vt m qual (cI st) (b9 st) (aL st) .none kV doc pm an cdv ct),osl}) (c:WN K cdv qual=true) (k:Vx K (.ref f)=true)
  (hb:∀(kV doc pm:Ut)(an:Option Uu)(cdv ct:Ut)(us:List Ut),us.length=ps.length->Xz (Vt m qual (cI st) (b9 st) (aL st) .none kV doc pm an cdv ct) {us,[]}=pure (ps.zip us)):MFn K C m qual st ps:=
 {f,_,wu l c k,(wu l c k).binds hb,⟨a,fn,k⟩}
end L2
namespace L2
open PySem
end L2
namespace L2
open PySem PySem.Spec PyProof.Rows
section
variable{X:Cx}
theorem MB:dE X (.type "int") (λxs H Q=>∃b,xs=[.bl b]/\Q (.int (if b=true then 1 else 0)) H):=by
 intro pins s B H xs us Q I r h;obtain⟨b,rfl,q⟩:=h;obtain⟨u,rfl,rfl⟩:=Zy r;exact PySem.call_int_bool {.int _,H,I.tok _,{_,rfl},q}
end
section
variable{κ:Type}[DecidableEq κ]
noncomputable def nA(kvs:List (κ×V))(k:κ):Option V:=(kvs.find? λkv=>decide (kv.1=k)).map (·.2)
noncomputable def Zz(kvs:List (κ×V))(k:κ)(v:V):List (κ×V):=
 if(kvs.any λkv=>decide (kv.1=k))=true then kvs.map (λkv=>if kv.1=k then(kv.1,v)else kv)else kvs++[(k,v)]
theorem sS{p:κ×V}{r:List (κ×V)}{k:κ}(e:p.1=k):nA (p::r) k=Zh p.2:=by simp[nA,Q9,e]
theorem sj{p:κ×V}{r:List (κ×V)}{k:κ}(e:¬ p.1=k):nA (p::r) k=nA r k:=by simp[nA,Q9,e]
theorem zE(k:κ):∀kvs:List (κ×V),(kvs.any λkv=>decide (kv.1=k))=(nA kvs k).isSome
 | []=>rfl
 |p::r=>by
  rw[RQ];by_cases e:p.1=k
  ·simp only[sS e,decide_eq_true e,Bool.true_or,XY]
  rw[sj e,decide_eq_false e,Bool.false_or];exact zE k r
theorem lA(kvs:List (κ×V))(k:κ)(v:V):(Zz kvs k v).length<=kvs.length+1:=by
 unfold Zz;split
 ·rw[P8];lia
 rw[Qj,Qd,Sy];lia
theorem j4.iQ(r:j4 o u):o.isSome=u.isSome:=by
 cases o with
 |none=>cases u with
  |none=>rfl
  |some _=>exact(show False from r).elim
 |some _=>cases u with
  |none=>exact(show False from r).elim
  |some _=>rfl
theorem j4.getD(r:j4 o u)(rd:Zm d d'):Zm (o.getD d) (u.getD d'):=by
 cases o with
 |none=>cases u with
  |none=>exact rd
  |some _=>exact(show False from r).elim
 |some _=>cases u with
  |none=>exact(show False from r).elim
  |some _=>exact r
theorem KV.val(r:KV kvs vs)(k:κ):j4 (nA kvs k) (valueAt vs k):=by
 unfold KV at r;induction r with
 |nil=>exact QL
 |@cons p q ps qs h t ih=>
  obtain⟨h1,h2⟩:=h;by_cases e:p.1=k
  ·have e':q.1=k:=h1.symm.trans e;have b:valueAt (q::qs) k=Zh q.2:=by simp[valueAt,Q9,e']
   rw[sS e,b];exact h2
  have e':¬ q.1=k:=λz=>e (h1.trans z);have b:valueAt (q::qs) k=valueAt qs k:=by simp[valueAt,Q9,e']
  rw[sj e,b];exact ih
theorem KV.any(r:KV kvs vs)(k:κ):(kvs.any λkv=>decide (kv.1=k))=vs.any λkv=>decide (kv.1=k):=by
 unfold KV at r;induction r with
 |nil=>rfl
 |cons h t ih=>rw[RQ,RQ,ih,h.1]
theorem KV.Lj(r:KV kvs vs)(k:κ)(ry:Zm y u) :
  KV (kvs.map λkv=>if kv.1=k then(kv.1,y)else kv) (vs.map λkv=>if kv.1=k then(kv.1,u)else kv):=by
 unfold KV at r⊢
 induction r with
 |nil=>exact .nil
 |@cons p q ps qs h t ih=>
  rw[Qc,Qc]
  refine .cons ?_ ih
  obtain⟨h1,h2⟩:=h
  by_cases e:p.1=k
  ·rw[if_pos e,if_pos (h1.symm.trans e)];exact⟨h1,ry⟩
  rw[if_neg e,if_neg (λz=>e (h1.trans z))];exact⟨h1,h2⟩
theorem KV.put(r:KV kvs vs)(k:κ)(ry:Zm y u):KV (Zz kvs k y) (stored vs k u):=by
 unfold Zz stored;rw[r.any k];by_cases e:(vs.any λkv=>decide (kv.1=k))=true
 ·rw[if_pos e,if_pos e];exact r.Lj k ry
 rw[if_neg e,if_neg e];exact Paired.snoc r ⟨rfl,ry⟩
theorem KV.length(r:KV kvs vs):kvs.length=vs.length:=W0 r
end
theorem oj(r:Zm (kV k) u):(cz P w).is k u=true:=by
 cases k with
 |inl i=>obtain⟨t,e⟩:=(show ∃t,u=W7 i t from r);subst e;exact zX P w i t
 |inr x=>obtain⟨t,e⟩:=(show ∃t,u=Wm x t from r);subst e;exact lC P w x t
theorem vf:∀{ks:List Key}{us:List Ut},Zl (ks.map kV) us->ItemsAre (cz P w) ks us
 | [],_,r=>by rw[QR]at r;cases r;exact .nil
 |k::ks,_,r=>by
  rw[Qc]at r;cases r with
  |cons h t=>exact .cons (oj h) (vf t)
abbrev KT(H:Hp):List (List Key×V)->List (List Key×Uu×Ut)->Prop:=Paired λp q=>p.1=q.1/\H q.2.1=Zh (.tup (p.1.map kV))/\Zm p.2 q.2.2
theorem KT.val(r:KT H kvs xs)(k:List Key):j4 (nA kvs k) ((YE xs k).map (·.2)):=by
 induction r with
 |nil=>exact QL
 |@cons p q ps qs h t ih=>
  obtain⟨h1,_,h2⟩:=h;by_cases e:p.1=k
  ·have e':q.1=k:=h1.symm.trans e;have b:YE (q::qs) k=Zh q.2:=by simp[YE,Q9,e']
   rw[sS e,b];exact h2
  have e':¬ q.1=k:=λz=>e (h1.trans z);have b:YE (q::qs) k=YE qs k:=by simp[YE,Q9,e']
  rw[sj e,b];exact ih
theorem KT.Lj(r:KT H kvs xs)(k:List Key)(ry:Zm y u) :
  KT H (kvs.map λkv=>if kv.1=k then(kv.1,y)else kv) (xs.map (putAt k u)):=by
 induction r with
 |nil=>exact .nil
 |@cons p q ps qs h t ih=>
  rw[Qc,Qc]
  refine .cons ?_ ih
  obtain⟨h1,h2,h3⟩:=h
  unfold putAt
  by_cases e:p.1=k
  ·rw[if_pos e,if_pos (h1.symm.trans e)];exact⟨h1,h2,ry⟩
  rw[if_neg e,if_neg (λz=>e (h1.trans z))];exact⟨h1,h2,h3⟩
theorem KT.put(r:KT H kvs xs)(k:List Key)(hb:H b=Zh (.tup (k.map kV)))(ry:Zm y u) :
  KT H (Zz kvs k y) (storedH xs k b u):=by
 have e:(kvs.any λkv=>decide (kv.1=k))=(YE xs k).isSome:=by
  rw[zE,(r.val k).iQ,Sb]
 unfold Zz storedH
 rw[e]
 by_cases q:(YE xs k).isSome=true
 ·rw[if_pos q,if_pos q];exact r.Lj k ry
 rw[if_neg q,if_neg q];exact Paired.snoc r ⟨rfl,hb,ry⟩
theorem KT.keeps(r:KT H kvs xs)(ht:∀b ys,H b=Zh (.tup ys)->H' b=Zh (.tup ys)):KT H' kvs xs:=
 Paired.KJ r λ_ _ z=>{z.1,ht _ _ z.2.1,z.2.2}
section
variable{P:Program}{w:UC}{H:Hp}{h:UT}{a:Uu}
theorem JS(ok:HOk P w H h)(e:Rd H a u):cS P w H h a u:=e.ok ok
theorem qj(ok:HOk P w H h)(e:Rd H a (.dK kvs)):kvs.length<=sizeLine/\(a==Vm)=false/\∃vs,KV kvs vs/\h.DictOf (cz P w) a vs:=
 show cS P w H h a (.dK kvs)from JS ok e
theorem JT(ok:HOk P w H h)(e:H a=Zh (.dK kvs)):kvs.length<=sizeLine/\(a==Vm)=false/\∃vs,KV kvs vs/\h.DictOf (cz P w) a vs:=qj ok (.inl e)
theorem ph(ok:HOk P w H h)(e:H a=Zh (.tup (ks.map kV))):(W8 (cz P w)).is h ks a:=by
 obtain⟨_,its,r,o,h1,h2,n,h3⟩:=(show cS P w H h a (.tup (ks.map kV))from ok a _ e);exact⟨o,its.toArray,n,h1,h2,h3,by simpa using vf r⟩
theorem tm(ok:HOk P w H h)(e:Rd H a (.dT kvs)):kvs.length<=sizeLine/\(a==Vm)=false/\
  ∃xs,KT H kvs xs/\h.DictOfH (W8 (cz P w)) a xs:=by
 obtain⟨z,y,xs,r,o,es,ep,h1,h2,h3,h4,h5⟩:=(show cS P w H h a (.dT kvs)from JS ok e)
 refine{z,y,xs,r,o,es,ep,h1,h2,h3,h4,λx hx=>?_,h5}
 have all:∀{l:List (List Key×V)}{m:List (List Key×Uu×Ut)},KT H l m->∀x∈m,(W8 (cz P w)).is h x.1 x.2.1:=by
  intro l m q;induction q with
  |nil=>intro x hx;exact nomatch hx
  |@cons p q ps qs hq t ih=>
   intro x hx;rcases P7.mp hx with e|hx
   ·subst e;exact ph ok (by rw[<-hq.1];exact hq.2.1)
   exact ih x hx
 exact all r x hx
theorem OP(ok:HOk P w H h)(e:H a=Zh (.dT kvs)):kvs.length<=sizeLine/\(a==Vm)=false/\
  ∃xs,KT H kvs xs/\h.DictOfH (W8 (cz P w)) a xs:=tm ok (.inl e)
end
def gR(H:Hp)(a:Uu)(y:V)(r:Option V):Prop:=
 (∃kvs k,Rd H a (.dK kvs)/\y=kV k/\r=nA kvs k)\/∃kvs k b,Rd H a (.dT kvs)/\y=.ref b/\H b=Zh (.tup (k.map kV))/\r=nA kvs k
def IS(H:Hp)(a:Uu)(y v:V)(H':Hp):Prop:=
 (∃kvs k,H a=Zh (.dK kvs)/\y=kV k/\kvs.length<sizeLine/\H'=upd H a (.dK (Zz kvs k v)))\/
 ∃kvs k b,H a=Zh (.dT kvs)/\y=.ref b/\H b=Zh (.tup (k.map kV))/\kvs.length<sizeLine/\H'=upd H a (.dT (Zz kvs k v))
theorem gR.k{H:Hp}{a:Uu}{kvs:List (Key×V)}{k:Key}(e:H a=Zh (.dK kvs)):gR H a (kV k) (nA kvs k):=.inl ⟨kvs,k,.inl e,rfl,rfl⟩
section
variable{X:Cx}{pins:List (Uu×Obj)}{B:St}{H:Hp}{s:Uy}{a:Uu}{y v:V}{u r:Ut}{o:Option V}{A:US}{E:Ut->Uy->Prop}
theorem Inv.big(I:Inv X pins B H s):Vm<s.heap.objs.size:=by
 have h:UD<s.heap.objs.size:=(I.mod.glob.keeps I.bk).lt;exact Nat.lt_trans (by decide) h
theorem C7(hu:A.units+1<Vy)(I:Inv X pins B H s)(g:gR H a y (Zh v))(ry:Zm y u)(h:∀w' s',Inv X pins B H s'->Zm v w'->Q w' s') :
  wpAny (UI X.prog X.w) A (Ws (.ref a) u) Q E s:=by
 rcases g with⟨kvs,k,e,ey,l⟩|⟨kvs,k,b,e,ey,eb,l⟩
 ·subst ey;obtain⟨z,hd,vs,rel,dd⟩:=qj I.hok e;obtain⟨w',hw,rw'⟩:=j4.some_of (v:=v) (o:=valueAt vs k) (by rw[l];exact rel.val k);exact Yz (oj ry) dd.mapOf hw (h w' _ (I.tok _) rw')
 subst ey
 cases (show u=UB b from ry)
 obtain⟨z,hd,xs,rel,dd⟩:=tm I.hok e
 obtain⟨w',hw,rw'⟩:=j4.some_of (v:=v) (o:=(YE xs k).map (·.2)) (by rw[l];exact rel.val k)
 obtain⟨p,hp,hp2⟩:=RF.mp hw
 refine wpAny_getItem_heap (VQ hu) (ph I.hok eb) dd hp ?_
 rw[hp2]
 exact h w' _ (I.tok _) rw'
theorem PC(hu:A.units+1<Vy)(I:Inv X pins B H s)(g:gR H a y o)(ry:Zm y u)(h:∀s',Inv X pins B H s'->Q (.bool o.isSome) s') :
  wpAny (UI X.prog X.w) A (UH .In u (.ref a)) Q E s:=by
 rcases g with⟨kvs,k,e,ey,l⟩|⟨kvs,k,b,e,ey,eb,l⟩
 ·subst ey;obtain⟨z,hd,vs,rel,dd⟩:=qj I.hok e;refine wpAny_in_of (oj ry) hd dd.mapOf ?_;rw[<-(rel.val k).iQ,<-l];exact h _ (I.tok _)
 subst ey
 cases (show u=UB b from ry)
 obtain⟨z,hd,xs,rel,dd⟩:=tm I.hok e
 refine wpAny_in_heap (VQ hu) (ph I.hok eb) hd dd ?_
 have q:=(rel.val k).iQ
 rw[Sb]at q
 rw[<-q,<-l]
 exact h _ (I.tok _)
theorem Jv(hu:A.units+1<Vy)(I:Inv X pins B H s)(g:gR H a y o)(ry:Zm y u)(h:∀s',Inv X pins B H s'->Q (.bool (!o.isSome)) s') :
  wpAny (UI X.prog X.w) A (UH .NotIn u (.ref a)) Q E s:=by
 rcases g with⟨kvs,k,e,ey,l⟩|⟨kvs,k,b,e,ey,eb,l⟩
 ·subst ey;obtain⟨z,hd,vs,rel,dd⟩:=qj I.hok e;refine wpAny_notIn_of (oj ry) hd dd.mapOf ?_;rw[<-(rel.val k).iQ,<-l];exact h _ (I.tok _)
 subst ey
 cases (show u=UB b from ry)
 obtain⟨z,hd,xs,rel,dd⟩:=tm I.hok e
 refine wpAny_notIn_heap (VQ hu) (ph I.hok eb) hd dd ?_
 have q:=(rel.val k).iQ
 rw[Sb]at q
 rw[<-q,<-l]
 exact h _ (I.tok _)
theorem wg(I:Inv X pins B H s)(mu:Mut (H a))(hs:WG a s.heap h')(he:∃q,h'.get? a=Zh q)(new:cS X.prog X.w (upd H a ob) h' a ob) :
  Inv X pins B (upd H a ob) { s with heap:=h',toks:=t' }:=
 I.write (x:=a) (e:=a) mu (.inl rfl) (λb q hb z=>(hs.2 b hb).trans z) he new
theorem Ff(z:kvs.length<=sizeLine)(hd:(a==Vm)=false)(rel:KV kvs vs)(dd:h'.DictOf (cz P w) a vs) :
  cS P w H' h' a (.dK kvs):=⟨z,hd,vs,rel,dd⟩
theorem CS(hu:A.units+1<Vy)(I:Inv X pins B H s)(g:IS H a y v H')(ry:Zm y u)(rv:Zm v r)(h:∀s',Inv X pins B H' s'->Q () s') :
  wpAny (UI X.prog X.w) A (Zg (.ref a) u r) Q E s:=by
 rcases g with⟨kvs,k,e,ey,l,eH⟩|⟨kvs,k,b,e,ey,eb,l,eH⟩
 ·subst ey eH;obtain⟨z,hd,vs,rel,dd⟩:=JT I.hok e;have hz:vs.length<=sizeLine:=by rw[<-rel.length];exact z
  have hl:(Zz kvs k v).length<=sizeLine:=by have:=lA kvs k v;lia
  refine wpAny_setItem_pairs (hsz:=hz) (oj ry) dd λh' dd' hs=>h _ ?_;have he:∃q,h'.get? a=Zh q:=let ⟨q,_,_,hq,_⟩:=dd';⟨q,hq⟩
  exact wg I (by rw[e];exact QL) hs he (Ff hl hd (rel.put k rv) dd')
 subst ey eH
 cases (show u=UB b from ry)
 obtain⟨z,hd,xs,rel,dd⟩:=OP I.hok e
 have hz:xs.length<=sizeLine:=by rw[<-W0 rel];exact z
 have hl:(Zz kvs k v).length<=sizeLine:=by have:=lA kvs k v;lia
 refine wpAny_setItem_heap (hsz:=hz) (VQ hu) (ph I.hok eb) dd λh' dd' hs=>h _ ?_
 obtain⟨q,es,ep,hq,h2,h3,h4,_,h5⟩:=dd'
 refine wg I (by rw[e];exact QL) hs ⟨q,hq⟩ {hl,hd,_,(rel.put k eb rv).keeps λc ys ec=>?_,q,es,ep,hq,h2,h3,h4,h5}
 rw[bN (NX ec e (λz=>nomatch z))]
 exact ec
end
section
variable{X:Cx}{pins:List (Uu×Obj)}{B:St}{H:Hp}{s:Uy}{a:Uu}{kvs:List (Key×V)}{k:Key}{u:Ut}{A:US}{E:Ut->Uy->Prop}
theorem Nr(I:Inv X pins B H s)(e:Rd H a (.dK kvs))(h:∀t s',Inv X pins B H s'->Q (.int kvs.length t) s'):wpAny (UI X.prog X.w) A (call (.builtin "len") [.ref a]) Q E s:=by
 obtain⟨z,hd,vs,rel,dd⟩:=qj I.hok e;refine call_len_dict hd dd (by rw[<-rel.length];rw[Wv]at z;lia) ?_;rw[<-rel.length];exact h _ _ (I.tok _)
end
def Lu(i:Expr):Prop:=∀ov iv,subscripted i false ov iv=operate [ov,iv] (Ws ov iv)
theorem Hg{prog:Program}{w:UC}{A:US}{E:Ut->Uy->Prop}{s:Uy}{env:Env}{value slice:Expr}{pos:Pos}{T id:String}{Q:Ut->Uy->Prop}
  (hl:typeLookup (.type T) "__getitem__"=pure (Zh (.builtin id))) (hs:Lu slice)
  (h:wpAny (UI prog w) A (UO value env) (λo s₁=>wpAny (UI prog w) A (UO slice env) (λi s₂=>s₂.TypeIs o T/\wpAny (UI prog w) A (Ws o i) Q E s₂) E s₁) E s) :
  wpAny (UI prog w) A (UO (.Subscript value slice pos) env) Q E s:=by
 refine XW (U8 h (λo s₁ h₁=>U8 h₁ (λi s₂ h₂=>?_) λ_ _ x=>x) λ_ _ x=>x)
 obtain⟨hT,h₂⟩:=h₂
 unfold W3
 refine Ux ?_
 rw[Xr hT.not_modules]
 refine Ux (YG hT hl ?_)
 have fin:wpAny (UI prog w) A (subscripted slice false o i) (λr s₃=>wpAny (UI prog w) A (Y4 value o r>>=λ_=>pure r) Q E s₃) E s₂:=by
  rw[hs o i];exact YH (U8 h₂ (λr s₃ h₃=>Ux (XA (UA h₃))) λ_ _ x=>x)
 first
  |exact UA (Ux fin)
  |exact Ux (UA (Ux fin))
  |exact Ux fin
theorem zJ(I:Inv X pins B H s)(g:gR H a y o):s.TypeIs (.ref a) "dict":=by
 rcases g with⟨kvs,k,e,_,_⟩|⟨kvs,k,b,e,_,_,_⟩
 ·obtain⟨_,_,vs,_,dd⟩:=qj I.hok e;exact dd.typeIs
 obtain⟨_,_,xs,_,dd⟩:=tm I.hok e;exact dd.typeIs
theorem yj(h:UT)(hb:Vm<h.objs.size):cS P w H (h.push { cls:=.type "dict",data:=.dict #[] }) h.objs.size (.dK []):=
 {Se _,beq_eq_false_iff_ne.mpr (Rx (Qy hb)),[],.nil,Heap.DictOf.new h}
def MK:TE:=λ_ H Q=>∀p,H p=Zi->Q (.ref p) (upd H p (.dK []))
section
variable{X:Cx}{pos:Pos}
theorem GW:PE X (.Dict [] [] pos) MK:=λpins s B H Q I h=>
 wpAny_Dict_empty {.ref s.heap.objs.size,_,I.laid (a:=s.heap.objs.size) (o:=.dK []) (t':=s.toks) (λ_ _ q=>Uz _ q) (Qf _) (yj s.heap I.big),rfl,h _ (I.hok.fresh (Qf _))}
end
def wt:List (TE×TE)->St->Hp->(List (V×V)->Hp->Prop)->Prop
 | [],_,H,Q=>Q [] H
 | (tk,tv)::r,B,H,Q=>tk B H λx H1=>tv B H1 λy H2=>wt r B H2 λps H3=>Q ((x,y)::ps) H3
abbrev VV:List (V×V)->List (Ut×Ut)->Prop:=Paired λp q=>Zm p.1 q.1/\Zm p.2 q.2
def PPs(X:Cx)(pos:Pos)(keys:List (Option Expr))(values:List Expr)(trs:List (TE×TE)):Prop:=
 ∀(pins:List (Uu×Obj))(s:Uy)(B:St)(H:Hp)(Q:List (V×V)->Hp->Prop),Inv X pins B H s->wt trs B H Q->
  wpAny (UI X.prog X.w) X.A (evalPairs (pairTrees keys values X.env pos)) (λvs s'=>∃ps H',Inv X pins B H' s'/\VV ps vs/\Q ps H') X.xe s
theorem HL:PPs X pos [] [] []:=λpins s B H Q I h=>pairTrees_nil_walk {[],H,I,.nil,h}
theorem E5(hk:PE X k tk)(hv:PE X v tv)(hr:PPs X pos ks vs trs) :
  PPs X pos (Zh k::ks) (v::vs) ((tk,tv)::trs):=λpins s B H Q I h=>
 pairTrees_cons_walk (thn (hk pins s B H _ I h) λu s1 ⟨x,H1,I1,rx,q1⟩=>thn (hv pins s1 B H1 _ I1 q1) λw2 s2 ⟨y,H2,I2,ry,q2⟩=>
  thn (hr pins s2 B H2 _ I2 q2) λws s3 ⟨ps,H3,I3,rel,q3⟩=>{(x,y)::ps,H3,I3,.cons ⟨rx,ry⟩ rel,q3})
def nj(kvs more:List (Key×V)):List (Key×V):=more.foldl (λacc kv=>Zz acc kv.1 kv.2) kvs
theorem KV.merge:∀{more:List (Key×V)}{rs:List (Key×Ut)}{kvs:List (Key×V)}{vs:List (Key×Ut)},KV more rs->KV kvs vs->KV (nj kvs more) (merged vs rs):=by
 intro more rs kvs vs r;unfold KV at r;induction r generalizing kvs vs with
 |nil=>intro q;exact q
 |@cons p q ps qs h t ih=>
  intro r0;have e:KV (Zz kvs p.1 p.2) (stored vs q.1 q.2):=by
   have:=r0.put p.1 h.2;rw[<-h.1];exact this
  exact ih e
theorem l8:∀(more kvs:List (Key×V)),(nj kvs more).length<=kvs.length+more.length
 | [],kvs=>by show kvs.length<=kvs.length+0;lia
 |p::r,kvs=>by
  have h1:=l8 r (Zz kvs p.1 p.2);have h2:=lA kvs p.1 p.2;show(nj (Zz kvs p.1 p.2) r).length<=_;rw[Qd];lia
theorem si:∀{kvs:List (Key×V)}{ws:List (Ut×Ut)},VV (kvs.map λkv=>(kV kv.1,kv.2)) ws->∃rs,Carries (cz P w) ws rs/\KV kvs rs
 | [],_,r=>by rw[QR]at r;cases r;exact{[],QL,.nil}
 |p::kvs,_,r=>by
  rw[Qc]at r;cases r with
  |@cons a b as bs h t=>
   obtain⟨rs,c,q⟩:=si (P:=P) (w:=w) t;obtain⟨b1,b2⟩:=b;exact{(p.1,b2)::rs,⟨oj h.1,rfl,c⟩,.cons ⟨rfl,h.2⟩ q}
def Oh(trs:List (TE×TE)):TE:=λB H Q=>∀p,H p=Zi->wt trs B (upd H p (.dK [])) λps H2=>H2 p=Zh (.dK [])/\∃kvs:List (Key×V),ps=kvs.map (λkv=>(kV kv.1,kv.2))/\kvs.length<=15/\Q (.ref p) (upd H2 p (.dK (nj [] kvs)))
theorem Hu(h:PPs X pos keys values trs)(hall:keys.all (·.isSome)=true)(hl:keys.length=values.length)(h0:keys≠[])
  (h15:keys.length<=15):PE X (.Dict keys values pos) (Oh trs):=by
 intro pins s B H Q I q
 have hn:=I.hok.fresh (Qf s.heap.objs.size)
 have I1:=I.laid (a:=s.heap.objs.size) (o:=.dK []) (h':=s.heap.push { cls:=.type "dict",data:=.dict #[] }) (t':=s.toks) (λ_ _ q=>Uz _ q) (Qf _) (yj s.heap I.big)
 refine wpAny_Dict_walk (knd:=cz X.prog X.w) hall hl h0 h15 (thn (h pins _ B _ _ I1 (q _ hn)) λws s2 z9=>?_);obtain⟨ps,H2,I2,rel,e,kvs,ep,lk,q2⟩:=z9
 subst ep
 obtain⟨rs,c,rk⟩:=si (P:=X.prog) (w:=X.w) rel
 obtain⟨z,hd,vs0,r0,dd⟩:=JT I2.hok e
 cases r0
 refine{rs,c,dd,λh' dd' hs=>{.ref s.heap.objs.size,_,?_,rfl,q2}}
 have hz:(nj [] kvs).length<=sizeLine:=by
  have h1:=l8 kvs [];rw[Sy]at h1;rw[Wv];lia
 have he:∃q,h'.get? s.heap.objs.size=Zh q:=let ⟨q,_,_,hq,_⟩:=dd';⟨q,hq⟩
 exact wg I2 (by rw[e];exact QL) hs he (Ff hz hd (rk.merge .nil) dd')
structure M1(X:Cx)(o:Expr)(m:Str)(apos:Pos)(e:Expr)(cpos:Pos):Prop where
 base:UR o m X.env (UO o X.env)=UO o X.env
 few:((UM cpos (Uv [e] X.env)).all (λx=>!x.1)&&(UW cpos (UN [] X.env)).all (λx=>x.1.isSome)
  &&decide (([e]:List Expr).length+([]:List U0).length+(if([]:List U0).isEmpty then 0 else 1)<30))=true
 line:(apos.endLine==cpos.line)=true
 trees:UM cpos (Uv [e] X.env)=[(false,UO e X.env)]
structure M2(X:Cx)(o:Expr)(m:Str)(apos:Pos)(e f:Expr)(cpos:Pos):Prop where
 base:UR o m X.env (UO o X.env)=UO o X.env
 few:((UM cpos (Uv [e,f] X.env)).all (λx=>!x.1)&&(UW cpos (UN [] X.env)).all (λx=>x.1.isSome)
  &&decide (([e,f]:List Expr).length+([]:List U0).length+(if([]:List U0).isEmpty then 0 else 1)<30))=true
 line:(apos.endLine==cpos.line)=true
 trees:UM cpos (Uv [e,f] X.env)=[(false,UO e X.env),(false,UO f X.env)]
def IsD(H:Hp)(a:Uu):Prop:=(∃kvs,Rd H a (.dK kvs))\/∃kvs,Rd H a (.dT kvs)
theorem Ls(I:Inv X pins B H s)(d:IsD H a) :
  s.TypeIs (.ref a) "dict"/\(∀b,UB a=.ref b->∃ob,s.heap.get? b=Zh ob/\ob.dict=Zi)/\(a==Vm)=false:=by
 rcases d with⟨kvs,e⟩|⟨kvs,e⟩
 ·obtain⟨_,hd,vs,_,dd⟩:=qj I.hok e;refine{dd.typeIs,λb q=>?_,hd};cases q;obtain⟨ob,_,_,h1,h2,_⟩:=dd;exact⟨ob,h1,h2.2.1⟩
 obtain⟨_,hd,xs,_,dd⟩:=tm I.hok e
 refine{dd.typeIs,λb q=>?_,hd}
 cases q
 obtain⟨ob,_,_,h1,h2,_⟩:=dd
 exact⟨ob,h1,h2.2.1⟩
section
variable{X:Cx}{pins:List (Uu×Obj)}{B:St}{H:Hp}{s:Uy}{a:Uu}{y d:V}{u r:Ut}{o:Option V}{A:US}{E:Ut->Uy->Prop}
theorem K3(hu:A.units+1<Vy)(I:Inv X pins B H s)(g:gR H a y o)(ry:Zm y u)(h:∀w' s',Inv X pins B H s'->Zm (o.getD .non) w'->Q w' s') :
  wpAny (UI X.prog X.w) A (call (.builtin "dict.get") [.ref a,u]) Q E s:=by
 rcases g with⟨kvs,k,e,ey,l⟩|⟨kvs,k,b,e,ey,eb,l⟩
 ·subst ey;obtain⟨z,hd,vs,rel,dd⟩:=qj I.hok e;refine Yj Vs dd.typeIs Wj (Wg _ _) (Y5 (cz X.prog X.w) a (oj ry) hd) {_,dd.mapOf,h _ _ (I.tok _) ?_};rw[l];exact(rel.val k).getD rfl
 subst ey
 cases (show u=UB b from ry)
 obtain⟨z,hd,xs,rel,dd⟩:=tm I.hok e
 refine Yj Vs dd.typeIs Wj (Wg _ _) (meetsH_dict_get (W8 (cz X.prog X.w)) a b hd) {VQ hu,k,xs,ph I.hok eb,dd,h _ _ (I.tok _) ?_}
 rw[l]
 exact(rel.val k).getD rfl
end
noncomputable def LQ(td ty:TE):TE:=λB H Q=>td B H λx H1=>∃a,x=.ref a/\IsD H1 a/\ty B H1 λy H2=>∃o,gR H2 a y o/\Q (o.getD .non) H2
section
variable{X:Cx}{o e f:Expr}{apos cpos:Pos}{td ty tx:TE}
theorem Gq(hu:X.A.units+1<Vy)(ho:PE X o td)(he:PE X e ty)(m:M1 X o "get" apos e cpos):PE X (.Call (.Attribute o "get" apos) [e] [] cpos) (LQ td ty):=by
 intro pins s B H Q I h;refine Yk m.base m.few m.line Xb Vs Xs (thn (ho pins s B H _ I h) λu s1 z9=>?_);obtain⟨x,H1,I1,rx,a,ex,d,q1⟩:=z9;subst ex;obtain rfl:u=UB a:=rx;obtain⟨t1,t2,_⟩:=Ls I1 d;refine{t1,t2,?_};rw[m.trees];refine VP rfl (Wx (WL (thn (he pins s1 B H1 _ I1 q1) λiv s2 ⟨y,H2,I2,ry,ov,g,q2⟩=>WX ?_)));exact K3 hu I2 g ry λw' s3 I3 rw'=>{_,H2,I3,rw',q2}
end
section
variable{X:Cx}
theorem yK(hu:X.A.units+64<Vy):IxR X (λx y H Q=>∃a v,x=.ref a/\gR H a y (Zh v)/\Q v H):=by
 intro value slice pins s B H x y v u Q I rx ry h hs;obtain⟨a,z,rfl,g,q⟩:=h;cases rx;have hT:=zJ I g;unfold W3;refine Ux ?_;rw[Xr hT.not_modules];refine Ux (YG hT PySem.F.slot_dict_getitem.lookup ?_);have h₂:wpAny (UI X.prog X.w) X.A (Ws (.ref a) u) (EP X pins B Q) X.xe s:=C7 (by lia) I g ry λw' s3 I3 rw'=>⟨z,H,I3,rw',q⟩;have fin:wpAny (UI X.prog X.w) X.A (subscripted slice false (.ref a) u) (λr s₃=>wpAny (UI X.prog X.w) X.A (Y4 value (.ref a) r>>=λ_=>pure r) (EP X pins B Q) X.xe s₃) X.xe s:=by
  rw[hs];exact YH (U8 h₂ (λr s₃ h₃=>Ux (XA (UA h₃))) λ_ _ x=>x)
 first
  |exact UA (Ux fin)
  |exact Ux (UA (Ux fin))
  |exact Ux fin
inductive dgI(p:Uu)(y:V)(H:Hp)(Q:VK):Prop
 |mk(v:V)(h:gR H p y (Zh v))(q:Q v H):dgI p y H Q
def OE(K:Uw):R2:=λx y H Q=>match x,y with
 | .ref p,.int i=>ixS K p i H Q\/dgI p (.int i) H Q
 | .ref p,.str k=>dgI p (.str k) H Q
 | .str z,.int i=>∃c,z.length<=sizeLine/\atI z.cps.toList i=Zh c/\Q (.str ⟨#[c]⟩) H
 |_,_=>False
theorem Lh(hu:X.A.units+64<Vy):IxR X (OE X.K):=by
 intro value slice pins s B H x y v u Q I rx ry h hs;cases x with
 |ref p=>
  cases y with
  |int i=>
   rcases h with h|⟨w,g,q⟩
   ·exact DX value slice pins s B H _ _ v u Q I rx ry h hs
   exact yK hu value slice pins s B H _ _ v u Q I rx ry ⟨p,w,rfl,g,q⟩ hs
  |str k=>
   obtain⟨w,g,q⟩:=h;exact yK hu value slice pins s B H _ _ v u Q I rx ry ⟨p,w,rfl,g,q⟩ hs
  |_=>exact(show False from h).elim
 |str z=>
  cases y with
  |int i=>exact DX value slice pins s B H _ _ v u Q I rx ry h hs
  |_=>exact(show False from h).elim
 |_=>cases y<;>exact(show False from h).elim
theorem zz(hu:X.A.units+64<Vy):GD X (λo i v H Q=>∃a H',o=.ref a/\IS H a i v H'/\Q H'):=by
 intro pins s B H o i v ov iv u Q I ro ri rv h;obtain⟨a,H',rfl,g,q⟩:=h;cases ro;exact CS (by lia) I g ri rv λs4 I4=>⟨H',I4,q⟩
inductive dpI(p:Uu)(y v:V)(H:Hp)(Q:Hp->Prop):Prop
 |mk(H':Hp)(h:IS H p y v H')(q:Q H'):dpI p y v H Q
inductive stL(p:Uu)(k:Int)(v:V)(H:Hp)(Q:Hp->Prop):Prop
 |mk(xs:List V)(j:Nat)(h0:H p=Zh (.lst xs))(h1:ixN xs.length k=Zh j)(q:Q (upd H p (.lst (xs.set j v)))):stL p k v H Q
noncomputable def Oj:Lg:=λo i v H Q=>match o,i with
 | .ref p,.int k=>stL p k v H Q\/dpI p (.int k) v H Q
 | .ref p,.str k=>dpI p (.str k) v H Q
 |_,_=>False
theorem Kn(hu:X.A.units+64<Vy)(hl:GD X J8):GD X Oj:=by
 intro pins s B H o i v ov iv u Q I ro ri rv h;cases o with
 |ref p=>
  cases i with
  |int k=>
   rcases h with⟨xs,j,h1,h2,q⟩|⟨H',g,q⟩
   ·exact hl pins s B H _ _ v ov iv u Q I ro ri rv ⟨p,xs,k,j,rfl,rfl,h1,h2,q⟩
   exact zz hu pins s B H _ _ v ov iv u Q I ro ri rv ⟨p,H',rfl,g,q⟩
  |str k=>
   obtain⟨H',g,q⟩:=h;exact zz hu pins s B H _ _ v ov iv u Q I ro ri rv ⟨p,H',rfl,g,q⟩
  |_=>exact(show False from h).elim
 |_=>cases i<;>exact(show False from h).elim
theorem Ox(hu:X.A.units+64<Vy):OpR X (UH .In) (λx y H Q=>∃a o,y=.ref a/\gR H a x o/\Q (.bl o.isSome) H):=by
 intro pins s B H x y v u Q I rx ry h;obtain⟨a,o,rfl,g,q⟩:=h;cases ry;exact PC (by lia) I g rx λs3 I3=>⟨.bl o.isSome,H,I3,rfl,q⟩
theorem G8(hu:X.A.units+64<Vy):OpR X (UH .NotIn) (λx y H Q=>∃a o,y=.ref a/\gR H a x o/\Q (.bl (!o.isSome)) H):=by
 intro pins s B H x y v u Q I rx ry h;obtain⟨a,o,rfl,g,q⟩:=h;cases ry;exact Jv (by lia) I g rx λs3 I3=>{.bl (!o.isSome),H,I3,rfl,q}
theorem j8(hu:X.A.units+64<Vy):OpR X (UH .In) (λx y H Q=>fIn X.K false x y H Q\/∃a o,y=.ref a/\gR H a x o/\Q (.bl o.isSome) H):=PQ.or (Ox hu)
theorem yR(hu:X.A.units+64<Vy):OpR X (UH .NotIn) (λx y H Q=>fIn X.K true x y H Q\/∃a o,y=.ref a/\gR H a x o/\Q (.bl (!o.isSome)) H):=HH.or (G8 hu)
theorem KQ:dE X (.builtin "len") (λxs H Q=>∃a kvs,xs=[.ref a]/\Rd H a (.dK kvs)/\Q (.int (kvs.length:Nat)) H):=by
 intro pins s B H xs us Q I r h;obtain⟨a,kvs,rfl,e,q⟩:=h;obtain⟨u,rfl,rfl⟩:=Zy r;exact Nr I e λt s' I'=>{.int _,H,I',{_,rfl},q}
end
end L2
namespace PySem
open Sem (wp)
end PySem
namespace L2
open PySem PySem.Spec PyProof.Rows
section
variable{X:Cx}{pins:List (Uu×Obj)}{B:St}{H:Hp}{s:Uy}
theorem Inv.IT{h':UT}{t':Nat}{ch:List Uu}(I:Inv X pins B H s)(hf:∀b∈ch,uy X pins H b)(k:∀b o,b∉ch->s.heap.get? b=Zh o->h'.get? b=Zh o):Inv X pins B H { s with heap:=h',toks:=t' }:=by
 have nit:∀b u,H b=Zh u->b∉ch:=λb u e z=>by rw[(hf b z).1]at e;cases e
 refine I.step (g':=s.gens) (d':=s.drawn) (ch:=ch) (λb hb=>{(hf b hb).2.2.2.1,(hf b hb).2.1,(hf b hb).2.2.2.2.1,(hf b hb).2.2.2.2.2}) (λb o _ _ hc e _=>k b o hc e) (λb o _ _ hc e _=>⟨o.slots,k b o hc e⟩) (λ_ _ _ _ n=>n)
  (λb o hc e=>⟨o,k b o hc e⟩) (λ_ _ e=>e) (λ_ _ _ e=>e) (λb ps e=>{#[],by rw[e];simp}) (λm hm=>?_) (λb u e=>?_) I.bare
 ·obtain⟨o,es,ep,ho,r⟩:=hm;exact{o,es,ep,k _ o (λz=>(hf _ z).2.1 rfl) ho,r}
 refine(I.hok b u e).Ao (λc v hc q=>k c v ?_ q) (λ_ q=>q) λ_ _ q=>q;rcases hc with rfl|hc
 ·exact nit _ _ e
 exact nit _ _ hc
theorem Inv.NC(I:Inv X pins B H s)(hf:uy X pins H T)(hz:X.s₀.heap.objs.size<=T)(new:cS X.prog X.w (upd H T u) s.heap T u):Inv X pins B (upd H T u) s:=by
 obtain⟨f0,f1,f2,f3,f4,f5⟩:=hf;have ne0:∀b o,X.s₀.heap.get? b=Zh o->b≠T:=λb o e=>Qy (Qm (UG e) hz);have neS:∀b v,H b=Zh v->b≠T:=λb v e z=>by rw[z,f0]at e;cases e
 refine⟨I.ok,I.os,I.bare,⟨I.base.keep,I.base.slot,λb o e n hx=>by rw[bN (ne0 b o e)];exact I.base.free b o e n hx,I.base.there,λb xs e=>by
   have:=I.base.wx b xs e;rw[bN (neS b _ this)];exact this,λb o v e=>by
   have:=I.base.uw b o v e;rw[bN (neS b _ this)];exact this,λb ps e=>by
   obtain⟨more,q⟩:=I.base.xG b ps e;exact{more,by rw[bN (neS b _ q)];exact q}⟩,I.loc,I.cell,by rw[bN (Rx f1)];exact I.free,λx c e=>by rw[bN (f4 x c e)];exact I.lB x c e,
  λp hp=>by rw[bN (f5 p hp)];exact I.pin p hp,λb v e=>?_,I.len⟩
 by_cases hb:b=T
 ·subst hb;rw[bI]at e;cases e;exact new
 rw[bN hb]at e;exact(I.hok b v e).Ao (λ_ _ _ q=>q) (λc q=>by rw[bN (neS c _ q)];exact q) λc xs q=>by rw[bN (neS c _ q)];exact q
theorem qX:Vj "enumerate"=Zh (.type "enumerate"):=by decide+kernel
end
section
variable{X:Cx}
structure SplitOk(z y:Str)(ws:List Str):Prop where
 h1:(decide (z.length<y.length)||decide (Vp z<Vp y))=false
 hy:(y.length==0)=false
 hf:(UL z y 0 z.length (z.length+1)).isEmpty=false
 hx:z.length<=sizeLine
 hn:ws.length<=sizeLine
 e:W5 z (UL z y 0 z.length (z.length+1)) y.length=ws
theorem uZ:∀(tk:Nat)(ws:List Str),Zl (ws.map V.str) (strsFrom tk ws)
 |_,[]=>.nil
 |tk,x::r=>.cons {_,rfl} (uZ (tk+1) r)
inductive Kf(xs:List V)(H:Hp)(Q:VK):Prop
 |mk(a:Uu)(kvs:List (Key×V))(h0:xs=[.ref a])(h1:Rd H a (.dK kvs))(q:Q (.int (kvs.length:Nat)) H):Kf xs H Q
theorem cb:dE X (.builtin "len") (λxs H Q=>Hx X.K xs H Q\/Kf xs H Q):=Ot.or λpins s B H xs us Q I r ⟨a,kvs,h0,h1,q⟩=>KQ pins s B H xs us Q I r ⟨a,kvs,h0,h1,q⟩
end
section
variable{X:Cx}
theorem NZ(ho:PE X o to)(hbase:UR o "pop" X.env (UO o X.env)=UO o X.env:=by rfl)(hline:(apos.endLine==cpos.line)=true:=by rfl) :
  PE X (.Call (.Attribute o "pop" apos) [] [] cpos) (NS X.K "list" Kg to):=
 L8 VH PySem.F.slot_list_pop PySem.F.type_list_pop Ll ho hbase hline
end
end L2
namespace L2
open PySem PySem.Spec PyProof.Rows
open PySem.W (Looks InstAt looks_findIn looks_mroIn looks_clsIn looks_find)
end L2
namespace L2
open PySem PySem.Spec PyProof.Rows
section
variable{X:Cx}
def BD(K:Uw):V->List V->Hp->VK->Prop:=λx vs H Q=>∃p xs y j,x=.ref p/\vs=[y]/\SqL K H p xs/\xs.length<=1000/\fB y=true/\xs.all fB=true/\xs.findIdx? (λa=>eqV a y)=Zh j/\Q (.int (j:Nat)) H
theorem Dx:MtR X "list.index" (BD X.K):=by
 rintro pins s B H x xs v us Q I rx r ⟨p,ys,y,j,rfl,rfl,hq,hle,fy,fs,hj,q⟩;obtain rfl:v=UB p:=rx;obtain⟨u,rfl,ru⟩:=Zl.one r;obtain⟨its,rv,⟨o,n,e,hc,_,hd⟩,hz⟩:=I.list hq;obtain⟨oc,od,oda,osl⟩:=o;dsimp only at hc hd;subst hc hd;have hl:=rv.length;obtain⟨lt,hit,hno⟩:=List.findIdx?_eq_some_iff_getElem.mp hj;have at_:∀(i:Nat)(hi:i<its.toArray.size)(hi2:i<ys.length),eqU y its.toArray[i]=eqV ys[i] y:=λi hi hi2=>by
  obtain⟨w,h1,h2⟩:=rv.get (Qe hi2);have:its.toArray[i]=w:=by
   have:its[i]?=Zh its[i]:=Qe (by simpa using hi);rw[this]at h1;simpa using UE h1
  rw[this];exact wA h2 (QM.mp fs _ (Ri hi2))
 have lt2:j<its.toArray.size:=by simp;lia
 refine Wd Xc {_,e,rfl} PySem.F.entry_list_index (PySem.F.args_list_index_2 _ _) (SeqAt.list_indexAt p its.toArray n od osl u (eqU y) j lt2 (by lia) (by rw[at_ j lt2 lt];exact hit) (λm hm h2=>by rw[at_ m hm (by lia)];simpa using hno m h2)) {e,λw hw=>gC ru fy rv fs w (by simpa using hw),?_};exact{.int j,H,I.tok _,{_,rfl},q}
theorem NK(hc:X.calm=true:=by rfl):dE X (.builtin "sum") (λxs H Q=>∃(p:Uu)(ns:List Int),xs=[.ref p]/\SqL X.K H p (ns.map V.int)/\Q (.int ns.sum) H):=by
 intro pins s B H xs us Q I r h;obtain⟨p,ns,rfl,hq,q⟩:=h;obtain⟨u,rfl,rx⟩:=Zy r;cases rx;obtain⟨its,rv,pl,hz⟩:=I.list hq;have hl:=pl.isList;have ia:=intsAre_of rv;obtain⟨xs,hx⟩:=ia.allInts.items;have hn:xs.toList.map (·.1)=ns:=by
  rw[<-nums_intItems,<-hx];exact ia.numsOf
 rw[hx]at hl;refine sum_intListG (I.ok.hd hc) hl λh' tk t' hk=>{.int _,H,I.kept (t':=tk) hk,{_,rfl},?_};rw[preSum_eq,List.take_of_length_le (by simp),hn];exact q
end
section
variable{X:Cx}
theorem Fz(ho:PE X o to)(ha:PA X [e] t)(hbase:UR o "extend" X.env (UO o X.env)=UO o X.env:=by rfl)
  (hfew:((UM cpos (Uv [e] X.env)).all (λx=>!x.1)&&(UW cpos (UN [] X.env)).all (λx=>x.1.isSome)
   &&decide ([e].length+([]:List U0).length+(if([]:List U0).isEmpty then 0 else 1)<30))=true:=by rfl)
  (hline:(apos.endLine==cpos.line)=true:=by rfl) (hs:Uv [e] X.env=(false,UO e X.env)::Uv [] X.env:=by rfl) (hplain:(UM cpos (Uv [] X.env)).any (·.1)=false:=by rfl) :
  PE X (.Call (.Attribute o "extend" apos) [e] [] cpos) (tBM X.K "list" Cs to t):=
 CF VH PySem.F.slot_list_extend PySem.F.type_list_extend C3 ho ha hbase hfew hline hs hplain
end
section
variable{K:Uw}{H:Hp}{Q:VK}
theorem fdI(h:H a=Zh (.ins C dx fs))(c:Cls K C)(n:bx K C f)(e:fs.lookup f=Zh v)(q:Q v H):LF K f (.ref a) H Q:=⟨a,C,dx,fs,v,rfl,h,c,n,e,q⟩
end
section
variable{X:Cx}
theorem Nu(hu:X.A.units+64<Vy):OpR X (UH .NotEq) (λx y H Q=>∃d e,gY X.K H x d/\gY X.K H y e/\UX d=true/\UX e=true/\Q (.bl (!PyData.eqv d e)) H):=by
 intro pins s B H x y v u Q I rx ry h;obtain⟨d,e,hd,he,sd,se,hq⟩:=h;obtain⟨as,z1⟩:=I.reads hd rx;obtain⟨bs,z2⟩:=I.reads he ry;exact ne_dataH z1 z2 sd se hu {.bl _,H,I,rfl,hq}
end
section
variable{P:Program}{w:UC}{K:Uw}{mg:Str->Option Ut}{base:UT}{k:Nat}{x:Str}{ps:List Str}{dvs:List V}{sp:Sp}
structure TopFnD(K:Uw)(mg:Str->Option Ut)(x:Str)(st:UP)(ps:List Str)(dvs:List V):Prop where
 ex:∃(f:Uu)(oc:Ut)(od:Option Uu)(dV kV doc pm:Ut)(an:Option Uu)(cdv ct:Ut)(osl:Array (Option Ut))(ds:List Ut),K.lookup f=Zh {oc,od,.func (Vt x x (cI st) (b9 st) (aL st) dV kV doc pm an cdv ct),osl}/\WN K cdv x=true/\Vx K (.ref f)=true/\mg x=Zh (.ref f)/\Zl dvs ds/\
  Zu K (Vt x x (cI st) (b9 st) (aL st) dV kV doc pm an cdv ct) ps []/\Zu K (Vt x x (cI st) (b9 st) (aL st) dV kV doc pm an cdv ct) ps ds
end
structure RkIn(val:Nat->Int)(i:Nat)(a b c:Option Tok):Prop where
 a:a.isSome=(UJ i).any λj=>decide (val j=0)
 b:b.isSome=(UJ i).any λj=>decide (val j=1)
 c:c.isSome=(UJ i).any λj=>decide (val j=2)
noncomputable abbrev gK(us ws:List Ut):List Ut:=us++ws.take 1
noncomputable abbrev gKV(vs zs:List V):List V:=vs++zs.take 1
section
variable{P:Program}{w:UC}{K:Uw}{mg:Str->Option Ut}{base:UT}{k:Nat}{x:Str}{ps:List Str}{dvs:List V}{sp:Sp}
structure TopFnE(K:Uw)(mg:Str->Option Ut)(x:Str)(st:UP)(ps:List Str)(dvs:List V):Prop where
 ex:∃(f:Uu)(oc:Ut)(od:Option Uu)(dV kV doc pm:Ut)(an:Option Uu)(cdv ct:Ut)(osl:Array (Option Ut))(ds:List Ut),K.lookup f=Zh {oc,od,.func (Vt x x (cI st) (b9 st) (aL st) dV kV doc pm an cdv ct),osl}/\WN K cdv x=true/\Vx K (.ref f)=true/\mg x=Zh (.ref f)/\Zl dvs ds/\
  Zu K (Vt x x (cI st) (b9 st) (aL st) dV kV doc pm an cdv ct) ps []/\Zu K (Vt x x (cI st) (b9 st) (aL st) dV kV doc pm an cdv ct) ps ds/\MF K (Vt x x (cI st) (b9 st) (aL st) dV kV doc pm an cdv ct) ps [ps.getLastD Zc] gK gKV
end
end L2
namespace L2
open PySem
inductive D where
 |non|bl (b:Bool)|int (i:Int)|str (x:Str)|adr (a:Uu)|ty (n:String)|cell (n:Nat)
 |tup (xs:List D)|lst (xs:List D)|sqt (xs:List D)|sql (xs:List D)|dic (ks:List Key) (vs:List D)|dtt (ks:List (List Key)) (vs:List D)|obj (C:Uu) (fn:List Str) (vs:List D)
mutual
def Tr(K:Uw)(Z:List Uu)(X:Hp):D->V->Prop
 | .non,v=>v=.non
 | .bl b,v=>v=.bl b
 | .int i,v=>v=.int i
 | .str x,v=>v=.str x
 | .adr a,v=>v=.ref a
 | .ty n,v=>v=.ty n
 | .cell n,v=>∃a,Z[n]?=Zh a/\v=.ref a
 | .tup ds,v=>∃a vs,v=.ref a/\X a=Zh (.tup vs)/\Trs K Z X ds vs
 | .lst ds,v=>∃a vs,v=.ref a/\X a=Zh (.lst vs)/\Trs K Z X ds vs
 | .sqt ds,v=>∃a vs,v=.ref a/\SqT K X a vs/\Trs K Z X ds vs
 | .sql ds,v=>∃a vs,v=.ref a/\SqL K X a vs/\Trs K Z X ds vs
 | .dic ks ds,v=>∃a kvs,v=.ref a/\X a=Zh (.dK kvs)/\kvs.map (·.1)=ks/\Trs K Z X ds (kvs.map (·.2))
 | .dtt ks ds,v=>∃a kvs,v=.ref a/\X a=Zh (.dT kvs)/\kvs.map (·.1)=ks/\Trs K Z X ds (kvs.map (·.2))
 | .obj C fn ds,v=>∃a dx fs,v=.ref a/\X a=Zh (.ins C dx fs)/\fs.map (·.1)=fn/\Trs K Z X ds (fs.map (·.2))
def Trs(K:Uw)(Z:List Uu)(X:Hp):List D->List V->Prop
 | [],vs=>vs=[]
 |d::ds,vs=>∃v r,vs=v::r/\Tr K Z X d v/\Trs K Z X ds r
end
mutual
def bP:D->Bool
 | .cell _=>false
 | .tup ds=>bD ds
 | .lst ds=>bD ds
 | .sqt ds=>bD ds
 | .sql ds=>bD ds
 | .dic _ ds=>bD ds
 | .dtt _ ds=>bD ds
 | .obj _ _ ds=>bD ds
 |_=>true
def bD:List D->Bool
 | []=>true
 |d::ds=>bP d&&bD ds
end
def Pre(Z Z':List Uu):Prop:=∀(n:Nat)(a:Uu),Z[n]?=Zh a->Z'[n]?=Zh a
theorem Pre.refl(Z:List Uu):Pre Z Z:=λ_ _ e=>e
theorem Pre.trans(p:Pre a b)(q:Pre b c):Pre a c:=λ_ _ e=>q _ _ (p _ _ e)
theorem Pre.app(a b:List Uu):Pre a (a++b):=λn x e=>by
 rw[Qp (Qh.mp e).1];exact e
theorem Rd.same(s:br X X')(h:Rd X a u):Rd X' a u:=by
 rcases h with h|⟨o,h⟩
 ·exact .inl (s _ _ h)
 exact .inr {o,s _ _ h}
theorem SqL.same(s:br X X')(h:SqL K X a u):SqL K X' a u:=by
 rcases h with h|h
 ·exact .inl (h.same s)
 exact .inr h
theorem SqT.same(s:br X X')(h:SqT K X a u):SqT K X' a u:=by
 rcases h with h|h
 ·exact .inl (h.same s)
 exact .inr h
section
variable{K:Uw}{Z Z':List Uu}{X X':Hp}
mutual
theorem Tr.mono(p:Pre Z Z')(s:br X X'):∀(d:D)(v:V),Tr K Z X d v->Tr K Z' X' d v
 | .non,_,h| .bl _,_,h| .int _,_,h| .str _,_,h| .adr _,_,h| .ty _,_,h=>by unfold Tr at h⊢;exact h
 | .cell n,v,h=>by unfold Tr at h⊢;obtain⟨a,h1,h2⟩:=h;exact{a,p _ _ h1,h2}
 | .tup ds,v,h=>by unfold Tr at h⊢;obtain⟨a,vs,h1,h2,h3⟩:=h;exact{a,vs,h1,s _ _ h2,Trs.mono p s ds _ h3}
 | .lst ds,v,h=>by unfold Tr at h⊢;obtain⟨a,vs,h1,h2,h3⟩:=h;exact{a,vs,h1,s _ _ h2,Trs.mono p s ds _ h3}
 | .sqt ds,v,h=>by unfold Tr at h⊢;obtain⟨a,vs,h1,h2,h3⟩:=h;exact{a,vs,h1,h2.same s,Trs.mono p s ds _ h3}
 | .sql ds,v,h=>by unfold Tr at h⊢;obtain⟨a,vs,h1,h2,h3⟩:=h;exact{a,vs,h1,h2.same s,Trs.mono p s ds _ h3}
 | .dic ks ds,v,h=>by unfold Tr at h⊢;obtain⟨a,vs,h1,h2,h4,h3⟩:=h;exact{a,vs,h1,s _ _ h2,h4,Trs.mono p s ds _ h3}
 | .dtt ks ds,v,h=>by unfold Tr at h⊢;obtain⟨a,vs,h1,h2,h4,h3⟩:=h;exact{a,vs,h1,s _ _ h2,h4,Trs.mono p s ds _ h3}
 | .obj C fn ds,v,h=>by unfold Tr at h⊢;obtain⟨a,dx,vs,h1,h2,h4,h3⟩:=h;exact{a,dx,vs,h1,s _ _ h2,h4,Trs.mono p s ds _ h3}
theorem Trs.mono(p:Pre Z Z')(s:br X X'):∀(ds:List D)(vs:List V),Trs K Z X ds vs->Trs K Z' X' ds vs
 | [],_,h=>by unfold Trs at h⊢;exact h
 |d::ds,vs,h=>by unfold Trs at h⊢;obtain⟨v,r,h1,h2,h3⟩:=h;exact{v,r,h1,Tr.mono p s d _ h2,Trs.mono p s ds _ h3}
end
mutual
theorem Tr.pure:∀(d:D)(v:V),bP d=true->Tr K Z X d v->Tr K Z' X d v
 | .non,_,_,h| .bl _,_,_,h| .int _,_,_,h| .str _,_,_,h| .adr _,_,_,h| .ty _,_,_,h=>by unfold Tr at h⊢;exact h
 | .cell n,v,q,h=>by unfold bP at q;cases q
 | .tup ds,v,q,h=>by unfold bP at q;unfold Tr at h⊢;obtain⟨a,vs,h1,h2,h3⟩:=h;exact{a,vs,h1,h2,Trs.pure ds _ q h3}
 | .lst ds,v,q,h=>by unfold bP at q;unfold Tr at h⊢;obtain⟨a,vs,h1,h2,h3⟩:=h;exact{a,vs,h1,h2,Trs.pure ds _ q h3}
 | .sqt ds,v,q,h=>by unfold bP at q;unfold Tr at h⊢;obtain⟨a,vs,h1,h2,h3⟩:=h;exact{a,vs,h1,h2,Trs.pure ds _ q h3}
 | .sql ds,v,q,h=>by unfold bP at q;unfold Tr at h⊢;obtain⟨a,vs,h1,h2,h3⟩:=h;exact{a,vs,h1,h2,Trs.pure ds _ q h3}
 | .dic ks ds,v,q,h=>by unfold bP at q;unfold Tr at h⊢;obtain⟨a,vs,h1,h2,h4,h3⟩:=h;exact{a,vs,h1,h2,h4,Trs.pure ds _ q h3}
 | .dtt ks ds,v,q,h=>by unfold bP at q;unfold Tr at h⊢;obtain⟨a,vs,h1,h2,h4,h3⟩:=h;exact{a,vs,h1,h2,h4,Trs.pure ds _ q h3}
 | .obj C fn ds,v,q,h=>by unfold bP at q;unfold Tr at h⊢;obtain⟨a,dx,vs,h1,h2,h4,h3⟩:=h;exact{a,dx,vs,h1,h2,h4,Trs.pure ds _ q h3}
theorem Trs.pure:∀(ds:List D)(vs:List V),bD ds=true->Trs K Z X ds vs->Trs K Z' X ds vs
 | [],_,_,h=>by unfold Trs at h⊢;exact h
 |d::ds,vs,q,h=>by
  unfold bD at q;rw[Qs]at q;unfold Trs at h⊢;obtain⟨v,r,h1,h2,h3⟩:=h;exact{v,r,h1,Tr.pure d _ q.1 h2,Trs.pure ds _ q.2 h3}
end
theorem Tr.same(s:br X X')(h:Tr K Z X d v):Tr K Z X' d v:=Tr.mono (λ_ _ e=>e) s d v h
theorem Trs.same(s:br X X')(h:Trs K Z X d v):Trs K Z X' d v:=Trs.mono (λ_ _ e=>e) s d v h
theorem Trs.len:∀{ds:List D}{vs:List V},Trs K Z X ds vs->vs.length=ds.length
 | [],_,h=>by unfold Trs at h;rw[h];rfl
 |d::ds,vs,h=>by unfold Trs at h;obtain⟨v,r,rfl,_,h3⟩:=h;rw[Qd,Qd,Trs.len h3]
theorem Trs.at:∀{ds:List D}{vs:List V}{i:Nat}{d:D},Trs K Z X ds vs->ds[i]?=Zh d->∃v,vs[i]?=Zh v/\Tr K Z X d v
 | [],_,_,_,_,e=>by cases e
 |d::ds,vs,i,d',h,e=>by
  unfold Trs at h;obtain⟨v,r,rfl,h2,h3⟩:=h;cases i with
  |zero=>cases e;exact⟨v,rfl,h2⟩
  |succ i=>exact Trs.at (i:=i) h3 e
theorem Trs.app:∀{ds es:List D}{vs us:List V},Trs K Z X ds vs->Trs K Z X es us->Trs K Z X (ds++es) (vs++us)
 | [],_,_,_,h,g=>by unfold Trs at h;rw[h];exact g
 |d::ds,es,vs,us,h,g=>by
  unfold Trs at h;obtain⟨v,r,rfl,h2,h3⟩:=h;show Trs K Z X (d::(ds++es)) (v::(r++us));unfold Trs;exact{v,_,rfl,h2,Trs.app h3 g}
theorem Trs.nil:Trs K Z X [] []:=by unfold Trs;rfl
theorem Trs.cons(h:Tr K Z X d v)(t:Trs K Z X ds vs):Trs K Z X (d::ds) (v::vs):=by unfold Trs;exact⟨v,vs,rfl,h,t⟩
theorem Trs.set:∀{ds:List D}{vs:List V}(i:Nat){d:D}{v:V},Trs K Z X ds vs->Tr K Z X d v->Trs K Z X (ds.set i d) (vs.set i v)
 | [],_,i,_,_,h,_=>by unfold Trs at h;rw[h];exact Trs.nil
 |d::ds,vs,i,d',v',h,g=>by
  unfold Trs at h;obtain⟨v,r,rfl,h2,h3⟩:=h;cases i with
  |zero=>exact Trs.cons g h3
  |succ i=>exact Trs.cons h2 (Trs.set i h3 g)
theorem Trs.take:∀{ds:List D}{vs:List V}(i:Nat),Trs K Z X ds vs->Trs K Z X (ds.take i) (vs.take i)
 |_,_,0,_=>Trs.nil
 | [],_,i+1,h=>by unfold Trs at h;rw[h];exact Trs.nil
 |d::ds,vs,i+1,h=>by
  unfold Trs at h;obtain⟨v,r,rfl,h2,h3⟩:=h;exact Trs.cons h2 (Trs.take i h3)
theorem Trs.drop:∀{ds:List D}{vs:List V}(i:Nat),Trs K Z X ds vs->Trs K Z X (ds.drop i) (vs.drop i)
 |_,_,0,h=>h
 | [],_,i+1,h=>by unfold Trs at h;rw[h];exact Trs.nil
 |d::ds,vs,i+1,h=>by
  unfold Trs at h;obtain⟨v,r,rfl,h2,h3⟩:=h;exact Trs.drop i h3
theorem Trs.fld:∀{fn:List Str}{ds:List D}{fs:List (Str×V)}{f:Str}{d:D},fs.map (·.1)=fn->Trs K Z X ds (fs.map (·.2))->(fn.zip ds).lookup f=Zh d->∃v,fs.lookup f=Zh v/\Tr K Z X d v
 |fn,ds,[],f,d,e,_,h=>by subst e;cases h
 |fn,ds,(g,v)::fs,f,d,e,t,h=>by
  subst e;cases ds with
  |nil=>cases h
  |cons d' ds=>
   unfold Trs at t;obtain⟨v',r,e',h2,h3⟩:=t;cases e';rw[Qc,Sn,Qw]at h;rw[Qw];cases c:f==g with
   |true=>simp only[c]at h⊢;cases h;exact⟨v,rfl,h2⟩
   |false=>simp only[c]at h⊢;exact Trs.fld rfl h3 h
end
inductive Ob where
 |lst (ds:List D)|dic (ks:List Key) (vs:List D)|dtt (ks:List (List Key)) (vs:List D)|obj (C:Uu) (fn:List Str) (vs:List D)|gone
def OR(K:Uw)(Z:List Uu)(X H:Hp)(a:Uu):Ob->Prop
 | .lst ds=>∃vs,H a=Zh (.lst vs)/\Trs K Z X ds vs
 | .dic ks ds=>∃kvs,H a=Zh (.dK kvs)/\kvs.map (·.1)=ks/\Trs K Z X ds (kvs.map (·.2))
 | .dtt ks ds=>∃kvs,H a=Zh (.dT kvs)/\kvs.map (·.1)=ks/\Trs K Z X ds (kvs.map (·.2))
 | .obj C fn ds=>∃dx fs,H a=Zh (.ins C dx fs)/\fs.map (·.1)=fn/\Trs K Z X ds (fs.map (·.2))
 | .gone=>True
theorem OR.mono(p:Pre Z Z')(s:br X X')(e:∀o,H a=Zh o->H' a=Zh o)(h:OR K Z X H a o):OR K Z' X' H' a o:=by
 cases o with
 |lst ds=>obtain⟨vs,h1,h2⟩:=h;exact{vs,e _ h1,Trs.mono p s _ _ h2}
 |dic ks ds=>obtain⟨vs,h1,h3,h2⟩:=h;exact{vs,e _ h1,h3,Trs.mono p s _ _ h2}
 |dtt ks ds=>obtain⟨vs,h1,h3,h2⟩:=h;exact{vs,e _ h1,h3,Trs.mono p s _ _ h2}
 |obj C fn ds=>obtain⟨dx,vs,h1,h3,h2⟩:=h;exact{dx,vs,e _ h1,h3,Trs.mono p s _ _ h2}
 |gone=>trivial
noncomputable abbrev SD:=List (Option D)
noncomputable abbrev MS:=List Ob
structure Ent where
 X0:Hp
 Y:Hp
structure RS(K:Uw)(G:Ent)(Z:List Uu)(X H:Hp)(M:MS):Prop where
 same:br X H
 x0:br G.X0 X
 y:br G.Y H
 nw:∀a,X a≠Zi->G.X0 a≠Zi\/G.Y a=Zi
 len:Z.length=M.length
 live:∀(n:Nat)(a:Uu),Z[n]?=Zh a->H a≠Zi
 nd:∀(m n:Nat)(a:Uu),Z[m]?=Zh a->Z[n]?=Zh a->m=n
 ob:∀(n:Nat)(a:Uu)(o:Ob),Z[n]?=Zh a->M[n]?=Zh o->o≠ .gone->X a=Zi/\G.Y a=Zi/\OR K Z X H a o
theorem RS.new{K:Uw}{G:Ent}{Z:List Uu}{X H:Hp}{M:MS}(R:RS K G Z X H M){X' H':Hp}(s:br X X')(t:br X' H')(u:br H H')(n:∀a,X' a≠Zi->X a≠Zi\/H a=Zi):RS K G Z X' H' M where
 same:=t
 x0:=R.x0.trans s
 y:=R.y.trans u
 nw:=λa h=>by
  rcases n a h with z|z
  ·exact R.nw a z
  refine .inr ?_;cases q:G.Y a with
  |none=>rfl
  |some o=>rw[R.y _ _ q]at z;cases z
 len:=R.len
 live:=λn a e=>by
  have:=R.live n a e;cases q:H a with
  |none=>exact absurd q this
  |some o=>rw[u _ _ q];intro z;cases z
 nd:=R.nd
 ob:=λm a o h1 h2 h3=>by
  obtain⟨h4,h5,h6⟩:=R.ob m a o h1 h2 h3;refine{?_,h5,h6.mono (λ_ _ e=>e) s λo e=>u _ _ e};cases q:X' a with
  |none=>rfl
  |some o=>
   rcases n a (by rw[q];intro z;cases z)with z|z
   ·exact absurd h4 z
   exact absurd z (R.live m a h1)
theorem RS.alc(R:RS K G Z X H M)(hp:H p=Zi)(o:HO):RS K G Z (upd X p o) (upd H p o) M/\br X (upd X p o)/\upd X p o p=Zh o:=by
 have xp:X p=Zi:=by
  cases q:X p with
  |none=>rfl
  |some o=>rw[R.same _ _ q]at hp;cases hp
 have s1:br X (upd X p o):=br.upd xp o;refine{R.new s1 (λb u h=>?_) (br.upd hp o) (λa h=>?_),s1,bI}
 ·by_cases e:b=p
  ·subst e;rw[bI]at h⊢;exact h
  rw[bN e]at h⊢;exact R.same _ _ h
 by_cases e:a=p
 ·subst e;exact .inr hp
 rw[bN e]at h;exact .inl h
structure SR(K:Uw)(Z:List Uu)(X:Hp)(B:SD)(U:St):Prop where
 len:U.length=B.length
 var:∀(i:Nat)(d:D),B[i]?=Zh (Zh d)->∃v,U[i]?=Zh (Zh v)/\Tr K Z X d v
theorem SR.mono(p:Pre Z Z')(s:br X X')(h:SR K Z X B U):SR K Z' X' B U:=⟨h.len,λi d e=>by
 obtain⟨v,h1,h2⟩:=h.var i d e;exact{v,h1,Tr.mono p s _ _ h2}⟩
theorem SR.same(s:br X X')(h:SR K Z X B U):SR K Z X' B U:=h.mono (λ_ _ e=>e) s
theorem SR.set(h:SR K Z X B U)(i:Nat)(t:Tr K Z X d v):SR K Z X (B.set i (Zh d)) (U.set i (Zh v)):=⟨by rw[Qv,Qv,h.len],λj d' e=>by
 rw[Ss]at e⊢;rw[h.len];by_cases z:i=j
 ·subst z;rw[if_pos rfl]at e⊢;by_cases l:i<B.length
  ·rw[if_pos l]at e⊢;cases e;exact⟨v,rfl,t⟩
  rw[if_neg l]at e;cases e
 rw[if_neg z]at e⊢;exact h.var j d' e⟩
def ba(M:MS):D->Option (List D)
 | .lst ds=>Zh ds
 | .tup ds=>Zh ds
 | .sql ds=>Zh ds
 | .sqt ds=>Zh ds
 | .cell n=>match M[n]? with
  |some (.lst ds)=>Zh ds
  |_=>Zi
 |_=>Zi
def hV(M:MS):D->Option (List D)
 | .lst ds=>Zh ds
 | .cell n=>match M[n]? with
  |some (.lst ds)=>Zh ds
  |_=>Zi
 |_=>Zi
def fY(M:MS):D->Option (List Key×List D)
 | .dic ks ds=>Zh (ks,ds)
 | .cell n=>match M[n]? with
  |some (.dic ks ds)=>Zh (ks,ds)
  |_=>Zi
 |_=>Zi
def Zt(M:MS):D->Option (Uu×List Str×List D)
 | .obj C fn ds=>Zh (C,fn,ds)
 | .cell n=>match M[n]? with
  |some (.obj C fn ds)=>Zh (C,fn,ds)
  |_=>Zi
 |_=>Zi
section
variable{K:Uw}{G:Ent}{Z:List Uu}{X H:Hp}{M:MS}{d:D}{v:V}
theorem cu(R:RS K G Z X H M)(t:Tr K Z X (.cell n) v)(e:M[n]?=Zh o)(h:o≠ .gone):∃a,Z[n]?=Zh a/\v=.ref a/\X a=Zi/\G.Y a=Zi/\OR K Z X H a o:=by
 unfold Tr at t;obtain⟨a,h1,h2⟩:=t;obtain⟨h3,h4,h5⟩:=R.ob n a o h1 e h;exact⟨a,h1,h2,h3,h4,h5⟩
theorem wF(R:RS K G Z X H M)(t:Tr K Z X d v)(e:hV M d=Zh ds):∃a vs,v=.ref a/\H a=Zh (.lst vs)/\Trs K Z X ds vs:=by
 unfold hV at e;split at e
 ·cases e;unfold Tr at t;obtain⟨a,vs,h1,h2,h3⟩:=t;exact{a,vs,h1,R.same _ _ h2,h3}
 ·split at e
  ·rename_i q;cases e;obtain⟨a,_,h2,_,_,vs,h5,h6⟩:=cu R t q (by intro z;cases z);exact⟨a,vs,h2,h5,h6⟩
  cases e
 cases e
theorem ny(R:RS K G Z X H M)(t:Tr K Z X d v)(e:ba M d=Zh ds):∃a vs,v=.ref a/\(SqL K H a vs\/SqT K H a vs)/\Trs K Z X ds vs:=by
 unfold ba at e;split at e
 ·cases e;unfold Tr at t;obtain⟨a,vs,h1,h2,h3⟩:=t;exact{a,vs,h1,.inl (SqL.of (R.same _ _ h2)),h3}
 ·cases e;unfold Tr at t;obtain⟨a,vs,h1,h2,h3⟩:=t;exact{a,vs,h1,.inr (SqT.of (R.same _ _ h2)),h3}
 ·cases e;unfold Tr at t;obtain⟨a,vs,h1,h2,h3⟩:=t;exact{a,vs,h1,.inl (h2.same R.same),h3}
 ·cases e;unfold Tr at t;obtain⟨a,vs,h1,h2,h3⟩:=t;exact{a,vs,h1,.inr (h2.same R.same),h3}
 ·split at e
  ·rename_i q;cases e;obtain⟨a,_,h2,_,_,vs,h5,h6⟩:=cu R t q (by intro z;cases z);exact{a,vs,h2,.inl (SqL.of h5),h6}
  cases e
 cases e
theorem pz(R:RS K G Z X H M)(t:Tr K Z X d v)(e:fY M d=Zh (ks,ds)):∃a kvs,v=.ref a/\H a=Zh (.dK kvs)/\kvs.map (·.1)=ks/\Trs K Z X ds (kvs.map (·.2)):=by
 unfold fY at e;split at e
 ·cases e;unfold Tr at t;obtain⟨a,vs,h1,h2,h4,h3⟩:=t;exact{a,vs,h1,R.same _ _ h2,h4,h3}
 ·split at e
  ·rename_i q;cases e;obtain⟨a,_,h2,_,_,vs,h5,h7,h6⟩:=cu R t q (by intro z;cases z);exact⟨a,vs,h2,h5,h7,h6⟩
  cases e
 cases e
theorem Az(R:RS K G Z X H M)(t:Tr K Z X d v)(e:Zt M d=Zh (C,fn,ds)):∃a dx fs,v=.ref a/\H a=Zh (.ins C dx fs)/\fs.map (·.1)=fn/\Trs K Z X ds (fs.map (·.2)):=by
 unfold Zt at e;split at e
 ·cases e;unfold Tr at t;obtain⟨a,dx,vs,h1,h2,h4,h3⟩:=t;exact{a,dx,vs,h1,R.same _ _ h2,h4,h3}
 ·split at e
  ·rename_i q;cases e;obtain⟨a,_,h2,_,_,dx,vs,h5,h7,h6⟩:=cu R t q (by intro z;cases z);exact⟨a,dx,vs,h2,h5,h7,h6⟩
  cases e
 cases e
end
abbrev RE:=SD->MS->Option D
abbrev RA:=SD->MS->Option (List D)
abbrev RT:=SD->MS->Option Bool
def Cn(K:Uw)(G:Ent)(Z:List Uu)(X:Hp)(M:MS)(d:D)(Q:VK):Prop:=∀X' H' v,br X X'->RS K G Z X' H' M->Tr K Z X' d v->Q v H'
def VE(K:Uw)(te:TE)(r:RE):Prop:=∀(G:Ent)(B:SD)(M:MS)(d:D)(Z:List Uu)(X H:Hp)(U:St)(Q:VK),r B M=Zh d->RS K G Z X H M->SR K Z X B U->Cn K G Z X M d Q->te U H Q
def VT(K:Uw)(te:TT)(r:RT):Prop:=∀(G:Ent)(B:SD)(M:MS)(b:Bool)(Z:List Uu)(X H:Hp)(U:St)(Q:Bool->Hp->Prop),r B M=Zh b->RS K G Z X H M->SR K Z X B U->(∀X' H',br X X'->RS K G Z X' H' M->Q b H')->te U H Q
def VA(K:Uw)(te:TA)(r:RA):Prop:=∀(G:Ent)(B:SD)(M:MS)(ds:List D)(Z:List Uu)(X H:Hp)(U:St)(Q:List V->Hp->Prop),r B M=Zh ds->RS K G Z X H M->SR K Z X B U->(∀X' H' vs,br X X'->RS K G Z X' H' M->Trs K Z X' ds vs->Q vs H')->te U H Q
def QE(X:Cx)(e:Expr)(r:RE):Prop:=∃te,PE X e te/\VE X.K te r
def QT(X:Cx)(e:Expr)(r:RT):Prop:=∃te,PT X e te/\VT X.K te r
def QW(X:Cx)(e:Expr)(r:RT):Prop:=∃te,PW X e te/\VT X.K te r
def QA(X:Cx)(es:List Expr)(r:RA):Prop:=∃te,PA X es te/\VA X.K te r
noncomputable def dV(i:Nat):RE:=λB _=>(B[i]?).getD Zi
noncomputable def dC(d:D):RE:=λ_ _=>Zh d
noncomputable def dOp(f:MS->D->D->Option D)(ra rb:RE):RE:=λB M=>(ra B M).bind λa=>(rb B M).bind λb=>f M a b
noncomputable def dUn(f:MS->D->Option D)(ra:RE):RE:=λB M=>(ra B M).bind λa=>f M a
noncomputable def dIf(c:RT)(ra rb:RE):RE:=λB M=>(c B M).bind λk=>if k=true then ra B M else rb B M
noncomputable def aK:RA:=λ_ _=>Zh []
noncomputable def ag(ra:RE)(rs:RA):RA:=λB M=>(ra B M).bind λa=>(rs B M).bind λas=>Zh (a::as)
noncomputable def aN(f:MS->List D->Option D)(ra:RA):RE:=λB M=>(ra B M).bind λas=>f M as
noncomputable def aB(f:MS->D->Option Bool)(ra:RE):RT:=λB M=>(ra B M).bind λa=>f M a
noncomputable def aY(a b:RT):RT:=λB M=>(a B M).bind λk=>if k=true then b B M else Zh false
noncomputable def dOr(a b:RT):RT:=λB M=>(a B M).bind λk=>if k=true then Zh true else b B M
noncomputable def aV(a:RT):RT:=λB M=>(a B M).bind λk=>Zh (!k)
noncomputable def dBl(a:RT):RE:=λB M=>(a B M).bind λk=>Zh (.bl k)
theorem bnd(h:o.bind f=Zh b):∃a,o=Zh a/\f a=Zh b:=by
 cases o with
 |none=>cases h
 |some a=>exact⟨a,rfl,h⟩
section
variable{X:Cx}
theorem MQ(K:Uw)(i:Nat):VE K (Hv i) (dV i):=λG B M d Z Xh H U Q e R S k=>by
 unfold dV at e;cases z:B[i]? with
 |none=>rw[z]at e;cases e
 |some o=>
  rw[z]at e;have e':o=Zh d:=e;subst e';obtain⟨v,h1,h2⟩:=S.var i d z;unfold Hv;rw[h1];exact k Xh H v (br.refl _) R h2
theorem qv(i:Nat)(hN:X.N[i]?=Zh x:=by rfl)(hv:Vis X.env.scope x:=by trivial)(hd:(x==("__debug__":Str))=false:=by decide)
  (hcd:(x==("__classdict__":Str))=false:=by decide):QE X (.Name x pos) (dV i):={_,fv i hN hv hd hcd,MQ _ i}
theorem w8(h:∀Z Xh,Tr K Z Xh d v):VE K (tC v) (dC d):=λG B M d' Z Xh H U Q e R S k=>by
 cases e;exact k Xh H v (br.refl _) R (h Z Xh)
theorem a8:QE X (.Constant (.int i) j pos) (dC (.int i)):={_,G3,w8 λ_ _=>by unfold Tr;rfl}
theorem bE:QE X (.Constant (.str x) j pos) (dC (.str x)):={_,DY,w8 λ_ _=>by unfold Tr;rfl}
theorem qbl:QE X (.Constant (.bool x) j pos) (dC (.bl x)):={_,N9,w8 λ_ _=>by unfold Tr;rfl}
theorem dq:QE X (.Constant .none j pos) (dC .non):={_,Mh,w8 λ_ _=>by unfold Tr;rfl}
theorem J6(h:∃t,X.mg x=Zh (.str z t))(hg:Gl X x:=by rfl)(hd:(x==("__debug__":Str))=false:=by decide):QE X (.Name x pos) (dC (.str z)):={_,ID h hg hd,w8 λ_ _=>by unfold Tr;rfl}
theorem my(h:∃t,X.mg x=Zh (.int z t))(hg:Gl X x:=by rfl)(hd:(x==("__debug__":Str))=false:=by decide):QE X (.Name x pos) (dC (.int z)):={_,IY h hg hd,w8 λ_ _=>by unfold Tr;rfl}
theorem cX(h:X.mg x=Zh (.ref a))(hg:Gl X x:=by rfl)(hd:(x==("__debug__":Str))=false:=by decide):QE X (.Name x pos) (dC (.adr a)):={_,og h hg hd,w8 λ_ _=>by unfold Tr;rfl}
def VOp(K:Uw)(r:R2)(f:MS->D->D->Option D):Prop:=∀(G:Ent)(M:MS)(a b d:D)(Z:List Uu)(X H:Hp)(x y:V)(Q:VK),f M a b=Zh d->RS K G Z X H M->Tr K Z X a x->Tr K Z X b y->Cn K G Z X M d Q->r x y H Q
theorem Cn.same{X X':Hp}{Q:VK}(k:Cn K G Z X M d Q)(s:br X X'):Cn K G Z X' M d Q:=λX2 H2 v s2 R t=>k X2 H2 v (s.trans s2) R t
theorem Bc(o:VOp K r f)(ha:VE K ta ra)(hb:VE K tb rb):VE K (tOp r ta tb) (dOp f ra rb):=λG B M d Z Xh H U Q e R S k=>by
 obtain⟨a,e1,e⟩:=bnd e;obtain⟨b,e2,e⟩:=bnd e;exact ha G B M a Z Xh H U _ e1 R S λX1 H1 x s1 R1 t1=>hb G B M b Z X1 H1 U _ e2 R1 (S.same s1) λX2 H2 y s2 R2 t2=>o G M a b d Z X2 H2 x y Q e R2 (t1.same s2) t2 (k.same (s1.trans s2))
variable{a b c:Expr}{ra rb rc:RE}{pos:Pos}
theorem qop(o:OpR X (Vw op) r)(v:VOp X.K r f)(ha:QE X a ra)(hb:QE X b rb):QE X (.BinOp a op b pos) (dOp f ra rb):=by
 obtain⟨ta,pa,va⟩:=ha;obtain⟨tb,pb,vb⟩:=hb;exact{_,Oq o pa pb,Bc v va vb}
theorem gU(o:OpR X (UH op) r)(v:VOp X.K r f)(ha:QE X a ra)(hb:QE X b rb)(hm:V9 op b=false:=by exact DL _):QE X (.Compare a [op] [b] pos) (dOp f ra rb):=by
 obtain⟨ta,pa,va⟩:=ha;obtain⟨tb,pb,vb⟩:=hb;exact{_,Ie o pa pb hm,Bc v va vb}
noncomputable def aC:MS->D->Option Bool:=λ_ d=>match d with
 | .bl k=>Zh k
 |_=>Zi
theorem bo(o:OpR X (UH op) r)(v:VOp X.K r f)(ha:QE X a ra)(hb:QE X b rb)(hm:V9 op b=false:=by exact DL _):QT X (.Compare a [op] [b] pos) (aB aC (dOp f ra rb)):=by
 obtain⟨ta,pa,va⟩:=ha;obtain⟨tb,pb,vb⟩:=hb;refine{_,HZ o pa pb hm,λG B M k Z Xh H U Q e R S q=>?_};obtain⟨d,e1,e⟩:=bnd e;refine Bc v va vb G B M d Z Xh H U _ e1 R S λX1 H1 x s1 R1 t1=>?_;unfold aC at e;split at e
 ·cases e;unfold Tr at t1;exact{_,t1,q X1 H1 s1 R1}
 cases e
noncomputable def dI(C:Int->Int->Bool)(g:Int->Int->D):MS->D->D->Option D:=λ_ a b=>match a,b with
 | .int i,.int j=>if C i j=true then Zh (g i j)else Zi
 |_,_=>Zi
theorem Ck(hC:∀i j,B0z i j=true->C i j)(hg:∀i j Z Xh,Tr K Z Xh (g' i j) (g i j)):VOp K (nJ C g) (dI B0z g'):=λG M a b d Z Xh H x y Q e R ta tb k=>by
 unfold dI at e;split at e
 ·split at e
  ·rename_i q;cases e;unfold Tr at ta tb;subst ta tb;exact{hC _ _ q,k Xh H _ (br.refl _) R (hg _ _ _ _)}
  cases e
 cases e
theorem tX(hg:∀i j Z Xh,Tr K Z Xh (g' i j) (g i j)):VOp K (eR g) (dI (λ_ _=>true) g'):=λG M a b d Z Xh H x y Q e R ta tb k=>by
 unfold dI at e;split at e
 ·split at e
  ·cases e;unfold Tr at ta tb;subst ta tb;exact k Xh H _ (br.refl _) R (hg _ _ _ _)
  cases e
 cases e
noncomputable abbrev tt2:Int->Int->Bool:=λ_ _=>true
theorem ZN:VOp K (eR λi j=>.int (i-j)) (dI tt2 λi j=>.int (i-j)):=tX λ_ _ _ _=>by unfold Tr;rfl
theorem ZM:VOp K (eR λi j=>.bl (decide (i<j))) (dI tt2 λi j=>.bl (decide (i<j))):=tX λ_ _ _ _=>by unfold Tr;rfl
theorem yB:VOp K (eR λi j=>.bl (decide (i<=j))) (dI tt2 λi j=>.bl (decide (i<=j))):=tX λ_ _ _ _=>by unfold Tr;rfl
theorem GZ:VOp K (eR λi j=>.bl (decide (j<i))) (dI tt2 λi j=>.bl (decide (j<i))):=tX λ_ _ _ _=>by unfold Tr;rfl
theorem Mw:VOp K (eR λi j=>.bl (decide (j<=i))) (dI tt2 λi j=>.bl (decide (j<=i))):=tX λ_ _ _ _=>by unfold Tr;rfl
noncomputable def bU:Int->Int->Bool:=λi j=>(decide (-(2^64)<i)&&decide (i<2^64))||(decide (-(2^64)<j)&&decide (j<2^64))
theorem ZE:VOp K (nJ GP λi j=>.int (i*j)) (dI bU λi j=>.int (i*j)):=Ck (λi j h=>by
 unfold bU at h;simp only[YI,Qs,decide_eq_true_eq]at h;exact h) λ_ _ _ _=>by unfold Tr;rfl
noncomputable def bV:Int->Int->Bool:=λ_ j=>decide (0<j)&&decide (j<2^64)
theorem fR:VOp K (nJ Gy λi j=>.int (i/j)) (dI bV λi j=>.int (i/j)):=Ck (λi j h=>by
 unfold bV at h;simp only[Qs,decide_eq_true_eq]at h;exact h) λ_ _ _ _=>by unfold Tr;rfl
noncomputable def bR:Int->Int->Bool:=λ_ j=>decide (0<j)
theorem Zp:VOp K (nJ (λ_ j=>0<j) λi j=>.int (i%j)) (dI bR λi j=>.int (i%j)):=Ck (λi j h=>of_decide_eq_true h) λ_ _ _ _=>by unfold Tr;rfl
noncomputable def bX:Int->Int->Bool:=λi j=>decide (0<=j)&&decide (j<=1000000)&&decide (i.natAbs<2^64)
theorem ZJ:VOp K (nJ My λi j=>.int (i^j.toNat)) (dI bX λi j=>.int (i^j.toNat)):=Ck (λi j h=>by
 unfold bX at h;simp only[Qs,decide_eq_true_eq]at h;exact⟨h.1.1,h.1.2,h.2⟩) λ_ _ _ _=>by unfold Tr;rfl
def en:MS->D->D->Option D:=λM a b=>match a,b with
 | .int i,.int j=>Zh (.int (i+j))
 | .str x,.str y=>if x.length+y.length<=sizeLine then Zh (.str (x++y))else Zi
 |a,b=>(hV M a).bind λxs=>(hV M b).bind λys=>if xs.length+ys.length<=sizeLine then Zh (.lst (xs++ys))else Zi
theorem Zn:VOp K Nx en:=λG M a b d Z Xh H x y Q e R ta tb k=>by
 unfold en at e;split at e
 ·cases e;unfold Tr at ta tb;subst ta tb;exact k Xh H _ (br.refl _) R (by unfold Tr;rfl)
 ·split at e
  ·rename_i q;cases e;unfold Tr at ta tb;subst ta tb;exact{q,k Xh H _ (br.refl _) R (by unfold Tr;rfl)}
  cases e
 obtain⟨xs,e1,e⟩:=bnd e;obtain⟨ys,e2,e⟩:=bnd e;split at e
 ·rename_i q;cases e;obtain⟨p,vs,rfl,h1,h2⟩:=wF R ta e1;obtain⟨p',us,rfl,h3,h4⟩:=wF R tb e2;refine{p,p',vs,us,rfl,rfl,h1,h3,by rw[h2.len,h4.len];exact q,λl hl=>?_};obtain⟨R1,s1,e3⟩:=R.alc hl (.lst (vs++us));exact k _ _ _ s1 R1 (by unfold Tr;exact{l,_,rfl,e3,(h2.app h4).same s1})
 cases e
noncomputable def dv:D->Bool
 | .non=>true
 |_=>false
def isN(neg:Bool):MS->D->D->Option D:=λ_ a b=>match b with
 | .non=>Zh (.bl (if neg then !dv a else dv a))
 |_=>Zi
theorem Tr.Fb{X:Hp}(t:Tr K Z X d v):(v=.non)↔d=.non:=by
 cases d<;>unfold Tr at t;case non=>exact{λ_=>rfl,λ_=>t}
 case bl=>subst t;exact{λz=>(by cases z),λz=>(by cases z)}
 case int=>subst t;exact{λz=>(by cases z),λz=>(by cases z)}
 case str=>subst t;exact{λz=>(by cases z),λz=>(by cases z)}
 case adr=>subst t;exact{λz=>(by cases z),λz=>(by cases z)}
 case ty=>subst t;exact{λz=>(by cases z),λz=>(by cases z)}
 case cell=>obtain⟨a,_,rfl⟩:=t;exact{λz=>(by cases z),λz=>(by cases z)}
 case tup=>obtain⟨a,_,rfl,_⟩:=t;exact{λz=>(by cases z),λz=>(by cases z)}
 case lst=>obtain⟨a,_,rfl,_⟩:=t;exact{λz=>(by cases z),λz=>(by cases z)}
 case sqt=>obtain⟨a,_,rfl,_⟩:=t;exact{λz=>(by cases z),λz=>(by cases z)}
 case sql=>obtain⟨a,_,rfl,_⟩:=t;exact{λz=>(by cases z),λz=>(by cases z)}
 case dic=>obtain⟨a,_,rfl,_⟩:=t;exact{λz=>(by cases z),λz=>(by cases z)}
 case dtt=>obtain⟨a,_,rfl,_⟩:=t;exact{λz=>(by cases z),λz=>(by cases z)}
 case obj=>obtain⟨a,_,_,rfl,_⟩:=t;exact{λz=>(by cases z),λz=>(by cases z)}
theorem DW{K:Uw}{Z:List Uu}{X:Hp}{a:D}{x:V}(t:Tr K Z X a x):dv a=decide (x=.non):=by
 by_cases h:x=.non
 ·rw[decide_eq_true h,t.Fb.mp h];rfl
 rw[decide_eq_false h];have h':a≠ .non:=λz=>h (t.Fb.mpr z);cases a<;>first|exact absurd rfl h'|rfl
theorem ZL:VOp K (λx y H Q=>y=.non/\Q (.bl (decide (x=.non))) H) (isN false):=λG M a b d Z Xh H x y Q e R ta tb k=>by
 unfold isN at e;split at e
 ·cases e;refine{by unfold Tr at tb;exact tb,k Xh H _ (br.refl _) R ?_};unfold Tr;rw[DW ta];rfl
 cases e
theorem wU:VOp K (λx y H Q=>y=.non/\Q (.bl (!decide (x=.non))) H) (isN true):=λG M a b d Z Xh H x y Q e R ta tb k=>by
 unfold isN at e;split at e
 ·cases e;refine{by unfold Tr at tb;exact tb,k Xh H _ (br.refl _) R ?_};unfold Tr;rw[DW ta];rfl
 cases e
end
section
variable{X:Cx}{a b c e:Expr}{es:List Expr}{ra rb rc:RE}{rs:RA}{qa qb:RT}{pos:Pos}
def aT:MS->D->Option Bool:=λM d=>match d with
 | .non=>Zh false
 | .bl k=>Zh k
 | .int i=>Zh (i !=0)
 | .str y=>if y.length<=sizeLine then Zh ((y.length:Int)!=0)else Zi
 | .dic ks _=>Zh (!ks.isEmpty)
 |d=>(ba M d).bind λds=>Zh (!ds.isEmpty)
theorem isE(h:Trs K Z Xh ds vs):vs.isEmpty=ds.isEmpty:=by
 cases ds with
 |nil=>unfold Trs at h;rw[h];rfl
 |cons d r=>unfold Trs at h;obtain⟨v,r,rfl,_⟩:=h;rfl
theorem EO(R:RS K G Z Xh H M)(t:Tr K Z Xh d v)(e:aT M d=Zh k):Mi K v H k:=by
 unfold aT at e;split at e
 ·cases e;unfold Tr at t;subst t;rfl
 ·cases e;unfold Tr at t;subst t;rfl
 ·cases e;unfold Tr at t;subst t;rfl
 ·split at e
  ·rename_i q;cases e;unfold Tr at t;subst t;exact⟨q,rfl⟩
  cases e
 ·cases e;unfold Tr at t;obtain⟨p,kvs,rfl,h1,h2,h3⟩:=t;refine .inr (.inr {kvs,R.same _ _ h1,?_});rw[<-h2,List.isEmpty_map]
 obtain⟨ds,e1,e⟩:=bnd e;cases e;obtain⟨p,vs,rfl,h1,h2⟩:=ny R t e1;rcases h1 with h1|h1
 ·exact .inl {vs,h1,by rw[isE h2]}
 exact .inr (.inl {vs,h1,by rw[isE h2]})
theorem cZ(ha:QE X a ra)(he:∀whole,isTrue a X.env whole=(do let v<-whole;V3 a.pos;Vv [v] (truthy v)):=by intro _;rfl):QT X a (aB aT ra):=by
 obtain⟨ta,pa,va⟩:=ha;refine{_,K0 pa he,λG B M k Z Xh H U Q e R S q=>?_};obtain⟨d,e1,e⟩:=bnd e;exact va G B M d Z Xh H U _ e1 R S λX1 H1 x s1 R1 t1=>⟨k,EO R1 t1 e,q X1 H1 s1 R1⟩
theorem B5(ha:QE X a ra):QE X (.UnaryOp .Not a pos) (dBl (aV (aB aT ra))):=by
 obtain⟨ta,pa,va⟩:=ha;refine{_,Ik pa,λG B M d Z Xh H U Q e R S q=>?_};obtain⟨k,e1,e⟩:=bnd e;obtain⟨k1,e2,e3⟩:=bnd e1;obtain⟨d1,e4,e5⟩:=bnd e2;cases e;cases e3;exact va G B M d1 Z Xh H U _ e4 R S λX1 H1 x s1 R1 t1=>{k1,EO R1 t1 e5,q X1 H1 _ s1 R1 (by unfold Tr;rfl)}
theorem QW.pt(h:QW X a qa):QT X a qa:=by
 obtain⟨t,p,v⟩:=h;exact⟨t,p.pt,v⟩
theorem d8(ha:QT X a qa):QW X (.BoolOp .And [a] pos) qa:=by
 obtain⟨t,p,v⟩:=ha;exact⟨t,pw_and1 p,v⟩
theorem eN(ha:QT X a qa):QW X (.BoolOp .Or [a] pos) qa:=by
 obtain⟨t,p,v⟩:=ha;exact⟨t,pw_or1 p,v⟩
theorem Mc(ha:VT K t qa)(hb:VT K u qb):VT K (NA t u) (aY qa qb):=λG B M k Z Xh H U Q e R S q=>by
 obtain⟨k1,e1,e⟩:=bnd e;refine ha G B M k1 Z Xh H U _ e1 R S λX1 H1 s1 R1=>?_;cases k1 with
 |true=>exact hb G B M k Z X1 H1 U _ e R1 (S.same s1) λX2 H2 s2 R2=>q X2 H2 (s1.trans s2) R2
 |false=>cases e;exact q X1 H1 s1 R1
theorem NM(ha:VT K t qa)(hb:VT K u qb):VT K (tOr t u) (dOr qa qb):=λG B M k Z Xh H U Q e R S q=>by
 obtain⟨k1,e1,e⟩:=bnd e;refine ha G B M k1 Z Xh H U _ e1 R S λX1 H1 s1 R1=>?_;cases k1 with
 |false=>exact hb G B M k Z X1 H1 U _ e R1 (S.same s1) λX2 H2 s2 R2=>q X2 H2 (s1.trans s2) R2
 |true=>cases e;exact q X1 H1 s1 R1
theorem fZ{rest:List Expr}(ha:QT X a qa)(hb:QW X (.BoolOp .And (b::rest) pos) qb):QW X (.BoolOp .And (a::b::rest) pos) (aY qa qb):=by
 obtain⟨t,p,v⟩:=ha;obtain⟨t',p',v'⟩:=hb;exact{_,pw_and p p',Mc v v'}
theorem ja{rest:List Expr}(ha:QT X a qa)(hb:QW X (.BoolOp .Or (b::rest) pos) qb):QW X (.BoolOp .Or (a::b::rest) pos) (dOr qa qb):=by
 obtain⟨t,p,v⟩:=ha;obtain⟨t',p',v'⟩:=hb;exact{_,pw_or p p',NM v v'}
theorem eG(ha:QT X a qa):QT X (.UnaryOp .Not a pos) (aV qa):=by
 obtain⟨t,p,v⟩:=ha;refine{_,L6 p,λG B M k Z Xh H U Q e R S q=>?_};obtain⟨k1,e1,e⟩:=bnd e;cases e;exact v G B M k1 Z Xh H U _ e1 R S λX1 H1 s1 R1=>q X1 H1 s1 R1
def aH(ra rb:RE):RE:=λB M=>(ra B M).bind λx=>(aC M x).bind λk=>if k=true then rb B M else Zh (.bl false)
def a5(ra rb:RE):RE:=λB M=>(ra B M).bind λx=>(aC M x).bind λk=>if k=true then Zh (.bl true)else rb B M
theorem Bz(t:Tr K Z Xh d v)(e:aC M d=Zh k):v=.bl k:=by
 unfold aC at e;split at e
 ·cases e;unfold Tr at t;exact t
 cases e
theorem gW(ha:QE X a ra):QE X (.BoolOp op [a] pos) ra:=by
 obtain⟨t,p,v⟩:=ha;exact⟨t,Lz p,v⟩
theorem dX{rest:List Expr}(ha:QE X a ra)(hb:QE X (.BoolOp .And (b::rest) pos) rb):QE X (.BoolOp .And (a::b::rest) pos) (aH ra rb):=by
 obtain⟨t,p,v⟩:=ha;obtain⟨t',p',v'⟩:=hb;refine{_,L1 p p',λG B M d Z Xh H U Q e R S q=>?_};obtain⟨x,e1,e⟩:=bnd e;obtain⟨k,e2,e⟩:=bnd e;refine v G B M x Z Xh H U _ e1 R S λX1 H1 y s1 R1 t1=>{k,Bz t1 e2,?_};cases k with
 |true=>exact v' G B M d Z X1 H1 U _ e R1 (S.same s1) (q.same s1)
 |false=>cases e;exact q X1 H1 _ s1 R1 (by unfold Tr;rfl)
theorem IK(hc:QT X c qa)(ha:QE X a ra)(hb:QE X b rb):QE X (.IfExp c a b pos) (dIf qa ra rb):=by
 obtain⟨tc,pc,vc⟩:=hc;obtain⟨t,p,v⟩:=ha;obtain⟨t',p',v'⟩:=hb;refine{_,En pc p p',λG B M d Z Xh H U Q e R S q=>?_};obtain⟨k,e1,e⟩:=bnd e;refine vc G B M k Z Xh H U _ e1 R S λX1 H1 s1 R1=>?_;cases k with
 |true=>exact v G B M d Z X1 H1 U _ e R1 (S.same s1) (q.same s1)
 |false=>exact v' G B M d Z X1 H1 U _ e R1 (S.same s1) (q.same s1)
theorem aA:QA X [] aK:={_,sr,λG B M ds Z Xh H U Q e R S q=>by cases e;exact q Xh H [] (br.refl _) R Trs.nil}
theorem aa(ha:QE X e ra)(hr:QA X es rs)(hs:Uv (e::es) X.env=(false,UO e X.env)::Uv es X.env:=by rfl):QA X (e::es) (ag ra rs):=by
 obtain⟨t,p,v⟩:=ha;obtain⟨t',p',v'⟩:=hr;refine{_,om p p' hs,λG B M ds Z Xh H U Q e R S q=>?_};obtain⟨x,e1,e⟩:=bnd e;obtain⟨xs,e2,e⟩:=bnd e;cases e;exact v G B M x Z Xh H U _ e1 R S λX1 H1 y s1 R1 t1=>v' G B M xs Z X1 H1 U _ e2 R1 (S.same s1) λX2 H2 ys s2 R2 t2=>q X2 H2 _ (s1.trans s2) R2 (Trs.cons (t1.same s2) t2)
noncomputable def aE:MS->List D->Option D:=λ_ ds=>if ds.length<=sizeLine then Zh (.tup ds)else Zi
noncomputable def aD:MS->List D->Option D:=λ_ ds=>if ds.length<=sizeLine then Zh (.lst ds)else Zi
theorem dH(h:QA X es rs):QE X (.Tuple es x1 pos) (aN aE rs):=by
 obtain⟨t,p,v⟩:=h;refine{_,E7 p,λG B M d Z Xh H U Q e R S q=>?_};obtain⟨xs,e1,e⟩:=bnd e;unfold aE at e;split at e
 ·rename_i z;cases e;refine v G B M xs Z Xh H U _ e1 R S λX1 H1 ys s1 R1 t1=>{by rw[t1.len];exact z,λl hl=>?_};obtain⟨R2,s2,e3⟩:=R1.alc hl (.tup ys);exact q _ _ _ (s1.trans s2) R2 (by unfold Tr;exact{l,_,rfl,e3,t1.same s2})
 cases e
theorem cF(h:QA X es rs):QE X (.List es pos) (aN aD rs):=by
 obtain⟨t,p,v⟩:=h;refine{_,GY p,λG B M d Z Xh H U Q e R S q=>?_};obtain⟨xs,e1,e⟩:=bnd e;unfold aD at e;split at e
 ·rename_i z;cases e;refine v G B M xs Z Xh H U _ e1 R S λX1 H1 ys s1 R1 t1=>{by rw[t1.len];exact z,λl hl=>?_};obtain⟨R2,s2,e3⟩:=R1.alc hl (.lst ys);exact q _ _ _ (s1.trans s2) R2 (by unfold Tr;exact{l,_,rfl,e3,t1.same s2})
 cases e
def df(K:Uw)(f:Str)(cs:List Uu):Prop:=∀C∈cs,Cls K C/\bx K C f
def cf(f:Str)(cs:List Uu):MS->D->Option D:=λM d=>(Zt M d).bind λo=>if o.1∈cs then(o.2.1.zip o.2.2).lookup f else Zi
theorem bJ(ok:df X.K f cs)(ha:QE X a ra)(hb:UR a f X.env (UO a X.env)=UO a X.env:=by rfl):QE X (.Attribute a f pos) (dUn (cf f cs) ra):=by
 obtain⟨t,p,v⟩:=ha;refine{_,KO p hb,λG B M d Z Xh H U Q e R S q=>?_};obtain⟨x,e1,e⟩:=bnd e;obtain⟨⟨C,fn,ds⟩,e2,e⟩:=bnd e;dsimp only at e;split at e
 ·rename_i hC;refine v G B M x Z Xh H U _ e1 R S λX1 H1 y s1 R1 t1=>?_;obtain⟨p',dx,fs,rfl,h1,h2,h3⟩:=Az R1 t1 e2;obtain⟨w,h4,h5⟩:=Trs.fld h2 h3 e;exact fdI h1 (ok C hC).1 (ok C hC).2 h4 (q X1 H1 w s1 R1 h5)
 cases e
end
noncomputable def vN:D->Option V
 | .non=>Zh .non
 | .bl b=>Zh (.bl b)
 | .int i=>Zh (.int i)
 | .str x=>Zh (.str x)
 |_=>Zi
theorem jv(t:Tr K Z Xh d v)(e:vN d=Zh x):v=x/\fB x=true:=by
 unfold vN at e;split at e
 ·cases e;unfold Tr at t;exact⟨t,rfl⟩
 ·cases e;unfold Tr at t;exact⟨t,rfl⟩
 ·cases e;unfold Tr at t;exact⟨t,rfl⟩
 ·cases e;unfold Tr at t;exact⟨t,rfl⟩
 cases e
def tH:List D->Option (List V)
 | []=>Zh []
 |d::ds=>(vN d).bind λv=>(tH ds).bind λvs=>Zh (v::vs)
theorem sP:∀{ds:List D}{vs xs:List V},Trs K Z Xh ds vs->tH ds=Zh xs->vs=xs/\xs.all fB=true
 | [],vs,xs,t,e=>by unfold Trs at t;cases e;exact⟨t,rfl⟩
 |d::ds,vs,xs,t,e=>by
  unfold Trs at t;obtain⟨v,r,rfl,t1,t2⟩:=t;obtain⟨x,e1,e⟩:=bnd e;obtain⟨ys,e2,e⟩:=bnd e;cases e;obtain⟨rfl,f1⟩:=jv t1 e1;obtain⟨rfl,f2⟩:=sP t2 e2;exact{rfl,by rw[So,f1,f2];rfl}
mutual
def ZF:D->Option WC
 | .non=>Zh .none
 | .bl b=>Zh (.bool b)
 | .int i=>Zh (.int i)
 | .str x=>Zh (.str x)
 | .lst ds=>(jP ds).bind λz=>Zh (.list z)
 | .sql ds=>(jP ds).bind λz=>Zh (.list z)
 | .tup ds=>(jP ds).bind λz=>Zh (.tuple z)
 | .sqt ds=>(jP ds).bind λz=>Zh (.tuple z)
 |_=>Zi
def jP:List D->Option (List WC)
 | []=>Zh []
 |d::ds=>(ZF d).bind λz=>(jP ds).bind λzs=>Zh (z::zs)
end
def vk(M:MS)(d:D):Option WC:=match d with
 | .cell n=>(hV M (.cell n)).bind λds=>(jP ds).bind λz=>Zh (.list z)
 |d=>ZF d
section
variable{K:Uw}{Z:List Uu}{Xh H:Hp}
mutual
theorem Bd(s:br Xh H):∀(d:D)(v:V)(z:WC),Tr K Z Xh d v->ZF d=Zh z->gY K H v z
 | .non,v,z,t,e=>by unfold Tr at t;unfold ZF at e;cases e;subst t;exact .non
 | .bl b,v,z,t,e=>by unfold Tr at t;unfold ZF at e;cases e;subst t;exact .bl b
 | .int b,v,z,t,e=>by unfold Tr at t;unfold ZF at e;cases e;subst t;exact .int b
 | .str b,v,z,t,e=>by unfold Tr at t;unfold ZF at e;cases e;subst t;exact .str b
 | .lst ds,v,z,t,e=>by unfold Tr at t;unfold ZF at e;obtain⟨zs,e1,e⟩:=bnd e;cases e;obtain⟨a,vs,rfl,h1,h2⟩:=t;exact .lst (SqL.of (s _ _ h1)) (jb s ds vs zs h2 e1)
 | .sql ds,v,z,t,e=>by unfold Tr at t;unfold ZF at e;obtain⟨zs,e1,e⟩:=bnd e;cases e;obtain⟨a,vs,rfl,h1,h2⟩:=t;exact .lst (h1.same s) (jb s ds vs zs h2 e1)
 | .tup ds,v,z,t,e=>by unfold Tr at t;unfold ZF at e;obtain⟨zs,e1,e⟩:=bnd e;cases e;obtain⟨a,vs,rfl,h1,h2⟩:=t;exact .tup (SqT.of (s _ _ h1)) (jb s ds vs zs h2 e1)
 | .sqt ds,v,z,t,e=>by unfold Tr at t;unfold ZF at e;obtain⟨zs,e1,e⟩:=bnd e;cases e;obtain⟨a,vs,rfl,h1,h2⟩:=t;exact .tup (h1.same s) (jb s ds vs zs h2 e1)
 | .adr _,v,z,t,e| .ty _,v,z,t,e| .cell _,v,z,t,e| .dic _ _,v,z,t,e| .dtt _ _,v,z,t,e| .obj _ _ _,v,z,t,e=>by unfold ZF at e;cases e
theorem jb(s:br Xh H):∀(ds:List D)(vs:List V)(zs:List WC),Trs K Z Xh ds vs->jP ds=Zh zs->nB K H vs zs
 | [],vs,zs,t,e=>by unfold Trs at t;unfold jP at e;cases e;subst t;exact .nil
 |d::ds,vs,zs,t,e=>by
  unfold Trs at t;unfold jP at e;obtain⟨v,r,rfl,t1,t2⟩:=t;obtain⟨z,e1,e⟩:=bnd e;obtain⟨zs,e2,e⟩:=bnd e;cases e;exact .cons (Bd s d v z t1 e1) (jb s ds r zs t2 e2)
end
theorem nS(R:RS K G Z Xh H M)(t:Tr K Z Xh d v)(e:vk M d=Zh z):gY K H v z:=by
 unfold vk at e;split at e
 ·obtain⟨ds,e1,e⟩:=bnd e;obtain⟨zs,e2,e⟩:=bnd e;cases e;obtain⟨a,vs,rfl,h1,h2⟩:=wF R t e1;exact .lst (SqL.of h1) (jb R.same ds vs zs h2 e2)
 exact Bd R.same _ _ _ t e
end
def eqD(neg:Bool):MS->D->D->Option D:=λM a b=>match vN a,vN b with
 |some x,Zh y=>if Mn x y=true then Zh (.bl (if neg then !decide (x=y)else decide (x=y)))else Zi
 |_,_=>(vk M a).bind λd=>(vk M b).bind λe=>if(UX d&&UX e)=true then Zh (.bl (if neg then !PyData.eqv d e else WS d e))else Zi
section
open PySem.Spec PyProof.Rows
variable{X:Cx}
theorem NH(hu:X.A.units+64<Vy):OpR X (UH .Eq) (λx y H Q=>∃d e,gY X.K H x d/\gY X.K H y e/\UX d=true/\UX e=true/\Q (.bl (WS d e)) H):=by
 intro pins s B H x y v u Q I rx ry h;obtain⟨d,e,hd,he,sd,se,hq⟩:=h;obtain⟨as,z1⟩:=I.reads hd rx;obtain⟨bs,z2⟩:=I.reads he ry;exact eq_dataH z1 z2 sd se hu {.bl _,H,I,rfl,hq}
theorem oeq(hu:X.A.units+64<Vy):OpR X (UH .Eq) (λx y H Q=>rEq x y H Q\/∃d e,gY X.K H x d/\gY X.K H y e/\UX d=true/\UX e=true/\Q (.bl (WS d e)) H):=NW.or (NH hu)
theorem one(hu:X.A.units+64<Vy):OpR X (UH .NotEq) (λx y H Q=>rNe x y H Q\/∃d e,gY X.K H x d/\gY X.K H y e/\UX d=true/\UX e=true/\Q (.bl (!PyData.eqv d e)) H):=ND.or (Nu hu)
end
section
variable{K:Uw}
theorem Zo:VOp K (λx y H Q=>rEq x y H Q\/∃d e,gY K H x d/\gY K H y e/\UX d=true/\UX e=true/\Q (.bl (WS d e)) H) (eqD false):=λG M a b d Z Xh H x y Q e R ta tb k=>by
 unfold eqD at e;split at e
 ·rename_i e1 e2;split at e
  ·rename_i h;cases e;obtain⟨rfl,_⟩:=jv ta e1;obtain⟨rfl,_⟩:=jv tb e2;exact .inl {h,k Xh H _ (br.refl _) R (by unfold Tr;rfl)}
  cases e
 obtain⟨z,e1,e⟩:=bnd e;obtain⟨z',e2,e⟩:=bnd e;split at e
 ·rename_i h;cases e;rw[Qs]at h;exact .inr {z,z',nS R ta e1,nS R tb e2,h.1,h.2,k Xh H _ (br.refl _) R (by unfold Tr;rfl)}
 cases e
theorem su:VOp K (λx y H Q=>rNe x y H Q\/∃d e,gY K H x d/\gY K H y e/\UX d=true/\UX e=true/\Q (.bl (!PyData.eqv d e)) H) (eqD true):=λG M a b d Z Xh H x y Q e R ta tb k=>by
 unfold eqD at e;split at e
 ·rename_i e1 e2;split at e
  ·rename_i h;cases e;obtain⟨rfl,_⟩:=jv ta e1;obtain⟨rfl,_⟩:=jv tb e2;exact .inl {h,k Xh H _ (br.refl _) R (by unfold Tr;rfl)}
  cases e
 obtain⟨z,e1,e⟩:=bnd e;obtain⟨z',e2,e⟩:=bnd e;split at e
 ·rename_i h;cases e;rw[Qs]at h;exact .inr {z,z',nS R ta e1,nS R tb e2,h.1,h.2,k Xh H _ (br.refl _) R (by unfold Tr;rfl)}
 cases e
noncomputable def iL{κ:Type}[DecidableEq κ](ks:List κ)(ds:List D)(k:κ):Option D:=((ks.zip ds).find? λkv=>decide (kv.1=k)).map (·.2)
theorem sV{κ:Type}[DecidableEq κ]:∀{kvs:List (κ×V)}{ds:List D}(k:κ),Trs K Z Xh ds (kvs.map (·.2))->(∀d,iL (kvs.map (·.1)) ds k=Zh d->∃v,nA kvs k=Zh v/\Tr K Z Xh d v)/\(iL (kvs.map (·.1)) ds k=Zi->nA kvs k=Zi)
 | [],ds,k,t=>{λd h=>(by cases h),λ_=>rfl}
 | (k',v)::kvs,ds,k,t=>by
  cases ds with
  |nil=>unfold Trs at t;cases t
  |cons d ds=>
   unfold Trs at t;obtain⟨v',r,e,t1,t2⟩:=t;cases e;have ih:=sV (kvs:=kvs) (ds:=ds) k t2;unfold iL nA at ih⊢;rw[Qc,Sn,Q9,Q9];by_cases h:k'=k
   ·simp only[h,decide_true];exact{λd' e=>by cases e;exact⟨v,rfl,t1⟩,λe=>by cases e}
   simp only[h,decide_false];exact ih
def yA:D->Option Key
 | .int i=>Zh (.inl i)
 | .str x=>Zh (.inr x)
 |_=>Zi
theorem sU(t:Tr K Z Xh d v)(e:yA d=Zh k):v=kV k:=by
 unfold yA at e;split at e
 ·cases e;unfold Tr at t;exact t
 ·cases e;unfold Tr at t;exact t
 cases e
def ixD:MS->D->D->Option D:=λM a b=>match a,b with
 | .str z,.int i=>if z.length<=sizeLine then(atI z.cps.toList i).bind λc=>Zh (.str ⟨#[c]⟩)else Zi
 |a,b=>match ba M a,b with
  |some ds,.int i=>atI ds i
  |_,b=>(fY M a).bind λkd=>(yA b).bind λk=>iL kd.1 kd.2 k
theorem Nk(t:Trs K Z Xh ds vs)(e:atI ds i=Zh d):∃v,atI vs i=Zh v/\Tr K Z Xh d v:=by
 unfold atI at e⊢;rw[t.len];obtain⟨j,e1,e⟩:=bnd e;rw[e1];exact t.at e
theorem Pj:VOp K (OE K) ixD:=λG M a b d Z Xh H x y Q e R ta tb k=>by
 unfold ixD at e;split at e
 ·split at e
  ·rename_i q;obtain⟨c,e1,e⟩:=bnd e;cases e;unfold Tr at ta tb;subst ta tb;exact{c,q,e1,k Xh H _ (br.refl _) R (by unfold Tr;rfl)}
  cases e
 split at e
 ·rename_i e1 _;obtain⟨p,vs,rfl,h1,h2⟩:=ny R ta e1;obtain⟨v,h3,h4⟩:=Nk h2 e;unfold Tr at tb;subst tb;exact .inl {vs,v,h1,h3,k Xh H _ (br.refl _) R h4}
 obtain⟨⟨ks,ds⟩,e1,e⟩:=bnd e;obtain⟨ky,e2,e⟩:=bnd e;obtain⟨p,kvs,rfl,h1,rfl,h3⟩:=pz R ta e1;obtain⟨v,h4,h5⟩:=(sV ky h3).1 d e;have h6:=sU tb e2;subst h6;have h7:gR H p (kV ky) (Zh v):=h4▸gR.k h1;cases ky with
 |inl i=>exact .inr {v,h7,k Xh H _ (br.refl _) R h5}
 |inr s=>exact{v,h7,k Xh H _ (br.refl _) R h5}
def inD(neg:Bool):MS->D->D->Option D:=λM a b=>match ba M b with
 |some ds=>(vN a).bind λx=>(tH ds).bind λxs=>Zh (.bl (if neg then !inV x xs else inV x xs))
 |none=>(fY M b).bind λkd=>(yA a).bind λk=>Zh (.bl (if neg then !(iL kd.1 kd.2 k).isSome else(iL kd.1 kd.2 k).isSome))
theorem yW{κ:Type}[DecidableEq κ]{Z:List Uu}{Xh:Hp}{kvs:List (κ×V)}{ds:List D}(k:κ)(t:Trs K Z Xh ds (kvs.map (·.2))):(iL (kvs.map (·.1)) ds k).isSome=(nA kvs k).isSome:=by
 have h:=sV k t;cases e:iL (kvs.map (·.1)) ds k with
 |none=>rw[h.2 e];rfl
 |some d=>obtain⟨v,h1,_⟩:=h.1 d e;rw[h1];rfl
theorem PX:VOp K (λx y H Q=>fIn K false x y H Q\/∃a o,y=.ref a/\gR H a x o/\Q (.bl o.isSome) H) (inD false):=λG M a b d Z Xh H x y Q e R ta tb k=>by
 unfold inD at e;split at e
 ·rename_i e0;obtain⟨x',e1,e⟩:=bnd e;obtain⟨xs,e2,e⟩:=bnd e;cases e;obtain⟨p,vs,rfl,h1,h2⟩:=ny R tb e0;obtain⟨rfl,f1⟩:=jv ta e1;obtain⟨rfl,f2⟩:=sP h2 e2;exact .inl {_,h1,f1,f2,k Xh H _ (br.refl _) R (by unfold Tr;rfl)}
 obtain⟨⟨ks,ds⟩,e1,e⟩:=bnd e;obtain⟨ky,e2,e⟩:=bnd e;cases e;obtain⟨p,kvs,rfl,h1,rfl,h3⟩:=pz R tb e1;have h6:=sU ta e2;subst h6;exact .inr {p,_,rfl,gR.k h1,k Xh H _ (br.refl _) R (by unfold Tr;rw[yW ky h3];rfl)}
theorem IJ:VOp K (λx y H Q=>fIn K true x y H Q\/∃a o,y=.ref a/\gR H a x o/\Q (.bl (!o.isSome)) H) (inD true):=λG M a b d Z Xh H x y Q e R ta tb k=>by
 unfold inD at e;split at e
 ·rename_i e0;obtain⟨x',e1,e⟩:=bnd e;obtain⟨xs,e2,e⟩:=bnd e;cases e;obtain⟨p,vs,rfl,h1,h2⟩:=ny R tb e0;obtain⟨rfl,f1⟩:=jv ta e1;obtain⟨rfl,f2⟩:=sP h2 e2;exact .inl {_,h1,f1,f2,k Xh H _ (br.refl _) R (by unfold Tr;rfl)}
 obtain⟨⟨ks,ds⟩,e1,e⟩:=bnd e;obtain⟨ky,e2,e⟩:=bnd e;cases e;obtain⟨p,kvs,rfl,h1,rfl,h3⟩:=pz R tb e1;have h6:=sU ta e2;subst h6;exact .inr {p,_,rfl,gR.k h1,k Xh H _ (br.refl _) R (by unfold Tr;rw[yW ky h3];rfl)}
end
section
variable{X:Cx}{a b:Expr}{ra rb:RE}{pos:Pos}
theorem qix(hu:X.A.units+64<Vy)(ha:QE X a ra)(hb:QE X b rb)(hs:Cr b:=by exact λ_ _=>rfl):QE X (.Subscript a b pos) (dOp ixD ra rb):=by
 obtain⟨t,p,v⟩:=ha;obtain⟨t',p',v'⟩:=hb;exact{_,OH (Lh hu) p p' hs,Bc Pj v v'}
def g8(K:Uw)(r:List V->Hp->VK->Prop)(f:MS->List D->Option D):Prop:=∀(G:Ent)(M:MS)(ds:List D)(d:D)(Z:List Uu)(X H:Hp)(vs:List V)(Q:VK),f M ds=Zh d->RS K G Z X H M->Trs K Z X ds vs->Cn K G Z X M d Q->r vs H Q
theorem Gh(o:g8 K r f)(ha:VA K t rs):VE K (tCB r t) (aN f rs):=λG B M d Z Xh H U Q e R S k=>by
 obtain⟨ds,e1,e⟩:=bnd e;exact ha G B M ds Z Xh H U _ e1 R S λX1 H1 vs s1 R1 t1=>o G M ds d Z X1 H1 vs Q e R1 t1 (k.same s1)
variable{x:Str}{e:Expr}{es:List Expr}{rs:RA}{p:Pos}{r:List V->Hp->VK->Prop}{f:MS->List D->Option D}
theorem qcB{id:String}(hc:dE X (.builtin id) r)(o:g8 X.K r f)(hm:X.mg x=Zi)(ha:QA X (e::es) rs)(hg:Gl X x:=by rfl)(hv:Vj x=Zh (.builtin id):=by boot_by_name)(hn:x≠"__name__":=by decide)(hdb:(x==("__debug__":Str))=false:=by decide)(he:Uv (e::es) X.env=(false,UO e X.env)::Uv es X.env:=by rfl)(hpl:(UM pos (Uv es X.env)).any (·.1)=false:=by rfl):QE X (.Call (.Name x p) (e::es) [] pos) (aN f rs):=by
 obtain⟨t,pa,va⟩:=ha;exact{_,DR hc hg hm hv pa hn hdb he hpl,Gh o va}
theorem qcT(hc:dE X (.type T) r)(o:g8 X.K r f)(hm:X.mg x=Zi)(ha:QA X (e::es) rs)(hg:Gl X x:=by rfl)(hv:Vj x=Zh (.type T):=by boot_by_name)(hn:x≠"__name__":=by decide)(hdb:(x==("__debug__":Str))=false:=by decide)(he:Uv (e::es) X.env=(false,UO e X.env)::Uv es X.env:=by rfl)(hpl:(UM pos (Uv es X.env)).any (·.1)=false:=by rfl):QE X (.Call (.Name x p) (e::es) [] pos) (aN f rs):=by
 obtain⟨t,pa,va⟩:=ha;exact{_,vg hc hg hm hv pa hn hdb he hpl,Gh o va}
theorem j3(t:Trs K Z Xh [d] vs):∃v,vs=[v]/\Tr K Z Xh d v:=by
 unfold Trs at t;obtain⟨v,r,rfl,h,t⟩:=t;unfold Trs at t;subst t;exact⟨v,rfl,h⟩
theorem N4(t:Trs K Z Xh [d,d'] vs):∃v v',vs=[v,v']/\Tr K Z Xh d v/\Tr K Z Xh d' v':=by
 unfold Trs at t;obtain⟨v,r,rfl,h,t⟩:=t;obtain⟨v',rfl,h'⟩:=j3 t;exact⟨v,v',rfl,h,h'⟩
def eP:MS->List D->Option D:=λM ds=>match ds with
 | [.str y]=>if y.length<=sizeLine then Zh (.int (y.length:Nat))else Zi
 | [d]=>match ba M d with
  |some xs=>Zh (.int (xs.length:Nat))
  |none=>(fY M d).bind λkd=>Zh (.int (kd.1.length:Nat))
 |_=>Zi
theorem cO:g8 K (λxs H Q=>Hx K xs H Q\/Kf xs H Q) eP:=λG M ds d Z Xh H vs Q e R t k=>by
 unfold eP at e;split at e
 ·split at e
  ·rename_i q;cases e;replace t:=j3 t;obtain⟨v,rfl,t⟩:=t;unfold Tr at t;subst t;exact .inl {_,_,rfl,⟨q,rfl⟩,k Xh H _ (br.refl _) R (by unfold Tr;rfl)}
  cases e
 ·replace t:=j3 t;obtain⟨v,rfl,t⟩:=t;split at e
  ·rename_i e1;cases e;obtain⟨p,us,rfl,h1,h2⟩:=ny R t e1;refine .inl {_,us.length,rfl,?_,k Xh H _ (br.refl _) R (by unfold Tr;rw[h2.len])};rcases h1 with h1|h1
   ·exact .inl ⟨us,h1,rfl⟩
   exact .inr ⟨us,h1,rfl⟩
  obtain⟨⟨ks,xs⟩,e1,e⟩:=bnd e;cases e;obtain⟨p,kvs,rfl,h1,rfl,h3⟩:=pz R t e1;exact .inr {p,kvs,rfl,.inl h1,k Xh H _ (br.refl _) R (by unfold Tr;rw[P8])}
 cases e
def J0:MS->List D->Option D:=λM ds=>match ds with
 | [d]=>(ba M d).bind λxs=>Zh (.lst xs)
 |_=>Zi
theorem FW:g8 K (λxs H Q=>∃p ys,xs=[.ref p]/\(SqL K H p ys\/SqT K H p ys)/\∀l,H l=Zi->Q (.ref l) (upd H l (.lst ys))) J0:=λG M ds d Z Xh H vs Q e R t k=>by
 unfold J0 at e;split at e
 ·obtain⟨xs,e1,e⟩:=bnd e;cases e;replace t:=j3 t;obtain⟨v,rfl,t⟩:=t;obtain⟨p,us,rfl,h1,h2⟩:=ny R t e1;refine{p,us,rfl,h1,λl hl=>?_};obtain⟨R2,s2,e3⟩:=R.alc hl (.lst us);exact k _ _ _ s2 R2 (by unfold Tr;exact{l,_,rfl,e3,h2.same s2})
 cases e
noncomputable def CP:MS->List D->Option D:=λM ds=>match ds with
 | [.int i]=>if i.natAbs.log2<1920 then Zh (.str (toString i:String))else Zi
 | [.str x]=>Zh (.str x)
 |_=>Zi
theorem JN:g8 K (λxs H Q=>(∃i,xs=[.int i]/\i.natAbs.log2<1920/\Q (.str (toString i)) H)\/∃x,xs=[.str x]/\Q (.str x) H) CP:=λG M ds d Z Xh H vs Q e R t k=>by
 unfold CP at e;split at e
 ·split at e
  ·rename_i q;cases e;replace t:=j3 t;obtain⟨v,rfl,t⟩:=t;unfold Tr at t;subst t;exact .inl {_,rfl,q,k Xh H _ (br.refl _) R (by unfold Tr;rfl)}
  cases e
 ·cases e;replace t:=j3 t;obtain⟨v,rfl,t⟩:=t;unfold Tr at t;subst t;exact .inr {_,rfl,k Xh H _ (br.refl _) R (by unfold Tr;rfl)}
 cases e
end
section
variable{K:Uw}{G:Ent}{Z:List Uu}{X X' H H':Hp}{M:MS}{p:Uu}{o o':HO}
structure Off(G:Ent)(Z:List Uu)(X:Hp)(p:Uu):Prop where
 x:X p=Zi
 y:G.Y p=Zi
 r:∀n:Nat,Z[n]?≠Zh p
theorem Off.ne(a:Off G Z X p){n:Nat}{b:Uu}(e:Z[n]?=Zh b):b≠p:=λz=>a.r n (by rw[e,z])
theorem RS.fresh(R:RS K G Z X H M)(h:H p=Zi):Off G Z X p:=by
 refine{br.free R.same h,br.free R.y h,λn e=>R.live n p e h}
theorem RS.pin(R:RS K G Z X H M)(a:Off G Z X p)(h:H p=Zh o):RS K ⟨X,upd G.Y p o⟩ Z X H M where
 same:=R.same
 x0:=br.refl _
 y:=λb u e=>by
  by_cases z:b=p
  ·subst z;have e':upd G.Y b o b=Zh u:=e;rw[bI]at e';cases e';exact h
  have e':upd G.Y p o b=Zh u:=e;rw[bN z]at e';exact R.y _ _ e'
 nw:=λa h=>.inl h
 len:=R.len
 live:=R.live
 nd:=R.nd
 ob:=λn b u h1 h2 h3=>by
  obtain⟨h4,h5,h6⟩:=R.ob n b u h1 h2 h3;exact{h4,by show upd G.Y p o b=Zi;rw[bN (a.ne h1)];exact h5,h6}
theorem RS.JP(N:RS K ⟨X,upd G.Y p o⟩ Z X' H' M)(R:RS K G Z X H M)(a:Off G Z X p):RS K G Z X' H' M/\H' p=Zh o/\Off G Z X' p:=by
 have xp:X' p=Zi:=by
  cases q:X' p with
  |none=>rfl
  |some u=>
   rcases N.nw p (by rw[q];intro z;cases z)with z|z
   ·exact absurd a.x z
   have z':upd G.Y p o p=Zi:=z;rw[bI]at z';cases z'
 refine{{N.same,R.x0.trans N.x0,λb u e=>?_,λb h=>?_,N.len,N.live,N.nd,λn b u h1 h2 h3=>?_},N.y p o bI,⟨xp,a.y,a.r⟩}
 ·refine N.y b u ?_;show upd G.Y p o b=Zh u;rw[bN (λz=>by rw[z,a.y]at e;cases e)];exact e
 ·rcases N.nw b h with z|z
  ·exact R.nw b z
  by_cases q:b=p
  ·subst q;exact absurd xp h
  have z':upd G.Y p o b=Zi:=z;rw[bN q]at z';exact .inr z'
 obtain⟨h4,h5,h6⟩:=N.ob n b u h1 h2 h3;have h5':upd G.Y p o b=Zi:=h5;rw[bN (a.ne h1)]at h5';exact⟨h4,h5',h6⟩
theorem RS.off(R:RS K G Z X H M)(a:Off G Z X p)(o:HO):RS K G Z X (upd H p o) M where
 same:=λb u e=>by rw[bN (λz=>by rw[z,a.x]at e;cases e)];exact R.same _ _ e
 x0:=R.x0
 y:=λb u e=>by rw[bN (λz=>by rw[z,a.y]at e;cases e)];exact R.y _ _ e
 nw:=R.nw
 len:=R.len
 live:=λn b e=>by rw[bN (a.ne e)];exact R.live n b e
 nd:=R.nd
 ob:=λn b u h1 h2 h3=>by
  obtain⟨h4,h5,h6⟩:=R.ob n b u h1 h2 h3;exact{h4,h5,h6.mono (λ_ _ e=>e) (br.refl _) λq e=>by rw[bN (a.ne h1)];exact e}
theorem RS.frz(R:RS K G Z X H M)(a:Off G Z X p)(h:H p=Zh o):RS K G Z (upd X p o) H M where
 same:=λb u e=>by
  by_cases z:b=p
  ·subst z;rw[bI]at e;cases e;exact h
  rw[bN z]at e;exact R.same _ _ e
 x0:=R.x0.trans (br.upd a.x o)
 y:=R.y
 nw:=λb q=>by
  by_cases z:b=p
  ·subst z;exact .inr a.y
  rw[bN z]at q;exact R.nw b q
 len:=R.len
 live:=R.live
 nd:=R.nd
 ob:=λn b u h1 h2 h3=>by
  obtain⟨h4,h5,h6⟩:=R.ob n b u h1 h2 h3;exact{by rw[bN (a.ne h1)];exact h4,h5,h6.mono (λ_ _ e=>e) (br.upd a.x o) λq e=>e}
structure LX(K:Uw)(Z:List Uu)(X:Hp)(M:MS)(fx:Bool)(J:It)(ds:List D):Prop where
 go:∀(G2:Ent)(ρ2:List Uu)(X2 H2:Hp)(M2:MS)(i:Nat)(d:D),Pre Z ρ2->br X X2->RS K G2 ρ2 X2 H2 M2->(fx=true->M2=M)->ds[i]?=Zh d->J.go i H2/\∀x H3,J.yld i H2 x H3->∃X3,br X2 X3/\RS K G2 ρ2 X3 H3 M2/\Tr K ρ2 X3 d x
 stop:∀(G2:Ent)(ρ2:List Uu)(X2 H2:Hp)(M2:MS)(i:Nat),Pre Z ρ2->br X X2->RS K G2 ρ2 X2 H2 M2->(fx=true->M2=M)->ds.length<=i->J.stop i H2
end
abbrev RI:=SD->MS->Option (List D)
def VI(K:Uw)(wi:TI)(fx:Bool)(r:RI):Prop:=∀(G:Ent)(B:SD)(M:MS)(ds:List D)(Z:List Uu)(X H:Hp)(U:St)(R:It->Hp->Prop),r B M=Zh ds->RS K G Z X H M->SR K Z X B U->(∀J X' H',br X X'->RS K G Z X' H' M->LX K Z X' M fx J ds->R J H')->wi U H R
def QI(X:Cx)(tg iter:Expr)(fx:Bool)(r:RI):Prop:=∃wi,PI X tg iter wi/\VI X.K wi fx r
def bM(fx:Bool)(M:MS)(d:D):Option (List D):=match d with
 | .cell n=>if fx=true then ba M (.cell n)else Zi
 |d=>ba M d
noncomputable def isTup:D->Bool
 | .tup _=>true
 | .sqt _=>true
 |_=>false
theorem gg(e:bM fx M d=Zh ds)(R:RS K G Z X H M)(t:Tr K Z X d v):∃a vs,v=.ref a/\(if isTup d=true then SqT K H a vs else SqL K H a vs)/\Trs K Z X ds vs:=by
 unfold bM at e;split at e
 ·split at e
  ·unfold ba at e;dsimp only at e;split at e
   ·rename_i q;cases e;obtain⟨a,_,h2,_,_,vs,h5,h6⟩:=cu R t q (by intro z;cases z);exact⟨a,vs,h2,SqL.of h5,h6⟩
   cases e
  cases e
 unfold ba at e;split at e
 ·cases e;unfold Tr at t;obtain⟨a,vs,h1,h2,h3⟩:=t;exact{a,vs,h1,(SqL.of (R.same _ _ h2)),h3}
 ·cases e;unfold Tr at t;obtain⟨a,vs,h1,h2,h3⟩:=t;exact{a,vs,h1,(SqT.of (R.same _ _ h2)),h3}
 ·cases e;unfold Tr at t;obtain⟨a,vs,h1,h2,h3⟩:=t;exact{a,vs,h1,(h2.same R.same),h3}
 ·cases e;unfold Tr at t;obtain⟨a,vs,h1,h2,h3⟩:=t;exact{a,vs,h1,(h2.same R.same),h3}
 ·exact(by simp_all)
 cases e
theorem pW{fx:Bool}{M M2:MS}{d:D}(h:fx=true->M2=M):bM fx M2 d=bM fx M d:=by
 cases fx with
 |true=>rw[h rfl]
 |false=>unfold bM;cases d<;>rfl
section
variable{X:Cx}{tg l:Expr}{rl:RE}
def dIt(fx:Bool)(ra:RE):RI:=λB M=>(ra B M).bind λd=>bM fx M d
theorem An(t:Trs K Z Xh ds vs)(h:ds.length<=i):vs.length<=i:=by rw[t.len];exact h
theorem qit(fx:Bool)(hl:QE X l rl):QI X tg l fx (dIt fx rl):=by
 obtain⟨t,p,v⟩:=hl;refine{_,Au p,λG B M ds Z Xh H U R' e R S k=>?_};obtain⟨d,e1,e⟩:=bnd e;refine v G B M d Z Xh H U _ e1 R S λX1 H1 x s1 R1 t1=>?_;obtain⟨a,vs,rfl,h1,h2⟩:=gg e R1 t1;cases c:isTup d with
 |false=>
  rw[c]at h1;refine .inl {⟨vs,h1⟩,k _ X1 H1 s1 R1 {λG2 ρ2 X2 H2 M2 i d' hp s2 R2 hM ed=>?_,λG2 ρ2 X2 H2 M2 i hp s2 R2 hM el=>?_}}
  ·obtain⟨a2,vs2,e2,h3,h4⟩:=gg ((pW hM).trans e) R2 (Tr.mono hp s2 _ _ t1);cases e2;rw[c]at h3;obtain⟨w,h5,h6⟩:=h4.at ed;refine{⟨vs2,w,h3,h5⟩,λx H3 hy=>?_};obtain⟨rfl,hy⟩:=hy;have:=hy vs2 h3;rw[h5]at this;cases this;exact{X2,br.refl _,R2,h6}
  obtain⟨a2,vs2,e2,h3,h4⟩:=gg ((pW hM).trans e) R2 (Tr.mono hp s2 _ _ t1);cases e2;rw[c]at h3;exact⟨vs2,h3,An h4 el⟩
 |true=>
  rw[c]at h1;refine .inr {⟨vs,h1⟩,k _ X1 H1 s1 R1 {λG2 ρ2 X2 H2 M2 i d' hp s2 R2 hM ed=>?_,λG2 ρ2 X2 H2 M2 i hp s2 R2 hM el=>?_}}
  ·obtain⟨a2,vs2,e2,h3,h4⟩:=gg ((pW hM).trans e) R2 (Tr.mono hp s2 _ _ t1);cases e2;rw[c]at h3;obtain⟨w,h5,h6⟩:=h4.at ed;refine{⟨vs2,w,h3,h5⟩,λx H3 hy=>?_};obtain⟨rfl,hy⟩:=hy;have:=hy vs2 h3;rw[h5]at this;cases this;exact{X2,br.refl _,R2,h6}
  obtain⟨a2,vs2,e2,h3,h4⟩:=gg ((pW hM).trans e) R2 (Tr.mono hp s2 _ _ t1);cases e2;rw[c]at h3;exact⟨vs2,h3,An h4 el⟩
noncomputable def jl(lo:Int)(n:Nat):List D:=(UJ n).map λi=>.int (lo+(i:Nat))
theorem Ln{K:Uw}{Z:List Uu}{Xh:Hp}{M:MS}(fx:Bool)(lo:Int)(n:Nat):LX K Z Xh M fx (Itr lo n) (jl lo n) where
 go:=λG2 ρ2 X2 H2 M2 i d hp s2 R2 hM ed=>by
  unfold jl at ed;rw[Qu]at ed;have hi:i<n:=by
   cases q:(UJ n)[i]? with
   |none=>rw[q]at ed;cases ed
   |some z=>have:=(Qh.mp q).1;rw[QP]at this;exact this
  rw[RV hi]at ed;cases ed;refine{hi,λx H3 hy=>?_};obtain⟨rfl,rfl⟩:=hy;exact{X2,br.refl _,R2,by unfold Tr;rfl}
 stop:=λG2 ρ2 X2 H2 M2 i hp s2 R2 hM el=>by
  unfold jl at el;rw[P8,QP]at el;exact el
def rg1(rs:RA):RI:=λB M=>(rs B M).bind λds=>match ds with
 | [.int j]=>if -(2^62)<=j/\j<2^62 then Zh (jl 0 j.toNat)else Zi
 |_=>Zi
theorem qF(hm:X.mg "range"=Zi)(ha:QA X [a] rs)(hg:Gl X "range":=by rfl)(hs:Uv [a] X.env=[(false,UO a X.env)]:=by rfl):QI X tg (.Call (.Name "range" p) [a] [] pos) fx (rg1 rs):=by
 obtain⟨t,pa,v⟩:=ha;refine{_,DA hg hm pa hs,λG B M ds Z Xh H U R' e R S k=>?_};obtain⟨d,e1,e⟩:=bnd e;refine v G B M d Z Xh H U _ e1 R S λX1 H1 x s1 R1 t1=>?_;split at e
 ·split at e
  ·rename_i h;cases e;obtain⟨w,rfl,t2⟩:=j3 t1;unfold Tr at t2;subst t2;exact{_,rfl,h.1,h.2,k _ X1 H1 s1 R1 (Ln fx 0 _)}
  cases e
 cases e
end
abbrev RG:=D->SD->Option SD
def VG(K:Uw)(g:TG)(r:RG):Prop:=∀(B B':SD)(d:D)(Z:List Uu)(X H:Hp)(U:St)(v:V)(Q:St->Hp->Prop),r d B=Zh B'->br X H->SR K Z X B U->Tr K Z X d v->(∀U',SR K Z X B' U'->Q U' H)->g v U H Q
def QG(X:Cx)(tg:Expr)(r:RG):Prop:=∃g,PG X tg g/\VG X.K g r
noncomputable def gN(i:Nat):RG:=λd B=>Zh (B.set i (Zh d))
section
variable{X:Cx}{pos:Pos}
theorem qgn(i:Nat)(hN:X.N.Nodup)(hi:X.N[i]?=Zh x:=by rfl)(hx:Loc X.env.scope x:=by trivial)(hf:X.fn x=true\/X.env.scope.names.lookup x=Zh .local:=by trivial):QG X (.Name x pos) (gN i):=
 {_,Cu hN hi hx hf,λB B' d Z Xh H U v Q e s S t k=>by cases e;exact k _ (S.set i t)}
abbrev RGs:=List D->SD->Option SD
def VGs(K:Uw)(g:TGs)(r:RGs):Prop:=∀(B B':SD)(ds:List D)(Z:List Uu)(X H:Hp)(U:St)(vs:List V)(Q:St->Hp->Prop),r ds B=Zh B'->br X H->SR K Z X B U->Trs K Z X ds vs->(∀U',SR K Z X B' U'->Q U' H)->g vs U H Q
def QGs(X:Cx)(ts:List Expr)(r:RGs):Prop:=∃g,PGs X ts g/\VGs X.K g r
noncomputable def gsN:RGs:=λds B=>match ds with
 | []=>Zh B
 |_=>Zi
noncomputable def gsC(r:RG)(rs:RGs):RGs:=λds B=>match ds with
 |d::ds=>(r d B).bind λB'=>rs ds B'
 |_=>Zi
theorem Ho:QGs X [] gsN:=⟨_,JA,λB B' ds Z Xh H U vs Q e s S t k=>by
 unfold gsN at e;split at e
 ·cases e;unfold Trs at t;exact{t,k _ S}
 cases e⟩
theorem yh(h1:QG X e r)(h2:QGs X es rs)(hs:(VB (e::es) X.env).map (·.2)=assign e X.env::(VB es X.env).map (·.2):=by rfl):QGs X (e::es) (gsC r rs):=by
 obtain⟨g,p,v⟩:=h1;obtain⟨g',p',v'⟩:=h2;refine{_,D5 p p' hs,λB B' ds Z Xh H U vs Q e s S t k=>?_};unfold gsC at e;split at e
 ·obtain⟨σ1,e1,e⟩:=bnd e;unfold Trs at t;obtain⟨w,r,rfl,t1,t2⟩:=t;exact{w,r,rfl,v B σ1 _ Z Xh H U w _ e1 s S t1 λτ1 S1=>v' σ1 B' _ Z Xh H τ1 r _ e s S1 t2 k}
 cases e
noncomputable def gT(n:Nat)(rs:RGs):RG:=λd B=>match d with
 | .tup ds=>if ds.length=n then rs ds B else Zi
 | .sqt ds=>if ds.length=n then rs ds B else Zi
 |_=>Zi
theorem qgt(h:QGs X es rs)(hc:X.calm=true:=by rfl)(hn:(VB es X.env).length=n:=by rfl)(hst:(VB es X.env).findIdx? (·.1)=Zi:=by rfl):QG X (.Tuple es k pos) (gT n rs):=by
 obtain⟨g,p,v⟩:=h;refine{_,KA hc p hn hst,λB B' d Z Xh H U w Q e s S t k=>?_};unfold gT at e;split at e
 ·split at e
  ·rename_i l;unfold Tr at t;obtain⟨a,vs,rfl,h1,h2⟩:=t;exact{a,vs,rfl,SqT.of (s _ _ h1),by rw[h2.len];exact l,v B B' _ Z Xh H U vs Q e s S h2 k}
  cases e
 ·split at e
  ·rename_i l;unfold Tr at t;obtain⟨a,vs,rfl,h1,h2⟩:=t;exact{a,vs,rfl,h1.same s,by rw[h2.len];exact l,v B B' _ Z Xh H U vs Q e s S h2 k}
  cases e
 cases e
end
noncomputable def aW(own:Nat)(fr:List Nat)(B:SD):SD:=WM own Zi++fr.map λj=>(B[j]?).getD Zi
def cD(g:RG)(q:RT)(r:RE)(M:MS)(B:SD):List D->Option (List D)
 | []=>Zh []
 |d::ds=>(g d B).bind λB'=>(q B' M).bind λk=>if k=true then(r B' M).bind λy=>(cD g q r M B ds).bind λys=>Zh (y::ys)else cD g q r M B ds
def aF(it:RI)(own:Nat)(fr:List Nat)(g:RG)(q:RT)(r:RE):RE:=λB M=>(it B M).bind λds=>(cD g q r M (aW own fr B) ds).bind λys=>if ys.length<=sizeLine then Zh (.lst ys)else Zi
def GOk(own:Nat)(g:RG):Prop:=∀d B B',g d B=Zh B'->B'.length=B.length/\∀i:Nat,own<=i->B'[i]?=B[i]?
theorem fA(h:i<own):GOk own (gN i):=λd B B' e=>by
 cases e;refine{Qv,λj hj=>?_};rw[Rm (by lia)]
theorem SR.comp(S:SR K Z Xh B U)(own:Nat)(fr:List Nat):SR K Z Xh (aW own fr B) (cSt own fr U):=by
 refine{by unfold aW cSt;simp,λi d e=>?_};unfold aW at e;unfold cSt;by_cases h:i<own
 ·rw[Qp (by simpa using h),Q7,if_pos h]at e;cases e
 rw[Ql (by simpa using h)]at e⊢;rw[RJ,Qu]at e⊢;cases q:fr[i-own]? with
 |none=>rw[q]at e;cases e
 |some j=>
  rw[q]at e;have e':(B[j]?).getD Zi=Zh d:=UE e;cases z:B[j]? with
  |none=>rw[z]at e';cases e'
  |some oo=>
   rw[z]at e';have e2:oo=Zh d:=e';subst e2;obtain⟨v,h1,h2⟩:=S.var j d z;exact{v,by show Zh ((U[j]?).getD Zi)=_;rw[h1];rfl,h2}
theorem SR.back(S:SR K Z Xh B' U)(l:B'.length=B.length)(h:∀i:Nat,own<=i->B'[i]?=B[i]?)(n:∀i:Nat,i<own->∀d,B[i]?≠Zh (Zh d)):SR K Z Xh B U:=⟨S.len.trans l,λi d e=>by
 by_cases z:i<own
 ·exact absurd e (n i z d)
 exact S.var i d ((h i (by lia)).trans e)⟩
theorem Bq(hi:VI K wi true ri)(hg:∀b,VG K (g b) gd)(hq:∀b,VT K (tf b) qf)(he:∀b,VE K (te b) re)(ok:GOk own gd):VE K (yD wi own fr g tf te) (aF ri own fr gd qf re):=λG B M d Z Xh H U Q e R S k=>by
 obtain⟨ds,e1,e⟩:=bnd e;obtain⟨out,e2,e⟩:=bnd e;split at e
 case isFalse=>cases e
 rename_i hl;cases e;refine hi G B M ds Z Xh H U _ e1 R S λJ X1 H1 s1 R1 IO=>⟨λb P hP=>?_⟩;have S0:=(S.same s1).comp own fr;have o1:=R1.fresh hP;generalize hσ:aW own fr B=σ0 at e2 S0;have nn:∀i:Nat,i<own->∀d,σ0[i]?≠Zh (Zh d):=λi h d z=>by
  rw[<-hσ]at z;unfold aW at z;rw[Qp (by simpa using h),Q7,if_pos h]at z;cases z
 refine{λi m U' H'=>∃(X':Hp)(ys:List V)(acc rest:List D),i+m=ds.length/\br X1 X'/\RS K G Z X' H' M/\Off G Z X' P/\H' P=Zh (.lst ys)/\Trs K Z X' acc ys/\SR K Z X' σ0 U'/\acc++rest=out/\cD gd qf re M σ0 (ds.drop i)=Zh rest,{ds.length,X1,[],[],out,Sv _,br.refl _,R1.off o1 _,o1,bI,Trs.nil,S0,rfl,e2},?_};rintro i m U' H' ⟨X2,ys,acc,rest,hm,s2,R2,o2,hP2,ta,S2,ea,ec⟩;by_cases hi:i<ds.length
 ·obtain⟨d,hd⟩:∃d,ds[i]?=Zh d:={ds[i],Qe hi};have Rp:=R2.pin o2 hP2;obtain⟨hgo,hyl⟩:=IO.go _ Z X2 H' M i d (Pre.refl _) s2 Rp (λ_=>rfl) hd;refine .inr {hgo,λτ3 H3=>∃(X':Hp)(ys:List V)(acc rest:List D),br X1 X'/\RS K G Z X' H3 M/\Off G Z X' P/\H3 P=Zh (.lst ys)/\Trs K Z X' acc ys/\SR K Z X' σ0 τ3/\acc++rest=out/\cD gd qf re M σ0 (ds.drop (i+1))=Zh rest,λτ3 H3 ⟨X',ys,acc,rest,h⟩=>{m-1,by lia,X',ys,acc,rest,by lia,h},λx H2 hy=>?_};obtain⟨X3,s3,R3,t3⟩:=hyl x H2 hy;rw[Q2 hi]at ec;have hd':ds[i]=d:=by rw[Qe hi]at hd;exact UE hd
  rw[hd']at ec;unfold cD at ec;obtain⟨σ1,c1,ec⟩:=bnd ec;obtain⟨kk,c2,ec⟩:=bnd ec;obtain⟨ll,hb⟩:=ok _ _ _ c1;refine hg b σ0 σ1 d Z X3 H2 U' x _ c1 R3.same (S2.same s3) t3 λτ3 S3=>hq b _ σ1 M kk Z X3 H2 τ3 _ c2 R3 S3 λX4 H4 s4 R4=>?_;cases kk with
  |true=>
   obtain⟨y,c3,ec⟩:=bnd ec;obtain⟨zs,c4,ec⟩:=bnd ec;cases ec;refine he b _ σ1 M y Z X4 H4 τ3 _ c3 R4 (S3.same s4) λX5 H5 v s5 R5 t5=>?_;obtain⟨R6,h6,o6⟩:=RS.JP R5 R2 o2;have s25:=s3.trans (s4.trans s5);refine{ys,h6,?_,X5,ys++[v],acc++[y],zs,s2.trans s25,R6.off o6 _,o6,bI,(ta.same s25).app (Trs.cons t5 Trs.nil),SR.back (S3.same (s4.trans s5)) ll hb nn,by rw[QC];exact ea,c4};rw[ta.len];have:=congrArg We ea;rw[Qj,Qd]at this;lia
  |false=>
   obtain⟨R6,h6,o6⟩:=RS.JP R4 R2 o2;have s25:=s3.trans s4;exact{X4,ys,acc,rest,s2.trans s25,R6,o6,h6,ta.same s25,SR.back (S3.same s4) ll hb nn,ea,ec}
 refine .inl {IO.stop G Z X2 H' M i (Pre.refl _) s2 R2 (λ_=>rfl) (by lia),?_};rw[Ru (by lia)]at ec;cases ec;rw[Qo]at ea;subst ea;refine k _ _ _ ((s1.trans s2).trans (br.upd o2.x _)) (R2.frz o2 hP2) ?_;unfold Tr;exact{P,ys,rfl,bI,ta.same (br.upd o2.x _)}
def QF(X:Cx)(ifs:List Expr)(r:RT):Prop:=∃t,PF X ifs t/\VT X.K t r
noncomputable def eW:RT:=λ_ _=>Zh true
theorem qf0:QF X [] eW:={_,L5,λG B M k Z Xh H U Q e R S q=>by cases e;exact q Xh H (br.refl _) R}
theorem qf1(h:QT X c r):QF X [c] r:=by
 obtain⟨t,p,v⟩:=h;exact⟨t,L0 p,v⟩
section
variable{X:Cx}{N:List Str}{own:Nat}{fr:List Nat}{scope:Wu}{tg iter elt:Expr}{ifs:List Expr}{ri:RI}{gd:RG}{qf:RT}{re:RE}{pos:Pos}
theorem jc(S:cv X.env.scope X.N N own fr scope)(hi:QI X tg iter true ri)(hg:∀b,QG (cxC X N scope b) tg gd)(hf:∀b,QF (cxC X N scope b) ifs qf)(he:∀b,QE (cxC X N scope b) elt re)(ok:GOk own gd)(hc:X.calm=true:=by rfl)
  (hs:∀x,foldedSetIterable iter X.env x=pure x:=by intro _;rfl):QE X (.ListComp elt [⟨tg,iter,ifs,0⟩] scope pos) (aF ri own fr gd qf re):=by
 obtain⟨wi,pi,vi⟩:=hi
 exact{_,Jl S hc pi (λb=>(hg b).choose_spec.1) (λb=>(hf b).choose_spec.1) (λb=>(he b).choose_spec.1) hs,Bq vi (λb=>(hg b).choose_spec.2) (λb=>(hf b).choose_spec.2) (λb=>(he b).choose_spec.2) ok}
end
inductive spP(K:Uw)(F:List D->Option D)(vs:List V)(H:Hp)(Q:VK)(E:XK):Prop
 |mk(ds:List D)(d:D)(X:Hp)(e:F ds=Zh d)(s:br X H)(t:Trs K [] X ds vs)(k:∀X' H' v,br X X'->br X' H'->br H H'->(∀a,X' a≠Zi->X a≠Zi\/H a=Zi)->Tr K [] X' d v->Q v H'):spP K F vs H Q E
noncomputable def aO(F:List D->Option D):MS->List D->Option D:=λ_ ds=>if bD ds=true then F ds else Zi
theorem v_P:g8 K (λvs H Q=>spP K F vs H Q E) (aO F):=λG M ds d Z Xh H vs Q e R t k=>by
 unfold aO at e;split at e
 ·rename_i hp;exact{ds,d,Xh,e,R.same,Trs.pure ds vs hp t,λX' H' v s1 s2 s3 nw t'=>k X' H' v s1 (R.new s1 s2 s3 nw) (Tr.mono (Z:=[]) (λn a h=>by cases h) (br.refl _) d v t')}
 cases e
section
variable{X:Cx}{j k:Nat}{x:Str}{ps:List Str}{F:List D->Option D}{e:Expr}{es:List Expr}{rs:RA}{p pos:Pos}
theorem bz(D':Has X.prog X.w X.K X.mg X.base j x ps (spP X.K F))(hr:cV k X.A)(ha:QA X (e::es) rs)(hj:j<=k:=by decide)(hg:Gl X x:=by rfl)
  (hdb:(x==("__debug__":Str))=false:=by decide) (he:Uv (e::es) X.env=(false,UO e X.env)::Uv es X.env:=by rfl) (hpl:(UM pos (Uv es X.env)).any (·.1)=false:=by rfl):QE X (.Call (.Name x p) (e::es) [] pos) (aN (aO F) rs):=by
 obtain⟨t,pa,va⟩:=ha
 refine{_,tJ D' hr pa hj hg hdb he hpl,λG B M d Z Xh H U Q e R S k=>?_}
 obtain⟨ds,e1,e⟩:=bnd e
 refine va G B M ds Z Xh H U _ e1 R S λX1 H1 vs s1 R1 t1=>?_
 rw[Qo]
 exact v_P G M ds d Z X1 H1 vs Q e R1 t1 (k.same s1)
end
inductive Out where
 |nx (B:SD) (M:MS)|rt (d:D) (M:MS)|bk (B:SD) (M:MS)|ct (B:SD) (M:MS)
abbrev RSt:=SD->MS->Option Out
def HE(K:Uw)(G:Ent)(Z:List Uu)(X:Hp)(E:ZS):Out->Prop
 | .nx B' M'=>∀Z' X' H' U',Pre Z Z'->br X X'->RS K G Z' X' H' M'->SR K Z' X' B' U'->E.nx U' H'
 | .rt d M'=>∀Z' X' H' v,Pre Z Z'->br X X'->RS K G Z' X' H' M'->Tr K Z' X' d v->E.rt v H'
 | .bk B' M'=>∀Z' X' H' U',Pre Z Z'->br X X'->RS K G Z' X' H' M'->SR K Z' X' B' U'->E.bk U' H'
 | .ct B' M'=>∀Z' X' H' U',Pre Z Z'->br X X'->RS K G Z' X' H' M'->SR K Z' X' B' U'->E.ct U' H'
def VS(K:Uw)(t:TS)(r:RSt):Prop:=∀(G:Ent)(B:SD)(M:MS)(o:Out)(Z:List Uu)(X H:Hp)(U:St)(E:ZS),r B M=Zh o->RS K G Z X H M->SR K Z X B U->HE K G Z X E o->t E U H
def QS(X:Cx)(st:UP)(r:RSt):Prop:=∃t,PS X st t/\VS X.K t r
def QSs(X:Cx)(st:List UP)(r:RSt):Prop:=∃t,PSs X st t/\VS X.K t r
theorem HE.mono(h:HE K G Z X E o)(p:Pre Z ρ1)(s:br X X1):HE K G ρ1 X1 E o:=by
 cases o<;>exact λZ' X' H' v p' s'=>h Z' X' H' v (p.trans p') (s.trans s')
noncomputable def aQ:RSt:=λB M=>Zh (.nx B M)
noncomputable def aP(r u:RSt):RSt:=λB M=>(r B M).bind λo=>match o with
 | .nx B' M'=>u B' M'
 |o=>Zh o
noncomputable def Ee:RSt:=λ_ _=>Zi
noncomputable def aX(re:RE):RSt:=λB M=>(re B M).bind λd=>Zh (.rt d M)
noncomputable def sIf(q:RT)(a b:RSt):RSt:=λB M=>(q B M).bind λk=>if k=true then a B M else b B M
noncomputable def aS(i:Nat)(re:RE):RSt:=λB M=>(re B M).bind λd=>Zh (.nx (B.set i (Zh d)) M)
noncomputable def GR(re:RE):RSt:=λB M=>(re B M).bind λ_=>Zh (.nx B M)
section
variable{X:Cx}{st:UP}{sts a b:List UP}{r u:RSt}{e c:Expr}{re:RE}{q:RT}{pos:Pos}
theorem qs0:QSs X [] aQ:={_,JD,λG B M o Z Xh H U E h R S k=>by cases h;exact k Z Xh H U (Pre.refl _) (br.refl _) R S}
theorem M8(h:VS K t r)(h':VS K t' u):VS K (NI t t') (aP r u):=λG B M o Z Xh H U E e R S k=>by
 obtain⟨o1,e1,e⟩:=bnd e;refine h G B M o1 Z Xh H U _ e1 R S ?_;cases o1 with
 |nx σ1 M1=>exact λZ' X' H' U' p s R1 S1=>h' G σ1 M1 o Z' X' H' U' E e R1 S1 (k.mono p s)
 |rt d M1=>cases e;exact k
 |bk σ1 M1=>cases e;exact k
 |ct σ1 M1=>cases e;exact k
theorem qsc(h1:QS X st r)(h2:QSs X sts u):QSs X (st::sts) (aP r u):=by
 obtain⟨t,p,v⟩:=h1;obtain⟨t',p',v'⟩:=h2;exact{_,EB p p',M8 v v'}
theorem qs1(h1:QS X st r):QSs X [st] r:=by
 obtain⟨t,p,v⟩:=h1;exact{_,Ig p,v}
theorem Jo:QSs X sts Ee:={_,Dw,λG B M o Z Xh H U E e=>by cases e}
theorem qnv:QS X st Ee:={_,Fx,λG B M o Z Xh H U E e=>by cases e}
theorem bw(he:QE X e re):QS X (.Return (Zh e) pos) (aX re):=by
 obtain⟨t,p,v⟩:=he;refine{_,Gw p,λG B M o Z Xh H U E h R S k=>?_};obtain⟨d,e1,h⟩:=bnd h;cases h;exact v G B M d Z Xh H U _ e1 R S λX1 H1 x s1 R1 t1=>k Z X1 H1 x (Pre.refl _) s1 R1 t1
theorem qif(hc:QT X c q)(ha:QSs X a r)(hb:QSs X b u):QS X (.If c a b pos) (sIf q r u):=by
 obtain⟨t0,p0,v0⟩:=hc;obtain⟨t,p,v⟩:=ha;obtain⟨t',p',v'⟩:=hb;refine{_,OD p0 p p',λG B M o Z Xh H U E h R S k=>?_};obtain⟨kk,e1,h⟩:=bnd h;refine v0 G B M kk Z Xh H U _ e1 R S λX1 H1 s1 R1=>?_;cases kk with
 |true=>exact v G B M o Z X1 H1 U E h R1 (S.same s1) (k.mono (Pre.refl _) s1)
 |false=>exact v' G B M o Z X1 H1 U E h R1 (S.same s1) (k.mono (Pre.refl _) s1)
theorem FC(i:Nat)(v:VE K te re):VS K (Ds te (vA i)) (aS i re):=λG B M o Z Xh H U E h R S k=>by
 obtain⟨d,e1,h⟩:=bnd h;cases h;exact v G B M d Z Xh H U _ e1 R S λX1 H1 x s1 R1 t1=>k Z X1 H1 _ (Pre.refl _) s1 R1 ((S.same s1).set i t1)
theorem cG(i:Nat)(hN:X.N.Nodup)(he:QE X e re)(hi:X.N[i]?=Zh x:=by rfl)(hx:Loc X.env.scope x:=by trivial)(hs:Vh e (Zh (.Name x pos')) pos.line X.env=pure false:=by rfl)(hf:X.fn x=true\/X.env.scope.names.lookup x=Zh .local:=by trivial):QS X (.Assign [.Name x pos'] e pos) (aS i re):=by
 obtain⟨t,p,v⟩:=he;exact{_,AK hN hi hx p hs hf,FC i v}
theorem J2(he:QE X e re)(hs:Vh e Zi pos.line X.env=pure false:=by rfl):QS X (.Expr e pos) (GR re):=by
 obtain⟨t,p,v⟩:=he;refine{_,nM p hs,λG B M o Z Xh H U E h R S k=>?_};obtain⟨d,e1,h⟩:=bnd h;cases h;exact v G B M d Z Xh H U _ e1 R S λX1 H1 x s1 R1 t1=>k Z X1 H1 _ (Pre.refl _) s1 R1 (S.same s1)
theorem DQ(j:Nat)(S:cv X.env.scope X.N N own fr scope)(hN:X.N.Nodup)(hi:QI X tg iter true ri)(hg:∀b,QG (cxC X N scope b) tg gd)(hf:∀b,QF (cxC X N scope b) ifs qf)(he:∀b,QE (cxC X N scope b) elt re)(ok:GOk own gd)
  (hj:X.N[j]?=Zh y:=by rfl) (hy:Loc X.env.scope y:=by trivial) (hc:X.calm=true:=by rfl) (hfn:X.fn y=true\/X.env.scope.names.lookup y=Zh .local:=by trivial) (hs:∀x,foldedSetIterable iter X.env x=pure x:=by intro _;rfl) (hsw:Vh (.ListComp elt [⟨tg,iter,ifs,0⟩] scope pos) (Zh (.Name y py)) spos.line X.env=pure true:=by rfl):QS X (.Assign [.Name y py] (.ListComp elt [⟨tg,iter,ifs,0⟩] scope pos) spos) (aS j (aF ri own fr gd qf re)):=by
 obtain⟨wi,pi,vi⟩:=hi
 exact{_,tK S hc hN hj hy pi (λb=>(hg b).choose_spec.1) (λb=>(hf b).choose_spec.1) (λb=>(he b).choose_spec.1) hfn hs hsw,FC j (Bq vi (λb=>(hg b).choose_spec.2) (λb=>(hf b).choose_spec.2) (λb=>(he b).choose_spec.2) ok)}
end
abbrev RN:=SD->MS->Option Ob
def VN(K:Uw)(te:TE)(r:RN):Prop:=∀(G:Ent)(B:SD)(M:MS)(o:Ob)(Z:List Uu)(X H:Hp)(U:St)(Q:VK),r B M=Zh o->RS K G Z X H M->SR K Z X B U->(∀X' H' p,br X X'->RS K G Z X' H' M->Off G Z X' p->o≠ .gone->OR K Z X' H' p o->Q (.ref p) H')->te U H Q
def QN(X:Cx)(e:Expr)(r:RN):Prop:=∃te,PE X e te/\VN X.K te r
section
variable{K:Uw}{G:Ent}{Z:List Uu}{X H:Hp}{M:MS}{p:Uu}{o:Ob}
theorem OR.live(h:OR K Z X H p o)(n:o≠ .gone):H p≠Zi:=by
 cases o with
 |lst ds=>obtain⟨_,h,_⟩:=h;rw[h];intro z;cases z
 |dic ks ds=>obtain⟨_,h,_⟩:=h;rw[h];intro z;cases z
 |dtt ks ds=>obtain⟨_,h,_⟩:=h;rw[h];intro z;cases z
 |obj C fn ds=>obtain⟨_,_,h,_⟩:=h;rw[h];intro z;cases z
 |gone=>exact absurd rfl n
theorem RS.cell(R:RS K G Z X H M)(a:Off G Z X p)(n:o≠ .gone)(h:OR K Z X H p o):RS K G (Z++[p]) X H (M++[o]):=by
 have at':∀{m:Nat}{b:Uu},(Z++[p])[m]?=Zh b->Z[m]?=Zh b\/(m=Z.length/\b=p):=λ{m b} e=>by
  rcases Nat.lt_or_ge m Z.length with l|l
  ·rw[Qp l]at e;exact .inl e
  rw[Ql l]at e;cases q:m-Z.length with
  |zero=>rw[q]at e;cases e;exact .inr ⟨by lia,rfl⟩
  |succ z=>rw[q]at e;cases e
 refine{R.same,R.x0,R.y,R.nw,by rw[Qj,Qj,R.len];rfl,λm b e=>?_,λm m' b e e'=>?_,λm b u e e' nu=>?_}
 ·rcases at' e with e|⟨_,rfl⟩
  ·exact R.live m b e
  exact h.live n
 ·rcases at' e with e|⟨rfl,rfl⟩<;>rcases at' e' with e'|⟨rfl,e2⟩
  ·exact R.nd m m' b e e'
  ·rw[e2]at e;exact absurd e (a.r m)
  ·exact absurd e' (a.r m')
  rfl
 have up:∀{b:Uu}{u:Ob},OR K Z X H b u->OR K (Z++[p]) X H b u:=λq=>q.mono (Pre.app _ _) (br.refl _) λ_ e=>e;rcases at' e with e|⟨rfl,rfl⟩
 ·rw[Qp (by rw[<-R.len];exact(Qh.mp e).1)]at e';obtain⟨h1,h2,h3⟩:=R.ob m b u e e' nu;exact⟨h1,h2,up h3⟩
 rw[R.len,Ql (Qf _),QU]at e';cases e';exact⟨a.x,a.y,up h⟩
theorem RS.put(R:RS K G Z X H M)(e:Z[n]?=Zh p)(h:M[n]?=Zh o)(ng:o≠ .gone)(h':OR K Z X (upd H p ho) p o'):RS K G Z X (upd H p ho) (M.set n o'):=by
 obtain⟨x,y,_⟩:=R.ob n p o e h ng;refine{λb u q=>?_,R.x0,λb u q=>?_,R.nw,by rw[Qv];exact R.len,λm b q=>?_,R.nd,λm b u e1 e2 nu=>?_}
 ·rw[bN (λz=>by rw[z,x]at q;cases q)];exact R.same _ _ q
 ·rw[bN (λz=>by rw[z,y]at q;cases q)];exact R.y _ _ q
 ·by_cases z:b=p
  ·subst z;rw[bI];intro w;cases w
  rw[bN z];exact R.live m b q
 rw[Ss]at e2;by_cases z:n=m
 ·subst z;rw[if_pos rfl]at e2;split at e2
  ·cases e2;rw[e]at e1;cases e1;exact⟨x,y,h'⟩
  cases e2
 rw[if_neg z]at e2;obtain⟨h1,h2,h3⟩:=R.ob m b u e1 e2 nu;exact{h1,h2,h3.mono (λ_ _ q=>q) (br.refl _) λw q=>by rw[bN (λy'=>z (R.nd n m p e (by rw[e1,y'])))];exact q}
end
def JQ(i:Nat)(rn:RN):RSt:=λB M=>(rn B M).bind λo=>Zh (.nx (B.set i (Zh (.cell M.length))) (M++[o]))
section
variable{X:Cx}{e:Expr}{es:List Expr}{rs:RA}{rn:RN}{pos:Pos}
theorem Ij(i:Nat)(v:VN K te rn):VS K (Ds te (vA i)) (JQ i rn):=λG B M o Z Xh H U E h R S k=>by
 obtain⟨d,e1,h⟩:=bnd h;cases h;refine v G B M d Z Xh H U _ e1 R S λX1 H1 x s1 R1 a n t1=>k (Z++[x]) X1 H1 _ (Pre.app _ _) s1 (R1.cell a n t1) (SR.set ((S.same s1).mono (Pre.app _ _) (br.refl _)) i ?_);unfold Tr;exact{x,by rw[<-R1.len,Ql (Qf _),QU];rfl,rfl}
theorem BE(i:Nat)(hN:X.N.Nodup)(he:QN X e rn)(hi:X.N[i]?=Zh x:=by rfl)(hx:Loc X.env.scope x:=by trivial)(hs:Vh e (Zh (.Name x pos')) pos.line X.env=pure false:=by rfl)(hf:X.fn x=true\/X.env.scope.names.lookup x=Zh .local:=by trivial):QS X (.Assign [.Name x pos'] e pos) (JQ i rn):=by
 obtain⟨t,p,v⟩:=he;exact{_,AK hN hi hx p hs hf,Ij i v}
noncomputable def PV(rs:RA):RN:=λB M=>(rs B M).bind λds=>if ds.length<=sizeLine then Zh (.lst ds)else Zi
theorem rY(h:QA X es rs):QN X (.List es pos) (PV rs):=by
 obtain⟨t,p,v⟩:=h;refine{_,GY p,λG B M d Z Xh H U Q e R S q=>?_};obtain⟨xs,e1,e⟩:=bnd e;split at e
 ·rename_i z;cases e;refine v G B M xs Z Xh H U _ e1 R S λX1 H1 ys s1 R1 t1=>{by rw[t1.len];exact z,λl hl=>?_};have a:=R1.fresh hl;exact q _ _ _ s1 (R1.off a _) a (by intro z;cases z) ⟨ys,bI,t1⟩
 cases e
noncomputable def PB:RN:=λ_ _=>Zh (.dic [] [])
theorem yw:QN X (.Dict [] [] pos) PB:=⟨_,GW,λG B M d Z Xh H U Q e R S q l hl=>by
 cases e;have a:=R.fresh hl;exact q _ _ _ (br.refl _) (R.off a _) a (by intro z;cases z) {[],bI,rfl,Trs.nil}⟩
def ZQ(rs:RA):RN:=λB M=>(rs B M).bind λds=>match ds with
 | [d]=>(ba M d).bind λxs=>Zh (.lst xs)
 |_=>Zi
theorem mY(hm:X.mg x=Zi)(ha:QA X (e::es) rs)(hg:Gl X x:=by rfl)(hv:Vj x=Zh (.type "list"):=by boot_by_name)(hn:x≠"__name__":=by decide)(hdb:(x==("__debug__":Str))=false:=by decide)(he:Uv (e::es) X.env=(false,UO e X.env)::Uv es X.env:=by rfl)(hpl:(UM pos (Uv es X.env)).any (·.1)=false:=by rfl):QN X (.Call (.Name x p) (e::es) [] pos) (ZQ rs):=by
 obtain⟨t,pa,v⟩:=ha;refine{_,vg A8 hg hm hv pa hn hdb he hpl,λG B M d Z Xh H U Q e R S q=>?_};obtain⟨ds,e1,e⟩:=bnd e;refine v G B M ds Z Xh H U _ e1 R S λX1 H1 ys s1 R1 t1=>?_;split at e
 ·obtain⟨xs,e2,e⟩:=bnd e;cases e;obtain⟨v,rfl,t2⟩:=j3 t1;obtain⟨p,us,rfl,h1,h2⟩:=ny R1 t2 e2;refine{p,us,rfl,h1,λl hl=>?_};have a:=R1.fresh hl;exact q _ _ _ s1 (R1.off a _) a (by intro z;cases z) ⟨us,bI,h2⟩
 cases e
noncomputable def CQ(ro re:RE):RSt:=λB M=>(ro B M).bind λc=>(re B M).bind λd=>match c with
 | .cell n=>match M[n]? with
  |some (.lst ds)=>if ds.length<sizeLine then Zh (.nx B (M.set n (.lst (ds++[d]))))else Zi
  |_=>Zi
 |_=>Zi
theorem qg(ho:QE X o ro)(he:QE X e re)(hbase:UR o "append" X.env (UO o X.env)=UO o X.env:=by rfl)
  (hfew:((UM cpos (Uv [e] X.env)).all (λx=>!x.1)&&(UW cpos (UN [] X.env)).all (λx=>x.1.isSome)
   &&decide ([e].length+([]:List U0).length+(if([]:List U0).isEmpty then 0 else 1)<30))=true:=by rfl)
  (hline:(apos.endLine==cpos.line)=true:=by rfl) (hs:Uv [e] X.env=(false,UO e X.env)::Uv [] X.env:=by rfl) (hplain:(UM cpos (Uv [] X.env)).any (·.1)=false:=by rfl)
  (hsw:Vh (.Call (.Attribute o "append" apos) [e] [] cpos) Zi pos.line X.env=pure false:=by rfl):QS X (.Expr (.Call (.Attribute o "append" apos) [e] [] cpos) pos) (CQ ro re):=by
 obtain⟨t,p,v⟩:=ho
 obtain⟨t',p',v'⟩:=he
 refine{_,nM (z4 p (om p' sr hs) hbase hfew hline hs hplain) hsw,λG B M o Z Xh H U E h R S k=>?_}
 obtain⟨c,e1,h⟩:=bnd h
 obtain⟨d,e2,h⟩:=bnd h
 refine v G B M c Z Xh H U _ e1 R S λX1 H1 x s1 R1 t1=>?_
 split at h
 ·split at h
  ·rename_i hM;split at h
   ·rename_i hl;cases h;obtain⟨a,ha,rfl,_,_,vs,hv,tv⟩:=cu R1 t1 hM (by intro z;cases z);refine{.inl ⟨rfl,vs,SqL.of hv⟩,v' G B M d Z X1 H1 U _ e2 R1 (S.same s1) λX2 H2 y s2 R2 t2=>?_};obtain⟨_,_,ws,hw,tw⟩:=R2.ob _ a _ ha hM (by intro z;cases z);exact{a,ws,y,rfl,rfl,hw,by rw[tw.len];exact hl,k Z X2 _ U (Pre.refl _) (s1.trans s2) (R2.put ha hM (by intro z;cases z) {_,bI,tw.app (Trs.cons t2 Trs.nil)}) ((S.same s1).same s2)}
   cases h
  cases h
 cases h
def HV(ro re:RE):RSt:=λB M=>(ro B M).bind λc=>(re B M).bind λd=>match c with
 | .cell n=>match M[n]?,hV M d with
  |some (.lst ds),Zh es=>if ds.length+es.length<=sizeLine then Zh (.nx B (M.set n (.lst (ds++es))))else Zi
  |_,_=>Zi
 |_=>Zi
theorem PZ(ho:QE X o ro)(he:QE X e re)(hbase:UR o "extend" X.env (UO o X.env)=UO o X.env:=by rfl)
  (hfew:((UM cpos (Uv [e] X.env)).all (λx=>!x.1)&&(UW cpos (UN [] X.env)).all (λx=>x.1.isSome)
   &&decide ([e].length+([]:List U0).length+(if([]:List U0).isEmpty then 0 else 1)<30))=true:=by rfl)
  (hline:(apos.endLine==cpos.line)=true:=by rfl) (hs:Uv [e] X.env=(false,UO e X.env)::Uv [] X.env:=by rfl) (hplain:(UM cpos (Uv [] X.env)).any (·.1)=false:=by rfl)
  (hsw:Vh (.Call (.Attribute o "extend" apos) [e] [] cpos) Zi pos.line X.env=pure false:=by rfl):QS X (.Expr (.Call (.Attribute o "extend" apos) [e] [] cpos) pos) (HV ro re):=by
 obtain⟨t,p,v⟩:=ho
 obtain⟨t',p',v'⟩:=he
 refine{_,nM (Fz p (om p' sr hs) hbase hfew hline hs hplain) hsw,λG B M o Z Xh H U E h R S k=>?_}
 obtain⟨c,e1,h⟩:=bnd h
 obtain⟨d,e2,h⟩:=bnd h
 refine v G B M c Z Xh H U _ e1 R S λX1 H1 x s1 R1 t1=>?_
 split at h
 ·split at h
  ·rename_i hM hE;split at h
   ·rename_i hl;cases h;obtain⟨a,ha,rfl,_,_,vs,hv,tv⟩:=cu R1 t1 hM (by intro z;cases z);refine{.inl ⟨rfl,vs,SqL.of hv⟩,v' G B M d Z X1 H1 U _ e2 R1 (S.same s1) λX2 H2 y s2 R2 t2=>?_};obtain⟨_,_,ws,hw,tw⟩:=R2.ob _ a _ ha hM (by intro z;cases z);obtain⟨b,us,rfl,hb,tb⟩:=wF R2 t2 hE;exact{a,b,ws,us,rfl,rfl,hw,hb,by rw[tw.len,tb.len];exact hl,k Z X2 _ U (Pre.refl _) (s1.trans s2) (R2.put ha hM (by intro z;cases z) {_,bI,tw.app tb}) ((S.same s1).same s2)}
   cases h
  cases h
 cases h
end
end L2
namespace L2
open PySem PySem.Spec PyProof.Rows
def forL(g:RG)(rb:RSt):List D->SD->MS->Option Out
 | [],B,M=>Zh (.nx B M)
 |d::ds,B,M=>(g d B).bind λσ1=>(rb σ1 M).bind λo=>match o with
  | .nx B' M'=>forL g rb ds B' M'
  | .ct B' M'=>forL g rb ds B' M'
  | .bk B' M'=>Zh (.nx B' M')
  | .rt d M'=>Zh (.rt d M')
def A7(ri:RI)(g:RG)(rb:RSt):RSt:=λB M=>(ri B M).bind λds=>forL g rb ds B M
section
variable{X:Cx}{tg iter c:Expr}{body:List UP}{ri:RI}{g:RG}{rb:RSt}{q:RT}{pos:Pos}
theorem LA{K:Uw}{wi:TI}{tgt:TG}{tb:TS}(hi:VI K wi false ri)(hg:VG K tgt g)(hb:VS K tb rb):VS K (LV wi tgt tb) (A7 ri g rb):=λG B M o Z Xh H U E h R S k=>by
 obtain⟨ds,e1,h⟩:=bnd h;refine hi G B M ds Z Xh H U _ e1 R S λJ X1 H1 s1 R1 IO=>{λi m U' H'=>∃(Z':List Uu)(X':Hp)(B':SD)(M':MS),i+m=ds.length/\Pre Z Z'/\br X1 X'/\RS K G Z' X' H' M'/\SR K Z' X' B' U'/\forL g rb (ds.drop i) B' M'=Zh o,{ds.length,Z,X1,B,M,Sv _,Pre.refl _,br.refl _,R1,S.same s1,h},?_};rintro i m U' H' ⟨ρ2,X2,σ2,M2,hm,p2,s2,R2,S2,e⟩;by_cases hi:i<ds.length
 ·obtain⟨d,hd⟩:∃d,ds[i]?=Zh d:={ds[i],Qe hi};obtain⟨hgo,hyl⟩:=IO.go G ρ2 X2 H' M2 i d p2 s2 R2 (λz=>by cases z) hd;refine .inr {hgo,λτ3 H3=>∃(Z':List Uu)(X':Hp)(B':SD)(M':MS),Pre Z Z'/\br X1 X'/\RS K G Z' X' H3 M'/\SR K Z' X' B' τ3/\forL g rb (ds.drop (i+1)) B' M'=Zh o,λτ3 H3 ⟨Z',X',B',M',h⟩=>{m-1,by lia,Z',X',B',M',by lia,h},λx H2 hy=>?_};obtain⟨X3,s3,R3,t3⟩:=hyl x H2 hy;rw[Q2 hi]at e;have hd':ds[i]=d:=by rw[Qe hi]at hd;exact UE hd
  rw[hd']at e;unfold forL at e;obtain⟨σ3,c1,e⟩:=bnd e;obtain⟨o1,c2,e⟩:=bnd e;refine hg σ2 σ3 d ρ2 X3 H2 U' x _ c1 R3.same (S2.same s3) t3 λτ3 S3=>hb G σ3 M2 o1 ρ2 X3 H2 τ3 _ c2 R3 S3 ?_;cases o1 with
  |nx σ4 M4=>exact λρ4 X4 H4 τ4 p4 s4 R4 S4=>{ρ4,X4,σ4,M4,p2.trans p4,s2.trans (s3.trans s4),R4,S4,e}
  |ct σ4 M4=>exact λρ4 X4 H4 τ4 p4 s4 R4 S4=>{ρ4,X4,σ4,M4,p2.trans p4,s2.trans (s3.trans s4),R4,S4,e}
  |bk σ4 M4=>cases e;exact λρ4 X4 H4 τ4 p4 s4 R4 S4=>k ρ4 X4 H4 τ4 (p2.trans p4) (s1.trans (s2.trans (s3.trans s4))) R4 S4
  |rt d4 M4=>cases e;exact λρ4 X4 H4 v4 p4 s4 R4 S4=>k ρ4 X4 H4 v4 (p2.trans p4) (s1.trans (s2.trans (s3.trans s4))) R4 S4
 refine .inl {IO.stop G ρ2 X2 H' M2 i p2 s2 R2 (λz=>by cases z) (by lia),?_};rw[Ru (by lia)]at e;cases e;exact k ρ2 X2 H' U' p2 (s1.trans s2) R2 S2
theorem tQ(hi:QI X tg iter false ri)(hg:QG X tg g)(hb:QSs X body rb)(hp:XG (UI X.prog X.w) X.A X.env X.xe:=by exact Xp)(hc:X.calm=true:=by rfl)(hs:∀x,foldedSetIterable iter X.env x=pure x:=by intro _;rfl):QS X (.For tg iter body [] pos) (A7 ri g rb):=by
 obtain⟨t,p,v⟩:=hi;obtain⟨t',p',v'⟩:=hg;obtain⟨t2,p2,v2⟩:=hb;exact{_,E8 hp hc p p' p2 hs,LA v v' v2}
def dz(q:RT)(rb:RSt):Nat->SD->MS->Option Out
 |0,_,_=>Zi
 |n+1,B,M=>(q B M).bind λk=>if k=true then(rb B M).bind λo=>match o with
  | .nx B' M'=>dz q rb n B' M'
  | .ct B' M'=>dz q rb n B' M'
  | .bk B' M'=>Zh (.nx B' M')
  | .rt d M'=>Zh (.rt d M')
  else Zh (.nx B M)
theorem sM(q:RT)(rb:RSt)(o:Out):∀(n:Nat)(B:SD)(M:MS),dz q rb n B M=Zh o->dz q rb (n+1) B M=Zh o
 |0,_,_,h=>by cases h
 |n+1,B,M,h=>by
  unfold dz at h⊢;obtain⟨k,e1,h⟩:=bnd h;rw[e1];show(if k=true then _ else _)=_;cases k with
  |false=>exact h
  |true=>
   obtain⟨o1,e2,h⟩:=bnd (show(rb B M).bind _=_ from h);show(rb B M).bind _=_;rw[e2];cases o1 with
   |nx σ1 M1=>exact sM q rb o n σ1 M1 h
   |ct σ1 M1=>exact sM q rb o n σ1 M1 h
   |bk σ1 M1=>exact h
   |rt d M1=>exact h
theorem yG(q:RT)(rb:RSt)(o:Out)(hl:n<=m)(h:dz q rb n B M=Zh o):dz q rb m B M=Zh o:=by
 induction hl with
 |refl=>exact h
 |step _ ih=>exact sM q rb o _ _ _ ih
open Classical in
noncomputable def mT(q:RT)(rb:RSt):RSt:=λB M=>if h:∃n,(dz q rb n B M).isSome then dz q rb h.choose B M else Zi
theorem CL(h:dz q rb n B M=Zh o):mT q rb B M=Zh o:=by
 have h':∃n,(dz q rb n B M).isSome:={n,by rw[h];rfl};unfold mT;rw[dif_pos h'];cases e:dz q rb h'.choose B M with
 |none=>have:=h'.choose_spec;rw[e]at this;cases this
 |some o'=>
  have a:=yG q rb o (Nat.le_max_left n h'.choose) h;have b:=yG q rb o' (Nat.le_max_right n h'.choose) e;rw[a]at b;exact b.symm
theorem DU{K:Uw}{tc:TT}{tb:TS}(hc:VT K tc q)(hb:VS K tb rb):VS K (Fl tc tb) (mT q rb):=λG B M o Z Xh H U E h R S k=>by
 unfold mT at h;split at h
 case isFalse=>cases h
 rename_i hx;refine{λm U' H'=>∃(Z':List Uu)(X':Hp)(B':SD)(M':MS),Pre Z Z'/\br Xh X'/\RS K G Z' X' H' M'/\SR K Z' X' B' U'/\dz q rb m B' M'=Zh o,{_,Z,Xh,B,M,Pre.refl _,br.refl _,R,S,h},?_};rintro m U' H' ⟨ρ2,X2,σ2,M2,p2,s2,R2,S2,e⟩;cases m with
 |zero=>cases e
 |succ m=>
  unfold dz at e;obtain⟨kk,e1,e⟩:=bnd e;refine hc G σ2 M2 kk ρ2 X2 H' U' _ e1 R2 S2 λX3 H3 s3 R3=>?_;cases kk with
  |false=>cases e;exact k ρ2 X3 H3 U' p2 (s2.trans s3) R3 (S2.same s3)
  |true=>
   obtain⟨o1,e2,e⟩:=bnd (show(rb σ2 M2).bind _=_ from e);refine{λτ3 H3=>∃(Z':List Uu)(X':Hp)(B':SD)(M':MS),Pre Z Z'/\br Xh X'/\RS K G Z' X' H3 M'/\SR K Z' X' B' τ3/\dz q rb m B' M'=Zh o,λτ3 H3 h=>{m,Ry _,h},hb G σ2 M2 o1 ρ2 X3 H3 U' _ e2 R3 (S2.same s3) ?_};cases o1 with
   |nx σ4 M4=>exact λρ4 X4 H4 τ4 p4 s4 R4 S4=>{ρ4,X4,σ4,M4,p2.trans p4,s2.trans (s3.trans s4),R4,S4,e}
   |ct σ4 M4=>exact λρ4 X4 H4 τ4 p4 s4 R4 S4=>{ρ4,X4,σ4,M4,p2.trans p4,s2.trans (s3.trans s4),R4,S4,e}
   |bk σ4 M4=>cases e;exact λρ4 X4 H4 τ4 p4 s4 R4 S4=>k ρ4 X4 H4 τ4 (p2.trans p4) (s2.trans (s3.trans s4)) R4 S4
   |rt d4 M4=>cases e;exact λρ4 X4 H4 v4 p4 s4 R4 S4=>k ρ4 X4 H4 v4 (p2.trans p4) (s2.trans (s3.trans s4)) R4 S4
theorem LL(hc:QT X c q)(hb:QSs X body rb)(hp:XG (UI X.prog X.w) X.A X.env X.xe:=by exact Xp):QS X (.While c body [] pos) (mT q rb):=by
 obtain⟨t,p,v⟩:=hc;obtain⟨t',p',v'⟩:=hb;exact{_,GB hp p p',DU v v'}
end
section
variable{K:Uw}{G:Ent}{Z:List Uu}{X H:Hp}{M:MS}{p:Uu}{o:Ob}
theorem RS.gone(R:RS K G Z X H M)(e:Z[n]?=Zh p)(h:M[n]?=Zh o)(ng:o≠ .gone)(hh:H p=Zh ho):RS K G Z (upd X p ho) H (M.set n .gone)/\br X (upd X p ho):=by
 obtain⟨x,y,_⟩:=R.ob n p o e h ng;have s:=br.upd x ho;refine{{λb u q=>?_,R.x0.trans s,R.y,λb q=>?_,by rw[Qv];exact R.len,R.live,R.nd,λm b u e1 e2 nu=>?_},s}
 ·by_cases z:b=p
  ·subst z;rw[bI]at q;cases q;exact hh
  rw[bN z]at q;exact R.same _ _ q
 ·by_cases z:b=p
  ·subst z;exact .inr y
  rw[bN z]at q;exact R.nw b q
 rw[Ss]at e2;by_cases z:n=m
 ·subst z;rw[if_pos rfl]at e2;split at e2
  ·cases e2;exact absurd rfl nu
  cases e2
 rw[if_neg z]at e2;obtain⟨h1,h2,h3⟩:=R.ob m b u e1 e2 nu;have ne:b≠p:=λy'=>z (R.nd n m p e (by rw[e1,y']));exact{by rw[bN ne];exact h1,h2,h3.mono (λ_ _ q=>q) s λw q=>q}
end
noncomputable def stD(n:Nat)(ds:List D):SD:=ds.map Zh++WM (n-ds.length) Zi
noncomputable def G5(M:MS)(d:D):Option D:=match d with
 | .cell n=>match M[n]? with
  |some (.lst ds)=>if bD ds=true then Zh (.lst ds)else Zi
  |some (.dic ks ds)=>if bD ds=true then Zh (.dic ks ds)else Zi
  |some (.obj C fn ds)=>if bD ds=true then Zh (.obj C fn ds)else Zi
  |_=>Zi
 |d=>if bP d=true then Zh d else Zi
def aU:Out->Option D
 | .rt d M=>G5 M d
 | .nx _ _=>Zh .non
 |_=>Zi
def fnP(n m:Nat)(r:RSt):List D->Option D:=λds=>if ds.length=n then(r (stD m ds) []).bind aU else Zi
theorem SR.ini{K:Uw}{Z:List Uu}{Xh:Hp}{ds:List D}{vs:List V}(N:List Str)(t:Trs K Z Xh ds vs):SR K Z Xh (stD N.length ds) (Zs N vs):=by
 refine{by unfold stD Zs;simp[t.len],λi d e=>?_};unfold stD at e;unfold Zs;by_cases h:i<ds.length
 ·rw[Qp (by simpa using h),Qu]at e;cases z:ds[i]? with
  |none=>rw[z]at e;cases e
  |some d'=>
   rw[z]at e;cases e;obtain⟨v,h1,h2⟩:=t.at z;refine{v,?_,h2};rw[Qp (by simpa [t.len] using h),Qu,h1];rfl
 rw[Ql (by simpa using h),Q7]at e;split at e<;>cases e
theorem M3{K:Uw}{G:Ent}{Z:List Uu}{Xh H:Hp}{M:MS}{d d':D}{v:V}(R:RS K G Z Xh H M)(t:Tr K Z Xh d v)(e:G5 M d=Zh d'):∃X',br Xh X'/\br X' H/\(∀a,X' a≠Zi->G.X0 a≠Zi\/G.Y a=Zi)/\Tr K [] X' d' v:=by
 unfold G5 at e;split at e
 ·split at e
  ·rename_i hM;split at e
   ·rename_i hp;cases e;obtain⟨a,ha,rfl,_,_,vs,hv,tv⟩:=cu R t hM (by intro z;cases z);obtain⟨R2,s2⟩:=R.gone ha hM (by intro z;cases z) hv;exact{_,s2,R2.same,R2.nw,by unfold Tr;exact{a,vs,rfl,bI,Trs.pure _ _ hp (tv.same s2)}}
   cases e
  ·rename_i hM;split at e
   ·rename_i hp;cases e;obtain⟨a,ha,rfl,_,_,vs,hv,hk,tv⟩:=cu R t hM (by intro z;cases z);obtain⟨R2,s2⟩:=R.gone ha hM (by intro z;cases z) hv;exact{_,s2,R2.same,R2.nw,by unfold Tr;exact{a,vs,rfl,bI,hk,Trs.pure _ _ hp (tv.same s2)}}
   cases e
  ·rename_i hM;split at e
   ·rename_i hp;cases e;obtain⟨a,ha,rfl,_,_,dx,vs,hv,hk,tv⟩:=cu R t hM (by intro z;cases z);obtain⟨R2,s2⟩:=R.gone ha hM (by intro z;cases z) hv;exact{_,s2,R2.same,R2.nw,by unfold Tr;exact{a,dx,vs,rfl,bI,hk,Trs.pure _ _ hp (tv.same s2)}}
   cases e
  cases e
 split at e
 ·rename_i hp;cases e;exact{Xh,br.refl _,R.same,R.nw,Tr.pure _ _ hp t}
 cases e
theorem RS.entry{K:Uw}{X H:Hp}(s:br X H):RS K ⟨X,H⟩ [] X H []:={s,br.refl _,br.refl _,λa h=>.inl h,rfl,λn a h=>(by cases h),λm n a h=>(by cases h),λn a o h=>(by cases h)}
theorem K5{K:Uw}{t:TS}{r:RSt}{N:List Str}{n:Nat}{vs:List V}{H:Hp}{Q:VK}{E:XK}(v:VS K t r)(h:spP K (fnP n N.length r) vs H Q E):t { nx:=λ_ H'=>Q .non H',rt:=Q } (Zs N vs) H:=by
 obtain⟨ds,d,X,e,s,tr,k⟩:=h;unfold fnP at e;split at e
 case isFalse=>cases e
 obtain⟨o,e1,e⟩:=bnd e;refine v ⟨X,H⟩ _ [] o [] X H _ _ e1 (RS.entry s) (SR.ini N tr) ?_;cases o with
 |nx B M=>cases e;exact λZ' X' H' U' p s' R S=>k X' H' .non s' R.same R.y R.nw (by unfold Tr;rfl)
 |rt d1 M=>
  intro Z' X' H' v' p s' R tv;obtain⟨X2,a,b,c,f⟩:=M3 R tv e;exact k X2 H' v' (s'.trans a) b R.y c f
 |bk B M=>cases e
 |ct B M=>cases e
theorem mkP{P:Program}{w:UC}{K:Uw}{mg:Str->Option Ut}{base:UT}{x:Str}{st:UP}{N ps:List Str}{k:Nat}{r:RSt}(F:bW K mg x st ps)(S:bc N ps (aL st))
  (hbody:∀(f:Uu)(cdv:Ut)(A:US)(outer:List Env)(s:Uy)(H:Hp)(E:XK),cV k (A.deeper (V0 x (aL st) s.heap.objs.size f cdv))->(A.deeper (V0 x (aL st) s.heap.objs.size f cdv)).units+64<Vy->QSs (tL CX0 P w K mg base N x (aL st) f cdv A outer s H E).nox (b9 st) r):Has P w K mg base (k+1) x ps (spP K (fnP ps.length N.length r)):=by
 refine F.hs S (λf cdv A outer s H vs Q E hr hu h=>?_) (λvs H Q E h=>?_)
 ·obtain⟨t,p,v⟩:=hbody f cdv A outer s H E hr hu;exact⟨t,p,K5 v h⟩
 obtain⟨ds,d,X,e,s,tr,k⟩:=h
 unfold fnP at e
 split at e
 ·rename_i l;rw[tr.len];exact l
 cases e
abbrev RX:=SD->MS->Option (D×MS)
def CnX(K:Uw)(G:Ent)(Z:List Uu)(X:Hp)(M':MS)(d:D)(Q:VK):Prop:=∀Z' X' H' v,Pre Z Z'->br X X'->RS K G Z' X' H' M'->Tr K Z' X' d v->Q v H'
def VX(K:Uw)(te:TE)(r:RX):Prop:=∀(G:Ent)(B:SD)(M:MS)(d:D)(M':MS)(Z:List Uu)(X H:Hp)(U:St)(Q:VK),r B M=Zh (d,M')->RS K G Z X H M->SR K Z X B U->CnX K G Z X M' d Q->te U H Q
def QX(X:Cx)(e:Expr)(r:RX):Prop:=∃te,PE X e te/\VX X.K te r
noncomputable def xOf(r:RE):RX:=λB M=>(r B M).bind λd=>Zh (d,M)
noncomputable def yr(i:Nat)(r:RX):RSt:=λB M=>(r B M).bind λp=>Zh (.nx (B.set i (Zh p.1)) p.2)
noncomputable def Cy(r:RX):RSt:=λB M=>(r B M).bind λp=>Zh (.rt p.1 p.2)
noncomputable def kS(r:RX):RSt:=λB M=>(r B M).bind λp=>Zh (.nx B p.2)
section
variable{X:Cx}{e:Expr}{re:RE}{rx:RX}{pos:Pos}
theorem oa(i:Nat)(hN:X.N.Nodup)(he:QX X e rx)(hi:X.N[i]?=Zh x:=by rfl)(hx:Loc X.env.scope x:=by trivial)(hs:Vh e (Zh (.Name x pos')) pos.line X.env=pure false:=by rfl)(hf:X.fn x=true\/X.env.scope.names.lookup x=Zh .local:=by trivial):QS X (.Assign [.Name x pos'] e pos) (yr i rx):=by
 obtain⟨t,p,v⟩:=he;refine{_,AK hN hi hx p hs hf,λG B M o Z Xh H U E h R S k=>?_};obtain⟨⟨d,M'⟩,e1,h⟩:=bnd h;cases h;exact v G B M d M' Z Xh H U _ e1 R S λZ' X1 H1 x p1 s1 R1 t1=>k Z' X1 H1 _ p1 s1 R1 ((S.mono p1 s1).set i t1)
theorem Ez(he:QX X e rx):QS X (.Return (Zh e) pos) (Cy rx):=by
 obtain⟨t,p,v⟩:=he;refine{_,Gw p,λG B M o Z Xh H U E h R S k=>?_};obtain⟨⟨d,M'⟩,e1,h⟩:=bnd h;cases h;exact v G B M d M' Z Xh H U _ e1 R S λZ' X1 H1 x p1 s1 R1 t1=>k Z' X1 H1 x p1 s1 R1 t1
theorem dQ(he:QX X e rx)(hs:Vh e Zi pos.line X.env=pure false:=by rfl):QS X (.Expr e pos) (kS rx):=by
 obtain⟨t,p,v⟩:=he;refine{_,nM p hs,λG B M o Z Xh H U E h R S k=>?_};obtain⟨⟨d,M'⟩,e1,h⟩:=bnd h;cases h;exact v G B M d M' Z Xh H U _ e1 R S λZ' X1 H1 x p1 s1 R1 t1=>k Z' X1 H1 U p1 s1 R1 (S.mono p1 s1)
end
inductive spI(K:Uw)(F:List D->MS->Option (D×MS))(vs:List V)(H:Hp)(Q:VK)(E:XK):Prop
 |mk(G:Ent)(Z:List Uu)(X:Hp)(M:MS)(ds:List D)(d:D)(M':MS)(e:F ds M=Zh (d,M'))(R:RS K G Z X H M)(t:Trs K Z X ds vs)(k:CnX K G Z X M' d Q):spI K F vs H Q E
def bT:Out->Option (D×MS)
 | .rt d M=>Zh (d,M)
 | .nx _ M=>Zh (.non,M)
 |_=>Zi
def fnI(n m:Nat)(r:RSt):List D->MS->Option (D×MS):=λds M=>if ds.length=n then(r (stD m ds) M).bind bT else Zi
theorem GL{K:Uw}{t:TS}{r:RSt}{N:List Str}{n:Nat}{vs:List V}{H:Hp}{Q:VK}{E:XK}(v:VS K t r)(h:spI K (fnI n N.length r) vs H Q E):t { nx:=λ_ H'=>Q .non H',rt:=Q } (Zs N vs) H:=by
 obtain⟨G,Z,X,M,ds,d,M',e,R,tr,k⟩:=h;unfold fnI at e;split at e
 case isFalse=>cases e
 obtain⟨o,e1,e⟩:=bnd e;refine v G _ M o Z X H _ _ e1 R (SR.ini N tr) ?_;cases o with
 |nx B M1=>cases e;exact λZ' X' H' U' p s' R S=>k Z' X' H' .non p s' R (by unfold Tr;rfl)
 |rt d1 M1=>cases e;exact λZ' X' H' v' p s' R tv=>k Z' X' H' v' p s' R tv
 |bk B M=>cases e
 |ct B M=>cases e
theorem CC{K:Uw}{n m:Nat}{r:RSt}{vs:List V}{H:Hp}{Q:VK}{E:XK}(h:spI K (fnI n m r) vs H Q E):vs.length=n:=by
 obtain⟨G,Z,X,M,ds,d,M',e,R,tr,k⟩:=h;unfold fnI at e;split at e
 ·rename_i l;rw[tr.len];exact l
 cases e
section
variable{P:Program}{w:UC}{K:Uw}{mg:Str->Option Ut}{base:UT}{x:Str}{st:UP}{N ps:List Str}{k:Nat}{r:RSt}{C:Uu}{m qual:Str}
theorem mkI(F:bW K mg x st ps)(S:bc N ps (aL st))
  (hbody:∀(f:Uu)(cdv:Ut)(A:US)(outer:List Env)(s:Uy)(H:Hp)(E:XK),cV k (A.deeper (V0 x (aL st) s.heap.objs.size f cdv))->(A.deeper (V0 x (aL st) s.heap.objs.size f cdv)).units+64<Vy->QSs (tL CX0 P w K mg base N x (aL st) f cdv A outer s H E).nox (b9 st) r):Has P w K mg base (k+1) x ps (spI K (fnI ps.length N.length r)):=by
 refine F.hs S (λf cdv A outer s H vs Q E hr hu h=>?_) (λvs H Q E h=>CC h)
 obtain⟨t,p,v⟩:=hbody f cdv A outer s H E hr hu
 exact⟨t,p,GL v h⟩
theorem fw(F:MFn K C m qual st ps)(S:bc N ps (aL st))
  (hbody:∀(f:Uu)(cdv:Ut)(A:US)(outer:List Env)(s:Uy)(H:Hp)(E:XK),cV k (A.deeper (V0 qual (aL st) s.heap.objs.size f cdv))->(A.deeper (V0 qual (aL st) s.heap.objs.size f cdv)).units+64<Vy->QSs (tL CX0 P w K mg base N qual (aL st) f cdv A outer s H E).nox (b9 st) r):cH P w K mg base (k+1) C m ps (spI K (fnI ps.length N.length r)):=by
 refine F.hs S (λf cdv A outer s H vs Q E hr hu h=>?_) (λvs H Q E h=>CC h)
 obtain⟨t,p,v⟩:=hbody f cdv A outer s H E hr hu
 exact⟨t,p,GL v h⟩
end
noncomputable def yz(F:List D->MS->Option (D×MS))(ra:RA):RX:=λB M=>(ra B M).bind λds=>F ds M
section
variable{X:Cx}{j k:Nat}{x:Str}{ps:List Str}{F:List D->MS->Option (D×MS)}{e o:Expr}{es:List Expr}{rs:RA}{ro:RE}{p pos apos:Pos}{C:Uu}{m:Str}
theorem jj(D':Has X.prog X.w X.K X.mg X.base j x ps (spI X.K F))(hr:cV k X.A)(ha:QA X (e::es) rs)(hj:j<=k:=by decide)(hg:Gl X x:=by rfl)
  (hdb:(x==("__debug__":Str))=false:=by decide) (he:Uv (e::es) X.env=(false,UO e X.env)::Uv es X.env:=by rfl) (hpl:(UM pos (Uv es X.env)).any (·.1)=false:=by rfl):QX X (.Call (.Name x p) (e::es) [] pos) (yz F rs):=by
 obtain⟨t,pa,va⟩:=ha
 refine{_,tJ D' hr pa hj hg hdb he hpl,λG B M d M' Z Xh H U Q e R S k=>?_}
 obtain⟨ds,e1,e⟩:=bnd e
 refine va G B M ds Z Xh H U _ e1 R S λX1 H1 vs s1 R1 t1=>?_
 rw[Qo]
 exact{G,Z,X1,M,ds,d,M',e,R1,t1,λZ' X' H' v p' s' R' t'=>k Z' X' H' v p' (s1.trans s') R' t'}
def tV(C:Uu)(m:Str)(F:List D->MS->Option (D×MS))(ro:RE)(ra:RA):RX:=λB M=>(ro B M).bind λd=>(Zt M d).bind λob=>if ob.1=C/\m∉ob.2.1 then(ra B M).bind λds=>F (d::ds) M else Zi
theorem BH{α:Type}{fs:List (Str×α)}{m:Str}(h:m∉fs.map (·.1)):fs.lookup m=Zi:=by
 induction fs with
 |nil=>rfl
 |cons x r ih=>
  rw[Qc,P7,not_or]at h;rw[Qw];have:(m==x.1)=false:=beq_eq_false_iff_ne.mpr h.1;rw[this];exact ih h.2
theorem tR(ho:QE X o ro)(c:Cls X.K C)(D':cH X.prog X.w X.K X.mg X.base j C m ps (spI X.K F))(hr:cV k X.A)(ha:QA X (e::es) rs)(hj:j<=k:=by decide)
  (hst:Uv (e::es) X.env=(false,UO e X.env)::Uv es X.env:=by rfl) (hpl:(UM pos (Uv es X.env)).any (·.1)=false:=by rfl)
  (ht:UO (.Call (.Attribute o m apos) (e::es) [] pos) X.env=(do
   let ov<-UO o X.env
   V3 apos.atName
   let (f,first)<-Vv [ov] (VW ov m pl)
   callWith pos f first (UM pos (Uv (e::es) X.env)) (UW pos (UN [] X.env))):=by rfl):QX X (.Call (.Attribute o m apos) (e::es) [] pos) (tV C m F ro rs):=by
 obtain⟨t0,p0,v0⟩:=ho
 obtain⟨t,pa,va⟩:=ha
 refine{_,D9 p0 c D' hr pa hj hst hpl ht,λG B M d M' Z Xh H U Q e R S k=>?_}
 replace e:=bnd e
 obtain⟨d0,e0,e⟩:=e
 replace e:=bnd e
 obtain⟨⟨C',fn,vs⟩,eo,e⟩:=e
 dsimp only at e
 split at e
 ·rename_i hC;obtain⟨hC,hm⟩:=hC;subst hC;replace e:=bnd e;obtain⟨ds,e1,e⟩:=e;refine v0 G B M d0 Z Xh H U _ e0 R S λX1 H1 y s1 R1 t1=>?_;obtain⟨a,dx,fs,rfl,h1,h2,h3⟩:=Az R1 t1 eo;refine{a,dx,fs,rfl,h1,BH (by rw[h2];exact hm),va G B M ds Z X1 H1 U _ e1 R1 (S.same s1) λX2 H2 ws s2 R2 t2=>?_};rw[Qo];exact{G,Z,X2,M,d0::ds,d,M',e,R2,Trs.cons (t1.same s2) t2,λZ' X' H' v p' s' R' t'=>k Z' X' H' v p' ((s1.trans s2).trans s') R' t'}
 cases e
theorem Jq(ho:QE X o ro)(c:Cls X.K C)(D':cH X.prog X.w X.K X.mg X.base j C m ps (spI X.K F))(hr:cV k X.A)(hj:j<=k:=by decide)
  (ht:UO (.Call (.Attribute o m apos) [] [] pos) X.env=(do
   let ov<-UO o X.env
   V3 apos.atName
   let (f,first)<-Vv [ov] (VW ov m pl)
   callWith pos f first (UM pos (Uv [] X.env)) (UW pos (UN [] X.env))):=by rfl):QX X (.Call (.Attribute o m apos) [] [] pos) (tV C m F ro aK):=by
 obtain⟨t0,p0,v0⟩:=ho
 refine{_,Di p0 c D' hr hj ht,λG B M d M' Z Xh H U Q e R S k=>?_}
 replace e:=bnd e
 obtain⟨d0,e0,e⟩:=e
 replace e:=bnd e
 obtain⟨⟨C',fn,vs⟩,eo,e⟩:=e
 dsimp only at e
 split at e
 ·rename_i hC;obtain⟨hC,hm⟩:=hC;subst hC;replace e:=bnd e;obtain⟨ds,e1,e⟩:=e;cases e1;refine v0 G B M d0 Z Xh H U _ e0 R S λX1 H1 y s1 R1 t1=>?_;obtain⟨a,dx,fs,rfl,h1,h2,h3⟩:=Az R1 t1 eo;exact{a,dx,fs,rfl,h1,BH (by rw[h2];exact hm),{G,Z,X1,M,[d0],d,M',e,R1,Trs.cons t1 Trs.nil,λZ' X' H' v p' s' R' t'=>k Z' X' H' v p' (s1.trans s') R' t'}}
 cases e
noncomputable def oR(C:Uu)(F:List D->MS->Option (D×MS))(ra:RA):RX:=λB M=>(ra B M).bind λds=>(F (.cell M.length::ds) (M++[.obj C [] []])).bind λp=>match p.1 with
 | .non=>Zh (.cell M.length,p.2)
 |_=>Zi
theorem BI{K:Uw}{t:TA}(va:VA K t rs):VX K (vq C (spI K F) [] E0 t) (oR C F rs):=λG B M d M' Z Xh H U Q e R S k=>by
 obtain⟨ds,e1,e⟩:=bnd e;obtain⟨⟨d1,M1⟩,e2,e⟩:=bnd e;dsimp only at e;split at e
 case h_2=>cases e
 cases e;refine va G B M ds Z Xh H U _ e1 R S λX1 H1 vs s1 R1 t1=>?_;intro x dx hx hdx ne;rw[Qo];have a1:=R1.fresh hdx;have Ra:=R1.off a1 (.own x);have hx':upd H1 dx (HO.own x) x=Zi:=by rw[bN (Rx ne)];exact hx
 have a2:=Ra.fresh hx';have Rb:=(Ra.off a2 (.ins C dx [])).cell a2 (o:=.obj C [] []) (by intro z;cases z) {dx,[],bI,rfl,Trs.nil};have tx:Tr K (Z++[x]) X1 (.cell M.length) (.ref x):=by
  unfold Tr;exact{x,by rw[<-R1.len,Ql (Qf _),QU];rfl,rfl}
 exact{G,Z++[x],X1,_,_,.non,M',e2,Rb,Trs.cons tx (Trs.mono (Pre.app _ _) (br.refl _) _ _ t1),λZ' X' H' v p' s' R' t'=>{by unfold Tr at t';exact t',k Z' X' H' _ ((Pre.app _ _).trans p') (s1.trans s') R' (Tr.mono p' s' _ _ tx)}}
theorem zq(O:dU X.K X.mg C x up)(D':cH X.prog X.w X.K X.mg X.base j C "__init__" ps (spI X.K F))(hr:cV k X.A)(ha:QA X (e::es) rs)(hj:j+1<=k:=by decide)(hg:Gl X x:=by rfl)(hdb:(x==("__debug__":Str))=false:=by decide)
  (he:Uv (e::es) X.env=(false,UO e X.env)::Uv es X.env:=by rfl) (hpl:(UM pos (Uv es X.env)).any (·.1)=false:=by rfl):QX X (.Call (.Name x p) (e::es) [] pos) (oR C F rs):=by
 obtain⟨t,pa,va⟩:=ha
 exact{_,zH O D' hr pa hj hg hdb he hpl,BI va}
theorem FR(O:dU X.K X.mg C x up)(D':cH X.prog X.w X.K X.mg X.base j C "__init__" ps (spI X.K F))(hr:cV k X.A)(hj:j+1<=k:=by decide)(hg:Gl X x:=by rfl)(hdb:(x==("__debug__":Str))=false:=by decide):QX X (.Call (.Name x p) [] [] pos) (oR C F aK):=by
 refine{_,C0 O D' hr hj hg hdb,BI (rs:=aK) ?_};exact λG B M ds Z Xh H U Q e R S q=>by cases e;exact q Xh H [] (br.refl _) R Trs.nil
noncomputable def ZP(C:Uu)(F:List D->MS->Option (D×MS)):MS->List D->Option D:=λ_ ds=>if bD ds=true then(F (.cell 0::ds) [.obj C [] []]).bind λp=>match p with
 | (.non,[.obj C' fn vs])=>if bD vs=true then Zh (.obj C' fn vs)else Zi
 |_=>Zi
 else Zi
theorem Kw{K:Uw}{t:TA}(va:VA K t rs):VE K (vq C (spI K F) [] E0 t) (aN (ZP C F) rs):=λG B M d Z Xh H U Q e R S k=>by
 obtain⟨ds,e1,e⟩:=bnd e;unfold ZP at e;split at e
 case isFalse=>cases e
 rename_i hp;obtain⟨p,e2,e⟩:=bnd e;split at e
 case h_2=>cases e
 rename_i C' fn us;split at e
 case isFalse=>cases e
 rename_i hu;cases e;refine va G B M ds Z Xh H U _ e1 R S λX1 H1 vs s1 R1 t1=>?_;intro x dx hx hdx ne;rw[Qo];have hx':upd H1 dx (HO.own x) x=Zi:=by rw[bN (Rx ne)];exact hx
 have sx:br X1 (upd (upd H1 dx (.own x)) x (.ins C dx [])):=R1.same.trans ((br.upd hdx _).trans (br.upd hx' _));have x1x:X1 x=Zi:=br.free R1.same hx;have Re:RS K ⟨X1,H1⟩ [x] X1 (upd (upd H1 dx (.own x)) x (.ins C dx [])) [.obj C [] []]:={
  same:=sx
  x0:=br.refl _
  y:=(br.upd hdx _).trans (br.upd hx' _)
  nw:=λa h=>.inl h
  len:=rfl
  live:=λn a h=>by
   cases n with
   |zero=>cases h;rw[bI];intro z;cases z
   |succ n=>cases h
  nd:=λm n a h1 h2=>by
   cases m with
   |zero=>cases n with
    |zero=>rfl
    |succ n=>cases h2
   |succ m=>cases h1
  ob:=λn a o h1 h2 _=>by
   cases n with
   |zero=>cases h1;cases h2;exact{x1x,hx,dx,[],bI,rfl,Trs.nil}
   |succ n=>cases h1 }
 have tx:Tr K [x] X1 (.cell 0) (.ref x):=by unfold Tr;exact⟨x,rfl,rfl⟩
 refine{_,_,_,_,_,.non,_,e2,Re,Trs.cons tx (Trs.mono (Z:=[]) (λn a h=>by cases h) (br.refl _) _ _ (Trs.pure ds vs hp t1)),λZ' X' H' v p' s' R' t'=>{by unfold Tr at t';exact t',?_}};have ex:Z'[0]?=Zh x:=p' 0 x rfl;obtain⟨_,hY,dx',fs',h1,h2,h3⟩:=R'.ob 0 x _ ex rfl (by intro z;cases z);obtain⟨R2,s2⟩:=R'.gone ex rfl (by intro z;cases z) h1;have nw2:∀a,(upd X' x (.ins C' dx' fs')) a≠Zi->X1 a≠Zi\/H1 a=Zi:=R2.nw;refine k _ H' _ (s1.trans (s'.trans s2)) (R1.new (s'.trans s2) R2.same R2.y nw2) ?_;unfold Tr;exact{x,dx',fs',rfl,bI,h2,Trs.pure _ _ hu (h3.same s2)}
theorem wO(O:dU X.K X.mg C x up)(D':cH X.prog X.w X.K X.mg X.base j C "__init__" ps (spI X.K F))(hr:cV k X.A)(ha:QA X (e::es) rs)(hj:j+1<=k:=by decide)(hg:Gl X x:=by rfl)(hdb:(x==("__debug__":Str))=false:=by decide)
  (he:Uv (e::es) X.env=(false,UO e X.env)::Uv es X.env:=by rfl) (hpl:(UM pos (Uv es X.env)).any (·.1)=false:=by rfl):QE X (.Call (.Name x p) (e::es) [] pos) (aN (ZP C F) rs):=by
 obtain⟨t,pa,va⟩:=ha
 exact{_,zH O D' hr pa hj hg hdb he hpl,Kw va}
end
noncomputable def ZK(f:Str)(d:D):List Str->List D->List Str×List D
 |g::gs,x::xs=>if g=f then(g::gs,d::xs)else((g::(ZK f d gs xs).1),(x::(ZK f d gs xs).2))
 |_,_=>([f],[d])
theorem B0{K:Uw}{Z:List Uu}{X:Hp}{f:Str}{d:D}{y:V}(t:Tr K Z X d y):∀{fs:List (Str×V)}{ds:List D},Trs K Z X ds (fs.map (·.2))->(jo f y fs).map (·.1)=(ZK f d (fs.map (·.1)) ds).1/\Trs K Z X (ZK f d (fs.map (·.1)) ds).2 ((jo f y fs).map (·.2)):=by
 intro fs;induction fs with
 |nil=>
  intro ds h;cases ds with
  |nil=>exact⟨rfl,Trs.cons t Trs.nil⟩
  |cons d' ds=>unfold Trs at h;obtain⟨_,_,e,_⟩:=h;cases e
 |cons p fs ih=>
  intro ds h;cases ds with
  |nil=>unfold Trs at h;cases h
  |cons d' ds=>
   unfold Trs at h;obtain⟨v,r,e,h1,h2⟩:=h;cases e;obtain⟨i1,i2⟩:=ih h2;obtain⟨g,w⟩:=p;unfold jo ZK;by_cases c:g=f
   ·simp only[c,if_true,Qc];exact⟨trivial,Trs.cons t h2⟩
   simp only[c,if_false,Qc,i1,List.cons.injEq,true_and];exact Trs.cons h1 i2
def yg(f:Str)(cs:List Uu)(ro re:RE):RSt:=λB M=>(re B M).bind λd=>(ro B M).bind λc=>match c with
 | .cell n=>match M[n]? with
  |some (.obj C fn ds)=>if C∈cs/\fn.length<1000 then Zh (.nx B (M.set n (.obj C (ZK f d fn ds).1 (ZK f d fn ds).2)))else Zi
  |_=>Zi
 |_=>Zi
section
variable{X:Cx}{o e i:Expr}{ro re ri:RE}{f:Str}{cs:List Uu}{pos pos':Pos}
theorem cR(ok:df X.K f cs)(ho:QE X o ro)(he:QE X e re)(hs:Vh e (Zh (.Attribute o f pos')) pos.line X.env=pure false:=by rfl):QS X (.Assign [.Attribute o f pos'] e pos) (yg f cs ro re):=by
 obtain⟨t,p,v⟩:=ho;obtain⟨t',p',v'⟩:=he;refine{_,GI p p' hs,λG B M oo Z Xh H U E h R S k=>?_};obtain⟨d,e2,h⟩:=bnd h;obtain⟨c,e1,h⟩:=bnd h;refine v' G B M d Z Xh H U _ e2 R S λX1 H1 y s1 R1 t1=>v G B M c Z X1 H1 U _ e1 R1 (S.same s1) λX2 H2 x s2 R2 t2=>?_;split at h
 ·split at h
  ·rename_i hM;split at h
   ·rename_i hc;cases h;obtain⟨a,ha,rfl,_,_,dx,fs,hv,hf,tv⟩:=cu R2 t2 hM (by intro z;cases z);subst hf;obtain⟨i1,i2⟩:=B0 (f:=f) (t1.same s2) tv;exact{a,_,dx,fs,rfl,hv,(ok _ hc.1).1,(ok _ hc.1).2,by simpa using hc.2,k Z X2 _ U (Pre.refl _) (s1.trans s2) (R2.put ha hM (by intro z;cases z) {dx,_,bI,i1,i2}) ((S.same s1).same s2)}
   cases h
  cases h
 cases h
noncomputable def lr(k:Key)(d:D)(ks:List Key)(ds:List D):List Key×List D:=if(ks.any λx=>decide (x=k))=true then(ks,(ks.zip ds).map λp=>if p.1=k then d else p.2)else(ks++[k],ds++[d])
def qH(ro ri re:RE):RSt:=λB M=>(re B M).bind λd=>(ro B M).bind λc=>(ri B M).bind λi=>match c with
 | .cell n=>match M[n]?,i with
  |some (.lst ds),.int z=>(ixN ds.length z).bind λj=>Zh (.nx B (M.set n (.lst (ds.set j d))))
  |some (.dic ks ds),i=>(yA i).bind λk=>if ks.length<sizeLine then Zh (.nx B (M.set n (.dic (lr k d ks ds).1 (lr k d ks ds).2)))else Zi
  |_,_=>Zi
 |_=>Zi
theorem Ji{K:Uw}{Z:List Uu}{Xh:Hp}{k:Key}{d:D}{y:V}(t:Tr K Z Xh d y){kvs:List (Key×V)}{ds:List D}(h:Trs K Z Xh ds (kvs.map (·.2))):(Zz kvs k y).map (·.1)=(lr k d (kvs.map (·.1)) ds).1/\Trs K Z Xh (lr k d (kvs.map (·.1)) ds).2 ((Zz kvs k y).map (·.2)):=by
 have any:((kvs.map (·.1)).any λx=>decide (x=k))=(kvs.any λkv=>decide (kv.1=k)):=by rw[SI];rfl
 unfold Zz lr;rw[any];by_cases c:(kvs.any λkv=>decide (kv.1=k))=true
 ·rw[if_pos c,if_pos c];refine{?_,?_}
  ·rw[QH];refine List.map_congr_left λx _=>?_;show(if x.1=k then(x.1,y)else x).1=x.1;split<;>rfl
  clear any c;show Trs K Z Xh (((kvs.map (·.1)).zip ds).map λp=>if p.1=k then d else p.2) ((kvs.map λkv=>if kv.1=k then(kv.1,y)else kv).map (·.2));induction kvs generalizing ds with
  |nil=>exact Trs.nil
  |cons p kvs ih=>
   cases ds with
   |nil=>unfold Trs at h;cases h
   |cons d' ds=>
    unfold Trs at h;obtain⟨v,r,e,h1,h2⟩:=h;cases e;refine Trs.cons ?_ (ih h2);dsimp only;split
    ·exact t
    exact h1
 rw[if_neg c,if_neg c];refine{by rw[Qz];rfl,?_};show Trs K Z Xh (ds++[d]) ((kvs++[(k,y)]).map (·.2));rw[Qz];exact h.app (Trs.cons t Trs.nil)
end
end L2
namespace L2
open PySem
section
variable{X:Cx}{o e i a b c:Expr}{ro re ri ra rb rc:RE}{es:List Expr}{rs:RA}{pos pos' apos cpos p:Pos}
theorem v5(hu:X.A.units+64<Vy)(ho:QE X o ro)(hi:QE X i ri)(he:QE X e re)
  (ha:∀v,assign (.Subscript o i pos') X.env v=(do
   let ov<-Vv [v] (UO o X.env)
   let iv<-Vv [v,ov] (UO i X.env)
   V3 pos'
   Vv [v,ov,iv] (Zg ov iv v)
   release [v,ov,iv] []):=by intro _;rfl)
  (hs:swapsWithSole [.Subscript o i pos'] e pos.line X.env=pure false:=by rfl) (hw:swappedStores [.Subscript o i pos'] e X.env=pure Zi:=by rfl)
  (h1:(VB [.Subscript o i pos'] X.env).map (·.2)=[assign (.Subscript o i pos') X.env]:=by rfl):QS X (.Assign [.Subscript o i pos'] e pos) (qH ro ri re):=by
 obtain⟨t,p,v⟩:=ho
 obtain⟨t',p',v'⟩:=hi
 obtain⟨t2,p2,v2⟩:=he
 refine{_,LS p2 (Kq p p' (Kn hu set_list) ha) hs hw h1,λG B M oo Z Xh H U E h R S k=>?_}
 obtain⟨d,e1,h⟩:=bnd h
 obtain⟨cc,e2,h⟩:=bnd h
 obtain⟨ii,e3,h⟩:=bnd h
 refine v2 G B M d Z Xh H U _ e1 R S λX1 H1 y s1 R1 t1=>v G B M cc Z X1 H1 U _ e2 R1 (S.same s1) λX2 H2 x s2 R2 t2=>v' G B M ii Z X2 H2 U _ e3 R2 ((S.same s1).same s2) λX3 H3 z s3 R3 t3=>?_
 have ty:=(t1.same s2).same s3
 have tx:=t2.same s3
 have SS:=((S.same s1).same s2).same s3
 have ss:=s1.trans (s2.trans s3)
 split at h
 ·split at h
  ·rename_i hM;obtain⟨j,ej,h⟩:=bnd h;cases h;obtain⟨a,ha,rfl,_,_,vs,hv,tv⟩:=cu R3 tx hM (by intro z;cases z);unfold Tr at t3;subst t3;exact .inl {vs,j,hv,by rw[tv.len];exact ej,k Z X3 _ U (Pre.refl _) ss (R3.put ha hM (by intro z;cases z) {_,bI,tv.set j ty}) SS}
  ·rename_i hM;obtain⟨ky,ek,h⟩:=bnd h;split at h
   ·rename_i hl;cases h;obtain⟨a,ha,rfl,_,_,kvs,hv,hk,tv⟩:=cu R3 tx hM (by intro z;cases z);subst hk;have hz:=sU t3 ek;subst hz;obtain⟨i1,i2⟩:=Ji (k:=ky) ty tv;have hp:IS H3 a (kV ky) y (upd H3 a (.dK (Zz kvs ky y))):=.inl ⟨kvs,ky,hv,rfl,by simpa using hl,rfl⟩;have fin:=k Z X3 _ U (Pre.refl _) ss (R3.put ha hM (o':=.dic (lr ky d (kvs.map (·.1)) _).1 (lr ky d (kvs.map (·.1)) _).2) (by intro z;cases z) {_,bI,i1,i2}) SS;cases ky with
    |inl n=>exact .inr {_,hp,fin}
    |inr s=>exact{_,hp,fin}
   cases h
  cases h
 cases h
noncomputable def Eo(ro:RE):RX:=λB M=>(ro B M).bind λc=>match c with
 | .cell n=>match M[n]? with
  |some (.lst ds)=>(ds[ds.length-1]?).bind λd=>Zh (d,M.set n (.lst ds.dropLast))
  |_=>Zi
 |_=>Zi
theorem Trs.dl(t:Trs K Z Xh ds vs):Trs K Z Xh ds.dropLast vs.dropLast:=by
 rw[Xu,Xu,t.len];exact t.take _
theorem Kl(ho:QE X o ro)(hbase:UR o "pop" X.env (UO o X.env)=UO o X.env:=by rfl)(hline:(apos.endLine==cpos.line)=true:=by rfl):QX X (.Call (.Attribute o "pop" apos) [] [] cpos) (Eo ro):=by
 obtain⟨t,p,v⟩:=ho;refine{_,NZ p hbase hline,λG B M d M' Z Xh H U Q h R S k=>?_};obtain⟨cc,e1,h⟩:=bnd h;refine v G B M cc Z Xh H U _ e1 R S λX1 H1 x s1 R1 t1=>?_;split at h
 ·split at h
  ·rename_i hM;obtain⟨d',ed,h⟩:=bnd h;cases h;obtain⟨a,ha,rfl,_,_,vs,hv,tv⟩:=cu R1 t1 hM (by intro z;cases z);obtain⟨w,hw,tw⟩:=tv.at ed;exact{.inl ⟨rfl,vs,SqL.of hv⟩,a,vs,w,rfl,rfl,hv,by rw[tv.len];exact hw,k Z X1 _ w (Pre.refl _) s1 (R1.put ha hM (by intro z;cases z) {_,bI,tv.dl}) tw}
  cases h
 cases h
def ar(f g:MS->D->D->Option D)(ra rb rc:RE):RE:=λB M=>(ra B M).bind λx=>(rb B M).bind λy=>(f M x y).bind λz=>(aC M z).bind λk=>if k=true then(rc B M).bind λw=>g M y w else Zh (.bl false)
theorem yP(o:VOp K r f)(o':VOp K r' g)(ha:VE K ta ra)(hb:VE K tb rb)(hc:VE K tc rc):VE K (AL r r' ta tb tc) (ar f g ra rb rc):=λG B M d Z Xh H U Q e R S k=>by
 obtain⟨x,e1,e⟩:=bnd e;obtain⟨y,e2,e⟩:=bnd e;obtain⟨z,e3,e⟩:=bnd e;obtain⟨kk,e4,e⟩:=bnd e;refine ha G B M x Z Xh H U _ e1 R S λX1 H1 u s1 R1 t1=>hb G B M y Z X1 H1 U _ e2 R1 (S.same s1) λX2 H2 v s2 R2 t2=>o G M x y z Z X2 H2 u v _ e3 R2 (t1.same s2) t2 λX3 H3 w s3 R3 t3=>{kk,Bz t3 e4,?_};cases kk with
 |true=>
  obtain⟨q,e5,e⟩:=bnd e;exact hc G B M q Z X3 H3 U _ e5 R3 (((S.same s1).same s2).same s3) λX4 H4 w4 s4 R4 t4=>o' G M y q d Z X4 H4 v w4 Q e R4 (t2.same (s3.trans s4)) t4 (k.same (s1.trans (s2.trans (s3.trans s4))))
 |false=>cases e;exact k X3 H3 _ (s1.trans (s2.trans s3)) R3 (by unfold Tr;rfl)
theorem Lw(o:OpR X (UH op) r)(o':OpR X (UH op') r')(v:VOp X.K r f)(v':VOp X.K r' g)(ha:QE X a ra)(hb:QE X b rb)(hc:QE X c rc)(hm:Yt [op,op'] [b,c]=false:=by with_unfolding_all rfl):QE X (.Compare a [op,op'] [b,c] pos) (ar f g ra rb rc):=by
 obtain⟨ta,pa,va⟩:=ha;obtain⟨tb,pb,vb⟩:=hb;obtain⟨tc,pc,vc⟩:=hc;exact{_,GO o o' pa pb pc hm,yP v v' va vb vc}
abbrev RO:=SD->MS->Option (Option Int)
def VO(K:Uw)(t:TO)(r:RO):Prop:=∀(G:Ent)(B:SD)(M:MS)(z:Option Int)(Z:List Uu)(X H:Hp)(U:St)(Q:Option Int->Hp->Prop),r B M=Zh z->RS K G Z X H M->SR K Z X B U->(∀X' H',br X X'->RS K G Z X' H' M->Q z H')->t U H Q
def QO(X:Cx)(e:Option Expr)(r:RO):Prop:=∃t,PO X e t/\VO X.K t r
noncomputable def oNo:RO:=λ_ _=>Zh Zi
noncomputable def oAt(re:RE):RO:=λB M=>(re B M).bind λd=>match d with
 | .int i=>Zh (Zh i)
 |_=>Zi
theorem HN:QO X Zi oNo:={_,HJ,λG B M z Z Xh H U Q e R S k=>by cases e;exact k Xh H (br.refl _) R}
theorem yl(he:QE X e re):QO X (Zh e) (oAt re):=by
 obtain⟨t,p,v⟩:=he;refine{_,Hc p,λG B M z Z Xh H U Q h R S k=>?_};obtain⟨d,e1,h⟩:=bnd h;refine v G B M d Z Xh H U _ e1 R S λX1 H1 x s1 R1 t1=>?_;split at h
 ·cases h;unfold Tr at t1;exact{_,t1,k X1 H1 s1 R1}
 cases h
def ZH(xs:List D)(lo hi:Option Int):List D:=(xs.drop (HT.sIx xs.length 0 lo)).take (HT.sIx xs.length xs.length hi-HT.sIx xs.length 0 lo)
def slD(M:MS)(d:D)(lo hi:Option Int):Option D:=match d with
 | .str z=>if z.length<=sizeLine then Zh (.str (Txt.slice z lo hi))else Zi
 |d=>if isTup d=true then(ba M d).bind λxs=>if HT.sIx xs.length 0 lo=0/\HT.sIx xs.length xs.length hi=xs.length then Zi else Zh (.tup (ZH xs lo hi))else(ba M d).bind λxs=>Zh (.lst (ZH xs lo hi))
def dSl(re:RE)(rl rh:RO):RE:=λB M=>(re B M).bind λd=>(rl B M).bind λl=>(rh B M).bind λu=>slD M d l u
theorem i5(e:ba M d=Zh ds)(R:RS K G Z Xh H M)(t:Tr K Z Xh d v):∃a vs,v=.ref a/\(if isTup d=true then SqT K H a vs else SqL K H a vs)/\Trs K Z Xh ds vs:=gg (fx:=true) (by unfold bM;cases d<;>first|exact e|(rw[if_pos rfl];exact e)) R t
theorem Z0z(t:Trs K Z Xh ds vs)(lo hi:Option Int):Trs K Z Xh (ZH ds lo hi) (uH vs lo hi):=by
 unfold ZH uH;rw[t.len];exact(t.drop _).take _
theorem qsl(he:QE X e re)(hl:QO X lo rl)(hh:QO X hi rh):QE X (.Subscript e (.Slice lo hi Zi p2) pos) (dSl re rl rh):=by
 obtain⟨t,p,v⟩:=he;obtain⟨t1,p1,v1⟩:=hl;obtain⟨t2,p2,v2⟩:=hh;refine{_,Er Mx p p1 p2,λG B M d Z Xh H U Q h R S k=>?_};obtain⟨x,e1,h⟩:=bnd h;obtain⟨l,e2,h⟩:=bnd h;obtain⟨u,e3,h⟩:=bnd h;refine v G B M x Z Xh H U _ e1 R S λX1 H1 y s1 R1 t1=>v1 G B M l Z X1 H1 U _ e2 R1 (S.same s1) λX2 H2 s2 R2=>v2 G B M u Z X2 H2 U _ e3 R2 ((S.same s1).same s2) λX3 H3 s3 R3=>?_;have tx:=t1.same (s2.trans s3);have ss:=s1.trans (s2.trans s3);unfold slD at h;split at h
 ·split at h
  ·rename_i hz;cases h;unfold Tr at tx;subst tx;exact{hz,k X3 H3 _ ss R3 (by unfold Tr;rfl)}
  cases h
 split at h
 ·rename_i ht;obtain⟨xs,e4,h⟩:=bnd h;split at h
  ·cases h
  rename_i hn;cases h;obtain⟨a,vs,rfl,h1,h2⟩:=i5 e4 R3 tx;rw[if_pos ht]at h1;refine Rz {a,vs,rfl,h1,by rw[h2.len];exact hn,λq hq=>?_};obtain⟨R4,s4,e5⟩:=R3.alc hq (.tup (uH vs l u));exact k _ _ _ (ss.trans s4) R4 (by unfold Tr;exact{q,_,rfl,e5,(Z0z h2 l u).same s4})
 rename_i ht;obtain⟨xs,e4,h⟩:=bnd h;cases h;obtain⟨a,vs,rfl,h1,h2⟩:=i5 e4 R3 tx;rw[if_neg ht]at h1;refine RR {a,vs,rfl,h1,λq hq=>?_};obtain⟨R4,s4,e5⟩:=R3.alc hq (.lst (uH vs l u));exact k _ _ _ (ss.trans s4) R4 (by unfold Tr;exact{q,_,rfl,e5,(Z0z h2 l u).same s4})
def tyD(M:MS):D->Option (Sum String Uu)
 | .non=>Zh (.inl "NoneType")
 | .bl _=>Zh (.inl "bool")
 | .int _=>Zh (.inl "int")
 | .str _=>Zh (.inl "str")
 | .lst _=>Zh (.inl "list")
 | .tup _=>Zh (.inl "tuple")
 | .dic _ _=>Zh (.inl "dict")
 | .obj C _ _=>Zh (.inr C)
 | .cell n=>match M[n]? with
  |some (.lst _)=>Zh (.inl "list")
  |some (.dic _ _)=>Zh (.inl "dict")
  |some (.obj C _ _)=>Zh (.inr C)
  |_=>Zi
 |_=>Zi
noncomputable def tO:Sum String Uu->Ut
 | .inl s=>.type s
 | .inr C=>.ref C
def isD(tab:Sum String Uu->D->Option Bool):MS->List D->Option D:=λM ds=>match ds with
 | [d,c]=>(tyD M d).bind λt=>(tab t c).bind λb=>Zh (.bl b)
 |_=>Zi
structure yF(K:Uw)(cs:List Uu)(tab:Sum String Uu->D->Option Bool):Prop where
 own:∀C∈cs,Cls K C/\U3 K (.ref C) "__class__"=Zh (Zh (.builtin "object.__class__"))/\VM K (.builtin "object.__class__") "__get__"=Zh (Zh (.builtin "getset_descriptor.__get__"))/\W9 K (.builtin "object.__class__")=Zh true/\YM K C (.type "object")=Zh true
 ans:∀t c b,tab t c=Zh b->(∀C,t=.inr C->C∈cs)/\((∃n,c=.ty n/\Wh K (tO t) (.type n)=Zh b)\/∃E,c=.adr E/\Wh K (tO t) (.ref E)=Zh b)
theorem JM(I:yF K cs tab)(R:RS K G Z Xh H M)(tr:Tr K Z Xh d v)(e:tyD M d=Zh t)(hc:∀C,t=.inr C->C∈cs):kN K H v (tO t):=by
 have ow:∀{a C dx:Uu}{fs:List (Str×V)},H a=Zh (.ins C dx fs)->C∈cs->kN K H (.ref a) (.ref C):=λh m=>by
  obtain⟨h1,h2,h3,h4,h5⟩:=I.own _ m;exact .ins h h1 h2 h3 h4 h5
 unfold tyD at e;split at e
 ·cases e;unfold Tr at tr;subst tr;exact .non
 ·cases e;unfold Tr at tr;subst tr;exact .bl _
 ·cases e;unfold Tr at tr;subst tr;exact .int _
 ·cases e;unfold Tr at tr;subst tr;exact .str _
 ·cases e;unfold Tr at tr;obtain⟨a,vs,rfl,h,_⟩:=tr;exact .lst (R.same _ _ h)
 ·cases e;unfold Tr at tr;obtain⟨a,vs,rfl,h,_⟩:=tr;exact .tup (R.same _ _ h)
 ·cases e;unfold Tr at tr;obtain⟨a,vs,rfl,h,_⟩:=tr;exact .dK (R.same _ _ h)
 ·cases e;unfold Tr at tr;obtain⟨a,dx,fs,rfl,h,_⟩:=tr;exact ow (R.same _ _ h) (hc _ rfl)
 ·split at e
  ·rename_i hM;cases e;obtain⟨a,_,rfl,_,_,vs,h,_⟩:=cu R tr hM (by intro z;cases z);exact .lst h
  ·rename_i hM;cases e;obtain⟨a,_,rfl,_,_,vs,h,_⟩:=cu R tr hM (by intro z;cases z);exact .dK h
  ·rename_i hM;cases e;obtain⟨a,_,rfl,_,_,dx,fs,h,_⟩:=cu R tr hM (by intro z;cases z);exact ow h (hc _ rfl)
  cases e
 cases e
theorem ck(I:yF K cs tab):g8 K (KD K) (isD tab):=λG M ds d Z Xh H vs Q e R t k=>by
 unfold isD at e;split at e
 ·obtain⟨tt,e1,e⟩:=bnd e;obtain⟨bb,e2,e⟩:=bnd e;cases e;obtain⟨w,w',rfl,t1,t2⟩:=N4 t;obtain⟨h1,h2⟩:=I.ans _ _ _ e2;have ty:=JM I R t1 e1 h1;rcases h2 with⟨n,rfl,h3⟩|⟨E,rfl,h3⟩
  ·unfold Tr at t2;subst t2;exact{w,_,_,bb,rfl,(λz=>by cases z),ty,h3,k Xh H _ (br.refl _) R (by unfold Tr;rfl)}
  unfold Tr at t2;subst t2;exact{w,_,_,bb,rfl,(λz=>by cases z),ty,h3,k Xh H _ (br.refl _) R (by unfold Tr;rfl)}
 cases e
theorem qty(hm:X.mg x=Zi)(hg:Gl X x:=by rfl)(hv:Vj x=Zh (.type n):=by boot_by_name)(hn:x≠"__name__":=by decide)(hd:(x==("__debug__":Str))=false:=by decide):QE X (.Name x pos) (dC (.ty n)):={_,HQ (v:=.ty n) hg hm hv rfl hn hd,w8 λ_ _=>by unfold Tr;rfl}
noncomputable def nK:List D->Option (List Bool)
 | []=>Zh []
 | .bl b::ds=>(nK ds).bind λbs=>Zh (b::bs)
 |_=>Zi
theorem Ed:∀{ds:List D}{vs:List V}{bs:List Bool},Trs K Z Xh ds vs->nK ds=Zh bs->vs=bs.map V.bl:=by
 intro ds;induction ds with
 |nil=>intro vs bs t e;unfold Trs at t;cases e;exact t
 |cons d ds ih=>
  intro vs bs t e;unfold Trs at t;obtain⟨v,r,rfl,t1,t2⟩:=t;cases d with
  |bl b=>
   obtain⟨bs',e1,e⟩:=bnd (show(nK ds).bind _=_ from e);cases e;unfold Tr at t1;subst t1;rw[ih t2 e1];rfl
  |_=>cases e
noncomputable def vS:List D->Option (List Int)
 | []=>Zh []
 | .int b::ds=>(vS ds).bind λbs=>Zh (b::bs)
 |_=>Zi
theorem Hs:∀{ds:List D}{vs:List V}{bs:List Int},Trs K Z Xh ds vs->vS ds=Zh bs->vs=bs.map V.int:=by
 intro ds;induction ds with
 |nil=>intro vs bs t e;unfold Trs at t;cases e;exact t
 |cons d ds ih=>
  intro vs bs t e;unfold Trs at t;obtain⟨v,r,rfl,t1,t2⟩:=t;cases d with
  |int b=>
   obtain⟨bs',e1,e⟩:=bnd (show(vS ds).bind _=_ from e);cases e;unfold Tr at t1;subst t1;rw[ih t2 e1];rfl
  |_=>cases e
def listOf(M:MS)(d:D):Option (List D):=if isTup d=true then Zi else ba M d
theorem eY(e:listOf M d=Zh ds)(R:RS K G Z Xh H M)(t:Tr K Z Xh d v):∃a vs,v=.ref a/\SqL K H a vs/\Trs K Z Xh ds vs:=by
 unfold listOf at e;split at e
 ·cases e
 rename_i h;obtain⟨a,vs,h1,h2,h3⟩:=i5 e R t;rw[if_neg h]at h2;exact⟨a,vs,h1,h2,h3⟩
def Hl(f:List Bool->Bool):MS->List D->Option D:=λM ds=>match ds with
 | [d]=>(listOf M d).bind λxs=>(nK xs).bind λbs=>Zh (.bl (f bs))
 |_=>Zi
theorem D6:g8 K (λxs H Q=>∃(p:Uu)(bs:List Bool),xs=[.ref p]/\SqL K H p (bs.map V.bl)/\Q (.bl (f bs)) H) (Hl f):=λG M ds d Z Xh H vs Q e R t k=>by
 unfold Hl at e;split at e
 ·obtain⟨xs,e1,e⟩:=bnd e;obtain⟨bs,e2,e⟩:=bnd e;cases e;obtain⟨v,rfl,t1⟩:=j3 t;obtain⟨a,us,rfl,h1,h2⟩:=eY e1 R t1;have:=Ed h2 e2;subst this;exact{a,bs,rfl,h1,k Xh H _ (br.refl _) R (by unfold Tr;rfl)}
 cases e
def sumF:MS->List D->Option D:=λM ds=>match ds with
 | [d]=>(listOf M d).bind λxs=>(vS xs).bind λbs=>Zh (.int bs.sum)
 |_=>Zi
theorem v_sum:g8 K (λxs H Q=>∃(p:Uu)(ns:List Int),xs=[.ref p]/\SqL K H p (ns.map V.int)/\Q (.int ns.sum) H) sumF:=λG M ds d Z Xh H vs Q e R t k=>by
 unfold sumF at e;split at e
 ·obtain⟨xs,e1,e⟩:=bnd e;obtain⟨bs,e2,e⟩:=bnd e;cases e;obtain⟨v,rfl,t1⟩:=j3 t;obtain⟨a,us,rfl,h1,h2⟩:=eY e1 R t1;have:=Hs h2 e2;subst this;exact{a,bs,rfl,h1,k Xh H _ (br.refl _) R (by unfold Tr;rfl)}
 cases e
end
end L2
namespace L2
open PySem PySem.Spec PyProof.Rows
section
variable{X:Cx}
noncomputable def jh(z y:Str):List Str:=if(decide (z.length<y.length)||decide (Vp z<Vp y))=true then[z]else
 if(UL z y 0 z.length (z.length+1)).isEmpty=true then[z]else W5 z (UL z y 0 z.length (z.length+1)) y.length
theorem Hk:MtR X "str.split" (λx xs H Q=>∃(z y:Str),x=.str z/\xs=[.str y]/\(y.length==0)=false/\z.length<=sizeLine/\(jh z y).length<=sizeLine/\∀l,H l=Zi->Q (.ref l) (upd H l (.lst ((jh z y).map V.str)))):=by
 intro pins s B H x xs v us Q I rx rs h;obtain⟨z,y,rfl,rfl,hy,hx,hn,q⟩:=h;obtain⟨t,rfl⟩:=rx;obtain⟨u,rfl,ru⟩:=rs.one;obtain⟨t2,rfl⟩:=ru;unfold jh at hn q;split at hn
 ·rename_i h1;rw[if_pos h1]at q;exact Wd Xd (WQ _ _ _) WY (WT _ _) (meets_str_split_cannot_occur z y t t2 h1) {.ref _,_,I.Iu (show Zl [V.str z] [Wm z t]from .cons {_,rfl} .nil) (show 1<=sizeLine by decide),rfl,q _ I.fresh}
 rename_i h1;rw[if_neg h1]at q;have h1:=Sr.mpr h1;split at hn
 ·rename_i h2;rw[if_pos h2]at q;exact Wd Xd (WQ _ _ _) WY (WT _ _) (meets_str_split_not_found z y t t2 h1 hy h2) {.ref _,_,I.Iu (show Zl [V.str z] [Wm z t]from .cons {_,rfl} .nil) (show 1<=sizeLine by decide),rfl,q _ I.fresh}
 rename_i h2;rw[if_neg h2]at q;exact Wd Xd (WQ _ _ _) WY (WT _ _) (meets_str_split_sep z y t t2 h1 hy (Sr.mpr h2) hx hn) {.ref _,_,I.Iu (uZ _ _) (by rw[P8];exact hn),rfl,q _ I.fresh}
def Bw(K:Uw)(T:String)(r:V->List V->Hp->VK->Prop)(f:MS->D->List D->Option D):Prop:=∀(G:Ent)(M:MS)(o:D)(ds:List D)(d:D)(Z:List Uu)(X H:Hp)(x:V)(vs:List V)(Q:VK),f M o ds=Zh d->RS K G Z X H M->Tr K Z X o x->Trs K Z X ds vs->Cn K G Z X M d Q->r x vs H Q
def VTy(K:Uw)(T:String)(p:MS->D->Bool):Prop:=∀(G:Ent)(M:MS)(o:D)(Z:List Uu)(X H:Hp)(x:V),p M o=true->RS K G Z X H M->Tr K Z X o x->tyV K T x H
noncomputable def g7(p:MS->D->Bool)(f:MS->D->List D->Option D)(ro:RE)(rs:RA):RE:=λB M=>(ro B M).bind λo=>if p M o=true then(rs B M).bind λds=>f M o ds else Zi
theorem qbm{o e:Expr}{es:List Expr}{name:Str}{apos cpos:Pos}{T id:String}{r:V->List V->Hp->VK->Prop}{p:MS->D->Bool}{f:MS->D->List D->Option D}{ro:RE}{rs:RA}(pa:YY T)(slot:Slot T name id)(hty:typeOf (.builtin id)=pure (.type "method_descriptor"))(hm:MtR X id r)(vt:VTy X.K T p)(vm:Bw X.K T r f)(ho:QE X o ro)(ha:QA X (e::es) rs)
  (hbase:UR o name X.env (UO o X.env)=UO o X.env:=by rfl)
  (hfew:((UM cpos (Uv (e::es) X.env)).all (λx=>!x.1)&&(UW cpos (UN [] X.env)).all (λx=>x.1.isSome)
   &&decide ((e::es).length+([]:List U0).length+(if([]:List U0).isEmpty then 0 else 1)<30))=true:=by rfl)
  (hline:(apos.endLine==cpos.line)=true:=by rfl) (hs:Uv (e::es) X.env=(false,UO e X.env)::Uv es X.env:=by rfl) (hplain:(UM cpos (Uv es X.env)).any (·.1)=false:=by rfl) :
  QE X (.Call (.Attribute o name apos) (e::es) [] cpos) (g7 p f ro rs):=by
 obtain⟨t,p1,v⟩:=ho
 obtain⟨t',p',v'⟩:=ha
 refine{_,CF pa slot hty hm p1 p' hbase hfew hline hs hplain,λG B M d Z Xh H U Q h R S k=>?_}
 obtain⟨od,e1,h⟩:=bnd h
 refine v G B M od Z Xh H U _ e1 R S λX1 H1 x s1 R1 t1=>?_
 split at h
 ·rename_i hp;obtain⟨ds,e2,h⟩:=bnd h;exact{vt G M od Z X1 H1 x hp R1 t1,v' G B M ds Z X1 H1 U _ e2 R1 (S.same s1) λX2 H2 vs s2 R2 t2=>vm G M od ds d Z X2 H2 x vs Q h R2 (t1.same s2) t2 (k.same (s1.trans s2))}
 cases h
def o7(_:MS):D->Bool
 | .str _=>true
 |_=>false
theorem FF{K:Uw}:VTy K "str" o7:=λG M o Z Xh H x e R t=>by
 cases o with
 |str z=>unfold Tr at t;subst t;rfl
 |_=>cases e
def zi(_:MS)(o:D)(ds:List D):Option D:=match o,ds with
 | .str z,[.str y]=>if(y.length==0)=false/\z.length<=sizeLine/\(jh z y).length<=sizeLine then Zh (.lst ((jh z y).map D.str))else Zi
 |_,_=>Zi
theorem Bi{K:Uw}{Z:List Uu}{Xh:Hp}:∀ws:List Str,Trs K Z Xh (ws.map D.str) (ws.map V.str)
 | []=>.nil
 |w::r=>by
  show Trs K Z Xh (_::_) (_::_);unfold Trs;exact{_,_,rfl,by unfold Tr;rfl,Bi r}
theorem Jt{K:Uw}:Bw K "str" (λx xs H Q=>∃(z y:Str),x=.str z/\xs=[.str y]/\(y.length==0)=false/\z.length<=sizeLine/\(jh z y).length<=sizeLine/\∀l,H l=Zi->Q (.ref l) (upd H l (.lst ((jh z y).map V.str)))) zi:=λG M o ds d Z Xh H x vs Q e R t ts k=>by
 unfold zi at e;split at e
 ·split at e
  ·rename_i q;cases e;unfold Tr at t;subst t;obtain⟨v,rfl,t1⟩:=j3 ts;unfold Tr at t1;subst t1;refine{_,_,rfl,rfl,q.1,q.2.1,q.2.2,λl hl=>?_};obtain⟨R2,s2,e3⟩:=R.alc hl (.lst _);exact k _ _ _ s2 R2 (by unfold Tr;exact{l,_,rfl,e3,Bi _})
  cases e
 cases e
theorem AS(ho:QE X o ro)(ha:QA X [e] rs)
  (hbase:UR o "split" X.env (UO o X.env)=UO o X.env:=by rfl)
  (hfew:((UM cpos (Uv [e] X.env)).all (λx=>!x.1)&&(UW cpos (UN [] X.env)).all (λx=>x.1.isSome)
   &&decide ([e].length+([]:List U0).length+(if([]:List U0).isEmpty then 0 else 1)<30))=true:=by rfl)
  (hline:(apos.endLine==cpos.line)=true:=by rfl) (hs:Uv [e] X.env=(false,UO e X.env)::Uv [] X.env:=by rfl) (hplain:(UM cpos (Uv [] X.env)).any (·.1)=false:=by rfl) :
  QE X (.Call (.Attribute o "split" apos) [e] [] cpos) (g7 o7 zi ro rs):=qbm Xo PySem.F.slot_str_split PySem.F.type_str_split Hk FF Jt ho ha hbase hfew hline hs hplain
noncomputable def jI:List D->Option (List Str)
 | []=>Zh []
 | .str b::ds=>(jI ds).bind λbs=>Zh (b::bs)
 |_=>Zi
theorem Cz{K:Uw}{Z:List Uu}{Xh:Hp}:∀{ds:List D}{vs:List V}{bs:List Str},Trs K Z Xh ds vs->jI ds=Zh bs->vs=bs.map V.str:=by
 intro ds;induction ds with
 |nil=>intro vs bs t e;cases e;unfold Trs at t;exact t
 |cons d ds ih=>
  intro vs bs t e;unfold Trs at t;obtain⟨v,r,rfl,t1,t2⟩:=t;cases d with
  |str b=>
   obtain⟨bs',e1,e⟩:=bnd (show(jI ds).bind _=_ from e);cases e;unfold Tr at t1;subst t1;rw[ih t2 e1];rfl
  |_=>cases e
def Im(M:MS)(o:D)(ds:List D):Option D:=match o,ds with
 | .str z,[d]=>(listOf M d).bind λxs=>(jI xs).bind λys=>if(ys.map (·.length)).sum+ys.length*z.length<=16777216 then Zh (.str (Txt.join z ys))else Zi
 |_,_=>Zi
theorem Kv{K:Uw}:Bw K "str" (λx xs H Q=>∃(sep:Str)(p:Uu)(ys:List Str),x=.str sep/\xs=[.ref p]/\SqL K H p (ys.map V.str)/\(ys.map (·.length)).sum+ys.length*sep.length<=16777216/\Q (.str (Txt.join sep ys)) H) Im:=λG M o ds d Z Xh H x vs Q e R t ts k=>by
 unfold Im at e;split at e
 ·obtain⟨xs,e1,e⟩:=bnd e;obtain⟨ys,e2,e⟩:=bnd e;split at e
  ·rename_i q;cases e;unfold Tr at t;subst t;obtain⟨v,rfl,t1⟩:=j3 ts;obtain⟨a,us,rfl,h1,h2⟩:=eY e1 R t1;have:=Cz h2 e2;subst this;exact{_,a,ys,rfl,rfl,h1,q,k Xh H _ (br.refl _) R (by unfold Tr;rfl)}
  cases e
 cases e
theorem OJ(ho:QE X o ro)(ha:QA X [e] rs)
  (hbase:UR o "join" X.env (UO o X.env)=UO o X.env:=by rfl)
  (hfew:((UM cpos (Uv [e] X.env)).all (λx=>!x.1)&&(UW cpos (UN [] X.env)).all (λx=>x.1.isSome)
   &&decide ([e].length+([]:List U0).length+(if([]:List U0).isEmpty then 0 else 1)<30))=true:=by rfl)
  (hline:(apos.endLine==cpos.line)=true:=by rfl) (hs:Uv [e] X.env=(false,UO e X.env)::Uv [] X.env:=by rfl) (hplain:(UM cpos (Uv [] X.env)).any (·.1)=false:=by rfl) :
  QE X (.Call (.Attribute o "join" apos) [e] [] cpos) (g7 o7 Im ro rs):=qbm Xo PySem.F.slot_str_join PySem.F.type_str_join Iq FF Kv ho ha hbase hfew hline hs hplain
noncomputable def Mz:V->Option D
 | .non=>Zh .non
 | .bl b=>Zh (.bl b)
 | .int i=>Zh (.int i)
 | .str z=>Zh (.str z)
 |_=>Zi
def Ef:List V->Option (List D)
 | []=>Zh []
 |v::r=>(Mz v).bind λd=>(Ef r).bind λds=>Zh (d::ds)
theorem Li{K:Uw}{Z:List Uu}{Xh:Hp}{v:V}{d:D}(e:Mz v=Zh d):Tr K Z Xh d v:=by
 cases v<;>first|(cases e;unfold Tr;rfl)|cases e
theorem CG{K:Uw}{Z:List Uu}{Xh:Hp}:∀{vs:List V}{ds:List D},Ef vs=Zh ds->Trs K Z Xh ds vs
 | [],_,e=>by cases e;exact .nil
 |v::r,_,e=>by
  obtain⟨d,e1,e⟩:=bnd (show(Mz v).bind _=_ from e);obtain⟨ds,e2,e⟩:=bnd e;cases e;unfold Trs;exact{_,_,rfl,Li e1,CG e2}
theorem Gk{Z0z:Uu->Prop}(h:∃a,X.mg x=Zh (.ref a)/\(∀H,SqT X.K H a xs)/\Z0z a)(el:Ef xs=Zh ds:=by rfl)(hg:Gl X x:=by rfl)(hd:(x==("__debug__":Str))=false:=by decide):QE X (.Name x pos) (dC (.sqt ds)):=by
 obtain⟨a,h1,h2,_⟩:=h;exact{_,og h1 hg hd,w8 λZ Xh=>by unfold Tr;exact{a,xs,rfl,h2 _,CG el}}
def KL:MS->List D->Option D:=λM ds=>match ds with
 | [d]=>if isTup d=true then(ba M d).bind λ_=>Zh d else(ba M d).bind λxs=>Zh (.tup xs)
 |_=>Zi
theorem HU{K:Uw}:g8 K (λxs H Q=>∃p ys,xs=[.ref p]/\((SqL K H p ys/\∀l,H l=Zi->Q (.ref l) (upd H l (.tup ys)))\/(SqT K H p ys/\Q (.ref p) H))) KL:=λG M ds d Z Xh H vs Q e R t k=>by
 unfold KL at e;split at e
 ·rename_i d0;replace t:=j3 t;obtain⟨v,rfl,t⟩:=t;split at e
  ·rename_i hi;obtain⟨xs,e1,e⟩:=bnd e;cases e;obtain⟨p,us,rfl,h1,h2⟩:=i5 e1 R t;rw[if_pos hi]at h1;exact{p,us,rfl,.inr {h1,k Xh H _ (br.refl _) R t}}
  rename_i hi;obtain⟨xs,e1,e⟩:=bnd e;cases e;obtain⟨p,us,rfl,h1,h2⟩:=i5 e1 R t;rw[if_neg hi]at h1;refine{p,us,rfl,.inl {h1,λl hl=>?_}};obtain⟨R2,s2,e3⟩:=R.alc hl (.tup us);exact k _ _ _ s2 R2 (by unfold Tr;exact{l,_,rfl,e3,h2.same s2})
 cases e
noncomputable def Kp:MS->List D->Option D:=λM ds=>match ds with
 | [.str x]=>if x.length<=640 then(V7 x).bind λn=>Zh (.int n)else Zi
 |_=>Zi
theorem Nb{K:Uw}:g8 K (λxs H Q=>∃x n,xs=[.str x]/\V7 x=Zh n/\x.length<=640/\Q (.int n) H) Kp:=λG M ds d Z Xh H vs Q e R t k=>by
 unfold Kp at e;split at e
 ·split at e
  ·rename_i q;obtain⟨n,e1,e⟩:=bnd e;cases e;replace t:=j3 t;obtain⟨v,rfl,t⟩:=t;unfold Tr at t;subst t;exact{_,n,rfl,e1,q,k Xh H _ (br.refl _) R (by unfold Tr;rfl)}
  cases e
 cases e
noncomputable def Pw(xs:List Str)(rs:RA):RE:=λB M=>(rs B M).bind λes=>match es with
 | [.str y]=>(xs.findIdx? λz=>decide (z=y)).bind λj=>Zh (.int (j:Nat))
 |_=>Zi
theorem O5(h:∃a,X.mg x=Zh (.ref a)/\(∀H,SqT X.K H a (xs.map V.str))/\∃o,X.K.lookup a=Zh o/\o.cls=.type "tuple"/\o.dict=Zi)(ha:QA X [e] rs)(hg:Gl X x:=by rfl)(hd:(x==("__debug__":Str))=false:=by decide)
  (hbase:UR (.Name x p) "index" X.env (UO (.Name x p) X.env)=UO (.Name x p) X.env:=by rfl)
  (hfew:((UM cpos (Uv [e] X.env)).all (λx=>!x.1)&&(UW cpos (UN [] X.env)).all (λx=>x.1.isSome)
   &&decide ([e].length+([]:List U0).length+(if([]:List U0).isEmpty then 0 else 1)<30))=true:=by rfl)
  (hline:(apos.endLine==cpos.line)=true:=by rfl) (hs:Uv [e] X.env=(false,UO e X.env)::Uv [] X.env:=by rfl) (hplain:(UM cpos (Uv [] X.env)).any (·.1)=false:=by rfl) :
  QE X (.Call (.Attribute (.Name x p) "index" apos) [e] [] cpos) (Pw xs rs):=by
 obtain⟨a,h1,h2,h3⟩:=h
 obtain⟨t',p',v'⟩:=ha
 refine{_,Ih (og h1 hg hd) p' hbase hfew hline hs hplain,λG B M d Z Xh H U Q h R S k=>?_}
 obtain⟨ds,e2,h⟩:=bnd h
 refine{.inr (.inl ⟨rfl,h3⟩),v' G B M ds Z Xh H U _ e2 R S λX2 H2 vs s2 R2 t2=>?_}
 split at h
 ·rename_i y;obtain⟨j,e3,h⟩:=bnd h;cases h;obtain⟨v,rfl,t1⟩:=j3 t2;unfold Tr at t1;subst t1;refine{a,_,.str y,j,rfl,rfl,h2 _,rfl,?_,?_,k X2 H2 _ s2 R2 (by unfold Tr;rfl)}
  ·rw[List.all_map];exact QM.mpr λ_ _=>rfl
  rw[Yl,<-e3];rfl
 cases h
def bK(neg:Bool)(M:MS)(a b:D):Option D:=match b with
 | .str j=>match a with
  | .str i=>Zh (.bl (if neg then !(!(UL j i 0 j.length 1).isEmpty)else !(UL j i 0 j.length 1).isEmpty))
  |_=>Zi
 |b=>inD neg M a b
theorem kz{K:Uw}:VOp K (λx y H Q=>fIn K false x y H Q\/∃a o,y=.ref a/\gR H a x o/\Q (.bl o.isSome) H) (bK false):=λG M a b d Z Xh H x y Q e R ta tb k=>by
 unfold bK at e;split at e
 ·split at e
  ·cases e;unfold Tr at ta tb;subst ta tb;exact .inl {_,rfl,k Xh H _ (br.refl _) R (by unfold Tr;rfl)}
  cases e
 exact PX G M a _ d Z Xh H x y Q e R ta tb k
theorem yQ{K:Uw}:VOp K (λx y H Q=>fIn K true x y H Q\/∃a o,y=.ref a/\gR H a x o/\Q (.bl (!o.isSome)) H) (bK true):=λG M a b d Z Xh H x y Q e R ta tb k=>by
 unfold bK at e;split at e
 ·split at e
  ·cases e;unfold Tr at ta tb;subst ta tb;exact .inl {_,rfl,k Xh H _ (br.refl _) R (by unfold Tr;rfl)}
  cases e
 exact IJ G M a _ d Z Xh H x y Q e R ta tb k
noncomputable def chS(z:Str):List Str:=z.cps.toList.map λc=>⟨#[c]⟩
def bQ(ra:RE):RI:=λB M=>(ra B M).bind λd=>match d with
 | .str z=>Zh ((chS z).map D.str)
 |_=>Zi
theorem Ms{K:Uw}{Z:List Uu}{Xh:Hp}{M:MS}{fx:Bool}(z:Str):LX K Z Xh M fx (Its z) ((chS z).map D.str):=by
 have ln:((chS z).map D.str).length=z.cps.size:=by unfold chS;simp
 refine{λG2 ρ2 X2 H2 M2 i d hp s2 R2 hM ed=>?_,λG2 ρ2 X2 H2 M2 i hp s2 R2 hM el=>?_}
 ·have li:i<z.cps.size:=by rw[<-ln];exact(Qh.mp ed).1
  refine{li,λx H3 hy=>?_};obtain⟨rfl,c,hc,rfl⟩:=hy;refine{X2,br.refl _,R2,?_};unfold chS at ed;rw[QH,Qu,Sh,hc]at ed;cases ed;show Tr K ρ2 X2 (.str _) _;unfold Tr;rfl
 rw[ln]at el;exact el
theorem Pa(fx:Bool)(hl:QE X l rl):QI X tg l fx (bQ rl):=by
 obtain⟨t,p,v⟩:=hl;refine{_,Au p,λG B M ds Z Xh H U R' e R S k=>?_};obtain⟨d,e1,e⟩:=bnd e;refine v G B M d Z Xh H U _ e1 R S λX1 H1 x s1 R1 t1=>?_;split at e
 ·cases e;unfold Tr at t1;subst t1;exact k _ X1 H1 s1 R1 (Ms _)
 cases e
theorem xx(o:OpR X (UH op) r)(o':OpR X (UH op') r')(v:VOp X.K r f)(v':VOp X.K r' g)(ha:QE X a ra)(hb:QE X b rb)(hc:QE X c rc)(hm:Yt [op,op'] [b,c]=false:=by with_unfolding_all rfl):QT X (.Compare a [op,op'] [b,c] pos) (aB aC (ar f g ra rb rc)):=by
 obtain⟨ta,pa,va⟩:=ha;obtain⟨tb,pb,vb⟩:=hb;obtain⟨tc,pc,vc⟩:=hc;refine{_,EL o o' pa pb pc hm,λG B M k Z Xh H U Q e R S q=>?_};obtain⟨d,e1,e⟩:=bnd e;refine yP v v' va vb vc G B M d Z Xh H U _ e1 R S λX1 H1 x s1 R1 t1=>?_;unfold aC at e;split at e
 ·cases e;unfold Tr at t1;exact{_,t1,q X1 H1 s1 R1}
 cases e
def km(_:MS):D->Option D
 | .int i=>Zh (.int (-i))
 |_=>Zi
theorem we(ha:QE X a ra):QE X (.UnaryOp .USub a pos) (dUn km ra):=by
 obtain⟨t,p,v⟩:=ha;refine{_,OO La p,λG B M d Z Xh H U Q e R S k=>?_};obtain⟨x,e1,e⟩:=bnd e;refine v G B M x Z Xh H U _ e1 R S λX1 H1 u s1 R1 t1=>?_;cases x with
 |int i=>
  cases e;unfold Tr at t1;subst t1;exact{i,rfl,k X1 H1 _ s1 R1 (by unfold Tr;rfl)}
 |_=>cases e
def FnV(P:Program)(w:UC)(K:Uw)(mg:Str->Option Ut)(base:UT)(k:Nat)(f:Uu)(F:List D->Option D):Prop:=∃fd ps,gI P w K mg base CX0 k f fd ps (spP K F)/\Zu K fd ps []/\Vx K (.ref f)=true
theorem FnV.of{P:Program}{w:UC}{K:Uw}{mg:Str->Option Ut}{base:UT}{j k:Nat}{x:Str}{ps:List Str}{F:List D->Option D}{f:Uu}(h:Has P w K mg base j x ps (spP K F))(hm:mg x=Zh (.ref f))(hj:j<=k):FnV P w K mg base k f F:=by
 obtain⟨f',fd,h1,h2,h3,h4,_⟩:=h;rw[hm]at h4;cases h4;exact⟨fd,ps,h1.mono hj,h2,h3⟩
def MT(X:Cx)(k i:Nat)(t:TA):TE:=λB H Q=>∃f F,B[i]?=Zh (Zh (.ref f))/\FnV X.prog X.w X.K X.mg X.base k f F/\t B H λvs H1=>spP X.K F (vs++[]) H1 Q E0
theorem Gn(hr:cV k X.A)(hN:X.N[i]?=Zh x)(hv:Vis X.env.scope x)(ha:PA X (e::es) t)(hd:(x==("__debug__":Str))=false:=by decide)(hcd:(x==("__classdict__":Str))=false:=by decide)
  (he:Uv (e::es) X.env=(false,UO e X.env)::Uv es X.env:=by rfl) (hpl:(UM pos (Uv es X.env)).any (·.1)=false:=by rfl):PE X (.Call (.Name x p) (e::es) [] pos) (MT X k i t):=by
 intro pins s B H Q I h
 obtain⟨f,F,e1,⟨fd,ps,FO,b,kp⟩,h⟩:=h
 refine Vi (thn (FH hN hv hd hcd pins s B H (λv H1=>v=.ref f/\H1=H) I {_,e1,rfl,rfl}) λu s1 z=>?_)
 obtain⟨v,H1,I1,r,rfl,rfl⟩:=z
 cases r
 refine Xk (h₀:=X.base) I.ok.mod.kin kp (thn (ha pos pins s1 B H1 _ I1 h) λus s2 ⟨vs,H2,I2,r2,q⟩=>{I2.kIn,?_}) he hpl
 exact sf FO hr b .nil tI I2 r2 q
def Ai(i:Nat)(tab:List (Uu×(List D->Option D)))(rs:RA):RE:=λB M=>match (B[i]?).getD Zi with
 |some (.adr f)=>(tab.lookup f).bind λF=>(rs B M).bind λds=>aO F M ds
 |_=>Zi
theorem Le(i:Nat)(ht:∀f F,tab.lookup f=Zh F->FnV X.prog X.w X.K X.mg X.base k f F)(hr:cV k X.A)(ha:QA X (e::es) rs)(hN:X.N[i]?=Zh x:=by rfl)(hv:Vis X.env.scope x:=by trivial)(hd:(x==("__debug__":Str))=false:=by decide)(hcd:(x==("__classdict__":Str))=false:=by decide)
  (he:Uv (e::es) X.env=(false,UO e X.env)::Uv es X.env:=by rfl) (hpl:(UM pos (Uv es X.env)).any (·.1)=false:=by rfl):QE X (.Call (.Name x p) (e::es) [] pos) (Ai i tab rs):=by
 obtain⟨t,pa,va⟩:=ha
 refine{_,Gn hr hN hv pa hd hcd he hpl,λG B M d Z Xh H U Q e R S k=>?_}
 unfold Ai at e
 split at e
 ·rename_i f hf;obtain⟨F,e1,e⟩:=bnd e;obtain⟨ds,e2,e⟩:=bnd e;have hi:B[i]?=Zh (Zh (.adr f)):=by
   cases z:B[i]? with
   |none=>rw[z]at hf;cases hf
   |some o=>rw[z]at hf;exact congrArg Zh hf
  obtain⟨v,h1,h2⟩:=S.var i _ hi;unfold Tr at h2;subst h2;refine{f,F,h1,ht f F e1,va G B M ds Z Xh H U _ e2 R S λX1 H1 vs s1 R1 t1=>?_};rw[Qo];exact v_P G M ds d Z X1 H1 vs Q e R1 t1 (k.same s1)
 cases e
def xk(P:Program)(w:UC)(K:Uw)(a:Uu)(tab:List (Str×D)):Prop:=(a==Vm)=false/\∃o vs,K.lookup a=Zh o/\o.IsDictOf (cz P w) vs/\
 ∀z:Str,match tab.lookup z with
  |some d=>∃u v,valueAt vs (.inr z)=Zh u/\Zm v u/\∀Z Xh,Tr K Z Xh d v
  |none=>valueAt vs (.inr z)=Zi
theorem xk.at(k:xk X.prog X.w X.K a tab)(I:Inv X pins B H s):∃vs,s.heap.DictOf (cz X.prog X.w) a vs/\∀z:Str,match tab.lookup z with
  |some d=>∃u v,valueAt vs (.inr z)=Zh u/\Zm v u/\∀Z Xh,Tr X.K Z Xh d v
  |none=>valueAt vs (.inr z)=Zi:=by
 obtain⟨_,o,vs,h1,h2,h3⟩:=k
 exact{vs,Heap.dictOf_iff.mpr ⟨o,I.kIn a o h1,h2⟩,h3}
def ET(K:Uw)(tab:List (Str×D))(z:Str)(H:Hp)(Q:VK):Prop:=match tab.lookup z with
 |some d=>∀v,(∀Z Xh,Tr K Z Xh d v)->Q v H
 |none=>Q .non H
noncomputable def Od(K:Uw)(a:Uu)(tab:List (Str×D))(td ty:TE):TE:=λB H Q=>td B H λx H1=>x=.ref a/\ty B H1 λy H2=>∃z,y=.str z/\ET K tab z H2 Q
theorem Jj(k:xk X.prog X.w X.K a tab)(ho:PE X o td)(he:PE X e ty)(m:M1 X o "get" apos e cpos):PE X (.Call (.Attribute o "get" apos) [e] [] cpos) (Od X.K a tab td ty):=by
 intro pins s B H Q I h;refine Yk m.base m.few m.line Xb Vs Xs (thn (ho pins s B H _ I h) λu s1 z9=>?_);obtain⟨x,H1,I1,rx,ex,q1⟩:=z9;subst ex;obtain rfl:u=UB a:=rx;obtain⟨vs1,dd1,_⟩:=k.at I1;refine{dd1.typeIs,λb q=>?_,?_}
 ·cases q;obtain⟨ob,_,_,h1,h2,_⟩:=dd1;exact⟨ob,h1,h2.2.1⟩
 rw[m.trees];refine VP rfl (Wx (WL (thn (he pins s1 B H1 _ I1 q1) λiv s2 ⟨y,H2,I2,ry,z,ey,q2⟩=>WX ?_)));subst ey;obtain⟨vs,dd,hz⟩:=k.at I2;replace hz:=hz z;unfold ET at q2;refine Yj Vs dd.typeIs Wj (Wg _ _) (Y5 (cz X.prog X.w) a (oj (k:=.inr z) ry) k.1) {_,dd.mapOf,?_};cases hl:tab.lookup z with
 |none=>
  rw[hl]at hz q2;exact{_,H2,I2.tok _,by rw[show valueAt vs (.inr z)=Zi from hz];exact rfl,q2}
 |some d=>
  rw[hl]at hz q2;obtain⟨u,v,h1,h2,h3⟩:=hz;exact{v,H2,I2.tok _,by rw[h1];exact h2,q2 v h3}
noncomputable def GA(tab:List (Str×D))(re:RE):RE:=λB M=>(re B M).bind λd=>match d with
 | .str z=>Zh ((tab.lookup z).getD .non)
 |_=>Zi
theorem Nn(h:X.mg x=Zh (.ref a))(k:xk X.prog X.w X.K a tab)(he:QE X e re)(hg:Gl X x:=by rfl)(hd:(x==("__debug__":Str))=false:=by decide)(m:M1 X (.Name x p) "get" apos e cpos:=by exact⟨rfl,rfl,rfl,rfl⟩):QE X (.Call (.Attribute (.Name x p) "get" apos) [e] [] cpos) (GA tab re):=by
 obtain⟨t,pe,ve⟩:=he;refine{_,Jj k (og h hg hd) pe m,λG B M d Z Xh H U Q e R S kk=>?_};obtain⟨y,e1,e⟩:=bnd e;refine{rfl,ve G B M y Z Xh H U _ e1 R S λX1 H1 u s1 R1 t1=>?_};split at e
 ·rename_i z;cases e;unfold Tr at t1;subst t1;refine{z,rfl,?_};unfold ET;cases hl:tab.lookup z with
  |none=>rw[hl]at kk;exact kk X1 H1 _ s1 R1 (by show Tr _ _ _ .non _;unfold Tr;rfl)
  |some d=>rw[hl]at kk;exact λv hv=>kk X1 H1 v s1 R1 (hv _ _)
 cases e
noncomputable def Py(K:Uw)(a:Uu)(tab:List (Str×D))(td ty:TE):TE:=λB H Q=>td B H λx H1=>x=.ref a/\ty B H1 λy H2=>∃z d,y=.str z/\tab.lookup z=Zh d/\∀v,(∀Z Xh,Tr K Z Xh d v)->Q v H2
theorem K7(k:xk X.prog X.w X.K a tab)(ho:PE X o td)(hi:PE X i ty)(hs:Lu i):PE X (.Subscript o i pos) (Py X.K a tab td ty):=by
 intro pins s B H Q I h;refine Hg PySem.F.slot_dict_getitem.lookup hs (thn (ho pins s B H _ I h) λu s1 z8=>?_);obtain⟨x,H1,I1,rx,ex,q1⟩:=z8;subst ex;obtain rfl:u=UB a:=rx;refine thn (hi pins s1 B H1 _ I1 q1) λiv s2 z9=>?_;obtain⟨y,H2,I2,ry,z,d,ey,hl,q2⟩:=z9;subst ey;obtain⟨vs,dd,hz⟩:=k.at I2;replace hz:=hz z;rw[hl]at hz;obtain⟨u,v,h1,h2,h3⟩:=hz;exact{dd.typeIs,Yz (oj (k:=.inr z) ry) dd.mapOf h1 {v,H2,I2.tok _,h2,q2 v h3}}
noncomputable def Ba(tab:List (Str×D))(re:RE):RE:=λB M=>(re B M).bind λd=>match d with
 | .str z=>tab.lookup z
 |_=>Zi
theorem PY(h:X.mg x=Zh (.ref a))(k:xk X.prog X.w X.K a tab)(he:QE X e re)(hs:Lu e)(hg:Gl X x:=by rfl)(hd:(x==("__debug__":Str))=false:=by decide):QE X (.Subscript (.Name x p) e pos) (Ba tab re):=by
 obtain⟨t,pe,ve⟩:=he;refine{_,K7 k (og h hg hd) pe hs,λG B M d Z Xh H U Q e R S kk=>?_};obtain⟨y,e1,e⟩:=bnd e;refine{rfl,ve G B M y Z Xh H U _ e1 R S λX1 H1 u s1 R1 t1=>?_};split at e
 ·rename_i z;unfold Tr at t1;subst t1;exact{z,d,rfl,e,λv hv=>kk X1 H1 v s1 R1 (hv _ _)}
 cases e
end
end L2
namespace L2
open PySem PySem.StrLaws Builtin Builtin.Str
noncomputable def ofL(l:List Nat):Str:=⟨l.toArray⟩
theorem Hz(x:Str):ofL x.cps.toList=x:=rfl
noncomputable def sp(c:Nat):List Nat->List (List Nat)
 | []=>[[]]
 |d::r=>if d=c then[]::sp c r else match sp c r with
  |p::q=>(d::p)::q
  | []=>[[d]]
theorem w6(x:Str)(c limit:Nat):∀(n a:Nat)(arr:Array Nat)(free:Nat),free<=a->arr.size+n<=limit->
  (forIn (RU a n) (arr,free) (occBody x ⟨#[c]⟩ x.length limit)).run.fst.toList=arr.toList++(RU a n).filter λi=>decide (x.cps.toList[i]?=Zh c)
 |0,a,arr,free,_,_=>by simp
 |n+1,a,arr,free,hf,hl=>by
  rw[RL,Sj];unfold occBody;by_cases h:x.cps.toList[a]?=Zh c
  ·have hq:=(subAt_one x c a).mpr h;have c1:(((arr,free).fst.size<limit/\(arr,free).snd<=a)/\a+(⟨#[c]⟩:Str).length<=x.length)/\subAt x ⟨#[c]⟩ a=true:={{{by show arr.size<limit;lia,hf},hq.1},hq.2};rw[if_pos c1];refine(w6 x c limit n (a+1) (arr.push a) _ (Qf _) (by rw[Array.size_push];lia)).trans ?_;rw[Xe (by simpa using h),Array.toList_push,QC];rfl
  have c1:¬ ((((arr,free).fst.size<limit/\(arr,free).snd<=a)/\a+(⟨#[c]⟩:Str).length<=x.length)/\subAt x ⟨#[c]⟩ a=true):=λz=>h ((subAt_one x c a).mp ⟨z.1.2,z.2⟩);rw[if_neg c1];refine(w6 x c limit n (a+1) arr free (by lia) (by lia)).trans ?_;rw[R8 (by simpa using h)]
theorem yY(h:x.cps.toList[a]?=Zh d)(hk:a<k):(strSub x a k).cps.toList=d::(strSub x (a+1) k).cps.toList:=by
 rw[strSub_toList,strSub_toList];obtain⟨hl,he⟩:=Qh.mp h;rw[Q2 hl,he,show k-a=(k-(a+1))+1 by lia,List.take_succ_cons]
theorem zx(x:Str)(c:Nat):∀(m a:Nat),a+m=x.cps.toList.length->(partsFrom x 1 a ((RU a (m+1)).filter λi=>decide (x.cps.toList[i]?=Zh c))).map (λp=>p.cps.toList)=sp c (x.cps.toList.drop a)
 |0,a,h=>by
  rw[RL,R8 (by rw[Q3 (by lia)];simp),Ru (by lia)];show[(strSub x a x.length).cps.toList]=[[]];rw[strSub_toList,Ru (by lia),List.take_nil]
 |m+1,a,h=>by
  have ih:=zx x c m (a+1) (by lia);have ha:a<x.cps.toList.length:=by lia
  have hd:x.cps.toList[a]?=Zh x.cps.toList[a]:=Qe ha;rw[RL,Q2 ha];unfold sp;by_cases hc:x.cps.toList[a]=c
  ·rw[Xe (by rw[hd,hc];simp),if_pos hc,<-ih];show(strSub x a a).cps.toList::_=_;rw[strSub_toList,QU,List.take_zero]
  rw[R8 (by rw[hd];simpa using hc),if_neg hc,<-ih];have hall:∀k∈(RU (a+1) (m+1)).filter (λi=>decide (x.cps.toList[i]?=Zh c)),a<k:=λk hk=>by
   have:=(List.mem_range'_1.mp (Sw.mp hk).1).1;lia
  generalize (RU (a+1) (m+1)).filter (λi=>decide (x.cps.toList[i]?=Zh c))=cuts at hall;cases cuts with
  |nil=>
   show[(strSub x a x.length).cps.toList]=[x.cps.toList[a]::(strSub x (a+1) x.length).cps.toList];rw[yY hd (by simpa [Str.length] using ha)]
  |cons k r=>
   show(strSub x a k).cps.toList::_=(x.cps.toList[a]::(strSub x (a+1) k).cps.toList)::_;rw[yY hd (hall k Qb)]
theorem OI(x:Str):1<=strKind x:=by
 unfold Vp;split
 ·exact Qf _
 split<;>decide
theorem GS(x:Str)(c:Nat)(hk:strKind ⟨#[c]⟩=1):(jh x ⟨#[c]⟩).map (λp=>p.cps.toList)=sp c x.cps.toList:=by
 have hp:=zx x c x.cps.toList.length 0 (Sv _);rw[List.drop_zero]at hp;have ho:occurrences x ⟨#[c]⟩ 0 x.length (x.length+1)=(RU 0 (x.cps.toList.length+1)).filter λi=>decide (x.cps.toList[i]?=Zh c):=by
  rw[occ_eq];refine(w6 x c (x.length+1) (x.length+1-0) 0 #[] 0 (Qf _) (by simp)).trans ?_;rw[Nat.sub_zero];rfl
 rw[<-ho]at hp;unfold jh;split
 ·rename_i h;rw[hk,YI,decide_eq_true_iff,decide_eq_true_iff]at h;rcases h with h|h
  ·have h0:x.cps.toList=[]:=Wy (by
    have h:x.cps.size<1:=h;rw[Rf];lia)
   show[x.cps.toList]=_;rw[h0];rfl
  exact absurd (OI x) (by lia)
 split
 ·rename_i h;have h0:occurrences x ⟨#[c]⟩ 0 x.length (x.length+1)=[]:=List.isEmpty_iff.mp h;rw[h0]at hp;rw[<-hp];show[x.cps.toList]=[(strSub x 0 x.length).cps.toList];rw[sub_whole]
 rw[partsBetween_eq];exact hp
noncomputable def jn(c:Nat)(w:List Nat)(r:List (List Nat)):List Nat:=w++(r.map (c:: ·)).flatten
theorem Cg:∀{w:List Nat},c∉w->sp c w=[w]
 | [],_=>rfl
 |d::w,h=>by
  unfold sp;rw[if_neg (λz:d=c=>h (by rw[z];exact Qb)),Cg (λz=>h (Qa _ z))]
theorem F9:∀{w:List Nat},c∉w->sp c (w++c::l)=w::sp c l
 | [],_=>by
  show sp c (c::l)=_;rw[sp,if_pos rfl]
 |d::w,h=>by
  show sp c (d::(w++c::l))=_;rw[sp,if_neg (λz:d=c=>h (by rw[z];exact Qb)),F9 (λz=>h (Qa _ z))]
theorem J1:∀{r:List (List Nat)}{w:List Nat},c∉w->(∀p∈r,c∉p)->sp c (jn c w r)=w::r
 | [],w,h,_=>by
  show sp c (w++[])=_;rw[Qo,Cg h]
 |p::r,w,h,hr=>by
  show sp c (w++c::(p++(r.map (c:: ·)).flatten))=_;rw[F9 h];exact congrArg _ (J1 (hr p Qb) λq hq=>hr q (Qa _ hq))
theorem vW(c:Nat):∀(r:List Str)(acc:Array Nat),(r.foldl (λacc p=>acc++(⟨#[c]⟩:Str).cps++p.cps) acc).toList=acc.toList++((r.map (·.cps.toList)).map (c:: ·)).flatten
 | [],acc=>by simp
 |p::r,acc=>by
  rw[YJ,vW c r];simp
theorem wL(c:Nat)(w:Str)(r:List Str):(Txt.join ⟨#[c]⟩ (w::r)).cps.toList=jn c w.cps.toList (r.map (·.cps.toList)):=vW c r w.cps
theorem Ab(hk:strKind ⟨#[c]⟩=1)(h:∀p∈w::r,c∉p.cps.toList):jh (Txt.join ⟨#[c]⟩ (w::r)) ⟨#[c]⟩=w::r:=by
 have e:=GS (Txt.join ⟨#[c]⟩ (w::r)) c hk;rw[wL,J1 (h w Qb) (λp hp=>by
  obtain⟨q,hq,rfl⟩:=Qr.mp hp;exact h q (Qa _ hq))]at e
 have inj:∀a b:List Str,a.map (λp=>p.cps.toList)=b.map (λp=>p.cps.toList)->a=b:=λa b z=>by
  have:=congrArg (List.map ofL) z;rw[QH,QH]at this;have i:(ofL∘λp:Str=>p.cps.toList)=_root_.id:=funext λp=>Hz p;rwa [i,Sm,Sm]at this
 exact inj _ _ (e.trans rfl)
theorem zw(h:∀p∈w::r,32∉p.cps.toList):jh (Txt.join " " (w::r)) " "=w::r:=Ab (c:=32) (by unfold Vp;exact if_pos (by simp)) h
end L2
namespace L2
open PySem
section
variable{X:Cx}{e:Expr}
noncomputable def de(f:List D->MS->Option D):List D->MS->Option (D×MS):=λds M=>(f ds M).bind λd=>Zh (d,M)
theorem LH(p:Pre Z Z')(h:Z'.length=Z.length):Z'=Z:=by
 apply Sd;intro n;by_cases hn:n<Z.length
 ·rw[Qe hn];exact p n _ (Qe hn)
 rw[Q3 (by lia),Q3 (by lia)]
theorem qxe(h:QX X e rx)(hr:∀B M d,re B M=Zh d->rx B M=Zh (d,M)):QE X e re:=by
 obtain⟨t,p,v⟩:=h;refine{t,p,λG B M d Z Xh H U Q e R S k=>v G B M d M Z Xh H U Q (hr B M d e) R S λZ' X' H' u pp ss R' t'=>?_};have:=LH pp (by rw[R'.len,R.len]);subst this;exact k X' H' u ss R' t'
def aM(C:Uu)(m:Str)(f:List D->MS->Option D)(ro:RE)(ra:RA):RE:=λB M=>(ro B M).bind λd=>(Zt M d).bind λob=>if ob.1=C/\m∉ob.2.1 then(ra B M).bind λds=>f (d::ds) M else Zi
noncomputable def aJ(f:List D->MS->Option D)(ra:RA):RE:=λB M=>(ra B M).bind λds=>f ds M
theorem cA(D':Has X.prog X.w X.K X.mg X.base j x ps (spI X.K (de f)))(hr:cV k X.A)(ha:QA X (e::es) rs)(hj:j<=k:=by decide)(hg:Gl X x:=by rfl)
  (hdb:(x==("__debug__":Str))=false:=by decide) (he:Uv (e::es) X.env=(false,UO e X.env)::Uv es X.env:=by rfl) (hpl:(UM pos (Uv es X.env)).any (·.1)=false:=by rfl):QE X (.Call (.Name x p) (e::es) [] pos) (aJ f rs):=by
 refine qxe (jj D' hr ha hj hg hdb he hpl) λB M d h=>?_
 obtain⟨ds,e1,h⟩:=bnd h
 unfold yz
 rw[e1]
 show(f ds M).bind _=_
 rw[h]
 rfl
theorem mZ(ho:QE X o ro)(c:Cls X.K C)(D':cH X.prog X.w X.K X.mg X.base j C m ps (spI X.K (de f)))(hr:cV k X.A)(ha:QA X (e::es) rs)(hj:j<=k:=by decide)
  (hst:Uv (e::es) X.env=(false,UO e X.env)::Uv es X.env:=by rfl) (hpl:(UM pos (Uv es X.env)).any (·.1)=false:=by rfl)
  (ht:UO (.Call (.Attribute o m apos) (e::es) [] pos) X.env=(do
   let ov<-UO o X.env
   V3 apos.atName
   let (f,first)<-Vv [ov] (VW ov m pl)
   callWith pos f first (UM pos (Uv (e::es) X.env)) (UW pos (UN [] X.env))):=by rfl):QE X (.Call (.Attribute o m apos) (e::es) [] pos) (aM C m f ro rs):=by
 refine qxe (tR ho c D' hr ha hj hst hpl ht) λB M d h=>?_
 obtain⟨d0,e0,h⟩:=bnd h
 obtain⟨ob,e1,h⟩:=bnd h
 split at h
 ·rename_i hC;obtain⟨ds,e2,h⟩:=bnd h;unfold tV;rw[e0];show(Zt M d0).bind _=_;rw[e1];show(if _ then _ else _)=_;rw[if_pos hC,e2];show(f (d0::ds) M).bind _=_;rw[h];rfl
 cases h
noncomputable def GX(ro:RE)(rx:RX):RSt:=λB M=>(ro B M).bind λc=>(rx B M).bind λp=>match c with
 | .cell n=>match M[n]?,p.2[n]? with
  |some (.lst _),Zh (.lst ds)=>if ds.length<sizeLine then Zh (.nx B (p.2.set n (.lst (ds++[p.1]))))else Zi
  |_,_=>Zi
 |_=>Zi
theorem FV(ho:QE X o ro)(he:QX X e rx)(hbase:UR o "append" X.env (UO o X.env)=UO o X.env:=by rfl)
  (hfew:((UM cpos (Uv [e] X.env)).all (λx=>!x.1)&&(UW cpos (UN [] X.env)).all (λx=>x.1.isSome)
   &&decide ([e].length+([]:List U0).length+(if([]:List U0).isEmpty then 0 else 1)<30))=true:=by rfl)
  (hline:(apos.endLine==cpos.line)=true:=by rfl) (hs:Uv [e] X.env=(false,UO e X.env)::Uv [] X.env:=by rfl) (hplain:(UM cpos (Uv [] X.env)).any (·.1)=false:=by rfl)
  (hsw:Vh (.Call (.Attribute o "append" apos) [e] [] cpos) Zi pos.line X.env=pure false:=by rfl):QS X (.Expr (.Call (.Attribute o "append" apos) [e] [] cpos) pos) (GX ro rx):=by
 obtain⟨t,p,v⟩:=ho
 obtain⟨t',p',v'⟩:=he
 refine{_,nM (z4 p (om p' sr hs) hbase hfew hline hs hplain) hsw,λG B M o Z Xh H U E h R S k=>?_}
 obtain⟨c,e1,h⟩:=bnd h
 obtain⟨⟨d,M1⟩,e2,h⟩:=bnd h
 refine v G B M c Z Xh H U _ e1 R S λX1 H1 x s1 R1 t1=>?_
 split at h
 ·split at h
  ·rename_i hM hM1;split at h
   ·rename_i hl;cases h;obtain⟨a,ha,rfl,_,_,vs,hv,tv⟩:=cu R1 t1 hM (by intro z;cases z);refine{.inl ⟨rfl,vs,SqL.of hv⟩,v' G B M d M1 Z X1 H1 U _ e2 R1 (S.same s1) λZ' X2 H2 y p2 s2 R2 t2=>?_};have ha':=p2 _ _ ha;obtain⟨_,_,ws,hw,tw⟩:=R2.ob _ a _ ha' hM1 (by intro z;cases z);exact{a,ws,y,rfl,rfl,hw,by rw[tw.len];exact hl,k Z' X2 _ U p2 (s1.trans s2) (R2.put ha' hM1 (by intro z;cases z) {_,bI,tw.app (Trs.cons t2 Trs.nil)}) (S.mono p2 (s1.trans s2))}
   cases h
  cases h
 cases h
end
abbrev RXA:=SD->MS->Option (List D×MS)
def VXA(K:Uw)(te:TA)(r:RXA):Prop:=∀(G:Ent)(B:SD)(M:MS)(ds:List D)(M':MS)(Z:List Uu)(X H:Hp)(U:St)(Q:List V->Hp->Prop),r B M=Zh (ds,M')->RS K G Z X H M->SR K Z X B U->(∀Z' X' H' vs,Pre Z Z'->br X X'->RS K G Z' X' H' M'->Trs K Z' X' ds vs->Q vs H')->te U H Q
def QXA(X:Cx)(es:List Expr)(r:RXA):Prop:=∃te,PA X es te/\VXA X.K te r
section
variable{X:Cx}{e o:Expr}{es:List Expr}{re:RE}{rx:RX}{rs:RXA}
noncomputable def GQ:RXA:=λ_ M=>Zh ([],M)
noncomputable def j5(rx:RX)(rs:RXA):RXA:=λB M=>(rx B M).bind λp=>(rs B p.2).bind λq=>Zh (p.1::q.1,q.2)
theorem eQ(h:QE X e re):QX X e (xOf re):=by
 obtain⟨t,p,v⟩:=h;refine{t,p,λG B M d M' Z Xh H U Q e R S k=>?_};obtain⟨d',e1,e⟩:=bnd e;cases e;exact v G B M d Z Xh H U Q e1 R S λX' H' u ss R' t'=>k Z X' H' u (Pre.refl _) ss R' t'
theorem fP:QXA X [] GQ:={_,sr,λG B M ds M' Z Xh H U Q e R S q=>by cases e;exact q Z Xh H [] (Pre.refl _) (br.refl _) R Trs.nil}
theorem b7(ha:QX X e rx)(hr:QXA X es rs)(hs:Uv (e::es) X.env=(false,UO e X.env)::Uv es X.env:=by rfl):QXA X (e::es) (j5 rx rs):=by
 obtain⟨t,p,v⟩:=ha;obtain⟨t',p',v'⟩:=hr;refine{_,om p p' hs,λG B M ds M' Z Xh H U Q e R S q=>?_};obtain⟨⟨d,M1⟩,e1,e⟩:=bnd e;obtain⟨⟨ds',M2⟩,e2,e⟩:=bnd e;cases e;exact v G B M d M1 Z Xh H U _ e1 R S λρ1 X1 H1 u p1 s1 R1 t1=>v' G B M1 ds' M2 ρ1 X1 H1 U _ e2 R1 (S.mono p1 s1) λρ2 X2 H2 vs p2 s2 R2 t2=>q ρ2 X2 H2 (u::vs) (p1.trans p2) (s1.trans s2) R2 (Trs.cons (Tr.mono p2 s2 _ _ t1) t2)
def Lb(rn:RN):RX:=λB M=>(rn B M).bind λo=>Zh (.cell M.length,M++[o])
theorem qxn(h:QN X e rn):QX X e (Lb rn):=by
 obtain⟨t,p,v⟩:=h;refine{t,p,λG B M d M' Z Xh H U Q e R S k=>?_};obtain⟨ob,e1,e⟩:=bnd e;cases e;refine v G B M ob Z Xh H U _ e1 R S λX1 H1 x s1 R1 a n t1=>k (Z++[x]) X1 H1 _ (Pre.app _ _) s1 (R1.cell a n t1) ?_;unfold Tr;exact{x,by rw[<-R1.len,Ql (Qf _),QU];rfl,rfl}
noncomputable def sF(F:List D->MS->Option (D×MS))(ra:RXA):RX:=λB M=>(ra B M).bind λp=>F p.1 p.2
theorem Bh(va:VXA K t rs):VX K (Bs (spI K F) [] E0 t) (sF F rs):=λG B M d M' Z Xh H U Q e R S k=>by
 obtain⟨⟨ds,M1⟩,e1,e⟩:=bnd e;refine va G B M ds M1 Z Xh H U _ e1 R S λρ1 X1 H1 vs p1 s1 R1 t1=>?_;rw[Qo];exact{G,ρ1,X1,M1,ds,d,M',e,R1,t1,λZ' X' H' v p' s' R' t'=>k Z' X' H' v (p1.trans p') (s1.trans s') R' t'}
variable{j k:Nat}{x:Str}{ps:List Str}{F:List D->MS->Option (D×MS)}{p pos apos:Pos}{C:Uu}{m:Str}{ro:RE}
theorem LY(D':Has X.prog X.w X.K X.mg X.base j x ps (spI X.K F))(hr:cV k X.A)(ha:QXA X (e::es) rs)(hj:j<=k:=by decide)(hg:Gl X x:=by rfl)
  (hdb:(x==("__debug__":Str))=false:=by decide) (he:Uv (e::es) X.env=(false,UO e X.env)::Uv es X.env:=by rfl) (hpl:(UM pos (Uv es X.env)).any (·.1)=false:=by rfl):QX X (.Call (.Name x p) (e::es) [] pos) (sF F rs):=by
 obtain⟨t,pa,va⟩:=ha
 exact{_,tJ D' hr pa hj hg hdb he hpl,Bh va}
theorem fo(O:dU X.K X.mg C x up)(W:OfC X.K C m)(D':cH X.prog X.w X.K X.mg X.base j C m ps (spI X.K F))(hr:cV k X.A)(ha:QXA X (e::es) rs)(hj:j<=k:=by decide)(hg:Gl X x:=by rfl)(hdb:(x==("__debug__":Str))=false:=by decide)
  (hst:Uv (e::es) X.env=(false,UO e X.env)::Uv es X.env:=by rfl) (hpl:(UM pos (Uv es X.env)).any (·.1)=false:=by rfl)
  (ht:UO (.Call (.Attribute (.Name x p) m apos) (e::es) [] pos) X.env=(do
   let ov<-UO (.Name x p) X.env
   V3 apos.atName
   let (f,first)<-Vv [ov] (VW ov m pl)
   callWith pos f first (UM pos (Uv (e::es) X.env)) (UW pos (UN [] X.env))):=by rfl):QX X (.Call (.Attribute (.Name x p) m apos) (e::es) [] pos) (sF F rs):=by
 obtain⟨t,pa,va⟩:=ha
 exact{_,De O W D' hr pa hj hg hdb hst hpl ht,Bh va}
def Gv(f:Str)(cs:List Uu)(ro:RE)(rx:RX):RSt:=λB M=>(rx B M).bind λp=>(ro B p.2).bind λc=>match c with
 | .cell n=>match p.2[n]? with
  |some (.obj C fn ds)=>if C∈cs/\fn.length<1000 then Zh (.nx B (p.2.set n (.obj C (ZK f p.1 fn ds).1 (ZK f p.1 fn ds).2)))else Zi
  |_=>Zi
 |_=>Zi
theorem gB(ok:df X.K f cs)(ho:QE X o ro)(he:QX X e rx)(hs:Vh e (Zh (.Attribute o f pos')) pos.line X.env=pure false:=by rfl):QS X (.Assign [.Attribute o f pos'] e pos) (Gv f cs ro rx):=by
 obtain⟨t,p,v⟩:=ho;obtain⟨t',p',v'⟩:=he;refine{_,GI p p' hs,λG B M oo Z Xh H U E h R S k=>?_};obtain⟨⟨d,M1⟩,e2,h⟩:=bnd h;obtain⟨c,e1,h⟩:=bnd h;refine v' G B M d M1 Z Xh H U _ e2 R S λρ1 X1 H1 y p1 s1 R1 t1=>v G B M1 c ρ1 X1 H1 U _ e1 R1 (S.mono p1 s1) λX2 H2 x s2 R2 t2=>?_;split at h
 ·split at h
  ·rename_i hM;split at h
   ·rename_i hc;cases h;obtain⟨a,ha,rfl,_,_,dx,fs,hv,hf,tv⟩:=cu R2 t2 hM (by intro z;cases z);subst hf;obtain⟨i1,i2⟩:=B0 (f:=f) (t1.same s2) tv;exact{a,_,dx,fs,rfl,hv,(ok _ hc.1).1,(ok _ hc.1).2,by simpa using hc.2,k ρ1 X2 _ U p1 (s1.trans s2) (R2.put ha hM (by intro z;cases z) {dx,_,bI,i1,i2}) ((S.mono p1 s1).same s2)}
   cases h
  cases h
 cases h
end
end L2
namespace L2
open PySem PySem.Spec PyProof.Rows
open AutoSeq1 (wpAny_loadPart')
theorem Mb{prog:Program}{w:UC}{A:US}{it:Uu}{fp:List Uu}{n:Nat}{P:Nat->Ut->Prop}{St:Nat->UT->Prop}(D:Draws prog w A it fp n P St) :
  Draws prog w A it fp (n+1) (λi=>P (i-1)) (λi h=>0<i/\St (i-1) h) where
 live:=λi h z=>D.live _ _ z.2
 frame:=λi h h' z k=>{z.1,D.frame _ _ _ z.2 k}
 item:=λi s Q E hi z k=>D.item (i-1) s Q E (by lia) z.2 λx h' tk p q=>k x h' tk p {by lia,by rw[show i+1-1=i-1+1 by lia];exact q}
 done:=λs Q E z k=>D.done s Q E (by simpa using z.2) k
theorem DE{prog:Program}{w:UC}{A:US}(hh:A.handled=Zi)(it l:Uu)(i:Nat)(xs:Array Ut)(hx:xs.size<=i) :
  Draws prog w A it [it,l] i (λ_ _=>False) (λj h=>j=i/\h.IsListIter it l i/\h.IsList l xs) where
 live:=λ_ _ z=>let ⟨o,ho,_⟩:=z.2.1;⟨o,ho⟩
 frame:=λ_ _ _ z k=>{z.1,z.2.1.at λo e=>k it (by simp) o e,z.2.2.at λo e=>k l (by simp) o e}
 item:=λj s Q E hj z=>absurd z.1 (Qy hj)
 done:=λs Q E z k=>wpAny_nextOf_list_end hh z.2.1 z.2.2 (by simp[hx]) k
theorem Dh(l:Uu)(xs:Array Ut)(n:Nat)(dct:Option Uu)(sl:Array (Option Ut))(t:Tok) :
  Meets (XE.«enumerate.__new__» {[.type "enumerate",.ref l],[("start",.int 1 t)]}) (λ_ R s=>s.heap.get? l=Zh { cls:=.type "list",dict:=dct,data:=.seq xs n,slots:=sl }/\
   R (.ok (.ret (.ref (s.heap.push { cls:=.type "list_iterator",data:=.fields #[.ref l,.int 0 0] }).objs.size))) { s with heap:=(s.heap.push { cls:=.type "list_iterator",data:=.fields #[.ref l,.int 0 0] }).push { cls:=.type "enumerate",data:=.fields #[.none,.bool false,.ref s.heap.objs.size,rawInt 1,.none,.none] } }):=
 .of_wp λprog w A R s h=>by
  obtain⟨hp,g,d,tk,os⟩:=s;obtain⟨hl,h⟩:=h;have hs:=sub_enumerate;have hL:Heap.IsList (Shared.heap ⟨hp,g,d,tk,os⟩) l xs:={_,hl,rfl,n,rfl};wp_walk using wpAny_loadPart' hl
  refine wpAny_stack_any λst=>UA ?_;split
  ·rename_i c _ _ _ _ _;cases (c==Wc "enumerate")<;>(wp_walk using wpAny_loadPart' hl,V4 hL;exact{_,rfl,h})
  wp_walk using wpAny_loadPart' hl,V4 hL;exact{_,rfl,h}
theorem zC(hl:typeLookup (.type T) "__init__"=pure (Zh (.builtin "object.__init__")))(hm:Bind.madeBy (.type T)=pure (Zh newId))(hne:(Zh newId !=Zh "object.__new__")=true) :
  Meets (XE.«object.__init__» {[o,a],kw}) (λ_ R s=>s.TypeIs o T/\R (.ok (.ret .none)) s):=
 .of_wp λprog w A R s h=>by
  obtain⟨hT,h⟩:=h;wp_walk
  exact{_,rfl,h}
theorem Hn(a:Ut)(t:Tok):checkTypeCall "enumerate" {[a],[("start",.int 1 t)]}=pure ():=by kernel_rfl
theorem Ic(a:Ut)(t:Tok):checkBuiltinCall "enumerate.__new__" {[.type "enumerate",a],[("start",.int 1 t)]}=pure ():=by kernel_rfl
theorem Iw(o a:Ut)(t:Tok):argsOk "object.__init__" {[o,a],[("start",.int 1 t)]}:=by
 unfold argsOk;rw[signature?_of (id:="object.__init__") (n:=['_','_','t','i','n','i','_','_']) (o:=['t','c','e','j','b','o']) (by kernel_rfl) F.owner_object];kernel_rfl
section
variable{prog:Program}{w:UC}{A:US}{E:Ut->Uy->Prop}{s:Uy}
theorem AX(hL:s.heap.IsList l xs)
  (h:∀h',IsEnum h' (s.heap.objs.size+1) s.heap.objs.size 1 .none->h'.IsListIter s.heap.objs.size l 0->(∀b o,s.heap.get? b=Zh o->h'.get? b=Zh o)->Q (.ref (s.heap.objs.size+1)) { s with heap:=h' }) :
  wpAny (UI prog w) A (call (.type "enumerate") [.ref l] [("start",.int 1 t)]) Q E s:=by
 obtain⟨⟨c,dct,dt,sl⟩,hl,hc,n,hd⟩:=hL
 replace hc:c=.type "list":=hc
 replace hd:dt=.seq xs n:=hd
 subst hc hd
 have ft:=F.called_enumerate
 obtain⟨c,tl,hmro⟩:=ft.mro
 have hmade:=ft.made
 have hsub:=ft.sub
 refine YU (codeAny_of_tree ?_)
 show wpAny _ _ (callAny (.type "enumerate") _) _ _ _
 refine UA {Code.quiet_builtin _ (by decide+kernel),codeAny_builtin F.entry_type_call ?_}
 rw[Around.under_plain (weight_type_call_type "enumerate" [.ref l] [("start",.int 1 t)]) (units_type_call_type "enumerate" [.ref l] [("start",.int 1 t)])]
 have h1:=ft.notType
 have h2:=ft.canCreate
 have h3:=Hn (.ref l) t
 repeat (any_goals (first|assumption|wp_step))
 have hz:(s.heap.push { cls:=.type "list_iterator",data:=.fields #[.ref l,.int 0 0] }).objs.size=s.heap.objs.size+1:=Vq ..
 refine Wi (XB ft.plain F.entry_enumerate_new (wpAny_of_eq (Ic (.ref l) t) (Dh l xs n dct sl t prog w A.in1 (wants (λv s₁=>s₁.TypeIs v "enumerate"/\Q v s₁) E) s {hl,?_}))) λr s₁ hr=>?_
 ·show _/\_;rw[hz];have he:IsEnum ((s.heap.push { cls:=.type "list_iterator",data:=.fields #[.ref l,.int 0 0] }).push { cls:=.type "enumerate",data:=.fields #[.none,.bool false,.ref s.heap.objs.size,rawInt 1,.none,.none] }) (s.heap.objs.size+1) s.heap.objs.size 1 .none:=by
   have:=UK (s.heap.push { cls:=.type "list_iterator",data:=.fields #[.ref l,.int 0 0] }) (o:={ cls:=.type "enumerate",data:=.fields #[.none,.bool false,.ref s.heap.objs.size,rawInt 1,.none,.none] }) rfl;rw[hz]at this;exact this
  exact{{_,he,rfl},h _ he {_,Uz _ (UK _ rfl),rfl,rfl} λb o x=>Uz _ (Uz _ x)}
 rcases r with e|fl
 ·exact hr
 cases fl with
 |ret v=>
  obtain⟨hT,hq⟩:=hr
  have hli:=ft.init.lookup
  have hbi:=ft.init.bind v
  repeat (any_goals (first|assumption|wp_step))
  refine Wi (XB ft.init.plain F.entry_object_init (ft.init.check _ _ _ _ _ _ _ _ hT (Iw _ _ _) (zC hli ft.made (by decide) prog w A.in1 (wants (λr s₂=>r=.none/\Q v s₂) E) s₁ ⟨hT,rfl,hq⟩))) λr₂ s₂ hr₂=>?_
  rcases r₂ with e|fl₂
  ·exact hr₂
  cases fl₂ with
  |ret r=>
   obtain⟨rfl,hq⟩:=hr₂
   repeat (any_goals (first|assumption|wp_step))
  |_=>exact hr₂.elim
 |_=>exact hr.elim
end
section
variable{X:Cx}{pins:List (Uu×Obj)}{B:St}{H:Hp}{s:Uy}
def Oe(K:Uw)(a:Uu):It:=
 {λi H=>∃xs x,SqL K H a xs/\xs[i]?=Zh x,λi H x H'=>∃T v,x=.ref T/\H T=Zi/\H'=upd H T (.tup [.int ((i:Nat)+1),v])/\∀xs,SqL K H a xs->xs[i]?=Zh v,λi H=>∃xs,SqL K H a xs/\xs.length<=i}
theorem AI{P:Program}{w:UC}{K:Uw}{elts:List Expr}{x1}{pos:Pos}(a e it:Uu)(hne:e≠it)(hae:a≠e)(hai:a≠it) :
  ZR P w K (.Tuple elts x1 pos) (Oe K a) [e,it] e (λi h=>(∃old,IsEnum h e it ((i+1:Nat):Int) old)/\h.IsListIter it a i) where
 mem:=by simp
 obj:=λi h st b hb=>by
  obtain⟨⟨old,he⟩,o,e1,c,d⟩:=st;rcases P7.mp hb with rfl|hb
  ·exact⟨_,he,λv z=>by
    have z':Data.fields _=Data.cell v:=z;cases z'⟩
  have:b=it:=by simpa using hb
  subst this;exact{o,e1,λv z=>by rw[d]at z;cases z}
 keep:=λi h h' st k=>by
  obtain⟨⟨old,he⟩,hi⟩:=st;exact{{old,k e (by simp) _ he},hi.at λo e=>k it (by simp) o e}
 item:=by
  intro X hP hw hK hc i pins s B H E I hf st hg;subst hP hw hK;obtain⟨xs,x,hq,hx⟩:=hg;obtain⟨its,rv,p,hz⟩:=I.list hq;obtain⟨u,hu,ru⟩:=rv.get hx;obtain⟨⟨old,he⟩,hi⟩:=st;have hT:=I.Aw (H':=H) (Qf s.heap.objs.size) (I.hok.fresh (Qf _));have hTe:s.heap.objs.size≠e:=RZ (UG he);have hTi:s.heap.objs.size≠it:=by obtain⟨o,ho,_⟩:=hi;exact RZ (UG ho)
  have hlt:i<its.toArray.size:=by
   have:=(Qh.mp hu).1;simpa using this
  refine wpAny_pyNext_enum_itemD (Mb (Draws.list (A:=X.A.in1) (I.ok.hd hc) it a hai its.toArray)) (i:=i+1) he {Nat.succ_pos _,hi,p.isList} (by lia) hne (by simp[hne,Rx hae]) λy h' tk hy ho hs hTo hsz hk=>?_;have hy':its.toArray[i]?=Zh y:=hy;have:u=y:=by
   have:its[i]?=Zh y:=by simpa using hy'
   rw[hu]at this;exact UE this
  subst this;have I1:Inv X pins B H { s with heap:=h',toks:=tk+1 }:=I.IT (ch:=[e,it]) hf λb o hb q=>hk b o (λz=>hb (by simp[z])) (λz=>hb (by simp[z])) q;have I2:=I1.NC (u:=.tup [.int ((i:Nat)+1),x]) hT I.sz {by show 2<=sizeLine;decide,[.int ((i+1:Nat):Int) tk,u],.cons {_,rfl} (.cons ru .nil),{_,hTo,rfl,_,rfl}};refine⟨_,rfl,wpAny_letOwnedTupleGo_enum (s:={ s with heap:=h',toks:=tk+1 }) ho λh2 he2 hs2=>?_⟩;have f0:=hf e (by simp);refine⟨.ref s.heap.objs.size,_,I2.turned (t':=tk+1) (it:=e) (λb o hb q=>(hs2.2 b hb).trans q) (by rw[bN (Rx hTe)];exact f0.1) f0.2.1 f0.2.2.2.1 f0.2.2.2.2.1 f0.2.2.2.2.2,rfl,
   {_,x,rfl,hT.1,rfl,λys hy=>by rw[I.y8 hy hq];exact hx},{{_,by simpa using he2},hs.2.1.at λo q=>(hs2.2 it (Rx hne)).trans q},λb hb=>?_⟩
  rw[bN (λz=>by
   rcases P7.mp hb with rfl|hb
   ·exact hTe z.symm
   have:b=it:=by simpa using hb
   exact hTi (z.symm.trans this))]
  exact(hf b hb).1
 done:=by
  intro X hP hw hK hc i pins s B H E I hf st hg;subst hP hw hK;obtain⟨xs,hq,hx⟩:=hg;obtain⟨its,rv,p,hz⟩:=I.list hq;obtain⟨⟨old,he⟩,hi⟩:=st;have hl:=rv.length;obtain⟨f0,f1,f2,f3,f4,f5⟩:=hf it (by simp);exact wpAny_pyNext_enum_endD (DE (A:=X.A.in1) (I.ok.hd hc) it a i its.toArray (by simp;lia)) he ⟨rfl,hi,p.isList⟩ λh' eb=>{rfl,I.turned (t':=s.toks) (it:=it) (λb o hb q=>eb b o hb q) f0 f1 f3 f4 f5}
 self:=λ_ _ _ _ _ st h=>by
  obtain⟨⟨old,he⟩,_⟩:=st;exact Ym he h
def Km(K:Uw)(ta:TA):TI:=λB H R=>ta B H λvs H1=>∃a,vs=[.ref a]/\(∃xs,SqL K H1 a xs)/\R (Oe K a) H1
theorem sD{M:Ze}{A:US}{E:Ut->Uy->Prop}{s:Uy}{env:Env}{pos:Pos}{T:String}{e:Expr}{rest:List Expr}{kws:List U0}{Q:Ut->Uy->Prop}
  (h:wpAny M A (spliced (UM pos (Uv (e::rest) env))) (λvs s₁=>wpAny M A (evalAll ((UW pos (UN kws env)).map (·.2))) (λkvs s₂=>wpAny M A (call (.type T) vs (((UW pos (UN kws env)).filterMap (·.1)).zip kvs)) Q E s₂) E s₁) E s)
  (he:UM pos (Uv (e::rest) env)=(false,UO e env)::UM pos (Uv rest env)) (hp:(UM pos (Uv (e::rest) env)).any (·.1)=false) (ha:(UW pos (UN kws env)).all (·.1.isSome)=true) (hk:(UW pos (UN kws env)).any (·.1.isNone)=false) :
  wpAny M A (callWith pos (.type T) [] (UM pos (Uv (e::rest) env)) (UW pos (UN kws env))) Q E s:=by
 unfold callWith
 refine Ux (wpAny_holding (U8 (Q:=λa s₁=>wpAny M A (call (.type T) a.pos a.kw) Q E s₁) ?_ (λa s₁ h₁=>Ux (Wr ?_)) λ_ _ x=>x))
 ·rw[he]at h⊢;exact evalArgs_kwB ha h
 simp only[hp,hk,Bool.or_false]
 refine Ux (UA ?_)
 exact Ux (U8 h₁ (λr s₂ hr=>Ux (wpAny_holding (wpAny_point (UA hr)))) λ_ _ x=>x)
theorem EJ{x1 j}(hg:Gl X "enumerate")(hm:X.mg "enumerate"=Zi)(ha:PA X [a] ta)(hs:Uv [a] X.env=[(false,UO a X.env)]:=by rfl) :
  PI X (.Tuple elts x1 pos2) (.Call (.Name "enumerate" p) [a] [{Zh "start",.Constant (.int 1) j cp,kp}] pos) (Km X.K ta):=by
 intro pins s B H R I h
 refine Vi (sX I hg hm qX ?_)
 refine sD (thn (ha pos pins s B H _ I h) λus s1 ⟨vs,H1,I1,r1,q1⟩=>?_) (by rw[hs];rfl) (by rw[hs];rfl) rfl rfl
 refine thn (I0 (G3 (X:=X)) MX pos pins s1 B H1 (λzs H2=>zs=[.int 1]/\H2=H1) I1 ⟨rfl,rfl⟩) λws s2 z9=>?_;obtain⟨zs,H2,I2,rz,hz,hH⟩:=z9
 subst hz hH
 obtain⟨a,e,⟨xs,hq⟩,q⟩:=q1
 subst e
 cases r1 with
 |cons r rr=>
  cases rr
  cases r
  cases rz with
  |cons r rr=>
   cases rr
   obtain⟨t,rfl⟩:=r
   obtain⟨its,rv,p,hz⟩:=I2.list hq
   have hal:a<s2.heap.objs.size:=by obtain⟨o,ho,_⟩:=p.isList;exact UG ho
   refine AX p.isList λh' he hi hk=>?_
   refine Ym he ?_
   refine{s2.heap.objs.size+1,[s2.heap.objs.size+1,s2.heap.objs.size],_,_,_,rfl,I2.kept (t':=s2.toks) hk,AI a _ _ (Nat.succ_ne_self _) (Qy (RH hal)) (Qy hal),{{_,he},hi},λb hb=>?_,q}
   rcases P7.mp hb with rfl|hb
   ·exact I2.Aw (Sf _) (I2.hok.fresh (Sf _))
   have e:b=s2.heap.objs.size:=by simpa using hb
   subst e
   exact I2.Aw (Qf _) (I2.hok.fresh (Qf _))
end
end L2
namespace L2
open PySem
mutual
def clD(n:Nat):D->Bool
 | .cell m=>decide (m<n)
 | .tup ds=>iW n ds
 | .lst ds=>iW n ds
 | .sqt ds=>iW n ds
 | .sql ds=>iW n ds
 | .dic _ ds=>iW n ds
 | .dtt _ ds=>iW n ds
 | .obj _ _ ds=>iW n ds
 |_=>true
def iW(n:Nat):List D->Bool
 | []=>true
 |d::ds=>clD n d&&iW n ds
end
section
variable{K:Uw}{Z Z':List Uu}{X:Hp}
mutual
theorem Tr.cl:∀(d:D)(v:V),Tr K Z X d v->clD Z.length d=true
 | .non,_,h| .bl _,_,h| .int _,_,h| .str _,_,h| .adr _,_,h| .ty _,_,h=>by unfold clD;rfl
 | .cell n,v,h=>by unfold Tr at h;obtain⟨a,h1,_⟩:=h;unfold clD;exact decide_eq_true (Qh.mp h1).1
 | .tup ds,v,h=>by unfold Tr at h;obtain⟨a,vs,_,_,h3⟩:=h;unfold clD;exact Trs.cl ds _ h3
 | .lst ds,v,h=>by unfold Tr at h;obtain⟨a,vs,_,_,h3⟩:=h;unfold clD;exact Trs.cl ds _ h3
 | .sqt ds,v,h=>by unfold Tr at h;obtain⟨a,vs,_,_,h3⟩:=h;unfold clD;exact Trs.cl ds _ h3
 | .sql ds,v,h=>by unfold Tr at h;obtain⟨a,vs,_,_,h3⟩:=h;unfold clD;exact Trs.cl ds _ h3
 | .dic ks ds,v,h=>by unfold Tr at h;obtain⟨a,vs,_,_,_,h3⟩:=h;unfold clD;exact Trs.cl ds _ h3
 | .dtt ks ds,v,h=>by unfold Tr at h;obtain⟨a,vs,_,_,_,h3⟩:=h;unfold clD;exact Trs.cl ds _ h3
 | .obj C fn ds,v,h=>by unfold Tr at h;obtain⟨a,dx,vs,_,_,_,h3⟩:=h;unfold clD;exact Trs.cl ds _ h3
theorem Trs.cl:∀(ds:List D)(vs:List V),Trs K Z X ds vs->iW Z.length ds=true
 | [],_,_=>by unfold iW;rfl
 |d::ds,vs,h=>by
  unfold Trs at h;obtain⟨v,r,_,h2,h3⟩:=h;unfold iW;rw[Tr.cl d _ h2,Trs.cl ds _ h3];rfl
end
mutual
theorem Tr.back(p:Pre Z Z'):∀(d:D)(v:V),clD Z.length d=true->Tr K Z' X d v->Tr K Z X d v
 | .non,_,_,h| .bl _,_,_,h| .int _,_,_,h| .str _,_,_,h| .adr _,_,_,h| .ty _,_,_,h=>by unfold Tr at h⊢;exact h
 | .cell n,v,q,h=>by
  unfold clD at q;have q:=of_decide_eq_true q;unfold Tr at h⊢;obtain⟨a,h1,h2⟩:=h;have:=p n _ (Qe q);rw[h1]at this;cases this;exact{_,Qe q,h2}
 | .tup ds,v,q,h=>by unfold clD at q;unfold Tr at h⊢;obtain⟨a,vs,h1,h2,h3⟩:=h;exact{a,vs,h1,h2,Trs.back p ds _ q h3}
 | .lst ds,v,q,h=>by unfold clD at q;unfold Tr at h⊢;obtain⟨a,vs,h1,h2,h3⟩:=h;exact{a,vs,h1,h2,Trs.back p ds _ q h3}
 | .sqt ds,v,q,h=>by unfold clD at q;unfold Tr at h⊢;obtain⟨a,vs,h1,h2,h3⟩:=h;exact{a,vs,h1,h2,Trs.back p ds _ q h3}
 | .sql ds,v,q,h=>by unfold clD at q;unfold Tr at h⊢;obtain⟨a,vs,h1,h2,h3⟩:=h;exact{a,vs,h1,h2,Trs.back p ds _ q h3}
 | .dic ks ds,v,q,h=>by unfold clD at q;unfold Tr at h⊢;obtain⟨a,vs,h1,h2,h4,h3⟩:=h;exact{a,vs,h1,h2,h4,Trs.back p ds _ q h3}
 | .dtt ks ds,v,q,h=>by unfold clD at q;unfold Tr at h⊢;obtain⟨a,vs,h1,h2,h4,h3⟩:=h;exact{a,vs,h1,h2,h4,Trs.back p ds _ q h3}
 | .obj C fn ds,v,q,h=>by unfold clD at q;unfold Tr at h⊢;obtain⟨a,dx,vs,h1,h2,h4,h3⟩:=h;exact{a,dx,vs,h1,h2,h4,Trs.back p ds _ q h3}
theorem Trs.back(p:Pre Z Z'):∀(ds:List D)(vs:List V),iW Z.length ds=true->Trs K Z' X ds vs->Trs K Z X ds vs
 | [],_,_,h=>by unfold Trs at h⊢;exact h
 |d::ds,vs,q,h=>by
  unfold iW at q;rw[Qs]at q;unfold Trs at h⊢;obtain⟨v,r,h1,h2,h3⟩:=h;exact{v,r,h1,Tr.back p d _ q.1 h2,Trs.back p ds _ q.2 h3}
end
mutual
theorem BO(n:Nat):∀d:D,bP d=true->clD n d=true
 | .non,_| .bl _,_| .int _,_| .str _,_| .adr _,_| .ty _,_=>by unfold clD;rfl
 | .cell m,q=>by unfold bP at q;cases q
 | .tup ds,q| .lst ds,q| .sqt ds,q| .sql ds,q| .dic _ ds,q| .dtt _ ds,q| .obj _ _ ds,q=>by unfold bP at q;unfold clD;exact rL n ds q
theorem rL(n:Nat):∀ds:List D,bD ds=true->iW n ds=true
 | [],_=>by unfold iW;rfl
 |d::ds,q=>by
  unfold bD at q;rw[Qs]at q;unfold iW;rw[BO n d q.1,rL n ds q.2];rfl
end
end
section
variable{K:Uw}{G:Ent}{Z Z':List Uu}{X X' H H':Hp}{M J:MS}
theorem OR.back(p:Pre Z Z')(h:OR K Z X H a o)(h':OR K Z' X' H' a o):OR K Z X' H' a o:=by
 cases o with
 |lst ds=>obtain⟨_,_,t⟩:=h;obtain⟨vs,h1,h2⟩:=h';exact{vs,h1,Trs.back p _ _ (t.cl _ _) h2}
 |dic ks ds=>obtain⟨_,_,_,t⟩:=h;obtain⟨vs,h1,h3,h2⟩:=h';exact{vs,h1,h3,Trs.back p _ _ (t.cl _ _) h2}
 |dtt ks ds=>obtain⟨_,_,_,t⟩:=h;obtain⟨vs,h1,h3,h2⟩:=h';exact{vs,h1,h3,Trs.back p _ _ (t.cl _ _) h2}
 |obj C fn ds=>obtain⟨_,_,_,_,t⟩:=h;obtain⟨dx,vs,h1,h3,h2⟩:=h';exact{dx,vs,h1,h3,Trs.back p _ _ (t.cl _ _) h2}
 |gone=>trivial
theorem RS.back(R:RS K G Z X H M)(p:Pre Z Z')(R':RS K G Z' X' H' (M++J)):RS K G Z X' H' M where
 same:=R'.same
 x0:=R'.x0
 y:=R'.y
 nw:=R'.nw
 len:=R.len
 live:=λn a e=>R'.live n a (p _ _ e)
 nd:=λm n a e f=>R'.nd m n a (p _ _ e) (p _ _ f)
 ob:=λn a o e f g=>by
  have hM:(M++J)[n]?=Zh o:=by rw[Qp (Qh.mp f).1];exact f
  obtain⟨h1,h2,h3⟩:=R'.ob n a o (p _ _ e) hM g;obtain⟨_,_,h4⟩:=R.ob n a o e f g;exact⟨h1,h2,h4.back p h3⟩
noncomputable def xE(n:Nat)(M:MS)(d:D):Option D:=match d with
 | .cell m=>if m<n then Zh (.cell m)else match M[m]? with
  |some (.lst ds)=>if iW n ds=true then Zh (.lst ds)else Zi
  |some (.dic ks ds)=>if iW n ds=true then Zh (.dic ks ds)else Zi
  |some (.obj C fn ds)=>if iW n ds=true then Zh (.obj C fn ds)else Zi
  |_=>Zi
 |d=>if clD n d=true then Zh d else Zi
theorem Nt(R:RS K G Z X H M)(p:Pre Z Z')(R':RS K G Z' X' H' (M++J))(t:Tr K Z' X' d' v)(e:xE M.length (M++J) d'=Zh d):∃X2,br X' X2/\RS K G Z X2 H' M/\Tr K Z X2 d v:=by
 have key:∀d0,clD M.length d0=true->Tr K Z' X' d0 v->∃X2,br X' X2/\RS K G Z X2 H' M/\Tr K Z X2 d0 v:=λd0 c t0=>{X',br.refl _,R.back p R',Tr.back p _ _ (by rw[R.len];exact c) t0};cases d' with
 |cell m=>
  unfold xE at e;dsimp only at e;split at e
  ·rename_i hm;cases e;exact key _ (by unfold clD;exact decide_eq_true hm) t
  rename_i hm;have hset:(M++J).set m .gone=M++J.set (m-M.length) .gone:=RK _ _ (Yy hm);split at e
  ·rename_i ds hM;split at e
   ·rename_i c;cases e;obtain⟨a,ha,rfl,h1,h2,vs,h3,h4⟩:=cu R' t hM (by intro z;cases z);obtain⟨R2,s2⟩:=R'.gone ha hM (by intro z;cases z) h3;rw[hset]at R2;refine{_,s2,R.back p R2,Tr.back p _ _ (by unfold clD;rw[R.len];exact c) ?_};unfold Tr;exact⟨a,vs,rfl,bI,h4.same s2⟩
   cases e
  ·rename_i ks ds hM;split at e
   ·rename_i c;cases e;obtain⟨a,ha,rfl,h1,h2,vs,h3,h5,h4⟩:=cu R' t hM (by intro z;cases z);obtain⟨R2,s2⟩:=R'.gone ha hM (by intro z;cases z) h3;rw[hset]at R2;refine{_,s2,R.back p R2,Tr.back p _ _ (by unfold clD;rw[R.len];exact c) ?_};unfold Tr;exact⟨a,vs,rfl,bI,h5,h4.same s2⟩
   cases e
  ·rename_i C fn ds hM;split at e
   ·rename_i c;cases e;obtain⟨a,ha,rfl,h1,h2,dx,vs,h3,h5,h4⟩:=cu R' t hM (by intro z;cases z);obtain⟨R2,s2⟩:=R'.gone ha hM (by intro z;cases z) h3;rw[hset]at R2;refine{_,s2,R.back p R2,Tr.back p _ _ (by unfold clD;rw[R.len];exact c) ?_};unfold Tr;exact⟨a,dx,vs,rfl,bI,h5,h4.same s2⟩
   cases e
  cases e
 |_=>
  unfold xE at e;dsimp only at e;split at e
  ·rename_i c;cases e;exact key _ c t
  cases e
def ZA(F:List D->MS->Option (D×MS))(f:List D->MS->Option D):Prop:=∀ds M d,f ds M=Zh d->∃d' J,F ds M=Zh (d',M++J)/\xE M.length (M++J) d'=Zh d
theorem OF(h:ZA F f)(q:spI K (de f) vs H Q E):spI K F vs H Q E:=by
 obtain⟨G,Z,X,M,ds,d,M',e,R,t,k⟩:=q;obtain⟨d0,e0,e⟩:=bnd e;cases e;obtain⟨d',J,e1,e2⟩:=h ds M d e0;refine{G,Z,X,M,ds,d',M++J,e1,R,t,λZ' X' H' v p s R' t'=>?_};obtain⟨X2,s2,R2,t2⟩:=Nt R p R' t' e2;exact k Z X2 H' v (Pre.refl _) (s.trans s2) R2 t2
end
section
variable{P:Program}{w:UC}{K:Uw}{mg:Str->Option Ut}{base:UT}
theorem asR(D:Has P w K mg base k x ps (spI K F))(h:ZA F f):Has P w K mg base k x ps (spI K (de f)):=D.imp λ_ _ _ _ q=>OF h q
theorem O7(D:cH P w K mg base k C m ps (spI K F))(h:ZA F f):cH P w K mg base k C m ps (spI K (de f)):=D.imp λ_ _ _ _ q=>OF h q
end
section
variable{X:Cx}
theorem Fg(hu:X.A.units+64<Vy):OpR X (UH .Eq) (λx y H Q=>∃p q xs,x=.ref p/\y=.ref q/\SqL X.K H p xs/\SqL X.K H q []/\Q (.bl xs.isEmpty) H):=by
 intro pins s B H x y v u Q I rx ry h;obtain⟨p,q,xs,rfl,rfl,hp,hq,k⟩:=h;cases rx;cases ry;obtain⟨its,r1,l1,_⟩:=I.list hp;obtain⟨jts,r2,l2,_⟩:=I.list hq;cases r2;cases xs with
 |nil=>
  cases r1;exact SeqAt.RcAt.lists (e:=λ_=>true) l1.isList l2.isList rfl (by lia) (λj h1=>absurd h1 (by simp)) _ _ _ _ ⟨.bl true,H,I,rfl,k⟩
 |cons a b=>
  cases r1;exact SeqAt.RcAt.lists_lengths l1.isList l2.isList (by simp) (by lia) _ _ _ _ ⟨.bl false,H,I,rfl,k⟩
theorem kl(hu:X.A.units+64<Vy):OpR X (UH .NotEq) (λx y H Q=>∃p q xs,x=.ref p/\y=.ref q/\SqL X.K H p xs/\SqL X.K H q []/\Q (.bl (!xs.isEmpty)) H):=by
 intro pins s B H x y v u Q I rx ry h;obtain⟨p,q,xs,rfl,rfl,hp,hq,k⟩:=h;cases rx;cases ry;obtain⟨its,r1,l1,_⟩:=I.list hp;obtain⟨jts,r2,l2,_⟩:=I.list hq;cases r2;cases xs with
 |nil=>
  cases r1;exact SeqAt.RcNeAt.lists (e:=λ_=>true) l1.isList l2.isList rfl (by lia) (λj h1=>absurd h1 (by simp)) _ _ _ _ ⟨.bl false,H,I,rfl,k⟩
 |cons a b=>
  cases r1;exact SeqAt.RcNeAt.lists_lengths l1.isList l2.isList (by simp) (by lia) _ _ _ _ ⟨.bl true,H,I,rfl,k⟩
def eqE(neg:Bool):MS->D->D->Option D:=λM a b=>match b with
 | .lst []=>(listOf M a).bind λxs=>Zh (.bl (if neg then !xs.isEmpty else xs.isEmpty))
 |_=>Zi
theorem E4:VOp K (λx y H Q=>∃p q xs,x=.ref p/\y=.ref q/\SqL K H p xs/\SqL K H q []/\Q (.bl xs.isEmpty) H) (eqE false):=λG M a b d Z Xh H x y Q e R ta tb k=>by
 unfold eqE at e;split at e
 ·obtain⟨xs,e1,e⟩:=bnd e;cases e;obtain⟨p,vs,rfl,h1,h2⟩:=eY e1 R ta;unfold Tr at tb;obtain⟨q,us,rfl,h3,h4⟩:=tb;unfold Trs at h4;subst h4;exact{p,q,vs,rfl,rfl,h1,SqL.of (R.same _ _ h3),k Xh H _ (br.refl _) R (by unfold Tr;rw[isE h2];rfl)}
 cases e
theorem kH:VOp K (λx y H Q=>∃p q xs,x=.ref p/\y=.ref q/\SqL K H p xs/\SqL K H q []/\Q (.bl (!xs.isEmpty)) H) (eqE true):=λG M a b d Z Xh H x y Q e R ta tb k=>by
 unfold eqE at e;split at e
 ·obtain⟨xs,e1,e⟩:=bnd e;cases e;obtain⟨p,vs,rfl,h1,h2⟩:=eY e1 R ta;unfold Tr at tb;obtain⟨q,us,rfl,h3,h4⟩:=tb;unfold Trs at h4;subst h4;exact{p,q,vs,rfl,rfl,h1,SqL.of (R.same _ _ h3),k Xh H _ (br.refl _) R (by unfold Tr;rw[isE h2];rfl)}
 cases e
def ua(M:MS)(a b:D):Option D:=(fY M a).bind λkd=>(yA b).bind λk=>Zh ((iL kd.1 kd.2 k).getD .non)
theorem JG(hu:X.A.units+64<Vy)(ho:QE X o ro)(he:QE X e re)(m:M1 X o "get" apos e cpos:=by exact⟨rfl,rfl,rfl,rfl⟩):QE X (.Call (.Attribute o "get" apos) [e] [] cpos) (dOp ua ro re):=by
 obtain⟨t,p,v⟩:=ho;obtain⟨t',p',v'⟩:=he;refine{_,Gq (by lia) p p' m,λG B M d Z Xh H U Q h R S k=>?_};obtain⟨a,e1,h⟩:=bnd h;obtain⟨b,e2,h⟩:=bnd h;obtain⟨⟨ks,ds⟩,e3,h⟩:=bnd h;obtain⟨ky,e4,h⟩:=bnd h;cases h;refine v G B M a Z Xh H U _ e1 R S λX1 H1 x s1 R1 t1=>?_;obtain⟨q,kvs,rfl,h1,_,_⟩:=pz R1 t1 e3;refine{q,rfl,.inl ⟨kvs,.inl h1⟩,v' G B M b Z X1 H1 U _ e2 R1 (S.same s1) λX2 H2 y s2 R2 t2=>?_};obtain⟨q',kvs2,e5,h4,rfl,h6⟩:=pz R2 (t1.same s2) e3;cases e5;have h7:=sU t2 e4;subst h7;refine{_,gR.k h4,?_};cases hv:iL (kvs2.map (·.1)) ds ky with
 |none=>
  rw[(sV ky h6).2 hv];exact k X2 H2 _ (s1.trans s2) R2 (by show Tr _ _ _ ((iL _ _ _).getD _) _;rw[hv];unfold Option.getD Tr;rfl)
 |some d'=>
  obtain⟨u,h8,h9⟩:=(sV ky h6).1 d' hv;rw[h8];exact k X2 H2 _ (s1.trans s2) R2 (by show Tr _ _ _ ((iL _ _ _).getD _) _;rw[hv];exact h9)
def evD(M:MS)(d:D):Option D:=if isTup d=true then(ba M d).bind λxs=>Zh (.tup (dP xs))else Zi
theorem Trs.fm(t:Trs K Z Xh ds vs):∀ns:List Nat,Trs K Z Xh (ns.filterMap λm=>ds[m*2]?) (ns.filterMap λm=>vs[m*2]?)
 | []=>Trs.nil
 |n::ns=>by
  rw[Qx,Qx];cases h:ds[n*2]? with
  |none=>
   have:vs[n*2]?=Zi:=by
    rw[Rv]at h⊢;rw[t.len];exact h
   rw[this];exact Trs.fm t ns
  |some d=>
   obtain⟨v,h1,h2⟩:=t.at h;rw[h1];exact Trs.cons h2 (Trs.fm t ns)
theorem M9(he:QE X e re):QE X (.Subscript e (.Slice Zi Zi (Zh (.Constant (.int 2) j p3)) p2) pos) (dUn evD re):=by
 obtain⟨t,p,v⟩:=he;refine{_,EZ p,λG B M d Z Xh H U Q h R S k=>?_};obtain⟨a,e1,h⟩:=bnd h;unfold evD at h;split at h
 ·rename_i hT;obtain⟨xs,e2,h⟩:=bnd h;cases h;refine v G B M a Z Xh H U _ e1 R S λX1 H1 x s1 R1 t1=>?_;obtain⟨q,vs,rfl,h1,h2⟩:=i5 e2 R1 t1;rw[if_pos hT]at h1;refine{q,vs,rfl,h1,λl hl=>?_};obtain⟨R2,s2,e3⟩:=R1.alc hl (.tup (dP vs));refine k _ _ _ (s1.trans s2) R2 ?_;unfold Tr;refine{l,_,rfl,e3,?_};have hl:=h2.len;have:=(h2.same s2).fm (UJ ((xs.length+1)/2));rw[<-hl]at this;exact(show dP xs=_ by unfold dP;rw[<-hl])▸this
 cases h
noncomputable def mw:Nat->List D->List D
 |_,[]=>[]
 |n,d::r=>.tup [.int (n:Nat),d]::mw (n+1) r
theorem ES:∀(ds:List D)(n i:Nat),(mw n ds)[i]?=(ds[i]?).map λd=>.tup [.int ((n+i:Nat):Int),d]
 | [],n,i=>by unfold mw;simp
 |d::r,n,0=>by unfold mw;simp
 |d::r,n,i+1=>by
  unfold mw;rw[QJ,QJ,ES r (n+1) i,show n+1+i=n+(i+1) by lia]
theorem CD:∀(ds:List D)(n:Nat),(mw n ds).length=ds.length
 | [],_=>rfl
 |d::r,n=>by unfold mw;rw[Qd,Qd,CD r]
def en1(fx:Bool)(rs:RA):RI:=λB M=>(rs B M).bind λds=>match ds with
 | [d]=>if isTup d=true then Zi else(bM fx M d).bind λxs=>Zh (mw 1 xs)
 |_=>Zi
theorem K4{x1 j}(hm:X.mg "enumerate"=Zi)(ha:QA X [a] rs)(hg:Gl X "enumerate":=by rfl)(hs:Uv [a] X.env=[(false,UO a X.env)]:=by rfl) :
  QI X (.Tuple elts x1 pos2) (.Call (.Name "enumerate" p) [a] [{Zh "start",.Constant (.int 1) j cp,kp}] pos) fx (en1 fx rs):=by
 obtain⟨t,pa,v⟩:=ha
 refine{_,EJ hg hm pa hs,λG B M ds Z Xh H U R' e R S k=>?_}
 obtain⟨es,e1,e⟩:=bnd e
 split at e
 case h_2=>cases e
 rename_i d
 split at e
 case isTrue=>cases e
 rename_i hT
 obtain⟨xs,e2,e⟩:=bnd e
 cases e
 refine v G B M [d] Z Xh H U _ e1 R S λX1 H1 us s1 R1 t1=>?_
 obtain⟨u,rfl,t2⟩:=j3 t1
 clear t1
 have t1:=t2
 obtain⟨q,vs,rfl,h1,h2⟩:=gg e2 R1 t1
 rw[if_neg hT]at h1
 refine{q,rfl,⟨vs,h1⟩,k _ X1 H1 s1 R1 {λG2 ρ2 X2 H2 M2 i d' hp s2 R2 hM ed=>?_,λG2 ρ2 X2 H2 M2 i hp s2 R2 hM el=>?_}}
 ·obtain⟨q2,vs2,e3,h3,h4⟩:=gg ((pW hM).trans e2) R2 (Tr.mono hp s2 _ _ t1);cases e3;rw[if_neg hT]at h3;rw[ES]at ed;cases hx:xs[i]? with
  |none=>rw[hx]at ed;cases ed
  |some y=>
   rw[hx]at ed;cases ed;obtain⟨w,h5,h6⟩:=h4.at hx;refine{⟨vs2,w,h3,h5⟩,λx H3 hy=>?_};obtain⟨T,v,rfl,hT2,rfl,hv⟩:=hy;have:=hv vs2 h3;rw[h5]at this;cases this;obtain⟨R3,s3,e4⟩:=R2.alc hT2 (.tup [.int ((i:Nat)+1),w]);refine{_,s3,R3,?_};unfold Tr;refine{T,_,rfl,e4,Trs.cons ?_ (Trs.cons (h6.same s3) Trs.nil)};unfold Tr;rw[show((1+i:Nat):Int)=(i:Nat)+1 by lia]
 obtain⟨q2,vs2,e3,h3,h4⟩:=gg ((pW hM).trans e2) R2 (Tr.mono hp s2 _ _ t1)
 cases e3
 rw[if_neg hT]at h3
 rw[CD]at el
 exact⟨vs2,h3,An h4 el⟩
end
end L2
namespace L2
open PySem
open Classical in
noncomputable def A5(F:List D->MS->Option (D×MS)):List D->MS->Option D:=λds M=>(F ds M).bind λp=>if p.2.take M.length=M then xE M.length p.2 p.1 else Zi
theorem JO(F:List D->MS->Option (D×MS)):ZA F (A5 F):=λds M d e=>by
 obtain⟨⟨d',M'⟩,e1,e⟩:=bnd e;dsimp only at e;split at e
 ·rename_i h;refine{d',M'.drop M.length,?_,?_}
  ·rw[e1];congr 2;have:=Si M.length M';rw[h]at this;exact this.symm
  have:=Si M.length M';rw[h]at this;rw[this];exact e
 cases e
theorem wj(h:F ds M=Zh (d',M++J))(h2:xE M.length (M++J) d'=Zh d):A5 F ds M=Zh d:=by
 unfold A5;rw[h];exact(if_pos (by simp)).trans h2
theorem qd(c:clD n d=true):xE n M d=Zh d:=by
 unfold xE;cases d with
 |cell m=>unfold clD at c;exact if_pos (of_decide_eq_true c)
 |_=>exact if_pos c
theorem GF(h:F ds M=Zh (d,M))(c:clD M.length d=true):A5 F ds M=Zh d:=by
 refine wj (J:=[]) (d':=d) (by rw[Qo];exact h) (qd c)
theorem cT(h:F ds M=Zh (d,M))(c:bP d=true):A5 F ds M=Zh d:=GF h (BO _ _ c)
section
variable{P:Program}{w:UC}{K:Uw}{mg:Str->Option Ut}{base:UT}
theorem qh(D:Has P w K mg base k x ps (spI K F)):Has P w K mg base k x ps (spI K (de (A5 F))):=asR D (JO F)
theorem wa(D:cH P w K mg base k C m ps (spI K F)):cH P w K mg base k C m ps (spI K (de (A5 F))):=O7 D (JO F)
end
end L2
namespace L2
open PySem
def rf(g:RG)(rb:RSt)(n:Nat):Nat->Nat->SD->MS->Option Out
 |0,_,_,_=>Zi
 |f+1,i,B,M=>match M[n]? with
  |some (.lst ds)=>match ds[i]? with
   |none=>Zh (.nx B M)
   |some d=>(g d B).bind λσ1=>(rb σ1 M).bind λo=>match o with
    | .nx B' M'=>rf g rb n f (i+1) B' M'
    | .ct B' M'=>rf g rb n f (i+1) B' M'
    | .bk B' M'=>Zh (.nx B' M')
    | .rt d M'=>Zh (.rt d M')
  |_=>Zi
def DZ(f:Nat)(ra:RE)(g:RG)(rb:RSt):RSt:=λB M=>(ra B M).bind λc=>match c with
 | .cell n=>rf g rb n f 0 B M
 |_=>Zi
section
variable{X:Cx}{tg l:Expr}{body:List UP}{ra:RE}{g:RG}{rb:RSt}{pos:Pos}
theorem HI(f:Nat)(ha:VE K te ra)(hg:VG K tgt g)(hb:VS K tb rb):VS K (LV (OA K te) tgt tb) (DZ f ra g rb):=λG B M o Z Xh H U E h R S k=>by
 obtain⟨c,e1,h⟩:=bnd h;refine ha G B M c Z Xh H U _ e1 R S λX1 H1 x s1 R1 t1=>?_;split at h
 case h_2=>cases h
 rename_i n;have t1':=t1;unfold Tr at t1;obtain⟨a,hn,rfl⟩:=t1;have hM:∃ds,M[n]?=Zh (.lst ds):=by
  cases f with
  |zero=>cases h
  |succ f=>
   unfold rf at h;split at h
   ·rename_i ds hM;exact⟨ds,hM⟩
   cases h
 have at2:∀(ρ2:List Uu)(X2 H2:Hp)(M2:MS)(ds:List D),Pre Z ρ2->RS K G ρ2 X2 H2 M2->M2[n]?=Zh (.lst ds)->∃vs,H2 a=Zh (.lst vs)/\Trs K ρ2 X2 ds vs:=λρ2 X2 H2 M2 ds p R2 hM=>by
  obtain⟨a',ha',e,_,_,vs,hv,tv⟩:=cu (v:=.ref a) R2 (by unfold Tr;exact{a,p _ _ hn,rfl}) hM (by intro z;cases z);cases e;exact⟨vs,hv,tv⟩
 obtain⟨ds0,hM0⟩:=hM;obtain⟨vs0,hv0,tv0⟩:=at2 Z X1 H1 M ds0 (Pre.refl _) R1 hM0;refine .inl {⟨vs0,SqL.of hv0⟩,{λi m U' H'=>∃(Z':List Uu)(X':Hp)(B':SD)(M':MS),Pre Z Z'/\br X1 X'/\RS K G Z' X' H' M'/\SR K Z' X' B' U'/\rf g rb n m i B' M'=Zh o,{f,Z,X1,B,M,Pre.refl _,br.refl _,R1,S.same s1,h},?_}};rintro i m U' H' ⟨ρ2,X2,σ2,M2,p2,s2,R2,S2,e⟩;cases m with
 |zero=>cases e
 |succ m=>
  unfold rf at e;split at e
  case h_2=>cases e
  rename_i ds hM2;obtain⟨vs,hv,tv⟩:=at2 ρ2 X2 H' M2 ds p2 R2 hM2;split at e
  ·rename_i hd;cases e;refine .inl {{vs,SqL.of hv,?_},k ρ2 X2 H' U' p2 (s1.trans s2) R2 S2};rw[Rv]at hd;rw[tv.len];exact hd
  rename_i d hd;obtain⟨y,hy,ty⟩:=tv.at hd;refine .inr {⟨vs,y,SqL.of hv,hy⟩,λτ3 H3=>∃(Z':List Uu)(X':Hp)(B':SD)(M':MS),Pre Z Z'/\br X1 X'/\RS K G Z' X' H3 M'/\SR K Z' X' B' τ3/\rf g rb n m (i+1) B' M'=Zh o,λτ3 H3 z=>{m,Ry _,z},λx H2 hyl=>?_};obtain⟨rfl,hyl⟩:=hyl;have:=hyl vs (SqL.of hv);rw[hy]at this;cases this;obtain⟨σ3,c1,e⟩:=bnd e;obtain⟨o1,c2,e⟩:=bnd e;refine hg σ2 σ3 d ρ2 X2 H2 U' y _ c1 R2.same S2 ty λτ3 S3=>hb G σ3 M2 o1 ρ2 X2 H2 τ3 _ c2 R2 S3 ?_;cases o1 with
  |nx σ4 M4=>exact λρ4 X4 H4 τ4 p4 s4 R4 S4=>⟨ρ4,X4,σ4,M4,p2.trans p4,s2.trans s4,R4,S4,e⟩
  |ct σ4 M4=>exact λρ4 X4 H4 τ4 p4 s4 R4 S4=>⟨ρ4,X4,σ4,M4,p2.trans p4,s2.trans s4,R4,S4,e⟩
  |bk σ4 M4=>cases e;exact λρ4 X4 H4 τ4 p4 s4 R4 S4=>k ρ4 X4 H4 τ4 (p2.trans p4) (s1.trans (s2.trans s4)) R4 S4
  |rt d4 M4=>cases e;exact λρ4 X4 H4 v4 p4 s4 R4 S4=>k ρ4 X4 H4 v4 (p2.trans p4) (s1.trans (s2.trans s4)) R4 S4
theorem N3(f:Nat)(ha:QE X l ra)(hg:QG X tg g)(hb:QSs X body rb)(hp:XG (UI X.prog X.w) X.A X.env X.xe:=by exact Xp)(hc:X.calm=true:=by rfl)(hs:∀x,foldedSetIterable l X.env x=pure x:=by intro _;rfl):QS X (.For tg l body [] pos) (DZ f ra g rb):=by
 obtain⟨t,p,v⟩:=ha;obtain⟨t',p',v'⟩:=hg;obtain⟨t2,p2,v2⟩:=hb;exact{_,E8 hp hc (Au p) p' p2 hs,HI f v v' v2}
end
mutual
def shD(k:Nat):D->D
 | .cell m=>.cell (k+m)
 | .tup ds=>.tup (fQ k ds)
 | .lst ds=>.lst (fQ k ds)
 | .sqt ds=>.sqt (fQ k ds)
 | .sql ds=>.sql (fQ k ds)
 | .dic ks ds=>.dic ks (fQ k ds)
 | .dtt ks ds=>.dtt ks (fQ k ds)
 | .obj C fn ds=>.obj C fn (fQ k ds)
 | .non=>.non
 | .bl b=>.bl b
 | .int i=>.int i
 | .str x=>.str x
 | .adr a=>.adr a
 | .ty n=>.ty n
def fQ(k:Nat):List D->List D
 | []=>[]
 |d::ds=>shD k d::fQ k ds
end
noncomputable def shO(k:Nat):Ob->Ob
 | .lst ds=>.lst (fQ k ds)
 | .dic ks ds=>.dic ks (fQ k ds)
 | .dtt ks ds=>.dtt ks (fQ k ds)
 | .obj C fn ds=>.obj C fn (fQ k ds)
 | .gone=>.gone
noncomputable def sY:Ob->Bool
 | .gone=>true
 |_=>false
section
variable{K:Uw}{Z Z':List Uu}{X:Hp}
mutual
theorem Tr.sh:∀(d:D)(v:V),Tr K Z' X d v->Tr K (Z++Z') X (shD Z.length d) v
 | .non,_,h| .bl _,_,h| .int _,_,h| .str _,_,h| .adr _,_,h| .ty _,_,h=>by unfold shD;unfold Tr at h⊢;exact h
 | .cell n,v,h=>by
  unfold shD;unfold Tr at h⊢;obtain⟨a,h1,h2⟩:=h;exact{a,by rw[Ql (Rq _ _),RC];exact h1,h2}
 | .tup ds,v,h=>by unfold shD;unfold Tr at h⊢;obtain⟨a,vs,h1,h2,h3⟩:=h;exact{a,vs,h1,h2,Trs.sh ds _ h3}
 | .lst ds,v,h=>by unfold shD;unfold Tr at h⊢;obtain⟨a,vs,h1,h2,h3⟩:=h;exact{a,vs,h1,h2,Trs.sh ds _ h3}
 | .sqt ds,v,h=>by unfold shD;unfold Tr at h⊢;obtain⟨a,vs,h1,h2,h3⟩:=h;exact{a,vs,h1,h2,Trs.sh ds _ h3}
 | .sql ds,v,h=>by unfold shD;unfold Tr at h⊢;obtain⟨a,vs,h1,h2,h3⟩:=h;exact{a,vs,h1,h2,Trs.sh ds _ h3}
 | .dic ks ds,v,h=>by unfold shD;unfold Tr at h⊢;obtain⟨a,vs,h1,h2,h4,h3⟩:=h;exact{a,vs,h1,h2,h4,Trs.sh ds _ h3}
 | .dtt ks ds,v,h=>by unfold shD;unfold Tr at h⊢;obtain⟨a,vs,h1,h2,h4,h3⟩:=h;exact{a,vs,h1,h2,h4,Trs.sh ds _ h3}
 | .obj C fn ds,v,h=>by unfold shD;unfold Tr at h⊢;obtain⟨a,dx,vs,h1,h2,h4,h3⟩:=h;exact{a,dx,vs,h1,h2,h4,Trs.sh ds _ h3}
theorem Trs.sh:∀(ds:List D)(vs:List V),Trs K Z' X ds vs->Trs K (Z++Z') X (fQ Z.length ds) vs
 | [],_,h=>by unfold fQ;unfold Trs at h⊢;exact h
 |d::ds,vs,h=>by
  unfold fQ;unfold Trs at h⊢;obtain⟨v,r,h1,h2,h3⟩:=h;exact{v,r,h1,Tr.sh d _ h2,Trs.sh ds _ h3}
end
theorem OR.sh(h:OR K Z' X H a o):OR K (Z++Z') X H a (shO Z.length o):=by
 cases o with
 |lst ds=>obtain⟨vs,h1,h2⟩:=h;exact{vs,h1,Trs.sh _ _ h2}
 |dic ks ds=>obtain⟨vs,h1,h3,h2⟩:=h;exact{vs,h1,h3,Trs.sh _ _ h2}
 |dtt ks ds=>obtain⟨vs,h1,h3,h2⟩:=h;exact{vs,h1,h3,Trs.sh _ _ h2}
 |obj C fn ds=>obtain⟨dx,vs,h1,h3,h2⟩:=h;exact{dx,vs,h1,h3,Trs.sh _ _ h2}
 |gone=>trivial
end
section
variable{K:Uw}{G:Ent}{Z Z':List Uu}{X X' H H':Hp}{M J:MS}
theorem RS.join(R:RS K G Z X H M)(R':RS K ⟨X,H⟩ Z' X' H' J)(ng:J.all (λo=>!sY o)=true):RS K G (Z++Z') X' H' (M++J.map (shO M.length)):=by
 have ngo:∀(n:Nat)(a:Uu),Z'[n]?=Zh a->∃o,J[n]?=Zh o/\o≠ .gone:=λn a e=>by
  have hn:n<J.length:=by rw[<-R'.len];exact(Qh.mp e).1
  refine{J[n],Qe hn,λz=>?_};have:=QM.mp ng J[n] (Ri hn);rw[z]at this;cases this
 have lf:∀(n:Nat)(a:Uu),(Z++Z')[n]?=Zh a->(n<Z.length/\Z[n]?=Zh a)\/(Z.length<=n/\Z'[n-Z.length]?=Zh a):=λn a e=>by
  by_cases h:n<Z.length
  ·rw[Qp h]at e;exact .inl ⟨h,e⟩
  rw[Ql (by lia)]at e;exact .inr ⟨by lia,e⟩
 have up:∀(n:Nat)(a:Uu),Z[n]?=Zh a->H' a≠Zi:=λn a e=>by
  have:=R.live n a e;cases q:H a with
  |none=>exact absurd q this
  |some o=>rw[R'.y _ _ q];intro z;cases z
 refine{R'.same,R.x0.trans R'.x0,R.y.trans R'.y,λa h=>?_,by rw[Qj,Qj,P8,R.len,R'.len],λn a e=>?_,λm n a e f=>?_,λn a o e f g=>?_}
 ·rcases R'.nw a h with z|z
  ·exact R.nw a z
  refine .inr ?_;cases q:G.Y a with
  |none=>rfl
  |some o=>
   have z:H a=Zi:=z;rw[R.y _ _ q]at z;cases z
 ·rcases lf n a e with⟨_,z⟩|⟨_,z⟩
  ·exact up n a z
  exact R'.live _ a z
 ·have cross:∀(i j:Nat),Z[i]?=Zh a->Z'[j]?=Zh a->False:=λi j x y=>by
   obtain⟨o,ho,hg⟩:=ngo j a y;exact R.live i a x (R'.ob j a o y ho hg).2.1
  rcases lf m a e with⟨h1,z⟩|⟨h1,z⟩<;>rcases lf n a f with⟨h2,y⟩|⟨h2,y⟩
  ·exact R.nd m n a z y
  ·exact(cross _ _ z y).elim
  ·exact(cross _ _ y z).elim
  have:=R'.nd _ _ a z y;lia
 rcases lf n a e with⟨h1,z⟩|⟨h1,z⟩
 ·rw[Qp (by rw[<-R.len];exact h1)]at f;obtain⟨x,y,r⟩:=R.ob n a o z f g;refine{?_,y,r.mono (Pre.app _ _) R'.x0 λo q=>R'.y _ _ q};cases q:X' a with
  |none=>rfl
  |some o'=>
   rcases R'.nw a (by rw[q];intro z;cases z)with u|u
   ·exact absurd x u
   exact absurd u (R.live n a z)
 rw[Ql (by rw[<-R.len];exact h1),<-R.len,Qu]at f;cases q:J[n-Z.length]? with
 |none=>rw[q]at f;cases f
 |some o'=>
  rw[q]at f;cases f;have g':o'≠ .gone:=λz=>g (by rw[z];rfl);obtain⟨x,y,r⟩:=R'.ob _ a o' z q g';refine{x,?_,r.sh};cases q:G.Y a with
  |none=>rfl
  |some o=>
   have y:H a=Zi:=y;rw[R.y _ _ q]at y;cases y
def shF(F:List D->MS->Option (D×MS)):List D->MS->Option (D×MS):=λds M=>if bD ds=true then(F ds []).bind λp=>if p.2.all (λo=>!sY o)=true then Zh (shD M.length p.1,M++p.2.map (shO M.length))else Zi else Zi
theorem NV(q:spI K (shF F) vs H Q E):spI K F vs H Q E:=by
 obtain⟨G,Z,X,M,ds,d,M',e,R,t,k⟩:=q;unfold shF at e;split at e
 case isFalse=>cases e
 rename_i hp;obtain⟨⟨d0,J⟩,e1,e⟩:=bnd e;dsimp only at e;split at e
 case isFalse=>cases e
 rename_i hg;cases e;refine{⟨X,H⟩,[],X,[],ds,d0,J,e1,RS.entry R.same,Trs.pure _ _ hp t,λZ' X' H' v pp ss R' t'=>?_};rw[<-R.len]at k;refine k (Z++Z') X' H' v (Pre.app _ _) ss ?_ (Tr.sh _ _ t');have:=R.join R' hg;rw[<-R.len]at this;exact this
end
section
variable{P:Program}{w:UC}{K:Uw}{mg:Str->Option Ut}{base:UT}
theorem OL(D:Has P w K mg base k x ps (spI K F)):Has P w K mg base k x ps (spI K (shF F)):=D.imp λ_ _ _ _ q=>NV q
end
theorem AJ(hp:bD ds=true)(h:F ds []=Zh (d,J))(hg:J.all (λo=>!sY o)=true):shF F ds M=Zh (shD M.length d,M++J.map (shO M.length)):=by
 unfold shF;rw[if_pos hp,h];exact if_pos hg
def mh(g:RG)(rx:RX)(n:Nat)(B:SD):List D->MS->Option MS
 | [],M=>Zh M
 |d::ds,M=>(g d B).bind λB'=>(rx B' M).bind λp=>match p.2[n]? with
  |some (.lst ys)=>if ys.length<sizeLine then mh g rx n B ds (p.2.set n (.lst (ys++[p.1])))else Zi
  |_=>Zi
def Ha(it:RI)(own:Nat)(fr:List Nat)(g:RG)(rx:RX):RX:=λB M=>(it B M).bind λds=>(mh g rx M.length (aW own fr B) ds (M++[.lst []])).bind λM'=>match M'[M.length]? with
 |some (.lst ys)=>Zh (.lst ys,M'.set M.length .gone)
 |_=>Zi
theorem Jh(hi:VI K wi false ri)(hg:∀b,VG K (g b) gd)(hq:∀b,VT K (tf b) eW)(he:∀b,VX K (te b) rx)(ok:GOk own gd):VX K (yD wi own fr g tf te) (Ha ri own fr gd rx):=λG B M d Mf Z Xh H U Q e R S k=>by
 obtain⟨ds,e1,e⟩:=bnd e;obtain⟨Me,e2,e⟩:=bnd e;split at e
 case h_2=>cases e
 rename_i yf hMe;cases e;refine hi G B M ds Z Xh H U _ e1 R S λJ X1 H1 s1 R1 IO=>⟨λb P hP=>?_⟩;have o1:=R1.fresh hP;have Rc:RS K G (Z++[P]) X1 (upd H1 P (.lst [])) (M++[.lst []]):=(R1.off o1 (.lst [])).cell o1 (by intro z;cases z) {[],bI,Trs.nil};have hn:(Z++[P])[M.length]?=Zh P:=by rw[<-R.len,Ql (Qf _),QU];rfl
 have S0:=((S.same s1).mono (Pre.app Z [P]) (br.refl _)).comp own fr;generalize hσ:aW own fr B=σ0 at e2 S0;have nn:∀i:Nat,i<own->∀d,σ0[i]?≠Zh (Zh d):=λi h d z=>by
  rw[<-hσ]at z;unfold aW at z;rw[Qp (by simpa using h),Q7,if_pos h]at z;cases z
 have at2:∀(ρ2:List Uu)(X2 H2:Hp)(M2:MS)(es:List D),Pre (Z++[P]) ρ2->RS K G ρ2 X2 H2 M2->M2[M.length]?=Zh (.lst es)->∃vs,H2 P=Zh (.lst vs)/\Trs K ρ2 X2 es vs:=λρ2 X2 H2 M2 es p R2 hM=>by
  obtain⟨a',ha',e,_,_,vs,hv,tv⟩:=cu (v:=.ref P) R2 (by unfold Tr;exact{P,p _ _ hn,rfl}) hM (by intro z;cases z);cases e;exact⟨vs,hv,tv⟩
 refine{λi m U' H'=>∃(Z':List Uu)(X':Hp)(M':MS),i+m=ds.length/\Pre (Z++[P]) Z'/\br X1 X'/\RS K G Z' X' H' M'/\SR K Z' X' σ0 U'/\mh gd rx M.length σ0 (ds.drop i) M'=Zh Me,{ds.length,Z++[P],X1,M++[Ob.lst []],Sv _,Pre.refl _,br.refl _,Rc,S0,e2},?_};rintro i m U' H' ⟨ρ2,X2,M2,hm,p2,s2,R2,S2,ec⟩;have pr:Pre Z ρ2:=(Pre.app Z [P]).trans p2;by_cases hi:i<ds.length
 ·obtain⟨d,hd⟩:∃d,ds[i]?=Zh d:={ds[i],Qe hi};obtain⟨hgo,hyl⟩:=IO.go G ρ2 X2 H' M2 i d pr s2 R2 (λz=>by cases z) hd;refine .inr {hgo,λτ3 H3=>∃(Z':List Uu)(X':Hp)(M':MS),Pre (Z++[P]) Z'/\br X1 X'/\RS K G Z' X' H3 M'/\SR K Z' X' σ0 τ3/\mh gd rx M.length σ0 (ds.drop (i+1)) M'=Zh Me,λτ3 H3 ⟨Z',X',M',h⟩=>{m-1,by lia,Z',X',M',by lia,h},λx H2 hy=>?_};obtain⟨X3,s3,R3,t3⟩:=hyl x H2 hy;rw[Q2 hi]at ec;have hd':ds[i]=d:=by rw[Qe hi]at hd;exact UE hd
  rw[hd']at ec;unfold mh at ec;obtain⟨σ1,c1,ec⟩:=bnd ec;obtain⟨⟨y,M5⟩,c3,ec⟩:=bnd ec;dsimp only at ec;split at ec
  case h_2=>cases ec
  rename_i ys hM5;split at ec
  case isFalse=>cases ec
  rename_i hlt;obtain⟨ll,hb⟩:=ok _ _ _ c1;refine hg b σ0 σ1 d ρ2 X3 H2 U' x _ c1 R3.same (S2.same s3) t3 λτ3 S3=>hq b _ σ1 M2 true ρ2 X3 H2 τ3 _ rfl R3 S3 λX4 H4 s4 R4=>he b G σ1 M2 y M5 ρ2 X4 H4 τ3 _ c3 R4 (S3.same s4) λρ5 X5 H5 v p5 s5 R5 t5=>?_;obtain⟨vs,hv,tv⟩:=at2 ρ5 X5 H5 M5 ys (p2.trans p5) R5 hM5;refine{vs,hv,by rw[tv.len];exact hlt,ρ5,X5,M5.set M.length (.lst (ys++[y])),p2.trans p5,s2.trans (s3.trans (s4.trans s5)),R5.put ((p2.trans p5) _ _ hn) hM5 (by intro z;cases z) {_,bI,tv.app (Trs.cons t5 Trs.nil)},SR.back ((S3.same s4).mono p5 s5) ll hb nn,ec}
 refine .inl {IO.stop G ρ2 X2 H' M2 i pr s2 R2 (λz=>by cases z) (by lia),?_};rw[Ru (by lia)]at ec;cases ec;obtain⟨vs,hv,tv⟩:=at2 ρ2 X2 H' _ yf p2 R2 hMe;obtain⟨R6,s6⟩:=R2.gone (p2 _ _ hn) hMe (by intro z;cases z) hv;refine k ρ2 _ H' _ pr ((s1.trans s2).trans s6) R6 ?_;unfold Tr;exact⟨P,vs,rfl,bI,tv.same s6⟩
section
variable{X:Cx}{N:List Str}{own:Nat}{fr:List Nat}{scope:Wu}{tg iter elt:Expr}{ri:RI}{gd:RG}{rx:RX}{pos:Pos}
theorem Jc(i:Nat)(v:VX K te rx):VS K (Ds te (vA i)) (yr i rx):=λG B M o Z Xh H U E h R S k=>by
 obtain⟨⟨d,M'⟩,e1,h⟩:=bnd h;cases h;exact v G B M d M' Z Xh H U _ e1 R S λZ' X1 H1 x p1 s1 R1 t1=>k Z' X1 H1 _ p1 s1 R1 ((S.mono p1 s1).set i t1)
theorem LP(j:Nat)(S:cv X.env.scope X.N N own fr scope)(hN:X.N.Nodup)(hi:QI X tg iter false ri)(hg:∀b,QG (cxC X N scope b) tg gd)(hf:∀b,QF (cxC X N scope b) [] eW)(he:∀b,QX (cxC X N scope b) elt rx)(ok:GOk own gd)
  (hj:X.N[j]?=Zh y:=by rfl) (hy:Loc X.env.scope y:=by trivial) (hc:X.calm=true:=by rfl) (hfn:X.fn y=true\/X.env.scope.names.lookup y=Zh .local:=by trivial) (hs:∀x,foldedSetIterable iter X.env x=pure x:=by intro _;rfl) (hsw:Vh (.ListComp elt [{tg,iter,[],0}] scope pos) (Zh (.Name y py)) spos.line X.env=pure true:=by rfl):QS X (.Assign [.Name y py] (.ListComp elt [{tg,iter,[],0}] scope pos) spos) (yr j (Ha ri own fr gd rx)):=by
 obtain⟨wi,pi,vi⟩:=hi
 exact{_,tK S hc hN hj hy pi (λb=>(hg b).choose_spec.1) (λb=>(hf b).choose_spec.1) (λb=>(he b).choose_spec.1) hfn hs hsw,Jc j (Jh vi (λb=>(hg b).choose_spec.2) (λb=>(hf b).choose_spec.2) (λb=>(he b).choose_spec.2) ok)}
end
section
variable{X:Cx}{e:Expr}{es:List Expr}{rs:RXA}{pos:Pos}
noncomputable def NG(rs:RXA):RX:=λB M=>(rs B M).bind λp=>if p.1.length<=sizeLine then Zh (.tup p.1,p.2)else Zi
theorem OS(h:QXA X es rs):QX X (.Tuple es x1 pos) (NG rs):=by
 obtain⟨t,p,v⟩:=h;refine{_,E7 p,λG B M d M' Z Xh H U Q e R S k=>?_};obtain⟨⟨xs,M1⟩,e1,e⟩:=bnd e;dsimp only at e;split at e
 case isFalse=>cases e
 rename_i z;cases e;refine v G B M xs _ Z Xh H U _ e1 R S λρ1 X1 H1 ys p1 s1 R1 t1=>{by rw[t1.len];exact z,λl hl=>?_};obtain⟨R2,s2,e3⟩:=R1.alc hl (.tup ys);exact k ρ1 _ _ _ p1 (s1.trans s2) R2 (by unfold Tr;exact{l,_,rfl,e3,t1.same s2})
abbrev RXP:=SD->MS->Option (List (Key×D)×MS)
def VXP(K:Uw)(trs:List (TE×TE))(r:RXP):Prop:=∀(G:Ent)(B:SD)(M:MS)(kds:List (Key×D))(M':MS)(Z:List Uu)(X H:Hp)(U:St)(Q:List (V×V)->Hp->Prop),r B M=Zh (kds,M')->RS K G Z X H M->SR K Z X B U->(∀Z' X' H' vs,Pre Z Z'->br X X'->RS K G Z' X' H' M'->Trs K Z' X' (kds.map (·.2)) vs->vs.length=kds.length->Q ((kds.map λp=>kV p.1).zip vs) H')->wt trs U H Q
def QXP(X:Cx)(pos:Pos)(ks:List (Option Expr))(vs:List Expr)(r:RXP):Prop:=∃trs,PPs X pos ks vs trs/\VXP X.K trs r
noncomputable def OG:RXP:=λ_ M=>Zh ([],M)
noncomputable def Ly(x:Str)(rx:RX)(rs:RXP):RXP:=λB M=>(rx B M).bind λp=>(rs B p.2).bind λq=>Zh ((.inr x,p.1)::q.1,q.2)
theorem Lo:QXP X pos [] [] OG:={_,HL,λG B M kds M' Z Xh H U Q e R S q=>by cases e;exact q Z Xh H [] (Pre.refl _) (br.refl _) R Trs.nil rfl}
theorem lK{x:Str}{j:Nat}{p:Pos}{ks:List (Option Expr)}{vs:List Expr}{rx:RX}{rs:RXP}(h:QX X e rx)(hr:QXP X pos ks vs rs):QXP X pos (Zh (.Constant (.str x) j p)::ks) (e::vs) (Ly x rx rs):=by
 obtain⟨t,pe,v⟩:=h;obtain⟨ts,pr,vr⟩:=hr;refine{_,E5 DY pe pr,λG B M kds M' Z Xh H U Q e R S q=>?_};obtain⟨⟨d,M1⟩,e1,e⟩:=bnd e;obtain⟨⟨kd2,M2⟩,e2,e⟩:=bnd e;cases e;refine v G B M d M1 Z Xh H U _ e1 R S λρ1 X1 H1 y p1 s1 R1 t1=>vr G B M1 kd2 _ ρ1 X1 H1 U _ e2 R1 (S.mono p1 s1) λρ2 X2 H2 us p2 s2 R2 t2 hl=>q ρ2 X2 H2 (y::us) (p1.trans p2) (s1.trans s2) R2 ?_ (by rw[Qd,Qd,hl]);show Trs _ _ _ (d::kd2.map (·.2)) _;exact Trs.cons (Tr.mono p2 s2 _ _ t1) t2
noncomputable def OW(rs:RXP):RX:=λB M=>(rs B (M++[.dic [] []])).bind λp=>match p.2[M.length]? with
 |some (.dic [] [])=>if(p.1.map (·.1)).Nodup/\p.1.length<=15 then Zh (.cell M.length,p.2.set M.length (.dic (p.1.map (·.1)) (p.1.map (·.2))))else Zi
 |_=>Zi
theorem v8:∀(kvs acc:List (Key×V)),((acc++kvs).map (·.1)).Nodup->nj acc kvs=acc++kvs
 | [],acc,_=>by rw[Qo];rfl
 |p::r,acc,h=>by
  show nj (Zz acc p.1 p.2) r=_;have hp:Zz acc p.1 p.2=acc++[p]:=by
   unfold Zz;rw[if_neg];intro z;obtain⟨q,hq,e⟩:=Sg.mp z;have e:=of_decide_eq_true e;rw[Qz,Q8]at h;exact h.2.2 q.1 (Qr.mpr ⟨q,hq,rfl⟩) p.1 (by simp) e
  rw[hp,v8 r (acc++[p]) (by rw[QC];exact h),QC];rfl
theorem Og{k:Option Expr}{ks:List (Option Expr)}{vs:List Expr}{rs:RXP}(h:QXP X pos (k::ks) vs rs)(hall:(k::ks).all (·.isSome)=true:=by rfl)(hl:(k::ks).length=vs.length:=by rfl)(h15:(k::ks).length<=15:=by decide):QX X (.Dict (k::ks) vs pos) (OW rs):=by
 obtain⟨ts,p,v⟩:=h;refine{_,Hu p hall hl (by intro z;cases z) h15,λG B M d M' Z Xh H U Q e R S q=>?_};obtain⟨⟨kds,M1⟩,e1,e⟩:=bnd e;dsimp only at e;split at e
 case h_2=>cases e
 rename_i hM1;split at e
 case isFalse=>cases e
 rename_i hnd;cases e;intro a ha;have o1:=R.fresh ha;have Rc:RS X.K G (Z++[a]) Xh (upd H a (.dK [])) (M++[.dic [] []]):=(R.off o1 (.dK [])).cell o1 (by intro z;cases z) {[],bI,rfl,Trs.nil};have hn:(Z++[a])[M.length]?=Zh a:=by rw[<-R.len,Ql (Qf _),QU];rfl
 refine v G B _ kds M1 (Z++[a]) Xh _ U _ e1 Rc (S.mono (Pre.app _ _) (br.refl _)) λρ2 X2 H2 us p2 s2 R2 t2 hl2=>?_;obtain⟨a',ha',e',_,_,kvs0,hv,hk,tv⟩:=cu (v:=.ref a) R2 (by unfold Tr;exact{a,p2 _ _ hn,rfl}) hM1 (by intro z;cases z);cases e';have:kvs0=[]:=by
  cases kvs0 with
  |nil=>rfl
  |cons x y=>cases hk
 subst this;have z1:((kds.map (·.1)).zip us).map (·.1)=kds.map (·.1):=List.map_fst_zip (by rw[P8,hl2];exact Qf _);have z2:((kds.map (·.1)).zip us).map (·.2)=us:=List.map_snd_zip (by rw[P8,hl2];exact Qf _);refine{hv,(kds.map (·.1)).zip us,?_,?_,?_}
 ·have:(kds.map λp=>kV p.1)=(kds.map (·.1)).map kV:=by rw[QH];rfl
  rw[this,List.zip_map_left];rfl
 ·rw[List.length_zip,P8,hl2];lia
 rw[v8 _ [] (by rw[RD,z1];exact hnd.1),RD];refine q ρ2 X2 _ _ ((Pre.app _ _).trans p2) s2 (R2.put (p2 _ _ hn) hM1 (by intro z;cases z) {_,bI,z1,by rw[z2];exact t2}) ?_;unfold Tr;exact{a,p2 _ _ hn,rfl}
theorem Oc:dE X (.builtin "isinstance") (λxs H Q=>∃(x:V)(p:Uu)(cs:List V)(t:Ut)(b:Bool),xs=[x,.ref p]/\H p=Zh (.tup cs)/\(∀c∈cs,pv c≠ .none)/\kN X.K H x t/\Y6 X.K t (cs.map pv)=Zh b/\Q (.bl b) H):=by
 intro pins s B H xs us Q I r h;obtain⟨x,p,cs,t,b,rfl,hp,hcs,ty,e,q⟩:=h;obtain⟨u,w',rfl,rx,ry⟩:=ZU r;cases ry;obtain⟨_,its,rv,o,ho,hc,n,hd⟩:=I.hok p _ hp;have ei:=Cw rv hcs;subst ei;obtain⟨cls,dd,data,sl⟩:=o;simp only at hc hd;subst hc hd;have fin:∀tk,EP X pins B Q (.bool b) { s with toks:=tk }:=λtk=>⟨.bl b,H,I.tok _,rfl,q⟩;cases ty with
 |non=>cases (show u=Xf from rx);exact VZ W.kitx_none I.kIn QL ho e (λz=>nomatch z) fin
 |bl y=>cases (show u=Xg y from rx);exact VZ W.kitx_bool I.kIn QL ho e (λz=>nomatch z) fin
 |int i=>obtain⟨t,q⟩:=(show ∃t,u=W7 i t from rx);cases q;exact VZ W.kitx_int I.kIn QL ho e (λz=>nomatch z) fin
 |str y=>obtain⟨t,q⟩:=(show ∃t,u=Wm y t from rx);cases q;exact VZ W.kitx_str I.kIn QL ho e (λz=>nomatch z) fin
 |flt y=>obtain⟨t,q⟩:=(show ∃t,u=Xv y t from rx);cases q;exact VZ W.kitx_float I.kIn QL ho e (λz=>nomatch z) fin
 |@lst a xs ea=>
  cases (show u=UB a from rx);obtain⟨_,_,n,_,h1⟩:=(show cS X.prog X.w H s.heap a (.lst xs)from I.hok a _ ea);exact VZ Xx I.kIn {_,h1,rfl} ho e (λz=>nomatch z) fin
 |@frz a ob xs ea=>
  cases (show u=UB a from rx);obtain⟨_,_,_,n,_,h1⟩:=(show cS X.prog X.w H s.heap a (.frz ob (.lst xs))from I.hok a _ ea);exact VZ Xx I.kIn {_,h1,rfl} ho e (λz=>nomatch z) fin
 |@tup a xs ea=>
  cases (show u=UB a from rx);obtain⟨_,_,_,p⟩:=(show cS X.prog X.w H s.heap a (.tup xs)from I.hok a _ ea);obtain⟨o,h1,h2,_⟩:=p;exact VZ W.kitx_tuple I.kIn ⟨o,h1,h2⟩ ho e (λz=>nomatch z) fin
 |@dK a kvs ea=>
  cases (show u=UB a from rx);obtain⟨_,_,vs,_,p⟩:=(show cS X.prog X.w H s.heap a (.dK kvs)from I.hok a _ ea);obtain⟨o,es,ep,h1,h2,_⟩:=p;exact VZ Xy I.kIn ⟨o,h1,h2.1⟩ ho e (λz=>nomatch z) fin
 |@dT a kvs ea=>
  cases (show u=UB a from rx);obtain⟨_,_,xs,_,o,es,ep,h1,h2,_⟩:=(show cS X.prog X.w H s.heap a (.dT kvs)from I.hok a _ ea);exact VZ Xy I.kIn ⟨o,h1,h2.1⟩ ho e (λz=>nomatch z) fin
 |@ins a C dx fs ea cl ha hn htk hm=>
  cases (show u=UB a from rx);obtain⟨mA,O,_⟩:=oI I.hok ea;obtain⟨od,J,_⟩:=O.look;exact VZ (W.kitx_own (cl.get _) cl.hd ha hn htk hm) I.kIn J ho e (λz=>nomatch z) fin
noncomputable def pF(tab:Sum String Uu->D->Option Bool)(t:Sum String Uu):List D->Option Bool
 | []=>Zh false
 |c::r=>match c with
  | .ty n=>(tab t (.ty n)).bind λb=>if b=true then Zh true else pF tab t r
  |_=>Zi
noncomputable def zl:List D->Bool
 | []=>true
 | .ty _::r=>zl r
 |_=>false
def DK(tab:Sum String Uu->D->Option Bool):MS->List D->Option D:=λM ds=>match ds with
 | [d,.tup cs]=>if zl cs=true then(tyD M d).bind λt=>match t with
  | .inl s=>(pF tab (.inl s) cs).bind λb=>Zh (.bl b)
  |_=>Zi
  else Zi
 |_=>Zi
theorem JU:∀{ds:List D}{vs:List V},zl ds=true->Trs K Z Xh ds vs->∀c∈vs,pv c≠ .none
 | [],vs,e,h=>by unfold Trs at h;subst h;exact λc hc=>by cases hc
 |d::ds,vs,e,h=>by
  unfold Trs at h;obtain⟨v,r,rfl,h1,h2⟩:=h;cases d with
  |ty n=>
   unfold Tr at h1;subst h1;intro c hc;rcases P7.mp hc with rfl|hc
   ·intro z;cases z
   exact JU (ds:=ds) e h2 c hc
  |_=>cases e
theorem G4(I:yF K cs tab):∀{ds:List D}{vs:List V}{b:Bool},pF tab t ds=Zh b->Trs K Z Xh ds vs->Y6 K (tO t) (vs.map pv)=Zh b
 | [],vs,b,e,h=>by unfold Trs at h;subst h;cases e;rfl
 |d::ds,vs,b,e,h=>by
  unfold Trs at h;obtain⟨v,r,rfl,h1,h2⟩:=h;unfold pF at e;split at e
  case h_2=>cases e
  rename_i n;obtain⟨b1,e1,e⟩:=bnd e;unfold Tr at h1;subst h1;have ho:Wh K (tO t) (.type n)=Zh b1:=by
   obtain⟨_,h3⟩:=I.ans _ _ _ e1;rcases h3 with⟨m,h4,h5⟩|⟨E,h4,_⟩
   ·cases h4;exact h5
   cases h4
  show(match Wh K (tO t) (.type n)with|some true=>Zh true|some false=>Y6 K (tO t) (r.map pv)|none=>Zi)=_;rw[ho];cases b1 with
  |true=>exact e
  |false=>exact G4 I e h2
theorem N8(I:yF K cs tab):g8 K (λxs H Q=>∃(x:V)(p:Uu)(cs:List V)(t:Ut)(b:Bool),xs=[x,.ref p]/\H p=Zh (.tup cs)/\(∀c∈cs,pv c≠ .none)/\kN K H x t/\Y6 K t (cs.map pv)=Zh b/\Q (.bl b) H) (DK tab):=λG M ds d Z Xh H vs Q e R t k=>by
 unfold DK at e;split at e
 case h_2=>cases e
 split at e
 case isFalse=>cases e
 rename_i hty;obtain⟨tt,e1,e⟩:=bnd e;split at e
 case h_2=>cases e
 obtain⟨bb,e2,e⟩:=bnd e;cases e;obtain⟨w,w',rfl,t1,t2⟩:=N4 t;unfold Tr at t2;obtain⟨a,vs,rfl,h1,h2⟩:=t2;exact{w,a,vs,_,bb,rfl,R.same _ _ h1,JU hty h2,JM I R t1 e1 (λC z=>by cases z),G4 I e2 h2,k Xh H _ (br.refl _) R (by unfold Tr;rfl)}
def xy(M:MS)(d:D):Bool:=(listOf M d).isSome
theorem KU:VTy K "list" xy:=λG M o Z Xh H x e R t=>by
 unfold xy at e;obtain⟨ds,e⟩:=Q4.mp e;obtain⟨a,vs,rfl,h1,h2⟩:=eY e R t;exact .inl ⟨rfl,vs,h1⟩
def Ja(M:MS)(o:D)(es:List D):Option D:=match es with
 | [.str y]=>(listOf M o).bind λxs=>(jI xs).bind λss=>if ss.length<=1000 then(ss.findIdx? λz=>decide (z=y)).bind λj=>Zh (.int (j:Nat))else Zi
 |_=>Zi
theorem LJ:Bw K "list" (BD K) Ja:=λG M o ds d Z Xh H x vs Q e R t ts k=>by
 unfold Ja at e;split at e
 case h_2=>cases e
 rename_i y;obtain⟨xs,e1,e⟩:=bnd e;obtain⟨ss,e2,e⟩:=bnd e;split at e
 case isFalse=>cases e
 rename_i hl;obtain⟨j,e3,e⟩:=bnd e;cases e;obtain⟨a,us,rfl,h1,h2⟩:=eY e1 R t;have h3:=Cz h2 e2;subst h3;obtain⟨v,rfl,tv⟩:=j3 ts;unfold Tr at tv;subst tv;refine{a,ss.map V.str,.str y,j,rfl,rfl,h1,by rw[P8];exact hl,rfl,by simp[fB],?_,k Xh H _ (br.refl _) R (by unfold Tr;rfl)};rw[Yl,<-e3];have:((λa=>eqV a (.str y))∘V.str)=λz=>decide (z=y):=by
  funext z
  show eqV (.str z) (.str y)=decide (z=y);by_cases h:z=y
  ·subst h;simp[eqV]
  rw[decide_eq_false h];simp[eqV,h]
 rw[this]
theorem Je{o e:Expr}{apos cpos:Pos}{ro:RE}{rs:RA}(ho:QE X o ro)(ha:QA X [e] rs)
  (hbase:UR o "index" X.env (UO o X.env)=UO o X.env:=by rfl)
  (hfew:((UM cpos (Uv [e] X.env)).all (λx=>!x.1)&&(UW cpos (UN [] X.env)).all (λx=>x.1.isSome)
   &&decide (([e]:List Expr).length+([]:List U0).length+(if([]:List U0).isEmpty then 0 else 1)<30))=true:=by rfl)
  (hline:(apos.endLine==cpos.line)=true:=by rfl) (hs:Uv [e] X.env=(false,UO e X.env)::Uv [] X.env:=by rfl) (hplain:(UM cpos (Uv [] X.env)).any (·.1)=false:=by rfl) :
  QE X (.Call (.Attribute o "index" apos) [e] [] cpos) (g7 xy Ja ro rs):=qbm VH Xc PySem.F.type_list_index Dx KU LJ ho ha hbase hfew hline hs hplain
noncomputable def D0:MS->List D->Option D:=λ_ ds=>match ds with
 | [.bl b]=>Zh (.int (if b=true then 1 else 0))
 |_=>Zi
theorem KZ:g8 K (λxs H Q=>∃b,xs=[.bl b]/\Q (.int (if b=true then 1 else 0)) H) D0:=λG M ds d Z Xh H vs Q e R t k=>by
 unfold D0 at e;split at e
 ·cases e;obtain⟨v,rfl,t2⟩:=j3 t;unfold Tr at t2;subst t2;exact{_,rfl,k Xh H _ (br.refl _) R (by unfold Tr;rfl)}
 cases e
end
end L2
namespace K14
open PySem L2
local macro_rules|`(tactic|dsimp! at $h*)=>`(tactic|simp only[P7,P9,or_false]at $h*)
local macro_rules|`($a^sr)=>`(om $a sr)
local macro_rules|`($a^$b^$c)=>`(om $a ($b^$c))
local macro_rules|`(())=>`(by first|lia|omega)
local macro_rules|`(∅)=>`(by decide)
theorem scM{N P:List Str}{sc:Wu}(k:sc.kind=.function:=by rfl)(c:sc.isCoroutine=false:=by rfl)(g:sc.isGenerator=false:=by rfl)(n:N.Nodup:=by decide+kernel)(p:N.take P.length=P:=by rfl)(q:∀x∈P,sc.names.lookup x=Zh .local\/sc.names.lookup x=Zh .cell:=by decide+kernel)(f:∀y∈sc.names,y.2≠ .free:=by decide+kernel):bc N P sc:=⟨k,c,g,n,p,q,f⟩
abbrev kJ:UP:=top 10
theorem wI:bc ["word"] ["word"] (aL kJ):=scM
abbrev pI:UP:=top 17
theorem A4:bc ["word","signs","most"] ["word","signs","most"] (aL pI):=scM
abbrev pd:UP:=top 18
theorem AW:bc ["word"] ["word"] (aL pd):=scM
abbrev kE:UP:=top 19
theorem wm:bc ["word"] ["word"] (aL kE):=scM
abbrev nq:UP:=top 20
theorem zy:bc ["word"] ["word"] (aL nq):=scM
abbrev nH:UP:=top 21
theorem yV:bc ["words"] ["words"] (aL nH):=scM
abbrev gH:UP:=top 22
theorem jT:bc ["word","thing"] ["word"] (aL gH):=scM
abbrev e7:UP:=top 23
theorem eL:bc ["ahead","between","behind","one","other"] ["ahead","between","behind"] (aL e7):=scM
abbrev pZ:UP:=top 41
theorem AQ:bc ["rows","known"] ["rows","known"] (aL pZ):=scM
abbrev hZ:UP:=top 42
theorem r9:bc ["row","known","one","other"] ["row","known"] (aL hZ):=scM
abbrev xV:UP:=top 43
theorem sL:bc ["program","known","deed"] ["program"] (aL xV):=scM
abbrev Ar:UP:=top 44
theorem Hh:bc ["program"] ["program"] (aL Ar):=scM
abbrev wk:UP:=top 49
theorem EI:bc ["parts"] ["parts"] (aL wk):=scM
abbrev kI:UP:=top 50
theorem wM:bc ["word"] ["word"] (aL kI):=scM
abbrev gx:UP:=top 51
theorem jV:bc ["word","most","number"] ["word","most"] (aL gx):=scM
abbrev jy:UP:=top 52
theorem uB:bc ["words"] ["words"] (aL jy):=scM
abbrev iC:UP:=top 53
theorem tE:bc ["words"] ["words"] (aL iC):=scM
abbrev jq:UP:=top 54
theorem mC:bc ["words","size"] ["words"] (aL jq):=scM
abbrev nF:UP:=top 55
theorem zf:bc ["words"] ["words"] (aL nF):=scM
abbrev kj:UP:=top 56
theorem xH:bc ["words"] ["words"] (aL kj):=scM
abbrev ly:UP:=top 57
theorem xn:bc ["words"] ["words"] (aL ly):=scM
abbrev iK:UP:=top 58
theorem sE:bc ["words","parts"] ["words","parts"] (aL iK):=scM
abbrev eu:UP:=top 59
theorem lT:bc ["words"] ["words"] (aL eu):=scM
abbrev mV:UP:=top 60
theorem zT:bc ["words"] ["words"] (aL mV):=scM
abbrev nz:UP:=top 61
theorem yv:bc ["words"] ["words"] (aL nz):=scM
abbrev pq:UP:=top 66
theorem nv:bc ["text","words","taker"] ["text"] (aL pq):=scM
abbrev jw:UP:=top 69
theorem uU:bc ["row"] ["row"] (aL jw):=scM
abbrev iI:UP:=top 70
theorem sA:bc ["things"] ["things"] (aL iI):=scM
abbrev jt:UP:=top 71
theorem uk:bc ["value"] ["value"] (aL jt):=scM
abbrev jm:UP:=top 72
theorem uF:bc ["row"] ["row"] (aL jm):=scM
abbrev kX:UP:=top 80
theorem xF:bc ["number","form"] ["number","form"] (aL kX):=scM
abbrev nE:UP:=top 81
theorem qw:bc ["number","form","word"] ["number","form"] (aL nE):=scM
abbrev iM:UP:=top 84
theorem gw:bc ["program","known","steps"] ["program"] (aL iM):=scM
abbrev AR:UP:=top 85
theorem oE:bc ["rows","reader","number","text","program"] ["rows"] (aL AR):=scM
abbrev iA:UP:=top 87
theorem gq:bc ["_law_script","_law_k","_law_cell"] ["_law_script","_law_k"] (aL iA):=scM
abbrev nI:UP:=top 88
theorem zV:bc ["_law_script","_law_at","_law_many"] ["_law_script","_law_at","_law_many"] (aL nI):=scM
abbrev px:UP:=top 89
theorem gF:bc ["_law_cell","_law_k","_law_digits","_law_ahead","_law_number"] ["_law_cell","_law_k"] (aL px):=scM
abbrev kY:UP:=top 90
theorem cC:bc ["_law_cell","_law_other","_law_many","_law_words","_law_letters","_law_step","_law_found","_law_k","_law_number","_law_word"] ["_law_cell","_law_other","_law_many"] (aL kY):=scM
abbrev nt:UP:=top 91
theorem hW:bc ["_law_number","_law_name","_law_kind","_law_word","_law_size"] ["_law_number","_law_name"] (aL nt):=scM
abbrev kK:UP:=top 92
theorem gf:bc ["_law_heads","_law_parts_here","_law_scope_here","_law_head_here","_law_listed"] ["_law_heads","_law_parts_here"] (aL kK):=scM
abbrev nr:UP:=top 93
theorem yU:bc ["_law_some","_law_number"] ["_law_some","_law_number"] (aL nr):=scM
abbrev kL:UP:=top 94
theorem xX:bc ["_law_number","_law_scope_here"] ["_law_number","_law_scope_here"] (aL kL):=scM
abbrev kZ:UP:=top 95
theorem gi:bc ["_law_cell","_law_scope_here","_law_one","_law_other","_law_number"] ["_law_cell","_law_scope_here"] (aL kZ):=scM
abbrev pX:UP:=top 96
theorem gE:bc ["_law_cell","_law_scope_here","_law_deed","_law_way","_law_value_here","_law_number","_law_things"] ["_law_cell","_law_scope_here","_law_deed"] (aL pX):=scM
abbrev nD:UP:=top 97
theorem qu:bc ["_law_cells","_law_scope_here","_law_deed","_law_some"] ["_law_cells","_law_scope_here","_law_deed"] (aL nD):=scM
abbrev nG:UP:=top 98
theorem lz:bc ["_law_row_here","_law_words","_law_part"] ["_law_row_here"] (aL nG):=scM
abbrev kG:UP:=top 99
theorem xS:bc ["_law_found","_law_due"] ["_law_found","_law_due"] (aL kG):=scM
abbrev kA:UP:=top 100
theorem oh:bc ["_law_found","_law_due","_law_k"] ["_law_found","_law_due"] (aL kA):=scM
abbrev fg:UP:=top 101
theorem oX:bc ["_law_found","_law_due"] ["_law_found","_law_due"] (aL fg):=scM
abbrev fL:UP:=top 102
theorem cY:bc ["_law_row_here","_law_due","_law_rank","_law_size","_law_good"] ["_law_row_here","_law_due"] (aL fL):=scM
abbrev gJ:UP:=top 103
theorem d6:bc ["_law_row_here","_law_due","_law_good"] ["_law_row_here","_law_due"] (aL gJ):=scM
abbrev mW:UP:=top 104
theorem g9:bc ["_law_rows_here","_law_due","_law_number","_law_k","_law_good"] ["_law_rows_here","_law_due","_law_number"] (aL mW):=scM
abbrev mR:UP:=top 105
theorem k8:bc ["_law_program","_law_heads","_law_deed","_law_body","_law_main","_law_found","_law_number"] ["_law_program","_law_heads","_law_deed","_law_body","_law_main"] (aL mR):=scM
abbrev qA:UP:=top 106
theorem dR:bc ["_law_script","_law_cell","_law_many","_law_names_here","_law_heads","_law_parts_here","_law_deed","_law_cut","_law_scope_here","_law_body","_law_after","_law_main","_law_flat","_law_texts","_law_handed","_law_program"] ["_law_script"] (aL qA):=scM
abbrev mX:UP:=Zk (top 25) 0
theorem y9:bc ["self","number"] ["self","number"] (aL mX):=scM
abbrev gQ:UP:=Zk (top 26) 0
theorem rg:bc ["self","number","name","rank"] ["self","number","name","rank"] (aL gQ):=scM
abbrev fK:UP:=Zk (top 27) 0
theorem pA:bc ["self","number","name","rank","size"] ["self","number","name","rank","size"] (aL fK):=scM
abbrev ik:UP:=Zk (top 28) 0
theorem rP:bc ["self","number","name","size"] ["self","number","name","size"] (aL ik):=scM
abbrev iH:UP:=Zk (top 29) 0
theorem tY:bc ["self","number","name","rank"] ["self","number","name","rank"] (aL iH):=scM
abbrev ij:UP:=Zk (top 30) 0
theorem rO:bc ["self","number","name","value"] ["self","number","name","value"] (aL ij):=scM
abbrev iB:UP:=Zk (top 31) 0
theorem tj:bc ["self","number","name","place","value"] ["self","number","name","place","value"] (aL iB):=scM
abbrev gv:UP:=Zk (top 32) 0
theorem qM:bc ["self","number","name","value"] ["self","number","name","value"] (aL gv):=scM
abbrev iw:UP:=Zk (top 33) 0
theorem tS:bc ["self","number","name","value","mark"] ["self","number","name","value","mark"] (aL iw):=scM
abbrev gy:UP:=Zk (top 34) 0
theorem rp:bc ["self","number","name","things"] ["self","number","name","things"] (aL gy):=scM
abbrev gp:UP:=Zk (top 38) 0
theorem qW:bc ["self","number","name","parts","body"] ["self","number","name","parts","body"] (aL gp):=scM
abbrev gL:UP:=Zk (top 39) 0
theorem qN:bc ["self","heads","deeds","main"] ["self","heads","deeds","main"] (aL gL):=scM
abbrev jA:UP:=Zk (top 73) 0
theorem uV:bc ["self"] ["self"] (aL jA):=scM
abbrev iG:UP:=Zk (top 73) 1
theorem dk:bc ["self","row","fresh","name","kind","use"] ["self","row"] (aL iG):=scM
abbrev gz:UP:=Zk (top 73) 2
theorem jS:bc ["self","name","use","kind"] ["self","name","use"] (aL gz):=scM
abbrev jr:UP:=Zk (top 73) 3
theorem ie:bc ["self","row","name","kind"] ["self","row"] (aL jr):=scM
abbrev eZ:UP:=Zk (top 73) 4
theorem oZ:bc ["self"] ["self"] (aL eZ):=scM
abbrev iz:UP:=Zk (top 82) 0
theorem rK:bc ["self","word","row","rows"] ["self","word","row","rows"] (aL iz):=scM
abbrev ir:UP:=Zk (top 83) 0
theorem rT:bc ["self"] ["self"] (aL ir):=scM
abbrev iJ:UP:=Zk (top 83) 1
theorem gn:bc ["self","number","text","form","row"] ["self","number","text"] (aL iJ):=scM
abbrev fV:UP:=Zk (top 83) 2
theorem p9:bc ["self","word"] ["self","word"] (aL fV):=scM
abbrev ez:UP:=Zk (top 83) 3
theorem lS:bc ["self","word"] ["self","word"] (aL ez):=scM
abbrev gu:UP:=Zk (top 83) 4
theorem jM:bc ["self","number","row","name"] ["self","number","row"] (aL gu):=scM
abbrev iE:UP:=Zk (top 83) 5
theorem gP:bc ["self","word","innermost","ended"] ["self","word"] (aL iE):=scM
abbrev d9:UP:=Zk (top 83) 6
theorem lR:bc ["self","word","row"] ["self","word","row"] (aL d9):=scM
abbrev iy:UP:=Zk (top 83) 7
theorem sN:bc ["self","number"] ["self","number"] (aL iy):=scM
structure Adr where
 Row:Uu
 bp:Uu
 bj:Uu
 bF:Uu
 bH:Uu
 bG:Uu
 bA:Uu
 bq:Uu
 bu:Uu
 bh:Uu
 bO:Uu
 b5:Uu
 bt:Uu
 a6:Uu
 Program:Uu
 bS:Uu
 Opened:Uu
 Reader:Uu
structure Txt(K:Uw)(mg:Str->Option Ut)(A:Adr):Prop where
 vG:bW K mg "rank_told" kJ ["word"]
 Cd:bW K mg "made_of" pI ["word","signs","most"]
 Br:bW K mg "is_name" pd ["word"]
 vM:bW K mg "number_of" kE ["word"]
 zQ:bW K mg "thing_of" nq ["word"]
 zP:bW K mg "value_of" nH ["words"]
 oY:bW K mg "value_of_one" gH ["word"]
 kg:bW K mg "value_of_three" e7 ["ahead","between","behind"]
 B6:bW K mg "most_of" pZ ["rows","known"]
 qB:bW K mg "most_of_row" hZ ["row","known"]
 JI:bW K mg "mosts" xV ["program"]
 most:bW K mg "most" Ar ["program"]
 whole:bW K mg "whole" wk ["parts"]
 u7:bW K mg "name_told" kI ["word"]
 oG:bW K mg "number_up_to" gx ["word","most"]
 rX:bW K mg "alone_form" jy ["words"]
 qk:bW K mg "ranked_form" iC ["words"]
 sW:bW K mg "given_form" jq ["words"]
 zA:bW K mg "own_form" nF ["words"]
 uW:bW K mg "deed_form" kj ["words"]
 vH:bW K mg "call_form" ly ["words"]
 qK:bW K mg "listed_form" iK ["words","parts"]
 iU:bW K mg "named_value_form" eu ["words"]
 yL:bW K mg "put_form" mV ["words"]
 zg:bW K mg "say_form" nz ["words"]
 Bj:bW K mg "form_of" pq ["text"]
 r6:bW K mg "names_told" jw ["row"]
 qo:bW K mg "things_used" iI ["things"]
 sT:bW K mg "value_used" jt ["value"]
 sH:bW K mg "names_used" jm ["row"]
 vL:bW K mg "head_made" kX ["number","form"]
 zU:bW K mg "row_made" nE ["number","form"]
 qC:bW K mg "check_steps" iM ["program"]
 read:bW K mg "read" AR ["rows"]
 qy:bW K mg "_law_cell_at" iA ["_law_script","_law_k"]
 zD:bW K mg "_law_more" nI ["_law_script","_law_at","_law_many"]
 Cc:bW K mg "_law_mix" px ["_law_cell","_law_k"]
 vU:bW K mg "_law_names" kY ["_law_cell","_law_other","_law_many"]
 zd:bW K mg "_law_head" nt ["_law_number","_law_name"]
 u6:bW K mg "_law_scope" kK ["_law_heads","_law_parts_here"]
 ze:bW K mg "_law_pick" nr ["_law_some","_law_number"]
 vh:bW K mg "_law_thing" kL ["_law_number","_law_scope_here"]
 vQ:bW K mg "_law_value" kZ ["_law_cell","_law_scope_here"]
 B9:bW K mg "_law_row" pX ["_law_cell","_law_scope_here","_law_deed"]
 zG:bW K mg "_law_rows" nD ["_law_cells","_law_scope_here","_law_deed"]
 zZ:bW K mg "_law_text" nG ["_law_row_here"]
 vY:bW K mg "_law_whole" kG ["_law_found","_law_due"]
 vd:bW K mg "_law_parts" kA ["_law_found","_law_due"]
 ku:bW K mg "_law_value_told" fg ["_law_found","_law_due"]
 l9:bW K mg "_law_head_told" fL ["_law_row_here","_law_due"]
 nZ:bW K mg "_law_row_told" gJ ["_law_row_here","_law_due"]
 zS:bW K mg "_law_told" mW ["_law_rows_here","_law_due","_law_number"]
 yt:bW K mg "_law_same" mR ["_law_program","_law_heads","_law_deed","_law_body","_law_main"]
 Cq:mg "all"=Zi
 yZ:mg "any"=Zi
 x9:mg "bool"=Zi
 gZ:mg "enumerate"=Zi
 ql:mg "int"=Zi
 a9:mg "isinstance"=Zi
 cE:mg "len"=Zi
 dN:mg "list"=Zi
 eK:mg "range"=Zi
 qi:mg "str"=Zi
 BB:mg "sum"=Zi
 lO:mg "tuple"=Zi
 xJ:∃a,mg "WORDS"=Zh (.ref a)/\(∀H,SqT K H a [.str "open",.str "house",.str "closed"])/\∃o,K.lookup a=Zh o/\o.cls=.type "tuple"/\o.dict=Zi
 vz:∃t,mg "LETTERS"=Zh (.str "abcdefghijklmnopqrstuvwxyz" t)
 uX:∃t,mg "FIGURES"=Zh (.str "0123456789" t)
 kC:∃t,mg "MOST_LETTERS"=Zh (.int 8 t)
 kr:∃t,mg "MOST_FIGURES"=Zh (.int 12 t)
 vI:∃a,mg "BETWEEN"=Zh (.ref a)/\(∀H,SqT K H a [.str "+",.str "-",.str "*",.str "over",.str "rest",.str "<",.str "="])/\∃o,K.lookup a=Zh o/\o.cls=.type "tuple"/\o.dict=Zi
 j7:∃t,mg "MOST_SIZE"=Zh (.int 20 t)
 jx:∃t,mg "MOST_PARTS"=Zh (.int 4 t)
 qI:∃t,mg "MOST_ROWS"=Zh (.int 200 t)
 oO:∃t,mg "MOST_DEEDS"=Zh (.int 8 t)
 qz:∃t,mg "MOST_DEEP"=Zh (.int 6 t)
 nR:∃t,mg "MOST_STEPS"=Zh (.int 10000 t)
 rG:∃a,mg "HEADS"=Zh (.ref a)/\(∀H,SqT K H a [.str "hand",.str "given",.str "own",.str "let"])/\∃o,K.lookup a=Zh o/\o.cls=.type "tuple"/\o.dict=Zi
 jH:dU K mg A.Row "Row" [A.Row]
 sm:MFn K A.Row "__init__" "Row.__init__" mX ["self","number"]
 o5:bx K A.Row "number"
 eE:dU K mg A.bp "HandRow" [A.bp,A.Row]
 kM:MFn K A.bp "__init__" "HandRow.__init__" gQ ["self","number","name","rank"]
 kT:bx K A.bp "name"
 lG:bx K A.bp "rank"
 iT:bx K A.bp "number"
 dy:dU K mg A.bj "GivenRow" [A.bj,A.Row]
 jK:MFn K A.bj "__init__" "GivenRow.__init__" fK ["self","number","name","rank","size"]
 jN:bx K A.bj "name"
 jJ:bx K A.bj "rank"
 jW:bx K A.bj "size"
 hG:bx K A.bj "number"
 fG:dU K mg A.bF "OwnRow" [A.bF,A.Row]
 mz:MFn K A.bF "__init__" "OwnRow.__init__" ik ["self","number","name","size"]
 mE:bx K A.bF "name"
 me:bx K A.bF "size"
 jG:bx K A.bF "number"
 fJ:dU K mg A.bH "LetRow" [A.bH,A.Row]
 lX:MFn K A.bH "__init__" "LetRow.__init__" iH ["self","number","name","rank"]
 l7:bx K A.bH "name"
 mJ:bx K A.bH "rank"
 jE:bx K A.bH "number"
 fH:dU K mg A.bG "SetRow" [A.bG,A.Row]
 ma:MFn K A.bG "__init__" "SetRow.__init__" ij ["self","number","name","value"]
 mK:bx K A.bG "name"
 ki:bx K A.bG "value"
 jU:bx K A.bG "number"
 eJ:dU K mg A.bA "PutRow" [A.bA,A.Row]
 mD:MFn K A.bA "__init__" "PutRow.__init__" iB ["self","number","name","place","value"]
 mB:bx K A.bA "name"
 ko:bx K A.bA "place"
 lg:bx K A.bA "value"
 jC:bx K A.bA "number"
 eA:dU K mg A.bq "SendRow" [A.bq,A.Row]
 kQ:MFn K A.bq "__init__" "SendRow.__init__" gv ["self","number","name","value"]
 kq:bx K A.bq "name"
 jQ:bx K A.bq "value"
 iR:bx K A.bq "number"
 d5:dU K mg A.bu "SayRow" [A.bu,A.Row]
 mQ:MFn K A.bu "__init__" "SayRow.__init__" iw ["self","number","name","value","mark"]
 mH:bx K A.bu "name"
 kR:bx K A.bu "value"
 mG:bx K A.bu "mark"
 jR:bx K A.bu "number"
 dB:dU K mg A.bh "CallRow" [A.bh,A.Row]
 lD:MFn K A.bh "__init__" "CallRow.__init__" gy ["self","number","name","things"]
 j9:bx K A.bh "name"
 iO:bx K A.bh "things"
 i9:bx K A.bh "number"
 o8:dU K mg A.bO "LastRow" [A.bO,A.Row]
 i8:bx K A.bO "number"
 gb:dU K mg A.b5 "IfRow" [A.b5,A.Row]
 mP:bx K A.b5 "value"
 mF:bx K A.b5 "first"
 lU:bx K A.b5 "other"
 xl:bx K A.b5 "left"
 uN:bx K A.b5 "right"
 lj:bx K A.b5 "number"
 ff:dU K mg A.bt "LoopRow" [A.bt,A.Row]
 qQ:bx K A.bt "thing"
 uc:bx K A.bt "most"
 lF:bx K A.bt "body"
 rV:bx K A.bt "left"
 qZ:bx K A.bt "right"
 i0:bx K A.bt "number"
 dm:dU K mg A.a6 "DeedRow" [A.a6,A.Row]
 lH:MFn K A.a6 "__init__" "DeedRow.__init__" gp ["self","number","name","parts","body"]
 lI:bx K A.a6 "name"
 jX:bx K A.a6 "parts"
 kP:bx K A.a6 "body"
 iV:bx K A.a6 "number"
 eU:dU K mg A.Program "Program" [A.Program]
 ka:MFn K A.Program "__init__" "Program.__init__" gL ["self","heads","deeds","main"]
 jO:bx K A.Program "heads"
 jL:bx K A.Program "deeds"
 lE:bx K A.Program "main"
 fj:dU K mg A.bS "Names" [A.bS]
 o3:MFn K A.bS "__init__" "Names.__init__" jA ["self"]
 mL:MFn K A.bS "fault" "Names.fault" iG ["self","row"]
 kF:MFn K A.bS "serves" "Names.serves" gz ["self","name","use"]
 nN:MFn K A.bS "keep" "Names.keep" jr ["self","row"]
 iS:MFn K A.bS "end_deed" "Names.end_deed" eZ ["self"]
 mj:bx K A.bS "kinds"
 mv:bx K A.bS "ended"
 oH:bx K A.bS "deed"
 j6:bx K A.bS "spoken"
 gA:dU K mg A.Opened "Opened" [A.Opened]
 mO:MFn K A.Opened "__init__" "Opened.__init__" iz ["self","word","row","rows"]
 lZ:bx K A.Opened "word"
 oP:bx K A.Opened "row"
 l0:bx K A.Opened "rows"
 c7:dU K mg A.Reader "Reader" [A.Reader]
 lW:MFn K A.Reader "__init__" "Reader.__init__" ir ["self"]
 lV:MFn K A.Reader "take" "Reader.take" iJ ["self","number","text"]
 jF:MFn K A.Reader "inside" "Reader.inside" fV ["self","word"]
 gM:MFn K A.Reader "may_stand" "Reader.may_stand" ez ["self","word"]
 kx:MFn K A.Reader "check" "Reader.check" gu ["self","number","row"]
 mN:MFn K A.Reader "turn" "Reader.turn" iE ["self","word"]
 gS:MFn K A.Reader "place_row" "Reader.place_row" d9 ["self","word","row"]
 mM:MFn K A.Reader "done" "Reader.done" iy ["self","number"]
 i6:bx K A.Reader "program"
 kf:bx K A.Reader "names"
 jD:bx K A.Reader "opened"
 ke:bx K A.Reader "begun"
 cM:OfC K A.Row "__init__"
 nd:[A.Row,A.bp,A.bj,A.bF,A.bH,A.bG,A.bA,A.bq,A.bu,A.bh,A.bO,A.b5,A.bt,A.a6,A.Program,A.bS,A.Opened,A.Reader].Nodup
section
variable{P:Program}{w:UC}{K:Uw}{mg:Str->Option Ut}{base:UT}{A:Adr}
seal PE PA PS PSs PT PW
theorem asP(D:Has P w K mg base k x ps (spP K F))(h:∀ds d,G ds=Zh d->F ds=Zh d):Has P w K mg base k x ps (spP K G):=D.imp λvs H Q E q=>by
 obtain⟨ds,d,X,e,z1,z2,z3⟩:=q;exact⟨ds,d,X,h ds d e,z1,z2,z3⟩
theorem eB{ι:Type}(u:ι->D)(f:ι->D):∀xs:List ι,(∀x∈xs,∃B',g (u x) B=Zh B'/\q B' M=Zh true/\r B' M=Zh (f x))->cD g q r M B (xs.map u)=Zh (xs.map f)
 | [],_=>rfl
 |x::r,h=>by
  obtain⟨B',h1,h2,h3⟩:=h x Qb;show(g (u x) B).bind _=_;rw[h1];show(_:Option Bool).bind _=_;rw[h2];show(_:Option D).bind _=_;rw[h3];show(cD _ _ _ _ _ _).bind _=_;rw[eB u f r λy hy=>h y (Qa _ hy)];rfl
theorem pM{ι:Type}(f:ι->Bool):∀xs:List ι,nK (xs.map λx=>D.bl (f x))=Zh (xs.map f)
 | []=>rfl
 |x::r=>by
  show(nK _).bind _=_;rw[pM f r];rfl
theorem aZ(h:bP d=true):G5 M d=Zh d:=by
 cases d with
 |cell n=>cases h
 |_=>exact(if_pos h:(if bP _=true then Zh _ else(Zi:Option D))=Zh _)
theorem sl1:1<=sizeLine:=∅
theorem sl2:2<=sizeLine:=∅
theorem sl3:3<=sizeLine:=∅
theorem sl4:4<=sizeLine:=∅
theorem sl5:5<=sizeLine:=∅
theorem sl6:6<=sizeLine:=∅
theorem aw:dv .non=true:=rfl
theorem au:dv (.str x)=false:=rfl
theorem av:dv (.int x)=false:=rfl
theorem aI:dv (.bl x)=false:=rfl
theorem ay:dv (.tup x)=false:=rfl
theorem az:dv (.lst x)=false:=rfl
theorem aG:bP (.bl b)=true:=by unfold bP;rfl
theorem ai:bP (.int b)=true:=by unfold bP;rfl
theorem ak:bP (.str b)=true:=by unfold bP;rfl
theorem aq:bP .non=true:=by unfold bP;rfl
theorem ao:bP (.tup b)=bD b:=by unfold bP;rfl
theorem aj:bP (.lst b)=bD b:=by unfold bP;rfl
theorem af:bD []=true:=by unfold bD;rfl
theorem ae:bD (d::b)=(bP d&&bD b):=by rw[bD]
inductive Thg:D->Prop
 |non:Thg .non
 |str (w:Str):Thg (.str w)
 |int (n:Int):Thg (.int n)
theorem Thg.pure(h:Thg d):bP d=true:=by cases h<;>rfl
end
local macro_rules|`(tactic|simp![$a,*])=>`(tactic|simp[$a,*,stD,aX,sIf,aP,aS,aQ,dV,dC,dOp,dUn,dIf,aK,ag,aN,aB,aY,dOr,aV,dBl,aH,a5,ar,dI,tt2,aC,aT,L2.listOf,isTup,aU,aZ,aG,ai,ak,aq,ao,aj,af,ae,Thg.pure,aF,dIt,aW,aE,aD,isN,aw,au,av,ay,az,aI,sl1,sl2,sl3,sl4,sl5,sl6,aO,aJ,aM])
local macro_rules|`(tactic|simp_all![$a,*])=>`(tactic|simp![$a,*,ba,bQ,bM,bK])
local macro_rules|`(tactic|dsimp![$a,*])=>`(tactic|simp (decide:=true) [$a,*,stD,aX,sIf,aP,aS,aQ,dV,dC,dOp,dUn,dIf,aK,ag,aN,aB,aY,dOr,aV,dBl,aH,a5,ar,dI,tt2,aC,aT,L2.listOf,isTup,aU,aZ,aG,ai,ak,aq,ao,aj,af,ae,Thg.pure,aF,dIt,aW,aE,aD,isN,aw,au,av,ay,az,aI,sl1,sl2,sl3,sl4,sl5,sl6,aO,aJ,aM])
section
variable{P:Program}{w:UC}{K:Uw}{mg:Str->Option Ut}{base:UT}{A:Adr}
def sgn(g w:Str):Bool:=(chS w).all λc=>!(UL g c 0 g.length 1).isEmpty
def mI(w g:Str)(m:Int):Bool:=decide (1<=(w.length:Int))&&(decide ((w.length:Int)<=m)&&sgn g w)
def vT:List D->Option D
 | [.str w,.str g,.int m]=>if w.length<=sizeLine then Zh (.bl (mI w g m))else Zi
 |_=>Zi
theorem vR(T:Txt K mg A):Has P w K mg base 1 "made_of" ["word","signs","most"] (spP K vT):=by
 refine asP (mkP T.Cd (k:=0) A4 λ_ _ _ _ _ _ _ hr hu=>qs1 (bw (dX (Lw y6 y6 yB yB a8 (qcB cb cO T.cE (aa (qv 0) aA)) (qv 2)) (gW (qcB Ny D6 T.Cq (aa (jc (N:=["sign","signs"]) (own:=1) (fr:=[1]) (cv.of (by kernel_rfl!)) (Pa true (qv 0)) (λb=>qgn 0 (show U4 (["sign","signs"]:List Ve) by decide+kernel)) (λb=>qf0) (λb=>gU (j8 hu) kz (qv 0) (qv 1) (by with_unfolding_all rfl)) (fA ∅)) aA)))))) λds d e=>?_;unfold vT at e;split at e
 case h_2=>cases e
 rename_i w g m;split at e
 case isFalse=>cases e
 rename_i hl;cases e;have hc:cD (gN 0) eW (dOp (bK false) (dV 0) (dV 1)) [] [Zi,Zh (.str g)] ((chS w).map D.str)=Zh ((chS w).map λc=>.bl (!(UL g c 0 g.length 1).isEmpty)):=eB _ _ _ λc _=>{_,rfl,rfl,rfl};have hn:(chS w).length<=sizeLine:=by unfold chS;rw[P8];exact hl
 unfold mI;show P6 _ _=_;by_cases h1:(1:Int)<=w.length
 ·by_cases h2:(w.length:Int)<=m
  ·simp_all![h1,h2,hl,hc,hn,pM,sgn,eP,Hl]
  simp_all![h1,h2,hl,eP]
 simp_all![h1,hl,eP]
def isNm(w:Str):Bool:=mI w "abcdefghijklmnopqrstuvwxyz" 8
def C5:List D->Option D
 | [.str w]=>if w.length<=640 then Zh (.bl (isNm w))else Zi
 |_=>Zi
theorem BK{w:Str}(h:w.length<=640):w.length<=sizeLine:=Qi h ∅
theorem qe(T:Txt K mg A):Has P w K mg base 2 "is_name" ["word"] (spP K C5):=by
 have Ts:=@vR P w _ _ base _ T;refine asP (mkP T.Br (k:=1) AW λ_ _ _ _ _ _ _ hr hu=>qs1 (bw (bz Ts hr (aa (qv 0) (aa (J6 T.vz) (aa (my T.kC) aA)))))) λds d e=>?_;unfold C5 at e;split at e
 case h_2=>cases e
 split at e
 case isFalse=>cases e
 rename_i hl;cases e;show P6 _ _=_;simp_all![BK hl,vT,isNm]
noncomputable def Eg(w:Str):Option D:=match w.cps.toList with
 | []=>Zi
 |c::_=>if(decide (V.str ⟨#[c]⟩=V.str "0")&& !decide (V.str w=V.str "0"))=true then Zh .non else(V7 w).bind λn=>Zh (.int n)
def nV(w:Str):Option D:=if mI w "0123456789" 12=true then Eg w else Zh .non
def A2:List D->Option D
 | [.str w]=>if w.length<=640 then nV w else Zi
 |_=>Zi
theorem qp(T:Txt K mg A):Has P w K mg base 2 "number_of" ["word"] (spP K A2):=by
 have Ts:=@vR P w _ _ base _ T;refine asP (mkP T.vM (k:=1) wm λ_ _ _ _ _ _ _ hr hu=>qsc (qif (eG (cZ (bz Ts hr (aa (qv 0) (aa (J6 T.uX) (aa (my T.kr) aA)))))) (qs1 (bw dq)) qs0) (qsc (qif (QW.pt (fZ (bo (oeq hu) Zo (qix hu (qv 0) a8) bE) (d8 (bo (one hu) su (qv 0) bE)))) (qs1 (bw dq)) qs0) (qs1 (bw (qcT NO Nb T.ql (aa (qv 0) aA)))))) λds d e=>?_;unfold A2 at e;split at e
 case h_2=>cases e
 rename_i w;split at e
 case isFalse=>cases e
 rename_i hl;show P6 _ _=_;unfold nV at e;split at e
 ·rename_i hm;unfold Eg at e;split at e
  ·cases e
  rename_i c r hc;have ha:atI w.cps.toList 0=Zh c:=by rw[hc];simp[atI,ixN]
  have e1:eqD false [] (.str ⟨#[c]⟩) (.str "0")=Zh (.bl (decide (V.str ⟨#[c]⟩=V.str "0"))):=rfl;have e2:eqD true [] (.str w) (.str "0")=Zh (.bl (!decide (V.str w=V.str "0"))):=rfl;generalize decide (V.str ⟨#[c]⟩=V.str "0")=b1 at e e1;generalize decide (V.str w=V.str "0")=b2 at e e2;cases hn:V7 w with
  |none=>
   rw[hn]at e;cases b1<;>cases b2<;>cases e;simp_all![BK hl,hl,vT,hm,ha,e1,e2,ixD]
  |some n=>
   rw[hn]at e;cases b1<;>cases b2<;>cases e<;>simp_all![BK hl,hl,vT,hm,ha,hn,e1,e2,ixD,Kp]
 rename_i hm;cases e;simp_all![BK hl,vT,hm]
theorem Js{w:Str}{d:D}(e:nV w=Zh d):Thg d:=by
 unfold nV at e;split at e
 ·unfold Eg at e;split at e
  ·cases e
  split at e
  ·cases e;exact .non
  obtain⟨n,_,e⟩:=bnd e;cases e;exact .int n
 cases e;exact .non
def ji(w:Str):Option D:=if isNm w=true then Zh (.str w)else nV w
theorem gc{w:Str}{d:D}(e:ji w=Zh d):Thg d:=by
 unfold ji at e;split at e
 ·cases e;exact .str _
 exact Js e
def z6:List D->Option D
 | [.str w]=>if w.length<=640 then ji w else Zi
 |_=>Zi
theorem jk(T:Txt K mg A):Has P w K mg base 3 "thing_of" ["word"] (spP K z6):=by
 have Tf:=@qe P w _ _ base _ T;have Tp:=@qp P w _ _ base _ T;refine asP (mkP T.zQ (k:=2) zy λ_ _ _ _ _ _ _ hr hu=>qsc (qif (cZ (bz Tf hr (aa (qv 0) aA))) (qs1 (bw (qv 0))) qs0) (qs1 (bw (bz Tp hr (aa (qv 0) aA))))) λds d e=>?_;unfold z6 at e;split at e
 case h_2=>cases e
 rename_i w;split at e
 case isFalse=>cases e
 rename_i hl;show P6 _ _=_;have hp:=(gc e).pure;unfold ji at e;split at e
 ·rename_i hm;cases e;simp_all![hl,C5,hm]
 rename_i hm;simp_all![hl,C5,A2,hm,e,aZ hp]
noncomputable def nO(d r:D):D:=match d with
 | .non=>.non
 |_=>r
def Dk(w:Str):Option D:=(ji w).bind λd=>Zh (nO d (.tup [d]))
def MD:List D->Option D
 | [.str w]=>if w.length<=640 then Dk w else Zi
 |_=>Zi
theorem sZ(T:Txt K mg A):Has P w K mg base 4 "value_of_one" ["word"] (spP K MD):=by
 have SU:=@jk P w _ _ base _ T;refine asP (mkP T.oY (k:=3) jT λ_ _ _ _ _ _ _ hr hu=>qsc (cG 1 jT.nd (bz SU hr (aa (qv 0) aA))) (qsc (qif (bo uo ZL (qv 1) dq) (qs1 (bw dq)) qs0) (qs1 (bw (dH (aa (qv 1) aA)))))) λds d e=>?_;unfold MD at e;split at e
 case h_2=>cases e
 rename_i w;split at e
 case isFalse=>cases e
 rename_i hl;show P6 _ _=_;obtain⟨x,e1,e⟩:=bnd e;cases e;cases gc e1<;>simp_all![hl,z6,e1,nO]
def yN(a b c:Str):Option D:=(ji a).bind λx=>(ji c).bind λy=>Zh (nO x (nO y (if(inV (.str b) [.str "+",.str "-",.str "*",.str "over",.str "rest",.str "<",.str "="]||(decide (V.str b=V.str "at")&&isNm a))=true then .tup [x,.str b,y]else .non)))
def MO:List D->Option D
 | [.str a,.str b,.str c]=>if a.length<=640/\c.length<=640 then yN a b c else Zi
 |_=>Zi
theorem pQ(T:Txt K mg A):Has P w K mg base 4 "value_of_three" ["ahead","between","behind"] (spP K MO):=by
 have Tf:=@qe P w _ _ base _ T;have SU:=@jk P w _ _ base _ T;refine asP (mkP T.kg (k:=3) eL λ_ _ _ _ _ _ _ hr hu=>qsc (cG 3 eL.nd (bz SU hr (aa (qv 0) aA))) (qsc (cG 4 eL.nd (bz SU hr (aa (qv 2) aA))) (qsc (qif (QW.pt (ja (bo uo ZL (qv 3) dq) (eN (bo uo ZL (qv 4) dq)))) (qs1 (bw dq)) qs0) (qsc (qif (QW.pt (ja (bo (j8 hu) kz (qv 1) (Gk T.vI) (by with_unfolding_all rfl)) (eN (QW.pt (fZ (bo (oeq hu) Zo (qv 1) bE) (d8 (cZ (bz Tf hr (aa (qv 0) aA))))))))) (qs1 (bw (dH (aa (qv 3) (aa (qv 1) (aa (qv 4) aA)))))) qs0) (qs1 (bw dq)))))) λds d e=>?_;unfold MO at e;split at e
 case h_2=>cases e
 rename_i a b c;split at e
 case isFalse=>cases e
 rename_i hl;show P6 _ _=_;obtain⟨x,e1,e⟩:=bnd e;obtain⟨y,e2,e⟩:=bnd e;cases e;have h1:inD false [] (.str b) (.sqt [.str "+",.str "-",.str "*",.str "over",.str "rest",.str "<",.str "="])=Zh (.bl (inV (.str b) [.str "+",.str "-",.str "*",.str "over",.str "rest",.str "<",.str "="])):=rfl;have h2:eqD false [] (.str b) (.str "at")=Zh (.bl (decide (V.str b=V.str "at"))):=rfl;generalize inV (.str b) [.str "+",.str "-",.str "*",.str "over",.str "rest",.str "<",.str "="]=b1 at h1⊢;generalize decide (V.str b=V.str "at")=b2 at h2⊢;cases gc e1<;>cases gc e2<;>cases b1<;>cases b2<;>cases hn:isNm a<;>simp_all![hl,z6,C5,hn,e1,e2,h1,h2,nO]
noncomputable def wsD(ws:List Str):D:=.lst (ws.map D.str)
def mr(ws:List Str):Option D:=match ws with
 | [a]=>Dk a
 | [a,b,c]=>yN a b c
 |_=>Zh .non
def JJ:D->Option (List Str)
 | .lst ds=>jI ds
 |_=>Zi
noncomputable def sml(ws:List Str):Bool:=ws.all λw=>decide (w.length<=640)
theorem CT:∀{ds:List D}{ws:List Str},jI ds=Zh ws->ds=ws.map D.str:=by
 intro ds;induction ds with
 |nil=>intro ws e;cases e;rfl
 |cons d ds ih=>
  intro ws e;cases d with
  |str b=>
   obtain⟨bs,e1,e⟩:=bnd (show(jI ds).bind _=_ from e);cases e;rw[ih e1];rfl
  |_=>cases e
def jB(f:List Str->Option D):List D->Option D:=λds=>match ds with
 | [d]=>(JJ d).bind λws=>if sml ws=true/\ws.length<=640 then f ws else Zi
 |_=>Zi
theorem fk(e:jB f ds=Zh d):∃ws,ds=[wsD ws]/\sml ws=true/\ws.length<=640/\f ws=Zh d:=by
 unfold jB at e;split at e
 ·obtain⟨ws,e1,e2⟩:=bnd e;split at e2
  ·rename_i h;unfold JJ at e1;split at e1
   ·exact{ws,by rw[CT e1];rfl,h.1,h.2,e2}
   cases e1
  cases e2
 cases e
theorem eq_int:eqD neg M (.int i) (.int j)=Zh (.bl (if neg then !decide (i=j)else decide (i=j))):=by
 show Zh _=_;cases neg<;>simp
theorem eq_str:eqD neg M (.str i) (.str j)=Zh (.bl (if neg then !decide (i=j)else decide (i=j))):=by
 show Zh _=_;cases neg<;>simp
theorem bg:ixD M (.lst ds) (.int i)=atI ds i:=by unfold ixD ba;rfl
theorem bC:eP M [.lst ds]=Zh (.int (ds.length:Nat)):=by unfold eP ba;rfl
theorem o4(h:bP r=true):bP (nO d r)=true:=by cases d<;>first|exact h|exact aq
theorem EA(e:Dk a=Zh d):bP d=true:=by
 obtain⟨x,e1,e⟩:=bnd e;cases e;exact o4 (by rw[ao,ae,(gc e1).pure,af];rfl)
theorem E3(e:yN a b c=Zh d):bP d=true:=by
 obtain⟨x,e1,e⟩:=bnd e;obtain⟨y,e2,e⟩:=bnd e;cases e;refine o4 (o4 ?_);split
 ·rw[ao,ae,ae,ae,(gc e1).pure,(gc e2).pure,af,ak];rfl
 exact aq
theorem nL(e:mr ws=Zh d):bP d=true:=by
 unfold mr at e;split at e
 ·exact EA e
 ·exact E3 e
 cases e;exact aq
theorem mS(T:Txt K mg A):Has P w K mg base 5 "value_of" ["words"] (spP K (jB mr)):=by
 have TJ:=@sZ P w _ _ base _ T;have Tv:=@pQ P w _ _ base _ T;refine asP (mkP T.zP (k:=4) yV λ_ _ _ _ _ _ _ hr hu=>qsc (qif (bo (oeq hu) Zo (qcB cb cO T.cE (aa (qv 0) aA)) a8) (qs1 (bw (bz TJ hr (aa (qix hu (qv 0) a8) aA)))) qs0) (qsc (qif (bo (oeq hu) Zo (qcB cb cO T.cE (aa (qv 0) aA)) a8) (qs1 (bw (bz Tv hr (aa (qix hu (qv 0) a8) (aa (qix hu (qv 0) a8) (aa (qix hu (qv 0) a8) aA)))))) qs0) (qs1 (bw dq)))) λds d e=>?_;obtain⟨ws,rfl,h1,h2,e⟩:=fk e;show P6 _ _=_;have hp:=nL e;match ws,h1,e with
 | [],_,e=>cases e;simp_all![wsD,bC,eq_int]
 | [a],h1,e=>
  simp[sml]at h1;simp_all![wsD,bC,eq_int,bg,atI,ixN,MD,h1,show Dk a=Zh d from e,aZ hp]
 | [a,b],_,e=>cases e;simp_all![wsD,bC,eq_int]
 | [a,b,c],h1,e=>
  simp[sml]at h1;simp_all![wsD,bC,eq_int,bg,atI,ixN,MO,h1,show yN a b c=Zh d from e,aZ hp]
 |a::b::c::x::r,_,e=>
  cases e;have n1:¬ ((r.length:Int)+1+1+1+1=1):=()
  have n3:¬ ((r.length:Int)+1+1+1+1=3):=()
  simp_all![wsD,bC,eq_int,n1,n3]
def whl(ds:List D):D:=if ds.any dv=true then .non else .tup ds
def rW:List D->Option D
 | [.lst ds]=>if bD ds=true/\ds.length<=640 then Zh (whl ds)else Zi
 |_=>Zi
theorem dY(h:bD ds=true):bP (whl ds)=true:=by
 unfold whl;split
 ·exact aq
 rw[ao];exact h
theorem jd(T:Txt K mg A):Has P w K mg base 1 "whole" ["parts"] (spP K rW):=by
 refine asP (mkP T.whole (k:=0) EI λ_ _ _ _ _ _ _ hr hu=>qsc (qif (cZ (qcB JX D6 T.yZ (aa (jc (N:=["part"]) (own:=1) (fr:=[]) (cv.of (by kernel_rfl!)) (qit true (qv 0)) (λb=>qgn 0 (show U4 (["part"]:List Ve) by decide+kernel)) (λb=>qf0) (λb=>gU uo ZL (qv 0) dq) (fA ∅)) aA))) (qs1 (bw dq)) qs0) (qs1 (bw (qcT uP HU T.lO (aa (qv 0) aA))))) λds d e=>?_;unfold rW at e;split at e
 case h_2=>cases e
 rename_i ds;split at e
 case isFalse=>cases e
 rename_i hl;cases e;have hc:cD (gN 0) eW (dOp (isN false) (dV 0) (dC .non)) [] [Zi] ds=Zh (ds.map λd=>.bl (dv d)):=by
  have:=eB (g:=gN 0) (q:=eW) (r:=dOp (isN false) (dV 0) (dC .non)) (M:=[]) (B:=[Zi]) id (λd=>.bl (dv d)) ds λc _=>{_,rfl,rfl,rfl};rw[Sm]at this;exact this
 have hs:=Qi hl.2 (show 640<=sizeLine by decide);have ha:Hl (λbs=>bs.any id) [] [.lst (ds.map λd=>.bl (dv d))]=Zh (.bl (ds.any dv)):=by
  show(nK _).bind _=_;rw[pM];show Zh (D.bl ((ds.map dv).any id))=_;rw[SI];rfl
 show P6 _ _=_;unfold whl;generalize ds.any dv=b at ha⊢;cases b<;>simp_all![hc,hs,ha,hl.1,KL]
def nmD(w:Str):D:=if isNm w=true then .str w else .non
def nmF:List D->Option D
 | [.str w]=>if w.length<=640 then Zh (nmD w)else Zi
 |_=>Zi
theorem dw(T:Txt K mg A):Has P w K mg base 3 "name_told" ["word"] (spP K nmF):=by
 have Tf:=@qe P w _ _ base _ T;refine asP (mkP T.u7 (k:=2) wM λ_ _ _ _ _ _ _ hr hu=>qs1 (bw (IK (cZ (bz Tf hr (aa (qv 0) aA))) (qv 0) dq))) λds d e=>?_;unfold nmF at e;split at e
 case h_2=>cases e
 rename_i w;split at e
 case isFalse=>cases e
 rename_i hl;cases e;show P6 _ _=_;unfold nmD;cases hm:isNm w<;>simp_all![hl,C5,hm]
noncomputable def xf(d:D)(m:Int):D:=match d with
 | .int n=>if(decide (1<=n)&&decide (n<=m))=true then .int n else .non
 |_=>.non
def Jr:List D->Option D
 | [.str w,.int m]=>if w.length<=640 then(nV w).bind λd=>Zh (xf d m)else Zi
 |_=>Zi
theorem Lk{w:Str}{d:D}(e:nV w=Zh d):d=.non\/∃n,d=.int n:=by
 unfold nV at e;split at e
 ·unfold Eg at e;split at e
  ·cases e
  split at e
  ·cases e;exact .inl rfl
  obtain⟨n,_,e⟩:=bnd e;cases e;exact .inr ⟨n,rfl⟩
 cases e;exact .inl rfl
theorem kW(T:Txt K mg A):Has P w K mg base 3 "number_up_to" ["word","most"] (spP K Jr):=by
 have Tp:=@qp P w _ _ base _ T;refine asP (mkP T.oG (k:=2) jV λ_ _ _ _ _ _ _ hr hu=>qsc (cG 2 jV.nd (bz Tp hr (aa (qv 0) aA))) (qsc (qif (QW.pt (ja (bo uo ZL (qv 2) dq) (eN (eG (xx y6 y6 yB yB a8 (qv 2) (qv 1)))))) (qs1 (bw dq)) qs0) (qs1 (bw (qv 2))))) λds d e=>?_;unfold Jr at e;split at e
 case h_2=>cases e
 rename_i w m;split at e
 case isFalse=>cases e
 rename_i hl;obtain⟨x,e1,e⟩:=bnd e;cases e;show P6 _ _=_;rcases Lk e1 with rfl|⟨n,rfl⟩
 ·simp_all![hl,A2,e1,xf]
 by_cases h1:(1:Int)<=n
 ·by_cases h2:n<=m
  ·simp_all![hl,A2,e1,xf,h1,h2]
  simp_all![hl,A2,e1,xf,h1,h2]
 simp_all![hl,A2,e1,xf,h1]
noncomputable def rkD(w:Str):D:=if w="open" then .int 0 else if w="house" then .int 1 else if w="closed" then .int 2 else .non
def rkF:List D->Option D
 | [.str w]=>Zh (rkD w)
 |_=>Zi
theorem qq(T:Txt K mg A):Has P w K mg base 1 "rank_told" ["word"] (spP K rkF):=by
 refine asP (mkP T.vG (k:=0) wI λ_ _ _ _ _ _ _ hr hu=>qsc (qif (bo (yR hu) yQ (qv 0) (Gk T.xJ) (by with_unfolding_all rfl)) (qs1 (bw dq)) qs0) (qs1 (bw (O5 (xs:=["open","house","closed"]) T.xJ (aa (qv 0) aA))))) λds d e=>?_;unfold rkF at e;split at e
 case h_2=>cases e
 rename_i w;cases e;show P6 _ _=_;have h1:inD true [] (.str w) (.sqt [.str "open",.str "house",.str "closed"])=Zh (.bl (!inV (.str w) [.str "open",.str "house",.str "closed"])):=rfl;unfold rkD;by_cases a:w="open"
 ·subst a;rfl
 by_cases b:w="house"
 ·subst b;rfl
 by_cases c:w="closed"
 ·subst c;rfl
 have h2:inV (.str w) [.str "open",.str "house",.str "closed"]=false:=by simp[inV,eqV];exact{λz=>a z.symm,λz=>b z.symm,λz=>c z.symm}
 simp_all![h1,h2,a,b,c]
theorem eO{w:Str}:bP (nmD w)=true:=by unfold nmD;split<;>first|exact ak|exact aq
theorem xb{w:Str}:bP (rkD w)=true:=by
 unfold rkD;split
 ·exact ai
 split
 ·exact ai
 split
 ·exact ai
 exact aq
theorem zI:bP (xf d m)=true:=by
 unfold xf;split
 ·split
  ·exact ai
  exact aq
 exact aq
noncomputable def OV(ws:List Str):Option D:=match ws with
 | [a]=>Zh (.tup [.str a])
 |_=>Zh .non
theorem wz(T:Txt K mg A):Has P w K mg base 1 "alone_form" ["words"] (spP K (jB OV)):=by
 refine asP (mkP T.rX (k:=0) uB λ_ _ _ _ _ _ _ hr hu=>qs1 (bw (IK (bo (oeq hu) Zo (qcB cb cO T.cE (aa (qv 0) aA)) a8) (dH (aa (qix hu (qv 0) a8) aA)) dq))) λds d e=>?_;obtain⟨ws,rfl,h1,h2,e⟩:=fk e;show P6 _ _=_;match ws,h1,e with
 | [],_,e=>cases e;simp_all![wsD,bC,eq_int]
 | [a],h1,e=>cases e;simp_all![wsD,bC,eq_int,bg,atI,ixN]
 |a::b::r,h1,e=>
  cases e;have n1:¬ ((r.length:Int)+1+1=1):=()
  simp_all![wsD,bC,eq_int,n1]
def Du(ws:List Str):Option D:=match ws with
 | [a,b,c]=>Zh (whl [.str a,nmD b,rkD c])
 |_=>Zh .non
theorem uJ(T:Txt K mg A):Has P w K mg base 4 "ranked_form" ["words"] (spP K (jB Du)):=by
 have E9:=@dw P w _ _ base _ T;have Te:=@qq P w _ _ base _ T;have SQ:=@jd P w _ _ base _ T;refine asP (mkP T.qk (k:=3) tE λ_ _ _ _ _ _ _ hr hu=>qsc (qif (bo (one hu) su (qcB cb cO T.cE (aa (qv 0) aA)) a8) (qs1 (bw dq)) qs0) (qs1 (bw (bz SQ hr (aa (cF (aa (qix hu (qv 0) a8) (aa (bz E9 hr (aa (qix hu (qv 0) a8) aA)) (aa (bz Te hr (aa (qix hu (qv 0) a8) aA)) aA)))) aA))))) λds d e=>?_;obtain⟨ws,rfl,h1,h2,e⟩:=fk e;show P6 _ _=_;match ws,h1,e with
 | [],_,e=>cases e;simp_all![wsD,bC,eq_int]
 | [a],h1,e=>cases e;simp_all![wsD,bC,eq_int]
 | [a,b],h1,e=>cases e;simp_all![wsD,bC,eq_int]
 | [a,b,c],h1,e=>
  cases e;simp[sml]at h1;simp_all![wsD,bC,eq_int,bg,atI,ixN,h1,nmF,rkF,rW,eO,xb,dY]
 |a::b::c::x::r,h1,e=>
  cases e;have n3:¬ ((r.length:Int)+1+1+1+1=3):=()
  simp_all![wsD,bC,eq_int,n3]
def FY(ws:List Str):Option D:=match ws with
 | [a,b,c]=>Zh (whl [.str a,nmD b,rkD c,.int 0])
 | [a,b,c,x]=>(nV x).bind λn=>Zh (whl [.str a,nmD b,rkD c,xf n 20])
 |_=>Zh .non
theorem xh(T:Txt K mg A):Has P w K mg base 4 "given_form" ["words"] (spP K (jB FY)):=by
 have E9:=@dw P w _ _ base _ T;have Te:=@qq P w _ _ base _ T;have Tc:=@kW P w _ _ base _ T;have SQ:=@jd P w _ _ base _ T;refine asP (mkP T.sW (k:=3) mC λ_ _ _ _ _ _ _ hr hu=>qsc (qif (bo (oeq hu) Zo (qcB cb cO T.cE (aa (qv 0) aA)) a8) (qs1 (bw (bz SQ hr (aa (cF (aa (qix hu (qv 0) a8) (aa (bz E9 hr (aa (qix hu (qv 0) a8) aA)) (aa (bz Te hr (aa (qix hu (qv 0) a8) aA)) (aa a8 aA))))) aA)))) qs0) (qsc (qif (bo (oeq hu) Zo (qcB cb cO T.cE (aa (qv 0) aA)) a8) (qsc (cG 1 mC.nd (bz Tc hr (aa (qix hu (qv 0) a8) (aa (my T.j7) aA)))) (qs1 (bw (bz SQ hr (aa (cF (aa (qix hu (qv 0) a8) (aa (bz E9 hr (aa (qix hu (qv 0) a8) aA)) (aa (bz Te hr (aa (qix hu (qv 0) a8) aA)) (aa (qv 1) aA))))) aA))))) qs0) (qs1 (bw dq)))) λds d e=>?_;obtain⟨ws,rfl,h1,h2,e⟩:=fk e;show P6 _ _=_;match ws,h1,e with
 | [],_,e=>cases e;simp_all![wsD,bC,eq_int]
 | [a],h1,e=>cases e;simp_all![wsD,bC,eq_int]
 | [a,b],h1,e=>cases e;simp_all![wsD,bC,eq_int]
 | [a,b,c],h1,e=>
  cases e;simp[sml]at h1;simp_all![wsD,bC,eq_int,bg,atI,ixN,h1,nmF,rkF,rW,eO,xb,dY]
 | [a,b,c,x],h1,e=>
  obtain⟨n,e1,e⟩:=bnd e;cases e;simp[sml]at h1;simp_all![wsD,bC,eq_int,bg,atI,ixN,h1,nmF,rkF,Jr,e1,rW,eO,xb,zI,dY]
 |a::b::c::x::y::r,h1,e=>
  cases e;have n3:¬ ((r.length:Int)+1+1+1+1+1=3):=()
  have n4:¬ ((r.length:Int)+1+1+1+1+1=4):=()
  simp_all![wsD,bC,eq_int,n3,n4]
def F6(ws:List Str):Option D:=match ws with
 | [a,b]=>Zh (whl [.str a,nmD b,.int 0])
 | [a,b,x]=>(nV x).bind λn=>Zh (whl [.str a,nmD b,xf n 20])
 |_=>Zh .non
theorem Ah(T:Txt K mg A):Has P w K mg base 4 "own_form" ["words"] (spP K (jB F6)):=by
 have E9:=@dw P w _ _ base _ T;have Tc:=@kW P w _ _ base _ T;have SQ:=@jd P w _ _ base _ T;refine asP (mkP T.zA (k:=3) zf λ_ _ _ _ _ _ _ hr hu=>qsc (qif (bo (oeq hu) Zo (qcB cb cO T.cE (aa (qv 0) aA)) a8) (qs1 (bw (bz SQ hr (aa (cF (aa (qix hu (qv 0) a8) (aa (bz E9 hr (aa (qix hu (qv 0) a8) aA)) (aa a8 aA)))) aA)))) qs0) (qsc (qif (bo (oeq hu) Zo (qcB cb cO T.cE (aa (qv 0) aA)) a8) (qs1 (bw (bz SQ hr (aa (cF (aa (qix hu (qv 0) a8) (aa (bz E9 hr (aa (qix hu (qv 0) a8) aA)) (aa (bz Tc hr (aa (qix hu (qv 0) a8) (aa (my T.j7) aA))) aA)))) aA)))) qs0) (qs1 (bw dq)))) λds d e=>?_;obtain⟨ws,rfl,h1,h2,e⟩:=fk e;show P6 _ _=_;match ws,h1,e with
 | [],_,e=>cases e;simp_all![wsD,bC,eq_int]
 | [a],h1,e=>cases e;simp_all![wsD,bC,eq_int]
 | [a,b],h1,e=>
  cases e;simp[sml]at h1;simp_all![wsD,bC,eq_int,bg,atI,ixN,h1,nmF,rW,eO,dY]
 | [a,b,x],h1,e=>
  obtain⟨n,e1,e⟩:=bnd e;cases e;simp[sml]at h1;simp_all![wsD,bC,eq_int,bg,atI,ixN,h1,nmF,Jr,e1,rW,eO,zI,dY]
 |a::b::c::x::r,h1,e=>
  cases e;have n3:¬ ((r.length:Int)+1+1+1+1=2):=()
  have n4:¬ ((r.length:Int)+1+1+1+1=3):=()
  simp_all![wsD,bC,eq_int,n3,n4]
theorem at0:atI (a::r) 0=Zh a:=by
 unfold atI ixN;rw[if_pos ∅,if_pos (by rw[Qd];lia)];rfl
theorem at1:atI (a::b::r) 1=Zh b:=by
 unfold atI ixN;rw[if_pos ∅,if_pos (by rw[Qd,Qd];lia)];rfl
theorem at2:atI (a::b::c::r) 2=Zh c:=by
 unfold atI ixN;rw[if_pos ∅,if_pos (by rw[Qd,Qd,Qd];lia)];rfl
theorem at3:atI (a::b::c::x::r) 3=Zh x:=by
 unfold atI ixN;rw[if_pos ∅,if_pos (by rw[Qd,Qd,Qd,Qd];lia)];rfl
theorem c5(ws:List Str):bD (ws.map D.str)=true:=by
 induction ws with
 |nil=>exact af
 |cons a r ih=>rw[Qc,ae,ih,ak];rfl
theorem pJ:slD M (.lst ds) lo hi=Zh (.lst (ZH ds lo hi)):=by unfold slD isTup ba;rfl
theorem KW:ZH (a::b::r) (Zh 2) Zi=r:=by
 unfold ZH;have h:HT.sIx (a::b::r).length 0 (Zh 2)=2:=by unfold HT.sIx;simp
 rw[h,HT.yS];simp
theorem O0:ZH (a::b::c::r) (Zh 3) Zi=r:=by
 unfold ZH;have h:HT.sIx (a::b::c::r).length 0 (Zh 3)=3:=by unfold HT.sIx;simp
 rw[h,HT.yS];simp
theorem Bp(ws:List Str):jI (ws.map D.str)=Zh ws:=by
 induction ws with
 |nil=>rfl
 |cons a r ih=>show(jI _).bind _=_;rw[ih];rfl
theorem rJ(h1:sml ws=true)(h2:ws.length<=640):jB f [.lst (ws.map D.str)]=f ws:=by
 show(jI _).bind _=_;rw[Bp];exact if_pos ⟨h1,h2⟩
theorem du(h:sml (a::r)=true):a.length<=640/\sml r=true:=by
 unfold sml at h⊢;rw[So,Qs,decide_eq_true_iff]at h;exact h
def CU(ws:List Str):Option D:=match ws with
 |a::b::c::r=>(mr (c::r)).bind λv=>Zh (whl [.str a,nmD b,v])
 |_=>Zh .non
theorem mU(T:Txt K mg A):Has P w K mg base 6 "named_value_form" ["words"] (spP K (jB CU)):=by
 have E9:=@dw P w _ _ base _ T;have Ta:=@mS P w _ _ base _ T;have SQ:=@jd P w _ _ base _ T;refine asP (mkP T.iU (k:=5) lT λ_ _ _ _ _ _ _ hr hu=>qsc (qif (bo xt ZM (qcB cb cO T.cE (aa (qv 0) aA)) a8) (qs1 (bw dq)) qs0) (qs1 (bw (bz SQ hr (aa (cF (aa (qix hu (qv 0) a8) (aa (bz E9 hr (aa (qix hu (qv 0) a8) aA)) (aa (bz Ta hr (aa (qsl (qv 0) (yl a8) HN) aA)) aA)))) aA))))) λds d e=>?_;obtain⟨ws,rfl,h1,h2,e⟩:=fk e;show P6 _ _=_;match ws,h1,h2,e with
 | [],_,_,e=>cases e;simp_all![wsD,bC]
 | [a],_,_,e=>cases e;simp_all![wsD,bC]
 | [a,b],_,_,e=>cases e;simp_all![wsD,bC]
 |a::b::c::r,h1,h2,e=>
  obtain⟨v,e1,e⟩:=bnd e;cases e;obtain⟨_,h1⟩:=du h1;obtain⟨hb,h1⟩:=du h1;have hv:jB mr [.lst (.str c::r.map D.str)]=Zh v:=(rJ (ws:=c::r) h1 (by simp at h2⊢;lia)).trans e1;have n3:¬ ((r.length:Int)+1+1+1<3):=()
  simp_all![wsD,bC,n3,bg,at0,at1,c5,hb,nmF,dSl,oAt,oNo,pJ,KW,hv,rW,eO,nL e1,dY]
def IZ(ws:List Str):Option D:=match ws with
 |a::b::c::x::r=>(ji c).bind λt=>(mr (x::r)).bind λv=>Zh (whl [.str a,nmD b,t,v])
 |_=>Zh .non
theorem Ay(T:Txt K mg A):Has P w K mg base 6 "put_form" ["words"] (spP K (jB IZ)):=by
 have E9:=@dw P w _ _ base _ T;have SU:=@jk P w _ _ base _ T;have Ta:=@mS P w _ _ base _ T;have SQ:=@jd P w _ _ base _ T;refine asP (mkP T.yL (k:=5) zT λ_ _ _ _ _ _ _ hr hu=>qsc (qif (bo xt ZM (qcB cb cO T.cE (aa (qv 0) aA)) a8) (qs1 (bw dq)) qs0) (qs1 (bw (bz SQ hr (aa (cF (aa (qix hu (qv 0) a8) (aa (bz E9 hr (aa (qix hu (qv 0) a8) aA)) (aa (bz SU hr (aa (qix hu (qv 0) a8) aA)) (aa (bz Ta hr (aa (qsl (qv 0) (yl a8) HN) aA)) aA))))) aA))))) λds d e=>?_;obtain⟨ws,rfl,h1,h2,e⟩:=fk e;show P6 _ _=_;match ws,h1,h2,e with
 | [],_,_,e=>cases e;simp_all![wsD,bC]
 | [a],_,_,e=>cases e;simp_all![wsD,bC]
 | [a,b],_,_,e=>cases e;simp_all![wsD,bC]
 | [a,b,c],_,_,e=>cases e;simp_all![wsD,bC]
 |a::b::c::x::r,h1,h2,e=>
  obtain⟨t,e0,e⟩:=bnd e;obtain⟨v,e1,e⟩:=bnd e;cases e;obtain⟨_,h1⟩:=du h1;obtain⟨hb,h1⟩:=du h1;obtain⟨hc,h1⟩:=du h1;have hv:jB mr [.lst (.str x::r.map D.str)]=Zh v:=(rJ (ws:=x::r) h1 (by simp at h2⊢;lia)).trans e1;have n3:¬ ((r.length:Int)+1+1+1+1<4):=()
  simp_all![wsD,bC,n3,bg,at0,at1,at2,c5,hb,hc,nmF,z6,e0,dSl,oAt,oNo,pJ,O0,hv,rW,eO,nL e1,(gc e0).pure,dY]
theorem Pz:atI (vs++[m]) (-1)=Zh m:=by
 unfold atI ixN;rw[if_neg ∅,if_pos (by simp;lia)];show(vs++[m])[_]?=_;rw[show((-1:Int)+((vs++[m]).length:Int)).toNat=vs.length by simp;lia];simp
theorem Pk:atI (vs++[y,m]) (-2)=Zh y:=by
 unfold atI ixN;rw[if_neg ∅,if_pos (by simp;lia)];show(vs++[y,m])[_]?=_;rw[show((-2:Int)+((vs++[y,m]).length:Int)).toNat=vs.length by simp;lia];simp
theorem P5:ZH (a::b::(vs++[y,m])) (Zh 2) (Zh (-2))=vs:=by
 unfold ZH;have h:HT.sIx (a::b::(vs++[y,m])).length 0 (Zh 2)=2:=by unfold HT.sIx;simp
 have h':HT.sIx (a::b::(vs++[y,m])).length (a::b::(vs++[y,m])).length (Zh (-2))=vs.length+2:=by unfold HT.sIx;simp;lia
 rw[h,h'];simp
def EN(ws:List Str):Option D:=match ws with
 |a::b::r=>if r.length<3 then Zh .non else match r.reverse with
  |m::y::vr=>if y="by" then(mr vr.reverse).bind λv=>Zh (whl [.str a,nmD b,v,nmD m])else Zh .non
  |_=>Zi
 |_=>Zh .non
theorem HA(h:sml (a++b)=true):sml a=true/\sml b=true:=by
 unfold sml at h⊢;rw[List.all_append,Qs]at h;exact h
theorem Am(T:Txt K mg A):Has P w K mg base 6 "say_form" ["words"] (spP K (jB EN)):=by
 have E9:=@dw P w _ _ base _ T;have Ta:=@mS P w _ _ base _ T;have SQ:=@jd P w _ _ base _ T;refine asP (mkP T.zg (k:=5) yv λ_ _ _ _ _ _ _ hr hu=>qsc (qif (QW.pt (ja (bo xt ZM (qcB cb cO T.cE (aa (qv 0) aA)) a8) (eN (bo (one hu) su (qix hu (qv 0) (we a8)) bE)))) (qs1 (bw dq)) qs0) (qs1 (bw (bz SQ hr (aa (cF (aa (qix hu (qv 0) a8) (aa (bz E9 hr (aa (qix hu (qv 0) a8) aA)) (aa (bz Ta hr (aa (qsl (qv 0) (yl a8) (yl (we a8))) aA)) (aa (bz E9 hr (aa (qix hu (qv 0) (we a8)) aA)) aA))))) aA))))) λds d e=>?_;obtain⟨ws,rfl,h1,h2,e⟩:=fk e;show P6 _ _=_;match ws,h1,h2,e with
 | [],_,_,e=>cases e;simp_all![wsD,bC]
 | [a],_,_,e=>cases e;simp_all![wsD,bC]
 |a::b::r,h1,h2,e=>
  unfold EN at e;dsimp only at e;split at e
  ·rename_i hr;cases e;have n3:((r.length:Int)+1+1<5):=()
   simp_all![wsD,bC,n3]
  rename_i hr;have n3:¬ ((r.length:Int)+1+1<5):=()
  split at e
  ·rename_i m y vr hrev;have hr2:r=vr.reverse++[y,m]:=by
    have:=congrArg List.reverse hrev;simpa using this
   generalize vr.reverse=vs at e hr2;subst hr2;obtain⟨_,h1⟩:=du h1;obtain⟨hb,h1⟩:=du h1;obtain⟨hv,h1⟩:=HA h1;obtain⟨hy,h1⟩:=du h1;obtain⟨hm,_⟩:=du h1;have a1:atI (D.str a::D.str b::(vs.map D.str++[D.str y,D.str m])) (-2)=Zh (.str y):=Pk (vs:=D.str a::D.str b::vs.map D.str);have a2:atI (D.str a::D.str b::(vs.map D.str++[D.str y,D.str m])) (-1)=Zh (.str m):=by
    have:=Pz (vs:=D.str a::D.str b::(vs.map D.str++[D.str y])) (m:=D.str m);simpa using this
   have ln:¬ ((vs.length:Int)+2+1+1<5):=by simp at n3;lia
   split at e
   ·rename_i hby
    subst hby
    obtain⟨v,e1,e⟩:=bnd e;cases e;have hw:=(rJ hv (by simp at h2;lia)).trans e1;simp_all![wsD,bC,ln,bg,a1,a2,at0,at1,c5,hb,hm,km,eq_str,nmF,dSl,oAt,oNo,pJ,P5,hw,rW,eO,nL e1,dY]
   rename_i hby
   cases e;simp_all![wsD,bC,ln,bg,a1,km,eq_str,hby]
  cases e
theorem add_int:en M (.int i) (.int j)=Zh (.int (i+j)):=by unfold en;rfl
theorem MA(ds:List D):whl ds=.non\/whl ds=.tup ds:=by
 unfold whl;split
 ·exact .inl rfl
 exact .inr rfl
def lsd(a b:Str)(ps:List D):D:=nO (whl ps) (whl [.str a,nmD b,.lst ps])
theorem zK(h:bD ps=true):bP (lsd a b ps)=true:=o4 (dY (by rw[ae,ae,ae,ak,eO,aj,h,af];rfl))
def HB:List D->Option D
 | [.lst (.str a:: .str b::r),.lst ps]=>if bD ps=true/\ps.length<=640/\b.length<=640 then Zh (lsd a b ps)else Zi
 |_=>Zi
theorem lY(T:Txt K mg A):Has P w K mg base 4 "listed_form" ["words","parts"] (spP K HB):=by
 have E9:=@dw P w _ _ base _ T;have SQ:=@jd P w _ _ base _ T;refine asP (mkP T.qK (k:=3) sE λ_ _ _ _ _ _ _ hr hu=>qsc (qif (bo uo ZL (bz SQ hr (aa (qv 1) aA)) dq) (qs1 (bw dq)) qs0) (qs1 (bw (bz SQ hr (aa (cF (aa (qix hu (qv 0) a8) (aa (bz E9 hr (aa (qix hu (qv 0) a8) aA)) (aa (qv 1) aA)))) aA))))) λds d e=>?_;unfold HB at e;split at e
 case h_2=>cases e
 rename_i a b r ps;split at e
 case isFalse=>cases e
 rename_i h;cases e;show P6 _ _=_;unfold lsd;rcases MA ps with hw|hw<;>simp_all![h,rW,hw,nO,bg,at0,at1,nmF,eO,dY]
noncomputable def wR(f:Str->Option D):List Str->Option (List D)
 | []=>Zh []
 |w::r=>(f w).bind λd=>(wR f r).bind λds=>Zh (d::ds)
theorem tG:∀{ws:List Str}{ds:List D},wR f ws=Zh ds->ds.length=ws.length
 | [],_,e=>by cases e;rfl
 |w::r,_,e=>by
  obtain⟨d,_,e⟩:=bnd (show(f w).bind _=_ from e);obtain⟨ds,e2,e⟩:=bnd e;cases e;rw[Qd,Qd,tG e2]
theorem pP(hf:∀w d,f w=Zh d->bP d=true):∀{ws:List Str}{ds:List D},wR f ws=Zh ds->bD ds=true
 | [],_,e=>by cases e;exact af
 |w::r,_,e=>by
  obtain⟨d,e1,e⟩:=bnd (show(f w).bind _=_ from e);obtain⟨ds,e2,e⟩:=bnd e;cases e;rw[ae,hf w d e1,pP hf e2];rfl
theorem tD:∀{ws:List Str}{ds:List D},(∀w∈ws,∀d,f w=Zh d->∃B',g (.str w) B=Zh B'/\q B' M=Zh true/\r B' M=Zh d)->wR f ws=Zh ds->cD g q r M B (ws.map D.str)=Zh ds
 | [],_,_,e=>by cases e;rfl
 |w::ws,_,h,e=>by
  obtain⟨d,e1,e⟩:=bnd (show(f w).bind _=_ from e);obtain⟨ds,e2,e⟩:=bnd e;cases e;obtain⟨B',h1,h2,h3⟩:=h w Qb d e1;show(g (.str w) B).bind _=_;rw[h1];show(q B' M).bind _=_;rw[h2];show(r B' M).bind _=_;rw[h3];show(cD _ _ _ _ _ _).bind _=_;rw[tD (λy hy=>h y (Qa _ hy)) e2];rfl
theorem B1{w:Str}{ws:List Str}(h:sml ws=true)(m:w∈ws):w.length<=640:=of_decide_eq_true (QM.mp h w m)
def ldW(f:Str->Option D)(ws:List Str):Option D:=match ws with
 |a::b::r=>if r.length<=4 then(wR f r).bind λps=>Zh (lsd a b ps)else Zh .non
 |_=>Zh .non
theorem yo(T:Txt K mg A):Has P w K mg base 5 "deed_form" ["words"] (spP K (jB (ldW (λw=>Zh (nmD w))))):=by
 have E9:=@dw P w _ _ base _ T;have Tg:=@lY P w _ _ base _ T;refine asP (mkP T.uW (k:=4) xH λ_ _ _ _ _ _ _ hr hu=>qsc (qif (eG (xx y6 y6 yB yB a8 (qcB cb cO T.cE (aa (qv 0) aA)) (qop cx Zn a8 (my T.jx)))) (qs1 (bw dq)) qs0) (qs1 (bw (bz Tg hr (aa (qv 0) (aa (jc (N:=["word"]) (own:=1) (fr:=[]) (cv.of (by kernel_rfl!)) (qit true (qsl (qv 0) (yl a8) HN)) (λb=>qgn 0 (show U4 (["word"]:List Ve) by decide+kernel)) (λb=>qf0) (λb=>bz E9 hr (aa (qv 0) aA)) (fA ∅)) aA)))))) λds d e=>?_;obtain⟨ws,rfl,h1,h2,e⟩:=fk e;show P6 _ _=_;match ws,h1,h2,e with
 | [],_,_,e=>cases e;simp_all![wsD,bC]
 | [a],_,_,e=>cases e;simp_all![wsD,bC]
 |a::b::r,h1,h2,e=>
  unfold ldW at e;dsimp only at e;have n2:(2:Int)<=(r.length:Int)+1+1:=()
  split at e
  ·rename_i hr;obtain⟨ps,e1,e⟩:=bnd e;cases e;have n6:(r.length:Int)+1+1<=6:=()
   obtain⟨_,h1⟩:=du h1;obtain⟨hb,h1⟩:=du h1;have hc:cD (gN 0) eW (aN (aO nmF) (ag (dV 0) aK)) [] [Zi] (r.map D.str)=Zh ps:=tD (λw hw d e=>{_,rfl,rfl,by simp_all![gN,nmF,B1 h1 hw,e]}) e1;have hp:=pP (λw d e=>by cases e;exact eO) e1;have hl:=tG e1;have hl2:ps.length<=640:=()
   have hl3:ps.length<=sizeLine:=Qi hl2 ∅;simp_all![wsD,bC,add_int,n2,n6,dSl,oAt,oNo,pJ,KW,hc,hp,hl2,hl3,HB,hb,c5,zK]
  rename_i hr;cases e;have n6:¬ ((r.length:Int)+1+1<=6):=()
  simp_all![wsD,bC,add_int,n2,n6]
theorem yy(T:Txt K mg A):Has P w K mg base 5 "call_form" ["words"] (spP K (jB (ldW ji))):=by
 have SU:=@jk P w _ _ base _ T;have Tg:=@lY P w _ _ base _ T;refine asP (mkP T.vH (k:=4) xn λ_ _ _ _ _ _ _ hr hu=>qsc (qif (eG (xx y6 y6 yB yB a8 (qcB cb cO T.cE (aa (qv 0) aA)) (qop cx Zn a8 (my T.jx)))) (qs1 (bw dq)) qs0) (qs1 (bw (bz Tg hr (aa (qv 0) (aa (jc (N:=["word"]) (own:=1) (fr:=[]) (cv.of (by kernel_rfl!)) (qit true (qsl (qv 0) (yl a8) HN)) (λb=>qgn 0 (show U4 (["word"]:List Ve) by decide+kernel)) (λb=>qf0) (λb=>bz SU hr (aa (qv 0) aA)) (fA ∅)) aA)))))) λds d e=>?_;obtain⟨ws,rfl,h1,h2,e⟩:=fk e;show P6 _ _=_;match ws,h1,h2,e with
 | [],_,_,e=>cases e;simp_all![wsD,bC]
 | [a],_,_,e=>cases e;simp_all![wsD,bC]
 |a::b::r,h1,h2,e=>
  unfold ldW at e;dsimp only at e;have n2:(2:Int)<=(r.length:Int)+1+1:=()
  split at e
  ·rename_i hr;obtain⟨ps,e1,e⟩:=bnd e;cases e;have n6:(r.length:Int)+1+1<=6:=()
   obtain⟨_,h1⟩:=du h1;obtain⟨hb,h1⟩:=du h1;have hc:cD (gN 0) eW (aN (aO z6) (ag (dV 0) aK)) [] [Zi] (r.map D.str)=Zh ps:=tD (λw hw d e=>{_,rfl,rfl,by simp_all![gN,z6,B1 h1 hw,e]}) e1;have hp:=pP (λw d e=>(gc e).pure) e1;have hl:=tG e1;have hl2:ps.length<=640:=()
   have hl3:ps.length<=sizeLine:=Qi hl2 ∅;simp_all![wsD,bC,add_int,n2,n6,dSl,oAt,oNo,pJ,KW,hc,hp,hl2,hl3,HB,hb,c5,zK]
  rename_i hr;cases e;have n6:¬ ((r.length:Int)+1+1<=6):=()
  simp_all![wsD,bC,add_int,n2,n6]
theorem Ks:dv (.adr x)=false:=rfl
noncomputable def EX:List (Str×Nat):=[("hand",1),("let",1),("given",2),("own",3),("deed",4),("main",0),("set",5),("send",5),("put",6),("say",7),("call",8),("last",0),("end",0),("else",0),("if",9),("loop",10)]
def fW:Nat->List Str->Option D
 |0=>OV
 |1=>Du
 |2=>FY
 |3=>F6
 |4=>ldW λw=>Zh (nmD w)
 |5=>CU
 |6=>IZ
 |7=>EN
 |8=>ldW ji
 |_=>λ_=>Zi
noncomputable def fN:Nat->Str
 |0=>"alone_form"
 |1=>"ranked_form"
 |2=>"given_form"
 |3=>"own_form"
 |4=>"deed_form"
 |5=>"named_value_form"
 |6=>"put_form"
 |7=>"say_form"
 |_=>"call_form"
theorem IQ(T:Txt K mg A):∀n,n<9->Has P w K mg base 6 (fN n) ["words"] (spP K (jB (fW n)))
 |0,_=>(wz T).mono ∅
 |1,_=>(uJ T).mono ∅
 |2,_=>(xh T).mono ∅
 |3,_=>(Ah T).mono ∅
 |4,_=>(yo T).mono ∅
 |5,_=>mU T
 |6,_=>Ay T
 |7,_=>Am T
 |8,_=>(yy T).mono ∅
 |n+9,h=>absurd h ()
structure sR(P:Program)(w:UC)(K:Uw)(mg:Str->Option Ut)(a:Uu)(fs:Nat->Uu):Prop where
 gl:mg "TAKERS"=Zh (.ref a)
 fn:∀n,n<9->mg (fN n)=Zh (.ref (fs n))
 inj:∀i j,i<9->j<9->fs i=fs j->i=j
 dic:xk P w K a (EX.map λp=>(p.1,.adr (fs p.2)))
theorem Ae{α β γ:Type}[BEq α](g:β->γ)(z:α):∀l:List (α×β),(l.map λp=>(p.1,g p.2)).lookup z=(l.lookup z).map g
 | []=>rfl
 | (a,b)::r=>by
  show(match z==a with|true=>Zh (g b)|false=>(r.map λp=>(p.1,g p.2)).lookup z)=Option.map g (match z==a with|true=>Zh b|false=>r.lookup z);cases z==a
  ·exact Ae g z r
  rfl
def EW(fs:Nat->Uu):List (Uu×(List D->Option D)):=(UJ 9).map λn=>(fs n,jB (fW n))
theorem Eu{α β:Type}[BEq α][LawfulBEq α]{z:α}{b:β}:∀{l:List (α×β)},l.lookup z=Zh b->(z,b)∈l
 | (a,c)::r,e=>by
  have e':(match z==a with|true=>Zh c|false=>r.lookup z)=Zh b:=e;cases h:z==a with
  |true=>rw[h]at e';cases e';rw[eq_of_beq h];exact Qb
  |false=>rw[h]at e';exact Qa _ (Eu e')
theorem MY(inj:∀i j,i<9->j<9->fs i=fs j->i=j)(n:Nat)(h:n<9):(EW fs).lookup (fs n)=Zh (jB (fW n)):=by
 cases e:(EW fs).lookup (fs n)with
 |some F=>
  have:=Eu e;unfold EW at this;obtain⟨m,hm,e2⟩:=Qr.mp this;have hm:=Rk.mp hm;have e3:=inj m n hm h (congrArg Prod.fst e2);subst e3;exact congrArg Zh (congrArg Prod.snd e2).symm
 |none=>
  have:=R9.mp e (fs n,jB (fW n)) (Qr.mpr ⟨n,Rk.mpr h,rfl⟩);simp at this
def Bg(ws:List Str):Option D:=match ws with
 | []=>Zi
 |w::_=>match EX.lookup w with
  |none=>Zh .non
  |some n=>if n<9 then fW n ws else Zi
def Kx:List D->Option D
 | [.str t]=>if t.length<=sizeLine/\(jh t " ").length<=640/\sml (jh t " ")=true then(Bg (jh t " ")).bind λd=>if bP d=true then Zh d else Zi else Zi
 |_=>Zi
theorem Dt(T:Txt K mg A)(tk:sR P w K mg a fs):Has P w K mg base 7 "form_of" ["text"] (spP K Kx):=by
 have kd_TAKERS:=And.intro tk.gl tk.dic;have ht:∀f F,(EW fs).lookup f=Zh F->FnV P w K mg base 6 f F:=λf F e=>by
  have:=Eu e;unfold EW at this;obtain⟨m,hm,e2⟩:=Qr.mp this;have hm:=Rk.mp hm;cases e2;exact FnV.of (IQ T m hm) (tk.fn m hm) (Qf _)
 refine asP (mkP T.Bj (k:=6) nv λ_ _ _ _ _ _ _ hr hu=>qsc (cG 1 nv.nd (AS (qv 0) (aa bE aA))) (qsc (cG 2 nv.nd (Nn kd_TAKERS.1 kd_TAKERS.2 (qix hu (qv 1) a8))) (qsc (qif (bo uo ZL (qv 2) dq) (qs1 (bw dq)) qs0) (qs1 (bw (Le 2 ht hr (aa (qv 1) aA))))))) λds d e=>?_;unfold Kx at e;split at e
 case h_2=>cases e
 rename_i t;split at e
 case isFalse=>cases e
 rename_i h;obtain⟨x,e1,e⟩:=bnd e;split at e
 case isFalse=>cases e
 rename_i hp;cases e;show P6 _ _=_;have hs:zi [] (.str t) [.str " "]=Zh (.lst ((jh t " ").map D.str)):=if_pos {∅,h.1,Qi h.2.1 ∅};have hi:o7 [] (.str t)=true:=rfl;obtain⟨_,h2,h3⟩:=h;generalize jh t " "=ws at hs e1 h2 h3;cases ws with
 |nil=>cases e1
 |cons w r=>
  have hL:=Ae (λn=>D.adr (fs n)) w EX;rw[Qc]at hs;unfold Bg at e1;dsimp only at e1;split at e1
  ·rename_i hk;cases e1;rw[hk]at hL;simp_all![g7,hi,hs,bg,at0,GA,hL]
  rename_i n hk;rw[hk]at hL;split at e1
  ·rename_i hn;have hw:=(rJ (f:=fW n) (ws:=w::r) h3 h2).trans e1;rw[Qc]at hw;have hpu:bD (.str w::r.map D.str)=true:=c5 (w::r);simp_all![g7,hi,hs,bg,at0,GA,hL,Ks,Ai,MY tk.inj n hn,hw,hpu,c5,aZ hp]
  cases e1
end
theorem Ke(g w:Str):sgn g w=w.cps.toList.all (inS g):=by
 unfold sgn chS;rw[List.all_map];rfl
theorem gO:mI x sg m=true↔1<=x.length/\(x.length:Int)<=m/\∀c∈x.cps.toList,inS sg c=true:=by
 unfold mI;rw[Ke,Qs,Qs,QM,decide_eq_true_iff,decide_eq_true_iff];constructor
 ·rintro⟨h1,h2,h3⟩;exact{(),h2,h3}
 rintro⟨h1,h2,h3⟩;exact{(),h2,h3}
theorem rS(h:mI x FIG m=true):Yn x.cps.toList/\x.cps.toList≠[]:=by
 obtain⟨h1,h2,h3⟩:=gO.mp h;refine{λc hc=>?_,λe=>?_}
 ·have:=h3 c hc;rw[Ct]at this;exact of_decide_eq_true this
 have:=ZC x;rw[e]at this;simp at this;lia
noncomputable def BN(x:Str):Bool:=decide (x.cps.toList.head?=Zh 48)&&decide ((1:Int)<(x.length:Int))
noncomputable def ZO(x:Str):Int:=(Yo x.cps.toList:Nat)
theorem G6(h:mI x FIG 12=true):V7 x=Zh (ZO x)/\x.length<=640:=by
 obtain⟨h1,h2,h3⟩:=gO.mp h;obtain⟨d1,d2⟩:=rS h;exact{PySem.intText_digits d1 d2 (),()}
theorem zu(h:mI x FIG m=true):isNm x=false:=by
 obtain⟨d1,d2⟩:=rS h;cases e:isNm x with
 |false=>rfl
 |true=>
  obtain⟨_,_,h3⟩:=gO.mp e;cases hc:x.cps.toList with
  |nil=>exact absurd hc d2
  |cons c r=>
   have k1:=d1 c (by rw[hc];exact Qb);have k2:=h3 c (by rw[hc];exact Qb);rw[rq]at k2;have:=of_decide_eq_true k2;lia
theorem DV(c:Nat):decide (V.str ⟨#[c]⟩=V.str "0")=decide (c=48):=by
 apply decide_eq_decide.mpr;constructor
 ·intro h;have h':(⟨#[c]⟩:Str)=("0":Str):=V.str.inj h;have e:=EH.mp h';have e0:("0":Str).cps.toList=[48]:=by decide+kernel
  rw[e0]at e;exact(Wt e).1
 rintro rfl;rfl
theorem II(x:Str):decide (V.str x=V.str "0")=decide (x.cps.toList=[48]):=by
 apply decide_eq_decide.mpr;have e0:("0":Str).cps.toList=[48]:=by decide+kernel
 constructor
 ·intro h;rw[V.str.inj h,e0]
 intro h;rw[EH.mpr (h.trans e0.symm)]
theorem zero_eq(hc:x.cps.toList.head?=Zh c):(decide (c=48)&& !decide (V.str x=V.str "0"))=BN x:=by
 unfold BN;rw[II,hc];cases h:x.cps.toList with
 |nil=>rw[h]at hc;cases hc
 |cons d r=>
  rw[h]at hc;have ed:d=c:=UE hc;subst ed;have hl:=ZC x;rw[h,Qd]at hl;by_cases hz:d=48
  ·subst hz;cases r with
   |nil=>
    have:¬ (1:Int)<(x.length:Int):=by simp at hl;lia
    simp[this]
   |cons _ _=>
    have:(1:Int)<(x.length:Int):=by simp at hl;lia
    simp[this]
  simp[hz]
theorem Ht{x:Str}(h:1<=x.length):∃c,x.cps.toList.head?=Zh c/\atI x.cps.toList 0=Zh c:=by
 have hl:=ZC x;cases e:x.cps.toList with
 |nil=>rw[e]at hl;simp at hl;lia
 |cons c r=>exact{c,rfl,Hy (j:=0) rfl}
theorem JF:∀(k m:Nat),m<10^(k+1)->(QB 10 m).length<=k+1
 |0,m,h=>by rw[QK (by simpa using h)];exact Qf _
 |k+1,m,h=>by
  by_cases hm:m<10
  ·rw[QK hm];exact RM (Se _)
  have h10:m%10<10:=SE m ∅;have t:QB 10 (m/10)++QB 10 (m%10)=QB 10 (10*(m/10)+m%10):=Rr ∅ () h10;rw[Sk]at t;have q:=JF k (m/10) (by rw[SJ]at h;lia);rw[<-t,Qj,QK h10];exact RM q
theorem zL:∀(k m:Nat),10^k<=m->k+1<=(QB 10 m).length
 |0,m,_=>by
  by_cases hm:m<10
  ·rw[QK hm];exact Qf _
  have h10:m%10<10:=SE m ∅;have t:QB 10 (m/10)++QB 10 (m%10)=QB 10 (10*(m/10)+m%10):=Rr ∅ () h10;rw[Sk]at t;rw[<-t,Qj,QK h10];exact Nat.le_add_left _ _
 |k+1,m,h=>by
  have hp:0<10^k:=Nat.pow_pos ∅;have hm:¬ m<10:=by rw[SJ]at h;lia
  have h10:m%10<10:=SE m ∅;have t:QB 10 (m/10)++QB 10 (m%10)=QB 10 (10*(m/10)+m%10):=Rr ∅ () h10;rw[Sk]at t;have q:=zL k (m/10) (by rw[SJ]at h;lia);rw[<-t,Qj,QK h10];exact RM q
theorem Hm(m:Nat):(QB 10 m).head?=Zh '0'->(QB 10 m).length=1:=by
 induction m using Nat.strongRecOn with
 |_ m ih=>
  by_cases hm:m<10
  ·rw[QK hm];intro _;rfl
  have h10:m%10<10:=SE m ∅;have t:QB 10 (m/10)++QB 10 (m%10)=QB 10 (10*(m/10)+m%10):=Rr ∅ () h10;rw[Sk]at t;intro hh;exfalso;rw[<-t]at hh;have ge:=zL 0 (m/10) ();cases e:QB 10 (m/10)with
  |nil=>rw[e]at ge;simp at ge
  |cons c r=>
   rw[e]at hh;have hc:c='0':=UE hh;have:=ih (m/10) () (by rw[e,hc];rfl);rw[e]at this;have er:r=[]:=by cases r with|nil=>rfl|cons _ _=>simp at this
   rw[er,hc]at e;by_cases hq:m/10<10
   ·rw[QK hq]at e;have e':=(Wt e).1;have key:∀d:Nat,d<10->Nat.digitChar d='0'->d=0:=∅
    have:=key _ hq e';lia
   have:=zL 1 (m/10) ();rw[e]at this;simp at this
theorem lL(m:Nat):(UU (toString ((m:Nat):Int))).cps.toList=(QB 10 m).map Char.toNat:=W.KIN.signs_num m
theorem lP(m:Nat):Yn (UU (toString ((m:Nat):Int))).cps.toList/\Yo (UU (toString ((m:Nat):Int))).cps.toList=m/\1<=(UU (toString ((m:Nat):Int))).length/\
  ((UU (toString ((m:Nat):Int))).cps.toList.head?=Zh 48->(UU (toString ((m:Nat):Int))).length=1)/\(∀k,m<10^(k+1)->(UU (toString ((m:Nat):Int))).length<=k+1)/\(∀k,10^k<=m->k+1<=(UU (toString ((m:Nat):Int))).length):=by
 have hl:(UU (toString ((m:Nat):Int))).length=(QB 10 m).length:=by rw[<-ZC,lL,P8]
 refine{?_,?_,?_,?_,λk h=>by rw[hl];exact JF k m h,λk h=>by rw[hl];exact zL k m h}
 ·intro c hc;rw[lL]at hc;obtain⟨ch,hch,e⟩:=Qr.mp hc;have r:=Nat.isDigit_of_mem_toDigits ∅ ∅ hch;rw[<-e];unfold Char.isDigit at r;rw[Qs,decide_eq_true_iff,decide_eq_true_iff]at r;exact⟨r.1,r.2⟩
 ·rw[lL,W.KIN.val_back]
 ·rw[hl];by_cases h0:1<=m
  ·exact zL 0 m (by simpa using h0)
  have:m=0:=()
  subst this;decide
 rw[hl,lL,List.head?_map]
 intro h
 cases e:(QB 10 m).head? with
 |none=>rw[e]at h;cases h
 |some c=>
  rw[e]at h
  have hc:c.toNat=48:=UE h
  have:c='0':=by
   apply Char.ext;apply UInt32.toNat_inj.mp;exact hc
  rw[this]at e
  exact Hm m e
theorem yd(h:m<10^12):ji (UU (toString ((m:Nat):Int)))=Zh (.int m)/\nV (UU (toString ((m:Nat):Int)))=Zh (.int m)/\(UU (toString ((m:Nat):Int))).length<=12:=by
 obtain⟨f1,f2,f3,f4,f5,f6⟩:=lP m;have hl:=f5 11 (by simpa using h);have hm:mI (UU (toString ((m:Nat):Int))) FIG 12=true:=gO.mpr {f3,(),λc hc=>by rw[Ct];exact decide_eq_true (f1 c hc)};have hv:ZO (UU (toString ((m:Nat):Int)))=m:=by unfold ZO;rw[f2]
 have hn:=zu hm;have ht:=(G6 hm).1;rw[hv]at ht;generalize UU (toString ((m:Nat):Int))=x at *;have hz:BN x=false:=by
  unfold BN;by_cases h0:x.cps.toList.head?=Zh 48
  ·have:=f4 h0;rw[decide_eq_false (show ¬ (1:Int)<(x.length:Int) by lia),YZ]
  rw[decide_eq_false h0,Sz]
 have hd:nV x=Zh (.int m):=by
  unfold nV;rw[if_pos hm];obtain⟨c,hc,_⟩:=Ht f3;unfold Eg;cases e:x.cps.toList with
  |nil=>rw[e]at hc;cases hc
  |cons d r=>
   have hc':=hc;rw[e]at hc;have:d=c:=UE hc;subst this;dsimp only;rw[DV,zero_eq hc',hz,if_neg Qn,ht];rfl
 refine{?_,hd,hl};unfold ji;rw[hn,if_neg Qn];exact hd
theorem Dd(h1:1<=x.length)(h2:x.length<=8)(h3:∀c∈x.cps.toList,97<=c/\c<=122):isNm x=true:=gO.mpr {h1,(),λc hc=>by rw[rq];exact decide_eq_true (h3 c hc)}
theorem zv(h:isNm x=true):ji x=Zh (.str x):=by unfold ji;rw[if_pos h]
theorem dG(h:isNm x=true):nmD x=.str x:=by unfold nmD;rw[if_pos h]
section
variable{P:Program}{w:UC}{K:Uw}{mg:Str->Option Ut}{base:UT}{A:Adr}
seal PE PA PS PSs PT PW
theorem pB(T:Txt K mg A):df K "number" [A.Row,A.bp,A.bj,A.bF,A.bH,A.bG,A.bA,A.bq,A.bu,A.bh,A.bO,A.b5,A.bt,A.a6]:=by
 intro C h;dsimp! at h;rcases h with rfl|rfl|rfl|rfl|rfl|rfl|rfl|rfl|rfl|rfl|rfl|rfl|rfl|rfl
 ·exact⟨T.jH.cl,T.o5⟩
 ·exact⟨T.eE.cl,T.iT⟩
 ·exact⟨T.dy.cl,T.hG⟩
 ·exact⟨T.fG.cl,T.jG⟩
 ·exact⟨T.fJ.cl,T.jE⟩
 ·exact⟨T.fH.cl,T.jU⟩
 ·exact⟨T.eJ.cl,T.jC⟩
 ·exact⟨T.eA.cl,T.iR⟩
 ·exact⟨T.d5.cl,T.jR⟩
 ·exact⟨T.dB.cl,T.i9⟩
 ·exact⟨T.o8.cl,T.i8⟩
 ·exact⟨T.gb.cl,T.lj⟩
 ·exact⟨T.ff.cl,T.i0⟩
 exact⟨T.dm.cl,T.iV⟩
theorem bZ(T:Txt K mg A):df K "name" [A.bp,A.bj,A.bF,A.bH,A.bG,A.bA,A.bq,A.bu,A.bh,A.a6]:=by
 intro C h;dsimp! at h;rcases h with rfl|rfl|rfl|rfl|rfl|rfl|rfl|rfl|rfl|rfl
 ·exact⟨T.eE.cl,T.kT⟩
 ·exact⟨T.dy.cl,T.jN⟩
 ·exact⟨T.fG.cl,T.mE⟩
 ·exact⟨T.fJ.cl,T.l7⟩
 ·exact⟨T.fH.cl,T.mK⟩
 ·exact⟨T.eJ.cl,T.mB⟩
 ·exact⟨T.eA.cl,T.kq⟩
 ·exact⟨T.d5.cl,T.mH⟩
 ·exact⟨T.dB.cl,T.j9⟩
 exact⟨T.dm.cl,T.lI⟩
theorem lN(T:Txt K mg A):df K "rank" [A.bp,A.bj,A.bH]:=by
 intro C h;dsimp! at h;rcases h with rfl|rfl|rfl
 ·exact⟨T.eE.cl,T.lG⟩
 ·exact⟨T.dy.cl,T.jJ⟩
 exact⟨T.fJ.cl,T.mJ⟩
theorem lM(T:Txt K mg A):df K "size" [A.bj,A.bF]:=by
 intro C h;dsimp! at h;rcases h with rfl|rfl
 ·exact⟨T.dy.cl,T.jW⟩
 exact⟨T.fG.cl,T.me⟩
theorem dA(T:Txt K mg A):df K "value" [A.bG,A.bA,A.bq,A.bu,A.b5]:=by
 intro C h;dsimp! at h;rcases h with rfl|rfl|rfl|rfl|rfl
 ·exact⟨T.fH.cl,T.ki⟩
 ·exact⟨T.eJ.cl,T.lg⟩
 ·exact⟨T.eA.cl,T.jQ⟩
 ·exact⟨T.d5.cl,T.kR⟩
 exact⟨T.gb.cl,T.mP⟩
theorem uh(T:Txt K mg A):df K "place" [A.bA]:=by
 intro C h;dsimp! at h;subst h;exact⟨T.eJ.cl,T.ko⟩
theorem rB(T:Txt K mg A):df K "mark" [A.bu]:=by
 intro C h;dsimp! at h;subst h;exact⟨T.d5.cl,T.mG⟩
theorem iY(T:Txt K mg A):df K "things" [A.bh]:=by
 intro C h;dsimp! at h;subst h;exact⟨T.dB.cl,T.iO⟩
theorem Ea(T:Txt K mg A):df K "first" [A.b5]:=by
 intro C h;dsimp! at h;subst h;exact⟨T.gb.cl,T.mF⟩
theorem D8(T:Txt K mg A):df K "other" [A.b5]:=by
 intro C h;dsimp! at h;subst h;exact⟨T.gb.cl,T.lU⟩
theorem nP(T:Txt K mg A):df K "body" [A.bt,A.a6]:=by
 intro C h;dsimp! at h;rcases h with rfl|rfl
 ·exact⟨T.ff.cl,T.lF⟩
 exact⟨T.dm.cl,T.kP⟩
theorem gm(T:Txt K mg A):df K "parts" [A.a6]:=by
 intro C h;dsimp! at h;subst h;exact⟨T.dm.cl,T.jX⟩
theorem ou(T:Txt K mg A):df K "heads" [A.Program]:=by
 intro C h;dsimp! at h;subst h;exact⟨T.eU.cl,T.jO⟩
theorem dn(T:Txt K mg A):df K "deeds" [A.Program]:=by
 intro C h;dsimp! at h;subst h;exact⟨T.eU.cl,T.jL⟩
theorem nX(T:Txt K mg A):df K "main" [A.Program]:=by
 intro C h;dsimp! at h;subst h;exact⟨T.eU.cl,T.lE⟩
theorem oA(T:Txt K mg A):df K "kinds" [A.bS]:=by
 intro C h;dsimp! at h;subst h;exact⟨T.fj.cl,T.mj⟩
theorem sO(T:Txt K mg A):df K "ended" [A.bS]:=by
 intro C h;dsimp! at h;subst h;exact⟨T.fj.cl,T.mv⟩
theorem ju(T:Txt K mg A):df K "deed" [A.bS]:=by
 intro C h;dsimp! at h;subst h;exact⟨T.fj.cl,T.oH⟩
theorem pL(T:Txt K mg A):df K "spoken" [A.bS]:=by
 intro C h;dsimp! at h;subst h;exact⟨T.fj.cl,T.j6⟩
theorem oN(T:Txt K mg A):df K "word" [A.Opened]:=by
 intro C h;dsimp! at h;subst h;exact⟨T.gA.cl,T.lZ⟩
theorem DM(T:Txt K mg A):df K "row" [A.Opened]:=by
 intro C h;dsimp! at h;subst h;exact⟨T.gA.cl,T.oP⟩
theorem xB(T:Txt K mg A):df K "rows" [A.Opened]:=by
 intro C h;dsimp! at h;subst h;exact⟨T.gA.cl,T.l0⟩
theorem ee(T:Txt K mg A):df K "program" [A.Reader]:=by
 intro C h;dsimp! at h;subst h;exact⟨T.c7.cl,T.i6⟩
theorem oU(T:Txt K mg A):df K "names" [A.Reader]:=by
 intro C h;dsimp! at h;subst h;exact⟨T.c7.cl,T.kf⟩
theorem cK(T:Txt K mg A):df K "opened" [A.Reader]:=by
 intro C h;dsimp! at h;subst h;exact⟨T.c7.cl,T.jD⟩
theorem kh(T:Txt K mg A):df K "begun" [A.Reader]:=by
 intro C h;dsimp! at h;subst h;exact⟨T.c7.cl,T.ke⟩
theorem qO(D:cH P w K mg base k C m ps (spI K F))(h:∀ds M d M',G ds M=Zh (d,M')->F ds M=Zh (d,M')):cH P w K mg base k C m ps (spI K G):=D.imp λvs H Q E q=>by
 obtain⟨E',Z,X,M,ds,d,M',e,R,t,kk⟩:=q;exact⟨E',Z,X,M,ds,d,M',h ds M d M' e,R,t,kk⟩
noncomputable abbrev Nz(A:Adr):List Uu:=[A.bp,A.bj,A.bF,A.bH,A.bG,A.bA,A.bq,A.bu,A.bh,A.bO,A.b5,A.bt,A.a6]
noncomputable def jY(cs:List Uu)(fn:List Str):List D->MS->Option (D×MS):=λds M=>match ds with
 | .cell n::vs=>match M[n]? with
  |some (.obj C [] [])=>if C∈cs/\vs.length=fn.length then Zh (.non,M.set n (.obj C fn vs))else Zi
  |_=>Zi
 |_=>Zi
theorem gG(e:jY cs fn ds M=Zh (d,M')):∃n vs C,ds=.cell n::vs/\M[n]?=Zh (.obj C [] [])/\C∈cs/\vs.length=fn.length/\d=.non/\M'=M.set n (.obj C fn vs):=by
 unfold jY at e;split at e
 ·split at e
  ·rename_i n vs _ C hM;split at e
   ·rename_i h;cases e;exact⟨n,vs,C,rfl,hM,h.1,h.2,rfl,rfl⟩
   cases e
  cases e
 cases e
theorem B3(h1:re B M=Zh d)(h2:ro B M=Zh (.cell n))(h3:M[n]?=Zh (.obj C fn ds))(h4:C∈cs)(h5:fn.length<1000):yg f cs ro re B M=Zh (.nx B (M.set n (.obj C (ZK f d fn ds).1 (ZK f d fn ds).2))):=by
 unfold yg;rw[h1];show(ro B M).bind _=_;rw[h2];show(match M[n]? with|some (.obj C fn ds)=>_|_=>Zi)=_;rw[h3];exact if_pos ⟨h4,h5⟩
theorem dh(T:Txt K mg A):cH P w K mg base 1 A.Row "__init__" ["self","number"] (spI K (jY (Nz A) ["number"])):=by
 refine qO (fw T.sm (k:=0) y9 λ_ _ _ _ _ _ _ hr hu=>qs1 (cR (pB T) (qv 0) (qv 1))) λds M d M' e=>?_;obtain⟨n,vs,C,rfl,hM,hC,hl,rfl,rfl⟩:=gG e;obtain⟨v,rfl⟩:∃v,vs=[v]:=by
  match vs,hl with
  | [v],_=>exact⟨v,rfl⟩
 show P6 _ _=_;have hC':C∈[A.Row,A.bp,A.bj,A.bF,A.bH,A.bG,A.bA,A.bq,A.bu,A.bh,A.bO,A.b5,A.bt,A.a6]:=Qa _ hC;exact(congrArg (P6 · bT) (B3 (d:=v) (n:=n) rfl rfl hM hC' ∅)).trans rfl
theorem aR(h1:r B M=Zh (.nx B' M'))(h2:u B' M'=Zh o):aP r u B M=Zh o:=by
 unfold aP;rw[h1];exact h2
theorem eI(h1:re B M=Zh d)(h2:ro B M=Zh (.cell n))(h3:M[n]?=Zh (.obj C fn ds))(h4:C∈cs)(h5:fn.length<1000)(h6:ZK f d fn ds=(fn',ds')):yg f cs ro re B M=Zh (.nx B (M.set n (.obj C fn' ds'))):=by
 rw[B3 h1 h2 h3 h4 h5,h6]
theorem cP{M:MS}{n:Nat}{o o':Ob}(h:M[n]?=Zh o):(M.set n o')[n]?=Zh o':=by
 rw[Rt (Qh.mp h).1]
theorem eT(hM:M[n]?=Zh (.obj C [] []))(hC:C∈cs)(hl:vs.length=fn.length):jY cs fn (.cell n::vs) M=Zh (.non,M.set n (.obj C fn vs)):=by
 unfold jY;dsimp only;rw[hM];exact if_pos ⟨hC,hl⟩
theorem d3(h1:rs B M=Zh (ds,M0))(h2:F ds M0=Zh (d,M')):kS (sF F rs) B M=Zh (.nx B M'):=by
 unfold kS sF;rw[h1];show(F ds M0).bind _=_;rw[h2];rfl
theorem ub(T:Txt K mg A):cH P w K mg base 2 A.bp "__init__" ["self","number","name","rank"] (spI K (jY [A.bp] ["number","name","rank"])):=by
 have SM:=@dh P w _ _ base _ T;refine qO (fw T.kM (k:=1) rg λ_ _ _ _ _ _ _ hr hu=>qsc (dQ (fo T.jH T.cM SM hr (b7 (eQ (qv 0)) (b7 (eQ (qv 1)) fP)))) (qsc (cR (bZ T) (qv 0) (qv 2)) (qs1 (cR (lN T) (qv 0) (qv 3))))) λds M d M' e=>?_;obtain⟨n,vs,C,rfl,hM,hC,hl,rfl,rfl⟩:=gG e;obtain rfl:=Qg.mp hC;match vs,hl,e with
 | [v0,v1,v2],_,_=>
  have s0:=cP (o':=Ob.obj A.bp ["number"] [v0]) hM;have s1:=cP (o':=Ob.obj A.bp ["number","name"] [v0,v1]) s0;refine(congrArg (P6 · bT) (aR (d3 rfl (eT hM (by simp) rfl)) (aR (eI (f:="name") (d:=v1) (n:=n) (fn':=["number","name"]) (ds':=[v0,v1]) rfl rfl s0 (by simp) (by show(1:Nat)<1000;decide) rfl) (eI (f:="rank") (d:=v2) (n:=n) (fn':=["number","name","rank"]) (ds':=[v0,v1,v2]) rfl rfl s1 (by simp) (by show(2:Nat)<1000;decide) rfl)))).trans ?_;show Zh (D.non,_)=_;rw[Qt];rw[Qt]
theorem qS(T:Txt K mg A):cH P w K mg base 2 A.bj "__init__" ["self","number","name","rank","size"] (spI K (jY [A.bj] ["number","name","rank","size"])):=by
 have SM:=@dh P w _ _ base _ T;refine qO (fw T.jK (k:=1) pA λ_ _ _ _ _ _ _ hr hu=>qsc (dQ (fo T.jH T.cM SM hr (b7 (eQ (qv 0)) (b7 (eQ (qv 1)) fP)))) (qsc (cR (bZ T) (qv 0) (qv 2)) (qsc (cR (lN T) (qv 0) (qv 3)) (qs1 (cR (lM T) (qv 0) (qv 4)))))) λds M d M' e=>?_;obtain⟨n,vs,C,rfl,hM,hC,hl,rfl,rfl⟩:=gG e;obtain rfl:=Qg.mp hC;match vs,hl,e with
 | [v0,v1,v2,v3],_,_=>
  have s0:=cP (o':=Ob.obj A.bj ["number"] [v0]) hM;have s1:=cP (o':=Ob.obj A.bj ["number","name"] [v0,v1]) s0;have s2:=cP (o':=Ob.obj A.bj ["number","name","rank"] [v0,v1,v2]) s1;refine(congrArg (P6 · bT) (aR (d3 rfl (eT hM (by simp) rfl)) (aR (eI (f:="name") (d:=v1) (n:=n) (fn':=["number","name"]) (ds':=[v0,v1]) rfl rfl s0 (by simp) (by show(1:Nat)<1000;decide) rfl) (aR (eI (f:="rank") (d:=v2) (n:=n) (fn':=["number","name","rank"]) (ds':=[v0,v1,v2]) rfl rfl s1 (by simp) (by show(2:Nat)<1000;decide) rfl) (eI (f:="size") (d:=v3) (n:=n) (fn':=["number","name","rank","size"]) (ds':=[v0,v1,v2,v3]) rfl rfl s2 (by simp) (by show(3:Nat)<1000;decide) rfl))))).trans ?_;show Zh (D.non,_)=_;rw[Qt];rw[Qt];rw[Qt]
theorem uI(T:Txt K mg A):cH P w K mg base 2 A.bF "__init__" ["self","number","name","size"] (spI K (jY [A.bF] ["number","name","size"])):=by
 have SM:=@dh P w _ _ base _ T;refine qO (fw T.mz (k:=1) rP λ_ _ _ _ _ _ _ hr hu=>qsc (dQ (fo T.jH T.cM SM hr (b7 (eQ (qv 0)) (b7 (eQ (qv 1)) fP)))) (qsc (cR (bZ T) (qv 0) (qv 2)) (qs1 (cR (lM T) (qv 0) (qv 3))))) λds M d M' e=>?_;obtain⟨n,vs,C,rfl,hM,hC,hl,rfl,rfl⟩:=gG e;obtain rfl:=Qg.mp hC;match vs,hl,e with
 | [v0,v1,v2],_,_=>
  have s0:=cP (o':=Ob.obj A.bF ["number"] [v0]) hM;have s1:=cP (o':=Ob.obj A.bF ["number","name"] [v0,v1]) s0;refine(congrArg (P6 · bT) (aR (d3 rfl (eT hM (by simp) rfl)) (aR (eI (f:="name") (d:=v1) (n:=n) (fn':=["number","name"]) (ds':=[v0,v1]) rfl rfl s0 (by simp) (by show(1:Nat)<1000;decide) rfl) (eI (f:="size") (d:=v2) (n:=n) (fn':=["number","name","size"]) (ds':=[v0,v1,v2]) rfl rfl s1 (by simp) (by show(2:Nat)<1000;decide) rfl)))).trans ?_;show Zh (D.non,_)=_;rw[Qt];rw[Qt]
theorem uE(T:Txt K mg A):cH P w K mg base 2 A.bH "__init__" ["self","number","name","rank"] (spI K (jY [A.bH] ["number","name","rank"])):=by
 have SM:=@dh P w _ _ base _ T;refine qO (fw T.lX (k:=1) tY λ_ _ _ _ _ _ _ hr hu=>qsc (dQ (fo T.jH T.cM SM hr (b7 (eQ (qv 0)) (b7 (eQ (qv 1)) fP)))) (qsc (cR (bZ T) (qv 0) (qv 2)) (qs1 (cR (lN T) (qv 0) (qv 3))))) λds M d M' e=>?_;obtain⟨n,vs,C,rfl,hM,hC,hl,rfl,rfl⟩:=gG e;obtain rfl:=Qg.mp hC;match vs,hl,e with
 | [v0,v1,v2],_,_=>
  have s0:=cP (o':=Ob.obj A.bH ["number"] [v0]) hM;have s1:=cP (o':=Ob.obj A.bH ["number","name"] [v0,v1]) s0;refine(congrArg (P6 · bT) (aR (d3 rfl (eT hM (by simp) rfl)) (aR (eI (f:="name") (d:=v1) (n:=n) (fn':=["number","name"]) (ds':=[v0,v1]) rfl rfl s0 (by simp) (by show(1:Nat)<1000;decide) rfl) (eI (f:="rank") (d:=v2) (n:=n) (fn':=["number","name","rank"]) (ds':=[v0,v1,v2]) rfl rfl s1 (by simp) (by show(2:Nat)<1000;decide) rfl)))).trans ?_;show Zh (D.non,_)=_;rw[Qt];rw[Qt]
theorem um(T:Txt K mg A):cH P w K mg base 2 A.bG "__init__" ["self","number","name","value"] (spI K (jY [A.bG] ["number","name","value"])):=by
 have SM:=@dh P w _ _ base _ T;refine qO (fw T.ma (k:=1) rO λ_ _ _ _ _ _ _ hr hu=>qsc (dQ (fo T.jH T.cM SM hr (b7 (eQ (qv 0)) (b7 (eQ (qv 1)) fP)))) (qsc (cR (bZ T) (qv 0) (qv 2)) (qs1 (cR (dA T) (qv 0) (qv 3))))) λds M d M' e=>?_;obtain⟨n,vs,C,rfl,hM,hC,hl,rfl,rfl⟩:=gG e;obtain rfl:=Qg.mp hC;match vs,hl,e with
 | [v0,v1,v2],_,_=>
  have s0:=cP (o':=Ob.obj A.bG ["number"] [v0]) hM;have s1:=cP (o':=Ob.obj A.bG ["number","name"] [v0,v1]) s0;refine(congrArg (P6 · bT) (aR (d3 rfl (eT hM (by simp) rfl)) (aR (eI (f:="name") (d:=v1) (n:=n) (fn':=["number","name"]) (ds':=[v0,v1]) rfl rfl s0 (by simp) (by show(1:Nat)<1000;decide) rfl) (eI (f:="value") (d:=v2) (n:=n) (fn':=["number","name","value"]) (ds':=[v0,v1,v2]) rfl rfl s1 (by simp) (by show(2:Nat)<1000;decide) rfl)))).trans ?_;show Zh (D.non,_)=_;rw[Qt];rw[Qt]
theorem uC(T:Txt K mg A):cH P w K mg base 2 A.bA "__init__" ["self","number","name","place","value"] (spI K (jY [A.bA] ["number","name","place","value"])):=by
 have SM:=@dh P w _ _ base _ T;refine qO (fw T.mD (k:=1) tj λ_ _ _ _ _ _ _ hr hu=>qsc (dQ (fo T.jH T.cM SM hr (b7 (eQ (qv 0)) (b7 (eQ (qv 1)) fP)))) (qsc (cR (bZ T) (qv 0) (qv 2)) (qsc (cR (uh T) (qv 0) (qv 3)) (qs1 (cR (dA T) (qv 0) (qv 4)))))) λds M d M' e=>?_;obtain⟨n,vs,C,rfl,hM,hC,hl,rfl,rfl⟩:=gG e;obtain rfl:=Qg.mp hC;match vs,hl,e with
 | [v0,v1,v2,v3],_,_=>
  have s0:=cP (o':=Ob.obj A.bA ["number"] [v0]) hM;have s1:=cP (o':=Ob.obj A.bA ["number","name"] [v0,v1]) s0;have s2:=cP (o':=Ob.obj A.bA ["number","name","place"] [v0,v1,v2]) s1;refine(congrArg (P6 · bT) (aR (d3 rfl (eT hM (by simp) rfl)) (aR (eI (f:="name") (d:=v1) (n:=n) (fn':=["number","name"]) (ds':=[v0,v1]) rfl rfl s0 (by simp) (by show(1:Nat)<1000;decide) rfl) (aR (eI (f:="place") (d:=v2) (n:=n) (fn':=["number","name","place"]) (ds':=[v0,v1,v2]) rfl rfl s1 (by simp) (by show(2:Nat)<1000;decide) rfl) (eI (f:="value") (d:=v3) (n:=n) (fn':=["number","name","place","value"]) (ds':=[v0,v1,v2,v3]) rfl rfl s2 (by simp) (by show(3:Nat)<1000;decide) rfl))))).trans ?_;show Zh (D.non,_)=_;rw[Qt];rw[Qt];rw[Qt]
theorem tW(T:Txt K mg A):cH P w K mg base 2 A.bq "__init__" ["self","number","name","value"] (spI K (jY [A.bq] ["number","name","value"])):=by
 have SM:=@dh P w _ _ base _ T;refine qO (fw T.kQ (k:=1) qM λ_ _ _ _ _ _ _ hr hu=>qsc (dQ (fo T.jH T.cM SM hr (b7 (eQ (qv 0)) (b7 (eQ (qv 1)) fP)))) (qsc (cR (bZ T) (qv 0) (qv 2)) (qs1 (cR (dA T) (qv 0) (qv 3))))) λds M d M' e=>?_;obtain⟨n,vs,C,rfl,hM,hC,hl,rfl,rfl⟩:=gG e;obtain rfl:=Qg.mp hC;match vs,hl,e with
 | [v0,v1,v2],_,_=>
  have s0:=cP (o':=Ob.obj A.bq ["number"] [v0]) hM;have s1:=cP (o':=Ob.obj A.bq ["number","name"] [v0,v1]) s0;refine(congrArg (P6 · bT) (aR (d3 rfl (eT hM (by simp) rfl)) (aR (eI (f:="name") (d:=v1) (n:=n) (fn':=["number","name"]) (ds':=[v0,v1]) rfl rfl s0 (by simp) (by show(1:Nat)<1000;decide) rfl) (eI (f:="value") (d:=v2) (n:=n) (fn':=["number","name","value"]) (ds':=[v0,v1,v2]) rfl rfl s1 (by simp) (by show(2:Nat)<1000;decide) rfl)))).trans ?_;show Zh (D.non,_)=_;rw[Qt];rw[Qt]
theorem uG(T:Txt K mg A):cH P w K mg base 2 A.bu "__init__" ["self","number","name","value","mark"] (spI K (jY [A.bu] ["number","name","value","mark"])):=by
 have SM:=@dh P w _ _ base _ T;refine qO (fw T.mQ (k:=1) tS λ_ _ _ _ _ _ _ hr hu=>qsc (dQ (fo T.jH T.cM SM hr (b7 (eQ (qv 0)) (b7 (eQ (qv 1)) fP)))) (qsc (cR (bZ T) (qv 0) (qv 2)) (qsc (cR (dA T) (qv 0) (qv 3)) (qs1 (cR (rB T) (qv 0) (qv 4)))))) λds M d M' e=>?_;obtain⟨n,vs,C,rfl,hM,hC,hl,rfl,rfl⟩:=gG e;obtain rfl:=Qg.mp hC;match vs,hl,e with
 | [v0,v1,v2,v3],_,_=>
  have s0:=cP (o':=Ob.obj A.bu ["number"] [v0]) hM;have s1:=cP (o':=Ob.obj A.bu ["number","name"] [v0,v1]) s0;have s2:=cP (o':=Ob.obj A.bu ["number","name","value"] [v0,v1,v2]) s1;refine(congrArg (P6 · bT) (aR (d3 rfl (eT hM (by simp) rfl)) (aR (eI (f:="name") (d:=v1) (n:=n) (fn':=["number","name"]) (ds':=[v0,v1]) rfl rfl s0 (by simp) (by show(1:Nat)<1000;decide) rfl) (aR (eI (f:="value") (d:=v2) (n:=n) (fn':=["number","name","value"]) (ds':=[v0,v1,v2]) rfl rfl s1 (by simp) (by show(2:Nat)<1000;decide) rfl) (eI (f:="mark") (d:=v3) (n:=n) (fn':=["number","name","value","mark"]) (ds':=[v0,v1,v2,v3]) rfl rfl s2 (by simp) (by show(3:Nat)<1000;decide) rfl))))).trans ?_;show Zh (D.non,_)=_;rw[Qt];rw[Qt];rw[Qt]
theorem hJ(hp:bD vs=true)(hl:vs.length=fn.length):ZP C (jY [C] fn) M vs=Zh (.obj C fn vs):=by
 unfold ZP;rw[if_pos hp,eT (M:=[.obj C [] []]) (n:=0) (C:=C) rfl (Qg.mpr rfl) hl];show(if bD vs=true then Zh (D.obj C fn vs)else Zi)=_;rw[if_pos hp]
theorem bY:ixD M (.tup ds) (.int i)=atI ds i:=by unfold ixD ba;rfl
theorem iu:bP (.obj C fn b)=bD b:=by unfold bP;rfl
noncomputable def hdD(A:Adr)(n:Int)(k:Str)(vs:List D):Option D:=if k="hand"/\vs.length=2 then Zh (.obj A.bp ["number","name","rank"] (.int n::vs))else
 if k="given"/\vs.length=3 then Zh (.obj A.bj ["number","name","rank","size"] (.int n::vs))else
 if k="own"/\vs.length=2 then Zh (.obj A.bF ["number","name","size"] (.int n::vs))else
 if k="let"/\vs.length=2 then Zh (.obj A.bH ["number","name","rank"] (.int n::vs))else Zi
def hdF(A:Adr):List D->Option D
 | [.int n,.tup (.str k::vs)]=>if bD vs=true then hdD A n k vs else Zi
 |_=>Zi
theorem two(h:l.length=2):∃a b,l=[a,b]:=by
 match l,h with
 | [a,b],_=>exact⟨a,b,rfl⟩
theorem three(h:l.length=3):∃a b c,l=[a,b,c]:=by
 match l,h with
 | [a,b,c],_=>exact⟨a,b,c,rfl⟩
theorem zB(T:Txt K mg A):Has P w K mg base 4 "head_made" ["number","form"] (spP K (hdF A)):=by
 have TK:=@ub P w _ _ base _ T;have Tx:=@qS P w _ _ base _ T;have TY:=@uI P w _ _ base _ T;have TZ:=@uE P w _ _ base _ T;refine asP (mkP T.vL (k:=3) xF λ_ _ _ _ _ _ _ hr hu=>qsc (qif (bo (oeq hu) Zo (qix hu (qv 1) a8) bE) (qs1 (bw (wO T.eE TK hr (aa (qv 0) (aa (qix hu (qv 1) a8) (aa (qix hu (qv 1) a8) aA)))))) qs0) (qsc (qif (bo (oeq hu) Zo (qix hu (qv 1) a8) bE) (qs1 (bw (wO T.dy Tx hr (aa (qv 0) (aa (qix hu (qv 1) a8) (aa (qix hu (qv 1) a8) (aa (qix hu (qv 1) a8) aA))))))) qs0) (qsc (qif (bo (oeq hu) Zo (qix hu (qv 1) a8) bE) (qs1 (bw (wO T.fG TY hr (aa (qv 0) (aa (qix hu (qv 1) a8) (aa (qix hu (qv 1) a8) aA)))))) qs0) (qs1 (bw (wO T.fJ TZ hr (aa (qv 0) (aa (qix hu (qv 1) a8) (aa (qix hu (qv 1) a8) aA))))))))) λds d e=>?_;unfold hdF at e;split at e
 case h_2=>cases e
 rename_i n k vs;split at e
 case isFalse=>cases e
 rename_i hp;show P6 _ _=_;have n1:(("given":Str)="hand")=False:=eq_false ∅;have n2:(("own":Str)="hand")=False:=eq_false ∅;have n3:(("own":Str)="given")=False:=eq_false ∅;have n4:(("let":Str)="hand")=False:=eq_false ∅;have n5:(("let":Str)="given")=False:=eq_false ∅;have n6:(("let":Str)="own")=False:=eq_false ∅;unfold hdD at e;split at e
 ·rename_i h;obtain⟨rfl,h⟩:=h;obtain⟨a,b,rfl⟩:=two h;cases e;simp[ae]at hp;simp_all![bY,at0,at1,at2,eq_str,hJ,iu,hp]
 split at e
 ·rename_i h;obtain⟨rfl,h⟩:=h;obtain⟨a,b,c,rfl⟩:=three h;cases e;simp[ae]at hp;simp_all![bY,at0,at1,at2,at3,eq_str,n1,hJ,iu,hp]
 split at e
 ·rename_i h;obtain⟨rfl,h⟩:=h;obtain⟨a,b,rfl⟩:=two h;cases e;simp[ae]at hp;simp_all![bY,at0,at1,at2,eq_str,n2,n3,hJ,iu,hp]
 split at e
 ·rename_i h;obtain⟨rfl,h⟩:=h;obtain⟨a,b,rfl⟩:=two h;cases e;simp[ae]at hp;simp_all![bY,at0,at1,at2,eq_str,n4,n5,n6,hJ,iu,hp]
 cases e
def IC(A:Adr):List D->MS->Option (D×MS):=λds M=>match ds with
 | [.cell n,a,b,.lst ts]=>jY [A.bh] ["number","name","things"] [.cell n,a,b,.lst ts] M
 |_=>Zi
theorem rR(T:Txt K mg A):cH P w K mg base 2 A.bh "__init__" ["self","number","name","things"] (spI K (IC A)):=by
 have SM:=@dh P w _ _ base _ T;refine qO (fw T.lD (k:=1) rp λ_ _ _ _ _ _ _ hr hu=>qsc (dQ (fo T.jH T.cM SM hr (b7 (eQ (qv 0)) (b7 (eQ (qv 1)) fP)))) (qsc (cR (bZ T) (qv 0) (qv 2)) (qs1 (cR (iY T) (qv 0) (qcT A8 FW T.dN (aa (qv 3) aA)))))) λds M d M' e=>?_;unfold IC at e;split at e
 case h_2=>cases e
 rename_i n a b ts;obtain⟨n',vs,C,e1,hM,hC,hl,rfl,rfl⟩:=gG e;cases e1;obtain rfl:=Qg.mp hC;have s0:=cP (o':=Ob.obj A.bh ["number"] [a]) hM;have s1:=cP (o':=Ob.obj A.bh ["number","name"] [a,b]) s0;refine(congrArg (P6 · bT) (aR (d3 rfl (eT hM (by simp) rfl)) (aR (eI (f:="name") (d:=b) (n:=n) (fn':=["number","name"]) (ds':=[a,b]) rfl rfl s0 (by simp) (by show(1:Nat)<1000;decide) rfl) (eI (f:="things") (d:=.lst ts) (n:=n) (fn':=["number","name","things"]) (ds':=[a,b,.lst ts]) rfl rfl s1 (by simp) (by show(2:Nat)<1000;decide) rfl)))).trans ?_;show Zh (D.non,_)=_;rw[Qt];rw[Qt]
theorem dJ{f:Str}{cs:List Uu}{ro:RE}{rx:RX}{B:SD}{M M1:MS}{d:D}{n:Nat}{C:Uu}{fn fn':List Str}{ds ds':List D}(h1:rx B M=Zh (d,M1))(h2:ro B M1=Zh (.cell n))(h3:M1[n]?=Zh (.obj C fn ds))(h4:C∈cs)(h5:fn.length<1000)(h6:ZK f d fn ds=(fn',ds')):Gv f cs ro rx B M=Zh (.nx B (M1.set n (.obj C fn' ds'))):=by
 unfold Gv;rw[h1];show(ro B M1).bind _=_;rw[h2];show(match M1[n]? with|some (.obj C fn ds)=>_|_=>Zi)=_;rw[h3];refine(if_pos ⟨h4,h5⟩).trans ?_;dsimp only;rw[h6]
noncomputable def IL(A:Adr):List D->MS->Option (D×MS):=λds M=>match ds with
 | [.cell n,a,b,.lst ps,.lst bs]=>match M[n]? with
  |some (.obj C [] [])=>if C=A.a6 then Zh (.non,M.set n (.obj A.a6 ["number","name","parts","body"] [a,b,.cell M.length,.cell (M.length+1)])++[.lst ps,.lst bs])else Zi
  |_=>Zi
 |_=>Zi
theorem zR(h:rs B M=Zh [.lst ps])(hk:M.length=k):Lb (ZQ rs) B M=Zh (.cell k,M++[.lst ps]):=by
 unfold Lb ZQ;rw[h];subst hk;rfl
theorem EC{M:MS}{n:Nat}{o x:Ob}(h:M[n]?=Zh o):(M++[x])[n]?=Zh o:=by
 rw[Qp (Qh.mp h).1];exact h
theorem B4(h:M[n]?=Zh o):(M++[x]).set n o'=M.set n o'++[x]:=XC _ _ (Qh.mp h).1
theorem tM(T:Txt K mg A):cH P w K mg base 2 A.a6 "__init__" ["self","number","name","parts","body"] (spI K (IL A)):=by
 have SM:=@dh P w _ _ base _ T;refine qO (fw T.lH (k:=1) qW λ_ _ _ _ _ _ _ hr hu=>qsc (dQ (fo T.jH T.cM SM hr (b7 (eQ (qv 0)) (b7 (eQ (qv 1)) fP)))) (qsc (cR (bZ T) (qv 0) (qv 2)) (qsc (gB (gm T) (qv 0) (qxn (mY T.dN (aa (qv 3) aA)))) (qs1 (gB (nP T) (qv 0) (qxn (mY T.dN (aa (qv 4) aA)))))))) λds M d M' e=>?_;unfold IL at e;split at e
 case h_2=>cases e
 rename_i n a b ps bs;split at e
 case h_2=>cases e
 rename_i C hM;split at e
 case isFalse=>cases e
 rename_i hC;subst hC;cases e;have s0:=cP (o':=Ob.obj A.a6 ["number"] [a]) hM;have s1:=cP (o':=Ob.obj A.a6 ["number","name"] [a,b]) s0;have s2:=EC (x:=Ob.lst ps) s1;have s3:=cP (o':=Ob.obj A.a6 ["number","name","parts"] [a,b,.cell M.length]) s2;have s4:=EC (x:=Ob.lst bs) s3;refine(congrArg (P6 · bT) (aR (d3 rfl (eT hM (by simp) rfl)) (aR (eI (f:="name") (d:=b) (n:=n) (fn':=["number","name"]) (ds':=[a,b]) rfl rfl s0 (by simp) (by show(1:Nat)<1000;decide) rfl)
  (aR (dJ (f:="parts") (d:=.cell M.length) (n:=n) (fn':=["number","name","parts"]) (ds':=[a,b,.cell M.length]) (zR rfl (by rw[Qv,Qv])) rfl s2 (by simp) (by show(2:Nat)<1000;decide) rfl)
   (dJ (f:="body") (d:=.cell (M.length+1)) (n:=n) (fn':=["number","name","parts","body"]) (ds':=[a,b,.cell M.length,.cell (M.length+1)]) (zR rfl (by rw[Qv,Qj,Qv,Qv];rfl)) rfl s4 (by simp) (by show(3:Nat)<1000;decide) rfl))))).trans ?_
 show Zh (D.non,_)=_;rw[B4 s3,Qt,B4 s1,Qt,Qt,QC];rfl
theorem asI(D:Has P w K mg base k x ps (spI K F))(h:∀ds M d M',G ds M=Zh (d,M')->F ds M=Zh (d,M')):Has P w K mg base k x ps (spI K G):=D.imp λvs H Q E q=>by
 obtain⟨E',Z,X,M,ds,d,M',e,R,t,kk⟩:=q;exact⟨E',Z,X,M,ds,d,M',h ds M d M' e,R,t,kk⟩
theorem EV(hp:bD [a,b,.lst ts]=true):ZP A.bh (IC A) M [a,b,.lst ts]=Zh (.obj A.bh ["number","name","things"] [a,b,.lst ts]):=by
 unfold ZP;rw[if_pos hp];have:IC A [.cell 0,a,b,.lst ts] [.obj A.bh [] []]=Zh (.non,[.obj A.bh ["number","name","things"] [a,b,.lst ts]]):=(eT (M:=[.obj A.bh [] []]) (n:=0) (C:=A.bh) rfl (Qg.mpr rfl) rfl);rw[this];show(if bD [a,b,.lst ts]=true then Zh (D.obj A.bh _ _)else Zi)=_;rw[if_pos hp]
theorem Dm:IL A [.cell M.length,a,b,.lst ps,.lst bs] (M++[.obj A.a6 [] []])=Zh (.non,M++[.obj A.a6 ["number","name","parts","body"] [a,b,.cell (M.length+1),.cell (M.length+2)],.lst ps,.lst bs]):=by
 unfold IL;dsimp only;rw[Ql (Qf _),QU];show(if A.a6=A.a6 then _ else Zi)=_;rw[if_pos rfl,RK _ _ (Qf _),QU,Qj];show Zh (D.non,(M++[_])++[_,_])=_;rw[QC];rfl
def JB(A:Adr)(n:Int)(k:Str)(vs:List D)(M:MS):Option (D×MS):=if k∈(["hand","given","own","let"]:List Str)then(hdD A n k vs).bind λd=>Zh (d,M)else
 if k="deed" then(match vs with
  | [a,.lst ps]=>Zh (.cell M.length,M++[.obj A.a6 ["number","name","parts","body"] [.int n,a,.cell (M.length+1),.cell (M.length+2)],.lst ps,.lst []])
  |_=>Zi)else
 if k="set" then(match vs with
  | [a,b]=>Zh (.obj A.bG ["number","name","value"] [.int n,a,b],M)
  |_=>Zi)else
 if k="put" then(match vs with
  | [a,b,c]=>Zh (.obj A.bA ["number","name","place","value"] [.int n,a,b,c],M)
  |_=>Zi)else
 if k="send" then(match vs with
  | [a,b]=>Zh (.obj A.bq ["number","name","value"] [.int n,a,b],M)
  |_=>Zi)else
 if k="say" then(match vs with
  | [a,b,c]=>Zh (.obj A.bu ["number","name","value","mark"] [.int n,a,b,c],M)
  |_=>Zi)else
 if k="call" then(match vs with
  | [a,.lst ts]=>Zh (.obj A.bh ["number","name","things"] [.int n,a,.lst ts],M)
  |_=>Zi)else
 if k="main"\/k="end" then Zh (.non,M)else Zi
def DH(A:Adr):List D->MS->Option (D×MS):=λds M=>match ds with
 | [.int n,.tup (.str k::vs)]=>if bD vs=true then JB A n k vs M else Zi
 |_=>Zi
theorem Gx(h:q B M=Zh false)(k:u B M=o):aP (sIf q a aQ) u B M=o:=by
 show P6 (P6 (q B M) _) _=o;rw[h];exact k
theorem F8(h:q B M=Zh true)(k:a B M=Zh (.rt d M')):aP (sIf q a aQ) u B M=Zh (.rt d M'):=by
 show P6 (P6 (q B M) _) _=_;rw[h];show P6 (a B M) _=_;rw[k];rfl
theorem wn{k w:Str}{a b:Option D}{r u:RSt}{M:MS}{o:Option Out}(q:u [a,b,Zh (.str k)] M=o)(h:k≠w:=by decide):aP (sIf (aB aC (dOp (eqD false) (dV 2) (dC (.str w)))) r aQ) u [a,b,Zh (.str k)] M=o:=Gx (by simp[aB,dOp,dV,dC,eq_str,aC,h]) q
theorem wy(q:r [a,b,Zh (.str k)] M=Zh (.rt d M')):aP (sIf (aB aC (dOp (eqD false) (dV 2) (dC (.str k)))) r aQ) u [a,b,Zh (.str k)] M=Zh (.rt d M'):=F8 (by simp[aB,dOp,dV,dC,eq_str,aC]) q
theorem Av(T:Txt K mg A):Has P w K mg base 5 "row_made" ["number","form"] (spI K (DH A)):=by
 have Uh:=@zB P w _ _ base _ T;have TM:=@tM P w _ _ base _ T;have TN:=@rR P w _ _ base _ T;have T4:=@um P w _ _ base _ T;have T5:=@uC P w _ _ base _ T;have TQ:=@tW P w _ _ base _ T;have T6:=@uG P w _ _ base _ T;refine asI (mkI T.zU (k:=4) qw λ_ _ _ _ _ _ _ hr hu=>qsc (cG 2 qw.nd (qix hu (qv 1) a8)) (qsc (qif (bo (j8 hu) kz (qv 2) (Gk T.rG) (by with_unfolding_all rfl)) (qs1 (bw (bz Uh hr (aa (qv 0) (aa (qv 1) aA))))) qs0) (qsc (qif (bo (oeq hu) Zo (qv 2) bE) (qs1 (Ez (zq T.dm TM hr (aa (qv 0) (aa (qix hu (qv 1) a8) (aa (qix hu (qv 1) a8) (aa (cF aA) aA))))))) qs0) (qsc (qif (bo (oeq hu) Zo (qv 2) bE) (qs1 (bw (wO T.fH T4 hr (aa (qv 0) (aa (qix hu (qv 1) a8) (aa (qix hu (qv 1) a8) aA)))))) qs0) (qsc (qif (bo (oeq hu) Zo (qv 2) bE) (qs1 (bw (wO T.eJ T5 hr (aa (qv 0) (aa (qix hu (qv 1) a8) (aa (qix hu (qv 1) a8) (aa (qix hu (qv 1) a8) aA))))))) qs0) (qsc (qif (bo (oeq hu) Zo (qv 2) bE) (qs1 (bw (wO T.eA TQ hr (aa (qv 0) (aa (qix hu (qv 1) a8) (aa (qix hu (qv 1) a8) aA)))))) qs0) (qsc (qif (bo (oeq hu) Zo (qv 2) bE) (qs1 (bw (wO T.d5 T6 hr (aa (qv 0) (aa (qix hu (qv 1) a8) (aa (qix hu (qv 1) a8) (aa (qix hu (qv 1) a8) aA))))))) qs0) (qsc (qif (bo (oeq hu) Zo (qv 2) bE) (qs1 (bw (wO T.dB TN hr (aa (qv 0) (aa (qix hu (qv 1) a8) (aa (qix hu (qv 1) a8) aA)))))) qs0) (qsc (qif (bo (oeq hu) Zo (qv 2) bE) (qs1 qnv) qs0) (qsc (qif (bo (oeq hu) Zo (qv 2) bE) (qs1 qnv) qs0) (qsc (qif (bo (oeq hu) Zo (qv 2) bE) (qs1 qnv) qs0) (qs1 (bw dq))))))))))))) λds M d M' e=>?_;unfold DH at e;split at e
 case h_2=>cases e
 rename_i n k vs;split at e
 case isFalse=>cases e
 rename_i hp;refine(congrArg (P6 · bT) (show _=Zh (Out.rt d M')from ?_)).trans rfl;refine aR (B':=[Zh (.int n),Zh (.tup (.str k::vs)),Zh (.str k)]) (M':=M) (by simp_all![bY,at0]) ?_;have hin:∀z:Str,inD false M (.str z) (.sqt [.str "hand",.str "given",.str "own",.str "let"])=Zh (.bl (inV (.str z) [.str "hand",.str "given",.str "own",.str "let"])):=λ_=>rfl;have hiv:inV (.str k) [.str "hand",.str "given",.str "own",.str "let"]=decide (k∈(["hand","given","own","let"]:List Str)):=by
  have f:∀a:Str,(a==k)=decide (k=a):=λa=>by rw[RW,beq_iff_eq,decide_eq_true_iff];exact eq_comm
  simp[inV,eqV];rw[f,f,f,f]
 unfold JB at e;split at e
 ·rename_i hk;obtain⟨x,e1,e⟩:=bnd e;cases e;rw[decide_eq_true hk]at hiv;exact F8 (by simp_all![hin,hiv]) (by simp_all![hdF,hp,e1,ak])
 rename_i hk;rw[decide_eq_false hk]at hiv;refine Gx (by simp_all![hin,hiv]) ?_;split at e
 ·rename_i hz;subst hz;split at e
  case h_2=>cases e
  cases e;simp[ae,aj]at hp;exact wy (by simp (decide:=true) [bY,at1,at2,hp,aj,Cy,oR,Dm,stD,aX,sIf,aP,aS,aQ,dV,dC,dOp,dUn,dIf,aK,ag,aN,aB,aY,dOr,aV,dBl,aH,a5,ar,dI,tt2,aC,aT,L2.listOf,isTup,ba,aU,aZ,aG,ai,ak,aq,ao,aj,af,ae,Thg.pure,aF,dIt,bQ,bM,aW,aE,aD,isN,aw,au,av,ay,az,aI,sl1,sl2,sl3,sl4,sl5,sl6,aO,bK])
 rename_i h_deed;split at e
 ·rename_i hz;subst hz;split at e
  case h_2=>cases e
  cases e;simp[ae,aj]at hp;exact wn (wy (by simp (decide:=true) [bY,at1,at2,at3,hp,aj,iu,hJ,stD,aX,sIf,aP,aS,aQ,dV,dC,dOp,dUn,dIf,aK,ag,aN,aB,aY,dOr,aV,dBl,aH,a5,ar,dI,tt2,aC,aT,L2.listOf,isTup,ba,aU,aZ,aG,ai,ak,aq,ao,aj,af,ae,Thg.pure,aF,dIt,bQ,bM,aW,aE,aD,isN,aw,au,av,ay,az,aI,sl1,sl2,sl3,sl4,sl5,sl6,aO,bK]))
 rename_i h_set;split at e
 ·rename_i hz;subst hz;split at e
  case h_2=>cases e
  cases e;simp[ae,aj]at hp;exact wn (wn (wy (by simp (decide:=true) [bY,at1,at2,at3,hp,aj,iu,hJ,stD,aX,sIf,aP,aS,aQ,dV,dC,dOp,dUn,dIf,aK,ag,aN,aB,aY,dOr,aV,dBl,aH,a5,ar,dI,tt2,aC,aT,L2.listOf,isTup,ba,aU,aZ,aG,ai,ak,aq,ao,aj,af,ae,Thg.pure,aF,dIt,bQ,bM,aW,aE,aD,isN,aw,au,av,ay,az,aI,sl1,sl2,sl3,sl4,sl5,sl6,aO,bK])))
 rename_i h_put;split at e
 ·rename_i hz;subst hz;split at e
  case h_2=>cases e
  cases e;simp[ae,aj]at hp;exact wn (wn (wn (wy (by simp (decide:=true) [bY,at1,at2,at3,hp,aj,iu,hJ,stD,aX,sIf,aP,aS,aQ,dV,dC,dOp,dUn,dIf,aK,ag,aN,aB,aY,dOr,aV,dBl,aH,a5,ar,dI,tt2,aC,aT,L2.listOf,isTup,ba,aU,aZ,aG,ai,ak,aq,ao,aj,af,ae,Thg.pure,aF,dIt,bQ,bM,aW,aE,aD,isN,aw,au,av,ay,az,aI,sl1,sl2,sl3,sl4,sl5,sl6,aO,bK]))))
 rename_i h_send;split at e
 ·rename_i hz;subst hz;split at e
  case h_2=>cases e
  cases e;simp[ae,aj]at hp;exact wn (wn (wn (wn (wy (by simp (decide:=true) [bY,at1,at2,at3,hp,aj,iu,hJ,stD,aX,sIf,aP,aS,aQ,dV,dC,dOp,dUn,dIf,aK,ag,aN,aB,aY,dOr,aV,dBl,aH,a5,ar,dI,tt2,aC,aT,L2.listOf,isTup,ba,aU,aZ,aG,ai,ak,aq,ao,aj,af,ae,Thg.pure,aF,dIt,bQ,bM,aW,aE,aD,isN,aw,au,av,ay,az,aI,sl1,sl2,sl3,sl4,sl5,sl6,aO,bK])))))
 rename_i h_say;split at e
 ·rename_i hz;subst hz;split at e
  case h_2=>cases e
  cases e;simp[ae,aj]at hp;exact wn (wn (wn (wn (wn (wy (by simp (decide:=true) [bY,at1,at2,at3,hp,aj,iu,EV,stD,aX,sIf,aP,aS,aQ,dV,dC,dOp,dUn,dIf,aK,ag,aN,aB,aY,dOr,aV,dBl,aH,a5,ar,dI,tt2,aC,aT,L2.listOf,isTup,ba,aU,aZ,aG,ai,ak,aq,ao,aj,af,ae,Thg.pure,aF,dIt,bQ,bM,aW,aE,aD,isN,aw,au,av,ay,az,aI,sl1,sl2,sl3,sl4,sl5,sl6,aO,bK]))))))
 rename_i h_call;split at e
 ·rename_i hz;cases e;rcases hz with rfl|rfl<;>exact wn (wn (wn (wn (wn (wn (wn (wn (wn rfl))))))))
 cases e
noncomputable abbrev ksA(A:Adr):List Uu:=[A.bp,A.bj,A.bF,A.bH,A.bG,A.bA,A.bq,A.bu,A.bh,A.bO,A.b5,A.bt,A.a6,A.Program]
noncomputable abbrev tyN:List String:=["NoneType","bool","int","str","list","tuple","dict"]
def Zr(A:Adr):Sum String Uu->D->Option Bool
 | .inr C,.adr E=>if C∈ksA A/\E∈ksA A then Zh (decide (E=C))else Zi
 | .inl s,.ty n=>if s∈tyN/\n∈tyN then Zh (decide (s=n)||(decide (s="bool")&&decide (n="int")))else Zi
 |_,_=>Zi
theorem MI(hs:s∈tyN)(hn:n∈tyN):Wh K (.type s) (.type n)=Zh (decide (s=n)||(decide (s="bool")&&decide (n="int"))):=by
 dsimp! at hs hn;rcases hs with rfl|rfl|rfl|rfl|rfl|rfl|rfl<;>rcases hn with rfl|rfl|rfl|rfl|rfl|rfl|rfl<;>kernel_rfl!
theorem As(T:Txt K mg A)(h:C∈ksA A):∃x up,dU K mg C x up/\C∈up/\∀E∈up,E=C\/E=A.Row:=by
 have two:∀{C:Uu},C∈[C,A.Row]/\∀E∈[C,A.Row],E=C\/E=A.Row:=λ{C}=>{Qb,λE m=>by simpa using m};dsimp! at h;rcases h with rfl|rfl|rfl|rfl|rfl|rfl|rfl|rfl|rfl|rfl|rfl|rfl|rfl|rfl
 ·exact{_,_,T.eE,two}
 ·exact{_,_,T.dy,two}
 ·exact{_,_,T.fG,two}
 ·exact{_,_,T.fJ,two}
 ·exact{_,_,T.fH,two}
 ·exact{_,_,T.eJ,two}
 ·exact{_,_,T.eA,two}
 ·exact{_,_,T.d5,two}
 ·exact{_,_,T.dB,two}
 ·exact{_,_,T.o8,two}
 ·exact{_,_,T.gb,two}
 ·exact{_,_,T.ff,two}
 ·exact{_,_,T.dm,two}
 exact{_,_,T.eU,Qb,λE m=>.inl (by simpa using m)}
theorem MM(T:Txt K mg A)(h:C∈ksA A):C≠A.Row:=λe=>by
 have:=(Rn.mp T.nd).1;rw[<-e]at this;refine this ?_;simp only[P7,P9,or_false]at h⊢;rcases h with h|h|h|h|h|h|h|h|h|h|h|h|h|h<;>simp[h]
theorem it(T:Txt K mg A):yF K (ksA A) (Zr A) where
 own:=λC h=>by
  obtain⟨x,up,O,_,_⟩:=As T h;exact{O.cl,O.kc,O.cg,O.ct,by rw[O.sub];simp}
 ans:=λt c b e=>by
  unfold Zr at e;split at e
  ·split at e
   ·rename_i C E h;cases e;refine{λC' z=>by cases z;exact h.1,.inr {E,rfl,?_}};obtain⟨x,up,O,m,q⟩:=As T h.1;obtain⟨y,vp,U0z,_,_⟩:=As T h.2;show Wh K (.ref C) (.ref E)=_;rw[O.kit U0z m];by_cases z:E=C
    ·subst z;rw[decide_eq_true m,decide_eq_true rfl]
    rw[decide_eq_false z,decide_eq_false];intro m';rcases q E m' with y|y
    ·exact z y
    exact MM T h.2 y
   cases e
  ·split at e
   ·rename_i s n h;cases e;exact{λC' z=>(by cases z),.inl ⟨n,rfl,MI h.1 h.2⟩}
   cases e
  cases e
inductive Th where
 |i (n:Int)|s (x:Str)
noncomputable def Th.d:Th->D
 | .i n=>.int n
 | .s x=>.str x
noncomputable def opW:Nat->Str:=λn=>(["+","-","*","over","rest","<","="]:List Str).getD n "="
inductive Vl where
 |one (t:Th)|op (a:Th) (n:Fin 7) (b:Th)|at (x:Str) (b:Th)
def Vl.ds:Vl->List D
 | .one t=>[t.d]
 | .op a n b=>[a.d,.str (opW n),b.d]
 | .at x b=>[.str x,.str "at",b.d]
noncomputable def Vl.d(v:Vl):D:=.tup v.ds
noncomputable def thU(ts:List Th):List (Str×Str):=ts.filterMap λt=>match t with
 | .s x=>Zh (x,"thing")
 | .i _=>Zi
def vlU:Vl->List (Str×Str)
 | .one t=>thU [t]
 | .op a _ b=>thU [a,b]
 | .at x b=>(x,"list")::thU [b]
noncomputable def prD(p:Str×Str):D:=.tup [.str p.1,.str p.2]
theorem nc(T:Txt K mg A)(i j:Nat)(hi:(ksA A)[i]?=Zh a:=by rfl)(hj:(ksA A)[j]?=Zh b:=by rfl)(h:i≠j:=by decide):(a=b)=False:=by
 refine eq_false λe=>h ?_;subst e;have nd:(ksA A).Nodup:=by
  have:=(Rn.mp T.nd).2;exact(Q8.mp (show(ksA A++[A.bS,A.Opened,A.Reader]).Nodup from this)).1
 obtain⟨hi',ei⟩:=Qh.mp hi;obtain⟨hj',ej⟩:=Qh.mp hj;exact(Su nd).mp (ei.trans ej.symm)
theorem ncA(T:Txt K mg A):(A.bp=A.bj)=False/\(A.bp=A.bF)=False/\(A.bp=A.bH)=False/\(A.bp=A.bG)=False/\(A.bp=A.bA)=False/\(A.bp=A.bq)=False/\(A.bp=A.bu)=False/\(A.bp=A.bh)=False/\(A.bp=A.bO)=False/\(A.bp=A.b5)=False/\(A.bp=A.bt)=False/\(A.bp=A.a6)=False/\(A.bp=A.Program)=False/\(A.bj=A.bp)=False/\(A.bj=A.bF)=False/\(A.bj=A.bH)=False/\(A.bj=A.bG)=False/\(A.bj=A.bA)=False/\(A.bj=A.bq)=False/\(A.bj=A.bu)=False/\(A.bj=A.bh)=False/\(A.bj=A.bO)=False/\(A.bj=A.b5)=False/\(A.bj=A.bt)=False/\(A.bj=A.a6)=False/\(A.bj=A.Program)=False/\(A.bF=A.bp)=False/\(A.bF=A.bj)=False/\(A.bF=A.bH)=False/\(A.bF=A.bG)=False/\(A.bF=A.bA)=False/\(A.bF=A.bq)=False/\(A.bF=A.bu)=False/\(A.bF=A.bh)=False/\(A.bF=A.bO)=False/\(A.bF=A.b5)=False/\(A.bF=A.bt)=False/\(A.bF=A.a6)=False/\(A.bF=A.Program)=False/\(A.bH=A.bp)=False/\(A.bH=A.bj)=False/\(A.bH=A.bF)=False/\(A.bH=A.bG)=False/\(A.bH=A.bA)=False/\(A.bH=A.bq)=False/\(A.bH=A.bu)=False/\(A.bH=A.bh)=False/\(A.bH=A.bO)=False/\(A.bH=A.b5)=False/\(A.bH=A.bt)=False/\(A.bH=A.a6)=False/\(A.bH=A.Program)=False/\(A.bG=A.bp)=False/\(A.bG=A.bj)=False/\(A.bG=A.bF)=False/\(A.bG=A.bH)=False/\(A.bG=A.bA)=False/\(A.bG=A.bq)=False/\(A.bG=A.bu)=False/\(A.bG=A.bh)=False/\(A.bG=A.bO)=False/\(A.bG=A.b5)=False/\(A.bG=A.bt)=False/\(A.bG=A.a6)=False/\(A.bG=A.Program)=False/\(A.bA=A.bp)=False/\(A.bA=A.bj)=False/\(A.bA=A.bF)=False/\(A.bA=A.bH)=False/\(A.bA=A.bG)=False/\(A.bA=A.bq)=False/\(A.bA=A.bu)=False/\(A.bA=A.bh)=False/\(A.bA=A.bO)=False/\(A.bA=A.b5)=False/\(A.bA=A.bt)=False/\(A.bA=A.a6)=False/\(A.bA=A.Program)=False/\(A.bq=A.bp)=False/\(A.bq=A.bj)=False/\(A.bq=A.bF)=False/\(A.bq=A.bH)=False/\(A.bq=A.bG)=False/\(A.bq=A.bA)=False/\(A.bq=A.bu)=False/\(A.bq=A.bh)=False/\(A.bq=A.bO)=False/\(A.bq=A.b5)=False/\(A.bq=A.bt)=False/\(A.bq=A.a6)=False/\(A.bq=A.Program)=False/\(A.bu=A.bp)=False/\(A.bu=A.bj)=False/\(A.bu=A.bF)=False/\(A.bu=A.bH)=False/\(A.bu=A.bG)=False/\(A.bu=A.bA)=False/\(A.bu=A.bq)=False/\(A.bu=A.bh)=False/\(A.bu=A.bO)=False/\(A.bu=A.b5)=False/\(A.bu=A.bt)=False/\(A.bu=A.a6)=False/\(A.bu=A.Program)=False/\(A.bh=A.bp)=False/\(A.bh=A.bj)=False/\(A.bh=A.bF)=False/\(A.bh=A.bH)=False/\(A.bh=A.bG)=False/\(A.bh=A.bA)=False/\(A.bh=A.bq)=False/\(A.bh=A.bu)=False/\(A.bh=A.bO)=False/\(A.bh=A.b5)=False/\(A.bh=A.bt)=False/\(A.bh=A.a6)=False/\(A.bh=A.Program)=False/\(A.bO=A.bp)=False/\(A.bO=A.bj)=False/\(A.bO=A.bF)=False/\(A.bO=A.bH)=False/\(A.bO=A.bG)=False/\(A.bO=A.bA)=False/\(A.bO=A.bq)=False/\(A.bO=A.bu)=False/\(A.bO=A.bh)=False/\(A.bO=A.b5)=False/\(A.bO=A.bt)=False/\(A.bO=A.a6)=False/\(A.bO=A.Program)=False/\(A.b5=A.bp)=False/\(A.b5=A.bj)=False/\(A.b5=A.bF)=False/\(A.b5=A.bH)=False/\(A.b5=A.bG)=False/\(A.b5=A.bA)=False/\(A.b5=A.bq)=False/\(A.b5=A.bu)=False/\(A.b5=A.bh)=False/\(A.b5=A.bO)=False/\(A.b5=A.bt)=False/\(A.b5=A.a6)=False/\(A.b5=A.Program)=False/\(A.bt=A.bp)=False/\(A.bt=A.bj)=False/\(A.bt=A.bF)=False/\(A.bt=A.bH)=False/\(A.bt=A.bG)=False/\(A.bt=A.bA)=False/\(A.bt=A.bq)=False/\(A.bt=A.bu)=False/\(A.bt=A.bh)=False/\(A.bt=A.bO)=False/\(A.bt=A.b5)=False/\(A.bt=A.a6)=False/\(A.bt=A.Program)=False/\(A.a6=A.bp)=False/\(A.a6=A.bj)=False/\(A.a6=A.bF)=False/\(A.a6=A.bH)=False/\(A.a6=A.bG)=False/\(A.a6=A.bA)=False/\(A.a6=A.bq)=False/\(A.a6=A.bu)=False/\(A.a6=A.bh)=False/\(A.a6=A.bO)=False/\(A.a6=A.b5)=False/\(A.a6=A.bt)=False/\(A.a6=A.Program)=False/\(A.Program=A.bp)=False/\(A.Program=A.bj)=False/\(A.Program=A.bF)=False/\(A.Program=A.bH)=False/\(A.Program=A.bG)=False/\(A.Program=A.bA)=False/\(A.Program=A.bq)=False/\(A.Program=A.bu)=False/\(A.Program=A.bh)=False/\(A.Program=A.bO)=False/\(A.Program=A.b5)=False/\(A.Program=A.bt)=False/\(A.Program=A.a6)=False:=⟨nc T 0 1,nc T 0 2,nc T 0 3,nc T 0 4,nc T 0 5,nc T 0 6,nc T 0 7,nc T 0 8,nc T 0 9,nc T 0 10,nc T 0 11,nc T 0 12,nc T 0 13,nc T 1 0,nc T 1 2,nc T 1 3,nc T 1 4,nc T 1 5,nc T 1 6,nc T 1 7,nc T 1 8,nc T 1 9,nc T 1 10,nc T 1 11,nc T 1 12,nc T 1 13,nc T 2 0,nc T 2 1,nc T 2 3,nc T 2 4,nc T 2 5,nc T 2 6,nc T 2 7,nc T 2 8,nc T 2 9,nc T 2 10,nc T 2 11,nc T 2 12,nc T 2 13,nc T 3 0,nc T 3 1,nc T 3 2,nc T 3 4,nc T 3 5,nc T 3 6,nc T 3 7,nc T 3 8,nc T 3 9,nc T 3 10,nc T 3 11,nc T 3 12,nc T 3 13,nc T 4 0,nc T 4 1,nc T 4 2,nc T 4 3,nc T 4 5,nc T 4 6,nc T 4 7,nc T 4 8,nc T 4 9,nc T 4 10,nc T 4 11,nc T 4 12,nc T 4 13,nc T 5 0,nc T 5 1,nc T 5 2,nc T 5 3,nc T 5 4,nc T 5 6,nc T 5 7,nc T 5 8,nc T 5 9,nc T 5 10,nc T 5 11,nc T 5 12,nc T 5 13,nc T 6 0,nc T 6 1,nc T 6 2,nc T 6 3,nc T 6 4,nc T 6 5,nc T 6 7,nc T 6 8,nc T 6 9,nc T 6 10,nc T 6 11,nc T 6 12,nc T 6 13,nc T 7 0,nc T 7 1,nc T 7 2,nc T 7 3,nc T 7 4,nc T 7 5,nc T 7 6,nc T 7 8,nc T 7 9,nc T 7 10,nc T 7 11,nc T 7 12,nc T 7 13,nc T 8 0,nc T 8 1,nc T 8 2,nc T 8 3,nc T 8 4,nc T 8 5,nc T 8 6,nc T 8 7,nc T 8 9,nc T 8 10,nc T 8 11,nc T 8 12,nc T 8 13,nc T 9 0,nc T 9 1,nc T 9 2,nc T 9 3,nc T 9 4,nc T 9 5,nc T 9 6,nc T 9 7,nc T 9 8,nc T 9 10,nc T 9 11,nc T 9 12,nc T 9 13,nc T 10 0,nc T 10 1,nc T 10 2,nc T 10 3,nc T 10 4,nc T 10 5,nc T 10 6,nc T 10 7,nc T 10 8,nc T 10 9,nc T 10 11,nc T 10 12,nc T 10 13,nc T 11 0,nc T 11 1,nc T 11 2,nc T 11 3,nc T 11 4,nc T 11 5,nc T 11 6,nc T 11 7,nc T 11 8,nc T 11 9,nc T 11 10,nc T 11 12,nc T 11 13,nc T 12 0,nc T 12 1,nc T 12 2,nc T 12 3,nc T 12 4,nc T 12 5,nc T 12 6,nc T 12 7,nc T 12 8,nc T 12 9,nc T 12 10,nc T 12 11,nc T 12 13,nc T 13 0,nc T 13 1,nc T 13 2,nc T 13 3,nc T 13 4,nc T 13 5,nc T 13 6,nc T 13 7,nc T 13 8,nc T 13 9,nc T 13 10,nc T 13 11,nc T 13 12⟩
theorem Cm:dv (.cell n)=false:=rfl
theorem iq(h1:tyD M d=Zh t)(h2:Zr A t c=Zh b):isD (Zr A) M [d,c]=Zh (.bl b):=by
 show(tyD M d).bind _=_;rw[h1];show(Zr A t c).bind _=_;rw[h2];rfl
theorem FG(ha:a∈ksA A)(hb:b∈ksA A):Zr A (.inr a) (.adr b)=Zh (decide (b=a)):=by
 unfold Zr;exact if_pos ⟨ha,hb⟩
theorem js(hs:s∈tyN)(hn:n∈tyN)(h:(decide (s=n)||(decide (s="bool")&&decide (n="int")))=b):Zr A (.inl s) (.ty n)=Zh b:=by
 subst h;unfold Zr;exact if_pos ⟨hs,hn⟩
theorem Mq(hM:M[m]?=Zh (.obj C fn vs)):tyD M (.cell m)=Zh (.inr C):=by
 unfold tyD;simp only[hM]
theorem bL(ha:a∈ksA A)(hb:b∈ksA A):isD (Zr A) M [.obj a fn vs,.adr b]=Zh (.bl (decide (b=a))):=iq rfl (FG ha hb)
theorem hX(hM:M[m]?=Zh (.obj a fn vs))(ha:a∈ksA A)(hb:b∈ksA A):isD (Zr A) M [.cell m,.adr b]=Zh (.bl (decide (b=a))):=iq (Mq hM) (FG ha hb)
theorem JR:isD (Zr A) M [.str x,.ty "str"]=Zh (.bl true):=iq rfl (js ∅ ∅ ∅)
theorem J7:isD (Zr A) M [.int x,.ty "str"]=Zh (.bl false):=iq rfl (js ∅ ∅ ∅)
theorem fl(hC:C∈cs)(h:(fn.zip vs).lookup f=Zh d):cf f cs M (.obj C fn vs)=Zh d:=by
 show(if C∈cs then(fn.zip vs).lookup f else Zi)=_;rw[if_pos hC,h]
theorem flc(hM:M[m]?=Zh (.obj C fn vs))(hC:C∈cs)(h:(fn.zip vs).lookup f=Zh d):cf f cs M (.cell m)=Zh d:=by
 have h1:Zt M (.cell m)=Zh (C,fn,vs):=by unfold Zt;simp only[hM]
 show(Zt M (.cell m)).bind _=_;rw[h1];show(if C∈cs then(fn.zip vs).lookup f else Zi)=_;rw[if_pos hC,h]
theorem uf{ι:Type}(u:ι->D)(f:ι->Option D):∀xs:List ι,(∀x∈xs,∃B',g (u x) B=Zh B'/\((q B' M=Zh false/\f x=Zi)\/(q B' M=Zh true/\∃y,f x=Zh y/\r B' M=Zh y)))->cD g q r M B (xs.map u)=Zh (xs.filterMap f)
 | [],_=>rfl
 |x::xs,h=>by
  obtain⟨B',h1,h2⟩:=h x Qb;have ih:=uf (g:=g) (q:=q) (r:=r) (M:=M) (B:=B) u f xs λy hy=>h y (Qa _ hy);show(g (u x) B).bind _=_;rw[h1];show(q B' M).bind _=_;rcases h2 with⟨h2,h3⟩|⟨h2,y,h3,h4⟩
  ·rw[h2,Qx,h3];exact ih
  rw[h2,Qx,h3];show(r B' M).bind _=_;rw[h4];show(cD _ _ _ _ _ _).bind _=_;rw[ih];rfl
theorem pD{α β:Type}(f:α->Option β)(xs:List α):(xs.filterMap f).length<=xs.length:=RB _ _
theorem dO(t:Th):bP t.d=true:=by cases t<;>rfl
theorem lx:∀ts:List Th,bD (ts.map Th.d)=true
 | []=>af
 |t::r=>by rw[Qc,ae,dO,lx r];rfl
theorem iX:∀ps:List (Str×Str),bD (ps.map prD)=true
 | []=>af
 |p::r=>by rw[Qc,ae,iX r];simp[prD,ao,ae,af,ak]
theorem Jb(ts:List Th):(thU ts).map prD=ts.filterMap λt=>match t with
 | .s x=>Zh (prD (x,"thing"))
 | .i _=>Zi:=by
 unfold thU
 rw[XZ]
 congr 1
 funext t
 cases t<;>rfl
theorem mq(T:Txt K mg A):∃F,Has P w K mg base 1 "things_used" ["things"] (spP K F)/\∀ts:List Th,ts.length<=640->F [.lst (ts.map Th.d)]=Zh (.lst ((thU ts).map prD))/\F [.tup (ts.map Th.d)]=Zh (.lst ((thU ts).map prD)):=by
 refine{_,mkP T.qo (k:=0) sA λ_ _ _ _ _ _ _ hr hu=>qs1 (bw (jc (N:=["thing"]) (own:=1) (fr:=[]) (cv.of (by kernel_rfl!)) (qit true (qv 0)) (λb=>qgn 0 (show U4 (["thing"]:List Ve) by decide+kernel)) (λb=>qf1 (cZ (qcB bB (ck (it T)) T.a9 (aa (qv 0) (aa (qty T.qi) aA))))) (λb=>dH (aa (qv 0) (aa bE aA))) (fA ∅))),λts h=>?_};have hc:cD (gN 0) (aB aT (aN (isD (Zr A)) (ag (dV 0) (ag (dC (.ty "str")) aK)))) (aN aE (ag (dV 0) (ag (dC (.str "thing")) aK))) [] [Zi] (ts.map Th.d)=Zh ((thU ts).map prD):=by
  rw[Jb];refine uf _ _ _ λt _=>{_,rfl,?_};cases t with
  |i n=>exact .inl {by simp_all![Th.d,J7],rfl}
  |s x=>exact .inr {by simp_all![Th.d,JR],_,rfl,by simp_all![Th.d,prD]}
 have hn:((thU ts).map prD).length<=sizeLine:=by
  rw[P8];exact Qi (Qi (pD _ _) h) ∅
 have hp:=iX (thU ts);generalize (thU ts).map prD=zs at hc hn hp;constructor
 ·show P6 _ _=_;simp_all![hc,hn,hp]
 show P6 _ _=_;simp_all![hc,hn,hp]
theorem Oo(n:Fin 7):opW n≠"at":=by revert n;decide
theorem ev3{α:Type}(a b c:α):dP [a,b,c]=[a,c]:=by simp[dP,UJ,YK]
theorem ev1{α:Type}(a:α):dP [a]=[a]:=by simp[dP,UJ,YK]
theorem xM(T:Txt K mg A):∃F,Has P w K mg base 2 "value_used" ["value"] (spP K F)/\∀v:Vl,F [v.d]=Zh (.lst ((vlU v).map prD)):=by
 obtain⟨F,SX,S⟩:=@mq P w _ _ base _ T;refine{_,mkP T.sT (k:=1) uk λ_ _ _ _ _ _ _ hr hu=>qsc (qif (QW.pt (fZ (bo (oeq hu) Zo (qcB cb cO T.cE (aa (qv 0) aA)) a8) (d8 (bo (oeq hu) Zo (qix hu (qv 0) a8) bE)))) (qs1 (bw (qop cx Zn (cF (aa (dH (aa (qix hu (qv 0) a8) (aa bE aA))) aA)) (bz SX hr (aa (cF (aa (qix hu (qv 0) a8) aA)) aA))))) qs0) (qs1 (bw (bz SX hr (aa (M9 (qv 0)) aA)))),λv=>?_};have hp:=iX (vlU v);cases v with
 |one t=>
  have s1:=(S [t] (by simp)).2;rw[Qc,QR]at s1;have hp:bD ((thU [t]).map prD)=true:=hp;show P6 _ _=Zh (D.lst ((thU [t]).map prD));generalize (thU [t]).map prD=z at hp s1;have t1:=dO t;simp_all![Vl.d,Vl.ds,evD,ev1,s1,hp,t1,eq_int,eP]
 |op a n b=>
  have s1:=(S [a,b] (by simp)).2;rw[Qc,Qc,QR]at s1;have hp:bD ((thU [a,b]).map prD)=true:=hp;show P6 _ _=Zh (D.lst ((thU [a,b]).map prD));generalize (thU [a,b]).map prD=z at hp s1;have t1:=dO a;have t2:=dO b;simp_all![Vl.d,Vl.ds,evD,ev3,s1,hp,t1,t2,eq_int,eq_str,Oo,bY,at1,eP]
 |«at» x b=>
  have s1:=(S [b] (by simp)).1;rw[Qc,QR]at s1;have hp:bD (prD (x,"list")::(thU [b]).map prD)=true:=hp;have hl:((thU [b]).map prD).length<=1:=by rw[P8];exact pD _ _
  show P6 _ _=Zh (D.lst (prD (x,"list")::(thU [b]).map prD));generalize (thU [b]).map prD=z at hp s1 hl;have hz:z.length+1<=sizeLine:=Qi (RM hl) ∅;have t2:=dO b;have hz':1+z.length<=sizeLine:=()
  have hp':bD z=true:=by rw[ae,Qs]at hp;exact hp.2
  simp_all![Vl.d,Vl.ds,s1,hp',t2,eq_int,eq_str,bY,at0,at1,at2,eP,en,hV,prD,hz']
section
variable{cs:List Uu}{M:MS}{C:Uu}{fs:List Str}{a b c d:D}{vs:List D}
theorem NL(h:C∈cs):cf "number" cs M (.obj C ("number"::fs) (a::vs))=Zh a:=fl h rfl
theorem iN(h:C∈cs):cf "name" cs M (.obj C ("number"::"name"::fs) (a::b::vs))=Zh b:=fl h rfl
theorem Hr(h:C∈cs):cf "rank" cs M (.obj C ("number"::"name"::"rank"::fs) (a::b::c::vs))=Zh c:=fl h rfl
theorem Gm(h:C∈cs):cf "size" cs M (.obj C ["number","name","size"] [a,b,c])=Zh c:=fl h rfl
theorem F7(h:C∈cs):cf "size" cs M (.obj C ["number","name","rank","size"] [a,b,c,d])=Zh d:=fl h rfl
theorem v9(h:C∈cs):cf "value" cs M (.obj C ("number"::"name"::"value"::fs) (a::b::c::vs))=Zh c:=fl h rfl
theorem JL(h:C∈cs):cf "value" cs M (.obj C ["number","name","place","value"] [a,b,c,d])=Zh d:=fl h rfl
theorem Nc(h:C∈cs):cf "place" cs M (.obj C ["number","name","place","value"] [a,b,c,d])=Zh c:=fl h rfl
theorem KN(h:C∈cs):cf "mark" cs M (.obj C ["number","name","value","mark"] [a,b,c,d])=Zh d:=fl h rfl
theorem Lx(h:C∈cs):cf "things" cs M (.obj C ["number","name","things"] [a,b,c])=Zh c:=fl h rfl
end
inductive Rw where
 |hand (x:Str) (r:Int)|given (x:Str) (r z:Int)|own (x:Str) (z:Int)|lett (x:Str) (r:Int)
 |set (x:Str) (v:Vl)|put (x:Str) (p:Th) (v:Vl)|send (x:Str) (v:Vl)|say (x:Str) (v:Vl) (m:Str)|call (x:Str) (ts:List Th)
def Rw.d(A:Adr)(n:Int):Rw->D
 | .hand x r=>.obj A.bp ["number","name","rank"] [.int n,.str x,.int r]
 | .given x r z=>.obj A.bj ["number","name","rank","size"] [.int n,.str x,.int r,.int z]
 | .own x z=>.obj A.bF ["number","name","size"] [.int n,.str x,.int z]
 | .lett x r=>.obj A.bH ["number","name","rank"] [.int n,.str x,.int r]
 | .set x v=>.obj A.bG ["number","name","value"] [.int n,.str x,v.d]
 | .put x p v=>.obj A.bA ["number","name","place","value"] [.int n,.str x,p.d,v.d]
 | .send x v=>.obj A.bq ["number","name","value"] [.int n,.str x,v.d]
 | .say x v m=>.obj A.bu ["number","name","value","mark"] [.int n,.str x,v.d,.str m]
 | .call x ts=>.obj A.bh ["number","name","things"] [.int n,.str x,.lst (ts.map Th.d)]
noncomputable def Zv:Rw->List (Str×Str)
 | .hand x _=>[(x,"hand")]
 | .lett x _=>[(x,"mark")]
 | .given x _ z=>[(x,if z=0 then "given" else "given list")]
 | .own x z=>[(x,if z=0 then "own" else "own list")]
 |_=>[]
noncomputable def dW(x:Str)(ps:List Str):List (Str×Str):=(x,"deed")::ps.map (·,"part")
def ZG:Rw->List (Str×Str)
 | .set x v=>(x,"place")::vlU v
 | .put x p v=>(x,"put")::(thU [p]++vlU v)
 | .send x v=>(x,"hand")::vlU v
 | .say x v m=>(x,"place")::(vlU v++[(m,("mark":Str))])
 | .call _ ts=>thU ts
 |_=>[]
noncomputable def dFn:List Str:=["number","name","parts","body"]
structure cQ(A:Adr)(M:MS)(m:Nat)(n:Int)(x:Str)(ps:List Str)(p b:Nat):Prop where
 ob:M[m]?=Zh (.obj A.a6 dFn [.int n,.str x,.cell p,.cell b])
 pa:M[p]?=Zh (.lst (ps.map D.str))
theorem cQ.nm(h:cQ A M m n x ps p b)(hC:A.a6∈cs):cf "name" cs M (.cell m)=Zh (.str x):=flc h.ob hC rfl
theorem cQ.ps{M:MS}{m:Nat}{n:Int}{x:Str}{ps:List Str}{p b:Nat}(h:cQ A M m n x ps p b){cs:List Uu}(hC:A.a6∈cs):cf "parts" cs M (.cell m)=Zh (.cell p):=flc h.ob hC rfl
theorem cQ.bd{M:MS}{m:Nat}{n:Int}{x:Str}{ps:List Str}{p b:Nat}(h:cQ A M m n x ps p b){cs:List Uu}(hC:A.a6∈cs):cf "body" cs M (.cell m)=Zh (.cell b):=flc h.ob hC rfl
theorem rM(h:M[p]?=Zh (.lst ds))(hf:fx=true:=by rfl):bM fx M (.cell p)=Zh ds:=by
 subst hf;unfold bM ba;simp only[h,if_true]
theorem cn(T:Txt K mg A)(i j:Nat)(k:u [Zh (.obj a fn vs)] M=o)(hi:(ksA A)[i]?=Zh a:=by rfl)(hj:(ksA A)[j]?=Zh b:=by rfl)(h:j≠i:=by decide) :
  aP (sIf (aB aT (aN (isD (Zr A)) (ag (dV 0) (ag (dC (.adr b)) aK)))) r aQ) u [Zh (.obj a fn vs)] M=o:=by
 have e:isD (Zr A) M [.obj a fn vs,.adr b]=Zh (.bl false):=by rw[bL (QY hi) (QY hj),decide_eq_false (of_eq_false (nc T j i hj hi h))]
 show P6 (P6 (P6 (isD (Zr A) M [.obj a fn vs,.adr b]) _) _) _=o
 rw[e]
 exact k
theorem cy(i:Nat)(k:r [Zh (.obj a fn vs)] M=Zh (.rt d M'))(hi:(ksA A)[i]?=Zh a:=by rfl) :
  aP (sIf (aB aT (aN (isD (Zr A)) (ag (dV 0) (ag (dC (.adr a)) aK)))) r aQ) u [Zh (.obj a fn vs)] M=Zh (.rt d M'):=by
 have e:isD (Zr A) M [.obj a fn vs,.adr a]=Zh (.bl true):=by rw[bL (QY hi) (QY hi),decide_eq_true rfl]
 show P6 (P6 (P6 (isD (Zr A) M [.obj a fn vs,.adr a]) _) _) _=_
 rw[e]
 show P6 (r [Zh (.obj a fn vs)] M) _=_
 rw[k]
 rfl
theorem cnc(T:Txt K mg A)(i j:Nat)(hM:M[m]?=Zh (.obj a fn vs))(k:u [Zh (.cell m)] M=o)(hi:(ksA A)[i]?=Zh a:=by rfl)(hj:(ksA A)[j]?=Zh b:=by rfl)(h:j≠i:=by decide) :
  aP (sIf (aB aT (aN (isD (Zr A)) (ag (dV 0) (ag (dC (.adr b)) aK)))) r aQ) u [Zh (.cell m)] M=o:=by
 have e:isD (Zr A) M [.cell m,.adr b]=Zh (.bl false):=by rw[hX hM (QY hi) (QY hj),decide_eq_false (of_eq_false (nc T j i hj hi h))]
 show P6 (P6 (P6 (isD (Zr A) M [.cell m,.adr b]) _) _) _=o
 rw[e]
 exact k
theorem oV(T:Txt K mg A):∃f,Has P w K mg base 1 "names_told" ["row"] (spI K (de f))/\(∀M n r,f [Rw.d A n r] M=Zh (.lst ((Zv r).map prD)))/\∀M m n x ps p b,ps.length<=640->cQ A M m n x ps p b->f [.cell m] M=Zh (.lst ((dW x ps).map prD)):=by
 refine{_,qh (mkI T.r6 (k:=0) uU λ_ _ _ _ _ _ _ hr hu=>qsc (qif (cZ (qcB bB (ck (it T)) T.a9 (aa (qv 0) (aa (cX T.eE.mg) aA)))) (qs1 (bw (cF (aa (dH (aa (bJ (bZ T) (qv 0)) (aa bE aA))) aA)))) qs0) (qsc (qif (cZ (qcB bB (ck (it T)) T.a9 (aa (qv 0) (aa (cX T.fJ.mg) aA)))) (qs1 (bw (cF (aa (dH (aa (bJ (bZ T) (qv 0)) (aa bE aA))) aA)))) qs0) (qsc (qif (cZ (qcB bB (ck (it T)) T.a9 (aa (qv 0) (aa (cX T.dy.mg) aA)))) (qs1 (bw (cF (aa (dH (aa (bJ (bZ T) (qv 0)) (aa (IK (bo (oeq hu) Zo (bJ (lM T) (qv 0)) a8) bE bE) aA))) aA)))) qs0) (qsc (qif (cZ (qcB bB (ck (it T)) T.a9 (aa (qv 0) (aa (cX T.fG.mg) aA)))) (qs1 (bw (cF (aa (dH (aa (bJ (bZ T) (qv 0)) (aa (IK (bo (oeq hu) Zo (bJ (lM T) (qv 0)) a8) bE bE) aA))) aA)))) qs0) (qsc (qif (cZ (qcB bB (ck (it T)) T.a9 (aa (qv 0) (aa (cX T.dm.mg) aA)))) (qs1 (bw (qop cx Zn (cF (aa (dH (aa (bJ (bZ T) (qv 0)) (aa bE aA))) aA)) (jc (N:=["part"]) (own:=1) (fr:=[]) (cv.of (by kernel_rfl!)) (qit true (bJ (gm T) (qv 0))) (λb=>qgn 0 (show U4 (["part"]:List Ve) by decide+kernel)) (λb=>qf0) (λb=>dH (aa (qv 0) (aa bE aA))) (fA ∅))))) qs0) (qs1 (bw (cF aA)))))))),λM n r=>?_,λM m n x ps p b hl h=>?_}
 ·refine cT ?_ (by rw[aj];exact iX _);refine(congrArg (P6 · bT) (show _=Zh (Out.rt (.lst ((Zv r).map prD)) M)from ?_)).trans rfl;cases r with
  |hand x r=>exact cy 0 (by simp_all![Zv,iN,prD])
  |lett x r=>exact cn T 3 0 (cy 3 (by simp_all![Zv,iN,prD]))
  |given x r z=>
   refine cn T 1 0 (cn T 1 3 (cy 1 ?_));by_cases hz:z=0<;>simp_all![Zv,iN,F7,eq_int,hz,prD]
  |own x z=>
   refine cn T 2 0 (cn T 2 3 (cn T 2 1 (cy 2 ?_)));by_cases hz:z=0<;>simp_all![Zv,iN,Gm,eq_int,hz,prD]
  |set x v=>exact cn T 4 0 (cn T 4 3 (cn T 4 1 (cn T 4 2 (cn T 4 12 rfl))))
  |put x p v=>exact cn T 5 0 (cn T 5 3 (cn T 5 1 (cn T 5 2 (cn T 5 12 rfl))))
  |send x v=>exact cn T 6 0 (cn T 6 3 (cn T 6 1 (cn T 6 2 (cn T 6 12 rfl))))
  |say x v m=>exact cn T 7 0 (cn T 7 3 (cn T 7 1 (cn T 7 2 (cn T 7 12 rfl))))
  |call x ts=>exact cn T 8 0 (cn T 8 3 (cn T 8 1 (cn T 8 2 (cn T 8 12 rfl))))
 have hp:bD ((dW x ps).map prD)=true:=iX _;have hc:cD (gN 0) eW (aN aE (ag (dV 0) (ag (dC (.str "part")) aK))) M [Zi] (ps.map D.str)=Zh (ps.map λx=>prD (x,"part")):=eB _ _ _ λc _=>{_,rfl,rfl,by simp_all![prD]};have hs:bM true M (.cell p)=Zh (ps.map D.str):=rM h.pa;have hz:(ps.map λx=>prD (x,"part")).length<=640:=by rw[P8];exact hl
 refine cT ?_ (by rw[aj];exact hp);have he:(dW x ps).map prD=prD (x,"deed")::ps.map λx=>prD (x,"part"):=by unfold dW;rw[Qc,QH];rfl
 rw[he];generalize (ps.map λx=>prD (x,"part"))=zs at hc hz;refine(congrArg (P6 · bT) (show _=Zh (Out.rt (.lst (prD (x,"deed")::zs)) M)from ?_)).trans rfl;have h1:zs.length<=sizeLine:=Qi hz ∅;have h2:1+zs.length<=sizeLine:=Qi (XM hz 1) ∅;have hn:=h.nm (cs:=[A.bp,A.bj,A.bF,A.bH,A.bG,A.bA,A.bq,A.bu,A.bh,A.a6]) (by simp);have hq:=h.ps (cs:=[A.a6]) (by simp);have ht:isD (Zr A) M [.cell m,.adr A.a6]=Zh (.bl true):=by rw[hX h.ob (by simp) (by simp),decide_eq_true rfl]
 refine cnc T 12 0 h.ob (cnc T 12 3 h.ob (cnc T 12 1 h.ob (cnc T 12 2 h.ob ?_)));simp![ht,hn,hq,hs,hc,h1,h2,en,hV,prD]
theorem xW(T:Txt K mg A):∃f,Has P w K mg base 3 "names_used" ["row"] (spI K (de f))/\(∀M n r,(∀x ts,r=.call x ts->ts.length<=640)->f [Rw.d A n r] M=Zh (.lst ((ZG r).map prD)))/\∀M m n x ps p b,cQ A M m n x ps p b->f [.cell m] M=Zh (.lst []):=by
 obtain⟨F,SX,S⟩:=@mq P w _ _ base _ T;obtain⟨F',Tb,S'⟩:=@xM P w _ _ base _ T;refine{_,qh (mkI T.sH (k:=2) uF λ_ _ _ _ _ _ _ hr hu=>qsc (qif (cZ (qcB bB (ck (it T)) T.a9 (aa (qv 0) (aa (cX T.fH.mg) aA)))) (qs1 (bw (qop cx Zn (cF (aa (dH (aa (bJ (bZ T) (qv 0)) (aa bE aA))) aA)) (bz Tb hr (aa (bJ (dA T) (qv 0)) aA))))) qs0) (qsc (qif (cZ (qcB bB (ck (it T)) T.a9 (aa (qv 0) (aa (cX T.eJ.mg) aA)))) (qs1 (bw (qop cx Zn (qop cx Zn (cF (aa (dH (aa (bJ (bZ T) (qv 0)) (aa bE aA))) aA)) (bz SX hr (aa (cF (aa (bJ (uh T) (qv 0)) aA)) aA))) (bz Tb hr (aa (bJ (dA T) (qv 0)) aA))))) qs0) (qsc (qif (cZ (qcB bB (ck (it T)) T.a9 (aa (qv 0) (aa (cX T.eA.mg) aA)))) (qs1 (bw (qop cx Zn (cF (aa (dH (aa (bJ (bZ T) (qv 0)) (aa bE aA))) aA)) (bz Tb hr (aa (bJ (dA T) (qv 0)) aA))))) qs0) (qsc (qif (cZ (qcB bB (ck (it T)) T.a9 (aa (qv 0) (aa (cX T.d5.mg) aA)))) (qs1 (bw (qop cx Zn (qop cx Zn (cF (aa (dH (aa (bJ (bZ T) (qv 0)) (aa bE aA))) aA)) (bz Tb hr (aa (bJ (dA T) (qv 0)) aA))) (cF (aa (dH (aa (bJ (rB T) (qv 0)) (aa bE aA))) aA))))) qs0) (qsc (qif (cZ (qcB bB (ck (it T)) T.a9 (aa (qv 0) (aa (cX T.dB.mg) aA)))) (qs1 (bw (bz SX hr (aa (bJ (iY T) (qv 0)) aA)))) qs0) (qsc (qif (cZ (qcB bB (ck (it T)) T.a9 (aa (qv 0) (aa (cX T.gb.mg) aA)))) Jo qs0) (qsc (qif (cZ (qcB bB (ck (it T)) T.a9 (aa (qv 0) (aa (cX T.ff.mg) aA)))) Jo qs0) (qs1 (bw (cF aA)))))))))),λM n r hr=>?_,λM m n x ps p b h=>?_}
 ·refine cT ?_ (by rw[aj];exact iX _);refine(congrArg (P6 · bT) (show _=Zh (Out.rt (.lst ((ZG r).map prD)) M)from ?_)).trans rfl;have hv:∀v:Vl,∃z,(vlU v).map prD=z/\F' [v.d]=Zh (.lst z)/\z.length<=2/\bP v.d=true:=λv=>⟨_,rfl,S' v,by
   rw[P8];cases v with
   |one t=>exact Qi (pD _ _) (by simp)
   |op a n b=>exact pD _ _
   |«at» x b=>exact RM (pD _ _),by
   unfold Vl.d;rw[ao];cases v<;>simp[Vl.ds,ae,af,dO,ak]⟩
  have l2:∀{n:Nat},n<=2->1+n<=sizeLine:=λh=>Qi (XM h 1) ∅;cases r with
  |hand x r=>exact cn T 0 4 (cn T 0 5 (cn T 0 6 (cn T 0 7 (cn T 0 8 (cn T 0 10 (cn T 0 11 rfl))))))
  |lett x r=>exact cn T 3 4 (cn T 3 5 (cn T 3 6 (cn T 3 7 (cn T 3 8 (cn T 3 10 (cn T 3 11 rfl))))))
  |given x r z=>exact cn T 1 4 (cn T 1 5 (cn T 1 6 (cn T 1 7 (cn T 1 8 (cn T 1 10 (cn T 1 11 rfl))))))
  |own x z=>exact cn T 2 4 (cn T 2 5 (cn T 2 6 (cn T 2 7 (cn T 2 8 (cn T 2 10 (cn T 2 11 rfl))))))
  |set x v=>
   obtain⟨z,e1,e2,e3,e4⟩:=hv v;have e3:=l2 e3;refine cy 4 ?_;simp_all![ZG,iN,v9,e1,e2,e3,e4,en,hV,prD]
  |put x p v=>
   obtain⟨z,e1,e2,e3,e4⟩:=hv v;have s1:=(S [p] (by simp)).1;rw[Qc,QR]at s1;have l1:((thU [p]).map prD).length<=1:=by rw[P8];exact pD _ _
   have hp:=dO p;generalize hy:(thU [p]).map prD=y at s1 l1;have l3:1+y.length<=sizeLine:=l2 (Qi l1 ∅);have l4:y.length+1+z.length<=sizeLine:=Qi (show y.length+1+z.length<=4 by lia) ∅;refine cn T 5 4 (cy 5 ?_);simp_all![ZG,iN,JL,Nc,e1,e2,e4,hy,s1,l3,l4,hp,en,hV,prD]
  |send x v=>
   obtain⟨z,e1,e2,e3,e4⟩:=hv v;have e3:=l2 e3;refine cn T 6 4 (cn T 6 5 (cy 6 ?_));simp_all![ZG,iN,v9,e1,e2,e3,e4,en,hV,prD]
  |say x v m=>
   obtain⟨z,e1,e2,e3,e4⟩:=hv v;have l3:=l2 e3;have l4:z.length+1+1<=sizeLine:=Qi (show z.length+1+1<=4 by lia) ∅;refine cn T 7 4 (cn T 7 5 (cn T 7 6 (cy 7 ?_)));simp_all![ZG,iN,v9,KN,e1,e2,l3,l4,e4,en,hV,prD]
  |call x ts=>
   have s1:=(S ts (hr x ts rfl)).1;have hp:=lx ts;refine cn T 8 4 (cn T 8 5 (cn T 8 6 (cn T 8 7 (cy 8 ?_))));simp_all![ZG,Lx,s1,hp]
 refine cT ?_ (by rw[aj];exact af);exact(congrArg (P6 · bT) (show _=Zh (Out.rt (.lst []) M)from cnc T 12 4 h.ob (cnc T 12 5 h.ob (cnc T 12 6 h.ob (cnc T 12 7 h.ob (cnc T 12 8 h.ob (cnc T 12 10 h.ob (cnc T 12 11 h.ob rfl)))))))).trans rfl
structure RdS where
 heads:List D
 dj:List D
 main:List D
 kinds:List (Str×Str)
 ended:List (Str×Int)
 eg:D
 cN:List Str
 opened:List D
 begun:Bool
 rest:MS
noncomputable def c6{β:Type}(g:β->D)(l:List (Str×β)):Ob:=.dic (l.map λp=>Q0 p.1) (l.map λp=>g p.2)
def Kd(l:List Str):Ob:=c6 (λ_:Unit=>D.bl true) (l.map (·,Unit.unit))
def enc(A:Adr)(st:RdS):MS:=
 .obj A.Reader ["program","names","opened","begun"] [.cell 1,.cell 5,.cell 9,.bl st.begun]::
 .obj A.Program ["heads","deeds","main"] [.cell 2,.cell 3,.cell 4]:: .lst st.heads:: .lst st.dj:: .lst st.main::
 .obj A.bS ["kinds","ended","deed","spoken"] [.cell 6,.cell 7,st.eg,.cell 8]::c6 D.str st.kinds::c6 D.int st.ended::Kd st.cN:: .lst st.opened::st.rest
theorem rD{β:Type}(g:β->D)(x:Str):∀l:List (Str×β),iL (l.map λp=>(Q0 p.1:Key)) (l.map λp=>g p.2) (.inr x)=(l.lookup x).map g
 | []=>rfl
 | (a,b)::r=>by
  have ih:=rD g x r;unfold iL at ih⊢;rw[Qc,Qc,Sn,Q9,Qw];by_cases h:a=x
  ·subst h;simp
  have h1:(x==a)=false:=by rw[beq_eq_false_iff_ne];exact λz=>h z.symm
  have h2:decide ((Q0 a:Key)=Q0 x)=false:=decide_eq_false λz=>h (Q0.inj z);dsimp only;rw[h1,h2];exact ih
theorem AO(h:M[m]?=Zh (c6 g l)):bK neg M (.str x) (.cell m)=Zh (.bl (if neg then !(l.lookup x).isSome else(l.lookup x).isSome)):=by
 show inD neg M (.str x) (.cell m)=_;have h1:ba M (.cell m)=Zi:=by unfold ba;simp only[h];rfl
 have h2:fY M (.cell m)=Zh (l.map λp=>Q0 p.1,l.map λp=>g p.2):=by unfold fY;simp only[h];rfl
 unfold inD;rw[h1,h2];show Zh (D.bl (if neg then !(iL _ _ _).isSome else(iL _ _ _).isSome))=_;rw[rD,Sb]
theorem BQ(h:M[m]?=Zh (c6 g l)):ua M (.cell m) (.str x)=Zh (((l.lookup x).map g).getD .non):=by
 have h2:fY M (.cell m)=Zh (l.map λp=>Q0 p.1,l.map λp=>g p.2):=by unfold fY;simp only[h];rfl
 unfold ua;rw[h2];show Zh ((iL _ _ _).getD .non)=_;rw[rD]
theorem pK:∀ps:List Str,tH (ps.map D.str)=Zh (ps.map V.str)
 | []=>rfl
 |p::r=>by
  show(tH (r.map D.str)).bind _=_;rw[pK r];rfl
theorem B8(x:Str):∀ps:List Str,inV (.str x) (ps.map V.str)=decide (x∈ps)
 | []=>rfl
 |p::r=>by
  have ih:=B8 x r;unfold inV at ih⊢;rw[Qc,RQ,ih];by_cases h:x=p
  ·subst h;simp[eqV]
  have:eqV (.str p) (.str x)=false:=by simp[eqV];exact λz=>h z.symm
  simp[this,h]
theorem nT{neg:Bool}{M:MS}{d:D}{ps:List Str}(h:ba M d=Zh (ps.map D.str)){x:Str}:inD neg M (.str x) d=Zh (.bl (if neg then !decide (x∈ps)else decide (x∈ps))):=by
 unfold inD;rw[h];show(tH (ps.map D.str)).bind _=_;rw[pK,<-B8];rfl
noncomputable def srv:List (Str×List Str):=[("thing",["given","own","part"]),("list",["given list","own list"]),("place",["own","part"]),("put",["own list"]),("hand",["hand"]),("mark",["mark"])]
def Lm:List (Str×D):=srv.map λp=>(p.1,D.sqt (p.2.map D.str))
structure yp(P:Program)(w:UC)(K:Uw)(mg:Str->Option Ut)(a:Uu):Prop where
 gl:mg "SERVING"=Zh (.ref a)
 dic:xk P w K a Lm
inductive qU(A:Adr)(st:RdS):Option (List Str)->Prop
 |no (h:st.eg=.non):qU A st Zi
 |at (m:Nat) (n:Int) (x:Str) (ps:List Str) (p b:Nat) (h:st.eg=.cell m) (d:cQ A (enc A st) m n x ps p b):qU A st (Zh ps)
def uq(st:RdS)(dp:Option (List Str))(x u:Str):Bool:=match st.kinds.lookup x with
 |none=>false
 |some k=>(!(decide (k="part")&&(match dp with
  |none=>true
  |some ps=>!decide (x∈ps))))&&((!(decide (u="mark")&&decide (x∈st.cN)))&&decide (k∈(srv.lookup u).getD []))
theorem DS(x:Str):∀l:List Str,((l.map (·,Unit.unit)).lookup x).isSome=decide (x∈l)
 | []=>rfl
 |a::r=>by
  rw[Qc,Qw];by_cases h:x=a
  ·subst h;simp
  have h1:(x==a)=false:=by rw[beq_eq_false_iff_ne];exact h
  simp only[h1];rw[DS x r];simp[h]
theorem IP(h:srv.lookup u=Zh ks):Lm.lookup u=Zh (.sqt (ks.map D.str)):=by
 have:=Ae (λks:List Str=>D.sqt (ks.map D.str)) u srv;unfold Lm;rw[this,h];rfl
theorem G9(T:Txt K mg A)(sv:yp P w K mg a):∃f,cH P w K mg base 1 A.bS "serves" ["self","name","use"] (spI K (de f))/\∀(st:RdS)(dp:Option (List Str))(x u:Str),qU A st dp->(srv.lookup u).isSome=true->f [.cell 5,.str x,.str u] (enc A st)=Zh (.bl (uq st dp x u)):=by
 have kd_SERVING:=And.intro sv.gl sv.dic;refine{_,wa (fw T.kF (k:=0) jS λ_ _ _ _ _ _ _ hr hu=>qsc (cG 3 jS.nd (JG hu (bJ (oA T) (qv 0)) (qv 1))) (qsc (qif (QW.pt (fZ (bo (oeq hu) Zo (qv 3) bE) (d8 (QW.pt (ja (bo uo ZL (bJ (ju T) (qv 0)) dq) (eN (bo (yR hu) yQ (qv 1) (bJ (gm T) (bJ (ju T) (qv 0))) (by with_unfolding_all rfl)))))))) (qs1 (bw qbl)) qs0) (qsc (qif (QW.pt (fZ (bo (oeq hu) Zo (qv 2) bE) (d8 (bo (j8 hu) kz (qv 1) (bJ (pL T) (qv 0)) (by with_unfolding_all rfl))))) (qs1 (bw qbl)) qs0) (qs1 (bw (gU (j8 hu) kz (qv 3) (PY kd_SERVING.1 kd_SERVING.2 (qv 2) (λ_ _=>rfl)) (by with_unfolding_all rfl))))))),λst dp x u hd hu=>cT ?_ aG};obtain⟨ks,hk⟩:=Q4.mp hu;have hk':=IP hk;have f1:cf "kinds" [A.bS] (enc A st) (.cell 5)=Zh (.cell 6):=flc rfl (by simp) rfl;have f2:cf "deed" [A.bS] (enc A st) (.cell 5)=Zh st.eg:=flc rfl (by simp) rfl;have f3:cf "spoken" [A.bS] (enc A st) (.cell 5)=Zh (.cell 8):=flc rfl (by simp) rfl;have g1:ua (enc A st) (.cell 6) (.str x)=Zh (((st.kinds.lookup x).map D.str).getD .non):=BQ rfl;have g3:bK false (enc A st) (.str x) (.cell 8)=Zh (.bl (decide (x∈st.cN))):=by rw[<-DS];exact AO (M:=enc A st) (m:=8) (g:=λ_:Unit=>D.bl true) rfl
 have g4:∀k:Str,bK false (enc A st) (.str k) (.sqt (ks.map D.str))=Zh (.bl (decide (k∈ks))):=λk=>by
  show inD false (enc A st) (.str k) (.sqt (ks.map D.str))=_;exact nT (neg:=false) (ps:=ks) rfl
 have g5:bK false (enc A st) .non (.sqt (ks.map D.str))=Zh (.bl false):=by
  show(tH (ks.map D.str)).bind _=_;rw[pK];show Zh (D.bl (inV .non _))=_;congr 2;unfold inV;rw[SI,Yb];intro y _;simp[eqV]
 have e1:eqD false (enc A st) .non (.str "part")=Zh (.bl false):=rfl;show P6 _ _=_;unfold uq;generalize hM:enc A st=M at *;cases hl:st.kinds.lookup x with
 |none=>
  rw[hl]at g1;by_cases z:u="mark"
  ·subst z;cases hx:decide (x∈st.cN)<;>rw[hx]at g3<;>simp![f1,f3,g1,g3,g5,e1,eq_str,Ba,hk',bT]
  simp![f1,g1,g5,e1,eq_str,Ba,hk',z,bT]
 |some k=>
  rw[hl]at g1;have g1:ua M (.cell 6) (.str x)=Zh (.str k):=g1;rw[hk];have fin:∀b:Bool,decide (k∈ks)=b->bK false M (.str k) (.sqt (ks.map D.str))=Zh (.bl b):=λb e=>by rw[g4,e]
  generalize hkk:decide (k∈ks)=kb at *;have g4':=fin kb rfl;by_cases hp:k="part"
  ·subst hp;cases hd with
   |no h=>
    rw[h]at f2;simp![f1,f2,g1,eq_str,bT]
   |«at» m n y ps p b h d=>
    rw[h]at f2;rw[hM]at d;have f4:=d.ps (cs:=[A.a6]) (by simp);have g6:bK true M (.str x) (.cell p)=Zh (.bl (!decide (x∈ps))):=by
     show inD true M (.str x) (.cell p)=_;exact nT (neg:=true) (by unfold ba;simp only[d.pa])
    by_cases z:u="mark"
    ·subst z;cases hx:decide (x∈st.cN)<;>rw[hx]at g3<;>cases hy:decide (x∈ps)<;>rw[hy]at g6<;>simp![f1,f2,f3,f4,g1,g3,g4',g6,eq_str,Ba,hk',hkk,hx,hy,Cm,bT]
    cases hy:decide (x∈ps)<;>rw[hy]at g6<;>simp![f1,f2,f4,g1,g4',g6,eq_str,Ba,hk',hkk,hy,z,Cm,bT]
  by_cases z:u="mark"
  ·subst z;cases hx:decide (x∈st.cN)<;>rw[hx]at g3<;>simp![f1,f3,g1,g3,g4',eq_str,Ba,hk',hkk,hp,hx,bT]
  simp![f1,g1,g4',eq_str,Ba,hk',hkk,hp,z,bT]
theorem je{ι:Type}(u:ι->D)(I:List ι->SD->MS->Prop)(full:List ι)(st:∀(done:List ι)(x:ι)(rest:List ι)(B:SD)(M:MS),done++x::rest=full->I done B M->∃σ1 B' M',g (u x) B=Zh σ1/\rb σ1 M=Zh (.nx B' M')/\I (done++[x]) B' M'):∀(xs done:List ι)(B:SD)(M:MS),done++xs=full->I done B M->∃B' M',forL g rb (xs.map u) B M=Zh (.nx B' M')/\I full B' M'
 | [],done,B,M,e,h=>{B,M,rfl,by rw[Qo]at e;exact e▸h}
 |x::xs,done,B,M,e,h=>by
  obtain⟨σ1,B',M',e1,e2,h'⟩:=st done x xs B M e h;obtain⟨σ2,M2,e3,h2⟩:=je u I full st xs (done++[x]) B' M' (by rw[QC];exact e) h';refine{σ2,M2,?_,h2};show(g (u x) B).bind _=_;rw[e1];show(rb σ1 M).bind _=_;rw[e2];exact e3
theorem IF:enc A st++J=enc A { st with rest:=st.rest++J }:=rfl
theorem AU{α:Type}{l:List α}{J:List α}{n:Nat}{x:α}(h:l[n]?=Zh x):(l++J)[n]?=Zh x:=by
 rw[Qp (Qh.mp h).1];exact h
theorem cQ.app{M J:MS}{m:Nat}{n:Int}{x:Str}{ps:List Str}{p b:Nat}(h:cQ A M m n x ps p b):cQ A (M++J) m n x ps p b:=⟨AU h.ob,AU h.pa⟩
theorem qU.app(h:qU A st dp):qU A { st with rest:=st.rest++J } dp:=by
 cases h with
 |no h=>exact .no h
 |«at» m n x ps p b h d=>exact .at m n x ps p b h (IF (A:=A)▸d.app)
theorem Ia{β:Type}(g:β->D){l:List (Str×β)}{x:Str}{v:β}(h:l.lookup x=Zi):lr (.inr x) (g v) (l.map λp=>Q0 p.1) (l.map λp=>g p.2)=((l++[(x,v)]).map λp=>Q0 p.1,(l++[(x,v)]).map λp=>g p.2):=by
 unfold lr;rw[if_neg]
 ·simp
 intro z;obtain⟨k,hk,e⟩:=Sg.mp z;obtain⟨p,hp,e2⟩:=Qr.mp hk;have e3:=of_decide_eq_true e;rw[<-e2]at e3;have:=R9.mp h p hp;rw[Q0.inj e3]at this;simp at this
theorem lq(h1:re B M=Zh (g v))(h2:ro B M=Zh (.cell n))(h3:ri B M=Zh (.str x))(h4:M[n]?=Zh (c6 g l))(h5:l.lookup x=Zi)(h6:l.length<1000):qH ro ri re B M=Zh (.nx B (M.set n (c6 g (l++[(x,v)])))):=by
 unfold qH;rw[h1];show(ro B M).bind _=_;rw[h2];show(ri B M).bind _=_;rw[h3];show(match M[n]?,D.str x with|some (.lst ds),.int z=>_|some (.dic ks ds),i=>_|_,_=>Zi)=_;rw[h4];unfold c6;show(if _ then Zh (Out.nx B (M.set n (Ob.dic (lr (.inr x) (g v) _ _).1 (lr (.inr x) (g v) _ _).2)))else Zi)=_;rw[Ia g h5,if_pos];rw[P8];exact Qm h6 ∅
theorem Md{β:Type}{l r:List (Str×β)}{x:Str}:(l++r).lookup x=((l.lookup x).or (r.lookup x)):=by
 induction l with
 |nil=>simp
 |cons a l ih=>
  obtain⟨k,b⟩:=a;rw[YA,Qw,Qw];cases x==k<;>simp[ih]
theorem oJ{β:Type}{l:List (Str×β)}{x:Str}(h:x∉l.map (·.1)):l.lookup x=Zi:=by
 rw[R9];intro p hp;rw[bne_iff_ne];exact λz=>h (z▸Qr.mpr ⟨p,hp,rfl⟩)
def qP(kinds tl:List (Str×Str)):Prop:=(tl.map (·.1)).Nodup/\∀p∈tl,kinds.lookup p.1=Zi
theorem gT2:gT 2 (gsC (gN i) (gsC (gN j) gsN)) (prD p) B=Zh ((B.set i (Zh (.str p.1))).set j (Zh (.str p.2))):=rfl
theorem nU(h:p∈thU ts):p.2="thing":=by
 unfold thU at h;obtain⟨t,_,e⟩:=R0.mp h;cases t with
 |i n=>cases e
 |s x=>cases e;rfl
theorem rA(h:p∈vlU v):p.2="thing"\/p.2="list":=by
 cases v with
 |one t=>exact .inl (nU h)
 |op a n b=>exact .inl (nU h)
 |«at» x b=>
  rcases P7.mp h with rfl|h
  ·exact .inr rfl
  exact .inl (nU h)
theorem GJ(h:p∈ZG r):(srv.lookup p.2).isSome=true:=by
 have h1:∀{z:Str},z="thing"->(srv.lookup z).isSome=true:=λe=>by rw[e];decide
 have h2:∀{z:Str},z="thing"\/z="list"->(srv.lookup z).isSome=true:=λe=>by rcases e with e|e<;>rw[e]<;>decide
 cases r with
 |hand x r=>cases h
 |lett x r=>cases h
 |given x r z=>cases h
 |own x z=>cases h
 |set x v=>
  rcases P7.mp h with rfl|h
  ·show(srv.lookup ("place":Str)).isSome=true;decide
  exact h2 (rA h)
 |put x q v=>
  rcases P7.mp h with rfl|h
  ·show(srv.lookup ("put":Str)).isSome=true;decide
  rcases QD.mp h with h|h
  ·exact h1 (nU h)
  exact h2 (rA h)
 |send x v=>
  rcases P7.mp h with rfl|h
  ·show(srv.lookup ("hand":Str)).isSome=true;decide
  exact h2 (rA h)
 |say x v m=>
  rcases P7.mp h with rfl|h
  ·show(srv.lookup ("place":Str)).isSome=true;decide
  rcases QD.mp h with h|h
  ·exact h2 (rA h)
  rcases P7.mp h with rfl|h
  ·show(srv.lookup ("mark":Str)).isSome=true;decide
  cases h
 |call x ts=>exact h1 (nU h)
theorem E6:uq { st with rest:=st.rest++J } dp x u=uq st dp x u:=rfl
theorem w9:(M++[o]).set M.length o'=M++[o']:=by
 rw[RK _ _ (Qf _),QU];rfl
theorem Iz(T:Txt K mg A)(sv:yp P w K mg a):∃f,cH P w K mg base 4 A.bS "fault" ["self","row"] (spI K (de f))/\
  (∀st dp n r,qU A st dp->qP st.kinds (Zv r)->(∀x ts,r=.call x ts->ts.length<=640/\st.ended.lookup x=Zh (ts.length:Int))->(∀p∈ZG r,uq st dp p.1 p.2=true)->f [.cell 5,r.d A n] (enc A st)=Zh .non)/\
  ∀st dp m n x ps p b,qU A st dp->ps.length<=640->cQ A (enc A st) m n x ps p b->qP st.kinds (dW x ps)->f [.cell 5,.cell m] (enc A st)=Zh .non:=by
 obtain⟨fT,Tj,T1,T2⟩:=@oV P w _ _ base _ T
 obtain⟨fU,Ud,U1,U2⟩:=@xW P w _ _ base _ T
 obtain⟨fS,TR,S1⟩:=G9 (P:=P) (w:=w) (base:=base) T sv
 have main:∃F,cH P w K mg base 4 A.bS "fault" ["self","row"] (spI K F)/\∀(st:RdS)(dp:Option (List Str))(d:D)(tl ul:List (Str×Str)),qU A st dp->qP st.kinds tl->tl.length<1000->(∀J,fT [d] (enc A st++J)=Zh (.lst (tl.map prD)))->(∀J,fU [d] (enc A st++J)=Zh (.lst (ul.map prD)))->(∀p∈ul,uq st dp p.1 p.2=true/\(srv.lookup p.2).isSome=true)->
   ((∀J,isD (Zr A) (enc A st++J) [d,.adr A.bh]=Zh (.bl false))\/∃n x ts,d=Rw.d A n (.call x ts)/\st.ended.lookup x=Zh (ts.length:Int))->∃J,F [.cell 5,d] (enc A st)=Zh (.non,enc A st++J):=by
  refine{_,fw T.mL (k:=3) dk λ_ _ _ _ _ _ _ hr hu=>qsc (BE 2 dk.nd yw) (qsc (tQ (qit false (cA Tj hr (aa (qv 1) aA))) (qgt (n:=2) (yh (qgn 3 dk.nd) (yh (qgn 4 dk.nd) Ho))) (qsc (qif (QW.pt (ja (bo (j8 hu) kz (qv 3) (bJ (oA T) (qv 0)) (by with_unfolding_all rfl)) (eN (bo (j8 hu) kz (qv 3) (qv 2) (by with_unfolding_all rfl))))) (qs1 (bw (qv 3))) qs0) (qs1 (v5 hu (qv 2) (qv 3) (qv 4))))) (qsc (qif (QW.pt (fZ (cZ (qcB bB (ck (it T)) T.a9 (aa (qv 1) (aa (cX T.dB.mg) aA)))) (d8 (bo (one hu) su (JG hu (bJ (sO T) (qv 0)) (bJ (bZ T) (qv 1))) (qcB cb cO T.cE (aa (bJ (iY T) (qv 1)) aA)))))) (qs1 (bw (bJ (bZ T) (qv 1)))) qs0) (qsc (tQ (qit false (cA Ud hr (aa (qv 1) aA))) (qgt (n:=2) (yh (qgn 3 dk.nd) (yh (qgn 5 dk.nd) Ho))) (qs1 (qif (eG (cZ (mZ (qv 0) T.fj.cl TR hr (aa (qv 3) (aa (qv 5) aA))))) (qs1 (bw (qv 3))) qs0))) (qs1 (bw dq))))),?_}
  intro st dp d tl ul hd hn hl hT hU hS hC
  have f1:∀J,cf "kinds" [A.bS] (enc A st++J) (.cell 5)=Zh (.cell 6):=λJ=>flc rfl (by simp) rfl
  have f2:∀J,cf "ended" [A.bS] (enc A st++J) (.cell 5)=Zh (.cell 7):=λJ=>flc rfl (by simp) rfl
  have g1:∀J x,bK false (enc A st++J) (.str x) (.cell 6)=Zh (.bl (st.kinds.lookup x).isSome):=λJ x=>AO (M:=enc A st++J) (m:=6) (g:=D.str) (neg:=false) rfl
  have g2:∀J x,ua (enc A st++J) (.cell 7) (.str x)=Zh (((st.ended.lookup x).map D.int).getD .non):=λJ x=>BQ (M:=enc A st++J) (m:=7) rfl
  have s1:∀J x u,(srv.lookup u).isSome=true->uq st dp x u=true->fS [.cell 5,.str x,.str u] (enc A st++J)=Zh (.bl true):=λJ x u h1 h2=>by
   have:=S1 { st with rest:=st.rest++J } dp x u hd.app h1;rw[E6,h2]at this;exact this
  have o1:∀J,Zt (enc A st++J) (.cell 5)=Zh (A.bS,(["kinds","ended","deed","spoken"]:List Str),[.cell 6,.cell 7,st.eg,.cell 8]):=λJ=>rfl
  generalize hM:enc A st=M at *
  have lst:∀l:List (Str×Str),(M++[c6 D.str l])[M.length]?=Zh (c6 D.str l):=λl=>by simp
  have st1:=je (g:=gT 2 (gsC (gN 3) (gsC (gN 4) gsN))) (rb:=aP (sIf (dOr (aB aC (dOp (bK false) (dV 3) (dUn (cf "kinds" [A.bS]) (dV 0)))) (aB aC (dOp (bK false) (dV 3) (dV 2)))) (aX (dV 3)) aQ) (qH (dV 2) (dV 3) (dV 4))) prD
   (λdone B M'=>∃a b c,B=[Zh (.cell 5),Zh d,Zh (.cell M.length),a,b,c]/\M'=M++[c6 D.str done]) tl
   (λdone x rest B M' hx hI=>by
    obtain⟨a,b,c,rfl,rfl⟩:=hI;have hk:st.kinds.lookup x.1=Zi:=hn.2 x (by rw[<-hx];simp);have hd:done.lookup x.1=Zi:=oJ λz=>by
     have:=hn.1;rw[<-hx,Qz,Qc,Q8]at this;exact this.2.2 x.1 z x.1 (by simp) rfl
    have hlen:done.length<1000:=by
     have:done.length+(rest.length+1)=tl.length:=by rw[<-hx];simp
     lia
    refine{_,[Zh (.cell 5),Zh d,Zh (.cell M.length),Zh (.str x.1),Zh (.str x.2),c],M++[c6 D.str (done++[x])],gT2,?_,Zh (.str x.1),Zh (.str x.2),c,rfl,rfl};have g3:bK false (M++[c6 D.str done]) (.str x.1) (.cell M.length)=Zh (.bl false):=by rw[AO (lst done),hd];rfl
    have g1':=g1 [c6 D.str done] x.1;rw[hk]at g1';refine aR (B':=[Zh (.cell 5),Zh d,Zh (.cell M.length),Zh (.str x.1),Zh (.str x.2),c]) (M':=M++[c6 D.str done]) ?_ ?_
    ·simp![f1,g1',g3]
    refine(lq (n:=M.length) (g:=D.str) (l:=done) (x:=x.1) (v:=x.2) rfl rfl ?_ (lst done) hd hlen).trans (by rw[w9]);rfl) tl [] [Zh (.cell 5),Zh d,Zh (.cell M.length),Zi,Zi,Zi] (M++[c6 D.str []]) rfl ⟨Zi,Zi,Zi,rfl,rfl⟩
  obtain⟨B',M',e1,a1,b1,c1,rfl,rfl⟩:=st1
  have hT':=hT [c6 D.str []]
  have st2:=je (g:=gT 2 (gsC (gN 3) (gsC (gN 5) gsN))) (rb:=sIf (aV (aB aT (aM A.bS "serves" fS (dV 0) (ag (dV 3) (ag (dV 5) aK))))) (aX (dV 3)) aQ) prD
   (λdone B M'=>∃a b c,B=[Zh (.cell 5),Zh d,Zh (.cell M.length),a,b,c]/\M'=M++[c6 D.str tl]) ul
   (λdone x rest B M' hx hI=>by
    obtain⟨a,b,c,rfl,rfl⟩:=hI;obtain⟨h1,h2⟩:=hS x (by rw[<-hx];simp);have s1':=s1 [c6 D.str tl] x.1 x.2 h2 h1;refine{_,[Zh (.cell 5),Zh d,Zh (.cell M.length),Zh (.str x.1),b,Zh (.str x.2)],M++[c6 D.str tl],gT2,?_,Zh (.str x.1),b,Zh (.str x.2),rfl,rfl};have h3:("serves":Str)∉(["kinds","ended","deed","spoken"]:List Str):=∅
    dsimp! at h3;simp![o1,h3,s1']) ul [] [Zh (.cell 5),Zh d,Zh (.cell M.length),a1,b1,c1] (M++[c6 D.str tl]) rfl ⟨a1,b1,c1,rfl,rfl⟩
  obtain⟨B'',M'',e2,a2,b2,c2,rfl,rfl⟩:=st2
  have hU':=hU [c6 D.str tl]
  refine{[c6 D.str tl],(congrArg (P6 · bT) (aR (B':=[Zh (.cell 5),Zh d,Zh (.cell M.length),Zi,Zi,Zi]) (M':=M++[c6 D.str []]) rfl (aR (B':=[Zh (.cell 5),Zh d,Zh (.cell M.length),a1,b1,c1]) (M':=M++[c6 D.str tl]) ?_ (aR (B':=[Zh (.cell 5),Zh d,Zh (.cell M.length),a1,b1,c1]) (M':=M++[c6 D.str tl]) ?_ (aR (B':=[Zh (.cell 5),Zh d,Zh (.cell M.length),a2,b2,c2]) (M':=M++[c6 D.str tl]) ?_ (o:=.rt .non (M++[c6 D.str tl])) rfl))))).trans rfl}
  ·show P6 _ _=_;simp only[dIt,aJ,ag,aK,dV,QV,QJ,Q5,Rj,hT',bM,ba];exact e1
  ·rcases hC with hC|⟨n,x,ts,rfl,he⟩
   ·simp only[sIf,aY,aB,aN,ag,aK,dV,dC,QV,QJ,Q5,Rj,hC,aT,aQ,R7,if_false]
   have i1:isD (Zr A) (M++[c6 D.str tl]) [Rw.d A n (.call x ts),.adr A.bh]=Zh (.bl true):=by simp[Rw.d,bL]
   have i2:∀{cs:List Uu}{M:MS},A.bh∈cs->cf "name" cs M (Rw.d A n (.call x ts))=Zh (.str x):=λh=>iN h;have i3:∀{cs:List Uu}{M:MS},A.bh∈cs->cf "things" cs M (Rw.d A n (.call x ts))=Zh (.lst (ts.map Th.d)):=λh=>Lx h;have g2':=g2 [c6 D.str tl] x;rw[he]at g2';have g2':ua (M++[c6 D.str tl]) (.cell 7) (.str x)=Zh (.int ts.length):=g2';simp![i1,i2,i3,f2,g2',eq_int,bC]
  show P6 _ _=_
  simp only[dIt,aJ,ag,aK,dV,QV,QJ,Q5,Rj,hU',bM,ba]
  exact e2
 obtain⟨F,DF,core⟩:=main
 refine{_,wa DF,λst dp n r hd hn hc hu=>?_,λst dp m n x ps p b hd hl h hn=>?_}
 ·obtain⟨J,e⟩:=core st dp (r.d A n) (Zv r) (ZG r) hd hn (by cases r<;>simp[Zv]) (λJ=>T1 _ _ _) (λJ=>U1 _ _ _ λx ts e=>(hc x ts e).1) (λp hp=>⟨hu p hp,GJ hp⟩) (by
   cases r with
   |call x ts=>exact .inr {n,x,ts,rfl,(hc x ts rfl).2}
   |hand=>exact .inl λJ=>by simp[Rw.d,bL,nc T (a:=A.bh) (b:=A.bp) 8 0]
   |given=>exact .inl λJ=>by simp[Rw.d,bL,nc T (a:=A.bh) (b:=A.bj) 8 1]
   |own=>exact .inl λJ=>by simp[Rw.d,bL,nc T (a:=A.bh) (b:=A.bF) 8 2]
   |lett=>exact .inl λJ=>by simp[Rw.d,bL,nc T (a:=A.bh) (b:=A.bH) 8 3]
   |set=>exact .inl λJ=>by simp[Rw.d,bL,nc T (a:=A.bh) (b:=A.bG) 8 4]
   |put=>exact .inl λJ=>by simp[Rw.d,bL,nc T (a:=A.bh) (b:=A.bA) 8 5]
   |send=>exact .inl λJ=>by simp[Rw.d,bL,nc T (a:=A.bh) (b:=A.bq) 8 6]
   |say=>exact .inl λJ=>by simp[Rw.d,bL,nc T (a:=A.bh) (b:=A.bu) 8 7])
  exact wj e (qd rfl)
 obtain⟨J,e⟩:=core st dp (.cell m) (dW x ps) [] hd hn (by simp[dW];lia) (λJ=>T2 _ _ _ _ _ _ _ hl h.app) (λJ=>U2 _ _ _ _ _ _ _ h.app) (λp hp=>by cases hp) (.inl λJ=>by rw[hX h.app.ob (by simp) (by simp)];simp[nc T (a:=A.bh) (b:=A.a6) 8 12])
 exact wj e (qd rfl)
noncomputable def gX(l:List Str):Rw->List Str
 | .say _ _ m=>l++[m]
 |_=>l
theorem HX:c6 (λ_:Unit=>D.bl true) (l.map (·,Unit.unit)++[(m,Unit.unit)])=Kd (l++[m]):=by
 unfold Kd;rw[Qz];rfl
theorem k9(h:ri B M=Zh ds):A7 ri g rb B M=forL g rb ds B M:=by
 unfold A7;rw[h];rfl
theorem Bx(h1:ra B M=Zh ds)(h2:f ds M=Zh (.lst xs)):dIt false (aJ f ra) B M=Zh xs:=by
 unfold dIt aJ;rw[h1];show(f ds M).bind _=_;rw[h2];rfl
theorem MH(T:Txt K mg A):∃F,cH P w K mg base 2 A.bS "keep" ["self","row"] (spI K F)/\
  (∀st n r,qP st.kinds (Zv r)->st.kinds.length<900->(∀x v m,r=.say x v m->m∉st.cN/\st.cN.length<900)->F [.cell 5,r.d A n] (enc A st)=Zh (.non,enc A { st with kinds:=st.kinds++Zv r,cN:=gX st.cN r }))/\
  ∀st m n x ps p b,ps.length<=10->st.kinds.length<900->10<=m->10<=p->cQ A (enc A st) m n x ps p b->qP st.kinds (dW x ps)->F [.cell 5,.cell m] (enc A st)=Zh (.non,enc A { st with kinds:=st.kinds++dW x ps,eg:=.cell m }):=by
 obtain⟨fT,Tj,T1,T2⟩:=@oV P w _ _ base _ T
 refine{_,fw T.nN (k:=1) ie λ_ _ _ _ _ _ _ hr hu=>qsc (tQ (qit false (cA Tj hr (aa (qv 1) aA))) (qgt (n:=2) (yh (qgn 2 ie.nd) (yh (qgn 3 ie.nd) Ho))) (qs1 (v5 hu (bJ (oA T) (qv 0)) (qv 2) (qv 3)))) (qsc (qif (cZ (qcB bB (ck (it T)) T.a9 (aa (qv 1) (aa (cX T.dm.mg) aA)))) (qs1 (cR (ju T) (qv 0) (qv 1))) qs0) (qs1 (qif (cZ (qcB bB (ck (it T)) T.a9 (aa (qv 1) (aa (cX T.d5.mg) aA)))) (qs1 (v5 hu (bJ (pL T) (qv 0)) (bJ (rB T) (qv 1)) qbl)) qs0))),?_}
 have core:∀(st:RdS)(d:D)(tl:List (Str×Str)),qP st.kinds tl->st.kinds.length+tl.length<1000->∃a b,forL (gT 2 (gsC (gN 2) (gsC (gN 3) gsN))) (qH (dUn (cf "kinds" [A.bS]) (dV 0)) (dV 2) (dV 3)) (tl.map prD) [Zh (.cell 5),Zh d,Zi,Zi] (enc A st)=Zh (.nx [Zh (.cell 5),Zh d,a,b] (enc A { st with kinds:=st.kinds++tl })):=by
  intro st d tl hn hl;have f1:∀st,cf "kinds" [A.bS] (enc A st) (.cell 5)=Zh (.cell 6):=λst=>flc rfl (by simp) rfl;obtain⟨B',M',e1,a,b,rfl,rfl⟩:=je (g:=gT 2 (gsC (gN 2) (gsC (gN 3) gsN))) (rb:=qH (dUn (cf "kinds" [A.bS]) (dV 0)) (dV 2) (dV 3)) prD
   (λdone B M'=>∃a b,B=[Zh (.cell 5),Zh d,a,b]/\M'=enc A { st with kinds:=st.kinds++done }) tl
   (λdone x rest B M' hx hI=>by
    obtain⟨a,b,rfl,rfl⟩:=hI;have hk:st.kinds.lookup x.1=Zi:=hn.2 x (by rw[<-hx];simp);have hd:done.lookup x.1=Zi:=oJ λz=>by
     have:=hn.1;rw[<-hx,Qz,Qc,Q8]at this;exact this.2.2 x.1 z x.1 (by simp) rfl
    have hlen:(st.kinds++done).length<1000:=by
     have:done.length+(rest.length+1)=tl.length:=by rw[<-hx];simp
     rw[Qj];lia
    refine⟨_,[Zh (.cell 5),Zh d,Zh (.str x.1),Zh (.str x.2)],enc A { st with kinds:=st.kinds++(done++[x]) },gT2,?_,Zh (.str x.1),Zh (.str x.2),rfl,rfl⟩;refine(lq (n:=6) (g:=D.str) (l:=st.kinds++done) (x:=x.1) (v:=x.2) rfl (f1 _) rfl rfl ?_ hlen).trans ?_
    ·rw[Md,hk,hd];rfl
    rw[<-QC];rfl) tl [] [Zh (.cell 5),Zh d,Zi,Zi] (enc A st) rfl {Zi,Zi,rfl,by rw[Qo]}
  exact⟨a,b,e1⟩
 refine{λst n r hn hl hs=>?_,λst m n x ps p b hl hl2 hm hp h hn=>?_}
 ·obtain⟨a,b,e1⟩:=core st (r.d A n) (Zv r) hn (by
   have:(Zv r).length<=1:=by cases r<;>simp[Zv]
   lia)
  have t1:=T1 (enc A st) n r;generalize hst:({ st with kinds:=st.kinds++Zv r }:RdS)=st1 at e1;have fS:cf "spoken" [A.bS] (enc A st1) (.cell 5)=Zh (.cell 8):=flc rfl (by simp) rfl;refine(congrArg (P6 · bT) (aR (B':=[Zh (.cell 5),Zh (r.d A n),a,b]) (M':=enc A st1) ((k9 (Bx rfl t1)).trans e1) (aR (B':=[Zh (.cell 5),Zh (r.d A n),a,b]) (M':=enc A st1) ?_ (o:=.nx [Zh (.cell 5),Zh (r.d A n),a,b] (enc A { st1 with cN:=gX st.cN r })) ?_))).trans (by subst hst;rfl)
  ·cases r with
   |hand=>simp![Rw.d,bL,ncA T]
   |given=>simp![Rw.d,bL,ncA T]
   |own=>simp![Rw.d,bL,ncA T]
   |lett=>simp![Rw.d,bL,ncA T]
   |set=>simp![Rw.d,bL,ncA T]
   |put=>simp![Rw.d,bL,ncA T]
   |send=>simp![Rw.d,bL,ncA T]
   |say=>simp![Rw.d,bL,ncA T]
   |call=>simp![Rw.d,bL,ncA T]
  have same:st1.cN=st.cN:=by subst hst;rfl
  have keep:{ st1 with cN:=st.cN }=st1:=by subst hst;rfl
  cases r with
  |hand=>simp![Rw.d,bL,ncA T,gX,keep]
  |given=>simp![Rw.d,bL,ncA T,gX,keep]
  |own=>simp![Rw.d,bL,ncA T,gX,keep]
  |lett=>simp![Rw.d,bL,ncA T,gX,keep]
  |set=>simp![Rw.d,bL,ncA T,gX,keep]
  |put=>simp![Rw.d,bL,ncA T,gX,keep]
  |send=>simp![Rw.d,bL,ncA T,gX,keep]
  |call=>simp![Rw.d,bL,ncA T,gX,keep]
  |say x v m=>
   have i1:isD (Zr A) (enc A st1) [Rw.d A n (.say x v m),.adr A.bu]=Zh (.bl true):=by simp[Rw.d,bL]
   obtain⟨h1,h2⟩:=hs x v m rfl;have:=lq (ro:=dUn (cf "spoken" [A.bS]) (dV 0)) (ri:=dUn (cf "mark" [A.bu]) (dV 1)) (re:=dC (.bl true)) (B:=[Zh (.cell 5),Zh (Rw.d A n (.say x v m)),a,b]) (M:=enc A st1) (n:=8) (g:=λ_:Unit=>D.bl true) (l:=st1.cN.map (·,Unit.unit)) (x:=m) (v:=Unit.unit) rfl (by show P6 _ _=_;exact fS) (by show P6 _ _=_;exact KN (M:=enc A st1) (by simp)) rfl (oJ (by rw[same];intro z;obtain⟨q,hq,e⟩:=Qr.mp z;obtain⟨q',hq',e'⟩:=Qr.mp hq;subst e';exact h1 (e▸hq'))) (by rw[P8,same];lia);rw[HX,same]at this;show P6 _ _=_;simp only[aB,aN,ag,aK,dV,dC,QV,QJ,Q5,Rj,i1,aT,if_true];exact this
 have hlt:(dW x ps).length<=11:=by simp[dW];lia
 obtain⟨a,b',e1⟩:=core st (.cell m) (dW x ps) hn ()
 have t1:=T2 (enc A st) m n x ps p b () h
 generalize hst:({ st with kinds:=st.kinds++dW x ps }:RdS)=st1 at e1
 have ob:(enc A st1)[m]?=Zh (.obj A.a6 dFn [.int n,.str x,.cell p,.cell b]):=by
  subst hst;obtain⟨k,rfl⟩:∃k,m=k+10:={m-10,()};exact h.ob
 have ob2:(enc A { st1 with eg:=.cell m })[m]?=Zh (.obj A.a6 dFn [.int n,.str x,.cell p,.cell b]):=by
  obtain⟨k,rfl⟩:∃k,m=k+10:={m-10,()};exact ob
 refine(congrArg (P6 · bT) (aR (B':=[Zh (.cell 5),Zh (.cell m),a,b']) (M':=enc A st1) ((k9 (Bx rfl t1)).trans e1) (aR (B':=[Zh (.cell 5),Zh (.cell m),a,b']) (M':=enc A { st1 with eg:=.cell m }) ?_ (o:=.nx [Zh (.cell 5),Zh (.cell m),a,b'] (enc A { st1 with eg:=.cell m })) ?_))).trans (by subst hst;rfl)
 ·have i1:isD (Zr A) (enc A st1) [.cell m,.adr A.a6]=Zh (.bl true):=by rw[hX ob (by simp) (by simp)];simp
  have:=eI (f:="deed") (cs:=[A.bS]) (ro:=dV 0) (re:=dV 1) (B:=[Zh (.cell 5),Zh (.cell m),a,b']) (M:=enc A st1) (d:=.cell m) (n:=5) (fn':=["kinds","ended","deed","spoken"]) (ds':=[.cell 6,.cell 7,.cell m,.cell 8]) rfl rfl rfl (by simp) (by show(4:Nat)<1000;decide) rfl;show P6 _ _=_;simp only[aB,aN,ag,aK,dV,dC,QV,QJ,Q5,Rj,i1,aT,if_true];exact this
 have i1:isD (Zr A) (enc A { st1 with eg:=.cell m }) [.cell m,.adr A.bu]=Zh (.bl false):=by rw[hX ob2 (by simp) (by simp)];simp[nc T (a:=A.bu) (b:=A.a6) 7 12]
 show P6 _ _=_
 simp only[aB,aN,ag,aK,dV,dC,QV,QJ,Q5,Rj,i1,aT,R7,if_false]
 rfl
theorem Aa(T:Txt K mg A):∃F,cH P w K mg base 1 A.bS "end_deed" ["self"] (spI K F)/\
  ∀st m n x ps p b,cQ A (enc A st) m n x ps p b->st.eg=.cell m->st.ended.lookup x=Zi->st.ended.length<900->10<=m->10<=p->F [.cell 5] (enc A st)=Zh (.non,enc A { st with ended:=st.ended++[(x,(ps.length:Int))],eg:=.non }):=by
 refine{_,fw T.iS (k:=0) oZ λ_ _ _ _ _ _ _ hr hu=>qsc (v5 hu (bJ (sO T) (qv 0)) (bJ (bZ T) (bJ (ju T) (qv 0))) (qcB cb cO T.cE (aa (bJ (gm T) (bJ (ju T) (qv 0))) aA))) (qs1 (cR (ju T) (qv 0) dq)),λst m n x ps p b h hd he hl hm hp=>?_}
 have f1:cf "ended" [A.bS] (enc A st) (.cell 5)=Zh (.cell 7):=flc rfl (by simp) rfl
 have f2:cf "deed" [A.bS] (enc A st) (.cell 5)=Zh (.cell m):=hd▸flc rfl (by simp) rfl
 have f3:=h.nm (cs:=[A.bp,A.bj,A.bF,A.bH,A.bG,A.bA,A.bq,A.bu,A.bh,A.a6]) (by simp)
 have f4:=h.ps (cs:=[A.a6]) (by simp)
 have l1:eP (enc A st) [.cell p]=Zh (.int (ps.length:Nat)):=by
  have:ba (enc A st) (.cell p)=Zh (ps.map D.str):=by unfold ba;simp only[h.pa]
  unfold eP;simp only[this,P8]
 refine(congrArg (P6 · bT) (aR (B':=[Zh (.cell 5)]) (M':=enc A { st with ended:=st.ended++[(x,(ps.length:Int))] }) ?_ (o:=.nx [Zh (.cell 5)] (enc A { st with ended:=st.ended++[(x,(ps.length:Int))],eg:=.non })) ?_)).trans rfl
 ·refine(lq (n:=7) (g:=D.int) (l:=st.ended) (x:=x) (v:=(ps.length:Int)) ?_ ?_ ?_ rfl he ()).trans rfl
  ·simp![f2,f4,l1]
  ·simp![f1]
  simp![f2,f3]
 exact eI (f:="deed") (n:=5) (d:=.non) (fn':=["kinds","ended","deed","spoken"]) (ds':=[.cell 6,.cell 7,.non,.cell 8]) rfl rfl rfl (by simp) (by show(4:Nat)<1000;decide) rfl
noncomputable def oFn:List Str:=["word","row","rows"]
theorem mf(T:Txt K mg A):cH P w K mg base 1 A.Opened "__init__" ["self","word","row","rows"] (spI K (jY [A.Opened] oFn)):=by
 refine qO (fw T.mO (k:=0) rK λ_ _ _ _ _ _ _ hr hu=>qsc (cR (oN T) (qv 0) (qv 1)) (qsc (cR (DM T) (qv 0) (qv 2)) (qs1 (cR (xB T) (qv 0) (qv 3))))) λds M d M' e=>?_;obtain⟨n,vs,C,rfl,hM,hC,hl,rfl,rfl⟩:=gG e;obtain rfl:=Qg.mp hC;match vs,hl,e with
 | [v0,v1,v2],_,_=>
  have s0:=cP (o':=Ob.obj A.Opened ["word"] [v0]) hM;have s1:=cP (o':=Ob.obj A.Opened ["word","row"] [v0,v1]) s0;refine(congrArg (P6 · bT) (aR (eI (f:="word") (d:=v0) (n:=n) (fn':=["word"]) (ds':=[v0]) rfl rfl hM (by simp) (by show(0:Nat)<1000;decide) rfl) (aR (eI (f:="row") (d:=v1) (n:=n) (fn':=["word","row"]) (ds':=[v0,v1]) rfl rfl s0 (by simp) (by show(1:Nat)<1000;decide) rfl) (eI (f:="rows") (d:=v2) (n:=n) (fn':=["word","row","rows"]) (ds':=[v0,v1,v2]) rfl rfl s1 (by simp) (by show(2:Nat)<1000;decide) rfl)))).trans ?_;show Zh (D.non,_)=_;rw[Qt];rw[Qt];rfl
theorem qJ(h:ra B M=Zh [a,b,c]):oR A.Opened (jY [A.Opened] oFn) ra B M=Zh (.cell M.length,M++[.obj A.Opened oFn [a,b,c]]):=by
 unfold oR;rw[h];show(jY [A.Opened] oFn (.cell M.length::[a,b,c]) (M++[.obj A.Opened [] []])).bind _=_;rw[eT (C:=A.Opened) (by simp) (by simp) rfl];show Zh (D.cell M.length,(M++[Ob.obj A.Opened [] []]).set M.length _)=_;rw[w9]
theorem gk(h1:ro B M=Zh (.cell n))(h2:re B M=Zh d)(h3:M[n]?=Zh (.lst ds))(h4:ds.length<1000):CQ ro re B M=Zh (.nx B (M.set n (.lst (ds++[d])))):=by
 unfold CQ;rw[h1];show(re B M).bind _=_;rw[h2];show(match M[n]? with|some (.lst ds)=>_|_=>Zi)=_;rw[h3];exact if_pos (Qm h4 ∅)
theorem yH(h1:ro B M=Zh (.cell n))(h2:rx B M=Zh (d,M'))(h3:M[n]?=Zh (.lst ds'))(h5:M'[n]?=Zh (.lst ds))(h4:ds.length<1000):GX ro rx B M=Zh (.nx B (M'.set n (.lst (ds++[d])))):=by
 unfold GX;rw[h1];show(rx B M).bind _=_;rw[h2];show(match M[n]?,M'[n]? with|some (.lst _),Zh (.lst ds)=>_|_,_=>Zi)=_;rw[h3,h5];exact if_pos (Qm h4 ∅)
inductive qE(A:Adr)(st:RdS):Option (Str×D×Nat)->Prop
 |no (h:st.opened=[]):qE A st Zi
 |at (os:List D) (k:Nat) (wd:Str) (row:D) (r:Nat) (h:st.opened=os++[.cell k]) (o:(enc A st)[k]?=Zh (.obj A.Opened oFn [.str wd,row,.cell r])) (g:10<=k):qE A st (Zh (wd,row,r))
theorem CI:atI (l++[x]) (-1)=Zh x:=by
 have h:ixN (l++[x]).length (-1)=Zh l.length:=by
  unfold ixN;rw[if_neg ∅,if_pos (by rw[Qj,Rl];lia)];congr 1;rw[Qj,Rl];lia
 unfold atI;rw[h];show(l++[x])[l.length]?=Zh x;simp
theorem fz(st:RdS)(h:A.Reader∈cs):cf "opened" cs (enc A st) (.cell 0)=Zh (.cell 9):=flc rfl h rfl
theorem pR(st:RdS)(h:A.Reader∈cs):cf "program" cs (enc A st) (.cell 0)=Zh (.cell 1):=flc rfl h rfl
theorem rE(st:RdS)(h:A.Reader∈cs):cf "names" cs (enc A st) (.cell 0)=Zh (.cell 5):=flc rfl h rfl
theorem BA(st:RdS)(h:A.Reader∈cs):cf "begun" cs (enc A st) (.cell 0)=Zh (.bl st.begun):=flc rfl h rfl
theorem Jg(st:RdS)(h:A.Program∈cs):cf "heads" cs (enc A st) (.cell 1)=Zh (.cell 2):=flc rfl h rfl
theorem oW(st:RdS)(h:A.Program∈cs):cf "deeds" cs (enc A st) (.cell 1)=Zh (.cell 3):=flc rfl h rfl
theorem Ep(st:RdS)(h:A.Program∈cs):cf "main" cs (enc A st) (.cell 1)=Zh (.cell 4):=flc rfl h rfl
theorem A0(o:(enc A st)[k]?=Zh (.obj A.Opened oFn [.str x,row,r]))(h:A.Opened∈cs):cf "word" cs (enc A st) (.cell k)=Zh (.str x):=flc o h rfl
theorem KI(o:(enc A st)[k]?=Zh (.obj A.Opened oFn [.str x,row,r]))(h:A.Opened∈cs):cf "rows" cs (enc A st) (.cell k)=Zh r:=flc o h rfl
theorem nQ(st:RdS):eqE neg (enc A st) (.cell 9) (.lst [])=Zh (.bl (if neg then !st.opened.isEmpty else st.opened.isEmpty)):=rfl
theorem Iv(st:RdS):eqE neg (enc A st) (.cell 3) (.lst [])=Zh (.bl (if neg then !st.dj.isEmpty else st.dj.isEmpty)):=rfl
theorem vV(st:RdS):ixD (enc A st) (.cell 9) (.int i)=atI st.opened i:=rfl
noncomputable def ot:Option (Str×D×Nat)->Option Str:=Option.map (·.1)
theorem EM(T:Txt K mg A):∃f,cH P w K mg base 1 A.Reader "inside" ["self","word"] (spI K (de f))/\∀st t (x:Str),qE A st t->f [.cell 0,.str x] (enc A st)=Zh (.bl (decide (ot t=Zh x))):=by
 refine{_,wa (fw T.jF (k:=0) p9 λ_ _ _ _ _ _ _ hr hu=>qs1 (bw (dX (gU (kl hu) kH (bJ (cK T) (qv 0)) (cF aA)) (gW (gU (oeq hu) Zo (bJ (oN T) (qix hu (bJ (cK T) (qv 0)) (we a8))) (qv 1)))))),λst t x ht=>cT ?_ aG};have f1:=fz (A:=A) st (cs:=[A.Reader]) (by simp);have e1:=nQ (A:=A) st (neg:=true);have i1:=vV (A:=A) st (i:=-1);show P6 _ _=_;cases ht with
 |no h=>
  rw[h]at e1;generalize enc A st=M at *;simp![f1,e1,ot,bT]
 |«at» os k wd row r h o g=>
  have f2:=A0 o (cs:=[A.Opened]) (by simp);rw[h,CI]at i1;have e1:eqE true (enc A st) (.cell 9) (.lst [])=Zh (.bl true):=by rw[e1,h];simp
  generalize enc A st=M at *;simp![f1,f2,e1,i1,km,eq_str,ot,bT]
noncomputable def hdW:List Str:=["hand","given","own","let"]
def oT(st:RdS)(t:Option Str)(x:Str):Bool:=if x∈hdW then st.dj.isEmpty&& !st.begun else if x="deed"\/x="main" then st.opened.isEmpty&& !st.begun else if x="else" then decide (t=Zh ("if":Str))else if x="end" then t.isSome&& !decide (t=Zh ("if":Str))else t.isSome
theorem qE.em(h:qE A st t):st.opened.isEmpty=!(ot t).isSome:=by
 cases h with
 |no h=>rw[h];rfl
 |«at» os k wd row r h o g=>rw[h];simp[ot]
theorem Ca:bK false M (.str x) (.sqt [.str "hand",.str "given",.str "own",.str "let"])=Zh (.bl (decide (x∈hdW))):=by
 show inD false M (.str x) (.sqt [.str "hand",.str "given",.str "own",.str "let"])=_;exact nT (neg:=false) (ps:=hdW) rfl
theorem y4(T:Txt K mg A):∃f,cH P w K mg base 2 A.Reader "may_stand" ["self","word"] (spI K (de f))/\∀st t (x:Str),x≠"last"->qE A st t->f [.cell 0,.str x] (enc A st)=Zh (.bl (oT st (ot t) x)):=by
 obtain⟨fI,To,I1⟩:=@EM P w _ _ base _ T;refine{_,wa (fw T.gM (k:=1) lS λ_ _ _ _ _ _ _ hr hu=>qsc (qif (bo (j8 hu) kz (qv 1) (Gk T.rG) (by with_unfolding_all rfl)) (qs1 (bw (dX (gU (Fg hu) E4 (bJ (dn T) (bJ (ee T) (qv 0))) (cF aA)) (gW (B5 (bJ (kh T) (qv 0))))))) qs0) (qsc (qif (QW.pt (ja (bo (oeq hu) Zo (qv 1) bE) (eN (bo (oeq hu) Zo (qv 1) bE)))) (qs1 (bw (dX (gU (Fg hu) E4 (bJ (cK T) (qv 0)) (cF aA)) (gW (B5 (bJ (kh T) (qv 0))))))) qs0) (qsc (qif (bo (oeq hu) Zo (qv 1) bE) (qs1 (bw (mZ (qv 0) T.c7.cl To hr (aa bE aA)))) qs0) (qsc (qif (bo (oeq hu) Zo (qv 1) bE) (qs1 (bw (dX (gU (kl hu) kH (bJ (cK T) (qv 0)) (cF aA)) (gW (B5 (mZ (qv 0) T.c7.cl To hr (aa bE aA))))))) qs0) (qsc (qif (bo (oeq hu) Zo (qv 1) bE) (qs1 (bw (qcB JX D6 T.yZ (aa (jc (N:=["one"]) (own:=1) (fr:=[]) (cv.of (by kernel_rfl!)) (qit true (bJ (cK T) (qv 0))) (λb=>qgn 0 (show U4 (["one"]:List Ve) by decide+kernel)) (λb=>qf0) (λb=>gU (oeq hu) Zo (bJ (oN T) (qv 0)) bE) (fA ∅)) aA)))) qs0) (qs1 (bw (gU (kl hu) kH (bJ (cK T) (qv 0)) (cF aA))))))))),λst t x hx ht=>cT ?_ aG};have f1:=fz (A:=A) st (cs:=[A.Reader]) (by simp);have f2:=pR (A:=A) st (cs:=[A.Reader]) (by simp);have f3:=oW (A:=A) st (cs:=[A.Program]) (by simp);have f4:=BA (A:=A) st (cs:=[A.Reader]) (by simp);have e1:=nQ (A:=A) st (neg:=true);have e2:=nQ (A:=A) st (neg:=false);have e3:=Iv (A:=A) st (neg:=false);have i1:=I1 st t "if" ht;have o1:Zt (enc A st) (.cell 0)=Zh (A.Reader,(["program","names","opened","begun"]:List Str),[.cell 1,.cell 5,.cell 9,.bl st.begun]):=rfl;have o2:("inside":Str)∉(["program","names","opened","begun"]:List Str):=∅
 have h0:=Ca (M:=enc A st) (x:=x);have em:=ht.em;show P6 _ _=_;unfold oT;rw[em]at e1 e2⊢;generalize enc A st=M at *;dsimp! at o2;generalize hd:st.dj.isEmpty=db at *;generalize hb:st.begun=bb at *;generalize ht':(ot t).isSome=tb at *;generalize hi:decide (ot t=Zh ("if":Str))=ib at *;by_cases h1:x∈hdW
 ·rw[decide_eq_true h1]at h0;cases db<;>cases bb<;>simp![f2,f3,f4,e3,h0,h1,bT]
 rw[decide_eq_false h1]at h0;by_cases h2:x="deed"
 ·subst h2;cases tb<;>cases bb<;>simp![f1,f4,e2,h0,h1,eq_str,bT]
 by_cases h3:x="main"
 ·subst h3;cases tb<;>cases bb<;>dsimp![f1,f4,e2,h0,h1,eq_str,bT]
 by_cases h4:x="else"
 ·subst h4;cases ib<;>dsimp![f1,i1,o1,o2,h0,h1,eq_str,bT]
 by_cases h5:x="end"
 ·subst h5;cases tb<;>cases ib<;>dsimp![f1,e1,i1,o1,o2,h0,h1,eq_str,bT]
 cases tb<;>simp![f1,e1,h0,h1,h2,h3,h4,h5,hx,eq_str,bT]
theorem OT(T:Txt K mg A)(r:Rw):isD (Zr A) M [r.d A n,.adr A.a6]=Zh (.bl false)/\isD (Zr A) M [r.d A n,.adr A.b5]=Zh (.bl false)/\isD (Zr A) M [r.d A n,.adr A.bt]=Zh (.bl false):=by
 cases r with
 |hand=>simp[Rw.d,bL,ncA T]
 |given=>simp[Rw.d,bL,ncA T]
 |own=>simp[Rw.d,bL,ncA T]
 |lett=>simp[Rw.d,bL,ncA T]
 |set=>simp[Rw.d,bL,ncA T]
 |put=>simp[Rw.d,bL,ncA T]
 |send=>simp[Rw.d,bL,ncA T]
 |say=>simp[Rw.d,bL,ncA T]
 |call=>simp[Rw.d,bL,ncA T]
theorem eF(h:q B M=Zh true)(h2:a B M=o):sIf q a b B M=o:=by
 unfold sIf;rw[h];exact h2
theorem b6(h:q B M=Zh false)(h2:b B M=o):sIf q a b B M=o:=by
 unfold sIf;rw[h];exact h2
structure Mm(A:Adr)(st:RdS)(r:Rw):Prop where
 dd:∃dp,qU A st dp/\∀p∈ZG r,uq st dp p.1 p.2=true
 nw:qP st.kinds (Zv r)
 ca:∀x ts,r=.call x ts->ts.length<=640/\st.ended.lookup x=Zh (ts.length:Int)
theorem Jy(T:Txt K mg A)(sv:yp P w K mg a):∃f,cH P w K mg base 5 A.Reader "check" ["self","number","row"] (spI K (de f))/\
  (∀st n r,Mm A st r->f [.cell 0,.int n,r.d A n] (enc A st)=Zh .non)/\
  ∀st dp m n x ps p b,qU A st dp->ps.length<=640->cQ A (enc A st) m n x ps p b->qP st.kinds (dW x ps)->st.dj.length<8->f [.cell 0,.int n,.cell m] (enc A st)=Zh .non:=by
 obtain⟨fF,T7,F1,F2⟩:=Iz (P:=P) (w:=w) (base:=base) T sv
 refine{_,wa (fw T.kx (k:=4) jM λ_ _ _ _ _ _ _ hr hu=>qsc (cG 3 jM.nd (mZ (bJ (oU T) (qv 0)) T.fj.cl T7 hr (aa (qv 2) aA))) (qsc (qif (bo xg wU (qv 3) dq) (qs1 qnv) qs0) (qsc (qif (QW.pt (fZ (cZ (qcB bB (ck (it T)) T.a9 (aa (qv 2) (aa (cX T.dm.mg) aA)))) (d8 (bo LG Mw (qcB cb cO T.cE (aa (bJ (dn T) (bJ (ee T) (qv 0))) aA)) (my T.oO))))) (qs1 qnv) qs0) (qs1 (qif (QW.pt (fZ (QW.pt (ja (cZ (qcB bB (ck (it T)) T.a9 (aa (qv 2) (aa (cX T.gb.mg) aA)))) (eN (cZ (qcB bB (ck (it T)) T.a9 (aa (qv 2) (aa (cX T.ff.mg) aA))))))) (d8 (bo LG Mw (qop El ZN (qcB cb cO T.cE (aa (bJ (cK T) (qv 0)) aA)) a8) (my T.qz))))) (qs1 qnv) qs0))))),λst n r h=>cT ?_ aq,λst dp m n x ps p b hd hl h hn h8=>cT ?_ aq}
 ·obtain⟨dp,h1,h2⟩:=h.dd;have e1:=F1 st dp n r h1 h.nw h.ca h2;obtain⟨i1,i2,i3⟩:=OT T (M:=enc A st) (n:=n) r;have f1:=rE (A:=A) st (cs:=[A.Reader]) (by simp);have o1:Zt (enc A st) (.cell 5)=Zh (A.bS,(["kinds","ended","deed","spoken"]:List Str),[.cell 6,.cell 7,st.eg,.cell 8]):=rfl;have o2:("fault":Str)∉(["kinds","ended","deed","spoken"]:List Str):=∅
  dsimp! at o2;show P6 _ _=_;generalize enc A st=M at *;generalize r.d A n=d at *;simp![f1,o1,o2,e1,i1,i2,i3,bT]
 have e1:=F2 st dp m n x ps p b hd hl h hn
 have i1:isD (Zr A) (enc A st) [.cell m,.adr A.a6]=Zh (.bl true):=by rw[hX h.ob (by simp) (by simp)];simp
 have i2:isD (Zr A) (enc A st) [.cell m,.adr A.b5]=Zh (.bl false):=by rw[hX h.ob (by simp) (by simp)];simp[ncA T]
 have i3:isD (Zr A) (enc A st) [.cell m,.adr A.bt]=Zh (.bl false):=by rw[hX h.ob (by simp) (by simp)];simp[ncA T]
 have f1:=rE (A:=A) st (cs:=[A.Reader]) (by simp)
 have f2:=pR (A:=A) st (cs:=[A.Reader]) (by simp)
 have f3:=oW (A:=A) st (cs:=[A.Program]) (by simp)
 have l1:eP (enc A st) [.cell 3]=Zh (.int (st.dj.length:Nat)):=rfl
 have o1:Zt (enc A st) (.cell 5)=Zh (A.bS,(["kinds","ended","deed","spoken"]:List Str),[.cell 6,.cell 7,st.eg,.cell 8]):=rfl
 have o2:("fault":Str)∉(["kinds","ended","deed","spoken"]:List Str):=∅
 have h9:¬ (8:Int)<=(st.dj.length:Int):=()
 dsimp! at o2
 show P6 _ _=_
 generalize enc A st=M at *
 simp![f1,f2,f3,l1,o1,o2,e1,i1,i2,i3,h9,bT]
theorem Ir(T:Txt K mg A):∃F,cH P w K mg base 3 A.Reader "place_row" ["self","word","row"] (spI K F)/\
  (∀st (k:Str) d,k∈hdW->st.heads.length<900->F [.cell 0,.str k,d] (enc A st)=Zh (.non,enc A { st with heads:=st.heads++[d] }))/\
  (∀st (k:Str) d os j (wd:Str) row r ds,k∉hdW->k≠"deed"->k≠"loop"->k≠"if"->st.opened=os++[.cell j]->(enc A st)[j]?=Zh (.obj A.Opened oFn [.str wd,row,.cell r])->(enc A st)[r]?=Zh (.lst ds)->ds.length<900->F [.cell 0,.str k,d] (enc A st)=Zh (.non,(enc A st).set r (.lst (ds++[d]))))/\
  ∀st m n x ps p b,10<=m->cQ A (enc A st) m n x ps p b->st.dj.length<900->st.opened.length<900->F [.cell 0,.str "deed",.cell m] (enc A st)=Zh (.non,enc A { st with dj:=st.dj++[.cell m],opened:=st.opened++[.cell (st.rest.length+10)],rest:=st.rest++[.obj A.Opened oFn [.str "deed",.cell m,.cell b]] }):=by
 have S9:=@mf P w _ _ base _ T
 refine{_,fw T.gS (k:=2) lR λ_ _ _ _ _ _ _ hr hu=>qsc (qif (bo (j8 hu) kz (qv 1) (Gk T.rG) (by with_unfolding_all rfl)) (qs1 (qg (bJ (ou T) (bJ (ee T) (qv 0))) (qv 2))) (qs1 (qif (bo (oeq hu) Zo (qv 1) bE) (qs1 (qg (bJ (dn T) (bJ (ee T) (qv 0))) (qv 2))) (qs1 (qg (bJ (xB T) (qix hu (bJ (cK T) (qv 0)) (we a8))) (qv 2)))))) (qs1 (qif (QW.pt (ja (bo (oeq hu) Zo (qv 1) bE) (eN (bo (oeq hu) Zo (qv 1) bE)))) (qs1 (FV (bJ (cK T) (qv 0)) (zq T.gA S9 hr (aa (qv 1) (aa (qv 2) (aa (bJ (nP T) (qv 2)) aA)))))) (qs1 (qif (bo (oeq hu) Zo (qv 1) bE) (qs1 (FV (bJ (cK T) (qv 0)) (zq T.gA S9 hr (aa (qv 1) (aa (qv 2) (aa (bJ (Ea T) (qv 2)) aA)))))) qs0)))),λst k d hk hl=>?_,λst k d os j wd row r ds hk h1 h2 h3 ho hj hr hl=>?_,λst m n x ps p b hm h hl hl2=>?_}
 ·have f2:=pR (A:=A) st (cs:=[A.Reader]) (by simp);have f3:=Jg (A:=A) st (cs:=[A.Program]) (by simp);have h0:=Ca (M:=enc A st) (x:=k);rw[decide_eq_true hk]at h0;refine(congrArg (P6 · bT) (aR (B':=[Zh (.cell 0),Zh (.str k),Zh d]) (M':=enc A { st with heads:=st.heads++[d] }) ?_ (o:=.nx [Zh (.cell 0),Zh (.str k),Zh d] (enc A { st with heads:=st.heads++[d] })) ?_)).trans rfl
  ·have:=gk (ro:=dUn (cf "heads" [A.Program]) (dUn (cf "program" [A.Reader]) (dV 0))) (re:=dV 2) (B:=[Zh (.cell 0),Zh (.str k),Zh d]) (M:=enc A st) (n:=2) (d:=d) (ds:=st.heads) (by simp![f2,f3]) rfl rfl ();exact eF (by simp![h0]) this
  generalize enc A { st with heads:=st.heads++[d] }=M;have n1:k≠"deed":=λz=>by subst z;exact absurd hk ∅
  have n2:k≠"loop":=λz=>by subst z;exact absurd hk ∅
  have n3:k≠"if":=λz=>by subst z;exact absurd hk ∅
  simp![n1,n2,n3,eq_str]
 ·have f1:=fz (A:=A) st (cs:=[A.Reader]) (by simp);have i1:=vV (A:=A) st (i:=-1);rw[ho,CI]at i1;have f2:=KI hj (cs:=[A.Opened]) (by simp);have h0:=Ca (M:=enc A st) (x:=k);rw[decide_eq_false hk]at h0;refine(congrArg (P6 · bT) (aR (B':=[Zh (.cell 0),Zh (.str k),Zh d]) (M':=(enc A st).set r (.lst (ds++[d]))) ?_ (o:=.nx [Zh (.cell 0),Zh (.str k),Zh d] ((enc A st).set r (.lst (ds++[d])))) ?_)).trans rfl
  ·have:=gk (ro:=dUn (cf "rows" [A.Opened]) (dOp ixD (dUn (cf "opened" [A.Reader]) (dV 0)) (dUn km (dC (.int 1))))) (re:=dV 2) (B:=[Zh (.cell 0),Zh (.str k),Zh d]) (M:=enc A st) (n:=r) (d:=d) (ds:=ds) (by simp![f1,f2,i1,km]) rfl hr ();exact b6 (by simp![h0]) (b6 (by simp![h1,eq_str]) this)
  generalize (enc A st).set r (.lst (ds++[d]))=M;simp![h1,h2,h3,eq_str]
 have f2:=pR (A:=A) st (cs:=[A.Reader]) (by simp)
 have f3:=oW (A:=A) st (cs:=[A.Program]) (by simp)
 have h0:bK false (enc A st) (.str "deed") (.sqt [.str "hand",.str "given",.str "own",.str "let"])=Zh (.bl false):=Ca
 refine(congrArg (P6 · bT) (aR (B':=[Zh (.cell 0),Zh (.str "deed"),Zh (.cell m)]) (M':=enc A { st with dj:=st.dj++[.cell m] }) ?_ (o:=.nx [Zh (.cell 0),Zh (.str "deed"),Zh (.cell m)] (enc A { st with dj:=st.dj++[.cell m],opened:=st.opened++[.cell (st.rest.length+10)],rest:=st.rest++[.obj A.Opened oFn [.str "deed",.cell m,.cell b]] })) ?_)).trans rfl
 ·have:=gk (ro:=dUn (cf "deeds" [A.Program]) (dUn (cf "program" [A.Reader]) (dV 0))) (re:=dV 2) (B:=[Zh (.cell 0),Zh (.str "deed"),Zh (.cell m)]) (M:=enc A st) (n:=3) (d:=.cell m) (ds:=st.dj) (by simp![f2,f3]) rfl rfl ();exact b6 (by simp![h0]) (eF (by simp![eq_str]) this)
 have ob:(enc A { st with dj:=st.dj++[.cell m] })[m]?=Zh (.obj A.a6 dFn [.int n,.str x,.cell p,.cell b]):=by
  obtain⟨k,rfl⟩:∃k,m=k+10:={m-10,()};exact h.ob
 generalize hst:({ st with dj:=st.dj++[.cell m] }:RdS)=st1 at ob⊢
 have f1:=fz (A:=A) st1 (cs:=[A.Reader]) (by simp)
 have f4:cf "body" [A.bt,A.a6] (enc A st1) (.cell m)=Zh (.cell b):=flc ob (by simp) rfl
 have mk:=qJ (A:=A) (ra:=ag (dV 1) (ag (dV 2) (ag (dUn (cf "body" [A.bt,A.a6]) (dV 2)) aK))) (B:=[Zh (.cell 0),Zh (.str "deed"),Zh (.cell m)]) (M:=enc A st1) (a:=.str "deed") (b:=.cell m) (c:=.cell b) (by simp![f4])
 have:=yH (ro:=dUn (cf "opened" [A.Reader]) (dV 0)) (n:=9) (ds:=st1.opened) (ds':=st1.opened) (by simp![f1]) mk rfl rfl (by subst hst;show st.opened.length<1000;lia)
 refine eF (by simp![eq_str]) (this.trans ?_)
 subst hst
 rfl
theorem rF(h1:ro B M=Zh (.cell n))(h2:M[n]?=Zh (.lst (ds++[d]))):Eo ro B M=Zh (d,M.set n (.lst ds)):=by
 unfold Eo;rw[h1];show(match M[n]? with|some (.lst ds)=>_|_=>Zi)=_;rw[h2];show((ds++[d])[(ds++[d]).length-1]?).bind _=_;have:(ds++[d])[(ds++[d]).length-1]?=Zh d:=by simp
 rw[this];show Zh (d,M.set n (.lst (ds++[d]).dropLast))=_;rw[List.dropLast_concat]
theorem d7(h:rx B M=Zh (d,M')):yr i rx B M=Zh (.nx (B.set i (Zh d)) M'):=by
 unfold yr;rw[h];rfl
theorem Lr(T:Txt K mg A):∃F,cH P w K mg base 3 A.Reader "turn" ["self","word"] (spI K F)/\
  (∀st,st.opened.length<900->F [.cell 0,.str "main"] (enc A st)=Zh (.non,enc A { st with begun:=true,opened:=st.opened++[.cell (st.rest.length+10)],rest:=st.rest++[.obj A.Opened oFn [.str "main",.non,.cell 4]] }))/\
  (∀st os j (wd:Str) row r,st.opened=os++[.cell j]->10<=j->(enc A st)[j]?=Zh (.obj A.Opened oFn [.str wd,row,.cell r])->wd≠"deed"->F [.cell 0,.str "end"] (enc A st)=Zh (.non,enc A { st with opened:=os }))/\
  ∀st os j row r m n x ps p b,st.opened=os++[.cell j]->10<=j->(enc A st)[j]?=Zh (.obj A.Opened oFn [.str "deed",row,.cell r])->cQ A (enc A st) m n x ps p b->st.eg=.cell m->st.ended.lookup x=Zi->st.ended.length<900->10<=m->10<=p->F [.cell 0,.str "end"] (enc A st)=Zh (.non,enc A { st with opened:=os,ended:=st.ended++[(x,(ps.length:Int))],eg:=.non }):=by
 have S9:=@mf P w _ _ base _ T
 obtain⟨FE,Tw,E1⟩:=@Aa P w _ _ base _ T
 refine{_,fw T.mN (k:=2) gP λ_ _ _ _ _ _ _ hr hu=>qs1 (qif (bo (oeq hu) Zo (qv 1) bE) (qsc (cR (kh T) (qv 0) qbl) (qs1 (FV (bJ (cK T) (qv 0)) (zq T.gA S9 hr (aa (qv 1) (aa dq (aa (bJ (nX T) (bJ (ee T) (qv 0))) aA))))))) (qs1 (qif (bo (oeq hu) Zo (qv 1) bE) (qsc (cG 2 gP.nd (qix hu (bJ (cK T) (qv 0)) (we a8))) (qsc (cR (oN T) (qv 2) (qv 1)) (qs1 (cR (xB T) (qv 2) (bJ (D8 T) (bJ (DM T) (qv 2))))))) (qsc (oa 3 gP.nd (Kl (bJ (cK T) (qv 0)))) (qs1 (qif (bo (oeq hu) Zo (bJ (oN T) (qv 3)) bE) (qs1 (dQ (Jq (bJ (oU T) (qv 0)) T.fj.cl Tw hr))) qs0)))))),λst hl=>?_,λst os j wd row r ho hj10 hj hw=>?_,λst os j row r m n x ps p b ho hj10 hj h hd he hl hm hp=>?_}
 ·have f0:=eI (f:="begun") (cs:=[A.Reader]) (ro:=dV 0) (re:=dC (.bl true)) (B:=[Zh (.cell 0),Zh (.str "main"),Zi,Zi]) (M:=enc A st) (d:=.bl true) (n:=0) (fn':=["program","names","opened","begun"]) (ds':=[.cell 1,.cell 5,.cell 9,.bl true]) rfl rfl rfl (by simp) (by show(4:Nat)<1000;decide) rfl;have f0:yg "begun" [A.Reader] (dV 0) (dC (.bl true)) [Zh (.cell 0),Zh (.str "main"),Zi,Zi] (enc A st)=Zh (.nx [Zh (.cell 0),Zh (.str "main"),Zi,Zi] (enc A { st with begun:=true })):=f0;have f1:=fz (A:=A) { st with begun:=true } (cs:=[A.Reader]) (by simp);have f2:=pR (A:=A) { st with begun:=true } (cs:=[A.Reader]) (by simp);have f3:=Ep (A:=A) { st with begun:=true } (cs:=[A.Program]) (by simp);have mk:=qJ (A:=A) (ra:=ag (dV 1) (ag (dC .non) (ag (dUn (cf "main" [A.Program]) (dUn (cf "program" [A.Reader]) (dV 0))) aK))) (B:=[Zh (.cell 0),Zh (.str "main"),Zi,Zi]) (M:=enc A { st with begun:=true }) (a:=.str "main") (b:=.non) (c:=.cell 4) (by simp![f2,f3]);have ap:=yH (ro:=dUn (cf "opened" [A.Reader]) (dV 0)) (n:=9) (ds:=st.opened) (ds':=st.opened) (by simp![f1]) mk rfl rfl ();exact(congrArg (P6 · bT) (eF (by simp![eq_str]) (aR f0 ap))).trans rfl
 ·have f1:=fz (A:=A) st (cs:=[A.Reader]) (by simp);have ob:(enc A { st with opened:=os })[j]?=Zh (.obj A.Opened oFn [.str wd,row,.cell r]):=by
   obtain⟨k,rfl⟩:∃k,j=k+10:={j-10,()};exact hj
  have f2:=A0 ob (cs:=[A.Opened]) (by simp);have pp:Eo (dUn (cf "opened" [A.Reader]) (dV 0)) [Zh (.cell 0),Zh (.str "end"),Zi,Zi] (enc A st)=Zh (.cell j,enc A { st with opened:=os }):=rF (by simp![f1]) (n:=9) (ds:=os) (by show Zh (Ob.lst st.opened)=_;rw[ho]);refine(congrArg (P6 · bT) (b6 (by dsimp![eq_str]) (b6 (by dsimp![eq_str]) (aR (d7 pp) (b6 (o:=Zh (.nx [Zh (.cell 0),Zh (.str "end"),Zi,Zh (.cell j)] (enc A { st with opened:=os }))) ?_ rfl))))).trans rfl;generalize enc A { st with opened:=os }=M at *;simp![f2,hw,eq_str]
 have f1:=fz (A:=A) st (cs:=[A.Reader]) (by simp)
 have ob:(enc A { st with opened:=os })[j]?=Zh (.obj A.Opened oFn [.str "deed",row,.cell r]):=by
  obtain⟨k,rfl⟩:∃k,j=k+10:={j-10,()};exact hj
 have h':cQ A (enc A { st with opened:=os }) m n x ps p b:=by
  obtain⟨k,rfl⟩:∃k,m=k+10:={m-10,()};obtain⟨q,rfl⟩:∃k,p=k+10:={p-10,()};exact⟨h.ob,h.pa⟩
 have f2:=A0 ob (cs:=[A.Opened]) (by simp)
 have pp:Eo (dUn (cf "opened" [A.Reader]) (dV 0)) [Zh (.cell 0),Zh (.str "end"),Zi,Zi] (enc A st)=Zh (.cell j,enc A { st with opened:=os }):=rF (by simp![f1]) (n:=9) (ds:=os) (by show Zh (Ob.lst st.opened)=_;rw[ho])
 have f3:=rE (A:=A) { st with opened:=os } (cs:=[A.Reader]) (by simp)
 have e1:=E1 { st with opened:=os } m n x ps p b h' hd he hl hm hp
 have o1:Zt (enc A { st with opened:=os }) (.cell 5)=Zh (A.bS,(["kinds","ended","deed","spoken"]:List Str),[.cell 6,.cell 7,st.eg,.cell 8]):=rfl
 have o2:("end_deed":Str)∉(["kinds","ended","deed","spoken"]:List Str):=∅
 dsimp! at o2
 refine(congrArg (P6 · bT) (b6 (by dsimp![eq_str]) (b6 (by dsimp![eq_str]) (aR (d7 pp) (eF (o:=Zh (.nx [Zh (.cell 0),Zh (.str "end"),Zi,Zh (.cell j)] (enc A { st with opened:=os,ended:=st.ended++[(x,(ps.length:Int))],eg:=.non }))) ?_ ?_))))).trans rfl
 ·generalize enc A { st with opened:=os }=M at *;simp![f2,eq_str]
 generalize enc A { st with opened:=os }=M at *
 simp![kS,tV,f3,o1,o2,e1]
theorem MN(T:Txt K mg A):∃f,cH P w K mg base 1 A.Reader "done" ["self","number"] (spI K (de f))/\∀st n,st.opened=[]->st.begun=true->f [.cell 0,.int n] (enc A st)=Zh (.cell 1):=by
 refine{_,wa (fw T.mM (k:=0) sN λ_ _ _ _ _ _ _ hr hu=>qsc (qif (QW.pt (ja (bo (kl hu) kH (bJ (cK T) (qv 0)) (cF aA)) (eN (eG (cZ (bJ (kh T) (qv 0))))))) (qs1 qnv) qs0) (qs1 (bw (bJ (ee T) (qv 0))))),λst n ho hb=>GF ?_ ?_}
 ·have f1:=fz (A:=A) st (cs:=[A.Reader]) (by simp);have f2:=pR (A:=A) st (cs:=[A.Reader]) (by simp);have f4:=BA (A:=A) st (cs:=[A.Reader]) (by simp);have e1:=nQ (A:=A) st (neg:=true);rw[ho]at e1;rw[hb]at f4;show P6 _ _=_;generalize enc A st=M at *;simp![f1,f2,f4,e1,bT]
 unfold clD;exact decide_eq_true (by show 1<(enc A st).length;unfold enc;simp only[Qd];lia)
def Frm(A:Adr)(t:Str)(k:Str)(vs:List D):Prop:=Kx [.str t]=Zh (.tup (.str k::vs))/\bD vs=true
theorem oz(h1:ra B M=Zh ds)(h2:F ds M=Zh (d,M')):yz F ra B M=Zh (d,M'):=by
 unfold yz;rw[h1];exact h2
theorem Co(h0:ro B M=Zh o)(h1:Zt M o=Zh ob)(h2:ob.1=C/\m∉ob.2.1)(h3:ra B M=Zh ds)(h4:F (o::ds) M=Zh (d,M')):tV C m F ro ra B M=Zh (d,M'):=by
 unfold tV;rw[h0];show(Zt M o).bind _=_;rw[h1];show(if _ then _ else _)=_;rw[if_pos h2,h3];exact h4
theorem kO(h:rx B M=Zh (d,M')):kS rx B M=Zh (.nx B M'):=by
 unfold kS;rw[h];rfl
theorem BC(h0:ro B M=Zh o)(h1:Zt M o=Zh ob)(h2:ob.1=C/\m∉ob.2.1)(h3:ra B M=Zh ds)(h4:f (o::ds) M=Zh d):aM C m f ro ra B M=Zh d:=by
 unfold aM;rw[h0];show(Zt M o).bind _=_;rw[h1];show(if _ then _ else _)=_;rw[if_pos h2,h3];exact h4
theorem BL(h:re B M=Zh d):GR re B M=Zh (.nx B M):=by
 unfold GR;rw[h];rfl
theorem cq(h:re B M=Zh d):aS i re B M=Zh (.nx (B.set i (Zh d)) M):=by
 unfold aS;rw[h];rfl
noncomputable abbrev rFn:List Str:=["program","names","opened","begun"]
theorem Ag(st:RdS):Zt (enc A st) (.cell 0)=Zh (A.Reader,rFn,[.cell 1,.cell 5,.cell 9,.bl st.begun]):=rfl
theorem O6(st:RdS):Zt (enc A st) (.cell 5)=Zh (A.bS,(["kinds","ended","deed","spoken"]:List Str),[.cell 6,.cell 7,st.eg,.cell 8]):=rfl
theorem rw_non(A:Adr)(n:Int)(r:Rw):dv (r.d A n)=false:=by cases r<;>rfl
theorem IU(T:Txt K mg A)(tk:sR P w K mg a' fs)
  (S6:cH P w K mg base 2 A.Reader "may_stand" ["self","word"] (spI K (de fM))) (Td:cH P w K mg base 5 A.Reader "check" ["self","number","row"] (spI K (de fC))) (Tn:cH P w K mg base 2 A.bS "keep" ["self","row"] (spI K FK))
  (S7:cH P w K mg base 3 A.Reader "place_row" ["self","word","row"] (spI K FP)) (Ti:cH P w K mg base 3 A.Reader "turn" ["self","word"] (spI K FT)):∃F,cH P w K mg base 8 A.Reader "take" ["self","number","text"] (spI K F)/\
  (∀st st1 st2 n (x k:Str) vs d M',n<=200->Frm A x k vs->fM [.cell 0,.str k] (enc A st)=Zh (.bl true)->DH A [.int n,.tup (.str k::vs)] (enc A st)=Zh (d,enc A st1)->dv d=false->fC [.cell 0,.int n,d] (enc A st1)=Zh .non->FK [.cell 5,d] (enc A st1)=Zh (.non,enc A st2)->FP [.cell 0,.str k,d] (enc A st2)=Zh (.non,M')->F [.cell 0,.int n,.str x] (enc A st)=Zh (.non,M'))/\
  ∀st n (x k:Str) vs M',n<=200->Frm A x k vs->fM [.cell 0,.str k] (enc A st)=Zh (.bl true)->DH A [.int n,.tup (.str k::vs)] (enc A st)=Zh (.non,enc A st)->FT [.cell 0,.str k] (enc A st)=Zh (.non,M')->F [.cell 0,.int n,.str x] (enc A st)=Zh (.non,M'):=by
 have Uk:=@Av P w _ _ base _ T
 have Uo:=Dt (base:=base) T tk
 have n1:("may_stand":Str)∉rFn:=∅
 have n2:("check":Str)∉rFn:=∅
 have n3:("keep":Str)∉(["kinds","ended","deed","spoken"]:List Str):=∅
 have n4:("place_row":Str)∉rFn:=∅
 have n5:("turn":Str)∉rFn:=∅
 refine{_,fw T.lV (k:=7) gn λ_ _ _ _ _ _ _ hr hu=>qsc (qif (bo Eb GZ (qv 1) (my T.qI)) (qs1 qnv) qs0) (qsc (cG 3 gn.nd (bz Uo hr (aa (qv 2) aA))) (qsc (qif (bo uo ZL (qv 3) dq) (qs1 qnv) qs0) (qsc (qif (eG (cZ (mZ (qv 0) T.c7.cl S6 hr (aa (qix hu (qv 3) a8) aA)))) (qs1 qnv) qs0) (qsc (oa 4 gn.nd (jj Uk hr (aa (qv 1) (aa (qv 3) aA)))) (qs1 (qif (bo uo ZL (qv 4) dq) (qs1 (dQ (tR (qv 0) T.c7.cl Ti hr (aa (qix hu (qv 3) a8) aA)))) (qsc (J2 (mZ (qv 0) T.c7.cl Td hr (aa (qv 1) (aa (qv 4) aA)))) (qsc (dQ (tR (bJ (oU T) (qv 0)) T.fj.cl Tn hr (aa (qv 4) aA))) (qs1 (dQ (tR (qv 0) T.c7.cl S7 hr (aa (qix hu (qv 3) a8) (aa (qv 4) aA))))))))))))),λst st1 st2 n x k vs d M' hn hf hm hr hd hc hk hp=>?_,λst n x k vs M' hn hf hm hr ht=>?_}
 ·have hl:¬ (200:Int)<n:=()
  have ix:∀{M:MS},ixD M (.tup (.str k::vs)) (.int 0)=Zh (.str k):=by intro M;rw[bY,at0]
  have f1:=rE (A:=A) st1 (cs:=[A.Reader]) (by simp);show P6 _ bT=_;refine(congrArg (P6 · bT) (show _=Zh (Out.nx [Zh (.cell 0),Zh (.int n),Zh (.str x),Zh (.tup (.str k::vs)),Zh d] M')from ?_)).trans rfl;refine aR (B':=[Zh (.cell 0),Zh (.int n),Zh (.str x),Zi,Zi]) (M':=enc A st) (b6 ?_ rfl) ?_
  ·simp![hl]
  refine aR (cq (d:=.tup (.str k::vs)) ?_) ?_
  ·have:=hf.1;simp![this]
  refine aR (B':=[Zh (.cell 0),Zh (.int n),Zh (.str x),Zh (.tup (.str k::vs)),Zi]) (M':=enc A st) (b6 rfl rfl) (aR (B':=[Zh (.cell 0),Zh (.int n),Zh (.str x),Zh (.tup (.str k::vs)),Zi]) (M':=enc A st) (b6 ?_ rfl) ?_)
  ·have:=BC (C:=A.Reader) (m:="may_stand") (f:=fM) (ro:=dV 0) (ra:=ag (dOp ixD (dV 3) (dC (.int 0))) aK) (B:=[Zh (.cell 0),Zh (.int n),Zh (.str x),Zh (.tup (.str k::vs)),Zi]) (M:=enc A st) (o:=.cell 0) (ds:=[.str k]) rfl (Ag st) ⟨rfl,n1⟩ (by simp![ix]) hm;unfold aV aB;rw[this];rfl
  refine aR (d7 (d:=d) (M':=enc A st1) (oz (ds:=[.int n,.tup (.str k::vs)]) rfl hr)) (b6 ?_ ?_)
  ·show Zh (dv d)=_;rw[hd]
  refine aR (BL (d:=.non) (BC (C:=A.Reader) (o:=.cell 0) rfl (Ag st1) ⟨rfl,n2⟩ rfl hc)) (aR (kO (d:=.non) (M':=enc A st2) (Co (C:=A.bS) (o:=.cell 5) f1 (O6 st1) ⟨rfl,n3⟩ rfl hk)) (kO (d:=.non) (M':=M') (Co (C:=A.Reader) (o:=.cell 0) (ds:=[.str k,d]) rfl (Ag st2) ⟨rfl,n4⟩ ?_ hp)));simp![ix]
 have hl:¬ (200:Int)<n:=()
 have ix:∀{M:MS},ixD M (.tup (.str k::vs)) (.int 0)=Zh (.str k):=by intro M;rw[bY,at0]
 show P6 _ bT=_
 refine(congrArg (P6 · bT) (show _=Zh (Out.nx [Zh (.cell 0),Zh (.int n),Zh (.str x),Zh (.tup (.str k::vs)),Zh .non] M')from ?_)).trans rfl
 refine aR (B':=[Zh (.cell 0),Zh (.int n),Zh (.str x),Zi,Zi]) (M':=enc A st) (b6 ?_ rfl) ?_
 ·simp![hl]
 refine aR (cq (d:=.tup (.str k::vs)) ?_) ?_
 ·have:=hf.1;simp![this]
 refine aR (B':=[Zh (.cell 0),Zh (.int n),Zh (.str x),Zh (.tup (.str k::vs)),Zi]) (M':=enc A st) (b6 rfl rfl) (aR (B':=[Zh (.cell 0),Zh (.int n),Zh (.str x),Zh (.tup (.str k::vs)),Zi]) (M':=enc A st) (b6 ?_ rfl) ?_)
 ·have:=BC (C:=A.Reader) (m:="may_stand") (f:=fM) (ro:=dV 0) (ra:=ag (dOp ixD (dV 3) (dC (.int 0))) aK) (B:=[Zh (.cell 0),Zh (.int n),Zh (.str x),Zh (.tup (.str k::vs)),Zi]) (M:=enc A st) (o:=.cell 0) (ds:=[.str k]) rfl (Ag st) ⟨rfl,n1⟩ (by simp![ix]) hm;unfold aV aB;rw[this];rfl
 refine aR (d7 (d:=.non) (M':=enc A st) (oz (ds:=[.int n,.tup (.str k::vs)]) rfl hr)) (eF rfl (kO (d:=.non) (M':=M') (Co (C:=A.Reader) (o:=.cell 0) (ds:=[.str k]) rfl (Ag st) ⟨rfl,n5⟩ ?_ ht)))
 simp![ix]
noncomputable def cB(kn:List (Str×Int)):Rw->Int
 | .call x _=>1+(kn.lookup x).getD 0
 |_=>1
noncomputable abbrev rwD(A:Adr)(p:Int×Rw):D:=p.2.d A p.1
def knD(M:MS)(kd:D)(kn:List (Str×Int)):Prop:=fY M kd=Zh (kn.map (λp=>Q0 p.1),kn.map λp=>D.int p.2)/\∀i,ba M kd≠Zh i
theorem JW(h:knD M kd kn)(e:kn.lookup x=Zh c):ixD M kd (.str x)=Zh (.int c):=by
 obtain⟨h1,h2⟩:=h;have hs:ba M kd=Zi:=by
  cases z:ba M kd with
  |none=>rfl
  |some i=>exact absurd z (h2 i)
 have e0:ixD M kd (.str x)=match ba M kd,D.str x with
  |some ds,.int i=>atI ds i
  |_,b=>(fY M kd).bind λq=>(yA b).bind λk=>iL q.1 q.2 k:=by cases kd<;>rfl
 rw[e0,hs,h1];show iL _ _ _=_;rw[rD,e];rfl
theorem uD(T:Txt K mg A):∃f,Has P w K mg base 1 "most_of_row" ["row","known"] (spI K (de f))/\∀M n r kd kn,knD M kd kn->(∀x ts,r=.call x ts->(kn.lookup x).isSome=true)->f [Rw.d A n r,kd] M=Zh (.int (cB kn r)):=by
 refine{_,qh (mkI T.qB (k:=0) r9 λ_ _ _ _ _ _ _ hr hu=>qsc (qif (cZ (qcB bB (ck (it T)) T.a9 (aa (qv 0) (aa (cX T.dB.mg) aA)))) (qs1 (bw (qop cx Zn a8 (qix hu (qv 1) (bJ (bZ T) (qv 0)))))) qs0) (qsc (qif (cZ (qcB bB (ck (it T)) T.a9 (aa (qv 0) (aa (cX T.gb.mg) aA)))) Jo qs0) (qsc (qif (cZ (qcB bB (ck (it T)) T.a9 (aa (qv 0) (aa (cX T.ff.mg) aA)))) Jo qs0) (qs1 (bw a8))))),λM n r kd kn hk hc=>cT ?_ ai};show P6 _ _=_;cases r with
 |call x ts=>
  obtain⟨c,hc⟩:=Q4.mp (hc x ts rfl);have:=JW hk hc;simp![Rw.d,bL,iN,this,cB,hc,en,bT]
 |hand=>simp![Rw.d,bL,ncA T,cB,bT]
 |given=>simp![Rw.d,bL,ncA T,cB,bT]
 |own=>simp![Rw.d,bL,ncA T,cB,bT]
 |lett=>simp![Rw.d,bL,ncA T,cB,bT]
 |set=>simp![Rw.d,bL,ncA T,cB,bT]
 |put=>simp![Rw.d,bL,ncA T,cB,bT]
 |send=>simp![Rw.d,bL,ncA T,cB,bT]
 |say=>simp![Rw.d,bL,ncA T,cB,bT]
theorem ZI{ι:Type}(f:ι->Int):∀xs:List ι,vS (xs.map λx=>D.int (f x))=Zh (xs.map f)
 | []=>rfl
 |x::r=>by
  show(vS _).bind _=_;rw[ZI f r];rfl
theorem u9(T:Txt K mg A):∃f,Has P w K mg base 2 "most_of" ["rows","known"] (spI K (de f))/\∀M rd (rs:List (Int×Rw)) kd kn,knD M kd kn->bM true M rd=Zh (rs.map (rwD A))->rs.length<=640->(∀p∈rs,∀x ts,p.2=.call x ts->(kn.lookup x).isSome=true)->f [rd,kd] M=Zh (.int (rs.map λp=>cB kn p.2).sum):=by
 obtain⟨fr,T8,R1⟩:=@uD P w _ _ base _ T;refine{_,qh (mkI T.B6 (k:=1) AQ λ_ _ _ _ _ _ _ hr hu=>qs1 (bw (qcB NK v_sum T.BB (aa (jc (N:=["row","known"]) (own:=1) (fr:=[1]) (cv.of (by kernel_rfl!)) (qit true (qv 0)) (λb=>qgn 0 (show U4 (["row","known"]:List Ve) by decide+kernel)) (λb=>qf0) (λb=>cA T8 hr (aa (qv 0) (aa (qv 1) aA))) (fA ∅)) aA)))),λM rd rs kd kn hk hs hl hc=>cT ?_ ai};have hcm:cD (gN 0) eW (aJ fr (ag (dV 0) (ag (dV 1) aK))) M [Zi,Zh kd] (rs.map (rwD A))=Zh (rs.map λp=>D.int (cB kn p.2)):=eB _ _ _ λp hp=>⟨_,rfl,rfl,by
  have:=R1 M p.1 p.2 kd kn hk (hc p hp);simp![this]⟩
 have hn:(rs.map λp=>D.int (cB kn p.2)).length<=sizeLine:=by rw[P8];exact Qi hl ∅
 have hi:=ZI (λp:Int×Rw=>cB kn p.2) rs;show P6 _ _=_;generalize (rs.map λp=>D.int (cB kn p.2))=zs at *;simp![hs,hcm,hn,hi,sumF,ba,bT]
theorem MP(hM:M[n]?=Zh (.lst ds))(hd:ds[i]?=Zh d)(hg:g d B=Zh σ1)(hb:rb σ1 M=Zh (.nx B' M'))(h:rf g rb n f (i+1) B' M'=o):rf g rb n (f+1) i B M=o:=by
 unfold rf;simp only[hM,hd];show(g d B).bind _=_;rw[hg];show(rb σ1 M).bind _=_;rw[hb];exact h
theorem ME(hM:M[n]?=Zh (.lst ds))(hd:ds[i]?=Zi):rf g rb n (f+1) i B M=Zh (.nx B M):=by
 unfold rf;simp only[hM,hd]
structure GU(A:Adr)(st:RdS)(m:Nat)(x:Str)(bd:List (Int×Rw)):Prop where
 ds:st.dj=[.cell m]
 dt:∃n ps p b,cQ A (enc A st) m n x ps p b/\(enc A st)[b]?=Zh (.lst (bd.map (rwD A)))/\bd.length<=640
 nc:∀p∈bd,∀x ts,p.2≠ .call x ts
theorem BM(T:Txt K mg A):∃f,Has P w K mg base 3 "mosts" ["program"] (spI K (de f))/\∀st m x bd,GU A st m x bd->f [.cell 1] (enc A st)=Zh (.dic [.inr x] [.int (bd.map λp=>cB [] p.2).sum]):=by
 obtain⟨fm,Tt,R1⟩:=@u9 P w _ _ base _ T;refine{_,qh (mkI T.JI (k:=2) sL λ_ _ _ _ _ _ _ hr hu=>qsc (BE 1 sL.nd yw) (qsc (N3 1000 (bJ (dn T) (qv 0)) (qgn 2 sL.nd) (qs1 (v5 hu (qv 1) (bJ (bZ T) (qv 2)) (cA Tt hr (aa (bJ (nP T) (qv 2)) (aa (qv 1) aA)))))) (qs1 (bw (qv 1))))),λst m x bd h=>?_};obtain⟨n,ps,p,b,hd,hb,hl⟩:=h.dt;have hd':=hd.app (J:=[c6 D.int []]);have f1:cf "deeds" [A.Program] (enc A st++[c6 D.int []]) (.cell 1)=Zh (.cell 3):=oW (A:=A) { st with rest:=st.rest++[c6 D.int []] } (by simp);have f2:=hd'.nm (cs:=[A.bp,A.bj,A.bF,A.bH,A.bG,A.bA,A.bq,A.bu,A.bh,A.a6]) (by simp);have f3:=hd'.bd (cs:=[A.bt,A.a6]) (by simp);have hM3:(enc A st++[c6 D.int []])[3]?=Zh (.lst [.cell m]):=by rw[<-h.ds];rfl
 have hlast:∀l:List (Str×Int),(enc A st++[c6 D.int l])[(enc A st).length]?=Zh (c6 D.int l):=λl=>by simp
 have c1:=R1 (enc A st++[c6 D.int []]) (.cell b) bd (.cell (enc A st).length) [] {by unfold fY;simp only[hlast];rfl,λi=>by unfold ba;simp only[hlast];intro z;cases z} (rM (AU hb)) hl λp hp x ts e=>absurd e (h.nc p hp x ts);generalize hz:(bd.map λp=>cB [] p.2).sum=c at *;have it:=lq (ro:=dV 1) (ri:=dUn (cf "name" [A.bp,A.bj,A.bF,A.bH,A.bG,A.bA,A.bq,A.bu,A.bh,A.a6]) (dV 2)) (re:=aJ fm (ag (dUn (cf "body" [A.bt,A.a6]) (dV 2)) (ag (dV 1) aK))) (B:=[Zh (.cell 1),Zh (.cell (enc A st).length),Zh (.cell m)]) (M:=enc A st++[c6 D.int []]) (n:=(enc A st).length) (g:=D.int) (l:=[]) (x:=x) (v:=c) (by simp![f3,c1]) rfl (by simp![f2]) (hlast []) rfl ∅;rw[w9]at it;refine wj (J:=[c6 D.int [(x,c)]]) (d':=.cell (enc A st).length) ?_ ?_
 ·refine(congrArg (P6 · bT) (aR (B':=[Zh (.cell 1),Zh (.cell (enc A st).length),Zi]) (M':=enc A st++[c6 D.int []]) rfl (aR (B':=[Zh (.cell 1),Zh (.cell (enc A st).length),Zh (.cell m)]) (M':=enc A st++[c6 D.int [(x,c)]]) ?_ (o:=.rt (.cell (enc A st).length) (enc A st++[c6 D.int [(x,c)]])) rfl))).trans rfl;have e0:(dUn (cf "deeds" [A.Program]) (dV 0)) [Zh (.cell 1),Zh (.cell (enc A st).length),Zi] (enc A st++[c6 D.int []])=Zh (.cell 3):=f1;unfold DZ;rw[e0];refine MP (f:=999) hM3 rfl rfl it (ME (f:=998) (ds:=[.cell m]) ?_ rfl);rw[<-h.ds];rfl
 unfold xE;simp only[Rg,if_false,hlast];show(if iW _ [D.int c]=true then Zh (D.dic [.inr x] [.int c])else Zi)=_;exact if_pos (rL _ _ (by simp[ae,af,ai]))
theorem LO(T:Txt K mg A):∃f,Has P w K mg base 4 "most" ["program"] (spI K (de f))/\∀st m x bd (mn:List (Int×Rw)),GU A st m x bd->st.main=mn.map (rwD A)->mn.length<=640->(∀p∈mn,∀y ts,p.2=.call y ts->y=x)->f [.cell 1] (enc A st)=Zh (.int (mn.map λp=>cB [(x,(bd.map λp=>cB [] p.2).sum)] p.2).sum):=by
 obtain⟨fm,Tt,R1⟩:=@u9 P w _ _ base _ T;obtain⟨fs,TU,S1⟩:=@BM P w _ _ base _ T;refine{_,qh (mkI T.most (k:=3) Hh λ_ _ _ _ _ _ _ hr hu=>qs1 (bw (cA Tt hr (aa (bJ (nX T) (qv 0)) (aa (cA TU hr (aa (qv 0) aA)) aA))))),λst m x bd mn h hm hl hc=>cT ?_ ai};have f1:=Ep (A:=A) st (cs:=[A.Program]) (by simp);have s1:=S1 st m x bd h;have c1:=R1 (enc A st) (.cell 4) mn (.dic [.inr x] [.int (bd.map λp=>cB [] p.2).sum]) [(x,(bd.map λp=>cB [] p.2).sum)] {rfl,λi z=>by cases z} (rM (by rw[<-hm];rfl)) hl λp hp y ts e=>by rw[hc p hp y ts e];simp
 show P6 _ _=_;generalize enc A st=M at *;simp![f1,s1,c1,bT]
theorem uL(T:Txt K mg A):∃f,Has P w K mg base 5 "check_steps" ["program"] (spI K (de f))/\∀st m x bd (mn:List (Int×Rw)),GU A st m x bd->st.main=mn.map (rwD A)->mn.length<=640->(∀p∈mn,∀y ts,p.2=.call y ts->y=x)->(bd.map λp=>cB [] p.2).sum<=10000->(mn.map λp=>cB [(x,(bd.map λp=>cB [] p.2).sum)] p.2).sum<=10000->f [.cell 1] (enc A st)=Zh .non:=by
 obtain⟨fm,Us,R1⟩:=@LO P w _ _ base _ T;obtain⟨fs,TU,S1⟩:=@BM P w _ _ base _ T;refine{_,qh (mkI T.qC (k:=4) gw λ_ _ _ _ _ _ _ hr hu=>qsc (cG 1 gw.nd (cA TU hr (aa (qv 0) aA))) (qs1 (tQ (qit false (qop cx Zn (jc (N:=["deed","known"]) (own:=1) (fr:=[1]) (cv.of (by kernel_rfl!)) (qit true (bJ (dn T) (qv 0))) (λb=>qgn 0 (show U4 (["deed","known"]:List Ve) by decide+kernel)) (λb=>qf0) (λb=>qix hu (qv 1) (bJ (bZ T) (qv 0))) (fA ∅)) (cF (aa (cA Us hr (aa (qv 0) aA)) aA)))) (qgn 2 gw.nd) (qs1 (qif (bo Eb GZ (qv 2) (my T.nR)) (qs1 qnv) qs0))))),λst m x bd mn h hm hl hc l1 l2=>cT ?_ aq};have f1:=oW (A:=A) st (cs:=[A.Program]) (by simp);have s1:=S1 st m x bd h;have r1:=R1 st m x bd mn h hm hl hc;obtain⟨n,ps,p,b,hd,hb,hl'⟩:=h.dt;have f2:=hd.nm (cs:=[A.bp,A.bj,A.bF,A.bH,A.bG,A.bA,A.bq,A.bu,A.bh,A.a6]) (by simp);have hq:(enc A st)[3]?=Zh (.lst [.cell m]):=by rw[<-h.ds];rfl
 generalize (mn.map λp=>cB [(x,(bd.map λp=>cB [] p.2).sum)] p.2).sum=cm at *;generalize (bd.map λp=>cB [] p.2).sum=c at *;have k1:ixD (enc A st) (.dic [.inr x] [.int c]) (.str x)=Zh (.int c):=JW (kn:=[(x,c)]) {rfl,λi z=>by cases z} (by simp);have g1:¬ (10000:Int)<c:=()
 have g2:¬ (10000:Int)<cm:=()
 show P6 _ _=_;generalize enc A st=M at *;simp![f1,f2,s1,r1,hq,k1,g1,g2,A7,forL,cD,gN,eW,en,hV,bM,ba,bT]
noncomputable def st0:RdS:={[],[],[],[],[],.non,[],[],false,[]}
theorem ud(T:Txt K mg A):∃F,cH P w K mg base 1 A.Program "__init__" ["self","heads","deeds","main"] (spI K F)/\∀o,F [.cell 1,.lst [],.lst [],.lst []] [o,.obj A.Program [] []]=Zh (.non,[o,.obj A.Program ["heads","deeds","main"] [.cell 2,.cell 3,.cell 4],.lst [],.lst [],.lst []]):=by
 refine{_,fw T.ka (k:=0) qN λ_ _ _ _ _ _ _ hr hu=>qsc (gB (ou T) (qv 0) (qxn (mY T.dN (aa (qv 1) aA)))) (qsc (gB (dn T) (qv 0) (qxn (mY T.dN (aa (qv 2) aA)))) (qs1 (gB (nX T) (qv 0) (qxn (mY T.dN (aa (qv 3) aA)))))),λo=>?_};show P6 _ bT=_;refine(congrArg (P6 · bT) (show _=Zh (Out.nx [Zh (.cell 1),Zh (.lst []),Zh (.lst []),Zh (.lst [])] [o,.obj A.Program ["heads","deeds","main"] [.cell 2,.cell 3,.cell 4],.lst [],.lst [],.lst []])from ?_)).trans rfl;exact aR (dJ (f:="heads") (n:=1) (d:=.cell 2) (M1:=[o,.obj A.Program [] [],.lst []]) (fn':=["heads"]) (ds':=[.cell 2]) rfl rfl rfl (by simp) (by show(0:Nat)<1000;decide) rfl) (aR (dJ (f:="deeds") (n:=1) (d:=.cell 3) (M1:=[o,.obj A.Program ["heads"] [.cell 2],.lst [],.lst []]) (fn':=["heads","deeds"]) (ds':=[.cell 2,.cell 3]) rfl rfl rfl (by simp) (by show(1:Nat)<1000;decide) rfl) (dJ (f:="main") (n:=1) (d:=.cell 4) (M1:=[o,.obj A.Program ["heads","deeds"] [.cell 2,.cell 3],.lst [],.lst [],.lst []]) (fn':=["heads","deeds","main"]) (ds':=[.cell 2,.cell 3,.cell 4]) rfl rfl rfl (by simp) (by show(2:Nat)<1000;decide) rfl))
theorem xZ(T:Txt K mg A):∃F,cH P w K mg base 1 A.bS "__init__" ["self"] (spI K F)/\∀a b c d e,F [.cell 5] [a,b,c,d,e,.obj A.bS [] []]=Zh (.non,[a,b,c,d,e,.obj A.bS ["kinds","ended","deed","spoken"] [.cell 6,.cell 7,.non,.cell 8],.dic [] [],.dic [] [],.dic [] []]):=by
 refine{_,fw T.o3 (k:=0) uV λ_ _ _ _ _ _ _ hr hu=>qsc (gB (oA T) (qv 0) (qxn yw)) (qsc (gB (sO T) (qv 0) (qxn yw)) (qsc (cR (ju T) (qv 0) dq) (qs1 (gB (pL T) (qv 0) (qxn yw))))),λa b c d e=>?_};show P6 _ bT=_;refine(congrArg (P6 · bT) (show _=Zh (Out.nx [Zh (.cell 5)] [a,b,c,d,e,.obj A.bS ["kinds","ended","deed","spoken"] [.cell 6,.cell 7,.non,.cell 8],.dic [] [],.dic [] [],.dic [] []])from ?_)).trans rfl;exact aR (dJ (f:="kinds") (n:=5) (d:=.cell 6) (M1:=[a,b,c,d,e,.obj A.bS [] [],.dic [] []]) (fn':=["kinds"]) (ds':=[.cell 6]) rfl rfl rfl (by simp) (by show(0:Nat)<1000;decide) rfl) (aR (dJ (f:="ended") (n:=5) (d:=.cell 7) (M1:=[a,b,c,d,e,.obj A.bS ["kinds"] [.cell 6],.dic [] [],.dic [] []]) (fn':=["kinds","ended"]) (ds':=[.cell 6,.cell 7]) rfl rfl rfl (by simp) (by show(1:Nat)<1000;decide) rfl) (aR (eI (f:="deed") (n:=5) (d:=.non) (fn':=["kinds","ended","deed"]) (ds':=[.cell 6,.cell 7,.non]) rfl rfl rfl (by simp) (by show(2:Nat)<1000;decide) rfl) (dJ (f:="spoken") (n:=5) (d:=.cell 8) (M1:=[a,b,c,d,e,.obj A.bS ["kinds","ended","deed"] [.cell 6,.cell 7,.non],.dic [] [],.dic [] [],.dic [] []]) (fn':=["kinds","ended","deed","spoken"]) (ds':=[.cell 6,.cell 7,.non,.cell 8]) rfl rfl rfl (by simp) (by show(3:Nat)<1000;decide) rfl)))
theorem uv(T:Txt K mg A):∃F,cH P w K mg base 3 A.Reader "__init__" ["self"] (spI K F)/\F [.cell 0] [.obj A.Reader [] []]=Zh (.non,enc A st0):=by
 obtain⟨FP,TV,P1⟩:=@ud P w _ _ base _ T;obtain⟨FN,Ue,N1⟩:=@xZ P w _ _ base _ T;refine{_,fw T.lW (k:=2) rT λ_ _ _ _ _ _ _ hr hu=>qsc (gB (ee T) (qv 0) (zq T.eU TV hr (aa (cF aA) (aa (cF aA) (aa (cF aA) aA))))) (qsc (gB (oU T) (qv 0) (FR T.fj Ue hr)) (qsc (gB (cK T) (qv 0) (qxn (rY aA))) (qs1 (cR (kh T) (qv 0) qbl)))),?_};show P6 _ bT=_;refine(congrArg (P6 · bT) (show _=Zh (Out.nx [Zh (.cell 0)] (enc A st0))from ?_)).trans rfl;have mkP:oR A.Program FP (ag (aN aD aK) (ag (aN aD aK) (ag (aN aD aK) aK))) [Zh (.cell 0)] [.obj A.Reader [] []]=Zh (.cell 1,[.obj A.Reader [] [],.obj A.Program ["heads","deeds","main"] [.cell 2,.cell 3,.cell 4],.lst [],.lst [],.lst []]):=by
  show(FP [.cell 1,.lst [],.lst [],.lst []] [.obj A.Reader [] [],.obj A.Program [] []]).bind _=_;rw[P1];rfl
 have mkN:oR A.bS FN aK [Zh (.cell 0)] [.obj A.Reader ["program"] [.cell 1],.obj A.Program ["heads","deeds","main"] [.cell 2,.cell 3,.cell 4],.lst [],.lst [],.lst []]=Zh (.cell 5,[.obj A.Reader ["program"] [.cell 1],.obj A.Program ["heads","deeds","main"] [.cell 2,.cell 3,.cell 4],.lst [],.lst [],.lst [],.obj A.bS ["kinds","ended","deed","spoken"] [.cell 6,.cell 7,.non,.cell 8],.dic [] [],.dic [] [],.dic [] []]):=by
  show(FN [.cell 5] [.obj A.Reader ["program"] [.cell 1],.obj A.Program ["heads","deeds","main"] [.cell 2,.cell 3,.cell 4],.lst [],.lst [],.lst [],.obj A.bS [] []]).bind _=_;rw[N1];rfl
 exact aR (dJ (f:="program") (n:=0) (d:=.cell 1) (fn':=["program"]) (ds':=[.cell 1]) mkP rfl rfl (by simp) (by show(0:Nat)<1000;decide) rfl) (aR (dJ (f:="names") (n:=0) (d:=.cell 5) (fn':=["program","names"]) (ds':=[.cell 1,.cell 5]) mkN rfl rfl (by simp) (by show(1:Nat)<1000;decide) rfl) (aR (dJ (f:="opened") (n:=0) (d:=.cell 9) (fn':=["program","names","opened"]) (ds':=[.cell 1,.cell 5,.cell 9]) rfl rfl rfl (by simp) (by show(2:Nat)<1000;decide) rfl) (eI (f:="begun") (n:=0) (d:=.bl false) (fn':=["program","names","opened","begun"]) (ds':=[.cell 1,.cell 5,.cell 9,.bl false]) rfl rfl rfl (by simp) (by show(3:Nat)<1000;decide) rfl)))
inductive f9(A:Adr)(FT:List D->MS->Option (D×MS)):Nat->List Str->RdS->RdS->Prop
 |nil (n:Nat) (st:RdS):f9 A FT n [] st st
 |cons {n:Nat}{x:Str}{xs:List Str}{st st1 st2:RdS} (h:FT [.cell 0,.int (n:Nat),.str x] (enc A st)=Zh (.non,enc A st1)) (r:f9 A FT (n+1) xs st1 st2):f9 A FT n (x::xs) st st2
theorem f9.app:∀{xs:List Str}{n:Nat}{ys:List Str}{st st1 st2:RdS},f9 A FT n xs st st1->f9 A FT (n+xs.length) ys st1 st2->f9 A FT n (xs++ys) st st2
 | [],n,ys,st,st1,st2,h,g=>by cases h;exact g
 |x::xs,n,ys,st,st1,st2,h,g=>by
  cases h with
  |cons h r=>exact .cons h (r.app (by rw[show n+1+xs.length=n+(x::xs).length by rw[Qd];lia];exact g))
theorem vZ:∀{xs:List Str}{n:Nat}{st st2:RdS}{a b c d e:Option D},f9 A FT n xs st st2->b=Zh (.cell 0)->∃c' d',forL (gT 2 (gsC (gN 2) (gsC (gN 3) gsN))) (kS (tV A.Reader "take" FT (dV 1) (ag (dV 2) (ag (dV 3) aK)))) (mw n (xs.map D.str)) [a,b,c,d,e] (enc A st)=Zh (.nx [a,b,c',d',e] (enc A st2))
 | [],n,st,st2,a,b,c,d,e,h,hb=>by cases h;exact⟨c,d,rfl⟩
 |x::xs,n,st,st2,a,b,c,d,e,h,hb=>by
  cases h with
  |cons h r=>
   obtain⟨c',d',ih⟩:=vZ (a:=a) (b:=b) (c:=Zh (.int (n:Nat))) (d:=Zh (.str x)) (e:=e) r hb;refine{c',d',?_};subst hb;have n1:("take":Str)∉rFn:=∅
   have:=kO (Co (C:=A.Reader) (m:="take") (F:=FT) (ro:=dV 1) (ra:=ag (dV 2) (ag (dV 3) aK)) (B:=[a,Zh (.cell 0),Zh (.int (n:Nat)),Zh (.str x),e]) (o:=.cell 0) (ds:=[.int (n:Nat),.str x]) rfl (Ag st) ⟨rfl,n1⟩ rfl h);show(kS _ _ _).bind _=_;exact(congrArg (λz=>P6 z _) this).trans ih
theorem L9(T:Txt K mg A)(T9:cH P w K mg base 8 A.Reader "take" ["self","number","text"] (spI K FT)):∃F,Has P w K mg base 9 "read" ["rows"] (spI K F)/\
  ∀(xs:List Str) stF m x bd (mn:List (Int×Rw)),f9 A FT 1 xs st0 stF->stF.opened=[]->stF.begun=true->GU A stF m x bd->stF.main=mn.map (rwD A)->mn.length<=640->(∀p∈mn,∀y ts,p.2=.call y ts->y=x)->(bd.map λp=>cB [] p.2).sum<=10000->(mn.map λp=>cB [(x,(bd.map λp=>cB [] p.2).sum)] p.2).sum<=10000->F [.lst (xs.map D.str)] []=Zh (.cell 1,enc A stF):=by
 obtain⟨FI,Ua,I1⟩:=@uv P w _ _ base _ T
 obtain⟨fD,Ub,N1⟩:=@MN P w _ _ base _ T
 obtain⟨fC,Uc,C1⟩:=@uL P w _ _ base _ T
 refine{_,mkI T.read (k:=8) oE λ_ _ _ _ _ _ _ hr hu=>qsc (oa 1 oE.nd (FR T.c7 Ua hr)) (qsc (tQ (K4 T.gZ (aa (qv 0) aA)) (qgt (n:=2) (yh (qgn 2 oE.nd) (yh (qgn 3 oE.nd) Ho))) (qs1 (dQ (tR (qv 1) T.c7.cl T9 hr (aa (qv 2) (aa (qv 3) aA)))))) (qsc (cG 4 oE.nd (mZ (qv 1) T.c7.cl Ub hr (aa (qop cx Zn (qcB cb cO T.cE (aa (qv 0) aA)) a8) aA))) (qsc (J2 (cA Uc hr (aa (qv 4) aA))) (qs1 (bw (qv 4)))))),λxs stF m x bd mn hS ho hb h1 hm hl hc l1 l2=>?_}
 show P6 _ bT=_
 refine(congrArg (P6 · bT) (show _=Zh (Out.rt (.cell 1) (enc A stF))from ?_)).trans rfl
 have mk:oR A.Reader FI aK [Zh (.lst (xs.map D.str)),Zi,Zi,Zi,Zi] []=Zh (.cell 0,enc A st0):=by
  show(FI [.cell 0] [.obj A.Reader [] []]).bind _=_;rw[I1];rfl
 obtain⟨c',d',e1⟩:=vZ (a:=Zh (.lst (xs.map D.str))) (b:=Zh (.cell 0)) (c:=Zi) (d:=Zi) (e:=Zi) hS rfl
 refine aR (d7 mk) (aR ((k9 (ds:=mw 1 (xs.map D.str)) rfl).trans e1) ?_)
 have n1:("done":Str)∉rFn:=∅
 refine aR (cq (d:=.cell 1) (BC (C:=A.Reader) (o:=.cell 0) (ds:=[.int ((xs.map D.str).length+1:Int)]) rfl (Ag stF) ⟨rfl,n1⟩ rfl (N1 stF _ ho hb))) (aR (BL (d:=.non) (C1 stF m x bd mn h1 hm hl hc l1 l2)) ?_)
 rfl
noncomputable def tw:Th->Str
 | .i n=>UU (toString n)
 | .s x=>x
def sk:Th->Prop
 | .i n=>0<=n/\n<10^12
 | .s x=>isNm x=true
def pY(x:Str):Prop:=x.length<=12/\32∉x.cps.toList
theorem fX(h:isNm x=true):pY x:=by
 obtain⟨h1,h2,h3⟩:=gO.mp h;refine{(),λz=>?_};have:=h3 32 z;rw[rq]at this;exact absurd (of_decide_eq_true this) ∅
theorem qt(h:sk t):pY (tw t)/\ji (tw t)=Zh t.d:=by
 cases t with
 |s x=>exact⟨fX h,zv h⟩
 |i n=>
  obtain⟨m,rfl⟩:=Ro h.1;have hm:m<10^12:=by have:=h.2;lia
  obtain⟨h1,h2,h3⟩:=yd hm;refine{{h3,λz=>?_},h1};obtain⟨f1,_⟩:=lP m;have:=f1 32 z;lia
def vw:Vl->List Str
 | .one t=>[tw t]
 | .op a n b=>[tw a,opW n,tw b]
 | .at x b=>[x,"at",tw b]
def yO:Vl->Prop
 | .one t=>sk t
 | .op a _ b=>sk a/\sk b
 | .at x b=>isNm x=true/\sk b
theorem Cb(t:Th)(r:D):nO t.d r=r:=by cases t<;>rfl
theorem Nm(n:Fin 7):inV (.str (opW n)) [.str "+",.str "-",.str "*",.str "over",.str "rest",.str "<",.str "="]=true:=by revert n;decide
theorem NQ(n:Fin 7):(opW n).length<=12/\32∉(opW n).cps.toList:=by revert n;decide
theorem xK(h:yO v):mr (vw v)=Zh v.d/\(∀x∈vw v,pY x)/\(vw v).length<=3:=by
 cases v with
 |one t=>
  obtain⟨h1,h2⟩:=qt h;refine{?_,λx hx=>by rw[Qg.mp hx];exact h1,by simp[vw]};show Dk (tw t)=_;unfold Dk;rw[h2];show Zh (nO t.d (.tup [t.d]))=_;rw[Cb];rfl
 |op a n b=>
  obtain⟨h1,h2⟩:=qt h.1;obtain⟨h3,h4⟩:=qt h.2;refine{?_,λx hx=>?_,by simp[vw]}
  ·show yN (tw a) (opW n) (tw b)=_;unfold yN;rw[h2,h4];show Zh (nO a.d (nO b.d (if _ then _ else _)))=_;rw[Cb,Cb,Nm];rfl
  simp only[vw,P7,P9,or_false]at hx;rcases hx with rfl|rfl|rfl
  ·exact h1
  ·exact NQ n
  exact h3
 |«at» y b=>
  obtain⟨h3,h4⟩:=qt h.2;refine{?_,λx hx=>?_,by simp[vw]}
  ·show yN y "at" (tw b)=_;unfold yN;rw[zv h.1,h4];show Zh (nO (.str y) (nO b.d (if _ then _ else _)))=_;rw[Cb,h.1];rfl
  simp only[vw,P7,P9,or_false]at hx;rcases hx with rfl|rfl|rfl
  ·exact fX h.1
  ·exact{∅,∅}
  exact h3
noncomputable def rkW(r:Int):Str:=if r=0 then "open" else if r=1 then "house" else "closed"
def uT(r:Int):Prop:=r=0\/r=1\/r=2
theorem GH(h:uT r):rkD (rkW r)=.int r/\pY (rkW r):=by
 rcases h with rfl|rfl|rfl<;>exact{rfl,∅,∅}
noncomputable def szW(z:Int):List Str:=if z=0 then[]else[UU (toString z)]
def b8:Rw->List Str
 | .hand x r=>["hand",x,rkW r]
 | .given x r z=>"given"::x::rkW r::szW z
 | .own x z=>"own"::x::szW z
 | .lett x r=>["let",x,rkW r]
 | .set x v=>"set"::x::vw v
 | .put x p v=>"put"::x::tw p::vw v
 | .send x v=>"send"::x::vw v
 | .say x v m=>"say"::x::(vw v++(["by",m]:List Str))
 | .call x ts=>"call"::x::ts.map tw
noncomputable def kwR:Rw->Str
 | .hand _ _=>"hand"
 | .given _ _ _=>"given"
 | .own _ _=>"own"
 | .lett _ _=>"let"
 | .set _ _=>"set"
 | .put _ _ _=>"put"
 | .send _ _=>"send"
 | .say _ _ _=>"say"
 | .call _ _=>"call"
def vsR:Rw->List D
 | .hand x r=>[.str x,.int r]
 | .given x r z=>[.str x,.int r,.int z]
 | .own x z=>[.str x,.int z]
 | .lett x r=>[.str x,.int r]
 | .set x v=>[.str x,v.d]
 | .put x p v=>[.str x,p.d,v.d]
 | .send x v=>[.str x,v.d]
 | .say x v m=>[.str x,v.d,.str m]
 | .call x ts=>[.str x,.lst (ts.map Th.d)]
def oq:Rw->Prop
 | .hand x r=>isNm x=true/\uT r
 | .given x r z=>isNm x=true/\uT r/\0<=z/\z<=20
 | .own x z=>isNm x=true/\0<=z/\z<=20
 | .lett x r=>isNm x=true/\uT r
 | .set x v=>isNm x=true/\yO v
 | .put x p v=>isNm x=true/\sk p/\yO v
 | .send x v=>isNm x=true/\yO v
 | .say x v m=>isNm x=true/\yO v/\isNm m=true
 | .call x ts=>isNm x=true/\ts.length<=4/\∀t∈ts,sk t
theorem dD(v:Vl):bP v.d=true:=by
 unfold Vl.d;rw[ao];cases v<;>simp[Vl.ds,ae,af,dO,ak]
theorem Ou(v:Vl):dv v.d=false:=rfl
theorem Fq(t:Th):dv t.d=false:=by cases t<;>rfl
theorem BJ(r:Rw):bD (vsR r)=true:=by
 cases r<;>simp[vsR,ae,af,ak,ai,dD,dO,aj,lx]
theorem J4(h0:0<=z)(h1:z<=20):(∀x∈szW z,pY x)/\(szW z).length<=1/\(z=0/\szW z=[]\/∃y,szW z=[y]/\nV y=Zh (.int z)/\1<=z):=by
 unfold szW;by_cases hz:z=0
 ·rw[if_pos hz];exact{λx hx=>(by cases hx),by simp,.inl ⟨hz,rfl⟩}
 rw[if_neg hz];obtain⟨m,rfl⟩:=Ro h0;obtain⟨h2,h3,h4⟩:=yd (m:=m) ();obtain⟨h5,_⟩:=qt (t:=.i (m:Int)) {(),()};exact{λx hx=>by rw[Qg.mp hx];exact h5,by simp,.inr {_,rfl,h3,()}}
theorem Bo:∀{ts:List Th},(∀t∈ts,sk t)->wR ji (ts.map tw)=Zh (ts.map Th.d)
 | [],_=>rfl
 |t::r,h=>by
  show(ji (tw t)).bind _=_;rw[(qt (h t Qb)).2];show(wR ji (r.map tw)).bind _=_;rw[Bo λt ht=>h t (Qa _ ht)];rfl
theorem Jd(ts:List Th):whl (ts.map Th.d)=.tup (ts.map Th.d):=by
 unfold whl;rw[if_neg];intro z;obtain⟨d,hd,e⟩:=Sg.mp z;obtain⟨t,_,rfl⟩:=Qr.mp hd;rw[Fq]at e;cases e
theorem yJ(h:oq r):Bg (b8 r)=Zh (.tup (.str (kwR r)::vsR r))/\(∀x∈b8 r,pY x)/\(b8 r).length<=8:=by
 have hw:∀{x:Str},(x.length<=12&&decide (32∉x.cps.toList))=true->pY x:=λh=>by
  rw[Qs]at h;exact⟨of_decide_eq_true h.1,of_decide_eq_true h.2⟩
 cases r with
 |hand x r=>
  obtain⟨h1,h2⟩:=GH h.2;refine{?_,λy hy=>?_,by simp[b8]}
  ·show Du ["hand",x,rkW r]=_;unfold Du;dsimp only;rw[dG h.1,h1];rfl
  simp only[b8,P7,P9,or_false]at hy;rcases hy with rfl|rfl|rfl
  ·exact hw ∅
  ·exact fX h.1
  exact h2
 |lett x r=>
  obtain⟨h1,h2⟩:=GH h.2;refine{?_,λy hy=>?_,by simp[b8]}
  ·show Du ["let",x,rkW r]=_;unfold Du;dsimp only;rw[dG h.1,h1];rfl
  simp only[b8,P7,P9,or_false]at hy;rcases hy with rfl|rfl|rfl
  ·exact hw ∅
  ·exact fX h.1
  exact h2
 |given x r z=>
  obtain⟨h1,h2⟩:=GH h.2.1;obtain⟨h3,h4,h5⟩:=J4 h.2.2.1 h.2.2.2;refine{?_,λy hy=>?_,by simp[b8];lia}
  ·show FY ("given"::x::rkW r::szW z)=_;rcases h5 with⟨rfl,e⟩|⟨y,e,e2,e3⟩
   ·rw[e];unfold FY;dsimp only;rw[dG h.1,h1];rfl
   rw[e];unfold FY;dsimp only;rw[dG h.1,h1,e2];show Zh (whl [_,_,_,if(decide (1<=z)&&decide (z<=20))=true then _ else _])=_;rw[decide_eq_true e3,decide_eq_true h.2.2.2];rfl
  simp only[b8,P7]at hy;rcases hy with rfl|rfl|rfl|hy
  ·exact hw ∅
  ·exact fX h.1
  ·exact h2
  exact h3 y hy
 |own x z=>
  obtain⟨h3,h4,h5⟩:=J4 h.2.1 h.2.2;refine{?_,λy hy=>?_,by simp[b8];lia}
  ·show F6 ("own"::x::szW z)=_;rcases h5 with⟨rfl,e⟩|⟨y,e,e2,e3⟩
   ·rw[e];unfold F6;dsimp only;rw[dG h.1];rfl
   rw[e];unfold F6;dsimp only;rw[dG h.1,e2];show Zh (whl [_,_,if(decide (1<=z)&&decide (z<=20))=true then _ else _])=_;rw[decide_eq_true e3,decide_eq_true h.2.2];rfl
  simp only[b8,P7]at hy;rcases hy with rfl|rfl|hy
  ·exact hw ∅
  ·exact fX h.1
  exact h3 y hy
 |set x v=>
  obtain⟨h1,h2,h3⟩:=xK h.2;refine{?_,λy hy=>?_,by simp[b8];lia}
  ·show CU ("set"::x::vw v)=_;cases hv:vw v with
   |nil=>rw[hv]at h1;cases v<;>cases hv
   |cons a r=>
    rw[hv]at h1;unfold CU;dsimp only;rw[h1,dG h.1];rfl
  simp only[b8,P7]at hy;rcases hy with rfl|rfl|hy
  ·exact hw ∅
  ·exact fX h.1
  exact h2 y hy
 |send x v=>
  obtain⟨h1,h2,h3⟩:=xK h.2;refine{?_,λy hy=>?_,by simp[b8];lia}
  ·show CU ("send"::x::vw v)=_;cases hv:vw v with
   |nil=>rw[hv]at h1;cases v<;>cases hv
   |cons a r=>
    rw[hv]at h1;unfold CU;dsimp only;rw[h1,dG h.1];rfl
  simp only[b8,P7]at hy;rcases hy with rfl|rfl|hy
  ·exact hw ∅
  ·exact fX h.1
  exact h2 y hy
 |put x p v=>
  obtain⟨h1,h2,h3⟩:=xK h.2.2;obtain⟨h4,h5⟩:=qt h.2.1;refine{?_,λy hy=>?_,by simp[b8];lia}
  ·show IZ ("put"::x::tw p::vw v)=_;cases hv:vw v with
   |nil=>rw[hv]at h1;cases v<;>cases hv
   |cons a r=>
    rw[hv]at h1;unfold IZ;dsimp only;rw[h1,h5,dG h.1];show Zh (whl [_,_,p.d,v.d])=_;unfold whl;rw[if_neg (by simp[Fq,Ou,au])];rfl
  simp only[b8,P7]at hy;rcases hy with rfl|rfl|rfl|hy
  ·exact hw ∅
  ·exact fX h.1
  ·exact h4
  exact h2 y hy
 |say x v m=>
  obtain⟨h1,h2,h3⟩:=xK h.2.1;refine{?_,λy hy=>?_,by simp[b8];lia}
  ·show EN ("say"::x::(vw v++(["by",m]:List Str)))=_;have h0:1<=(vw v).length:=by cases v<;>simp[vw]
   unfold EN;dsimp only;rw[if_neg (by rw[Qj];simp;lia),List.reverse_append];show(if("by":Str)="by" then(mr (vw v).reverse.reverse).bind _ else _)=_;rw[if_pos rfl,List.reverse_reverse,h1,dG h.1,dG h.2.2];rfl
  simp only[b8,P7,QD,P9,or_false]at hy;rcases hy with rfl|rfl|hy|rfl|rfl
  ·exact hw ∅
  ·exact fX h.1
  ·exact h2 y hy
  ·exact hw ∅
  exact fX h.2.2
 |call x ts=>
  refine{?_,λy hy=>?_,by have:=h.2.1;simp[b8];lia}
  ·show ldW ji ("call"::x::ts.map tw)=_;unfold ldW;dsimp only;rw[if_pos (by rw[P8];exact h.2.1),Bo h.2.2];show Zh (lsd "call" x (ts.map Th.d))=_;unfold lsd;rw[Jd,dG h.1];rfl
  simp only[b8,P7,Qr]at hy;rcases hy with rfl|rfl|⟨t,ht,rfl⟩
  ·exact hw ∅
  ·exact fX h.1
  exact(qt (h.2.2 t ht)).1
theorem Gf(c:Nat):∀(r:List (List Nat))(w:List Nat)(b:Nat),(∀p∈w::r,p.length<=b)->(jn c w r).length<=(b+1)*(r.length+1)
 | [],w,b,h=>by
  have:=h w Qb;simp[jn];lia
 |q::r,w,b,h=>by
  have ih:=Gf c r q b λp hp=>h p (Qa _ hp);have h1:=h w Qb;have e:(jn c w (q::r)).length=w.length+1+(jn c q r).length:=by simp[jn];lia
  rw[e,Qd,Nat.mul_add];lia
theorem xu(hf:Bg ws=Zh (.tup (.str k::vs)))(hw:∀x∈ws,pY x)(hl:ws.length<=8)(hp:bD vs=true):Frm A (Txt.join " " ws) k vs:=by
 cases ws with
 |nil=>cases hf
 |cons a r=>
  refine{?_,hp};have hs:jh (Txt.join " " (a::r)) " "=a::r:=zw λp hp=>(hw p hp).2;have hlen:(Txt.join " " (a::r)).length<=200:=by
   have h1:=wL 32 a r;have h2:=Gf 32 (r.map (·.cps.toList)) a.cps.toList 12 λp hp=>by
    rcases P7.mp hp with rfl|hp
    ·exact(hw a Qb).1
    obtain⟨q,hq,rfl⟩:=Qr.mp hp;exact(hw q (Qa _ hq)).1
   have h3:(Txt.join " " (a::r)).length=(Txt.join ⟨#[32]⟩ (a::r)).cps.toList.length:=rfl;rw[h3,h1];rw[P8]at h2;rw[Qd]at hl;have:13*(r.length+1)<=13*8:=Nat.mul_le_mul_left _ hl;lia
  show(if _ then _ else _)=_;rw[hs,if_pos {Qi hlen ∅,(),QM.mpr λx hx=>decide_eq_true (Qi (hw x hx).1 ∅)},hf];show(if bP (.tup (.str k::vs))=true then _ else _)=_;rw[if_pos (by rw[ao,ae,ak,hp];rfl)]
theorem Bk(h:oq r):Frm A (Txt.join " " (b8 r)) (kwR r) (vsR r):=by
 obtain⟨h1,h2,h3⟩:=yJ h;exact xu h1 h2 h3 (BJ r)
theorem EG(n:Int)(r:Rw)(M:MS):DH A [.int n,.tup (.str (kwR r)::vsR r)] M=Zh (r.d A n,M):=by
 show(if bD (vsR r)=true then JB A n (kwR r) (vsR r) M else Zi)=_;rw[if_pos (BJ r)];cases r<;>rfl
theorem FA(hx:isNm x=true)(hp:∀p∈ps,isNm p=true)(hl:ps.length<=4):Frm A (Txt.join " " ("deed"::x::ps)) "deed" [.str x,.lst (ps.map D.str)]:=by
 have ha:∀{ps:List Str},(∀p∈ps,isNm p=true)->wR (λw=>Zh (nmD w)) ps=Zh (ps.map D.str):=by
  intro ps;induction ps with
  |nil=>intro _;rfl
  |cons p r ih=>
   intro h;show(wR _ r).bind _=_;rw[ih λq hq=>h q (Qa _ hq),dG (h p Qb)];rfl
 have hwl:whl (ps.map D.str)=.tup (ps.map D.str):=by
  unfold whl;rw[if_neg];intro z;obtain⟨d,hd,e⟩:=Sg.mp z;obtain⟨t,_,rfl⟩:=Qr.mp hd;cases e
 refine xu ?_ ?_ (by simp;lia) (by simp[ae,af,ak,aj,c5])
 ·show ldW _ ("deed"::x::ps)=_;unfold ldW;dsimp only;rw[if_pos hl,ha hp];show Zh (lsd "deed" x (ps.map D.str))=_;unfold lsd;rw[hwl,dG hx];rfl
 intro y hy;simp only[P7]at hy;rcases hy with rfl|rfl|hy
 ·exact{∅,∅}
 ·exact fX hx
 exact fX (hp y hy)
theorem F4:Frm A (Txt.join " " ["main"]) "main" []:=xu rfl (λx hx=>by rw[Qg.mp hx];exact{∅,∅}) ∅ af
theorem Cf:Frm A (Txt.join " " ["end"]) "end" []:=xu rfl (λx hx=>by rw[Qg.mp hx];exact{∅,∅}) ∅ af
def txt(r:Rw):Str:=Txt.join " " (b8 r)
noncomputable def Zq:Nat->List Rw->List (Int×Rw)
 |_,[]=>[]
 |n,r::rs=>((n:Int),r)::Zq (n+1) rs
theorem yE:∀(n:Nat)(a b:List Rw),Zq n (a++b)=Zq n a++Zq (n+a.length) b
 |n,[],b=>rfl
 |n,r::a,b=>by
  show _::Zq (n+1) (a++b)=_::(Zq (n+1) a++_);rw[yE (n+1) a b,Qd,show n+1+a.length=n+(a.length+1) by lia]
theorem dZ:∀(n:Nat)(a:List Rw),(Zq n a).length=a.length
 |n,[]=>rfl
 |n,r::a=>by show(Zq (n+1) a).length+1=_;rw[dZ];rfl
theorem tq:∀{n:Nat}{a:List Rw},p∈Zq n a->p.2∈a
 |n,r::a,h=>by
  rcases P7.mp h with rfl|h
  ·exact Qb
  exact Qa _ (tq h)
structure sJ(A:Adr)(FT:List D->MS->Option (D×MS)):Prop where
 head:∀st n r,n<=200->oq r->kwR r∈hdW->st.dj=[]->st.begun=false->(∃t,qE A st t)->Mm A st r->st.kinds.length<900->st.heads.length<900->(∀x v m,r≠ .say x v m)->FT [.cell 0,.int n,.str (txt r)] (enc A st)=Zh (.non,enc A { st with heads:=st.heads++[r.d A n],kinds:=st.kinds++Zv r })
 body:∀st n r wd row q ds,n<=200->oq r->kwR r∉hdW->qE A st (Zh (wd,row,q))->(10<=q\/q=4)->(enc A st)[q]?=Zh (.lst ds)->ds.length<900->Mm A st r->st.kinds.length<900->(∀x v m,r=.say x v m->m∉st.cN/\st.cN.length<900)->FT [.cell 0,.int n,.str (txt r)] (enc A st)=Zh (.non,(enc A { st with cN:=gX st.cN r }).set q (.lst (ds++[r.d A n])))
 eg:∀st n x ps,n<=200->isNm x=true->(∀p∈ps,isNm p=true)->ps.length<=4->st.opened=[]->st.begun=false->st.eg=.non->qP st.kinds (dW x ps)->st.dj=[]->st.kinds.length<900->FT [.cell 0,.int n,.str (Txt.join " " ("deed"::x::ps))] (enc A st)=Zh (.non,enc A { st with kinds:=st.kinds++dW x ps,eg:=.cell (st.rest.length+10),dj:=[.cell (st.rest.length+10)],opened:=[.cell (st.rest.length+13)],rest:=st.rest++[.obj A.a6 dFn [.int n,.str x,.cell (st.rest.length+11),.cell (st.rest.length+12)],.lst (ps.map D.str),.lst [],.obj A.Opened oFn [.str "deed",.cell (st.rest.length+10),.cell (st.rest.length+12)]] })
 main:∀st n,n<=200->st.opened=[]->st.begun=false->FT [.cell 0,.int n,.str (Txt.join " " ["main"])] (enc A st)=Zh (.non,enc A { st with begun:=true,opened:=[.cell (st.rest.length+10)],rest:=st.rest++[.obj A.Opened oFn [.str "main",.non,.cell 4]] })
 Px:∀st n j row q (wd:Str),n<=200->st.opened=[.cell j]->10<=j->(enc A st)[j]?=Zh (.obj A.Opened oFn [.str wd,row,.cell q])->wd≠"deed"->wd≠"if"->FT [.cell 0,.int n,.str (Txt.join " " ["end"])] (enc A st)=Zh (.non,enc A { st with opened:=[] })
 Pc:∀st n j row q m n' x ps p b,n<=200->st.opened=[.cell j]->10<=j->(enc A st)[j]?=Zh (.obj A.Opened oFn [.str "deed",row,.cell q])->cQ A (enc A st) m n' x ps p b->st.eg=.cell m->st.ended=[]->10<=m->10<=p->FT [.cell 0,.int n,.str (Txt.join " " ["end"])] (enc A st)=Zh (.non,enc A { st with opened:=[],ended:=[(x,(ps.length:Int))],eg:=.non })
theorem JK(r:Rw):kwR r≠"last"/\kwR r≠"deed"/\kwR r≠"loop"/\kwR r≠"if"/\kwR r≠"main"/\kwR r≠"else"/\kwR r≠"end":=by
 cases r<;>(unfold kwR;dsimp only;exact{∅,∅,∅,∅,∅,∅,∅})
theorem Cj(h:∀x v m,r≠ .say x v m):gX l r=l:=by
 cases r with
 |say x v m=>exact absurd rfl (h x v m)
 |_=>rfl
theorem wD(h:kwR r∉hdW):Zv r=[]:=by
 cases r with
 |hand=>exact absurd (show("hand":Str)∈hdW by decide) h
 |given=>exact absurd (show("given":Str)∈hdW by decide) h
 |own=>exact absurd (show("own":Str)∈hdW by decide) h
 |lett=>exact absurd (show("let":Str)∈hdW by decide) h
 |_=>rfl
theorem HC(T:Txt K mg A)(tk:sR P w K mg a' fs)(sv:yp P w K mg a):∃F,cH P w K mg base 8 A.Reader "take" ["self","number","text"] (spI K F)/\sJ A F:=by
 obtain⟨fM,S6,M1⟩:=@y4 P w _ _ base _ T;obtain⟨fC,Td,C1,C2⟩:=Jy (P:=P) (w:=w) (base:=base) T sv;obtain⟨FK,Tn,K1,K2⟩:=@MH P w _ _ base _ T;obtain⟨FP,S7,P1,P2,P3⟩:=@Ir P w _ _ base _ T;obtain⟨FT,Ti,T1,T2,T3⟩:=@Lr P w _ _ base _ T;obtain⟨F,DF,G1,G2⟩:=IU T tk S6 Td Tn S7 Ti;refine{F,DF,?_,?_,?_,?_,?_,?_}
 ·intro st n r hn hr hk hd hb ht ho hl hl2 hs;obtain⟨t,ht⟩:=ht;have kn:=JK r;have ms:=M1 st t (kwR r) kn.1 ht;have e:oT st (ot t) (kwR r)=true:=by unfold oT;rw[if_pos hk,hd,hb];rfl
  rw[e]at ms;have k1:=K1 st n r ho.nw hl λx v m e=>absurd e (hs x v m);rw[Cj hs]at k1;exact G1 st st _ n (txt r) (kwR r) (vsR r) (r.d A n) _ hn (Bk hr) ms (EG n r _) (rw_non A n r) (C1 st n r ho) k1 (P1 _ (kwR r) (r.d A n) hk hl2)
 ·intro st n r wd row q ds hn hr hk ht hq hds hdl ho hl hs;have kn:=JK r;have ms:=M1 st _ (kwR r) kn.1 ht;have e:oT st (ot (Zh (wd,row,q))) (kwR r)=true:=by
   unfold oT;rw[if_neg hk,if_neg (λz=>by rcases z with z|z;exact kn.2.1 z;exact kn.2.2.2.2.1 z),if_neg kn.2.2.2.2.2.1,if_neg kn.2.2.2.2.2.2];rfl
  rw[e]at ms;have k1:=K1 st n r ho.nw hl hs;rw[wD hk,Qo]at k1;cases ht with
  |«at» os k wd row r' h o g=>
   refine G1 st st _ n (txt r) (kwR r) (vsR r) (r.d A n) _ hn (Bk hr) ms (EG n r _) (rw_non A n r) (C1 st n r ho) k1 (P2 _ (kwR r) (r.d A n) os k wd row q ds hk kn.2.1 kn.2.2.1 kn.2.2.2.1 h ?_ ?_ hdl)
   ·obtain⟨j,rfl⟩:∃j,k=j+10:={k-10,()};exact o
   rcases hq with hq|hq
   ·obtain⟨j,rfl⟩:∃j,q=j+10:={q-10,()};exact hds
   subst hq;exact hds
 ·intro st n x ps hn hx hps hl4 ho hb hdd hnw hds hl;have ms:=M1 st Zi "deed" ∅ (.no ho);have e:oT st (ot Zi) "deed"=true:=by
   unfold oT;rw[if_neg ∅,if_pos (.inl rfl),ho,hb];rfl
  rw[e]at ms;have hlen:(enc A st).length=st.rest.length+10:=rfl;generalize hL:st.rest.length=L at *;generalize hst1:({ st with rest:=st.rest++[.obj A.a6 dFn [.int n,.str x,.cell (L+11),.cell (L+12)],.lst (ps.map D.str),.lst []] }:RdS)=st1;have hr:DH A [.int n,.tup [.str "deed",.str x,.lst (ps.map D.str)]] (enc A st)=Zh (.cell (L+10),enc A st1):=by
   subst hst1;show(if bD [.str x,.lst (ps.map D.str)]=true then JB A n "deed" [.str x,.lst (ps.map D.str)] (enc A st)else Zi)=_;rw[if_pos (by simp[ae,af,ak,aj,c5])];show Zh (D.cell (enc A st).length,enc A st++[.obj A.a6 _ [.int n,.str x,.cell ((enc A st).length+1),.cell ((enc A st).length+2)],_,_])=_;rw[hlen];rfl
  have da:cQ A (enc A st1) (L+10) n x ps (L+11) (L+12):=by
   subst hst1;refine{?_,?_}
   ·show(st.rest++_)[L]?=_;rw[<-hL];simp
   show(st.rest++_)[L+1]?=_;rw[<-hL];simp
  have d1:qU A st1 Zi:=.no (by subst hst1;exact hdd);have nw1:qP st1.kinds (dW x ps):=by subst hst1;exact hnw
  have c1:=C2 st1 Zi (L+10) n x ps (L+11) (L+12) d1 () da nw1 (by subst hst1;show st.dj.length<8;rw[hds];decide);have k1:=K2 st1 (L+10) n x ps (L+11) (L+12) () (by subst hst1;exact hl) () () da nw1;generalize hst2:({ st1 with kinds:=st1.kinds++dW x ps,eg:=.cell (L+10) }:RdS)=st2 at k1;have da2:cQ A (enc A st2) (L+10) n x ps (L+11) (L+12):=by
   subst hst2;exact⟨da.ob,da.pa⟩
  have p3:=P3 st2 (L+10) n x ps (L+11) (L+12) () da2 (by subst hst2 hst1;show st.dj.length<900;rw[hds];decide) (by subst hst2 hst1;show st.opened.length<900;rw[ho];decide);refine(G1 st st1 st2 n _ "deed" [.str x,.lst (ps.map D.str)] (.cell (L+10)) _ hn (FA hx hps hl4) ms hr rfl c1 k1 p3).trans ?_;subst hst2 hst1;congr 2;show enc A _=enc A _;have e1:(st.rest++[Ob.obj A.a6 dFn [.int n,.str x,.cell (L+11),.cell (L+12)],.lst (ps.map D.str),.lst []]).length=L+3:=by rw[Qj,hL];rfl
  dsimp only;rw[e1,hds,ho,QC];rfl
 ·intro st n hn ho hb;have ms:=M1 st Zi "main" ∅ (.no ho);have e:oT st (ot Zi) "main"=true:=by
   unfold oT;rw[if_neg ∅,if_pos (.inr rfl),ho,hb];rfl
  rw[e]at ms;have t1:=T1 st (by rw[ho];decide);rw[ho]at t1;exact G2 st n _ "main" [] _ hn F4 ms rfl t1
 ·intro st n j row q wd hn ho hj10 hj h1 h2;have ms:=M1 st (Zh (wd,row,q)) "end" ∅ (.at [] j wd row q ho hj hj10);have e:oT st (ot (Zh (wd,row,q))) "end"=true:=by
   unfold oT;rw[if_neg ∅,if_neg ∅,if_neg ∅,if_pos rfl];show(true&& !decide (Zh wd=Zh ("if":Str)))=true;rw[decide_eq_false λz=>h2 (UE z)];rfl
  rw[e]at ms;exact G2 st n _ "end" [] _ hn Cf ms rfl (T2 st [] j wd row q ho hj10 hj h1)
 intro st n j row q m n' x ps p b hn ho hj10 hj hd hdd he hm hp;have ms:=M1 st (Zh ("deed",row,q)) "end" ∅ (.at [] j "deed" row q ho hj hj10);have e:oT st (ot (Zh ("deed",row,q))) "end"=true:=by
  unfold oT;rw[if_neg ∅,if_neg ∅,if_neg ∅,if_pos rfl];rfl
 rw[e]at ms;have t3:=T3 st [] j row q m n' x ps p b ho hj10 hj hd hdd (by rw[he];rfl) (by rw[he];decide) hm hp;rw[he]at t3;exact G2 st n _ "end" [] _ hn Cf ms rfl t3
structure Pl where
 heads:List Rw
 dx:Str
 ps:List Str
 body:List Rw
 main:List Rw
def jZ(hs:List Rw):List (Str×Str):=(hs.map Zv).flatten
def Pl.kinds(pl:Pl):List (Str×Str):=jZ pl.heads++dW pl.dx pl.ps
def Pl.texts(pl:Pl):List Str:=pl.heads.map txt++(Txt.join " " ("deed"::pl.dx::pl.ps)::(pl.body.map txt++(Txt.join " " ["end"]::Txt.join " " ["main"]::(pl.main.map txt++[Txt.join " " ["end"]]))))
def Dr(kinds:List (Str×Str))(cN:List Str)(dp:Option (List Str))(x u:Str):Bool:=uq { st0 with kinds:=kinds,cN:=cN } dp x u
def lJ(l:List Str)(rs:List Rw):List Str:=rs.foldl gX l
inductive Zw(kinds:List (Str×Str))(dp:Option (List Str))(ended:List (Str×Int)):List Str->List Rw->Prop
 |nil (l:List Str):Zw kinds dp ended l []
 |cons {l:List Str}{r:Rw}{rs:List Rw} (ok:oq r) (hd:kwR r∉hdW) (us:∀p∈ZG r,Dr kinds l dp p.1 p.2=true) (ca:∀x ts,r=.call x ts->ended.lookup x=Zh (ts.length:Int)) (sy:∀x v m,r=.say x v m->m∉l) (t:Zw kinds dp ended (gX l r) rs):Zw kinds dp ended l (r::rs)
structure xw(pl:Pl):Prop where
 hd:∀r∈pl.heads,oq r/\kwR r∈hdW
 nm:isNm pl.dx=true
 pn:∀p∈pl.ps,isNm p=true
 p4:pl.ps.length<=4
 nd:(pl.kinds.map (·.1)).Nodup
 bd:Zw pl.kinds (Zh pl.ps) [] [] pl.body
 mn:Zw pl.kinds Zi [(pl.dx,(pl.ps.length:Int))] (lJ [] pl.body) pl.main
 lh:pl.heads.length<=20
 lb:pl.body.length<=40
 lm:pl.main.length<=40
def hdS(A:Adr)(hs:List Rw):RdS:={ st0 with heads:=(Zq 1 hs).map (rwD A),kinds:=jZ hs }
theorem BY(h:kwR r∈hdW):(Zv r).length=1/\(∀x v m,r≠ .say x v m)/\ZG r=[]/\∀x ts,r≠ .call x ts:=by
 cases r with
 |hand=>exact{rfl,λ_ _ _ z=>(by cases z),rfl,λ_ _ z=>(by cases z)}
 |given=>exact{rfl,λ_ _ _ z=>(by cases z),rfl,λ_ _ z=>(by cases z)}
 |own=>exact{rfl,λ_ _ _ z=>(by cases z),rfl,λ_ _ z=>(by cases z)}
 |lett=>exact{rfl,λ_ _ _ z=>(by cases z),rfl,λ_ _ z=>(by cases z)}
 |set=>exact absurd h (show("set":Str)∉hdW by decide)
 |put=>exact absurd h (show("put":Str)∉hdW by decide)
 |send=>exact absurd h (show("send":Str)∉hdW by decide)
 |say=>exact absurd h (show("say":Str)∉hdW by decide)
 |call=>exact absurd h (show("call":Str)∉hdW by decide)
theorem ZD:∀{hs:List Rw},(∀r∈hs,kwR r∈hdW)->(jZ hs).length=hs.length
 | [],_=>rfl
 |r::hs,h=>by
  show(Zv r++(hs.map Zv).flatten).length=_;rw[Qj,(BY (h r Qb)).1,Qd];have:=ZD (hs:=hs) λq hq=>h q (Qa _ hq);unfold jZ at this;lia
theorem CK(a:List Rw)(r:Rw):jZ (a++[r])=jZ a++Zv r:=by
 unfold jZ;simp
theorem Bn(h:((ks++tl).map (·.1)).Nodup):qP ks tl:=by
 rw[Qz,Q8]at h;exact{h.2.1,λp hp=>oJ λz=>h.2.2 _ z _ (Qr.mpr ⟨p,hp,rfl⟩) rfl}
theorem zc(tk:sJ A FT):∀(b a:List Rw),(∀r∈a++b,oq r/\kwR r∈hdW)->((jZ (a++b)).map (·.1)).Nodup->(a++b).length<=20->f9 A FT (1+a.length) (b.map txt) (hdS A a) (hdS A (a++b))
 | [],a,_,_,_=>by rw[Qo];exact .nil _ _
 |r::b,a,h,hn,hl=>by
  have hr:=h r (by simp);obtain⟨t1,t2,t3,t4⟩:=BY hr.2;have e:a++r::b=(a++[r])++b:=by simp
  have ih:=zc tk b (a++[r]) (by rw[<-e];exact h) (by rw[<-e];exact hn) (by rw[<-e];exact hl);rw[e];refine .cons ?_ (by rw[show 1+a.length+1=1+(a++[r]).length by simp;lia];exact ih);have la:a.length<=20:=by rw[Qj]at hl;lia
  have nn:qP (jZ a) (Zv r):=Bn (by
   rw[e]at hn;rw[<-CK];have:jZ ((a++[r])++b)=jZ (a++[r])++jZ b:=by unfold jZ;simp
   rw[this,Qz,Q8]at hn;exact hn.1)
  have:=tk.head (hdS A a) ((1+a.length:Nat):Int) r () hr.1 hr.2 rfl rfl ⟨Zi,.no rfl⟩ {{Zi,.no rfl,λp hp=>by rw[t3]at hp;cases hp},nn,λx ts e=>absurd e (t4 x ts)} (by show(jZ a).length<900;rw[ZD λq hq=>(h q (Q6 _ hq)).2];lia) (by show((Zq 1 a).map (rwD A)).length<900;rw[P8,dZ];lia) t2;refine this.trans ?_;congr 2;unfold hdS;rw[CK,yE,Qz];rfl
def ddS(A:Adr)(pl:Pl)(bd:List (Int×Rw))(l:List Str):RdS:={ heads:=(Zq 1 pl.heads).map (rwD A),dj:=[.cell 10],main:=[],kinds:=pl.kinds,ended:=[],eg:=.cell 10,cN:=l,opened:=[.cell 13],begun:=false,rest:=[.obj A.a6 dFn [.int ((1+pl.heads.length:Nat):Int),.str pl.dx,.cell 11,.cell 12],.lst (pl.ps.map D.str),.lst (bd.map (rwD A)),.obj A.Opened oFn [.str "deed",.cell 10,.cell 12]] }
theorem yM(pl:Pl)(bd:List (Int×Rw))(l:List Str):cQ A (enc A (ddS A pl bd l)) 10 ((1+pl.heads.length:Nat):Int) pl.dx pl.ps 11 12:=⟨rfl,rfl⟩
theorem wW(l:List Str)(r:Rw):(gX l r).length<=l.length+1:=by
 cases r<;>simp[gX]
theorem vO(ok:xw pl):pl.kinds.length<900:=by
 unfold Pl.kinds;rw[Qj,ZD λr hr=>(ok.hd r hr).2];have:=ok.lh;have:=ok.p4;simp[dW];lia
theorem yC(tk:sJ A FT)(ok:xw pl):∀(b:List Rw)(bd:List (Int×Rw))(l:List Str)(n:Nat),Zw pl.kinds (Zh pl.ps) [] l b->n+b.length<=190->bd.length+b.length<=40->l.length<=bd.length->f9 A FT n (b.map txt) (ddS A pl bd l) (ddS A pl (bd++Zq n b) (lJ l b))
 | [],bd,l,n,_,_,_,_=>by
  show f9 A FT n [] (ddS A pl bd l) (ddS A pl (bd++[]) l);rw[Qo];exact .nil _ _
 |r::b,bd,l,n,hb,hn,hl,hll=>by
  cases hb with
  |cons ok1 hd us ca sy t=>
   rw[Qd]at hn hl;have hlen:(bd++[((n:Int),r)]).length=bd.length+1:=by simp
   have ih:=yC tk ok b (bd++[((n:Int),r)]) (gX l r) (n+1) t () () (by have:=wW l r;lia);rw[QC]at ih;refine .cons ?_ ih;refine(tk.body (ddS A pl bd l) (n:Int) r "deed" (.cell 10) 12 (bd.map (rwD A)) () ok1 hd (.at [] 13 "deed" (.cell 10) 12 rfl rfl ∅) (.inl ∅) rfl (by rw[P8];lia) {{Zh pl.ps,.at 10 _ _ _ 11 12 rfl (yM pl bd l),λp hp=>us p hp},by rw[wD hd];exact{by simp,λp hp=>by cases hp},λx ts e=>?_} (vO ok) λx v m e=>{sy x v m e,by show l.length<900;lia}).trans ?_
   ·have:=ca x ts e;cases this
   rw[show(bd.map (rwD A))++[r.d A (n:Int)]=(bd++[((n:Int),r)]).map (rwD A) by simp];rfl
def mnS(A:Adr)(pl:Pl)(mn:List (Int×Rw))(l:List Str):RdS:={ heads:=(Zq 1 pl.heads).map (rwD A),dj:=[.cell 10],main:=mn.map (rwD A),kinds:=pl.kinds,ended:=[(pl.dx,(pl.ps.length:Int))],eg:=.non,cN:=l,opened:=[.cell 14],begun:=true,rest:=[.obj A.a6 dFn [.int ((1+pl.heads.length:Nat):Int),.str pl.dx,.cell 11,.cell 12],.lst (pl.ps.map D.str),.lst ((Zq (2+pl.heads.length) pl.body).map (rwD A)),.obj A.Opened oFn [.str "deed",.cell 10,.cell 12],.obj A.Opened oFn [.str "main",.non,.cell 4]] }
theorem yi(tk:sJ A FT)(ok:xw pl):∀(b:List Rw)(mn:List (Int×Rw))(l:List Str)(n:Nat),Zw pl.kinds Zi [(pl.dx,(pl.ps.length:Int))] l b->n+b.length<=190->mn.length+b.length<=40->l.length<=mn.length+50->f9 A FT n (b.map txt) (mnS A pl mn l) (mnS A pl (mn++Zq n b) (lJ l b))
 | [],mn,l,n,_,_,_,_=>by
  show f9 A FT n [] (mnS A pl mn l) (mnS A pl (mn++[]) l);rw[Qo];exact .nil _ _
 |r::b,mn,l,n,hb,hn,hl,hll=>by
  cases hb with
  |cons ok1 hd us ca sy t=>
   rw[Qd]at hn hl;have hlen:(mn++[((n:Int),r)]).length=mn.length+1:=by simp
   have ih:=yi tk ok b (mn++[((n:Int),r)]) (gX l r) (n+1) t () () (by have:=wW l r;lia);rw[QC]at ih;refine .cons ?_ ih;refine(tk.body (mnS A pl mn l) (n:Int) r "main" .non 4 (mn.map (rwD A)) () ok1 hd (.at [] 14 "main" .non 4 rfl rfl ∅) (.inr rfl) rfl (by rw[P8];lia) {{Zi,.no rfl,λp hp=>us p hp},by rw[wD hd];exact{by simp,λp hp=>by cases hp},λx ts e=>{?_,ca x ts e}} (vO ok) λx v m e=>{sy x v m e,by show l.length<900;lia}).trans ?_
   ·subst e;have:=ok1.2.1;lia
   rw[show(mn.map (rwD A))++[r.d A (n:Int)]=(mn++[((n:Int),r)]).map (rwD A) by simp];rfl
noncomputable def Pl.nb(pl:Pl):Nat:=2+pl.heads.length
noncomputable def Pl.nm(pl:Pl):Nat:=4+pl.heads.length+pl.body.length
def CZ(A:Adr)(pl:Pl):RdS:={ mnS A pl (Zq pl.nm pl.main) (lJ (lJ [] pl.body) pl.main)with opened:=[] }
theorem ym:∀(rs:List Rw)(l:List Str),(lJ l rs).length<=l.length+rs.length
 | [],l=>by show l.length<=l.length+0;lia
 |r::rs,l=>by
  have:=ym rs (gX l r);have h2:=wW l r;show(lJ (gX l r) rs).length<=_;rw[Qd];lia
theorem Dp(tk:sJ A FT)(ok:xw pl):f9 A FT 1 pl.texts st0 (CZ A pl):=by
 have lh:=ok.lh;have lb:=ok.lb;have lm:=ok.lm;have nk:((jZ pl.heads).map (·.1)).Nodup:=by
  have:=ok.nd;unfold Pl.kinds at this;rw[Qz,Q8]at this;exact this.1
 have s1:=zc tk pl.heads [] ok.hd nk ok.lh;have s1:f9 A FT 1 (pl.heads.map txt) st0 (hdS A pl.heads):=s1;unfold Pl.texts;refine s1.app ?_;rw[P8];have d1:=tk.eg (hdS A pl.heads) ((1+pl.heads.length:Nat):Int) pl.dx pl.ps () ok.nm ok.pn ok.p4 rfl rfl rfl (Bn ok.nd) rfl (by show(jZ pl.heads).length<900;rw[ZD λr hr=>(ok.hd r hr).2];lia);have d1:FT [.cell 0,.int ((1+pl.heads.length:Nat):Int),.str (Txt.join " " ("deed"::pl.dx::pl.ps))] (enc A (hdS A pl.heads))=Zh (.non,enc A (ddS A pl [] [])):=d1;refine .cons d1 ?_;have s2:=yC tk ok pl.body [] [] (1+pl.heads.length+1) ok.bd () (by simp;lia) (by simp);refine s2.app ?_;rw[P8,show 1+pl.heads.length+1=2+pl.heads.length by lia];have e1:=tk.Pc (ddS A pl ([]++Zq (2+pl.heads.length) pl.body) (lJ [] pl.body)) ((2+pl.heads.length+pl.body.length:Nat):Int) 13 (.cell 10) 12 10 _ pl.dx pl.ps 11 12 () rfl ∅ rfl (yM pl _ _) rfl rfl ∅ ∅;refine .cons e1 ?_;have e2:=tk.main { ddS A pl ([]++Zq (2+pl.heads.length) pl.body) (lJ [] pl.body)with opened:=[],ended:=[(pl.dx,(pl.ps.length:Int))],eg:=.non } ((2+pl.heads.length+pl.body.length+1:Nat):Int) () rfl rfl;have e2:FT [.cell 0,.int ((2+pl.heads.length+pl.body.length+1:Nat):Int),.str (Txt.join " " ["main"])] (enc A { ddS A pl ([]++Zq (2+pl.heads.length) pl.body) (lJ [] pl.body)with opened:=[],ended:=[(pl.dx,(pl.ps.length:Int))],eg:=.non })=Zh (.non,enc A (mnS A pl [] (lJ [] pl.body))):=e2;refine .cons e2 ?_;have hs:=ym pl.body [];have s3:=yi tk ok pl.main [] (lJ [] pl.body) (2+pl.heads.length+pl.body.length+1+1) ok.mn () (by simp;lia) (by simp at hs⊢;lia);refine s3.app ?_;rw[P8];have hnm:2+pl.heads.length+pl.body.length+1+1=pl.nm:=by unfold Pl.nm;lia
 rw[hnm];refine .cons (tk.Px (mnS A pl ([]++Zq pl.nm pl.main) (lJ (lJ [] pl.body) pl.main)) ((pl.nm+pl.main.length:Nat):Int) 14 .non 4 "main" (by unfold Pl.nm;lia) rfl ∅ rfl ∅ ∅) (.nil _ _)
theorem rQ(hc:∀r,cB kn r<=c)(h0:0<=c):∀(rs:List (Int×Rw)),(rs.map λp=>cB kn p.2).sum<=c*rs.length
 | []=>by simp
 |p::rs=>by
  have:=rQ hc h0 rs;have:=hc p.2;simp only[Qc,SF,Qd];rw[YL,Int.mul_add];lia
theorem Zw.mem:∀{l:List Str}{rs:List Rw},Zw kinds dp ended l rs->∀r∈rs,oq r/\kwR r∉hdW/\∀x ts,r=.call x ts->ended.lookup x=Zh (ts.length:Int)
 |l,r::rs,h,q,hq=>by
  cases h with
  |cons ok hd us ca sy t=>
   rcases P7.mp hq with rfl|hq
   ·exact⟨ok,hd,ca⟩
   exact t.mem q hq
theorem IG{rs:List (Int×Rw)}:0<=(rs.map λp=>cB [] p.2).sum:=by
 induction rs with
 |nil=>simp
 |cons p rs ih=>
  rw[Qc,SF];have:0<=cB [] p.2:=by cases p.2<;>simp[cB]
  lia
theorem Ii(ok:xw pl):GU A (CZ A pl) 10 pl.dx (Zq pl.nb pl.body):=by
 refine{rfl,{_,pl.ps,11,12,⟨rfl,rfl⟩,rfl,?_},λp hp x ts e=>?_}
 ·rw[dZ];have:=ok.lb;lia
 have:=(ok.bd.mem p.2 (tq hp)).2.2 x ts e;cases this
theorem IV(T:Txt K mg A)(tk:sR P w K mg a' fs)(sv:yp P w K mg a):∃F,Has P w K mg base 9 "read" ["rows"] (spI K F)/\∀pl,xw pl->F [.lst (pl.texts.map D.str)] []=Zh (.cell 1,enc A (CZ A pl)):=by
 obtain⟨FT,DT,tko⟩:=HC (base:=base) T tk sv;obtain⟨F,D,R⟩:=L9 T DT;refine{F,D,λpl ok=>?_};have c1:(List.map (λp:Int×Rw=>cB [] p.2) (Zq pl.nb pl.body)).sum<=40:=by
  have:=rQ (kn:=[]) (c:=1) (λr=>by cases r<;>simp[cB]) () (Zq pl.nb pl.body);rw[dZ]at this;have:=ok.lb;lia
 have c0:=IG (rs:=Zq pl.nb pl.body);refine R pl.texts (CZ A pl) 10 pl.dx (Zq pl.nb pl.body) (Zq pl.nm pl.main) (Dp tko ok) rfl rfl (Ii ok) rfl (by rw[dZ];have:=ok.lm;lia) (λp hp y ts e=>?_) () ?_
 ·have:=(ok.mn.mem p.2 (tq hp)).2.2 y ts e;rw[Qw]at this;cases h:y==pl.dx with
  |true=>exact eq_of_beq h
  |false=>rw[h]at this;cases this
 generalize (List.map (λp:Int×Rw=>cB [] p.2) (Zq pl.nb pl.body)).sum=c at *;have:=rQ (kn:=[(pl.dx,c)]) (c:=41) (λr=>by
  cases r with
  |call x ts=>
   show 1+([(pl.dx,c)].lookup x).getD 0<=41;rw[Qw];cases x==pl.dx<;>simp<;>lia
  |_=>simp[cB]) () (Zq pl.nm pl.main)
 rw[dZ]at this;have h2:=ok.lm;have:(41:Int)*pl.main.length<=41*40:=()
 lia
theorem cU(a:Int)(h:0<b):0<=a%b/\a%b<b:={Int.emod_nonneg _ (),Int.emod_lt_of_pos _ h}
theorem BV(h0:0<=i)(h1:i<l.length):∃x∈l,atI l i=Zh x:=by
 obtain⟨n,rfl⟩:=Ro h0;have hn:n<l.length:=()
 refine{l[n],Ri hn,?_};unfold atI ixN;rw[if_pos (),if_pos h1];show l[(Int.ofNat n).toNat]?=_;exact Qe hn
theorem Et(h:0<j):dI bR (λi j=>.int (i%j)) M (.int i) (.int j)=Zh (.int (i%j)):=if_pos (decide_eq_true h)
theorem KY(h:0<j)(h2:j<2^64):dI bV (λi j=>.int (i/j)) M (.int i) (.int j)=Zh (.int (i/j)):=if_pos (by unfold bV;rw[decide_eq_true h,decide_eq_true h2];rfl)
theorem Ku(h:-(2^64)<i)(h2:i<2^64):dI bU (λi j=>.int (i*j)) M (.int i) (.int j)=Zh (.int (i*j)):=if_pos (by unfold bU;rw[decide_eq_true h,decide_eq_true h2];simp)
theorem J3{ns:List Int}{i:Int}(h0:0<=i)(h1:i<ns.length):∃c,atI (ns.map D.int) i=Zh (.int c):=by
 obtain⟨x,hx,e⟩:=BV (l:=ns.map D.int) h0 (by rw[P8];exact h1);obtain⟨c,_,rfl⟩:=Qr.mp hx;exact⟨c,e⟩
theorem bf:eqE neg M (.lst xs) (.lst [])=Zh (.bl (if neg then !xs.isEmpty else xs.isEmpty)):=rfl
end
local macro_rules|`(tactic|simp?[$a,*])=>`(tactic|simp![$a,*,bR,bV,bU,bX,add_int,bf,bg,eq_int,eq_str])
local macro_rules|`(tactic|dsimp?[$a,*])=>`(tactic|dsimp![$a,*,bR,bV,bU,bX,add_int,bf,bg,eq_int,eq_str])
section
variable{P:Program}{w:UC}{K:Uw}{mg:Str->Option Ut}{base:UT}{A:Adr}
theorem Cp:eqE neg M (.sql xs) (.lst [])=Zh (.bl (if neg then !xs.isEmpty else xs.isEmpty)):=rfl
theorem Aq:ixD M (.sql ds) (.int i)=atI ds i:=by unfold ixD ba;rfl
theorem Hb:eP M [.sql ds]=Zh (.int (ds.length:Nat)):=by unfold eP ba;rfl
theorem EK:bP (.sql ds)=bD ds:=by
 show bP (.sql ds)=_;unfold bP;rfl
theorem vF(T:Txt K mg A):∃F,Has P w K mg base 1 "_law_cell_at" ["_law_script","_law_k"] (spP K F)/\∀(ns:List Int)(k:Int),0<=k->k<=1000000->∃c:Int,F [.sql (ns.map D.int),.int k]=Zh (.int c):=by
 refine{_,mkP T.qy (k:=0) gq λ_ _ _ _ _ _ _ hr hu=>qsc (qif (bo xt ZM (qv 1) (qcB cb cO T.cE (aa (qv 0) aA))) (qs1 (bw (qix hu (qv 0) (qv 1)))) qs0) (qsc (cG 2 gq.nd a8) (qsc (qif (bo (kl hu) kH (qv 0) (cF aA)) (qs1 (cG 2 gq.nd (qix hu (qv 0) (qop cW Zp (qv 1) (qcB cb cO T.cE (aa (qv 0) aA)))))) qs0) (qs1 (bw (qop cW Zp (qop sG ZE (qop cx Zn (qop cx Zn (qop cW Zp (qv 2) a8) (qop sG ZE a8 (qv 1))) a8) a8) a8))))),λns k h0 h1=>?_};have l1:∀{M:MS},eP M [.sql (ns.map D.int)]=Zh (.int ns.length):=λ{M}=>by rw[Hb,P8]
 have he:(ns.map D.int).isEmpty=ns.isEmpty:=by cases ns<;>rfl
 by_cases hk:k<ns.length
 ·obtain⟨c,e⟩:=J3 h0 hk;refine{c,?_};show P6 _ _=_;generalize ns.map D.int=ds at *;simp![l1,hk,Aq,e]
 cases hn:ns.isEmpty with
 |true=>
  refine{((0%1000003+104729*k+13)*48271%2147483647),?_};show P6 _ _=_;rw[hn]at he;generalize ns.map D.int=ds at *;simp?[l1,hk,he,Cp,Aq]
 |false=>
  have hp:0<(ns.length:Int):=by cases ns<;>simp at hn⊢
  have hp':0<ns.length:=()
  obtain⟨m0,m1⟩:=cU k hp;obtain⟨c,e⟩:=J3 (ns:=ns) m0 m1;refine{((c%1000003+104729*k+13)*48271%2147483647),?_};show P6 _ _=_;rw[hn]at he;generalize ns.map D.int=ds at *;simp?[l1,hk,he,hp,hp',e,Cp,Aq]
theorem sI(Pd:D->Prop):∀ds:List D,(∀d∈ds,∃B' y,g d B=Zh B'/\q B' M=Zh true/\r B' M=Zh y/\Pd y)->∃ys,cD g q r M B ds=Zh ys/\ys.length=ds.length/\∀y∈ys,Pd y
 | [],_=>{[],rfl,rfl,λy hy=>by cases hy}
 |d::ds,h=>by
  obtain⟨B',y,h1,h2,h3,h4⟩:=h d Qb;obtain⟨ys,e,l,hy⟩:=sI (g:=g) (q:=q) (r:=r) (M:=M) (B:=B) Pd ds λx hx=>h x (Qa _ hx);refine{y::ys,?_,by rw[Qd,Qd,l],λz hz=>?_}
  ·show(g d B).bind _=_;rw[h1];show(q B' M).bind _=_;rw[h2];show(r B' M).bind _=_;rw[h3];show(cD _ _ _ _ _ _).bind _=_;rw[e];rfl
  rcases P7.mp hz with rfl|hz
  ·exact h4
  exact hy z hz
theorem B2:∀{ys:List D},(∀y∈ys,∃c:Int,y=.int c)->∃cs:List Int,ys=cs.map D.int
 | [],_=>{[],rfl}
 |y::ys,h=>by
  obtain⟨c,rfl⟩:=h y Qb;obtain⟨cs,rfl⟩:=B2 λz hz=>h z (Qa _ hz);exact{c::cs,rfl}
theorem Bl(h:d∈jl lo n):∃i:Nat,i<n/\d=.int (lo+(i:Nat)):=by
 unfold jl at h;obtain⟨i,hi,rfl⟩:=Qr.mp h;exact⟨i,Rk.mp hi,rfl⟩
theorem CA:(jl lo n).length=n:=by unfold jl;rw[P8,QP]
theorem zo(ns:List Int):bD (ns.map D.int)=true:=by
 induction ns with
 |nil=>exact af
 |cons n r ih=>rw[Qc,ae,ai,ih];rfl
theorem K9(T:Txt K mg A):∃F,Has P w K mg base 2 "_law_more" ["_law_script","_law_at","_law_many"] (spP K F)/\∀(ns:List Int)(a m:Int),0<=a->a<=1000->0<=m->m<=1000->∃cs:List Int,F [.sql (ns.map D.int),.int a,.int m]=Zh (.lst (cs.map D.int))/\cs.length=m.toNat:=by
 obtain⟨Fc,SY,C1⟩:=@vF P w _ _ base _ T;refine{_,mkP T.zD (k:=1) zV λ_ _ _ _ _ _ _ hr hu=>qs1 (bw (jc (N:=["_law_k","_law_script","_law_at"]) (own:=1) (fr:=[0,1]) (cv.of (by kernel_rfl!)) (qF T.eK (aa (qv 2) aA)) (λb=>qgn 0 (show U4 (["_law_k","_law_script","_law_at"]:List Ve) by decide+kernel)) (λb=>qf0) (λb=>bz SY hr (aa (qv 1) (aa (qop cx Zn (qv 2) (qv 0)) aA))) (fA ∅))),λns a m ha0 ha1 hm0 hm1=>?_};obtain⟨ys,e,l,hy⟩:=sI (g:=gN 0) (q:=eW) (r:=aN (aO Fc) (ag (dV 1) (ag (dOp en (dV 2) (dV 0)) aK))) (M:=[]) (B:=[Zi,Zh (.sql (ns.map D.int)),Zh (.int a)]) (λy=>∃c:Int,y=.int c) (jl 0 m.toNat) λd hd=>by
  obtain⟨i,hi,rfl⟩:=Bl hd;obtain⟨c,hc⟩:=C1 ns (a+(0+(i:Nat))) () ();have hp:=zo ns;refine{_,.int c,rfl,rfl,?_,c,rfl};generalize ns.map D.int=ds at *;simp?[hc,hp,gN,EK];simpa using hc
 obtain⟨cs,rfl⟩:=B2 hy;rw[CA,P8]at l;refine{cs,?_,l};have hs:(cs.map D.int).length<=sizeLine:=by rw[P8,l];exact Qi (show m.toNat<=1000 by lia) ∅
 have hp:=zo cs;have r1:-4611686018427387904<=m:=()
 have r2:m<4611686018427387904:=()
 show P6 _ _=_;generalize cs.map D.int=zs at *;generalize ns.map D.int=ds at *;simp![rg1,r1,r2,e,hs,hp]
theorem Ad(h1:g d B=Zh σ1)(h2:rb σ1 M=Zh (.nx B' M'))(h3:forL g rb ds B' M'=o):forL g rb (d::ds) B M=o:=by
 show(g d B).bind _=_;rw[h1];show(rb σ1 M).bind _=_;rw[h2];exact h3
theorem y3{d0:Int}{a b e:Option D}:∀(xs:List D)(n:Int),∃(n':Int)(b':Option D),forL (gN 3) (aS 2 (dOp (dI bV λi j=>.int (i/j)) (dV 2) (dOp (dI bX λi j=>.int (i^j.toNat)) (dC (.int 10)) (dC (.int 15))))) xs [a,b,Zh (.int n),e,Zi] []=Zh (.nx [a,b,Zh (.int n'),b',Zi] [])
 | [],n=>⟨n,e,rfl⟩
 |x::xs,n=>by
  obtain⟨n',b',ih⟩:=y3 (d0:=d0) (a:=a) (b:=b) (e:=Zh x) xs (n/(10^15));refine{n',b',?_};have h:aS 2 (dOp (dI bV λi j=>.int (i/j)) (dV 2) (dOp (dI bX λi j=>.int (i^j.toNat)) (dC (.int 10)) (dC (.int 15)))) [a,b,Zh (.int n),Zh x,Zi] []=Zh (.nx [a,b,Zh (.int (n/(10^15))),Zh x,Zi] []):=by simp?[stD]
  exact Ad rfl h ih
theorem EF(T:Txt K mg A):∃F,Has P w K mg base 1 "_law_mix" ["_law_cell","_law_k"] (spP K F)/\∀(c k:Int),0<=k->k<=1000->∃m:Int,F [.int c,.int k]=Zh (.int m):=by
 refine{_,mkP T.Cc (k:=0) gF λ_ _ _ _ _ _ _ hr hu=>qsc (qif (QW.pt (fZ (bo (oeq hu) Zo (qop cW Zp (qv 0) a8) a8) (d8 (bo Eb GZ (qv 0) (qop vv ZJ a8 a8))))) (qsc (cG 2 gF.nd (qop fO fR (qv 0) a8)) (qsc (tQ (qF T.eK (aa (qv 1) aA)) (qgn 3 gF.nd) (qs1 (cG 2 gF.nd (qop fO fR (qv 2) (qop vv ZJ a8 a8))))) (qs1 (qif (bo Eb GZ (qv 2) a8) (qs1 (bw (qop cW Zp (qv 2) (qop vv ZJ a8 a8)))) qs0)))) qs0) (qsc (cG 4 gF.nd (qop cW Zp (qop sG ZE (qop cx Zn (qop cW Zp (qv 0) a8) a8) (qop cx Zn (qop sG ZE (qv 1) (qv 1)) a8)) a8)) (qs1 (bw (qop cW Zp (qop sG ZE (qv 4) (qop cx Zn (qop cW Zp (qv 4) a8) a8)) a8)))),λc k h0 h1=>?_};have k1:-18446744073709551616<k:=()
 have k2:k<18446744073709551616:=()
 have r1:-4611686018427387904<=k:=()
 have r2:k<4611686018427387904:=()
 have m1:-18446744073709551616<k*k+7919:=by have:=Y7 h0 h0;lia
 have m2:k*k+7919<18446744073709551616:=by
  have:k*k<=1000*1000:=Y8 h1 h1 h0 ∅;lia
 have fin:∀(dg ah:Option D),∃m:Int,(aP (aS 4 (dOp (dI bR λi j=>.int (i%j)) (dOp (dI bU λi j=>.int (i*j)) (dOp en (dOp (dI bR λi j=>.int (i%j)) (dV 0) (dC (.int 1000003))) (dC (.int 17))) (dOp en (dOp (dI bU λi j=>.int (i*j)) (dV 1) (dV 1)) (dC (.int 7919)))) (dC (.int 2147483647)))) (aX (dOp (dI bR λi j=>.int (i%j)) (dOp (dI bU λi j=>.int (i*j)) (dV 4) (dOp en (dOp (dI bR λi j=>.int (i%j)) (dV 4) (dC (.int 65521))) (dC (.int 48271)))) (dC (.int 2147483647))))) [Zh (.int c),Zh (.int k),dg,ah,Zi] []=Zh (.rt (.int m) []):=λdg ah=>by
  generalize hx:(c%1000003+17)*(k*k+7919)%2147483647=x;obtain⟨x0,x1⟩:=cU ((c%1000003+17)*(k*k+7919)) (show(0:Int)<2147483647 by decide);rw[hx]at x0 x1;have y1:-18446744073709551616<x:=()
  have y2:x<18446744073709551616:=()
  refine{x*(x%65521+48271)%2147483647,?_};simp?[k1,k2,m1,m2,hx,y1,y2]
 by_cases hc:c%2=1/\1000000000000<c
 ·obtain⟨n',b',e⟩:=y3 (d0:=0) (a:=Zh (.int c)) (b:=Zh (.int k)) (e:=Zi) (jl 0 k.toNat) (c/2);by_cases hn:0<n'
  ·refine{n'%10^15,?_};show P6 _ _=_;simp?[hc.1,hc.2,rg1,r1,r2,A7,e,hn]
  obtain⟨m,em⟩:=fin (Zh (.int n')) b';refine{m,?_};show P6 _ aU=_;refine(congrArg (P6 · aU) (aR (B':=[Zh (.int c),Zh (.int k),Zh (.int n'),b',Zi]) (M':=[]) ?_ em)).trans (by simp[aU,aZ,ai]);simp?[hc.1,hc.2,rg1,r1,r2,A7,e,hn]
 obtain⟨m,em⟩:=fin Zi Zi;refine{m,?_};show P6 _ aU=_;refine(congrArg (P6 · aU) (aR (B':=[Zh (.int c),Zh (.int k),Zi,Zi,Zi]) (M':=[]) ?_ em)).trans (by simp[aU,aZ,ai]);by_cases h2:c%2=1
 ·have h3:¬ 1000000000000<c:=λz=>hc ⟨h2,z⟩;simp?[h2,h3]
 simp?[h2]
noncomputable abbrev LET:Str:="abcdefghijklmnopqrstuvwxyz"
noncomputable def qT(k:Int):Nat:=(97+k).toNat
theorem Mo(h0:0<=k)(h1:k<26):atI LET.cps.toList k=Zh (qT k):=by
 obtain⟨n,rfl⟩:∃n:Nat,k=(n:Int):={k.toNat,()};have h:∀m:Fin 26,atI LET.cps.toList ((m.val:Nat):Int)=Zh (qT ((m.val:Nat):Int)):=by decide+kernel
 exact h {n,()}
noncomputable def wds:List Str:=["set","if","by","at","idle","most","end","else","main","over","rest","last","loop","given","hand","own","put","say","send","call","deed"]
theorem Ml:wds.Nodup:=by decide+kernel
theorem Na:∀x∈wds,isNm x=true:=by decide+kernel
theorem OB:jh "set if by at idle most end else main over rest last" " "=(["set","if","by","at","idle","most","end","else","main","over","rest","last"]:List Str):=by decide+kernel
theorem Nl:jh "loop given hand own put say send call deed" " "=(["loop","given","hand","own","put","say","send","call","deed"]:List Str):=by decide+kernel
noncomputable def dec(v:Int)(cs:List Nat):Int:=cs.foldl (λv (c:Nat)=>(v+1)*26+((c:Int)-97)) v
theorem FZ(cs:List Nat):dec (n/26-1) (qT (n%26)::cs)=dec n cs:=by
 unfold dec;rw[YJ];congr 1;have m:=cU n (show(0:Int)<26 by decide);have e:((qT (n%26):Nat):Int)-97=n%26:=by
  unfold qT;lia
 rw[e];lia
theorem A9:((⟨#[a]⟩:Str)++x).cps.toList=a::x.cps.toList:=by
 show(#[a]++x.cps).toList=_;rw[Array.toList_append];rfl
theorem xY:((⟨#[a]⟩:Str)++x).length=x.length+1:=by
 show((⟨#[a]⟩:Str)++x).cps.toList.length=x.cps.toList.length+1;rw[A9];rfl
theorem Pg{n:Int}{j:Nat}(h0:0<=n)(h:n+1<26^(j+1)):n/26-1+1<26^j:=by
 have e:(26:Int)^(j+1)=26^j*26:=Int.pow_succ _ _;rw[e]at h;have:=Int.ediv_lt_of_lt_mul (by decide:(0:Int)<26) (show n<26^j*26 by lia);lia
def HP(x:Str):Prop:=∀c∈x.cps.toList,97<=c/\c<=122
abbrev wQ:RT:=aB aC (dOp (dI tt2 λi j=>.bl (decide (j<=i))) (dV 8) (dC (.int 0)))
abbrev wB:RSt:=aP (aS 9 (dOp en (dOp ixD (dV 4) (dOp (dI bR λi j=>.int (i%j)) (dV 8) (dC (.int 26)))) (dV 9))) (aS 8 (dOp (dI tt2 λi j=>.int (i-j)) (dOp (dI bV λi j=>.int (i/j)) (dV 8) (dC (.int 26))) (dC (.int 1))))
theorem wh{a b c d e f g:Option D}{M:MS}:∀(j:Nat)(n:Int)(x:Str),-1<=n->n+1<26^j->x.length+j<=100->HP x->∃x':Str,dz wQ wB (j+1) [a,b,c,d,Zh (.str LET),e,f,g,Zh (.int n),Zh (.str x)] M=Zh (.nx [a,b,c,d,Zh (.str LET),e,f,g,Zh (.int (-1)),Zh (.str x')] M)/\dec (-1) x'.cps.toList=dec n x.cps.toList/\HP x'/\x'.length<=x.length+j/\(0<=n->1<=x'.length)/\x.length<=x'.length
 |j,n,x,h0,h1,hl,hx=>by
  by_cases hn:n=-1
  ·subst hn;refine{x,?_,rfl,hx,(),λz=>(),Qf _};unfold dz;have:wQ [a,b,c,d,Zh (.str LET),e,f,g,Zh (.int (-1)),Zh (.str x)] M=Zh false:=by simp?[stD]
   rw[this];rfl
  have hn0:0<=n:=()
  cases j with
  |zero=>simp at h1;lia
  |succ j=>
   obtain⟨m0,m1⟩:=cU n (show(0:Int)<26 by decide);have hd:0<=n/26:=Int.ediv_nonneg hn0 ∅;have hlow:HP ((⟨#[qT (n%26)]⟩:Str)++x):=λq hq=>by
    rw[A9]at hq;rcases P7.mp hq with rfl|hq
    ·unfold qT;lia
    exact hx q hq
   obtain⟨x',e1,e2,e3,e4,e5,e6⟩:=wh (a:=a) (b:=b) (c:=c) (d:=d) (e:=e) (f:=f) (g:=g) (M:=M) j (n/26-1) ((⟨#[qT (n%26)]⟩:Str)++x) () (Pg hn0 h1) (by rw[xY];lia) hlow;refine{x',?_,?_,e3,by rw[xY]at e4;lia,λ_=>by rw[xY]at e6;lia,by rw[xY]at e6;lia}
   ·have q1:wQ [a,b,c,d,Zh (.str LET),e,f,g,Zh (.int n),Zh (.str x)] M=Zh true:=by simp?[hn0]
    have i1:ixD M (.str LET) (.int (n%26))=Zh (.str ⟨#[qT (n%26)]⟩):=by
     show(if LET.length<=sizeLine then(atI LET.cps.toList (n%26)).bind _ else Zi)=_;rw[if_pos ∅,Mo m0 m1];rfl
    have i2:en M (.str ⟨#[qT (n%26)]⟩) (.str x)=Zh (.str ((⟨#[qT (n%26)]⟩:Str)++x)):=if_pos (by show 1+x.length<=sizeLine;exact Qi (show 1+x.length<=200 by lia) ∅);have b1:wB [a,b,c,d,Zh (.str LET),e,f,g,Zh (.int n),Zh (.str x)] M=Zh (.nx [a,b,c,d,Zh (.str LET),e,f,g,Zh (.int (n/26-1)),Zh (.str ((⟨#[qT (n%26)]⟩:Str)++x))] M):=by
     simp?[i1,i2]
    rw[dz,q1];show(wB _ M).bind _=_;rw[b1];exact e1
   rw[e2,A9,FZ]
theorem DJ(h:dz q rb n B M=Zh o):mT q rb B M=Zh o:=CL h
def BP(n:Nat)(ns:List Str):Prop:=ns.length=n/\ns.Nodup/\∀x∈ns,isNm x=true
theorem G7(h:∀i j,i<n->j<n->f i=f j->i=j):((UJ n).map f).Nodup:=by
 unfold U4;rw[List.pairwise_map];refine List.Pairwise.imp_of_mem ?_ (List.nodup_range (n:=n));intro a b ha hb hab e;exact hab (h a b (Rk.mp ha) (Rk.mp hb) e)
def tU(o:Int)(i:Nat):Str:=wds.getD ((o+(0+(i:Int)))%21).toNat "set"
theorem xR(o:Int)(i:Nat):∃k,∃h:k<wds.length,((o+(0+(i:Int)))%21).toNat=k/\tU o i=wds[k]:=by
 have:=cU (o+(0+(i:Int))) (show(0:Int)<21 by decide);have g:((o+(0+(i:Int)))%21).toNat<wds.length:=by show _<21;lia
 refine{_,g,rfl,?_};unfold tU;rw[QZ,Qe g];rfl
theorem Kb(o:Int):BP 20 ((UJ 20).map (tU o)):=by
 refine{by simp,G7 λi j hi hj e=>?_,λx hx=>?_}
 ·obtain⟨a,ha,e1,e2⟩:=xR o i;obtain⟨b,hb,e3,e4⟩:=xR o j;rw[e2,e4]at e;have:=(Su Ml).mp e;lia
 obtain⟨i,_,rfl⟩:=Qr.mp hx;obtain⟨a,ha,_,e2⟩:=xR o i;rw[e2];exact Na _ (Ri ha)
theorem Lv(h:HP x)(h1:1<=x.length)(h8:x.length<=8):isNm x=true:=Dd h1 h8 h
theorem LI(hs:1<=s)(hl:ws.length=20)(h:∀(i:Nat) x,ws[i]?=Zh x->dec (-1) x.cps.toList=c+(i:Int)*s/\isNm x=true):BP 20 ws:=by
 refine{hl,?_,λx hx=>?_}
 ·have:ws=(UJ 20).map λi=>ws.getD i "set":=by
   apply Sd;intro i;rw[Qu];by_cases hi:i<20
   ·rw[RV hi];show _=Zh (ws.getD i "set");rw[QZ,Qe ()];rfl
   rw[Q3 (),Q3 (by simp;lia)];rfl
  rw[this];refine G7 λi j hi hj e=>?_;have hi':=Qe (l:=ws) (i:=i) ();have hj':=Qe (l:=ws) (i:=j) ();rw[QZ,QZ,hi',hj']at e;have h1:=(h i _ hi').1;have h2:=(h j _ hj').1;have e:ws[i]=ws[j]:=e;rw[e,h2]at h1;have h3:(j:Int)*s=(i:Int)*s:=()
  have:=Int.eq_of_mul_eq_mul_right () h3;lia
 obtain⟨i,hi,e⟩:=List.mem_iff_getElem.mp hx;exact(h i x (by rw[Qe hi,e])).2
theorem xv(h0:ro B M=Zh o)(hp:p M o=true)(h1:rs B M=Zh ds)(h2:f M o ds=Zh d):g7 p f ro rs B M=Zh d:=by
 unfold g7;rw[h0];show(if p M o=true then _ else Zi)=_;rw[if_pos hp,h1];exact h2
theorem cw(h1:ra B M=Zh a)(h2:rb B M=Zh b)(h3:f M a b=Zh d):dOp f ra rb B M=Zh d:=by
 unfold dOp;rw[h1];show(rb B M).bind _=_;rw[h2];exact h3
theorem jz(h1:ri B M=Zh ds)(h2:cD g q r M (aW own fr B) ds=Zh ys)(h3:ys.length<=sizeLine):aF ri own fr g q r B M=Zh (.lst ys):=by
 unfold aF;rw[h1];show(cD _ _ _ _ _ _).bind _=_;rw[h2];exact if_pos h3
theorem N5(h:rs B M=Zh [.int 20]):rg1 rs B M=Zh ((UJ 20).map λi:Nat=>D.int (0+(i:Nat))):=by
 unfold rg1;rw[h];show(if -(2^62)<=(20:Int)/\(20:Int)<2^62 then Zh (jl 0 20)else Zi)=_;rw[if_pos ∅];rfl
theorem t10:dI bX (λi j=>.int (i^j.toNat)) M (.int 10) (.int 10)=Zh (.int 10000000000):=rfl
theorem p26:(26:Int)^8=208827064576:=∅
theorem IH(T:Txt K mg A):∃F,Has P w K mg base 1 "_law_names" ["_law_cell","_law_other","_law_many"] (spP K F)/\∀(c o:Int),∃ns:List Str,F [.int c,.int o,.int 20]=Zh (.lst (ns.map D.str))/\BP 20 ns:=by
 refine{_,mkP T.vU (k:=0) cC λ_ _ _ _ _ _ _ hr hu=>qsc (cG 3 cC.nd (AS bE (aa bE aA))) (qsc (cG 3 cC.nd (qop cx Zn (qv 3) (AS bE (aa bE aA)))) (qsc (qif (bo (oeq hu) Zo (qop cW Zp (qv 0) a8) a8) (qs1 (bw (jc (N:=["_law_k","_law_words","_law_other"]) (own:=1) (fr:=[3,1]) (cv.of (by kernel_rfl!)) (qF T.eK (aa (qv 2) aA)) (λb=>qgn 0 (show U4 (["_law_k","_law_words","_law_other"]:List Ve) by decide+kernel)) (λb=>qf0) (λb=>qix hu (qv 1) (qop cW Zp (qop cx Zn (qv 2) (qv 0)) (qcB cb cO T.cE (aa (qv 1) aA)))) (fA ∅)))) qs0) (qsc (cG 4 cC.nd bE) (qsc (cG 5 cC.nd (qix hu (cF (aa a8 (aa a8 (aa a8 (aa a8 (aa (qop cx Zn a8 (qop cW Zp (qv 1) (qop vv ZJ a8 a8))) aA)))))) (qop cW Zp (qop fO fR (qv 0) a8) a8))) (qsc (BE 6 cC.nd (rY aA)) (qsc (tQ (qF T.eK (aa (qv 2) aA)) (qgn 7 cC.nd) (qsc (cG 8 cC.nd (qop cx Zn (qop cW Zp (qop fO fR (qv 0) a8) (qop vv ZJ a8 a8)) (qop sG ZE (qv 7) (qv 5)))) (qsc (cG 9 cC.nd bE) (qsc (LL (bo LG Mw (qv 8) a8) (qsc (cG 9 cC.nd (qop cx Zn (qix hu (qv 4) (qop cW Zp (qv 8) a8)) (qv 9))) (qs1 (cG 8 cC.nd (qop El ZN (qop fO fR (qv 8) a8) a8))))) (qs1 (qg (qv 6) (qv 9))))))) (qs1 (bw (qv 6))))))))),λc o=>?_};have p1:zi [] (.str "set if by at idle most end else main over rest last") [.str " "]=Zh (.lst ((["set","if","by","at","idle","most","end","else","main","over","rest","last"]:List Str).map D.str)):=by
  rw[<-OB];exact if_pos {∅,∅,by rw[OB];decide}
 have p2:zi [] (.str "loop given hand own put say send call deed") [.str " "]=Zh (.lst ((["loop","given","hand","own","put","say","send","call","deed"]:List Str).map D.str)):=by
  rw[<-Nl];exact if_pos {∅,∅,by rw[Nl];decide}
 have s1:aS 3 (g7 o7 zi (dC (.str "set if by at idle most end else main over rest last")) (ag (dC (.str " ")) aK)) [Zh (.int c),Zh (.int o),Zh (.int 20),Zi,Zi,Zi,Zi,Zi,Zi,Zi] []=Zh (.nx [Zh (.int c),Zh (.int o),Zh (.int 20),Zh (.lst ((["set","if","by","at","idle","most","end","else","main","over","rest","last"]:List Str).map D.str)),Zi,Zi,Zi,Zi,Zi,Zi] []):=by
  exact cq (xv rfl rfl rfl p1)
 have s2:aS 3 (dOp en (dV 3) (g7 o7 zi (dC (.str "loop given hand own put say send call deed")) (ag (dC (.str " ")) aK))) [Zh (.int c),Zh (.int o),Zh (.int 20),Zh (.lst ((["set","if","by","at","idle","most","end","else","main","over","rest","last"]:List Str).map D.str)),Zi,Zi,Zi,Zi,Zi,Zi] []=Zh (.nx [Zh (.int c),Zh (.int o),Zh (.int 20),Zh (.lst (wds.map D.str)),Zi,Zi,Zi,Zi,Zi,Zi] []):=by
  exact cq (cw rfl (xv rfl rfl rfl p2) rfl)
 have hw:∀{M:MS},eP M [.lst (wds.map D.str)]=Zh (.int 21):=λ{M}=>rfl;by_cases hc:c%4=1
 ·refine{(UJ 20).map (tU o),?_,Kb o};have hcm:cD (gN 0) eW (dOp ixD (dV 1) (dOp (dI bR λi j=>.int (i%j)) (dOp en (dV 2) (dV 0)) (aN eP (ag (dV 1) aK)))) [] [Zi,Zh (.lst (wds.map D.str)),Zh (.int o)] (jl 0 20)=Zh ((UJ 20).map λi=>D.str (tU o i)):=by
   unfold jl;refine eB _ _ _ λi _=>{_,rfl,rfl,?_};obtain⟨k,hk,e1,e2⟩:=xR o i;have m:=cU (o+(0+(i:Int))) (show(0:Int)<21 by decide);have ax:atI (wds.map D.str) ((o+(0+(i:Int)))%21)=Zh (.str (tU o i)):=by
    unfold atI ixN;rw[if_pos m.1,if_pos (by show _<(21:Int);exact m.2)];show(wds.map D.str)[((o+(0+(i:Int)))%21).toNat]?=_;rw[e1,Qu,Qe hk,e2];rfl
   refine cw rfl (cw (cw rfl rfl add_int) (show aN eP (ag (dV 1) aK) _ _=Zh (.int 21)from rfl) (Et ∅)) ?_;rw[bg];exact ax
  have hl:((UJ 20).map λi=>D.str (tU o i)).length<=sizeLine:=by rw[P8,QP];decide
  have hmm:(UJ 20).map (λi=>D.str (tU o i))=((UJ 20).map (tU o)).map D.str:=by rw[QH];rfl
  show P6 _ aU=_;refine(congrArg (P6 · aU) (aR s1 (aR s2 ?_ (o:=.rt (.lst (((UJ 20).map (tU o)).map D.str)) [])))).trans (by simp only[Rj,aU];exact aZ (by rw[aj];exact c5 _));have q1:aB aC (dOp (eqD false) (dOp (dI bR λi j=>.int (i%j)) (dV 0) (dC (.int 4))) (dC (.int 1))) [Zh (.int c),Zh (.int o),Zh (.int 20),Zh (.lst (wds.map D.str)),Zi,Zi,Zi,Zi,Zi,Zi] []=Zh true:=by
   generalize wds.map D.str=zs;simp?[hc]
  have c1:aF (rg1 (ag (dV 2) aK)) 1 [3,1] (gN 0) eW (dOp ixD (dV 1) (dOp (dI bR λi j=>.int (i%j)) (dOp en (dV 2) (dV 0)) (aN eP (ag (dV 1) aK)))) [Zh (.int c),Zh (.int o),Zh (.int 20),Zh (.lst (wds.map D.str)),Zi,Zi,Zi,Zi,Zi,Zi] []=Zh (.lst (((UJ 20).map (tU o)).map D.str)):=by
   rw[<-hmm];exact jz (N5 rfl) hcm hl
  unfold aP sIf;rw[q1];show P6 (P6 (aF _ _ _ _ _ _ _ _) _) _=_;rw[c1];rfl
 obtain⟨m0,m1⟩:=cU (c/4) (show(0:Int)<5 by decide);obtain⟨o0,o1⟩:=cU o (show(0:Int)<1000000000 by decide);obtain⟨c0,c1⟩:=cU (c/20) (show(0:Int)<10000000000 by decide);obtain⟨st,ax,st0,st1⟩:∃st:Int,atI [D.int 1,.int 26,.int 27,.int 676,.int (1+o%1000000000)] (c/4%5)=Zh (.int st)/\1<=st/\st<=1000000000:=by
  generalize c/4%5=j at m0 m1;have hj:j=0\/j=1\/j=2\/j=3\/j=4:=()
  rcases hj with rfl|rfl|rfl|rfl|rfl
  ·exact{1,rfl,(),()}
  ·exact{26,rfl,(),()}
  ·exact{27,rfl,(),()}
  ·exact{676,rfl,(),()}
  exact{1+o%1000000000,rfl,(),()}
 obtain⟨B',M',e1,g,h,i',rfl,ws,rfl,wl,wo⟩:=je (g:=gN 7) (rb:=aP (aS 8 (dOp en (dOp (dI bR λi j=>.int (i%j)) (dOp (dI bV λi j=>.int (i/j)) (dV 0) (dC (.int 20))) (dOp (dI bX λi j=>.int (i^j.toNat)) (dC (.int 10)) (dC (.int 10)))) (dOp (dI bU λi j=>.int (i*j)) (dV 7) (dV 5)))) (aP (aS 9 (dC (.str ""))) (aP (mT wQ wB) (CQ (dV 6) (dV 9))))) (λi:Nat=>D.int (0+(i:Nat)))
  (λdone B M=>∃g h i',B=[Zh (.int c),Zh (.int o),Zh (.int 20),Zh (.lst (wds.map D.str)),Zh (.str LET),Zh (.int st),Zh (.cell 0),g,h,i']/\∃ws:List Str,M=[.lst (ws.map D.str)]/\ws.length=done.length/\∀(i:Nat) x,ws[i]?=Zh x->dec (-1) x.cps.toList=c/20%10000000000+(i:Int)*st/\isNm x=true) (UJ 20)
  (λdone x rest B M hx hI=>by
   obtain⟨g,h,i',rfl,ws,rfl,wl,wo⟩:=hI;have hxd:x=done.length:=by
    have:(done++x::rest)[done.length]?=(UJ 20)[done.length]?:=by rw[hx]
    rw[Ql (Qf _),QU,QV]at this;have hlt:done.length<20:=by
     have:=congrArg We hx;rw[Qj,Qd,QP]at this;lia
    rw[RV hlt]at this;exact UE this
   have hlt:x<20:=by
    have:=congrArg We hx;rw[Qj,Qd,QP]at this;lia
   have hmul:(x:Int)*st<=19*1000000000:=Y8 () st1 () ∅;have hmul0:0<=(x:Int)*st:=Y7 () ();generalize hn:c/20%10000000000+(x:Int)*st=n;have p8:=p26;obtain⟨y,f1,f2,f3,f4,f5,f6⟩:=wh (a:=Zh (.int c)) (b:=Zh (.int o)) (c:=Zh (.int 20)) (d:=Zh (.lst (wds.map D.str))) (e:=Zh (.int st)) (f:=Zh (.cell 0)) (g:=Zh (.int (0+(x:Nat)))) (M:=[.lst (ws.map D.str)]) 8 n "" () (by rw[p8];lia) ∅ (λq hq=>by cases hq);have f1:=DJ f1;have hy:isNm y=true:=Lv f3 (f5 ()) (Qi f4 ∅);refine{_,[Zh (.int c),Zh (.int o),Zh (.int 20),Zh (.lst (wds.map D.str)),Zh (.str LET),Zh (.int st),Zh (.cell 0),Zh (.int (0+(x:Nat))),Zh (.int (-1)),Zh (.str y)],[.lst ((ws++[y]).map D.str)],rfl,?_,_,_,_,rfl,ws++[y],rfl,by rw[Qj,Qj,wl];rfl,λi z hz=>?_}
   ·refine aR (B':=[Zh (.int c),Zh (.int o),Zh (.int 20),Zh (.lst (wds.map D.str)),Zh (.str LET),Zh (.int st),Zh (.cell 0),Zh (.int (0+(x:Nat))),Zh (.int n),i']) (M':=[.lst (ws.map D.str)]) ((cq (d:=.int n) ?_).trans rfl) (aR (B':=[Zh (.int c),Zh (.int o),Zh (.int 20),Zh (.lst (wds.map D.str)),Zh (.str LET),Zh (.int st),Zh (.cell 0),Zh (.int (0+(x:Nat))),Zh (.int n),Zh (.str "")]) (M':=[.lst (ws.map D.str)]) ((cq (d:=.str "") rfl).trans rfl) (aR f1 ?_))
    ·have k1:-18446744073709551616<(x:Int):=()
     have k2:(x:Int)<18446744073709551616:=()
     refine cw (a:=.int (c/20%10000000000)) (b:=.int ((x:Int)*st)) (cw (a:=.int (c/20)) (b:=.int 10000000000) (cw rfl rfl (KY ∅ ∅)) (cw rfl rfl t10) (Et ∅)) (cw (a:=.int (x:Int)) (b:=.int st) ?_ rfl (Ku () ())) (by rw[add_int,hn]);show Zh (D.int (0+(x:Int)))=_;rw[SK]
    refine(gk (n:=0) (ds:=ws.map D.str) (d:=.str y) rfl rfl rfl (by rw[P8];lia)).trans ?_;rw[Qz];rfl
   by_cases hi:i<ws.length
   ·rw[Qp hi]at hz;exact wo i z hz
   have:i=ws.length:=by
    have:=(Qh.mp hz).1;rw[Qj,Rl]at this;lia
   subst this;rw[Ql (Qf _),QU]at hz;cases hz;refine{?_,hy};rw[f2,wl,<-hxd,hn];rfl) (UJ 20) [] [Zh (.int c),Zh (.int o),Zh (.int 20),Zh (.lst (wds.map D.str)),Zh (.str LET),Zh (.int st),Zh (.cell 0),Zi,Zi,Zi] [.lst []] rfl {Zi,Zi,Zi,rfl,[],rfl,rfl,λi x hx=>by cases hx}
 rw[QP]at wl;refine{ws,?_,LI st0 wl wo};show P6 _ aU=_;refine(congrArg (P6 · aU) (aR s1 (aR s2 (aR (B':=[Zh (.int c),Zh (.int o),Zh (.int 20),Zh (.lst (wds.map D.str)),Zi,Zi,Zi,Zi,Zi,Zi]) (M':=[]) (b6 ?_ rfl) (aR (cq (d:=.str LET) rfl) (aR (cq (d:=.int st) ?_) (aR (B':=[Zh (.int c),Zh (.int o),Zh (.int 20),Zh (.lst (wds.map D.str)),Zh (.str LET),Zh (.int st),Zh (.cell 0),Zi,Zi,Zi]) (M':=[.lst []]) rfl (aR ((k9 (ds:=(UJ 20).map λi:Nat=>D.int (0+(i:Nat))) (N5 rfl)).trans e1) (o:=.rt (.cell 0) [.lst (ws.map D.str)]) rfl)))))))).trans ?_
 ·generalize wds.map D.str=zs;simp?[hc]
 ·have hl5:(5:Nat)<=sizeLine:=∅
  generalize wds.map D.str=zs;simp?[ax,hl5]
 show G5 [.lst (ws.map D.str)] (.cell 0)=_;exact if_pos (c5 ws)
def ldR:Rw->D
 | .hand x r=>.tup [.str "hand",.str x,.str (rkW r)]
 | .lett x r=>.tup [.str "let",.str x,.str (rkW r)]
 | .given x r z=>if z=0 then .tup [.str "given",.str x,.str (rkW r)]else .tup [.str "given",.str x,.str (rkW r),.int z]
 | .own x z=>if z=0 then .tup [.str "own",.str x]else .tup [.str "own",.str x,.int z]
 | .set x v=>.tup [.str "set",.str x,v.d]
 | .put x p v=>.tup [.str "put",.str x,p.d,v.d]
 | .send x v=>.tup [.str "send",.str x,v.d]
 | .say x v m=>.tup [.str "say",.str x,v.d,.str "by",.str m]
 | .call x ts=>.tup [.str "call",.str x,.lst (ts.map Th.d)]
noncomputable def hdN:Rw->Str
 | .hand x _=>x
 | .lett x _=>x
 | .given x _ _=>x
 | .own x _=>x
 |_=>""
noncomputable def hdB:Rw->Prop
 | .hand _ r=>uT r
 | .lett _ r=>uT r
 | .given _ r z=>uT r/\0<=z/\z<=20
 | .own _ z=>0<=z/\z<=20
 |_=>False
theorem rk3(h0:0<=j)(h1:j<3):atI [D.str "open",.str "house",.str "closed"] j=Zh (.str (rkW j))/\uT j:=by
 have:j=0\/j=1\/j=2:=()
 rcases this with rfl|rfl|rfl
 ·exact⟨rfl,.inl rfl⟩
 ·exact{rfl,.inr (.inl rfl)}
 exact{rfl,.inr (.inr rfl)}
theorem MW(T:Txt K mg A):∃F,Has P w K mg base 1 "_law_head" ["_law_number","_law_name"] (spP K F)/\∀(n:Int)(x:Str),∃r:Rw,F [.int n,.str x]=Zh (ldR r)/\hdB r/\hdN r=x:=by
 refine{_,mkP T.zd (k:=0) hW λ_ _ _ _ _ _ _ hr hu=>qsc (cG 2 hW.nd (qop cW Zp (qv 0) a8)) (qsc (cG 3 hW.nd (qix hu (cF (aa bE (aa bE (aa bE aA)))) (qop cW Zp (qop fO fR (qv 0) a8) a8))) (qsc (cG 4 hW.nd (qop cW Zp (qop fO fR (qv 0) a8) a8)) (qsc (qif (bo (oeq hu) Zo (qv 2) a8) (qs1 (bw (dH (aa bE (aa (qv 1) (aa (qv 3) aA)))))) qs0) (qsc (qif (bo (oeq hu) Zo (qv 2) a8) (qs1 (bw (dH (aa bE (aa (qv 1) (aa (qv 3) aA)))))) qs0) (qsc (qif (QW.pt (fZ (bo xt ZM (qv 2) a8) (d8 (bo Eb GZ (qv 4) a8)))) (qs1 (bw (qix hu (cF (aa (dH (aa bE (aa (qv 1) (aa (qv 3) (aa (qv 4) aA))))) (aa (dH (aa bE (aa (qv 1) (aa (qv 4) aA)))) aA))) (qop cW Zp (qv 2) a8)))) qs0) (qs1 (bw (qix hu (cF (aa (dH (aa bE (aa (qv 1) (aa (qv 3) aA)))) (aa (dH (aa bE (aa (qv 1) aA))) aA))) (qop cW Zp (qv 2) a8))))))))),λn x=>?_};obtain⟨k0,k1⟩:=cU n (show(0:Int)<5 by decide);obtain⟨w0,w1⟩:=cU (n/5) (show(0:Int)<3 by decide);obtain⟨z0,z1⟩:=cU (n/15) (show(0:Int)<21 by decide);obtain⟨ax,rk⟩:=rk3 w0 w1;generalize hw:n/5%3=rr at *;generalize hz:n/15%21=z at *;have hk:n%5=0\/n%5=1\/n%5=2\/n%5=3\/n%5=4:=()
 rcases hk with hk|hk|hk|hk|hk
 ·refine{.hand x rr,?_,rk,rfl};show P6 _ _=_;simp?[hk,hw,hz,ax,ldR]
 ·refine{.lett x rr,?_,rk,rfl};show P6 _ _=_;simp?[hk,hw,hz,ax,ldR]
 ·by_cases h0:0<z
  ·refine{.given x rr z,?_,{rk,(),()},rfl};have hne:z≠0:=()
   show P6 _ _=_;simp?[hk,hw,hz,ax,h0,hne,ldR,at0,at1]
  have:z=0:=()
  subst this;refine{.given x rr 0,?_,{rk,(),()},rfl};show P6 _ _=_;simp?[hk,hw,hz,ax,ldR,at0,at1]
 ·by_cases h0:0<z
  ·refine{.own x z,?_,{(),()},rfl};have hne:z≠0:=()
   show P6 _ _=_;simp?[hk,hw,hz,ax,h0,hne,ldR,at0,at1]
  have:z=0:=()
  subst this;refine{.own x 0,?_,{(),()},rfl};show P6 _ _=_;simp?[hk,hw,hz,ax,ldR,at0,at1]
 refine{.given x rr 0,?_,{rk,(),()},rfl};show P6 _ _=_;simp?[hk,hw,hz,ax,ldR,at0,at1]
structure Sc where
 th:List Str
 tg:List Str
 ls:List Str
 pu:List Str
 hn:List Str
 ms:List Str
noncomputable def Sc.put(s:Sc):Rw->Sc
 | .hand x _=>{ s with hn:=s.hn++[x] }
 | .lett x _=>{ s with ms:=s.ms++[x] }
 | .given x _ z=>if z=0 then{ s with th:=s.th++[x] }else{ s with ls:=s.ls++[x] }
 | .own x z=>if z=0 then{ s with th:=s.th++[x],tg:=s.tg++[x] }else{ s with ls:=s.ls++[x],pu:=s.pu++[x] }
 |_=>s
noncomputable def AY:List Key:=[.inr "things",.inr "targets",.inr "lists",.inr "puts",.inr "hands",.inr "marks"]
def scC(n:Nat)(s:Sc):MS:=[.dic AY [.cell (n+1),.cell (n+2),.cell (n+3),.cell (n+4),.cell (n+5),.cell (n+6)],.lst (s.th.map D.str),.lst (s.tg.map D.str),.lst (s.ls.map D.str),.lst (s.pu.map D.str),.lst (s.hn.map D.str),.lst (s.ms.map D.str)]
theorem pU:bK false M (.str x) (.tup [.str a,.str b])=Zh (.bl (decide (x∈[a,b]))):=by
 show inD false M (.str x) (.tup [.str a,.str b])=_;exact nT (neg:=false) (ps:=[a,b]) rfl
theorem yk:isD (Zr A) M [.int x,.ty "int"]=Zh (.bl true):=iq rfl (js ∅ ∅ ∅)
theorem vy:isD (Zr A) M [.str x,.ty "int"]=Zh (.bl false):=iq rfl (js ∅ ∅ ∅)
theorem lm3:atI [a,b,c] (-1)=Zh c:=rfl
theorem lm2:atI [a,b] (-1)=Zh b:=rfl
theorem lm4:atI [a,b,c,d] (-1)=Zh d:=rfl
def scL:RE:=aH (dOp (bK false) (dOp ixD (dV 3) (dC (.int 0))) (aN aE (ag (dC (.str "given")) (ag (dC (.str "own")) aK)))) (aN (isD (Zr A)) (ag (dOp ixD (dV 3) (dUn km (dC (.int 1)))) (ag (dC (.ty "int")) aK)))
def scK(k:Str):RT:=aB aC (dOp (eqD false) (dOp ixD (dV 3) (dC (.int 0))) (dC (.str k)))
def scA(ri:RE):RSt:=CQ (dOp ixD (dV 2) ri) (dOp ixD (dV 3) (dC (.int 1)))
def scB(A:Adr):RSt:=aP (aS 4 (scL (A:=A))) (aP (sIf (scK "hand") (scA (dC (.str "hands"))) (sIf (scK "let") (scA (dC (.str "marks"))) (sIf (aB aT (dV 4)) (scA (dC (.str "lists"))) (scA (dC (.str "things")))))) (sIf (scK "own") (scA (dOp ixD (aN aD (ag (dC (.str "targets")) (ag (dC (.str "puts")) aK))) (aN D0 (ag (dV 4) aK)))) aQ))
theorem kB:scK k [a,b,c,Zh (.tup (.str k':: .str x::r)),e] M=Zh (decide (k'=k)):=by
 unfold scK;simp?[bY,at0]
theorem yn(h1:ri [a,b,Zh (.cell n),Zh (.tup (.str k':: .str x::r)),e] M=Zh (.str k))(h2:ixD M (.cell n) (.str k)=Zh (.cell m))(h3:M[m]?=Zh (.lst ds))(h4:ds.length<1000):scA ri [a,b,Zh (.cell n),Zh (.tup (.str k':: .str x::r)),e] M=Zh (.nx [a,b,Zh (.cell n),Zh (.tup (.str k':: .str x::r)),e] (M.set m (.lst (ds++[.str x])))):=
 gk (cw rfl h1 h2) (cw rfl rfl (by rw[bY,at1])) h3 h4
def B7(s:Sc)(n:Nat):Prop:=s.th.length<=n/\s.tg.length<=n/\s.ls.length<=n/\s.pu.length<=n/\s.hn.length<=n/\s.ms.length<=n
theorem IA(hr:hdB r)(hl:B7 s 900):∃e',scB A [a,b,Zh (.cell 0),Zh (ldR r),e] (scC 0 s)=Zh (.nx [a,b,Zh (.cell 0),Zh (ldR r),e'] (scC 0 (s.put r))):=by
 obtain⟨l1,l2,l3,l4,l5,l6⟩:=hl;have ml:∀{l:List Str},l.length<=900->(l.map D.str).length<1000:=λh=>by rw[P8];lia
 have kk:∀{x y:Str}{b:Bool},decide (x=y)=b->Zh (decide (x=y))=Zh b:=λh=>by rw[h]
 cases r with
 |hand x r=>
  refine{Zh (.bl false),aR (cq (d:=.bl false) ?_) (aR (eF kB (yn (k:="hands") (m:=5) rfl rfl rfl (ml l5))) (b6 (kB.trans (kk ∅)) ?_))}
  ·unfold scL ldR;dsimp?[bY,at0,pU]
  show Zh _=_;simp[Sc.put,scC,aQ,ldR]
 |lett x r=>
  refine{Zh (.bl false),aR (cq (d:=.bl false) ?_) (aR (b6 (kB.trans (kk ∅)) (eF kB (yn (k:="marks") (m:=6) rfl rfl rfl (ml l6)))) (b6 (kB.trans (kk ∅)) ?_))}
  ·unfold scL ldR;dsimp?[bY,at0,pU]
  show Zh _=_;simp[Sc.put,scC,aQ,ldR]
 |given x r z=>
  by_cases hz:z=0
  ·have e0:ldR (.given x r z)=.tup [.str "given",.str x,.str (rkW r)]:=if_pos hz;rw[e0];refine{Zh (.bl false),aR (cq (d:=.bl false) ?_) (aR (b6 (kB.trans (kk ∅)) (b6 (kB.trans (kk ∅)) (b6 rfl (yn (k:="things") (m:=1) rfl rfl rfl (ml l1))))) (b6 (kB.trans (kk ∅)) ?_))}
   ·unfold scL;dsimp?[bY,at0,pU,lm3,vy,km]
   show Zh _=_;simp[Sc.put,scC,aQ,hz]
  have e0:ldR (.given x r z)=.tup [.str "given",.str x,.str (rkW r),.int z]:=if_neg hz;rw[e0];refine{Zh (.bl true),aR (cq (d:=.bl true) ?_) (aR (b6 (kB.trans (kk ∅)) (b6 (kB.trans (kk ∅)) (eF rfl (yn (k:="lists") (m:=3) rfl rfl rfl (ml l3))))) (b6 (kB.trans (kk ∅)) ?_))}
  ·unfold scL;dsimp?[bY,at0,pU,lm4,yk,km]
  show Zh _=_;simp[Sc.put,scC,aQ,hz]
 |own x z=>
  by_cases hz:z=0
  ·have e0:ldR (.own x z)=.tup [.str "own",.str x]:=if_pos hz;rw[e0];refine{Zh (.bl false),aR (cq (d:=.bl false) ?_) (aR (b6 (kB.trans (kk ∅)) (b6 (kB.trans (kk ∅)) (b6 rfl (yn (k:="things") (m:=1) rfl rfl rfl (ml l1))))) (eF kB ((yn (k:="targets") (m:=2) (ds:=s.tg.map D.str) ?_ rfl rfl (ml l2)).trans ?_)))}
   ·unfold scL;dsimp?[bY,at0,pU,lm2,vy,km]
   ·simp?[D0,at0]
   show Zh _=_;simp[Sc.put,scC,aQ,hz]
  have e0:ldR (.own x z)=.tup [.str "own",.str x,.int z]:=if_neg hz;rw[e0];refine{Zh (.bl true),aR (cq (d:=.bl true) ?_) (aR (b6 (kB.trans (kk ∅)) (b6 (kB.trans (kk ∅)) (eF rfl (yn (k:="lists") (m:=3) rfl rfl rfl (ml l3))))) (eF kB ((yn (k:="puts") (m:=4) (ds:=s.pu.map D.str) ?_ rfl rfl (ml l4)).trans ?_)))}
  ·unfold scL;dsimp?[bY,at0,pU,lm3,yk,km]
  ·simp?[D0,at1]
  show Zh _=_;simp[Sc.put,scC,aQ,hz]
 |set=>exact hr.elim
 |put=>exact hr.elim
 |send=>exact hr.elim
 |say=>exact hr.elim
 |call=>exact hr.elim
theorem Kt(h:B7 s n):B7 (s.put r) (n+1):=by
 obtain⟨l1,l2,l3,l4,l5,l6⟩:=h;have ap:∀{l:List Str}{x:Str},l.length<=n->(l++[x]).length<=n+1:=λh=>by rw[Qj,Rl];lia
 have up:∀{l:List Str},l.length<=n->l.length<=n+1:=λh=>()
 cases r with
 |hand x r=>exact⟨up l1,up l2,up l3,up l4,ap l5,up l6⟩
 |lett x r=>exact⟨up l1,up l2,up l3,up l4,up l5,ap l6⟩
 |given x r z=>
  unfold Sc.put;dsimp only;split
  ·exact⟨ap l1,up l2,up l3,up l4,up l5,up l6⟩
  exact⟨up l1,up l2,ap l3,up l4,up l5,up l6⟩
 |own x z=>
  unfold Sc.put;dsimp only;split
  ·exact⟨ap l1,ap l2,up l3,up l4,up l5,up l6⟩
  exact⟨up l1,up l2,ap l3,ap l4,up l5,up l6⟩
 |set=>exact⟨up l1,up l2,up l3,up l4,up l5,up l6⟩
 |put=>exact⟨up l1,up l2,up l3,up l4,up l5,up l6⟩
 |send=>exact⟨up l1,up l2,up l3,up l4,up l5,up l6⟩
 |say=>exact⟨up l1,up l2,up l3,up l4,up l5,up l6⟩
 |call=>exact⟨up l1,up l2,up l3,up l4,up l5,up l6⟩
theorem Fu:∀(hs:List Rw)(s:Sc)(n:Nat)(d e:Option D),(∀r∈hs,hdB r)->B7 s n->n+hs.length<=800->∃d' e',forL (gN 3) (scB A) (hs.map ldR) [a,b,Zh (.cell 0),d,e] (scC 0 s)=Zh (.nx [a,b,Zh (.cell 0),d',e'] (scC 0 (hs.foldl Sc.put s)))
 | [],s,n,d,e,_,_,_=>⟨d,e,rfl⟩
 |r::hs,s,n,d,e,h,hl,hn=>by
  rw[Qd]at hn;obtain⟨l1,l2,l3,l4,l5,l6⟩:=hl;obtain⟨e',h1⟩:=IA (A:=A) (a:=a) (b:=b) (e:=e) (h r Qb) (s:=s) {(),(),(),(),(),()};obtain⟨d2,e2,ih⟩:=Fu hs (s.put r) (n+1) (Zh (ldR r)) e' (λq hq=>h q (Qa _ hq)) (Kt ⟨l1,l2,l3,l4,l5,l6⟩) ();exact⟨d2,e2,Ad rfl h1 ih⟩
theorem GV(T:Txt K mg A):∃F,Has P w K mg base 1 "_law_scope" ["_law_heads","_law_parts_here"] (spI K F)/\∀(hs:List Rw)(ps:List Str),(∀r∈hs,hdB r)->hs.length<=20->ps.length<=10->F [.lst (hs.map ldR),.lst (ps.map D.str)] []=Zh (.cell 0,scC 0 (hs.foldl Sc.put {ps,ps,[],[],[],[]})):=by
 refine{_,mkI T.u6 (k:=0) gf λ_ _ _ _ _ _ _ hr hu=>qsc (oa 2 gf.nd (Og (lK (qxn (mY T.dN (aa (qv 1) aA))) (lK (qxn (mY T.dN (aa (qv 1) aA))) (lK (qxn (rY aA)) (lK (qxn (rY aA)) (lK (qxn (rY aA)) (lK (qxn (rY aA)) Lo)))))))) (qsc (tQ (qit false (qv 0)) (qgn 3 gf.nd) (qsc (cG 4 gf.nd (dX (gU (j8 hu) kz (qix hu (qv 3) a8) (dH (aa bE (aa bE aA))) (by with_unfolding_all rfl)) (gW (qcB bB (ck (it T)) T.a9 (aa (qix hu (qv 3) (we a8)) (aa (qty T.ql) aA)))))) (qsc (qif (bo (oeq hu) Zo (qix hu (qv 3) a8) bE) (qs1 (qg (qix hu (qv 2) bE) (qix hu (qv 3) a8))) (qs1 (qif (bo (oeq hu) Zo (qix hu (qv 3) a8) bE) (qs1 (qg (qix hu (qv 2) bE) (qix hu (qv 3) a8))) (qs1 (qif (cZ (qv 4)) (qs1 (qg (qix hu (qv 2) bE) (qix hu (qv 3) a8))) (qs1 (qg (qix hu (qv 2) bE) (qix hu (qv 3) a8)))))))) (qs1 (qif (bo (oeq hu) Zo (qix hu (qv 3) a8) bE) (qs1 (qg (qix hu (qv 2) (qix hu (cF (aa bE (aa bE aA))) (qcT MB KZ T.ql (aa (qv 4) aA)))) (qix hu (qv 3) a8))) qs0))))) (qs1 (bw (qv 2)))),λhs ps hb hl hp=>?_};obtain⟨d',e',e1⟩:=Fu (A:=A) (a:=Zh (.lst (hs.map ldR))) (b:=Zh (.lst (ps.map D.str))) hs {ps,ps,[],[],[],[]} 10 Zi Zi hb ⟨hp,hp,by simp,by simp,by simp,by simp⟩ ();show P6 _ bT=_;refine(congrArg (P6 · bT) (show _=Zh (Out.rt (.cell 0) (scC 0 (hs.foldl Sc.put {ps,ps,[],[],[],[]})))from ?_)).trans rfl;refine aR (B':=[Zh (.lst (hs.map ldR)),Zh (.lst (ps.map D.str)),Zh (.cell 0),Zi,Zi]) (M':=scC 0 {ps,ps,[],[],[],[]}) ((d7 (d:=.cell 0) (M':=scC 0 {ps,ps,[],[],[],[]}) ?_).trans rfl) (aR ((k9 (ds:=hs.map ldR) rfl).trans e1) rfl);rfl
structure nC(M:MS)(n mi:Nat)(s:Sc):Prop where
 dc:M[n]?=Zh (.dic AY [.cell (n+1),.cell (n+2),.cell (n+3),.cell (n+4),.cell (n+5),.cell mi])
 th:M[n+1]?=Zh (.lst (s.th.map D.str))
 tg:M[n+2]?=Zh (.lst (s.tg.map D.str))
 ls:M[n+3]?=Zh (.lst (s.ls.map D.str))
 pu:M[n+4]?=Zh (.lst (s.pu.map D.str))
 hn:M[n+5]?=Zh (.lst (s.hn.map D.str))
 ms:M[mi]?=Zh (.lst (s.ms.map D.str))
 ne:∀i,i<6->mi≠n+i
theorem vX(h:nC M n mi s)(e:iL AY [.cell (n+1),.cell (n+2),.cell (n+3),.cell (n+4),.cell (n+5),.cell mi] (.inr k)=Zh d):ixD M (.cell n) (.str k)=Zh d:=by
 have h1:fY M (.cell n)=Zh (AY,[.cell (n+1),.cell (n+2),.cell (n+3),.cell (n+4),.cell (n+5),.cell mi]):=by unfold fY;simp only[h.dc]
 have h2:ba M (.cell n)=Zi:=by unfold ba;simp only[h.dc]
 show(match ba M (.cell n),D.str k with|some ds,.int i=>atI ds i|_,b=>(fY M (.cell n)).bind λq=>(yA b).bind λk=>iL q.1 q.2 k)=_;rw[h2,h1];exact e
theorem lQ(h:M[a]?=Zh (.lst xs)):eqE neg M (.cell a) (.lst [])=Zh (.bl (if neg then !xs.isEmpty else xs.isEmpty)):=by
 have:L2.listOf M (.cell a)=Zh xs:=by
  show(if isTup (.cell a)=true then Zi else ba M (.cell a))=_;rw[if_neg (by intro z;cases z)];unfold ba;simp only[h]
 unfold eqE;rw[this];rfl
theorem x3(h:M[a]?=Zh (.lst xs)):eP M [.cell a]=Zh (.int (xs.length:Nat)):=by
 have:ba M (.cell a)=Zh xs:=by unfold ba;simp only[h]
 unfold eP;simp only[this]
theorem ni(h:M[a]?=Zh (.lst xs)):ixD M (.cell a) (.int i)=atI xs i:=by
 have:ba M (.cell a)=Zh xs:=by unfold ba;simp only[h]
 unfold ixD;simp only[this]
theorem AV(T:Txt K mg A):∃f,Has P w K mg base 1 "_law_pick" ["_law_some","_law_number"] (spI K (de f))/\∀M a (xs:List Str) k,M[a]?=Zh (.lst (xs.map D.str))->xs≠[]->∃x∈xs,f [.cell a,.int k] M=Zh (.str x):=by
 refine{_,qh (mkI T.ze (k:=0) yU λ_ _ _ _ _ _ _ hr hu=>qs1 (bw (qix hu (qv 0) (qop cW Zp (qv 1) (qcB cb cO T.cE (aa (qv 0) aA)))))),λM a xs k h hx=>?_};have hl:0<(xs.length:Int):=by cases xs with|nil=>exact absurd rfl hx|cons=>rw[Qd];lia
 obtain⟨m0,m1⟩:=cU k hl;obtain⟨y,hy,e⟩:=BV (l:=xs.map D.str) m0 (by rw[P8];exact m1);obtain⟨x,hx',rfl⟩:=Qr.mp hy;refine{x,hx',cT ?_ ak};have l1:=x3 h;rw[P8]at l1;have i1:=ni h (i:=k%xs.length);rw[e]at i1;have hl':0<xs.length:=()
 show P6 _ _=_;generalize xs.map D.str=zs at *;simp?[l1,i1,hl',bT]
noncomputable def oi(s:Sc):Th->Prop
 | .i n=>0<=n/\n<10^12
 | .s x=>x∈s.th
theorem Mt(h0:0<=j)(h1:j<2):atI [D.int a,.int b] j=Zh (.int (if j=0 then a else b)):=by
 have:j=0\/j=1:=()
 rcases this with rfl|rfl<;>rfl
theorem CH(T:Txt K mg A):∃f,Has P w K mg base 2 "_law_thing" ["_law_number","_law_scope_here"] (spI K (de f))/\∀M n mi s k,nC M n mi s->∃t:Th,f [.int k,.cell n] M=Zh t.d/\oi s t:=by
 obtain⟨fp,SV,P1⟩:=@AV P w _ _ base _ T;refine{_,qh (mkI T.vh (k:=1) xX λ_ _ _ _ _ _ _ hr hu=>qsc (qif (QW.pt (ja (bo (oeq hu) Zo (qop cW Zp (qv 0) a8) a8) (eN (bo (Fg hu) E4 (qix hu (qv 1) bE) (cF aA))))) (qs1 (bw (qop cW Zp (qop sG ZE (qop fO fR (qv 0) a8) a8) (qix hu (cF (aa (qop vv ZJ a8 a8) (aa a8 aA))) (qop cW Zp (qop fO fR (qv 0) a8) a8))))) qs0) (qs1 (bw (cA SV hr (aa (qix hu (qv 1) bE) (aa (qop fO fR (qv 0) a8) aA)))))),λM n mi s k h=>?_};have i1:=vX h (k:="things") (d:=.cell (n+1)) rfl;have e1:=lQ (neg:=false) h.th;have he:(s.th.map D.str).isEmpty=s.th.isEmpty:=by cases s.th<;>rfl
 rw[he]at e1;obtain⟨m0,m1⟩:=cU (k/3) (show(0:Int)<2 by decide);have ax:=Mt m0 m1 (a:=1000000000000) (b:=9);by_cases h0:k%3=0
 ·refine{.i (k/3*48271%(if k/3%2=0 then 1000000000000 else 9)),cT ?_ ai,?_}
  ·have hpos:0<(if k/3%2=0 then(1000000000000:Int)else 9):=by split<;>decide
   show P6 _ _=_;simp?[h0,ax,hpos,Th.d,bT]
  show _/\_;split
  ·have:=cU (k/3*48271) (show(0:Int)<1000000000000 by decide);exact⟨this.1,this.2⟩
  have:=cU (k/3*48271) (show(0:Int)<9 by decide);exact{this.1,()}
 cases hs:s.th.isEmpty with
 |true=>
  rw[hs]at e1;refine{.i (k/3*48271%(if k/3%2=0 then 1000000000000 else 9)),cT ?_ ai,?_}
  ·have hpos:0<(if k/3%2=0 then(1000000000000:Int)else 9):=by split<;>decide
   show P6 _ _=_;simp?[h0,i1,e1,ax,hpos,Th.d,bT]
  show _/\_;split
  ·have:=cU (k/3*48271) (show(0:Int)<1000000000000 by decide);exact⟨this.1,this.2⟩
  have:=cU (k/3*48271) (show(0:Int)<9 by decide);exact{this.1,()}
 |false=>
  rw[hs]at e1;obtain⟨x,hx,e2⟩:=P1 M (n+1) s.th (k/3) h.th (λz=>by rw[z]at hs;cases hs);refine{.s x,cT ?_ ak,hx};show P6 _ _=_;simp?[h0,i1,e1,e2,Th.d,bT]
def qV(s:Sc):Vl->Prop
 | .one t=>oi s t
 | .op a _ b=>oi s a/\oi s b
 | .at x b=>x∈s.ls/\oi s b
theorem N2(h0:0<=j)(h1:j<7):∃n:Fin 7,atI [D.str "+",.str "-",.str "*",.str "over",.str "rest",.str "<",.str "="] j=Zh (.str (opW n)):=by
 have:j=0\/j=1\/j=2\/j=3\/j=4\/j=5\/j=6:=()
 rcases this with rfl|rfl|rfl|rfl|rfl|rfl|rfl
 ·exact⟨0,rfl⟩
 ·exact⟨1,rfl⟩
 ·exact⟨2,rfl⟩
 ·exact⟨3,rfl⟩
 ·exact⟨4,rfl⟩
 ·exact⟨5,rfl⟩
 exact⟨6,rfl⟩
theorem HK(T:Txt K mg A):∃f,Has P w K mg base 3 "_law_value" ["_law_cell","_law_scope_here"] (spI K (de f))/\∀M n mi s c,nC M n mi s->∃v:Vl,f [.int c,.cell n] M=Zh v.d/\qV s v:=by
 obtain⟨fp,SV,P1⟩:=@AV P w _ _ base _ T;obtain⟨ft,S8,T1⟩:=@CH P w _ _ base _ T;obtain⟨fm,SN,X1⟩:=@EF P w _ _ base _ T;refine{_,qh (mkI T.vQ (k:=2) gi λ_ _ _ _ _ _ _ hr hu=>qsc (cG 2 gi.nd (cA S8 hr (aa (bz SN hr (aa (qv 0) (aa a8 aA))) (aa (qv 1) aA)))) (qsc (cG 3 gi.nd (cA S8 hr (aa (bz SN hr (aa (qv 0) (aa a8 aA))) (aa (qv 1) aA)))) (qsc (cG 4 gi.nd (bz SN hr (aa (qv 0) (aa a8 aA)))) (qsc (qif (bo xt ZM (qop cW Zp (qv 4) a8) a8) (qs1 (bw (dH (aa (qv 2) aA)))) qs0) (qsc (qif (QW.pt (fZ (bo xt ZM (qop cW Zp (qv 4) a8) a8) (d8 (bo (kl hu) kH (qix hu (qv 1) bE) (cF aA))))) (qs1 (bw (dH (aa (cA SV hr (aa (qix hu (qv 1) bE) (aa (qop fO fR (qv 4) a8) aA))) (aa bE (aa (qv 3) aA)))))) qs0) (qs1 (bw (dH (aa (qv 2) (aa (qix hu (cF (aa bE (aa bE (aa bE (aa bE (aa bE (aa bE (aa bE aA)))))))) (qop cW Zp (qop fO fR (qv 4) a8) a8)) (aa (qv 3) aA))))))))))),λM n mi s c h=>?_};obtain⟨a28,x28⟩:=X1 c 28 ∅ ∅;obtain⟨a29,x29⟩:=X1 c 29 ∅ ∅;obtain⟨m,x30⟩:=X1 c 30 ∅ ∅;obtain⟨t1,y1,z1⟩:=T1 M n mi s a28 h;obtain⟨t2,y2,z2⟩:=T1 M n mi s a29 h;have i1:=vX h (k:="lists") (d:=.cell (n+3)) rfl;have e1:=lQ (neg:=true) h.ls;have he:(s.ls.map D.str).isEmpty=s.ls.isEmpty:=by cases s.ls<;>rfl
 rw[he]at e1;have p1:=dO t1;have p2:=dO t2;by_cases h2:m%7<2
 ·refine{.one t1,cT ?_ (dD _),z1};show P6 _ _=_;simp?[x28,x29,x30,y1,y2,h2,Vl.d,Vl.ds,bT]
 obtain⟨j0,j1⟩:=cU (m/7) (show(0:Int)<7 by decide);obtain⟨on,ox⟩:=N2 j0 j1;have s7:(7:Nat)<=sizeLine:=∅
 by_cases h4:m%7<4
 ·cases hs:s.ls.isEmpty with
  |true=>
   rw[hs]at e1;refine{.op t1 on t2,cT ?_ (dD _),z1,z2};show P6 _ _=_;simp?[x28,x29,x30,y1,y2,h2,h4,i1,e1,ox,s7,Vl.d,Vl.ds,bT]
  |false=>
   rw[hs]at e1;obtain⟨x,hx,e2⟩:=P1 M (n+3) s.ls (m/7) h.ls (λz=>by rw[z]at hs;cases hs);refine{.at x t2,cT ?_ (dD _),hx,z2};show P6 _ _=_;simp?[x28,x29,x30,y1,y2,h2,h4,i1,e1,e2,Vl.d,Vl.ds,bT]
 refine{.op t1 on t2,cT ?_ (dD _),z1,z2};show P6 _ _=_;simp?[x28,x29,x30,y1,y2,h2,h4,ox,s7,Vl.d,Vl.ds,bT]
noncomputable def ddD:Option (Str×List Str)->D
 |none=>.non
 |some (x,ps)=>.tup [.str "deed",.str x,.lst (ps.map D.str)]
def AG(s:Sc)(dd:Option (Str×List Str)):Rw->Prop
 | .set x v=>x∈s.tg/\qV s v
 | .put x p v=>x∈s.pu/\oi s p/\qV s v
 | .send x v=>x∈s.hn/\qV s v
 | .call x ts=>(∃ps,dd=Zh (x,ps)/\ts.length=ps.length)/\∀t∈ts,oi s t
 |_=>False
theorem so(h1:r B M=Zh (.rt d M')):aP r u B M=Zh (.rt d M'):=by
 unfold aP;rw[h1];rfl
theorem Ge:∀{ys:List D}{p:Th->Prop},(∀y∈ys,∃t:Th,y=t.d/\p t)->∃ts:List Th,ys=ts.map Th.d/\∀t∈ts,p t
 | [],p,_=>{[],rfl,λc hc=>by cases hc}
 |y::ys,p,h=>by
  obtain⟨c,rfl,hc⟩:=h y Qb;obtain⟨cs,rfl,hcs⟩:=Ge (p:=p) λz hz=>h z (Qa _ hz);exact⟨c::cs,rfl,λz hz=>by
   rcases P7.mp hz with rfl|hz
   ·exact hc
   exact hcs z hz⟩
theorem NT(l:List Str):(l.map D.str).isEmpty=l.isEmpty:=by cases l<;>rfl
theorem OK(h:l.isEmpty=false):∃l' m,l=l'++[m]:=by
 cases l with
 |nil=>cases h
 |cons a r=>exact{(a::r).dropLast,(a::r).getLast (by simp),(WE (by simp)).symm}
theorem di(h:ra B M=Zh ds)(h2:f M ds=Zh d):aN f ra B M=Zh d:=by
 unfold aN;rw[h];exact h2
theorem Zj(h:ra B M=Zh d)(h2:rs B M=Zh ds):ag ra rs B M=Zh (d::ds):=by
 unfold ag;rw[h];show(rs B M).bind _=_;rw[h2];rfl
theorem zF(h:ra B M=Zh ds)(h2:f ds M=Zh d):aJ f ra B M=Zh d:=by
 unfold aJ;rw[h];exact h2
theorem dF(hp:bD ds=true)(h:F ds=Zh d):aO F M ds=Zh d:=by
 unfold aO;rw[if_pos hp];exact h
theorem xq(h:rs B M=Zh [.int (n:Int)])(hn:n<=1000000):rg1 rs B M=Zh (jl 0 n):=by
 have b:-(2^62)<=(n:Int)/\(n:Int)<2^62:={(),()};unfold rg1;rw[h,Rj];dsimp only;rw[if_pos b,Int.toNat_natCast]
theorem Ov(T:Txt K mg A):∃F,Has P w K mg base 4 "_law_row" ["_law_cell","_law_scope_here","_law_deed"] (spI K F)/\∀M n mi s c dd,nC M n mi s->(∀x ps,dd=Zh (x,ps)->ps.length<=4)->
  (F [.int c,.cell n,ddD dd] M=Zh (.non,M))\/(∃r,AG s dd r/\F [.int c,.cell n,ddD dd] M=Zh (ldR r,M))\/∃x v m ms,s.ms=ms++[m]/\x∈s.tg/\qV s v/\F [.int c,.cell n,ddD dd] M=Zh (ldR (.say x v m),M.set mi (.lst (ms.map D.str))):=by
 obtain⟨fp,SV,P1⟩:=@AV P w _ _ base _ T
 obtain⟨ft,S8,T1⟩:=@CH P w _ _ base _ T
 obtain⟨fv,Ui,V1⟩:=@HK P w _ _ base _ T
 obtain⟨fm,SN,X1⟩:=@EF P w _ _ base _ T
 refine{_,mkI T.B9 (k:=3) gE λ_ _ _ _ _ _ _ hr hu=>qsc (cG 3 gE.nd (qop cW Zp (bz SN hr (aa (qv 0) (aa a8 aA))) a8)) (qsc (cG 4 gE.nd (cA Ui hr (aa (qv 0) (aa (qv 1) aA)))) (qsc (cG 5 gE.nd (bz SN hr (aa (qv 0) (aa a8 aA)))) (qsc (qif (QW.pt (fZ (bo xt ZM (qv 3) a8) (d8 (bo (kl hu) kH (qix hu (qv 1) bE) (cF aA))))) (qs1 (bw (dH (aa bE (aa (cA SV hr (aa (qix hu (qv 1) bE) (aa (qv 5) aA))) (aa (qv 4) aA)))))) qs0) (qsc (qif (QW.pt (fZ (bo xt ZM (qv 3) a8) (d8 (bo (kl hu) kH (qix hu (qv 1) bE) (cF aA))))) (qs1 (bw (dH (aa bE (aa (cA SV hr (aa (qix hu (qv 1) bE) (aa (qv 5) aA))) (aa (cA S8 hr (aa (bz SN hr (aa (qv 0) (aa a8 aA))) (aa (qv 1) aA))) (aa (qv 4) aA))))))) qs0) (qsc (qif (QW.pt (fZ (bo (oeq hu) Zo (qv 3) a8) (fZ (bo (kl hu) kH (qix hu (qv 1) bE) (cF aA)) (d8 (bo (kl hu) kH (qix hu (qv 1) bE) (cF aA)))))) (qs1 (Ez (OS (b7 (eQ (bE)) (b7 (eQ (cA SV hr (aa (qix hu (qv 1) bE) (aa (qv 5) aA)))) (b7 (eQ (qv 4)) (b7 (eQ (bE)) (b7 (Kl (qix hu (qv 1) bE)) fP)))))))) qs0) (qsc (qif (QW.pt (fZ (bo (oeq hu) Zo (qv 3) a8) (d8 (bo xg wU (qv 2) dq)))) (qsc (DQ 6 (N:=["_law_k","_law_scope_here","_law_cell"]) (own:=1) (fr:=[1,0]) (cv.of (by kernel_rfl!)) gE.nd (qF T.eK (aa (qcB cb cO T.cE (aa (qix hu (qv 2) a8) aA)) aA)) (λb=>qgn 0 (show U4 (["_law_k","_law_scope_here","_law_cell"]:List Ve) by decide+kernel)) (λb=>qf0) (λb=>cA S8 hr (aa (bz SN hr (aa (qv 2) (aa (qop cx Zn a8 (qv 0)) aA))) (aa (qv 1) aA))) (fA ∅)) (qs1 (bw (dH (aa bE (aa (qix hu (qv 2) a8) (aa (qv 6) aA))))))) qs0) (qsc (qif (bo (kl hu) kH (qix hu (qv 1) bE) (cF aA)) (qs1 (bw (dH (aa bE (aa (cA SV hr (aa (qix hu (qv 1) bE) (aa (qv 5) aA))) (aa (qv 4) aA)))))) qs0) (qs1 (bw dq))))))))),λM n mi s c dd h hdd=>?_}
 obtain⟨a4,x4⟩:=X1 c 4 ∅ ∅
 obtain⟨num,x6⟩:=X1 c 6 ∅ ∅
 obtain⟨a7,x7⟩:=X1 c 7 ∅ ∅
 obtain⟨v,y1,z1⟩:=V1 M n mi s c h
 obtain⟨t7,y7,z7⟩:=T1 M n mi s a7 h
 obtain⟨w0,w1⟩:=cU a4 (show(0:Int)<9 by decide)
 generalize hw:a4%9=wy at *
 have it:=vX h (k:="targets") (d:=.cell (n+2)) rfl
 have ip:=vX h (k:="puts") (d:=.cell (n+4)) rfl
 have ih:=vX h (k:="hands") (d:=.cell (n+5)) rfl
 have im:=vX h (k:="marks") (d:=.cell mi) rfl
 have et:=lQ (neg:=true) h.tg
 have ep:=lQ (neg:=true) h.pu
 have eh:=lQ (neg:=true) h.hn
 have em:=lQ (neg:=true) h.ms
 rw[NT]at et ep eh em
 have nil:∀{l:List Str},l.isEmpty=false->l≠[]:=λe z=>by rw[z]at e;cases e
 have Zs:∀(u:RSt)(o:Out),u [Zh (.int c),Zh (.cell n),Zh (ddD dd),Zh (.int wy),Zh v.d,Zh (.int num),Zi] M=Zh o->
   aP (aS 3 (dOp (dI bR λi j=>.int (i%j)) (aN (aO fm) (ag (dV 0) (ag (dC (.int 4)) aK))) (dC (.int 9)))) (aP (aS 4 (aJ fv (ag (dV 0) (ag (dV 1) aK)))) (aP (aS 5 (aN (aO fm) (ag (dV 0) (ag (dC (.int 6)) aK)))) u)) [Zh (.int c),Zh (.cell n),Zh (ddD dd),Zi,Zi,Zi,Zi] M=Zh o:=λu o hu=>by
  refine aR (B':=[Zh (.int c),Zh (.cell n),Zh (ddD dd),Zh (.int wy),Zi,Zi,Zi]) (M':=M) ((cq (d:=.int wy) ?_).trans rfl) (aR (B':=[Zh (.int c),Zh (.cell n),Zh (ddD dd),Zh (.int wy),Zh v.d,Zi,Zi]) (M':=M) ((cq (d:=v.d) ?_).trans rfl) (aR (B':=[Zh (.int c),Zh (.cell n),Zh (ddD dd),Zh (.int wy),Zh v.d,Zh (.int num),Zi]) (M':=M) ((cq (d:=.int num) ?_).trans rfl) hu))
  ·refine cw (a:=.int a4) (b:=.int 9) ?_ rfl ((Et ∅).trans (by rw[hw]));simp?[x4]
  ·simp?[y1]
  simp?[x6]
 have hnn:dv (ddD dd)=dd.isNone:=by cases dd<;>rfl
 by_cases c1:wy<3/\s.tg.isEmpty=false
 ·obtain⟨x,hx,e2⟩:=P1 M (n+2) s.tg num h.tg (nil c1.2);refine .inr (.inl {.set x v,⟨hx,z1⟩,?_});show P6 _ bT=_;refine(congrArg (P6 · bT) (Zs _ (.rt (.tup [.str "set",.str x,v.d]) M) (so (eF ?_ ?_)))).trans rfl
  ·rw[c1.2]at et;simp?[c1.1,it,et]
  simp?[it,e2]
 have q1:aY (aB aC (dOp (dI tt2 λi j=>.bl (decide (i<j))) (dV 3) (dC (.int 3)))) (aB aC (dOp (eqE true) (dOp ixD (dV 1) (dC (.str "targets"))) (aN aD aK))) [Zh (.int c),Zh (.cell n),Zh (ddD dd),Zh (.int wy),Zh v.d,Zh (.int num),Zi] M=Zh false:=by
  by_cases h3:wy<3
  ·cases hs:s.tg.isEmpty with
   |false=>exact absurd ⟨h3,hs⟩ c1
   |true=>rw[hs]at et;simp?[h3,it,et]
  simp?[h3]
 by_cases c2:wy<5/\s.pu.isEmpty=false
 ·obtain⟨x,hx,e2⟩:=P1 M (n+4) s.pu num h.pu (nil c2.2);refine .inr (.inl {.put x t7 v,⟨hx,z7,z1⟩,?_});show P6 _ bT=_;refine(congrArg (P6 · bT) (Zs _ (.rt (.tup [.str "put",.str x,t7.d,v.d]) M) (aR (b6 q1 rfl) (so (eF ?_ ?_))))).trans rfl
  ·rw[c2.2]at ep;simp?[c2.1,ip,ep]
  simp?[ip,e2,x7,y7]
 have q2:aY (aB aC (dOp (dI tt2 λi j=>.bl (decide (i<j))) (dV 3) (dC (.int 5)))) (aB aC (dOp (eqE true) (dOp ixD (dV 1) (dC (.str "puts"))) (aN aD aK))) [Zh (.int c),Zh (.cell n),Zh (ddD dd),Zh (.int wy),Zh v.d,Zh (.int num),Zi] M=Zh false:=by
  by_cases h3:wy<5
  ·cases hs:s.pu.isEmpty with
   |false=>exact absurd ⟨h3,hs⟩ c2
   |true=>rw[hs]at ep;simp?[h3,ip,ep]
  simp?[h3]
 by_cases c3:wy=5/\s.ms.isEmpty=false/\s.tg.isEmpty=false
 ·obtain⟨x,hx,e2⟩:=P1 M (n+2) s.tg num h.tg (nil c3.2.2);obtain⟨ms,m,hms⟩:=OK c3.2.1;refine .inr (.inr {x,v,m,ms,hms,hx,z1,?_});have hM:=h.ms;rw[hms,Qz]at hM;have pp:=rF (ro:=dOp ixD (dV 1) (dC (.str "marks"))) (B:=[Zh (.int c),Zh (.cell n),Zh (ddD dd),Zh (.int wy),Zh v.d,Zh (.int num),Zi]) (cw rfl rfl im) hM;show P6 _ bT=_;refine(congrArg (P6 · bT) (Zs _ (.rt (.tup [.str "say",.str x,v.d,.str "by",.str m]) (M.set mi (.lst (ms.map D.str)))) (aR (b6 q1 rfl) (aR (b6 q2 rfl) (so (eF ?_ ?_)))))).trans rfl
  ·rw[c3.2.1]at em;rw[c3.2.2]at et;simp?[c3.1,it,et,im,em]
  have pk:aJ fp (ag (dOp ixD (dV 1) (dC (.str "targets"))) (ag (dV 5) aK)) [Zh (.int c),Zh (.cell n),Zh (ddD dd),Zh (.int wy),Zh v.d,Zh (.int num),Zi] M=Zh (.str x):=by simp?[it,e2]
  have s5:(5:Nat)<=sizeLine:=∅
  simp[Cy,NG,j5,GQ,xOf,pk,pp,s5,dV,dC]
 have q3:aY (aB aC (dOp (eqD false) (dV 3) (dC (.int 5)))) (aY (aB aC (dOp (eqE true) (dOp ixD (dV 1) (dC (.str "marks"))) (aN aD aK))) (aB aC (dOp (eqE true) (dOp ixD (dV 1) (dC (.str "targets"))) (aN aD aK)))) [Zh (.int c),Zh (.cell n),Zh (ddD dd),Zh (.int wy),Zh v.d,Zh (.int num),Zi] M=Zh false:=by
  by_cases h3:wy=5
  ·cases hs:s.ms.isEmpty with
   |true=>rw[hs]at em;simp?[h3,im,em]
   |false=>
    rw[hs]at em;cases hs2:s.tg.isEmpty with
    |true=>rw[hs2]at et;simp?[h3,im,em,it,et]
    |false=>exact absurd ⟨h3,hs,hs2⟩ c3
  simp?[h3]
 by_cases c4:wy=6/\dd.isNone=false
 ·obtain⟨⟨dx,ps⟩,hdx⟩:∃p,dd=Zh p:=by
   cases dd with
   |none=>exact absurd c4.2 ∅
   |some p=>exact⟨p,rfl⟩
  subst hdx;have hl4:=hdd dx ps rfl;obtain⟨ys,e3,l3,hy⟩:=sI (g:=gN 0) (q:=eW) (r:=aJ ft (ag (aN (aO fm) (ag (dV 2) (ag (dOp en (dC (.int 8)) (dV 0)) aK))) (ag (dV 1) aK))) (M:=M) (B:=[Zi,Zh (.cell n),Zh (.int c)]) (λy=>∃t:Th,y=t.d/\oi s t) (jl 0 ps.length) λd hd=>by
   obtain⟨i,hi,rfl⟩:=Bl hd;obtain⟨k,hk⟩:=X1 c (8+(0+(i:Nat))) () ();obtain⟨t,y,z⟩:=T1 M n mi s k h;refine{_,t.d,rfl,rfl,?_,t,rfl,z};exact zF (Zj (di (Zj rfl (Zj (cw rfl rfl add_int) rfl)) (dF (by simp[ae,af,ai]) hk)) (Zj rfl rfl)) y
  obtain⟨ts,rfl,hts⟩:=Ge hy;rw[CA,P8]at l3;refine .inr (.inl {.call dx ts,{⟨ps,rfl,l3⟩,hts},?_});have r1:rg1 (ag (aN eP (ag (dOp ixD (dV 2) (dC (.int 2))) aK)) aK) [Zh (.int c),Zh (.cell n),Zh (ddD (Zh (dx,ps))),Zh (.int wy),Zh v.d,Zh (.int num),Zi] M=Zh (jl 0 ps.length):=by
   have e0:ag (aN eP (ag (dOp ixD (dV 2) (dC (.int 2))) aK)) aK [Zh (.int c),Zh (.cell n),Zh (ddD (Zh (dx,ps))),Zh (.int wy),Zh v.d,Zh (.int num),Zi] M=Zh [.int ps.length]:=by
    simp?[ddD,bY,at2,bC]
   exact xq e0 ()
  have cm:=jz (own:=1) (fr:=[1,0]) r1 e3 (by rw[P8,l3];exact Qi hl4 ∅);show P6 _ bT=_;refine(congrArg (P6 · bT) (Zs _ (.rt (.tup [.str "call",.str dx,.lst (ts.map Th.d)]) M) (aR (b6 q1 rfl) (aR (b6 q2 rfl) (aR (b6 q3 rfl) (so (eF ?_ (aR (cq cm) ?_)))))))).trans rfl
  ·simp?[c4.1,ddD]
  simp?[ddD,bY,at1]
 have q4:aY (aB aC (dOp (eqD false) (dV 3) (dC (.int 6)))) (aB aC (dOp (isN true) (dV 2) (dC .non))) [Zh (.int c),Zh (.cell n),Zh (ddD dd),Zh (.int wy),Zh v.d,Zh (.int num),Zi] M=Zh false:=by
  by_cases h3:wy=6
  ·cases hs:dd.isNone with
   |false=>exact absurd ⟨h3,hs⟩ c4
   |true=>rw[hs]at hnn;simp?[h3,hnn]
  simp?[h3]
 cases hs:s.hn.isEmpty with
 |false=>
  obtain⟨x,hx,e2⟩:=P1 M (n+5) s.hn num h.hn (nil hs)
  rw[hs]at eh
  refine .inr (.inl {.send x v,⟨hx,z1⟩,?_})
  show P6 _ bT=_
  refine(congrArg (P6 · bT) (Zs _ (.rt (.tup [.str "send",.str x,v.d]) M) (aR (b6 q1 rfl) (aR (b6 q2 rfl) (aR (b6 q3 rfl) (aR (b6 q4 rfl) (so (eF ?_ ?_)))))))).trans rfl
  ·simp?[ih,eh]
  simp?[ih,e2]
 |true=>
  rw[hs]at eh
  refine .inl ?_
  show P6 _ bT=_
  refine(congrArg (P6 · bT) (Zs _ (.rt .non M) (aR (b6 q1 rfl) (aR (b6 q2 rfl) (aR (b6 q3 rfl) (aR (b6 q4 rfl) (aR (b6 (M:=M) ?_ rfl) rfl))))))).trans rfl
  simp?[ih,eh]
inductive eS(s:Sc)(dd:Option (Str×List Str)):List Str->List Rw->List Str->Prop
 |nil (ms:List Str):eS s dd ms [] ms
 |row {ms ms':List Str}{r:Rw}{rs:List Rw} (h:AG s dd r) (t:eS s dd ms rs ms'):eS s dd ms (r::rs) ms'
 |say {ms ms':List Str}{x m:Str}{v:Vl}{rs:List Rw} (h1:x∈s.tg) (h2:qV s v) (t:eS s dd ms rs ms'):eS s dd (ms++[m]) (.say x v m::rs) ms'
def opD:Option Rw->D
 |none=>.non
 |some r=>ldR r
noncomputable def mkM(M:MS)(mi:Nat)(ms:List Str)(J:MS):MS:=M.set mi (.lst (ms.map D.str))++J
theorem nC.mark(h:nC M n mi s)(ms:List Str)(J:MS):nC (mkM M mi ms J) n mi { s with ms:=ms }:=by
 have ne:∀{i:Nat}{o:Ob},i<6->M[n+i]?=Zh o->(mkM M mi ms J)[n+i]?=Zh o:=λ{i o} hi e=>by
  unfold mkM;refine AU ?_;rw[Rm (h.ne i hi)];exact e
 refine{ne (i:=0) ∅ h.dc,ne ∅ h.th,ne ∅ h.tg,ne ∅ h.ls,ne ∅ h.pu,ne ∅ h.hn,?_,h.ne};unfold mkM;refine AU ?_;rw[Rt (Qh.mp h.ms).1]
theorem MV(h:nC M n mi s):(mkM M mi ms J).set mi (.lst (ms'.map D.str))=mkM M mi ms' J:=by
 unfold mkM;rw[XC _ _ (by rw[Qv];exact(Qh.mp h.ms).1),Qt]
theorem J5:(mkM M n ms [o])[M.length]?=Zh o:=by
 unfold mkM;rw[Ql (by rw[Qv];exact Qf _),Qv,QU];rfl
theorem GG:(mkM M n ms [o]).set M.length o'=mkM M n ms [o']:=by
 unfold mkM;rw[RK _ _ (by rw[Qv];exact Qf _),Qv,QU];rfl
theorem Io(h:AG { s with ms:=ms } dd r):AG s dd r:=by
 have ht:∀{t:Th},oi { s with ms:=ms } t->oi s t:=λ{t} h=>by cases t<;>exact h
 have hv:∀{v:Vl},qV { s with ms:=ms } v->qV s v:=λ{v} h=>by
  cases v with
  |one t=>exact ht h
  |op a n b=>exact⟨ht h.1,ht h.2⟩
  |«at» x b=>exact⟨h.1,ht h.2⟩
 cases r with
 |set x v=>exact⟨h.1,hv h.2⟩
 |put x p v=>exact⟨h.1,ht h.2.1,hv h.2.2⟩
 |send x v=>exact⟨h.1,hv h.2⟩
 |call x ts=>exact{h.1,λt m=>ht (h.2 t m)}
 |_=>exact h.elim
theorem Jx(h:qV { s with ms:=ms } v):qV s v:=by
 have ht:∀{t:Th},oi { s with ms:=ms } t->oi s t:=λ{t} h=>by cases t<;>exact h
 cases v with
 |one t=>exact ht h
 |op a n b=>exact⟨ht h.1,ht h.2⟩
 |«at» x b=>exact⟨h.1,ht h.2⟩
theorem HM{g:RG}{rx:RX}{n:Nat}{B B':SD}{d y:D}{ds ys:List D}{M M1:MS}{o:Option MS}(h1:g d B=Zh B')(h2:rx B' M=Zh (y,M1))(h3:M1[n]?=Zh (.lst ys))(h4:ys.length<1000)(h5:mh g rx n B ds (M1.set n (.lst (ys++[y])))=o):mh g rx n B (d::ds) M=o:=by
 show(g d B).bind _=_;rw[h1];show(rx B' M).bind _=_;rw[h2];show(match M1[n]? with|some (.lst ys)=>_|_=>Zi)=_;rw[h3];exact(if_pos (Qm h4 ∅)).trans h5
theorem MZ(T:Txt K mg A):∃F,Has P w K mg base 5 "_law_rows" ["_law_cells","_law_scope_here","_law_deed"] (spI K F)/\∀M n mi s (cs:List Int) dd,nC M n mi s->cs.length<=40->(∀x ps,dd=Zh (x,ps)->ps.length<=4)->∃rs ms,rs.length<=cs.length/\eS s dd s.ms rs ms/\F [.lst (cs.map D.int),.cell n,ddD dd] M=Zh (.lst (rs.map ldR),mkM M mi ms [.gone]):=by
 obtain⟨Fr,Up,R1⟩:=@Ov P w _ _ base _ T;refine{_,mkI T.zG (k:=4) qu λ_ _ _ _ _ _ _ hr hu=>qsc (LP 3 (N:=["_law_cell","_law_scope_here","_law_deed"]) (own:=1) (fr:=[1,2]) (cv.of (by kernel_rfl!)) qu.nd (qit false (qv 0)) (λb=>qgn 0 (show U4 (["_law_cell","_law_scope_here","_law_deed"]:List Ve) by decide+kernel)) (λb=>qf0) (λb=>jj Up hr (aa (qv 0) (aa (qv 1) (aa (qv 2) aA)))) (fA ∅)) (qs1 (bw (jc (N:=["_law_row_here"]) (own:=1) (fr:=[]) (cv.of (by kernel_rfl!)) (qit true (qv 3)) (λb=>qgn 0 (show U4 (["_law_row_here"]:List Ve) by decide+kernel)) (λb=>qf1 (bo xg wU (qv 0) dq)) (λb=>qv 0) (fA ∅)))),λM n mi s cs dd h hl hdd=>?_};have loop:∀(cs:List Int)(ms:List Str)(acc:List D),acc.length+cs.length<=40->∃(os:List (Option Rw))(ms':List Str),os.length=cs.length/\eS s dd ms (os.filterMap id) ms'/\mh (gN 0) (yz Fr (ag (dV 0) (ag (dV 1) (ag (dV 2) aK)))) M.length [Zi,Zh (.cell n),Zh (ddD dd)] (cs.map D.int) (mkM M mi ms [.lst acc])=Zh (mkM M mi ms' [.lst (acc++os.map opD)]):=by
  intro cs;induction cs with
  |nil=>intro ms acc _;exact{[],ms,rfl,.nil _,by rw[QR,QR,Qo];rfl}
  |cons c cs ih=>
   intro ms acc hl;rw[Qd]at hl;have hs:=h.mark ms [.lst acc];have fin:∀(o:Option Rw)(ms1:List Str),Fr [.int c,.cell n,ddD dd] (mkM M mi ms [.lst acc])=Zh (opD o,mkM M mi ms1 [.lst acc])->(∀rs ms',eS s dd ms1 rs ms'->eS s dd ms ((o.toList)++rs) ms')->∃(os:List (Option Rw))(ms':List Str),os.length=(c::cs).length/\eS s dd ms (os.filterMap id) ms'/\mh (gN 0) (yz Fr (ag (dV 0) (ag (dV 1) (ag (dV 2) aK)))) M.length [Zi,Zh (.cell n),Zh (ddD dd)] ((c::cs).map D.int) (mkM M mi ms [.lst acc])=Zh (mkM M mi ms' [.lst (acc++os.map opD)]):=λo ms1 e hR=>by
    obtain⟨os,ms',l1,r1,e1⟩:=ih ms1 (acc++[opD o]) (by rw[Qj,Rl];lia);refine{o::os,ms',by rw[Qd,Qd,l1],?_,?_}
    ·have:=hR _ _ r1;cases o<;>exact this
    rw[Qc];refine HM rfl (oz (ds:=[.int c,.cell n,ddD dd]) rfl e) J5 () ?_;rw[GG,e1,QC];rfl
   rcases R1 _ n mi _ c dd hs hdd with e|⟨r,hr,e⟩|⟨x,v,m,ms1,hm,hx,hv,e⟩
   ·exact fin Zi ms e λrs ms' h=>h
   ·exact fin (Zh r) ms e λrs ms' h=>.row (Io hr) h
   have hm:ms=ms1++[m]:=hm;refine fin (Zh (.say x v m)) ms1 (e.trans (by rw[MV h];rfl)) λrs ms' hh=>?_;rw[hm];exact .say hx (Jx hv) hh
 obtain⟨os,ms',l1,r1,e1⟩:=loop cs s.ms [] (by simpa using hl);have hM0:mkM M mi s.ms [.lst []]=M++[.lst []]:=by
  unfold mkM;congr 1;apply Sd;intro i;by_cases hi:i=mi
  ·subst hi;rw[Rt (Qh.mp h.ms).1,h.ms]
  rw[Rm (λz=>hi z.symm)]
 rw[hM0,RD]at e1;refine{os.filterMap id,ms',Qi (RB _ _) (),r1,?_};have xc:Ha (dIt false (dV 0)) 1 [1,2] (gN 0) (yz Fr (ag (dV 0) (ag (dV 1) (ag (dV 2) aK)))) [Zh (.lst (cs.map D.int)),Zh (.cell n),Zh (ddD dd),Zi] M=Zh (.lst (os.map opD),mkM M mi ms' [.gone]):=by
  show P6 (mh _ _ _ _ (cs.map D.int) (M++[.lst []])) _=_;refine(congrArg (λz=>P6 z _) e1).trans ?_;show(match (mkM M mi ms' [.lst (os.map opD)])[M.length]? with|some (.lst ys)=>_|_=>Zi)=_;rw[J5];show Zh (D.lst (os.map opD),(mkM M mi ms' [.lst (os.map opD)]).set M.length .gone)=_;rw[GG]
 have cm:cD (gN 0) (aB aC (dOp (isN true) (dV 0) (dC .non))) (dV 0) (mkM M mi ms' [.gone]) [Zi] (os.map opD)=Zh (os.filterMap λo=>o.map ldR):=uf _ _ _ λo _=>by
  cases o with
  |none=>exact{_,rfl,.inl ⟨rfl,rfl⟩}
  |some r=>exact⟨_,rfl,.inr ⟨by
    show Zh (!dv (ldR r))=_;have:dv (ldR r)=false:=by cases r<;>first|rfl|(unfold ldR;dsimp only;split<;>rfl)
    rw[this];rfl,_,rfl,rfl⟩⟩
 have hmm:(os.filterMap λo=>o.map ldR)=(os.filterMap id).map ldR:=by rw[XZ];rfl
 have ll:(os.filterMap λo=>o.map ldR).length<=sizeLine:=Qi (RB _ _) (Qi (show os.length<=40 by lia) ∅);show P6 _ bT=_;refine(congrArg (P6 · bT) (show _=Zh (Out.rt (.lst ((os.filterMap id).map ldR)) (mkM M mi ms' [.gone]))from ?_)).trans rfl;refine aR (B':=[Zh (.lst (cs.map D.int)),Zh (.cell n),Zh (ddD dd),Zh (.lst (os.map opD))]) ((d7 xc).trans rfl) ?_;rw[<-hmm];have c2:=jz (ri:=dIt true (dV 3)) (own:=1) (fr:=[]) (B:=[Zh (.lst (cs.map D.int)),Zh (.cell n),Zh (ddD dd),Zh (.lst (os.map opD))]) (M:=mkM M mi ms' [.gone]) rfl cm ll;unfold aX;rw[c2];rfl
inductive Pt where
 |th (t:Th)|tu (ts:List Th)|li (ts:List Th)
def Pt.d:Pt->D
 | .th t=>t.d
 | .tu ts=>.tup (ts.map Th.d)
 | .li ts=>.lst (ts.map Th.d)
def Pt.ws:Pt->List Str
 | .th t=>[tw t]
 | .tu ts=>ts.map tw
 | .li ts=>ts.map tw
noncomputable def Pt.ts:Pt->List Th
 | .th t=>[t]
 | .tu ts=>ts
 | .li ts=>ts
noncomputable def Pt.sq:Pt->Bool
 | .th _=>false
 |_=>true
noncomputable def thR:Th->Prop
 | .i n=>0<=n/\n<10^12
 | .s _=>True
theorem L7{n:Int}(h0:0<=n)(h:n<10^12):n.natAbs.log2<1920:=by
 have:n.natAbs<2^1920:=Qm (show n.natAbs<2^40 by lia) (Nat.pow_le_pow_right ∅ ∅);by_cases hz:n.natAbs=0
 ·rw[hz];decide
 exact(Nat.log2_lt hz).mpr this
theorem G0(h:thR t):CP M [t.d]=Zh (.str (tw t)):=by
 cases t with
 |i n=>exact if_pos (L7 h.1 h.2)
 |s x=>rfl
theorem NJ(p:Pt):DK (Zr A) M [p.d,.tup [.ty "tuple",.ty "list"]]=Zh (.bl p.sq):=by
 have h1:∀{s n:String}{b:Bool},s∈tyN->n∈tyN->(decide (s=n)||(decide (s="bool")&&decide (n="int")))=b->Zr A (.inl s) (.ty n)=Zh b:=λa b c=>js a b c;have key:∀{s:String}{b1 b2:Bool}{d:D},tyD M d=Zh (.inl s)->Zr A (.inl s) (.ty "tuple")=Zh b1->Zr A (.inl s) (.ty "list")=Zh b2->DK (Zr A) M [d,.tup [.ty "tuple",.ty "list"]]=Zh (.bl (b1||b2)):=λ{s b1 b2 d} e1 e2 e3=>by
  show(if zl [.ty "tuple",.ty "list"]=true then(tyD M d).bind _ else Zi)=_;rw[if_pos (show zl [D.ty "tuple",.ty "list"]=true from rfl),e1];show(pF (Zr A) (.inl s) [.ty "tuple",.ty "list"]).bind _=_;have:pF (Zr A) (.inl s) [.ty "tuple",.ty "list"]=Zh (b1||b2):=by
   show(Zr A (.inl s) (.ty "tuple")).bind _=_;rw[e2];cases b1
   ·show(Zr A (.inl s) (.ty "list")).bind _=_;rw[e3];cases b2<;>rfl
   rfl
  rw[this];rfl
 cases p with
 |th t=>
  cases t with
  |i n=>exact key (s:="int") rfl (h1 ∅ ∅ (b:=false) ∅) (h1 ∅ ∅ (b:=false) ∅)
  |s x=>exact key (s:="str") rfl (h1 ∅ ∅ (b:=false) ∅) (h1 ∅ ∅ (b:=false) ∅)
 |tu ts=>exact key (s:="tuple") rfl (h1 ∅ ∅ (b:=true) ∅) (h1 ∅ ∅ (b:=false) ∅)
 |li ts=>exact key (s:="list") rfl (h1 ∅ ∅ (b:=false) ∅) (h1 ∅ ∅ (b:=true) ∅)
def tB(A:Adr):RSt:=sIf (aB aT (aN (DK (Zr A)) (ag (dV 2) (ag (aN aE (ag (dC (.ty "tuple")) (ag (dC (.ty "list")) aK))) aK)))) (HV (dV 1) (aF (dIt true (dV 2)) 1 [] (gN 0) eW (aN CP (ag (dV 0) aK)))) (CQ (dV 1) (aN CP (ag (dV 2) aK)))
theorem Cv(h1:ro B M=Zh (.cell n))(h2:re B M=Zh (.lst es))(h3:M[n]?=Zh (.lst ds))(h4:ds.length+es.length<=1000):HV ro re B M=Zh (.nx B (M.set n (.lst (ds++es)))):=by
 unfold HV;rw[h1];show(re B M).bind _=_;rw[h2];show(match M[n]?,hV M (.lst es)with|some (.lst ds),Zh es=>_|_,_=>Zi)=_;rw[h3];exact if_pos (Qi h4 ∅)
theorem DB{a:Option D}{p:Pt}{acc:List Str}(hp:∀t∈p.ts,thR t)(hl:acc.length+p.ts.length<=100):tB A [a,Zh (.cell 0),Zh p.d] [.lst (acc.map D.str)]=Zh (.nx [a,Zh (.cell 0),Zh p.d] [.lst ((acc++p.ws).map D.str)]):=by
 have q:∀b,p.sq=b->aB aT (aN (DK (Zr A)) (ag (dV 2) (ag (aN aE (ag (dC (.ty "tuple")) (ag (dC (.ty "list")) aK))) aK))) [a,Zh (.cell 0),Zh p.d] [.lst (acc.map D.str)]=Zh b:=λb hb=>by
  have:=NJ (A:=A) (M:=[.lst (acc.map D.str)]) p;rw[hb]at this;unfold aB;rw[di (ds:=[p.d,.tup [.ty "tuple",.ty "list"]]) rfl this];rfl
 have cm:∀ts:List Th,(∀t∈ts,thR t)->cD (gN 0) eW (aN CP (ag (dV 0) aK)) [.lst (acc.map D.str)] [Zi] (ts.map Th.d)=Zh (ts.map λt=>D.str (tw t)):=λts h=>eB _ _ _ λt ht=>{_,rfl,rfl,di rfl (G0 (h t ht))};have mm:∀ts:List Th,(ts.map λt=>D.str (tw t))=(ts.map tw).map D.str:=λts=>by rw[QH];rfl
 cases p with
 |th t=>
  refine(b6 (q false rfl) (gk (n:=0) (ds:=acc.map D.str) (d:=.str (tw t)) rfl (di rfl (G0 (hp t (by simp[Pt.ts])))) rfl (by rw[P8];lia))).trans ?_;rw[show acc.map D.str++[D.str (tw t)]=(acc++Pt.ws (.th t)).map D.str by simp[Pt.ws]];rfl
 |tu ts=>
  have hl:acc.length+ts.length<=100:=hl;refine(eF (q true rfl) (Cv (n:=0) (ds:=acc.map D.str) (es:=ts.map λt=>D.str (tw t)) rfl (jz rfl (cm ts hp) (by rw[P8];exact Qi (show ts.length<=100 by lia) ∅)) rfl (by rw[P8,P8];lia))).trans ?_;rw[mm,<-Qz];rfl
 |li ts=>
  have hl:acc.length+ts.length<=100:=hl;refine(eF (q true rfl) (Cv (n:=0) (ds:=acc.map D.str) (es:=ts.map λt=>D.str (tw t)) rfl (jz rfl (cm ts hp) (by rw[P8];exact Qi (show ts.length<=100 by lia) ∅)) rfl (by rw[P8,P8];lia))).trans ?_;rw[mm,<-Qz];rfl
def wsA(ps:List Pt):List Str:=(ps.map Pt.ws).flatten
theorem Gj(p:Pt):p.ws.length=p.ts.length:=by cases p<;>simp[Pt.ws,Pt.ts]
theorem yx:∀(ps:List Pt)(acc:List Str)(e:Option D),(∀p∈ps,∀t∈p.ts,thR t)->acc.length+(wsA ps).length<=100->∃e',forL (gN 2) (tB A) (ps.map Pt.d) [a,Zh (.cell 0),e] [.lst (acc.map D.str)]=Zh (.nx [a,Zh (.cell 0),e'] [.lst ((acc++wsA ps).map D.str)])
 | [],acc,e,_,_=>{e,by show Zh (Out.nx _ _)=_;rw[show wsA []=[]from rfl,Qo]}
 |p::ps,acc,e,h,hl=>by
  have ew:wsA (p::ps)=p.ws++wsA ps:=rfl;rw[ew,Qj,Gj]at hl;obtain⟨e',ih⟩:=yx ps (acc++p.ws) (Zh p.d) (λq hq=>h q (Qa _ hq)) (by rw[Qj,Gj];lia);refine{e',Ad rfl (DB (h p Qb) ()) (ih.trans (by rw[ew,QC]))}
theorem LR{ws:List Str}(h:∀x∈ws,pY x):(ws.map (·.length)).sum<=12*ws.length:=by
 induction ws with
 |nil=>simp
 |cons x r ih=>
  have:=ih λy hy=>h y (Qa _ hy);have:=(h x Qb).1;rw[Qc,SF,Qd];lia
theorem Kj(T:Txt K mg A):∃F,Has P w K mg base 1 "_law_text" ["_law_row_here"] (spP K F)/\∀ps:List Pt,(∀p∈ps,∀t∈p.ts,thR t)->(wsA ps).length<=20->(∀x∈wsA ps,pY x)->F [.tup (ps.map Pt.d)]=Zh (.str (Txt.join " " (wsA ps))):=by
 refine{_,mkP T.zZ (k:=0) lz λ_ _ _ _ _ _ _ hr hu=>qsc (BE 1 lz.nd (rY aA)) (qsc (tQ (qit false (qv 0)) (qgn 2 lz.nd) (qs1 (qif (cZ (qcB Oc (N8 (it T)) T.a9 (aa (qv 2) (aa (dH (aa (qty T.lO) (aa (qty T.dN) aA))) aA)))) (qs1 (PZ (qv 1) (jc (N:=["_law_one"]) (own:=1) (fr:=[]) (cv.of (by kernel_rfl!)) (qit true (qv 2)) (λb=>qgn 0 (show U4 (["_law_one"]:List Ve) by decide+kernel)) (λb=>qf0) (λb=>qcT DN JN T.qi (aa (qv 0) aA)) (fA ∅)))) (qs1 (qg (qv 1) (qcT DN JN T.qi (aa (qv 2) aA))))))) (qs1 (bw (OJ bE (aa (qv 1) aA))))),λps h hl hw=>?_};obtain⟨e',e1⟩:=yx (A:=A) (a:=Zh (.tup (ps.map Pt.d))) ps [] Zi h (by rw[Sy];lia);rw[RD]at e1;have j1:Im [.lst ((wsA ps).map D.str)] (.str " ") [.cell 0]=Zh (.str (Txt.join " " (wsA ps))):=by
  show P6 (jI ((wsA ps).map D.str)) _=_;rw[Bp];refine if_pos ?_;have:=LR hw;show _+(wsA ps).length*1<=16777216;lia
 show P6 _ aU=_;refine(congrArg (P6 · aU) (show _=Zh (Out.rt (.str (Txt.join " " (wsA ps))) [.lst ((wsA ps).map D.str)])from ?_)).trans rfl;refine aR (B':=[Zh (.tup (ps.map Pt.d)),Zh (.cell 0),Zi]) (M':=[.lst []]) rfl (aR ((k9 (ds:=ps.map Pt.d) rfl).trans e1) ?_);unfold aX;rw[xv (o:=.str " ") (ds:=[.cell 0]) rfl rfl rfl j1];rfl
def ptR:Rw->List Pt
 | .hand x r=>[.th (.s "hand"),.th (.s x),.th (.s (rkW r))]
 | .lett x r=>[.th (.s "let"),.th (.s x),.th (.s (rkW r))]
 | .given x r z=>if z=0 then[.th (.s "given"),.th (.s x),.th (.s (rkW r))]else[.th (.s "given"),.th (.s x),.th (.s (rkW r)),.th (.i z)]
 | .own x z=>if z=0 then[.th (.s "own"),.th (.s x)]else[.th (.s "own"),.th (.s x),.th (.i z)]
 | .set x v=>[.th (.s "set"),.th (.s x),.tu (vlT v)]
 | .put x p v=>[.th (.s "put"),.th (.s x),.th p,.tu (vlT v)]
 | .send x v=>[.th (.s "send"),.th (.s x),.tu (vlT v)]
 | .say x v m=>[.th (.s "say"),.th (.s x),.tu (vlT v),.th (.s "by"),.th (.s m)]
 | .call x ts=>[.th (.s "call"),.th (.s x),.li ts]
where vlT:Vl->List Th
 | .one t=>[t]
 | .op a n b=>[a,.s (opW n),b]
 | .at x b=>[.s x,.s "at",b]
theorem oM(v:Vl):(ptR.vlT v).map Th.d=v.ds/\(ptR.vlT v).map tw=vw v:=by cases v<;>exact⟨rfl,rfl⟩
theorem PD(r:Rw):ldR r=.tup ((ptR r).map Pt.d):=by
 cases r with
 |given x r z=>unfold ldR ptR;dsimp only;split<;>rfl
 |own x z=>unfold ldR ptR;dsimp only;split<;>rfl
 |set x v=>show D.tup [_,_,.tup v.ds]=_;rw[<-(oM v).1];rfl
 |put x p v=>show D.tup [_,_,_,.tup v.ds]=_;rw[<-(oM v).1];rfl
 |send x v=>show D.tup [_,_,.tup v.ds]=_;rw[<-(oM v).1];rfl
 |say x v m=>show D.tup [_,_,.tup v.ds,_,_]=_;rw[<-(oM v).1];rfl
 |_=>rfl
theorem M7(r:Rw):wsA (ptR r)=b8 r:=by
 cases r with
 |given x r z=>unfold ptR b8 szW;dsimp only;split<;>rfl
 |own x z=>unfold ptR b8 szW;dsimp only;split<;>rfl
 |set x v=>show _::_::((ptR.vlT v).map tw++[])=_;rw[(oM v).2,Qo];rfl
 |put x p v=>show _::_::_::((ptR.vlT v).map tw++[])=_;rw[(oM v).2,Qo];rfl
 |send x v=>show _::_::((ptR.vlT v).map tw++[])=_;rw[(oM v).2,Qo];rfl
 |say x v m=>show _::_::((ptR.vlT v).map tw++_)=_;rw[(oM v).2];rfl
 |call x ts=>show _::_::(ts.map tw++[])=_;rw[Qo];rfl
 |_=>rfl
theorem MC{l:List (Str×Str)}{x k:Str}(hn:(l.map (·.1)).Nodup)(h:(x,k)∈l):l.lookup x=Zh k:=by
 induction l with
 |nil=>cases h
 |cons p r ih=>
  rw[Qc,Rn]at hn;rw[Qw];rcases P7.mp h with rfl|h
  ·simp
  have:(x==p.1)=false:=by
   rw[beq_eq_false_iff_ne];intro z;exact hn.1 (z▸Qr.mpr {(x,k),h,rfl})
  rw[this];exact ih hn.2 h
def oF(kinds:List (Str×Str))(dp:Option (List Str))(ks:List Str)(x:Str):Prop:=isNm x=true/\∃k,kinds.lookup x=Zh k/\k∈ks/\(k="part"->∃ps,dp=Zh ps/\x∈ps)
structure ScK(kinds:List (Str×Str))(dp:Option (List Str))(s:Sc):Prop where
 th:∀x∈s.th,oF kinds dp ["given","own","part"] x
 tg:∀x∈s.tg,oF kinds dp ["own","part"] x
 ls:∀x∈s.ls,oF kinds dp ["given list","own list"] x
 pu:∀x∈s.pu,oF kinds dp ["own list"] x
 hn:∀x∈s.hn,oF kinds dp ["hand"] x
 ms:∀x∈s.ms,oF kinds dp ["mark"] x
theorem ScK.put(h:ScK kinds dp s)(hk:∀p∈Zv r,kinds.lookup p.1=Zh p.2)(hn:isNm (hdN r)=true):ScK kinds dp (s.put r):=by
 have ap:∀{l:List Str}{x:Str}{ks:List Str},(∀y∈l,oF kinds dp ks y)->oF kinds dp ks x->∀y∈l++[x],oF kinds dp ks y:=λh1 h2 y hy=>by
  rcases QD.mp hy with hy|hy
  ·exact h1 y hy
  rw[Qg.mp hy];exact h2
 have kd:∀{x k:Str}{ks:List Str},isNm x=true->kinds.lookup x=Zh k->k∈ks->k≠"part"->oF kinds dp ks x:=λh1 h2 h3 h4=>{h1,_,h2,h3,λz=>absurd z h4};cases r with
 |hand x r=>exact{h.th,h.tg,h.ls,h.pu,ap h.hn (kd (k:="hand") hn (hk (x,"hand") (by simp[Zv])) (by simp) ∅),h.ms}
 |lett x r=>exact{h.th,h.tg,h.ls,h.pu,h.hn,ap h.ms (kd (k:="mark") hn (hk (x,"mark") (by simp[Zv])) (by simp) ∅)}
 |given x r z=>
  unfold Sc.put;dsimp only;split
  ·rename_i hz;have:=hk (x,"given") (by simp[Zv,hz]);exact{ap h.th (kd (k:="given") hn this (by simp) ∅),h.tg,h.ls,h.pu,h.hn,h.ms}
  rename_i hz;have:=hk (x,"given list") (by simp[Zv,hz]);exact{h.th,h.tg,ap h.ls (kd (k:="given list") hn this (by simp) ∅),h.pu,h.hn,h.ms}
 |own x z=>
  unfold Sc.put;dsimp only;split
  ·rename_i hz;have:=hk (x,"own") (by simp[Zv,hz]);exact{ap h.th (kd (k:="own") hn this (by simp) ∅),ap h.tg (kd (k:="own") hn this (by simp) ∅),h.ls,h.pu,h.hn,h.ms}
  rename_i hz;have:=hk (x,"own list") (by simp[Zv,hz]);exact{h.th,h.tg,ap h.ls (kd (k:="own list") hn this (by simp) ∅),ap h.pu (kd (k:="own list") hn this (by simp) ∅),h.hn,h.ms}
 |set=>exact h
 |put=>exact h
 |send=>exact h
 |say=>exact h
 |call=>exact h
theorem ScK.fold:∀{hs:List Rw}{s:Sc},ScK kinds dp s->(∀r∈hs,(∀p∈Zv r,kinds.lookup p.1=Zh p.2)/\isNm (hdN r)=true)->ScK kinds dp (hs.foldl Sc.put s)
 | [],s,h,_=>h
 |r::hs,s,h,hr=>ScK.fold (hs:=hs) (h.put (hr r Qb).1 (hr r Qb).2) λq hq=>hr q (Qa _ hq)
theorem nh(h:oF kinds dp ks x)(hu:srv.lookup u=Zh ks)(hm:u="mark"->x∉l):Dr kinds l dp x u=true:=by
 obtain⟨_,k,h1,h2,h3⟩:=h;unfold Dr uq;dsimp only;rw[h1];dsimp only;have e2:(decide (u="mark")&&decide (x∈l))=false:=by
  by_cases hk:u="mark"
  ·simp[hm hk]
  simp[hk]
 rw[e2,hu];cases dp with
 |none=>
  by_cases hk:k="part"
  ·obtain⟨_,z,_⟩:=h3 hk;cases z
  simp[hk,h2]
 |some ps=>
  by_cases hk:k="part"
  ·obtain⟨_,z,hx⟩:=h3 hk;cases z;have h2':("part":Str)∈ks:=hk▸h2;simp[hk,h2',hx]
  simp[hk,h2]
section
variable{kinds:List (Str×Str)}{dp:Option (List Str)}{s:Sc}(k:ScK kinds dp s)
include k
theorem vP(h:oi s t):sk t:=by
 cases t with
 |i n=>exact h
 |s x=>exact(k.th x h).1
theorem rN:∀{ts:List Th},(∀t∈ts,oi s t)->∀p∈thU ts,Dr kinds l dp p.1 p.2=true:=λ{ts} h p hp=>by
 unfold thU at hp;obtain⟨t,ht,e⟩:=R0.mp hp;cases t with
 |i n=>cases e
 |s x=>
  cases e;exact nh (u:="thing") (k.th x (h _ ht)) rfl (λz=>absurd z ∅)
theorem BX(h:qV s v):yO v:=by
 cases v with
 |one t=>exact vP k h
 |op a n b=>exact⟨vP k h.1,vP k h.2⟩
 |«at» x b=>exact{(k.ls x h.1).1,vP k h.2}
theorem xD(h:qV s v):∀p∈vlU v,Dr kinds l dp p.1 p.2=true:=λp hp=>by
 cases v with
 |one t=>exact rN k (ts:=[t]) (λq hq=>by rw[Qg.mp hq];exact h) p hp
 |op a n b=>exact rN k (ts:=[a,b]) (λq hq=>by
   rcases P7.mp hq with rfl|hq
   ·exact h.1
   rw[Qg.mp hq];exact h.2) p hp
 |«at» x b=>
  rcases P7.mp hp with rfl|hp
  ·exact nh (u:="list") (k.ls x h.1) rfl (λz=>absurd z ∅)
  exact rN k (ts:=[b]) (λq hq=>by rw[Qg.mp hq];exact h.2) p hp
theorem rw_use(h:AG s dd r):∀p∈ZG r,Dr kinds l dp p.1 p.2=true:=λp hp=>by
 cases r with
 |set x v=>
  rcases P7.mp hp with rfl|hp
  ·exact nh (u:="place") (k.tg x h.1) rfl (λz=>absurd z ∅)
  exact xD k h.2 p hp
 |put x q v=>
  rcases P7.mp hp with rfl|hp
  ·exact nh (u:="put") (k.pu x h.1) rfl (λz=>absurd z ∅)
  rcases QD.mp hp with hp|hp
  ·exact rN k (ts:=[q]) (λt ht=>by rw[Qg.mp ht];exact h.2.1) p hp
  exact xD k h.2.2 p hp
 |send x v=>
  rcases P7.mp hp with rfl|hp
  ·exact nh (u:="hand") (k.hn x h.1) rfl (λz=>absurd z ∅)
  exact xD k h.2 p hp
 |call x ts=>exact rN k h.2 p hp
 |_=>exact h.elim
theorem rw_ok(h:AG s dd r)(hdd:∀x ps,dd=Zh (x,ps)->isNm x=true/\ps.length<=4):oq r:=by
 cases r with
 |set x v=>exact{(k.tg x h.1).1,BX k h.2}
 |put x q v=>exact{(k.pu x h.1).1,vP k h.2.1,BX k h.2.2}
 |send x v=>exact{(k.hn x h.1).1,BX k h.2}
 |call x ts=>
  obtain⟨⟨ps,e,l⟩,ht⟩:=h;obtain⟨h1,h2⟩:=hdd x ps e;exact{h1,(),λt m=>vP k (ht t m)}
 |_=>exact h.elim
theorem rw_nh(h:AG s dd r):kwR r∉hdW/\∀x v m,r≠ .say x v m:=by
 cases r with
 |set x v=>exact{show("set":Str)∉hdW by decide,λ_ _ _ z=>by cases z}
 |put x q v=>exact{show("put":Str)∉hdW by decide,λ_ _ _ z=>by cases z}
 |send x v=>exact{show("send":Str)∉hdW by decide,λ_ _ _ z=>by cases z}
 |call x ts=>exact{show("call":Str)∉hdW by decide,λ_ _ _ z=>by cases z}
 |_=>exact h.elim
theorem Bu(hdd:∀x ps,dd=Zh (x,ps)->isNm x=true/\ps.length<=4/\ended.lookup x=Zh (ps.length:Int)){ms rs ms'}(h:eS s dd ms rs ms'):∀l:List Str,(∀m∈ms,m∉l)->ms.Nodup->(∀m∈ms,oF kinds dp ["mark"] m)->Zw kinds dp ended l rs/\(∀m∈ms',m∉lJ l rs)/\ms'.Nodup/\∀m∈ms',m∈ms:=by
 induction h with
 |nil ms=>exact λl h1 h2 h3=>{.nil l,h1,h2,λm hm=>hm}
 |@row ms ms' r rs hr t ih=>
  intro l h1 h2 h3;obtain⟨n1,n2⟩:=rw_nh k hr;obtain⟨b1,b2,b3,b4⟩:=ih l h1 h2 h3;have e:gX l r=l:=Cj n2;refine{.cons (rw_ok k hr λx ps e=>{(hdd x ps e).1,(hdd x ps e).2.1}) n1 (rw_use k hr) (λx ts e=>?_) (λx v m e=>absurd e (n2 x v m)) (e.symm▸b1),?_,b3,b4}
  ·subst e;obtain⟨⟨ps,e1,l1⟩,_⟩:=hr;rw[(hdd x ps e1).2.2,l1]
  show ∀m∈ms',m∉lJ (gX l r) rs;rw[e];exact b2
 |@say ms ms' x m v rs hx hv t ih=>
  intro l h1 h2 h3;have hm:m∉l:=h1 m (by simp);have kd:=h3 m (by simp);rw[Q8]at h2;obtain⟨b1,b2,b3,b4⟩:=ih (l++[m]) (λq hq z=>by
   rcases QD.mp z with z|z
   ·exact h1 q (Q6 _ hq) z
   exact h2.2.2 q hq m (by simp) (Qg.mp z)) h2.1 λq hq=>h3 q (Q6 _ hq)
  refine{.cons {(k.tg x hx).1,BX k hv,kd.1} (show("say":Str)∉hdW by decide) (λp hp=>?_) (λx ts e=>by cases e) (λx' v' m' e=>by cases e;exact hm) b1,b2,b3,λq hq=>Q6 _ (b4 q hq)};rcases P7.mp hp with rfl|hp
  ·exact nh (u:="place") (k.tg x hx) rfl (λz=>absurd z ∅)
  rcases QD.mp hp with hp|hp
  ·exact xD k hv p hp
  rw[Qg.mp hp];exact nh (u:="mark") kd rfl (λ_=>hm)
end
seal PE PA PS PSs PT PW
theorem OC:isD (Zr A) M [.int x,.ty "bool"]=Zh (.bl false):=iq rfl (js ∅ ∅ ∅)
theorem N7:isD (Zr A) M [.tup x,.ty "tuple"]=Zh (.bl true):=iq rfl (js ∅ ∅ ∅)
theorem Ni:isD (Zr A) M [.lst x,.ty "list"]=Zh (.bl true):=iq rfl (js ∅ ∅ ∅)
theorem EU(h:M[a]?=Zh (.lst xs)):isD (Zr A) M [.cell a,.ty "list"]=Zh (.bl true):=iq (t:=.inl "list") (by unfold tyD;simp only[h]) (js ∅ ∅ ∅)
theorem rH(T:Txt K mg A):∃F,Has P w K mg base 1 "_law_whole" ["_law_found","_law_due"] (spP K F)/\∀n:Int,F [.int n,.int n]=Zh (.bl true):=by
 refine{_,mkP T.vY (k:=0) xS λ_ _ _ _ _ _ _ hr hu=>qs1 (bw (dX (qcB bB (ck (it T)) T.a9 (aa (qv 0) (aa (qty T.ql) aA))) (dX (B5 (qcB bB (ck (it T)) T.a9 (aa (qv 0) (aa (qty T.x9) aA)))) (gW (gU (oeq hu) Zo (qv 0) (qv 1)))))),λn=>?_};simp?[fnP,yk,OC]
def Sq(M:MS)(d:D)(xs:List D):Prop:=eP M [d]=Zh (.int (xs.length:Nat))/\∀i,ixD M d (.int i)=atI xs i
theorem F0:Sq M (.tup xs) xs:={rfl,λi=>bY}
theorem pG:Sq M (.lst xs) xs:={bC,λi=>bg}
theorem FQ(h:M[a]?=Zh (.lst xs)):Sq M (.cell a) xs:={x3 h,λi=>ni h}
theorem tF{α:Type}{l:List α}{i:Nat}{x:α}(h:l[i]?=Zh x):atI l (0+(i:Int))=Zh x:=by
 have hi:=(Qh.mp h).1;unfold atI ixN;rw[if_pos (),if_pos (),SK];exact h
theorem Bm{done rest:List Nat}{x n:Nat}(h:done++x::rest=UJ n):x<n:=by
 have:x∈UJ n:=by rw[<-h];simp
 exact Rk.mp this
theorem wb(T:Txt K mg A):∃f,Has P w K mg base 2 "_law_parts" ["_law_found","_law_due"] (spI K (de f))/\∀M fd dd (ts:List Th),Sq M fd (ts.map Th.d)->Sq M dd (ts.map Th.d)->ts.length<=1000->f [fd,dd] M=Zh (.bl true):=by
 obtain⟨Fw,SO,W1⟩:=@rH P w _ _ base _ T;refine{_,qh (mkI T.vd (k:=1) oh λ_ _ _ _ _ _ _ hr hu=>qsc (qif (bo (one hu) su (qcB cb cO T.cE (aa (qv 0) aA)) (qcB cb cO T.cE (aa (qv 1) aA))) (qs1 (bw qbl)) qs0) (qsc (tQ (qF T.eK (aa (qcB cb cO T.cE (aa (qv 1) aA)) aA)) (qgn 2 oh.nd) (qs1 (qif (cZ (qcB bB (ck (it T)) T.a9 (aa (qix hu (qv 1) (qv 2)) (aa (qty T.qi) aA)))) (qs1 (qif (QW.pt (ja (eG (cZ (qcB bB (ck (it T)) T.a9 (aa (qix hu (qv 0) (qv 2)) (aa (qty T.qi) aA))))) (eN (bo (one hu) su (qix hu (qv 0) (qv 2)) (qix hu (qv 1) (qv 2)))))) (qs1 (bw qbl)) qs0)) (qs1 (qif (eG (cZ (bz SO hr (aa (qix hu (qv 0) (qv 2)) (aa (qix hu (qv 1) (qv 2)) aA))))) (qs1 (bw qbl)) qs0))))) (qs1 (bw qbl)))),λM fd dd ts h1 h2 hl=>cT ?_ aG};obtain⟨l1,i1⟩:=h1;obtain⟨l2,i2⟩:=h2;rw[P8]at l1 l2;obtain⟨B',M',e1,x,rfl,rfl⟩:=je (g:=gN 2) (rb:=sIf (aB aT (aN (isD (Zr A)) (ag (dOp ixD (dV 1) (dV 2)) (ag (dC (.ty "str")) aK)))) (sIf (dOr (aV (aB aT (aN (isD (Zr A)) (ag (dOp ixD (dV 0) (dV 2)) (ag (dC (.ty "str")) aK))))) (aB aC (dOp (eqD true) (dOp ixD (dV 0) (dV 2)) (dOp ixD (dV 1) (dV 2))))) (aX (dC (.bl false))) aQ) (sIf (aV (aB aT (aN (aO Fw) (ag (dOp ixD (dV 0) (dV 2)) (ag (dOp ixD (dV 1) (dV 2)) aK))))) (aX (dC (.bl false))) aQ)) (λi:Nat=>D.int (0+(i:Nat)))
  (λ_ B M'=>∃x,B=[Zh fd,Zh dd,x]/\M=M') (UJ ts.length)
  (λdone i rest B M' hx hI=>by
   obtain⟨x,rfl,rfl⟩:=hI;have hi:=Bm hx;have hm:(ts.map Th.d)[i]?=Zh (ts[i].d):=by rw[Qu,Qe hi];rfl
   have a1:=i1 (0+(i:Int));have a2:=i2 (0+(i:Int));rw[tF hm]at a1 a2;refine{_,[Zh fd,Zh dd,Zh (.int (0+(i:Nat)))],M,rfl,?_,_,rfl,rfl};generalize (0+(i:Int))=j at *;cases ht:ts[i]with
   |i n=>
    rw[ht]at a1 a2;have w1:=W1 n;simp?[a1,a2,Th.d,J7,w1]
   |s y=>
    rw[ht]at a1 a2;simp?[a1,a2,Th.d,JR]) (UJ ts.length) [] [Zh fd,Zh dd,Zi] M rfl ⟨Zi,rfl,rfl⟩
 have r1:rg1 (ag (aN eP (ag (dV 1) aK)) aK) [Zh fd,Zh dd,Zi] M=Zh (jl 0 ts.length):=xq (Zj (di rfl l2) rfl) ();show P6 _ bT=_;refine(congrArg (P6 · bT) (show _=Zh (Out.rt (.bl true) M)from ?_)).trans rfl;refine aR (B':=[Zh fd,Zh dd,Zi]) (M':=M) (b6 ?_ rfl) (aR ((k9 (ds:=(UJ ts.length).map λi:Nat=>D.int (0+(i:Nat))) r1).trans e1) rfl);simp?[l1,l2]
theorem wG(T:Txt K mg A):∃F,Has P w K mg base 3 "_law_value_told" ["_law_found","_law_due"] (spP K F)/\∀v:Vl,F [v.d,v.d]=Zh (.bl true):=by
 obtain⟨fp,S5,P1⟩:=@wb P w _ _ base _ T;refine{_,mkP T.ku (k:=2) oX λ_ _ _ _ _ _ _ hr hu=>qs1 (bw (dX (qcB bB (ck (it T)) T.a9 (aa (qv 0) (aa (qty T.lO) aA))) (gW (cA S5 hr (aa (qv 0) (aa (qv 1) aA)))))),λv=>?_};have hd:v.d=.tup ((ptR.vlT v).map Th.d):=by rw[(oM v).1];rfl
 have p1:=P1 [] v.d v.d (ptR.vlT v) (hd▸F0) (hd▸F0) (by cases v<;>simp[ptR.vlT]);rw[hd]at p1⊢;show P6 _ _=_;generalize (ptR.vlT v).map Th.d=zs at *;simp?[N7,p1]
theorem D2(h:uT r):Ja M (.lst [.str "open",.str "house",.str "closed"]) [.str (rkW r)]=Zh (.int r):=by
 rcases h with rfl|rfl|rfl<;>rfl
theorem yT(T:Txt K mg A):∃F,Has P w K mg base 2 "_law_head_told" ["_law_row_here","_law_due"] (spP K F)/\∀r n,hdB r->F [Rw.d A n r,ldR r]=Zh (.bl true):=by
 obtain⟨Fw,SO,W1⟩:=@rH P w _ _ base _ T;refine{_,mkP T.l9 (k:=1) cY λ_ _ _ _ _ _ _ hr hu=>qsc (cG 2 cY.nd a8) (qsc (qif (bo (one hu) su (qix hu (qv 1) a8) bE) (qs1 (cG 2 cY.nd (Je (cF (aa bE (aa bE (aa bE aA)))) (aa (qix hu (qv 1) a8) aA)))) qs0) (qsc (cG 3 cY.nd a8) (qsc (qif (cZ (qcB bB (ck (it T)) T.a9 (aa (qix hu (qv 1) (we a8)) (aa (qty T.ql) aA)))) (qs1 (cG 3 cY.nd (qix hu (qv 1) (we a8)))) qs0) (qsc (qif (bo (oeq hu) Zo (qix hu (qv 1) a8) bE) (qs1 (bw (dX (qcB bB (ck (it T)) T.a9 (aa (qv 0) (aa (cX T.eE.mg) aA))) (dX (gU (oeq hu) Zo (bJ (bZ T) (qv 0)) (qix hu (qv 1) a8)) (gW (bz SO hr (aa (bJ (lN T) (qv 0)) (aa (qv 2) aA)))))))) qs0) (qsc (qif (bo (oeq hu) Zo (qix hu (qv 1) a8) bE) (qs1 (bw (dX (qcB bB (ck (it T)) T.a9 (aa (qv 0) (aa (cX T.fJ.mg) aA))) (dX (gU (oeq hu) Zo (bJ (bZ T) (qv 0)) (qix hu (qv 1) a8)) (gW (bz SO hr (aa (bJ (lN T) (qv 0)) (aa (qv 2) aA)))))))) qs0) (qsc (qif (bo (oeq hu) Zo (qix hu (qv 1) a8) bE) (qs1 (bw (dX (qcB bB (ck (it T)) T.a9 (aa (qv 0) (aa (cX T.fG.mg) aA))) (dX (gU (oeq hu) Zo (bJ (bZ T) (qv 0)) (qix hu (qv 1) a8)) (gW (bz SO hr (aa (bJ (lM T) (qv 0)) (aa (qv 3) aA)))))))) qs0) (qsc (cG 4 cY.nd (dX (qcB bB (ck (it T)) T.a9 (aa (qv 0) (aa (cX T.dy.mg) aA))) (gW (gU (oeq hu) Zo (bJ (bZ T) (qv 0)) (qix hu (qv 1) a8))))) (qs1 (bw (dX (qv 4) (dX (bz SO hr (aa (bJ (lN T) (qv 0)) (aa (qv 2) aA))) (gW (bz SO hr (aa (bJ (lM T) (qv 0)) (aa (qv 3) aA))))))))))))))),λr n hb=>?_};have il:∀{M:MS}{a b c:D},xy M (.lst [a,b,c])=true:=rfl;show P6 _ _=_;cases r with
 |hand x r=>
  have w1:=W1 r;have ri:=D2 (r:=r) hb (M:=[]);dsimp?[ldR,Rw.d,bY,at0,at1,at2,lm3,vy,bL,iN,Hr,w1,ri,il,g7,km]
 |lett x r=>
  have w1:=W1 r;have ri:=D2 (r:=r) hb (M:=[]);dsimp?[ldR,Rw.d,bY,at0,at1,at2,lm3,vy,bL,iN,Hr,w1,ri,il,g7,km]
 |given x r z=>
  have w1:=W1 r;have w2:=W1 z;have ri:=D2 (r:=r) hb.1 (M:=[]);by_cases hz:z=0
  ·subst hz;dsimp?[ldR,Rw.d,bY,at0,at1,at2,lm3,vy,bL,iN,Hr,F7,w1,w2,ri,il,g7,km]
  dsimp?[ldR,hz,Rw.d,bY,at0,at1,at2,lm4,yk,bL,iN,Hr,F7,w1,w2,ri,il,g7,km]
 |own x z=>
  have w2:=W1 z;by_cases hz:z=0
  ·subst hz;dsimp?[ldR,Rw.d,bY,at0,at1,lm2,vy,bL,iN,Gm,w2,km]
  dsimp?[ldR,hz,Rw.d,bY,at0,at1,lm3,yk,bL,iN,Gm,w2,km]
 |_=>exact hb.elim
theorem sn{k w:Str}{a:D}{ds:List D}{U:SD}{r u:RSt}{M:MS}{o:Option Out}(q:u (Zh a::Zh (.tup (.str k::ds))::U) M=o)(h:k≠w:=by decide):aP (sIf (aB aC (dOp (eqD false) (dOp ixD (dV 1) (dC (.int 0))) (dC (.str w)))) r aQ) u (Zh a::Zh (.tup (.str k::ds))::U) M=o:=Gx (by simp[aB,dOp,dV,dC,bY,at0,eq_str,aC,h]) q
theorem sy(q:r (Zh a::Zh (.tup (.str k::ds))::U) M=Zh (.rt d M')):aP (sIf (aB aC (dOp (eqD false) (dOp ixD (dV 1) (dC (.int 0))) (dC (.str k)))) r aQ) u (Zh a::Zh (.tup (.str k::ds))::U) M=Zh (.rt d M'):=F8 (by simp[aB,dOp,dV,dC,bY,at0,eq_str,aC]) q
theorem AZ(T:Txt K mg A):∃F,Has P w K mg base 4 "_law_row_told" ["_law_row_here","_law_due"] (spP K F)/\∀r n,kwR r∉hdW->(∀x ts,r=.call x ts->ts.length<=1000)->F [Rw.d A n r,ldR r]=Zh (.bl true):=by
 obtain⟨fp,S5,P1⟩:=@wb P w _ _ base _ T;obtain⟨Fv,SW,V1⟩:=@wG P w _ _ base _ T;refine{_,mkP T.nZ (k:=3) d6 λ_ _ _ _ _ _ _ hr hu=>qsc (qif (bo (oeq hu) Zo (qix hu (qv 1) a8) bE) (qs1 (bw (dX (qcB bB (ck (it T)) T.a9 (aa (qv 0) (aa (cX T.fH.mg) aA))) (dX (gU (oeq hu) Zo (bJ (bZ T) (qv 0)) (qix hu (qv 1) a8)) (gW (bz SW hr (aa (bJ (dA T) (qv 0)) (aa (qix hu (qv 1) a8) aA)))))))) qs0) (qsc (qif (bo (oeq hu) Zo (qix hu (qv 1) a8) bE) (qs1 (bw (dX (qcB bB (ck (it T)) T.a9 (aa (qv 0) (aa (cX T.eA.mg) aA))) (dX (gU (oeq hu) Zo (bJ (bZ T) (qv 0)) (qix hu (qv 1) a8)) (gW (bz SW hr (aa (bJ (dA T) (qv 0)) (aa (qix hu (qv 1) a8) aA)))))))) qs0) (qsc (qif (bo (oeq hu) Zo (qix hu (qv 1) a8) bE) (qsc (cG 2 d6.nd (dX (qcB bB (ck (it T)) T.a9 (aa (qv 0) (aa (cX T.eJ.mg) aA))) (dX (gU (oeq hu) Zo (bJ (bZ T) (qv 0)) (qix hu (qv 1) a8)) (gW (bz SW hr (aa (bJ (dA T) (qv 0)) (aa (qix hu (qv 1) a8) aA))))))) (qs1 (bw (dX (qv 2) (gW (cA S5 hr (aa (cF (aa (bJ (uh T) (qv 0)) aA)) (aa (cF (aa (qix hu (qv 1) a8) aA)) aA)))))))) qs0) (qsc (qif (bo (oeq hu) Zo (qix hu (qv 1) a8) bE) (qsc (cG 2 d6.nd (dX (qcB bB (ck (it T)) T.a9 (aa (qv 0) (aa (cX T.d5.mg) aA))) (dX (gU (oeq hu) Zo (bJ (bZ T) (qv 0)) (qix hu (qv 1) a8)) (gW (bz SW hr (aa (bJ (dA T) (qv 0)) (aa (qix hu (qv 1) a8) aA))))))) (qs1 (bw (dX (qv 2) (gW (gU (oeq hu) Zo (bJ (rB T) (qv 0)) (qix hu (qv 1) a8))))))) qs0) (qsc (cG 2 d6.nd (dX (qcB bB (ck (it T)) T.a9 (aa (qv 0) (aa (cX T.dB.mg) aA))) (dX (gU (oeq hu) Zo (bJ (bZ T) (qv 0)) (qix hu (qv 1) a8)) (gW (qcB bB (ck (it T)) T.a9 (aa (bJ (iY T) (qv 0)) (aa (qty T.dN) aA))))))) (qs1 (bw (dX (qv 2) (gW (cA S5 hr (aa (bJ (iY T) (qv 0)) (aa (qix hu (qv 1) a8) aA))))))))))),λr n hb hc=>(congrArg (P6 · aU) (show _=Zh (Out.rt (.bl true) [])from ?_)).trans rfl};cases r with
 |set x v=>
  have v1:=V1 v;have vp:=dD v;refine sy ?_;dsimp?[ldR,Rw.d,bY,at0,at1,at2,bL,iN,v9,v1,vp]
 |send x v=>
  have v1:=V1 v;have vp:=dD v;refine sn (sy ?_);dsimp?[ldR,Rw.d,bY,at0,at1,at2,bL,iN,v9,v1,vp]
 |put x p v=>
  have v1:=V1 v;have vp:=dD v;have p1:=P1 [] (.lst [p.d]) (.lst [p.d]) [p] pG pG (by simp);refine sn (sn (sy ?_));dsimp?[ldR,Rw.d,bY,at0,at1,at2,at3,bL,iN,JL,Nc,v1,vp,p1]
 |say x v m=>
  have v1:=V1 v;have vp:=dD v;have a4:∀{a b c d e:D},atI [a,b,c,d,e] 4=Zh e:=rfl;refine sn (sn (sn (sy ?_)));dsimp?[ldR,Rw.d,bY,at0,at1,at2,a4,bL,iN,v9,KN,v1,vp]
 |call x ts=>
  have p1:=P1 [] (.lst (ts.map Th.d)) (.lst (ts.map Th.d)) ts pG pG (hc x ts rfl);refine sn (sn (sn (sn (?_))));dsimp?[ldR,Rw.d,bY,at0,at1,at2,bL,iN,Lx,Ni,p1]
 |hand=>exact absurd (show("hand":Str)∈hdW by decide) hb
 |given=>exact absurd (show("given":Str)∈hdW by decide) hb
 |own=>exact absurd (show("own":Str)∈hdW by decide) hb
 |lett=>exact absurd (show("let":Str)∈hdW by decide) hb
theorem Kk:bK false M (.str x) (.tup [.str "hand",.str "given",.str "own",.str "let"])=Zh (.bl (decide (x∈hdW))):=by
 show inD false M (.str x) (.tup [.str "hand",.str "given",.str "own",.str "let"])=_;exact nT (neg:=false) (ps:=hdW) rfl
theorem Pp(r:Rw):ixD M (ldR r) (.int 0)=Zh (.str (kwR r)):=by
 cases r with
 |given x r z=>unfold ldR;dsimp only;split<;>rw[bY,at0]<;>rfl
 |own x z=>unfold ldR;dsimp only;split<;>rw[bY,at0]<;>rfl
 |_=>unfold ldR;rw[bY,at0];rfl
theorem wN(r:Rw):bP (ldR r)=true:=by
 cases r with
 |given x r z=>unfold ldR;dsimp only;split<;>simp[ao,ae,af,ak,ai]
 |own x z=>unfold ldR;dsimp only;split<;>simp[ao,ae,af,ak,ai]
 |hand=>simp[ldR,ao,ae,af,ak,ai]
 |lett=>simp[ldR,ao,ae,af,ak,ai]
 |set x v=>simp[ldR,ao,ae,af,ak,dD]
 |put x p v=>simp[ldR,ao,ae,af,ak,dD,dO]
 |send x v=>simp[ldR,ao,ae,af,ak,dD]
 |say x v m=>simp[ldR,ao,ae,af,ak,dD]
 |call x ts=>simp[ldR,ao,ae,af,ak,aj,lx]
theorem ye(r:Rw)(n:Int):bP (Rw.d A n r)=true:=by
 cases r<;>simp[Rw.d,iu,ae,af,ak,ai,dD,dO,aj,lx]
theorem Mj(h:∀C∈Nz A,C∈cs):cf "number" cs M (Rw.d A n r)=Zh (.int n):=by
 cases r<;>exact NL (h _ (by simp))
theorem By:∀{n i:Nat}{rs:List Rw}{r:Rw},rs[i]?=Zh r->(Zq n rs)[i]?=Zh (((n+i:Nat):Int),r)
 |n,0,q::rs,r,h=>by cases h;rfl
 |n,i+1,q::rs,r,h=>by
  have h:rs[i]?=Zh r:=by simpa using h
  show(Zq (n+1) rs)[i]?=_;rw[By (n:=n+1) h,show n+1+i=n+(i+1) by lia]
def Dv(r:Rw):Prop:=(kwR r∈hdW->hdB r)/\∀x ts,r=.call x ts->ts.length<=1000
theorem K6(T:Txt K mg A):∃f,Has P w K mg base 5 "_law_told" ["_law_rows_here","_law_due","_law_number"] (spI K (de f))/\∀M a (rs:List Rw) (n:Nat),M[a]?=Zh (.lst ((Zq n rs).map (rwD A)))->(∀r∈rs,Dv r)->rs.length<=1000->f [.cell a,.lst (rs.map ldR),.int (n:Int)] M=Zh (.bl true):=by
 obtain⟨Fw,SO,W1⟩:=@rH P w _ _ base _ T;obtain⟨Fh,Tz,H1⟩:=@yT P w _ _ base _ T;obtain⟨Fr,TX,R1⟩:=@AZ P w _ _ base _ T;refine{_,qh (mkI T.zS (k:=4) g9 λ_ _ _ _ _ _ _ hr hu=>qsc (qif (QW.pt (ja (eG (cZ (qcB bB (ck (it T)) T.a9 (aa (qv 0) (aa (qty T.dN) aA))))) (eN (bo (one hu) su (qcB cb cO T.cE (aa (qv 0) aA)) (qcB cb cO T.cE (aa (qv 1) aA)))))) (qs1 (bw qbl)) qs0) (qsc (tQ (qF T.eK (aa (qcB cb cO T.cE (aa (qv 1) aA)) aA)) (qgn 3 g9.nd) (qsc (qif (bo (j8 hu) kz (qix hu (qix hu (qv 1) (qv 3)) a8) (dH (aa bE (aa bE (aa bE (aa bE aA))))) (by with_unfolding_all rfl)) (qs1 (cG 4 g9.nd (bz Tz hr (aa (qix hu (qv 0) (qv 3)) (aa (qix hu (qv 1) (qv 3)) aA))))) (qs1 (cG 4 g9.nd (bz TX hr (aa (qix hu (qv 0) (qv 3)) (aa (qix hu (qv 1) (qv 3)) aA)))))) (qs1 (qif (QW.pt (ja (eG (cZ (qv 4))) (eN (eG (cZ (bz SO hr (aa (bJ (pB T) (qix hu (qv 0) (qv 3))) (aa (qop cx Zn (qv 2) (qv 3)) aA)))))))) (qs1 (bw qbl)) qs0)))) (qs1 (bw qbl)))),λM a rs n h hg hl=>cT ?_ aG};obtain⟨l1,i1⟩:=FQ h;obtain⟨l2,i2⟩:=pG (M:=M) (xs:=rs.map ldR);rw[P8,dZ]at l1;rw[P8]at l2;obtain⟨B',M',e1,x,y,rfl,rfl⟩:=je (g:=gN 3) (rb:=aP (sIf (aB aC (dOp (bK false) (dOp ixD (dOp ixD (dV 1) (dV 3)) (dC (.int 0))) (aN aE (ag (dC (.str "hand")) (ag (dC (.str "given")) (ag (dC (.str "own")) (ag (dC (.str "let")) aK))))))) (aS 4 (aN (aO Fh) (ag (dOp ixD (dV 0) (dV 3)) (ag (dOp ixD (dV 1) (dV 3)) aK)))) (aS 4 (aN (aO Fr) (ag (dOp ixD (dV 0) (dV 3)) (ag (dOp ixD (dV 1) (dV 3)) aK))))) (sIf (dOr (aV (aB aT (dV 4))) (aV (aB aT (aN (aO Fw) (ag (dUn (cf "number" [A.Row,A.bp,A.bj,A.bF,A.bH,A.bG,A.bA,A.bq,A.bu,A.bh,A.bO,A.b5,A.bt,A.a6]) (dOp ixD (dV 0) (dV 3))) (ag (dOp en (dV 2) (dV 3)) aK)))))) (aX (dC (.bl false))) aQ)) (λi:Nat=>D.int (0+(i:Nat)))
  (λ_ B M'=>∃x y,B=[Zh (.cell a),Zh (.lst (rs.map ldR)),Zh (.int (n:Int)),x,y]/\M=M') (UJ rs.length)
  (λdone i rest B M' hx hI=>by
   obtain⟨x,y,rfl,rfl⟩:=hI;have hi:=Bm hx;have hri:=Qe hi;generalize hr:rs[i]=r at hri;have gr:=hg r (by rw[<-hr];exact Ri hi);have m1:((Zq n rs).map (rwD A))[i]?=Zh (Rw.d A ((n+i:Nat):Int) r):=by rw[Qu,By hri];rfl
   have m2:(rs.map ldR)[i]?=Zh (ldR r):=by rw[Qu,hri];rfl
   have a1:=i1 (0+(i:Int));have a2:=i2 (0+(i:Int));rw[tF m1]at a1;rw[tF m2]at a2;have hf:cf "number" [A.Row,A.bp,A.bj,A.bF,A.bH,A.bG,A.bA,A.bq,A.bu,A.bh,A.bO,A.b5,A.bt,A.a6] M (Rw.d A ((n+i:Nat):Int) r)=Zh (.int ((n+i:Nat):Int)):=Mj (λC hC=>by simp only[P7,P9,or_false]at hC⊢;rcases hC with h|h|h|h|h|h|h|h|h|h|h|h|h<;>simp[h]);have w1:=W1 ((n+i:Nat):Int);have p1:=ye (A:=A) r ((n+i:Nat):Int);have p2:=wN r;have t0:aB aC (dOp (bK false) (dOp ixD (dOp ixD (dV 1) (dV 3)) (dC (.int 0))) (aN aE (ag (dC (.str "hand")) (ag (dC (.str "given")) (ag (dC (.str "own")) (ag (dC (.str "let")) aK)))))) [Zh (.cell a),Zh (.lst (rs.map ldR)),Zh (.int (n:Int)),Zh (.int (0+(i:Nat))),y] M=Zh (decide (kwR r∈hdW)):=by
    unfold aB;rw[cw (a:=.str (kwR r)) (b:=.tup [.str "hand",.str "given",.str "own",.str "let"]) (cw (cw rfl rfl a2) rfl (Pp r)) rfl Kk];rfl
   have good:∀F:List D->Option D,F [Rw.d A ((n+i:Nat):Int) r,ldR r]=Zh (.bl true)->aS 4 (aN (aO F) (ag (dOp ixD (dV 0) (dV 3)) (ag (dOp ixD (dV 1) (dV 3)) aK))) [Zh (.cell a),Zh (.lst (rs.map ldR)),Zh (.int (n:Int)),Zh (.int (0+(i:Nat))),y] M=Zh (.nx [Zh (.cell a),Zh (.lst (rs.map ldR)),Zh (.int (n:Int)),Zh (.int (0+(i:Nat))),Zh (.bl true)] M):=λF hF=>
    (cq (di (Zj (cw rfl rfl a1) (Zj (cw rfl rfl a2) rfl)) (dF (by rw[ae,ae,p1,p2,af];rfl) hF))).trans rfl
   refine{_,[Zh (.cell a),Zh (.lst (rs.map ldR)),Zh (.int (n:Int)),Zh (.int (0+(i:Nat))),Zh (.bl true)],M,rfl,aR (B':=[Zh (.cell a),Zh (.lst (rs.map ldR)),Zh (.int (n:Int)),Zh (.int (0+(i:Nat))),Zh (.bl true)]) (M':=M) ?_ (b6 ?_ rfl),_,_,rfl,rfl}
   ·by_cases hk:kwR r∈hdW
    ·exact eF (t0.trans (by rw[decide_eq_true hk])) (good Fh (H1 r _ (gr.1 hk)))
    exact b6 (t0.trans (by rw[decide_eq_false hk])) (good Fr (R1 r _ hk gr.2))
   have wn:aN (aO Fw) (ag (dUn (cf "number" [A.Row,A.bp,A.bj,A.bF,A.bH,A.bG,A.bA,A.bq,A.bu,A.bh,A.bO,A.b5,A.bt,A.a6]) (dOp ixD (dV 0) (dV 3))) (ag (dOp en (dV 2) (dV 3)) aK)) [Zh (.cell a),Zh (.lst (rs.map ldR)),Zh (.int (n:Int)),Zh (.int (0+(i:Nat))),Zh (.bl true)] M=Zh (.bl true):=by
    refine di (ds:=[.int ((n+i:Nat):Int),.int ((n+i:Nat):Int)]) (Zj ?_ (Zj ?_ rfl)) (dF (by simp[ae,af,ai]) w1)
    ·unfold dUn;rw[cw rfl rfl a1];exact hf
    exact cw rfl rfl (by rw[add_int,SK,YL])
   unfold dOr aV aB;rw[wn];rfl) (UJ rs.length) [] [Zh (.cell a),Zh (.lst (rs.map ldR)),Zh (.int (n:Int)),Zi,Zi] M rfl ⟨Zi,Zi,rfl,rfl⟩
 have r1:rg1 (ag (aN eP (ag (dV 1) aK)) aK) [Zh (.cell a),Zh (.lst (rs.map ldR)),Zh (.int (n:Int)),Zi,Zi] M=Zh (jl 0 rs.length):=xq (Zj (di rfl l2) rfl) ();have ic:=EU (A:=A) h;show P6 _ bT=_;refine(congrArg (P6 · bT) (show _=Zh (Out.rt (.bl true) M)from ?_)).trans rfl;refine aR (B':=[Zh (.cell a),Zh (.lst (rs.map ldR)),Zh (.int (n:Int)),Zi,Zi]) (M':=M) (b6 ?_ rfl) (aR ((k9 (ds:=(UJ rs.length).map λi:Nat=>D.int (0+(i:Nat))) r1).trans e1) rfl);generalize rs.map ldR=zs at *;simp?[ic,l1,l2]
structure Gu(A:Adr)(M:MS)(c:Nat)(pl:Pl):Prop where
 ex:∃h d m dc p b,M[c]?=Zh (.obj A.Program ["heads","deeds","main"] [.cell h,.cell d,.cell m])/\M[h]?=Zh (.lst ((Zq 1 pl.heads).map (rwD A)))/\M[d]?=Zh (.lst [.cell dc])/\M[m]?=Zh (.lst ((Zq pl.nm pl.main).map (rwD A)))/\cQ A M dc ((1+pl.heads.length:Nat):Int) pl.dx pl.ps p b/\M[b]?=Zh (.lst ((Zq pl.nb pl.body).map (rwD A)))
theorem KH(T:Txt K mg A):∃f,Has P w K mg base 6 "_law_same" ["_law_program","_law_heads","_law_deed","_law_body","_law_main"] (spI K (de f))/\∀M c pl,Gu A M c pl->(∀r∈pl.heads,Dv r)->(∀r∈pl.body,Dv r)->(∀r∈pl.main,Dv r)->pl.heads.length<=100->pl.body.length<=100->pl.main.length<=100->pl.ps.length<=100->f [.cell c,.lst (pl.heads.map ldR),ddD (Zh (pl.dx,pl.ps)),.lst (pl.body.map ldR),.lst (pl.main.map ldR)] M=Zh (.bl true):=by
 obtain⟨Fw,SO,W1⟩:=@rH P w _ _ base _ T;obtain⟨ft,Tq,T1⟩:=@K6 P w _ _ base _ T;obtain⟨fp,S5,P1⟩:=@wb P w _ _ base _ T;refine{_,qh (mkI T.yt (k:=5) k8 λ_ _ _ _ _ _ _ hr hu=>qsc (qif (QW.pt (ja (eG (cZ (qcB bB (ck (it T)) T.a9 (aa (qv 0) (aa (cX T.eU.mg) aA))))) (eN (eG (cZ (cA Tq hr (aa (bJ (ou T) (qv 0)) (aa (qv 1) (aa a8 aA))))))))) (qs1 (bw qbl)) qs0) (qsc (qif (QW.pt (ja (eG (cZ (qcB bB (ck (it T)) T.a9 (aa (bJ (dn T) (qv 0)) (aa (qty T.dN) aA))))) (eN (bo (one hu) su (qcB cb cO T.cE (aa (bJ (dn T) (qv 0)) aA)) a8)))) (qs1 (bw qbl)) qs0) (qsc (cG 5 k8.nd (qix hu (bJ (dn T) (qv 0)) a8)) (qsc (qif (QW.pt (ja (eG (cZ (qcB bB (ck (it T)) T.a9 (aa (qv 5) (aa (cX T.dm.mg) aA))))) (ja (bo (one hu) su (bJ (bZ T) (qv 5)) (qix hu (qv 2) a8)) (eN (eG (cZ (qcB bB (ck (it T)) T.a9 (aa (bJ (gm T) (qv 5)) (aa (qty T.dN) aA))))))))) (qs1 (bw qbl)) qs0) (qsc (qif (QW.pt (ja (eG (cZ (cA S5 hr (aa (bJ (gm T) (qv 5)) (aa (qix hu (qv 2) a8) aA))))) (eN (eG (cZ (bz SO hr (aa (bJ (pB T) (qv 5)) (aa (qop cx Zn (qcB cb cO T.cE (aa (qv 1) aA)) a8) aA)))))))) (qs1 (bw qbl)) qs0) (qsc (cG 6 k8.nd (qop cx Zn (qcB cb cO T.cE (aa (qv 1) aA)) a8)) (qs1 (bw (dX (cA Tq hr (aa (bJ (nP T) (qv 5)) (aa (qv 3) (aa (qv 6) aA)))) (gW (cA Tq hr (aa (bJ (nX T) (qv 0)) (aa (qv 4) (aa (qop cx Zn (qop cx Zn (qv 6) (qcB cb cO T.cE (aa (qv 3) aA))) a8) aA)))))))))))))),λM c pl hp g1 g2 g3 l1 l2 l3 l4=>cT ?_ aG};obtain⟨h,d,m,dc,p,b,e1,e2,e3,e4,e5,e6⟩:=hp.ex;have fh:cf "heads" [A.Program] M (.cell c)=Zh (.cell h):=flc e1 (by simp) rfl;have fd:cf "deeds" [A.Program] M (.cell c)=Zh (.cell d):=flc e1 (by simp) rfl;have fm:cf "main" [A.Program] M (.cell c)=Zh (.cell m):=flc e1 (by simp) rfl;have fn:=e5.nm (cs:=[A.bp,A.bj,A.bF,A.bH,A.bG,A.bA,A.bq,A.bu,A.bh,A.a6]) (by simp);have fq:=e5.ps (cs:=[A.a6]) (by simp);have fb:=e5.bd (cs:=[A.bt,A.a6]) (by simp);have fu:cf "number" [A.Row,A.bp,A.bj,A.bF,A.bH,A.bG,A.bA,A.bq,A.bu,A.bh,A.bO,A.b5,A.bt,A.a6] M (.cell dc)=Zh (.int ((1+pl.heads.length:Nat):Int)):=flc e5.ob (by simp) rfl;have i1:isD (Zr A) M [.cell c,.adr A.Program]=Zh (.bl true):=by rw[hX e1 (by simp) (by simp)];simp
 have i2:isD (Zr A) M [.cell dc,.adr A.a6]=Zh (.bl true):=by rw[hX e5.ob (by simp) (by simp)];simp
 have i3:=EU (A:=A) e3;have i4:=EU (A:=A) e5.pa;have t1:ft [.cell h,.lst (pl.heads.map ldR),.int 1] M=Zh (.bl true):=T1 M h pl.heads 1 e2 g1 ();have t2:=T1 M b pl.body pl.nb e6 g2 ();have t3:=T1 M m pl.main pl.nm e4 g3 ();have n1:=x3 e3;have x1:=ni e3 (i:=0);have lh:∀{M:MS},eP M [.lst (pl.heads.map ldR)]=Zh (.int pl.heads.length):=λ{M}=>by rw[bC,P8]
 have lb:∀{M:MS},eP M [.lst (pl.body.map ldR)]=Zh (.int pl.body.length):=λ{M}=>by rw[bC,P8]
 have ss:pl.ps.map D.str=(pl.ps.map Th.s).map Th.d:=by rw[QH];rfl
 have p1:=P1 M (.cell p) (.lst (pl.ps.map D.str)) (pl.ps.map Th.s) (ss▸FQ e5.pa) (ss▸pG) (by rw[P8];lia);have w1:=W1 ((1+pl.heads.length:Nat):Int);have nb1:(pl.heads.length:Int)+2=(pl.nb:Int):=by unfold Pl.nb;lia
 have nm1:(pl.nb:Int)+pl.body.length+2=(pl.nm:Int):=by unfold Pl.nb Pl.nm;lia
 have nh1:(pl.heads.length:Int)+1=((1+pl.heads.length:Nat):Int):=()
 have nw1:pl.dx=pl.dx:=rfl;show P6 _ bT=_;rw[show ddD (Zh (pl.dx,pl.ps))=.tup [.str "deed",.str pl.dx,.lst (pl.ps.map D.str)]from rfl];generalize pl.heads.map ldR=zh at *;generalize pl.body.map ldR=zb at *;generalize pl.main.map ldR=zm at *;generalize pl.ps.map D.str=zp at *;generalize ((1+pl.heads.length:Nat):Int)=nn at *;refine(congrArg (P6 · bT) (show _=Zh (Out.rt (.bl true) M)from ?_)).trans rfl;refine aR (B':=[Zh (.cell c),Zh (.lst zh),Zh (.tup [.str "deed",.str pl.dx,.lst zp]),Zh (.lst zb),Zh (.lst zm),Zi,Zi]) (M':=M) (b6 ?_ rfl) (aR (B':=[Zh (.cell c),Zh (.lst zh),Zh (.tup [.str "deed",.str pl.dx,.lst zp]),Zh (.lst zb),Zh (.lst zm),Zi,Zi]) (M':=M) (b6 ?_ rfl) (aR (B':=[Zh (.cell c),Zh (.lst zh),Zh (.tup [.str "deed",.str pl.dx,.lst zp]),Zh (.lst zb),Zh (.lst zm),Zh (.cell dc),Zi]) (M':=M) ((cq (d:=.cell dc) ?_).trans rfl) (aR (B':=[Zh (.cell c),Zh (.lst zh),Zh (.tup [.str "deed",.str pl.dx,.lst zp]),Zh (.lst zb),Zh (.lst zm),Zh (.cell dc),Zi]) (M':=M) (b6 ?_ rfl) (aR (B':=[Zh (.cell c),Zh (.lst zh),Zh (.tup [.str "deed",.str pl.dx,.lst zp]),Zh (.lst zb),Zh (.lst zm),Zh (.cell dc),Zi]) (M':=M) (b6 ?_ rfl) (aR (B':=[Zh (.cell c),Zh (.lst zh),Zh (.tup [.str "deed",.str pl.dx,.lst zp]),Zh (.lst zb),Zh (.lst zm),Zh (.cell dc),Zh (.int (pl.nb:Int))]) (M':=M) ((cq (d:=.int (pl.nb:Int)) ?_).trans rfl) ?_)))))
 ·simp?[i1,fh,t1]
 ·simp?[fd,i3,n1]
 ·simp?[fd,x1,at0]
 ·simp?[i2,fn,fq,i4,bY,at1]
 ·simp?[fq,p1,fu,lh,nh1,w1,bY,at2]
 ·simp?[lh,nb1]
 simp?[fb,fm,t2,t3,lb,nm1]
mutual
theorem Hf(k:Nat):∀d:D,bP d=true->shD k d=d
 | .non,_| .bl _,_| .int _,_| .str _,_| .adr _,_| .ty _,_=>by unfold shD;rfl
 | .cell m,q=>by unfold bP at q;cases q
 | .tup ds,q| .lst ds,q| .sqt ds,q| .sql ds,q| .dic _ ds,q| .dtt _ ds,q| .obj _ _ ds,q=>by unfold bP at q;unfold shD;rw[dM k ds q]
theorem dM(k:Nat):∀ds:List D,bD ds=true->fQ k ds=ds
 | [],_=>by unfold fQ;rfl
 |d::ds,q=>by
  unfold bD at q;rw[Qs]at q;unfold fQ;rw[Hf k d q.1,dM k ds q.2]
end
theorem iZ(l:List (Int×Rw)):bD (l.map (rwD A))=true:=by
 induction l with
 |nil=>exact af
 |cons p r ih=>rw[Qc,ae,ye,ih];rfl
theorem FJ(l:List Rw):bD (l.map ldR)=true:=by
 induction l with
 |nil=>exact af
 |cons p r ih=>rw[Qc,ae,wN,ih];rfl
theorem Hq(p:Str×List Str):bP (ddD (Zh p))=true:=by
 show bP (.tup [.str "deed",.str p.1,.lst (p.2.map D.str)])=true;simp[ao,ae,af,ak,aj,c5]
theorem JH(n:Nat)(s:Sc):(scC 0 s).map (shO n)=scC n s:=by
 unfold scC;simp only[Qc,QR,shO,fQ,shD,dM n _ (c5 _)]
theorem Gr(s:Sc):(scC 0 s).all (λo=>!sY o)=true:=rfl
theorem nC.of(n:Nat)(s:Sc)(M J:MS)(h:M.length=n):nC (M++scC n s++J) n (n+6) s:=by
 subst h;have g:∀(i:Nat)(o:Ob),(scC M.length s)[i]?=Zh o->(M++scC M.length s++J)[M.length+i]?=Zh o:=λi o e=>by
  refine AU ?_;rw[Ql (Rq _ _),RC];exact e
 exact{g 0 _ rfl,g 1 _ rfl,g 2 _ rfl,g 3 _ rfl,g 4 _ rfl,g 5 _ rfl,g 6 _ rfl,λi hi=>()}
def pgM(A:Adr)(k:Nat)(pl:Pl):MS:=(enc A (CZ A pl)).map (shO k)
theorem qr(h:M.length=k)(e:(pgM A k pl)[i]?=Zh o):(M++pgM A k pl++J)[k+i]?=Zh o:=by
 subst h;refine AU ?_;rw[Ql (Rq _ _),RC];exact e
theorem Hw(h:M.length=k):Gu A (M++pgM A k pl++J) (k+1) pl:=by
 refine{k+2,k+3,k+4,k+10,k+11,k+12,qr h ?_,qr h ?_,qr h ?_,qr h ?_,{qr h ?_,qr h ?_},qr h ?_}
 ·show Zh (shO k (.obj A.Program ["heads","deeds","main"] [.cell 2,.cell 3,.cell 4]))=_;simp[shO,fQ,shD]
 ·show Zh (shO k (.lst ((Zq 1 pl.heads).map (rwD A))))=_;simp only[shO,dM k _ (iZ _)]
 ·show Zh (shO k (.lst [.cell 10]))=_;simp[shO,fQ,shD]
 ·show Zh (shO k (.lst ((Zq pl.nm pl.main).map (rwD A))))=_;simp only[shO,dM k _ (iZ _)]
 ·show Zh (shO k (.obj A.a6 dFn [.int ((1+pl.heads.length:Nat):Int),.str pl.dx,.cell 11,.cell 12]))=_;simp[shO,fQ,shD]
 ·show Zh (shO k (.lst (pl.ps.map D.str)))=_;simp only[shO,dM k _ (c5 _)]
 show Zh (shO k (.lst ((Zq (2+pl.heads.length) pl.body).map (rwD A))))=_;simp only[shO,dM k _ (iZ _)];rfl
theorem LK(k:Nat)(pl:Pl):(pgM A k pl).length=15:=by unfold pgM;rw[P8];rfl
theorem HF(pl:Pl):(enc A (CZ A pl)).all (λo=>!sY o)=true:=rfl
theorem Ew(h:hdB r)(hn:isNm (hdN r)=true):oq r/\kwR r∈hdW/\(Zv r).map (·.1)=[hdN r]:=by
 cases r with
 |hand x r=>exact{⟨hn,h⟩,show("hand":Str)∈hdW by decide,rfl}
 |lett x r=>exact{⟨hn,h⟩,show("let":Str)∈hdW by decide,rfl}
 |given x r z=>exact{⟨hn,h.1,h.2.1,h.2.2⟩,show("given":Str)∈hdW by decide,rfl}
 |own x z=>exact{⟨hn,h.1,h.2⟩,show("own":Str)∈hdW by decide,rfl}
 |_=>exact h.elim
theorem vj:∀{hs:List Rw},(∀r∈hs,hdB r)->(∀r∈hs,isNm (hdN r)=true)->(jZ hs).map (·.1)=hs.map hdN
 | [],_,_=>rfl
 |r::hs,h,hn=>by
  show((Zv r++(hs.map Zv).flatten)).map (·.1)=_;rw[Qz,(Ew (h r Qb) (hn r Qb)).2.2];have:=vj (hs:=hs) (λq hq=>h q (Qa _ hq)) λq hq=>hn q (Qa _ hq);unfold jZ at this;rw[this];rfl
noncomputable def xm:Rw->Option Str
 | .lett x _=>Zh x
 |_=>Zi
theorem wq:∀(hs:List Rw)(s:Sc),(hs.foldl Sc.put s).ms=s.ms++hs.filterMap xm
 | [],s=>by simp
 |r::hs,s=>by
  show(hs.foldl Sc.put (s.put r)).ms=_;rw[wq hs (s.put r)];cases r with
  |lett x q=>simp[Sc.put,xm,Qx]
  |given x q z=>unfold Sc.put;dsimp only;split<;>simp[xm,Qx]
  |own x z=>unfold Sc.put;dsimp only;split<;>simp[xm,Qx]
  |_=>simp[Sc.put,xm,Qx]
theorem AD:∀hs:List Rw,(hs.filterMap xm).Sublist (hs.map hdN)
 | []=>.slnil
 |r::hs=>by
  rw[Qc,Qx];cases r with
  |lett x q=>exact(AD hs).cons₂ _
  |_=>exact(AD hs).cons _
structure Nh(ns:List Str)(pl:Pl):Prop where
 nms:BP 20 ns
 hb:∀r∈pl.heads,hdB r
 hn:∃m,m<=15/\1<=m/\pl.heads.map hdN=ns.take m
 dx:ns[15]?=Zh pl.dx
 ps:∃k,k<=4/\pl.ps=(ns.drop 16).take k
 bd:∃ms1 ms2,eS (pl.heads.foldl Sc.put {pl.ps,pl.ps,[],[],[],[]}) Zi (pl.heads.foldl Sc.put {pl.ps,pl.ps,[],[],[],[]}).ms pl.body ms1/\eS { pl.heads.foldl Sc.put {[],[],[],[],[],[]}with ms:=ms1 } (Zh (pl.dx,pl.ps)) ms1 pl.main ms2
 lb:pl.body.length<=40
 lm:pl.main.length<=40
theorem E2(d:Nh ns pl):xw pl:=by
 obtain⟨nl,nd,nn⟩:=d.nms;obtain⟨m,m15,m1,hm⟩:=d.hn;obtain⟨k,k4,hk⟩:=d.ps;have hdx:∃h:15<ns.length,ns[15]=pl.dx:=by
  obtain⟨h,e⟩:=Qh.mp d.dx;exact⟨h,e⟩
 obtain⟨h15,edx⟩:=hdx;have hnm:∀r∈pl.heads,isNm (hdN r)=true:=λr hr=>nn _ (XD (by rw[<-hm];exact Qr.mpr ⟨r,hr,rfl⟩));have hpn:∀p∈pl.ps,isNm p=true:=λp hp=>by
  rw[hk]at hp;exact nn _ (List.mem_of_mem_drop (XD hp))
 have hln:pl.heads.length<=15:=by
  have:=congrArg We hm;rw[P8,Rh]at this;lia
 have kn:pl.kinds.map (·.1)=ns.take m++pl.dx::(ns.drop 16).take k:=by
  unfold Pl.kinds dW;rw[Qz,vj d.hb hnm,hm,Qc,QH,<-hk];congr 2;show pl.ps.map id=_;rw[Sm]
 have sub:(ns.take m++pl.dx::(ns.drop 16).take k).Sublist ns:=by
  have e:ns=ns.take 15++pl.dx::ns.drop 16:=by
   have h1:=Si 15 ns;rw[Q2 h15,edx]at h1;exact h1.symm
  have s1:(ns.take m).Sublist (ns.take 15):=by
   have:ns.take m=(ns.take 15).take m:=by rw[List.take_take,Nat.min_eq_left m15]
   rw[this];exact Sa _ _
  rw[e];refine List.Sublist.append (by rw[<-e];exact s1) (List.Sublist.cons₂ _ ?_);rw[<-e];exact Sa _ _
 have knd:(pl.kinds.map (·.1)).Nodup:=by rw[kn];exact nd.sublist sub
 have look:∀p∈pl.kinds,pl.kinds.lookup p.1=Zh p.2:=λp hp=>MC knd hp;have lh:∀r∈pl.heads,(∀p∈Zv r,pl.kinds.lookup p.1=Zh p.2)/\isNm (hdN r)=true:=λr hr=>{λp hp=>look p (Q6 _ (List.mem_flatten.mpr {Zv r,Qr.mpr ⟨r,hr,rfl⟩,hp})),hnm r hr};have lp:∀x∈pl.ps,pl.kinds.lookup x=Zh "part":=λx hx=>look (x,"part") (Qq _ (Qa _ (Qr.mpr ⟨x,hx,rfl⟩)));have part:∀{ks:List Str},("part":Str)∈ks->∀x∈pl.ps,oF pl.kinds (Zh pl.ps) ks x:=λhks x hx=>{hpn x hx,"part",lp x hx,hks,λ_=>⟨pl.ps,rfl,hx⟩};have non:∀{dp:Option (List Str)}{ks:List Str},∀x∈([]:List Str),oF pl.kinds dp ks x:=λx hx=>by cases hx
 have k1:ScK pl.kinds (Zh pl.ps) (pl.heads.foldl Sc.put {pl.ps,pl.ps,[],[],[],[]}):=ScK.fold {part (by simp),part (by simp),non,non,non,non} lh;have k2:ScK pl.kinds Zi (pl.heads.foldl Sc.put {[],[],[],[],[],[]}):=ScK.fold ⟨non,non,non,non,non,non⟩ lh;obtain⟨ms1,ms2,r1,r2⟩:=d.bd;have hms:(pl.heads.foldl Sc.put {pl.ps,pl.ps,[],[],[],[]}).ms=pl.heads.filterMap xm:=by rw[wq];rfl
 have hms2:(pl.heads.foldl Sc.put {[],[],[],[],[],[]}).ms=pl.heads.filterMap xm:=by rw[wq];rfl
 have mnd:(pl.heads.filterMap xm).Nodup:=by
  refine List.Nodup.sublist (AD pl.heads) ?_;rw[hm];exact nd.sublist (Sa _ _)
 obtain⟨b1,b2,b3,b4⟩:=Bu k1 (dd:=Zi) (ended:=[]) (λx ps e=>by cases e) r1 [] (λq hq z=>by cases z) (by rw[hms];exact mnd) k1.ms;have k3:ScK pl.kinds Zi { pl.heads.foldl Sc.put {[],[],[],[],[],[]}with ms:=ms1 }:=⟨k2.th,k2.tg,k2.ls,k2.pu,k2.hn,λx hx=>k2.ms x (by rw[hms2,<-hms];exact b4 x hx)⟩;obtain⟨c1,_⟩:=Bu k3 (dd:=Zh (pl.dx,pl.ps)) (ended:=[(pl.dx,(pl.ps.length:Int))]) (λx ps e=>by
  cases e;exact{nn _ (edx▸Ri h15),by rw[hk,Rh];lia,by simp}) r2 (lJ [] pl.body) b2 b3 k3.ms
 exact{λr hr=>{(Ew (d.hb r hr) (hnm r hr)).1,(Ew (d.hb r hr) (hnm r hr)).2.1},nn _ (edx▸Ri h15),hpn,by rw[hk,Rh];lia,knd,b1,c1,(),d.lb,d.lm}
theorem Fy(h:Zw kinds dp ended l rs):∀r∈rs,Dv r:=λr hr=>by
 obtain⟨h1,h2,_⟩:=h.mem r hr;refine{λz=>absurd z h2,λx ts e=>?_};subst e;have:=h1.2.1;lia
theorem LZ{rs:List Rw}(h:∀r∈rs,hdB r):∀r∈rs,Dv r:=λr hr=>⟨λ_=>h r hr,λx ts e=>by
 subst e;exact(h _ hr).elim⟩
theorem Ma(h:oq r):(∀p∈ptR r,∀t∈p.ts,thR t):=by
 have ht:∀{t:Th},sk t->thR t:=λ{t} h=>by
  cases t with
  |i n=>exact h
  |s x=>trivial
 have hv:∀{v:Vl},yO v->∀t∈ptR.vlT v,thR t:=λ{v} h t m=>by
  cases v with
  |one a=>rw[Qg.mp m];exact ht h
  |op a n b=>
   rcases P7.mp m with rfl|m
   ·exact ht h.1
   rcases P7.mp m with rfl|m
   ·trivial
   rw[Qg.mp m];exact ht h.2
  |«at» x b=>
   rcases P7.mp m with rfl|m
   ·trivial
   rcases P7.mp m with rfl|m
   ·trivial
   rw[Qg.mp m];exact ht h.2
 have one:∀{x:Str},∀t∈Pt.ts (.th (.s x)),thR t:=λt m=>by rw[Qg.mp m];trivial
 intro p hp;cases r with
 |hand x r=>simp only[ptR,P7,P9,or_false]at hp;rcases hp with rfl|rfl|rfl<;>exact one
 |lett x r=>simp only[ptR,P7,P9,or_false]at hp;rcases hp with rfl|rfl|rfl<;>exact one
 |given x r z=>
  unfold ptR at hp;dsimp only at hp;split at hp
  ·dsimp! at hp;rcases hp with rfl|rfl|rfl<;>exact one
  dsimp! at hp;rcases hp with rfl|rfl|rfl|rfl
  ·exact one
  ·exact one
  ·exact one
  intro t m;rw[Qg.mp m];exact{h.2.2.1,by have:=h.2.2.2;lia}
 |own x z=>
  unfold ptR at hp;dsimp only at hp;split at hp
  ·dsimp! at hp;rcases hp with rfl|rfl<;>exact one
  dsimp! at hp;rcases hp with rfl|rfl|rfl
  ·exact one
  ·exact one
  intro t m;rw[Qg.mp m];exact{h.2.1,by have:=h.2.2;lia}
 |set x v=>simp only[ptR,P7,P9,or_false]at hp;rcases hp with rfl|rfl|rfl;exact one;exact one;exact hv h.2
 |send x v=>simp only[ptR,P7,P9,or_false]at hp;rcases hp with rfl|rfl|rfl;exact one;exact one;exact hv h.2
 |put x q v=>
  simp only[ptR,P7,P9,or_false]at hp;rcases hp with rfl|rfl|rfl|rfl
  ·exact one
  ·exact one
  ·intro t m;rw[Qg.mp m];exact ht h.2.1
  exact hv h.2.2
 |say x v m=>
  simp only[ptR,P7,P9,or_false]at hp;rcases hp with rfl|rfl|rfl|rfl|rfl
  ·exact one
  ·exact one
  ·exact hv h.2.1
  ·exact one
  exact one
 |call x ts=>
  simp only[ptR,P7,P9,or_false]at hp;rcases hp with rfl|rfl|rfl
  ·exact one
  ·exact one
  exact λt m=>ht (h.2.2 t m)
theorem tP{g:RG}{q:RT}{r:RE}{M:MS}{B:SD}{ns:List Str}:∀xs:List Nat,(∀i∈xs,∃B' h,g (.int (0+(i:Nat))) B=Zh B'/\q B' M=Zh true/\r B' M=Zh (ldR h)/\hdB h/\hdN h=ns.getD i "")->∃hs:List Rw,cD g q r M B (xs.map λi:Nat=>D.int (0+(i:Nat)))=Zh (hs.map ldR)/\(∀h∈hs,hdB h)/\hs.map hdN=xs.map λi=>ns.getD i ""
 | [],_=>{[],rfl,λh hh=>(by cases hh),rfl}
 |i::xs,h=>by
  obtain⟨B',hd,h1,h2,h3,h4,h5⟩:=h i Qb;obtain⟨hs,e,hb,hn⟩:=tP (g:=g) (q:=q) (r:=r) (M:=M) (B:=B) (ns:=ns) xs λj hj=>h j (Qa _ hj);refine{hd::hs,?_,λz hz=>?_,by rw[Qc,Qc,h5,hn]}
  ·show(g (.int (0+(i:Nat))) B).bind _=_;rw[h1];show(q B' M).bind _=_;rw[h2];show(r B' M).bind _=_;rw[h3];show(cD _ _ _ _ _ _).bind _=_;rw[e];rfl
  rcases P7.mp hz with rfl|hz
  ·exact h4
  exact hb z hz
theorem AB(ns:List Str):∀n,n<=ns.length->((UJ n).map λi=>ns.getD i "")=ns.take n:=λn hn=>by
 apply Sd;intro i;by_cases hi:i<n
 ·rw[Qu,RV hi,W2 hi];show Zh (ns.getD i "")=_;rw[QZ,Qe ()];rfl
 rw[Q3 (by rw[P8,QP];lia),Q3 (by rw[Rh];lia)]
theorem LC{ns:List Str}{k:Int}(hl:ns.length=20)(h0:0<=k)(h1:k<5):ZH (ns.map D.str) (Zh 16) (Zh (16+k))=((ns.drop 16).take k.toNat).map D.str:=by
 unfold ZH;have e1:HT.sIx (ns.map D.str).length 0 (Zh 16)=16:=by rw[P8,hl];rfl
 have e2:HT.sIx (ns.map D.str).length (ns.map D.str).length (Zh (16+k))=16+k.toNat:=by
  rw[P8,hl];have:k=0\/k=1\/k=2\/k=3\/k=4:=()
  rcases this with rfl|rfl|rfl|rfl|rfl<;>rfl
 rw[e1,e2,RC,List.map_take,List.map_drop]
def pj(pl:Pl):List D:=pl.heads.map ldR++[ddD (Zh (pl.dx,pl.ps))]++pl.body.map ldR++[.tup [.str "end"],.tup [.str "main"]]++pl.main.map ldR++[.tup [.str "end"]]
theorem Ac(h:∀ps:List Pt,(∀p∈ps,∀t∈p.ts,thR t)->(wsA ps).length<=20->(∀x∈wsA ps,pY x)->Ft [.tup (ps.map Pt.d)]=Zh (.str (Txt.join " " (wsA ps))))(ok:xw pl):cD (gN 0) eW (aN (aO Ft) (ag (dV 0) aK)) M [Zi] (pj pl)=Zh (pl.texts.map D.str):=by
 have app:∀{a b ya yb:List D},cD (gN 0) eW (aN (aO Ft) (ag (dV 0) aK)) M [Zi] a=Zh ya->cD (gN 0) eW (aN (aO Ft) (ag (dV 0) aK)) M [Zi] b=Zh yb->cD (gN 0) eW (aN (aO Ft) (ag (dV 0) aK)) M [Zi] (a++b)=Zh (ya++yb):=by
  intro a;induction a with
  |nil=>intro b ya yb h1 h2;cases h1;exact h2
  |cons d a ih=>
   intro b ya yb h1 h2;have h1:(aN (aO Ft) (ag (dV 0) aK) [Zh d] M).bind (λy=>(cD (gN 0) eW (aN (aO Ft) (ag (dV 0) aK)) M [Zi] a).bind λys=>Zh (y::ys))=Zh ya:=h1;obtain⟨y,e1,h1⟩:=bnd h1;obtain⟨ys,e2,h1⟩:=bnd h1;cases h1;show(aN (aO Ft) (ag (dV 0) aK) [Zh d] M).bind (λy=>(cD (gN 0) eW (aN (aO Ft) (ag (dV 0) aK)) M [Zi] (a++b)).bind λys=>Zh (y::ys))=_;rw[e1];show(cD _ _ _ _ _ _).bind _=_;rw[ih e2 h2];rfl
 have one:∀{ps:List Pt}{d:D},d=.tup (ps.map Pt.d)->bP d=true->(∀p∈ps,∀t∈p.ts,thR t)->(wsA ps).length<=20->(∀x∈wsA ps,pY x)->cD (gN 0) eW (aN (aO Ft) (ag (dV 0) aK)) M [Zi] [d]=Zh [.str (Txt.join " " (wsA ps))]:=λ{ps d} e hp h1 h2 h3=>by
  have:=h ps h1 h2 h3;show(aN (aO Ft) (ag (dV 0) aK) [Zh d] M).bind _=_;rw[di (Zj rfl rfl) (dF (F:=Ft) (ds:=[d]) (by rw[ae,hp,af];rfl) (e▸this))];rfl
 have rows:∀{rs:List Rw},(∀r∈rs,oq r)->cD (gN 0) eW (aN (aO Ft) (ag (dV 0) aK)) M [Zi] (rs.map ldR)=Zh ((rs.map txt).map D.str):=λ{rs} hr=>by
  rw[QH];refine eB _ _ _ λr hm=>{_,rfl,rfl,?_};have ho:=hr r hm;obtain⟨_,f2,f3⟩:=yJ ho;have:=h (ptR r) (Ma ho) (by rw[M7];lia) (by rw[M7];exact f2);rw[<-PD,M7]at this;exact di (Zj rfl rfl) (dF (by rw[ae,wN,af];rfl) this)
 have hdeed:=one (ps:=[.th (.s "deed"),.th (.s pl.dx),.li (pl.ps.map Th.s)]) (d:=ddD (Zh (pl.dx,pl.ps))) (by show D.tup [_,_,.lst (pl.ps.map D.str)]=.tup [_,_,.lst ((pl.ps.map Th.s).map Th.d)];rw[QH];rfl) (Hq _) (λp hp t ht=>by
  dsimp! at hp;rcases hp with rfl|rfl|rfl
  ·rw[Qg.mp ht];trivial
  ·rw[Qg.mp ht];trivial
  obtain⟨x,_,rfl⟩:=Qr.mp ht;trivial) (by
  have:=ok.p4;simp[wsA,Pt.ws];lia) (λx hx=>by
  have hx:x∈("deed":Str)::pl.dx::((pl.ps.map Th.s).map tw++[]):=hx;rw[Qo,QH]at hx;rcases P7.mp hx with rfl|hx
  ·exact{∅,∅}
  rcases P7.mp hx with rfl|hx
  ·exact fX ok.nm
  obtain⟨y,hy,rfl⟩:=Qr.mp hx;exact fX (ok.pn y hy))
 have ew:wsA [.th (.s "deed"),.th (.s pl.dx),.li (pl.ps.map Th.s)]=("deed":Str)::pl.dx::pl.ps:=by
  show("deed":Str)::pl.dx::((pl.ps.map Th.s).map tw++[])=_;rw[Qo,QH];congr 2;show pl.ps.map id=_;rw[Sm]
 rw[ew]at hdeed;have h1:=λ(x:Str)(hx:pY x)=>one (ps:=[.th (.s x)]) (d:=.tup [.str x]) rfl (by simp[ao,ae,af,ak]) (λp hp t ht=>by rw[Qg.mp hp]at ht;rw[Qg.mp ht];trivial) (by show 1<=20;decide) (λy hy=>by rw[Qg.mp hy];exact hx);have he:=h1 "end" {∅,∅};have hm:=h1 "main" {∅,∅};have:=app (app (app (app (app (rows λr hr=>(ok.hd r hr).1) hdeed) (rows λr hr=>(ok.bd.mem r hr).1)) (app he hm)) (rows λr hr=>(ok.mn.mem r hr).1)) he;unfold pj;refine this.trans ?_;unfold Pl.texts;simp only[Qz,Qc,QR,QC,YA,RD];rfl
def nY(x:Str):Prop:=∀c∈x.cps.toList,c<128
theorem eM(h:isNm x=true):nY x:=λc hc=>by
 obtain⟨h1,h2,h3⟩:=gO.mp h;have:=h3 c hc;rw[rq]at this;have:=of_decide_eq_true this;lia
theorem qc(h:sk t):nY (tw t):=by
 cases t with
 |s x=>exact eM h
 |i n=>
  obtain⟨m,rfl⟩:=Ro h.1;intro c hc;have:=(lP m).1 c hc;lia
theorem c9(h:(x.cps.toList.all λc=>decide (c<128))=true):nY x:=λc hc=>of_decide_eq_true (QM.mp h c hc)
theorem LD(n:Fin 7):nY (opW n):=c9 (by revert n;decide)
theorem xC(h:yO v):∀x∈vw v,nY x:=λx hx=>by
 cases v with
 |one t=>rw[Qg.mp hx];exact qc h
 |op a n b=>
  simp only[vw,P7,P9,or_false]at hx;rcases hx with rfl|rfl|rfl
  ·exact qc h.1
  ·exact LD n
  exact qc h.2
 |«at» y b=>
  simp only[vw,P7,P9,or_false]at hx;rcases hx with rfl|rfl|rfl
  ·exact eM h.1
  ·exact c9 ∅
  exact qc h.2
theorem Af(h:uT r):nY (rkW r):=by
 rcases h with rfl|rfl|rfl<;>exact c9 ∅
theorem F5(h0:0<=z):∀x∈szW z,nY x:=λx hx=>by
 unfold szW at hx;split at hx
 ·cases hx
 rw[Qg.mp hx];obtain⟨m,rfl⟩:=Ro h0;intro c hc;have:=(lP m).1 c hc;lia
theorem Jn(h:oq r):∀x∈b8 r,nY x:=λy hy=>by
 cases r with
 |hand x r=>
  simp only[b8,P7,P9,or_false]at hy;rcases hy with rfl|rfl|rfl
  ·exact c9 ∅
  ·exact eM h.1
  exact Af h.2
 |lett x r=>
  simp only[b8,P7,P9,or_false]at hy;rcases hy with rfl|rfl|rfl
  ·exact c9 ∅
  ·exact eM h.1
  exact Af h.2
 |given x r z=>
  simp only[b8,P7]at hy;rcases hy with rfl|rfl|rfl|hy
  ·exact c9 ∅
  ·exact eM h.1
  ·exact Af h.2.1
  exact F5 h.2.2.1 y hy
 |own x z=>
  simp only[b8,P7]at hy;rcases hy with rfl|rfl|hy
  ·exact c9 ∅
  ·exact eM h.1
  exact F5 h.2.1 y hy
 |set x v=>
  simp only[b8,P7]at hy;rcases hy with rfl|rfl|hy
  ·exact c9 ∅
  ·exact eM h.1
  exact xC h.2 y hy
 |send x v=>
  simp only[b8,P7]at hy;rcases hy with rfl|rfl|hy
  ·exact c9 ∅
  ·exact eM h.1
  exact xC h.2 y hy
 |put x p v=>
  simp only[b8,P7]at hy;rcases hy with rfl|rfl|rfl|hy
  ·exact c9 ∅
  ·exact eM h.1
  ·exact qc h.2.1
  exact xC h.2.2 y hy
 |say x v m=>
  simp only[b8,P7,QD,P9,or_false]at hy;rcases hy with rfl|rfl|hy|rfl|rfl
  ·exact c9 ∅
  ·exact eM h.1
  ·exact xC h.2.1 y hy
  ·exact c9 ∅
  exact eM h.2.2
 |call x ts=>
  simp only[b8,P7,Qr]at hy;rcases hy with rfl|rfl|⟨t,ht,rfl⟩
  ·exact c9 ∅
  ·exact eM h.1
  exact qc (h.2.2 t ht)
theorem D7:∀(r:List (List Nat))(w:List Nat),(∀p∈w::r,∀c∈p,c<128)->∀c∈jn 32 w r,c<128
 | [],w,h,c,hc=>h w Qb c (by simpa [jn] using hc)
 |q::r,w,h,c,hc=>by
  have ih:=D7 r q λp hp=>h p (Qa _ hp);have hc:c∈w++32::jn 32 q r:=by simpa [jn] using hc
  rcases QD.mp hc with hc|hc
  ·exact h w Qb c hc
  rcases P7.mp hc with rfl|hc
  ·decide
  exact ih c hc
theorem tT(h:∀x∈ws,nY x):nY (Txt.join " " ws):=by
 cases ws with
 |nil=>intro c hc;cases hc
 |cons a r=>
  intro c hc;have hc:c∈(Txt.join ⟨#[32]⟩ (a::r)).cps.toList:=hc;rw[wL 32 a r]at hc;refine D7 _ _ (λp hp=>?_) c hc;rcases P7.mp hp with rfl|hp
  ·exact h a Qb
  obtain⟨q,hq,rfl⟩:=Qr.mp hp;exact h q (Qa _ hq)
theorem Mp(h:nY x):Wk x=true:=by
 unfold Wk;rw[<-Array.all_toList,QM];intro c hc;have:=h c hc;exact decide_eq_true ()
theorem Dc(ok:xw pl):∀x∈pl.texts,Wk x=true:=λx hx=>Mp (by
 unfold Pl.texts at hx;have hr:∀{rs:List Rw},(∀r∈rs,oq r)->x∈rs.map txt->nY x:=λh hx=>by
  obtain⟨r,hr,rfl⟩:=Qr.mp hx;exact tT (Jn (h r hr))
 have h1:∀y:Str,nY y->nY (Txt.join " " [y]):=λy h=>tT λz hz=>by rw[Qg.mp hz];exact h
 simp only[QD,P7,P9,or_false]at hx;rcases hx with hx|rfl|hx|rfl|rfl|hx|rfl
 ·exact hr (λr hr=>(ok.hd r hr).1) hx
 ·refine tT λz hz=>?_;rcases P7.mp hz with rfl|hz
  ·exact c9 ∅
  rcases P7.mp hz with rfl|hz
  ·exact eM ok.nm
  exact eM (ok.pn z hz)
 ·exact hr (λr hr=>(ok.bd.mem r hr).1) hx
 ·exact h1 _ (c9 ∅)
 ·exact h1 _ (c9 ∅)
 ·exact hr (λr hr=>(ok.mn.mem r hr).1) hx
 exact h1 _ (c9 ∅))
theorem BR:∀xs:List Str,jP (xs.map D.str)=Zh (xs.map VC)
 | []=>by unfold jP;rfl
 |x::xs=>by
  rw[Qc];unfold jP ZF;rw[BR xs];rfl
theorem zk:∀{xs:List Str},(∀x∈xs,Wk x=true)->WZ (xs.map VC)=true/\Xq (xs.map VC)<=1
 | [],_=>{by simp[WZ],by simp[Xq]}
 |x::xs,h=>by
  obtain⟨h1,h2⟩:=zk (xs:=xs) λy hy=>h y (Qa _ hy);have h0:=h x Qb;refine{by simp[WZ,Y9,h0,h1],?_};simp[Xq,PyData.depth];lia
theorem He{xs:List Str}(h:∀x∈xs,Wk x=true):UX (.list (xs.map VC))=true:=by
 obtain⟨h1,h2⟩:=zk h;simp[UX,Y9,PyData.depth,h1];lia
theorem za:∀xs:List Str,PyData.eqvAll (xs.map VC) (xs.map VC)=true
 | []=>rfl
 |x::xs=>by rw[Qc,PyData.eqvAll,za xs];simp[WS]
theorem IM{M:MS}{xs:List Str}(hk:∀x∈xs,Wk x=true):eqD true M (.lst (xs.map D.str)) (.lst (xs.map D.str))=Zh (.bl false):=by
 have h:vk M (.lst (xs.map D.str))=Zh (.list (xs.map VC)):=by
  show ZF (.lst (xs.map D.str))=_;unfold ZF;rw[BR];rfl
 unfold eqD;show(vk M _).bind _=_;rw[h];show(if(UX (.list (xs.map VC))&&UX (.list (xs.map VC)))=true then Zh (D.bl (!PyData.eqv (.list (xs.map VC)) (.list (xs.map VC))))else Zi)=_;rw[He hk,WS,za];rfl
theorem FX(h:M.length=k):(M++pgM A k pl)[k+1]?=Zh (.obj A.Program ["heads","deeds","main"] [.cell (k+2),.cell (k+3),.cell (k+4)])/\(M++pgM A k pl)[k+2]?=Zh (.lst ((Zq 1 pl.heads).map (rwD A)))/\(M++pgM A k pl)[k+3]?=Zh (.lst [.cell (k+10)])/\(M++pgM A k pl)[k+4]?=Zh (.lst ((Zq pl.nm pl.main).map (rwD A)))/\(M++pgM A k pl)[k+10]?=Zh (.obj A.a6 dFn [.int ((1+pl.heads.length:Nat):Int),.str pl.dx,.cell (k+11),.cell (k+12)])/\(M++pgM A k pl)[k+11]?=Zh (.lst (pl.ps.map D.str))/\(M++pgM A k pl)[k+12]?=Zh (.lst ((Zq pl.nb pl.body).map (rwD A))):=by
 have g:∀{i:Nat}{o:Ob},(pgM A k pl)[i]?=Zh o->(M++pgM A k pl)[k+i]?=Zh o:=λ{i o} e=>by
  have:=qr (J:=[]) h e;rwa [Qo]at this
 refine{g ?_,g ?_,g ?_,g ?_,g ?_,g ?_,g ?_}
 ·show Zh (shO k (.obj A.Program ["heads","deeds","main"] [.cell 2,.cell 3,.cell 4]))=_;simp[shO,fQ,shD]
 ·show Zh (shO k (.lst ((Zq 1 pl.heads).map (rwD A))))=_;simp only[shO,dM k _ (iZ _)]
 ·show Zh (shO k (.lst [.cell 10]))=_;simp[shO,fQ,shD]
 ·show Zh (shO k (.lst ((Zq pl.nm pl.main).map (rwD A))))=_;simp only[shO,dM k _ (iZ _)]
 ·show Zh (shO k (.obj A.a6 dFn [.int ((1+pl.heads.length:Nat):Int),.str pl.dx,.cell 11,.cell 12]))=_;simp[shO,fQ,shD]
 ·show Zh (shO k (.lst (pl.ps.map D.str)))=_;simp only[shO,dM k _ (c5 _)]
 show Zh (shO k (.lst ((Zq (2+pl.heads.length) pl.body).map (rwD A))))=_;simp only[shO,dM k _ (iZ _)];rfl
theorem oB(h:xs.length+ys.length<=sizeLine):en M (.lst xs) (.lst ys)=Zh (.lst (xs++ys)):=by
 unfold en;show(if _ then _ else _)=_;rw[if_pos h]
theorem C8:∀{rs:List Rw}(n:Nat),rs≠[]->∃ds d,(Zq n rs).map (rwD A)=ds++[d]:=λ{rs} n h=>by
 have:(Zq n rs).map (rwD A)≠[]:=λz=>h (by
  have:=congrArg We z;rw[P8,dZ]at this;exact Wy this)
 exact{_,_,(WE this).symm}
theorem nC.both(s1 s2:Sc)(ms1:List Str):nC ((mkM (scC 0 s1) 6 ms1 [.gone]++scC 8 s2).set 8 (.dic AY [.cell 9,.cell 10,.cell 11,.cell 12,.cell 13,.cell 6])) 8 6 { s2 with ms:=ms1 }:=⟨rfl,rfl,rfl,rfl,rfl,rfl,rfl,λi hi=>()⟩
theorem Fp(h8:x8=.cell 0)(h10:x10=.cell 8)(e8:r8 B (mkM (scC 0 s1) 6 ms1 [.gone]++scC 8 s2)=Zh x8)(e10:r10 B (mkM (scC 0 s1) 6 ms1 [.gone]++scC 8 s2)=Zh x10):qH r10 (dC (.str "marks")) (dOp ixD r8 (dC (.str "marks"))) B (mkM (scC 0 s1) 6 ms1 [.gone]++scC 8 s2)=Zh (.nx B ((mkM (scC 0 s1) 6 ms1 [.gone]++scC 8 s2).set 8 (.dic AY [.cell 9,.cell 10,.cell 11,.cell 12,.cell 13,.cell 6]))):=by
 subst h8 h10;unfold qH;rw[cw (a:=.cell 0) (b:=.str "marks") (d:=.cell 6) e8 rfl rfl,e10];rfl
theorem Gz(xs:List Int):bD (xs.map D.int)=true:=by
 induction xs with
 |nil=>exact af
 |cons p r ih=>rw[Qc,ae,ai,ih];rfl
theorem pu2{d e:D}(h1:bP d=true)(h2:bP e=true):bD [d,e]=true:=by rw[ae,ae,h1,h2,af];rfl
theorem pu3{d e f:D}(h1:bP d=true)(h2:bP e=true)(h3:bP f=true):bD [d,e,f]=true:=by rw[ae,ae,ae,h1,h2,h3,af];rfl
abbrev s1(pl:Pl):Sc:=pl.heads.foldl Sc.put {pl.ps,pl.ps,[],[],[],[]}
abbrev s2(pl:Pl):Sc:=pl.heads.foldl Sc.put {[],[],[],[],[],[]}
noncomputable abbrev zS2(script:List Int)(c:Int)(n:Nat)(ns:List Str)(cut:Int)(pl:Pl):SD:=[Zh (.sql (script.map D.int)),Zh (.int c),Zi,Zi,Zi,Zi,Zi,Zi,Zi,Zi,Zi,Zi,Zi,Zi,Zi,Zi]
noncomputable abbrev zS3(script:List Int)(c:Int)(n:Nat)(ns:List Str)(cut:Int)(pl:Pl):SD:=[Zh (.sql (script.map D.int)),Zh (.int c),Zh (.int (n:Int)),Zi,Zi,Zi,Zi,Zi,Zi,Zi,Zi,Zi,Zi,Zi,Zi,Zi]
noncomputable abbrev zS4(script:List Int)(c:Int)(n:Nat)(ns:List Str)(cut:Int)(pl:Pl):SD:=[Zh (.sql (script.map D.int)),Zh (.int c),Zh (.int (n:Int)),Zh (.lst (ns.map D.str)),Zi,Zi,Zi,Zi,Zi,Zi,Zi,Zi,Zi,Zi,Zi,Zi]
abbrev zS5(script:List Int)(c:Int)(n:Nat)(ns:List Str)(cut:Int)(pl:Pl):SD:=[Zh (.sql (script.map D.int)),Zh (.int c),Zh (.int (n:Int)),Zh (.lst (ns.map D.str)),Zh (.lst (pl.heads.map ldR)),Zi,Zi,Zi,Zi,Zi,Zi,Zi,Zi,Zi,Zi,Zi]
abbrev zS6(script:List Int)(c:Int)(n:Nat)(ns:List Str)(cut:Int)(pl:Pl):SD:=[Zh (.sql (script.map D.int)),Zh (.int c),Zh (.int (n:Int)),Zh (.lst (ns.map D.str)),Zh (.lst (pl.heads.map ldR)),Zh (.lst (pl.ps.map D.str)),Zi,Zi,Zi,Zi,Zi,Zi,Zi,Zi,Zi,Zi]
abbrev zS7(script:List Int)(c:Int)(n:Nat)(ns:List Str)(cut:Int)(pl:Pl):SD:=[Zh (.sql (script.map D.int)),Zh (.int c),Zh (.int (n:Int)),Zh (.lst (ns.map D.str)),Zh (.lst (pl.heads.map ldR)),Zh (.lst (pl.ps.map D.str)),Zh (ddD (Zh (pl.dx,pl.ps))),Zi,Zi,Zi,Zi,Zi,Zi,Zi,Zi,Zi]
abbrev zS8(script:List Int)(c:Int)(n:Nat)(ns:List Str)(cut:Int)(pl:Pl):SD:=[Zh (.sql (script.map D.int)),Zh (.int c),Zh (.int (n:Int)),Zh (.lst (ns.map D.str)),Zh (.lst (pl.heads.map ldR)),Zh (.lst (pl.ps.map D.str)),Zh (ddD (Zh (pl.dx,pl.ps))),Zh (.int cut),Zi,Zi,Zi,Zi,Zi,Zi,Zi,Zi]
abbrev zS9(script:List Int)(c:Int)(n:Nat)(ns:List Str)(cut:Int)(pl:Pl):SD:=[Zh (.sql (script.map D.int)),Zh (.int c),Zh (.int (n:Int)),Zh (.lst (ns.map D.str)),Zh (.lst (pl.heads.map ldR)),Zh (.lst (pl.ps.map D.str)),Zh (ddD (Zh (pl.dx,pl.ps))),Zh (.int cut),Zh (.cell 0),Zi,Zi,Zi,Zi,Zi,Zi,Zi]
abbrev O4(script:List Int)(c:Int)(n:Nat)(ns:List Str)(cut:Int)(pl:Pl):SD:=[Zh (.sql (script.map D.int)),Zh (.int c),Zh (.int (n:Int)),Zh (.lst (ns.map D.str)),Zh (.lst (pl.heads.map ldR)),Zh (.lst (pl.ps.map D.str)),Zh (ddD (Zh (pl.dx,pl.ps))),Zh (.int cut),Zh (.cell 0),Zh (.lst (pl.body.map ldR)),Zi,Zi,Zi,Zi,Zi,Zi]
abbrev Nv(script:List Int)(c:Int)(n:Nat)(ns:List Str)(cut:Int)(pl:Pl):SD:=[Zh (.sql (script.map D.int)),Zh (.int c),Zh (.int (n:Int)),Zh (.lst (ns.map D.str)),Zh (.lst (pl.heads.map ldR)),Zh (.lst (pl.ps.map D.str)),Zh (ddD (Zh (pl.dx,pl.ps))),Zh (.int cut),Zh (.cell 0),Zh (.lst (pl.body.map ldR)),Zh (.cell 8),Zi,Zi,Zi,Zi,Zi]
abbrev O8(script:List Int)(c:Int)(n:Nat)(ns:List Str)(cut:Int)(pl:Pl):SD:=[Zh (.sql (script.map D.int)),Zh (.int c),Zh (.int (n:Int)),Zh (.lst (ns.map D.str)),Zh (.lst (pl.heads.map ldR)),Zh (.lst (pl.ps.map D.str)),Zh (ddD (Zh (pl.dx,pl.ps))),Zh (.int cut),Zh (.cell 0),Zh (.lst (pl.body.map ldR)),Zh (.cell 8),Zh (.lst (pl.main.map ldR)),Zi,Zi,Zi,Zi]
abbrev PU(script:List Int)(c:Int)(n:Nat)(ns:List Str)(cut:Int)(pl:Pl):SD:=[Zh (.sql (script.map D.int)),Zh (.int c),Zh (.int (n:Int)),Zh (.lst (ns.map D.str)),Zh (.lst (pl.heads.map ldR)),Zh (.lst (pl.ps.map D.str)),Zh (ddD (Zh (pl.dx,pl.ps))),Zh (.int cut),Zh (.cell 0),Zh (.lst (pl.body.map ldR)),Zh (.cell 8),Zh (.lst (pl.main.map ldR)),Zh (.lst (pj pl)),Zi,Zi,Zi]
abbrev O2(script:List Int)(c:Int)(n:Nat)(ns:List Str)(cut:Int)(pl:Pl):SD:=[Zh (.sql (script.map D.int)),Zh (.int c),Zh (.int (n:Int)),Zh (.lst (ns.map D.str)),Zh (.lst (pl.heads.map ldR)),Zh (.lst (pl.ps.map D.str)),Zh (ddD (Zh (pl.dx,pl.ps))),Zh (.int cut),Zh (.cell 0),Zh (.lst (pl.body.map ldR)),Zh (.cell 8),Zh (.lst (pl.main.map ldR)),Zh (.lst (pj pl)),Zh (.lst (pl.texts.map D.str)),Zi,Zi]
abbrev PR(script:List Int)(c:Int)(n:Nat)(ns:List Str)(cut:Int)(pl:Pl):SD:=[Zh (.sql (script.map D.int)),Zh (.int c),Zh (.int (n:Int)),Zh (.lst (ns.map D.str)),Zh (.lst (pl.heads.map ldR)),Zh (.lst (pl.ps.map D.str)),Zh (ddD (Zh (pl.dx,pl.ps))),Zh (.int cut),Zh (.cell 0),Zh (.lst (pl.body.map ldR)),Zh (.cell 8),Zh (.lst (pl.main.map ldR)),Zh (.lst (pj pl)),Zh (.lst (pl.texts.map D.str)),Zh (.lst (pl.texts.map D.str)),Zi]
abbrev xa(script:List Int)(c:Int)(n:Nat)(ns:List Str)(cut:Int)(pl:Pl):SD:=[Zh (.sql (script.map D.int)),Zh (.int c),Zh (.int (n:Int)),Zh (.lst (ns.map D.str)),Zh (.lst (pl.heads.map ldR)),Zh (.lst (pl.ps.map D.str)),Zh (ddD (Zh (pl.dx,pl.ps))),Zh (.int cut),Zh (.cell 0),Zh (.lst (pl.body.map ldR)),Zh (.cell 8),Zh (.lst (pl.main.map ldR)),Zh (.lst (pj pl)),Zh (.lst (pl.texts.map D.str)),Zh (.lst (pl.texts.map D.str)),Zh (.cell 17)]
abbrev zM(pl:Pl)(ms1:List Str):MS:=((mkM (scC 0 (s1 pl)) 6 ms1 [.gone]++scC 8 (s2 pl)).set 8 (.dic AY [.cell 9,.cell 10,.cell 11,.cell 12,.cell 13,.cell 6]))
abbrev zN(A:Adr)(pl:Pl)(ms1 ms2:List Str):MS:=((mkM (zM pl ms1) 6 ms2 [.gone])++pgM A 16 pl)
theorem LW(T:Txt K mg A)(TL:bW K mg "law" qA ["_law_script"]){a a':Uu}{fs:Nat->Uu}(tk:sR P w K mg a' fs)(sv:yp P w K mg a):∃F,Has P w K mg base 10 "law" ["_law_script"] (spP K F)/\∀script:List Int,F [.sql (script.map D.int)]=Zh (.bl true):=by
 obtain⟨Fc,SY,C1⟩:=@vF P w _ _ base _ T;obtain⟨Fm,SN,X1⟩:=@EF P w _ _ base _ T;obtain⟨Fn,Uj,N1⟩:=@IH P w _ _ base _ T;obtain⟨Fh,Ul,H1⟩:=@MW P w _ _ base _ T;obtain⟨Fs,Ug,S1⟩:=@GV P w _ _ base _ T;have Tu:=OL Ug;obtain⟨Fr,TC,R1⟩:=@MZ P w _ _ base _ T;obtain⟨Fo,TF,O1⟩:=@K9 P w _ _ base _ T;obtain⟨Ft,Um,T1⟩:=@Kj P w _ _ base _ T;obtain⟨Fd,Ur,E1⟩:=IV (P:=P) (w:=w) (base:=base) T tk sv;have Uq:=OL Ur;obtain⟨fe,TH,Q1⟩:=@KH P w _ _ base _ T;refine{_,mkP TL (k:=9) dR λ_ _ _ _ _ _ _ hr hu=>qsc (cG 1 dR.nd (bz SY hr (aa (qv 0) (aa a8 aA)))) (qsc (cG 2 dR.nd (qop cx Zn a8 (qop cW Zp (bz SN hr (aa (qv 1) (aa a8 aA))) a8))) (qsc (cG 3 dR.nd (bz Uj hr (aa (qv 1) (aa (bz SY hr (aa (qv 0) (aa a8 aA))) (aa a8 aA))))) (qsc (DQ 4 (N:=["_law_k","_law_names_here","_law_script"]) (own:=1) (fr:=[3,0]) (cv.of (by kernel_rfl!)) dR.nd (qF T.eK (aa (qv 2) aA)) (λb=>qgn 0 (show U4 (["_law_k","_law_names_here","_law_script"]:List Ve) by decide+kernel)) (λb=>qf0) (λb=>bz Ul hr (aa (bz SN hr (aa (bz SY hr (aa (qv 2) (aa a8 aA))) (aa (qop cx Zn a8 (qv 0)) aA))) (aa (qix hu (qv 1) (qv 0)) aA))) (fA ∅)) (qsc (cG 5 dR.nd (qsl (qv 3) (yl a8) (yl (qop cx Zn a8 (qop cW Zp (bz SN hr (aa (qv 1) (aa a8 aA))) a8))))) (qsc (cG 6 dR.nd (dH (aa bE (aa (qix hu (qv 3) a8) (aa (qv 5) aA))))) (qsc (cG 7 dR.nd (qop cx Zn a8 (qop cW Zp (bz SN hr (aa (qv 1) (aa a8 aA))) a8))) (qsc (oa 8 dR.nd (jj Tu hr (aa (qv 4) (aa (qv 5) aA)))) (qsc (oa 9 dR.nd (jj TC hr (aa (bz TF hr (aa (qv 0) (aa a8 (aa (qop El ZN (qv 7) a8) aA)))) (aa (qv 8) (aa dq aA))))) (qsc (oa 10 dR.nd (jj Tu hr (aa (qv 4) (aa (cF aA) aA)))) (qsc (v5 hu (qv 10) bE (qix hu (qv 8) bE)) (qsc (oa 11 dR.nd (jj TC hr (aa (bz TF hr (aa (qv 0) (aa (qv 7) (aa (qop cW Zp (bz SN hr (aa (qv 1) (aa a8 aA))) a8) aA)))) (aa (qv 10) (aa (qv 6) aA))))) (qsc (cG 12 dR.nd (qop cx Zn (qop cx Zn (qop cx Zn (qop cx Zn (qop cx Zn (qv 4) (cF (aa (qv 6) aA))) (qv 9)) (cF (aa (dH (aa bE aA)) (aa (dH (aa bE aA)) aA)))) (qv 11)) (cF (aa (dH (aa bE aA)) aA)))) (qsc (DQ 13 (N:=["_law_row_here"]) (own:=1) (fr:=[]) (cv.of (by kernel_rfl!)) dR.nd (qit true (qv 12)) (λb=>qgn 0 (show U4 (["_law_row_here"]:List Ve) by decide+kernel)) (λb=>qf0) (λb=>bz Um hr (aa (qv 0) aA)) (fA ∅)) (qsc (cG 14 dR.nd (qcT A8 FW T.dN (aa (qv 13) aA))) (qsc (oa 15 dR.nd (jj Uq hr (aa (qv 14) aA))) (qsc (qif (QW.pt (ja (eG (cZ (cA TH hr (aa (qv 15) (aa (qv 4) (aa (qv 6) (aa (qv 9) (aa (qv 11) aA)))))))) (eN (bo (one hu) su (qv 14) (qv 13))))) (qs1 (bw qbl)) qs0) (qsc (dQ (Kl (bJ (ou T) (qv 15)))) (qsc (qg (bJ (nX T) (qv 15)) (qix hu (bJ (dn T) (qv 15)) a8)) (qsc (qg (bJ (gm T) (qix hu (bJ (dn T) (qv 15)) a8)) bE) (qsc (qg (bJ (nP T) (qix hu (bJ (dn T) (qv 15)) a8)) (qix hu (bJ (dn T) (qv 15)) a8)) (qs1 (Ez (LY TH hr (b7 (jj Uq hr (aa (qv 13) aA)) (b7 (eQ (qv 4)) (b7 (eQ (qv 6)) (b7 (eQ (qv 9)) (b7 (eQ (qv 11)) fP)))))))))))))))))))))))))))),λscript=>?_};have pS:bP (.sql (script.map D.int))=true:=by rw[EK,Gz]
 obtain⟨c,hc⟩:=C1 script 0 ∅ ∅;obtain⟨o,ho⟩:=C1 script 1 ∅ ∅;obtain⟨c2,hc2⟩:=C1 script 2 ∅ ∅;obtain⟨m11,h11⟩:=X1 c 11 ∅ ∅;obtain⟨m12,h12⟩:=X1 c 12 ∅ ∅;obtain⟨m13,h13⟩:=X1 c 13 ∅ ∅;obtain⟨m14,h14⟩:=X1 c 14 ∅ ∅;obtain⟨ns,hns,nok⟩:=N1 c o;obtain⟨a0,a1⟩:=cU m11 (show(0:Int)<13 by decide);obtain⟨b0,b1⟩:=cU m12 (show(0:Int)<5 by decide);obtain⟨e0,e1⟩:=cU m13 (show(0:Int)<30 by decide);obtain⟨g0,g1⟩:=cU m14 (show(0:Int)<31 by decide);obtain⟨n,hn⟩:∃n:Nat,3+m11%13=(n:Int):={(3+m11%13).toNat,()};have nl:=nok.1;have md:∀{B:SD}{M:MS}{ra:RE}{x y:Int},ra B M=Zh (.int x)->0<y->dOp (dI bR λi j=>D.int (i%j)) ra (dC (.int y)) B M=Zh (.int (x%y)):=λ{B M ra x y} h hy=>cw h rfl (by
  exact if_pos (decide_eq_true hy))
 have mx:∀{B:SD}{M:MS}{k m:Int},dV 1 B M=Zh (.int c)->Fm [.int c,.int k]=Zh (.int m)->aN (aO Fm) (ag (dV 1) (ag (dC (.int k)) aK)) B M=Zh (.int m):=λ{B M k m} h1 h2=>di (Zj h1 (Zj rfl rfl)) (dF (pu2 ai ai) h2);have draw:∃(pl:Pl)(cs1 cs2:List Int)(ms1 ms2:List Str),Nh ns pl/\pl.heads.length=n/\cD (gN 0) eW (aN (aO Fh) (ag (aN (aO Fm) (ag (aN (aO Fc) (ag (dV 2) (ag (dC (.int 2)) aK))) (ag (dOp en (dC (.int 20)) (dV 0)) aK))) (ag (dOp ixD (dV 1) (dV 0)) aK))) [] [Zi,Zh (.lst (ns.map D.str)),Zh (.sql (script.map D.int))] (jl 0 n)=Zh (pl.heads.map ldR)/\ZH (ns.map D.str) (Zh 16) (Zh (16+m12%5))=pl.ps.map D.str/\Fo [.sql (script.map D.int),.int 3,.int (3+m13%30-3)]=Zh (.lst (cs1.map D.int))/\Fo [.sql (script.map D.int),.int (3+m13%30),.int (m14%31)]=Zh (.lst (cs2.map D.int))/\Fr [.lst (cs1.map D.int),.cell 0,.non] (scC 0 (s1 pl))=Zh (.lst (pl.body.map ldR),(mkM (scC 0 (s1 pl)) 6 ms1 [.gone]))/\Fr [.lst (cs2.map D.int),.cell 8,ddD (Zh (pl.dx,pl.ps))] (zM pl ms1)=Zh (.lst (pl.main.map ldR),(mkM (zM pl ms1) 6 ms2 [.gone])):=by
  obtain⟨hs,eh,hb,hnm⟩:=tP (g:=gN 0) (q:=eW) (r:=aN (aO Fh) (ag (aN (aO Fm) (ag (aN (aO Fc) (ag (dV 2) (ag (dC (.int 2)) aK))) (ag (dOp en (dC (.int 20)) (dV 0)) aK))) (ag (dOp ixD (dV 1) (dV 0)) aK))) (M:=[]) (B:=[Zi,Zh (.lst (ns.map D.str)),Zh (.sql (script.map D.int))]) (ns:=ns) (UJ n) (λi hi=>by
   have hi:=Rk.mp hi;obtain⟨m,hm⟩:=X1 c2 (20+(0+(i:Int))) () ();obtain⟨r,h1,h2,h3⟩:=H1 m (ns.getD i "");have hx:(ns.map D.str)[i]?=Zh (.str (ns.getD i "")):=by
    rw[Qu,QZ,Qe ()];rfl
   exact{[Zh (.int (0+(i:Nat))),Zh (.lst (ns.map D.str)),Zh (.sql (script.map D.int))],r,rfl,rfl,di (Zj (di (Zj (di (Zj rfl (Zj rfl rfl)) (dF (pu2 pS ai) hc2)) (Zj (cw rfl rfl add_int) rfl)) (dF (pu2 ai ai) hm)) (Zj (cw rfl rfl (bg.trans (tF hx))) rfl)) (dF (pu2 ai ak) h1),h2,h3})
  have hl:hs.length=n:=by
   have:=congrArg We hnm;rw[P8,P8,QP]at this;exact this
  rw[AB ns n ()]at hnm;have h15:15<ns.length:=()
  obtain⟨cs1,o1,ol1⟩:=O1 script 3 (3+m13%30-3) ∅ ∅ () ();obtain⟨cs2,o2,ol2⟩:=O1 script (3+m13%30) (m14%31) () () () ();have pl4:((ns.drop 16).take (m12%5).toNat).length<=4:=by rw[Rh];lia
  obtain⟨rs,ms1,rl1,rr1,re1⟩:=R1 (scC 0 (hs.foldl Sc.put {(ns.drop 16).take (m12%5).toNat,(ns.drop 16).take (m12%5).toNat,[],[],[],[]})) 0 6 _ cs1 Zi (nC.of 0 _ [] [] rfl) () (λx ps e=>by cases e);obtain⟨rm,ms2,rl2,rr2,re2⟩:=R1 _ 8 6 _ cs2 (Zh (ns[15],(ns.drop 16).take (m12%5).toNat)) (nC.both (hs.foldl Sc.put {(ns.drop 16).take (m12%5).toNat,(ns.drop 16).take (m12%5).toNat,[],[],[],[]}) (hs.foldl Sc.put {[],[],[],[],[],[]}) ms1) () (λx ps e=>by cases e;exact pl4);exact{{hs,ns[15],(ns.drop 16).take (m12%5).toNat,rs,rm},cs1,cs2,ms1,ms2,{nok,hb,{n,(),(),hnm},Qe h15,{(m12%5).toNat,(),rfl},⟨ms1,ms2,rr1,rr2⟩,by show rs.length<=40;lia,by show rm.length<=40;lia},hl,eh,LC nl b0 b1,o1,o2,re1,re2}
 obtain⟨pl,cs1,cs2,ms1,ms2,dr,hl,eh,ecut,o1,o2,r1,r2⟩:=draw;have ok:=E2 dr;have hp4:=ok.p4;have pH:bP (.lst (pl.heads.map ldR))=true:=by rw[aj,FJ]
 have pT:bD [.lst (pl.texts.map D.str)]=true:=by rw[ae,aj,c5,af];rfl
 have sc1:shF Fs [.lst (pl.heads.map ldR),.lst (pl.ps.map D.str)] []=Zh (.cell 0,(scC 0 (s1 pl))):=(AJ (pu2 pH (by rw[aj,c5])) (S1 pl.heads pl.ps dr.hb () ()) (Gr _)).trans (by
  show Zh (shD 0 (.cell 0),[]++(scC 0 (s1 pl)).map (shO 0))=_;rw[JH,RD];unfold shD;rfl)
 have sc2:shF Fs [.lst (pl.heads.map ldR),.lst []] (mkM (scC 0 (s1 pl)) 6 ms1 [.gone])=Zh (.cell 8,(mkM (scC 0 (s1 pl)) 6 ms1 [.gone]++scC 8 (s2 pl))):=(AJ (pu2 pH (by rw[aj,c5])) (S1 pl.heads [] dr.hb () ∅) (Gr _)).trans (by
  show Zh (shD 8 (.cell 0),(mkM (scC 0 (s1 pl)) 6 ms1 [.gone])++(scC 0 (s2 pl)).map (shO 8))=_;rw[JH];unfold shD;rfl)
 have rd:∀{M:MS}{k:Nat},M.length=k->shF Fd [.lst (pl.texts.map D.str)] M=Zh (.cell (k+1),M++pgM A k pl):=λ{M k} h=>(AJ pT (E1 pl ok) (HF pl)).trans (by
  rw[h];unfold shD;rfl)
 have g1':=LZ dr.hb;have g2:=Fy ok.bd;have g3:=Fy ok.mn;have hlb:=dr.lb;have hlm:=dr.lm;have same:∀{M:MS}{k:Nat},M.length=k->fe [.cell (k+1),.lst (pl.heads.map ldR),ddD (Zh (pl.dx,pl.ps)),.lst (pl.body.map ldR),.lst (pl.main.map ldR)] (M++pgM A k pl)=Zh (.bl true):=λ{M k} h=>by
  have:=Q1 (M++pgM A k pl++[]) (k+1) pl (Hw h) g1' g2 g3 () () () ();rwa [Qo]at this
 obtain⟨k1,k2,k3,k4,k5,k6,k7⟩:=FX (A:=A) (k:=16) (pl:=pl) (M:=(mkM (zM pl ms1) 6 ms2 [.gone])) rfl;have fl:∀{f:MS->D->Option D}{ra:RE}{B:SD}{M:MS}{x y:D},ra B M=Zh x->f M x=Zh y->dUn f ra B M=Zh y:=λ{f ra B M x y} h1 h2=>by
  unfold dUn;rw[h1];exact h2
 obtain⟨ds,dl,hds⟩:=C8 (A:=A) (rs:=pl.heads) 1 (λz=>by rw[z]at hl;simp at hl;lia);have sn:∀{M:MS}{i j:Nat}{o o':Ob},j≠i->M[i]?=Zh o->(M.set j o')[i]?=Zh o:=λ{M i j o o'} hij h=>by
  rw[Rm hij];exact h
 have n1:=sn (j:=18) (o':=.lst ds) ∅ k1;have n3:=sn (j:=18) (o':=.lst ds) ∅ k3;have n4:=sn (j:=18) (o':=.lst ds) ∅ k4;have n5:=sn (j:=18) (o':=.lst ds) ∅ k5;have n6:=sn (j:=18) (o':=.lst ds) ∅ k6;have n7:=sn (j:=18) (o':=.lst ds) ∅ k7;have p1:=sn (j:=20) (o':=.lst ((Zq pl.nm pl.main).map (rwD A)++[.cell 26])) ∅ n1;have p3:=sn (j:=20) (o':=.lst ((Zq pl.nm pl.main).map (rwD A)++[.cell 26])) ∅ n3;have p5:=sn (j:=20) (o':=.lst ((Zq pl.nm pl.main).map (rwD A)++[.cell 26])) ∅ n5;have p6:=sn (j:=20) (o':=.lst ((Zq pl.nm pl.main).map (rwD A)++[.cell 26])) ∅ n6;have p7:=sn (j:=20) (o':=.lst ((Zq pl.nm pl.main).map (rwD A)++[.cell 26])) ∅ n7;have q1:=sn (j:=27) (o':=.lst (pl.ps.map D.str++[.str "more"])) ∅ p1;have q3:=sn (j:=27) (o':=.lst (pl.ps.map D.str++[.str "more"])) ∅ p3;have q5:=sn (j:=27) (o':=.lst (pl.ps.map D.str++[.str "more"])) ∅ p5;have q7:=sn (j:=27) (o':=.lst (pl.ps.map D.str++[.str "more"])) ∅ p7;have ln:((((((zN A pl ms1 ms2).set 18 (.lst ds)).set 20 (.lst ((Zq pl.nm pl.main).map (rwD A)++[.cell 26]))).set 27 (.lst (pl.ps.map D.str++[.str "more"]))).set 28 (.lst ((Zq pl.nb pl.body).map (rwD A)++[.cell 26])))).length=31:=by
  rw[Qv,Qv,Qv,Qv,Qj,LK];rfl
 show P6 _ aU=_;refine(congrArg (P6 · aU) (show _=Zh (Out.rt (.bl true) ((((((zN A pl ms1 ms2).set 18 (.lst ds)).set 20 (.lst ((Zq pl.nm pl.main).map (rwD A)++[.cell 26]))).set 27 (.lst (pl.ps.map D.str++[.str "more"]))).set 28 (.lst ((Zq pl.nb pl.body).map (rwD A)++[.cell 26])))++pgM A 31 pl))from ?_)).trans ?_;rotate_left
 ·show(if bP (.bl true)=true then Zh (D.bl true)else Zi)=_;exact if_pos aG
 refine aR (B':=(zS2 script c n ns (3+m13%30) pl)) (M':=[]) ?_ ?_
 ·exact(cq (d:=.int c) (di (Zj rfl (Zj rfl rfl)) (dF (pu2 pS ai) hc))).trans rfl
 refine aR (B':=(zS3 script c n ns (3+m13%30) pl)) (M':=[]) ?_ ?_
 ·exact(cq (d:=.int (n:Int)) (cw rfl (md (mx rfl h11) ∅) (add_int.trans (by rw[hn])))).trans rfl
 refine aR (B':=(zS4 script c n ns (3+m13%30) pl)) (M':=[]) ?_ ?_
 ·exact(cq (d:=.lst (ns.map D.str)) (di (Zj rfl (Zj (di (Zj rfl (Zj rfl rfl)) (dF (pu2 pS ai) ho)) (Zj rfl rfl))) (dF (pu3 ai ai ai) hns))).trans rfl
 refine aR (B':=(zS5 script c n ns (3+m13%30) pl)) (M':=[]) ?_ ?_
 ·exact(cq (jz (xq (n:=n) rfl ()) eh (by rw[P8,hl];exact Qi (show n<=15 by lia) ∅))).trans rfl
 refine aR (B':=(zS6 script c n ns (3+m13%30) pl)) (M':=[]) ?_ ?_
 ·refine(cq (d:=.lst (pl.ps.map D.str)) ?_).trans rfl;have u:oAt (dOp en (dC (.int 16)) (dOp (dI bR λi j=>D.int (i%j)) (aN (aO Fm) (ag (dV 1) (ag (dC (.int 12)) aK))) (dC (.int 5)))) (zS5 script c n ns (3+m13%30) pl) []=Zh (Zh (16+m12%5)):=by
   unfold oAt;rw[cw rfl (md (mx rfl h12) ∅) add_int];rfl
  show(oAt (dOp en (dC (.int 16)) (dOp (dI bR λi j=>D.int (i%j)) (aN (aO Fm) (ag (dV 1) (ag (dC (.int 12)) aK))) (dC (.int 5)))) (zS5 script c n ns (3+m13%30) pl) []).bind _=_;rw[u];show slD [] (.lst (ns.map D.str)) (Zh 16) (Zh (16+m12%5))=_;rw[pJ,ecut]
 refine aR (B':=(zS7 script c n ns (3+m13%30) pl)) (M':=[]) ?_ ?_
 ·have hx:(ns.map D.str)[15]?=Zh (.str pl.dx):=by rw[Qu,dr.dx];rfl
  refine(cq (d:=ddD (Zh (pl.dx,pl.ps))) (di (Zj rfl (Zj (cw rfl rfl (bg.trans ?_)) (Zj rfl rfl))) rfl)).trans rfl;have:=tF hx;exact this
 refine aR (B':=(zS8 script c n ns (3+m13%30) pl)) (M':=[]) ?_ ?_
 ·exact(cq (cw rfl (md (mx rfl h13) ∅) add_int)).trans rfl
 refine aR (B':=(zS9 script c n ns (3+m13%30) pl)) (M':=(scC 0 (s1 pl))) ?_ ?_
 ·exact(d7 (oz (Zj rfl (Zj rfl rfl)) sc1)).trans rfl
 refine aR (B':=(O4 script c n ns (3+m13%30) pl)) (M':=(mkM (scC 0 (s1 pl)) 6 ms1 [.gone])) ?_ ?_
 ·exact(d7 (oz (Zj (di (Zj rfl (Zj rfl (Zj (cw rfl rfl rfl) rfl))) (dF (pu3 pS ai ai) o1)) (Zj rfl (Zj rfl rfl))) r1)).trans rfl
 refine aR (B':=(Nv script c n ns (3+m13%30) pl)) (M':=(mkM (scC 0 (s1 pl)) 6 ms1 [.gone]++scC 8 (s2 pl))) ?_ ?_
 ·exact(d7 (oz (Zj rfl (Zj rfl rfl)) sc2)).trans rfl
 refine aR (B':=(Nv script c n ns (3+m13%30) pl)) (M':=(zM pl ms1)) ?_ ?_
 ·exact Fp rfl rfl rfl rfl
 refine aR (B':=(O8 script c n ns (3+m13%30) pl)) (M':=(mkM (zM pl ms1) 6 ms2 [.gone])) ?_ ?_
 ·exact(d7 (oz (Zj (di (Zj rfl (Zj rfl (Zj (md (mx rfl h14) ∅) rfl))) (dF (pu3 pS ai ai) o2)) (Zj rfl (Zj rfl rfl))) r2)).trans rfl
 refine aR (B':=(PU script c n ns (3+m13%30) pl)) (M':=(mkM (zM pl ms1) 6 ms2 [.gone])) ?_ ?_
 ·have sz:∀{k:Nat},k<=200->k<=sizeLine:=λh=>Qi h ∅;exact(cq (cw (cw (cw (cw (cw rfl rfl (oB (sz (by simp;lia)))) rfl (oB (sz (by simp;lia)))) rfl (oB (sz (by simp;lia)))) rfl (oB (sz (by simp;lia)))) rfl (oB (sz (by simp;lia))))).trans rfl
 refine aR (B':=(O2 script c n ns (3+m13%30) pl)) (M':=(mkM (zM pl ms1) 6 ms2 [.gone])) ?_ ?_
 ·exact(cq (jz rfl (Ac T1 ok) (by rw[P8];exact Qi (show pl.texts.length<=200 by simp[Pl.texts];lia) ∅))).trans rfl
 refine aR (B':=(PR script c n ns (3+m13%30) pl)) (M':=(mkM (zM pl ms1) 6 ms2 [.gone])) ?_ ?_
 ·exact(cq (di (Zj rfl rfl) rfl)).trans rfl
 refine aR (B':=(xa script c n ns (3+m13%30) pl)) (M':=(zN A pl ms1 ms2)) ?_ ?_
 ·exact(d7 (oz (Zj rfl rfl) (rd rfl))).trans rfl
 refine aR (B':=(xa script c n ns (3+m13%30) pl)) (M':=(zN A pl ms1 ms2)) ?_ ?_
 ·have c1:aJ fe (ag (dV 15) (ag (dV 4) (ag (dV 6) (ag (dV 9) (ag (dV 11) aK))))) (xa script c n ns (3+m13%30) pl) (zN A pl ms1 ms2)=Zh (.bl true):=zF rfl (same rfl);have c2:dOp (eqD true) (dV 14) (dV 13) (xa script c n ns (3+m13%30) pl) (zN A pl ms1 ms2)=Zh (.bl false):=cw rfl rfl (IM (Dc ok));refine b6 ?_ rfl;unfold dOr aV aB;rw[c1,c2];rfl
 refine aR (B':=(xa script c n ns (3+m13%30) pl)) (M':=((zN A pl ms1 ms2).set 18 (.lst ds))) ?_ ?_
 ·exact kO (rF (fl rfl (flc k1 (by simp) rfl)) (k2.trans (by rw[hds])))
 refine aR (B':=(xa script c n ns (3+m13%30) pl)) (M':=(((zN A pl ms1 ms2).set 18 (.lst ds)).set 20 (.lst ((Zq pl.nm pl.main).map (rwD A)++[.cell 26])))) ?_ ?_
 ·exact gk (fl rfl (flc n1 (by simp) rfl)) (cw (fl rfl (flc n1 (by simp) rfl)) rfl ((ni n3).trans rfl)) n4 (by rw[P8,dZ];lia)
 refine aR (B':=(xa script c n ns (3+m13%30) pl)) (M':=((((zN A pl ms1 ms2).set 18 (.lst ds)).set 20 (.lst ((Zq pl.nm pl.main).map (rwD A)++[.cell 26]))).set 27 (.lst (pl.ps.map D.str++[.str "more"])))) ?_ ?_
 ·exact gk (fl (cw (fl rfl (flc p1 (by simp) rfl)) rfl ((ni p3).trans rfl)) (flc p5 (by simp) rfl)) rfl p6 (by rw[P8];lia)
 refine aR (B':=(xa script c n ns (3+m13%30) pl)) (M':=(((((zN A pl ms1 ms2).set 18 (.lst ds)).set 20 (.lst ((Zq pl.nm pl.main).map (rwD A)++[.cell 26]))).set 27 (.lst (pl.ps.map D.str++[.str "more"]))).set 28 (.lst ((Zq pl.nb pl.body).map (rwD A)++[.cell 26])))) ?_ ?_
 ·exact gk (fl (cw (fl rfl (flc q1 (by simp) rfl)) rfl ((ni q3).trans rfl)) (flc q5 (by simp) rfl)) (cw (fl rfl (flc q1 (by simp) rfl)) rfl ((ni q3).trans rfl)) q7 (by rw[P8,dZ];lia)
 have z1:sF (de fe) (j5 (yz (shF Fd) (ag (dV 13) aK)) (j5 (xOf (dV 4)) (j5 (xOf (dV 6)) (j5 (xOf (dV 9)) (j5 (xOf (dV 11)) GQ))))) (xa script c n ns (3+m13%30) pl) (((((zN A pl ms1 ms2).set 18 (.lst ds)).set 20 (.lst ((Zq pl.nm pl.main).map (rwD A)++[.cell 26]))).set 27 (.lst (pl.ps.map D.str++[.str "more"]))).set 28 (.lst ((Zq pl.nb pl.body).map (rwD A)++[.cell 26])))=Zh (.bl true,((((((zN A pl ms1 ms2).set 18 (.lst ds)).set 20 (.lst ((Zq pl.nm pl.main).map (rwD A)++[.cell 26]))).set 27 (.lst (pl.ps.map D.str++[.str "more"]))).set 28 (.lst ((Zq pl.nb pl.body).map (rwD A)++[.cell 26])))++pgM A 31 pl)):=by
  unfold sF j5;rw[oz (Zj rfl rfl) (rd ln)];show(fe _ _).bind _=_;rw[same ln];rfl
 unfold Cy;rw[z1];rfl
noncomputable def kEs(P:VD)(es:List (Str×Nat×Ut)):List Yp:=es.map λe=>⟨YO P e.1,.str e.1 e.2.1,e.2.2⟩
noncomputable def kVs(es:List (Str×Nat×Ut)):List (Key×Ut):=es.map λe=>(.inr e.1,e.2.2)
theorem vE:∀es:List (Str×Nat×Ut),Pairs (cz P w) (kEs w.params es) (kVs es)
 | []=>Pairs.nil
 |e::r=>Pairs.cons (lC P w e.1 e.2.1) rfl (vE r)
theorem ON(nd:(es.map (·.1)).Nodup):({.type "dict",Zi,.dict (kEs w.params es).toArray n,#[]}:Obj).IsDictOf (cz P w) (kVs es):=
 ⟨(kEs w.params es).toArray,n,⟨rfl,rfl,rfl⟩,rfl,λe he=>by
  obtain⟨x,hx,rfl⟩:=Qr.mp (List.mem_toArray.mp he);exact⟨.inr x.1,lC P w x.1 x.2.1,rfl⟩,vE es,by
  have:(kVs es).map (·.1)=(es.map (·.1)).map Q0:=by unfold kVs;rw[QH,QH];rfl
  rw[this];exact nd.map Q0 (λa b h z=>h (Q0.inj z))⟩
theorem JY:∀{es:List (Str×Nat×Ut)}{tab:List (Str×D)},tab.map (·.1)=es.map (·.1)->(∀p∈tab.zip es,∃v,Zm v p.2.2.2/\∀Z Xh,Tr K Z Xh p.1.2 v)->match tab.lookup z with
  |some d=>∃u v,valueAt (kVs es) (.inr z)=Zh u/\Zm v u/\∀Z Xh,Tr K Z Xh d v
  |none=>valueAt (kVs es) (.inr z)=Zi
 | [],[],_,_=>rfl
 |e::es,t::tab,h,hv=>by
  rw[Qc,Qc]at h;obtain⟨h1,h2⟩:=Wt h;obtain⟨tk,td⟩:=t;have h1:tk=e.1:=h1;subst h1;have ih:=JY (z:=z) h2 λp hp=>hv p (Qa _ hp);by_cases hz:z=e.1
  ·have el:((e.1,td)::tab).lookup z=Zh td:=by
    rw[hz];show(match e.1==e.1 with|true=>Zh td|false=>tab.lookup e.1)=_;rw[beq_self_eq_true]
   have ev:valueAt (kVs (e::es)) (.inr z)=Zh e.2.2:=by
    rw[hz];unfold valueAt kVs;rw[Qc,List.find?_cons_of_pos (by simp)];rfl
   rw[el,ev];obtain⟨v,r,t⟩:=hv ((e.1,td),e) Qb;exact{_,v,rfl,r,t}
  have el:((e.1,td)::tab).lookup z=tab.lookup z:=by
   show(match z==e.1 with|true=>Zh td|false=>tab.lookup z)=_;rw[beq_false_of_ne hz]
  have ev:valueAt (kVs (e::es)) (.inr z)=valueAt (kVs es) (.inr z):=by
   unfold valueAt kVs;rw[Qc,List.find?_cons_of_neg (by simp;exact λq=>hz q.symm)]
  rw[el,ev];exact ih
theorem JV(ha:(a==Vm)=false)(l:K.lookup a=Zh {.type "dict",Zi,.dict (kEs w.params es).toArray n,#[]})(nd:(es.map (·.1)).Nodup)(h:tab.map (·.1)=es.map (·.1))(hv:∀p∈tab.zip es,∃v,Zm v p.2.2.2/\∀Z Xh,Tr K Z Xh p.1.2 v):xk P w K a tab:={ha,_,_,l,ON nd,λz=>JY h hv}
noncomputable def xQ(K:Uw):Sp:=λvs H Q _=>∃(a:Uu)(ns:List Int),vs=[.ref a]/\SqL K H a (ns.map V.int)/\ns.length<=63/\∀H',Q (.bl true) H'
theorem Be:∀ns:List Int,Trs K Z X (ns.map D.int) (ns.map V.int)
 | []=>by rw[QR];unfold Trs;rfl
 |n::ns=>by rw[Qc];unfold Trs;exact{_,_,rfl,by unfold Tr;rfl,Be ns}
theorem BZ:∀ns:List Str,Trs K Z X (ns.map D.str) (ns.map V.str)
 | []=>by rw[QR];unfold Trs;rfl
 |n::ns=>by rw[Qc];unfold Trs;exact{_,_,rfl,by unfold Tr;rfl,BZ ns}
theorem OM(T:Txt K mg A)(TL:bW K mg "law" qA ["_law_script"])(tk:sR P w K mg a' fs)(sv:yp P w K mg a):Has P w K mg base 10 "law" ["_law_script"] (xQ K):=by
 obtain⟨F,D1,e⟩:=LW (P:=P) (w:=w) (base:=base) T TL tk sv;refine D1.imp λvs H Q E h=>?_;obtain⟨p,ns,rfl,hs,_,q⟩:=h;refine{[.sql (ns.map D.int)],.bl true,H,e ns,br.refl _,?_,λX' H' v _ _ _ _ t=>?_}
 ·unfold Trs;refine{_,_,rfl,?_,by unfold Trs;rfl};unfold Tr;exact{p,_,rfl,hs,Be ns}
 unfold Tr at t;rw[t];exact q H'
end
inductive FnI(K:Uw)(f:Uu)(x y:Str)(s:UP):Prop
 |mk(oc:Ut)(od:Option Uu)(kV dc pm:Ut)(an:Option Uu)(cd ct:Ut)(sl:Array (Option Ut))(l:K.lookup f=Zh {oc,od,.func (Vt x y (cI s) (b9 s) (aL s) .none kV dc pm an cd ct),sl})(c:WN K cd y=true)(k:Vx K (.ref f)=true):FnI K f x y s
abbrev cJ(K:Uw)(x:Str)(s:UP):Prop:=∃f,V2 K UD x=Zh (Zh (.ref f))/\FnI K f x x s
abbrev e9(K:Uw)(C:Uu)(m q:Str)(s:UP):Prop:=∃f,U3 K (.ref C) m=Zh (Zh (.ref f))/\YS K (.ref f)=true/\FnI K f m q s
abbrev jf(K:Uw)(C:Uu)(x:Str)(up:List Uu):Prop:=V2 K UD x=Zh (Zh (.ref C))/\(∃cd,W.clsIn K C=Zh cd/\cd.mro=up.map UB++[Wc "object"])/\Xj K C Zc=true/\Xw K C=true/\YC K C=true/\U3 K (.ref C) "__setattr__"=Zh (Zh (.builtin "object.__setattr__"))/\W.typeIn K (.ref C)=Zh (.type "type")/\U3 K (.ref C) "__class__"=Zh (Zh (.builtin "object.__class__"))/\Yu K C=true/\Vx K (.ref C)=true
abbrev NsI(K:Uw)(x:Str):Prop:=V2 K UD x=Zh Zi
abbrev NoI(K:Uw)(C:Uu)(x:Str):Prop:=U3 K (.ref C) x=Zh Zi
section
variable{K:Uw}{mg:Str->Option Ut}{h:UT}{x m q:Str}{s:UP}{ps:List Str}{C:Uu}{up:List Uu}
theorem cL(X:K.In h)(G:h.Ns UD mg)(t:cJ K x s)(b:∀(kV doc pm:Ut)(an:Option Uu)(cdv ct:Ut)(us:List Ut),us.length=ps.length->Xz (Vt x x (cI s) (b9 s) (aL s) .none kV doc pm an cdv ct) {us,[]}=pure (ps.zip us)):bW K mg x s ps:=by
 obtain⟨f,a,_,_,_,_,_,_,_,_,_,l,c,k⟩:=t;exact GK X G a l c k b
theorem fE(t:e9 K C m q s)(b:∀(kV doc pm:Ut)(an:Option Uu)(cdv ct:Ut)(us:List Ut),us.length=ps.length->Xz (Vt m q (cI s) (b9 s) (aL s) .none kV doc pm an cdv ct) {us,[]}=pure (ps.zip us)):MFn K C m q s ps:=by
 obtain⟨f,a,i,_,_,_,_,_,_,_,_,_,l,c,k⟩:=t;exact KR a i l c k b
theorem j2(X:K.In h)(G:h.Ns UD mg)(cg:VM K (.builtin "object.__class__") "__get__"=Zh (Zh (.builtin "getset_descriptor.__get__")))(ct:W9 K (.builtin "object.__class__")=Zh true)(t:jf K C x up):dU K mg C x up:=by
 obtain⟨a,b,c,d,e,f,g,i,j,k⟩:=t;exact{U7 X G a,⟨c,d,e,f⟩,b,g,i,cg,ct,j,k}
end
theorem ar0{p:List Ut->Prop}(h:p []):∀us:List Ut,us.length=0->p us:=λus e=>by
 cases us with
 |nil=>exact h
 |cons b t=>cases e
theorem arS{p:List Ut->Prop}{n:Nat}(h:∀a,∀us:List Ut,us.length=n->p (a::us)):∀us:List Ut,us.length=n+1->p us:=λus e=>by
 cases us with
 |nil=>cases e
 |cons b t=>exact h b t (Nat.succ.inj e)
theorem ar1{p:List Ut->Prop}(h:∀a0,p [a0]):∀us:List Ut,us.length=1->p us:=arS λa0=>ar0 (h a0)
theorem ar2{p:List Ut->Prop}(h:∀a0 a1,p [a0,a1]):∀us:List Ut,us.length=2->p us:=arS λa0=>arS λa1=>ar0 (h a0 a1)
theorem ar3{p:List Ut->Prop}(h:∀a0 a1 a2,p [a0,a1,a2]):∀us:List Ut,us.length=3->p us:=arS λa0=>arS λa1=>arS λa2=>ar0 (h a0 a1 a2)
theorem ar4{p:List Ut->Prop}(h:∀a0 a1 a2 a3,p [a0,a1,a2,a3]):∀us:List Ut,us.length=4->p us:=arS λa0=>arS λa1=>arS λa2=>arS λa3=>ar0 (h a0 a1 a2 a3)
theorem ar5{p:List Ut->Prop}(h:∀a0 a1 a2 a3 a4,p [a0,a1,a2,a3,a4]):∀us:List Ut,us.length=5->p us:=arS λa0=>arS λa1=>arS λa2=>arS λa3=>arS λa4=>ar0 (h a0 a1 a2 a3 a4)
noncomputable def tkE:List (Str×Nat×Ut):=[("hand",1195,.ref 701),("let",1197,.ref 701),("given",1199,.ref 708),("own",1201,.ref 715),("deed",1203,.ref 720),("main",1205,.ref 694),("set",1207,.ref 739),("send",1209,.ref 739),("put",1211,.ref 746),("say",1213,.ref 753),("call",1215,.ref 725),("last",1217,.ref 694),("end",1219,.ref 694),("else",1221,.ref 694),("if",1223,.ref 760),("loop",1225,.ref 767)]
noncomputable def svE:List (Str×Nat×Ut):=[("thing",1239,.ref 784),("list",1243,.ref 785),("place",1246,.ref 786),("put",1249,.ref 787),("hand",1251,.ref 788),("mark",1253,.ref 789)]
noncomputable def fsK(n:Nat):Uu:=([694,701,708,715,720,739,746,753,725,760,767]:List Uu).getD n 0
abbrev HS(w:UC)(K:Uw)(x:Str)(a:Uu)(es:List (Str×Nat×Ut))(n:Nat):Prop:=V2 K UD x=Zh (Zh (.ref a))/\K.lookup a=Zh {.type "dict",Zi,.dict (kEs w.params es).toArray n,#[]}
abbrev NsR(K:Uw)(x:Str)(a:Uu):Prop:=V2 K UD x=Zh (Zh (.ref a))
abbrev pO(K:Uw)(a:Uu)(xs:List Str):Prop:=∃(i:Array Ut)(n:Nat)(sl:Array (Option Ut)),K.lookup a=Zh {.type "tuple",Zi,.seq i n,sl}/\i.size<=sizeLine/\i.toList.map zt=(xs.map V.str).map Zh
theorem o9{K:Uw}{a:Uu}{xs:List Str}(h:pO K a xs):∃v,Zm v (.ref a)/\∀Z Xh,Tr K Z Xh (.sqt (xs.map D.str)) v:=by
 obtain⟨i,n,sl,l,z,e⟩:=h;refine{.ref a,rfl,λZ Xh=>?_};unfold Tr;exact{a,_,rfl,rC l rfl rfl z e Xh,BZ xs}
theorem KG{K:Uw}{a:Uu}:∃v,Zm v (.ref a)/\∀Z Xh,Tr K Z Xh (.adr a) v:={.ref a,rfl,λZ Xh=>by unfold Tr;rfl}
theorem M6{P:Program}{w:UC}{K:Uw}{mg:Str->Option Ut}{h:UT}(X:K.In h)(G:h.Ns UD mg)(d:HS w K "TAKERS" 775 tkE 16)(f0:NsR K "alone_form" 694)(f1:NsR K "ranked_form" 701)(f2:NsR K "given_form" 708)(f3:NsR K "own_form" 715)(f4:NsR K "deed_form" 720)(f5:NsR K "named_value_form" 739)(f6:NsR K "put_form" 746)(f7:NsR K "say_form" 753)(f8:NsR K "call_form" 725):sR P w K mg 775 fsK:=by
 refine⟨U7 X G d.1,λn hn=>(match n,hn with
  |0,_=>U7 X G f0
  |1,_=>U7 X G f1
  |2,_=>U7 X G f2
  |3,_=>U7 X G f3
  |4,_=>U7 X G f4
  |5,_=>U7 X G f5
  |6,_=>U7 X G f6
  |7,_=>U7 X G f7
  |8,_=>U7 X G f8
  |n+9,hn=>absurd hn ()),λi j hi hj=>(show ∀i,i<9->∀j,j<9->fsK i=fsK j->i=j by decide) i hi j hj,JV ∅ d.2 ∅ rfl λp hp=>?_⟩
 have hp:p∈[((("hand":Str),D.adr 701),(("hand":Str),1195,UB 701)),((("let":Str),D.adr 701),(("let":Str),1197,UB 701)),((("given":Str),D.adr 708),(("given":Str),1199,UB 708)),((("own":Str),D.adr 715),(("own":Str),1201,UB 715)),((("deed":Str),D.adr 720),(("deed":Str),1203,UB 720)),((("main":Str),D.adr 694),(("main":Str),1205,UB 694)),((("set":Str),D.adr 739),(("set":Str),1207,UB 739)),((("send":Str),D.adr 739),(("send":Str),1209,UB 739)),((("put":Str),D.adr 746),(("put":Str),1211,UB 746)),((("say":Str),D.adr 753),(("say":Str),1213,UB 753)),((("call":Str),D.adr 725),(("call":Str),1215,UB 725)),((("last":Str),D.adr 694),(("last":Str),1217,UB 694)),((("end":Str),D.adr 694),(("end":Str),1219,UB 694)),((("else":Str),D.adr 694),(("else":Str),1221,UB 694)),((("if":Str),D.adr 760),(("if":Str),1223,UB 760)),((("loop":Str),D.adr 767),(("loop":Str),1225,UB 767))]:=hp;dsimp! at hp;rcases hp with rfl|rfl|rfl|rfl|rfl|rfl|rfl|rfl|rfl|rfl|rfl|rfl|rfl|rfl|rfl|rfl<;>exact KG
theorem MJ{P:Program}{w:UC}{K:Uw}{mg:Str->Option Ut}{h:UT}(X:K.In h)(G:h.Ns UD mg)(d:HS w K "SERVING" 783 svE 6)(u0:pO K 784 ["given","own","part"])(u1:pO K 785 ["given list","own list"])(u2:pO K 786 ["own","part"])(u3:pO K 787 ["own list"])(u4:pO K 788 ["hand"])(u5:pO K 789 ["mark"]):yp P w K mg 783:=by
 refine{U7 X G d.1,JV ∅ d.2 ∅ rfl λp hp=>?_};have hp:p∈[((("thing":Str),D.sqt ((["given","own","part"]:List Str).map D.str)),(("thing":Str),1239,UB 784)),((("list":Str),D.sqt ((["given list","own list"]:List Str).map D.str)),(("list":Str),1243,UB 785)),((("place":Str),D.sqt ((["own","part"]:List Str).map D.str)),(("place":Str),1246,UB 786)),((("put":Str),D.sqt ((["own list"]:List Str).map D.str)),(("put":Str),1249,UB 787)),((("hand":Str),D.sqt ((["hand"]:List Str).map D.str)),(("hand":Str),1251,UB 788)),((("mark":Str),D.sqt ((["mark"]:List Str).map D.str)),(("mark":Str),1253,UB 789))]:=hp;dsimp! at hp;rcases hp with rfl|rfl|rfl|rfl|rfl|rfl
 ·exact o9 u0
 ·exact o9 u1
 ·exact o9 u2
 ·exact o9 u3
 ·exact o9 u4
 exact o9 u5
theorem all_mk{l:Yq}{w:UC}{K:Uw}{h:UT}{mg:Str->Option Ut}{fa:Uu}(A:Adr)(X:K.In h)(G:h.Ns UD mg)(hfa:mg "law"=Zh (.ref fa))
 (t1:cJ K "rank_told" kJ) (t2:cJ K "made_of" pI) (t3:cJ K "is_name" pd) (t4:cJ K "number_of" kE)
 (t5:cJ K "thing_of" nq) (t6:cJ K "value_of" nH) (t7:cJ K "value_of_one" gH) (t8:cJ K "value_of_three" e7)
 (t9:cJ K "most_of" pZ) (t10:cJ K "most_of_row" hZ) (t11:cJ K "mosts" xV) (t12:cJ K "most" Ar)
 (t13:cJ K "whole" wk) (t14:cJ K "name_told" kI) (t15:cJ K "number_up_to" gx) (t16:cJ K "alone_form" jy)
 (t17:cJ K "ranked_form" iC) (t18:cJ K "given_form" jq) (t19:cJ K "own_form" nF) (t20:cJ K "deed_form" kj)
 (t21:cJ K "call_form" ly) (t22:cJ K "listed_form" iK) (t23:cJ K "named_value_form" eu) (t24:cJ K "put_form" mV)
 (t25:cJ K "say_form" nz) (t29:cJ K "form_of" pq) (t30:cJ K "names_told" jw) (t31:cJ K "things_used" iI)
 (t32:cJ K "value_used" jt) (t33:cJ K "names_used" jm) (t34:cJ K "head_made" kX) (t35:cJ K "row_made" nE)
 (t36:cJ K "check_steps" iM) (t37:cJ K "read" AR) (t38:cJ K "_law_cell_at" iA) (t39:cJ K "_law_more" nI)
 (t40:cJ K "_law_mix" px) (t41:cJ K "_law_names" kY) (t42:cJ K "_law_head" nt) (t43:cJ K "_law_scope" kK)
 (t44:cJ K "_law_pick" nr) (t45:cJ K "_law_thing" kL) (t46:cJ K "_law_value" kZ) (t47:cJ K "_law_row" pX)
 (t48:cJ K "_law_rows" nD) (t49:cJ K "_law_text" nG) (t50:cJ K "_law_whole" kG) (t51:cJ K "_law_parts" kA)
 (t52:cJ K "_law_value_told" fg) (t53:cJ K "_law_head_told" fL) (t54:cJ K "_law_row_told" gJ) (t55:cJ K "_law_told" mW)
 (t56:cJ K "_law_same" mR) (t57:cJ K "law" qA) (Cq:NsI K "all") (yZ:NsI K "any")
 (x9:NsI K "bool") (gZ:NsI K "enumerate") (ql:NsI K "int") (a9:NsI K "isinstance")
 (cE:NsI K "len") (dN:NsI K "list") (eK:NsI K "range") (qi:NsI K "str")
 (BB:NsI K "sum") (lO:NsI K "tuple") (g_WORDS:∃(a:Uu)(i:Array Ut)(n:Nat)(sl:Array (Option Ut)),V2 K UD "WORDS"=Zh (Zh (.ref a))/\K.lookup a=Zh {.type "tuple",Zi,.seq i n,sl}/\i.size<=sizeLine/\i.toList.map zt=[V.str "open",V.str "house",V.str "closed"].map Zh) (g_LETTERS:∃k:Tok,V2 K UD "LETTERS"=Zh (Zh (.str "abcdefghijklmnopqrstuvwxyz" k)))
 (g_FIGURES:∃k:Tok,V2 K UD "FIGURES"=Zh (Zh (.str "0123456789" k))) (g_MOST_LETTERS:∃k:Tok,V2 K UD "MOST_LETTERS"=Zh (Zh (.int 8 k))) (g_MOST_FIGURES:∃k:Tok,V2 K UD "MOST_FIGURES"=Zh (Zh (.int 12 k))) (g_BETWEEN:∃(a:Uu)(i:Array Ut)(n:Nat)(sl:Array (Option Ut)),V2 K UD "BETWEEN"=Zh (Zh (.ref a))/\K.lookup a=Zh {.type "tuple",Zi,.seq i n,sl}/\i.size<=sizeLine/\i.toList.map zt=[V.str "+",V.str "-",V.str "*",V.str "over",V.str "rest",V.str "<",V.str "="].map Zh)
 (g_MOST_SIZE:∃k:Tok,V2 K UD "MOST_SIZE"=Zh (Zh (.int 20 k))) (g_MOST_PARTS:∃k:Tok,V2 K UD "MOST_PARTS"=Zh (Zh (.int 4 k))) (g_MOST_ROWS:∃k:Tok,V2 K UD "MOST_ROWS"=Zh (Zh (.int 200 k))) (g_MOST_DEEDS:∃k:Tok,V2 K UD "MOST_DEEDS"=Zh (Zh (.int 8 k)))
 (g_MOST_DEEP:∃k:Tok,V2 K UD "MOST_DEEP"=Zh (Zh (.int 6 k))) (g_MOST_STEPS:∃k:Tok,V2 K UD "MOST_STEPS"=Zh (Zh (.int 10000 k))) (g_HEADS:∃(a:Uu)(i:Array Ut)(n:Nat)(sl:Array (Option Ut)),V2 K UD "HEADS"=Zh (Zh (.ref a))/\K.lookup a=Zh {.type "tuple",Zi,.seq i n,sl}/\i.size<=sizeLine/\i.toList.map zt=[V.str "hand",V.str "given",V.str "own",V.str "let"].map Zh) (cg:VM K (.builtin "object.__class__") "__get__"=Zh (Zh (.builtin "getset_descriptor.__get__")))
 (ct:W9 K (.builtin "object.__class__")=Zh true) (x_Row:jf K A.Row "Row" [A.Row]) (x_HandRow:jf K A.bp "HandRow" [A.bp,A.Row]) (x_GivenRow:jf K A.bj "GivenRow" [A.bj,A.Row])
 (x_OwnRow:jf K A.bF "OwnRow" [A.bF,A.Row]) (x_LetRow:jf K A.bH "LetRow" [A.bH,A.Row]) (x_SetRow:jf K A.bG "SetRow" [A.bG,A.Row]) (x_PutRow:jf K A.bA "PutRow" [A.bA,A.Row])
 (x_SendRow:jf K A.bq "SendRow" [A.bq,A.Row]) (x_SayRow:jf K A.bu "SayRow" [A.bu,A.Row]) (x_CallRow:jf K A.bh "CallRow" [A.bh,A.Row]) (x_LastRow:jf K A.bO "LastRow" [A.bO,A.Row])
 (x_IfRow:jf K A.b5 "IfRow" [A.b5,A.Row]) (x_LoopRow:jf K A.bt "LoopRow" [A.bt,A.Row]) (x_DeedRow:jf K A.a6 "DeedRow" [A.a6,A.Row]) (x_Program:jf K A.Program "Program" [A.Program])
 (x_Names:jf K A.bS "Names" [A.bS]) (x_Opened:jf K A.Opened "Opened" [A.Opened]) (x_Reader:jf K A.Reader "Reader" [A.Reader]) (m1:e9 K A.Row "__init__" "Row.__init__" mX)
 (m2:e9 K A.bp "__init__" "HandRow.__init__" gQ) (m3:e9 K A.bj "__init__" "GivenRow.__init__" fK) (m4:e9 K A.bF "__init__" "OwnRow.__init__" ik) (m5:e9 K A.bH "__init__" "LetRow.__init__" iH)
 (m6:e9 K A.bG "__init__" "SetRow.__init__" ij) (m7:e9 K A.bA "__init__" "PutRow.__init__" iB) (m8:e9 K A.bq "__init__" "SendRow.__init__" gv) (m9:e9 K A.bu "__init__" "SayRow.__init__" iw)
 (m10:e9 K A.bh "__init__" "CallRow.__init__" gy) (m11:e9 K A.a6 "__init__" "DeedRow.__init__" gp) (m12:e9 K A.Program "__init__" "Program.__init__" gL) (m13:e9 K A.bS "__init__" "Names.__init__" jA)
 (m14:e9 K A.bS "fault" "Names.fault" iG) (m15:e9 K A.bS "serves" "Names.serves" gz) (m16:e9 K A.bS "keep" "Names.keep" jr) (m17:e9 K A.bS "end_deed" "Names.end_deed" eZ)
 (m18:e9 K A.Opened "__init__" "Opened.__init__" iz) (m19:e9 K A.Reader "__init__" "Reader.__init__" ir) (m20:e9 K A.Reader "take" "Reader.take" iJ) (m21:e9 K A.Reader "inside" "Reader.inside" fV)
 (m22:e9 K A.Reader "may_stand" "Reader.may_stand" ez) (m23:e9 K A.Reader "check" "Reader.check" gu) (m24:e9 K A.Reader "turn" "Reader.turn" iE) (m25:e9 K A.Reader "place_row" "Reader.place_row" d9)
 (m26:e9 K A.Reader "done" "Reader.done" iy) (n1:NoI K A.Row "number") (n2:NoI K A.bp "name") (n3:NoI K A.bp "rank")
 (n4:NoI K A.bp "number") (n5:NoI K A.bj "name") (n6:NoI K A.bj "rank") (n7:NoI K A.bj "size")
 (n8:NoI K A.bj "number") (n9:NoI K A.bF "name") (n10:NoI K A.bF "size") (n11:NoI K A.bF "number")
 (n12:NoI K A.bH "name") (n13:NoI K A.bH "rank") (n14:NoI K A.bH "number") (n15:NoI K A.bG "name")
 (n16:NoI K A.bG "value") (n17:NoI K A.bG "number") (n18:NoI K A.bA "name") (n19:NoI K A.bA "place")
 (n20:NoI K A.bA "value") (n21:NoI K A.bA "number") (n22:NoI K A.bq "name") (n23:NoI K A.bq "value")
 (n24:NoI K A.bq "number") (n25:NoI K A.bu "name") (n26:NoI K A.bu "value") (n27:NoI K A.bu "mark")
 (n28:NoI K A.bu "number") (n29:NoI K A.bh "name") (n30:NoI K A.bh "things") (n31:NoI K A.bh "number")
 (n32:NoI K A.bO "number") (n33:NoI K A.b5 "value") (n34:NoI K A.b5 "first") (n35:NoI K A.b5 "other")
 (n36:NoI K A.b5 "left") (n37:NoI K A.b5 "right") (n38:NoI K A.b5 "number") (n39:NoI K A.bt "thing")
 (n40:NoI K A.bt "most") (n41:NoI K A.bt "body") (n42:NoI K A.bt "left") (n43:NoI K A.bt "right")
 (n44:NoI K A.bt "number") (n45:NoI K A.a6 "name") (n46:NoI K A.a6 "parts") (n47:NoI K A.a6 "body")
 (n48:NoI K A.a6 "number") (n49:NoI K A.Program "heads") (n50:NoI K A.Program "deeds") (n51:NoI K A.Program "main")
 (n52:NoI K A.bS "kinds") (n53:NoI K A.bS "ended") (n54:NoI K A.bS "deed") (n55:NoI K A.bS "spoken")
 (n56:NoI K A.Opened "word") (n57:NoI K A.Opened "row") (n58:NoI K A.Opened "rows") (n59:NoI K A.Reader "program")
 (n60:NoI K A.Reader "names") (n61:NoI K A.Reader "opened") (n62:NoI K A.Reader "begun") (y_Row_init:VM K (.ref A.Row) "__getattribute__"=Zh (Zh (.builtin "type.__getattribute__"))/\W.readsIn K A.Row (.type "type")=true/\∃f,U3 K (.ref A.Row) "__init__"=Zh (Zh (.ref f))/\W.findCls K (.ref A.Row) (.type "type") "__init__"=Zh (.val (.ref f)))
 (nod:[A.Row,A.bp,A.bj,A.bF,A.bH,A.bG,A.bA,A.bq,A.bu,A.bh,A.bO,A.b5,A.bt,A.a6,A.Program,A.bS,A.Opened,A.Reader].Nodup)
 (dT:HS w K "TAKERS" 775 tkE 16) (dS:HS w K "SERVING" 783 svE 6) (f0:NsR K "alone_form" 694) (f1:NsR K "ranked_form" 701) (f2:NsR K "given_form" 708) (f3:NsR K "own_form" 715) (f4:NsR K "deed_form" 720) (f5:NsR K "named_value_form" 739) (f6:NsR K "put_form" 746) (f7:NsR K "say_form" 753) (f8:NsR K "call_form" 725) (u0:pO K 784 ["given","own","part"]) (u1:pO K 785 ["given list","own list"]) (u2:pO K 786 ["own","part"]) (u3:pO K 787 ["own list"]) (u4:pO K 788 ["hand"]) (u5:pO K 789 ["mark"])
:∃fd:Vo,(∀(s:Uy)(v:Ut),XH s fd {[v],[]} [("_law_script",v)])/\∀base:UT,K.In base->base.Ns UD mg->gI l.prog w K mg base CX0 10 fa fd ["_law_script"] (xQ K):=by
 have T:Txt K mg A:={
  vG:=cL X G t1 λ_ _ _ _ _ _=>ar1 λ_=>rfl,Cd:=cL X G t2 λ_ _ _ _ _ _=>ar3 λ_ _ _=>rfl,Br:=cL X G t3 λ_ _ _ _ _ _=>ar1 λ_=>rfl,
  vM:=cL X G t4 λ_ _ _ _ _ _=>ar1 λ_=>rfl,zQ:=cL X G t5 λ_ _ _ _ _ _=>ar1 λ_=>rfl,zP:=cL X G t6 λ_ _ _ _ _ _=>ar1 λ_=>rfl,
  oY:=cL X G t7 λ_ _ _ _ _ _=>ar1 λ_=>rfl,kg:=cL X G t8 λ_ _ _ _ _ _=>ar3 λ_ _ _=>rfl,B6:=cL X G t9 λ_ _ _ _ _ _=>ar2 λ_ _=>rfl,
  qB:=cL X G t10 λ_ _ _ _ _ _=>ar2 λ_ _=>rfl,JI:=cL X G t11 λ_ _ _ _ _ _=>ar1 λ_=>rfl,most:=cL X G t12 λ_ _ _ _ _ _=>ar1 λ_=>rfl,
  whole:=cL X G t13 λ_ _ _ _ _ _=>ar1 λ_=>rfl,u7:=cL X G t14 λ_ _ _ _ _ _=>ar1 λ_=>rfl,oG:=cL X G t15 λ_ _ _ _ _ _=>ar2 λ_ _=>rfl,
  rX:=cL X G t16 λ_ _ _ _ _ _=>ar1 λ_=>rfl,qk:=cL X G t17 λ_ _ _ _ _ _=>ar1 λ_=>rfl,sW:=cL X G t18 λ_ _ _ _ _ _=>ar1 λ_=>rfl,
  zA:=cL X G t19 λ_ _ _ _ _ _=>ar1 λ_=>rfl,uW:=cL X G t20 λ_ _ _ _ _ _=>ar1 λ_=>rfl,vH:=cL X G t21 λ_ _ _ _ _ _=>ar1 λ_=>rfl,
  qK:=cL X G t22 λ_ _ _ _ _ _=>ar2 λ_ _=>rfl,iU:=cL X G t23 λ_ _ _ _ _ _=>ar1 λ_=>rfl,yL:=cL X G t24 λ_ _ _ _ _ _=>ar1 λ_=>rfl,
  zg:=cL X G t25 λ_ _ _ _ _ _=>ar1 λ_=>rfl,Bj:=cL X G t29 λ_ _ _ _ _ _=>ar1 λ_=>rfl,r6:=cL X G t30 λ_ _ _ _ _ _=>ar1 λ_=>rfl,
  qo:=cL X G t31 λ_ _ _ _ _ _=>ar1 λ_=>rfl,sT:=cL X G t32 λ_ _ _ _ _ _=>ar1 λ_=>rfl,sH:=cL X G t33 λ_ _ _ _ _ _=>ar1 λ_=>rfl,
  vL:=cL X G t34 λ_ _ _ _ _ _=>ar2 λ_ _=>rfl,zU:=cL X G t35 λ_ _ _ _ _ _=>ar2 λ_ _=>rfl,qC:=cL X G t36 λ_ _ _ _ _ _=>ar1 λ_=>rfl,
  read:=cL X G t37 λ_ _ _ _ _ _=>ar1 λ_=>rfl,qy:=cL X G t38 λ_ _ _ _ _ _=>ar2 λ_ _=>rfl,zD:=cL X G t39 λ_ _ _ _ _ _=>ar3 λ_ _ _=>rfl,
  Cc:=cL X G t40 λ_ _ _ _ _ _=>ar2 λ_ _=>rfl,vU:=cL X G t41 λ_ _ _ _ _ _=>ar3 λ_ _ _=>rfl,zd:=cL X G t42 λ_ _ _ _ _ _=>ar2 λ_ _=>rfl,
  u6:=cL X G t43 λ_ _ _ _ _ _=>ar2 λ_ _=>rfl,ze:=cL X G t44 λ_ _ _ _ _ _=>ar2 λ_ _=>rfl,vh:=cL X G t45 λ_ _ _ _ _ _=>ar2 λ_ _=>rfl,
  vQ:=cL X G t46 λ_ _ _ _ _ _=>ar2 λ_ _=>rfl,B9:=cL X G t47 λ_ _ _ _ _ _=>ar3 λ_ _ _=>rfl,zG:=cL X G t48 λ_ _ _ _ _ _=>ar3 λ_ _ _=>rfl,
  zZ:=cL X G t49 λ_ _ _ _ _ _=>ar1 λ_=>rfl,vY:=cL X G t50 λ_ _ _ _ _ _=>ar2 λ_ _=>rfl,vd:=cL X G t51 λ_ _ _ _ _ _=>ar2 λ_ _=>rfl,
  ku:=cL X G t52 λ_ _ _ _ _ _=>ar2 λ_ _=>rfl,l9:=cL X G t53 λ_ _ _ _ _ _=>ar2 λ_ _=>rfl,nZ:=cL X G t54 λ_ _ _ _ _ _=>ar2 λ_ _=>rfl,
  zS:=cL X G t55 λ_ _ _ _ _ _=>ar3 λ_ _ _=>rfl,yt:=cL X G t56 λ_ _ _ _ _ _=>ar5 λ_ _ _ _ _=>rfl,Cq:=Vd X G Cq,
  yZ:=Vd X G yZ,x9:=Vd X G x9,gZ:=Vd X G gZ,
  ql:=Vd X G ql,a9:=Vd X G a9,cE:=Vd X G cE,
  dN:=Vd X G dN,eK:=Vd X G eK,qi:=Vd X G qi,
  BB:=Vd X G BB,lO:=Vd X G lO,xJ:=(let ⟨_,_,_,_,a,l,z,v⟩:=g_WORDS;{_,U7 X G a,λH=>rC l rfl rfl z v H,_,l,rfl,rfl}),
  vz:=g_LETTERS.imp λ_ e=>U7 X G e,uX:=g_FIGURES.imp λ_ e=>U7 X G e,kC:=g_MOST_LETTERS.imp λ_ e=>U7 X G e,
  kr:=g_MOST_FIGURES.imp λ_ e=>U7 X G e,vI:=(let ⟨_,_,_,_,a,l,z,v⟩:=g_BETWEEN;{_,U7 X G a,λH=>rC l rfl rfl z v H,_,l,rfl,rfl}),j7:=g_MOST_SIZE.imp λ_ e=>U7 X G e,
  jx:=g_MOST_PARTS.imp λ_ e=>U7 X G e,qI:=g_MOST_ROWS.imp λ_ e=>U7 X G e,oO:=g_MOST_DEEDS.imp λ_ e=>U7 X G e,
  qz:=g_MOST_DEEP.imp λ_ e=>U7 X G e,nR:=g_MOST_STEPS.imp λ_ e=>U7 X G e,rG:=(let ⟨_,_,_,_,a,l,z,v⟩:=g_HEADS;{_,U7 X G a,λH=>rC l rfl rfl z v H,_,l,rfl,rfl}),
  jH:=j2 X G cg ct x_Row,sm:=fE m1 λ_ _ _ _ _ _=>ar2 λ_ _=>rfl,o5:=n1,
  eE:=j2 X G cg ct x_HandRow,kM:=fE m2 λ_ _ _ _ _ _=>ar4 λ_ _ _ _=>rfl,kT:=n2,
  lG:=n3,iT:=n4,dy:=j2 X G cg ct x_GivenRow,
  jK:=fE m3 λ_ _ _ _ _ _=>ar5 λ_ _ _ _ _=>rfl,jN:=n5,jJ:=n6,
  jW:=n7,hG:=n8,fG:=j2 X G cg ct x_OwnRow,
  mz:=fE m4 λ_ _ _ _ _ _=>ar4 λ_ _ _ _=>rfl,mE:=n9,me:=n10,
  jG:=n11,fJ:=j2 X G cg ct x_LetRow,lX:=fE m5 λ_ _ _ _ _ _=>ar4 λ_ _ _ _=>rfl,
  l7:=n12,mJ:=n13,jE:=n14,
  fH:=j2 X G cg ct x_SetRow,ma:=fE m6 λ_ _ _ _ _ _=>ar4 λ_ _ _ _=>rfl,mK:=n15,
  ki:=n16,jU:=n17,eJ:=j2 X G cg ct x_PutRow,
  mD:=fE m7 λ_ _ _ _ _ _=>ar5 λ_ _ _ _ _=>rfl,mB:=n18,ko:=n19,
  lg:=n20,jC:=n21,eA:=j2 X G cg ct x_SendRow,
  kQ:=fE m8 λ_ _ _ _ _ _=>ar4 λ_ _ _ _=>rfl,kq:=n22,jQ:=n23,
  iR:=n24,d5:=j2 X G cg ct x_SayRow,mQ:=fE m9 λ_ _ _ _ _ _=>ar5 λ_ _ _ _ _=>rfl,
  mH:=n25,kR:=n26,mG:=n27,
  jR:=n28,dB:=j2 X G cg ct x_CallRow,lD:=fE m10 λ_ _ _ _ _ _=>ar4 λ_ _ _ _=>rfl,
  j9:=n29,iO:=n30,i9:=n31,
  o8:=j2 X G cg ct x_LastRow,i8:=n32,gb:=j2 X G cg ct x_IfRow,
  mP:=n33,mF:=n34,lU:=n35,
  xl:=n36,uN:=n37,lj:=n38,
  ff:=j2 X G cg ct x_LoopRow,qQ:=n39,uc:=n40,
  lF:=n41,rV:=n42,qZ:=n43,
  i0:=n44,dm:=j2 X G cg ct x_DeedRow,lH:=fE m11 λ_ _ _ _ _ _=>ar5 λ_ _ _ _ _=>rfl,
  lI:=n45,jX:=n46,kP:=n47,
  iV:=n48,eU:=j2 X G cg ct x_Program,ka:=fE m12 λ_ _ _ _ _ _=>ar4 λ_ _ _ _=>rfl,
  jO:=n49,jL:=n50,lE:=n51,
  fj:=j2 X G cg ct x_Names,o3:=fE m13 λ_ _ _ _ _ _=>ar1 λ_=>rfl,mL:=fE m14 λ_ _ _ _ _ _=>ar2 λ_ _=>rfl,
  kF:=fE m15 λ_ _ _ _ _ _=>ar3 λ_ _ _=>rfl,nN:=fE m16 λ_ _ _ _ _ _=>ar2 λ_ _=>rfl,iS:=fE m17 λ_ _ _ _ _ _=>ar1 λ_=>rfl,
  mj:=n52,mv:=n53,oH:=n54,
  j6:=n55,gA:=j2 X G cg ct x_Opened,mO:=fE m18 λ_ _ _ _ _ _=>ar4 λ_ _ _ _=>rfl,
  lZ:=n56,oP:=n57,l0:=n58,
  c7:=j2 X G cg ct x_Reader,lW:=fE m19 λ_ _ _ _ _ _=>ar1 λ_=>rfl,lV:=fE m20 λ_ _ _ _ _ _=>ar3 λ_ _ _=>rfl,
  jF:=fE m21 λ_ _ _ _ _ _=>ar2 λ_ _=>rfl,gM:=fE m22 λ_ _ _ _ _ _=>ar2 λ_ _=>rfl,kx:=fE m23 λ_ _ _ _ _ _=>ar3 λ_ _ _=>rfl,
  mN:=fE m24 λ_ _ _ _ _ _=>ar2 λ_ _=>rfl,gS:=fE m25 λ_ _ _ _ _ _=>ar3 λ_ _ _=>rfl,mM:=fE m26 λ_ _ _ _ _ _=>ar2 λ_ _=>rfl,
  i6:=n59,kf:=n60,jD:=n61,
  ke:=n62,cM:=⟨y_Row_init.1,y_Row_init.2.1,y_Row_init.2.2⟩,nd:=nod }
 have F:bW K mg "law" qA ["_law_script"]:=cL X G t57 λ_ _ _ _ _ _=>ar1 λ_=>rfl;obtain⟨f,a,oc,od,kV,dc,pm,an,cd,ct,sl,lk,_,_⟩:=t57;refine{Vt "law" "law" (cI qA) (b9 qA) (aL qA) .none kV dc pm an cd ct,λs v=>.of_eq rfl,λbase _ _=>?_};have e:=hfa.symm.trans (U7 X G a);cases e;exact KC (OM (P:=l.prog) (w:=w) (base:=base) T F (M6 X G dT f0 f1 f2 f3 f4 f5 f6 f7 f8) (MJ X G dS u0 u1 u2 u3 u4 u5)) (U7 X G a) lk
theorem walk{l:Yq}{q:Program}{loose:List Str}{XP:(Str->Option Ut)->UT->Prop}{YP:UC->UT->Prop}{d:DefRec}{K:VD->Uw}(hn:l.most=Zh 63)(hdf:d.params.defaults=[])(hY:∀(w:UC)(h:UT),YP w h->(K w.params).In h)
  (F:∀(w:UC)(mg:Str->Option Ut)(fa:Uu)(h:UT),(K w.params).In h->h.Ns UD mg->mg d.name=Zh (.ref fa)->∃fd:Vo,(∀(s:Uy)(u:Ut),XH s fd {[u],[]} [("_law_script",u)])/\∀base:UT,(K w.params).In base->base.Ns UD mg->gI l.prog w (K w.params) mg base CX0 10 fa fd ["_law_script"] (xQ (K w.params))) :
  W.WalkO q loose XP YP l.row.toRowW d [] (λf vs=>Y0 f vs):=
 L2.Jz (n:=63) (k:=10) (x:="_law_script") (CX:=λ_=>CX0) (sp:=λw=>xQ (K w.params)) hn ∅ hdf {rfl,∅,∅} hY F (λ_ _ a ns hl _ hS=>{a,ns,rfl,hS,hl,λ_=>rfl}) λ_ _ _ _ _ z=>z
end K14
open PySem PySem.W PyProof.Rows
set_option maxRecDepth 100000 in
set_option maxHeartbeats 0 in
theorem PySem.Challenge.cw_hushrow_k14_plain_programs_read_holds : PySem.Challenge.rw_hushrow_k14_plain_programs_read.Holds := by
 w_on;o_law
 refine W.holds_open (q:=K14.pE) (loose:=["TAKERS","SERVING"]) (Xt:=K14.test) (XP:=W.XL K14.pE []) (Yf:=(X7 K14.heapK K14.qx K14.i7).obs) (Ya:=(X7 K14.heapK K14.qx K14.i7).val) (YP:=(X7 K14.heapK K14.qx K14.i7).says) (N:=18516) K14.left (X7 K14.heapK K14.qx K14.i7).of (X7 K14.heapK K14.qx K14.i7).keeps
  (λs e=>W.xl_of s (Bool.and_eq_true_iff.mp e).1) W.XL.keeps (by rfl) (by rfl) (by rfl) (λs e=>W.recFacts_of (Bool.and_eq_true_iff.mp e).2) ?h4 ?h5 ?h6 {rfl,rfl,rfl,rfl,rfl,by decide+kernel} ?hw ?hc
 (case h4=>rfl);(case h5=>first|assumption|decide+kernel);(case h6=>decide+kernel);(case hw=>w_witness2)
 k_fill
 refine K14.walk (l:=PySem.Challenge.rw_hushrow_k14_plain_programs_read) rfl rfl (λw h Y=>W.kIn_of Y) ?F;case F=>
  intro w mg fa h KX G hmg;refine K14.all_mk ⟨216,244,270,296,322,362,402,435,475,508,527,560,593,619,638,858,894,962⟩ KX G hmg ?_ ?_ ?_ ?_ ?_ ?_ ?_ ?_ ?_ ?_ ?_ ?_ ?_ ?_ ?_ ?_ ?_ ?_ ?_ ?_ ?_ ?_ ?_ ?_ ?_ ?_ ?_ ?_ ?_ ?_ ?_ ?_ ?_ ?_ ?_ ?_ ?_ ?_ ?_ ?_ ?_ ?_ ?_ ?_ ?_ ?_ ?_ ?_ ?_ ?_ ?_ ?_ ?_ ?_ ?_ ?_ ?_ ?_ ?_ ?_ ?_ ?_ ?_ ?_ ?_ ?_ ?_ ?_ ?_ ?_ ?_ ?_ ?_ ?_ ?_ ?_ ?_ ?_ ?_ ?_ ?_ ?_ ?_ ?_ ?_ ?_ ?_ ?_ ?_ ?_ ?_ ?_ ?_ ?_ ?_ ?_ ?_ ?_ ?_ ?_ ?_ ?_ ?_ ?_ ?_ ?_ ?_ ?_ ?_ ?_ ?_ ?_ ?_ ?_ ?_ ?_ ?_ ?_ ?_ ?_ ?_ ?_ ?_ ?_ ?_ ?_ ?_ ?_ ?_ ?_ ?_ ?_ ?_ ?_ ?_ ?_ ?_ ?_ ?_ ?_ ?_ ?_ ?_ ?_ ?_ ?_ ?_ ?_ ?_ ?_ ?_ ?_ ?_ ?_ ?_ ?_ ?_ ?_ ?_ ?_ ?_ ?_ ?_ ?_ ?_ ?_ ?_ ?_ ?_ ?_ ?_ ?_ ?_ ?_ ?_ ?_ ?_ ?_ ?_ ?_ ?_ ?_ ?_ ?_ ?_ ?_ ?_ ?_ ?_ ?_ ?_ ?_ ?_ ?_ ?_ ?_ ?_ ?_ ?_ ?_ ?_ ?_ ?_ ?_ ?_ ?_;iterate 54 exact{_,by k_is,_,_,_,_,_,_,_,_,_,by k_is,by k_is,by k_is}
  iterate 12 (show _=_;k_is)
  iterate 1 exact{_,_,_,_,by k_is,by k_is,by decide,rfl}
  iterate 4 exact{_,by k_is}
  iterate 1 exact{_,_,_,_,by k_is,by k_is,by decide,rfl}
  iterate 6 exact{_,by k_is}
  iterate 1 exact{_,_,_,_,by k_is,by k_is,by decide,rfl}
  iterate 2 (show _=_;k_is)
  iterate 18 exact{by k_is,{_,by k_is,rfl},by k_is,by k_is,by k_is,by k_is,by k_is,by k_is,by k_is,by k_is}
  iterate 26 exact{_,by k_is,by k_is,_,_,_,_,_,_,_,_,_,by k_is,by k_is,by k_is}
  iterate 62 (show _=_;k_is)
  iterate 1 exact{by k_is,by k_is,_,by k_is,by k_is}
  iterate 1 decide
  iterate 2 exact⟨by k_is,by k_is⟩
  iterate 9 (show _=_;k_is)
  iterate 6 exact{_,_,_,by k_is,by decide,rfl}

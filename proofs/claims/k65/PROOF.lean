import PyProof.Rows.All
import Lean
import Wide.FinOn
import OpenK.KOwn
import KE.KNest
import KE.KDictOf
import KE.RegKIsAll
import KE.RegKTryMore
import PyProof.EqAt
import PyProof.EqKinds
import PyProof.TupleCall
import PyProof.NeKinds
import PyProof.NeData
import PyProof.EqLayable
import PyProof.ZipIter
import PyProof.EnumMake
import KE.LcSums
import PyProof.CompFree
import PyProof.ListRange
import PyProof.Rows.Range3
import PyProof.TupleOfSeq
import KE.KSortTup
import PyProof.DictWalks
import KE.KDictSum
import PyProof.Rows.TupAdd
import PyProof.AutoListH
import PyProof.StrWalks
import PyProof.SliceStr2
import PyProof.StrBlock2
import PyProof.StrLaws
import PyProof.StrCalls
import PyProof.CallStr
import KE.KIntText
import PyProof.Rows.SetFrom
import PyProof.SetRoads
import PyProof.Rows.StrInSeq3
import PyProof.Rows.CountFlat
import Open.Boot
import Open.Tree
import PySem.Challenge.RW_slantfloor_k65_whole_all_floors
open PySem renaming wpAny_bind->aa,Addr->af,Value->ah,wpAny_pure->ai,Shared->aj,starEach->ay,wpAny->bg,Program->bj,model->bn,sizeLine->bo,Str->bq,Around->cb,World->df,compareOp->dm,Heap->eh,wpAny_call_entry->fg,wpAny_isInstance->fm,wpAny_field->fz,wpAny_callSpecial?_slot->gk,cLine->gv,eval->gw,wpAny_truthy_bool->gx,wpAny_tupleItemsOf->ik,swapsWith->io,mem_of_lookup->iq,wpAny_rule->ir,wpAny_mono->ix,backTo->jd,wpAny_holding->je,relabel->jg,boot_len->ji,wpAny_newObj_type->jj,foldedSetIterable->jl,Obj->jn,wpAny_specialOf->jp,mainGlobals->jt,binaryOp->ju,Stmt->kg,attributeBase->kh,sysModules->km,FuncData->ko,sizeLine_eq->ky,Pos->lj,wpAny_attempt->lw,wpAny_typeNameOfWhole_keyiter->mj,DictEntry->mq,wpAny_richCompare_same_room->ny,wpAny_eqBool_int->nz,wpAny_setField->oa,wpAny_seqItems->oj,wpAny_Call_Name_kw->om,isSubtype_tuple_tuple->pf,rawInt->ph,wpAny_passesOwn->pq,bootBuiltins->pz,wpAny_dictEntries->qi,isInstance->qm,Builtin->qy,tupleKind->sx,wpAny_callSpecialIfBoundUnlessNone?_slot->tz,pyNext->ui,isSubtype_stop->uj,keywordEach->ul,codeAny_mono->ut,behindInMarks->uz,wpAny_execs_nil->ve,codeAny_builtin->vf,slot_listiter_next->vg,reduceHash->vh,sliceBounds->vo,entryOfKey->ww,assignEach->wy,closureFor->xa,wpAny_forIn_list->xc,NameKind->xn,callSpecialIfBoundUnlessNone?->xo,letOwnedTupleGo->xx,hashInt->ye,codeAny->yh,wpAny_setField_rec->yt,wpAny_call->yx,backToKw->yz,wpAny_newFunctionEnv_cells->za,typeOf->zd,call_meets->ze,tupleKind_room_in1->zf,Thread->zu,Env->zw,Model->Vl,IsRangeIter->Vm,Keyword->Vo,eqIsQuiet_byValue->Vq,wpAny_newList->Vu,noteFrame->Vy,wpAny_pyHash_int->Vz,wpAny_execs_cons->W0,Operator->W1,getMethod->W2,noFill_tuple_add->W5,eqIsQuiet->W7,wpAny_pyNext_list_item->Wi,holding->Wj,wpAny_Assign_Subscript->Wq,wpAny_dictEpoch->WC,importedModules->WD,wpAny_pyIter_listiter->WF,codeAny_call_function->WG,wpAny_isOneOf_keyiter->WH,wpAny_notOrdered_dict->WI,field->WJ,wpAny_loadName_local->WL,recursionLimit->WO,carriedByValue->WQ,codeAny_call_builtin->WX,getItem->X4,PassesOwn->X5,BindsTo->X6,callerA->X7,valueAt->X8,entry_listiter_next->Xa,wpAny_loadName_cell->Xb,seq_tuple_add->Xk,wpAny_standAt->Xm,atKey->Xn,args_listiter_next->Xw,IsPart->Xz,wpAny_setItem_heap->XC,wpAny_eqBool_tuple->XE,intKind->XR,Within->XU,GenState->XX,wpAny_assign_Name->XY,standAt->XZ,concat_meets->Y4,wpAny_typeOf->Y5,seqIndex_neg->Y6,slot_list_getitem->Y7,wpAny_pyIter_enum->Y8,wpAny_pyIter_list->Y9,wpAny_cRoomFor_or->Yb,wpAny_lt_int->Yh,inplaceOp->Yo,lastMarks->Yp,cellsFrom->Yt,wpAny_pyIter_zip->Yv,wpAny_Dict_empty->Yx,beq_builtin_none->Yy,checkBuiltinCall->YC,treeTable->YF,Sem->YJ,CmpOp->YK,seqIndex_of->YN,subscripted->YO,pyHashByItsType->YY,wpAny_ret_mkInt->YZ,setItem->Z6,wpAny_load->Z9,firstArgMember->Za,IsPair->Zb,builtinsNs->Zc,wpAny_Name->Zd,wpAny_Expr_any->Ze,assign->Zf,again->Zg,wpAny_loadPart->Zi,callWith->Zj,bindL->Zk,bindC->Zl,typeIs_int->Zn,ReadsAll->Zq,wpAny_fieldsOf->Zt,setFlight->ZK,seqItems?->ZL,storeName->ZN,Arguments->ZP,Reads->ZQ,Params->ZY,storedH->a00,PyData->a01,setField->a09,raiseNew->a0a,ZipApart->a0b,intItems->a0c,rule->a0e,bindArgs->a0g,compPost->a0j,pyIter->a0s,Result->a0u,denote->a0z,IsZip->a0A,Drawn->a0B,ret->a0C,Tok->a0F
open Option renaming some->ae,none->ao,map_some->wa,isSome_iff_exists->Vp,map_eq_some_iff->Wz,isSome_some->XB,map_none->Z4
open Bool renaming true->ak,false->am,and_eq_true->cp,false_eq_true->de,true_and->fv,false_ne_true->fw,or_eq_true->ie,false_and->ig,not_true->ki,eq_iff_iff->nr,and_false->qz,not_false->uq,or_false->xi,false_or->xj,or_eq_false_iff->xu,and_true->ZH,true_or->ZZ
open PySem.W renaming Frag->aq,kitOne->gr,findIn->jv,kia_one->px,keepIn->qc,emptyDict->sf,instObj->wx,Looks->xh,fnOf->xy,callWith_K->yi,looks_findIn->yw,cellsFrom_some->W3,codeIn->W4,specialIn->WN,hideAll->X3,plainGet_of->Xj,looks_mroIn->Xq,plainGet->Xx,of_hideAll->XV,mroIn->Y0,exmOne->Yi,makesIn->Yq,takesIn->Ys,isClsIn->YB,methodObj->YI,hasDictIn->YL,methodCall_KW->YV,lookIn->Zh,hideAll_get->ZE,takerIn->ZO,codeRec_of->ZW,isFn->a0t,excIn->a0E
open PySem.Heap renaming get?_push_of_some->au,lt_size->bh,get?_push_size->cm,get?_update_other->dk,get?_update_self->li,SameBut->qb,size_push->vx,ExtBut->xm,size_update->Wc,get?_update_ne->Xf,MadeExcOf->Zw
open List renaming replicate->av,length_map->bf,mem_cons_of_mem->bp,getElem?_append_right->bt,mem_cons->bv,mem_cons_self->bz,size_toArray->cj,mem_singleton->cq,mem_append->cr,length_cons->dg,length_append->dh,getElem?_append_left->dj,getElem?_eq_getElem->dt,getElem?_map->dw,mem_of_getElem?->ee,map_cons->ef,append_assoc->eo,getElem?_eq_some_iff->fb,drop_eq_getElem_cons->fj,pairwise_iff_getElem->fk,mem_map->fq,getElem_mem->ft,getD_eq_getElem?_getD->fu,append_nil->fy,getElem?_set_ne->gf,not_mem_nil->gg,mem_append_right->gh,eq_of_mem_replicate->gm,getD->gz,pairwise_cons->ip,range->iw,map_map->ja,pairwise_map->jb,getElem?_set_self->jf,map_congr_left->jo,Nodup->jr,getElem?_replicate->jw,length_replicate->jx,mem_or_eq_of_mem_set->jy,replicate_succ->kq,flatten_replicate_singleton->kx,length_take->lc,pairwise_append->lf,length_singleton->lr,getElem?_take_of_lt->ly,mem_of_find?_eq_some->mn,getElem?_cons_zero->mw,mem_append_left->ng,nil_append->nj,map_append->oo,nodup_iff_pairwise_ne->oq,pairwise_singleton->ou,map_nil->qe,reverse_perm->qh,filter_cons->qj,mem_filter->qo,perm_append_comm->rj,mem_singleton_self->rm,length_filter_le->rq,take_of_length_le->sr,find?_cons_of_pos->ss,find?_cons_of_neg->su,dropLast_concat_getLast->sv,mem_range->sy,getElem?_eq_none->uc,drop_of_length_le->uh,forIn_cons->uk,find?_cons->uo,take_append_drop->uu,sum_cons->vc,forIn_nil->vk,all_eq_true->vp,filter_cons_of_pos->vq,filter_cons_of_neg->vt,flatten_cons->vz,any_cons->wb,drop_eq_nil_of_le->we,map->wf,mem_map_of_mem->wg,take_succ_eq_append_getElem->wj,pairwise_reverse->wq,getElem?_toArray->wr,nodup_cons->wz,length_nil->xb,mem_iff_getElem?->xf,dropLast_concat->xt,mem_iff_getElem->xz,filterMap_cons->yc,drop_sublist->yj,nodup_append->yk,mem_filterMap->yv,zip_nil_right->zg,toList_toArray->zh,getElem?_drop->zl,set_cons_zero->zn,find?_eq_none->zp,perm_ext_iff_of_nodup->zr,any_eq_false->Vn,drop_length->Vr,zip_cons_cons->Vs,filter_append->Vw,getElem?_cons_succ->Wd,foldl->Wn,foldl_cons->Wo,ext_getElem?->Wr,filter_eq_nil_iff->Ww,all_cons->WR,mem_of_mem_take->WS,mem_of_mem_drop->WT,cons_append->WV,any_eq_true->WW,mem_flatMap->WY,replicate_succ'->X1,replicate_zero->Xg,filter_eq_self->Xi,of_mem_zip->Xy,set_cons_succ->XG,find?_some->XJ,take_sublist->Y3,zipWith->Ye,toArray->Yg,mapM_toArray->Yj,flatMap_cons->Yl,mem_range'_1->Ym,filter_congr->Yn,nodup_nil->Yw,nodup_range->YA,perm_middle->YD,range'_succ->YE,zipIdx_cons->YG,length_drop->YM,lookup_cons->YR,range'->YS,zipIdx_nil->YU,perm_cons->Zz,filter_nil->ZA,drop_zero->ZB,map_take->ZF,map_drop->ZG,drop_drop->ZS,all_nil->a03,nil_perm->a0o
open PyProof.Rows renaming wpS_bind->az,wpS_pure->bi,pendingOf->bw,wpS_forRange->gj,SortSt->jc,callWith_type1->kf,wpS_mono->lq,wpS_modify->lu,boot_tuple->lv,listItems_at->ma,kindOf->ni,IntsAre->oz,slot_tuple_getitem->qx,SortKind->re,Keyed->rh,envOfC->tw,seqObj->uw,boot_sorted->vw,wpS_get->wd,arrOf->wo,failedOf->xq,getElem?_mirror_all->yd,AllBare->yg,sortedAll_old->Vt,wpS_lift->W8,subscriptTail_builtinR->Wk,sortedAll_at->Wt,boot_isinstance->WA,getElem?_bubble->WB,subscriptTail->Xl,listUpdate_at->Xp,callWith_builtin1->Yu,get?_update_seq->Z2,entry_list_sort->Z3,wpS->Z7,slicePart_none->Zm,mirror->Zs,slot_list_sort->Zu,args_list_sort->Zv,oneType'->Zy,IsTup->ZM,boot_list->ZU,keyKind'->a0k,mergeAt'->a0l,gallopOf->a0m,bubble->a0w,setArr->a0x
open PySem.PassesOwn renaming never->bu,leaving->Yk
open Nat renaming le_refl->cg,add_sub_cancel_left->cn,lt_of_lt_of_le->fc,ne_of_lt->gp,testBit_two_pow->lh,le_trans->mh,zero_le->qd,le_of_not_lt->sk,lt_irrefl->sw,le_of_ble_eq_true->ug,lt_of_succ_lt->vb,le_succ->vd,testBit_or->vj,beq->xk,min_eq_left->xp,eq_of_testBit_eq->xw,zero_add->zj,lt_or_gt_of_ne->zk,mul_le_mul->zq,le_add_right->Wp,ble->Wy,not_succ_lt_self->WU,mul_le_mul_right->X2,add_assoc->Xo,lt_of_le_of_lt->XA,ne_of_gt->XQ,le_of_lt->XW,lt_trichotomy->Yd,lt_succ_self->Yr,testBit_xor->Z5,add_mul->Z8,add_zero->Zr,mul_comm->ZX,lt_or_ge->a07,beq_eq->a08,le_of_eq->a0f,log2_lt->a0i
open Sum renaming inl->di,inr->yf
open Int renaming toNat_natCast->dq,emod_lt_of_pos->ur,toNat_of_nonneg->ux,emod_nonneg->xv,le_of_lt->Wx,le_refl->X0,lt_trans->a0p,mul_pos->a0q
open PySem.Value renaming none->fh,bool->kj,builtin->tm,type->wv,isInt->WK,float->YH,isStrOf->ZD,bytes->a0d
open PySem.Builtin.Tuple renaming tupleHashOf->fx,tupleItemsOf->ii,tupleExact->qv,tupleCompareSizes->wn
open False renaming elim->gy
open List.cons renaming injEq->im
open PySem.Str renaming ofString->iz
open Pure renaming pure->jh
open Option.some renaming injEq->jm
open PySem.F renaming slot_dict_keyiterator_next->jq,plainAttrs_list->ka,slot_tuple_hash->kr,slot_tuple_eq->nn,slot_tuple_lt->uf,args_tuple_add_2->va,entry_tuple_add->vn,slot_tuple_add->vy,slot_list_pop->wt,type_list_pop->wu,args_dict_keyiterator_next_1->xg,entry_dict_keyiterator_next->xr,slot_tuple_iterator_next->yq,slot_range_iterator_next->yr,slot_dict_iter->W9,args_tuple_lt_2->Wa,sub_tuple_tuple->Wb,attr_ValueError->We,entry_tuple_lt->Wv,slot_enumerate_next->WE,slot_list_lt->WZ,args_tuple_hash_1->Xc,entry_tuple_hash->XD,args_tuple_eq_2->Yc,entry_tuple_eq->Yz,slot_zip_next->YT,slot_int_rmul->YX
open PySem.PyData renaming eqv->ku,eqvAll->md,depthAll->nq,canLayAll0->qg,canLay0->rd
open Array renaming getElem?_toList->lp,getElem?_eq_some_iff->og,length_toList->qp,ext_getElem?->vi,forIn_toList->wc,getElem?_setIfInBounds_ne->wm,perm_iff_toList_perm->zi,getD->Ws,mem_toList_iff->WM,toList->ZV
open Prod.mk renaming injEq->mf
open True renaming intro->nh
open ForInStep renaming yield->nk
open PySem.Challenge renaming pw_slantfloor_k65_whole_all_floors->ot,rw_slantfloor_k65_whole_all_floors->oy
open PySem.Builtin.SmallTypes renaming nextOf->pi,ownedTupleIsFree->uy
open PySem.Builtin.Slice renaming slicePlaces->pk,sliceAdjust->uv,sliceApplied->zb,slicePartIndex->YW,sliceFields->ZC
open PySem.Obj renaming mapFields->qk,isFreed_of_fields->tu,mapSeq->um,data_mapFields->yp,cls_mapFields->Vk
open PySem.Builtin.List renaming listTooLong->qw,listExtendWith->yo,listUpdate->ZT,listItems->a06
open PySem.Builtin.Dict renaming showsAll->ue,entriesForEmpty->yb,dictSlotNone->zx,readDirectly->Vj,selfAndRest->Vv,updateFrom->Wf,addrOf->Xh,merge->XM,addKeywords->ZJ,mergeDict->a05,quietEq->a0n
open PySem.Builtin.Range renaming rangeSize->vm,small->a0r
open PySem.Builtin.Dict_items renaming ownsTuple->ya
open PySem.Calls renaming Name_function_global->yu,call_function_entry->zy,callWith_builtin->Wm,evalArgs_plain->WP
open Function renaming comp->Vx
open LawfulBEq renaming eq_of_beq->W6
open PySem.MeetsSeq3 renaming plain_eq_loop->Wg,entry_eq_loop->Wh
open PyProof.Rows.SortSt renaming mk'->Wu
open PySem.EntryCells renaming newEntry->X9
open PySem.Builtin.Int renaming intBits->Xd
open PySem.Heap.SameBut renaming update->Xe
open Sum.inl renaming injEq->Xr
open PySem.W.Fast renaming te10156331382660048174->Xs,te11892475500146522536->Xu,te14364793385576792824->Xv,te6613529449190102663->XN,te4187177175401517315->XO
open PySem.Code renaming quiet_builtin->XI,isFrame->Y2
open PySem.Around renaming under->Y1
open ForIn renaming forIn->YQ
open PySem.Value.ref renaming injEq->Z1
open PySem.Data.seq renaming injEq->Zo
open Array.mk renaming injEq->Zp
open PySem.SeqAt.EqAt renaming bool_bool->Zx
open PySem.SeqAt renaming list_countAt->ZI,shaped->a02
open PySem.Expr renaming Name->ZR
open PySem.W.KF renaming slot_gs->a04
open PySem.SeqAt.Reads renaming unique->a0v
open PySem.W.Looks renaming ld->a0y
open Iff renaming rfl->a0D
abbrev a0h:=@if_neg
abbrev a0G:=@if_pos
local macro_rules | `(tactic| ac_rfl)=>`(tactic| first | lia | omega | (simp;omega))
local macro_rules | `(term| ⋯)=>`(by  ac_rfl)
local macro_rules | `(term| ∅)=>`(by  decide)
local macro_rules | `(term| ↥$q)=>`({ nx:=λ_=>$q (.v .non),rt:=$q })
open List (sum_nil map_id)
open Nat (mul_add)
open Option (getD_none isSome_map getD_some)
open PySem PySem.Spec PyProof.Rows
noncomputable section
set_option Elab.async false
set_option linter.all false
set_option bootstrap.genMatcherCode false
set_option compiler.extract_closed false
set_option genSizeOf false
set_option genSizeOfSpec false
set_option maxRecDepth 100000
set_option maxHeartbeats 1000000
theorem FA(_:True:=by first | exact .inl rfl | exact .inr rfl | assumption):True:=trivial
theorem mJ(_:True:=by decide):True:=trivial
theorem cA(_:True:=by rfl):True:=trivial
theorem VU(_:True:=by intros;rfl):True:=trivial
theorem M7(_:True:=by intro _;rfl):True:=trivial
theorem Tj(_:True:=by with_unfolding_all rfl):True:=trivial
theorem F9(_:True:=by decide +kernel):True:=trivial
theorem VT(_:True:=by first | exact nomark _ | rfl):True:=trivial
theorem VS(_:True:=by intro _ _;rfl):True:=trivial
section
namespace _L
structure Cls(K:aq)(C:af):Prop where
  pg:Xx K C Str.empty=ak
  hd:YL K C=ak
  po:W.plainOver K C=ak
  sa:jv K (.ref C) "__setattr__"=ae (ae (.builtin "object.__setattr__"))
noncomputable def gB(s:kg)(j:Nat):kg:=match s with
  | .ClassDef _ _ _ a0R _ _ _ _ _ _ _=>a0R.getD j (.Pass ⟨0,0,0,0⟩)
  |_=>.Pass ⟨0,0,0,0⟩
noncomputable def kH(s:kg):ZP:=match s with
  | .FunctionDef _ a _ _ _ _ _ _ _ _=>a
  |_=>{ posonlyargs:=[],args:=[],vararg:=ao,kwonlyargs:=[],kw_defaults:=[],kwarg:=ao,defaults:=[] }
noncomputable def eK(s:kg):List kg:=match s with
  | .FunctionDef _ _ b _ _ _ _ _ _ _=>b
  |_=>[]
noncomputable def aM(s:kg):Scope:=match s with
  | .FunctionDef _ _ _ _ _ _ sc _ _ _=>sc
  |_=>{ kind:=.function,names:=[],isGenerator:=am,isCoroutine:=am }
end _L
open _L
namespace _Z
inductive DF(K:aq)(mg:bq->Option ah)(x nm:bq)(st:kg):Prop
 |mk {f:af} {od an:Option af} {sl:Array (Option ah)} {oc kV dc pm cd ct:ah} (a:mg x=ae (.ref f))
  (l:K.lookup f=ae ⟨oc,od,.func (xy nm nm (kH st) (eK st) (aM st) .none kV dc pm an cd ct),sl⟩) (c:W4 K cd nm=ak) (k:qc K (.ref f)=ak)
inductive MF(K:aq)(C:af)(m qual:bq)(st:kg):Prop
 |mk {f:af} {od an:Option af} {sl:Array (Option ah)} {oc kV dc pm cd ct:ah} (a:jv K (.ref C) m=ae (ae (.ref f))) (i:a0t K (.ref f)=ak)
  (l:K.lookup f=ae ⟨oc,od,.func (xy m qual (kH st) (eK st) (aM st) .none kV dc pm an cd ct),sl⟩) (c:W4 K cd qual=ak) (k:qc K (.ref f)=ak)
theorem Vh{mg:bq->Option ah}{x:bq}{n:Int}{t:a0F}(h:mg x=ae (.int n t)):∃t,mg x=ae (.int n t):=⟨_,h⟩
end _Z
open _Z
namespace _W
noncomputable def top(i:Nat):kg:=ot.main.body.getD i (.Pass ⟨0,0,0,0⟩)
inductive FX(K:aq)(mg:bq->Option ah)(fa:af):Prop
 |mk{C:af}(hfa:mg "law"=ae (.ref fa))
  {od0 an0:Option af} {sl0:Array (Option ah)} {oc0 kV0 dc0 pm0 cd0 ct0:ah} {f0:af}
  {eL:af}
  {iE:af}
  {lP:af}
  {iF:af}
  {g5:af}
  {jS:af}
  {eZ:af}
  {aS:af}
  {jR:af}
  {jP:af}
  {jQ:af}
  (aC:mg "Sides"=ae (.ref C))
  (m1:MF K C "__init__" "Sides.__init__" (gB (top 47) 0))
  (m2:MF K C "many" "Sides.many" (gB (top 47) 1))
  (m3:MF K C "kind" "Sides.kind" (gB (top 47) 2))
  (m4:MF K C "pairs" "Sides.pairs" (gB (top 47) 4))
  (cl:Cls K C) (mk:Yq K C=ak) (kc:qc K (.ref C)=ak)
  (kF:jv K (.ref C) "kinds"=ae ao)
  (uY:jv K (.ref C) "vectors"=ae ao)
  (m5:DF K mg "with_band" "with_band" (top 14))
  (m6:DF K mg "belows" "belows" (top 15))
  (m7:DF K mg "threes" "threes" (top 17))
  (m8:DF K mg "counts_as_up" "counts_as_up" (top 18))
  (m9:DF K mg "fours" "fours" (top 19))
  (m10:DF K mg "has_three_alike" "has_three_alike" (top 20))
  (m11:DF K mg "is_barred" "is_barred" (top 21))
  (m12:DF K mg "check_threes" "check_threes" (top 22))
  (m13:DF K mg "is_below" "is_below" (top 23))
  (m14:DF K mg "floor_by" "floor_by" (top 24))
  (m15:DF K mg "standing_up" "standing_up" (top 26))
  (m16:DF K mg "standing_down" "standing_down" (top 27))
  (m17:DF K mg "tiles_by_flip" "tiles_by_flip" (top 28))
  (m18:DF K mg "flippable" "flippable" (top 29))
  (m19:DF K mg "flipped" "flipped" (top 30))
  (m20:DF K mg "low" "low" (top 31))
  (m21:DF K mg "all_floors" "all_floors" (top 33))
  (m22:DF K mg "is_whole" "is_whole" (top 35))
  (m23:DF K mg "has_three_wholes" "has_three_wholes" (top 41))
  (m24:DF K mg "has_few_figures" "has_few_figures" (top 42))
  (m25:DF K mg "points_up" "points_up" (top 43))
  (m26:DF K mg "lies_left" "lies_left" (top 44))
  (m27:DF K mg "check_direction" "check_direction" (top 45))
  (m28:DF K mg "check_directions" "check_directions" (top 46))
  (m29:DF K mg "_law_deep" "_law_deep" (top 49))
  (m30:DF K mg "_law_whole" "_law_whole" (top 50))
  (m31:DF K mg "_law_dirs" "_law_dirs" (top 51))
  (m32:DF K mg "_law_kinds" "_law_kinds" (top 52))
  (m33:DF K mg "_law_low" "_law_low" (top 53))
  (m34:DF K mg "_law_alone" "_law_alone" (top 54))
  (m35:DF K mg "_law_parted" "_law_parted" (top 55))
  (m36:DF K mg "_law_counts" "_law_counts" (top 56))
  (m37:DF K mg "_law_put" "_law_put" (top 57))
  (m38:DF K mg "_law_flips" "_law_flips" (top 58))
  (m39:DF K mg "_law_reached" "_law_reached" (top 59))
  (m40:DF K mg "_law_refused" "_law_refused" (top 60))
  (m41:DF K mg "_law_formed" "_law_formed" (top 61))
  (m42:DF K mg "_law_counted" "_law_counted" (top 62))
  (m43:DF K mg "_law_tried" "_law_tried" (top 63))
  (a0:mg "law"=ae (.ref f0))
  (l0:K.lookup f0=ae ⟨oc0,od0,.func (xy "law" "law" (kH (top 64)) (eK (top 64)) (aM (top 64)) .none kV0 dc0 pm0 an0 cd0 ct0),sl0⟩) (c0:W4 K cd0 "law"=ak) (k0:qc K (.ref f0)=ak)
  (gJ:∃t,mg "FEWEST_DIRECTIONS"=ae (.int 2 t))
  (iH:∃t,mg "MOST_DIRECTIONS"=ae (.int 6 t))
  (nN:∃t,mg "MOST_BANDS"=ae (.int 12 t))
  (iI:∃t,mg "LARGEST_PART"=ae (.int 999999999999 t))
  (nL:mg "ValueError"=ao)
  (FB:mg "abs"=ao)
  (A7:mg "all"=ao)
  (uG:mg "bool"=ao)
  (Ak:mg "dict"=ao)
  (oU:mg "enumerate"=ao)
  (A6:mg "int"=ao)
  (aO:mg "isinstance"=ao)
  (bZ:mg "len"=ao)
  (rL:mg "list"=ao)
  (b4:mg "range"=ao)
  (cX:mg "sorted"=ao)
  (A5:mg "sum"=ao)
  (bU:mg "tuple"=ao)
  (A4:mg "zip"=ao)
  (oF:mg "SlantError"=ae (.ref eL))
  (v6:mg "NoSides"=ae (.ref iE))
  (Bk:mg "NoRow"=ae (.ref lP))
  (v7:mg "NoFloor"=ae (.ref iF))
  (sJ:mg "NoThrees"=ae (.ref g5))
  (yN:mg "NoFlip"=ae (.ref jS))
  (pX:mg "NoHeights"=ae (.ref eZ))
  (gC:mg "TooMany"=ae (.ref aS))
  (yM:mg "NoHold"=ae (.ref jR))
  (yK:mg "NoTurn"=ae (.ref jP))
  (yL:mg "NoText"=ae (.ref jQ))
  (rq_TooMany:a0E K aS [.type "ValueError",.type "Exception",.type "BaseException",.type "object"] "ValueError.__new__"=ak)
  (x_TooMany_SlantError:Yi K (.ref aS) (.ref eL)=ae ak)
  (ic1:YB K aS=ak)
  (ic2:jv K (.ref aS) "__getattribute__"=ae (ae (.builtin "BaseException.__getattribute__")))
  (ic7:jv K (.ref aS) "__getattr__"=ae ao)
  (ic8:Y0 K aS (.type "BaseException")=ae ak)
  (ic3:jv K (.ref aS) "__class__"=ae (ae (.builtin "object.__class__")))
  (ic4:WN K (.builtin "object.__class__") "__get__"=ae (ae (.builtin "getset_descriptor.__get__")))
  (ic5:Ys K (.builtin "object.__class__")=ae ak)
  (ic6:Y0 K aS (.type "object")=ae ak)
  (kq_NoSides:gr K (.ref aS) (.ref iE)=ae am)
  (kq_NoRow:gr K (.ref aS) (.ref lP)=ae am)
  (kq_NoFloor:gr K (.ref aS) (.ref iF)=ae am)
  (kq_NoThrees:gr K (.ref aS) (.ref g5)=ae am)
  (kq_NoFlip:gr K (.ref aS) (.ref jS)=ae am)
  (kq_NoHeights:gr K (.ref aS) (.ref eZ)=ae am)
  (kq_TooMany:gr K (.ref aS) (.ref aS)=ae ak)
  (kq_NoHold:gr K (.ref aS) (.ref jR)=ae am)
  (kq_NoTurn:gr K (.ref aS) (.ref jP)=ae am)
  (kq_NoText:gr K (.ref aS) (.ref jQ)=ae am)
  (kq_V:gr K (.ref aS) (.type "ValueError")=ae ak)
end _W
namespace Hd
open PySem PySem.W
noncomputable def R0:List jn->Nat->BT->Option (BT×Nat)
 | [],n,t=>ae (t,n)
 |o::r,n,t=>match ((t.ins n o).get n).isSome with
  |true=>R0 r (n+1) (t.ins n o)
  |false=>ao
theorem D1{life:Life}:∀(l:List jn) (n:Nat) (t:BT) {t':BT} {n':Nat},R0 l n t=ae (t',n')->absHeap t' n' life=⟨((absHeap t n life).objs.toList++l).toArray,life⟩
 | [],n,t,t',n',h=>by
  cases h;rw[fy];rfl
 |o::r,n,t,t',n',h=>by
  rw[R0] at h;cases g:((t.ins n o).get n).isSome with
  |false=>rw[g] at h;cases h
  |true=>
   rw[g] at h;rw[D1 r (n+1) (t.ins n o) h,absHeap_ins g];show Heap.mk _ _=Heap.mk _ _;congr 1;show (((absHeap t n life).objs.push o).toList++r).toArray=_;simp
theorem KD{t:BT}(e:R0 h.objs.toList 0 .nil=ae (t,n)):absHeap t n h.life=h:=by
 rw[D1 (life:=h.life) _ _ _ e];rfl
noncomputable def wI(st:SharedT->zu->Option (SharedT×zu))(th:zu->Bool)(ok:zu->Bool):Nat->SharedT->zu->Option SharedT
 |0,_,_=>ao
 |n+1,s,t=>match th t with
  |true=>ae s
  |false=>match ok t with
   |false=>ao
   |true=>match Wy s.toks 1000000 with
    |false=>ao
    |true=>match st s t with
     |some (s',t')=>wI st th ok n s' t'
     |none=>ao
theorem sW{tb:String->Option qy}{p:bj}{w:df}{n₀:Nat}{ann:Option ah}:∀(n:Nat) (s:SharedT) (t:zu) {s':SharedT},wI (stepT (a0z tb) p w) through (stepOk n₀ ann) n s t=ae s'->topRun tb p w n₀ ann n s.abs t=ae s'.abs
 |0,_,_,_,h=>by cases h
 |n+1,s,t,s',h=>by
  unfold wI at h;unfold topRun;cases ht:through t with
  |true=>rw[ht] at h;cases h;rfl
  |false=>
   rw[ht] at h;cases hk:stepOk n₀ ann t with
   |false=>rw[hk] at h;cases h
   |true=>
    rw[hk] at h;dsimp only at h ⊢;cases hb:Wy s.toks 1000000 with
    |false=>rw[hb] at h;cases h
    |true=>
     rw[hb] at h;dsimp only at h;cases hs:stepT (a0z tb) p w s t with
     |none=>rw[hs] at h;cases h
     |some x=>
      obtain⟨s1,t1⟩:=x;rw[hs] at h;rw[stepT_spec hs];exact sW n s1 t1 h
noncomputable def E4(st:SharedT->zu->Option (SharedT×zu))(th:zu->Bool)(ok:zu->Bool)(M:Nat)(h:eh)(gs:Array XX)(d:a0B)(k:Nat)(os:OsState)(t:zu):Option SharedT:=
 match R0 h.objs.toList 0 .nil with
 |some (b,n)=>wI st th ok M ⟨b,n,h.life,gs,d,k,os⟩ t
 |none=>ao
variable {p:bj}{ann:Option ah}{M:Nat}
theorem CQ{tb:String->Option qy}{n₀:Nat}{gs:Array XX}{d:a0B}{k:Nat}{os:OsState}{t:zu}{s':SharedT}
  (e:E4 (stepT (a0z tb) p w) through (stepOk n₀ ann) M h gs d k os t=ae s'):topRun tb p w n₀ ann M ⟨h,gs,d,k,os⟩ t=ae s'.abs:=by
 unfold E4 at e;cases q:R0 h.objs.toList 0 .nil with
 |none=>rw[q] at e;cases e
 |some x=>
  obtain⟨b,n⟩:=x;rw[q] at e;have:=sW M _ _ e;unfold SharedT.abs at this;dsimp only at this;rw[KD q] at this;exact this
theorem NS{q:bj}{loose:List bq}{Xt:aj->Bool}{Yf:aj->α}{Ya:df->α}{N:Nat}{g0:Bool}{HZ:ZY->eh}{gs₀:Array XX}{d₀:a0B}{k₀:Nat}{m₀:Nat}
  (open_:∀w:df,(fencedOpening YF p w N).map (λs=>(s.heap,s.gens,s.drawn,s.toks))=ae (HZ w.params,gs₀,d₀,k₀))
  (size:∀w:df,((HZ w.params).isNs jt&&gs₀.size==0,(HZ w.params).objs.size,(HZ w.params).nsMap jt "__annotations__")=(ak,m₀,ann)) (le:Wy M N=ak)
  (run:∀(w:df) (os:OsState),(E4 (stepT (a0z YF) p w) through (stepOk m₀ ann) M (HZ w.params) gs₀ d₀ k₀ os (topStub p)).map (λs=>
    ((staticsOk (WD p.main.body) (HZ w.params) s.abs.heap&&namesBound p s.abs.heap&&gensDone s.abs&&laidKept (HZ w.params) s.abs.heap),openSeen q loose (WD p.main.body) Xt g0 s.abs,Yf s.abs))=ae (ak,openGood q loose,Ya w)):
  LeftO p q loose Xt Yf Ya N g0:=λw=>by
 obtain⟨⟨h,gs,d,k,os⟩,e,e'⟩:=Wz.mp (open_ w);obtain⟨rfl,rfl,rfl,rfl⟩:h=HZ w.params/\gs=gs₀/\d=d₀/\k=k₀:=by simpa using e'
 obtain⟨z1,z2,z3⟩:_/\_/\_:=by simpa only[mf] using size w
 obtain⟨s',r,l⟩:=Wz.mp (run w os);obtain⟨l1,l2,l3⟩:_/\_/\_:=by simpa only[mf] using l
 have r:=topRun_mono (N-M) _ _ _ _ (CQ r);rw[show M+(N-M)=N by have:=ug le;ac_rfl] at r;have t:topFrom YF p w N ⟨HZ w.params,gs,d,k,os⟩=ae s'.abs:=by
  unfold topFrom;dsimp only;rw[z1,z2,z3,r];show (match staticsOk (WD p.main.body) (HZ w.params) s'.abs.heap&&namesBound p s'.abs.heap&&gensDone s'.abs&&laidKept (HZ w.params) s'.abs.heap with | true=>_ | false=>_)=_;rw[l1]
 unfold openEnds;rw[e];show (topFrom YF p w N _).map _=_;rw[t];exact congrArg ae (Prod.ext l2 l3)
end Hd
noncomputable def Hd.QV:PySem.Program:=PySem.W.view ot [0,2,3,4,5,6,7,8,9,10,11,12,14,15,17,18,19,20,21,22,23,24,26,27,28,29,30,31,33,35,37,38,39,40,41,42,43,44,45,46,47,49,50,51,52,53,54,55,56,57,58,59,60,61,62,63,64]
open PySem PySem.W PyProof.Rows
abbrev Hd.r:=OpenLaw.row PySem.Challenge.rw_slantfloor_k65_whole_all_floors
theorem Hd.op{d:DefRec}{k:List (PySem.Str×PySem.Expr)}(H:Hook)(hl:LeftO Hd.r.prog Hd.QV [] (λs=>xlAt Hd.QV [] s&&recOk Hd.r.toRowW.records s) H.obs H.val 8342)(a:defOf Hd.QV Hd.r.name=some (d,k))(b:Hd.r.prog.theDef Hd.r.name=some (d.params,d.body,d.scope))(c:kwWritten? d.params.kwonlyargs d.params.kw_defaults=some k)(w:Hd.r.promised)(h:WalkO Hd.QV [] (XL Hd.QV []) H.says Hd.r.toRowW d k λf vs=>PySem.call f vs):Hd.r.Holds:=holds_open hl H.of H.keeps (λs e=>xl_of s (Bool.and_eq_true_iff.mp e).1) XL.keeps a b c (λs e=>recFacts_of (Bool.and_eq_true_iff.mp e).2) (by rfl) (by decide +kernel) (by decide +kernel) ⟨rfl,rfl,rfl,rfl,rfl,by decide +kernel⟩ w h
local macro_rules | `(tactic| o_head $H)=>`(tactic| refine Hd.op $H ?hl (by rfl) (by rfl) (by rfl) ?hw ?hc)
set_option maxRecDepth 100000 in
noncomputable def PySem.W.Fast.tw743258300065687104:=PySem.Challenge.rw_slantfloor_k65_whole_all_floors
theorem PySem.W.Fast.te743258300065687104:PySem.Challenge.rw_slantfloor_k65_whole_all_floors=PySem.W.Fast.tw743258300065687104:=rfl
set_option maxHeartbeats 0 in
theorem _W.early(hyp:∀{q:bj}{loose:List bq}{XP:(bq->Option ah)->eh->Prop}{YP:df->eh->Prop}{d:DefRec}{K:ZY->aq},d.params.defaults=[]->(∀(w:df)(h:eh),YP w h->(K w.params).In h)->(∀(w:df)(mg:bq->Option ah)(fa:af)(h:eh),(K w.params).In h->h.Ns jt mg->mg d.name=ae (.ref fa)->_W.FX (K w.params) mg fa)->W.WalkO q loose XP YP oy.row.toRowW d [] (λf vs=>PySem.call f vs)):oy.Holds:=by
 w_on;o_law;k_head
 (case hl=>exact Hd.NS (HZ:=boot_heap) (gs₀:=Array.mk []) (d₀:=boot_drawn) (k₀:=boot_toks) (m₀:=11) (ann:=ae (.ref 6)) (M:=8342) (boot_open (by kernel_rfl) rfl (λs=>by kernel_rfl)) (λw=>by kernel_rfl) rfl (λw os=>by rw[Xs,Xu,Xv,XN,XO];kernel_rfl))
 (case hw=>w_witness2)
 k_fill
 refine hyp rfl (λw h Y=>by first | exact PySem.W.kIn_of Y | exact PySem.W.km_in_of Y) ?F
 case F=>
  intro w mg fa h KX G hmg;apply _W.FX.mk hmg
  any_goals first | refine' _Z.DF.mk (mg_of KX G ?_) ?_ ?_ ?_ | refine' _Z.MF.mk ?_ ?_ ?_ ?_ ?_ | refine' mg_none_of KX G ?_ | refine' mg_of KX G ?_ | refine' _Z.Vh (mg_of KX G ?_) | refine' _Z.exS (mg_of KX G ?_) | refine' _L.Cls.mk ?_ ?_ ?_ ?_
  any_goals k_is
  (case rq_TooMany=>k_exc)
  (case x_TooMany_SlantError=>kts_exm)
  (case kq_NoSides=>kit_is)
  (case kq_NoRow=>kit_is)
  (case kq_NoFloor=>kit_is)
  (case kq_NoThrees=>kit_is)
  (case kq_NoFlip=>kit_is)
  (case kq_NoHeights=>kit_is)
  (case kq_TooMany=>kit_is)
  (case kq_NoHold=>kit_is)
  (case kq_NoTurn=>kit_is)
  (case kq_NoText=>kit_is)
  (case kq_V=>kit_is)
end
variable {us:List ah}{base h:eh}{e tg:Expr}{i n:Nat}{Q E:ah->aj->Prop}{A:cb}{a b f C:af}{α:Type}{u:ah}{P prog:bj}{w:df}{N ps:List bq}{s:aj}{pos p:lj}{pj:List (af×jn)}{K:aq}{es:List Expr}{mg:bq->Option ah}{outer:List zw}{a0I:bq}{a0H:Scope}
namespace _L
structure Like(o oe:jn):Prop where
  cls:oe.cls=o.cls
  dict:oe.dict=o.dict
  fl:∃us vs,o.data=.fields us/\oe.data=.fields vs /\ ∀i,i≠1->vs[i]?=us[i]?
def mH(o:jn):Prop:=∃us:Array ah,o.data=.fields us/\us[2]?=ae .none
variable {o oe:jn}
theorem Like.mild(k:Like o oe)(m:mH o):mH oe:=by
  obtain⟨us,d,q⟩:=m;obtain⟨us',vs,d',dv,i⟩:=k.fl;rw[d] at d';cases d';exact⟨vs,dv,(i 2 ∅).trans q⟩
theorem Like.rfl'{us:Array ah}(d:o.data=.fields us):Like o o:=⟨rfl,rfl,us,us,d,d,λ_ _=>rfl⟩
def Tr(h base:eh)(e:af)(o:jn)(fl:ah):Prop:=
  ∃(oe:jn) (vs:Array ah) (T:af) (oT:jn) (ts:Array ah),h.get? e=ae oe/\Like o oe/\oe.data=.fields vs/\vs[1]?=ae (.ref T)/\base.get? T=ao/\T≠e/\h.get? T=ae oT/\oT.data=.fields ts/\ts[3]?=ae fl
structure Fly(base:eh)(l:List zw)(e:af)(o:jn)(fl:ah)(h:eh):Prop where
  st:base.StaysIn h
  no:base.get? e=ao
  fr:h.FunFrames base l
  tr:Tr h base e o fl
theorem Fly.there{l:List zw}{e:af}{fl:ah}(x:Fly base l e o fl h):∃oe,h.get? e=ae oe/\Like o oe:=by
  obtain⟨oe,_,_,_,_,g,k,_⟩:=x.tr;exact⟨oe,g,k⟩
theorem IB{vs:Array ah}{v:ah}(d:o.data=.fields vs):(qk (·.setIfInBounds i v) o).data=.fields (vs.setIfInBounds i v):=yp d _
theorem Like.set{v:ah}(k:Like o oe):Like o (qk (·.setIfInBounds 1 v) oe):=by
  obtain⟨us,vs,d,dv,i⟩:=k.fl;refine⟨(Vk ..).trans k.cls,?_,us,_,d,IB dv,λj hj=>?_⟩
  . rw[<- k.dict];obtain⟨c0,d0,a0,s0⟩:=oe;cases dv;rfl
  . rw[wm (λz=>hj z.symm)];exact i j hj
variable {M:Vl}{env:zw}
section
variable {L e:af}
theorem Ab{vs:Array ah}{head:ah}{had:Bool}{Q:Unit->aj->Prop}(hfr:A.frames=ae (env::outer))(fr:s.heap.FunFrames base (env::outer))(hf:env.frame=ae L)(st:base.StaysIn s.heap)(no:base.get? e=ao)
    (g:s.heap.get? e=ae oe) (k:Like o oe) (d:oe.data=.fields vs) (hsz:1<vs.size) (q:∀h',Fly base (env::outer) e o (ph L) h'->s.heap.UpToSlots h'->Q () { s with heap:=h' }):
    bg M A (do let a <- frameOf env;let pl <- entryPlaceOf L had;let b <- X9 head a .none (ph L) .none pl;a09 (.ref e) 1 b) Q E s:=by
  have nfr:e ∉ (env::outer).filterMap (·.frame):=λhm=>by
    obtain⟨_,o',g',nf⟩:=fr.mem hm;rw[g] at g';cases g';exact nf vs d
  refine aa (wpAny_frameOf_fun hfr fr hf λh1 ⟨_,same,slot⟩=>aa (wpAny_entryPlaceOf λpl hpl=>?_));unfold X9 newFields;refine aa (jj ?_ (hpl.sizeOk5 _ _ _ _ _));have h3:(([head,.ref L,.none,ph L,.none]++(if pl.isEmpty then av 6 fh else pl)).toArray:Array ah)[3]?=ae (ph L):=by
    first | (simp;done) | (rcases hpl with rfl | ⟨_,_,_,_,_,_,_,rfl⟩<;>simp)
  generalize (([head,.ref L,.none,ph L,.none]++(if pl.isEmpty then av 6 fh else pl)).toArray:Array ah)=ts at h3;generalize hob:({ cls:=.type "traceback",dict:=ao,data:=.fields ts }:jn)=ob;have g1:h1.get? e=ae oe:=(same e nfr).trans g;have gT:(h1.push ob).get? h1.objs.size=ae ob:=by
    subst hob;exact cm h1 rfl
  have ne:h1.objs.size≠e:=XQ (bh g1);have st1:base.StaysIn h1:=λb u z=>(same b λhm=>by rw[(fr.mem hm).1] at z;cases z).trans (st b u z);have keep:∀b u,b≠e->h1.get? b=ae u->((h1.push ob).update e (qk (·.setIfInBounds 1 (.ref h1.objs.size)))).get? b=ae u:=λb u hb z=>
    (dk _ _ (Ne.symm hb)).trans (au _ z)
  have rec':∀b u,s.heap.get? b=ae u->(∀us,u.data ≠ .fields us)->b≠e:=λb u z nf q=>by
    rw[q,g] at z;cases z;exact nf vs d
  refine oa (au _ g1) d hsz (q _ ⟨λb u z=>keep b u (λq=>by rw[q,no] at z;cases z) (st1 b u z),no,fr.of_keeps λb u z nf=>?_,?_⟩ λb u z nf=>?_)
  . obtain⟨sl,z'⟩:=slot b u z;exact⟨_,keep b _ (rec' b u z nf) z',rfl⟩
  . refine⟨_,_,h1.objs.size,ob,ts,li _ (au _ g1) (tu (IB d)),k.set,IB d,by simp[hsz],st1.fresh,ne,?_,by rw[<- hob],h3⟩;exact(dk _ _ (Ne.symm ne)).trans gT
  . obtain⟨sl,z'⟩:=slot b u z;exact⟨sl,keep b _ (rec' b u z nf) z'⟩
theorem Hv{us:Array ah}{Q:Unit->aj->Prop}(hfr:A.frames=ae (env::outer))(fr:s.heap.FunFrames base (env::outer))(hf:env.frame=ae L)(st:base.StaysIn s.heap)(no:base.get? e=ao)
    (g:s.heap.get? e=ae o) (d:o.data=.fields us) (n1:us[1]?=ae .none) (q:∀h',Fly base (env::outer) e o (ph L) h'->s.heap.UpToSlots h'->Q () { s with heap:=h' }):bg M A (Vy (.ref e) env) Q E s:=by
  unfold Vy;simp only[hf];refine aa (fz g d n1 ?_);rw[a0h ∅];exact Ab hfr fr hf st no g (Like.rfl' d) d (og.mp n1).1 q
theorem LP{Q:Unit->aj->Prop}(hfr:A.frames=ae (env::outer))(hf:env.frame=ae L)(x:Fly base (env::outer) e o .none s.heap)
    (q:∀h',Fly base (env::outer) e o (ph L) h'->s.heap.UpToSlots h'->Q () { s with heap:=h' }):bg M A (Vy (.ref e) env) Q E s:=by
  obtain⟨st,no,fr,oe,vs,T,oT,ts,g,k,d,n1,nT,ne,gT,dT,n3⟩:=x;unfold Vy;simp only[hf];refine aa (fz g d n1 ?_);rw[a0G (show (Value.ref T != fh)=ak by simp)];refine aa (fz gT dT n3 ?_);rw[a0h (show ¬((fh==ph L)=ak) by simp[ph])];have oth:∀b,b≠T->(s.heap.update T (qk (·.setIfInBounds 3 fh))).get? b=s.heap.get? b:=λb hb=>dk _ _ (Ne.symm hb);have rec':∀b u,s.heap.get? b=ae u->(∀us,u.data ≠ .fields us)->b≠T:=λb u z nf q=>by
    rw[q,gT] at z;cases z;exact nf ts dT
  refine aa (oa gT dT (og.mp n3).1 (Ab hfr (fr.of_keeps λb u z nf=>⟨u,(oth b (rec' b u z nf)).trans z,rfl⟩) hf (λb u z=>(oth b λq=>by rw[q,nT] at z;cases z).trans (st b u z)) no ((oth e (Ne.symm ne)).trans g) k d (og.mp n1).1 λh' x' u'=>q h' x' λb u z nf=>u' b u ((oth b (rec' b u z nf)).trans z) nf))
theorem v5{l:List zw}{fl:ah}{Q:Unit->aj->Prop}(x:Fly base l e o fl s.heap)(q:∀h',Fly base l e o .none h'->s.heap.UpToSlots h'->Q () { s with heap:=h' }):bg M A (ZK (.ref e) ao) Q E s:=by
  obtain⟨st,no,fr,oe,vs,T,oT,ts,g,k,d,n1,nT,ne,gT,dT,n3⟩:=x;have z3:=(og.mp n3).1;have oth:∀b,b≠T->(s.heap.update T (qk (·.setIfInBounds 3 ((ao:Option af).elim fh λf=>ph f)))).get? b=s.heap.get? b:=λb hb=>dk _ _ (Ne.symm hb);have rec':∀b u,s.heap.get? b=ae u->(∀us,u.data ≠ .fields us)->b≠T:=λb u z nf q=>by
    rw[q,gT] at z;cases z;exact nf ts dT
  unfold ZK;refine aa (fz g d n1 ?_);rw[a0G (show (Value.ref T != fh)=ak by simp)];refine oa gT dT z3 (q _ ⟨λb u z=>(oth b λq=>by rw[q,nT] at z;cases z).trans (st b u z),no,fr.of_keeps λb u z nf=>⟨u,(oth b (rec' b u z nf)).trans z,rfl⟩,?_⟩ λb u z nf=>⟨u.slots,(oth b (rec' b u z nf)).trans z⟩);exact⟨oe,vs,T,_,_,(oth e (Ne.symm ne)).trans g,k,d,n1,nT,ne,li _ gT (tu (IB dT)),IB dT,by simp[z3]⟩
theorem LQ{us:Array ah}{Q:Unit->aj->Prop}(hfr:A.frames=ae (env::outer))(fr:s.heap.FunFrames base (env::outer))(hf:env.frame=ae L)(st:base.StaysIn s.heap)(no:base.get? e=ao)
    (g:s.heap.get? e=ae o) (d:o.data=.fields us) (n1:us[1]?=ae .none) (q:∀h',Fly base outer e o .none h'->s.heap.UpToSlots h'->Q () { s with heap:=h' }):bg M A (leaving env (.ref e)) Q E s:=by
  unfold leaving;refine aa (Hv hfr fr hf st no g d n1 λh1 x1 u1=>v5 x1 λh2 x2 u2=>q h2 ⟨x2.st,x2.no,?_,x2.tr⟩ (u1.trans u2));obtain⟨_,_,z⟩:=x2.fr;exact z
end
def Qu(A:cb)(h:eh):Prop:=A.handled=ao \/ ∃(a:af) (o:jn),A.handled=ae (.ref a)/\h.get? a=ae o/\mH o
variable {h':eh}
theorem Qu.keeps(q:Qu A h)(k:∀b o,mH o->h.get? b=ae o->h'.get? b=ae o):Qu A h':=by
  rcases q with q | ⟨a,o,e,g,m⟩
  . exact .inl q
  . exact .inr ⟨a,o,e,k a o m g,m⟩
theorem zR:entryFor table "proto.unchain"=ae qy.«proto.unchain» := entryFor_of_fast (by kernel_rfl)
variable {l it:af}{xs:Array ah}{lo:Int}
theorem Ao{e:ah}(g:s.heap.get? a=ae o)(m:mH o)(q:Q .none s):bg (bn prog w) A (runValue (.builtin "proto.unchain" ⟨[e,.ref a,.ref a,.bool am],[]⟩)) Q E s:=by
  obtain⟨us,d,n2⟩:=m;refine runValue_entry zR ?_;unfold qy.«proto.unchain»;dsimp only;refine aa (fz g d n2 ?_);rw[a0G ∅];exact ai ⟨_,rfl,q⟩
theorem Gk{us:Array ah}{Q:α->aj->Prop}(q:Qu A s.heap)(g:s.heap.get? a=ae o)(d:o.data=.fields us)(hz:2<us.size)(hm:∀v,A.handled=ae v->v ≠ .ref a)
    (h:∀h' o',(∀b u,b≠a->s.heap.get? b=ae u->h'.get? b=ae u)->h'.get? a=ae o'->o'.cls=o.cls->E (.ref a) { s with heap:=h' }):bg (bn prog w) A (a0a (α:=α) (.ref a)) Q E s:=by
  simp only[a0a];refine aa (wpAny_handled ?_);rcases q with q | ⟨b,ob,q,gb,mb⟩
  . rw[q];exact aa (ai (wpAny_throw (h s.heap o (λ_ _ _ z=>z) g rfl)))
  . rw[q];have ne:b≠a:=λz=>hm _ q (by rw[z]);dsimp only;rw[a0G (show (Value.ref b != Value.ref a)=ak by simpa using ne)];refine aa (je (Ao gb mb (aa ?_)));unfold updateField;refine aa (Z9 g ?_);rw[d];dsimp only;rw[a0G hz];refine wpAny_update g (wpAny_throw (h _ (qk (·.setIfInBounds 2 (.ref b)) o) (λc u hc z=>(dk _ _ (Ne.symm hc)).trans z) (li _ g (tu (IB d))) (Vk ..)))
theorem kS{Q:α->aj->Prop}(q:Qu A s.heap)(h:∀h' e,(∀b u,s.heap.get? b=ae u->h'.get? b=ae u)->(∃o,h'.get? e=ae o/\o.cls=.type "StopIteration")->E (.ref e) { s with heap:=h' }):
    bg (bn prog w) A (newExc (.type "StopIteration") [] >>= λe=>a0a (α:=α) e) Q E s:=by
  refine aa ?_;simp only[newExc,newTuple];refine aa (jj (aa (m:=Za _ _) (wpAny_of_eq (a:=fh) (by first | rfl | (simp only[Za];rfl)) (jj ?_ (by size_fits)))) (by size_fits));refine Gk (q.keeps λb u _ z=>au _ (au _ z)) (cm _ rfl) rfl ⋯ (λv e z=>?_) λh' o' k g c=>h h' _ (λb u z=>k b u ?_ (au _ (au _ z))) ⟨o',g,c⟩
  . subst z;rcases q with q | ⟨b,ob,q,gb,_⟩
    . rw[q] at e;cases e
    . rw[q] at e;cases e;exact sw _ (fc (bh gb) (by rw[vx];exact vd _))
  . intro e;subst e;exact sw _ (fc (bh z) (by rw[vx];exact vd _))
theorem DP{Q:Option ah->aj->Prop}(q:Qu A s.heap)(t:s.heap.IsListIter it l i)(il:s.heap.IsList l xs)(n:xs[i]?=ao)(h:∀h',xm it s.heap h'->Q ao { s with heap:=h' }):
    bg (bn prog w) A (ui (.ref it)) Q E s:=by
  obtain⟨o,g,c,d⟩:=id t;obtain⟨ol,gl,_,nl,dl⟩:=il;unfold ui;refine aa (lw (gk (name:=iz "__next__") t.typeIs vg (fg vg t.typeIs Xa ?_ (Xw _))));refine aa (m:=WJ (.ref it) 0) (fz g d (x:=.ref l) rfl ?_);rw[a0h (show ¬((Value.ref l==fh)=ak) from λz=>nomatch z)];refine aa (m:=WJ (.ref it) 1) (fz g d (x:=.int i 0) rfl (aa (m:=ZL (.ref l)) (oj gl dl ?_)));simp only[dq,n];have ne:∀b u,mH u->s.heap.get? b=ae u->b≠it:=λb u m gb z=>by
    subst z;rw[g] at gb;cases gb;obtain⟨us,du,z2⟩:=m;rw[d] at du;cases du;simp at z2
  refine aa (ir (aa (oa g d (by simp) (kS (q.keeps λb u m z=>(dk _ _ (Ne.symm (ne b u m z))).trans z) λh' e k ⟨oe,ge,ce⟩=>?_))));refine aa (fm (T:="StopIteration") (b:=ak) ⟨oe,ge,ce⟩ uj (ai (h _ λb u hb z=>k b u ((dk _ _ (Ne.symm hb)).trans z))))
theorem Hx{Q:Option ah->aj->Prop}(q:Qu A s.heap)(t:s.heap.IsTupleIter it l i)(il:s.heap.IsTuple l xs)(n:xs[i]?=ao)(h:∀h',xm it s.heap h'->Q ao { s with heap:=h' }):
    bg (bn prog w) A (ui (.ref it)) Q E s:=by
  obtain⟨o,g,c,d⟩:=id t;obtain⟨ol,gl,_,nl,dl⟩:=il;unfold ui;refine aa (lw (gk (name:=iz "__next__") t.typeIs yq (fg yq t.typeIs F.entry_tuple_iterator_next ?_ (F.args_tuple_iterator_next_1 _))));refine aa (m:=WJ (.ref it) 0) (fz g d (x:=.ref l) rfl ?_);rw[a0h (show ¬((Value.ref l==fh)=ak) from λz=>nomatch z)];refine aa (m:=WJ (.ref it) 1) (fz g d (x:=.int i 0) rfl (aa (m:=ZL (.ref l)) (oj gl dl ?_)));simp only[dq,n];have ne:∀b u,mH u->s.heap.get? b=ae u->b≠it:=λb u m gb z=>by
    subst z;rw[g] at gb;cases gb;obtain⟨us,du,z2⟩:=m;rw[d] at du;cases du;simp at z2
  refine aa (ir (aa (oa g d (by simp) (kS (q.keeps λb u m z=>(dk _ _ (Ne.symm (ne b u m z))).trans z) λh' e k ⟨oe,ge,ce⟩=>?_))));refine aa (fm (T:="StopIteration") (b:=ak) ⟨oe,ge,ce⟩ uj (ai (h _ λb u hb z=>k b u ((dk _ _ (Ne.symm hb)).trans z))))
theorem Hy{x left step:Int}{Q:Option ah->aj->Prop}(q:Qu A s.heap)(t:Vm s.heap it x left step)(n:left<=0)(h:∀h',xm it s.heap h'->Q ao { s with heap:=h' }):
    bg (bn prog w) A (ui (.ref it)) Q E s:=by
  have ty:s.TypeIs (.ref it) "range_iterator" := ⟨_,t,rfl⟩;unfold ui;refine aa (lw (gk (name:=iz "__next__") ty yr (fg yr ty F.entry_range_iterator_next ?_ (F.args_range_iterator_next_1 _))));refine aa (m:=WJ (.ref it) 0) (fz t rfl (x:=ph x) rfl (aa (m:=WJ (.ref it) 1) (fz t rfl (x:=ph left) rfl (aa (m:=WJ (.ref it) 2) (fz t rfl (x:=ph step) rfl ?_)))));refine(show bg _ _ (ite (left<=0) _ _) _ _ s from ?_);rw[a0G n];refine aa (ir (aa (kS q λh' e k zz=>?_)));obtain⟨oe,ge,ce⟩:=zz;refine aa (fm (T:="StopIteration") (b:=ak) ⟨oe,ge,ce⟩ uj (ai (h _ λb u hb z=>k b u z)))
theorem sA(q:Qu A s.heap)(t:s.heap.IsListIter it l i)(il:s.heap.IsList l xs)(n:xs[i]?=ao)
    (h:∀h' e,xm it s.heap h'->(∃o,h'.get? e=ae o/\o.cls=.type "StopIteration")->E (.ref e) { s with heap:=h' }):bg (bn prog w) A (pi (.ref it)) Q E s:=by
  obtain⟨o,g,c,d⟩:=id t;obtain⟨ol,gl,_,nl,dl⟩:=il;unfold pi;refine aa (gk (name:=iz "__next__") t.typeIs vg (fg vg t.typeIs Xa ?_ (Xw _)));refine aa (m:=WJ (.ref it) 0) (fz g d (x:=.ref l) rfl ?_);rw[a0h (show ¬((Value.ref l==fh)=ak) from λz=>nomatch z)];refine aa (m:=WJ (.ref it) 1) (fz g d (x:=.int i 0) rfl (aa (m:=ZL (.ref l)) (oj gl dl ?_)));simp only[dq,n];have ne:∀b u,mH u->s.heap.get? b=ae u->b≠it:=λb u m gb z=>by
    subst z;rw[g] at gb;cases gb;obtain⟨us,du,z2⟩:=m;rw[d] at du;cases du;simp at z2
  exact aa (ir (aa (oa g d (by simp) (kS (q.keeps λb u m z=>(dk _ _ (Ne.symm (ne b u m z))).trans z) λh' e k z=>h h' e (λb u hb z=>k b u ((dk _ _ (Ne.symm hb)).trans z)) z))))
theorem LY{e:af}{old:ah}{Q:Option ah->aj->Prop}(q:Qu A s.heap)(he:IsEnum s.heap e it i old)(t:s.heap.IsListIter it l i)(il:s.heap.IsList l xs)(n:xs[i]?=ao)
    (h:∀h',xm it s.heap h'->Q ao { s with heap:=h' }):bg (bn prog w) A (ui (.ref e)) Q E s:=by
  have ty:s.TypeIs (.ref e) "enumerate" := ⟨_,he,rfl⟩;unfold ui;refine aa (lw (gk (name:=iz "__next__") ty WE (fg WE ty F.entry_enumerate_next ?_ (F.args_enumerate_next_1 _))));refine aa (m:=WJ (.ref e) 2) (fz he rfl (x:=.ref it) rfl (aa (sA q t il n λh' x k zz=>?_)));obtain⟨oe,ge,ce⟩:=zz;exact aa (fm (T:="StopIteration") (b:=ak) ⟨oe,ge,ce⟩ uj (ai (h _ k)))
theorem Ni{z TI TO i1 i2 l1 l2:af}{k1 k2:Nat}{ys:Array ah}{a b:ah}{Q:Option ah->aj->Prop}(q:Qu A s.heap)(D:a0b z TI TO i1 i2 l1 l2)(hz:a0A s.heap z TI TO .none)(pI:Zb s.heap TI (.ref i1) (.ref i2))(pO:Zb s.heap TO a b)
    (t1:s.heap.IsListIter i1 l1 k1) (t2:s.heap.IsListIter i2 l2 k2) (il1:s.heap.IsList l1 xs) (il2:s.heap.IsList l2 ys) (n:xs[k1]?=ao \/ ys[k2]?=ao)
    (h:∀h',(∀c o,c≠z->c≠TO->c≠i1->c≠i2->s.heap.get? c=ae o->h'.get? c=ae o)->Q ao { s with heap:=h' }):bg (bn prog w) A (ui (.ref z)) Q E s:=by
  have ty:s.TypeIs (.ref z) "zip" := ⟨_,hz,rfl⟩;have fin:∀h' e,(∃o,h'.get? e=ae o/\o.cls=.type "StopIteration")->(∀c o,c≠z->c≠TO->c≠i1->c≠i2->s.heap.get? c=ae o->h'.get? c=ae o) ->
      bg (bn prog w) A (qm (.ref e) (.type "StopIteration") >>= λy=>if y=ak then jh ao else throw (.ref e)) Q E { s with heap:=h' }:=λh' e ⟨oe,ge,ce⟩ k=>
    aa (fm (T:="StopIteration") (b:=ak) ⟨oe,ge,ce⟩ uj (ai (h _ k)))
  have mz:∀f0,¬mH { cls:=.type "zip",dict:=ao,data:=.fields #[f0,.bool am,.bool am,.ref TI,.ref TO],slots:=#[] }:=λf0 zq0=>by
    obtain⟨us,du,z2⟩:=zq0;cases du;simp at z2
  have mi:∀{h1:eh} {i l:af} {k:Nat},h1.IsListIter i l k -> ∀u,mH u->h1.get? i≠ae u:=λ⟨o,g,_,d⟩ u ⟨us,du,z2⟩ gu=>by
    rw[g] at gu;cases gu;rw[d] at du;cases du;simp at z2
  have mp:∀{h1:eh} {p:af} {x y:ah},Zb h1 p x y -> ∀u,mH u->h1.get? p≠ae u:=λg u ⟨us,du,z2⟩ gu=>by
    rw[g] at gu;cases gu;cases du
  unfold ui;refine aa (lw (gk (name:=iz "__next__") ty YT (fg YT ty F.entry_zip_next ?_ (F.args_zip_next_1 _))));refine aa (m:=WJ (.ref z) 2) (fz hz rfl (x:=.bool am) rfl (aa (m:=WJ (.ref z) 3) (fz hz rfl (x:=.ref TI) rfl (aa (oj pI rfl ?_)))));refine aa (m:=uy (.ref z)) ?_;unfold uy;refine aa (fz hz rfl (x:=.none) rfl (ai ?_));simp only[if_true];refine aa (ir (aa (fz hz rfl (x:=.ref TO) rfl (aa (yt hz (by simp) λh1 hz1 s1=>aa ?_)))));replace hz1:a0A h1 z TI TO .ellipsis:=hz1;have q1:Qu A h1:=q.keeps λc u m g=>s1.extBut c u (λe=>by subst e;rw[hz] at g;cases g;exact mz _ m) g;simp only[YG,YU,uk,vk];refine aa (aa (wpAny_onRaise (aa (m:=pi (.ref i1)) ?_)));have t1':=t1.extBut s1.extBut D.i1z;have il1':=il1.extBut s1.extBut D.l1z;cases hx:xs[k1]? with
  |none=>
    refine sA q1 t1' il1' hx λh2 e s2 zz=>?_;obtain⟨oe,ge,ce⟩:=zz;have hz2:a0A h2 z TI TO .ellipsis:=s2 _ _ D.i1z.symm hz1;have ne:e≠z:=λy=>by subst y;rw[hz2] at ge;cases ge;simp at ce
    exact yt hz2 (by simp) λh3 _ s3=>fin h3 e ⟨oe,s3.extBut _ _ ne ge,ce⟩ λc o c1 _ c3 _ g=>s3.extBut _ _ c1 (s2 _ _ c3 (s1.extBut _ _ c1 g))
  |some x=>
    have hy:ys[k2]?=ao:=n.elim (λy=>by rw[hx] at y;cases y) id;refine wpAny_nextOf_list_item t1' il1' hx λh2 t2' s2=>ai ?_;have pO2:Zb h2 TO a b:=s2.extBut _ _ D.TOi1 (s1.extBut _ _ D.TOz pO);have q2:Qu A h2:=q1.keeps λc u m g=>s2.extBut c u (λe=>by subst e;exact mi t1' u m g) g;refine aa (oj pO2 rfl (aa (wpAny_updateSeq_pair pO2 λh3 pO3 s3=>aa (wpAny_letGo (ai ?_)))));have q3:Qu A h3:=q2.keeps λc u m g=>s3.extBut c u (λe=>by subst e;exact mp pO2 u m g) g;refine aa (aa (wpAny_onRaise (aa (m:=pi (.ref i2)) ?_)));refine sA q3 (((t2.extBut s1.extBut D.i2z).extBut s2.extBut D.i12.symm).extBut s3.extBut D.TOi2.symm) (((il2.extBut s1.extBut D.l2z).extBut s2.extBut D.l2i1).extBut s3.extBut D.l2TO) hy λh4 e s4 zz=>?_;obtain⟨oe,ge,ce⟩:=zz;have hz4:a0A h4 z TI TO .ellipsis:=s4 _ _ D.i2z.symm (s3.extBut _ _ D.TOz.symm (s2.extBut _ _ D.i1z.symm hz1));have ne:e≠z:=λy=>by subst y;rw[hz4] at ge;cases ge;simp at ce
    exact yt hz4 (by simp) λh5 _ s5=>fin h5 e ⟨oe,s5.extBut _ _ ne ge,ce⟩ λc o c1 c2 c3 c4 g=>s5.extBut _ _ c1 (s4 _ _ c4 (s3.extBut _ _ c2 (s2.extBut _ _ c3 (s1.extBut _ _ c1 g))))
theorem GX(hh:A.handled=ae (.ref a))(m:mH o)(I ax:af)(hne:ax≠I)(xs:Array ah):
    Walks prog w A I [I,ax,a] [I] xs.size (λi v=>xs[i]?=ae v) (λi h=>(h.IsListIter I ax i/\h.IsList ax xs)/\h.get? a=ae o) where
  sub:=λb hb=>by simp at hb;simp[hb]
  frame:=λ_ _ _ st k=>⟨⟨st.1.1.at λo e=>k I (by simp) o e,st.1.2.at λo e=>k ax (by simp) o e⟩,k a (by simp) _ st.2⟩
  item:=λi s Q E hi st h=>by
    have na:a≠I:=λe=>by
      subst e;obtain⟨o',g,_,d⟩:=st.1.1;obtain⟨us,du,z2⟩:=m;rw[st.2] at g;cases g;rw[d] at du;cases du;simp at z2
    exact Wi st.1.1 st.1.2 (x:=xs[i]) (by simp[hi]) λh' t sb=>h _ h' s.toks (by simp[hi]) ⟨⟨t,st.1.2.extBut sb.extBut hne⟩,sb.extBut _ _ na st.2⟩ λb o hb e=>sb.extBut b o (λz=>hb (by simp[z])) e
  done:=λs Q E st h=>DP (.inr ⟨a,o,hh,st.2,m⟩) st.1.1 st.1.2 (by simp) λh' k=>h h' s.toks λb o hb e=>k b o (λz=>hb (by simp[z])) e
  self:=λ_ _ _ _ st q=>WF st.1.1 q
theorem RH{xs:Array (Int×a0F)}(q:Qu A s.heap)(il:s.heap.IsList l (a0c xs))
    (h:∀h' tk t',(∀b o,s.heap.get? b=ae o->h'.get? b=ae o)->Q (.int (preSum (numAt xs) xs.size) t') { s with heap:=h',toks:=tk }):bg (bn prog w) A (call (.builtin "sum") [.ref l]) Q E s:=by
  rcases q with q | ⟨a,o,q,g,m⟩
  . exact sum_intListG q il h
  . refine call_sum_walkG (iter_intList il λs2 e st fp ne=>?_);subst e;refine⟨_,_,_,_,_,_,numAt xs,rfl,GX (A:=A.in1) q m _ l ne (a0c xs),⟨st,au _ g⟩,λb hb=>?_,λ_ _=>intItems_at,λh' tk t' k=>?_⟩
    . rcases bv.mp hb with e | hb
      . exact fp b (by simp[e])
      . rcases bv.mp hb with e | hb
        . exact fp b (by simp[e])
        . have e:b=a:=by simpa using hb
          subst e;exact bh (au _ g)
    . have:=h h' tk t' (old_kept k);simpa [a0c] using this
theorem Ei{c:Int}{Q:Option ah->aj->Prop}(hi:i<n)(t:Vm s.heap it (lo+(i:Nat)*c) ((n:Int)-(i:Nat)) c)
    (h:∀v h' tk,(∃t,v=.int (lo+i*c) t)->Vm h' it (lo+((i+1:Nat):Int)*c) ((n:Int)-((i+1:Nat):Int)) c->(∀b o,b ∉ [it]->s.heap.get? b=ae o->h'.get? b=ae o)->Q (ae v) { s with heap:=h',toks:=tk }):
    bg (bn prog w) A (ui (.ref it)) Q E s:=by
  refine wpAny_pyNext_range_item t ⋯ λh' t' sb=>h _ h' _ ⟨_,rfl⟩ ?_ λb o hb e=>sb.extBut b o (λz=>hb (by simp[z])) e;rw[show ((i+1:Nat):Int)=(i:Int)+1 by simp,show lo+((i:Int)+1)*c=lo+i*c+c by rw[Int.add_mul,Int.one_mul,Int.add_assoc],show (n:Int)-((i:Int)+1)=n-i-1 by ac_rfl];exact t'
abbrev cB:=Sum Int bq
noncomputable def AQ:cB->ah->Bool
  | .inl k,v=>WK k v
  | .inr x,v=>ZD x v
noncomputable def Uq(w:df):cB->Int
  | .inl k=>ye k
  | .inr x=>hashStr w x
theorem eI:∀{k:cB} {v:ah},AQ k v=ak->(∃i t,k=di i/\v=Value.int i t) \/ (∃x t,k=yf x/\v=Value.str x t)
  | .inl i,v,h=>by
    obtain⟨t,e⟩:=Value.isInt_shape (k:=i) (v:=v) h;exact .inl ⟨i,t,rfl,e⟩
  | .inr x,v,h=>by
    obtain⟨t,e⟩:=Value.isStrOf_shape (x:=x) (v:=v) h;exact .inr ⟨x,t,rfl,e⟩
theorem Hn(i:Int)(t:a0F):AQ (.inl i) (.int i t)=ak:=by simp[AQ,WK]
theorem Hm(x:bq)(t:a0F):AQ (.inr x) (.str x t)=ak:=by simp[AQ,ZD]
theorem QJ(a b:Int):decide ((di a:cB)=di b)=(a==b):=by
  by_cases e:a=b
  . subst e;simp
  . have h:¬(di a:cB)=di b:=λq=>e (di.inj q);rw[decide_eq_false h];exact(beq_eq_false_iff_ne.mpr e).symm
theorem QD(a b:bq):decide ((yf a:cB)=yf b)=decide (a=b):=by
  by_cases e:a=b
  . subst e;simp
  . have h:¬(yf a:cB)=yf b:=λq=>e (yf.inj q);rw[decide_eq_false h,decide_eq_false e]
theorem QH(a:Int)(b:bq):decide ((di a:cB)=yf b)=am:=decide_eq_false (λq=>nomatch q)
theorem QF(a:bq)(b:Int):decide ((yf a:cB)=di b)=am:=decide_eq_false (λq=>nomatch q)
noncomputable def dH(prog:bj)(w:df):PySem.KeyKind prog w cB where
  is:=AQ
  hash:=Uq w
  inj:=λv a b ha hb=>by
    rcases eI ha with⟨i,t,rfl,rfl⟩ | ⟨x,t,rfl,rfl⟩
    . rcases eI hb with⟨j,u,rfl,e⟩ | ⟨y,u,rfl,e⟩
      . injection e with e1 _;rw[e1]
      . exact nomatch e
    . rcases eI hb with⟨j,u,rfl,e⟩ | ⟨y,u,rfl,e⟩
      . exact nomatch e
      . injection e with e1 _;rw[e1]
  byValue:=λk v h=>by
    rcases eI h with⟨i,t,rfl,rfl⟩ | ⟨x,t,rfl,rfl⟩<;>rfl
  pyHash:=λhv h=>by
    rcases eI hv with⟨i,t,rfl,rfl⟩ | ⟨x,t,rfl,rfl⟩
    . exact Vz h
    . exact wpAny_pyHash_str h
  eqBool:=λhu hv h=>by
    rcases eI hu with⟨i,t,rfl,rfl⟩ | ⟨x,t,rfl,rfl⟩
    . rcases eI hv with⟨j,u,rfl,rfl⟩ | ⟨y,u,rfl,rfl⟩
      . rw[QJ] at h;exact nz h
      . rw[QH] at h;exact SeqAt.EqAt.int_str i t y u _ _ _ _ h
    . rcases eI hv with⟨j,u,rfl,rfl⟩ | ⟨y,u,rfl,rfl⟩
      . rw[QF] at h;exact SeqAt.EqAt.str_int x t j u _ _ _ _ h
      . rw[QD] at h;exact wpAny_eqBool_str h
  «strs» := λk x t v h=>by
    rcases eI h with⟨i,u,rfl,e⟩ | ⟨y,u,rfl,e⟩
    . exact nomatch e
    . injection e with e1 _;subst e1;cases v<;>rfl
theorem D9(prog:bj)(w:df)(i:Int)(t:a0F):(dH prog w).is (.inl i) (.int i t)=ak:=Hn i t
theorem D8(prog:bj)(w:df)(x:bq)(t:a0F):(dH prog w).is (.inr x) (.str x t)=ak:=Hm x t
inductive V where
  |non | bl (b:Bool) | int (i:Int) | str (x:bq) | byt (b:Array UInt8) | flt (b:UInt64) | ref (a:af) | ty (n:String)
  deriving DecidableEq
def cM:V->ah->Prop
  | .non,u=>u=fh
  | .bl b,u=>u=kj b
  | .int i,u=>∃t,u=Value.int i t
  | .str x,u=>∃t,u=Value.str x t
  | .byt b,u=>∃t,u=a0d b t
  | .flt b,u=>∃t,u=YH b t
  | .ref a,u=>u=Value.ref a
  | .ty n,u=>u=wv n
abbrev bM:List V->List ah->Prop:=Paired cM
theorem bM.length{xs:List V}{us:List ah}(r:bM xs us):xs.length=us.length:=Paired.length r
theorem bM.get:∀{xs:List V} {us:List ah} {i:Nat} {x:V},bM xs us->xs[i]?=ae x -> ∃u,us[i]?=ae u/\cM x u
  |_,_,_,_,.nil,e=>by simp at e
  |_,_,0,_,.cons r _,e=>by simp at e;subst e;exact⟨_,rfl,r⟩
  |_,_,i+1,x,.cons _ t,e=>by
    obtain⟨u,h1,h2⟩:=bM.get (i:=i) (x:=x) t (by simpa using e);exact⟨u,by simpa using h1,h2⟩
theorem bM.set{x:V}{u:ah}(r:cM x u):∀{xs:List V} {us:List ah} (i:Nat),bM xs us->bM (xs.set i x) (us.set i u)
  |_,_,_,.nil=>.nil
  |_,_,0,.cons _ t=>.cons r t
  |_,_,i+1,.cons q t=>.cons q (bM.set r i t)
theorem bM.append:∀{xs ys:List V} {us ws:List ah},bM xs us->bM ys ws->bM (xs++ys) (us++ws)
  |_,_,_,_,.nil,s=>s
  |_,_,_,_,.cons r t,s=>.cons r (bM.append t s)
theorem bM.take:∀{xs:List V} {us:List ah} (n:Nat),bM xs us->bM (xs.take n) (us.take n)
  |_,_,0,_=>.nil
  |_,_,_+1,.nil=>.nil
  |_,_,n+1,.cons r t=>.cons r (bM.take n t)
theorem bM.drop:∀{xs:List V} {us:List ah} (n:Nat),bM xs us->bM (xs.drop n) (us.drop n)
  |_,_,0,r=>r
  |_,_,_+1,.nil=>.nil
  |_,_,n+1,.cons _ t=>bM.drop n t
def r9:Option V->Option ah->Prop
  |some v,ae u=>cM v u
  |none,ao=>True
  |_,_=>False
variable {κ:Type}
def KV:List (κ×V)->List (κ×ah)->Prop:=Paired λ(p:κ×V) (q:κ×ah)=>p.1=q.1/\cM p.2 q.2
noncomputable def kV:cB->V
  | .inl i=>.int i
  | .inr x=>.str x
inductive HO where
    |lst (xs:List V)
    |tup (xs:List V)
    |dK (kvs:List (cB×V)) | dT (ep:Nat) (kvs:List (List cB×V))
    |set (S:Int->Bool) (n:Nat)
    |ins (C dx:af) (fs:List (bq×V))
    |own (x:af)
    |xd (fs:List (bq×V))
    |met (f x:af)
    |rng (lo hi:Int)
    |frz (o:jn) (u:HO)
    |tbl (ps:Array ah)
    |lam (q:bq) | cod (q:bq)
    |ext (φ:eh->Prop)
abbrev Hp:=af->Option HO
noncomputable def upd(H:Hp)(a:af)(o:HO):Hp:=λb=>if b=a then ae o else H b
variable {H:Hp}
theorem bP{o:HO}:upd H a o a=ae o:=by unfold upd;rw[a0G rfl]
theorem b5{o:HO}(h:b≠a):upd H a o b=H b:=by unfold upd;rw[a0h h]
theorem S9{o u:HO}(h:H a=ae o)(h':H b=ae u)(d:o≠u):a≠b:=by
  intro e;subst e;rw[h] at h';exact d (Option.some.inj h')
theorem bG{o:HO}(h:H a=ae o)(h':H b=ao):a≠b:=by
  intro e;subst e;rw[h] at h';cases h'
section
variable (P:bj)(w:df)
def cR(H:Hp)(h:eh)(a:af):HO->Prop
  | .lst xs=>xs.length<=bo /\ ∃(its:List ah) (n:Nat),bM xs its/\h.get? a=ae { cls:=.type "list",data:=.seq its.toArray n }
  | .tup xs=>xs.length<=bo /\ ∃its:List ah,bM xs its/\ZM h a its.toArray
  | .dK kvs=>kvs.length<=bo/\(a==km)=am /\ ∃vs,KV kvs vs/\h.DictOf (dH P w) a vs
  | .dT ep kvs=>kvs.length<=bo/\(a==km)=am /\ ∃xs:List (List cB×af×ah),
      Paired (λ(p:List cB×V) (q:List cB×af×ah)=>p.1=q.1/\H q.2.1=ae (.tup (p.1.map kV))/\cM p.2 q.2.2) kvs xs /\
      ∃o es,h.get? a=ae o/\o.ExactDict/\o.data=.dict es ep/\es.toList=xs.map (ww (sx (dH P w)))/\(xs.map (·.1)).Nodup
  | .set S n=>h.SetOf (XR P w) a S n
  | .ins C dx fs=>H dx=ae (.own a)/\fs.length<=1000/\dx≠a/\h.get? a=ae (wx C dx) /\
      ∃mA,h.Ns1 dx mA/\(∀f,r9 (fs.lookup f) (mA f))/\XU mA (fs.map (·.1))
  | .own _=>∃o,h.get? a=ae o
  | .xd fs=>∃mA,h.Ns1 a mA /\ ∀f,r9 (fs.lookup f) (mA f)
  | .rng lo hi=>∃t u v,h.get? a=ae { cls:=.type "range",data:=.fields #[.int lo t,.int hi u,.int 1 v] }
  | .frz o u=>h.get? a=ae o/\cR H h a u
  | .tbl ps=>h.get? a=ae { cls:=.none,data:=.fields ps }
  | .lam q=>∃ps:Array ah,h.get? a=ae (W.tabObj ps)/\TriplesOk ps.toList /\ ∀p:lj,codeAmong p ps.toList=ao \/ ∃c,codeAmong p ps.toList=ae (.ref c)/\H c=ae (.cod q)
  | .cod q=>h.CodeRec (.ref a) q
  | .met f x=>h.get? a=ae (YI (.ref f) (.ref x))
  | .ext φ=>φ h/\(∃o,h.get? a=ae o) /\ ∀h1 h2:eh,φ h1->(∀o,h1.get? a=ae o->h2.get? a=ae o)->φ h2
def nJ(H:Hp)(h:eh):Prop:=∀a o,H a=ae o->cR P w H h a o
end
variable {H':Hp}
section
variable {o:HO}
theorem cR.lt(x:cR P w H h a o):a<h.objs.size:=by
  cases o with
  |lst xs=>obtain⟨_,_,_,_,e⟩:=x;exact bh e
  |tup xs=>obtain⟨_,_,_,p⟩:=x;exact p.lt
  |dK kvs=>obtain⟨_,_,_,_,o,_,_,e,_⟩:=x;exact bh e
  |dT ep kvs=>obtain⟨_,_,_,_,o,_,e,_⟩:=x;exact bh e
  |set S n=>obtain⟨o,_,_,_,e,_⟩:=x;exact bh e
  |ins C dx fs=>obtain⟨_,_,_,e,_⟩:=x;exact bh e
  |own y=>obtain⟨_,e⟩:=x;exact bh e
  |xd fs=>obtain⟨_,⟨_,_,_,e,_⟩,_⟩:=x;exact bh e
  |rng lo hi=>obtain⟨_,_,_,e⟩:=x;exact bh e
  |frz ob u=>obtain⟨e,_⟩:=x;exact bh e
  |tbl ps=>exact bh (show h.get? a=ae _ from x)
  |lam q=>obtain⟨_,e,_⟩:=x;exact bh e
  |cod q=>obtain⟨_,_,_,_,e,e2,_⟩:=x;cases e;exact bh e2
  |met f y=>exact bh (show h.get? a=ae _ from x)
  |ext φ=>obtain⟨_,⟨_,e⟩,_⟩:=x;exact bh e
theorem Paired.mapP{α β:Type}{F G:α->β->Prop}:∀{l₁:List α} {l₂:List β},Paired F l₁ l₂->(∀a b,F a b->G a b)->Paired G l₁ l₂
  |_,_,.nil,_=>.nil
  |_,_,.cons r t,f=>.cons (f _ _ r) (Paired.mapP t f)
theorem cR.stay(x:cR P w H h a o)(k:∀b u,(b=a \/ H b=ae (.own a))->h.get? b=ae u->h'.get? b=ae u)
    (ho:∀b,H b=ae (.own a)->H' b=ae (.own a)) (ht:∀b xs,H b=ae (.tup xs)->H' b=ae (.tup xs)) (hc:∀b q,H b=ae (.cod q)->H' b=ae (.cod q)):cR P w H' h' a o:=by
  induction o with
  |lst xs=>obtain⟨z,its,n,r,e⟩:=x;exact⟨z,its,n,r,k _ _ (.inl rfl) e⟩
  |tup xs=>obtain⟨z,its,r,ob,e,c⟩:=x;exact⟨z,its,r,ob,k _ _ (.inl rfl) e,c⟩
  |dK kvs=>obtain⟨z,y,vs,r,ob,es,ep,e,c⟩:=x;exact⟨z,y,vs,r,ob,es,ep,k _ _ (.inl rfl) e,c⟩
  |dT ep kvs=>
    obtain⟨z,y,xs,r,ob,es,e,c⟩:=x;exact⟨z,y,xs,Paired.mapP r λp q z=>⟨z.1,ht _ _ z.2.1,z.2.2⟩,ob,es,k _ _ (.inl rfl) e,c⟩
  |set S n=>obtain⟨ob,es,ep,t,e,c⟩:=x;exact⟨ob,es,ep,t,k _ _ (.inl rfl) e,c⟩
  |ins C dx fs=>
    obtain⟨d,z,ne,e,mA,⟨od,es,ep,e2,c⟩,r⟩:=x;exact⟨ho _ d,z,ne,k _ _ (.inl rfl) e,mA,⟨od,es,ep,k _ _ (.inr d) e2,c⟩,r⟩
  |own y=>obtain⟨ob,e⟩:=x;exact⟨ob,k _ _ (.inl rfl) e⟩
  |xd fs=>obtain⟨mA,⟨od,es,ep,e,c⟩,r⟩:=x;exact⟨mA,⟨od,es,ep,k _ _ (.inl rfl) e,c⟩,r⟩
  |rng lo hi=>obtain⟨t,u,v,e⟩:=x;exact⟨t,u,v,k _ _ (.inl rfl) e⟩
  |frz ob u ih=>obtain⟨e,q⟩:=x;exact⟨k _ _ (.inl rfl) e,ih q⟩
  |tbl ps=>
    have e:h.get? a=ae { cls:=.none,data:=.fields ps }:=x;show h'.get? a=ae { cls:=.none,data:=.fields ps };exact k a _ (.inl rfl) e
  |lam q=>
    obtain⟨ps,e,t,f⟩:=x;exact⟨ps,k _ _ (.inl rfl) e,t,λp=>(f p).imp_right λzq1=>by obtain⟨c,e1,e2⟩:=zq1;exact⟨c,e1,hc _ _ e2⟩⟩
  |cod q=>
    obtain⟨_,o,vs,t,e,e2,e3⟩:=x;cases e;exact⟨a,o,vs,t,rfl,k _ _ (.inl rfl) e2,e3⟩
  |met f y=>
    have e:h.get? a=ae (YI (.ref f) (.ref y)):=x;show h'.get? a=ae (YI (.ref f) (.ref y));exact k a _ (.inl rfl) e
  |ext φ=>obtain⟨p,⟨o,e⟩,st⟩:=x;exact⟨st _ _ p λo q=>k _ _ (.inl rfl) q,⟨o,k _ _ (.inl rfl) e⟩,st⟩
theorem nJ.lt(x:nJ P w H h)(e:H a=ae o):a<h.objs.size:=(x a o e).lt
theorem nJ.fresh(x:nJ P w H h)(e:h.objs.size<=a):H a=ao:=by
  cases q:H a with
  |none=>rfl
  |some u=>exact absurd (fc (x.lt q) e) (sw _)
theorem nJ.kept(x:nJ P w H h)(k:∀b u,h.get? b=ae u->h'.get? b=ae u):nJ P w H h':=λa o e=>
  (x a o e).stay (λb u _ q=>k b u q) (λ_ q=>q) (λ_ _ q=>q) λ_ _ q=>q
theorem nJ.laid(x:nJ P w H h)(k:∀b u,h.get? b=ae u->h'.get? b=ae u)(hp:h.objs.size<=a)(new:cR P w (upd H a o) h' a o):nJ P w (upd H a o) h':=λb u e=>by
  have hn:=x.fresh hp;by_cases hb:b=a
  . subst hb;rw[bP] at e;cases e;exact new
  . rw[b5 hb] at e;exact(x b u e).stay (λc v _ q=>k c v q) (λc q=>by rw[b5 (bG q hn)];exact q) (λc xs q=>by rw[b5 (bG q hn)];exact q) λc xs q=>by rw[b5 (bG q hn)];exact q
end
def Rd(H:Hp)(a:af)(u:HO):Prop:=H a=ae u \/ ∃o,H a=ae (.frz o u)
theorem Rd.ok{u:HO}(r:Rd H a u)(x:nJ P w H h):cR P w H h a u:=by
  rcases r with r | ⟨o,r⟩
  . exact x a u r
  . obtain⟨_,q⟩:=x a _ r;exact q
def IN:Option HO->Prop
  |some (.lst _)=>True
  |some (.dK _)=>True
  |some (.dT _ _)=>True
  |some (.set _ _)=>True
  |some (.ins _ _ _)=>True
  |some (.ext _)=>True
  |_=>False
section
variable {x e:af}{o':HO}
theorem nJ.write(ok:nJ P w H h)(mu:IN (H x))(he:e=x \/ H e=ae (.own x))(k:∀b u,b≠e->h.get? b=ae u->h'.get? b=ae u)(heo:∃u,h'.get? e=ae u)
    (new:cR P w (upd H x o') h' x o'):nJ P w (upd H x o') h':=λb u q=>by
  have nown:∀c y,H c=ae (.own y)->c≠x:=λc y r z=>by subst z;rw[r] at mu;exact mu
  have ntup:∀c xs,H c=ae (.tup xs)->c≠x:=λc xs r z=>by subst z;rw[r] at mu;exact mu
  have ncod:∀c q,H c=ae (.cod q)->c≠x:=λc xs r z=>by subst z;rw[r] at mu;exact mu
  by_cases hb:b=x
  . subst hb;rw[bP] at q;cases q;exact new
  . rw[b5 hb] at q;by_cases hbe:b=e
    . have q':H b=ae (.own x):=by
        rcases he with z | z
        . exact absurd (hbe.trans z) hb
        . rw[hbe];exact z
      rw[q] at q';cases q';obtain⟨v,hv⟩:=heo;exact⟨v,by rw[hbe];exact hv⟩
    . refine(ok b u q).stay (λc v hc r=>k c v ?_ r) (λc r=>by rw[b5 (nown c b r)];exact r) (λc xs r=>by rw[b5 (ntup c xs r)];exact r) λc xs r=>by rw[b5 (ncod c xs r)];exact r
      rcases hc with rfl | hc
      . exact hbe
      . rintro rfl;rcases he with z | z
        . exact nown c b hc z
        . rw[hc] at z;cases z;exact hb rfl
end
structure Un(fs ex:List af)(H H':Hp)(h h':eh):Prop where
  keep:∀b o,h.get? b=ae o->H b=ao->b ∉ fs->b ∉ ex->h'.get? b=ae o
  slot:∀b o,h.get? b=ae o->H b=ao->b∈fs->b ∉ ex -> ∃sl,h'.get? b=ae { o with slots:=sl }
  free:∀b o,h.get? b=ae o->H b=ao->b ∉ ex->H' b=ao
  there:∀b o,h.get? b=ae o->b ∉ ex -> ∃o',h'.get? b=ae o'
  tups:∀b xs,H b=ae (.tup xs)->H' b=ae (.tup xs)
  frzs:∀b o u,H b=ae (.frz o u)->H' b=ae (.frz o u)
  tbls:∀b ps,H b=ae (.tbl ps) -> ∃more,H' b=ae (.tbl (ps++more))
section
variable {fs fs' ex ex':List af}{H1 H2:Hp}{h1 h2:eh}{x e:af}{o:HO}
theorem Un.any(u:Un fs ex H H1 h h1){ob:jn}(q:h.get? b=ae ob)(n:H b=ao)(hx:b ∉ ex):∃sl,h1.get? b=ae { ob with slots:=sl }:=by
  by_cases hb:b∈fs
  . exact u.slot b ob q n hb hx
  . exact⟨ob.slots,u.keep b ob q n hb hx⟩
theorem Un.kept(k:∀b u,h.get? b=ae u->h'.get? b=ae u):Un fs ex H H h h':=
  ⟨λb ob q _ _ _=>k b ob q,λb ob q _ _ _=>⟨ob.slots,k b ob q⟩,λ_ _ _ n _=>n,λb ob q _=>⟨ob,k b ob q⟩,λ_ _ q=>q,λ_ _ _ q=>q,λ_ ps q=>⟨#[],by rw[q];simp⟩⟩
theorem Un.refl:Un fs ex H H h h:=Un.kept λ_ _ q=>q
theorem Un.laid(k:∀b u,h.get? b=ae u->h'.get? b=ae u)(hp:h.objs.size<=a)(hn:H a=ao):Un fs ex H (upd H a o) h h' where
  keep:=λb u q _ _ _=>k b u q
  slot:=λb u q _ _ _=>⟨u.slots,k b u q⟩
  free:=λb u q n _=>by rw[b5 (gp (fc (bh q) hp))];exact n
  there:=λb u q _=>⟨u,k b u q⟩
  tups:=λb xs q=>by rw[b5 (bG q hn)];exact q
  frzs:=λb u xs q=>by rw[b5 (bG q hn)];exact q
  tbls:=λb ps q=>⟨#[],by rw[b5 (bG q hn),q];simp⟩
theorem Un.write(mu:IN (H x))(he:e=x \/ H e=ae (.own x))(k:∀b u,b≠e->h.get? b=ae u->h'.get? b=ae u)(heo:∃u,h'.get? e=ae u):Un fs ex H (upd H x o) h h':=by
  have hx:∀b,H b=ao->b≠x:=λb n z=>by subst z;rw[n] at mu;exact mu
  have hb:∀b,H b=ao->b≠e:=λb n z=>by
    subst z;rcases he with r | r
    . exact hx b n r
    . rw[n] at r;cases r
  have hm:∀b u,H b=ae u -> ¬IN (ae u)->b≠x:=λb u q nm z=>by subst z;rw[q] at mu;exact nm mu
  refine⟨λb u q n _ _=>k b u (hb b n) q,λb u q n _ _=>⟨u.slots,k b u (hb b n) q⟩,λb u q n _=>by rw[b5 (hx b n)];exact n,λb u q _=>?_,
    λb xs q=>by rw[b5 (hm b _ q λz=>z)];exact q,λb u xs q=>by rw[b5 (hm b _ q λz=>z)];exact q,λb ps q=>⟨#[],by rw[b5 (hm b _ q λz=>z),q];simp⟩⟩
  by_cases hbe:b=e
  . subst hbe;exact heo
  . exact⟨u,k b u hbe q⟩
end
noncomputable def trk(h:eh)(H:Hp):List af:=(iw h.objs.size).filter λa=>(H a).isSome
noncomputable def BZ(h:eh)(H:Hp):eh:=X3 h (trk h H)
theorem Hs(h:eh)(H:Hp):(BZ h H).objs.size=h.objs.size:=W.hideAll_size _ _
theorem LF(e:h.get? b=ae o)(n:H b=ao):(BZ h H).get? b=ae o:=
  ZE _ e λhm=>by
    have q:(H b).isSome=ak:=(qo.mp hm).2;rw[n] at q;simp at q
theorem N0(e:(BZ h H).get? b=ae o):h.get? b=ae o/\H b=ao:=by
  have e':h.get? b=ae o:=XV (trk h H) e;refine⟨e',?_⟩;cases q:H b with
  |none=>rfl
  |some x=>
    have hm:b∈trk h H:=qo.mpr ⟨sy.mpr (bh e'),by simp[q]⟩;have z:(BZ h H).get? b=ao:=W.hideAll_none (trk h H) hm;rw[z] at e;cases e
structure Mod(K:aq)(mg:bq->Option ah)(base:eh):Prop where
  kin:K.In base
  glob:base.Ns jt mg
  blt:∃mb,base.Ns Zc mb /\ ∀x:bq,x ≠ "__name__" -> mb x=pz x
  nolimit:base.NoLimit
set_option genInjectivity false in
structure Cx where
  prog:bj
  w:df
  K:aq
  mg:bq->Option ah
  base:eh
  A:cb
  N:List bq
  s₀:aj
  HZ:Hp
  env:zw
  outer:List zw
  stack:List zw
  ex:List af
  fn:bq->Bool
  calm:Bool
  pn:List (af×jn)
  xe:ah->aj->Prop
  hs:List af
noncomputable def frs(l:List zw):List af:=l.filterMap (·.frame)
noncomputable abbrev Cx.fs(X:Cx):List af:=frs X.outer
def TB(sc:Scope)(x:bq):Prop:=sc.names.lookup x=ae .local \/ sc.names.lookup x=ae .cell \/ sc.names.lookup x=ae .free
def GW(sc:Scope)(x:bq):Prop:=sc.names.lookup x=ae .local \/ sc.names.lookup x=ae .cell
def VO(env:zw)(h:eh)(m:bq->Option ah)(x:bq)(u:ah):Prop:=
  (env.kindOf x=ae .local/\m x=ae u) \/ ((env.kindOf x=ae .cell \/ env.kindOf x=ae .free) /\ ∃c,env.cells.lookup x=ae c/\h.IsCell c (ae u))
structure Cx.Ok(X:Cx):Prop where
  mod:Mod X.K X.mg X.base
  kind:X.env.scope.kind=.function
  glob:X.env.globals=jt
  blt:X.env.builtins=Zc
  above:X.s₀.heap.objs.size<=X.env.locals
  inj:∀x y c,X.env.cells.lookup x=ae c->X.env.cells.lookup y=ae c->x=y
  has:∀x,(X.env.kindOf x=ae .cell \/ X.env.kindOf x=ae .free) -> ∃c,X.env.cells.lookup x=ae c
  cab:∀x c,X.fn x=ak->X.env.cells.lookup x=ae c->X.s₀.heap.objs.size<=c
  hd:X.calm=ak->X.A.handled=ao
  frames:X.A.frames=ae X.stack
  stk:X.stack=X.outer \/ (X.stack=X.env::X.outer/\X.env.frame=ae X.env.locals)
  exf:∀b∈X.ex,b≠X.env.locals /\ ∀x c,X.env.cells.lookup x=ae c->c≠b
  bs:∀b o,X.base.get? b=ae o->X.s₀.heap.get? b=ae o/\X.HZ b=ao
  bsz:X.base.objs.size<=X.s₀.heap.objs.size
  noex:∀b o,X.base.get? b=ae o->b ∉ X.ex
  exfs:∀b∈X.ex,b ∉ X.fs
  funs:X.s₀.heap.FunFrames X.base X.outer
  frf:∀b∈X.fs,X.HZ b=ao
  hq:X.A.handled=ao \/ ∃a,a∈X.hs/\X.A.handled=ae (.ref a)
structure Inv(X:Cx)(pj:List (af×jn))(σ:List (Option V))(H:Hp)(s:aj):Prop where
  ok:X.Ok
  os:s.os=X.s₀.os
  bare:yg s.gens
  base:Un X.fs X.ex X.HZ H X.s₀.heap s.heap
  loc:∃m,s.heap.Ns X.env.locals m /\ ∀(i:Nat) (x:bq) (v:V),X.N[i]?=ae x->σ[i]?=ae (ae v)->TB X.env.scope x -> ∃u,cM v u/\VO X.env s.heap m x u
  cell:∀x c,X.env.cells.lookup x=ae c -> ∃v,s.heap.IsCell c v
  free:H X.env.locals=ao
  freeC:∀x c,X.env.cells.lookup x=ae c->H c=ao
  pin:∀p∈X.pn++pj,s.heap.get? p.1=ae p.2/\H p.1=ao/\p.1≠X.env.locals/\p.1 ∉ X.fs /\ ∀v,p.2.data ≠ .cell v
  hok:nJ X.prog X.w H s.heap
  len:σ.length=X.N.length
  mild:∀a∈X.hs,∃o u,H a=ae (.frz o u)/\mH o
variable {v:V}{g':Array XX}{t' j:Nat}{d':a0B}{ch:List af}{s':aj}{X:Cx}
section
variable {σ:List (Option V)}
theorem Cx.Ok.nofr(ok:X.Ok)(e:X.base.get? b=ae o):b ∉ X.fs:=λhb=>by
  have:=(ok.funs.mem hb).1;rw[e] at this;cases this
theorem Inv.bs(I:Inv X pj σ H s):∀b o,X.base.get? b=ae o->s.heap.get? b=ae o/\H b=ao:=λb o e=>
  ⟨I.base.keep b o (I.ok.bs b o e).1 (I.ok.bs b o e).2 (I.ok.nofr e) (I.ok.noex b o e),I.base.free b o (I.ok.bs b o e).1 (I.ok.bs b o e).2 (I.ok.noex b o e)⟩
theorem Inv.qu(I:Inv X pj σ H s):Qu X.A s.heap:=by
  rcases I.ok.hq with e | ⟨a,ha,e⟩
  . exact .inl e
  . obtain⟨o,u,g,m⟩:=I.mild a ha;obtain⟨ho,_⟩:=(show cR X.prog X.w H s.heap a (.frz o u) from I.hok a _ g);exact .inr ⟨a,o,e,ho,m⟩
theorem Inv.bk(I:Inv X pj σ H s):∀b o,X.base.get? b=ae o->s.heap.get? b=ae o:=λb o e=>(I.bs b o e).1
theorem Inv.mod(I:Inv X pj σ H s):Mod X.K X.mg X.base:=I.ok.mod
theorem Inv.kIn(I:Inv X pj σ H s):X.K.In s.heap:=I.ok.mod.kin.keeps I.bk
theorem Inv.lt(I:Inv X pj σ H s):X.env.locals<s.heap.objs.size:=let ⟨_,hn,_⟩:=I.loc;hn.lt
theorem Inv.sz(I:Inv X pj σ H s):X.s₀.heap.objs.size<=s.heap.objs.size:=mh I.ok.above (XW I.lt)
theorem Inv.nofs(I:Inv X pj σ H s)(h:s.heap.objs.size<=a):a ∉ X.fs:=λhb=>by
  obtain⟨_,o,ho,_⟩:=I.ok.funs.mem hb;exact absurd (fc (bh ho) (mh I.sz h)) (sw _)
theorem Inv.cne(I:Inv X pj σ H s):∀x c,X.env.cells.lookup x=ae c->c≠X.env.locals:=λx c e z=>by
  obtain⟨v,o,ho,hd⟩:=I.cell x c e;obtain⟨m,⟨o',es,ep,ho',hd',_⟩,_⟩:=I.loc;rw[z,ho'] at ho;cases ho;rw[hd'] at hd;cases hd
theorem Inv.funs(I:Inv X pj σ H s):s.heap.FunFrames X.base X.outer:=by
  have all:∀(l:List zw),(∀b∈frs l,b∈X.fs)->X.s₀.heap.FunFrames X.base l->s.heap.FunFrames X.base l:=by
    intro l;induction l with
    |nil=>intro _ _;trivial
    |cons env r ih=>
      intro hs hl;obtain⟨hk,⟨L,o,hf,hn,ho,hd⟩,hr⟩:=hl;have hL:L∈X.fs:=hs L (by unfold frs;rw[yc,hf];exact bz);obtain⟨sl,e⟩:=I.base.slot L o ho (I.ok.frf L hL) hL λz=>I.ok.exfs L z hL;exact⟨hk,⟨L,_,hf,hn,e,hd⟩,ih (λb hb=>hs b (by unfold frs;rw[yc,hf];exact bp _ hb)) hr⟩
  exact all X.outer (λ_ hb=>hb) I.ok.funs
theorem Inv.stack(I:Inv X pj σ H s):s.heap.FunFrames X.base X.stack:=by
  rcases I.ok.stk with e | ⟨e,hf⟩
  . rw[e];exact I.funs
  . rw[e];obtain⟨m,hn,_⟩:=I.loc;refine .cons (by rw[I.ok.kind];decide) hf hn ?_ I.funs;exact Heap.get?_none_of_le (mh I.ok.bsz I.ok.above)
theorem Inv.stkSub(I:Inv X pj σ H s):∀b∈frs X.stack,b∈X.env.locals::X.fs:=λb hb=>by
  rcases I.ok.stk with e | ⟨e,hf⟩
  . rw[e] at hb;exact bp _ hb
  . rw[e] at hb;unfold frs at hb;rw[yc,hf] at hb;exact hb
theorem Inv.stkFree(I:Inv X pj σ H s):∀b∈frs X.stack,H b=ao:=λb hb=>by
  rcases bv.mp (I.stkSub b hb) with e | hb
  . rw[e];exact I.free
  . obtain⟨_,o,ho,_⟩:=I.ok.funs.mem hb;exact I.base.free b o ho (I.ok.frf b hb) λz=>I.ok.exfs b z hb
theorem Inv.step(I:Inv X pj σ H s)
    (hch:∀b∈ch,(b∈X.ex \/ X.s₀.heap.objs.size<=b)/\b≠X.env.locals/\(∀x c,X.env.cells.lookup x=ae c->c≠b) /\ ∀p∈X.pn++pj,p.1≠b)
    (keep:∀b o,b≠X.env.locals->b ∉ X.fs->b ∉ ch->s.heap.get? b=ae o->H b=ao->h'.get? b=ae o)
    (slot:∀b o,b≠X.env.locals->b∈X.fs->b ∉ ch->s.heap.get? b=ae o->H b=ao -> ∃sl,h'.get? b=ae { o with slots:=sl }) (free:∀b o,b ∉ ch->s.heap.get? b=ae o->H b=ao->H' b=ao)
    (there:∀b o,b ∉ ch->s.heap.get? b=ae o -> ∃o',h'.get? b=ae o')
    (tups:∀b xs,H b=ae (.tup xs)->H' b=ae (.tup xs)) (frzs:∀b o u,H b=ae (.frz o u)->H' b=ae (.frz o u)) (tbls:∀b ps,H b=ae (.tbl ps) -> ∃more,H' b=ae (.tbl (ps++more)))
    (ns:∀m,s.heap.Ns X.env.locals m->h'.Ns X.env.locals m) (hok:nJ X.prog X.w H' h') (hg:yg g'):
    Inv X pj σ H' { s with heap:=h',gens:=g',drawn:=d',toks:=t' }:=by
  have neL:∀b o,X.s₀.heap.get? b=ae o->b≠X.env.locals:=λb o e=>gp (fc (bh e) I.ok.above);have neC:∀b o,X.s₀.heap.get? b=ae o->b ∉ X.ex->b ∉ ch:=λb o e hx hb=>by
    rcases(hch b hb).1 with z | z
    . exact hx z
    . exact absurd (fc (bh e) z) (sw _)
  have cellK:∀x c,X.env.cells.lookup x=ae c -> ∀v,s.heap.IsCell c v->h'.IsCell c v:=λx c e v zq2=>by
    obtain⟨o,ho,hd⟩:=zq2;have nch:c ∉ ch:=λz=>(hch c z).2.2.1 x c e rfl;by_cases hc:c∈X.fs
    . obtain⟨sl,q⟩:=slot c o (I.cne x c e) hc nch ho (I.freeC x c e);exact⟨_,q,hd⟩
    . exact⟨o,keep c o (I.cne x c e) hc nch ho (I.freeC x c e),hd⟩
  refine⟨I.ok,I.os,hg,⟨λb o e n hb hx=>?_,λb o e n hb hx=>?_,λb o e n hx=>?_,λb o e hx=>?_,λb xs e=>tups b xs (I.base.tups b xs e),λb o xs e=>frzs b o xs (I.base.frzs b o xs e),λb ps e=>?_⟩,?_,λx c e=>?_,?_,λx c e=>?_,λp hp=>?_,hok,I.len,λa ha=>let ⟨o,u,g,m⟩:=I.mild a ha;⟨o,u,frzs a o u g,m⟩⟩
  . exact keep b o (neL b o e) hb (neC b o e hx) (I.base.keep b o e n hb hx) (I.base.free b o e n hx)
  . obtain⟨sl,e1⟩:=I.base.slot b o e n hb hx;obtain⟨sl',e2⟩:=slot b _ (neL b o e) hb (neC b o e hx) e1 (I.base.free b o e n hx);exact⟨sl',e2⟩
  . obtain⟨o',e1⟩:=I.base.there b o e hx;exact free b o' (neC b o e hx) e1 (I.base.free b o e n hx)
  . obtain⟨o',e1⟩:=I.base.there b o e hx;exact there b o' (neC b o e hx) e1
  . obtain⟨m1,e1⟩:=I.base.tbls b ps e;obtain⟨m2,e2⟩:=tbls b _ e1;exact⟨m1++m2,by rw[e2,Array.append_assoc]⟩
  . obtain⟨m,hn,hl⟩:=I.loc;refine⟨m,ns m hn,λi x v e1 e2 e3=>?_⟩;obtain⟨u,r,l⟩:=hl i x v e1 e2 e3;refine⟨u,r,?_⟩;rcases l with l | ⟨k,c,e,z⟩
    . exact .inl l
    . exact .inr ⟨k,c,e,cellK x c e _ z⟩
  . obtain⟨v,z⟩:=I.cell x c e;exact⟨v,cellK x c e v z⟩
  . obtain⟨m,⟨o,_,_,ho,_⟩,_⟩:=I.loc;exact free _ o (λz=>(hch _ z).2.1 rfl) ho I.free
  . obtain⟨v,o,ho,hd⟩:=I.cell x c e;exact free c o (λz=>(hch c z).2.2.1 x c e rfl) ho (I.freeC x c e)
  . obtain⟨e,n,ne,nf,d⟩:=I.pin p hp;have nch:p.1 ∉ ch:=λz=>(hch p.1 z).2.2.2 p hp rfl;exact⟨keep p.1 p.2 ne nf nch e n,free p.1 p.2 nch e n,ne,nf,d⟩
theorem Inv.un(I:Inv X pj σ H s)(u:Un X.fs [] H H' s.heap h')(hok:nJ X.prog X.w H' h'):Inv X pj σ H' { s with heap:=h',toks:=t' }:=by
  obtain⟨m,⟨o,es,ep,ho,r⟩,_⟩:=id I.loc;obtain⟨sl,hL⟩:=u.any ho I.free (by simp);exact I.step (g':=s.gens) (d':=s.drawn) (ch:=[]) (λ_ z=>nomatch z) (λb o _ hb _ e n=>u.keep b o e n hb (by simp)) (λb o _ hb _ e n=>u.slot b o e n hb (by simp)) (λb o _ e n=>u.free b o e n (by simp)) (λb o _ e=>u.there b o e (by simp)) u.tups u.frzs u.tbls (λm' hm=>by
    obtain⟨o',es',ep',ho',r'⟩:=hm;rw[ho] at ho';cases ho';exact⟨_,es',ep',hL,r'⟩) hok I.bare
theorem Inv.call(I:Inv X pj σ H s)(u:Un (frs X.stack) ch H H' s.heap h')(hok:nJ X.prog X.w H' h')(hg:yg g')
    (hch:∀b∈ch,(b∈X.ex \/ X.s₀.heap.objs.size<=b)/\b≠X.env.locals/\(∀x c,X.env.cells.lookup x=ae c->c≠b) /\ ∀p∈X.pn++pj,p.1≠b):
    Inv X pj σ H' { s with heap:=h',gens:=g',drawn:=d',toks:=t' }:=by
  obtain⟨m,⟨o,es,ep,ho,r⟩,_⟩:=id I.loc;obtain⟨sl,hL⟩:=u.any ho I.free λz=>(hch _ z).2.1 rfl;exact I.step (ch:=ch) hch (λb o hL hb hc e n=>u.keep b o e n (λz=>(bv.mp (I.stkSub b z)).elim hL hb) hc) (λb o _ _ hc e n=>u.any e n hc) (λb o hc e n=>u.free b o e n hc) (λb o hc e=>u.there b o e hc) u.tups u.frzs u.tbls (λm' hm=>by
    obtain⟨o',es',ep',ho',r'⟩:=hm;rw[ho] at ho';cases ho';exact⟨_,es',ep',hL,r'⟩) hok hg
theorem Inv.turned(I:Inv X pj σ H s)(k:∀b o,b≠it->s.heap.get? b=ae o->h'.get? b=ae o)(hn:H it=ao)(hL:it≠X.env.locals)
    (h1:it∈X.ex \/ X.s₀.heap.objs.size<=it) (h2:∀x c,X.env.cells.lookup x=ae c->c≠it) (h3:∀p∈X.pn++pj,p.1≠it):Inv X pj σ H { s with heap:=h',toks:=t' }:=by
  have nit:∀b u,H b=ae u->b≠it:=λb u e z=>by rw[z,hn] at e;cases e
  refine I.step (g':=s.gens) (d':=s.drawn) (ch:=[it]) (λb hb=>?_) (λb o _ _ hc e _=>k b o (λz=>hc (by simp[z])) e) (λb o _ _ hc e _=>⟨o.slots,k b o (λz=>hc (by simp[z])) e⟩) (λ_ _ _ _ n=>n)
    (λb o hc e=>⟨o,k b o (λz=>hc (by simp[z])) e⟩) (λ_ _ e=>e) (λ_ _ _ e=>e) (λb ps e=>⟨#[],by rw[e];simp⟩) (λm hm=>?_) (λb u e=>?_) I.bare
  . have e:b=it:=by simpa using hb
    subst e;exact⟨h1,hL,h2,h3⟩
  . obtain⟨o,es,ep,ho,r⟩:=hm;exact⟨o,es,ep,k _ o (Ne.symm hL) ho,r⟩
  . refine(I.hok b u e).stay (λc v hc q=>k c v ?_ q) (λ_ q=>q) (λ_ _ q=>q) λ_ _ q=>q;rcases hc with z | z
    . rw[z];exact nit b u e
    . exact nit c _ z
theorem Inv.tok(I:Inv X pj σ H s)(t:Nat):Inv X pj σ H { s with toks:=t }:=I.un (h':=s.heap) (t':=t) Un.refl I.hok
theorem Inv.kept{t':Nat}(I:Inv X pj σ H s)(k:∀b u,s.heap.get? b=ae u->h'.get? b=ae u):Inv X pj σ H { s with heap:=h',toks:=t' }:=I.un (Un.kept k) (I.hok.kept k)
theorem Inv.laid{a:af}{o:HO}{t':Nat}(I:Inv X pj σ H s)(k:∀b u,s.heap.get? b=ae u->h'.get? b=ae u)(hp:s.heap.objs.size<=a)(new:cR X.prog X.w (upd H a o) h' a o):
    Inv X pj σ (upd H a o) { s with heap:=h',toks:=t' }:=I.un (Un.laid k hp (I.hok.fresh hp)) (I.hok.laid k hp new)
theorem Inv.write{x e:af}{o:HO}{t':Nat}(I:Inv X pj σ H s)(mu:IN (H x))(he:e=x \/ H e=ae (.own x))(k:∀b u,b≠e->s.heap.get? b=ae u->h'.get? b=ae u)(heo:∃u,h'.get? e=ae u)
    (new:cR X.prog X.w (upd H x o) h' x o):Inv X pj σ (upd H x o) { s with heap:=h',toks:=t' }:=I.un (Un.write mu he k heo) (I.hok.write mu he k heo new)
theorem Inv.pins_of{pins':List (af×jn)}(I:Inv X pj σ H s)(h:∀p∈pins',s.heap.get? p.1=ae p.2/\H p.1=ao/\p.1≠X.env.locals/\p.1 ∉ X.fs /\ ∀v,p.2.data ≠ .cell v):Inv X pins' σ H s:=
  ⟨I.ok,I.os,I.bare,I.base,I.loc,I.cell,I.free,I.freeC,λp hp=>(cr.mp hp).elim (λz=>I.pin p (ng _ z)) (h p),I.hok,I.len,I.mild⟩
theorem y6(hN:N.Nodup){x:bq}(a:N[i]?=ae x)(b:N[j]?=ae x):i=j:=by
  obtain⟨h1,e1⟩:=fb.mp a;obtain⟨h2,e2⟩:=fb.mp b;exact(List.getElem_inj hN).mp (e1.trans e2.symm)
theorem A9{x:bq}{Q:Unit->aj->Prop}(I:Inv X pj σ H s)(hN:X.N.Nodup)(hi:X.N[i]?=ae x)(hx:GW X.env.scope x)(r:cM v u)
    (h:∀s',Inv X pj (σ.set i (ae v)) H s'->(∃a,qb a s.heap s'.heap/\(a=X.env.locals \/ X.env.cells.lookup x=ae a))->Q () s') (hf:autoParam (X.fn x=ak \/ X.env.scope.names.lookup x=ae .local) FA._auto_1):bg M A (ZN X.env x u) Q E s:=by
  obtain⟨m,hn,hl⟩:=id I.loc;have hcls:(X.env.scope.kind == .class || (X.env.scope.kind == .module&&X.env.locals != X.env.globals))=am:=by rw[I.ok.kind];rfl
  have hiσ:i<σ.length:=by rw[I.len];exact(fb.mp hi).1
  have cne:=I.cne;have tracked:∀{a:af} {h':eh},(∃o,s.heap.get? a=ae o/\H a=ao)->qb a s.heap h'->nJ X.prog X.w H h':=λ{a h'} ha hs b ob e=>by
    obtain⟨_,_,hfree⟩:=ha;refine(I.hok b ob e).stay (λc w' hc q=>(hs.2 c ?_).trans q) (λ_ q=>q) (λ_ _ q=>q) λ_ _ q=>q;rintro rfl;rcases hc with rfl | hc
    . rw[hfree] at e;cases e
    . rw[hfree] at hc;cases hc
  rcases hx with hk | hk
  . refine wpAny_storeName_local hk hn (λh' hn' hs=>?_) hcls;obtain⟨oL,_,_,hoL,_⟩:=id hn;refine h _ ⟨I.ok,I.os,I.bare,⟨λb o e n hb hx=>?_,λb o e n hb hx=>?_,I.base.free,λb o e hx=>?_,I.base.tups,I.base.frzs,I.base.tbls⟩,⟨_,hn',λj y v' e1 e2 e3=>?_⟩,λy c e=>?_,I.free,I.freeC,λp hp=>?_,tracked ⟨oL,hoL,I.free⟩ hs,by simpa using I.len,I.mild⟩ ⟨_,hs,.inl rfl⟩
    . exact(hs.2 b (gp (fc (bh e) I.ok.above))).trans (I.base.keep b o e n hb hx)
    . obtain⟨sl,e1⟩:=I.base.slot b o e n hb hx;exact⟨sl,(hs.2 b (gp (fc (bh e) I.ok.above))).trans e1⟩
    . obtain⟨o',e1⟩:=I.base.there b o e hx;exact⟨o',(hs.2 b (gp (fc (bh e) I.ok.above))).trans e1⟩
    . by_cases hj:j=i
      . subst hj;rw[hi] at e1;cases e1;rw[jf hiσ] at e2;cases e2;exact⟨u,r,.inl ⟨hk,by simp⟩⟩
      . rw[gf (Ne.symm hj)] at e2;obtain⟨u',r',q⟩:=hl j y v' e1 e2 e3;refine⟨u',r',?_⟩;rcases q with⟨k,e⟩ | ⟨k,c,e,z⟩
        . refine .inl ⟨k,?_⟩;have:y≠x:=λe=>hj (y6 hN e1 (e ▸ hi));simp[this,e]
        . exact .inr ⟨k,c,e,z.sameBut hs (cne y c e)⟩
    . obtain⟨w',z⟩:=I.cell y c e;exact⟨w',z.sameBut hs (cne y c e)⟩
    . obtain⟨e,n,ne,nf,d⟩:=I.pin p hp;exact⟨(hs.2 p.1 ne).trans e,n,ne,nf,d⟩
  . have hfn:X.fn x=ak:=by
      rcases hf with z | z
      . exact z
      . rw[z] at hk;cases hk
    obtain⟨c,hc⟩:=I.ok.has x (.inl hk);obtain⟨w',z⟩:=I.cell x c hc;refine wpAny_storeName_cell I.ok.kind hk hc z (λh' hc' hs=>?_);obtain⟨oc,hoc,hocd⟩:=id z;refine h { s with heap:=h' } ⟨I.ok,I.os,I.bare,⟨λb o e n hb hx=>?_,λb o e n hb hx=>?_,I.base.free,λb o e hx=>?_,I.base.tups,I.base.frzs,I.base.tbls⟩,⟨m,hn.sameBut hs (Ne.symm (cne x c hc)),λj y v' e1 e2 e3=>?_⟩,λy c' e=>?_,I.free,I.freeC,λp hp=>?_,tracked ⟨oc,hoc,I.freeC x c hc⟩ hs,by simpa using I.len,I.mild⟩ ⟨c,hs,.inr hc⟩
    . exact(hs.2 b (gp (fc (bh e) (I.ok.cab x c hfn hc)))).trans (I.base.keep b o e n hb hx)
    . obtain⟨sl,e1⟩:=I.base.slot b o e n hb hx;exact⟨sl,(hs.2 b (gp (fc (bh e) (I.ok.cab x c hfn hc)))).trans e1⟩
    . obtain⟨o',e1⟩:=I.base.there b o e hx;exact⟨o',(hs.2 b (gp (fc (bh e) (I.ok.cab x c hfn hc)))).trans e1⟩
    . by_cases hj:j=i
      . subst hj;rw[hi] at e1;cases e1;rw[jf hiσ] at e2;cases e2;exact⟨u,r,.inr ⟨.inl hk,c,hc,hc'⟩⟩
      . rw[gf (Ne.symm hj)] at e2;obtain⟨u',r',q⟩:=hl j y v' e1 e2 e3;refine⟨u',r',?_⟩;rcases q with q | ⟨k,c',e,z'⟩
        . exact .inl q
        . refine .inr ⟨k,c',e,z'.sameBut hs ?_⟩;rintro rfl;exact hj (y6 hN e1 (I.ok.inj _ _ _ e hc ▸ hi))
    . by_cases hcc:c'=c
      . subst hcc;exact⟨_,hc'⟩
      . obtain⟨w2,z2⟩:=I.cell y c' e;exact⟨w2,z2.sameBut hs hcc⟩
    . obtain⟨e,n,ne,nf,d⟩:=I.pin p hp;refine⟨(hs.2 p.1 ?_).trans e,n,ne,nf,d⟩;intro q;rw[q,hoc] at e;have q':oc=p.2:=Option.some.inj e;exact d w' (by rw[<- q'];exact hocd)
theorem sY{x:bq}{Q:Unit->aj->Prop}(I:Inv X pj σ H s)(hN:X.N.Nodup)(hi:X.N[i]?=ae x)(hx:GW X.env.scope x)(r:cM v u)
    (h:∀s',Inv X pj (σ.set i (ae v)) H s'->Q () s') (hf:autoParam (X.fn x=ak \/ X.env.scope.names.lookup x=ae .local) FA._auto_1):bg M A (ZN X.env x u) Q E s:=
  A9 I hN hi hx r (λs' I' _=>h s' I') hf
theorem Inv.call'(I:Inv X pj σ H s)(ho:s'.os=s.os)(u:Un (frs X.stack) ch H H' s.heap s'.heap)(hok:nJ X.prog X.w H' s'.heap)(hg:yg s'.gens)
    (hch:∀b∈ch,(b∈X.ex \/ X.s₀.heap.objs.size<=b)/\b≠X.env.locals/\(∀x c,X.env.cells.lookup x=ae c->c≠b) /\ ∀p∈X.pn++pj,p.1≠b):Inv X pj σ H' s':=by
  obtain⟨h',g',d',t',o'⟩:=s';have e:o'=s.os:=ho;subst e;exact I.call (g':=g') (t':=t') (d':=d') u hok hg hch
end
abbrev XK:=ah->Option af->Hp->Prop
abbrev St:=List (Option V)
abbrev VK:=V->Hp->Prop
abbrev TE:=St->Hp->VK->Prop
abbrev TT:=St->Hp->(Bool->Hp->Prop)->Prop
abbrev TA:=St->Hp->(List V->Hp->Prop)->Prop
set_option genInjectivity false in
structure Ends where
  nx:St->Hp->Prop
  rt:VK
  bk:St->Hp->Prop:=λ_ _=>False
  ct:St->Hp->Prop:=λ_ _=>False
abbrev TS:=Ends->St->Hp->Prop
inductive EP(X:Cx)(pj:List (af×jn))(σ:St)(Q:VK)(u:ah)(s':aj):Prop
  |mk (v:V) (H':Hp) (I:Inv X pj σ H' s') (r:cM v u) (q:Q v H')
inductive TP(X:Cx)(pj:List (af×jn))(σ:St)(Q:Bool->Hp->Prop)(b:Bool)(s':aj):Prop
  |mk (H':Hp) (I:Inv X pj σ H' s') (q:Q b H')
inductive AP(X:Cx)(pj:List (af×jn))(σ:St)(Q:List V->Hp->Prop)(us:List ah)(s':aj):Prop
  |mk (vs:List V) (H':Hp) (I:Inv X pj σ H' s') (r:bM vs us) (q:Q vs H')
inductive NP(X:Cx)(pj:List (af×jn))(P:St->Hp->Prop)(s':aj):Prop
  |mk (σ':St) (H':Hp) (I:Inv X pj σ' H' s') (q:P σ' H')
inductive RP(X:Cx)(pj:List (af×jn))(P:VK)(u:ah)(s':aj):Prop
  |mk (v:V) (σ':St) (H':Hp) (I:Inv X pj σ' H' s') (r:cM v u) (q:P v H')
def SP(X:Cx)(pj:List (af×jn))(D:Ends)(f:Flow)(s':aj):Prop:=
  match f with
  | .next=>NP X pj D.nx s'
  | .brk=>NP X pj D.bk s'
  | .cont=>NP X pj D.ct s'
  | .ret u=>RP X pj D.rt u s'
def PE(X:Cx)(e:Expr)(t:TE):Prop:=
  ∀(pj:List (af×jn)) (s:aj) (σ:St) (H:Hp) (Q:VK),Inv X pj σ H s->t σ H Q->bg (bn X.prog X.w) X.A (gw e X.env) (EP X pj σ Q) X.xe s
def PT(X:Cx)(e:Expr)(t:TT):Prop:=
  ∀(pj:List (af×jn)) (s:aj) (σ:St) (H:Hp) (Q:Bool->Hp->Prop),Inv X pj σ H s->t σ H Q->bg (bn X.prog X.w) X.A (isTrue e X.env (gw e X.env)) (TP X pj σ Q) X.xe s
def PW(X:Cx)(e:Expr)(t:TT):Prop:=
  ∀(a12:YJ ah) (pj:List (af×jn)) (s:aj) (σ:St) (H:Hp) (Q:Bool->Hp->Prop),Inv X pj σ H s->t σ H Q->bg (bn X.prog X.w) X.A (isTrue e X.env a12) (TP X pj σ Q) X.xe s
theorem PW.pt{t:TT}(h:PW X e t):PT X e t:=h _
def PA(X:Cx)(es:List Expr)(t:TA):Prop:=
  ∀(pos:lj) (pj:List (af×jn)) (s:aj) (σ:St) (H:Hp) (Q:List V->Hp->Prop),Inv X pj σ H s->t σ H Q->bg (bn X.prog X.w) X.A (spliced (jd pos (ay es X.env))) (AP X pj σ Q) X.xe s
def PS(X:Cx)(st:kg)(t:TS):Prop:=
  ∀(pj:List (af×jn)) (s:aj) (σ:St) (H:Hp) (D:Ends),Inv X pj σ H s->t D σ H->bg (bn X.prog X.w) X.A (exec st X.env) (SP X pj D) X.xe s
def wF(X:Cx)(st:List kg)(t:TS):Prop:=
  ∀(pj:List (af×jn)) (s:aj) (σ:St) (H:Hp) (D:Ends),Inv X pj σ H s->t D σ H->bg (bn X.prog X.w) X.A (execs st X.env) (SP X pj D) X.xe s
theorem thn{t:YJ α}{Q Q':α->aj->Prop}(h:bg M A t Q E s)(hQ:∀a s,Q a s->Q' a s):bg M A t Q' E s:=ix h hQ λ_ _ x=>x
variable {σ:St}{ta:TE}
section
def vX(i:Nat):TE:=λσ H Q=>∃v,σ[i]?=ae (ae v)/\Q v H
def tC(v:V):TE:=λ_ H Q=>Q v H
theorem PP{x:bq}(hN:X.N[i]?=ae x)(hv:TB X.env.scope x)(hd:autoParam ((x==("__debug__":bq))=am) mJ._auto_1)(hcd:autoParam ((x==("__classdict__":bq))=am) mJ._auto_1):PE X (.Name x pos) (vX i):=by
  intro pj s σ H Q I h;obtain⟨v,e,h⟩:=h;obtain⟨m,hn,hl⟩:=I.loc;obtain⟨u,r,l⟩:=hl i x v hN e hv;have fin:EP X pj σ Q u s:=⟨v,H,I,r,h⟩;rcases l with⟨hk,hm⟩ | ⟨hk,c,hc,a0O⟩
  . exact Zd (WL I.ok.kind hk hn hm fin) hd
  . rcases hk with hk | hk
    . exact Zd (Xb I.ok.kind hk hc a0O fin) hd
    . exact Zd (wpAny_loadName_free I.ok.kind hk hc a0O fin hcd) hd
theorem PZ{i j pos}:PE X (.Constant (.int i) j pos) (tC (.int i)):=λ_ _ _ H _ I h=>wpAny_Constant_int ⟨.int i,H,I.tok _,⟨_,rfl⟩,h⟩
theorem Ro{b j pos}:PE X (.Constant (.bool b) j pos) (tC (.bl b)):=λ_ _ _ H _ I h=>Constant_bool ⟨.bl b,H,I,rfl,h⟩
theorem PX{j pos}:PE X (.Constant .none j pos) (tC .non):=λ_ _ _ H _ I h=>Constant_none ⟨.non,H,I,rfl,h⟩
theorem PR{x j pos}:PE X (.Constant (.str x) j pos) (tC (.str x)):=λ_ _ _ H _ I h=>Calls.Constant_str ⟨.str x,H,I.tok _,⟨_,rfl⟩,h⟩
def Gl(X:Cx)(x:bq):Prop:=X.env.kindOf x=ae .globalImplicit
theorem oE{x:bq}(I:Inv X pj σ H s)(hg:Gl X x)(hm:X.mg x=ae u)(h:Q u s)
    (hd:autoParam ((x==("__debug__":bq))=am) mJ._auto_1):bg (bn X.prog X.w) X.A (gw (.Name x pos) X.env) Q E s:=
  yu I.ok.kind hg (Calls.loadGlobal_global (by rw[I.ok.glob];exact I.mod.glob.keeps I.bk) hm h) hd
theorem sE{x:bq}(I:Inv X pj σ H s)(hg:Gl X x)(hm:X.mg x=ao)(hv:pz x=ae u)(h:Q u s)
    (hn:autoParam (x ≠ "__name__") mJ._auto_1) (hd:autoParam ((x==("__debug__":bq))=am) mJ._auto_1):bg (bn X.prog X.w) X.A (gw (.Name x pos) X.env) Q E s:=by
  obtain⟨mb,h1,h2⟩:=I.mod.blt;exact yu I.ok.kind hg (Calls.loadGlobal_builtin (by rw[I.ok.glob];exact I.mod.glob.keeps I.bk) hm (by rw[I.ok.blt];exact h1.keeps I.bk) ((h2 x hn).trans hv) h) hd
theorem FV{x:bq}(hg:Gl X x)(hm:X.mg x=ae u)(r:cM v u)(hd:autoParam ((x==("__debug__":bq))=am) mJ._auto_1):PE X (.Name x pos) (tC v):=
  λ_ _ _ H _ I h=>oE I hg hm ⟨v,H,I,r,h⟩ hd
theorem iN{x:bq}(hg:Gl X x)(hm:X.mg x=ao)(hv:pz x=ae u)(r:cM v u)(hn:autoParam (x ≠ "__name__") mJ._auto_1)(hd:autoParam ((x==("__debug__":bq))=am) mJ._auto_1):PE X (.Name x pos) (tC v):=
  λ_ _ _ H _ I h=>sE I hg hm hv ⟨v,H,I,r,h⟩ hn hd
variable {a b:Expr}{tb:TE}
variable {tA tB':TT}{a0J:List Expr}
def UL(t u:TT):TT:=λσ H Q=>t σ H λc H1=>if c=ak then u σ H1 Q else Q am H1
def Vc(t u:TT):TT:=λσ H Q=>t σ H λc H1=>if c=ak then Q ak H1 else u σ H1 Q
def UD(t:TT):TT:=λσ H Q=>t σ H λc H1=>Q (!c) H1
theorem MV(ha:PT X a tA):PW X (.BoolOp .And [a] pos) tA:=by
  intro wh pj s σ H Q I h;refine isTrue_and (thn (ha pj s σ H Q I h) λc s1 e=>?_);cases c with
  |true=>exact isTrue_and_nil e
  |false=>exact e
theorem P8(ha:PT X a tA):PW X (.BoolOp .Or [a] pos) tA:=by
  intro wh pj s σ H Q I h;refine isTrue_or (thn (ha pj s σ H Q I h) λc s1 e=>?_);cases c with
  |false=>exact isTrue_or_nil e
  |true=>exact e
theorem P9(ha:PT X a tA)(hb:PW X (.BoolOp .And (b::a0J) pos) tB'):PW X (.BoolOp .And (a::b::a0J) pos) (UL tA tB'):=by
  intro wh pj s σ H Q I h;refine isTrue_and (thn (ha pj s σ H _ I h) λc s1 zz=>?_);obtain⟨H1,I1,q1⟩:=zz;cases c with
  |true=>exact hb wh pj s1 σ H1 Q I1 q1
  |false=>exact⟨H1,I1,q1⟩
theorem Rl(ha:PT X a tA)(hb:PW X (.BoolOp .Or (b::a0J) pos) tB'):PW X (.BoolOp .Or (a::b::a0J) pos) (Vc tA tB'):=by
  intro wh pj s σ H Q I h;refine isTrue_or (thn (ha pj s σ H _ I h) λc s1 zz=>?_);obtain⟨H1,I1,q1⟩:=zz;cases c with
  |true=>exact⟨H1,I1,q1⟩
  |false=>exact hb wh pj s1 σ H1 Q I1 q1
theorem PB(ha:PT X a tA):PT X (.UnaryOp .Not a pos) (UD tA):=by
  intro pj s σ H Q I h;exact isTrue_not (thn (ha pj s σ H (λc H1=>Q (!c) H1) I h) λc s' z=>by cases z;exact⟨_,by assumption,by assumption⟩)
def RG(ta tb:TE):TE:=λσ H Q=>ta σ H λx H1=>∃c,x=.bl c/\if c=ak then tb σ H1 Q else Q (.bl am) H1
def UC(ta tb:TE):TE:=λσ H Q=>ta σ H λx H1=>∃c,x=.bl c/\if c=ak then Q (.bl ak) H1 else tb σ H1 Q
def R8(ta:TE):TE:=λσ H Q=>ta σ H λx H1=>∃c,x=.bl c/\Q (.bl (!c)) H1
theorem PU{op}{t:TE}(h:PE X a t):PE X (.BoolOp op [a] pos) t:=λpj s σ H Q I hw=>BoolOp_one (h pj s σ H Q I hw)
theorem Pb(ha:PE X a ta)(hb:PE X (.BoolOp .And (b::a0J) pos) tb):PE X (.BoolOp .And (a::b::a0J) pos) (RG ta tb):=by
  intro pj s σ H Q I h;refine BoolOp_and (thn (ha pj s σ H _ I h) λv s1 zz=>?_);obtain⟨x,H1,I1,r1,q1⟩:=zz;obtain⟨c,rfl,q1⟩:=q1;cases r1;refine gx ?_;cases c with
  |true=>exact hb pj s1 σ H1 Q I1 q1
  |false=>exact⟨.bl am,H1,I1,rfl,q1⟩
theorem Rm(ha:PE X a ta)(hb:PE X (.BoolOp .Or (b::a0J) pos) tb):PE X (.BoolOp .Or (a::b::a0J) pos) (UC ta tb):=by
  intro pj s σ H Q I h;refine BoolOp_or (thn (ha pj s σ H _ I h) λv s1 zz=>?_);obtain⟨x,H1,I1,r1,q1⟩:=zz;obtain⟨c,rfl,q1⟩:=q1;cases r1;refine gx ?_;cases c with
  |false=>exact hb pj s1 σ H1 Q I1 q1
  |true=>exact⟨.bl ak,H1,I1,rfl,q1⟩
theorem PV(ha:PE X a ta):PE X (.UnaryOp .Not a pos) (R8 ta):=by
  intro pj s σ H Q I h;refine UnaryOp_ (thn (ha pj s σ H _ I h) λv s1 zz=>?_);obtain⟨x,H1,I1,r1,q1⟩:=zz;obtain⟨c,rfl,q1⟩:=q1;cases r1;exact not_of (gx ⟨.bl (!c),H1,I1,rfl,q1⟩)
end
def g6(K:aq)(H:Hp)(a:af)(xs:List V):Prop:=
  Rd H a (.lst xs) \/
    ∃(o:jn) (its:Array ah) (n:Nat),K.lookup a=ae o/\o.cls=.type "list" /\ o.dict=ao/\o.data=.seq its n/\its.size<=bo/\bM xs its.toList
def oQ(K:aq)(H:Hp)(a:af)(xs:List V):Prop:=
  Rd H a (.tup xs) \/
    ∃(o:jn) (its:Array ah) (n:Nat),K.lookup a=ae o/\o.cls=.type "tuple" /\ o.data=.seq its n/\its.size<=bo/\bM xs its.toList
noncomputable def VI:ah->Option V
  | .none=>ae .non
  | .bool b=>ae (.bl b)
  | .int i _=>ae (.int i)
  | .str x _=>ae (.str x)
  | .bytes b _=>ae (.byt b)
  | .float b _=>ae (.flt b)
  | .ref a=>ae (.ref a)
  | .type n=>ae (.ty n)
  |_=>ao
theorem cM.abs{x:V}(r:cM x u):VI u=ae x:=by
  cases x with
  |non=>cases r;rfl
  |bl _=>cases r;rfl
  |int _=>obtain⟨t,rfl⟩:=r;rfl
  |str _=>obtain⟨t,rfl⟩:=r;rfl
  |byt _=>obtain⟨t,rfl⟩:=r;rfl
  |flt _=>obtain⟨t,rfl⟩:=r;rfl
  |ref _=>cases r;rfl
  |ty _=>cases r;rfl
theorem cM.inj{x y:V}{u:ah}(r:cM x u)(q:cM y u):x=y:=Option.some.inj (r.abs.symm.trans q.abs)
theorem bM.inj:∀{xs ys:List V} {us:List ah},bM xs us->bM ys us->xs=ys
  |_,_,_,.nil,.nil=>rfl
  |_,_,_,.cons r t,.cons r' t'=>by rw[r.inj r',bM.inj t t']
section
variable {xs ys:List V}
theorem g6.of(h:H a=ae (.lst xs)):g6 K H a xs:=.inl (.inl h)
theorem oQ.of(h:H a=ae (.tup xs)):oQ K H a xs:=.inl (.inl h)
theorem Inv.list(I:Inv X pj σ H s)(h:g6 X.K H a xs):∃its:List ah,bM xs its/\PlainL s.heap a its.toArray/\xs.length<=bo:=by
  rcases h with h | ⟨o,its,n,hk,hc,hd,hs,hz,r⟩
  . obtain⟨z,its,n,r,e⟩:=h.ok I.hok;exact⟨its,r,⟨_,n,e,rfl,rfl,rfl⟩,z⟩
  . refine⟨its.toList,r,⟨o,n,I.kIn a o hk,hc,hd,by simpa using hs⟩,?_⟩;have e:=r.length;simp only[qp] at e;ac_rfl
theorem Inv.tuple(I:Inv X pj σ H s)(h:oQ X.K H a xs):∃its:List ah,bM xs its/\ZM s.heap a its.toArray/\xs.length<=bo:=by
  rcases h with h | ⟨o,its,n,hk,hc,hs,hz,r⟩
  . obtain⟨z,its,r,p⟩:=h.ok I.hok;exact⟨its,r,p,z⟩
  . refine⟨its.toList,r,⟨o,I.kIn a o hk,hc,n,by simpa using hs⟩,?_⟩;have e:=r.length;simp only[qp] at e;ac_rfl
theorem Inv.list_inj(I:Inv X pj σ H s)(h:g6 X.K H a xs)(h':g6 X.K H a ys):xs=ys:=by
  obtain⟨its,r,⟨o,n,e,_,_,d⟩,_⟩:=I.list h;obtain⟨its',r',⟨o',n',e',_,_,d'⟩,_⟩:=I.list h';rw[e] at e';cases e';rw[d] at d';injection d' with d1 _;have:its=its':=by simpa using congrArg ZV d1
  subst this;exact r.inj r'
theorem Inv.tuple_inj(I:Inv X pj σ H s)(h:oQ X.K H a xs)(h':oQ X.K H a ys):xs=ys:=by
  obtain⟨its,r,⟨o,e,_,n,d⟩,_⟩:=I.tuple h;obtain⟨its',r',⟨o',e',_,n',d'⟩,_⟩:=I.tuple h';rw[e] at e';cases e';rw[d] at d';injection d' with d1 _;have:its=its':=by simpa using congrArg ZV d1
  subst this;exact r.inj r'
end
noncomputable abbrev Cx.wish(X:Cx)(E:ah->aj->Prop):Cx:={ X with xe:=E }
noncomputable abbrev Cx.nox(X:Cx):Cx:=X.wish λ_ _=>False
theorem Cx.Ok.wish{X:Cx}(ok:X.Ok)(E:ah->aj->Prop):(X.wish E).Ok:=
  ⟨ok.mod,ok.kind,ok.glob,ok.blt,ok.above,ok.inj,ok.has,ok.cab,ok.hd,ok.frames,ok.stk,ok.exf,ok.bs,ok.bsz,ok.noex,ok.exfs,ok.funs,ok.frf,ok.hq⟩
theorem Cx.Ok.unwish(ok:(X.wish E).Ok):X.Ok:=
  ⟨ok.mod,ok.kind,ok.glob,ok.blt,ok.above,ok.inj,ok.has,ok.cab,ok.hd,ok.frames,ok.stk,ok.exf,ok.bs,ok.bsz,ok.noex,ok.exfs,ok.funs,ok.frf,ok.hq⟩
theorem Inv.wish(I:Inv X pj σ H s)(E:ah->aj->Prop):Inv (X.wish E) pj σ H s:=⟨I.ok.wish E,I.os,I.bare,I.base,I.loc,I.cell,I.free,I.freeC,I.pin,I.hok,I.len,I.mild⟩
theorem Inv.unwish(I:Inv (X.wish E) pj σ H s):Inv X pj σ H s:=⟨I.ok.unwish,I.os,I.bare,I.base,I.loc,I.cell,I.free,I.freeC,I.pin,I.hok,I.len,I.mild⟩
theorem SP.unwish{D:Ends}{f:Flow}{s':aj}(h:SP (X.wish E) pj D f s'):SP X pj D f s':=by
  cases f with
  |next=>obtain⟨σ',H',I,q⟩:=h;exact⟨σ',H',I.unwish,q⟩
  |brk=>obtain⟨σ',H',I,q⟩:=h;exact⟨σ',H',I.unwish,q⟩
  |cont=>obtain⟨σ',H',I,q⟩:=h;exact⟨σ',H',I.unwish,q⟩
  |ret u=>obtain⟨v,σ',H',I,r,q⟩:=h;exact⟨v,σ',H',I.unwish,r,q⟩
theorem wF.nox{st:List kg}{t:TS}(h:wF X.nox st t):wF X st t:=λpj s σ H D I hw=>
  ix (h pj s σ H D (I.wish _) hw) (λ_ _ q=>q.unwish) λ_ _ z=>gy z
variable {tc:TT}{te:TE}
section
variable {st:kg}{a0J:List kg}{t u:TS}
def RA:TS:=λD σ H=>D.nx σ H
def UA(t u:TS):TS:=λD σ H=>t { D with nx:=u D } σ H
theorem FS:wF X [] RA:=λ_ _ σ H _ I h=>ve ⟨σ,H,I,h⟩
theorem mZ(h1:PS X st t)(h2:wF X a0J u):wF X (st::a0J) (UA t u):=by
  intro pj s σ H D I h;refine W0 (thn (h1 pj s σ H { D with nx:=u D } I h) λf s1 q=>?_);cases f with
  |next=>
    obtain⟨σ',H',I',q⟩:=q;exact h2 pj s1 σ' H' D I' q
  |ret v=>exact q
  |brk=>exact q
  |cont=>exact q
theorem FR(h1:PS X st t):wF X [st] t:=by
  intro pj s σ H D I h;refine W0 (thn (h1 pj s σ H D I h) λf s1 q=>?_);cases f with
  |next=>exact ve q
  |ret v=>exact q
  |brk=>exact q
  |cont=>exact q
def RD:TS:=λD σ H=>D.ct σ H
theorem CZ:PS X (.Continue pos) RD:=λ_ _ σ H _ I h=>wpAny_Continue ⟨σ,H,I,h⟩
theorem Inv.quiet(I:Inv X pj σ H s):interactive X.env=am:=by simp[interactive,I.ok.kind]
def RC(te:TE):TS:=λD σ H=>te σ H λ_ H1=>D.nx σ H1
theorem tG(he:PE X e te)(hs:autoParam (io e ao pos.line X.env=jh am) cA._auto_1):PS X (.Expr e pos) (RC te):=by
  intro pj s σ H D I h;exact Ze (thn (he pj s σ H _ I h) λv s1 zq3=>by obtain⟨x,H1,I1,r1,q1⟩:=zq3;exact⟨σ,H1,I1,q1⟩) I.quiet hs
def UB(te:TE):TS:=λD σ H=>te σ H D.rt
theorem PD(he:PE X e te):PS X (.Return (ae e) pos) (UB te):=by
  intro pj s σ H D I h;exact wpAny_Return_some (thn (he pj s σ H _ I h) λv s1 zq4=>by obtain⟨x,H1,I1,r1,q1⟩:=zq4;exact⟨x,σ,H1,I1,r1,q1⟩)
def UF(c:TT)(t u:TS):TS:=λD σ H=>c σ H λb H1=>if b=ak then t D σ H1 else u D σ H1
theorem JR{c:Expr}{a b:List kg}(hc:PT X c tc)(ha:wF X a t)(hb:wF X b u):PS X (.If c a b pos) (UF tc t u):=by
  intro pj s σ H D I h;refine wpAny_If (thn (hc pj s σ H _ I h) λd s1 zz=>?_);obtain⟨H1,I1,q1⟩:=zz;cases d with
  |true=>exact ha pj s1 σ H1 D I1 q1
  |false=>exact hb pj s1 σ H1 D I1 q1
def On:TS:=λ_ _ _=>False
theorem JP:PS X st On:=λ_ _ _ _ _ _ h=>h.elim
end
abbrev TG:=V->St->Hp->(St->Hp->Prop)->Prop
abbrev Od:=List V->St->Hp->(St->Hp->Prop)->Prop
def PG(X:Cx)(target:Expr)(t:TG):Prop:=
  ∀(pj:List (af×jn)) (s:aj) (σ:St) (H:Hp) (v:V) (u:ah) (Q:St->Hp->Prop),Inv X pj σ H s->cM v u->t v σ H Q ->
    bg (bn X.prog X.w) X.A (Zf target X.env u) (λ_ s'=>∃σ' H',Inv X pj σ' H' s'/\Q σ' H') X.xe s
def TY(X:Cx)(ts:List Expr)(t:Od):Prop:=
  ∀(pj:List (af×jn)) (s:aj) (σ:St) (H:Hp) (vs:List V) (us:List ah) (Q:St->Hp->Prop),Inv X pj σ H s->bM vs us->t vs σ H Q ->
    bg (bn X.prog X.w) X.A (assignInOrder ((wy ts X.env).map (·.2)) us) (λ_ s'=>∃σ' H',Inv X pj σ' H' s'/\Q σ' H') X.xe s
abbrev Qr:=V->V->V->Hp->(Hp->Prop)->Prop
def TX(X:Cx)(t:Qr):Prop:=
  ∀(pj:List (af×jn)) (s:aj) (σ:St) (H:Hp) (o i v:V) (ov iv u:ah) (Q:Hp->Prop),Inv X pj σ H s->cM o ov->cM i iv->cM v u->t o i v H Q ->
    bg (bn X.prog X.w) X.A (Z6 ov iv u) (λ_ s'=>∃H',Inv X pj σ H' s'/\Q H') X.xe s
abbrev wZ:=V->V->Hp->VK->Prop
def VL(X:Cx)(op:W1)(t:wZ):Prop:=
  ∀(pj:List (af×jn)) (s:aj) (σ:St) (H:Hp) (x y:V) (v u:ah) (Q:VK),Inv X pj σ H s->cM x v->cM y u->t x y H Q ->
    bg (bn X.prog X.w) X.A (Yo op v u) (EP X pj σ Q) X.xe s
variable {a0Y tpos:lj}{a0R:List kg}{tb:TS}
def DK(i:Nat):TG:=λv σ H Q=>Q (σ.set i (ae v)) H
theorem dO{x:bq}(hN:X.N.Nodup)(hi:X.N[i]?=ae x)(hx:GW X.env.scope x)(hf:autoParam (X.fn x=ak \/ X.env.scope.names.lookup x=ae .local) FA._auto_1):PG X (.Name x pos) (DK i):=by
  intro pj s σ H v u Q I r h;exact XY (sY I hN hi hx r (λs' I'=>⟨_,H,I',h⟩) hf)
def Sa:Od:=λvs σ H Q=>vs=[]/\Q σ H
def OP(t:TG)(u:Od):Od:=λvs σ H Q=>∃v r,vs=v::r/\t v σ H λσ' H'=>u r σ' H' Q
theorem lF:TY X [] Sa:=by
  intro pj s σ H vs us Q I r h;obtain⟨e,h⟩:=h;subst e;cases r;exact assignInOrder_nil ⟨σ,H,I,h⟩
theorem d6{t:TG}{u:Od}(h1:PG X e t)(h2:TY X es u)
    (hs:autoParam ((wy (e::es) X.env).map (·.2)=Zf e X.env::(wy es X.env).map (·.2)) cA._auto_1):TY X (e::es) (OP t u):=by
  intro pj s σ H vs us Q I r h;obtain⟨v,vr,e1,h⟩:=h;subst e1;cases r with
  |cons r rr=>
    rw[hs];refine assignInOrder_cons (thn (h1 pj s σ H _ _ _ I r h) λ_ s1 zz=>?_);obtain⟨σ1,H1,I1,q1⟩:=zz;exact h2 pj s1 σ1 H1 _ _ Q I1 rr q1
def Uu(K:aq)(n:Nat)(t:Od):TG:=λv σ H Q=>∃a xs,v=.ref a/\oQ K H a xs/\xs.length=n/\t xs σ H Q
theorem PN{k:Nat}{t:Od}(hc:X.calm=ak)(h:TY X es t)
    (hn:autoParam ((wy es X.env).length=n) cA._auto_1) (hst:autoParam ((wy es X.env).findIdx? (·.1)=ao) cA._auto_1):PG X (.Tuple es k pos) (Uu X.K n t):=by
  intro pj s σ H v u Q I r hw;obtain⟨a,xs,e1,hq,hl,hw⟩:=hw;subst e1;cases r;obtain⟨its,rv,ht,hz⟩:=I.tuple hq;refine assign_Tuple_tuple (I.ok.hd hc) ht (by simp[hn,<- hl,rv.length]) hst λh' hx=>?_;have I1:Inv X pj σ H { s with heap:=h' }:=I.kept (t':=s.toks) λb o e=>hx b o (gp (bh e)) e;exact h pj _ σ H xs _ Q I1 (by simpa using rv) hw
def Os(te:TE)(g:TG):TS:=λD σ H=>te σ H λx H1=>g x σ H1 D.nx
theorem BA{x:bq}(hN:X.N.Nodup)(hi:X.N[i]?=ae x)(hx:GW X.env.scope x)(he:PE X e te)(hs:autoParam (io e (ae (.Name x a0Y)) pos.line X.env=jh am) cA._auto_1)(hf:autoParam (X.fn x=ak \/ X.env.scope.names.lookup x=ae .local) FA._auto_1):
    PS X (.Assign [.Name x a0Y] e pos) (Os te (DK i)):=by
  intro pj s σ H D I h;refine wpAny_Assign_Name (thn (he pj s σ H _ I h) λv s1 ⟨y,H1,I1,r1,q1⟩=>?_) hs;exact sY I1 hN hi hx r1 (λs2 I2=>⟨_,H1,I2,q1⟩) hf
def UK(i:Nat)(te:TE)(ti:wZ):TS:=λD σ H=>∃x,σ[i]?=ae (ae x)/\te σ H λy H1=>ti x y H1 λz H2=>D.nx (σ.set i (ae z)) H2
theorem PJ{x:bq}{op:W1}{ti:wZ}(hN:X.N.Nodup)(hi:X.N[i]?=ae x)(hx:GW X.env.scope x)(he:PE X e te)(ho:VL X op ti)(hf:autoParam (X.fn x=ak \/ X.env.scope.names.lookup x=ae .local) FA._auto_1):
    PS X (.AugAssign (.Name x a0Y) op e pos) (UK i te ti):=by
  intro pj s σ H D I h;obtain⟨v,e1,h⟩:=h;obtain⟨m,hn,hl⟩:=I.loc;have vis:TB X.env.scope x:=by rcases hx with k | k;exact .inl k;exact .inr (.inl k)
  obtain⟨u,r,l⟩:=hl i x v hi e1 vis;refine wpAny_AugAssign_Name ?_;have go:bg (bn X.prog X.w) X.A (gw e X.env) (λw s₂=>bg (bn X.prog X.w) X.A (Yo op u w) (λr s₃=>bg (bn X.prog X.w) X.A (ZN X.env x r) (λ_=>SP X pj D .next) X.xe s₃) X.xe s₂) X.xe s:=by
    refine thn (he pj s σ H _ I h) λw s1 zz=>?_;obtain⟨y,H1,I1,r1,q1⟩:=zz;refine thn (ho pj s1 σ H1 v y u w _ I1 r r1 q1) λz s2 zz=>?_;obtain⟨zv,H2,I2,r2,q2⟩:=zz;exact sY I2 hN hi hx r2 (λs3 I3=>⟨_,H2,I3,q2⟩) hf
  rcases l with⟨hk,hm⟩ | ⟨hk,c,hc,a0O⟩
  . exact WL I.ok.kind hk hn hm go
  . rcases hk with hk | hk
    . exact Xb I.ok.kind hk hc a0O go
    . rcases hx with k | k
      . have:X.env.scope.names.lookup x=ae .free:=hk;rw[k] at this;cases this
      . have:X.env.scope.names.lookup x=ae .free:=hk;rw[k] at this;cases this
def RF(to ti te:TE)(tget:V->V->Hp->VK->Prop)(tip:wZ)(tset:Qr):TS:=λD σ H=>to σ H λo H1=>ti σ H1 λi H2=>tget o i H2 λx H3=>te σ H3 λy H4=>tip x y H4 λz H5=>tset o i z H5 λH6=>D.nx σ H6
def TZ(X:Cx)(t:V->V->Hp->VK->Prop):Prop:=
  ∀(pj:List (af×jn)) (s:aj) (σ:St) (H:Hp) (o i:V) (ov iv:ah) (Q:VK),Inv X pj σ H s->cM o ov->cM i iv->t o i H Q ->
    bg (bn X.prog X.w) X.A (X4 ov iv) (EP X pj σ Q) X.xe s
theorem Mc{o i:Expr}{to ti:TE}{tget:V->V->Hp->VK->Prop}{tip:wZ}{tset:Qr}{op:W1}(ho:PE X o to)(hi:PE X i ti)(hg:TZ X tget)(he:PE X e te)(hp:VL X op tip)(hs:TX X tset)
    (ha:autoParam (∀ov iv new,augStore i ov iv new=(do Wj [new,ov,iv] (Z6 ov iv new);release [new,ov,iv] [];jh .next)) VU._auto_1):PS X (.AugAssign (.Subscript o i tpos) op e pos) (RF to ti te tget tip tset):=by
  intro pj s σ H D I h;refine wpAny_AugAssign_SubscriptAny (thn (ho pj s σ H _ I h) λov s1 ⟨x1,H1,I1,r1,q1⟩=>?_) ha;refine thn (hi pj s1 σ H1 _ I1 q1) λiv s2 zz=>?_;obtain⟨x2,H2,I2,r2,q2⟩:=zz;refine thn (hg pj s2 σ H2 x1 x2 ov iv _ I2 r1 r2 q2) λold s3 zz=>?_;obtain⟨x3,H3,I3,r3,q3⟩:=zz;refine thn (he pj s3 σ H3 _ I3 q3) λv s4 zz=>?_;obtain⟨x4,H4,I4,r4,q4⟩:=zz;refine thn (hp pj s4 σ H4 x3 x4 old v _ I4 r3 r4 q4) λnew s5 zz=>?_;obtain⟨x5,H5,I5,r5,q5⟩:=zz;exact thn (hs pj s5 σ H5 x1 x2 x5 ov iv new _ I5 r1 r2 r5 q5) λ_ s6 zq5=>by obtain⟨H6,I6,q6⟩:=zq5;exact⟨σ,H6,I6,q6⟩
def Vf(f:Int->Int->Int):wZ:=λx y H Q=>∃i j,x=.int i/\y=.int j/\Q (.int (f i j)) H
theorem QP:VL X .Add (Vf λi j=>i+j):=by
  intro pj s σ H x y v u Q I r1 r2 h;obtain⟨i,j,e1,e2,q⟩:=h;subst e1;subst e2;obtain⟨t,rfl⟩:=r1;obtain⟨t',rfl⟩:=r2;exact iadd_int ⟨.int _,H,I.tok _,⟨_,rfl⟩,q⟩
def Om(c:TT)(tb:TS):TS:=λD σ H=>∃W:Nat->St->Hp->Prop,(∃m,W m σ H) /\ ∀m σ H,W m σ H ->
  c σ H λb H1=>if b=ak then ∃N:St->Hp->Prop,(∀σ' H',N σ' H' -> ∃m',m'<m/\W m' σ' H')/\tb { D with nx:=N,ct:=N,bk:=D.nx } σ H1 else D.nx σ H1
theorem CY{c:Expr}(hp:X5 (bn X.prog X.w) X.A X.env X.xe)(hc:PT X c tc)(hb:wF X a0R tb):PS X (.While c a0R [] pos) (Om tc tb):=by
  intro pj s σ H D I h;obtain⟨W,⟨m0,w0⟩,turn⟩:=h;refine wpAny_While (codeAny_whileLoop (λn s'=>∃σ' H',Inv X pj σ' H' s'/\W n σ' H') ?_ m0 ⟨σ,H,I,w0⟩);rintro n s1 ⟨σ1,H1,I1,w1⟩;refine pq hp (thn (hc pj s1 σ1 H1 _ I1 (turn n σ1 H1 w1)) λb s2 zz=>?_);obtain⟨H2,I2,q2⟩:=zz;cases b with
  |true=>
    obtain⟨N,hN,q2⟩:=q2;rw[a0G rfl];refine pq hp (thn (hb pj s2 σ1 H2 _ I2 q2) λf s3 q3=>?_);cases f with
    |next=>
      obtain⟨σ3,H3,I3,n3⟩:=q3;obtain⟨m',hm,w3⟩:=hN σ3 H3 n3;exact⟨m',hm,σ3,H3,I3,w3⟩
    |cont=>
      obtain⟨σ3,H3,I3,n3⟩:=q3;obtain⟨m',hm,w3⟩:=hN σ3 H3 n3;exact⟨m',hm,σ3,H3,I3,w3⟩
    |brk=>exact q3
    |ret v=>exact q3
  |false=>
    rw[a0h fw];exact ve ⟨σ1,H2,I2,q2⟩
set_option genInjectivity false in
structure It where
  go:Nat->Hp->Prop
  yld:Nat->Hp->V->Hp->Prop
  stop:Nat->Hp->Prop
def zC(X:Cx)(pj:List (af×jn))(H:Hp)(b:af):Prop:=
  H b=ao/\b≠X.env.locals/\b ∉ X.fs/\(b∈X.ex \/ X.s₀.heap.objs.size<=b)/\(∀x c,X.env.cells.lookup x=ae c->c≠b) /\ ∀p∈X.pn++pj,p.1≠b
theorem Inv.fpOk(I:Inv X pj σ H s)(hb:s.heap.objs.size<=b)(hn:H' b=ao):zC X pj H' b:=by
  refine⟨hn,XQ (fc I.lt hb),I.nofs hb,.inr (mh I.sz hb),λx c e z=>?_,λp hp z=>?_⟩
  . obtain⟨v,q⟩:=I.cell x c e;exact absurd (fc q.lt (by rw[z];exact hb)) (sw _)
  . exact absurd (fc (bh (I.pin p hp).1) (by rw[z];exact hb)) (sw _)
structure Turn(P:bj)(w:df)(K:aq)(tg:Expr)(J:It)(fp:List af)(it:af)(tn:Nat->eh->Prop):Prop where
  mem:it∈fp
  obj:∀i h,tn i h -> ∀b∈fp,∃o,h.get? b=ae o /\ ∀v,o.data ≠ .cell v
  keep:∀i h h',tn i h->(∀b∈fp,∀o,h.get? b=ae o->h'.get? b=ae o)->tn i h'
  item:∀(X:Cx),X.prog=P->X.w=w->X.K=K->X.N=X.N -> ∀(i:Nat) (pj:List (af×jn)) (s:aj) (σ:St) (H:Hp) (E:ah->aj->Prop),Inv X pj σ H s->(∀b∈fp,zC X pj H b)->tn i s.heap->J.go i H ->
    bg (bn P w) X.A (ui (.ref it)) (λr s1=>∃u,r=ae u /\
      bg (bn P w) X.A (xx tg (.ref it) u) (λ_ s2=>∃x H',Inv X pj σ H' s2/\cM x u/\J.yld i H x H'/\tn (i+1) s2.heap /\ ∀b∈fp,H' b=ao) E s1) E s
  done:∀(X:Cx),X.prog=P->X.w=w->X.K=K->X.N=X.N -> ∀(i:Nat) (pj:List (af×jn)) (s:aj) (σ:St) (H:Hp) (E:ah->aj->Prop),Inv X pj σ H s->(∀b∈fp,zC X pj H b)->tn i s.heap->J.stop i H ->
    bg (bn P w) X.A (ui (.ref it)) (λr s1=>r=ao/\Inv X pj σ H s1) E s
  self:∀(A:cb) (i:Nat) (s:aj) (Q:ah->aj->Prop) (E:ah->aj->Prop),tn i s.heap->Q (.ref it) s->bg (bn P w) A (a0s (.ref it)) Q E s
abbrev TI:=St->Hp->(It->Hp->Prop)->Prop
def VY(X:Cx)(pj:List (af×jn))(σ:St)(tg:Expr)(R:It->Hp->Prop)(itv:ah)(s2:aj):Prop:=
  ∃(it:af) (fp:List af) (tn:Nat->eh->Prop) (J:It) (H':Hp),itv=.ref it/\Inv X pj σ H' s2/\Turn X.prog X.w X.K tg J fp it tn/\tn 0 s2.heap/\(∀b∈fp,zC X pj H' b)/\R J H'
def PI(X:Cx)(tg a0L:Expr)(wi:TI):Prop:=
  ∀(pj:List (af×jn)) (s:aj) (σ:St) (H:Hp) (R:It->Hp->Prop),Inv X pj σ H s->wi σ H R ->
    bg (bn X.prog X.w) X.A (gw a0L X.env) (λv s1=>bg (bn X.prog X.w) X.A (a0s v) (VY X pj σ tg R) X.xe s1) X.xe s
theorem GI{n:String}{vs:Array ah}{Q:Unit->aj->Prop}(ho:s.heap.get? it=ae o)(hc:o.cls=.type n)(hd:o.data=.fields vs)
    (hn:["enumerate","zip","dict_itemiterator","dict_reverseitemiterator","odict_iterator","itertools.zip_longest","itertools.pairwise"].contains n=am) (hQ:Q () s):bg M A (xx tg (.ref it) u) Q E s:=by
  unfold xx;cases tg<;>first
    |exact ai hQ
    | (cases u<;>first
        |exact ai hQ
        | (refine aa (Z9 ho ?_)
           rw[hc,hd];show bg M A (if (["enumerate","zip","dict_itemiterator","dict_reverseitemiterator","odict_iterator","itertools.zip_longest","itertools.pairwise"].contains n&&vs[0]?==ae (ph _))=ak then _ else _) Q E s;rw[a0h (by intro h;rw[hn,ig] at h;cases h)];exact ai hQ))
noncomputable def Tb(K:aq)(a:af):It:=
  ⟨λi H=>∃xs x,g6 K H a xs/\xs[i]?=ae x,λi H x H'=>H'=H /\ ∀xs,g6 K H a xs->xs[i]?=ae x,λi H=>∃xs,g6 K H a xs/\xs.length<=i⟩
noncomputable def VP(K:aq)(a:af):It:=
  ⟨λi H=>∃xs x,oQ K H a xs/\xs[i]?=ae x,λi H x H'=>H'=H /\ ∀xs,oQ K H a xs->xs[i]?=ae x,λi H=>∃xs,oQ K H a xs/\xs.length<=i⟩
noncomputable def Ta(lo:Int)(n:Nat):It:=⟨λi _=>i<n,λi H x H'=>H'=H/\x=.int (lo+i),λi _=>n<=i⟩
theorem GY(a it:af):Turn P w K tg (Tb K a) [it] it (λi h=>h.IsListIter it a i) where
  mem:=by simp
  obj:=λi h st b hb=>by
    have e:b=it:=by simpa using hb
    subst e;obtain⟨o,e,c,d⟩:=st;exact⟨o,e,λv z=>by rw[d] at z;cases z⟩
  keep:=λi h h' st k=>st.at λo e=>k it (by simp) o e
  item:=by
    intro X hP hw hK hc i pj s σ H E I hf st hg;subst hP hw hK;obtain⟨xs,x,hq,hx⟩:=hg;obtain⟨its,rv,p,hz⟩:=I.list hq;obtain⟨u,hu,ru⟩:=rv.get hx;obtain⟨f0,f1,f2,f3,f4,f5⟩:=hf it (by simp);refine Wi st p.isList (x:=u) (by simpa using hu) λh' st' sb=>?_;have I1:Inv X pj σ H { s with heap:=h' }:=I.turned (t':=s.toks) (λb o hb e=>(sb.2 b hb).trans e) f0 f1 f3 f4 f5;obtain⟨o,e,c,d⟩:=id st';exact⟨u,rfl,GI (s:={ s with heap:=h' }) e c d ∅ ⟨x,H,I1,ru,⟨rfl,λys hy=>by rw[I.list_inj hy hq];exact hx⟩,st',λb hb=>(hf b hb).1⟩⟩
  done:=by
    intro X hP hw hK hc i pj s σ H E I hf st hg;subst hP hw hK;obtain⟨xs,hq,hx⟩:=hg;obtain⟨its,rv,p,hz⟩:=I.list hq;obtain⟨f0,f1,f2,f3,f4,f5⟩:=hf it (by simp);have hl:=rv.length;exact DP I.qu st p.isList ⋯ λh' eb=>⟨rfl,I.turned (t':=s.toks) (λb o hb e=>eb b o hb e) f0 f1 f3 f4 f5⟩
  self:=λ_ _ _ _ _ st h=>WF st h
theorem Do(a it:af):Turn P w K tg (VP K a) [it] it (λi h=>h.IsTupleIter it a i) where
  mem:=by simp
  obj:=λi h st b hb=>by
    have e:b=it:=by simpa using hb
    subst e;obtain⟨o,e,c,d⟩:=st;exact⟨o,e,λv z=>by rw[d] at z;cases z⟩
  keep:=λi h h' st k=>st.at λo e=>k it (by simp) o e
  item:=by
    intro X hP hw hK hc i pj s σ H E I hf st hg;subst hP hw hK;obtain⟨xs,x,hq,hx⟩:=hg;obtain⟨its,rv,p,hz⟩:=I.tuple hq;obtain⟨u,hu,ru⟩:=rv.get hx;obtain⟨f0,f1,f2,f3,f4,f5⟩:=hf it (by simp);refine wpAny_pyNext_tuple_item st (show s.heap.IsTuple a its.toArray from p) (x:=u) (by simpa using hu) λh' st' sb=>?_;have I1:Inv X pj σ H { s with heap:=h' }:=I.turned (t':=s.toks) (λb o hb e=>(sb.2 b hb).trans e) f0 f1 f3 f4 f5;obtain⟨o,e,c,d⟩:=id st';exact⟨u,rfl,GI (s:={ s with heap:=h' }) e c d ∅ ⟨x,H,I1,ru,⟨rfl,λys hy=>by rw[I.tuple_inj hy hq];exact hx⟩,st',λb hb=>(hf b hb).1⟩⟩
  done:=by
    intro X hP hw hK hc i pj s σ H E I hf st hg;subst hP hw hK;obtain⟨xs,hq,hx⟩:=hg;obtain⟨its,rv,p,hz⟩:=I.tuple hq;obtain⟨f0,f1,f2,f3,f4,f5⟩:=hf it (by simp);have hl:=rv.length;exact Hx I.qu st (show s.heap.IsTuple a its.toArray from p) ⋯ λh' eb=>⟨rfl,I.turned (t':=s.toks) (λb o hb e=>eb b o hb e) f0 f1 f3 f4 f5⟩
  self:=λ_ _ _ _ _ st h=>wpAny_pyIter_tupleiter st h
theorem Dp(it:af)(lo:Int)(n:Nat):Turn P w K tg (Ta lo n) [it] it (λi h=>Vm h it (lo+(i:Nat)*1) ((n:Int)-(i:Nat)) 1) where
  mem:=by simp
  obj:=λi h st b hb=>by
    have e:b=it:=by simpa using hb
    subst e;exact⟨_,st,λv z=>by
      have z':Data.fields _=Data.cell v:=z;cases z'⟩
  keep:=λi h h' st k=>k it (by simp) _ st
  item:=by
    intro X hP hw hK hc i pj s σ H E I hf st hg;subst hP hw hK;obtain⟨f0,f1,f2,f3,f4,f5⟩:=hf it (by simp);refine Ei hg st λv h' tk hv st' kk=>?_;obtain⟨t,rfl⟩:=hv;have I1:Inv X pj σ H { s with heap:=h',toks:=tk }:=I.turned (λb o hb e=>kk b o (by simpa using hb) e) f0 f1 f3 f4 f5;refine⟨_,rfl,GI (s:={ s with heap:=h',toks:=tk }) (n:="range_iterator") st' rfl rfl ∅ ⟨.int (lo+i),H,I1,⟨t,?_⟩,⟨rfl,rfl⟩,st',λb hb=>(hf b hb).1⟩⟩;rw[Int.mul_one]
  done:=by
    intro X hP hw hK hc i pj s σ H E I hf st hg;subst hP hw hK;obtain⟨f0,f1,f2,f3,f4,f5⟩:=hf it (by simp);exact Hy I.qu st (by have:n<=i:=hg;ac_rfl) λh' eb=>⟨rfl,I.turned (t':=s.toks) (λb o hb e=>eb b o hb e) f0 f1 f3 f4 f5⟩
  self:=λ_ _ _ _ _ st h=>wpAny_pyIter_rangeiter st h
variable {fp:List af}
theorem CV{R:It->Hp->Prop}{hi:Int}{t u v:a0F}{tk:Nat}(I:Inv X pj σ H s)(h1:-(2 ^ 62)<=lo)(h2:lo<2 ^ 62)(h3:-(2 ^ 62)<=hi)(h4:hi<2 ^ 62)
    (q:R (Ta lo (hi-lo).toNat) H):bg (bn X.prog X.w) X.A (a0s (.ref s.heap.objs.size)) (VY X pj σ tg R) E { s with heap:=s.heap.push { cls:=.type "range",data:=.fields #[.int lo t,.int hi u,.int 1 v] },toks:=tk }:=by
  refine wpAny_pyIter_range (IsRange.new ..) (small_one h1 h2 h3 h4) ?_;have I1:Inv X pj σ H { s with heap:=s.heap.push { cls:=.type "range",data:=.fields #[.int lo t,.int hi u,.int 1 v] },toks:=tk }:=I.kept λb o e=>au _ e;refine⟨(s.heap.push { cls:=.type "range",data:=.fields #[.int lo t,.int hi u,.int 1 v] }).objs.size,[(s.heap.push { cls:=.type "range",data:=.fields #[.int lo t,.int hi u,.int 1 v] }).objs.size],_,_,H,rfl,
    I1.kept (t':=tk) λb o e=>au _ e,Dp _ lo (hi-lo).toNat,?_,λb hb=>?_,q⟩
  . have e1:lo+((0:Nat):Int)*1=lo:=by simp
    have e2:(((hi-lo).toNat:Nat):Int)-((0:Nat):Int)=vm lo hi 1:=by rw[rangeSize_one];split<;>ac_rfl
    show Vm _ _ (lo+((0:Nat):Int)*1) ((((hi-lo).toNat:Nat):Int)-((0:Nat):Int)) 1;rw[e1,e2];exact cm _ rfl
  . have e:b=(s.heap.push { cls:=.type "range",data:=.fields #[.int lo t,.int hi u,.int 1 v] }).objs.size:=by simpa using hb
    subst e;exact I1.fpOk (cg _) (I1.hok.fresh (cg _))
def SV(ta:TA):TI:=λσ H R=>ta σ H λvs H1=>∃j:Int,vs=[.int j] /\ -(2 ^ 62)<=j/\j<2 ^ 62/\R (Ta 0 j.toNat) H1
def SU(ta:TA):TI:=λσ H R=>ta σ H λvs H1=>∃i j:Int,vs=[.int i,.int j]/\(-(2 ^ 62)<=i/\i<2 ^ 62 /\ -(2 ^ 62)<=j/\j<2 ^ 62)/\R (Ta i (j-i).toNat) H1
theorem Gs{a:Expr}{ta:TA}(hg:Gl X "range")(hm:X.mg "range"=ao)(ha:PA X [a] ta)(hs:autoParam (ay [a] X.env=[(am,gw a X.env)]) cA._auto_1):PI X tg (.Call (.Name "range" p) [a] [] pos) (SV ta):=by
  intro pj s σ H R I h;refine Call_ (sE I hg hm boot_range (kf (thn (ha pos pj s σ H _ I h) λus s1 ⟨vs,H1,I1,r1,q1⟩=>?_) hs rfl));obtain⟨j,e,q1,q2,q⟩:=q1;subst e;cases r1 with
  |cons r rr=>
    cases rr;obtain⟨t,rfl⟩:=r;exact call_range_1 (CV I1 ⋯ ⋯ q1 q2 (by simpa using q))
theorem Gr{a b:Expr}{ta:TA}(hg:Gl X "range")(hm:X.mg "range"=ao)(ha:PA X [a,b] ta)(hs:autoParam (ay [a,b] X.env=[(am,gw a X.env),(am,gw b X.env)]) cA._auto_1)(hs2:autoParam (ay [b] X.env=[(am,gw b X.env)]) cA._auto_1):
    PI X tg (.Call (.Name "range" p) [a,b] [] pos) (SU ta):=by
  intro pj s σ H R I h;refine Call_ (sE I hg hm boot_range (kf (thn (ha pos pj s σ H _ I h) λus s1 ⟨vs,H1,I1,r1,q1⟩=>?_) (by rw[hs,hs2]) (by rw[hs2];rfl)));obtain⟨i,j,e,⟨q1,q2,q3,q4⟩,q⟩:=q1;subst e;cases r1 with
  |cons r rr=>
    cases rr with
    |cons r' rr=>
      cases rr;obtain⟨t,rfl⟩:=r;obtain⟨t',rfl⟩:=r';exact call_range_2 (CV I1 q1 q2 q3 q4 q)
def UG(wi:TI)(g:TG)(tb:TS):TS:=λD σ H=>wi σ H λJ H1=>∃W:Nat->Nat->St->Hp->Prop,(∃m,W 0 m σ H1) /\ ∀i m σ H,W i m σ H ->
  (J.stop i H/\D.nx σ H) \/ (J.go i H /\ ∃N:St->Hp->Prop,(∀σ' H',N σ' H' -> ∃m',m'<m/\W (i+1) m' σ' H') /\ ∀x H',J.yld i H x H'->g x σ H' λσ2 H2=>tb { D with nx:=N,ct:=N,bk:=D.nx } σ2 H2)
noncomputable def xS(fp:List af)(h:eh):List (af×jn):=fp.filterMap λb=>(h.get? b).map λo=>(b,o)
theorem oC(hb:b∈fp)(e:h.get? b=ae o):(b,o)∈xS fp h:=yv.mpr ⟨b,hb,by rw[e];rfl⟩
theorem HM{p:af×jn}(hp:p∈xS fp h):p.1∈fp/\h.get? p.1=ae p.2:=by
  obtain⟨b,hb,e⟩:=yv.mp hp;cases q:h.get? b with
  |none=>rw[q] at e;cases e
  |some o=>
    rw[q] at e;have e':(b,o)=p:=Option.some.inj e;subst e';exact⟨hb,q⟩
theorem Inv.pinned(I:Inv X pj σ H s)(hf:∀b∈fp,zC X pj H b)(ho:∀b∈fp,∃o,s.heap.get? b=ae o /\ ∀v,o.data ≠ .cell v):Inv X (pj++xS fp s.heap) σ H s:=
  I.pins_of λp hp=>(cr.mp hp).elim (λz=>I.pin p (gh _ z)) λz=>by
    obtain⟨hb,e⟩:=HM z;obtain⟨f0,f1,f2,_⟩:=hf p.1 hb;obtain⟨o,e',d⟩:=ho p.1 hb;rw[e] at e';cases e';exact⟨e,f0,f1,f2,d⟩
theorem Inv.unpinned{pl:List (af×jn)}(I:Inv X (pj++pl) σ H s):Inv X pj σ H s:=I.pins_of λp hp=>I.pin p (gh _ (ng _ hp))
theorem PF{a0L:Expr}{wi:TI}{g:TG}(hp:X5 (bn X.prog X.w) X.A X.env X.xe)(hc:X.N=X.N)(hi:PI X tg a0L wi)(hg:PG X tg g)(hb:wF X a0R tb)
    (hs:autoParam (∀x,jl a0L X.env x=jh x) M7._auto_1):PS X (.For tg a0L a0R [] pos) (UG wi g tb):=by
  intro pj s σ H D I h;refine wpAny_For (thn (hi pj s σ H _ I h) λv s1 h1=>thn h1 λitv s2 h2=>?_) hs;obtain⟨it,fp,tn,J,H2,e,I2,T,st2,f2,W,⟨m0,w0⟩,turn⟩:=h2;subst e;have stat:∀{H':Hp},(∀b∈fp,H' b=ao) -> ∀b∈fp,zC X pj H' b:=λhn b hb=>⟨hn b hb,(f2 b hb).2⟩;refine codeAny_forLoop_any (λn s'=>∃i σ' H',Inv X pj σ' H' s'/\tn i s'.heap/\(∀b∈fp,H' b=ao)/\W i n σ' H') ?_ m0 ⟨0,σ,H2,I2,st2,λb hb=>(f2 b hb).1,w0⟩;rintro n s3 ⟨i,σ3,H3,I3,st3,fr3,w3⟩;rcases turn i n σ3 H3 w3 with⟨stop,qn⟩ | ⟨go,N,hN,step⟩
  . refine pq hp (thn (T.done X rfl rfl rfl hc i pj s3 σ3 H3 X.xe I3 (stat fr3) st3 stop) λr s4 zz=>?_);obtain⟨hr,I4⟩:=zz;subst hr;exact ve ⟨σ3,H3,I4,qn⟩
  . refine pq hp (thn (T.item X rfl rfl rfl hc i pj s3 σ3 H3 X.xe I3 (stat fr3) st3 go) λr s4 zz=>?_);obtain⟨u,hr,h4⟩:=zz;subst hr;refine pq hp (thn h4 λ_ s5 zz=>?_);obtain⟨x,H5,I5,r5,y5,st5,fr5⟩:=zz;have I5':=I5.pinned (stat fr5) (T.obj _ _ st5);refine pq hp (thn (hg _ s5 σ3 H5 x u _ I5' r5 (step x H5 y5)) λ_ s6 zz=>?_);obtain⟨σ6,H6,I6,q6⟩:=zz;refine pq hp (thn (hb _ s6 σ6 H6 _ I6 q6) λf s7 q7=>?_);have Zg:∀{σ7:St} {H7:Hp},Inv X (pj++xS fp s5.heap) σ7 H7 s7->N σ7 H7 -> ∃m,m<n /\ ∃i σ' H',Inv X pj σ' H' s7/\tn i s7.heap/\(∀b∈fp,H' b=ao)/\W i m σ' H':=λ{σ7 H7} I7 n7=>by
      obtain⟨m',hm,w7⟩:=hN σ7 H7 n7;refine⟨m',hm,i+1,σ7,H7,I7.unpinned,T.keep _ _ _ st5 λb hb o e=>(I7.pin (b,o) (gh _ (gh _ (oC hb e)))).1,λb hb=>?_,w7⟩;obtain⟨o,e,d⟩:=T.obj _ _ st5 b hb;exact(I7.pin (b,o) (gh _ (gh _ (oC hb e)))).2.1
    cases f with
    |next=>obtain⟨σ7,H7,I7,n7⟩:=q7;exact Zg I7 n7
    |cont=>obtain⟨σ7,H7,I7,n7⟩:=q7;exact Zg I7 n7
    |brk=>obtain⟨σ7,H7,I7,q7⟩:=q7;exact⟨σ7,H7,I7.unpinned,q7⟩
    |ret v=>obtain⟨x7,σ7,H7,I7,r7,q7⟩:=q7;exact⟨x7,σ7,H7,I7.unpinned,r7,q7⟩
abbrev R2:=V->V->Hp->VK->Prop
def lQ(X:Cx)(f:ah->ah->YJ ah)(r:R2):Prop:=
  ∀(pj:List (af×jn)) (s:aj) (σ:St) (H:Hp) (x y:V) (v u:ah) (Q:VK),Inv X pj σ H s->cM x v->cM y u->r x y H Q ->
    bg (bn X.prog X.w) X.A (f v u) (EP X pj σ Q) X.xe s
def gI(X:Cx)(f:ah)(r:List V->Hp->VK->Prop):Prop:=
  ∀(pj:List (af×jn)) (s:aj) (σ:St) (H:Hp) (xs:List V) (us:List ah) (Q:VK),Inv X pj σ H s->bM xs us->r xs H Q ->
    bg (bn X.prog X.w) X.A (call f us) (EP X pj σ Q) X.xe s
def VJ(X:Cx)(r:V->Hp->(Bool->Hp->Prop)->Prop):Prop:=
  ∀(pj:List (af×jn)) (s:aj) (σ:St) (H:Hp) (x:V) (v:ah) (Q:Bool->Hp->Prop),Inv X pj σ H s->cM x v->r x H Q ->
    bg (bn X.prog X.w) X.A (truthy v) (TP X pj σ Q) X.xe s
def R7(r:R2)(ta tb:TE):TE:=λσ H Q=>ta σ H λx H1=>tb σ H1 λy H2=>r x y H2 Q
def rI(C:Int->Int->Prop)(g:Int->Int->V):R2:=λx y H Q=>∃i j,x=.int i/\y=.int j/\C i j/\Q (g i j) H
def Di(g:Int->Int->V):R2:=λx y H Q=>∃i j,x=.int i/\y=.int j/\Q (g i j) H
variable {op op':YK}{r r':R2}{y:V}
section
variable {a b c:Expr}{tb tc:TE}
theorem Qm(ha:PE X a ta)(hb:PE X b tb){R:V->V->Hp->Prop}(I:Inv X pj σ H s)
    (h:ta σ H λx H1=>tb σ H1 λy H2=>R x y H2)  {f:ah->ah->YJ ah}
    (hf:∀v u s2 x y H2,Inv X pj σ H2 s2->cM x v->cM y u->R x y H2->bg (bn X.prog X.w) X.A (f v u) Q X.xe s2):
    bg (bn X.prog X.w) X.A (gw a X.env) (λv s₁=>bg (bn X.prog X.w) X.A (gw b X.env) (λu s₂=>bg (bn X.prog X.w) X.A (f v u) Q X.xe s₂) X.xe s₁) X.xe s:=by
  refine thn (ha pj s σ H _ I h) λv s1 zz=>?_;obtain⟨x,H1,I1,r1,q1⟩:=zz;refine thn (hb pj s1 σ H1 _ I1 q1) λu s2 zz=>?_;obtain⟨y,H2,I2,r2,q2⟩:=zz;exact hf v u s2 x y H2 I2 r1 r2 q2
theorem Rn{op:W1}(ho:lQ X (ju op) r)(ha:PE X a ta)(hb:PE X b tb):PE X (.BinOp a op b pos) (R7 r ta tb):=by
  intro pj s σ H Q I h;exact wpAny_BinOp (Qm ha hb I h λv u s2 x y H2 I2 rx ry q=>ho pj s2 σ H2 x y v u Q I2 rx ry q)
theorem Tq{f:ah->ah->YJ ah}{C:Int->Int->Prop}{g:Int->Int->Int}
    (a0e:∀(i j:Int) (t u:a0F) (s:aj) (Q:ah->aj->Prop) (E:ah->aj->Prop),C i j->Q (.int (g i j) s.toks) { s with toks:=s.toks+1 }->bg (bn X.prog X.w) X.A (f (.int i t) (.int j u)) Q E s):
    lQ X f (rI C λi j=>.int (g i j)):=by
  intro pj s σ H x y v u Q I rx ry h;obtain⟨i,j,rfl,rfl,hc,q⟩:=h;obtain⟨t,rfl⟩:=rx;obtain⟨t',rfl⟩:=ry;exact a0e i j t t' s _ _ hc ⟨.int (g i j),H,I.tok _,⟨_,rfl⟩,q⟩
theorem Pv{f:ah->ah->YJ ah}{g:Int->Int->Int}
    (a0e:∀(i j:Int) (t u:a0F) (s:aj) (Q:ah->aj->Prop) (E:ah->aj->Prop),Q (.int (g i j) s.toks) { s with toks:=s.toks+1 }->bg (bn X.prog X.w) X.A (f (.int i t) (.int j u)) Q E s):
    lQ X f (Di λi j=>.int (g i j)):=by
  intro pj s σ H x y v u Q I rx ry h;obtain⟨i,j,rfl,rfl,q⟩:=h;obtain⟨t,rfl⟩:=rx;obtain⟨t',rfl⟩:=ry;exact a0e i j t t' s _ _ ⟨.int (g i j),H,I.tok _,⟨_,rfl⟩,q⟩
theorem My{f:ah->ah->YJ ah}{g:Int->Int->Bool}
    (a0e:∀(i j:Int) (t u:a0F) (s:aj) (Q:ah->aj->Prop) (E:ah->aj->Prop),Q (.bool (g i j)) s->bg (bn X.prog X.w) X.A (f (.int i t) (.int j u)) Q E s):
    lQ X f (Di λi j=>.bl (g i j)):=by
  intro pj s σ H x y v u Q I rx ry h;obtain⟨i,j,rfl,rfl,q⟩:=h;obtain⟨t,rfl⟩:=rx;obtain⟨t',rfl⟩:=ry;exact a0e i j t t' s _ _ ⟨.bl (g i j),H,I,rfl,q⟩
def M6(i j:Int):Prop:=0<=j/\j<=1000000/\i.natAbs<2 ^ 64
def Qx(i j:Int):Prop:=(-(2 ^ 64)<i/\i<2 ^ 64) \/ (-(2 ^ 64)<j/\j<2 ^ 64)
theorem Qx.ok{i j:Int}(h:Qx i j):IntMulOk i j:=by
  rcases h with⟨h1,h2⟩ | ⟨h1,h2⟩
  . exact .of_left (intBits_le_64 h1 h2)
  . exact .of_right (intBits_le_64 h1 h2)
theorem Pu:lQ X (ju .Add) (Di λi j=>.int (i+j)):=Pv λ_ _ _ _ _ _ _ q=>add_int q
theorem Pi:lQ X (ju .Sub) (Di λi j=>.int (i-j)):=Pv λ_ _ _ _ _ _ _ q=>sub_int q
theorem Pn:lQ X (ju .Mod) (rI (λ_ j=>0<j) λi j=>.int (i % j)):=Tq λi j _ _ _ _ _ hc q=>by
  have h1:(0:Int)<j:=hc;exact mod_int' ⋯ (by rw[Int.fmod_eq_emod_of_nonneg i ⋯];exact q)
theorem Pk:lQ X (ju .Pow) (rI M6 λi j=>.int (i ^ j.toNat)):=Tq λ_ _ _ _ _ _ _ hc q=>pow_int_small hc.1 hc.2.1 hc.2.2 q
theorem NY:lQ X (Yo .Sub) (Di λi j=>.int (i-j)):=Pv λ_ _ _ _ _ _ _ q=>isub_int q
theorem LW{Q:VK}{k k':Bool}(I:Inv X pj σ H s)(q:Q (.bl k) H)(e:k=k'):EP X pj σ Q (.bool k') s:=by
  subst e;exact⟨.bl k,H,I,rfl,q⟩
theorem K9:lQ X (dm .Lt) (Di λi j=>.bl (decide (i<j))):=My λ_ _ _ _ _ _ _ q=>lt_int q
theorem KA:lQ X (dm .LtE) (Di λi j=>.bl (decide (i<=j))):=My λ_ _ _ _ _ _ _ q=>le_int q
theorem S7:lQ X (dm .Gt) (Di λi j=>.bl (decide (j<i))):=My λ_ _ _ _ _ _ _ q=>gt_int q
theorem S8:lQ X (dm .GtE) (Di λi j=>.bl (decide (j<=i))):=My λ_ _ _ _ _ _ _ q=>ge_int q
theorem Po:lQ X (dm .Is) (λx y H Q=>y=.non/\Q (.bl (decide (x=.non))) H):=by
  intro pj s σ H x y v u Q I rx ry h;obtain⟨rfl,q⟩:=h;cases ry;refine is_none_gen (LW I q ?_);cases x<;>first
    | (cases rx;rfl)
    | (obtain⟨t,rfl⟩:=rx;rfl)
theorem Mu:lQ X (dm .IsNot) (λx y H Q=>y=.non/\Q (.bl (!decide (x=.non))) H):=by
  intro pj s σ H x y v u Q I rx ry h;obtain⟨rfl,q⟩:=h;cases ry;refine isnot_none_gen (LW I q ?_);cases x<;>first
    | (cases rx;rfl)
    | (obtain⟨t,rfl⟩:=rx;rfl)
theorem lQ.or{f:ah->ah->YJ ah}(h:lQ X f r)(h':lQ X f r'):lQ X f (λx y H Q=>r x y H Q \/ r' x y H Q):=by
  intro pj s σ H x y v u Q I rx ry q;rcases q with q | q
  . exact h pj s σ H x y v u Q I rx ry q
  . exact h' pj s σ H x y v u Q I rx ry q
theorem nomark(b:Expr)(h:autoParam (op ≠ .In) mJ._auto_1)(h2:autoParam (op ≠ .NotIn) mJ._auto_1):uz op b=am:=by
  have e1:(op==CmpOp.In)=am:=by cases op<;>first | rfl | exact absurd rfl h
  have e2:(op==CmpOp.NotIn)=am:=by cases op<;>first | rfl | exact absurd rfl h2
  cases b<;>simp[uz,e1,e2]
theorem Mm(ho:lQ X (dm op) r)(ha:PE X a ta)(hb:PE X b tb)(hm:uz op b=am):PE X (.Compare a [op] [b] pos) (R7 r ta tb):=by
  intro pj s σ H Q I h;exact wpAny_Compare1 (Qm ha hb I h λv u s2 x y H2 I2 rx ry q=>ho pj s2 σ H2 x y v u Q I2 rx ry q) hm
def Nw(t:TE):TT:=λσ H Q=>t σ H λx H'=>∃k,x=.bl k/\Q k H'
theorem Ma(ho:lQ X (dm op) r)(ha:PE X a ta)(hb:PE X b tb)(hm:uz op b=am):PT X (.Compare a [op] [b] pos) (Nw (R7 r ta tb)):=by
  intro pj s σ H Q I h;refine wpAny_isTrue_Compare1 (thn (ha pj s σ H _ I h) λv s1 ⟨x,H1,I1,r1,q1⟩=>thn (hb pj s1 σ H1 _ I1 q1) λu s2 ⟨y,H2,I2,r2,q2⟩=>
    thn (ho pj s2 σ H2 x y v u _ I2 r1 r2 q2) λc s3 ⟨z,H3,I3,r3,k,e,q3⟩=>?_) hm
  subst e;cases r3;exact gx ⟨H3,I3,q3⟩
def Dx(r r':R2)(ta tb tc:TE):TE:=λσ H Q=>ta σ H λx H1=>tb σ H1 λy H2=>r x y H2 λz H3=>∃k,z=.bl k /\
  (if k=ak then tc σ H3 λw' H4=>r' y w' H4 Q else Q (.bl am) H3)
theorem Je(ho:lQ X (dm op) r)(ho':lQ X (dm op') r')(ha:PE X a ta)(hb:PE X b tb)(hc:PE X c tc)
    (hm:autoParam (Yp [op,op'] [b,c]=am) Tj._auto_1):PE X (.Compare a [op,op'] [b,c] pos) (Dx r r' ta tb tc):=by
  intro pj s σ H Q I h;refine Compare_chain (thn (ha pj s σ H _ I h) λv s1 ⟨x,H1,I1,r1,q1⟩=>chain_link (thn (hb pj s1 σ H1 _ I1 q1) λu s2 ⟨y,H2,I2,r2,q2⟩=>
    thn (ho pj s2 σ H2 x y v u _ I2 r1 r2 q2) λd s3 ⟨z,H3,I3,r3,k,e,q3⟩=>?_)) hm
  subst e;cases r3;refine gx ?_;cases k with
  |false=>exact ite_ff ⟨.bl am,H3,I3,rfl,q3⟩
  |true=>exact ite_tt (chain_last (thn (hc pj s3 σ H3 _ I3 q3) λw' s4 ⟨z',H4,I4,r4,q4⟩=>ho' pj s4 σ H4 y z' u w' Q I4 r2 r4 q4))
theorem JN(ho:lQ X (dm op) r)(ho':lQ X (dm op') r')(ha:PE X a ta)(hb:PE X b tb)(hc:PE X c tc)
    (hm:autoParam (Yp [op,op'] [b,c]=am) Tj._auto_1):PT X (.Compare a [op,op'] [b,c] pos) (Nw (Dx r r' ta tb tc)):=by
  intro pj s σ H Q I h;refine isTrue_chain (thn (ha pj s σ H _ I h) λv s1 ⟨x,H1,I1,r1,q1⟩=>test_link (thn (hb pj s1 σ H1 _ I1 q1) λu s2 ⟨y,H2,I2,r2,q2⟩=>
    thn (ho pj s2 σ H2 x y v u _ I2 r1 r2 q2) λd s3 ⟨z,H3,I3,r3,k,e,q3⟩=>?_)) hm
  subst e;cases r3;refine gx ?_;cases k with
  |false=>
    obtain⟨k',e',q'⟩:=q3;cases e';exact ite_ff ⟨H3,I3,q'⟩
  |true=>
    refine ite_tt (test_last (thn (hc pj s3 σ H3 _ I3 q3) λw' s4 ⟨z',H4,I4,r4,q4⟩=>thn (ho' pj s4 σ H4 y z' u w' _ I4 r2 r4 q4) λd' s5 zz=>?_));obtain⟨z2,H5,I5,r5,k2,e2,q5⟩:=zz;subst e2;cases r5;exact gx ⟨H5,I5,q5⟩
def TC(K:aq)(x:V)(H:Hp)(k:Bool):Prop:=
  match x with
  | .non=>k=am
  | .bl b=>k=b
  | .int i=>k=(i != 0)
  | .str y=>y.length<=bo/\k=((y.length:Int) != 0)
  | .byt y=>y.size<=bo/\k=((y.size:Int) != 0)
  | .ref p=>(∃xs,g6 K H p xs/\k = !xs.isEmpty) \/ (∃xs,oQ K H p xs/\k = !xs.isEmpty) \/ ∃kvs,H p=ae (.dK kvs)/\k = !kvs.isEmpty
  |_=>False
theorem Ej{kvs:List (κ×V)}{vs:List (κ×ah)}(r:KV kvs vs):(!vs.isEmpty) = !kvs.isEmpty:=by
  cases r<;>rfl
theorem yE{xs:List V}{its:List ah}(r:bM xs its):(!its.toArray.isEmpty) = !xs.isEmpty:=by
  cases r<;>simp
theorem pT:(bo:Nat)<2 ^ 63:=by rw[ky];decide
theorem Of:VJ X (λx H Q=>∃k,TC X.K x H k/\Q k H):=by
  intro pj s σ H x v Q I rx h;obtain⟨k,e,q⟩:=h;have hl:=pT;have hs:bo=16777216:=ky;cases x with
  |non=>
    cases rx;have e':k=am:=e;subst e';exact truthy_none ⟨H,I,q⟩
  |bl b=>
    cases rx;have e':k=b:=e;subst e';exact gx ⟨H,I,q⟩
  |int i=>
    obtain⟨t,rfl⟩:=rx;have e':k=(i != 0):=e;subst e';exact PySem.P.truthy_int ⟨H,I,q⟩
  |str y=>
    obtain⟨t,rfl⟩:=rx;obtain⟨hy,e'⟩:y.length<=bo/\k=((y.length:Int) != 0):=e;subst e';exact PySem.P.truthy_str ⋯ ⟨H,I.tok _,q⟩
  |byt y=>
    obtain⟨t,rfl⟩:=rx;obtain⟨hy,e'⟩:y.size<=bo/\k=((y.size:Int) != 0):=e;subst e';exact W.truthy_bytes ⋯ ⟨H,I.tok _,q⟩
  |ref p=>
    cases rx;have e':(∃xs,g6 X.K H p xs/\k = !xs.isEmpty) \/ (∃xs,oQ X.K H p xs/\k = !xs.isEmpty) \/ ∃kvs,H p=ae (.dK kvs)/\k = !kvs.isEmpty:=e;rcases e' with⟨xs,hx,e'⟩ | ⟨xs,hx,e'⟩ | ⟨kvs,hx,e'⟩
    . subst e';obtain⟨its,r,pl,hz⟩:=I.list hx;have hlen:=r.length;exact wpAny_truthy_list pl.isList (by simp only[cj];ac_rfl) ⟨H,I.tok _,by rw[yE r];exact q⟩
    . subst e';obtain⟨its,r,pl,hz⟩:=I.tuple hx;have hlen:=r.length;exact truthy_tuple pl (by simp only[cj];ac_rfl) ⟨H,I.tok _,by rw[yE r];exact q⟩
    . subst e';obtain⟨hz,hS,vs,r,m⟩:kvs.length<=bo/\(p==km)=am /\ ∃vs,KV kvs vs/\s.heap.DictOf (dH X.prog X.w) p vs:=I.hok p _ hx;have hlen:kvs.length=vs.length:=Paired.length r;exact wpAny_truthy_dict hS m ⋯ ⟨H,I.tok _,by rw[Ej r];exact q⟩
  |_=>exact(show False from e).elim
theorem JM(ha:PE X a ta)(he:∀a12,isTrue a X.env a12=(do let v <- a12;XZ a.pos;Wj [v] (truthy v))):
    PT X a (λσ H Q=>ta σ H λx H'=>∃k,TC X.K x H' k/\Q k H'):=by
  intro pj s σ H Q I h;exact isTrue_plain (thn (ha pj s σ H _ I h) λv s1 zq6=>by obtain⟨x,H1,I1,r1,q1⟩:=zq6;exact Of pj s1 σ H1 x v Q I1 r1 q1) (he _)
theorem EL:lQ X (ju .Add) (λx y H Q=>∃i j,x=.str i/\y=.str j/\i.length+j.length<=bo/\Q (.str (i++j)) H):=by
  intro pj s σ H x y v u Q I rx ry h;obtain⟨i,j,rfl,rfl,hz,q⟩:=h;obtain⟨t,rfl⟩:=rx;obtain⟨t',rfl⟩:=ry;exact add_str (λt' tk=>⟨.str (i++j),H,I.tok _,⟨_,rfl⟩,q⟩) hz
theorem mK{x:V}(r:bM [x] us):∃u,us=[u]/\cM x u:=by
  cases r with
  |cons r1 r2=>cases r2;exact⟨_,rfl,r1⟩
theorem FC{x:V}(r:bM [x,y] us):∃u w',us=[u,w']/\cM x u/\cM y w':=by
  cases r with
  |cons r1 r2=>
    cases r2 with
    |cons r3 r4=>cases r4;exact⟨_,_,rfl,r1,r3⟩
theorem Lr:gI X (.builtin "abs") (λxs H Q=>∃i,xs=[.int i]/\Q (.int (if i<0 then -i else i)) H):=by
  intro pj s σ H xs us Q I r h;obtain⟨i,rfl,q⟩:=h;obtain⟨u,rfl,t,rfl⟩:=mK r;exact call_abs_int λu tk=>⟨.int (if i<0 then -i else i),H,I.tok _,⟨_,rfl⟩,q⟩
end
structure ObjM(h:eh)(x dx C:af)(mA:bq->Option ah):Prop where
  obj:h.get? x=ae (wx C dx)
  ns:h.Ns1 dx mA
  ne:dx≠x
variable {dx:af}{mA:bq->Option ah}
theorem Hb(n:h.Ns1 dx mA):∃od,h.get? dx=ae od /\ ∀name,Zh name od=ae (mA name):=by
  obtain⟨o,es,ep,ho,hd,hk,_,hm⟩:=n;refine⟨o,ho,λname=>?_⟩;have e:=hm name;unfold nsFind findBy at e;rw[<- Array.find?_toList] at e;unfold Zh;rw[hd];dsimp only;split
  . rename_i y q;rw[q] at e;exact congrArg ae e
  . rename_i q;rw[q] at e;have a:es.toList.any (·.refKey)=am:=by
      rw[Vn];intro y hy;obtain⟨z,t,hkey⟩:=hk y (WM.mp hy);simp[DictEntry.refKey,hkey]
    have a':¬es.toList.any (·.refKey)=ak:=by rw[a];exact fw
    rw[a0h a'];exact congrArg ae e
theorem ObjM.look{x:af}(I:ObjM h x dx C mA):∃od,W.InstAt h x (wx C dx) C (ae od) /\ ∀name,Zh name od=ae (mA name):=
  let ⟨od,ho,hl⟩:=Hb I.ns
  ⟨od,⟨I.obj,rfl,rfl,ho⟩,hl⟩
variable {pl:YJ Bool}{kw:List (bq×ah)}{name:bq}
section
variable {x:af}{v:ah}
theorem Nb{expr:Bool}(X:K.In s.heap)(I:ObjM s.heap x dx C mA)(hg:Xx K C name=ak)(hh:YL K C=ak)
    (ha:jv K (.ref C) name=ae ao) (hv:mA name=ae v) (hv':W.handedIn v=ak) (h:Q v { s with toks:=s.toks+1 }):
    bg (bn prog w) A (getAttr (.ref x) name expr) Q E s:=by
  obtain⟨od,J,hl⟩:=I.look;exact W.get_value X J (Xj hg).1 (W.findObj_own hh ha rfl (by rw[hl,hv])) hv' h
theorem LJ{Q:ah×List ah->aj->Prop}(X:K.In s.heap)(I:ObjM s.heap x dx C mA)(hg:Xx K C name=ak)
    (hf:jv K (.ref C) name=ae (ae (.ref f))) (ht:a0t K (.ref f)=ak) (hv:mA name=ao) (h:Q (.ref f,[.ref x]) s):
    bg (bn prog w) A (W2 (.ref x) name pl) Q E s:=by
  obtain⟨od,J,hl⟩:=I.look;exact W.method_fn X J (Xj hg).1 (Xj hg).2 hf (beq_iff_eq.mp ht) (by show (Zh name od).map (·.isSome)=ae am;rw[hl,hv];rfl) h
theorem MK{ns:List bq}{Q:Unit->aj->Prop}(X:K.In s.heap)(I:ObjM s.heap x dx C mA)
    (hs:jv K (.ref C) "__setattr__"=ae (ae (.builtin "object.__setattr__"))) (hp:W.plainOver K C=ak) (ht:ZO K C name=ae ao) (hh:YL K C=ak)
    (hw:XU mA ns) (hsz:ns.length<=bo)
    (h:∀h',ObjM h' x dx C (λy=>if y=name then ae v else mA y)->qb dx s.heap h'->Q () { s with heap:=h',toks:=s.toks+2 }):
    bg (bn prog w) A (setAttr (.ref x) name v) Q E s:=by
  obtain⟨od,J,hl⟩:=I.look;refine W.set_plain X J hs (W.osa_open (s:={ s with toks:=s.toks+1 }) (r:=ao) X J hp ht λb=>?_);obtain⟨cd,hc,hd'⟩:=W.any_some hh;have hx:s.heap.get? x=ae ⟨.ref C,ae dx,.plain,#[]⟩:=I.obj;refine aa (ai (aa (aa (Zi hx (aa (xh.here (s:={ s with toks:=s.toks+1 }) (W.looks_clsIn X hc) ?_))))));rw[hd'];refine ai (a:=ae dx) (aa (ai (aa ?_)));refine wpAny_nsSet1 (s:={ s with toks:=s.toks+1 }) I.ns λh' hn2 hs2=>?_;obtain⟨oD,esD,epD,hoD,hdD,hcD⟩:=hn2.count (PySem.Within.cons name v hw);refine aa (wpAny_lookBehind hoD (by rw[hdD];exact pastItsLine_dict (mh hcD (by rw[dg];ac_rfl))) ?_);exact ai (h _ ⟨(hs2.2 _ (Ne.symm I.ne)).trans I.obj,hn2,I.ne⟩ hs2)
theorem KW{R:a0u->aj->Prop}{vs:List ah}(X:K.In s.heap)(hm:Yq K C=ak)
    (hi:jv K (.ref C) "__init__"=ae (ae (.ref f))) (hf:W.typeIn K (.ref f)=ae (.type "function"))
    (h:yh (bn prog w) (A.under (.builtin "type.__call__" ⟨.ref C::vs,kw⟩)) (.call (.ref f) ⟨.ref (s.heap.objs.size+1)::vs,kw⟩) (W.InitBack (s.heap.objs.size+1) R)
      { s with heap:=(s.heap.push sf).push (wx C s.heap.objs.size) }):
    yh (bn prog w) A (.call (.ref C) ⟨vs,kw⟩) R s:=by
  obtain⟨hh,g,d,t,os⟩:=s;exact W.make_core (W.makes_of X hm) (yw X hi) (λself=>W.bind_fn X self hf) (.inl rfl) h
end
noncomputable def o7(f:bq)(v:V):List (bq×V)->List (bq×V)
  | []=>[(f,v)]
  | (g,x)::r=>if g=f then (g,v)::r else (g,x)::o7 f v r
theorem vQ(f g:bq)(v:V):∀fs:List (bq×V),(o7 f v fs).lookup g=if g=f then ae v else fs.lookup g
  | []=>by
    show List.lookup g [(f,v)]=_;by_cases h:g=f
    . have hb:(g==f)=ak:=beq_iff_eq.mpr h;simp only[List.lookup,hb,a0G h]
    . have hb:(g==f)=am:=beq_eq_false_iff_ne.mpr h;simp only[List.lookup,hb,a0h h]
  | (k,x)::r=>by
    have ih:=vQ f g v r;rw[show o7 f v ((k,x)::r)=(if k=f then (k,v)::r else (k,x)::o7 f v r) from rfl];by_cases hk:k=f
    . rw[a0G hk];by_cases h:g=k
      . have hb:(g==k)=ak:=beq_iff_eq.mpr h;simp only[List.lookup,hb,a0G (h.trans hk)]
      . have hb:(g==k)=am:=beq_eq_false_iff_ne.mpr h;simp only[List.lookup,hb,a0h (λe:g=f=>h (e.trans hk.symm))]
    . rw[a0h hk];by_cases h:g=k
      . have hb:(g==k)=ak:=beq_iff_eq.mpr h;simp only[List.lookup,hb,a0h (λe:g=f=>hk (h.symm.trans e))]
      . have hb:(g==k)=am:=beq_eq_false_iff_ne.mpr h;simp only[List.lookup,hb];exact ih
theorem uZ(f:bq)(v:V):∀fs:List (bq×V),f∈(o7 f v fs).map (·.1) /\ ∀g,g∈fs.map (·.1)->g∈(o7 f v fs).map (·.1)
  | []=>⟨by simp[o7],λg h=>by simp at h⟩
  | (k,x)::r=>by
    obtain⟨i1,i2⟩:=uZ f v r;rw[show o7 f v ((k,x)::r)=(if k=f then (k,v)::r else (k,x)::o7 f v r) from rfl];by_cases hk:k=f
    . rw[a0G hk];subst hk;exact⟨by simp,λg h=>by simpa using h⟩
    . rw[a0h hk];refine⟨?_,λg h=>?_⟩
      . rw[ef];exact bp _ i1
      . rw[ef] at h ⊢;rcases bv.mp h with e | e
        . exact bv.mpr (.inl e)
        . exact bp _ (i2 g e)
theorem vS(f:bq)(v:V):∀fs:List (bq×V),(o7 f v fs).length<=fs.length+1
  | []=>by simp[o7]
  | (k,x)::r=>by
    have ih:=vS f v r;rw[show o7 f v ((k,x)::r)=(if k=f then (k,v)::r else (k,x)::o7 f v r) from rfl];by_cases hk:k=f
    . rw[a0G hk,dg,dg];ac_rfl
    . rw[a0h hk,dg,dg];ac_rfl
theorem r9.some_of{o:Option ah}(r:r9 (ae v) o):∃u,o=ae u/\cM v u:=by
  cases o with
  |none=>exact(show False from r).elim
  |some u=>exact⟨u,rfl,r⟩
theorem r9.none_of{o:Option ah}(r:r9 ao o):o=ao:=by
  cases o with
  |none=>rfl
  |some u=>exact(show False from r).elim
theorem Ht(r:cM v u):W.handedIn u=ak:=by
  cases v with
  |non=>cases (show u=fh from r);rfl
  |bl b=>cases (show u=kj b from r);rfl
  |int i=>obtain⟨t,e⟩:=(show ∃t,u=Value.int i t from r);cases e;rfl
  |str x=>obtain⟨t,e⟩:=(show ∃t,u=Value.str x t from r);cases e;rfl
  |byt b=>obtain⟨t,e⟩:=(show ∃t,u=a0d b t from r);cases e;rfl
  |flt b=>obtain⟨t,e⟩:=(show ∃t,u=YH b t from r);cases e;rfl
  |ref a=>cases (show u=Value.ref a from r);rfl
  |ty n=>cases (show u=wv n from r);rfl
section
variable {fs fs':List (bq×V)}
theorem wQ(hok:nJ P w H h)(e:H a=ae (.ins C dx fs)):∃mA,ObjM h a dx C mA/\(∀f,r9 (fs.lookup f) (mA f))/\XU mA (fs.map (·.1))/\fs.length<=1000/\H dx=ae (.own a):=by
  obtain⟨d,z,ne,ob,mA,n,r,q⟩:=(show cR P w H h a (.ins C dx fs) from hok a _ e);exact⟨mA,⟨ob,n,ne⟩,r,q,z,d⟩
end
theorem Cls.get(c:Cls K C)(f:bq):Xx K C f=ak:=c.pg
def kA(K:aq)(C:af)(f:bq):Prop:=jv K (.ref C) f=ae ao
theorem kA.taker{f:bq}(n:kA K C f):ZO K C f=ae ao:=by
  unfold ZO;rw[show jv K (.ref C) f=ae ao from n];rfl
structure Meth(K:aq)(C:af)(m:bq)(f:af):Prop where
  at_:jv K (.ref C) m=ae (ae (.ref f))
  fn:a0t K (.ref f)=ak
  kp:qc K (.ref f)=ak
variable {m:bq}
section
variable {fs:List (bq×V)}{f:bq}
theorem El{b:Bool}(I:Inv X pj σ H s)(e:H a=ae (.ins C dx fs))(c:Cls X.K C)(n:kA X.K C f)(l:fs.lookup f=ae v)
    (h:∀u s',Inv X pj σ H s'->cM v u->Q u s'):bg (bn X.prog X.w) A (getAttr (.ref a) f b) Q E s:=by
  obtain⟨mA,O,r,_,_,_⟩:=wQ I.hok e;obtain⟨u,hu,ru⟩:=r9.some_of (v:=v) (o:=mA f) (by rw[<- l];exact r f);exact Nb I.kIn O (c.get f) c.hd n hu (Ht ru) (h u _ (I.tok _) ru)
theorem yG{g:af}{Q:ah×List ah->aj->Prop}(I:Inv X pj σ H s)(e:H a=ae (.ins C dx fs))(c:Cls X.K C)(k:Meth X.K C m g)(l:fs.lookup m=ao)
    (h:Q (.ref g,[.ref a]) s):bg (bn X.prog X.w) A (W2 (.ref a) m pl) Q E s:=by
  obtain⟨mA,O,r,_,_,_⟩:=wQ I.hok e;have hn:mA m=ao:=r9.none_of (by rw[<- l];exact r m);exact LJ I.kIn O (c.get m) k.at_ k.fn hn h
theorem E2{Q:Unit->aj->Prop}(I:Inv X pj σ H s)(e:H a=ae (.ins C dx fs))(c:Cls X.K C)(n:kA X.K C f)(hl:fs.length<1000)(ry:cM y u)
    (h:∀s',Inv X pj σ (upd H a (.ins C dx (o7 f y fs))) s'->Q () s'):bg (bn X.prog X.w) A (setAttr (.ref a) f u) Q E s:=by
  obtain⟨mA,O,r,wi,_,ho⟩:=wQ I.hok e;have hz:(fs.map (·.1)).length<=bo:=by rw[bf,ky];ac_rfl
  refine MK I.kIn O c.sa c.po n.taker c.hd wi hz λh' O' sb=>h _ ?_;have hd:∃o,h'.get? dx=ae o:=let ⟨o,_,_,e',_⟩:=O'.ns;⟨o,e'⟩;refine I.write (x:=a) (e:=dx) (by rw[e];exact nh) (.inr ho) (λb q hb z=>(sb.2 b hb).trans z) hd ?_;refine⟨by rw[b5 O.ne];exact ho,?_,O.ne,O'.obj,_,O'.ns,λg=>?_,λg hg=>?_⟩
  . have:=vS f y fs;ac_rfl
  . show r9 ((o7 f y fs).lookup g) (if g=f then ae u else mA g);rw[vQ];by_cases q:g=f
    . rw[a0G q,a0G q];exact ry
    . rw[a0h q,a0h q];exact r g
  . by_cases q:g=f
    . rw[q];exact(uZ f y fs).1
    . refine(uZ f y fs).2 g (wi g λz=>hg ?_);show (if g=f then ae u else mA g)=ao;rw[a0h q];exact z
theorem Inv.made(I:Inv X pj σ H s):Inv X pj σ (upd (upd H s.heap.objs.size (.own (s.heap.objs.size+1))) (s.heap.objs.size+1) (.ins C s.heap.objs.size []))
    { s with heap:=(s.heap.push sf).push (wx C s.heap.objs.size) }:=by
  have e1:(s.heap.push sf).get? s.heap.objs.size=ae sf:=cm s.heap rfl;have e2:((s.heap.push sf).push (wx C s.heap.objs.size)).get? (s.heap.objs.size+1)=ae (wx C s.heap.objs.size):=by
    have:=cm (s.heap.push sf) (o:=wx C s.heap.objs.size) rfl;rwa[vx] at this
  have e3:(s.heap.push sf).Ns s.heap.objs.size (λ_=>ao):=⟨sf,#[],_,e1,rfl,(λe he=>absurd he (by simp)),λ_=>rfl⟩;have I1:=I.laid (a:=s.heap.objs.size) (o:=.own (s.heap.objs.size+1)) (h':=s.heap.push sf) (t':=s.toks) (λb u q=>au _ q) (cg _) ⟨_,e1⟩;refine I1.laid (a:=s.heap.objs.size+1) (o:=.ins C s.heap.objs.size []) (t':=s.toks) (λb u q=>au _ q) (a0f (vx _ _)) ?_;have ne:s.heap.objs.size≠s.heap.objs.size+1:=gp (Yr _);refine⟨by rw[b5 ne,bP],qd _,ne,e2,λ_=>ao,(Heap.Ns1.of_empty e3).at λo q=>au _ q,λ_=>nh,λy hy=>absurd rfl hy⟩
theorem Nq{f:bq}(hb:kh e f env (gw e env)=gw e env)
    (h:bg (bn prog w) A (gw e env) (λo s₁=>bg (bn prog w) A (getAttr o f ak) Q E s₁) E s):bg (bn prog w) A (gw (.Attribute e f pos) env) Q E s:=
  Attribute_any_ h (by rw[arm_eval_Attribute,hb])
end
def UH(K:aq)(ta:TE)(f:bq):TE:=λσ H Q=>ta σ H λx H1=>∃a C dx fs v,x=.ref a/\H1 a=ae (.ins C dx fs)/\Cls K C/\kA K C f/\fs.lookup f=ae v/\Q v H1
def UM(K:aq)(ta tv:TE)(f:bq):TS:=λD σ H=>tv σ H λy H1=>ta σ H1 λx H2=>∃a C dx fs,x=.ref a/\H2 a=ae (.ins C dx fs)/\Cls K C/\kA K C f/\fs.length<1000 /\
  D.nx σ (upd H2 a (.ins C dx (o7 f y fs)))
section
variable {o a0Q:Expr}{f:bq}{tv:TE}
theorem Pa(he:PE X e ta)(hb:kh e f X.env (gw e X.env)=gw e X.env):PE X (.Attribute e f pos) (UH X.K ta f):=by
  intro pj s σ H Q I h;refine Nq hb (thn (he pj s σ H _ I h) λu s1 zz=>?_);obtain⟨x,H1,I1,rx,a,C,dx,fs,v,ex,ea,c,n,l,q⟩:=zz;subst ex;obtain rfl:u=Value.ref a:=rx;exact El I1 ea c n l λu' s2 I2 ru=>⟨v,H1,I2,ru,q⟩
theorem PH(ha:PE X o ta)(hv:PE X a0Q tv)(hs:io a0Q (ae (.Attribute o f a0Y)) pos.line X.env=jh am):PS X (.Assign [.Attribute o f a0Y] a0Q pos) (UM X.K ta tv f):=by
  intro pj s σ H D I h;refine plainObj_wpAny_Assign_Attribute (thn (hv pj s σ H _ I h) λu s1 ⟨y,H1,I1,ry,q⟩=>thn (ha pj s1 σ H1 _ I1 q) λov s2 ⟨x,H2,I2,rx,a,C,dx,fs,ex,ea,c,n,l,q2⟩=>?_) hs;subst ex;obtain rfl:ov=Value.ref a:=rx;exact E2 I2 ea c n l ry λs3 I3=>⟨σ,_,I3,q2⟩
end
section
variable {c:ah}{b:Bool}
inductive TyOf(K:aq)(H:Hp):V->ah->Prop where
  |non:TyOf K H .non (.type "NoneType")
  |bl (x:Bool):TyOf K H (.bl x) (.type "bool")
  |int (i:Int):TyOf K H (.int i) (.type "int")
  |str (x:bq):TyOf K H (.str x) (.type "str")
  |flt (x:UInt64):TyOf K H (.flt x) (.type "float")
  |lst {a:af} {xs:List V} (e:H a=ae (.lst xs)):TyOf K H (.ref a) (.type "list")
  |frz {a:af} {o:jn} {xs:List V} (e:H a=ae (.frz o (.lst xs))):TyOf K H (.ref a) (.type "list")
  |tup {a:af} {xs:List V} (e:H a=ae (.tup xs)):TyOf K H (.ref a) (.type "tuple")
  |dK {a:af} {kvs:List (cB×V)} (e:H a=ae (.dK kvs)):TyOf K H (.ref a) (.type "dict")
  |dT {a:af} {ep:Nat} {kvs:List (List cB×V)} (e:H a=ae (.dT ep kvs)):TyOf K H (.ref a) (.type "dict")
  |ins {a C dx:af} {fs:List (bq×V)} (e:H a=ae (.ins C dx fs)) (cl:Cls K C) (ha:jv K (.ref C) "__class__"=ae (ae (.builtin "object.__class__")))
      (hn:WN K (.builtin "object.__class__") "__get__"=ae (ae (.builtin "getset_descriptor.__get__"))) (htk:Ys K (.builtin "object.__class__")=ae ak)
      (hm:Y0 K C (.type "object")=ae ak):TyOf K H (.ref a) (.ref C)
theorem Hq{x:V}{t:ah}(I:Inv X pj σ H s)(rx:cM x u)(ty:TyOf X.K H x t)(e:gr X.K t c=ae b)(h:∀tk,Q (.bool b) { s with toks:=tk }):
    bg (bn X.prog X.w) A (call (.builtin "isinstance") [u,c]) Q E s:=by
  cases ty with
  |non=>cases (show u=fh from rx);exact px W.kitx_none I.kIn nh e (λz=>nomatch z) h
  |bl y=>cases (show u=kj y from rx);exact px W.kitx_bool I.kIn nh e (λz=>nomatch z) h
  |int i=>obtain⟨t,q⟩:=(show ∃t,u=Value.int i t from rx);cases q;exact px W.kitx_int I.kIn nh e (λz=>nomatch z) h
  |str y=>obtain⟨t,q⟩:=(show ∃t,u=Value.str y t from rx);cases q;exact px W.kitx_str I.kIn nh e (λz=>nomatch z) h
  |flt y=>obtain⟨t,q⟩:=(show ∃t,u=YH y t from rx);cases q;exact px W.kitx_float I.kIn nh e (λz=>nomatch z) h
  | @lst a xs ea=>
    cases (show u=Value.ref a from rx);obtain⟨_,_,n,_,h1⟩:=(show cR X.prog X.w H s.heap a (.lst xs) from I.hok a _ ea);exact px W.kitx_list I.kIn ⟨_,h1,rfl⟩ e (λz=>nomatch z) h
  | @frz a ob xs ea=>
    cases (show u=Value.ref a from rx);obtain⟨_,_,_,n,_,h1⟩:=(show cR X.prog X.w H s.heap a (.frz ob (.lst xs)) from I.hok a _ ea);exact px W.kitx_list I.kIn ⟨_,h1,rfl⟩ e (λz=>nomatch z) h
  | @tup a xs ea=>
    cases (show u=Value.ref a from rx);obtain⟨_,_,_,p⟩:=(show cR X.prog X.w H s.heap a (.tup xs) from I.hok a _ ea);obtain⟨o,h1,h2,_⟩:=p;exact px W.kitx_tuple I.kIn ⟨o,h1,h2⟩ e (λz=>nomatch z) h
  | @dK a kvs ea=>
    cases (show u=Value.ref a from rx);obtain⟨_,_,vs,_,p⟩:=(show cR X.prog X.w H s.heap a (.dK kvs) from I.hok a _ ea);obtain⟨o,es,ep,h1,h2,_⟩:=p;exact px W.kitx_dict I.kIn ⟨o,h1,h2.1⟩ e (λz=>nomatch z) h
  | @dT a ep kvs ea=>
    cases (show u=Value.ref a from rx);obtain⟨_,_,xs,_,o,es,h1,h2,_⟩:=(show cR X.prog X.w H s.heap a (.dT ep kvs) from I.hok a _ ea);exact px W.kitx_dict I.kIn ⟨o,h1,h2.1⟩ e (λz=>nomatch z) h
  | @ins a C dx fs ea cl ha hn htk hm=>
    cases (show u=Value.ref a from rx);obtain⟨mA,O,_⟩:=wQ I.hok ea;obtain⟨od,J,_⟩:=O.look;exact px (W.kitx_own (cl.get _) cl.hd ha hn htk hm) I.kIn J e (λz=>nomatch z) h
end
structure Room(k:Nat)(A:cb):Prop where
  hd:A.handled=ao
  dp:A.depth+3*k+5<WO
  un:A.units+16*k+200<gv
theorem Room.mono{k:Nat}(r:Room k A)(h:j<=k):Room j A:=⟨r.hd,by have:=r.dp;ac_rfl,by have:=r.un;ac_rfl⟩
theorem Room.deeper{k:Nat}{A:cb}(r:Room (k+1) A)(env:zw):Room k (A.deeper env):=
  ⟨r.hd,by have:=r.dp;show A.depth+1+3*k+5<_;ac_rfl,by have:=r.un;show A.units+3+16*k+200<_;ac_rfl⟩
theorem EX:(A.under (.builtin "type.__call__" ⟨.ref C::us,kw⟩)).depth=A.depth+1:=by
  first | rfl | simp[Y1,Code.weight,Code.isCreation,Code.isGuard,Code.isCaller,Code.frames,Y2,guardIds]
theorem EW:(A.under (.builtin "type.__call__" ⟨.ref C::us,kw⟩)).units=A.units+1:=by
  first | rfl | simp[Y1,Code.cUnits,Code.frames,Y2]
theorem Room.make{k:Nat}(r:Room (k+1) A)(C:af)(us:List ah)(kw:List (bq×ah)):Room k (A.under (.builtin "type.__call__" ⟨.ref C::us,kw⟩)):=
  ⟨r.hd,by have:=r.dp;rw[EX];ac_rfl,by have:=r.un;rw[EW];ac_rfl⟩
theorem Room.depth{k:Nat}{A:cb}(r:Room k A):A.depth<WO:=by have:=r.dp;ac_rfl
theorem Room.units{k:Nat}{A:cb}(r:Room k A):A.units+64<gv:=by have:=r.un;ac_rfl
def R9:TA:=λ_ H Q=>Q [] H
def RE(ta:TE)(tr:TA):TA:=λσ H Q=>ta σ H λx H1=>tr σ H1 λxs H2=>Q (x::xs) H2
section
variable {t:TA}
theorem uX:PA X [] R9:=λ_ _ _ _ H Q I h=>Calls.spliced_nil ⟨[],H,I,.nil,h⟩
theorem kE(ha:PE X e te)(hr:PA X es t)(hs:autoParam (ay (e::es) X.env=(am,gw e X.env)::ay es X.env) cA._auto_1):PA X (e::es) (RE te t):=by
  intro pos pj s σ H Q I h;rw[hs];show bg _ _ (spliced ((am,gw e X.env)::jd pos (ay es X.env))) _ _ s;refine Calls.spliced_cons (thn (ha pj s σ H _ I h) λu s1 zz=>?_);obtain⟨x,H1,I1,r1,q1⟩:=zz;exact thn (hr pos pj s1 σ H1 _ I1 q1) λus s2 zq0=>by obtain⟨xs,H2,I2,r2,q2⟩:=zq0;exact⟨x::xs,H2,I2,.cons r1 r2,q2⟩
def U9(t:TA):TE:=λσ H Q=>t σ H λxs H1=>xs.length<=bo /\ ∀p,H1 p=ao->Q (.ref p) (upd H1 p (.tup xs))
def UE(t:TA):TE:=λσ H Q=>t σ H λxs H1=>xs.length<=bo /\ ∀p,H1 p=ao->Q (.ref p) (upd H1 p (.lst xs))
theorem PQ{x1}(h:PA X es t):PE X (.Tuple es x1 pos) (U9 t):=by
  intro pj s σ H Q I hq;refine wpAny_Tuple_spliced (thn (h pos pj s σ H _ I hq) λus s1 ⟨xs,H1,I1,r,z,q⟩=>⟨by rw[<- r.length];exact z,?_⟩);have hf:H1 s1.heap.objs.size=ao:=I1.hok.fresh (cg _);refine⟨.ref s1.heap.objs.size,upd H1 s1.heap.objs.size (.tup xs),I1.laid (t':=s1.toks) (λb u e=>au _ e) (cg _) ?_,rfl,q _ hf⟩;exact⟨z,us,r,⟨_,cm _ rfl,rfl,_,rfl⟩⟩
theorem PY(h:PA X es t):PE X (.List es pos) (UE t):=by
  intro pj s σ H Q I hq;refine wpAny_List_spliced (thn (h pos pj s σ H _ I hq) λus s1 ⟨xs,H1,I1,r,z,q⟩=>⟨by rw[<- r.length];exact z,?_⟩);have hf:H1 s1.heap.objs.size=ao:=I1.hok.fresh (cg _);refine⟨.ref s1.heap.objs.size,upd H1 s1.heap.objs.size (.lst xs),I1.laid (t':=s1.toks) (λb u e=>au _ e) (cg _) ?_,rfl,q _ hf⟩;exact⟨z,us,0,r,cm _ rfl⟩
end
abbrev Sp:=List V->Hp->VK->XK->Prop
abbrev IT:=List zw->Hp->aj->XK->ah->aj->Prop
structure Env0(P:bj)(w:df)(K:aq)(mg:bq->Option ah)(base:eh)(A:cb)(outer:List zw)(s:aj)(H:Hp):Prop where
  frames:A.frames=ae outer
  mod:Mod K mg base
  bs:∀b o,base.get? b=ae o->s.heap.get? b=ae o/\H b=ao
  bsz:base.objs.size<=s.heap.objs.size
  funs:s.heap.FunFrames base outer
  frf:∀b∈frs outer,H b=ao
  hok:nJ P w H s.heap
  bare:yg s.gens
def CE(outer:List zw)(P:bj)(w:df)(H:Hp)(s:aj)(Q:VK)(u:ah)(s':aj):Prop:=
  ∃v H',s'.os=s.os/\yg s'.gens/\Un (frs outer) [] H H' s.heap s'.heap/\nJ P w H' s'.heap/\cM v u/\Q v H'
def CR(CX:IT)(outer:List zw)(P:bj)(w:df)(H:Hp)(s:aj)(Q:VK)(E:XK)(r:a0u)(s':aj):Prop:=
  match r with
  | .ok (.ret u)=>CE outer P w H s Q u s'
  | .ok _=>False
  | .error e=>CX outer H s E e s'
structure FnOk(P:bj)(w:df)(K:aq)(mg:bq->Option ah)(base:eh)(CX:IT)(k:Nat)(f:af)(fd:ko)(ps:List bq)(sp:Sp):Prop where
  len:∀vs H Q E,sp vs H Q E->vs.length=ps.length
  run:∀(A:cb) (outer:List zw) (s:aj) (H:Hp) (args:Args) (us:List ah) (vs:List V) (Q:VK) (E:XK),Room k A->Env0 P w K mg base A outer s H->X6 s fd args (ps.zip us)->bM vs us->sp vs H Q E ->
    yh (bn P w) A (.call (.ref f) args) (CR CX outer P w H s Q E) s
theorem Env0.make(e:Env0 P w K mg base A outer s H)(C:af)(us:List ah)(kw:List (bq×ah)):
    Env0 P w K mg base (A.under (.builtin "type.__call__" ⟨.ref C::us,kw⟩)) outer s H:=⟨by first | exact e.frames | (simpa [Y1,Code.envs,Y2,pushEnvs] using e.frames),e.mod,e.bs,e.bsz,e.funs,e.frf,e.hok,e.bare⟩
theorem Inv.env0(I:Inv X pj σ H s):Env0 X.prog X.w X.K X.mg X.base X.A X.stack s H:=
  ⟨I.ok.frames,I.ok.mod,I.bs,mh I.ok.bsz I.sz,I.stack,I.stkFree,I.hok,I.bare⟩
theorem Inv.after{Q:VK}(I:Inv X pj σ H s)(h:CE X.stack X.prog X.w H s Q u s'):EP X pj σ Q u s':=by
  obtain⟨v,H',os,bare,un,hok,r,q⟩:=h;obtain⟨hh,g,d,t,os'⟩:=s';obtain rfl:os'=s.os:=os;exact⟨v,H',I.call (h':=hh) (g':=g) (d':=d) (t':=t) (ch:=[]) un hok bare (λb z=>absurd z (by simp)),r,q⟩
def Ny(sp:Sp)(dvs:List V)(E:XK)(t:TA):TE:=λσ H Q=>t σ H λvs H1=>sp (vs++dvs) H1 Q E
def Nx(C:af)(m:bq)(sp:Sp)(dvs:List V)(E:XK)(ta:TE)(t:TA):TE:=λσ H Q=>ta σ H λx H1=>∃a dx fs,x=.ref a/\H1 a=ae (.ins C dx fs)/\fs.lookup m=ao /\
  t σ H1 λvs H2=>sp (x::(vs++dvs)) H2 Q E
def RB(C:af)(sp:Sp)(dvs:List V)(E:XK)(t:TA):TE:=λσ H Q=>t σ H λvs H1=>∀x dx,H1 x=ao->H1 dx=ao->dx≠x ->
  sp (.ref x::(vs++dvs)) (upd (upd H1 dx (.own x)) x (.ins C dx [])) (λv H2=>v=.non/\Q (.ref x) H2) E
def j4(K:aq)(fd:ko)(ps:List bq)(ds:List ah):Prop:=
  ∀(s:aj) (us:List ah),K.In s.heap->(us++ds).length=ps.length->X6 s fd ⟨us,[]⟩ (ps.zip (us++ds))
variable {fd:ko}
theorem j4.all(h:∀us:List ah,us.length=ps.length->a0g fd ⟨us,[]⟩=jh (ps.zip us)):j4 K fd ps []:=λs us _ hl=>by
  rw[fy] at hl ⊢;exact .of_eq (h us hl)
def sV(CX:IT)(X:Cx)(E:XK):Prop:=∀(pj:List (af×jn)) (σ:St) (H:Hp) (s:aj) (e:ah) (s':aj),Inv X pj σ H s->CX X.stack H s E e s'->X.xe e s'
variable {vs:List V}{CX:IT}{sp:Sp}{a0S:lj}
section
variable {k:Nat}{dvs:List V}{ds:List ah}{E:XK}{x:bq}{o:Expr}{t:TA}
theorem E3{Q:VK}(F:FnOk X.prog X.w X.K X.mg X.base CX k f fd ps sp)(hr:Room k X.A)(hb:j4 X.K fd ps ds)(hd:bM dvs ds)(hx:sV CX X E)
    (I:Inv X pj σ H s) (r:bM vs us) (h:sp (vs++dvs) H Q E):bg (bn X.prog X.w) X.A (call (.ref f) us) (EP X pj σ Q) X.xe s:=by
  have r2:bM (vs++dvs) (us++ds):=r.append hd;have hl:(us++ds).length=ps.length:=by rw[<- r2.length];exact F.len _ _ _ _ h
  refine yx (ut (F.run X.A X.stack s H ⟨us,[]⟩ (us++ds) (vs++dvs) Q E hr I.env0 (hb s us I.kIn hl) r2 h) λr s' hq=>?_);cases r with
  |error e=>exact hx pj σ H s e s' I hq
  |ok fl=>
    cases fl with
    |ret u=>exact I.after hq
    |next=>exact gy hq
    |brk=>exact gy hq
    |cont=>exact gy hq
theorem FW(F:FnOk X.prog X.w X.K X.mg X.base CX k f fd ps sp)(hr:Room k X.A)(hg:Gl X x)(hm:X.mg x=ae (.ref f))(hk:qc X.K (.ref f)=ak)(hb:j4 X.K fd ps ds)(hd:bM dvs ds)(hx:sV CX X E)
    (ha:PA X (e::es) t) (hdb:autoParam ((x==("__debug__":bq))=am) mJ._auto_1) (he:autoParam (ay (e::es) X.env=(am,gw e X.env)::ay es X.env) cA._auto_1) (hpl:autoParam ((jd pos (ay es X.env)).any (·.1)=am) cA._auto_1):
    PE X (.Call (.Name x p) (e::es) [] pos) (Ny sp dvs E t):=by
  intro pj s σ H Q I h;refine om (oE I hg hm ?_ hdb);refine yi (h₀:=X.base) I.ok.mod.kin hk (thn (ha pos pj s σ H _ I h) λus s1 ⟨vs,H1,I1,r,q⟩=>⟨I1.kIn,?_⟩) he hpl;exact E3 F hr hb hd hx I1 r q
theorem Mj(he:PE X o ta)(c:Cls X.K C)(hm:Meth X.K C m f)(F:FnOk X.prog X.w X.K X.mg X.base CX k f fd ps sp)(hr:Room k X.A)(hb:j4 X.K fd ps ds)(hd:bM dvs ds)(hx:sV CX X E)(ha:PA X (e::es) t)
    (hst:autoParam (ay (e::es) X.env=(am,gw e X.env)::ay es X.env) cA._auto_1) (hpl:autoParam ((jd pos (ay es X.env)).any (·.1)=am) cA._auto_1)
    (ht:autoParam (gw (.Call (.Attribute o m a0S) (e::es) [] pos) X.env=(do
      let ov <- gw o X.env
      XZ a0S.atName
      let (f,first) <- Wj [ov] (W2 ov m pl)
      Zj pos f first (jd pos (ay (e::es) X.env)) (yz pos (ul [] X.env)))) cA._auto_1):
    PE X (.Call (.Attribute o m a0S) (e::es) [] pos) (Nx C m sp dvs E ta t):=by
  intro pj s σ H Q I h;refine YV (pl:=pl) (thn (he pj s σ H _ I h) λu s1 ⟨x,H1,I1,rx,a,dx,fs,ex,ea,l,q⟩=>?_) ht;subst ex;obtain rfl:u=Value.ref a:=rx;refine yG I1 ea c hm l ?_;refine yi (first:=[.ref a]) (h₀:=X.base) I.ok.mod.kin hm.kp (thn (ha pos pj s1 σ H1 _ I1 q) λus s2 ⟨vs,H2,I2,r,q2⟩=>⟨I2.kIn,?_⟩) hst hpl;exact E3 (us:=.ref a::us) (vs:=.ref a::vs) F hr hb hd hx I2 (.cons rfl r) q2
theorem JY(he:PE X o ta)(c:Cls X.K C)(hm:Meth X.K C m f)(F:FnOk X.prog X.w X.K X.mg X.base CX k f fd ps sp)(hr:Room k X.A)(hb:j4 X.K fd ps ds)(hd:bM dvs ds)(hx:sV CX X E)
    (ht:autoParam (gw (.Call (.Attribute o m a0S) [] [] pos) X.env=(do
      let ov <- gw o X.env
      XZ a0S.atName
      let (f,first) <- Wj [ov] (W2 ov m pl)
      Zj pos f first (jd pos (ay [] X.env)) (yz pos (ul [] X.env)))) cA._auto_1):
    PE X (.Call (.Attribute o m a0S) [] [] pos) (Nx C m sp dvs E ta R9):=by
  intro pj s σ H Q I h;refine YV (pl:=pl) (thn (he pj s σ H _ I h) λu s1 ⟨x,H1,I1,rx,a,dx,fs,ex,ea,l,q⟩=>?_) ht;subst ex;obtain rfl:u=Value.ref a:=rx;refine yG I1 ea c hm l ?_;exact W.callWith_K0 (first:=[.ref a]) I1.kIn hm.kp (E3 (us:=[.ref a]) (vs:=[.ref a]) F hr hb hd hx I1 (.cons rfl .nil) q)
structure Mk(K:aq)(C f:af):Prop where
  makes:Yq K C=ak
  init:jv K (.ref C) "__init__"=ae (ae (.ref f))
  fn:a0t K (.ref f)=ak
  kp:qc K (.ref C)=ak
theorem J7{Q:VK}(M:Mk X.K C f)(F:FnOk X.prog X.w X.K X.mg X.base CX k f fd ps sp)(hr:Room (k+1) X.A)(hb:j4 X.K fd ps ds)(hd:bM dvs ds)
    (hx:sV CX X E) (I:Inv X pj σ H s) (r:bM vs us)
    (h:∀x dx,H x=ao->H dx=ao->dx≠x->sp (.ref x::(vs++dvs)) (upd (upd H dx (.own x)) x (.ins C dx [])) (λv H2=>v=.non/\Q (.ref x) H2) E):
    bg (bn X.prog X.w) X.A (call (.ref C) us) (EP X pj σ Q) X.xe s:=by
  have hq:=h (s.heap.objs.size+1) s.heap.objs.size (I.hok.fresh (vd _)) (I.hok.fresh (cg _)) (gp (Yr _));have I2:=Inv.made (C:=C) I;have r2:bM (V.ref (s.heap.objs.size+1)::(vs++dvs)) (Value.ref (s.heap.objs.size+1)::(us++ds)):=.cons rfl (r.append hd);have hl:(Value.ref (s.heap.objs.size+1)::us++ds).length=ps.length:=by
    have e:=r2.length;rw[F.len _ _ _ _ hq] at e;exact e.symm
  refine yx (KW (f:=f) I.kIn M.makes M.init (beq_iff_eq.mp M.fn) (ut (F.run _ X.stack _ _ ⟨Value.ref (s.heap.objs.size+1)::us,[]⟩ (Value.ref (s.heap.objs.size+1)::(us++ds)) _ _ E (hr.make C us [])
    (I2.env0.make C us []) (hb _ (Value.ref (s.heap.objs.size+1)::us) I2.kIn hl) r2 hq) λr s' hq'=>?_))
  cases r with
  |error e=>exact hx pj σ _ _ e s' I2 hq'
  |ok fl=>
    cases fl with
    |ret u=>
      obtain⟨v,H',I3,rv,ev,q3⟩:=I2.after hq';subst ev;exact⟨rv,⟨V.ref (s.heap.objs.size+1),H',I3,rfl,q3⟩⟩
    |next=>exact gy hq'
    |brk=>exact gy hq'
    |cont=>exact gy hq'
theorem Ml(M:Mk X.K C f)(F:FnOk X.prog X.w X.K X.mg X.base CX k f fd ps sp)(hr:Room (k+1) X.A)(hg:Gl X x)(hm:X.mg x=ae (.ref C))(hb:j4 X.K fd ps ds)(hd:bM dvs ds)(hx:sV CX X E)
    (ha:PA X (e::es) t) (hdb:autoParam ((x==("__debug__":bq))=am) mJ._auto_1) (he:autoParam (ay (e::es) X.env=(am,gw e X.env)::ay es X.env) cA._auto_1) (hpl:autoParam ((jd pos (ay es X.env)).any (·.1)=am) cA._auto_1):
    PE X (.Call (.Name x p) (e::es) [] pos) (RB C sp dvs E t):=by
  intro pj s σ H Q I h;refine om (oE I hg hm ?_ hdb);refine yi (h₀:=X.base) I.ok.mod.kin M.kp (thn (ha pos pj s σ H _ I h) λus s1 ⟨vs,H1,I1,r,q⟩=>⟨I1.kIn,?_⟩) he hpl;exact J7 M F hr hb hd hx I1 r q
end
section
variable {k:Nat}{ks:List bq}{E:XK}{x:bq}{kpos:lj}{o:Expr}{kws:List Vo}{t tk:TA}{nm:Option bq}
variable {g:List ah->List ah->List ah}{gV:List V->List V->List V}
end
structure FnScope(N P:List bq)(sc:Scope):Prop where
  kind:sc.kind=.function
  co:sc.isCoroutine=am
  gen:sc.isGenerator=am
  nd:N.Nodup
  pre:N.take P.length=P
  par:∀x∈P,sc.names.lookup x=ae .local \/ sc.names.lookup x=ae .cell
  nofree:∀y∈sc.names,y.2 ≠ .free
theorem Ad{ni:bq->Option xn}{x:bq}:∀{binds:List (bq×ah)} {m:bq->Option ah},(∀v,(x,v) ∉ binds)->Zk ni binds m x=m x
  | [],_,_=>rfl
  | (n,v)::r,m,h=>by
    unfold Zk;rw[Ad λw hw=>h w (bp _ hw)];split
    . have:x≠n:=by rintro rfl;exact h v bz
      simp[this]
    . rfl
theorem Af{ni:bq->Option xn}{x:bq}:∀{binds:List (bq×ah)} {m:bq->Option ah},(∀v,(x,v) ∉ binds)->Zl ni binds m x=m x
  | [],_,_=>rfl
  | (n,v)::r,m,h=>by
    unfold Zl;rw[Af λw hw=>h w (bp _ hw)];split
    . rfl
    . have:x≠n:=by rintro rfl;exact h v bz
      simp[this]
theorem Ae{ni:bq->Option xn}{x:bq}{v:ah}:∀{P:List bq} {vs:List ah} {i:Nat} {m:bq->Option ah},P.Nodup->P[i]?=ae x->vs[i]?=ae v->ni x=ae .local ->
    Zk ni (P.zip vs) m x=ae v
  | [],_,_,_,_,h,_,_=>by simp at h
  |_::_,[],_,_,_,_,h,_=>by simp at h
  |p::P,w::vs,0,m,nd,h1,h2,hk=>by
    simp at h1 h2;subst h1;subst h2;show Zk ni ((p,w)::P.zip vs) m p=_;unfold Zk;rw[Ad λv hv=>(wz.mp nd).1 (Xy hv).1,a0G hk];simp
  |p::P,w::vs,i+1,m,nd,h1,h2,hk=>by
    show Zk ni ((p,w)::P.zip vs) m x=_;unfold Zk;exact Ae (i:=i) (wz.mp nd).2 (by simpa using h1) (by simpa using h2) hk
theorem Ag{ni:bq->Option xn}{x:bq}{v:ah}:∀{P:List bq} {vs:List ah} {i:Nat} {m:bq->Option ah},P.Nodup->P[i]?=ae x->vs[i]?=ae v->ni x≠ae .local ->
    Zl ni (P.zip vs) m x=ae v
  | [],_,_,_,_,h,_,_=>by simp at h
  |_::_,[],_,_,_,_,h,_=>by simp at h
  |p::P,w::vs,0,m,nd,h1,h2,hk=>by
    simp at h1 h2;subst h1;subst h2;show Zl ni ((p,w)::P.zip vs) m p=_;unfold Zl;rw[Af λv hv=>(wz.mp nd).1 (Xy hv).1,a0h hk];simp
  |p::P,w::vs,i+1,m,nd,h1,h2,hk=>by
    show Zl ni ((p,w)::P.zip vs) m x=_;unfold Zl;exact Ag (i:=i) (wz.mp nd).2 (by simpa using h1) (by simpa using h2) hk
noncomputable def start(N:List bq)(vs:List V):St:=vs.map ae++av (N.length-vs.length) ao
noncomputable def DJ(A:cb):List af:=match A.handled with
  |some (.ref a)=>[a]
  |_=>[]
theorem Hr(h:A.handled=ao):DJ A=[]:=by
  unfold DJ;rw[h]
noncomputable def i6(CX:IT)(P:bj)(w:df)(K:aq)(mg:bq->Option ah)(base:eh)(N:List bq)(a0I:bq)(a0H:Scope)(f:af)(cd:ah)(A:cb)(outer:List zw)(s:aj)(H:Hp)(E:XK):Cx where
  prog:=P
  w:=w
  K:=K
  mg:=mg
  base:=base
  A:=A.deeper (tw a0I a0H s.heap.objs.size f cd)
  N:=N
  s₀:=s
  HZ:=H
  env:=tw a0I a0H s.heap.objs.size f cd
  outer:=outer
  stack:=tw a0I a0H s.heap.objs.size f cd::outer
  ex:=[]
  calm:=ak
  fn:=λ_=>ak
  pn:=[]
  hs:=DJ A
  xe:=λe s'=>bg (bn P w) (A.deeper (tw a0I a0H s.heap.objs.size f cd)) (leaving (tw a0I a0H s.heap.objs.size f cd) e) (λ_ s''=>CX outer H s E e s'') (λe' s''=>CX outer H s E e' s'') s'
theorem Dd{sc:Scope}{x:bq}(h:sc.names.lookup x=ae .cell):∃c,(Yt n sc.names []).lookup x=ae c:=by
  have q:=W3 sc.names n [] (.inl h);exact Vp.mp q
theorem AU{cd:ah}{s1:aj}{E:XK}
    (S:FnScope N ps a0H) (hd:A.handled=ao) (e0:Env0 P w K mg base A outer s H) (hl:vs.length=ps.length) (r:bM vs us)
    (x:InCallC s s.heap.objs.size (Zk (tw a0I a0H s.heap.objs.size f cd).kindOf (ps.zip us) λ_=>ao) (Yt (s.heap.objs.size+1) a0H.names []) (Zl (tw a0I a0H s.heap.objs.size f cd).kindOf (ps.zip us) λ_=>ao) s1):
    Inv (i6 CX P w K mg base N a0I a0H f cd A outer s H E) [] (start N vs) H s1:=by
  have hpl:ps.length<=N.length:=by have:=congrArg List.length S.pre;rw[lc] at this;ac_rfl
  obtain⟨h1,tk,rfl,hk⟩:=x.done;have noA:∀b:af,b ∉ (i6 CX P w K mg base N a0I a0H f cd A outer s H E).ex:=λb z=>absurd (show b∈([]:List af) from z) (by simp);refine⟨⟨e0.mod,S.kind,rfl,rfl,cg _,λy z c h1 h2=>?_,λy hy=>?_,λy c _ h=>?_,λ_=>hd,Around.frames_deeper e0.frames,.inr ⟨rfl,rfl⟩,λb z=>absurd z (noA b),e0.bs,e0.bsz,λb _ _=>noA b,λb z=>absurd z (noA b),e0.funs,e0.frf,.inl hd⟩,
    rfl,e0.bare,Un.kept hk,⟨_,x.toInCall.ns,λi y v h1 h2 h3=>?_⟩,λy c h=>⟨_,x.cell y c h⟩,e0.hok.fresh (cg _),λy c h=>?_,λp hp=>absurd (show p∈([]:List (af×jn)) from hp) (by simp),e0.hok.kept hk,?_,λa ha=>absurd (show a∈DJ A from ha) (by rw[Hr hd];simp)⟩
  . exact name_of_addr x.apart (iq h1) (iq h2)
  . have hy:a0H.names.lookup y=ae .cell \/ a0H.names.lookup y=ae .free:=hy;rcases hy with hy | hy
    . exact Dd hy
    . exact absurd rfl (S.nofree _ (iq hy))
  . exact XW (x.above y c (iq h))
  . have hi:i<vs.length:=by
      unfold start at h2;by_cases hi:i<vs.length
      . exact hi
      . rw[bt (by simpa using hi)] at h2;rw[jw] at h2;split at h2<;>cases h2
    have ha:vs[i]?=ae v:=by
      unfold start at h2;rw[dj (by simpa using hi),dw] at h2;cases e:vs[i]? with
      |none=>rw[e] at h2;cases h2
      |some a=>rw[e] at h2;cases h2;rfl
    obtain⟨u,hu,rv⟩:=r.get ha;have hp:ps[i]?=ae y:=by
      rw[<- S.pre,ly ⋯];exact h1
    have ndP:ps.Nodup:=by rw[<- S.pre];exact S.nd.sublist (Y3 _ _)
    refine⟨u,rv,?_⟩;rcases S.par y (ee hp) with k | k
    . exact .inl ⟨k,Ae ndP hp hu k⟩
    . obtain⟨c,e⟩:=Dd (n:=s.heap.objs.size+1) k;refine .inr ⟨.inl k,c,e,?_⟩;have q:=x.cell y c e;rw[Ag ndP hp hu (by show a0H.names.lookup y≠_;rw[k];decide)] at q;exact q
  . exact e0.hok.fresh (XW (x.above y c (iq h)))
  . unfold start;show _=N.length;rw[dh,bf,jx];ac_rfl
theorem OR{k:Nat}{a17:ZP}{dV kV doc pm cdv ct oc:ah}{an od:Option af}
    {osl:Array (Option ah)}   (lk:K.lookup f=ae ⟨oc,od,.func (xy name a0I a17 a0R a0H dV kV doc pm an cdv ct),osl⟩) (hcd:W4 K cdv a0I=ak) (S:FnScope N ps a0H)
    (len:∀vs H Q E,sp vs H Q E->vs.length=ps.length)
    (a0W:∀(A:cb) (outer:List zw) (s:aj) (H:Hp) (vs:List V) (Q:VK) (E:XK),Room k (A.deeper (tw a0I a0H s.heap.objs.size f cdv))->sp vs H Q E ->
      ∃t,wF (i6 CX P w K mg base N a0I a0H f cdv A outer s H E) a0R t/\t { nx:=λ_ H'=>Q .non H',rt:=Q } (start N vs) H):
    FnOk P w K mg base CX (k+1) f (xy name a0I a17 a0R a0H dV kV doc pm an cdv ct) ps sp:=by
  refine⟨len,λA outer s H args us vs Q E hr e0 hb r hsp=>?_⟩;have hl:=len _ _ _ _ hsp;have KX:K.In s.heap:=e0.mod.kin.keeps λb o e=>(e0.bs b o e).1;have lim:s.heap.NoLimit:=e0.mod.nolimit.keeps λb o e=>(e0.bs b o e).1;have a0T:∀y∈ps.zip us,a0H.names.lookup y.1=ae .local \/ (a0H.names.lookup y.1=ae .cell/\((Yt (s.heap.objs.size+1) a0H.names []).lookup y.1).isSome=ak):=λ⟨n,v⟩ hy=>by
    rcases S.par n (Xy hy).1 with q | q
    . exact .inl q
    . exact .inr ⟨q,W3 _ _ _ (.inl q)⟩
  refine WG hr.depth (KX _ _ lk) rfl S.co S.gen rfl (ZW KX hcd) (hb _ _ _ _ ?_);refine za S.kind a0T λenv he s1 x=>?_;subst he;refine⟨lim.keeps x.toInCall.keep,codeAny_func ?_⟩;obtain⟨t,ht,hq⟩:=a0W A outer s H vs Q E (hr.deeper _) hsp;have I:Inv (i6 CX P w K mg base N a0I a0H f cdv A outer s H E) [] (start N vs) H s1:=AU S hr.hd e0 hl r x;refine ix (ht [] s1 (start N vs) H _ I hq) (λfl s' hs=>?_) λe s' hs=>hs;have fin:∀{σ':St} {H':Hp} {v:V} {u:ah},Inv (i6 CX P w K mg base N a0I a0H f cdv A outer s H E) [] σ' H' s'->cM v u->Q v H'->CE outer P w H s Q u s':=
    λ{σ' H' v u} J rv q=>⟨v,H',J.os,J.bare,J.base,J.hok,rv,q⟩
  cases fl with
  |ret u=>
    obtain⟨v,σ',H',J,rv,q⟩:=hs;exact fin J rv q
  |next=>
    obtain⟨σ',H',J,q⟩:=hs;exact fin (v:=V.non) (u:=fh) J rfl q
  |brk=>
    obtain⟨_,_,_,q⟩:=hs;exact gy q
  |cont=>
    obtain⟨_,_,_,q⟩:=hs;exact gy q
section
variable {x:bq}{t:TA}{id T:String}{r:List V->Hp->VK->Prop}
def UI(r:List V->Hp->VK->Prop)(t:TA):TE:=λσ H Q=>t σ H λvs H1=>r vs H1 Q
theorem tH(hc:gI X (.builtin id) r)(hg:Gl X x)(hm:X.mg x=ao)(hv:pz x=ae (.builtin id))(ha:PA X (e::es) t)(hn:autoParam (x ≠ "__name__") mJ._auto_1)(hdb:autoParam ((x==("__debug__":bq))=am) mJ._auto_1)
    (he:autoParam (ay (e::es) X.env=(am,gw e X.env)::ay es X.env) cA._auto_1) (hpl:autoParam ((jd pos (ay es X.env)).any (·.1)=am) cA._auto_1):PE X (.Call (.Name x p) (e::es) [] pos) (UI r t):=by
  intro pj s σ H Q I h;refine om (sE I hg hm hv ?_ hn hdb);exact Yu (thn (ha pos pj s σ H _ I h) λus s1 zq1=>by obtain⟨vs,H1,I1,r1,q1⟩:=zq1;exact hc pj s1 σ H1 vs us Q I1 r1 q1) he hpl
theorem Gu(hc:gI X (.type T) r)(hg:Gl X x)(hm:X.mg x=ao)(hv:pz x=ae (.type T))(ha:PA X (e::es) t)(hn:autoParam (x ≠ "__name__") mJ._auto_1)(hdb:autoParam ((x==("__debug__":bq))=am) mJ._auto_1)
    (he:autoParam (ay (e::es) X.env=(am,gw e X.env)::ay es X.env) cA._auto_1) (hpl:autoParam ((jd pos (ay es X.env)).any (·.1)=am) cA._auto_1):PE X (.Call (.Name x p) (e::es) [] pos) (UI r t):=by
  intro pj s σ H Q I h;refine om (sE I hg hm hv ?_ hn hdb);exact kf (thn (ha pos pj s σ H _ I h) λus s1 zq2=>by obtain⟨vs,H1,I1,r1,q1⟩:=zq2;exact hc pj s1 σ H1 vs us Q I1 r1 q1) he hpl
end
end _L
namespace HT
open PySem PyProof.Rows
section
open PySem.SeqAt
open PySem.AutoSeq1 (wpAny_loadPart')
open PySem.MeetsSeq PySem.MeetsSeq2 PySem.MeetsSeq3
end
variable {sl:af}{vl vu:ah}{lo hi:Option Int}
theorem Nn{t:af}{vs ws:List ah}(ht:ZM s.heap t vs.toArray)(hb:ZM s.heap b ws.toArray)(hv:vs≠[])
    (h1:ws=[]->Q (.ref t) s) (h2:ws≠[]->Q (.ref s.heap.objs.size) { s with heap:=s.heap.push { cls:=.type "tuple",data:=.seq (vs++ws).toArray } })
    (hsz:vs.length+ws.length<=bo):bg (bn prog w) A (ju .Add (.ref t) (.ref b)) Q E s:=by
  obtain⟨⟨cls,dd,data,sl⟩,ho,hc,n,hd⟩:=id ht;obtain⟨⟨cls2,dd2,data2,sl2⟩,ho2,hc2,n2,hd2⟩:=id hb;simp only at hc hd hc2 hd2;subst hc hd hc2 hd2;have e:vs.toArray++ws.toArray=(vs++ws).toArray:=by simp
  by_cases hw:ws=[]
  . exact Y4 ⟨_,ho,rfl⟩ ⟨_,ho2,rfl⟩ W5 Xk vy vn (va _ _)
      (tuple_addW1 t b vs.toArray ws.toArray n n2 dd dd2 sl sl2 (by simpa using hv) (by simp[hw])) ⟨ho,ho2,h1 hw⟩
  . refine Y4 ⟨_,ho,rfl⟩ ⟨_,ho2,rfl⟩ W5 Xk vy vn (va _ _)
      (tuple_addW2 t b vs.toArray ws.toArray n n2 dd dd2 sl sl2 (by simpa using hv) (by simpa using hw) (by rw[cj,cj];exact hsz)) ⟨ho,ho2,?_⟩
    rw[e];exact h2 hw
noncomputable def iG(n d:Nat):Option Int->Nat
  |none=>d
  |some v=>if v<0 then (v+(n:Int)).toNat else min v.toNat n
theorem J3(n d:Nat):iG n d ao=d:=rfl
theorem Ow(n d:Nat)(hd:d<=n)(o:Option Int):iG n d o<=n:=by
  cases o with
  |none=>exact hd
  |some v=>
    show (if v<0 then (v+(n:Int)).toNat else min v.toNat n)<=n;by_cases hv:v<0
    . rw[a0G hv];ac_rfl
    . rw[a0h hv];exact Nat.min_le_right _ _
theorem GV(v:Int)(n d:Nat):(if v<0 then max (v+(n:Int)) 0 else min v (n:Int))=((iG n d (ae v):Nat):Int):=by
  show (if v<0 then max (v+(n:Int)) 0 else min v (n:Int))=(((if v<0 then (v+(n:Int)).toNat else min v.toNat n):Nat):Int);by_cases hv:v<0
  . simp only[a0G hv];ac_rfl
  . simp only[a0h hv];ac_rfl
theorem F3(lo hi:Option Int)(n:Nat):uv lo hi 1 (n:Int)=(((iG n 0 lo:Nat):Int),((iG n n hi:Nat):Int)):=by
  have h1:¬((1:Int)<0):=⋯;unfold uv;simp only[h1,if_false];refine Prod.ext ?_ ?_
  . cases lo with
    |none=>rfl
    |some v=>exact GV v n 0
  . cases hi with
    |none=>rfl
    |some v=>exact GV v n n
theorem EA(i j:Nat):pk (i:Int) (j:Int) 1=j-i:=by
  unfold pk;have h1:(1:Int) > 0:=⋯;simp only[h1,if_true,Int.ediv_one];split<;>ac_rfl
theorem xJ{v:ah}{o:Option Int}{Q:Option Int->aj->Prop}(p:Xz v o)(h:Q o s):bg (bn prog w) A (YW v) Q E s:=by
  cases p with
  |none=>exact Zm h
  |int i t=>exact slicePart_int h
theorem uO{Q:Int×Int×Nat->aj->Prop}(hs:s.heap.IsSliceOf sl vl vu .none)(pl:Xz vl lo)(pu:Xz vu hi)
    (h:Q (((iG n 0 lo:Nat):Int),1,iG n n hi-iG n 0 lo) s):bg (bn prog w) A (zb (.ref sl) (jh (n:Int))) Q E s:=by
  obtain⟨os,hos,hcs,hds⟩:=id hs;unfold zb ZC;refine aa (aa (fz hos hds (x:=vl) rfl (aa (fz hos hds (x:=vu) rfl (aa (fz hos hds (x:=.none) rfl (ai ?_)))))));refine aa (Zm ?_);show bg _ _ (if ((1:Int)==0)=ak then _ else _) _ _ s;rw[a0h ∅];refine aa (xJ pl (aa (xJ pu (aa (ai ?_)))));show bg _ _ (match uv lo hi 1 (n:Int) with | (lo,hi)=>jh (lo,(1:Int),pk lo hi 1)) _ _ s;rw[F3 lo hi n];show bg _ _ (jh (((iG n 0 lo:Nat):Int),(1:Int),pk ((iG n 0 lo:Nat):Int) ((iG n n hi:Nat):Int) 1)) _ _ s;rw[EA];exact ai h
theorem JW(xs:Array ah)(i k:Nat):((iw k).filterMap λ(m:Nat)=>xs[((i:Int)+(m:Int)*1).toNat]?).toArray=((xs.toList.drop i).take k).toArray:=by
  have e:(λ(m:Nat)=>xs[((i:Int)+(m:Int)*1).toNat]?)=λm=>xs[i+m]?:=by
    funext m;have:((i:Int)+(m:Int)*1).toNat=i+m:=⋯;rw[this]
  rw[e];have:=pick_run xs i k;rw[List.filterMap_map] at this;have e2:((λx=>xs[x]?) ∘ λx=>i+x)=λm=>xs[i+m]?:=rfl;rw[e2] at this;rw[this]
theorem u7{t:af}{a0K:Array ah}(ht:ZM s.heap t a0K)(hs:s.heap.IsSliceOf sl vl vu .none)(pl:Xz vl lo)(pu:Xz vu hi)
    (hw:¬(iG a0K.size 0 lo=0/\iG a0K.size a0K.size hi=a0K.size))
    (h:Q (.ref s.heap.objs.size) { s with heap:=s.heap.push { cls:=.type "tuple",data:=.seq ((a0K.toList.drop (iG a0K.size 0 lo)).take (iG a0K.size a0K.size hi-iG a0K.size 0 lo)).toArray } })
    (hsz:a0K.size<=bo):bg (bn prog w) A (X4 (.ref t) (.ref sl)) Q E s:=by
  have htake:sizeOk (.seq ((a0K.toList.drop (iG a0K.size 0 lo)).take (iG a0K.size a0K.size hi-iG a0K.size 0 lo)).toArray):=by
    show ((a0K.toList.drop (iG a0K.size 0 lo)).take (iG a0K.size a0K.size hi-iG a0K.size 0 lo)).toArray.size<=bo;rw[cj,lc,YM,qp];ac_rfl
  have hj:iG a0K.size a0K.size hi<=a0K.size:=Ow _ _ (cg _) hi;obtain⟨os,hos,hcs,hds⟩:=id hs;have hTs:s.TypeIs (.ref sl) "slice" := ⟨os,hos,hcs⟩;unfold X4
  try with_reducible refine je ?_
  first | refine aa (ai ?_) | skip
  refine aa (wpAny_sequenceKey ht.typeIs ∅ ?_);refine aa (gk (name:=iz "__getitem__") ht.typeIs qx
    (fg qx ht.typeIs entry_tuple_getitem ?_ (args_tuple_getitem _ _)))
  show bg _ _ (ii (.ref t) >>= _) _ _ s;refine aa (tupleItemsOf_ ht ?_);refine aa (Y5 hTs ?_);rw[a0G ∅];refine aa (uO hs pl pu ?_);have hno:¬((((iG a0K.size 0 lo:Nat):Int)==0&&(1:Int)==1&&(iG a0K.size a0K.size hi-iG a0K.size 0 lo)==a0K.size)=ak):=by
    intro q;rw[cp,cp] at q;have q1:((iG a0K.size 0 lo:Nat):Int)=0:=W6 q.1.1;have q2:iG a0K.size a0K.size hi-iG a0K.size 0 lo=a0K.size:=W6 q.2;exact hw ⟨⋯,⋯⟩
  show bg _ _ (if (((iG a0K.size 0 lo:Nat):Int)==0&&(1:Int)==1&&(iG a0K.size a0K.size hi-iG a0K.size 0 lo)==a0K.size)=ak then _ else _) _ _ s;rw[a0h hno,JW]
  first
    |exact aa (m:=qv _) (jj (ai ⟨_,rfl,ai h⟩) htake)
    |exact aa (m:=qv _) (jj (aa (ai (ai ⟨_,rfl,ai h⟩))) htake)
    |exact aa (aa (m:=qv _) (jj (ai (ai ⟨_,rfl,ai h⟩)) htake))
    |exact aa (aa (m:=qv _) (jj (ai ⟨_,rfl,ai h⟩) htake))
end HT
variable {H:_L.Hp}{X:_L.Cx}{σ:_L.St}{ns:List Int}
namespace _L
abbrev TO:=St->Hp->(Option Int->Hp->Prop)->Prop
def PO(X:Cx)(e:Option Expr)(t:TO):Prop:=
  ∀(pj:List (af×jn)) (s:aj) (σ:St) (H:Hp) (Q:Option Int->Hp->Prop),Inv X pj σ H s->t σ H Q ->
    bg (bn X.prog X.w) X.A (evalPart e X.env) (λu s'=>∃o H',Inv X pj σ H' s'/\Xz u o/\Q o H') X.xe s
def MH:TO:=λ_ H Q=>Q ao H
def R6(t:TE):TO:=λσ H Q=>t σ H λx H1=>∃i,x=.int i/\Q (ae i) H1
theorem sH:∀{us:List ah},bM (ns.map V.int) us->oz us ns:=by
  induction ns with
  |nil=>intro us r;rw[qe] at r;cases r;exact .nil
  |cons n ns ih=>
    intro us r;rw[ef] at r;cases r with
    |cons r1 r2=>
      obtain⟨t,e⟩:=r1;subst e;exact .cons n t (ih r2)
variable {r:V->Option Int->Option Int->Hp->VK->Prop}{xs:List V}
section
variable {te:TE}{lo hi:Option Expr}{tl th:TO}{p2:lj}
theorem Mf:PO X ao MH:=by
  intro pj s σ H Q I h;rw[evalPart_none];exact ai ⟨ao,H,I,.none,h⟩
theorem Me(h:PE X e te):PO X (ae e) (R6 te):=by
  intro pj s σ H Q I hw;rw[evalPart_some];refine thn (h pj s σ H _ I hw) λu s1 zz=>?_;obtain⟨x,H1,I1,r1,q1⟩:=zz;obtain⟨i,rfl,q⟩:=q1;obtain⟨t,rfl⟩:=r1;exact⟨ae i,H1,I1,.int i t,q⟩
def Qs(X:Cx)(r:V->Option Int->Option Int->Hp->VK->Prop):Prop:=
  ∀(pj:List (af×jn)) (s:aj) (σ:St) (H:Hp) (x:V) (v vl vu:ah) (lo hi:Option Int) (sl:af) (Q:VK),Inv X pj σ H s->cM x v->s.heap.IsSliceOf sl vl vu .none->Xz vl lo->Xz vu hi->r x lo hi H Q ->
    ∃T id,typeLookup (.type T) "__getitem__"=jh (ae (.builtin id))/\s.TypeIs v T/\bg (bn X.prog X.w) X.A (X4 v (.ref sl)) (EP X pj σ Q) X.xe s
theorem Qs.or{r':V->Option Int->Option Int->Hp->VK->Prop}(h:Qs X r)(h':Qs X r'):Qs X (λx lo hi H Q=>r x lo hi H Q \/ r' x lo hi H Q):=by
  intro pj s σ H x v vl vu lo hi sl Q I rx hs pl pu q;rcases q with q | q
  . exact h pj s σ H x v vl vu lo hi sl Q I rx hs pl pu q
  . exact h' pj s σ H x v vl vu lo hi sl Q I rx hs pl pu q
def Vb(r:V->Option Int->Option Int->Hp->VK->Prop)(te:TE)(tl th:TO):TE:=λσ H Q=>te σ H λx H1=>tl σ H1 λl H2=>th σ H2 λu H3=>r x l u H3 Q
theorem JX(hr:Qs X r)(he:PE X e te)(hl:PO X lo tl)(hu:PO X hi th):PE X (.Subscript e (.Slice lo hi ao p2) pos) (Vb r te tl th):=by
  intro pj s σ H Q I h;refine Subscript_ (thn (he pj s σ H _ I h) λv s1 zz=>?_);obtain⟨x,H1,I1,r1,q1⟩:=zz;refine wpAny_Slice (thn (hl pj s1 σ H1 _ I1 q1) λvl s2 ⟨l,H2,I2,pl,q2⟩=>thn (hu pj s2 σ H2 _ I2 q2) λvu s3 zz=>?_);obtain⟨u,H3,I3,pu,q3⟩:=zz;rw[evalPart_none];refine ai ?_;have I4:Inv X pj σ H3 { s3 with heap:=s3.heap.push { cls:=.type "slice",data:=.fields #[vl,vu,.none] } }:=I3.kept (t':=s3.toks) λb ob q=>au _ q;obtain⟨T,id,hT,ht,hg⟩:=hr pj { s3 with heap:=s3.heap.push { cls:=.type "slice",data:=.fields #[vl,vu,.none] } } σ H3 x v vl vu l u s3.heap.objs.size Q I4 r1 (Heap.IsSliceOf.new ..) pl pu q3;show bg (bn X.prog X.w) X.A (Xl e (.Slice lo hi ao p2) v (.ref s3.heap.objs.size)) (EP X pj σ Q) X.xe { s3 with heap:=s3.heap.push { cls:=.type "slice",data:=.fields #[vl,vu,.none] } };exact tail_any (ops:=[.ref s3.heap.objs.size,v]) ht hT hg (by with_unfolding_all rfl)
noncomputable def DY(xs:List V)(lo hi:Option Int):List V:=(xs.drop (HT.iG xs.length 0 lo)).take (HT.iG xs.length xs.length hi-HT.iG xs.length 0 lo)
theorem vV(xs:List V)(lo hi:Option Int):(DY xs lo hi).length<=xs.length:=by
  unfold DY;rw[lc,YM];ac_rfl
def UO(K:aq):V->Option Int->Option Int->Hp->VK->Prop:=λx lo hi H Q=>∃a xs,x=.ref a/\oQ K H a xs /\
  ¬(HT.iG xs.length 0 lo=0/\HT.iG xs.length xs.length hi=xs.length) /\ ∀p,H p=ao->Q (.ref p) (upd H p (.tup (DY xs lo hi)))
theorem Ov:Qs X (UO X.K):=by
  intro pj s σ H x v vl vu lo hi sl Q I rx hs pl pu h;obtain⟨a,xs,rfl,hx,hw,q⟩:=h;cases rx;obtain⟨its,r,ht,hz⟩:=I.tuple hx;have hlen:its.toArray.size=xs.length:=by rw[cj];exact r.length.symm
  refine⟨"tuple",_,qx.lookup,ht.typeIs,?_⟩;refine HT.u7 ht hs pl pu (by rw[hlen];exact hw) ?_ (by rw[hlen];exact hz);rw[hlen];refine⟨.ref s.heap.objs.size,_,I.laid (t':=s.toks) (o:=.tup (DY xs lo hi)) (λb ob q=>au _ q) (cg _) ?_,rfl,q _ (I.hok.fresh (cg _))⟩;exact⟨mh (vV xs lo hi) hz,_,(r.drop (HT.iG xs.length 0 lo)).take (HT.iG xs.length xs.length hi-HT.iG xs.length 0 lo),IsTup.new _ _⟩
def Ra(K:aq):R2:=λx y H Q=>∃a b xs ys,x=.ref a/\y=.ref b/\oQ K H a xs/\oQ K H b ys/\xs≠[]/\xs.length+ys.length<=bo /\
  (ys=[]->Q (.ref a) H)/\(ys≠[] -> ∀p,H p=ao->Q (.ref p) (upd H p (.tup (xs++ys))))
theorem bM.nil_iff(r:bM xs us):us=[] ↔ xs=[]:=by
  cases r with
  |nil=>simp
  |cons _ _=>simp
theorem Mx:lQ X (ju .Add) (Ra X.K):=by
  intro pj s σ H x y v u Q I rx ry h;obtain⟨a,b,xs,ys,rfl,rfl,ha,hb,hx,hz,q1,q2⟩:=h;cases rx;cases ry;obtain⟨its,r1,p1,_⟩:=I.tuple ha;obtain⟨its2,r2,p2,_⟩:=I.tuple hb;refine HT.Nn p1 p2 (λz=>hx (r1.nil_iff.mp z)) (λz=>⟨.ref a,H,I,rfl,q1 (r2.nil_iff.mp z)⟩) (λz=>?_) (by rw[<- r1.length,<- r2.length];exact hz);refine⟨.ref s.heap.objs.size,_,I.laid (t':=s.toks) (o:=.tup (xs++ys)) (λb ob q=>au _ q) (cg _) ?_,rfl,q2 (λw=>z (r2.nil_iff.mpr w)) _ (I.hok.fresh (cg _))⟩;exact⟨by rw[dh];exact hz,_,r1.append r2,IsTup.new _ _⟩
end
noncomputable def wB(n:Nat)(i:Int):Option Nat:=if 0<=i then (if i<n then ae i.toNat else ao) else if -(n:Int)<=i then ae (i+n).toNat else ao
noncomputable def sU(xs:List α)(i:Int):Option α:=(wB xs.length i).bind λj=>xs[j]?
variable {i:Int}
theorem GB{j:Nat}(h:wB n i=ae j):seqIndex? i n=ae j/\j<n /\ -(n:Int)<=i/\i<n:=by
  unfold wB at h;by_cases h0:0<=i
  . rw[a0G h0] at h;by_cases h1:i<n
    . rw[a0G h1] at h;have e:i.toNat=j:=Option.some.inj h;exact⟨by rw[YN h0 h1,e],⋯,⋯,h1⟩
    . rw[a0h h1] at h;cases h
  . rw[a0h h0] at h;by_cases h1:-(n:Int)<=i
    . rw[a0G h1] at h;have e:(i+n).toNat=j:=Option.some.inj h;exact⟨by rw[Y6 ⋯ h1,e],⋯,h1,⋯⟩
    . rw[a0h h1] at h;cases h
theorem C7{xs:List α}{v:α}(h:sU xs i=ae v):∃j,seqIndex? i xs.length=ae j/\xs[j]?=ae v/\j<xs.length /\ -(xs.length:Int)<=i/\i<xs.length:=by
  unfold sU at h;cases e:wB xs.length i with
  |none=>rw[e] at h;cases h
  |some j=>
    rw[e] at h;obtain⟨h1,h2,h3,h4⟩:=GB e;exact⟨j,h1,h,h2,h3,h4⟩
def C9(b:Expr):Prop:=∀o i,YO b am o i=operate [o,i] (X4 o i)
def M9(X:Cx)(r:R2):Prop:=
  ∀(a0Q a13:Expr) (pj:List (af×jn)) (s:aj) (σ:St) (H:Hp) (x y:V) (v u:ah) (Q:VK),Inv X pj σ H s->cM x v->cM y u->r x y H Q ->
    YO a13 am v u=operate [v,u] (X4 v u)->bg (bn X.prog X.w) X.A (Xl a0Q a13 v u) (EP X pj σ Q) X.xe s
def Tx(X:Cx)(id:String)(r:V->List V->Hp->VK->Prop):Prop:=
  ∀(pj:List (af×jn)) (s:aj) (σ:St) (H:Hp) (x:V) (xs:List V) (v:ah) (us:List ah) (Q:VK),Inv X pj σ H s->cM x v->bM xs us->r x xs H Q ->
    bg (bn X.prog X.w) X.A (call (.builtin id) (v::us)) (EP X pj σ Q) X.xe s
variable {ys:List V}{its its':List ah}
section
variable {X:Cx}{a b:Expr}{ta tb:TE}{pos:lj}
theorem M9.or{r r':R2}(h:M9 X r)(h':M9 X r'):M9 X (λx y H Q=>r x y H Q \/ r' x y H Q):=by
  intro a0Q a13 pj s σ H x y v u Q I rx ry q hs;rcases q with q | q
  . exact h a0Q a13 pj s σ H x y v u Q I rx ry q hs
  . exact h' a0Q a13 pj s σ H x y v u Q I rx ry q hs
theorem O4{r:R2}(hr:M9 X r)(ha:PE X a ta)(hb:PE X b tb)(hs:C9 b):PE X (.Subscript a b pos) (R7 r ta tb):=by
  intro pj s σ H Q I h;exact Subscript_ (Qm ha hb I h λv u s2 x y H2 I2 rx ry q=>hr a b pj s2 σ H2 x y v u Q I2 rx ry q (hs _ _))
def RV(K:aq):R2:=λx y H Q=>∃p xs i v,x=.ref p/\y=.int i/\g6 K H p xs/\sU xs i=ae v/\Q v H
def RT(K:aq):R2:=λx y H Q=>∃p xs i v,x=.ref p/\y=.int i/\oQ K H p xs/\sU xs i=ae v/\Q v H
def RU:R2:=λx y H Q=>∃z i c,x=.str z/\y=.int i/\z.length<=bo/\sU z.cps.toList i=ae c/\Q (.str ⟨#[c]⟩) H
theorem GA:M9 X (RV X.K):=by
  intro a0Q a13 pj s σ H x y v u Q I rx ry h hs;obtain⟨p,xs,i,z,rfl,rfl,hq,he,q⟩:=h;cases rx;obtain⟨t,rfl⟩:=ry;obtain⟨its,r,pl,hz⟩:=I.list hq;obtain⟨j,h1,h2,h3,h4,h5⟩:=C7 he;obtain⟨w,ew,rw'⟩:=r.get h2;have hl:=r.length;have hn:=pT;have fin:EP X pj σ Q w s:=⟨z,H,I,rw',q⟩;by_cases h0:0<=i
  . have hj:i.toNat=j:=by
      rw[YN h0 h5] at h1;exact Option.some.inj h1
    exact item_listR pl.isList h0 ⋯ (by rw[hj];simpa using ew) fin hs
  . have hj:(i+(its.toArray.size:Int)).toNat=j:=by
      rw[Y6 ⋯ h4] at h1;rw[cj,<- hl];exact Option.some.inj h1
    exact Wk (x:=w) pl.isList.typeIs Y7.lookup
      (wpAny_getItem_list_neg (Q:=λr s'=>r=w/\EP X pj σ Q r s') pl.isList ⋯ (by rw[cj]<;>ac_rfl) ⋯ (by rw[hj];simpa using ew) ⟨rfl,fin⟩) hs
theorem QL:M9 X (RT X.K):=by
  intro a0Q a13 pj s σ H x y v u Q I rx ry h hs;obtain⟨p,xs,i,z,rfl,rfl,hq,he,q⟩:=h;cases rx;obtain⟨t,rfl⟩:=ry;obtain⟨its,r,pl,hz⟩:=I.tuple hq;obtain⟨j,h1,h2,h3,h4,h5⟩:=C7 he;obtain⟨w,ew,rw'⟩:=r.get h2;have hl:=r.length;have hn:=pT;have fin:EP X pj σ Q w s:=⟨z,H,I,rw',q⟩;exact Wk (x:=w) pl.typeIs slot_tuple_getitem.lookup
    (getItem_tuple (j:=j) (Q:=λr s'=>r=w/\EP X pj σ Q r s') pl ⋯ ⋯ (by rw[cj,<- hl];exact h1) (by simpa using ew) ⟨rfl,fin⟩) hs
theorem QM:M9 X RU:=by
  intro a0Q a13 pj s σ H x y v u Q I rx ry h hs;obtain⟨z,i,c,rfl,rfl,hz,he,q⟩:=h;obtain⟨t,rfl⟩:=rx;obtain⟨t',rfl⟩:=ry;obtain⟨j,h1,h2,h3,h4,h5⟩:=C7 he;have hl:z.cps.toList.length=z.length:=by simp[Str.length]
  rw[hl] at h1 h4 h5;have hn:=pT;exact tail_any (typeIs_str s z t) slot_str_getitem.lookup (getItem_str (c:=c) (by
    have e1:decide (i < -(2 ^ 63:Int))=am:=decide_eq_false ⋯;have e2:decide (i >= 2 ^ 63)=am:=decide_eq_false ⋯;rw[e1,e2,xi]) (by rw[h1];simpa using h2) ⟨.str ⟨#[c]⟩,H,I.tok _,⟨_,rfl⟩,q⟩) hs
def Ve(K:aq):R2:=λx y H Q=>RV K x y H Q \/ RT K x y H Q \/ RU x y H Q
theorem QN:M9 X (Ve X.K):=GA.or (QL.or QM)
theorem EV(its:List ah)(n j:Nat)(u:ah):um (·.setIfInBounds j u) { cls:=.type "list",data:=.seq its.toArray n }={ cls:=.type "list",data:=.seq (its.set j u).toArray n }:=by
  simp[um]
theorem Inv.lst{pj:List (af×jn)}{σ:St}{H:Hp}{s:aj}{p:af}{xs:List V}(I:Inv X pj σ H s)(h:H p=ae (.lst xs)):
    ∃(its:List ah) (n:Nat),bM xs its/\s.heap.get? p=ae { cls:=.type "list",data:=.seq its.toArray n }/\xs.length<=bo:=by
  obtain⟨z,its,n,r,e⟩:=I.hok p _ h;exact⟨its,n,r,e,z⟩
theorem Inv.lstUpd{p:af}{n':Nat}{f:jn->jn}(I:Inv X pj σ H s)(h:H p=ae (.lst xs))
    (ho:s.heap.get? p=ae { cls:=.type "list",data:=.seq its.toArray n }) (hf:f { cls:=.type "list",data:=.seq its.toArray n }={ cls:=.type "list",data:=.seq its'.toArray n' }) (r:bM ys its') (hz:ys.length<=bo) (t:Nat):
    Inv X pj σ (upd H p (.lst ys)) { s with heap:=s.heap.update p f,toks:=t }:=by
  have e:(s.heap.update p f).get? p=ae { cls:=.type "list",data:=.seq its'.toArray n' }:=by
    rw[li f ho (by rw[hf]<;>rfl),hf]
  refine I.write (x:=p) (e:=p) (by rw[h];trivial) (.inl rfl) (λb u hb q=>(dk _ _ (Ne.symm hb)).trans q) ⟨_,e⟩ ?_;exact⟨hz,its',n',r,e⟩
def RS:V->V->V->Hp->(Hp->Prop)->Prop:=λo i v H Q=>∃p xs k j,o=.ref p/\i=.int k/\H p=ae (.lst xs)/\wB xs.length k=ae j/\Q (upd H p (.lst (xs.set j v)))
theorem Iz:TX X RS:=by
  intro pj s σ H o i v ov iv u Q I ro ri rv h;obtain⟨p,xs,k,j,rfl,rfl,hp,hj,q⟩:=h;cases ro;obtain⟨t,rfl⟩:=ri;obtain⟨its,n,r,ho,hz⟩:=I.lst hp;obtain⟨h1,h2,h3,h4⟩:=GB hj;have hl:=r.length;have hn:=pT;have I':Inv X pj σ (upd H p (.lst (xs.set j v))) { s with heap:=s.heap.update p (um (·.setIfInBounds j u)) }:=
    I.lstUpd hp ho (EV its n j u) (r.set rv j) (by rw[List.length_set];exact hz) s.toks
  by_cases h0:0<=k
  . have hk:k.toNat=j:=by
      rw[YN h0 h4] at h1;exact Option.some.inj h1
    exact W.ki_setAt ho h0 ⋯ (by rw[cj,<- hl];exact h4) (by rw[hk];exact⟨_,I',q⟩)
  . have hk:(k+(its.toArray.size:Int)).toNat=j:=by
      rw[Y6 ⋯ h3] at h1;rw[cj,<- hl];exact Option.some.inj h1
    exact W.ki_setBack ho ⋯ (by rw[cj,<- hl];exact h3) ⋯ (by rw[hk];exact⟨_,I',q⟩)
theorem Aw(lo hi:Option Int)(n:Nat):(vo lo hi ao n).1=((HT.iG n 0 lo:Nat):Int)/\(vo lo hi ao n).2.1=((HT.iG n n hi:Nat):Int)/\(vo lo hi ao n).2.2=1:=by
  refine⟨?_,?_,rfl⟩
  . cases lo with
    |none=>simp[vo,HT.iG]
    |some i=>
      simp only[vo,HT.iG,getD_none,show (1:Int) > 0 by decide,if_true];by_cases h:i<0
      . simp only[h,if_true]<;>ac_rfl
      . simp only[h,if_false]<;>ac_rfl
  . cases hi with
    |none=>simp[vo,HT.iG]
    |some i=>
      simp only[vo,HT.iG,getD_none,show (1:Int) > 0 by decide,if_true];by_cases h:i<0
      . simp only[h,if_true]<;>ac_rfl
      . simp only[h,if_false]<;>ac_rfl
theorem zE(its:List ah)(lo hi:Option Int):slicePick its.toArray lo hi ao=((its.drop (HT.iG its.length 0 lo)).take (HT.iG its.length its.length hi-HT.iG its.length 0 lo)).toArray:=by
  obtain⟨h1,h2,h3⟩:=Aw lo hi its.toArray.size;unfold slicePick;rw[h1,h2,h3];simp only[sliceRange_one,pick_run,cj]<;>rfl
def UP(K:aq):V->Option Int->Option Int->Hp->VK->Prop:=λx lo hi H Q=>∃a xs,x=.ref a/\g6 K H a xs /\ ∀p,H p=ao->Q (.ref p) (upd H p (.lst (DY xs lo hi)))
theorem MJ:Qs X (UP X.K):=by
  intro pj s σ H x v vl vu lo hi sl Q I rx hs pl pu h;obtain⟨a,xs,rfl,hx,q⟩:=h;cases rx;obtain⟨its,r,ht,hz⟩:=I.list hx;have hlen:=r.length;refine⟨"list",_,Y7.lookup,ht.isList.typeIs,?_⟩;refine wpAny_getItem_list_slice ht.isList hs pl pu .none (by simp) ?_ (by rw[cj]<;>ac_rfl);rw[zE,<- hlen];refine⟨.ref s.heap.objs.size,_,I.laid (t':=s.toks) (o:=.lst (DY xs lo hi)) (λb ob q=>au _ q) (cg _) ?_,rfl,q _ (I.hok.fresh (cg _))⟩;exact⟨mh (vV xs lo hi) hz,_,0,(r.drop (HT.iG xs.length 0 lo)).take (HT.iG xs.length xs.length hi-HT.iG xs.length 0 lo),cm _ rfl⟩
theorem C5:gI X (.builtin "len") (λxs H Q=>∃p ys,xs=[.ref p]/\(g6 X.K H p ys \/ oQ X.K H p ys)/\Q (.int ys.length) H):=by
  intro pj s σ H xs us Q I r h;obtain⟨p,ys,rfl,hq,q⟩:=h;obtain⟨u,rfl,rx⟩:=mK r;cases rx;have hn:=pT;rcases hq with hq | hq
  . obtain⟨its,r',pl,hz⟩:=I.list hq;have hlen:=r'.length;exact Calls.call_len_list pl.isList (by simp only[cj]<;>ac_rfl) ⟨.int ys.length,H,I.tok _,⟨s.toks+1,by rw[cj,hlen]⟩,q⟩
  . obtain⟨its,r',pl,hz⟩:=I.tuple hq;have hlen:=r'.length;exact len_tuple pl (by simp only[cj]<;>ac_rfl) ⟨.int ys.length,H,I.tok _,⟨s.toks+1,by rw[cj,hlen]⟩,q⟩
theorem C4:gI X (.builtin "len") (λxs H Q=>∃z,xs=[.str z]/\z.length<=bo/\Q (.int z.length) H):=by
  intro pj s σ H xs us Q I r h;obtain⟨z,rfl,hz,q⟩:=h;obtain⟨u,rfl,t,rfl⟩:=mK r;have hn:=pT;exact len_str ⋯ ⟨.int z.length,H,I.tok _,⟨_,rfl⟩,q⟩
theorem gI.or{f:ah}{r r':List V->Hp->VK->Prop}(h:gI X f r)(h':gI X f r'):gI X f (λxs H Q=>r xs H Q \/ r' xs H Q):=by
  intro pj s σ H xs us Q I rs q;rcases q with q | q
  . exact h pj s σ H xs us Q I rs q
  . exact h' pj s σ H xs us Q I rs q
theorem zW:gI X (.type "tuple") (λxs H Q=>∃p ys,xs=[.ref p]/\((g6 X.K H p ys /\ ∀l,H l=ao->Q (.ref l) (upd H l (.tup ys))) \/ (oQ X.K H p ys/\Q (.ref p) H))):=by
  intro pj s σ H xs us Q I r h;obtain⟨p,ys,rfl,h⟩:=h;obtain⟨u,rfl,rx⟩:=mK r;cases rx;rcases h with⟨hq,q⟩ | ⟨hq,q⟩
  . obtain⟨its,r',pl,hz⟩:=I.list hq;have hlen:=r'.length;refine call_tuple_list pl.isList (λh' kp=>?_) (by simp only[cj]<;>ac_rfl);have I1:Inv X pj σ H { s with heap:=h' }:=I.kept (t':=s.toks) kp;have I2:Inv X pj σ (upd H h'.objs.size (.tup ys)) { s with heap:=h'.push { cls:=.type "tuple",data:=.seq its.toArray } }:=
      I1.laid (t':=s.toks) (λb o e=>au _ e) (cg _) (show cR X.prog X.w _ _ _ (.tup ys) from⟨hz,its,r',IsTup.new _ _⟩)
    exact⟨.ref h'.objs.size,_,I2,rfl,q _ (I1.hok.fresh (cg _))⟩
  . obtain⟨its,r',pl,hz⟩:=I.tuple hq;exact call_tuple_same pl ⟨.ref p,H,I,rfl,q⟩
def U4(K:aq)(T:String)(x:V)(H:Hp):Prop:=match x with
  | .str _=>T = "str"
  | .int _=>T = "int"
  | .ref p=>(T = "list" /\ ∃xs,g6 K H p xs) \/ (T = "tuple" /\ ∃o,K.lookup p=ae o/\o.cls=.type "tuple" /\ o.dict=ao) \/
      (T = "dict" /\ ((∃kvs,H p=ae (.dK kvs)) \/ ∃ep kvs,H p=ae (.dT ep kvs))) \/ (T = "set" /\ ∃S n,H p=ae (.set S n))
  |_=>False
theorem Ib{T:String}{x:V}{v:ah}(I:Inv X pj σ H s)(r:cM x v)(ty:U4 X.K T x H):
    s.TypeIs v T /\ ∀a,v=.ref a -> ∃ob,s.heap.get? a=ae ob/\ob.dict=ao:=by
  cases x with
  |str z=>
    obtain⟨t,rfl⟩:=r;cases (show T = "str" from ty);exact⟨typeIs_str s z t,λ_ e=>nomatch e⟩
  |int i=>
    obtain⟨t,rfl⟩:=r;cases (show T = "int" from ty);exact⟨Zn s i t,λ_ e=>nomatch e⟩
  |ref p=>
    cases r;rcases ty with⟨rfl,xs,hq⟩ | ⟨rfl,o,hk,hc,hd⟩ | ⟨rfl,hk⟩ | ⟨rfl,S,n,hk⟩
    . obtain⟨its,_,pl,_⟩:=I.list hq;refine⟨pl.isList.typeIs,λa e=>?_⟩;cases e;obtain⟨o,n,e,c,hd,_⟩:=pl;exact⟨o,e,hd⟩
    . refine⟨⟨o,I.kIn p o hk,hc⟩,λa e=>?_⟩;cases e;exact⟨o,I.kIn _ o hk,hd⟩
    . have z:∃o,s.heap.get? p=ae o/\o.ExactDict:=by
        rcases hk with⟨kvs,hk⟩ | ⟨ep,kvs,hk⟩
        . obtain⟨_,_,_,_,o,_,_,e,ex,_⟩:=I.hok p _ hk;exact⟨o,e,ex⟩
        . obtain⟨_,_,_,_,o,_,e,ex,_⟩:=I.hok p _ hk;exact⟨o,e,ex⟩
      obtain⟨o,e,ex⟩:=z;refine⟨⟨o,e,ex.1⟩,λa e2=>?_⟩;cases e2;exact⟨o,e,ex.2.1⟩
    . obtain⟨o,_,_,_,e,ex,_⟩:=I.hok p _ hk;refine⟨⟨o,e,ex.1⟩,λa e2=>?_⟩;cases e2;exact⟨o,e,ex.2.1⟩
  |_=>exact gy ty
def UJ(K:aq)(T:String)(r:V->List V->Hp->VK->Prop)(to:TE):TE:=λσ H Q=>to σ H λx H1=>U4 K T x H1/\r x [] H1 Q
def Vd(K:aq)(T:String)(r:V->List V->Hp->VK->Prop)(to:TE)(t:TA):TE:=λσ H Q=>to σ H λx H1=>U4 K T x H1/\t σ H1 λxs H2=>r x xs H2 Q
variable {o e:Expr}{es:List Expr}{to:TE}{t:TA}{name:bq}{a0S a0P:lj}{T id:String}{r:V->List V->Hp->VK->Prop}
theorem EB(pa:PlainAttrs T)(slot:Slot T name id)(hty:zd (.builtin id)=jh (.type "method_descriptor"))(hm:Tx X id r)(ho:PE X o to)
    (a0Z:autoParam (kh o name X.env (gw o X.env)=gw o X.env) cA._auto_1) (a10:autoParam ((a0S.endLine==a0P.line)=ak) cA._auto_1):PE X (.Call (.Attribute o name a0S) [] [] a0P) (UJ X.K T r to):=by
  intro pj s σ H Q I h;refine wpAny_Call_method0_late a0Z a10 (thn (ho pj s σ H _ I h) λv s1 zz=>?_);obtain⟨x,H1,I1,r1,ty,q1⟩:=zz;obtain⟨h1,h2⟩:=Ib I1 r1 ty;exact⟨T,id,pa,slot,hty,h1,h2,Wm rfl (PySem.evalArgs_none (hm pj s1 σ H1 x [] v [] Q I1 r1 .nil q1))⟩
theorem Jg(pa:PlainAttrs T)(slot:Slot T name id)(hty:zd (.builtin id)=jh (.type "method_descriptor"))(hm:Tx X id r)(ho:PE X o to)(ha:PA X (e::es) t)
    (a0Z:autoParam (kh o name X.env (gw o X.env)=gw o X.env) cA._auto_1)
    (hfew:autoParam (((jd a0P (ay (e::es) X.env)).all (λx=>!x.1)&&(yz a0P (ul [] X.env)).all (λx=>x.1.isSome)
      && decide ((e::es).length+([]:List Vo).length+(if ([]:List Vo).isEmpty then 0 else 1)<30))=ak) cA._auto_1)
    (a10:autoParam ((a0S.endLine==a0P.line)=ak) cA._auto_1) (hs:autoParam (ay (e::es) X.env=(am,gw e X.env)::ay es X.env) cA._auto_1) (a14:autoParam ((jd a0P (ay es X.env)).any (·.1)=am) cA._auto_1):
    PE X (.Call (.Attribute o name a0S) (e::es) [] a0P) (Vd X.K T r to t):=by
  intro pj s σ H Q I h;refine wpAny_Call_method_late a0Z hfew a10 rfl (thn (ho pj s σ H _ I h) λv s1 zz=>?_);obtain⟨x,H1,I1,r1,ty,q1⟩:=zz;obtain⟨h1,h2⟩:=Ib I1 r1 ty;refine⟨T,id,pa,slot,hty,h1,h2,?_⟩;have hA:=ha a0P pj s1 σ H1 _ I1 q1;rw[hs] at hA ⊢;refine Wm (by show (am || (jd a0P (ay es X.env)).any (·.1))=am;rw[a14]<;>rfl) (WP ?_);exact thn hA λus s2 zq3=>by obtain⟨vs,H2,I2,r2,q2⟩:=zq3;exact hm pj s2 σ H2 x vs v us Q I2 r1 r2 q2
/- xs.append(e),list.index on a module's tuple .. are Tx facts of 06m -/
end
def VN(X:Cx)(id:String)(r:V->List V->Hp->VK->Prop):Prop:=
  ∀(pj:List (af×jn)) (s:aj) (σ:St) (H:Hp) (x:V) (xs:List V) (v:ah) (us:List ah) (Q:VK),Inv X pj σ H s->cM x v->bM xs us->r x xs H Q ->
    bg (bn X.prog X.w) X.A (call (.builtin id) (v::us)) (EP X pj σ Q) X.xe s
theorem bM.one:∀{x:V} {us:List ah},bM [x] us -> ∃u,us=[u]/\cM x u
  |_,_,.cons r .nil=>⟨_,rfl,r⟩
theorem bM.zero:∀{us:List ah},bM [] us->us=[]
  |_,.nil=>rfl
theorem bM.dropLast{xs:List V}{us:List ah}(h:bM xs us):bM xs.dropLast us.dropLast:=by
  induction h with
  |nil=>exact .nil
  |cons r t ih=>
    cases t with
    |nil=>exact .nil
    |cons q t'=>exact .cons r ih
theorem bM.rep{xs:List V}{us:List ah}(h:bM xs us):∀k:Nat,bM (av k xs).flatten (av k us).flatten
  |0=>.nil
  |k+1=>by
    rw[kq,kq,vz,vz];exact bM.append h (bM.rep h k)
theorem Ep(l:List α):l.eraseIdx (l.length-1)=l.dropLast:=by
  induction l with
  |nil=>rfl
  |cons a r ih=>
    cases r with
    |nil=>rfl
    |cons b r=>
      have e:(a::b::r).length-1=((b::r).length-1)+1:=by
        have h1:(a::b::r).length=r.length+2:=rfl;have h2:(b::r).length=r.length+1:=rfl;ac_rfl
      rw[e,List.eraseIdx_cons_succ,ih]
      all_goals rfl
theorem Aa(its:List ah):∀(k:Nat) (acc:List ah),
    Wn (λx1 x2=>x1++x2) acc.toArray (av k its.toArray)=(acc++(av k its).flatten).toArray
  |0,acc=>by simp
  |k+1,acc=>by
    have e:acc.toArray++its.toArray=(acc++its).toArray:=by simp
    have e2:(acc++its)++(av k its).flatten=acc++(av (k+1) its).flatten:=by
      rw[kq,vz,eo]
    rw[<- e2,<- Aa its k (acc++its),<- e,kq,Wo]
variable {t':Nat}
section
variable {l:af}{zs:List V}
theorem Inv.lset{f:Array ah->Array ah}(I:Inv X pj σ H s)(hH:H l=ae (.lst xs))
    (e:s.heap.get? l=ae { cls:=.type "list",data:=.seq its.toArray n }) (hf:f its.toArray=its'.toArray) (hv:bM ys its') (hz:ys.length<=bo):
    Inv X pj σ (upd H l (.lst ys)) { s with heap:=s.heap.update l (um f),toks:=t' }:=by
  have q:=PySem.IsL.update e f;rw[hf] at q;refine I.write (x:=l) (e:=l) (by rw[hH];exact trivial) (.inl rfl) (λb' u hb hu=>(dk s.heap (um f) (Ne.symm hb)).trans hu) ⟨_,q⟩ ?_;exact⟨hz,its',_,hv,q⟩
theorem Inv.lnew(I:Inv X pj σ H s)(hv:bM ys its)(hz:ys.length<=bo):
    Inv X pj σ (upd H s.heap.objs.size (.lst ys)) { s with heap:=s.heap.push { cls:=.type "list",data:=.seq its.toArray },toks:=t' }:=
  I.laid (λ_ _ q=>au _ q) (cg _) ⟨hz,its,0,hv,cm _ rfl⟩
theorem Inv.fresh(I:Inv X pj σ H s):H s.heap.objs.size=ao:=I.hok.fresh (cg _)
theorem Inv.lstM(I:Inv X pj σ H s)(hH:H l=ae (.lst xs)):xs.length<=bo /\ ∃(its:List ah) (n:Nat),bM xs its/\xs.length=its.length/\s.heap.get? l=ae { cls:=.type "list",data:=.seq its.toArray n }:=by
  obtain⟨z,its,n,r,e⟩:=I.hok l _ hH;exact⟨z,its,n,r,r.length,e⟩
theorem D2(h:n<=bo):qw n=am:=by
  unfold qw;exact decide_eq_false ⋯
end
def MP:V->List V->Hp->VK->Prop:=λx vs H Q=>∃l xs y,x=.ref l/\vs=[y]/\H l=ae (.lst xs)/\xs.length<bo/\Q .non (upd H l (.lst (xs++[y])))
theorem AN:VN X "list.append" MP:=by
  intro pj s σ H x vs v us Q I rx rv h;obtain⟨l,xs,y,rfl,rfl,hH,hz,q⟩:=h;cases rx;obtain⟨u,rfl,ru⟩:=rv.one;obtain⟨z,its,n,r,hl,e⟩:=I.lstM hH;refine ze F.slot_list_append ⟨_,e,rfl⟩ F.entry_list_append (F.args_list_append_2 _ _) (PySem.list_append l its.toArray n u (by rw[cj];ac_rfl)) ⟨e,?_⟩;refine⟨.non,_,I.lset (its':=its++[u]) hH e (by simp) (r.append (.cons ru .nil)) ?_,rfl,q⟩;rw[dh,lr];ac_rfl
def MO:V->List V->Hp->VK->Prop:=λx vs H Q=>∃l b xs zs,x=.ref l/\vs=[.ref b]/\H l=ae (.lst xs)/\H b=ae (.lst zs)/\xs.length+zs.length<=bo/\Q .non (upd H l (.lst (xs++zs)))
theorem HQ:VN X "list.extend" MO:=by
  intro pj s σ H x vs v us Q I rx rv h;obtain⟨l,b,xs,zs,rfl,rfl,hH,hB,hz,q⟩:=h;cases rx;obtain⟨u,rfl,ru⟩:=rv.one;cases ru;obtain⟨z,its,n,r,hl,e⟩:=I.lstM hH;obtain⟨z2,its2,n2,r2,hl2,e2⟩:=I.lstM hB;have hsz:its.toArray.size+its2.toArray.size<=bo:=by rw[cj,cj];ac_rfl
  have hlong:¬(!its.toArray.isEmpty&&qw (its.toArray.size+its2.toArray.size))=ak:=by
    rw[D2 hsz,qz];exact fw
  refine ze F.slot_list_extend ⟨_,e,rfl⟩ F.entry_list_extend (F.args_list_extend_2 _ _)
    (AutoSeq1.list_extend_list_list_0 l its.toArray n b its2.toArray n2 hlong (by rw[cj];ac_rfl) ⋯) ⟨e,e2,?_⟩
  refine⟨.non,_,I.lset (its':=its++its2) hH e (by simp) (r.append r2) ?_,rfl,q⟩;rw[dh];ac_rfl
def UR:V->List V->Hp->VK->Prop:=λx vs H Q=>∃l xs y,x=.ref l/\vs=[]/\H l=ae (.lst xs)/\xs[xs.length-1]?=ae y/\Q y (upd H l (.lst xs.dropLast))
theorem EN:VN X "list.pop" UR:=by
  intro pj s σ H x vs v us Q I rx rv h;obtain⟨l,xs,y,rfl,rfl,hH,hy,q⟩:=h;cases rx;have hus:=rv.zero;subst hus;obtain⟨z,its,n,r,hl,e⟩:=I.lstM hH;obtain⟨u,hu,ru⟩:=r.get hy;have hy':its.toArray[its.toArray.size-1]?=ae u:=by
    show its.toArray[its.length-1]?=ae u;rw[<- lp,<- hl];exact hu
  refine ze F.slot_list_pop ⟨_,e,rfl⟩ F.entry_list_pop (F.args_list_pop_1 _) (MeetsSeq.list_pop_last l its.toArray n u hy' (by rw[cj];ac_rfl)) ⟨e,?_⟩;refine⟨y,_,I.lset (its':=its.dropLast) hH e ?_ r.dropLast ?_,ru,q⟩
  . show its.toArray.eraseIdxIfInBounds (its.toArray.size-1)=its.dropLast.toArray;rw[cj,List.eraseIdxIfInBounds_toArray,Ep]
  . rw[List.length_dropLast];ac_rfl
def UY:R2:=λx y H Q=>∃l b xs zs,x=.ref l/\y=.ref b/\H l=ae (.lst xs)/\H b=ae (.lst zs)/\xs.length+zs.length<=bo /\ ∀p,H p=ao->Q (.ref p) (upd H p (.lst (xs++zs)))
theorem Ps:lQ X (ju .Add) UY:=by
  intro pj s σ H x y v u Q I rx ry h;obtain⟨l,b,xs,zs,rfl,rfl,hH,hB,hz,q⟩:=h;cases rx;cases ry;obtain⟨z,its,n,r,hl,e⟩:=I.lstM hH;obtain⟨z2,its2,n2,r2,hl2,e2⟩:=I.lstM hB;refine PySem.P.add_list e e2 ?_ (by rw[cj,cj];ac_rfl);have ea:its.toArray++its2.toArray=(its++its2).toArray:=by simp
  rw[ea];exact⟨.ref _,_,I.lnew (t':=s.toks) (r.append r2) (by rw[dh];ac_rfl),rfl,q _ I.fresh⟩
def UQ:R2:=λx y H Q=>∃l k xs,x=.ref l/\y=.int k/\H l=ae (.lst xs) /\ -(2 ^ 63)<=k/\k<2 ^ 63/\xs.length*k.toNat<=bo /\
  ∀p,H p=ao->Q (.ref p) (upd H p (.lst (av k.toNat xs).flatten))
theorem NJ(xs:List α)(k:Nat):(av k xs).flatten.length=k*xs.length:=by
  induction k with
  |zero=>simp
  |succ k ih=>rw[kq,vz,dh,ih,Nat.succ_mul,Nat.add_comm]
theorem Pj:lQ X (ju .Mult) UQ:=by
  intro pj s σ H x y v u Q I rx ry h;obtain⟨l,k,xs,rfl,rfl,hH,h1,h2,hz,q⟩:=h;cases rx;obtain⟨t,rfl⟩:=ry;obtain⟨z,its,n,r,hl,e⟩:=I.lstM hH;have hlen:its.toArray.size*k.toNat<=bo:=by rw[cj,<- hl];exact hz
  have hcap:¬its.toArray.size*k.toNat > (2 ^ 63-1) / 8:=by
    have:(bo:Nat)<=(2 ^ 63-1) / 8:=by decide
    ac_rfl
  have hfit:¬(!Builtin.List.listFitsIndex k)=ak:=by
    rw[fitsIndex_both h1 h2];exact fw
  have hlong:¬qw (its.toArray.size*k.toNat)=ak:=by
    rw[D2 hlen];exact fw
  have hnew:Wn (λx1 x2=>x1++x2) #[] (av (if its.toArray.isEmpty=ak then 0 else k.toNat) its.toArray)=(av k.toNat its).flatten.toArray:=by
    have f0:∀m:Nat,Wn (λx1 x2=>x1++x2) #[] (av m its.toArray)=(av m its).flatten.toArray:=λm=>by
      have:=Aa its m [];rw[nj] at this;exact this
    rw[f0];cases its with
    |nil=>simp
    |cons a r'=>rw[a0h (by simp)]
  refine wpAny_binaryOp_repeat_ref (T:="list") (U:="int") ∅ ⟨_,e,rfl⟩ (λs'=>Zn s' k t) noFill_list_mul F.fills_int_mul YX repeat_list F.slot_int_index.lookup
    (ze YX (Zn s k t) F.entry_int_rmul (F.args_int_rmul_2 _ _) (int___rmul___int_list k t l its.toArray n)
      ⟨e,rfl,⟨_,e,rfl⟩,ze F.slot_list_mul ⟨_,e,rfl⟩ F.entry_list_mul (F.args_list_mul_2 _ _) (AutoListH.list___mul___list_int_3 l its.toArray n k t hfit hcap hlong) ⟨e,?_⟩⟩)
  rw[hnew];exact⟨.ref _,_,I.lnew (t':=s.toks) (r.rep k.toNat) (by rw[NJ,ZX];exact hz),rfl,q _ I.fresh⟩
end _L
namespace Att
open PySem PySem.W PySem.Calls PyProof.Rows
variable {P:ZY}
theorem wC:∀(ns:List Int) (vs:List ah),WellAll P h vs (ns.map WData.int)->oz vs ns:=by
  intro ns;induction ns with
  |nil=>
    intro vs w;rw[qe] at w;cases w;exact .nil
  |cons n ns ih=>
    intro vs w;rw[ef] at w;cases w with
    |cons a b=>
      cases a;exact .cons _ _ (ih _ b)
variable {l:OpenLaw}
theorem Gg(hn:l.most=ae n){args:List WData}{vals:List ah}
    (hpre:l.row.toRowW.claim.pre args=ak) (hwl:WellAll P h vals args):
    ∃a vs ns,vals=[Value.ref a]/\args=[WData.list (ns.map WData.int)]/\h.get? a=ae { cls:=.type "list",data:=.seq vs.toArray }/\oz vs ns/\ns.length<=n:=by
  have hsh:WShape.hasAll [] args [.list .int]=ak:=(pre_splitW hpre).1;have hc:l.pre.holds [] { args:=args }=ak:=(pre_splitW hpre).2;obtain⟨d,r,rfl,h1,h2⟩:=hasAllW_cons hsh;obtain rfl:=hasAllW_nil h2;obtain⟨xs,rfl,h3⟩:=hasW_list h1;obtain⟨ns,rfl⟩:=items_int h3;have hlen:ns.length<=n:=by
    unfold OpenLaw.pre at hc;have h4:(WTm.not (.lt (.lit (.int (n:Int))) (.len (.arg 0)))).holds [] { args:=[.list (ns.map .int)] }=ak:=by
      have h4:=(holds_andW hc).1;rw[hn] at h4;exact h4
    have h5:=condW_of h4 (w_not (w_lt w_lit (w_len_list (w_arg rfl))));rw[bf] at h5;refine sk λq=>?_;have q':(n:Int)<((ns.length:Nat):Int):=⋯
    first
      | (rw[decide_eq_true q'] at h5;exact absurd h5 ∅)
      | (simp at h5;ac_rfl)
  cases hwl with
  |cons w1 w2=>
    cases w2;cases w1 with
    |list ho hall=>exact⟨_,_,ns,rfl,rfl,ho,wC ns _ hall,hlen⟩
theorem Gp(l:OpenLaw)(args:List WData):l.row.toRowW.claim.post args (.bool ak) args=ak:=
  postW_of (r:=l.row.toRowW) (X:=(ak==ak))
    (show WShape.has [] (.bool ak) .bool=ak by first | rfl | decide | simp[WShape.has,WShape.arms,WShape.armsAll])
    (show (WTm.eq .res (.lit (.bool ak))).value [] { args:=args,res:=ae (.bool ak),after:=args }=ae (.bool (ak==ak)) from w_eq_bool (w_res rfl) w_lit) rfl
theorem Dg{q:bj}{loose:List bq}{XP:(bq->Option ah)->eh->Prop}{YP:df->eh->Prop}{d:DefRec}
    (hn:l.most=ae n) (hdf:d.params.defaults=[])
    (call:∀(w:df) (s₀ s₁:aj) (mg mb:bq->Option ah) (fa:af) (o:jn) (pm cd doc:ah) (a:af) (vs:List ah) (ns:List Int),
      Ground q loose [] XP w s₀ mg mb s₁.heap->YP w s₁.heap ->
      s₁.heap.get? fa=ae o->o.data=.func (docDef d.name d.params d.body d.scope pm cd doc)->s₁.heap.CodeRec cd d.name->mg d.name=ae (.ref fa) ->
      s₁.heap.get? a=ae { cls:=.type "list",data:=.seq vs.toArray }->oz vs ns->ns.length<=n->s₁.gens = #[] ->
      yh (bn l.prog w) X7 (.call (.ref fa) ⟨[.ref a],[]⟩) (λr s'=>r=.ok (.ret (.bool ak))/\OldK s₁.heap s'.heap/\s'.os=s₁.os/\yg s'.gens) s₁):
    WalkO q loose XP YP l.row.toRowW d [] (λf vs=>PySem.call f vs):=by
  intro w s₀ s₁ mg mb G Y fa o pm cd doc dV kV ho hd hcd hD hmg hg args vals as hpre hlay hrd hwl hlo;obtain rfl:dV=.none:=Dflts.none hD hdf;obtain rfl:kV=.none:=Dflts.noKw hD;obtain⟨a,vs,ns,rfl,rfl,hobj,hints,hlen⟩:=Gg hn hpre hwl;refine enter_call (ut (call w s₀ s₁ mg mb fa o pm cd doc a vs ns G Y ho (fd_plain hd) hcd hmg hobj hints hlen hg) λr s' hq=>?_);obtain⟨rfl,h2,h3,h4⟩:=hq;exact⟨.inl ⟨.bool ak,.bool ak,[],rfl,λ_=>rfl,.bool ak,Gp l _,λ_=>⟨List.Pairwise.nil,λ_ hm=>(nomatch hm)⟩⟩,h2,h3,h4⟩
section
variable {K:Frag}
end
end Att
variable {H' H1:_L.Hp}
namespace _L
theorem A8:∀{vs:List ah} {ns:List Int},oz vs ns->bM (ns.map V.int) vs
  |_,_,.nil=>.nil
  |_,_,.cons n t h=>.cons ⟨t,rfl⟩ (A8 h)
def M4(H:Hp):Prop:=∀b,H b=ao \/ ∃o xs,H b=ae (.frz o (.lst xs))
variable {fd:ko}{sp:Sp}
theorem Kn{mb:bq->Option ah}{CX:IT}{k:Nat}{fa:af}{x:bq}{s₁:aj}{vs:List ah}
    (KX:K.In s₁.heap) (hns:s₁.heap.Ns jt mg) (hb:s₁.heap.Ns Zc mb) (hbb:∀x:bq,x ≠ "__name__" -> mb x=pz x) (hlim:s₁.heap.NoLimit) (hg:s₁.gens = #[])
    (ha:s₁.heap.get? a=ae { cls:=.type "list",data:=.seq vs.toArray }) (hi:oz vs ns) (hl:ns.length<=bo) (hr:Room k X7)
    (F:∀base:eh,K.In base->base.Ns jt mg->FnOk P w K mg base CX k fa fd [x] sp) (hbind:∀(s:aj) (u:ah),X6 s fd ⟨[u],[]⟩ [(x,u)])
    (hsp:∀H:Hp,M4 H->g6 K H a (ns.map V.int)->sp [.ref a] H (λv _=>v=.bl ak) λ_ _ _=>False)
    (hCX:∀H e s',CX [] H s₁ (λ_ _ _=>False) e s'->False):
    yh (bn P w) X7 (.call (.ref fa) ⟨[.ref a],[]⟩) (λr s'=>r=.ok (.ret (.bool ak))/\OldK s₁.heap s'.heap/\s'.os=s₁.os/\yg s'.gens) s₁:=by
  have rv:=A8 hi;have lenV:=hi.length;have core:∀H:Hp,M4 H->g6 K H a (ns.map V.int)->nJ P w H s₁.heap->(∀b,H b≠ao->b=a)->(H a≠ao->K.lookup a=ao) ->
      yh (bn P w) X7 (.call (.ref fa) ⟨[.ref a],[]⟩) (λr s'=>r=.ok (.ret (.bool ak))/\OldK s₁.heap s'.heap/\s'.os=s₁.os/\yg s'.gens) s₁:=by
    intro H hO hS hok hA hK;have base_of:∀{b:af} {o:jn},s₁.heap.get? b=ae o->H b=ao->(BZ s₁.heap H).get? b=ae o:=λe n=>LF e n;have noA:∀{b:af} {o:jn} {es:Array mq} {ep:Nat},s₁.heap.get? b=ae o->o.data=.dict es ep->H b=ao:=λ{b o es ep} e d=>by
      cases q:H b with
      |none=>rfl
      |some u=>
        have e':b=a:=hA b (by rw[q];simp);subst e';rw[ha] at e;cases e;have d':Data.seq vs.toArray _=Data.dict es ep:=d;cases d'
    have nsK:∀{b:af} {m:bq->Option ah},s₁.heap.Ns b m->(BZ s₁.heap H).Ns b m:=λ{b m} ⟨o,es,ep,e,d,r⟩=>⟨o,es,ep,base_of e (noA e d),d,r⟩;have hKb:K.In (BZ s₁.heap H):=λb o e=>base_of (KX b o e) (by
      cases q:H b with
      |none=>rfl
      |some u=>
        have e':b=a:=hA b (by rw[q];simp);subst e';rw[hK (by rw[q];simp)] at e;cases e)
    have hM:Mod K mg (BZ s₁.heap H):=⟨hKb,nsK hns,⟨mb,nsK hb,hbb⟩,let ⟨mc,h1,h2⟩:=hlim;⟨mc,nsK h1,h2⟩⟩;have e0:Env0 P w K mg (BZ s₁.heap H) X7 [] s₁ H:=⟨rfl,hM,λb o e=>N0 e,a0f (Hs _ _),trivial,λb hb=>absurd (show b∈([]:List af) from hb) (by simp),hok,.of_eq hg⟩;refine ut ((F _ hKb (nsK hns)).run X7 [] s₁ H ⟨[.ref a],[]⟩ [.ref a] [.ref a] _ _ hr e0 (hbind s₁ (.ref a)) (.cons rfl .nil) (hsp H hO hS)) λr s' h=>?_;cases r with
    |error e=>exact(hCX H e s' h).elim
    |ok fl=>
      cases fl with
      |next=>exact gy h
      |brk=>exact gy h
      |cont=>exact gy h
      |ret u=>
        obtain⟨v,H',os,bare,un,hok',r',q⟩:=h;have q':v=.bl ak:=q;subst q';obtain rfl:u=kj ak:=r';refine⟨rfl,OldK.of_keep λb o e=>?_,os,bare⟩;cases q:H b with
        |none=>exact un.keep b o e q (by intro z;exact absurd (show b∈([]:List af) from z) (by simp)) (by simp)
        |some u=>
          rcases hO b with z | ⟨ob,xs,z⟩
          . rw[q] at z;cases z
          . have z2:=un.frzs b ob _ z;obtain⟨e1,_⟩:=hok b _ z;obtain⟨e2,_⟩:=hok' b _ z2;rw[e] at e1;cases e1;exact e2
  cases hk:K.lookup a with
  |some o=>
    have e:=KX a o hk;rw[ha] at e;cases e;refine core (λ_=>ao) (λ_=>.inl rfl) (.inr ⟨_,vs.toArray,_,hk,rfl,rfl,rfl,by rw[cj,lenV];exact hl,by simpa using rv⟩) (λb u z=>by have z':(ao:Option HO)=ae u:=z;cases z') (λb z=>absurd rfl z) λz=>absurd rfl z
  |none=>
    refine core (λb=>if b=a then ae (.frz { cls:=.type "list",data:=.seq vs.toArray } (.lst (ns.map V.int))) else ao) (λb=>?_) (.inl (.inr ⟨{ cls:=.type "list",data:=.seq vs.toArray },a0G rfl⟩)) (λb u z=>?_) (λb z=>?_) λ_=>hk
    . by_cases hb:b=a
      . exact .inr ⟨_,_,a0G hb⟩
      . exact .inl (a0h hb)
    . by_cases hb:b=a
      . have z':=(a0G hb).symm.trans z;cases z';subst hb;exact⟨ha,by rw[bf];exact hl,vs,_,rv,ha⟩
      . have z':=(a0h hb).symm.trans z;cases z'
    . by_cases hb:b=a
      . exact hb
      . exact absurd (a0h hb) z
theorem MD{l:W.OpenLaw}{k:Nat}{q:bj}{loose:List bq}{XP:(bq->Option ah)->eh->Prop}{YP:df->eh->Prop}{d:DefRec}{K:ZY->aq}{CX:df->IT}{sp:df->Sp}{x:bq}
    (hn:l.most=ae n) (hn2:n<=bo) (hdf:d.params.defaults=[]) (hr:Room k X7)
    (hY:∀(w:df) (h:eh),YP w h->(K w.params).In h)
    (F:∀(w:df) (mg:bq->Option ah) (fa:af) (h:eh),(K w.params).In h->h.Ns jt mg->mg d.name=ae (.ref fa) ->
      ∃fd:ko,(∀(s:aj) (u:ah),X6 s fd ⟨[u],[]⟩ [(x,u)]) /\
        ∀base:eh,(K w.params).In base->base.Ns jt mg->FnOk l.prog w (K w.params) mg base (CX w) k fa fd [x] (sp w))
    (hsp:∀(w:df) (H:Hp) (a:af) (ns:List Int),ns.length<=n->M4 H->g6 (K w.params) H a (ns.map V.int)->sp w [.ref a] H (λv _=>v=.bl ak) λ_ _ _=>False)
    (hCX:∀(w:df) (H:Hp) (s:aj) (e:ah) (s':aj),CX w [] H s (λ_ _ _=>False) e s'->False):
    W.WalkO q loose XP YP l.row.toRowW d [] (λf vs=>PySem.call f vs):=by
  refine Att.Dg hn hdf λw s₀ s₁ mg mb fa o pm cd doc a vs ns G Y ho hd hcd hmg hobj hints hlen hg=>?_;have KX:=hY w _ Y;obtain⟨fd,hb,hF⟩:=F w mg fa _ KX G.T.g hmg;exact Kn KX G.T.g G.T.b G.T.builtins G.T.nolimit hg hobj hints (mh hlen hn2) hr hF hb (λH hO hS=>hsp w H a ns hlen hO hS) λH e s'=>hCX w H s₁ e s'
abbrev CF:IT:=λ_ _ _ _ _ _=>False
abbrev E0:XK:=λ_ _ _=>False
theorem Cb:sV CF X E0:=λ_ _ _ _ _ _ _ h=>h.elim
structure Fun(K:aq)(x qual:bq)(st:kg)(f:af)(fd:ko):Prop where
  ex:∃(oc:ah) (od:Option af) (kV doc pm:ah) (an:Option af) (cdv ct:ah) (osl:Array (Option ah)),
    fd=xy x qual (kH st) (eK st) (aM st) .none kV doc pm an cdv ct/\K.lookup f=ae ⟨oc,od,.func fd,osl⟩/\W4 K cdv qual=ak
  kp:qc K (.ref f)=ak
variable {st:kg}
theorem Fun.ok{x:bq}{k:Nat}(F:Fun K x a0I st f fd)(S:FnScope N ps (aM st))(len:∀vs H Q E,sp vs H Q E->vs.length=ps.length)
    (a0W:∀(cdv:ah) (A:cb) (outer:List zw) (s:aj) (H:Hp) (vs:List V) (Q:VK) (E:XK),Room k (A.deeper (tw a0I (aM st) s.heap.objs.size f cdv))->sp vs H Q E ->
      ∃t,wF (i6 CF P w K mg base N a0I (aM st) f cdv A outer s H E).nox (eK st) t/\t { nx:=λ_ H'=>Q .non H',rt:=Q } (start N vs) H):FnOk P w K mg base CF (k+1) f fd ps sp:=by
  obtain⟨oc,od,kV,doc,pm,an,cdv,ct,osl,rfl,lk,hcd⟩:=F.ex;refine OR lk hcd S len λA outer s H vs Q E hr hsp=>?_;obtain⟨t,h,q⟩:=a0W cdv A outer s H vs Q E hr hsp;exact⟨t,h.nox,q⟩
theorem Fun.binds{x:bq}(F:Fun K x a0I st f fd)
    (h:∀(kV doc pm:ah) (an:Option af) (cdv ct:ah) (us:List ah),us.length=ps.length->a0g (xy x a0I (kH st) (eK st) (aM st) .none kV doc pm an cdv ct) ⟨us,[]⟩=jh (ps.zip us)):j4 K fd ps []:=by
  obtain⟨oc,od,kV,doc,pm,an,cdv,ct,osl,rfl,lk,hcd⟩:=F.ex;exact .all (h kV doc pm an cdv ct)
theorem Bd{x:bq}{oc:ah}{od an:Option af}{osl:Array (Option ah)}{kV doc pm cdv ct:ah}(l:K.lookup f=ae ⟨oc,od,.func (xy x a0I (kH st) (eK st) (aM st) .none kV doc pm an cdv ct),osl⟩)
    (c:W4 K cdv a0I=ak) (k:qc K (.ref f)=ak):Fun K x a0I st f (xy x a0I (kH st) (eK st) (aM st) .none kV doc pm an cdv ct):=⟨⟨oc,od,kV,doc,pm,an,cdv,ct,osl,rfl,l,c⟩,k⟩
theorem fN{k:Nat}(hr:Room k A):A.units+1<gv:=XA (Nat.add_le_add_left (by decide:1<=64) _) hr.units
theorem Ge(h:n<=1000):n<bo:=XA h ∅
theorem pv(i:Nat){x:bq}(hN:autoParam (X.N[i]?=ae x) cA._auto_1)(hv:TB X.env.scope x:=by repeat first | exact rfl | exact .inl rfl | apply Or.inr)(hd:autoParam ((x==("__debug__":bq))=am) mJ._auto_1)
    (hcd:autoParam ((x==("__classdict__":bq))=am) mJ._auto_1):PE X (.Name x pos) (vX i):=PP hN hv hd hcd
variable {B:Prop}
theorem pV{A:Prop}(h:B):if am=ak then A else B:=by
  rw[a0h fw];exact h
theorem qX{A:Prop}(h:A):if ak=ak then A else B:=by
  rw[a0G rfl];exact h
theorem gQ{c A:Prop}[Decidable c](h1:c->A)(h2:¬c->B):if c then A else B:=by
  by_cases h:c
  . rw[a0G h];exact h1 h
  . rw[a0h h];exact h2 h
def aT(H H':Hp):Prop:=∀b o,H b=ae o->H' b=ae o
theorem aT.refl(H:Hp):aT H H:=λ_ _ h=>h
theorem aT.trans{H2:Hp}(a:aT H H1)(b:aT H1 H2):aT H H2:=λc o h=>b c o (a c o h)
theorem aT.free(e:aT H H'){l:af}(h:H' l=ao):H l=ao:=by
  cases q:H l with
  |none=>rfl
  |some o=>
    rw[e l o q] at h;cases h
end _L
set_option maxHeartbeats 4000000
variable {ifs:List Expr}{js:List Nat}{kvs:List (List _L.cB×_L.V)}{ks:List Int}{a0P:lj}
namespace _L
def Tg(i j:Int):Prop:=0<j/\j<2 ^ 200
theorem KB:lQ X (ju .FloorDiv) (rI Tg λi j=>.int (i / j)):=Tq λi j _ _ _ _ _ hc q=>by
  have p1:(0:Int)<j:=hc.1;have p2:j<2 ^ 200:=hc.2;have p3:j.natAbs<2 ^ 200:=⋯;have p4:j.natAbs.log2<200:=(a0i ⋯).mpr p3;refine floordiv_int ⋯ ?_ (.inl (PyProof.noPylong_of_log2 ⋯));rw[Int.fdiv_eq_ediv_of_nonneg i ⋯];exact q
theorem JZ{x:bq}{n:Int}(hm:∃t,X.mg x=ae (.int n t))(hg:autoParam (Gl X x) cA._auto_1)(hd:autoParam ((x==("__debug__":bq))=am) mJ._auto_1):PE X (.Name x pos) (tC (.int n)):=by
  obtain⟨t,h⟩:=hm;exact FV hg h ⟨t,rfl⟩ hd
variable {t':Nat}{fp:List af}{ob:HO}{h':eh}
theorem Inv.turnedL(I:Inv X pj σ H s)(hf:∀b∈fp,zC X pj H b)(k:∀b o,b ∉ fp->s.heap.get? b=ae o->h'.get? b=ae o):Inv X pj σ H { s with heap:=h',toks:=t' }:=by
  have nf:∀b u,H b=ae u->b ∉ fp:=λb u e z=>by have:=(hf b z).1;rw[e] at this;cases this
  refine I.step (g':=s.gens) (d':=s.drawn) (ch:=fp) (λb hb=>?_) (λb o _ _ hc e _=>k b o hc e) (λb o _ _ hc e _=>⟨o.slots,k b o hc e⟩) (λ_ _ _ _ n=>n) (λb o hc e=>⟨o,k b o hc e⟩) (λ_ _ e=>e) (λ_ _ _ e=>e)
    (λb ps e=>⟨#[],by rw[e];simp⟩) (λm hm=>?_) (λb u e=>?_) I.bare
  . obtain⟨_,f1,_,f3,f4,f5⟩:=hf b hb;exact⟨f3,f1,f4,f5⟩
  . obtain⟨o,es,ep,ho,r⟩:=hm;exact⟨o,es,ep,k _ o (λz=>(hf _ z).2.1 rfl) ho,r⟩
  . refine(I.hok b u e).stay (λc v hc q=>k c v ?_ q) (λ_ q=>q) (λ_ _ q=>q) λ_ _ q=>q;rcases hc with z | z
    . rw[z];exact nf b u e
    . exact nf c _ z
theorem Inv.turnedN{T:af}(I:Inv X pj σ H s)(hf:∀b∈fp,zC X pj H b)(k:∀b o,b ∉ fp->s.heap.get? b=ae o->h'.get? b=ae o)(hT:s.heap.objs.size<=T)
    (new:cR X.prog X.w (upd H T ob) h' T ob):Inv X pj σ (upd H T ob) { s with heap:=h',toks:=t' }:=by
  have hn:H T=ao:=I.hok.fresh hT;have nf:∀b u,H b=ae u->b ∉ fp:=λb u e z=>by have:=(hf b z).1;rw[e] at this;cases this
  have nT:∀b o,s.heap.get? b=ae o->b≠T:=λb o e=>gp (fc (bh e) hT);refine I.step (g':=s.gens) (d':=s.drawn) (ch:=fp) (λb hb=>?_) (λb o _ _ hc e _=>k b o hc e) (λb o _ _ hc e _=>⟨o.slots,k b o hc e⟩) (λb o _ e n=>by rw[b5 (nT b o e)];exact n) (λb o hc e=>⟨o,k b o hc e⟩)
    (λb xs e=>by rw[b5 (bG e hn)];exact e) (λb _ _ e=>by rw[b5 (bG e hn)];exact e)
    (λb ps e=>⟨#[],by rw[b5 (bG e hn),e];simp⟩) (λm hm=>?_) (λb u e=>?_) I.bare
  . obtain⟨_,f1,_,f3,f4,f5⟩:=hf b hb;exact⟨f3,f1,f4,f5⟩
  . obtain⟨o,es,ep,ho,r⟩:=hm;exact⟨o,es,ep,k _ o (λz=>(hf _ z).2.1 rfl) ho,r⟩
  . by_cases hb:b=T
    . subst hb;rw[bP] at e;cases e;exact new
    . rw[b5 hb] at e;refine(I.hok b u e).stay (λc v hc q=>k c v ?_ q) (λc q=>by rw[b5 (bG q hn)];exact q) (λc xs q=>by rw[b5 (bG q hn)];exact q) λc xs q=>by rw[b5 (bG q hn)];exact q
      rcases hc with z | z
      . rw[z];exact nf b u e
      . exact nf c _ z
noncomputable def Tz(K:aq)(a:af):It:=
  ⟨λi H=>∃xs x,g6 K H a xs/\xs[i]?=ae x,λi H v H'=>∃T x,H T=ao/\v=.ref T/\H'=upd H T (.tup [.int i,x]) /\ ∀xs,g6 K H a xs->xs[i]?=ae x,λi H=>∃xs,g6 K H a xs/\xs.length<=i⟩
variable {elts:List Expr}{x1:Nat}
theorem Ga(a e it:af)(hne:e≠it):
    Turn P w K (.Tuple elts x1 pos) (Tz K a) [e,it] e (λi h=>(∃old,IsEnum h e it (i:Nat) old)/\h.IsListIter it a i) where
  mem:=by simp
  obj:=λi h st b hb=>by
    obtain⟨⟨old,he⟩,o,ho,c,d⟩:=st;rcases bv.mp hb with rfl | hb
    . exact⟨_,he,λv z=>by cases z⟩
    . rw[cq.mp hb];exact⟨o,ho,λv z=>by rw[d] at z;cases z⟩
  keep:=λi h h' st k=>⟨let ⟨old,he⟩:=st.1;⟨old,k e (by simp) _ he⟩,st.2.at λo q=>k it (by simp) o q⟩
  item:=by
    intro X hP hw hK hc i pj s σ H E I hf st hg;subst hP hw hK;obtain⟨xs,x,hq,hx⟩:=hg;obtain⟨its,rv,p,hz⟩:=I.list hq;obtain⟨u,hu,ru⟩:=rv.get hx;obtain⟨⟨old,he⟩,hit⟩:=st;refine wpAny_pyNext_enum_item he hit p.isList (x:=u) (by simpa using hu) hne λh1 heo hit1 ht hsz hk=>⟨_,rfl,?_⟩;refine wpAny_letOwnedTupleGo_enum heo λh2 he2 hs2=>?_;have heL:e<s.heap.objs.size:=bh he;have hn:H s.heap.objs.size=ao:=I.hok.fresh (cg _);have k2:∀b o,b ∉ [e,it]->s.heap.get? b=ae o->h2.get? b=ae o:=λb o hb q=>by
      have b1:b≠e:=λz=>hb (by simp[z]);have b2:b≠it:=λz=>hb (by simp[z]);exact(hs2.2 b b1).trans (hk b o b1 b2 q)
    have tt:h2.get? s.heap.objs.size=ae { cls:=.type "tuple",data:=.seq #[.int i s.toks,u] }:=(hs2.2 _ (XQ heL)).trans ht;refine⟨.ref s.heap.objs.size,_,I.turnedN (ob:=.tup [.int i,x]) (T:=s.heap.objs.size) (t':=s.toks+1) hf k2 (cg _) ?_,rfl,⟨_,x,hn,rfl,rfl,λys hy=>by rw[I.list_inj hy hq];exact hx⟩,⟨⟨u,?_⟩,hit1.extBut hs2.extBut (Ne.symm hne)⟩,λb hb=>?_⟩
    . exact⟨(by decide:2<=bo),[.int i s.toks,u],.cons ⟨_,rfl⟩ (.cons ru .nil),_,tt,rfl,_,rfl⟩
    . have:((i+1:Nat):Int)=(i:Int)+1:=⋯;rw[this];exact he2
    . have hb1:=(hf b hb).1;rw[b5 ?_]
      . exact hb1
      . rintro rfl;obtain⟨o,ho,_⟩:=id hit;rcases bv.mp hb with z | z
        . exact absurd heL (by rw[<- z];exact sw _)
        . have:=bh ho;rw[<- cq.mp z] at this;exact sw _ this
  done:=by
    intro X hP hw hK hc i pj s σ H E I hf st hg;subst hP hw hK;obtain⟨xs,hq,hx⟩:=hg;obtain⟨its,rv,p,hz⟩:=I.list hq;obtain⟨⟨old,he⟩,hit⟩:=st;have hl:=rv.length;exact LY I.qu he hit p.isList ⋯ λh1 eb=>⟨rfl,I.turnedL (t':=s.toks) hf λb o hb q=>eb b o (λz=>hb (by simp[z])) q⟩
  self:=λ_ _ _ _ _ st h=>by
    obtain⟨⟨old,he⟩,_⟩:=st;exact Y8 he h
variable {tp:lj}{ta:TA}
def SW(K:aq)(ta:TA):TI:=λσ H R=>ta σ H λvs H1=>∃a,vs=[.ref a]/\(∃xs,g6 K H1 a xs)/\R (Tz K a) H1
theorem Mi{a:Expr}(hg:Gl X "enumerate")(hm:X.mg "enumerate"=ao)(ha:PA X [a] ta)(hs:autoParam (ay [a] X.env=[(am,gw a X.env)]) cA._auto_1):
    PI X (.Tuple elts x1 tp) (.Call (.Name "enumerate" p) [a] [] pos) (SW X.K ta):=by
  intro pj s σ H R I h;refine Call_ (sE I hg hm boot_enumerate (kf (thn (ha pos pj s σ H _ I h) λus s1 ⟨vs,H1,I1,r1,q1⟩=>?_) hs rfl));obtain⟨l,e,⟨xs,hq⟩,q⟩:=q1;subst e;obtain⟨u,rfl,ru⟩:=mK r1;cases ru;obtain⟨its,rv,pl,hz⟩:=I1.list hq;refine call_enumerate_list pl.isList λh1 he hit hsz hk=>Y8 he ?_;have I2:Inv X pj σ H1 { s1 with heap:=h1 }:=I1.kept (t':=s1.toks) hk;refine⟨s1.heap.objs.size+1,[s1.heap.objs.size+1,s1.heap.objs.size],_,_,H1,rfl,I2,Ga l _ _ (Nat.succ_ne_self _),⟨⟨_,he⟩,hit⟩,λb hb=>?_,q⟩;refine I1.fpOk ?_ (I1.hok.fresh ?_)
  all_goals
    rcases bv.mp hb with z | z
    . rw[z];exact vd _
    . rw[cq.mp z];exact cg _
noncomputable def VR(a b:af):It:=
  ⟨λi H=>∃xs ys x y,H a=ae (.lst xs)/\H b=ae (.lst ys)/\xs[i]?=ae x/\ys[i]?=ae y,
   λi H v H'=>∃T x y,H T=ao/\v=.ref T/\H'=upd H T (.tup [x,y])/\(∀xs,H a=ae (.lst xs)->xs[i]?=ae x) /\ ∀ys,H b=ae (.lst ys)->ys[i]?=ae y,
   λi H=>∃xs ys,H a=ae (.lst xs)/\H b=ae (.lst ys)/\(xs.length<=i \/ ys.length<=i)⟩
structure ZApart(z TI TO i1 i2:af):Prop where
  a:TI≠z
  b:TO≠z
  c:i1≠z
  d:i2≠z
  e:TI≠TO
  f:TI≠i1
  g:TI≠i2
  h:TO≠i1
  i:TO≠i2
  j:i1≠i2
theorem Ic(a b z TI TO i1 i2:af)(_Z:ZApart z TI TO i1 i2):
    Turn P w K (.Tuple elts x1 pos) (VR a b) [z,TI,TO,i1,i2] z (λi h=>a0A h z TI TO .none/\Zb h TI (.ref i1) (.ref i2)/\(∃p q,Zb h TO p q)/\h.IsListIter i1 a i/\h.IsListIter i2 b i) where
  mem:=by simp
  obj:=λi h st c hc=>by
    obtain⟨hz,hI,⟨p,q,hO⟩,⟨o1,h1,_,d1⟩,⟨o2,h2,_,d2⟩⟩:=st;simp only[bv,gg,or_false] at hc;rcases hc with rfl | rfl | rfl | rfl | rfl
    . exact⟨_,hz,λv y=>by cases y⟩
    . exact⟨_,hI,λv y=>by cases y⟩
    . exact⟨_,hO,λv y=>by cases y⟩
    . exact⟨_,h1,λv y=>by rw[d1] at y;cases y⟩
    . exact⟨_,h2,λv y=>by rw[d2] at y;cases y⟩
  keep:=λi h h' st k=>by
    obtain⟨hz,hI,⟨p,q,hO⟩,h1,h2⟩:=st;exact⟨k z (by simp) _ hz,k TI (by simp) _ hI,⟨p,q,k TO (by simp) _ hO⟩,h1.at λo y=>k i1 (by simp) o y,h2.at λo y=>k i2 (by simp) o y⟩
  item:=by
    intro X hP hw hK hc i pj s σ H E I hf st hg;subst hP hw hK;obtain⟨xs,ys,x,y,ha,hb,hx,hy⟩:=hg;obtain⟨its,rv,pl,hz1⟩:=I.list (g6.of ha);obtain⟨its2,rv2,pl2,hz2⟩:=I.list (g6.of hb);obtain⟨u,hu,ru⟩:=rv.get hx;obtain⟨u2,hu2,ru2⟩:=rv2.get hy;obtain⟨hz,hI,⟨p,q,hO⟩,h1,h2⟩:=st;have na:∀c∈[z,TI,TO,i1,i2],a≠c:=λc hc=>bG ha (hf c hc).1;have nb:∀c∈[z,TI,TO,i1,i2],b≠c:=λc hc=>bG hb (hf c hc).1;have D:a0b z TI TO i1 i2 a b:=⟨_Z.a,_Z.b,_Z.c,_Z.d,_Z.e,_Z.f,_Z.g,_Z.h,_Z.i,_Z.j,na z (by simp),na TO (by simp),na i1 (by simp),na i2 (by simp),nb z (by simp),nb TO (by simp),nb i1 (by simp),nb i2 (by simp)⟩;refine wpAny_pyNext_zip_item D hz hI hO h1 h2 pl.isList pl2.isList (x:=u) (y:=u2) (by simpa using hu) (by simpa using hu2) λg a1 a2 a3 a4 a5 a6 hk=>⟨_,rfl,?_⟩;refine wpAny_letOwnedTupleGo_zip a1 λg2 hz2 hs2=>?_;have hn:H s.heap.objs.size=ao:=I.hok.fresh (cg _);have zL:z<s.heap.objs.size:=bh hz;have lt:∀{c:af} {o:jn},s.heap.get? c=ae o->c≠s.heap.objs.size:=λe=>gp (bh e);have k2:∀c o,c ∉ [z,TI,TO,i1,i2]->s.heap.get? c=ae o->g2.get? c=ae o:=λc o hc e=>by
      simp only[bv,gg,or_false,not_or] at hc;exact(hs2.2 c hc.1).trans (hk c o hc.1 hc.2.2.1 hc.2.2.2.1 hc.2.2.2.2 e)
    have tt:g2.get? s.heap.objs.size=ae { cls:=.type "tuple",data:=.seq #[u,u2] }:=(hs2.2 _ (XQ zL)).trans a5;refine⟨.ref s.heap.objs.size,_,I.turnedN (ob:=.tup [x,y]) (T:=s.heap.objs.size) (t':=s.toks) hf k2 (cg _) ?_,rfl,
      ⟨_,x,y,hn,rfl,rfl,λzs hzs=>by rw[ha] at hzs;cases hzs;exact hx,λzs hzs=>by rw[hb] at hzs;cases hzs;exact hy⟩,
      ⟨hz2,hs2.extBut _ _ _Z.a (hk _ _ _Z.a _Z.e _Z.f _Z.g hI),⟨_,_,hs2.extBut _ _ _Z.b a2⟩,a3.extBut hs2.extBut _Z.c,a4.extBut hs2.extBut _Z.d⟩,λc hc=>?_⟩
    . exact⟨(by decide:2<=bo),[u,u2],.cons ru (.cons ru2 .nil),_,tt,rfl,_,rfl⟩
    . have hc1:=(hf c hc).1;have:c≠s.heap.objs.size:=by
        simp only[bv,gg,or_false] at hc;rcases hc with rfl | rfl | rfl | rfl | rfl
        . exact lt hz
        . exact lt hI
        . exact lt hO
        . obtain⟨o,e,_⟩:=h1;exact lt e
        . obtain⟨o,e,_⟩:=h2;exact lt e
      rw[b5 this];exact hc1
  done:=by
    intro X hP hw hK hc i pj s σ H E I hf st hg;subst hP hw hK;obtain⟨xs,ys,ha,hb,hor⟩:=hg;obtain⟨its,rv,pl,hz1⟩:=I.list (g6.of ha);obtain⟨its2,rv2,pl2,hz2⟩:=I.list (g6.of hb);obtain⟨hz,hI,⟨p,q,hO⟩,h1,h2⟩:=st;have na:∀c∈[z,TI,TO,i1,i2],a≠c:=λc hc=>bG ha (hf c hc).1;have nb:∀c∈[z,TI,TO,i1,i2],b≠c:=λc hc=>bG hb (hf c hc).1;have D:a0b z TI TO i1 i2 a b:=⟨_Z.a,_Z.b,_Z.c,_Z.d,_Z.e,_Z.f,_Z.g,_Z.h,_Z.i,_Z.j,na z (by simp),na TO (by simp),na i1 (by simp),na i2 (by simp),nb z (by simp),nb TO (by simp),nb i1 (by simp),nb i2 (by simp)⟩;have l1:=rv.length;have l2:=rv2.length;refine Ni I.qu D hz hI hO h1 h2 pl.isList pl2.isList ?_ λg hk=>⟨rfl,I.turnedL (t':=s.toks) hf λc o hc e=>?_⟩
    . rcases hor with h | h
      . exact .inl ⋯
      . exact .inr ⋯
    . simp only[bv,gg,or_false,not_or] at hc;exact hk c o hc.1 hc.2.2.1 hc.2.2.2.1 hc.2.2.2.2 e
  self:=λ_ _ _ _ _ st h=>Yv st.1 h
theorem zapart(n:Nat):ZApart (n+4) (n+2) (n+3) n (n+1):=
  ⟨λe=>by have e':(n+2:Nat)=n+4:=e;ac_rfl,λe=>by have e':(n+3:Nat)=n+4:=e;ac_rfl,λe=>by have e':(n:Nat)=n+4:=e;ac_rfl,λe=>by have e':(n+1:Nat)=n+4:=e;ac_rfl,
   λe=>by have e':(n+2:Nat)=n+3:=e;ac_rfl,λe=>by have e':(n+2:Nat)=n:=e;ac_rfl,λe=>by have e':(n+2:Nat)=n+1:=e;ac_rfl,λe=>by have e':(n+3:Nat)=n:=e;ac_rfl,
   λe=>by have e':(n+3:Nat)=n+1:=e;ac_rfl,λe=>by have e':(n:Nat)=n+1:=e;ac_rfl⟩
def Ur(ta:TA):TI:=λσ H R=>ta σ H λvs H1=>∃a b,vs=[.ref a,.ref b]/\(∃xs,H1 a=ae (.lst xs))/\(∃ys,H1 b=ae (.lst ys))/\R (VR a b) H1
theorem PL{a b:Expr}(hg:Gl X "zip")(hm:X.mg "zip"=ao)(ha:PA X [a,b] ta)
    (hs:autoParam (ay [a,b] X.env=[(am,gw a X.env),(am,gw b X.env)]) cA._auto_1) (hs2:autoParam (ay [b] X.env=[(am,gw b X.env)]) cA._auto_1):
    PI X (.Tuple elts x1 tp) (.Call (.Name "zip" p) [a,b] [] pos) (Ur ta):=by
  intro pj s σ H R I h;refine Call_ (sE I hg hm boot_zip (kf (thn (ha pos pj s σ H _ I h) λus s1 ⟨vs,H1,I1,r1,q1⟩=>?_) (by rw[hs,hs2]) (by rw[hs2];rfl)));obtain⟨l,l2,e,⟨xs,hl⟩,⟨ys,hl2⟩,q⟩:=q1;subst e;obtain⟨u,u2,rfl,ru,ru2⟩:=FC r1;cases ru;cases ru2;obtain⟨its,rv,pl,hz⟩:=I1.list (g6.of hl);obtain⟨its2,rv2,pl2,hz2⟩:=I1.list (g6.of hl2);refine call_zip_2 pl.isList pl2.isList λh1 hz hI hO i1 i2 hsz hk=>Yv hz ?_;have I2:Inv X pj σ H1 { s1 with heap:=h1 }:=I1.kept (t':=s1.toks) hk;refine⟨s1.heap.objs.size+4,[s1.heap.objs.size+4,s1.heap.objs.size+2,s1.heap.objs.size+3,s1.heap.objs.size,s1.heap.objs.size+1],_,_,H1,rfl,I2,
    Ic l l2 _ _ _ _ _ (zapart s1.heap.objs.size),⟨hz,hI,⟨_,_,hO⟩,i1,i2⟩,λb hb=>?_,q⟩
  have hle:s1.heap.objs.size<=b:=by
    simp only[bv,gg,or_false] at hb;rcases hb with rfl | rfl | rfl | rfl | rfl
    . exact Wp _ _
    . exact Wp _ _
    . exact Wp _ _
    . exact cg _
    . exact Wp _ _
  exact I1.fpOk hle (I1.hok.fresh hle)
def UU(K:aq):List V->Hp->VK->Prop:=λxs H Q=>∃x T t b,xs=[x,.ty T]/\TyOf K H x t/\gr K t (.type T)=ae b/\Q (.bl b) H
theorem Lq:gI X (.builtin "isinstance") (UU X.K):=by
  intro pj s σ H xs us Q I r h;obtain⟨x,T,t,b,rfl,ty,k,q⟩:=h;obtain⟨u,u2,rfl,ru,ru2⟩:=FC r;cases ru2;exact Hq I ru ty k λtk=>⟨.bl b,H,I.tok tk,rfl,q⟩
theorem xC:∀{bs:List Bool} {us:List ah},bM (bs.map V.bl) us->LSm.BoolsAre us bs
  | [],_,.nil=>.nil
  |_::_,_,.cons r t=>by cases r;exact .cons _ (xC t)
theorem xB:∀{ns:List Int} {us:List ah},bM (ns.map V.int) us->oz us ns
  | [],_,.nil=>.nil
  |_::_,_,.cons r t=>by obtain⟨t',rfl⟩:=r;exact .cons _ _ (xB t)
def UZ(K:aq):List V->Hp->VK->Prop:=λxs H Q=>∃(a:af) (bs:List Bool),xs=[.ref a]/\g6 K H a (bs.map V.bl)/\Q (.bl (bs.all id)) H
theorem IK(hc:X.calm=ak):gI X (.builtin "all") (UZ X.K):=by
  intro pj s σ H xs us Q I r h;obtain⟨a,bs,rfl,hq,q⟩:=h;obtain⟨u,rfl,ru⟩:=mK r;cases ru;obtain⟨its,rv,pl,hz⟩:=I.list hq;have ba:=xC rv;have lt:a<s.heap.objs.size:=by obtain⟨_,e,_⟩:=pl.isList;exact bh e
  refine call_all_walk (Y9 pl.isList ⟨s.heap.objs.size,[s.heap.objs.size,a],[s.heap.objs.size],its.toArray.size,_,_,λi=>(bs[i]?).getD ak,rfl,
    Walks.list (A:=X.A.in1) (I.ok.hd hc) _ a (gp lt) its.toArray,⟨⟨_,cm _ rfl,rfl,rfl⟩,pl.isList.push _⟩,λi v s' Q' E' hP hQ=>?_,λh' tk hk=>?_⟩)
  . obtain⟨b,e,rfl⟩:=ba.get i v (by simpa using hP);have hQ':Q' ((bs[i]?).getD ak) s':=hQ;rw[e] at hQ';exact gx hQ'
  . have e:((iw its.toArray.size).all λi=>(bs[i]?).getD ak)=bs.all id:=by
      have:=LSm.range_all bs;rw[<- ba.length] at this;simpa using this
    rw[e];exact⟨.bl _,H,I.kept (LSm.kept_iter hk),rfl,q⟩
def UN(K:aq):List V->Hp->VK->Prop:=λxs H Q=>∃(a:af) (ns:List Int),xs=[.ref a]/\g6 K H a (ns.map V.int)/\Q (.int ns.sum) H
theorem IG(hc:X.N=X.N):gI X (.builtin "sum") (UN X.K):=by
  intro pj s σ H xs us Q I r h;obtain⟨a,ns,rfl,hq,q⟩:=h;obtain⟨u,rfl,ru⟩:=mK r;cases ru;obtain⟨its,rv,pl,hz⟩:=I.list hq;have ia:=xB rv;obtain⟨ys,hy⟩:=ia.allInts.items;have e1:=nums_intItems ys;rw[<- hy,show numsOf its.toArray.toList=ns from ia.numsOf] at e1;refine RH I.qu (hy ▸ pl.isList) λh' tk t' hk=>⟨.int ns.sum,H,I.kept hk,⟨t',?_⟩,q⟩;rw[preSum_eq,e1,sr (by simp)]
noncomputable def pick(js:List Nat)(σ:St):St:=js.map λj=>(σ[j]?).join
noncomputable def qO(X:Cx)(a0H:Scope)(cl:List (bq×af))(fp:List af)(N:List bq)(s:aj)(H:Hp):Cx where
  prog:=X.prog
  w:=X.w
  K:=X.K
  mg:=X.mg
  base:=X.base
  A:=X.A
  N:=N
  s₀:=s
  HZ:=H
  env:=compEnvC a0H cl s.heap.objs.size X.env
  outer:=X.stack
  stack:=X.stack
  ex:=fp
  fn:=λ_=>am
  calm:=X.calm
  pn:=[]
  xe:=λ_ _=>False
  hs:=X.hs
def Qt(X:Cx)(ifs:List Expr)(t:TT):Prop:=
  ∀(pj:List (af×jn)) (s:aj) (σ:St) (H:Hp) (Q:Bool->Hp->Prop),Inv X pj σ H s->t σ H Q ->
    bg (bn X.prog X.w) X.A (YQ ifs ak λc r=>if r=ak then do let ok <- isTrue c X.env (gw c X.env);jh (nk ok) else jh (nk r)) (TP X pj σ Q) X.xe s
theorem MZ:Qt X [] (λ_ H Q=>Q ak H):=λpj s σ H Q I h=>wpAny_tests_nil ⟨H,I,h⟩
theorem MY{c:Expr}{t:TT}(h:PT X c t):Qt X [c] t:=λpj s σ H Q I q=>wpAny_tests_one (h pj s σ H Q I q)
def Au(wi:TI)(k:Nat)(js:List Nat)(g:TG)(tt:TT)(te:TE):TE:=λσ H Q=>wi σ H λJ H1=>∀D,H1 D=ao -> ∃W:Nat->Nat->List V->Hp->Prop,(∃m,W 0 m [] (upd H1 D (.lst []))) /\ ∀i m acc H2,W i m acc H2->H2 D=ae (.lst acc) ->
  (J.stop i H2/\Q (.ref D) H2) \/ (J.go i H2 /\ ∀y H3,J.yld i H2 y H3 -> ∀old:St,old.length=k->g y (old++pick js σ) H3 λσ4 H4=>(∃new:St,new.length=k/\σ4=new++pick js σ)/\tt σ4 H4 λb H5=>
    if b=ak then te σ4 H5 λv H6=>H6 D=ae (.lst acc)/\acc.length<bo /\ ∃m',m'<m/\W (i+1) m' (acc++[v]) (upd H6 D (.lst (acc++[v])))
    else H5 D=ae (.lst acc) /\ ∃m',m'<m/\W (i+1) m' acc H5)
variable {elt tgt a0L:Expr}
theorem zV{R:a0u->aj->Prop}{it acc:ah}{env:zw}(J:Nat->aj->Prop)
    (turn:∀n s,J n s->bg (bn prog w) A (ui it) (λr s1=>match r with
      |none=>R (.ok .next) s1
      |some v=>bg (bn prog w) A (xx tgt it v) (λ_ s2=>bg (bn prog w) A (Zf tgt env v) (λ_ s3=>
          bg (bn prog w) A (YQ ifs ak λc r=>if r=ak then do let ok <- isTrue c env (gw c env);jh (nk ok) else jh (nk r)) (λb s3'=>
          if b=ak then bg (bn prog w) A (gw elt env) (λy s4=>bg (bn prog w) A (call (.builtin "list.append") [acc,y]) (λ_ s5=>∃m,m<n/\J m s5) (λ_ _=>False) s4) (λ_ _=>False) s3'
          else ∃m,m<n/\J m s3') (λ_ _=>False) s3) (λ_ _=>False) s2) (λ_ _=>False) s1) (λ_ _=>False) s)
    (n:Nat) (h:J n s):yh (bn prog w) A (.compLoop (.ListComp elt [⟨tgt,a0L,ifs,0⟩] a0H pos) 0 it acc env) R s:=by
  refine codeAny_loop rfl J (λn' s' hJ=>?_) n h;show bg _ _ ((compTurn (.ListComp elt [⟨tgt,a0L,ifs,0⟩] a0H pos) 0 it acc env).onRaise (λz=>do Vy z env;theTreesLotGoes z)) _ _ s';refine wpAny_noted ?_;rw[compTurn_list];have nope:∀{α:Type} {t:YJ α} {Q:α->aj->Prop} {E:ah->aj->Prop} {q:aj},bg (bn prog w) A t Q (λ_ _=>False) q->bg (bn prog w) A t Q E q:=λh=>ix h (λ_ _ z=>z) λ_ _ z=>z.elim;refine aa (Xm (aa (ix (nope (turn n' s' hJ)) (λr s1 h1=>?_) λ_ _ z=>z)));cases r with
  |none=>exact ai h1
  |some v=>
    refine aa (ix (nope h1) (λ_ s2 h2=>?_) λ_ _ z=>z);refine aa (ix (nope h2) (λ_ s3 h3=>?_) λ_ _ z=>z);refine aa (ix (nope h3) (λb s4 h4=>?_) λ_ _ z=>z);cases b with
    |true=>
      have h4':=(show bg _ _ _ _ _ s4 by simpa using h4);simp only[if_true];refine aa (aa (ix (nope h4') (λy s5 h5=>?_) λ_ _ z=>z));refine aa (ix (nope h5) (λ_ s6 h6=>?_) λ_ _ z=>z);exact ai (ai ⟨rfl,h6⟩)
    |false=>
      have h4':∃m,m<n'/\J m s4:=by simpa using h4
      simp only[de,if_false];exact aa (ai (ai ⟨rfl,h4'⟩))
variable {v:V}{cl:List (bq×af)}{tgs ns:List bq}{wi:TI}{tt:TT}{te:TE}
theorem JV(h:(pick js σ)[i]?=ae (ae v)):∃j,js[i]?=ae j/\σ[j]?=ae (ae v):=by
  unfold pick at h;rw[dw] at h;cases e:js[i]? with
  |none=>rw[e] at h;cases h
  |some j=>
    rw[e] at h;have h':(σ[j]?).join=ae v:=Option.some.inj h;refine⟨j,rfl,?_⟩;cases q:σ[j]? with
    |none=>rw[q] at h';cases h'
    |some o=>rw[q] at h';exact congrArg ae h'
theorem Ac{g:TG}(hc:X.N=X.N)
    (hi:PI X tgt a0L wi) (hg:∀(fp:List af) (s:aj) (H:Hp),PG (qO X a0H cl fp (tgs++ns) s H) tgt g) (ht:∀(fp:List af) (s:aj) (H:Hp),Qt (qO X a0H cl fp (tgs++ns) s H) ifs tt)
    (he:∀(fp:List af) (s:aj) (H:Hp),PE (qO X a0H cl fp (tgs++ns) s H) elt te)
    (a15:xa a0H X.env=jh cl) (a11:∀x c,cl.lookup x=ae c->X.env.cells.lookup x=ae c)
    (a19:∀x,((jg a0H X.env).names.lookup x=ae .cell \/ (jg a0H X.env).names.lookup x=ae .free) -> ∃c,cl.lookup x=ae c)
    (hjs:js.map (λj=>X.N[j]?)=ns.map ae) (hin:∀y∈ns,(jg a0H X.env).names.lookup y=ae .cell \/ (jg a0H X.env).names.lookup y=ae .free)
    (a16:∀y∈ns,X.env.kindOf y=ae .cell \/ X.env.kindOf y=ae .free)
    (a0O:autoParam (∀y∈a0H.names,y.2 ≠ .cell) F9._auto_1) (a0T:autoParam (a0H.kind=.function) cA._auto_1)
    (a0U:autoParam (∀y∈a0H.names,y.2=.local->a0H.names.lookup y.1=ae .local) F9._auto_1)
    (hs:autoParam (∀z,jl a0L X.env z=jh z) M7._auto_1):
    ∀(pos0:lj) (pj:List (af×jn)) (s:aj) (σ:St) (H:Hp) (Q:VK) (I:Inv X pj σ H s) (h:Au wi tgs.length js g tt te σ H Q) (use:Option (ah->YJ Unit)) (R:ah->aj->Prop)
      (hfin:∀(D C:af) (H':Hp) (s':aj),Q (.ref D) H'->zC X pj H' C->(∃m,s'.heap.Ns C m)->(∀h',qb C s'.heap h'->Inv X pj σ H' { s' with heap:=h' })->a0j (bn X.prog X.w) X.A X.xe use R (.ref D) C (.ok .next) s'),
      bg (bn X.prog X.w) X.A (comprehension (.ListComp elt [⟨tgt,a0L,ifs,0⟩] a0H pos) a0H X.env pos0 (newList []) am (gw a0L X.env) use) R X.xe s:=by
  intro pos0 pj s σ H Q I h use R hfin;refine wpAny_comprehension_free (use:=use) rfl hs a15 a0T a0U (thn (hi pj s σ H _ I h) λv s1 h1=>thn h1 λitv s2 h2=>?_);obtain⟨it,fp,tn,J,H2,rfl,I2,T,st2,f2,a0R⟩:=h2;have hD:H2 s2.heap.objs.size=ao:=I2.hok.fresh (cg _);obtain⟨W,⟨m0,w0⟩,step⟩:=a0R _ hD;refine jj (wpAny_newFunctionEnv a0O (by intro y hy;simp at hy) (λg1 hns hsb=>?_) a0T) (by size_fits);dsimp only at hns hsb ⊢;have I3:Inv X pj σ (upd H2 s2.heap.objs.size (.lst [])) { s2 with heap:=s2.heap.push { cls:=.type "list",dict:=ao,data:=.seq ([]:List ah).toArray } }:=I2.lnew (t':=s2.toks) .nil (by simp);generalize hD':s2.heap.objs.size=D at *;generalize hH3:upd H2 D (.lst [])=H3 at *;generalize hS3:s2.heap.push { cls:=.type "list",dict:=ao,data:=.seq ([]:List ah).toArray }=g3 at *;have zs:g3.objs.size=D+1:=by rw[<- hS3,vx,hD']
  have f3:∀b∈fp,zC X pj H3 b:=λb hb=>by
    obtain⟨o,ho,_⟩:=T.obj _ _ st2 b hb;have lt:=bh ho;refine⟨?_,(f2 b hb).2⟩;rw[<- hH3,b5 (gp (hD' ▸ lt))];exact(f2 b hb).1
  have ltf:∀b∈fp,b<g3.objs.size:=λb hb=>by
    obtain⟨o,ho,_⟩:=T.obj _ _ st2 b hb;rw[zs];exact Nat.lt_succ_of_lt (hD' ▸ bh ho)
  have kept:∀b o,g3.get? b=ae o->g1.get? b=ae o:=λb o e=>hsb.extBut b o (gp (bh e)) (au _ e);have cne:∀x c,cl.lookup x=ae c->c≠g3.objs.size:=λx c e=>by
    obtain⟨v,q⟩:=I3.cell x c (a11 x c e);exact gp q.lt
  have ok:(qO X a0H cl fp (tgs++ns) { s2 with heap:=g3 } H3).Ok:=by
    refine⟨I.ok.mod,a0T,I.ok.glob,I.ok.blt,cg _,λy z c e1 e2=>I.ok.inj y z c (a11 y c e1) (a11 z c e2),λy hy=>a19 y hy,λy c e=>(nomatch e),I.ok.hd,I.ok.frames,.inl rfl,
      λb hb=>⟨gp (ltf b hb),λy c e=>(f3 b hb).2.2.2.2.1 y c (a11 y c e)⟩,I3.bs,mh I.ok.bsz I3.sz,λb o e hb=>?_,λb hb=>?_,I3.stack,I3.stkFree,I.ok.hq⟩
    . rcases(f3 b hb).2.2.2.1 with q | q
      . exact I.ok.noex b o e q
      . exact absurd (fc (bh (I.ok.bs b o e).1) q) (sw _)
    . intro z;rcases bv.mp (I3.stkSub b z) with q | q
      . exact(f3 b hb).2.1 q
      . exact(f3 b hb).2.2.1 q
  have cells1:∀x c,cl.lookup x=ae c -> ∃v,g1.IsCell c v:=λx c e=>by
    obtain⟨v,o,ho,hd⟩:=I3.cell x c (a11 x c e);exact⟨v,o,kept _ _ ho,hd⟩
  have J4:Inv (qO X a0H cl fp (tgs++ns) { s2 with heap:=g3 } H3) [] (av tgs.length ao++pick js σ) H3 { s2 with heap:=g1,toks:=s2.toks+([]:List (bq×ah)).length }:=by
    refine⟨ok,rfl,I3.bare,Un.kept kept,⟨_,hns,λi y v e1 e2 e3=>?_⟩,λy c e=>cells1 y c e,I3.hok.fresh (cg _),λy c e=>I3.freeC y c (a11 y c e),λp hp=>absurd (show p∈([]:List (af×jn)) from hp) (by simp),I3.hok.kept kept,?_,I3.mild⟩
    . have hi2:tgs.length<=i:=by
        by_cases hlt:i<tgs.length
        . rw[dj (by simpa using hlt),jw,a0G hlt] at e2;cases e2
        . ac_rfl
      rw[bt (by simpa using hi2),jx] at e2;have e1':(tgs++ns)[i]?=ae y:=e1;rw[bt hi2] at e1';obtain⟨j,hj,hσ⟩:=JV e2;have hNj:X.N[j]?=ae y:=by
        have:=congrArg (λl=>l[i-tgs.length]?) hjs;simp only[dw,hj,e1',wa] at this;exact Option.some.inj this
      have ym:y∈ns:=ee e1';obtain⟨m,hm,hl⟩:=I3.loc;have vis:TB X.env.scope y:=by
        rcases a16 y ym with q | q
        . exact .inr (.inl q)
        . exact .inr (.inr q)
      obtain⟨u,ru,lk⟩:=hl j y v hNj hσ vis;refine⟨u,ru,?_⟩;rcases lk with⟨q,_⟩ | ⟨_,c,hc1,hc2⟩
      . rcases a16 y ym with z | z
        . rw[z] at q;cases q
        . rw[z] at q;cases q
      . obtain⟨c',hc'⟩:=a19 y (hin y ym);have:=a11 y c' hc';rw[hc1] at this;cases this;obtain⟨o,ho,hd⟩:=hc2;exact .inr ⟨hin y ym,c,hc',o,kept _ _ ho,hd⟩
    . show _=(tgs++ns).length;have:=congrArg List.length hjs;simp only[bf] at this;simp[pick,this]
  have st4:tn 0 g1:=T.keep 0 _ _ st2 λb hb o e=>kept b o (by rw[<- hS3];exact au _ e);have fin:∀(H':Hp) (σ':St) (s':aj),Inv (qO X a0H cl fp (tgs++ns) { s2 with heap:=g3 } H3) [] σ' H' s'->Q (.ref D) H'->a0j (bn X.prog X.w) X.A X.xe use R (.ref D) g3.objs.size (.ok .next) s':=by
    intro H' σ' s' K q;obtain⟨m,hm,_⟩:=K.loc;refine hfin D g3.objs.size H' s' q (I3.fpOk (cg _) K.free) ⟨m,hm⟩ λh' hsb'=>?_;have ne:∀b o,g3.get? b=ae o->b≠g3.objs.size:=λb o e=>gp (bh e);have B:Un (frs X.stack) fp H3 H' g3 s'.heap:=K.base;refine I3.call' (s':={ s' with heap:=h' }) (ch:=fp) K.os ⟨λb o e n hb hx=>(hsb'.2 b (ne b o e)).trans (B.keep b o e n hb hx),λb o e n hb hx=>?_,B.free,λb o e hx=>?_,B.tups,B.frzs,B.tbls⟩ (λb u e=>?_) K.bare (λb hb=>?_)
    . obtain⟨sl,e1⟩:=B.slot b o e n hb hx;exact⟨sl,(hsb'.2 b (ne b o e)).trans e1⟩
    . obtain⟨o',e1⟩:=B.there b o e hx;exact⟨o',(hsb'.2 b (ne b o e)).trans e1⟩
    . have nC:∀c v,H' c=ae v->c≠g3.objs.size:=λc v e z=>by
        have:H' g3.objs.size=ao:=K.free;rw[z,this] at e;cases e
      refine(K.hok b u e).stay (λc v hc q=>(hsb'.2 c ?_).trans q) (λ_ q=>q) (λ_ _ q=>q) λ_ _ q=>q;rcases hc with z | z
      . rw[z];exact nC b u e
      . exact nC c _ z
    . obtain⟨_,q1,_,q3,q4,q5⟩:=f3 b hb;exact⟨q3,q1,q4,q5⟩
  have loop:yh (bn X.prog X.w) X.A (.compLoop (.ListComp elt [⟨tgt,a0L,ifs,0⟩] a0H pos) 0 (.ref it) (.ref D) (compEnvC a0H cl g3.objs.size X.env))
      (a0j (bn X.prog X.w) X.A X.xe use R (.ref D) g3.objs.size) { s2 with heap:=g1,toks:=s2.toks+([]:List (bq×ah)).length }:=by
    refine zV (λn s'=>∃i acc old H',Inv (qO X a0H cl fp (tgs++ns) { s2 with heap:=g3 } H3) [] (old++pick js σ) H' s'/\old.length=tgs.length/\tn i s'.heap/\(∀b∈fp,H' b=ao)/\H' D=ae (.lst acc)/\W i n acc H') ?_ m0
      ⟨0,[],av tgs.length ao,H3,J4,by simp,st4,λb hb=>(f3 b hb).1,by rw[<- hH3];exact bP,w0⟩
    rintro n s' ⟨i,acc,old,H',K,lo,st,fr,hDl,w⟩;have fpk:∀{H'':Hp},(∀b∈fp,H'' b=ao) -> ∀b∈fp,zC (qO X a0H cl fp (tgs++ns) { s2 with heap:=g3 } H3) [] H'' b:=λhn b hb=>
      ⟨hn b hb,gp (ltf b hb),λz=>ok.exfs b hb z,.inl hb,λy c e=>(f3 b hb).2.2.2.2.1 y c (a11 y c e),λp hp=>absurd (show p∈([]:List (af×jn)) from hp) (by simp)⟩
    rcases step i n acc H' w hDl with⟨stop,q⟩ | ⟨go,next⟩
    . refine thn (T.done (qO X a0H cl fp (tgs++ns) { s2 with heap:=g3 } H3) rfl rfl rfl rfl i [] s' _ H' _ K (fpk fr) st stop) λr s1 zz=>?_;obtain⟨hr,K1⟩:=zz;subst hr;exact fin H' _ s1 K1 q
    . refine thn (T.item (qO X a0H cl fp (tgs++ns) { s2 with heap:=g3 } H3) rfl rfl rfl rfl i [] s' _ H' _ K (fpk fr) st go) λr s1 zz=>?_;obtain⟨u,hr,h4⟩:=zz;subst hr;refine thn h4 λ_ s5 zz=>?_;obtain⟨y,H5,K5,r5,y5,st5,fr5⟩:=zz;have K5':=K5.pinned (fpk fr5) (T.obj _ _ st5);refine thn (hg fp { s2 with heap:=g3 } H3 _ s5 _ H5 y u _ K5' r5 (next y H5 y5 old lo)) λ_ s6 ⟨σ6,H6,K6,⟨new,hnew,e6⟩,q6⟩=>?_;subst e6;refine thn (ht fp { s2 with heap:=g3 } H3 _ s6 _ H6 _ K6 q6) λb s6' zz=>?_;obtain⟨H6',K6',q6'⟩:=zz;have Zg:∀{s8:aj} {H8:Hp} {a0N:List V} {m':Nat},Inv (qO X a0H cl fp (tgs++ns) { s2 with heap:=g3 } H3) ([]++xS fp s5.heap) (new++pick js σ) H8 s8->H8 D=ae (.lst a0N)->m'<n->W (i+1) m' a0N H8 ->
          ∃m,m<n /\ ∃i acc old H',Inv (qO X a0H cl fp (tgs++ns) { s2 with heap:=g3 } H3) [] (old++pick js σ) H' s8/\old.length=tgs.length/\tn i s8.heap/\(∀b∈fp,H' b=ao)/\H' D=ae (.lst acc)/\W i m acc H':=by
        intro s8 H8 a0N m' K8 h8 hm' w8;refine⟨m',hm',i+1,a0N,new,H8,K8.unpinned,hnew,T.keep _ _ _ st5 λb hb o e=>(K8.pin (b,o) (gh _ (gh _ (oC hb e)))).1,λb hb=>?_,h8,w8⟩;obtain⟨o,e,d⟩:=T.obj _ _ st5 b hb;exact(K8.pin (b,o) (gh _ (gh _ (oC hb e)))).2.1
      cases b with
      |true=>
        refine qX ?_;rw[a0G rfl] at q6';refine thn (he fp { s2 with heap:=g3 } H3 _ s6' _ H6' _ K6' q6') λvv s7 zz=>?_;obtain⟨v,H7,K7,r7,hD7,hlen,m',hm',w7⟩:=zz;refine thn (AN (X:=qO X a0H cl fp (tgs++ns) { s2 with heap:=g3 } H3) _ s7 _ H7 (.ref D) [v] (.ref D) [vv] (λ_ H8=>H8=upd H7 D (.lst (acc++[v]))) K7 rfl (.cons r7 .nil) ⟨D,acc,v,rfl,rfl,hD7,hlen,rfl⟩) λ_ s8 zz=>?_;obtain⟨_,H8,K8,_,e8⟩:=zz;subst e8;exact Zg K8 bP hm' w7
      |false=>
        refine pV ?_;have q6f:H6' D=ae (.lst acc) /\ ∃m',m'<n/\W (i+1) m' acc H6':=by simpa using q6'
        obtain⟨hD7,m',hm',w7⟩:=q6f;exact Zg K6' hD7 hm' w7
  exact codeAny_compStart_list loop (T.self _ 0 _ _ _ st4 loop)
theorem Jd{g:TG}(hc:X.N=X.N)
    (hi:PI X tgt a0L wi) (hg:∀(fp:List af) (s:aj) (H:Hp),PG (qO X a0H cl fp (tgs++ns) s H) tgt g) (ht:∀(fp:List af) (s:aj) (H:Hp),Qt (qO X a0H cl fp (tgs++ns) s H) ifs tt)
    (he:∀(fp:List af) (s:aj) (H:Hp),PE (qO X a0H cl fp (tgs++ns) s H) elt te)
    (a15:xa a0H X.env=jh cl) (a11:∀x c,cl.lookup x=ae c->X.env.cells.lookup x=ae c)
    (a19:∀x,((jg a0H X.env).names.lookup x=ae .cell \/ (jg a0H X.env).names.lookup x=ae .free) -> ∃c,cl.lookup x=ae c)
    (hjs:js.map (λj=>X.N[j]?)=ns.map ae) (hin:∀y∈ns,(jg a0H X.env).names.lookup y=ae .cell \/ (jg a0H X.env).names.lookup y=ae .free)
    (a16:∀y∈ns,X.env.kindOf y=ae .cell \/ X.env.kindOf y=ae .free)
    (a0O:autoParam (∀y∈a0H.names,y.2 ≠ .cell) F9._auto_1) (a0T:autoParam (a0H.kind=.function) cA._auto_1)
    (a0U:autoParam (∀y∈a0H.names,y.2=.local->a0H.names.lookup y.1=ae .local) F9._auto_1)
    (hs:autoParam (∀z,jl a0L X.env z=jh z) M7._auto_1):
    PE X (.ListComp elt [⟨tgt,a0L,ifs,0⟩] a0H pos) (Au wi tgs.length js g tt te):=by
  intro pj s σ H Q I h;rw[eval_ListComp];refine Ac hc hi hg ht he a15 a11 a19 hjs hin a16 a0O a0T a0U hs _ pj s σ H Q I h ao _ ?_;intro D C H' s' q fp hm inv;obtain⟨m,hm⟩:=hm;exact⟨m,hm,λh' hs'=>⟨.ref D,H',inv h' hs',rfl,q⟩⟩
theorem JT{y:bq}{py spos:lj}{iy:Nat}{g:TG}(hN:X.N.Nodup)(hi2:X.N[iy]?=ae y)(hx2:GW X.env.scope y)(hc:X.N=X.N)
    (hi:PI X tgt a0L wi) (hg:∀(fp:List af) (s:aj) (H:Hp),PG (qO X a0H cl fp (tgs++ns) s H) tgt g) (ht:∀(fp:List af) (s:aj) (H:Hp),Qt (qO X a0H cl fp (tgs++ns) s H) ifs tt)
    (he:∀(fp:List af) (s:aj) (H:Hp),PE (qO X a0H cl fp (tgs++ns) s H) elt te)
    (a15:xa a0H X.env=jh cl) (a11:∀x c,cl.lookup x=ae c->X.env.cells.lookup x=ae c)
    (a19:∀x,((jg a0H X.env).names.lookup x=ae .cell \/ (jg a0H X.env).names.lookup x=ae .free) -> ∃c,cl.lookup x=ae c)
    (hjs:js.map (λj=>X.N[j]?)=ns.map ae) (hin:∀y∈ns,(jg a0H X.env).names.lookup y=ae .cell \/ (jg a0H X.env).names.lookup y=ae .free)
    (a16:∀y∈ns,X.env.kindOf y=ae .cell \/ X.env.kindOf y=ae .free)
    (a0O:autoParam (∀y∈a0H.names,y.2 ≠ .cell) F9._auto_1) (a0T:autoParam (a0H.kind=.function) cA._auto_1)
    (a0U:autoParam (∀y∈a0H.names,y.2=.local->a0H.names.lookup y.1=ae .local) F9._auto_1)
    (hs:autoParam (∀z,jl a0L X.env z=jh z) M7._auto_1)
    (hsw:autoParam (io (.ListComp elt [⟨tgt,a0L,ifs,0⟩] a0H pos) (ae (.Name y py)) spos.line X.env=jh ak) cA._auto_1) (hf:autoParam (X.fn y=ak \/ X.env.scope.names.lookup y=ae .local) FA._auto_1):
    PS X (.Assign [.Name y py] (.ListComp elt [⟨tgt,a0L,ifs,0⟩] a0H pos) spos) (Os (Au wi tgs.length js g tt te) (DK iy)):=by
  intro pj s σ H D I h;rw[exec_Assign_Name_used _ _ _ _ hsw];refine aa (Xm (aa ?_));show bg _ X.A (do let _ <- comprehension (.ListComp elt [⟨tgt,a0L,ifs,0⟩] a0H pos) a0H X.env _ (newList []) am (gw a0L X.env) (ae (Zf (.Name y py) X.env))) _ _ s;refine aa (ix (Ac hc hi hg ht he a15 a11 a19 hjs hin a16 a0O a0T a0U hs _ pj s σ H _ I h (ae (Zf (.Name y py) X.env)) (λ_ s'=>SP X pj D .next s') ?_) (λ_ s' hq=>ai (ai hq)) λ_ _ e=>e);intro E C H' s' q fp ⟨m,hm⟩ inv;have I1:Inv X pj σ H' s':=inv s'.heap ⟨rfl,λ_ _=>rfl⟩;show bg _ X.A (Zf (.Name y py) X.env (.ref E)) _ _ _;refine XY (A9 I1 hN hi2 hx2 (v:=.ref E) rfl (λs2 I2 hsb=>?_) hf);obtain⟨a,hsb,ha⟩:=hsb;have aC:a≠C:=by
    rcases ha with ha | ha
    . rw[ha];exact Ne.symm fp.2.1
    . exact fp.2.2.2.2.1 _ _ ha
  refine⟨m,hm.sameBut hsb (Ne.symm aC),λh' hs'=>⟨_,H',?_,q⟩⟩;refine I2.call' (s':={ s2 with heap:=h' }) (ch:=[C]) rfl ⟨λb o e n hb hx=>?_,λb o e n hb hx=>?_,λb o e n hx=>n,λb o e hx=>?_,λ_ _ e=>e,λ_ _ _ e=>e,λb ps e=>⟨#[],by simpa using e⟩⟩ ?_ I2.bare ?_
  . exact hs'.extBut b o (by simpa using hx) e
  . exact⟨o.slots,hs'.extBut b o (by simpa using hx) e⟩
  . exact⟨o,hs'.extBut b o (by simpa using hx) e⟩
  . have nC:∀c v,H' c=ae v->c≠C:=λc v e z=>by
      rw[z,fp.1] at e;cases e
    intro b u e;refine(I2.hok b u e).stay (λc v hc q=>(hs'.2 c ?_).trans q) (λ_ q=>q) (λ_ _ q=>q) λ_ _ q=>q;rcases hc with z | z
    . rw[z];exact nC b u e
    . exact nC c _ z
  . intro b hb;obtain rfl:b=C:=by simpa using hb
    exact⟨fp.2.2.2.1,fp.2.1,fp.2.2.2.2.1,fp.2.2.2.2.2⟩
variable {y:V}{o:Option V}{κ:Type}
section
variable [DecidableEq κ]
noncomputable def lR(kvs:List (κ×V))(k:κ):Option V:=(kvs.find? λkv=>decide (kv.1=k)).map (·.2)
noncomputable def tF(kvs:List (κ×V))(k:κ)(v:V):List (κ×V):=
  if (kvs.any λkv=>decide (kv.1=k))=ak then kvs.map (λkv=>if kv.1=k then (kv.1,v) else kv) else kvs++[(k,v)]
theorem oV{p:κ×V}{r:List (κ×V)}{k:κ}(e:p.1=k):lR (p::r) k=ae p.2:=by simp[lR,uo,e]
theorem oW{p:κ×V}{r:List (κ×V)}{k:κ}(e:¬p.1=k):lR (p::r) k=lR r k:=by simp[lR,uo,e]
theorem CH(k:κ):∀kvs:List (κ×V),(kvs.any λkv=>decide (kv.1=k))=(lR kvs k).isSome
  | []=>rfl
  |p::r=>by
    rw[wb];by_cases e:p.1=k
    . simp only[oV e,decide_eq_true e,ZZ,XB]
    . rw[oW e,decide_eq_false e,xj];exact CH k r
theorem vR(kvs:List (κ×V))(k:κ)(v:V):(tF kvs k v).length<=kvs.length+1:=by
  unfold tF;split
  . rw[bf];ac_rfl
  . rw[dh,dg,xb];ac_rfl
theorem r9.isSome_eq{u:Option ah}(r:r9 o u):o.isSome=u.isSome:=by
  cases o with
  |none=>cases u with
    |none=>rfl
    |some _=>exact(show False from r).elim
  |some _=>cases u with
    |none=>exact(show False from r).elim
    |some _=>rfl
theorem KV.val{kvs:List (κ×V)}{vs:List (κ×ah)}(r:KV kvs vs)(k:κ):r9 (lR kvs k) (X8 vs k):=by
  unfold KV at r;induction r with
  |nil=>exact nh
  | @cons p q ps qs h t ih=>
    obtain⟨h1,h2⟩:=h;by_cases e:p.1=k
    . have e':q.1=k:=h1.symm.trans e;have b:X8 (q::qs) k=ae q.2:=by simp[X8,uo,e']
      rw[oV e,b];exact h2
    . have e':¬q.1=k:=λz=>e (h1.trans z);have b:X8 (q::qs) k=X8 qs k:=by simp[X8,uo,e']
      rw[oW e,b];exact ih
theorem KV.any{kvs:List (κ×V)}{vs:List (κ×ah)}(r:KV kvs vs)(k:κ):(kvs.any λkv=>decide (kv.1=k))=vs.any λkv=>decide (kv.1=k):=by
  unfold KV at r;induction r with
  |nil=>rfl
  |cons h t ih=>rw[wb,wb,ih,h.1]
theorem KV.repl{kvs:List (κ×V)}{vs:List (κ×ah)}(r:KV kvs vs)(k:κ)(ry:cM y u):
    KV (kvs.map λkv=>if kv.1=k then (kv.1,y) else kv) (vs.map λkv=>if kv.1=k then (kv.1,u) else kv):=by
  unfold KV at r ⊢;induction r with
  |nil=>exact .nil
  | @cons p q ps qs h t ih=>
    rw[ef,ef];refine .cons ?_ ih;obtain⟨h1,h2⟩:=h;by_cases e:p.1=k
    . rw[a0G e,a0G (h1.symm.trans e)];exact⟨h1,ry⟩
    . rw[a0h e,a0h (λz=>e (h1.trans z))];exact⟨h1,h2⟩
theorem KV.put{kvs:List (κ×V)}{vs:List (κ×ah)}(r:KV kvs vs)(k:κ)(ry:cM y u):KV (tF kvs k y) (stored vs k u):=by
  unfold tF stored;rw[r.any k];by_cases e:(vs.any λkv=>decide (kv.1=k))=ak
  . rw[a0G e,a0G e];exact r.repl k ry
  . rw[a0h e,a0h e];exact Paired.snoc r ⟨rfl,ry⟩
theorem KV.length{kvs:List (κ×V)}{vs:List (κ×ah)}(r:KV kvs vs):kvs.length=vs.length:=Paired.length r
end
theorem G8{k:cB}(r:cM (kV k) u):(dH P w).is k u=ak:=by
  cases k with
  |inl i=>obtain⟨t,e⟩:=(show ∃t,u=Value.int i t from r);subst e;exact D9 P w i t
  |inr x=>obtain⟨t,e⟩:=(show ∃t,u=Value.str x t from r);subst e;exact D8 P w x t
theorem AT{P:bj}{w:df}:∀{ks:List cB} {us:List ah},bM (ks.map kV) us->ItemsAre (dH P w) ks us
  | [],_,r=>by rw[qe] at r;cases r;exact .nil
  |k::ks,_,r=>by
    rw[ef] at r;cases r with
    |cons h t=>exact .cons (G8 h) (AT t)
abbrev KT(H:Hp):List (List cB×V)->List (List cB×af×ah)->Prop:=Paired λp q=>p.1=q.1/\H q.2.1=ae (.tup (p.1.map kV))/\cM p.2 q.2.2
variable {xs:List (List cB×af×ah)}
theorem KT.val(r:KT H kvs xs)(k:List cB):r9 (lR kvs k) ((Xn xs k).map (·.2)):=by
  induction r with
  |nil=>exact nh
  | @cons p q ps qs h t ih=>
    obtain⟨h1,_,h2⟩:=h;by_cases e:p.1=k
    . have e':q.1=k:=h1.symm.trans e;have b:Xn (q::qs) k=ae q.2:=by simp[Xn,uo,e']
      rw[oV e,b];exact h2
    . have e':¬q.1=k:=λz=>e (h1.trans z);have b:Xn (q::qs) k=Xn qs k:=by simp[Xn,uo,e']
      rw[oW e,b];exact ih
theorem KT.repl(r:KT H kvs xs)(k:List cB)(ry:cM y u):
    KT H (kvs.map λkv=>if kv.1=k then (kv.1,y) else kv) (xs.map (putAt k u)):=by
  induction r with
  |nil=>exact .nil
  | @cons p q ps qs h t ih=>
    rw[ef,ef];refine .cons ?_ ih;obtain⟨h1,h2,h3⟩:=h;unfold putAt;by_cases e:p.1=k
    . rw[a0G e,a0G (h1.symm.trans e)];exact⟨h1,h2,ry⟩
    . rw[a0h e,a0h (λz=>e (h1.trans z))];exact⟨h1,h2,h3⟩
theorem KT.put(r:KT H kvs xs)(k:List cB)(hb:H b=ae (.tup (k.map kV)))(ry:cM y u):
    KT H (tF kvs k y) (a00 xs k b u):=by
  have e:(kvs.any λkv=>decide (kv.1=k))=(Xn xs k).isSome:=by
    rw[CH,(r.val k).isSome_eq,isSome_map]
  unfold tF a00;rw[e];by_cases q:(Xn xs k).isSome=ak
  . rw[a0G q,a0G q];exact r.repl k ry
  . rw[a0h q,a0h q];exact Paired.snoc r ⟨rfl,hb,ry⟩
theorem KT.keeps(r:KT H kvs xs)(ht:∀b ys,H b=ae (.tup ys)->H' b=ae (.tup ys)):KT H' kvs xs:=
  Paired.mapP r λ_ _ z=>⟨z.1,ht _ _ z.2.1,z.2.2⟩
variable {ep:Nat}
theorem CU{u:HO}(ok:nJ P w H h)(e:Rd H a u):cR P w H h a u:=e.ok ok
theorem DW{kvs:List (cB×V)}(ok:nJ P w H h)(e:Rd H a (.dK kvs)):kvs.length<=bo/\(a==km)=am /\ ∃vs,KV kvs vs/\h.DictOf (dH P w) a vs:=
  show cR P w H h a (.dK kvs) from CU ok e
theorem Sr{kvs:List (cB×V)}(ok:nJ P w H h)(e:H a=ae (.dK kvs)):kvs.length<=bo/\(a==km)=am /\ ∃vs,KV kvs vs/\h.DictOf (dH P w) a vs:=DW ok (.inl e)
theorem BV{ks:List cB}(ok:nJ P w H h)(e:H a=ae (.tup (ks.map kV))):(sx (dH P w)).is h ks a:=by
  obtain⟨_,its,r,o,h1,h2,n,h3⟩:=(show cR P w H h a (.tup (ks.map kV)) from ok a _ e);exact⟨o,its.toArray,n,h1,h2,h3,by simpa using AT r⟩
theorem GU(ok:nJ P w H h)(e:Rd H a (.dT ep kvs)):kvs.length<=bo/\(a==km)=am /\
    ∃xs,KT H kvs xs/\h.DictOfH (sx (dH P w)) a xs:=by
  obtain⟨z,y,xs,r,o,es,h1,h2,h3,h4,h5⟩:=(show cR P w H h a (.dT ep kvs) from CU ok e);refine⟨z,y,xs,r,o,es,ep,h1,h2,h3,h4,λx hx=>?_,h5⟩;have all:∀{l:List (List cB×V)} {m:List (List cB×af×ah)},KT H l m -> ∀x∈m,(sx (dH P w)).is h x.1 x.2.1:=by
    intro l m q;induction q with
    |nil=>intro x hx;exact nomatch hx
    | @cons p q ps qs hq t ih=>
      intro x hx;rcases bv.mp hx with e | hx
      . subst e;exact BV ok (by rw[<- hq.1];exact hq.2.1)
      . exact ih x hx
  exact all r x hx
theorem OU(ok:nJ P w H h)(e:H a=ae (.dT ep kvs)):kvs.length<=bo/\(a==km)=am /\
    ∃xs,KT H kvs xs/\h.DictOfH (sx (dH P w)) a xs:=GU ok (.inl e)
def vJ(H:Hp)(a:af)(y:V)(r:Option V):Prop:=
  (∃kvs k,Rd H a (.dK kvs)/\y=kV k/\r=lR kvs k) \/ ∃ep kvs k b,Rd H a (.dT ep kvs)/\y=.ref b/\H b=ae (.tup (k.map kV))/\r=lR kvs k
def M5(H:Hp)(a:af)(y v:V)(R:Hp->Prop):Prop:=
  (∃kvs k,H a=ae (.dK kvs)/\y=kV k/\kvs.length<bo/\R (upd H a (.dK (tF kvs k v)))) \/
  ∃ep kvs k b,H a=ae (.dT ep kvs)/\y=.ref b/\H b=ae (.tup (k.map kV))/\kvs.length<bo /\ ∀ep',R (upd H a (.dT ep' (tF kvs k v)))
theorem vJ.k{H:Hp}{a:af}{kvs:List (cB×V)}{k:cB}(e:H a=ae (.dK kvs)):vJ H a (kV k) (lR kvs k):=.inl ⟨kvs,k,.inl e,rfl,rfl⟩
theorem vJ.t{k:List cB}(e:H a=ae (.dT ep kvs))(eb:H b=ae (.tup (k.map kV))):vJ H a (.ref b) (lR kvs k):=.inr ⟨ep,kvs,k,b,.inl e,rfl,eb,rfl⟩
theorem M5.t{k:List cB}{R:Hp->Prop}(e:H a=ae (.dT ep kvs))(eb:H b=ae (.tup (k.map kV)))(hl:kvs.length<bo)(r:∀ep',R (upd H a (.dT ep' (tF kvs k v)))):M5 H a (.ref b) v R:=.inr ⟨ep,kvs,k,b,e,rfl,eb,hl,r⟩
variable {r:ah}
theorem Inv.big(I:Inv X pj σ H s):km<s.heap.objs.size:=by
  have h:jt<s.heap.objs.size:=(I.mod.glob.keeps I.bk).lt;exact Nat.lt_trans ∅ h
theorem ID(hu:A.units+1<gv)(I:Inv X pj σ H s)(g:vJ H a y (ae v))(ry:cM y u)(h:∀w' s',Inv X pj σ H s'->cM v w'->Q w' s'):
    bg (bn X.prog X.w) A (X4 (.ref a) u) Q E s:=by
  rcases g with⟨kvs,k,e,ey,l⟩ | ⟨_,kvs,k,b,e,ey,eb,l⟩
  . subst ey;obtain⟨z,hd,vs,rel,dd⟩:=DW I.hok e;obtain⟨w',hw,rw'⟩:=r9.some_of (v:=v) (o:=X8 vs k) (by rw[l];exact rel.val k);exact wpAny_getItem_of (G8 ry) dd.mapOf hw (h w' _ (I.tok _) rw')
  . subst ey;cases (show u=Value.ref b from ry);obtain⟨z,hd,xs,rel,dd⟩:=GU I.hok e;obtain⟨w',hw,rw'⟩:=r9.some_of (v:=v) (o:=(Xn xs k).map (·.2)) (by rw[l];exact rel.val k);obtain⟨p,hp,hp2⟩:=Wz.mp hw;refine wpAny_getItem_heap (zf hu) (BV I.hok eb) dd hp ?_;rw[hp2];exact h w' _ (I.tok _) rw'
theorem V2(hu:A.units+1<gv)(I:Inv X pj σ H s)(g:vJ H a y o)(ry:cM y u)(h:∀s',Inv X pj σ H s'->Q (.bool o.isSome) s'):
    bg (bn X.prog X.w) A (dm .In u (.ref a)) Q E s:=by
  rcases g with⟨kvs,k,e,ey,l⟩ | ⟨_,kvs,k,b,e,ey,eb,l⟩
  . subst ey;obtain⟨z,hd,vs,rel,dd⟩:=DW I.hok e;refine wpAny_in_of (G8 ry) hd dd.mapOf ?_;rw[<- (rel.val k).isSome_eq,<- l];exact h _ (I.tok _)
  . subst ey;cases (show u=Value.ref b from ry);obtain⟨z,hd,xs,rel,dd⟩:=GU I.hok e;refine wpAny_in_heap (zf hu) (BV I.hok eb) hd dd ?_;have q:=(rel.val k).isSome_eq;rw[isSome_map] at q;rw[<- q,<- l];exact h _ (I.tok _)
theorem wV(I:Inv X pj σ H s)(mu:IN (H a))(hs:qb a s.heap h')(he:∃q,h'.get? a=ae q)(new:cR X.prog X.w (upd H a ob) h' a ob):
    Inv X pj σ (upd H a ob) { s with heap:=h',toks:=t' }:=
  I.write (x:=a) (e:=a) mu (.inl rfl) (λb q hb z=>(hs.2 b hb).trans z) he new
theorem Qg{kvs:List (cB×V)}{vs:List (cB×ah)}(z:kvs.length<=bo)(hd:(a==km)=am)(rel:KV kvs vs)(dd:h'.DictOf (dH P w) a vs):
    cR P w H' h' a (.dK kvs):=⟨z,hd,vs,rel,dd⟩
theorem IC{R:Hp->Prop}{Q:Unit->aj->Prop}(hu:A.units+1<gv)(I:Inv X pj σ H s)(g:M5 H a y v R)(ry:cM y u)(rv:cM v r)(h:∀H' s',R H'->Inv X pj σ H' s'->Q () s'):
    bg (bn X.prog X.w) A (Z6 (.ref a) u r) Q E s:=by
  rcases g with⟨kvs,k,e,ey,l,eH⟩ | ⟨ep0,kvs,k,b,e,ey,eb,l,eH⟩
  . subst ey;obtain⟨z,hd,vs,rel,dd⟩:=Sr I.hok e;have hz:vs.length<=bo:=by rw[<- rel.length];exact z
    have hl:(tF kvs k v).length<=bo:=by have:=vR kvs k v;ac_rfl
    refine wpAny_setItem_pairs (hsz:=hz) (G8 ry) dd λh' dd' hs=>h _ _ eH ?_;have he:∃q,h'.get? a=ae q:=let ⟨q,_,_,hq,_⟩:=dd';⟨q,hq⟩;exact wV I (by rw[e];exact nh) hs he (Qg hl hd (rel.put k rv) dd')
  . subst ey;cases (show u=Value.ref b from ry);obtain⟨z,hd,xs,rel,dd⟩:=OU I.hok e;have hz:xs.length<=bo:=by rw[<- Paired.length rel];exact z
    have hl:(tF kvs k v).length<=bo:=by have:=vR kvs k v;ac_rfl
    refine XC (hsz:=hz) (zf hu) (BV I.hok eb) dd λh' dd' hs=>?_;obtain⟨q,es,ep,hq,h2,h3,h4,_,h5⟩:=dd';refine h _ _ (eH ep) ?_;refine wV I (by rw[e];exact nh) hs ⟨q,hq⟩ ⟨hl,hd,_,(rel.put k eb rv).keeps λc ys ec=>?_,q,es,hq,h2,h3,h4,h5⟩;rw[b5 (S9 ec e (λz=>nomatch z))];exact ec
section
variable {kvs:List (cB×V)}{k:cB}
theorem Su(I:Inv X pj σ H s)(e:Rd H a (.dK kvs))(h:∀t s',Inv X pj σ H s'->Q (.int kvs.length t) s'):bg (bn X.prog X.w) A (call (.builtin "len") [.ref a]) Q E s:=by
  obtain⟨z,hd,vs,rel,dd⟩:=DW I.hok e;refine call_len_dict hd dd (by rw[<- rel.length];rw[ky] at z;ac_rfl) ?_;rw[<- rel.length];exact h _ _ (I.tok _)
end
theorem DX(I:Inv X pj σ H s)(g:vJ H a y o):s.TypeIs (.ref a) "dict" := by
  rcases g with⟨kvs,k,e,_,_⟩ | ⟨_,kvs,k,b,e,_,_,_⟩
  . obtain⟨_,_,vs,_,dd⟩:=DW I.hok e;exact dd.typeIs
  . obtain⟨_,_,xs,_,dd⟩:=GU I.hok e;exact dd.typeIs
def RN(td ty tv:TE):TS:=λD σ H=>tv σ H λv H1=>td σ H1 λx H2=>ty σ H2 λy H3=>∃a,x=.ref a/\M5 H3 a y v (D.nx σ)
variable {tv td:TE}{a0Q:Expr}{a0Y:lj}
section
variable {o i:Expr}{tpos:lj}{ty:TE}
theorem Mb(hu:X.A.units+1<gv)(ho:PE X o td)(hi:PE X i ty)(hv:PE X a0Q tv)(hs:io a0Q (ae (.Subscript o i a0Y)) pos.line X.env=jh am):
    PS X (.Assign [.Subscript o i a0Y] a0Q pos) (RN td ty tv):=by
  intro pj s σ H D I h;refine Wq (thn (hv pj s σ H _ I h) λr s1 ⟨v,H1,I1,rv,q1⟩=>thn (ho pj s1 σ H1 _ I1 q1) λu s2 ⟨x,H2,I2,rx,q2⟩=>thn (hi pj s2 σ H2 _ I2 q2) λiv s3 ⟨y,H3,I3,ry,a,ex,g⟩=>?_) hs;subst ex;obtain rfl:u=Value.ref a:=rx;exact IC hu I3 g ry rv λH4 s4 q3 I4=>⟨σ,H4,I4,q3⟩
end
theorem Lf(h:eh)(hb:km<h.objs.size):cR P w H (h.push { cls:=.type "dict",data:=.dict #[] }) h.objs.size (.dT 0 []):=
  ⟨qd _,beq_eq_false_iff_ne.mpr (Ne.symm (gp hb)),[],.nil,_,#[],cm _ rfl,⟨rfl,rfl,rfl⟩,rfl,rfl,Yw⟩
def Op:TE:=λ_ H Q=>∀p,H p=ao->Q (.ref p) (upd H p (.dT 0 []))
theorem Ja:PE X (.Dict [] [] pos) Op:=λpj s σ H Q I h=>
  Yx ⟨.ref s.heap.objs.size,_,I.laid (a:=s.heap.objs.size) (o:=.dT 0 []) (t':=s.toks) (λ_ _ q=>au _ q) (cg _) (Lf s.heap I.big),rfl,h _ (I.hok.fresh (cg _))⟩
def Iv:List (TE×TE)->St->Hp->(List (V×V)->Hp->Prop)->Prop
  | [],_,H,Q=>Q [] H
  | (tk,tv)::r,σ,H,Q=>tk σ H λx H1=>tv σ H1 λy H2=>Iv r σ H2 λps H3=>Q ((x,y)::ps) H3
abbrev VV:List (V×V)->List (ah×ah)->Prop:=Paired λp q=>cM p.1 q.1/\cM p.2 q.2
def Tw(X:Cx)(pos:lj)(keys:List (Option Expr))(values:List Expr)(trs:List (TE×TE)):Prop:=
  ∀(pj:List (af×jn)) (s:aj) (σ:St) (H:Hp) (Q:List (V×V)->Hp->Prop),Inv X pj σ H s->Iv trs σ H Q ->
    bg (bn X.prog X.w) X.A (evalPairs (pairTrees keys values X.env pos)) (λvs s'=>∃ps H',Inv X pj σ H' s'/\VV ps vs/\Q ps H') X.xe s
theorem Md:Tw X pos [] [] []:=λpj s σ H Q I h=>pairTrees_nil_walk ⟨[],H,I,.nil,h⟩
theorem JU{k v:Expr}{ks:List (Option Expr)}{vs:List Expr}{tk:TE}{trs:List (TE×TE)}(hk:PE X k tk)(hv:PE X v tv)(hr:Tw X pos ks vs trs):
    Tw X pos (ae k::ks) (v::vs) ((tk,tv)::trs):=λpj s σ H Q I h=>
  pairTrees_cons_walk (thn (hk pj s σ H _ I h) λu s1 ⟨x,H1,I1,rx,q1⟩=>thn (hv pj s1 σ H1 _ I1 q1) λw2 s2 ⟨y,H2,I2,ry,q2⟩=>
    thn (hr pj s2 σ H2 _ I2 q2) λws s3 zq4=>by obtain⟨ps,H3,I3,rel,q3⟩:=zq4;exact⟨(x,y)::ps,H3,I3,.cons ⟨rx,ry⟩ rel,q3⟩)
section
variable {d:V}
end
section
variable {o f:Expr}{a0S:lj}{ty tx:TE}
end
section
variable {kvs:List (cB×V)}
end
theorem IH:gI X (.builtin "len") (λxs H Q=>∃a kvs,xs=[V.ref a]/\H a=ae (.dK kvs)/\Q (.int kvs.length) H):=by
  intro pj s σ H xs us Q I r h;obtain⟨a,kvs,rfl,ha,q⟩:=h;obtain⟨u,rfl,ru⟩:=mK r;cases ru;exact Su I (.inl ha) λt s' I'=>⟨.int kvs.length,H,I',⟨t,rfl⟩,q⟩
section
variable [DecidableEq κ]
end
abbrev Tl:=Int×Int×List Int
abbrev Tk:=List Tl
variable {m:Nat}
def cV(prog:bj)(w:df)(h:eh)(k:Tl)(a:af):Prop:=
  ∃(o:jn) (t u:a0F) (c:af) (n:Nat),h.get? a=ae o/\o.cls=.type "tuple" /\ o.data=.seq #[.int k.1 t,.int k.2.1 u,.ref c] n/\IsTupleKey (XR prog w) h k.2.2 c
theorem cV.ty{k:Tl}(x:cV prog w s.heap k a):s.TypeIs (.ref a) "tuple" := let ⟨o,_,_,_,_,g,c,_⟩:=x;⟨o,g,c⟩
noncomputable def mM(k:Tl):Int:=vh (fx [ye k.1,ye k.2.1,vh (fx (k.2.2.map ye))])
theorem Gb{k:Tl}{Q:Int->aj->Prop}(hu:A.units+1<gv)(x:cV prog w s.heap k a)(h:Q (mM k) { s with toks:=s.toks+(k.2.2.length+4) }):bg (bn prog w) A (pyHash (.ref a)) Q E s:=by
  have ty:=x.ty;obtain⟨o,t,u,c,n,g,_,d,i⟩:=x;unfold pyHash
  first | unfold YY | skip
  first | refine aa (Yb (.inr (vb hu)) ?_) | skip
  refine aa (jp ty kr.lookup ?_);refine(show bg _ _ (ite ((ae (tm "tuple.__hash__")==ae fh)=ak) _ _) Q E s from ?_);rw[a0h (by rw[Yy];exact fw)];refine aa (jp ty kr.lookup (aa (m:=xo (.ref a) "__hash__" _) (tz ty kr (fg kr ty XD ?_ (Xc _)))));refine aa (m:=ii (.ref a)) (ik g d (aa ?_));rw[<- wc];simp only[uk,vk];refine aa (aa (Vz (ai ?_)));refine aa (aa (Vz (ai ?_)));refine aa (aa (wpAny_pyHash_tuple (knd:=XR prog w) hu i (ai (ai ?_))));refine(show bg _ _ (retInt (fx [ye k.1,ye k.2.1,vh (fx (k.2.2.map ye))])) _ _ _ from ?_);unfold mM vh at h;unfold vh;generalize hZ:fx [ye k.1,ye k.2.1,_]=z at h ⊢;refine YZ ?_;refine(show bg _ _ (ite ((decide (-(2:Int) ^ 63<=z)&&decide (z<2 ^ 63))=ak) _ _) Q E _ from ?_);have et:s.toks+1+1+(k.2.2.length+1)+1=s.toks+(k.2.2.length+4):=⋯;by_cases c1:(decide (-(2:Int) ^ 63<=z)&&decide (z<2 ^ 63))=ak
  . rw[a0G c1] at h ⊢;exact ai (by simpa [et] using h)
  . rw[a0h c1] at h ⊢;exact aa (ir (ai (by simpa [et] using h)))
theorem Aq{x y:Tl}{P:Fin->aj->Prop}(hu:A.units<gv)(hx:cV prog w s.heap x a)(hy:cV prog w s.heap y b)(h:P (.done (.ret (.bool (decide (x=y))))) s):
    bg (bn prog w) A (qy.«tuple.__eq__» ⟨[.ref a,.ref b],[]⟩) P E s:=by
  have ty:=hy.ty;obtain⟨o,t,u,c,n,g,_,d,i⟩:=hx;obtain⟨o2,t2,u2,c2,n2,g2,_,d2,i2⟩:=hy;refine aa (m:=qm (.ref b) (.type "tuple")) (fm ty pf ?_);simp only[ki,de,if_false];refine aa (ik g d (aa (ik g2 d2 (aa ?_))));simp only[Vs,zg,uk,vk];have no:x≠y->P (.done (.ret (.bool am))) s:=λe=>by rw[decide_eq_false e] at h;exact h
  refine aa (aa (nz ?_));by_cases e1:x.1=y.1
  . rw[beq_iff_eq.mpr e1];refine ai (aa (aa (nz ?_)));by_cases e2:x.2.1=y.2.1
    . rw[beq_iff_eq.mpr e2];refine ai (aa (aa (XE hu i i2 ?_)));by_cases e3:x.2.2=y.2.2
      . rw[decide_eq_true e3];rw[decide_eq_true (Prod.ext e1 (Prod.ext e2 e3))] at h;exact ai (ai (ai h))
      . rw[decide_eq_false e3];exact aa (ai (ai (ai (ai (no λz=>e3 (by rw[z]))))))
    . rw[beq_eq_false_iff_ne.mpr e2];exact aa (ai (ai (ai (ai (no λz=>e2 (by rw[z]))))))
  . rw[beq_eq_false_iff_ne.mpr e1];exact aa (ai (ai (ai (ai (no λz=>e1 (by rw[z]))))))
theorem cV.inj{h:eh}{a:af}{x y:Tl}(hx:cV prog w h x a)(hy:cV prog w h y a):x=y:=by
  obtain⟨o,t,u,c,n,g,_,d,i⟩:=hx;obtain⟨o2,t2,u2,c2,n2,g2,_,d2,i2⟩:=hy;rw[g] at g2;cases g2;rw[d] at d2;simp only[Zo,Zp,im,Value.int.injEq,Z1] at d2;obtain⟨⟨⟨e1,_⟩,⟨e2,_⟩,e3,_⟩,_⟩:=d2;subst e3;exact Prod.ext e1 (Prod.ext e2 (i.inj i2))
theorem FE{x y:Tl}{Q:Bool->aj->Prop}(hu:A.units+1<gv)(hx:cV prog w s.heap x a)(hy:cV prog w s.heap y b)(h:Q (decide (x=y)) s):bg (bn prog w) A (eqBool (.ref a) (.ref b)) Q E s:=by
  unfold eqBool
  try with_reducible refine je ?_
  refine(show bg _ _ (ite ((Value.ref a==Value.ref b)=ak) _ _) Q E s from ?_);by_cases ab:(Value.ref a==Value.ref b)=ak
  . rw[a0G ab];have e:a=b:=by have:=W6 ab;injection this
    subst e;obtain rfl:=hx.inj hy;exact aa (ir (ai (by simpa using h)))
  . rw[a0h ab];exact aa (ny (op:=.Eq) hx.ty hy.ty nn (fg nn hx.ty Yz (Aq hu hx hy ⟨_,rfl,(λe=>nomatch e),gx h⟩) (Yc _ _)) (vb hu))
theorem cV.keeps{h h':eh}{k:Tl}{a d:af}{o:jn}{es:Array mq}{ep:Nat}(x:cV prog w h k a)(ho:h.get? d=ae o)(hd:o.data=.dict es ep)(hs:qb d h h'):cV prog w h' k a:=by
  obtain⟨o2,t,u,c,n,g,cl,d2,i⟩:=x;have ne:a≠d:=by
    rintro rfl;rw[g] at ho;cases ho;rw[hd] at d2;cases d2
  exact⟨o2,t,u,c,n,(hs.2 a ne).trans g,cl,d2,i.keeps ho hd hs⟩
theorem DI{Q:Bool->aj->Prop}(hk:IsTupleKey (XR prog w) s.heap ks a)(h:Q ak s):bg (bn prog w) A (W7 (m+1) (.ref a)) Q E s:=by
  have ty:=hk.typeIs;obtain⟨o,its,n,g,_,d,i⟩:=hk;unfold W7;refine aa (jp ty nn.lookup (aa (m:=qm (.ref a) (.type "tuple")) (fm ty pf ?_)));simp only[ki,de,if_false];refine aa (oj g d (aa ?_));refine(show bg _ _ (YQ its _ _) _ _ s from ?_);rw[<- wc];refine xc _ (λa0J r s'=>r.1=ao/\s'=s /\ ∀v∈a0J,WQ v=ak) _ (λv a0J r s' z=>?_) (λr s' z=>?_) _ _ ⟨rfl,rfl,i.byValue⟩
  . obtain⟨_,rfl,al⟩:=z;rw[Vq _ (al v bz)];refine aa (ai ?_);simp only[ki,de,if_false];exact ai ⟨rfl,rfl,λy hy=>al y (bp _ hy)⟩
  . obtain⟨r1,r2⟩:=r;obtain⟨hr,rfl,_⟩:=z;cases hr;exact ai h
theorem Dr{k:Tl}{Q:Bool->aj->Prop}(hk:cV prog w s.heap k a)(h:Q ak s):bg (bn prog w) A (W7 (m+2) (.ref a)) Q E s:=by
  have ty:=hk.ty;obtain⟨o,t,u,c,n,g,_,d,i⟩:=hk;unfold W7;refine aa (jp ty nn.lookup (aa (m:=qm (.ref a) (.type "tuple")) (fm ty pf ?_)));simp only[ki,de,if_false];refine aa (oj g d (aa ?_));refine(show bg _ _ (YQ (#[Value.int k.1 t,Value.int k.2.1 u,Value.ref c]:Array ah) _ _) _ _ s from ?_);rw[<- wc];simp only[uk,vk];rw[Vq _ (show WQ (Value.int k.1 t)=ak from rfl),Vq _ (show WQ (Value.int k.2.1 u)=ak from rfl)];refine aa (aa (ai (ai ?_)));refine aa (aa (ai (ai ?_)));exact aa (aa (DI i (ai (ai (ai h)))))
def rA(prog:bj)(w:df)(h:eh)(k:Tk)(a:af):Prop:=
  ∃(o:jn) (as:List af) (n:Nat),h.get? a=ae o/\o.cls=.type "tuple" /\ o.data=.seq (as.map Value.ref).toArray n/\Paired (λt b=>cV prog w h t b) k as
theorem rA.ty{k:Tk}(x:rA prog w s.heap k a):s.TypeIs (.ref a) "tuple" := let ⟨o,_,_,g,c,_⟩:=x;⟨o,g,c⟩
noncomputable def Be(k:Tk):Int:=vh (fx (k.map mM))
noncomputable def wT(k:Tk):Nat:=(k.map λt=>t.2.2.length+4).sum+1
theorem AZ{hu:A.units+1<gv}:∀(k:Tk) (as:List af) (acc:Array Int) (s:aj) {Q:Array Int->aj->Prop},Paired (λt b=>cV prog w s.heap t b) k as->Q (acc++(k.map mM).toArray) { s with toks:=s.toks+(k.map λt=>t.2.2.length+4).sum } ->
    bg (bn prog w) A (YQ (as.map Value.ref) acc λx hs=>do let h <- pyHash x;jh (nk (hs.push h))) Q E s
  |_,_,acc,s,Q,.nil,q=>by
    rw[qe,vk];exact ai (by simpa using q)
  |_,_,acc,s,Q,.cons (a:=t) (l₁:=k) (b:=b) (l₂:=as) r a0J,q=>by
    rw[ef,uk];refine aa (aa (Gb hu r (ai ?_)));refine AZ k as _ { s with toks:=s.toks+(t.2.2.length+4) } (hu:=hu) a0J ?_;simpa [Xo] using q
theorem Nh{k:Tk}{Q:Int->aj->Prop}(hu:A.units+2<gv)(x:rA prog w s.heap k a)(h:Q (Be k) { s with toks:=s.toks+wT k }):bg (bn prog w) A (pyHash (.ref a)) Q E s:=by
  have ty:=x.ty;obtain⟨o,as,n,g,_,d,i⟩:=x;unfold pyHash
  first | unfold YY | skip
  first | refine aa (Yb (.inr (vb (vb hu))) ?_) | skip
  refine aa (jp ty kr.lookup ?_);refine(show bg _ _ (ite ((ae (tm "tuple.__hash__")==ae fh)=ak) _ _) Q E s from ?_);rw[a0h (by rw[Yy];exact fw)];refine aa (jp ty kr.lookup (aa (m:=xo (.ref a) "__hash__" _) (tz ty kr (fg kr ty XD ?_ (Xc _)))));refine aa (m:=ii (.ref a)) (ik g d (aa ?_));rw[<- wc];refine AZ (hu:=by show A.units+1+1<gv;exact hu) k as #[] s i ?_;rw[Array.empty_append];unfold Be vh at h;refine(show bg _ _ (retInt (fx (k.map mM))) _ _ _ from ?_);generalize fx (k.map mM)=z at h ⊢;refine YZ ?_;refine(show bg _ _ (ite ((decide (-(2:Int) ^ 63<=z)&&decide (z<2 ^ 63))=ak) _ _) Q E _ from ?_);have et:s.toks+(k.map λt=>t.2.2.length+4).sum+1=s.toks+wT k:=by unfold wT;ac_rfl
  by_cases c1:(decide (-(2:Int) ^ 63<=z)&&decide (z<2 ^ 63))=ak
  . rw[a0G c1] at h ⊢;exact ai (by simpa [et] using h)
  . rw[a0h c1] at h ⊢;exact aa (ir (ai (by simpa [et] using h)))
noncomputable def agr:Tk->Tk->Bool
  |x::r,y::t=>if x=y then agr r t else am
  |_,_=>ak
theorem GN{hu:A.units+1<gv}{C:Option Fin×Unit->aj->Prop}:∀(x y:Tk) (as bs:List af),Paired (λt b=>cV prog w s.heap t b) x as->Paired (λt b=>cV prog w s.heap t b) y bs->(agr x y=ak->C (ao,()) s)->(agr x y=am->C (ae (.done (.ret (.bool am))),()) s) ->
    bg (bn prog w) A (YQ ((as.map Value.ref).zip (bs.map Value.ref)) ((ao,()):Option Fin×Unit) λx _=>do
      let __do_lift <- eqBool x.fst x.snd
      if (!__do_lift)=ak then do
          let __do_lift <- a0C (kj am)
          jh (ForInStep.done (ae __do_lift,()))
        else jh (nk (ao,()))) C E s
  |_,_,_,_,.nil,_,h1,_=>by
    rw[qe,List.zip_nil_left,vk];exact ai (h1 rfl)
  |_,_,_,_,.cons _ _,.nil,h1,_=>by
    rw[qe,zg,vk];exact ai (h1 rfl)
  |_,_,_,_,.cons (a:=x) (l₁:=xs) r a0J,.cons (a:=y) (l₁:=ys) r2 rest2,h1,h2=>by
    rw[ef,ef,Vs,uk];refine aa (aa (FE hu r r2 ?_));unfold agr at h1 h2;by_cases e:x=y
    . rw[decide_eq_true e];rw[a0G e] at h1 h2;exact ai (GN (hu:=hu) xs ys _ _ a0J rest2 h1 h2)
    . rw[decide_eq_false e];rw[a0h e] at h2;exact aa (ai (ai (ai (h2 rfl))))
theorem F2:∀x y:Tk,x.length=y.length->agr x y=decide (x=y)
  | [],[],_=>rfl
  |x::xs,y::ys,h=>by
    unfold agr;have:=F2 xs ys (by simpa using h);by_cases e:x=y
    . rw[a0G e,this];simp[e]
    . rw[a0h e];simp[e]
theorem n5{α β:Type}{F:α->β->Prop}:∀{l:List α} {m:List β},Paired F l m->l.length=m.length
  |_,_,.nil=>rfl
  |_,_,.cons _ t=>congrArg (· + 1) (n5 t)
theorem Eo{x y:Tk}{P:Fin->aj->Prop}(hu:A.units+1<gv)(hx:rA prog w s.heap x a)(hy:rA prog w s.heap y b)(h:P (.done (.ret (.bool (decide (x=y))))) s):
    bg (bn prog w) A (qy.«tuple.__eq__» ⟨[.ref a,.ref b],[]⟩) P E s:=by
  have ty:=hy.ty;obtain⟨o,as,n,g,_,d,i⟩:=hx;obtain⟨o2,bs,n2,g2,_,d2,i2⟩:=hy;refine aa (m:=qm (.ref b) (.type "tuple")) (fm ty pf ?_);simp only[ki,de,if_false];refine aa (ik g d (aa (ik g2 d2 (aa ?_))));rw[zh,zh];have l1:=n5 i;have l2:=n5 i2;refine GN (hu:=hu) x y as bs i i2 (λz=>?_) λz=>?_
  . refine(show bg _ _ (a0C (kj ((as.map Value.ref).toArray.size==(bs.map Value.ref).toArray.size))) P E s from ?_);rw[cj,cj,bf,bf];by_cases e:x.length=y.length
    . rw[F2 x y e] at z;rw[z] at h;rw[show (as.length==bs.length)=ak from beq_iff_eq.mpr ⋯];exact ai h
    . rw[decide_eq_false (λq=>e (by rw[q]))] at h;rw[show (as.length==bs.length)=am from beq_eq_false_iff_ne.mpr ⋯];exact ai h
  . have ne:x≠y:=λq=>by
      rw[q,F2 y y rfl] at z;simp at z
    rw[decide_eq_false ne] at h;exact ai h
theorem Cd{h:eh}:∀{x y:Tk} {as:List af},Paired (λt b=>cV prog w h t b) x as->Paired (λt b=>cV prog w h t b) y as->x=y
  |_,_,_,.nil,.nil=>rfl
  |_,_,_,.cons r t,.cons r2 t2=>by rw[r.inj r2,Cd t t2]
theorem CT:∀{as bs:List af},as.map Value.ref=bs.map Value.ref->as=bs
  | [],[],_=>rfl
  |a::as,b::bs,h=>by
    simp only[ef,im,Z1] at h;rw[h.1,CT h.2]
theorem rA.inj{x y:Tk}(hx:rA prog w h x a)(hy:rA prog w h y a):x=y:=by
  obtain⟨o,as,n,g,_,d,i⟩:=hx;obtain⟨o2,bs,n2,g2,_,d2,i2⟩:=hy;rw[g] at g2;cases g2;rw[d] at d2;simp only[Zo,Zp] at d2;obtain rfl:=CT d2.1;exact Cd i i2
theorem Se{x y:Tk}{Q:Bool->aj->Prop}(hu:A.units+2<gv)(hx:rA prog w s.heap x a)(hy:rA prog w s.heap y b)(h:Q (decide (x=y)) s):bg (bn prog w) A (eqBool (.ref a) (.ref b)) Q E s:=by
  unfold eqBool
  try with_reducible refine je ?_
  refine(show bg _ _ (ite ((Value.ref a==Value.ref b)=ak) _ _) Q E s from ?_);by_cases ab:(Value.ref a==Value.ref b)=ak
  . rw[a0G ab];have e:a=b:=by have:=W6 ab;injection this
    subst e;obtain rfl:=hx.inj hy;exact aa (ir (ai (by simpa using h)))
  . rw[a0h ab];exact aa (ny (op:=.Eq) hx.ty hy.ty nn (fg nn hx.ty Yz (Eo (A:=A.in1) (by show A.units+1+1<gv;exact hu) hx hy ⟨_,rfl,(λe=>nomatch e),gx h⟩) (Yc _ _)) (vb (vb hu)))
theorem rA.keeps{h h':eh}{k:Tk}{a d:af}{o:jn}{es:Array mq}{ep:Nat}(x:rA prog w h k a)(ho:h.get? d=ae o)(hd:o.data=.dict es ep)(hs:qb d h h'):rA prog w h' k a:=by
  obtain⟨o2,as,n,g,cl,d2,i⟩:=x;have ne:a≠d:=by
    rintro rfl;rw[g] at ho;cases ho;rw[hd] at d2;cases d2
  exact⟨o2,as,n,(hs.2 a ne).trans g,cl,d2,Paired.mapP i λ_ _ t=>t.keeps ho hd hs⟩
theorem LU{k:Tk}{Q:Bool->aj->Prop}(hk:rA prog w s.heap k a)(h:Q ak s):bg (bn prog w) A (W7 8 (.ref a)) Q E s:=by
  have ty:=hk.ty;obtain⟨o,as,n,g,_,d,i⟩:=hk;unfold W7;refine aa (jp ty nn.lookup (aa (m:=qm (.ref a) (.type "tuple")) (fm ty pf ?_)));simp only[ki,de,if_false];refine aa (oj g d (aa ?_));refine(show bg _ _ (YQ ((as.map Value.ref).toArray) _ _) _ _ s from ?_);rw[<- wc];refine xc _ (λa0J r s'=>r.1=ao/\s'=s /\ ∀v∈a0J,∃t b,v=Value.ref b/\cV prog w s.heap t b) _ (λv a0J r s' z=>?_) (λr s' z=>?_) _ _ ⟨rfl,rfl,λv hv=>?_⟩
  . obtain⟨_,rfl,al⟩:=z;obtain⟨t,b,rfl,it⟩:=al v bz;refine aa (Dr (m:=5) it ?_);simp only[ki,de,if_false];exact ai ⟨rfl,rfl,λy hy=>al y (bp _ hy)⟩
  . obtain⟨r1,r2⟩:=r;obtain⟨hr,rfl,_⟩:=z;cases hr;exact ai h
  . rw[zh] at hv;clear d;induction i with
    |nil=>simp at hv
    |cons r a0J ih=>
      rcases bv.mp hv with rfl | hv
      . exact⟨_,_,rfl,r⟩
      . exact ih hv
noncomputable def oX(prog:bj)(w:df):HeapKind prog w Tk where
  is:=rA prog w
  hash:=Be
  draws:=wT
  room:=λA=>A.units+2<gv
  inj:=λhx hy=>hx.inj hy
  keeps:=λx ho hd hs=>x.keeps ho hd hs
  pyHash:=λhu hk h=>Nh hu hk h
  eqBool:=λhu hx hy h=>Se hu hx hy h
  quiet:=λhk h=>LU hk h
noncomputable abbrev Uy(x:Tk×af):mq:=⟨Be x.1,.ref x.2,.bool ak⟩
def ndict(a:af)(xs:List (Tk×af)):eh->Prop:=λh=>xs.length<=bo/\(a==km)=am /\ ∃o es ep,h.get? a=ae o/\o.ExactDict/\o.data=.dict es ep/\es.toList=xs.map Uy/\(xs.map (·.1)).Nodup
noncomputable abbrev HO.dN(a:af)(xs:List (Tk×af)):HO:=.ext (ndict a xs)
def IM(H:Hp)(k:Tl)(b:af):Prop:=∃c,H b=ae (.tup [.int k.1,.int k.2.1,.ref c])/\H c=ae (.tup (k.2.2.map V.int))
def TileAt(H:Hp)(k:Tk)(b:af):Prop:=∃as:List af,H b=ae (.tup (as.map V.ref))/\Paired (IM H) k as
theorem IM.is{k:Tl}(ok:nJ P w H h)(t:IM H k b):cV P w h k b:=by
  obtain⟨c,e1,e2⟩:=t;obtain⟨_,its,r,o,g,cl,n,d⟩:=(show cR P w H h b (.tup _) from ok b _ e1);obtain⟨_,its2,r2,o2,g2,cl2,n2,d2⟩:=(show cR P w H h c (.tup _) from ok c _ e2);cases r with
  |cons r1 r=>
    cases r with
    |cons r2' r=>
      cases r with
      |cons r3 r=>
        cases r;obtain⟨t1,rfl⟩:=r1;obtain⟨t2,rfl⟩:=r2';cases r3;refine⟨o,t1,t2,c,n,g,cl,d,o2,its2.toArray,n2,g2,cl2,d2,?_⟩;have all:∀{ns:List Int} {us:List ah},bM (ns.map V.int) us->ItemsAre (XR P w) ns us:=by
          intro ns;induction ns with
          |nil=>intro us r;cases r;exact .nil
          |cons n ns ih=>
            intro us r;cases r with
            |cons r1 r=>
              obtain⟨t,rfl⟩:=r1;exact .cons (show WK n (.int n t)=ak from by simp[WK]) (ih r)
        simpa using all r2
theorem uH:∀{as:List af} {us:List ah},bM (as.map V.ref) us->us=as.map Value.ref
  | [],_,.nil=>rfl
  |_::_,_,.cons r t=>by cases r;rw[uH t];rfl
theorem TileAt.is{k:Tk}(ok:nJ P w H h)(t:TileAt H k b):rA P w h k b:=by
  obtain⟨as,e,p⟩:=t;obtain⟨_,its,r,o,g,cl,n,d⟩:=(show cR P w H h b (.tup _) from ok b _ e);obtain rfl:=uH r;exact⟨o,as,n,g,cl,d,Paired.mapP p λ_ _ z=>z.is ok⟩
theorem D3{xs:List (Tk×af)}:∀h1 h2:eh,ndict a xs h1->(∀o,h1.get? a=ae o->h2.get? a=ae o)->ndict a xs h2:=λh1 h2 ⟨z,y,o,es,ep,g,r⟩ k=>⟨z,y,o,es,ep,k o g,r⟩
theorem tV{xs:List (Tk×af)}(x:ndict a xs h):cR P w H h a (.dN a xs):=by
  refine⟨x,?_,D3⟩;obtain⟨_,_,o,_,_,g,_⟩:=x;exact⟨o,g⟩
theorem tW{xs:List (Tk×af)}(ok:nJ P w H h)(e:H a=ae (.dN a xs))(t:∀x∈xs,TileAt H x.1 x.2):xs.length<=bo/\(a==km)=am/\h.DictOfH (oX P w) a (xs.map λx=>(x.1,x.2,.bool ak)):=by
  obtain⟨⟨z,y,o,es,ep,g,ex,d,l,nd⟩,_⟩:=(show cR P w H h a (.dN a xs) from ok a _ e);refine⟨z,y,o,es,ep,g,ex,d,?_,λx hx=>?_,?_⟩
  . rw[l,ja];rfl
  . obtain⟨p,hp,rfl⟩:=fq.mp hx;exact(t p hp).is ok
  . rw[ja];exact nd
noncomputable def hasN(xs:List (Tk×af))(k:Tk):Bool:=xs.any λx=>decide (x.1=k)
noncomputable def xP(xs:List (Tk×af))(k:Tk)(b:af):List (Tk×af):=if hasN xs k then xs else xs++[(k,b)]
noncomputable abbrev Dq(x:Tk×af):Tk×af×ah:=(x.1,x.2,.bool ak)
theorem vG(xs:List (Tk×af))(k:Tk):(Xn (xs.map Dq) k).isSome=hasN xs k:=by
  induction xs with
  |nil=>rfl
  |cons x r ih=>
    unfold Xn hasN at *;rw[ef,uo,wb];by_cases e:x.1=k
    . simp[e]
    . simp only[decide_eq_false e,xj];exact ih
theorem xG(xs:List (Tk×af))(k:Tk)(b:af):a00 (xs.map Dq) k b (.bool ak)=(xP xs k b).map Dq:=by
  unfold a00 xP;rw[vG];by_cases e:hasN xs k=ak
  . rw[a0G e,a0G e,ja];refine jo λx _=>?_;unfold putAt;simp only[Function.comp_apply];split<;>rfl
  . rw[a0h e,a0h e,oo];rfl
theorem FQ(xs:List (Tk×af))(k:Tk)(b:af):(xP xs k b).length<=xs.length+1:=by
  unfold xP;split
  . exact vd _
  . rw[dh];exact cg _
section
variable {xs:List (Tk×af)}{k:Tk}
theorem HP{Q:Unit->aj->Prop}(hu:A.units+3<gv)(I:Inv X pj σ H s)(e:H a=ae (.dN a xs))(t:∀x∈xs,TileAt H x.1 x.2)(tb:TileAt H k b)(hl:xs.length<bo)
    (h:∀s',Inv X pj σ (upd H a (.dN a (xP xs k b))) s'->Q () s'):bg (bn X.prog X.w) A (Z6 (.ref a) (.ref b) (.bool ak)) Q E s:=by
  obtain⟨z,hd,dd⟩:=tW I.hok e t;refine XC (knd:=oX X.prog X.w) (hsz:=by rw[bf];exact z) hu (tb.is I.hok) dd λh' dd' hs=>h _ ?_;rw[xG] at dd';obtain⟨q,es,ep,hq,h2,h3,h4,_,h5⟩:=dd';refine wV I (by rw[e];exact nh) hs ⟨q,hq⟩ (tV ⟨mh (FQ xs k b) hl,hd,q,es,ep,hq,h2,h3,?_,?_⟩)
  . rw[h4,ja];rfl
  . rw[ja] at h5;exact h5
theorem Ue(hu:A.units+3<gv)(I:Inv X pj σ H s)(e:H a=ae (.dN a xs))(t:∀x∈xs,TileAt H x.1 x.2)(tb:TileAt H k b)(h:∀s',Inv X pj σ H s'->Q (.bool (hasN xs k)) s'):
    bg (bn X.prog X.w) A (dm .In (.ref b) (.ref a)) Q E s:=by
  obtain⟨z,hd,dd⟩:=tW I.hok e t;refine wpAny_in_heap (knd:=oX X.prog X.w) hu (tb.is I.hok) hd dd ?_;rw[vG];exact h _ (I.tok _)
theorem N1(hu:A.units+3<gv)(I:Inv X pj σ H s)(e:H a=ae (.dN a xs))(t:∀x∈xs,TileAt H x.1 x.2)(tb:TileAt H k b)(h:∀s',Inv X pj σ H s'->Q (.bool (!hasN xs k)) s'):
    bg (bn X.prog X.w) A (dm .NotIn (.ref b) (.ref a)) Q E s:=by
  obtain⟨z,hd,dd⟩:=tW I.hok e t;refine wpAny_notIn_heap (knd:=oX X.prog X.w) hu (tb.is I.hok) hd dd ?_;rw[vG];exact h _ (I.tok _)
end
section
variable {o i:Expr}{ty:TE}
def Oq:TE:=λ_ H Q=>∀p,H p=ao->Q (.ref p) (upd H p (.dN p []))
theorem Jb:PE X (.Dict [] [] pos) Oq:=λpj s σ H Q I h=>
  Yx ⟨.ref s.heap.objs.size,_,I.laid (a:=s.heap.objs.size) (o:=.dN s.heap.objs.size []) (t':=s.toks) (λ_ _ q=>au _ q) (cg _)
    (tV ⟨qd _,beq_eq_false_iff_ne.mpr (Ne.symm (gp I.big)),_,#[],0,cm _ rfl,⟨rfl,rfl,rfl⟩,rfl,rfl,Yw⟩),rfl,h _ (I.hok.fresh (cg _))⟩
def Ox(td ty tv:TE):TS:=λD σ H=>tv σ H λv H1=>v=.bl ak/\td σ H1 λx H2=>ty σ H2 λy H3=>∃a b xs k,x=.ref a/\y=.ref b/\H3 a=ae (.dN a xs)/\(∀x∈xs,TileAt H3 x.1 x.2)/\TileAt H3 k b/\xs.length<bo/\D.nx σ (upd H3 a (.dN a (xP xs k b)))
theorem JS(hu:X.A.units+3<gv)(ho:PE X o td)(hi:PE X i ty)(hv:PE X a0Q tv)(hs:io a0Q (ae (.Subscript o i a0Y)) pos.line X.env=jh am):
    PS X (.Assign [.Subscript o i a0Y] a0Q pos) (Ox td ty tv):=by
  intro pj s σ H D I h;refine Wq (thn (hv pj s σ H _ I h) λr s1 ⟨v,H1,I1,rv,ev,q1⟩=>thn (ho pj s1 σ H1 _ I1 q1) λu s2 ⟨x,H2,I2,rx,q2⟩=>thn (hi pj s2 σ H2 _ I2 q2) λiv s3 ⟨y,H3,I3,ry,a,b,xs,k,ex,ey,e,t,tb,hl,q3⟩=>?_) hs;subst ev ex ey;obtain rfl:u=Value.ref a:=rx;obtain rfl:iv=Value.ref b:=ry;obtain rfl:r=kj ak:=rv;exact HP hu I3 e t tb hl λs4 I4=>⟨σ,_,I4,q3⟩
def RY(neg:Bool):R2:=λx y H Q=>∃a b xs k,x=.ref b/\y=.ref a/\H a=ae (.dN a xs)/\(∀x∈xs,TileAt H x.1 x.2)/\TileAt H k b/\Q (.bl (if neg then !hasN xs k else hasN xs k)) H
theorem Pq(hu:X.A.units+3<gv):lQ X (dm .In) (RY am):=by
  intro pj s σ H x y v u Q I rx ry h;obtain⟨a,b,xs,k,rfl,rfl,e,t,tb,q⟩:=h;cases rx;cases ry;exact Ue hu I e t tb λs' I'=>⟨.bl (hasN xs k),H,I',rfl,q⟩
theorem HK(hu:X.A.units+3<gv):lQ X (dm .NotIn) (RY ak):=by
  intro pj s σ H x y v u Q I rx ry h;obtain⟨a,b,xs,k,rfl,rfl,e,t,tb,q⟩:=h;cases rx;cases ry;exact N1 hu I e t tb λs' I'=>⟨.bl (!hasN xs k),H,I',rfl,q⟩
end
end _L
variable {xs:List (List _L.cB×_L.V)}{M F:af->Prop}{HZ:_L.Hp}
namespace _Z
open _L
abbrev St:=_L.St
inductive Dv where
 |non
 |bl (b:Bool)
 |int (i:Int)
 |str (x:bq)
 |tup (xs:List Dv)
 |lst (xs:List Dv)
 |dik (kvs:List (cB×Dv))
 |dit (kvs:List (List cB×Dv))
 |obj (C:af) (fs:List (bq×Dv))
 |scr (ns:List Int)
  |exc (C:af) (p:Option Int)
  |dns (ks:List Tk)
noncomputable def kB:Dv->Bool
 | .lst _=>am
 | .dik _=>am
 | .dit _=>am
 | .obj _ _=>am
 | .dns _=>am
 | .tup xs=>flatDs xs
 |_=>ak
where flatDs:List Dv->Bool
 | []=>ak
 |d::r=>kB d&&flatDs r
noncomputable abbrev flatDs:=kB.flatDs
def Nt(K:aq)(H:Hp)(a:af)(ns:List Int):Prop:=
 (∃o,H a=ae (.frz o (.lst (ns.map V.int)))) \/
  ∃(o:jn) (its:Array ah) (n:Nat),K.lookup a=ae o/\o.cls=.type "list" /\ o.dict=ao/\o.data=.seq its n/\its.size<=bo/\bM (ns.map V.int) its.toList
theorem Nt.sq(h:Nt K H a ns):g6 K H a (ns.map V.int):=by
 rcases h with⟨o,h⟩ | h
 ·exact .inl (.inr ⟨o,h⟩)
 ·exact .inr h
def zA(H:Hp):Option Int->Option af->Prop
 |none,ao=>True
 |some n,ae d=>∃od,H d=ae (.frz od (.xd [("step",.int n)]))
 |_,_=>False
theorem zA.gen(h:∀a o u,H a=ae (.frz o u)->H' a=ae (.frz o u)):∀{p:Option Int} {d:Option af},zA H p d->zA H' p d
 |none,ao,z=>z
 |some _,ae _,⟨od,z⟩=>⟨od,h _ _ _ z⟩
 |none,ae _,z=>z.elim
 |some _,ao,z=>z.elim
def Oe(H:Hp)(a C:af)(p:Option Int):Prop:=∃o u,H a=ae (.frz o u)/\o.cls=.ref C/\zA H p o.dict/\mH o
def VM(H:Hp)(a:af)(ks:List Tk):Prop:=∃xs,H a=ae (.dN a xs)/\ks=xs.map (·.1) /\ ∀x∈xs,TileAt H x.1 x.2
mutual
inductive Rep(K:aq)(M:af->Prop)(H:Hp):V->Dv->Prop
 |non:Rep K M H .non .non
 |bl (b:Bool):Rep K M H (.bl b) (.bl b)
 |int (i:Int):Rep K M H (.int i) (.int i)
 |str (x:bq):Rep K M H (.str x) (.str x)
 |tup {a:af} {xs:List V} {ds:List Dv}:H a=ae (.tup xs)->Reps K M H xs ds->Rep K M H (.ref a) (.tup ds)
 |lst {a:af} {xs:List V} {ds:List Dv}:H a=ae (.lst xs) -> ¬M a->Reps K M H xs ds->Rep K M H (.ref a) (.lst ds)
 |dik {a:af} {kvs:List (cB×V)} {ds:List (cB×Dv)}:H a=ae (.dK kvs) -> ¬M a->RepK K M H kvs ds->Rep K M H (.ref a) (.dik ds)
 |dit {a:af} {ep:Nat} {kvs:List (List cB×V)} {ds:List (List cB×Dv)}:H a=ae (.dT ep kvs) -> ¬M a->RepT K M H kvs ds->Rep K M H (.ref a) (.dit ds)
 |obj {a C dx:af} {fs:List (bq×V)} {ds:List (bq×Dv)}:H a=ae (.ins C dx fs) -> ¬M a->RepF K M H fs ds->Rep K M H (.ref a) (.obj C ds)
 |scr {a:af} {ns:List Int}:Nt K H a ns->Rep K M H (.ref a) (.scr ns)
 |exc {a C:af} {p:Option Int}:Oe H a C p->Rep K M H (.ref a) (.exc C p)
 |dns {a:af} {ks:List Tk}:VM H a ks -> ¬M a->Rep K M H (.ref a) (.dns ks)
inductive Reps(K:aq)(M:af->Prop)(H:Hp):List V->List Dv->Prop
 |nil:Reps K M H [] []
 |cons {x:V} {d:Dv} {xs:List V} {ds:List Dv}:Rep K M H x d->Reps K M H xs ds->Reps K M H (x::xs) (d::ds)
inductive RepK(K:aq)(M:af->Prop)(H:Hp):List (cB×V)->List (cB×Dv)->Prop
 |nil:RepK K M H [] []
 |cons {k:cB} {x:V} {d:Dv} {xs:List (cB×V)} {ds:List (cB×Dv)}:Rep K M H x d->RepK K M H xs ds->RepK K M H ((k,x)::xs) ((k,d)::ds)
inductive RepT(K:aq)(M:af->Prop)(H:Hp):List (List cB×V)->List (List cB×Dv)->Prop
 |nil:RepT K M H [] []
 |cons {k:List cB} {x:V} {d:Dv} {xs:List (List cB×V)} {ds:List (List cB×Dv)}:Rep K M H x d->RepT K M H xs ds->RepT K M H ((k,x)::xs) ((k,d)::ds)
inductive RepF(K:aq)(M:af->Prop)(H:Hp):List (bq×V)->List (bq×Dv)->Prop
 |nil:RepF K M H [] []
 |cons {k:bq} {x:V} {d:Dv} {xs:List (bq×V)} {ds:List (bq×Dv)}:Rep K M H x d->RepF K M H xs ds->RepF K M H ((k,x)::xs) ((k,d)::ds)
end
structure Gen(K:aq)(M M':af->Prop)(H H':Hp):Prop where
 l:∀a o,H a=ae o->IN (ae o) -> ¬M a->H' a=ae o /\ ¬M' a
 t:∀a xs,H a=ae (.tup xs)->H' a=ae (.tup xs)
 s:∀a ns,Nt K H a ns->Nt K H' a ns
 x:∀a o u,H a=ae (.frz o u)->H' a=ae (.frz o u)
variable {ds:List Dv}{o:HO}{M':af->Prop}{H'':Hp}
section
variable {M'':af->Prop}
theorem Reps.ind{P:List V->List Dv->Prop}(h0:P [] [])(h1:∀(x:V) (d:Dv) (xs:List V) (ds:List Dv),Rep K M H x d->Reps K M H xs ds->P xs ds->P (x::xs) (d::ds)){xs:List V}(r:Reps K M H xs ds):P xs ds:=
 Reps.rec (motive_1:=λ_ _ _=>True) (motive_2:=λxs ds _=>P xs ds) (motive_3:=λ_ _ _=>True) (motive_4:=λ_ _ _=>True) (motive_5:=λ_ _ _=>True) trivial (λ_=>trivial) (λ_=>trivial) (λ_=>trivial) (λ_ _ _=>trivial) (λ_ _ _ _=>trivial) (λ_ _ _ _=>trivial) (λ_ _ _ _=>trivial) (λ_ _ _ _=>trivial) (λ_=>trivial) (λ_=>trivial) (λ_ _=>trivial) h0 (λa r _ ih=>h1 _ _ _ _ a r ih) trivial (λ_ _ _ _=>trivial) trivial (λ_ _ _ _=>trivial) trivial (λ_ _ _ _=>trivial) r
theorem RepK.ind{P:List (cB×V)->List (cB×Dv)->Prop}(h0:P [] [])(h1:∀(k:cB) (x:V) (d:Dv) (xs:List (cB×V)) (ds:List (cB×Dv)),Rep K M H x d->RepK K M H xs ds->P xs ds->P ((k,x)::xs) ((k,d)::ds)){xs:List (cB×V)}{ds:List (cB×Dv)}(r:RepK K M H xs ds):P xs ds:=
 RepK.rec (motive_1:=λ_ _ _=>True) (motive_2:=λ_ _ _=>True) (motive_3:=λxs ds _=>P xs ds) (motive_4:=λ_ _ _=>True) (motive_5:=λ_ _ _=>True) trivial (λ_=>trivial) (λ_=>trivial) (λ_=>trivial) (λ_ _ _=>trivial) (λ_ _ _ _=>trivial) (λ_ _ _ _=>trivial) (λ_ _ _ _=>trivial) (λ_ _ _ _=>trivial) (λ_=>trivial) (λ_=>trivial) (λ_ _=>trivial) trivial (λ_ _ _ _=>trivial) h0 (λa r _ ih=>h1 _ _ _ _ _ a r ih) trivial (λ_ _ _ _=>trivial) trivial (λ_ _ _ _=>trivial) r
theorem RepT.ind{P:List (List cB×V)->List (List cB×Dv)->Prop}(h0:P [] [])(h1:∀(k:List cB) (x:V) (d:Dv) (xs:List (List cB×V)) (ds:List (List cB×Dv)),Rep K M H x d->RepT K M H xs ds->P xs ds->P ((k,x)::xs) ((k,d)::ds)){ds:List (List cB×Dv)}(r:RepT K M H xs ds):P xs ds:=
 RepT.rec (motive_1:=λ_ _ _=>True) (motive_2:=λ_ _ _=>True) (motive_3:=λ_ _ _=>True) (motive_4:=λxs ds _=>P xs ds) (motive_5:=λ_ _ _=>True) trivial (λ_=>trivial) (λ_=>trivial) (λ_=>trivial) (λ_ _ _=>trivial) (λ_ _ _ _=>trivial) (λ_ _ _ _=>trivial) (λ_ _ _ _=>trivial) (λ_ _ _ _=>trivial) (λ_=>trivial) (λ_=>trivial) (λ_ _=>trivial) trivial (λ_ _ _ _=>trivial) trivial (λ_ _ _ _=>trivial) h0 (λa r _ ih=>h1 _ _ _ _ _ a r ih) trivial (λ_ _ _ _=>trivial) r
theorem RepF.ind{P:List (bq×V)->List (bq×Dv)->Prop}(h0:P [] [])(h1:∀(k:bq) (x:V) (d:Dv) (xs:List (bq×V)) (ds:List (bq×Dv)),Rep K M H x d->RepF K M H xs ds->P xs ds->P ((k,x)::xs) ((k,d)::ds)){xs:List (bq×V)}{ds:List (bq×Dv)}(r:RepF K M H xs ds):P xs ds:=
 RepF.rec (motive_1:=λ_ _ _=>True) (motive_2:=λ_ _ _=>True) (motive_3:=λ_ _ _=>True) (motive_4:=λ_ _ _=>True) (motive_5:=λxs ds _=>P xs ds) trivial (λ_=>trivial) (λ_=>trivial) (λ_=>trivial) (λ_ _ _=>trivial) (λ_ _ _ _=>trivial) (λ_ _ _ _=>trivial) (λ_ _ _ _=>trivial) (λ_ _ _ _=>trivial) (λ_=>trivial) (λ_=>trivial) (λ_ _=>trivial) trivial (λ_ _ _ _=>trivial) trivial (λ_ _ _ _=>trivial) trivial (λ_ _ _ _=>trivial) h0 (λa r _ ih=>h1 _ _ _ _ _ a r ih) r
theorem _root_._L.TileAt.gen{k:Tk}(t:TileAt H k b)(ht:∀a xs,H a=ae (.tup xs)->H' a=ae (.tup xs)):TileAt H' k b:=let ⟨as,e1,e2⟩:=t;⟨as,ht _ _ e1,Paired.mapP e2 λ_ _ zq5=>by obtain⟨c,z1,z2⟩:=zq5;exact⟨c,ht _ _ z1,ht _ _ z2⟩⟩
theorem Rep.gen(G:Gen K M M' H H'){x:V}{d:Dv}(r:Rep K M H x d):Rep K M' H' x d:=
 Rep.rec (motive_1:=λx d _=>Rep K M' H' x d) (motive_2:=λxs ds _=>Reps K M' H' xs ds) (motive_3:=λxs ds _=>RepK K M' H' xs ds) (motive_4:=λxs ds _=>RepT K M' H' xs ds) (motive_5:=λxs ds _=>RepF K M' H' xs ds)
  .non .bl .int .str (λh _ r=>.tup (G.t _ _ h) r) (λh m _ r=>.lst (G.l _ _ h trivial m).1 (G.l _ _ h trivial m).2 r) (λh m _ r=>.dik (G.l _ _ h trivial m).1 (G.l _ _ h trivial m).2 r) (λh m _ r=>.dit (G.l _ _ h trivial m).1 (G.l _ _ h trivial m).2 r)
  (λh m _ r=>.obj (G.l _ _ h trivial m).1 (G.l _ _ h trivial m).2 r) (λh=>.scr (G.s _ _ h)) (λzq6=>by obtain⟨o,u,h,z,y,m⟩:=zq6;exact .exc ⟨o,u,G.x _ _ _ h,z,y.gen G.x,m⟩) (λ⟨xs,h,e,t⟩ m=>.dns ⟨xs,(G.l _ _ h trivial m).1,e,λx hx=>(t x hx).gen G.t⟩ (G.l _ _ h trivial m).2) .nil (λ_ _ a r=>.cons a r) .nil (λ_ _ a r=>.cons a r) .nil (λ_ _ a r=>.cons a r) .nil (λ_ _ a r=>.cons a r) r
theorem Reps.gen(G:Gen K M M' H H'){xs:List V}{ds:List Dv}(r:Reps K M H xs ds):Reps K M' H' xs ds:=r.ind .nil λ_ _ _ _ a _ ih=>.cons (a.gen G) ih
theorem RepK.gen(G:Gen K M M' H H'){xs:List (cB×V)}{ds:List (cB×Dv)}(r:RepK K M H xs ds):RepK K M' H' xs ds:=r.ind .nil λ_ _ _ _ _ a _ ih=>.cons (a.gen G) ih
theorem RepT.gen(G:Gen K M M' H H'){xs:List (List cB×V)}{ds:List (List cB×Dv)}(r:RepT K M H xs ds):RepT K M' H' xs ds:=r.ind .nil λ_ _ _ _ _ a _ ih=>.cons (a.gen G) ih
theorem RepF.gen(G:Gen K M M' H H'){xs:List (bq×V)}{ds:List (bq×Dv)}(r:RepF K M H xs ds):RepF K M' H' xs ds:=r.ind .nil λ_ _ _ _ _ a _ ih=>.cons (a.gen G) ih
theorem aT.scr(S:aT H H')(h:Nt K H a ns):Nt K H' a ns:=by
 rcases h with⟨o,h⟩ | h
 ·exact .inl ⟨o,S _ _ h⟩
 ·exact .inr h
theorem Gen.mono(S:aT H H'):Gen K M M H H':=⟨λa o h _ m=>⟨S _ _ h,m⟩,λ_ _ h=>S _ _ h,λ_ _ h=>aT.scr S h,λ_ _ _ h=>S _ _ h⟩
theorem Gen.weak(h:∀a,M' a->M a):Gen K M M' H H:=⟨λa o e _ m=>⟨e,λz=>m (h a z)⟩,λ_ _ h=>h,λ_ _ h=>h,λ_ _ _ h=>h⟩
theorem Gen.fresh{p:af}(hp:H p=ao):Gen K M (λb=>M b \/ b=p) H H:=
 ⟨λa o e _ m=>⟨e,λz=>z.elim m λz=>by rw[z,hp] at e;cases e⟩,λ_ _ h=>h,λ_ _ h=>h,λ_ _ _ h=>h⟩
theorem Gen.trans(a:Gen K M M' H H')(b:Gen K M' M'' H' H''):Gen K M M'' H H'':=
 ⟨λc o e mu m=>b.l c o (a.l c o e mu m).1 mu (a.l c o e mu m).2,λc xs h=>b.t c xs (a.t c xs h),λc ns h=>b.s c ns (a.s c ns h),λc o u h=>b.x c o u (a.x c o u h)⟩
theorem EM{p:af}{u:HO}(mu:IN (H p))(e:H a=ae u)(n:¬IN (ae u)):a≠p:=λz=>by
 subst z;rw[e] at mu;exact n mu
theorem Gen.write{p:af}(hM:M p)(mu:IN (H p)):Gen K M M H (upd H p o):=by
 refine⟨λa u e _ m=>⟨?_,m⟩,λa xs h=>?_,λa ns h=>?_,λa o u h=>by rw[b5 (EM mu h λz=>z)];exact h⟩
 ·rw[b5 λz=>m (by rw[z];exact hM)];exact e
 ·rw[b5 (EM mu h λz=>z)];exact h
 ·rcases h with⟨u,h⟩ | h
  ·exact .inl ⟨u,by rw[b5 (EM mu h λz=>z)];exact h⟩
  ·exact .inr h
end
theorem Rep.mono{x:V}{d:Dv}(S:aT H H')(h:Rep K M H x d):Rep K M H' x d:=h.gen (.mono S)
theorem Rep.weak{x:V}{d:Dv}(w:∀a,M' a->M a)(h:Rep K M H x d):Rep K M' H x d:=h.gen (.weak w)
theorem Reps.mono{xs:List V}{ds:List Dv}(S:aT H H')(h:Reps K M H xs ds):Reps K M H' xs ds:=h.gen (.mono S)
theorem Reps.weak{xs:List V}{ds:List Dv}(w:∀a,M' a->M a)(h:Reps K M H xs ds):Reps K M' H xs ds:=h.gen (.weak w)
theorem fD{d:Dv}(f:flatDs (d::ds)=ak):kB d=ak/\flatDs ds=ak:=by
 have f':(kB d&&flatDs ds)=ak:=f;rwa[cp] at f'
theorem Rep.flat{x:V}{d:Dv}(f:kB d=ak)(r:Rep K M H x d):Rep K M' H x d:=
 Rep.rec (motive_1:=λx d _=>kB d=ak->Rep K M' H x d) (motive_2:=λxs ds _=>flatDs ds=ak->Reps K M' H xs ds) (motive_3:=λ_ _ _=>True) (motive_4:=λ_ _ _=>True) (motive_5:=λ_ _ _=>True)
  (λ_=>.non) (λb _=>.bl b) (λi _=>.int i) (λx _=>.str x) (λh _ ih f=>.tup h (ih (by rw[kB] at f;exact f))) (λ_ _ _ _ f=>by simp[kB] at f) (λ_ _ _ _ f=>by simp[kB] at f) (λ_ _ _ _ f=>by simp[kB] at f)
  (λ_ _ _ _ f=>by simp[kB] at f) (λh _=>.scr h) (λh _=>.exc h) (λ_ _ f=>by simp[kB] at f) (λ_=>.nil) (λ_ _ a r f=>.cons (a (fD f).1) (r (fD f).2)) trivial (λ_ _ _ _=>trivial) trivial (λ_ _ _ _=>trivial) trivial (λ_ _ _ _=>trivial) r f
theorem Reps.flat{xs:List V}{ds:List Dv}(f:flatDs ds=ak)(r:Reps K M H xs ds):Reps K M' H xs ds:=
 r.ind (P:=λxs ds=>flatDs ds=ak->Reps K M' H xs ds) (λ_=>.nil) (λ_ _ _ _ a _ ih f=>.cons (a.flat (fD f).1) (ih (fD f).2)) f
theorem RepF.flat{xs:List (bq×V)}{ds:List (bq×Dv)}(f:flatDs (ds.map (·.2))=ak)(r:RepF K M H xs ds):RepF K M' H xs ds:=
 r.ind (P:=λxs ds=>flatDs (ds.map (·.2))=ak->RepF K M' H xs ds) (λ_=>.nil) (λ_ _ _ _ _ a _ ih f=>.cons (a.flat (fD f).1) (ih (fD f).2)) f
theorem RepK.flat{xs:List (cB×V)}{ds:List (cB×Dv)}(f:flatDs (ds.map (·.2))=ak)(r:RepK K M H xs ds):RepK K M' H xs ds:=
 r.ind (P:=λxs ds=>flatDs (ds.map (·.2))=ak->RepK K M' H xs ds) (λ_=>.nil) (λ_ _ _ _ _ a _ ih f=>.cons (a.flat (fD f).1) (ih (fD f).2)) f
theorem RepT.flat{xs:List (List cB×V)}{ds:List (List cB×Dv)}(f:flatDs (ds.map (·.2))=ak)(r:RepT K M H xs ds):RepT K M' H xs ds:=
 r.ind (P:=λxs ds=>flatDs (ds.map (·.2))=ak->RepT K M' H xs ds) (λ_=>.nil) (λ_ _ _ _ _ a _ ih f=>.cons (a.flat (fD f).1) (ih (fD f).2)) f
theorem Reps.length{xs:List V}{ds:List Dv}(r:Reps K M H xs ds):xs.length=ds.length:=r.ind (P:=λxs ds=>xs.length=ds.length) rfl λ_ _ _ _ _ _ ih=>congrArg (· + 1) ih
theorem Reps.append{xs ys:List V}{es:List Dv}(r:Reps K M H xs ds)(s:Reps K M H ys es):Reps K M H (xs++ys) (ds++es):=r.ind (P:=λxs ds=>Reps K M H (xs++ys) (ds++es)) s λ_ _ _ _ a _ ih=>.cons a ih
theorem Reps.get{xs:List V}{d:Dv}(r:Reps K M H xs ds)(e:ds[i]?=ae d):∃x,xs[i]?=ae x/\Rep K M H x d:=
 r.ind (P:=λxs ds=>∀i,ds[i]?=ae d -> ∃x,xs[i]?=ae x/\Rep K M H x d) (λi e=>by rw[List.getElem?_nil] at e;cases e) (λx y xs ys a _ ih i e=>by
  cases i with
  |zero=>rw[mw] at e;cases e;exact⟨x,rfl,a⟩
  |succ i=>exact ih i e) i e
theorem Reps.take{xs:List V}{ds:List Dv}(n:Nat)(r:Reps K M H xs ds):Reps K M H (xs.take n) (ds.take n):=
 r.ind (P:=λxs ds=>∀n,Reps K M H (xs.take n) (ds.take n)) (λn=>by cases n<;>exact .nil) (λ_ _ _ _ a r ih n=>by cases n with
  |zero=>exact .nil
  |succ n=>exact .cons a (ih n)) n
theorem Reps.drop{xs:List V}{ds:List Dv}(n:Nat)(r:Reps K M H xs ds):Reps K M H (xs.drop n) (ds.drop n):=
 r.ind (P:=λxs ds=>∀n,Reps K M H (xs.drop n) (ds.drop n)) (λn=>by cases n<;>exact .nil) (λ_ _ _ _ a r ih n=>by cases n with
  |zero=>exact .cons a r
  |succ n=>exact ih n) n
theorem Reps.set{x:V}{d:Dv}(a:Rep K M H x d){xs:List V}{ds:List Dv}(n:Nat)(r:Reps K M H xs ds):Reps K M H (xs.set n x) (ds.set n d):=
 r.ind (P:=λxs ds=>∀n,Reps K M H (xs.set n x) (ds.set n d)) (λ_=>.nil) (λ_ _ _ _ b r ih n=>by cases n with
  |zero=>exact .cons a r
  |succ n=>exact .cons b (ih n)) n
theorem Reps.repl{xs:List V}{ds:List Dv}(h:Reps K M H xs ds):∀n:Nat,Reps K M H (av n xs).flatten (av n ds).flatten
 |0=>.nil
 |n+1=>by
  rw[kq,kq,vz,vz];exact h.append (Reps.repl h n)
theorem Reps.ints:∀ns:List Int,Reps K M H (ns.map V.int) (ns.map Dv.int)
 | []=>.nil
 |n::r=>.cons (.int n) (Reps.ints r)
def fB(K:aq)(M:af->Prop)(H:Hp)(a:af):Dv->Prop
 | .lst ds=>∃xs,H a=ae (.lst xs)/\Reps K M H xs ds
 | .dik ds=>∃kvs,H a=ae (.dK kvs)/\RepK K M H kvs ds
 | .dit ds=>∃ep kvs,H a=ae (.dT ep kvs)/\RepT K M H kvs ds
 | .obj C ds=>∃dx fs,H a=ae (.ins C dx fs)/\RepF K M H fs ds
 | .dns ks=>VM H a ks
 |_=>False
noncomputable def LR:Dv->Bool
 | .lst ds=>flatDs ds
 | .dik ds=>flatDs (ds.map (·.2))
 | .dit ds=>flatDs (ds.map (·.2))
 | .obj _ ds=>flatDs (ds.map (·.2))
 | .dns _=>ak
 |_=>am
theorem fB.gen{d:Dv}(G:Gen K M M' H H')(ha:∀o,H a=ae o->H' a=ae o)(h:fB K M H a d):fB K M' H' a d:=by
 cases d with
 |lst ds=>obtain⟨xs,e,r⟩:=h;exact⟨xs,ha _ e,r.gen G⟩
 |dik ds=>obtain⟨xs,e,r⟩:=h;exact⟨xs,ha _ e,r.gen G⟩
 |dit ds=>obtain⟨ep,xs,e,r⟩:=h;exact⟨ep,xs,ha _ e,r.gen G⟩
 |obj C ds=>obtain⟨dx,fs,e,r⟩:=h;exact⟨dx,fs,ha _ e,r.gen G⟩
 |dns ks=>obtain⟨xs,e,k,t⟩:=h;exact⟨xs,ha _ e,k,λx hx=>(t x hx).gen G.t⟩
 |_=>exact h.elim
theorem fB.mono{d:Dv}(S:aT H H')(h:fB K M H a d):fB K M H' a d:=h.gen (.mono S) λo e=>S _ _ e
theorem fB.weak{d:Dv}(w:∀a,M' a->M a)(h:fB K M H a d):fB K M' H a d:=h.gen (.weak w) λ_ e=>e
theorem fB.flat{d:Dv}(f:LR d=ak)(h:fB K M H a d):fB K M' H a d:=by
 cases d with
 |lst ds=>obtain⟨xs,e,r⟩:=h;exact⟨xs,e,r.flat f⟩
 |dik ds=>obtain⟨xs,e,r⟩:=h;exact⟨xs,e,r.flat f⟩
 |dit ds=>obtain⟨ep,xs,e,r⟩:=h;exact⟨ep,xs,e,r.flat f⟩
 |obj C ds=>obtain⟨dx,fs,e,r⟩:=h;exact⟨dx,fs,e,r.flat f⟩
 |dns ks=>exact h
 |_=>exact h.elim
theorem fB.mut{d:Dv}(h:fB K M H a d):∃o,H a=ae o/\IN (ae o):=by
 cases d with
 |lst ds=>obtain⟨xs,e,r⟩:=h;exact⟨_,e,trivial⟩
 |dik ds=>obtain⟨xs,e,r⟩:=h;exact⟨_,e,trivial⟩
 |dit ds=>obtain⟨ep,xs,e,r⟩:=h;exact⟨_,e,trivial⟩
 |obj C ds=>obtain⟨dx,fs,e,r⟩:=h;exact⟨_,e,trivial⟩
 |dns ks=>obtain⟨xs,e,_⟩:=h;exact⟨_,e,trivial⟩
 |_=>exact h.elim
theorem fB.rep{d:Dv}(h:fB K M H a d)(m:¬M a):Rep K M H (.ref a) d:=by
 cases d with
 |lst ds=>obtain⟨xs,e,r⟩:=h;exact .lst e m r
 |dik ds=>obtain⟨xs,e,r⟩:=h;exact .dik e m r
 |dit ds=>obtain⟨ep,xs,e,r⟩:=h;exact .dit e m r
 |obj C ds=>obtain⟨dx,fs,e,r⟩:=h;exact .obj e m r
 |dns ks=>exact .dns h m
 |_=>exact h.elim
inductive Sl where
 |un
 |v (d:Dv)
 |own (a:af) (d:Dv)
def MM(F:af->Prop)(ρ:List Sl):af->Prop:=λa=>F a \/ ∃d,Sl.own a d∈ρ
def zY(K:aq)(M:af->Prop)(H:Hp)(o:Option (Option V)):Sl->Prop
 | .un=>True
 | .v d=>∃x,o=ae (ae x)/\Rep K M H x d
 | .own a d=>o=ae (ae (.ref a))/\fB K M H a d
noncomputable abbrev SQ:Bool:=am
def Qv(K:aq)(P:af)(q:bq):Prop:=SQ=ak /\ ∃(C f:af) (o:ah) (od:Option af) (fd:ko) (sl:Array (Option ah)) (c:af) (oc:ah) (odc:Option af) (vs:Array ah) (slc:Array (Option ah)),
 W.nsIn K jt "Sides"=ae (ae (.ref C))/\jv K (.ref C) "last"=ae (ae (.ref f))/\K.lookup f=ae ⟨o,od,.func fd,sl⟩/\fd.code=.ref c/\K.lookup c=ae ⟨oc,odc,.fields vs,slc⟩/\vs[11]?=ae (.ref P) /\
 q = "Sides.last" ++ ".<locals>." ++ "<lambda>"
def Ai(K:aq)(H:Hp):Prop:=∀P q,Qv K P q->H P=ae (.lam q)
structure OldF(K:aq)(F:af->Prop)(HZ:Hp):Prop where
 f:∀a,F a->HZ a≠ao
 t:Ai K HZ
theorem Ai.mono(t:Ai K H)(S:aT H H'):Ai K H':=λP q z=>S _ _ (t P q z)
structure Fr(K:aq)(HZ:Hp)(F:af->Prop)(σ:St)(H:Hp)(ρ:List Sl):Prop where
 len:σ.length=ρ.length
 sl:∀(i:Nat) (s:Sl),ρ[i]?=ae s->zY K (MM F ρ) H σ[i]? s
 nd:∀(i j:Nat) (a:af) (d d':Dv),ρ[i]?=ae (.own a d)->ρ[j]?=ae (.own a d')->i=j
 new:∀(a:af) (d:Dv),Sl.own a d∈ρ->HZ a=ao
 same:aT HZ H
 old:OldF K F HZ
variable {σ:St}{ρ:List Sl}
theorem zY.mono{o:Option (Option V)}{s:Sl}(S:aT H H')(h:zY K M H o s):zY K M H' o s:=by
 cases s with
 |un=>trivial
 |v d=>obtain⟨x,e,r⟩:=h;exact⟨x,e,r.mono S⟩
 |own a d=>exact⟨h.1,h.2.mono S⟩
theorem zY.weak{o:Option (Option V)}{s:Sl}(w:∀a,M' a->M a)(h:zY K M H o s):zY K M' H o s:=by
 cases s with
 |un=>trivial
 |v d=>obtain⟨x,e,r⟩:=h;exact⟨x,e,r.weak w⟩
 |own a d=>exact⟨h.1,h.2.weak w⟩
theorem Fr.tab(fr:Fr K HZ F σ H ρ):Ai K H:=fr.old.t.mono fr.same
theorem Fr.mono(fr:Fr K HZ F σ H ρ)(S:aT H H'):Fr K HZ F σ H' ρ:=⟨fr.len,λi s e=>(fr.sl i s e).mono S,fr.nd,fr.new,fr.same.trans S,fr.old⟩
theorem Fr.at_own(fr:Fr K HZ F σ H ρ){d:Dv}(h:Sl.own a d∈ρ):∃i:Nat,ρ[i]?=ae (.own a d)/\σ[i]?=ae (ae (.ref a))/\fB K (MM F ρ) H a d:=by
 obtain⟨i,e⟩:=xf.mp h;have:=fr.sl i _ e;exact⟨i,e,this.1,this.2⟩
theorem Fr.dom(fr:Fr K HZ F σ H ρ)(m:MM F ρ a):H a≠ao:=by
 rcases m with m | ⟨d,m⟩
 ·intro e;exact fr.old.f a m (fr.same.free e)
 ·obtain⟨_,_,_,o⟩:=fr.at_own m;obtain⟨u,e,_⟩:=o.mut;rw[e];simp
theorem Fr.fresh(fr:Fr K HZ F σ H ρ)(e:H a=ao):¬MM F ρ a:=λm=>fr.dom m e
inductive R where
 |v (d:Dv)
 |ow (a:af) (d:Dv)
 |nw (d:Dv)
noncomputable def R.d:R->Dv
 | .v d=>d
 | .ow _ d=>d
 | .nw d=>d
noncomputable def R.free:R->Bool
 | .ow _ _=>am
 |_=>ak
def CD(ρ:List Sl):af->Dv->Prop:=λa d=>Sl.own a d∈ρ
def Aj:af->Dv->Prop:=λ_ _=>False
def eX(K:aq)(M:af->Prop)(O:af->Dv->Prop)(H:Hp)(x:V)(r:R)(H':Hp):Prop:=match r with
 | .v d=>Rep K M H' x d
 | .ow a d=>x=.ref a/\O a d/\fB K M H' a d
 | .nw d=>∃a,x=.ref a/\H a=ao/\fB K (λb=>M b \/ b=a) H' a d
def eB(K:aq)(M:af->Prop)(H:Hp)(x:V)(d:Dv):Prop:=Rep K M H x d \/ ∃a,x=.ref a/\fB K M H a d
section
variable {K:aq}{M M':af->Prop}{O:af->Dv->Prop}{H H' H'':Hp}{x:V}{r:R}
theorem eX.mono(h:eX K M O H x r H')(S:aT H' H''):eX K M O H x r H'':=by
 cases r with
 |v d=>exact Rep.mono S h
 |ow a d=>exact⟨h.1,h.2.1,h.2.2.mono S⟩
 |nw d=>obtain⟨a,e,n,o⟩:=h;exact⟨a,e,n,o.mono S⟩
theorem eX.ahead(h:eX K M O H1 x r H')(S:aT H H1):eX K M O H x r H':=by
 cases r with
 |v d=>exact h
 |ow a d=>exact h
 |nw d=>obtain⟨a,e,n,o⟩:=h;exact⟨a,e,S.free n,o⟩
theorem eX.c(h:eX K M O H x r H'):eB K M H' x r.d:=by
 cases r with
 |v d=>exact .inl h
 |ow a d=>exact .inr ⟨a,h.1,h.2.2⟩
 |nw d=>obtain⟨a,e,n,o⟩:=h;exact .inr ⟨a,e,o.weak λb z=>.inl z⟩
theorem eX.rep(h:eX K M O H x r H')(hM:∀a,M a->H a≠ao)(f:r.free=ak):Rep K M H' x r.d:=by
 cases r with
 |v d=>exact h
 |ow a d=>simp[R.free] at f
 |nw d=>
  obtain⟨a,e,n,o⟩:=h;subst e;exact(o.weak λb z=>.inl z).rep λz=>hM a z n
theorem eB.lst{ds:List Dv}(h:eB K M H x (.lst ds)):∃a xs,x=.ref a/\H a=ae (.lst xs)/\Reps K M H xs ds:=by
 rcases h with h | ⟨a,e,xs,h1,h2⟩
 ·cases h with
  |lst h1 _ h2=>exact⟨_,_,rfl,h1,h2⟩
 ·exact⟨a,xs,e,h1,h2⟩
theorem eB.tup{ds:List Dv}(h:eB K M H x (.tup ds)):∃a xs,x=.ref a/\H a=ae (.tup xs)/\Reps K M H xs ds:=by
 rcases h with h | ⟨a,e,o⟩
 ·cases h with
  |tup h1 h2=>exact⟨_,_,rfl,h1,h2⟩
 ·exact o.elim
theorem eB.int{i:Int}(h:eB K M H x (.int i)):x=.int i:=by
 rcases h with h | ⟨a,e,o⟩
 ·cases h;rfl
 ·exact o.elim
theorem eB.bl{b:Bool}(h:eB K M H x (.bl b)):x=.bl b:=by
 rcases h with h | ⟨a,e,o⟩
 ·cases h;rfl
 ·exact o.elim
theorem eB.non(h:eB K M H x .non):x=.non:=by
 rcases h with h | ⟨a,e,o⟩
 ·cases h;rfl
 ·exact o.elim
theorem eB.str{s:bq}(h:eB K M H x (.str s)):x=.str s:=by
 rcases h with h | ⟨a,e,o⟩
 ·cases h;rfl
 ·exact o.elim
theorem eB.scr{ns:List Int}(h:eB K M H x (.scr ns)):∃a,x=.ref a/\Nt K H a ns:=by
 rcases h with h | ⟨a,e,o⟩
 ·cases h with
  |scr h=>exact⟨_,rfl,h⟩
 ·exact o.elim
theorem eB.dns{ks:List Tk}(h:eB K M H x (.dns ks)):∃a,x=.ref a/\VM H a ks:=by
 rcases h with h | ⟨a,e,o⟩
 ·cases h with
  |dns h _=>exact⟨_,rfl,h⟩
 ·exact⟨a,e,o⟩
theorem eB.exc{C:af}{p:Option Int}(h:eB K M H x (.exc C p)):∃a,x=.ref a/\Oe H a C p:=by
 rcases h with h | ⟨a,e,o⟩
 ·cases h with
  |exc h=>exact⟨_,rfl,h⟩
 ·exact o.elim
theorem eB.dik{ds:List (cB×Dv)}(h:eB K M H x (.dik ds)):∃a kvs,x=.ref a/\H a=ae (.dK kvs)/\RepK K M H kvs ds:=by
 rcases h with h | ⟨a,e,xs,h1,h2⟩
 ·cases h with
  |dik h1 _ h2=>exact⟨_,_,rfl,h1,h2⟩
 ·exact⟨a,xs,e,h1,h2⟩
theorem eB.dit{ds:List (List cB×Dv)}(h:eB K M H x (.dit ds)):∃a ep kvs,x=.ref a/\H a=ae (.dT ep kvs)/\RepT K M H kvs ds:=by
 rcases h with h | ⟨a,e,ep0,xs,h1,h2⟩
 ·cases h with
  |dit h1 _ h2=>exact⟨_,_,_,rfl,h1,h2⟩
 ·exact⟨a,ep0,xs,e,h1,h2⟩
theorem eB.obj{C:af}{ds:List (bq×Dv)}(h:eB K M H x (.obj C ds)):∃a dx fs,x=.ref a/\H a=ae (.ins C dx fs)/\RepF K M H fs ds:=by
 rcases h with h | ⟨a,e,dx,fs,h1,h2⟩
 ·cases h with
  |obj h1 _ h2=>exact⟨_,_,_,rfl,h1,h2⟩
 ·exact⟨a,dx,fs,e,h1,h2⟩
end
abbrev dE:=List Sl->(R->Prop)->Prop
abbrev oN:=List Sl->(List R->Prop)->Prop
abbrev mG:=List Sl->(Bool->Prop)->Prop
def lA(K:aq)(M:af->Prop)(O:af->Dv->Prop)(H:Hp)(xs:List V)(rs:List R)(H':Hp):Prop:=Paired (λx r=>eX K M O H x r H') xs rs
def Dh(K:aq)(M:af->Prop)(H:Hp):List V->List Dv->Prop:=Paired (eB K M H)
variable {O:af->Dv->Prop}
theorem lA.ahead{xs:List V}{rs:List R}(h:lA K M O H1 xs rs H')(S:aT H H1):lA K M O H xs rs H':=Paired.mapP h λ_ _ q=>q.ahead S
theorem lA.c:∀{xs:List V} {rs:List R},lA K M O H xs rs H'->Dh K M H' xs (rs.map R.d)
 |_,_,.nil=>.nil
 |_,_,.cons a t=>.cons a.c (lA.c t)
theorem lA.reps(hM:∀a,M a->H a≠ao):∀{xs:List V} {rs:List R},lA K M O H xs rs H'->rs.all R.free=ak->Reps K M H' xs (rs.map R.d)
 |_,_,.nil,_=>.nil
 |_,_,.cons a t,f=>by
  rw[WR,cp] at f;exact .cons (a.rep hM f.1) (lA.reps hM t f.2)
inductive lift(K:aq)(HZ:Hp)(F:af->Prop)(t:dE)(σ:St)(H:Hp)(Q:VK):Prop
 |mk (ρ:List Sl) (fr:Fr K HZ F σ H ρ) (h:t ρ λr=>∀x H',aT H H'->eX K (MM F ρ) (CD ρ) H x r H'->Q x H')
inductive liftA(K:aq)(HZ:Hp)(F:af->Prop)(t:oN)(σ:St)(H:Hp)(Q:List V->Hp->Prop):Prop
 |mk (ρ:List Sl) (fr:Fr K HZ F σ H ρ) (h:t ρ λrs=>∀xs H',aT H H'->lA K (MM F ρ) (CD ρ) H xs rs H'->Q xs H')
inductive liftT(K:aq)(HZ:Hp)(F:af->Prop)(t:mG)(σ:St)(H:Hp)(Q:Bool->Hp->Prop):Prop
 |mk (ρ:List Sl) (fr:Fr K HZ F σ H ρ) (h:t ρ λb=>∀H',aT H H'->Q b H')
structure QE(X:Cx)(e:Expr)(t:dE):Prop where
 mono:∀(ρ:List Sl) (Q Q':R->Prop),(∀r,Q r->Q' r)->t ρ Q->t ρ Q'
 run:∀(HZ:Hp) (F:af->Prop),PE X e (lift X.K HZ F t)
structure QA(X:Cx)(es:List Expr)(t:oN):Prop where
 mono:∀(ρ:List Sl) (Q Q':List R->Prop),(∀r,Q r->Q' r)->t ρ Q->t ρ Q'
 run:∀(HZ:Hp) (F:af->Prop),PA X es (liftA X.K HZ F t)
structure QT(X:Cx)(e:Expr)(t:mG):Prop where
 mono:∀(ρ:List Sl) (Q Q':Bool->Prop),(∀r,Q r->Q' r)->t ρ Q->t ρ Q'
 run:∀(HZ:Hp) (F:af->Prop),PT X e (liftT X.K HZ F t)
structure QW(X:Cx)(e:Expr)(t:mG):Prop where
 mono:∀(ρ:List Sl) (Q Q':Bool->Prop),(∀r,Q r->Q' r)->t ρ Q->t ρ Q'
 run:∀(HZ:Hp) (F:af->Prop),PW X e (liftT X.K HZ F t)
variable {t':TT}{op:YK}{a0J:List Expr}{ts:oN}{te:dE}
section
variable {a b c:Expr}{ta tb tc:dE}
theorem cZ{t t':TE}(h:PE X e t)(w:∀σ H Q,t' σ H Q->t σ H Q):PE X e t':=λpj s σ H Q I q=>h pj s σ H Q I (w σ H Q q)
theorem M3{t t':TA}(h:PA X es t)(w:∀σ H Q,t' σ H Q->t σ H Q):PA X es t':=λpos pj s σ H Q I q=>h pos pj s σ H Q I (w σ H Q q)
theorem CA{t:TT}(h:PT X e t)(w:∀σ H Q,t' σ H Q->t σ H Q):PT X e t':=λpj s σ H Q I q=>h pj s σ H Q I (w σ H Q q)
theorem M1{t:TT}(h:PW X e t)(w:∀σ H Q,t' σ H Q->t σ H Q):PW X e t':=λwh pj s σ H Q I q=>h wh pj s σ H Q I (w σ H Q q)
theorem QW.qt{t:mG}(h:QW X e t):QT X e t:=⟨h.mono,λHZ F=>(h.run HZ F).pt⟩
theorem QE.step{Q:R->Prop}{Q':VK}(h:QE X e te)(fr:Fr X.K HZ F σ H ρ)(q:te ρ Q)
  (k:∀r x H',Q r->aT H H'->eX X.K (MM F ρ) (CD ρ) H x r H'->Q' x H'):lift X.K HZ F te σ H Q':=⟨ρ,fr,h.mono _ _ _ (λr qr x H' S rx=>k r x H' qr S rx) q⟩
theorem QA.step{Q:List R->Prop}{Q':List V->Hp->Prop}(h:QA X es ts)(fr:Fr X.K HZ F σ H ρ)(q:ts ρ Q)
  (k:∀rs xs H',Q rs->aT H H'->lA X.K (MM F ρ) (CD ρ) H xs rs H'->Q' xs H'):liftA X.K HZ F ts σ H Q':=⟨ρ,fr,h.mono _ _ _ (λr qr x H' S rx=>k r x H' qr S rx) q⟩
theorem QT.step{t:mG}{Q:Bool->Prop}{Q':Bool->Hp->Prop}(h:QT X e t)(fr:Fr X.K HZ F σ H ρ)(q:t ρ Q)
  (k:∀b H',Q b->aT H H'->Q' b H'):liftT X.K HZ F t σ H Q':=⟨ρ,fr,h.mono _ _ _ (λr qr H' S=>k r H' qr S) q⟩
def aE(i:Nat):dE:=λρ Q=>match ρ[i]? with
 |some (.v d)=>Q (.v d)
 |some (.own a d)=>Q (.ow a d)
 |_=>False
theorem aD(i:Nat){x:bq}(h:PE X (.Name x pos) (vX i)):QE X (.Name x pos) (aE i):=by
 refine⟨λρ Q Q' w h=>?_,λHZ F=>cZ h λσ H Q ⟨ρ,fr,q⟩=>?_⟩
 ·unfold aE at *;split at h
  ·exact w _ h
  ·exact w _ h
  ·exact h
 ·unfold aE at q;split at q
  ·rename_i d e;obtain⟨x,hx,r⟩:=fr.sl i _ e;exact⟨x,hx,q x H (aT.refl _) r⟩
  ·rename_i a d e;obtain⟨hx,r⟩:=fr.sl i _ e;exact⟨.ref a,hx,q _ H (aT.refl _) ⟨rfl,ee e,r⟩⟩
  ·exact q.elim
def eC(d:Dv):dE:=λ_ Q=>Q (.v d)
theorem Rj{v:V}{d:Dv}(h:PE X e (tC v))(r:∀M H,Rep X.K M H v d):QE X e (eC d):=
 ⟨λ_ _ _ w q=>w _ q,λHZ F=>cZ h λσ H Q zq0=>by obtain⟨ρ,fr,q⟩:=zq0;exact q v H (aT.refl _) (r _ _)⟩
theorem aH{i j pos}:QE X (.Constant (.int i) j pos) (eC (.int i)):=Rj PZ λ_ _=>.int i
theorem pH{b j pos}:QE X (.Constant (.bool b) j pos) (eC (.bl b)):=Rj Ro λ_ _=>.bl b
theorem JF{j pos}:QE X (.Constant .none j pos) (eC .non):=Rj PX λ_ _=>.non
theorem Re{x j pos}:QE X (.Constant (.str x) j pos) (eC (.str x)):=Rj PR λ_ _=>.str x
theorem tE{x:bq}{n:Int}(hm:∃t,X.mg x=ae (.int n t))(hg:autoParam (Gl X x) cA._auto_1)(hd:autoParam ((x==("__debug__":bq))=am) mJ._auto_1):QE X (.Name x pos) (eC (.int n)):=Rj (JZ hm hg hd) λ_ _=>.int n
def aG:oN:=λ_ Q=>Q []
def aA(te:dE)(ts:oN):oN:=λρ Q=>te ρ λr=>ts ρ λrs=>Q (r::rs)
theorem aF:QA X [] aG:=⟨λ_ _ _ w q=>w _ q,λHZ F=>M3 uX λσ H Q zq1=>by obtain⟨ρ,fr,q⟩:=zq1;exact q [] H (aT.refl _) .nil⟩
theorem aB(ha:QE X e te)(hr:QA X es ts)(hs:autoParam (ay (e::es) X.env=(am,gw e X.env)::ay es X.env) cA._auto_1):QA X (e::es) (aA te ts):=by
 refine⟨λρ Q Q' w h=>ha.mono _ _ _ (λr q=>hr.mono _ _ _ (λrs q=>w _ q) q) h,λHZ F=>M3 (kE (ha.run HZ F) (hr.run HZ F) hs) λσ H Q zz=>?_⟩;obtain⟨ρ,fr,q⟩:=zz;refine ha.step fr q λr x H1 q1 S1 r1=>?_;refine hr.step (fr.mono S1) q1 λrs xs H2 q2 S2 r2=>?_;exact q2 _ H2 (S1.trans S2) (.cons (r1.mono S2) (r2.ahead S1))
def xA(X:Cx)(f:ah->ah->YJ ah)(p:Dv->Dv->(R->Prop)->Prop):Prop:=
 (∀dx dy (Q Q':R->Prop),(∀r,Q r->Q' r)->p dx dy Q->p dx dy Q') /\ ∃r:R2,lQ X f r /\ ∀(M:af->Prop) (O:af->Dv->Prop) (H:Hp) (x y:V) (dx dy:Dv) (Q:VK),eB X.K M H x dx->eB X.K M H y dy ->
  p dx dy (λrr=>∀z H',aT H H'->eX X.K M O H z rr H'->Q z H')->r x y H Q
def aQ(p:Dv->Dv->(R->Prop)->Prop)(ta tb:dE):dE:=λρ Q=>ta ρ λx=>tb ρ λy=>p x.d y.d Q
theorem wU{p:Dv->Dv->(R->Prop)->Prop}{r:R2}(ha:QE X a ta)(hb:QE X b tb) (hr:∀(M:af->Prop) (O:af->Dv->Prop) (H:Hp) (x y:V) (dx dy:Dv) (Q:VK),eB X.K M H x dx->eB X.K M H y dy ->
  p dx dy (λrr=>∀z H',aT H H'->eX X.K M O H z rr H'->Q z H')->r x y H Q) (mo:∀dx dy (Q Q':R->Prop),(∀r,Q r->Q' r)->p dx dy Q->p dx dy Q') (HZ:Hp) (F:af->Prop) (σ:St) (H:Hp) (Q:VK)
  (h:lift X.K HZ F (aQ p ta tb) σ H Q):R7 r (lift X.K HZ F ta) (lift X.K HZ F tb) σ H Q:=by
 obtain⟨ρ,fr,q⟩:=h;refine ha.step fr q λrx x H1 q1 S1 r1=>?_;refine hb.step (fr.mono S1) q1 λry y H2 q2 S2 r2=>?_;refine hr (MM F ρ) (CD ρ) H2 x y _ _ Q (r1.mono S2).c r2.c (mo _ _ _ _ (λrr k z H' S rz=>?_) q2);exact k z H' ((S1.trans S2).trans S) (rz.ahead (S1.trans S2))
theorem u9{p:Dv->Dv->(R->Prop)->Prop}(ha:QE X a ta)(hb:QE X b tb)(mo:∀dx dy (Q Q':R->Prop),(∀r,Q r->Q' r)->p dx dy Q->p dx dy Q')(ρ:List Sl)(Q Q':R->Prop)(w:∀r,Q r->Q' r)(h:aQ p ta tb ρ Q):aQ p ta tb ρ Q':=
 ha.mono _ _ _ (λrx h=>hb.mono _ _ _ (λry h=>mo _ _ _ _ w h) h) h
theorem bA{op:W1}{p:Dv->Dv->(R->Prop)->Prop}(ho:xA X (ju op) p)(ha:QE X a ta)(hb:QE X b tb):QE X (.BinOp a op b pos) (aQ p ta tb):=by
 obtain⟨mo,r,hR,hr⟩:=ho;exact⟨u9 ha hb mo,λHZ F=>cZ (Rn hR (ha.run HZ F) (hb.run HZ F)) (wU ha hb hr mo HZ F)⟩
theorem lE{p:Dv->Dv->(R->Prop)->Prop}(ho:xA X (dm op) p)(ha:QE X a ta)(hb:QE X b tb)(hm:autoParam (uz op b=am) VT._auto_1):QE X (.Compare a [op] [b] pos) (aQ p ta tb):=by
 obtain⟨mo,r,hR,hr⟩:=ho;exact⟨u9 ha hb mo,λHZ F=>cZ (Mm hR (ha.run HZ F) (hb.run HZ F) hm) (wU ha hb hr mo HZ F)⟩
def aV(te:dE):mG:=λρ Q=>te ρ λr=>match r.d with
 | .bl c=>Q c
 |_=>False
theorem yO(mo:∀(ρ:List Sl) (Q Q':R->Prop),(∀r,Q r->Q' r)->te ρ Q->te ρ Q')(ρ:List Sl)(Q Q':Bool->Prop)(w:∀r,Q r->Q' r)(h:aV te ρ Q):aV te ρ Q':=by
 refine mo _ _ _ (λr q=>?_) h;split at q
 ·exact w _ q
 ·exact q.elim
theorem LZ{Q:Bool->Hp->Prop}(mo:∀(ρ:List Sl) (Q Q':R->Prop),(∀r,Q r->Q' r)->te ρ Q->te ρ Q')(h:liftT X.K HZ F (aV te) σ H Q):lift X.K HZ F te σ H λx H'=>∃k,x=.bl k/\Q k H':=by
 obtain⟨ρ,fr,q⟩:=h;refine⟨ρ,fr,mo _ _ _ (λr q x H' S rx=>?_) q⟩;split at q
 ·rename_i c e;have:=rx.c;rw[e] at this;exact⟨c,this.bl,q H' S⟩
 ·exact q.elim
theorem b9{p:Dv->Dv->(R->Prop)->Prop}(ho:xA X (dm op) p)(ha:QE X a ta)(hb:QE X b tb)(hm:autoParam (uz op b=am) VT._auto_1):QT X (.Compare a [op] [b] pos) (aV (aQ p ta tb)):=by
 obtain⟨mo,r,hR,hr⟩:=ho;have m1:=u9 ha hb mo;exact⟨yO m1,λHZ F=>CA (Ma hR (ha.run HZ F) (hb.run HZ F) hm) λσ H Q h=>wU ha hb hr mo HZ F σ H _ (LZ m1 h)⟩
def qZ(t u:mG):mG:=λρ Q=>t ρ λc=>if c=ak then u ρ Q else Q am
def Et(t u:mG):mG:=λρ Q=>t ρ λc=>if c=ak then Q ak else u ρ Q
def lC(t:mG):mG:=λρ Q=>t ρ λc=>Q (!c)
theorem nZ{t:mG}(h:QT X a t):QW X (.BoolOp .And [a] pos) t:=⟨h.mono,λHZ F=>MV (h.run HZ F)⟩
theorem uU{t:mG}(h:QT X a t):QW X (.BoolOp .Or [a] pos) t:=⟨h.mono,λHZ F=>P8 (h.run HZ F)⟩
theorem rV{t u:mG}(h:QT X a t)(k:QW X (.BoolOp .And (b::a0J) pos) u):QW X (.BoolOp .And (a::b::a0J) pos) (qZ t u):=by
 refine⟨λρ Q Q' w q=>h.mono _ _ _ (λc q=>?_) q,λHZ F=>M1 (P9 (h.run HZ F) (k.run HZ F)) λσ H Q ⟨ρ,fr,q⟩=>?_⟩
 ·split at q
  ·rw[a0G ‹_›];exact k.mono _ _ _ w q
  ·rw[a0h ‹_›];exact w _ q
 ·refine h.step fr q λc H1 q1 S1=>?_;cases c with
  |true=>
   simp only[if_true] at q1;exact qX ⟨ρ,fr.mono S1,k.mono _ _ _ (λb q H' S=>q H' (S1.trans S)) q1⟩
  |false=>
   simp only[de,if_false] at q1;exact pV (q1 H1 S1)
theorem tB{t u:mG}(h:QT X a t)(k:QW X (.BoolOp .Or (b::a0J) pos) u):QW X (.BoolOp .Or (a::b::a0J) pos) (Et t u):=by
 refine⟨λρ Q Q' w q=>h.mono _ _ _ (λc q=>?_) q,λHZ F=>M1 (Rl (h.run HZ F) (k.run HZ F)) λσ H Q ⟨ρ,fr,q⟩=>?_⟩
 ·split at q
  ·rw[a0G ‹_›];exact w _ q
  ·rw[a0h ‹_›];exact k.mono _ _ _ w q
 ·refine h.step fr q λc H1 q1 S1=>?_;cases c with
  |true=>
   simp only[if_true] at q1;exact qX (q1 H1 S1)
  |false=>
   simp only[de,if_false] at q1;exact pV ⟨ρ,fr.mono S1,k.mono _ _ _ (λb q H' S=>q H' (S1.trans S)) q1⟩
theorem fI{t:mG}(h:QT X a t):QT X (.UnaryOp .Not a pos) (lC t):=
 ⟨λρ Q Q' w q=>h.mono _ _ _ (λc q=>w _ q) q,λHZ F=>CA (PB (h.run HZ F)) λσ H Q zq2=>by obtain⟨ρ,fr,q⟩:=zq2;exact h.step fr q λc H1 q1 S1=>q1 H1 S1⟩
def oP(ta tb:dE):dE:=λρ Q=>ta ρ λr=>match r.d with
 | .bl c=>if c=ak then tb ρ Q else Q (.v (.bl am))
 |_=>False
def La(ta tb:dE):dE:=λρ Q=>ta ρ λr=>match r.d with
 | .bl c=>if c=ak then Q (.v (.bl ak)) else tb ρ Q
 |_=>False
def yP(ta:dE):dE:=λρ Q=>ta ρ λr=>match r.d with
 | .bl c=>Q (.v (.bl (!c)))
 |_=>False
theorem rB{op}(h:QE X a ta):QE X (.BoolOp op [a] pos) ta:=⟨h.mono,λHZ F=>PU (h.run HZ F)⟩
theorem vO(h:QE X a ta)(k:QE X (.BoolOp .And (b::a0J) pos) tb):QE X (.BoolOp .And (a::b::a0J) pos) (oP ta tb):=by
 refine⟨λρ Q Q' w q=>h.mono _ _ _ (λc q=>?_) q,λHZ F=>cZ (Pb (h.run HZ F) (k.run HZ F)) λσ H Q ⟨ρ,fr,q⟩=>?_⟩
 ·split at q
  ·split at q
   ·rw[a0G ‹_›];exact k.mono _ _ _ w q
   ·rw[a0h ‹_›];exact w _ q
  ·exact q
 ·refine h.step fr q λr x H1 q1 S1 r1=>?_;split at q1
  ·rename_i c e;have rc:=r1.c;rw[e] at rc;refine⟨c,rc.bl,?_⟩;cases c with
   |true=>
    simp only[if_true] at q1;exact qX ⟨ρ,fr.mono S1,k.mono _ _ _ (λb q z H' S rz=>q z H' (S1.trans S) (rz.ahead S1)) q1⟩
   |false=>
    simp only[de,if_false] at q1;exact pV (q1 _ H1 S1 (Rep.bl am))
  ·exact q1.elim
theorem Rg(h:QE X a ta)(k:QE X (.BoolOp .Or (b::a0J) pos) tb):QE X (.BoolOp .Or (a::b::a0J) pos) (La ta tb):=by
 refine⟨λρ Q Q' w q=>h.mono _ _ _ (λc q=>?_) q,λHZ F=>cZ (Rm (h.run HZ F) (k.run HZ F)) λσ H Q ⟨ρ,fr,q⟩=>?_⟩
 ·split at q
  ·split at q
   ·rw[a0G ‹_›];exact w _ q
   ·rw[a0h ‹_›];exact k.mono _ _ _ w q
  ·exact q
 ·refine h.step fr q λr x H1 q1 S1 r1=>?_;split at q1
  ·rename_i c e;have rc:=r1.c;rw[e] at rc;refine⟨c,rc.bl,?_⟩;cases c with
   |true=>
    simp only[if_true] at q1;exact qX (q1 _ H1 S1 (Rep.bl ak))
   |false=>
    simp only[de,if_false] at q1;exact pV ⟨ρ,fr.mono S1,k.mono _ _ _ (λb q z H' S rz=>q z H' (S1.trans S) (rz.ahead S1)) q1⟩
  ·exact q1.elim
theorem FL(h:QE X a ta):QE X (.UnaryOp .Not a pos) (yP ta):=by
 refine⟨λρ Q Q' w q=>h.mono _ _ _ (λc q=>?_) q,λHZ F=>cZ (PV (h.run HZ F)) λσ H Q ⟨ρ,fr,q⟩=>?_⟩
 ·split at q
  ·exact w _ q
  ·exact q
 ·refine h.step fr q λr x H1 q1 S1 r1=>?_;split at q1
  ·rename_i c e;have rc:=r1.c;rw[e] at rc;exact⟨c,rc.bl,q1 _ H1 S1 (Rep.bl _)⟩
  ·exact q1.elim
def VX(t:mG)(ta tb:dE):dE:=λρ Q=>t ρ λc=>if c=ak then ta ρ Q else tb ρ Q
def bY(ts:oN):dE:=λρ Q=>ts ρ λrs=>rs.all R.free=ak/\rs.length<=1000/\Q (.v (.tup (rs.map R.d)))
def dU(ts:oN):dE:=λρ Q=>ts ρ λrs=>rs.all R.free=ak/\rs.length<=1000/\Q (.nw (.lst (rs.map R.d)))
theorem vM(h:n<=1000):n<=bo:=XW (Ge h)
theorem aT.new'{l:af}(hl:H l=ao):aT H (upd H l o):=λb q e=>by rw[b5 (bG e hl)];exact e
theorem cH{x1}(h:QA X es ts):QE X (.Tuple es x1 pos) (bY ts):=by
 refine⟨λρ Q Q' w q=>h.mono _ _ _ (λrs q=>⟨q.1,q.2.1,w _ q.2.2⟩) q,λHZ F=>cZ (PQ (h.run HZ F)) λσ H Q zz=>?_⟩;obtain⟨ρ,fr,q⟩:=zz;refine h.step fr q λrs xs H1 ⟨q1,q2,q3⟩ S1 r1=>?_;have hl:xs.length=rs.length:=Paired.length r1;refine⟨vM ⋯,λp hp=>q3 _ _ (S1.trans (aT.new' hp)) ?_⟩;exact .tup bP ((r1.reps (λa m=>fr.dom m) q1).mono (aT.new' hp))
theorem cO(h:QA X es ts):QE X (.List es pos) (dU ts):=by
 refine⟨λρ Q Q' w q=>h.mono _ _ _ (λrs q=>⟨q.1,q.2.1,w _ q.2.2⟩) q,λHZ F=>cZ (PY (h.run HZ F)) λσ H Q zz=>?_⟩;obtain⟨ρ,fr,q⟩:=zz;refine h.step fr q λrs xs H1 ⟨q1,q2,q3⟩ S1 r1=>?_;have hl:xs.length=rs.length:=Paired.length r1;refine⟨vM ⋯,λp hp=>q3 _ _ (S1.trans (aT.new' hp)) ?_⟩;exact⟨p,rfl,S1.free hp,xs,bP,((r1.reps (λa m=>fr.dom m) q1).gen (.fresh hp)).mono (aT.new' hp)⟩
end
noncomputable abbrev zZ:Nat:=1000000
theorem jL(h:n<=zZ):n<=bo:=mh h (by rw[ky];decide)
theorem pP{p:af}{xs:List V}(hp:H p=ao)(r:Reps K M H xs ds):eX K M O H (.ref p) (.nw (.lst ds)) (upd H p (.lst xs)):=⟨p,rfl,hp,xs,bP,(r.gen (.fresh hp)).mono (aT.new' hp)⟩
theorem IZ{p:af}{xs:List V}(hp:H p=ao)(r:Reps K M H xs ds):eX K M O H (.ref p) (.v (.tup ds)) (upd H p (.tup xs)):=Rep.tup bP (r.mono (aT.new' hp))
def dJ:Dv->Dv->(R->Prop)->Prop
 | .int i,.int j,Q=>Q (.v (.int (i+j)))
 | .lst xs,.lst ys,Q=>xs.length+ys.length<=zZ/\Q (.nw (.lst (xs++ys)))
 | .str x,.str y,Q=>x.length+y.length<=zZ/\Q (.v (.str (x++y)))
 |_,_,_=>False
def tN:Dv->Dv->(R->Prop)->Prop
 | .int i,.int j,Q=>Q (.v (.int (i-j)))
 |_,_,_=>False
def vW(i j:Int):Prop:=Qx i j \/ (i.natAbs<2 ^ 4000/\j.natAbs<2 ^ 4000)
def j5:Dv->Dv->(R->Prop)->Prop
 | .int i,.int j,Q=>vW i j/\Q (.v (.int (i*j)))
 | .lst xs,.int k,Q=>(-(2 ^ 63)<=k/\k<2 ^ 63/\xs.length*k.toNat<=zZ)/\Q (.nw (.lst (av k.toNat xs).flatten))
 |_,_,_=>False
def lX:Dv->Dv->(R->Prop)->Prop
 | .int i,.int j,Q=>(0<j/\j<2 ^ 200)/\Q (.v (.int (i / j)))
 |_,_,_=>False
def Ry:Dv->Dv->(R->Prop)->Prop
 | .int i,.int j,Q=>(j≠0/\j.natAbs<2 ^ 4000)/\Q (.v (.int (i.fdiv j)))
 |_,_,_=>False
def gO:Dv->Dv->(R->Prop)->Prop
 | .int i,.int j,Q=>0<j/\Q (.v (.int (i % j)))
 |_,_,_=>False
def w9:Dv->Dv->(R->Prop)->Prop
 | .int i,.int j,Q=>M6 i j/\Q (.v (.int (i ^ j.toNat)))
 |_,_,_=>False
variable {f:Int->Int->Bool}
theorem HH:∀dx dy (Q Q':R->Prop),(∀r,Q r->Q' r)->dJ dx dy Q->dJ dx dy Q':=by
 intro dx dy Q Q' w h;unfold dJ at h;split at h
 ·exact w _ h
 ·exact⟨h.1,w _ h.2⟩
 ·exact⟨h.1,w _ h.2⟩
 ·exact h.elim
theorem bC:xA X (ju .Add) dJ:=by
 refine⟨HH,_,Pu.or (Ps.or EL),λM O H x y dx dy Q cx cy h=>?_⟩;unfold dJ at h;split at h
 ·obtain rfl:=cx.int;obtain rfl:=cy.int;exact .inl ⟨_,_,rfl,rfl,h _ H (aT.refl _) (Rep.int _)⟩
 ·obtain⟨a,xs,rfl,ea,ra⟩:=cx.lst;obtain⟨b,ys,rfl,eb,rb⟩:=cy.lst;have l1:=ra.length;have l2:=rb.length;exact .inr (.inl ⟨a,b,xs,ys,rfl,rfl,ea,eb,jL ⋯,λp hp=>h.2 _ _ (aT.new' hp) (pP hp (ra.append rb))⟩)
 ·obtain rfl:=cx.str;obtain rfl:=cy.str;exact .inr (.inr ⟨_,_,rfl,rfl,jL h.1,h.2 _ H (aT.refl _) (Rep.str _)⟩)
 ·exact h.elim
theorem Gy:∀dx dy (Q Q':R->Prop),(∀r,Q r->Q' r)->tN dx dy Q->tN dx dy Q':=by
 intro dx dy Q Q' w h;unfold tN at h;split at h
 ·exact w _ h
 ·exact h.elim
theorem tQ:xA X (ju .Sub) tN:=by
 refine⟨Gy,_,Pi,λM O H x y dx dy Q cx cy h=>?_⟩;unfold tN at h;split at h
 ·obtain rfl:=cx.int;obtain rfl:=cy.int;exact⟨_,_,rfl,rfl,h _ H (aT.refl _) (Rep.int _)⟩
 ·exact h.elim
theorem vW.ok{i j:Int}(h:vW i j):IntMulOk i j:=by
 rcases h with h | ⟨h1,h2⟩
 ·exact h.ok
 ·have key:∀{z:Int},z.natAbs<2 ^ 4000->Xd z<=2 ^ 20:=λ{z} hz=>by
   have hl:z.natAbs≠0->z.natAbs.log2<4000:=λh0=>(a0i h0).mpr hz;clear hz h1 h2;unfold Xd;by_cases h0:z=0
   ·simp[h0]
   ·have:=hl ⋯;simp[h0];ac_rfl
  exact IntMulOk.of_bits (key h1) (key h2)
theorem Mv:lQ X (ju .Mult) (rI vW λi j=>.int (i*j)):=Tq λ_ _ _ _ _ _ _ hc q=>mul_int q hc.ok
theorem HB:∀dx dy (Q Q':R->Prop),(∀r,Q r->Q' r)->j5 dx dy Q->j5 dx dy Q':=by
 intro dx dy Q Q' w h;unfold j5 at h;split at h
 ·exact⟨h.1,w _ h.2⟩
 ·exact⟨h.1,w _ h.2⟩
 ·exact h.elim
theorem eG:xA X (ju .Mult) j5:=by
 refine⟨HB,_,Mv.or Pj,λM O H x y dx dy Q cx cy h=>?_⟩;unfold j5 at h;split at h
 ·obtain rfl:=cx.int;obtain rfl:=cy.int;exact .inl ⟨_,_,rfl,rfl,h.1,h.2 _ H (aT.refl _) (Rep.int _)⟩
 ·obtain⟨a,xs,rfl,ea,ra⟩:=cx.lst;obtain rfl:=cy.int;have l1:=ra.length;exact .inr ⟨a,_,xs,rfl,rfl,ea,h.1.1,h.1.2.1,jL (by rw[l1];exact h.1.2.2),λp hp=>h.2 _ _ (aT.new' hp) (pP hp (ra.repl _))⟩
 ·exact h.elim
theorem HF:∀dx dy (Q Q':R->Prop),(∀r,Q r->Q' r)->lX dx dy Q->lX dx dy Q':=by
 intro dx dy Q Q' w h;unfold lX at h;split at h
 ·exact⟨h.1,w _ h.2⟩
 ·exact h.elim
theorem gW:xA X (ju .FloorDiv) lX:=by
 refine⟨HF,_,KB,λM O H x y dx dy Q cx cy h=>?_⟩;unfold lX at h;split at h
 ·obtain rfl:=cx.int;obtain rfl:=cy.int;exact⟨_,_,rfl,rfl,h.1,h.2 _ H (aT.refl _) (Rep.int _)⟩
 ·exact h.elim
theorem HC:∀dx dy (Q Q':R->Prop),(∀r,Q r->Q' r)->gO dx dy Q->gO dx dy Q':=by
 intro dx dy Q Q' w h;unfold gO at h;split at h
 ·exact⟨h.1,w _ h.2⟩
 ·exact h.elim
theorem d3:xA X (ju .Mod) gO:=by
 refine⟨HC,_,Pn,λM O H x y dx dy Q cx cy h=>?_⟩;unfold gO at h;split at h
 ·obtain rfl:=cx.int;obtain rfl:=cy.int;exact⟨_,_,rfl,rfl,h.1,h.2 _ H (aT.refl _) (Rep.int _)⟩
 ·exact h.elim
theorem H9:∀dx dy (Q Q':R->Prop),(∀r,Q r->Q' r)->w9 dx dy Q->w9 dx dy Q':=by
 intro dx dy Q Q' w h;unfold w9 at h;split at h
 ·exact⟨h.1,w _ h.2⟩
 ·exact h.elim
theorem tR:xA X (ju .Pow) w9:=by
 refine⟨H9,_,Pk,λM O H x y dx dy Q cx cy h=>?_⟩;unfold w9 at h;split at h
 ·obtain rfl:=cx.int;obtain rfl:=cy.int;exact⟨_,_,rfl,rfl,h.1,h.2 _ H (aT.refl _) (Rep.int _)⟩
 ·exact h.elim
def Sn(ta:dE):dE:=λρ Q=>ta ρ λr=>match r.d with
 | .int i=>Q (.v (.int (-i)))
 |_=>False
def AL(f:Int->Int->Bool):Dv->Dv->(R->Prop)->Prop
 | .int i,.int j,Q=>Q (.v (.bl (f i j)))
 |_,_,_=>False
theorem xV:∀dx dy (Q Q':R->Prop),(∀r,Q r->Q' r)->AL f dx dy Q->AL f dx dy Q':=by
 intro dx dy Q Q' w h;unfold AL at h;split at h
 ·exact w _ h
 ·exact h.elim
theorem BG{g:ah->ah->YJ ah}(h:lQ X g (Di λi j=>.bl (f i j))):xA X g (AL f):=by
 refine⟨xV,_,h,λM O H x y dx dy Q cx cy h=>?_⟩;unfold AL at h;split at h
 ·obtain rfl:=cx.int;obtain rfl:=cy.int;exact⟨_,_,rfl,rfl,h _ H (aT.refl _) (Rep.bl _)⟩
 ·exact h.elim
abbrev HD:=AL λi j=>decide (i<j)
abbrev Mr:=AL λi j=>decide (i<=j)
abbrev EJ:=AL λi j=>decide (j<i)
abbrev VW:=AL λi j=>decide (j<=i)
theorem rZ:xA X (dm .Lt) HD:=BG K9
theorem BF:xA X (dm .LtE) Mr:=BG KA
theorem kW:xA X (dm .Gt) EJ:=BG S7
theorem Ph:xA X (dm .GtE) VW:=BG S8
def sK(p p':Dv->Dv->(R->Prop)->Prop)(ta tb tc:dE):dE:=λρ Q=>ta ρ λx=>tb ρ λy=>p x.d y.d λz=>match z.d with
 | .bl k=>if k=ak then tc ρ λw=>p' y.d w.d Q else Q (.v (.bl am))
 |_=>False
noncomputable def isN:Dv->Bool
 | .non=>ak
 |_=>am
def Jv:Dv->Dv->(R->Prop)->Prop
 |d,.non,Q=>Q (.v (.bl (isN d)))
 |_,_,_=>False
def AK:Dv->Dv->(R->Prop)->Prop
 |d,.non,Q=>Q (.v (.bl (!isN d)))
 |_,_,_=>False
theorem eB.non_iff{x:V}{d:Dv}(h:eB K M H x d):decide (x=.non)=isN d:=by
 rcases h with h | ⟨a,rfl,o⟩
 ·cases h<;>simp[isN]
 ·cases d<;>first | exact o.elim | simp[isN]
theorem Ms:xA X (dm .Is) Jv:=by
 refine⟨λdx dy Q Q' w h=>?_,_,Po,λM O H x y dx dy Q cx cy h=>?_⟩
 ·unfold Jv at h;split at h
  ·exact w _ h
  ·exact h.elim
 ·unfold Jv at h;split at h
  ·refine⟨cy.non,?_⟩;rw[cx.non_iff];exact h _ H (aT.refl _) (Rep.bl _)
  ·exact h.elim
theorem K4:xA X (dm .IsNot) AK:=by
 refine⟨λdx dy Q Q' w h=>?_,_,Mu,λM O H x y dx dy Q cx cy h=>?_⟩
 ·unfold AK at h;split at h
  ·exact w _ h
  ·exact h.elim
 ·unfold AK at h;split at h
  ·refine⟨cy.non,?_⟩;rw[cx.non_iff];exact h _ H (aT.refl _) (Rep.bl _)
  ·exact h.elim
noncomputable def jD:Dv->a01
 | .non=>.none
 | .bl b=>.bool b
 | .int i=>.int i
 | .str x=>.str x
 | .tup xs=>.tuple (pyDs xs)
 | .lst xs=>.list (pyDs xs)
 | .scr ns=>.list (ns.map .int)
 |_=>.dict []
where pyDs:List Dv->List a01
 | []=>[]
 |d::r=>jD d::pyDs r
noncomputable abbrev pyDs:=jD.pyDs
noncomputable def eQ:Nat->Dv->Bool
 |_,.non=>ak
 |_,.bl _=>ak
 |_,.int _=>ak
 |_,.str x=>PyData.strOk x
 |n+1,.tup xs=>okDs n xs
 |n+1,.lst xs=>okDs n xs
 |_+1,.scr _=>ak
 |_,_=>am
where okDs:Nat->List Dv->Bool
 |_,[]=>ak
 |n,d::r=>eQ n d&&okDs n r
noncomputable abbrev okDs:=eQ.okDs
noncomputable def eqD(a b:Dv):Bool:=ku (jD a) (jD b)
theorem Df(ns:List Int):qg (ns.map .int)=ak:=by
 induction ns with
 |nil=>rfl
 |cons n r ih=>rw[ef,qg,ih];rfl
theorem Ex(ns:List Int):nq (ns.map .int)=0:=by
 induction ns with
 |nil=>rfl
 |cons n r ih=>rw[ef,nq,ih];rfl
mutual
theorem tT:∀(n:Nat) (d:Dv),eQ n d=ak->(jD d).canLay0=ak/\(jD d).depth<=n
 |_,.non,_=>⟨by simp[jD,rd],by simp[jD,PyData.depth]⟩
 |_,.bl _,_=>⟨by simp[jD,rd],by simp[jD,PyData.depth]⟩
 |_,.int _,_=>⟨by simp[jD,rd],by simp[jD,PyData.depth]⟩
 |_,.str x,h=>⟨by rw[jD,rd];cases ‹Nat›<;>simpa [eQ] using h,by simp[jD,PyData.depth]⟩
 |0,.tup _,h=>by simp[eQ] at h
 |0,.lst _,h=>by simp[eQ] at h
 |0,.scr _,h=>by simp[eQ] at h
 |n+1,.tup xs,h=>by
  have:=xZ n xs (by rw[eQ] at h;exact h);exact⟨by rw[jD,rd];exact this.1,by rw[jD,PyData.depth];have h2:nq (jD.pyDs xs)<=n:=this.2;ac_rfl⟩
 |n+1,.lst xs,h=>by
  have:=xZ n xs (by rw[eQ] at h;exact h);exact⟨by rw[jD,rd];exact this.1,by rw[jD,PyData.depth];have h2:nq (jD.pyDs xs)<=n:=this.2;ac_rfl⟩
 |n+1,.scr ns,_=>⟨by rw[jD,rd];exact Df ns,by rw[jD,PyData.depth,Ex];ac_rfl⟩
 |0,.dik _,h=>by simp[eQ] at h
 |0,.dit _,h=>by simp[eQ] at h
 |0,.obj _ _,h=>by simp[eQ] at h
 |0,.exc _ _,h=>by simp[eQ] at h
 |_+1,.exc _ _,h=>by simp[eQ] at h
 |0,.dns _,h=>by simp[eQ] at h
 |_+1,.dns _,h=>by simp[eQ] at h
 |_+1,.dik _,h=>by simp[eQ] at h
 |_+1,.dit _,h=>by simp[eQ] at h
 |_+1,.obj _ _,h=>by simp[eQ] at h
theorem xZ:∀(n:Nat) (ds:List Dv),okDs n ds=ak->qg (pyDs ds)=ak/\nq (pyDs ds)<=n
 |_,[],_=>⟨by simp[jD.pyDs,qg],by simp[jD.pyDs,nq]⟩
 |n,d::r,h=>by
  have h':(eQ n d&&okDs n r)=ak:=h;rw[cp] at h';have h1:=tT n d h'.1;have h2:=xZ n r h'.2;refine⟨by show qg (jD d::pyDs r)=ak;rw[qg,h1.1,h2.1];rfl,?_⟩;show nq (jD d::pyDs r)<=n;rw[nq];ac_rfl
end
theorem oA{d:Dv}(h:eQ n d=ak)(hn:n<=64):a02 (jD d)=ak:=by
 obtain⟨h1,h2⟩:=tT n d h;unfold a02;rw[h1,decide_eq_true ⋯];rfl
theorem yF{h:eh}:∀{ns:List Int} {us:List ah},bM (ns.map V.int) us -> ∃as,Zq h us (ns.map PyData.int) as
 | [],_,.nil=>⟨_,.nil⟩
 |n::r,_,.cons a t=>by
  obtain⟨tk,rfl⟩:=a;obtain⟨as,q⟩:=yF (h:=h) t;exact⟨_,.cons (.int n tk) q⟩
theorem wL{d:Dv}(f:okDs n (d::ds)=ak):eQ n d=ak/\okDs n ds=ak:=by
 have f':(eQ n d&&okDs n ds)=ak:=f;rwa[cp] at f'
theorem Rep.reads(I:Inv X pj σ H s){x:V}{d:Dv}(q:Rep X.K M H x d)(ok:eQ n d=ak)(r:cM x u):∃as,ZQ s.heap u (jD d) as:=by
 refine Rep.rec (motive_1:=λx d _=>∀n u,eQ n d=ak->cM x u -> ∃as,ZQ s.heap u (jD d) as) (motive_2:=λxs ds _=>∀n us,okDs n ds=ak->bM xs us -> ∃as,Zq s.heap us (pyDs ds) as) (motive_3:=λ_ _ _=>True) (motive_4:=λ_ _ _=>True) (motive_5:=λ_ _ _=>True)
  (λn u _ r=>by cases r;exact⟨_,.none⟩) (λb n u _ r=>by cases r;exact⟨_,.bool b⟩) (λi n u _ r=>by obtain⟨t,rfl⟩:=r;exact⟨_,.int i t⟩) (λy n u _ r=>by obtain⟨t,rfl⟩:=r;exact⟨_,.str y t⟩) ?tup ?lst ?dik ?dit ?obj ?scr ?exc ?dns ?nil ?cons
  trivial (λ_ _ _ _=>trivial) trivial (λ_ _ _ _=>trivial) trivial (λ_ _ _ _=>trivial) q n u ok r
 case tup=>
  intro a xs ds e _ ih n u ok r;cases n with
  |zero=>simp[eQ] at ok
  |succ n=>
   cases r;obtain⟨_,its,rv,o,ho,hc,m,hd⟩:=I.hok _ _ e;obtain⟨as,ra⟩:=ih n its (by rw[eQ] at ok;exact ok) rv;exact⟨_,.tuple ho hc hd ra⟩
 case lst=>
  intro a xs ds e _ _ ih n u ok r;cases n with
  |zero=>simp[eQ] at ok
  |succ n=>
   cases r;obtain⟨_,its,m,rv,ho⟩:=I.hok _ _ e;obtain⟨as,ra⟩:=ih n its (by rw[eQ] at ok;exact ok) rv;exact⟨_,.list ho rfl rfl ra⟩
 case dik=>intro a xs ds _ _ _ _ n u ok;cases n<;>simp[eQ] at ok
 case dit=>intro a ep xs ds _ _ _ _ n u ok;cases n<;>simp[eQ] at ok
 case obj=>intro a C dx xs ds _ _ _ _ n u ok;cases n<;>simp[eQ] at ok
 case scr=>
  intro a ns e n u _ r;cases r;obtain⟨its,rv,pl,_⟩:=I.list e.sq;obtain⟨o,ho,hc,m,hd⟩:=pl.isList;obtain⟨as,ra⟩:=yF (h:=s.heap) rv;exact⟨_,.list ho hc hd (by simpa using ra)⟩
 case exc=>intro a C p _ n u ok;cases n<;>simp[eQ] at ok
 case dns=>intro a ks _ _ n u ok;cases n<;>simp[eQ] at ok
 case nil=>intro n us _ r;cases r;exact⟨_,.nil⟩
 case cons=>
  intro x d xs ds _ _ i1 i2 n us ok r;cases r with
  |cons r1 r2=>
   obtain⟨as,ra⟩:=i1 n _ (wL ok).1 r1;obtain⟨bs,rb⟩:=i2 n _ (wL ok).2 r2;exact⟨_,.cons ra rb⟩
theorem Reps.reads(I:Inv X pj σ H s){n:Nat}{xs:List V}{ds:List Dv}{us:List ah}(q:Reps X.K M H xs ds)(ok:okDs n ds=ak)(r:bM xs us):∃as,Zq s.heap us (pyDs ds) as:=
 q.ind (P:=λxs ds=>∀us,okDs n ds=ak->bM xs us -> ∃as,Zq s.heap us (pyDs ds) as) (λus _ r=>by cases r;exact⟨_,.nil⟩) (λx d xs ds a _ ih us ok r=>by
  cases r with
  |cons r1 r2=>
   obtain⟨as,ra⟩:=a.reads I (wL ok).1 r1;obtain⟨bs,rb⟩:=ih _ (wL ok).2 r2;exact⟨_,.cons ra rb⟩) us ok r
theorem eB.reads(I:Inv X pj σ H s){n:Nat}{x:V}{d:Dv}{u:ah}(c:eB X.K M H x d)(ok:eQ n d=ak)(r:cM x u):∃as,ZQ s.heap u (jD d) as:=by
 rcases c with c | ⟨a,rfl,o⟩
 ·exact c.reads I ok r
 ·cases d with
  |lst ds=>
   obtain⟨xs,e,q⟩:=o;cases r;cases n with
   |zero=>simp[eQ] at ok
   |succ n=>
    obtain⟨_,its,m,rv,ho⟩:=I.hok _ _ e;obtain⟨as,ra⟩:=Reps.reads I q (by rw[eQ] at ok;exact ok) rv;exact⟨_,.list ho rfl rfl ra⟩
  |dik _=>cases n<;>simp[eQ] at ok
  |dit _=>cases n<;>simp[eQ] at ok
  |obj _ _=>cases n<;>simp[eQ] at ok
  |dns _=>cases n<;>simp[eQ] at ok
  |_=>exact o.elim
def lB:Dv->Dv->(R->Prop)->Prop
 | .int i,.int j,Q=>Q (.v (.bl (decide (i=j))))
 |dx,dy,Q=>(eQ 8 dx=ak/\eQ 8 dy=ak)/\Q (.v (.bl (eqD dx dy)))
def BE:Dv->Dv->(R->Prop)->Prop
 | .int i,.int j,Q=>Q (.v (.bl (!decide (i=j))))
 |dx,dy,Q=>(eQ 8 dx=ak/\eQ 8 dy=ak)/\Q (.v (.bl (!eqD dx dy)))
def UX(K:aq):R2:=λx y H Q=>∃M dx dy,eB K M H x dx/\eB K M H y dy/\eQ 8 dx=ak/\eQ 8 dy=ak/\Q (.bl (eqD dx dy)) H
def US(K:aq):R2:=λx y H Q=>∃M dx dy,eB K M H x dx/\eB K M H y dy/\eQ 8 dx=ak/\eQ 8 dy=ak/\Q (.bl (!eqD dx dy)) H
theorem Pr(hu:X.A.units+64<gv):lQ X (dm .Eq) (UX X.K):=by
 intro pj s σ H x y v u Q I rx ry h;obtain⟨M,dx,dy,r1,r2,o1,o2,q⟩:=h;obtain⟨as,ra⟩:=r1.reads I o1 rx;obtain⟨bs,rb⟩:=r2.reads I o2 ry;exact SeqAt.compareEq_shaped ra rb (oA o1 ∅) (oA o2 ∅) hu ⟨.bl _,H,I,rfl,q⟩
theorem Pl(hu:X.A.units+64<gv):lQ X (dm .NotEq) (US X.K):=by
 intro pj s σ H x y v u Q I rx ry h;obtain⟨M,dx,dy,r1,r2,o1,o2,q⟩:=h;obtain⟨as,ra⟩:=r1.reads I o1 rx;obtain⟨bs,rb⟩:=r2.reads I o2 ry;exact SeqAt.compareNe_shaped ra rb (oA o1 ∅) (oA o2 ∅) hu ⟨.bl _,H,I,rfl,q⟩
theorem Bg(i j:Int):eqD (.int i) (.int j)=decide (i=j):=by
 show ku (.int i) (.int j)=_;rw[ku];exact Bool.beq_eq_decide_eq i j
theorem dC(hu:X.A.units+64<gv):xA X (dm .Eq) lB:=by
 refine⟨λdx dy Q Q' w h=>?_,_,Pr hu,λM O H x y dx dy Q cx cy h=>?_⟩
 ·unfold lB at *;split at h
  ·exact w _ h
  ·exact⟨h.1,w _ h.2⟩
 ·unfold lB at h;split at h
  ·refine⟨M,_,_,cx,cy,by simp[eQ],by simp[eQ],?_⟩;rw[Bg];exact h _ H (aT.refl _) (Rep.bl _)
  ·exact⟨M,_,_,cx,cy,h.1.1,h.1.2,h.2 _ H (aT.refl _) (Rep.bl _)⟩
theorem rY(hu:X.A.units+64<gv):xA X (dm .NotEq) BE:=by
 refine⟨λdx dy Q Q' w h=>?_,_,Pl hu,λM O H x y dx dy Q cx cy h=>?_⟩
 ·unfold BE at *;split at h
  ·exact w _ h
  ·exact⟨h.1,w _ h.2⟩
 ·unfold BE at h;split at h
  ·refine⟨M,_,_,cx,cy,by simp[eQ],by simp[eQ],?_⟩;rw[Bg];exact h _ H (aT.refl _) (Rep.bl _)
  ·exact⟨M,_,_,cx,cy,h.1.1,h.1.2,h.2 _ H (aT.refl _) (Rep.bl _)⟩
set_option genInjectivity false in
structure En where
 nx:List Sl->Prop
 rt:R->Prop
 bk:List Sl->Prop:=λ_=>False
 ct:List Sl->Prop:=λ_=>False
abbrev c7:=En->List Sl->Prop
structure EnLe(E E':En):Prop where
 nx:∀ρ,E.nx ρ->E'.nx ρ
 rt:∀r,E.rt r->E'.rt r
 bk:∀ρ,E.bk ρ->E'.bk ρ
 ct:∀ρ,E.ct ρ->E'.ct ρ
structure Ent(K:aq)(HZ:Hp)(F:af->Prop)(E:En)(D:Ends):Prop where
 nx:∀ρ σ H,Fr K HZ F σ H ρ->E.nx ρ->D.nx σ H
 bk:∀ρ σ H,Fr K HZ F σ H ρ->E.bk ρ->D.bk σ H
 ct:∀ρ σ H,Fr K HZ F σ H ρ->E.ct ρ->D.ct σ H
 rt:∀r x H,aT HZ H->eX K F Aj HZ x r H->E.rt r->D.rt x H
inductive liftS(K:aq)(HZ:Hp)(F:af->Prop)(t:c7)(D:Ends)(σ:St)(H:Hp):Prop
 |mk (ρ:List Sl) (E:En) (fr:Fr K HZ F σ H ρ) (h:t E ρ) (en:Ent K HZ F E D)
structure QS(X:Cx)(st:kg)(t:c7):Prop where
 mono:∀E E' ρ,EnLe E E'->t E ρ->t E' ρ
 run:∀(HZ:Hp) (F:af->Prop),PS X st (liftS X.K HZ F t)
structure QSs(X:Cx)(sts:List kg)(t:c7):Prop where
 mono:∀E E' ρ,EnLe E E'->t E ρ->t E' ρ
 run:∀(HZ:Hp) (F:af->Prop),wF X sts (liftS X.K HZ F t)
variable {E:En}{sts:List kg}
section
variable {st:kg}{t u:c7}{c:Expr}
theorem e7{t t':TS}(h:PS X st t)(w:∀D σ H,t' D σ H->t D σ H):PS X st t':=λpj s σ H D I q=>h pj s σ H D I (w D σ H q)
theorem uD{t t':TS}(h:wF X sts t)(w:∀D σ H,t' D σ H->t D σ H):wF X sts t':=λpj s σ H D I q=>h pj s σ H D I (w D σ H q)
def bH:c7:=λE ρ=>E.nx ρ
def aP(t u:c7):c7:=λE ρ=>t { E with nx:=u E } ρ
theorem bF:QSs X [] bH:=⟨λE E' ρ w h=>w.nx _ h,λHZ F=>uD FS λD σ H zq3=>by obtain⟨ρ,E,fr,h,en⟩:=zq3;exact en.nx _ _ _ fr h⟩
theorem EnLe.with_nx{E':En}{a b:List Sl->Prop}(w:EnLe E E')(h:∀ρ,a ρ->b ρ):EnLe { E with nx:=a } { E' with nx:=b }:=⟨h,w.rt,w.bk,w.ct⟩
theorem aI(h1:QS X st t)(h2:QSs X sts u):QSs X (st::sts) (aP t u):=by
 refine⟨λE E' ρ w h=>h1.mono _ _ _ (w.with_nx λρ h=>h2.mono _ _ _ w h) h,λHZ F=>uD (mZ (h1.run HZ F) (h2.run HZ F)) λD σ H zz=>?_⟩;obtain⟨ρ,E,fr,h,en⟩:=zz;exact⟨ρ,_,fr,h,λρ' σ' H' fr' h'=>⟨ρ',E,fr',h',en⟩,en.bk,en.ct,en.rt⟩
theorem aJ(h1:QS X st t):QSs X [st] t:=⟨h1.mono,λHZ F=>FR (h1.run HZ F)⟩
def J6:c7:=λE ρ=>E.bk ρ
def FJ:c7:=λE ρ=>E.ct ρ
theorem E9:QS X (.Continue pos) FJ:=⟨λE E' ρ w h=>w.ct _ h,λHZ F=>e7 CZ λD σ H zq4=>by obtain⟨ρ,E,fr,h,en⟩:=zq4;exact en.ct _ _ _ fr h⟩
def hW:c7:=λ_ _=>False
theorem gU:QS X st hW:=⟨λ_ _ _ _ h=>h,λHZ F=>e7 JP λD σ H zq5=>by obtain⟨ρ,E,fr,h,en⟩:=zq5;exact h⟩
def AD(te:dE):c7:=λE ρ=>te ρ λ_=>E.nx ρ
theorem E8(he:QE X e te)(hs:autoParam (io e ao pos.line X.env=jh am) cA._auto_1):QS X (.Expr e pos) (AD te):=
 ⟨λE E' ρ w h=>he.mono _ _ _ (λ_ q=>w.nx _ q) h,λHZ F=>e7 (tG (he.run HZ F) hs) λD σ H zq6=>by obtain⟨ρ,E,fr,h,en⟩:=zq6;exact he.step fr h λr x H1 q S1 _=>en.nx _ _ _ (fr.mono S1) q⟩
noncomputable def R.out:R->R
 | .ow _ d=>.nw d
 |r=>r
theorem eX.out{K:aq}{HZ H H':Hp}{F:af->Prop}{σ:St}{ρ:List Sl}{x:V}{r:R}(fr:Fr K HZ F σ H ρ)(h:eX K (MM F ρ) (CD ρ) H x r H'):eX K F Aj HZ x r.out H':=by
 cases r with
 |v d=>exact Rep.weak (λa z=>.inl z) h
 |nw d=>
  obtain⟨a,e,n,o⟩:=h;exact⟨a,e,fr.same.free n,o.weak λb z=>z.elim (λz=>.inl (.inl z)) .inr⟩
 |ow a d=>
  obtain⟨e,m,o⟩:=h;refine⟨a,e,fr.new a d m,o.weak λb z=>?_⟩;rcases z with z | z
  ·exact .inl z
  ·rw[z];exact .inr ⟨d,m⟩
def c8(te:dE):c7:=λE ρ=>te ρ λr=>E.rt r.out
def O1:c7:=λE _=>E.rt (.v .non)
theorem bJ(he:QE X e te):QS X (.Return (ae e) pos) (c8 te):=
 ⟨λE E' ρ w h=>he.mono _ _ _ (λ_ q=>w.rt _ q) h,λHZ F=>e7 (PD (he.run HZ F)) λD σ H zq0=>by obtain⟨ρ,E,fr,h,en⟩:=zq0;exact he.step fr h λr x H1 q S1 r1=>en.rt _ _ _ (fr.same.trans S1) (eX.out fr r1) q⟩
def gM(c:mG)(t u:c7):c7:=λE ρ=>c ρ λb=>if b=ak then t E ρ else u E ρ
theorem dX{a b:List kg}{tc:mG}(hc:QT X c tc)(ha:QSs X a t)(hb:QSs X b u):QS X (.If c a b pos) (gM tc t u):=by
 refine⟨λE E' ρ w h=>hc.mono _ _ _ (λk q=>?_) h,λHZ F=>e7 (JR (hc.run HZ F) (ha.run HZ F) (hb.run HZ F)) λD σ H ⟨ρ,E,fr,h,en⟩=>?_⟩
 ·split at q
  ·rw[a0G ‹_›];exact ha.mono _ _ _ w q
  ·rw[a0h ‹_›];exact hb.mono _ _ _ w q
 ·refine hc.step fr h λk H1 q S1=>?_;cases k with
  |true=>exact qX ⟨ρ,E,fr.mono S1,by simpa using q,en⟩
  |false=>exact pV ⟨ρ,E,fr.mono S1,by simpa using q,en⟩
end
theorem e9{l:List α}{j:Nat}{a b:α}(h:(l.set i a)[j]?=ae b):(i=j/\i<l.length/\b=a) \/ (i≠j/\l[j]?=ae b):=by
 by_cases e:i=j
 ·subst e;by_cases hl:i<l.length
  ·rw[jf hl] at h;exact .inl ⟨rfl,hl,(Option.some.inj h).symm⟩
  ·rw[uc ⋯] at h;cases h
 ·rw[gf e] at h;exact .inr ⟨e,h⟩
theorem MM.set{i:Nat}{s:Sl}(a:af)(h:MM F (ρ.set i s) a):MM F ρ a \/ ∃d,s=.own a d:=by
 rcases h with h | ⟨d,h⟩
 ·exact .inl (.inl h)
 ·rcases jy h with h | h
  ·exact .inl (.inr ⟨d,h⟩)
  ·exact .inr ⟨d,h.symm⟩
theorem Fr.setv(fr:Fr K HZ F σ H ρ){x:V}{d:Dv}(r:Rep K (MM F ρ) H x d):Fr K HZ F (σ.set i (ae x)) H (ρ.set i (.v d)):=by
 have wk:∀a,MM F (ρ.set i (.v d)) a->MM F ρ a:=λa h=>by
  rcases MM.set a h with h | ⟨_,h⟩
  ·exact h
  ·cases h
 refine⟨by simp[fr.len],λj s e=>?_,λj k a d1 d2 e1 e2=>?_,λa d1 h=>?_,fr.same,fr.old⟩
 ·rcases e9 e with⟨rfl,hl,rfl⟩ | ⟨ne,e⟩
  ·exact⟨x,by rw[jf (by rw[fr.len];exact hl)],r.weak wk⟩
  ·rw[gf ne];exact(fr.sl j s e).weak wk
 ·rcases e9 e1 with⟨_,_,z⟩ | ⟨_,e1⟩
  ·cases z
  ·rcases e9 e2 with⟨_,_,z⟩ | ⟨_,e2⟩
   ·cases z
   ·exact fr.nd j k a d1 d2 e1 e2
 ·rcases jy h with h | h
  ·exact fr.new a d1 h
  ·cases h
theorem Fr.setu(fr:Fr K HZ F σ H ρ){o:Option V}:Fr K HZ F (σ.set i o) H (ρ.set i .un):=by
 have wk:∀a,MM F (ρ.set i .un) a->MM F ρ a:=λa h=>by
  rcases MM.set a h with h | ⟨_,h⟩
  ·exact h
  ·cases h
 refine⟨by simp[fr.len],λj s e=>?_,λj k a d1 d2 e1 e2=>?_,λa d1 h=>?_,fr.same,fr.old⟩
 ·rcases e9 e with⟨rfl,hl,rfl⟩ | ⟨ne,e⟩
  ·trivial
  ·rw[gf ne];exact(fr.sl j s e).weak wk
 ·rcases e9 e1 with⟨_,_,z⟩ | ⟨_,e1⟩
  ·cases z
  ·rcases e9 e2 with⟨_,_,z⟩ | ⟨_,e2⟩
   ·cases z
   ·exact fr.nd j k a d1 d2 e1 e2
 ·rcases jy h with h | h
  ·exact fr.new a d1 h
  ·cases h
theorem zY.gen{M M':af->Prop}{o:Option (Option V)}{s:Sl}(G:Gen K M M' H H')(hs:∀a d,s=.own a d -> ∀u,H a=ae u->H' a=ae u)(h:zY K M H o s):zY K M' H' o s:=by
 cases s with
 |un=>trivial
 |v d=>obtain⟨x,e,r⟩:=h;exact⟨x,e,r.gen G⟩
 |own a d=>exact⟨h.1,h.2.gen G (hs a d rfl)⟩
theorem Fr.seto(fr:Fr K HZ F σ H ρ)(S:aT H H'){d:Dv}(ha:H a=ao)(o:fB K (λb=>MM F ρ b \/ b=a) H' a d):Fr K HZ F (σ.set i (ae (.ref a))) H' (ρ.set i (.own a d)):=by
 have wk:∀b,MM F (ρ.set i (.own a d)) b->MM F ρ b \/ b=a:=λb h=>by
  rcases MM.set b h with h | ⟨_,h⟩
  ·exact .inl h
  ·cases h;exact .inr rfl
 have G:Gen K (MM F ρ) (MM F (ρ.set i (.own a d))) H H':=((Gen.fresh ha).trans (.mono S)).trans (.weak wk);have ne:∀(j:Nat) (b:af) (d':Dv),ρ[j]?=ae (Sl.own b d')->b≠a:=λj b d' e z=>by
  have:=(fr.sl j _ e).2.mut;obtain⟨u,hu,_⟩:=this;rw[z,ha] at hu;cases hu
 refine⟨by simp[fr.len],λj s e=>?_,λj k b d1 d2 e1 e2=>?_,λb d1 h=>?_,fr.same.trans S,fr.old⟩
 ·rcases e9 e with⟨rfl,hl,rfl⟩ | ⟨hne,e⟩
  ·exact⟨by rw[jf (by rw[fr.len];exact hl)],o.weak wk⟩
  ·rw[gf hne];exact(fr.sl j s e).gen G λb d' _ u hu=>S _ _ hu
 ·rcases e9 e1 with⟨h1,_,z⟩ | ⟨_,e1⟩
  ·rcases e9 e2 with⟨h2,_,z'⟩ | ⟨_,e2⟩
   ·ac_rfl
   ·cases z;exact absurd rfl (ne k _ _ e2)
  ·rcases e9 e2 with⟨h2,_,z'⟩ | ⟨_,e2⟩
   ·cases z';exact absurd rfl (ne j _ _ e1)
   ·exact fr.nd j k b d1 d2 e1 e2
 ·rcases jy h with h | h
  ·exact fr.new b d1 h
  ·cases h;exact fr.same.free ha
theorem Fr.write(fr:Fr K HZ F σ H ρ){i:Nat}{a:af}{d d':Dv}{o:HO}(hi:ρ[i]?=ae (.own a d))(n:fB K (MM F ρ) (upd H a o) a d'):Fr K HZ F σ (upd H a o) (ρ.set i (.own a d')):=by
 have mem:Sl.own a d∈ρ:=ee hi;have wk:∀b,MM F (ρ.set i (.own a d')) b->MM F ρ b:=λb h=>by
  rcases MM.set b h with h | ⟨_,h⟩
  ·exact h
  ·cases h;exact .inr ⟨d,mem⟩
 obtain⟨hs,ow⟩:=fr.sl i _ hi;obtain⟨u,hu,mu⟩:=ow.mut;have mu':IN (H a):=by rw[hu];exact mu
 have G:Gen K (MM F ρ) (MM F (ρ.set i (.own a d'))) H (upd H a o):=(Gen.write (.inr ⟨d,mem⟩) mu').trans (.weak wk);refine⟨by simp[fr.len],λj s e=>?_,λj k b d1 d2 e1 e2=>?_,λb d1 h=>?_,λb q e=>?_,fr.old⟩
 ·rcases e9 e with⟨rfl,hl,rfl⟩ | ⟨hne,ej⟩
  ·exact⟨hs,n.weak wk⟩
  ·refine(fr.sl j s ej).gen G λb d2 es u hu=>?_;subst es;rw[b5 λz=>hne ?_]
   ·exact hu
   ·subst z;exact fr.nd i j _ d d2 hi ej
 ·rcases e9 e1 with⟨h1,_,z⟩ | ⟨_,e1⟩
  ·cases z;rcases e9 e2 with⟨h2,_,z'⟩ | ⟨_,e2⟩
   ·ac_rfl
   ·rw[<- h1];exact fr.nd i k _ d d2 hi e2
  ·rcases e9 e2 with⟨h2,_,z'⟩ | ⟨_,e2⟩
   ·cases z';rw[<- h2];exact fr.nd j i _ d1 d e1 hi
   ·exact fr.nd j k b d1 d2 e1 e2
 ·rcases jy h with h | h
  ·exact fr.new b d1 h
  ·cases h;exact fr.new _ d mem
 ·rw[b5 ?_]
  ·exact fr.same b q e
  ·intro z;subst z;rw[fr.new _ d mem] at e;cases e
noncomputable def freeze(i:Nat)(ρ:List Sl):List Sl:=match ρ[i]? with
 |some (.own _ d)=>ρ.set i (.v d)
 |_=>ρ
theorem Fr.freeze(fr:Fr K HZ F σ H ρ)(i:Nat):Fr K HZ F σ H (freeze i ρ):=by
 unfold _Z.freeze;split
 ·rename_i a d hi;have mem:Sl.own a d∈ρ:=ee hi;obtain⟨hs,ow⟩:=fr.sl i _ hi;have nF:¬F a:=λz=>fr.old.f a z (fr.new a d mem);have wk:∀b,MM F (ρ.set i (.v d)) b->MM F ρ b:=λb h=>by
   rcases MM.set b h with h | ⟨_,h⟩
   ·exact h
   ·cases h
  have nM:¬MM F (ρ.set i (.v d)) a:=by
   rintro(h | ⟨d',h⟩)
   ·exact nF h
   ·obtain⟨j,e⟩:=xf.mp h;rcases e9 e with⟨_,_,z⟩ | ⟨ne,e⟩
    ·cases z
    ·exact ne (fr.nd i j a d d' hi e)
  refine⟨by simp[fr.len],λj s e=>?_,λj k b d1 d2 e1 e2=>?_,λb d1 h=>?_,fr.same,fr.old⟩
  ·rcases e9 e with⟨rfl,hl,rfl⟩ | ⟨hne,e⟩
   ·exact⟨_,hs,(ow.weak wk).rep nM⟩
   ·exact(fr.sl j s e).weak wk
  ·rcases e9 e1 with⟨_,_,z⟩ | ⟨_,e1⟩
   ·cases z
   ·rcases e9 e2 with⟨_,_,z⟩ | ⟨_,e2⟩
    ·cases z
    ·exact fr.nd j k b d1 d2 e1 e2
  ·rcases jy h with h | h
   ·exact fr.new b d1 h
   ·cases h
 ·exact fr
section
variable {a0Y:lj}{t:c7}
def c6(i:Nat)(te:dE):c7:=λE ρ=>te ρ λr=>match r with
 | .v d=>E.nx (ρ.set i (.v d))
 | .nw d=>E.nx (ρ.set i (.v d))
 | .ow _ _=>False
def fR(i:Nat)(te:dE):c7:=λE ρ=>te ρ λr=>match r with
 | .v d=>E.nx (ρ.set i (.v d))
 | .nw d=>∀a,E.nx (ρ.set i (.own a d))
 | .ow _ _=>False
def vY(i:Nat)(t:c7):c7:=λE ρ=>t E (freeze i ρ)
theorem FM(i:Nat)(h:QSs X sts t):QSs X sts (vY i t):=
 ⟨λE E' ρ w q=>h.mono _ _ _ w q,λHZ F=>uD (h.run HZ F) λD σ H zq1=>by obtain⟨ρ,E,fr,q,en⟩:=zq1;exact⟨_,E,fr.freeze i,q,en⟩⟩
theorem cI{x:bq}(hN:X.N.Nodup)(hi:X.N[i]?=ae x)(hx:GW X.env.scope x)(he:QE X e te)(hs:autoParam (io e (ae (.Name x a0Y)) pos.line X.env=jh am) cA._auto_1)(hf:autoParam (X.fn x=ak \/ X.env.scope.names.lookup x=ae .local) FA._auto_1):
  QS X (.Assign [.Name x a0Y] e pos) (c6 i te):=by
 refine⟨λE E' ρ w h=>he.mono _ _ _ (λr q=>?_) h,λHZ F=>e7 (BA hN hi hx (he.run HZ F) hs hf) λD σ H ⟨ρ,E,fr,h,en⟩=>?_⟩
 ·cases r with
  |v d=>exact w.nx _ q
  |nw d=>exact w.nx _ q
  |ow a d=>exact q
 ·refine he.step fr h λr x H1 q S1 r1=>?_;cases r with
  |v d=>exact en.nx _ _ _ ((fr.mono S1).setv r1) q
  |nw d=>exact en.nx _ _ _ ((fr.mono S1).setv (r1.rep (λa m=>fr.dom m) rfl)) q
  |ow a d=>exact q.elim
theorem fJ{x:bq}(hN:X.N.Nodup)(hi:X.N[i]?=ae x)(hx:GW X.env.scope x)(he:QE X e te)(hs:autoParam (io e (ae (.Name x a0Y)) pos.line X.env=jh am) cA._auto_1)(hf:autoParam (X.fn x=ak \/ X.env.scope.names.lookup x=ae .local) FA._auto_1):
  QS X (.Assign [.Name x a0Y] e pos) (fR i te):=by
 refine⟨λE E' ρ w h=>he.mono _ _ _ (λr q=>?_) h,λHZ F=>e7 (BA hN hi hx (he.run HZ F) hs hf) λD σ H ⟨ρ,E,fr,h,en⟩=>?_⟩
 ·cases r with
  |v d=>exact w.nx _ q
  |nw d=>exact λa=>w.nx _ (q a)
  |ow a d=>exact q
 ·refine he.step fr h λr x H1 q S1 r1=>?_;cases r with
  |v d=>exact en.nx _ _ _ ((fr.mono S1).setv r1) q
  |nw d=>
   obtain⟨a,rfl,ha,o⟩:=r1;exact en.nx _ _ _ (fr.seto S1 ha o) (q a)
  |ow a d=>exact q.elim
def Gj(i:Nat)(p:Dv->Dv->(R->Prop)->Prop)(te:dE):c7:=λE ρ=>match ρ[i]? with
 |some (.v d)=>te ρ λr=>p d r.d λz=>match z with
  | .v d'=>E.nx (ρ.set i (.v d'))
  |_=>False
 |_=>False
def VZ(X:Cx)(op:W1)(p:Dv->Dv->(R->Prop)->Prop):Prop:=xA X (Yo op) p
theorem Rk{x:bq}{op:W1}{p:Dv->Dv->(R->Prop)->Prop}(ho:VZ X op p)(hN:X.N.Nodup)(hi:X.N[i]?=ae x)(hx:GW X.env.scope x)(he:QE X e te)(hf:autoParam (X.fn x=ak \/ X.env.scope.names.lookup x=ae .local) FA._auto_1):
  QS X (.AugAssign (.Name x a0Y) op e pos) (Gj i p te):=by
 obtain⟨mo,r2,hR,hr⟩:=ho;refine⟨λE E' ρ w h=>?_,λHZ F=>e7 (PJ hN hi hx (he.run HZ F) (λpj s σ H x y v u Q I rx ry h=>hR pj s σ H x y v u Q I rx ry h) hf) λD σ H ⟨ρ,E,fr,h,en⟩=>?_⟩
 ·unfold Gj at *;split at h
  ·refine he.mono _ _ _ (λr q=>mo _ _ _ _ (λz q=>?_) q) h;split at q
   ·exact w.nx _ q
   ·exact q
  ·exact h
 ·unfold Gj at h;split at h
  ·rename_i d ed;obtain⟨x,ex,rx⟩:=fr.sl i _ ed;refine⟨x,ex,he.step fr h λr y H1 q S1 r1=>?_⟩;refine hr (MM F ρ) (CD ρ) H1 x y _ _ _ (.inl (rx.mono S1)) r1.c (mo _ _ _ _ (λz q z' H' S' rz=>?_) q);split at q
   ·exact en.nx _ _ _ (((fr.mono S1).mono S').setv rz) q
   ·exact q.elim
  ·exact h.elim
def mX(i:Nat)(te:dE):c7:=λE ρ=>match ρ[i]? with
 |some (.own a (.lst xs))=>te ρ λr=>(r.free=ak/\xs.length<zZ)/\E.nx (ρ.set i (.own a (.lst (xs++[r.d]))))
 |_=>False
theorem BU(h:n<zZ):n<bo:=fc h (jL (cg _))
theorem rE{x:bq}{p1 p2 p3:lj}(hv:PE X (.Name x p1) (vX i))(he:QE X e te)(hs:autoParam (io (.Call (.Attribute (.Name x p1) "append" p2) [e] [] p3) ao pos.line X.env=jh am) cA._auto_1)
  (a0Z:autoParam (kh (.Name x p1) "append" X.env (gw (.Name x p1) X.env)=gw (.Name x p1) X.env) cA._auto_1)
  (hfew:autoParam (((jd p3 (ay [e] X.env)).all (λx=>!x.1)&&(yz p3 (ul [] X.env)).all (λx=>x.1.isSome)
   && decide ([e].length+([]:List Vo).length+(if ([]:List Vo).isEmpty then 0 else 1)<30))=ak) cA._auto_1)
  (a10:autoParam ((p2.endLine==p3.line)=ak) cA._auto_1) (hst:autoParam (ay [e] X.env=(am,gw e X.env)::ay [] X.env) cA._auto_1) (a14:autoParam ((jd p3 (ay [] X.env)).any (·.1)=am) cA._auto_1):
  QS X (.Expr (.Call (.Attribute (.Name x p1) "append" p2) [e] [] p3) pos) (mX i te):=by
 refine⟨λE E' ρ w h=>?_,λHZ F=>e7 (tG (Jg ka PySem.F.slot_list_append PySem.F.type_list_append AN hv (kE (he.run HZ F) uX hst) a0Z hfew a10 hst a14) hs) λD σ H ⟨ρ,E,fr,h,en⟩=>?_⟩
 ·unfold mX at *;split at h
  ·exact he.mono _ _ _ (λr q=>⟨q.1,w.nx _ q.2⟩) h
  ·exact h
 ·unfold mX at h;split at h
  ·rename_i a xs hx;obtain⟨hs1,vs,hv1,rv1⟩:=fr.sl i _ hx;refine⟨_,hs1,.inl ⟨rfl,_,g6.of hv1⟩,he.step fr h λr y H1 q S1 r1=>?_⟩;obtain⟨⟨qf,ql⟩,q2⟩:=q;have rep:=r1.rep (λa m=>fr.dom m) qf;have hv2:=S1 _ _ hv1;refine⟨a,vs,y,rfl,rfl,hv2,by rw[rv1.length];exact BU ql,?_⟩;refine en.nx _ _ _ ((fr.mono S1).write (d':=.lst (xs++[r.d])) hx ⟨_,bP,?_⟩) q2;have G:Gen X.K (MM F ρ) (MM F ρ) H1 (upd H1 a (.lst (vs++[y]))):=Gen.write (.inr ⟨_,ee hx⟩) (by rw[hv2];trivial);exact((rv1.mono S1).append (.cons rep .nil)).gen G
  ·exact h.elim
end
open Classical in
def prot(H:Hp)(ρ:List Sl):Hp:=λb=>if ∃d,Sl.own b d∈ρ then ao else H b
section
variable {σ':St}{ρ':List Sl}
theorem xQ{d:Dv}(h:Sl.own b d∈ρ):prot H ρ b=ao:=by unfold prot;rw[a0G ⟨d,h⟩]
theorem cS(h:¬ ∃d,Sl.own b d∈ρ):prot H ρ b=H b:=by unfold prot;rw[a0h h]
theorem uW(h:prot H ρ b=ae o):H b=ae o:=by
 by_cases c:∃d,Sl.own b d∈ρ
 ·obtain⟨d,c⟩:=c;rw[xQ c] at h;cases h
 ·rw[cS c] at h;exact h
theorem Go(h:prot H ρ b=ao):(∃d,Sl.own b d∈ρ) \/ H b=ao:=by
 by_cases c:∃d,Sl.own b d∈ρ
 ·exact .inl c
 ·rw[cS c] at h;exact .inr h
theorem Fr.prot(fr:Fr K HZ F σ H ρ):Fr K (prot H ρ) F σ H ρ:=by
 refine⟨fr.len,fr.sl,fr.nd,λa d h=>xQ h,λb o h=>uW h,λa h=>?_,λP q z=>?_⟩
 ·rw[cS ?_]
  ·exact fr.dom (.inl h)
  ·rintro⟨d,c⟩;exact fr.old.f a h (fr.new a d c)
 ·have e:=fr.old.t P q z;rw[cS ?_]
  ·exact fr.same _ _ e
  ·rintro⟨d,c⟩;rw[fr.new P d c] at e;cases e
theorem Fr.free_of(fr:Fr K HZ F σ H ρ)(h:_Z.prot H ρ b=ao):HZ b=ao:=by
 rcases Go h with⟨d,c⟩ | h
 ·exact fr.new b d c
 ·exact fr.same.free h
theorem Fr.same_of(fr:Fr K HZ F σ H ρ)(S:aT (_Z.prot H ρ) H'):aT HZ H':=λb o e=>by
 refine S b o ?_;rw[cS ?_]
 ·exact fr.same b o e
 ·rintro⟨d,c⟩;rw[fr.new b d c] at e;cases e
theorem Fr.unprot(fr:Fr K HZ F σ H ρ)(g:Fr K (_Z.prot H ρ) F σ' H' ρ'):Fr K HZ F σ' H' ρ':=
 ⟨g.len,g.sl,g.nd,λa d h=>fr.free_of (g.new a d h),fr.same_of g.same,fr.old⟩
theorem Fr.gen(fr:Fr K HZ F σ H ρ)(g:Fr K (_Z.prot H ρ) F σ' H' ρ'):Gen K (MM F ρ) (MM F ρ') H H':=by
 have no:∀a o,H a=ae o -> ¬MM F ρ a->_Z.prot H ρ a=ae o:=λa o e m=>by
  rw[cS λc=>m (.inr c)];exact e
 have no2:∀a o,H a=ae o -> ¬IN (ae o)->_Z.prot H ρ a=ae o:=λa o e m=>by
  rw[cS ?_]
  ·exact e
  ·rintro⟨d,c⟩;obtain⟨_,_,_,ow⟩:=fr.at_own c;obtain⟨u,hu,mu⟩:=ow.mut;rw[e] at hu;cases hu;exact m mu
 refine⟨λa o e mu m=>⟨g.same _ _ (no a o e m),?_⟩,λa xs e=>g.same _ _ (no2 a _ e λz=>z),λa ns e=>?_,λa o u e=>g.same _ _ (no2 a _ e λz=>z)⟩
 ·rintro(h | ⟨d,h⟩)
  ·exact m (.inl h)
  ·have:=g.new a d h;rw[no a o e m] at this;cases this
 ·rcases e with⟨o,e⟩ | e
  ·exact .inl ⟨o,g.same _ _ (no2 a _ e λz=>z)⟩
  ·exact .inr e
theorem Ent.prot{E:En}{D:Ends}(fr:Fr K HZ F σ H ρ)(en:Ent K HZ F E D):Ent K (_Z.prot H ρ) F E D:=by
 refine⟨λρ' σ' H' g h=>en.nx _ _ _ (fr.unprot g) h,λρ' σ' H' g h=>en.bk _ _ _ (fr.unprot g) h,λρ' σ' H' g h=>en.ct _ _ _ (fr.unprot g) h,λr x H' S rr h=>en.rt r x H' (fr.same_of S) ?_ h⟩;cases r with
 |v d=>exact rr
 |ow a d=>exact rr
 |nw d=>obtain⟨a,e,n,o⟩:=rr;exact⟨a,e,fr.free_of n,o⟩
end
abbrev wZ:=List Sl->(List Dv->List (af×List Dv)->Prop)->Prop
def guard(ogs:List (af×List Dv))(ρ:List Sl):Prop:=∀p∈ogs,Sl.own p.1 (.lst p.2)∈ρ
def A2(K:aq)(P:Hp)(M:af->Prop)(H1:Hp)(J:It)(ds:List Dv)(ogs:List (af×List Dv)):Prop:=
 ∀(i:Nat) (H':Hp) (M':af->Prop),aT P H'->Gen K M M' H1 H'->(∀p∈ogs,fB K M' H' p.1 (.lst p.2)) ->
  (∀d,ds[i]?=ae d->J.go i H' /\ ∀y H'',J.yld i H' y H''->aT H' H''/\Rep K M' H'' y d)/\(ds.length<=i->J.stop i H')
structure QI(X:Cx)(tg iter:Expr)(ti:wZ):Prop where
 mono:∀(ρ:List Sl) (Q Q':List Dv->List (af×List Dv)->Prop),(∀ds g,Q ds g->Q' ds g)->ti ρ Q->ti ρ Q'
 run:∀(HZ:Hp) (F:af->Prop),∃wi,PI X tg iter wi /\ ∀(σ:St) (H:Hp) (ρ:List Sl) (R:It->Hp->Prop),Fr X.K HZ F σ H ρ ->
  ti ρ (λds ogs=>∀J H1,aT H H1->guard ogs ρ->A2 X.K (prot H1 ρ) (MM F ρ) H1 J ds ogs->R J H1)->wi σ H R
variable {P:Hp}{l:Expr}{lo:Int}
section
variable {tl:dE}
def SS(K:aq)(tl:TE):TI:=λσ H R=>tl σ H λx H1=>∃a,x=.ref a/\(((∃xs,g6 K H1 a xs)/\R (Tb K a) H1) \/ ((∃xs,oQ K H1 a xs)/\R (VP K a) H1))
theorem PM{tl:TE}(hl:PE X l tl):PI X tg l (SS X.K tl):=by
 intro pj s σ H R I h;refine thn (hl pj s σ H _ I h) λv s1 zz=>?_;obtain⟨x,H1,I1,r1,q1⟩:=zz;obtain⟨a,e,q1⟩:=q1;subst e;cases r1;rcases q1 with⟨⟨xs,hq⟩,q⟩ | ⟨⟨xs,hq⟩,q⟩
 ·obtain⟨its,rv,p,hz⟩:=I1.list hq;refine Y9 p.isList ?_;refine⟨s1.heap.objs.size,[s1.heap.objs.size],_,_,H1,rfl,I1.kept (t':=s1.toks) λb o e=>au _ e,GY a _,⟨_,cm _ rfl,rfl,rfl⟩,λb hb=>?_,q⟩;have e:b=s1.heap.objs.size:=by simpa using hb
  subst e;exact I1.fpOk (cg _) (I1.hok.fresh (cg _))
 ·obtain⟨its,rv,p,hz⟩:=I1.tuple hq;refine wpAny_pyIter_tuple (show s1.heap.IsTuple a its.toArray from p) ?_;refine⟨s1.heap.objs.size,[s1.heap.objs.size],_,_,H1,rfl,I1.kept (t':=s1.toks) λb o e=>au _ e,Do a _,⟨_,cm _ rfl,rfl,rfl⟩,λb hb=>?_,q⟩;have e:b=s1.heap.objs.size:=by simpa using hb
  subst e;exact I1.fpOk (cg _) (I1.hok.fresh (cg _))
def kY(tl:dE):wZ:=λρ Q=>tl ρ λr=>match r with
 | .v (.lst ds)=>Q ds []
 | .nw (.lst ds)=>Q ds []
 | .ow a (.lst ds)=>Q ds [(a,ds)]
 | .v (.tup ds)=>Q ds []
 | .v (.scr ns)=>Q (ns.map .int) []
 |_=>False
theorem AR{xs:List V}(hP:P a=ae (.lst xs))(r:Reps K M H1 xs ds):A2 K P M H1 (Tb K a) ds []:=by
 intro i H' M' S G _;have h':=S _ _ hP;refine⟨λd e=>?_,λh=>⟨xs,g6.of h',by rw[r.length];exact h⟩⟩;obtain⟨x,hx,rx⟩:=r.get e;refine⟨⟨xs,x,g6.of h',hx⟩,λy H'' zz=>?_⟩;obtain⟨e1,e2⟩:=zz;subst e1;have:=e2 xs (g6.of h');rw[hx] at this;cases this;exact⟨aT.refl _,rx.gen G⟩
theorem L8:A2 K P M H1 (Tb K a) ds [(a,ds)]:=by
 intro i H' M' S G ow;obtain⟨xs,h',r⟩:=ow (a,ds) (by simp);refine⟨λd e=>?_,λh=>⟨xs,g6.of h',by rw[r.length];exact h⟩⟩;obtain⟨x,hx,rx⟩:=r.get e;refine⟨⟨xs,x,g6.of h',hx⟩,λy H'' zz=>?_⟩;obtain⟨e1,e2⟩:=zz;subst e1;have:=e2 xs (g6.of h');rw[hx] at this;cases this;exact⟨aT.refl _,rx⟩
theorem L6{xs:List V}(hP:P a=ae (.tup xs))(r:Reps K M H1 xs ds):A2 K P M H1 (VP K a) ds []:=by
 intro i H' M' S G _;have h':=S _ _ hP;refine⟨λd e=>?_,λh=>⟨xs,oQ.of h',by rw[r.length];exact h⟩⟩;obtain⟨x,hx,rx⟩:=r.get e;refine⟨⟨xs,x,oQ.of h',hx⟩,λy H'' zz=>?_⟩;obtain⟨e1,e2⟩:=zz;subst e1;have:=e2 xs (oQ.of h');rw[hx] at this;cases this;exact⟨aT.refl _,rx.gen G⟩
theorem L7(hP:Nt K P a ns):A2 K P M H1 (Tb K a) (ns.map .int) []:=by
 intro i H' M' S G _;have h':=(aT.scr S hP).sq;refine⟨λd e=>?_,λh=>⟨_,h',by simpa using h⟩⟩;have r:Reps K M' H' (ns.map V.int) (ns.map .int):=Reps.ints ns;obtain⟨x,hx,rx⟩:=r.get e;refine⟨⟨_,x,h',hx⟩,λy H'' zz=>?_⟩;obtain⟨e1,e2⟩:=zz;subst e1;have:=e2 _ h';rw[hx] at this;cases this;exact⟨aT.refl _,rx⟩
theorem G0(fr:Fr K HZ F σ H ρ)(e:H a=ae o)(m:¬IN (ae o)):¬ ∃d,Sl.own a d∈ρ:=by
 rintro⟨d,c⟩;obtain⟨_,_,_,ow⟩:=fr.at_own c;obtain⟨u,hu,mu⟩:=ow.mut;rw[e] at hu;cases hu;exact m mu
theorem fK(h:QE X l tl):QI X tg l (kY tl):=by
 refine⟨λρ Q Q' w q=>h.mono _ _ _ (λr q=>?_) q,λHZ F=>⟨_,PM (h.run HZ F),λσ H ρ R fr q=>?_⟩⟩
 ·unfold kY at *;split at q<;>first | exact w _ _ q | exact q
 ·refine h.step fr q λr x H1 q S1 r1=>?_;have fr1:=fr.mono S1;split at q
  ·rename_i ds;cases r1 with
   |lst e m rs=>
    exact⟨_,rfl,.inl ⟨⟨_,g6.of e⟩,q _ H1 S1 (by intro p hp;simp at hp) (AR (by rw[cS λc=>m (.inr c)];exact e) rs)⟩⟩
  ·rename_i ds;obtain⟨a,rfl,n,xs,e,rs⟩:=r1;exact⟨_,rfl,.inl ⟨⟨_,g6.of e⟩,q _ H1 S1 (by intro p hp;simp at hp) (AR (by rw[cS λc=>fr.fresh n (.inr c)];exact e) (rs.weak λb z=>.inl z))⟩⟩
  ·rename_i a ds;obtain⟨rfl,m,xs,e,rs⟩:=r1;exact⟨_,rfl,.inl ⟨⟨_,g6.of e⟩,q _ H1 S1 (by intro p hp;simp at hp;subst hp;exact m) L8⟩⟩
  ·rename_i ds;cases r1 with
   |tup e rs=>exact⟨_,rfl,.inr ⟨⟨_,oQ.of e⟩,q _ H1 S1 (by intro p hp;simp at hp) (L6 (by rw[cS (G0 fr1 e λz=>z)];exact e) rs)⟩⟩
  ·rename_i ns;cases r1 with
   |scr e=>
    refine⟨_,rfl,.inl ⟨⟨_,e.sq⟩,q _ H1 S1 (by intro p hp;simp at hp) (L7 ?_)⟩⟩;rcases e with⟨o,e⟩ | e
    ·exact .inl ⟨o,by rw[cS (G0 fr1 e λz=>z)];exact e⟩
    ·exact .inr e
  ·exact q.elim
noncomputable def bE(lo:Int)(n:Nat):List Dv:=(iw n).map λ(k:Nat)=>Dv.int (lo+(k:Int))
theorem E7{d:Dv}(h:(bE lo n)[i]?=ae d):i<n/\d=.int (lo+i):=by
 unfold bE at h;rw[dw] at h;cases e:(iw n)[i]? with
 |none=>rw[e] at h;cases h
 |some k=>
  rw[e] at h;obtain⟨h1,h2⟩:=fb.mp e;simp at h1 h2;subst h2;exact⟨h1,(Option.some.inj h).symm⟩
theorem yD:A2 K P M H1 (Ta lo n) (bE lo n) []:=by
 intro i H' M' S G _;refine⟨λd e=>?_,λh=>(show n<=i by simpa [bE] using h)⟩;obtain⟨h1,h2⟩:=E7 e;subst h2;refine⟨h1,λy H'' zz=>?_⟩;obtain⟨e1,e2⟩:=zz;subst e1 e2;exact⟨aT.refl _,.int _⟩
def eR(ts:oN):wZ:=λρ Q=>ts ρ λrs=>match rs.map R.d with
 | [.int j]=>(-(2 ^ 62)<=j/\j<2 ^ 62)/\Q (bE 0 j.toNat) []
 |_=>False
def gX(ts:oN):wZ:=λρ Q=>ts ρ λrs=>match rs.map R.d with
 | [.int i,.int j]=>(-(2 ^ 62)<=i/\i<2 ^ 62 /\ -(2 ^ 62)<=j/\j<2 ^ 62)/\Q (bE i (j-i).toNat) []
 |_=>False
theorem fW{xs:List V}{d:Dv}(h:Dh K M H xs [d]):∃x,xs=[x]/\eB K M H x d:=by
 cases h with
 |cons a t=>cases t;exact⟨_,rfl,a⟩
theorem Qi{xs:List V}{d d':Dv}(h:Dh K M H xs [d,d']):∃x y,xs=[x,y]/\eB K M H x d/\eB K M H y d':=by
 cases h with
 |cons a t=>
  obtain⟨y,rfl,b⟩:=fW t;exact⟨_,_,rfl,a,b⟩
theorem eD{a:Expr}(hg:Gl X "range")(hm:X.mg "range"=ao)(ha:QA X [a] ts)(hs:autoParam (ay [a] X.env=[(am,gw a X.env)]) cA._auto_1):QI X tg (.Call (.Name "range" p) [a] [] pos) (eR ts):=by
 refine⟨λρ Q Q' w q=>ha.mono _ _ _ (λr q=>?_) q,λHZ F=>⟨_,Gs hg hm (ha.run HZ F) hs,λσ H ρ R fr q=>?_⟩⟩
 ·split at q
  ·exact⟨q.1,w _ _ q.2⟩
  ·exact q
 ·refine ha.step fr q λrs xs H1 q S1 r1=>?_;split at q
  ·rename_i j e;have c:=r1.c;rw[e] at c;obtain⟨x,rfl,cx⟩:=fW c;obtain rfl:=cx.int;exact⟨j,rfl,q.1.1,q.1.2,q.2 _ H1 S1 (by intro p hp;simp at hp) yD⟩
  ·exact q.elim
theorem g7{a b:Expr}(hg:Gl X "range")(hm:X.mg "range"=ao)(ha:QA X [a,b] ts)(hs:autoParam (ay [a,b] X.env=[(am,gw a X.env),(am,gw b X.env)]) cA._auto_1)(hs2:autoParam (ay [b] X.env=[(am,gw b X.env)]) cA._auto_1):
  QI X tg (.Call (.Name "range" p) [a,b] [] pos) (gX ts):=by
 refine⟨λρ Q Q' w q=>ha.mono _ _ _ (λr q=>?_) q,λHZ F=>⟨_,Gr hg hm (ha.run HZ F) hs hs2,λσ H ρ R fr q=>?_⟩⟩
 ·split at q
  ·exact⟨q.1,w _ _ q.2⟩
  ·exact q
 ·refine ha.step fr q λrs xs H1 q S1 r1=>?_;split at q
  ·rename_i i j e;have c:=r1.c;rw[e] at c;obtain⟨x,y,rfl,cx,cy⟩:=Qi c;obtain rfl:=cx.int;obtain rfl:=cy.int;exact⟨i,j,rfl,q.1,q.2 _ H1 S1 (by intro p hp;simp at hp) yD⟩
  ·exact q.elim
end
abbrev C8:=Dv->List Sl->(List Sl->Prop)->Prop
structure QG(X:Cx)(tg:Expr)(k:Nat)(g:C8):Prop where
 mono:∀d ρ (Q Q':List Sl->Prop),(∀ρ,Q ρ->Q' ρ)->g d ρ Q->g d ρ Q'
 agree:∀d ρ (Q:List Sl->Prop),g d ρ Q->g d ρ λρ1=>Q ρ1/\ρ1.length=ρ.length /\ ∀j,k<=j->ρ1[j]?=ρ[j]?
 run:∃t,PG X tg t /\ ∀(HZ:Hp) (F:af->Prop) (v:V) (d:Dv) (σ:St) (H:Hp) (ρ:List Sl) (Q:St->Hp->Prop),Fr X.K HZ F σ H ρ->Rep X.K (MM F ρ) H v d ->
  g d ρ (λρ1=>∀σ1,Fr X.K HZ F σ1 H ρ1->(∀j,k<=j->σ1[j]?=σ[j]?)->Q σ1 H)->t v σ H Q
def gN(i:Nat):C8:=λd ρ Q=>Q (ρ.set i (.v d))
noncomputable def nY:List Nat->List Dv->List Sl->List Sl
 |i::is,d::ds,ρ=>nY is ds (ρ.set i (.v d))
 |_,_,ρ=>ρ
def gT(is:List Nat):C8:=λd ρ Q=>match d with
 | .tup ds=>ds.length=is.length/\Q (nY is ds ρ)
 |_=>False
def Us:List Nat->Od
 | []=>Sa
 |i::is=>OP (DK i) (Us is)
theorem xK:∀(is:List Nat) (ds:List Dv) (ρ:List Sl),(nY is ds ρ).length=ρ.length
 | [],_,_=>rfl
 |_::_,[],_=>rfl
 |i::is,d::ds,ρ=>by rw[nY,xK is ds];simp
theorem xL{k:Nat}:∀(is:List Nat) (ds:List Dv) (ρ:List Sl),(∀i∈is,i<k) -> ∀j,k<=j->(nY is ds ρ)[j]?=ρ[j]?
 | [],_,_,_,_,_=>rfl
 |_::_,[],_,_,_,_=>rfl
 |i::is,d::ds,ρ,h,j,hj=>by
  have:=h i (by simp);rw[nY,xL is ds _ (λi hi=>h i (by simp[hi])) j hj,gf ⋯]
theorem f8{k:Nat}{x:bq}(hN:X.N.Nodup)(hi:X.N[i]?=ae x)(hx:GW X.env.scope x)(hk:autoParam (i<k) mJ._auto_1)(hf:autoParam (X.fn x=ak \/ X.env.scope.names.lookup x=ae .local) FA._auto_1):QG X (.Name x pos) k (gN i):=by
 refine⟨λd ρ Q Q' w q=>w _ q,λd ρ Q q=>⟨q,by simp,λj hj=>by rw[gf ⋯]⟩,_,dO hN hi hx hf,λHZ F v d σ H ρ Q fr r q=>?_⟩;exact q _ (fr.setv r) λj hj=>by rw[gf ⋯]
theorem GH{K:aq}{HZ:Hp}{F:af->Prop}{H:Hp}{k:Nat}:∀(is:List Nat) (ds:List Dv) (vs:List V) (σ:St) (ρ:List Sl) (Q:St->Hp->Prop),(∀i∈is,i<k)->ds.length=is.length->Fr K HZ F σ H ρ->Reps K (MM F ρ) H vs ds ->
  (∀σ1,Fr K HZ F σ1 H (nY is ds ρ)->(∀j,k<=j->σ1[j]?=σ[j]?)->Q σ1 H)->Us is vs σ H Q
 | [],[],_,σ,ρ,Q,_,_,fr,.nil,q=>⟨rfl,q σ fr λ_ _=>rfl⟩
 |i::is,d::ds,_,σ,ρ,Q,hk,hl,fr,.cons (x:=x) a r,q=>by
  refine⟨x,_,rfl,?_⟩;have wk:∀b,MM F (ρ.set i (.v d)) b->MM F ρ b:=λb h=>by
   rcases MM.set b h with h | ⟨_,h⟩
   ·exact h
   ·cases h
  refine GH is ds _ _ (ρ.set i (.v d)) Q (λi hi=>hk i (by simp[hi])) (by simpa using hl) (fr.setv a) (r.weak wk) λσ1 f1 e1=>q σ1 f1 λj hj=>?_;have:=hk i (by simp);rw[e1 j hj,gf ⋯]
theorem CW{x1 k:Nat}{is:List Nat}(hc:X.calm=ak)(h:TY X es (Us is))(hk:autoParam (∀i∈is,i<k) mJ._auto_1)(hl:autoParam (is.length=n) cA._auto_1)
  (hn:autoParam ((wy es X.env).length=n) cA._auto_1) (hst:autoParam ((wy es X.env).findIdx? (·.1)=ao) cA._auto_1):QG X (.Tuple es x1 pos) k (gT is):=by
 refine⟨λd ρ Q Q' w q=>?_,λd ρ Q q=>?_,_,PN hc h hn hst,λHZ F v d σ H ρ Q fr r q=>?_⟩
 ·unfold gT at *;split at q
  ·exact⟨q.1,w _ q.2⟩
  ·exact q
 ·unfold gT at *;split at q
  ·exact⟨q.1,q.2,xK _ _ _,xL _ _ _ hk⟩
  ·exact q
 ·unfold gT at q;split at q
  ·cases r with
   |tup e rs=>exact⟨_,_,rfl,oQ.of e,by rw[rs.length,q.1,hl],GH is _ _ σ ρ Q hk q.1 fr rs q.2⟩
  ·exact q.elim
def b8(g:C8)(tb:c7)(ogs:List (af×List Dv)):List Dv->c7
 | []=>λE ρ=>guard ogs ρ/\E.nx ρ
 |d::r=>λE ρ=>guard ogs ρ/\g d ρ λρ1=>tb { E with nx:=b8 g tb ogs r E,ct:=b8 g tb ogs r E,bk:=E.nx } ρ1
def fS(ti:wZ)(g:C8)(tb:c7):c7:=λE ρ=>ti ρ λds ogs=>b8 g tb ogs ds E ρ
section
variable {X:Cx}{tg a0L c:Expr}{ti:wZ}{g:C8}{tb:c7}{a0R:List kg}{pos:lj}{k:Nat}
theorem sI(mg:∀d ρ (Q Q':List Sl->Prop),(∀ρ,Q ρ->Q' ρ)->g d ρ Q->g d ρ Q')(mb:∀E E' ρ,EnLe E E'->tb E ρ->tb E' ρ)(ogs:List (af×List Dv)):∀(ds:List Dv) (E E':En) (ρ:List Sl),EnLe E E'->b8 g tb ogs ds E ρ->b8 g tb ogs ds E' ρ
 | [],E,E',ρ,w,h=>⟨h.1,w.nx _ h.2⟩
 |d::r,E,E',ρ,w,h=>by
  have w2:EnLe { E with nx:=b8 g tb ogs r E,ct:=b8 g tb ogs r E,bk:=E.nx } { E' with nx:=b8 g tb ogs r E',ct:=b8 g tb ogs r E',bk:=E'.nx }:=
   ⟨λρ h=>sI mg mb ogs r E E' ρ w h,w.rt,w.nx,λρ h=>sI mg mb ogs r E E' ρ w h⟩
  exact⟨h.1,mg _ _ _ _ (λρ1 h=>mb _ _ _ w2 h) h.2⟩
theorem b6(ogs:List (af×List Dv))(E:En)(ρ:List Sl):b8 g tb ogs [] E ρ=(guard ogs ρ/\E.nx ρ):=rfl
theorem b7(ogs:List (af×List Dv))(d:Dv)(r:List Dv)(E:En)(ρ:List Sl):b8 g tb ogs (d::r) E ρ=(guard ogs ρ/\g d ρ λρ1=>tb { E with nx:=b8 g tb ogs r E,ct:=b8 g tb ogs r E,bk:=E.nx } ρ1):=rfl
theorem DL{ogs:List (af×List Dv)}:∀{ds:List Dv},b8 g tb ogs ds E ρ->guard ogs ρ
 | [],h=>by rw[b6] at h;exact h.1
 |_::_,h=>by rw[b7] at h;exact h.1
theorem dY(hp:X5 (bn X.prog X.w) X.A X.env X.xe)(hc:X.N=X.N)(hi:QI X tg a0L ti)(hg:QG X tg k g)(hb:QSs X a0R tb)(hs:autoParam (∀x,jl a0L X.env x=jh x) M7._auto_1):QS X (.For tg a0L a0R [] pos) (fS ti g tb):=by
 refine⟨λE E' ρ w h=>hi.mono _ _ _ (λds ogs h=>sI hg.mono hb.mono ogs ds E E' ρ w h) h,λHZ F=>?_⟩;obtain⟨wi,hwi,wiq⟩:=hi.run HZ F;obtain⟨tt,htt,ttq⟩:=hg.run;have hb':wF X a0R (λD σ H=>∃P,liftS X.K P F tb D σ H):=λpj s σ H D I zq2=>by obtain⟨P,q⟩:=zq2;exact hb.run P F pj s σ H D I q
 refine e7 (PF hp hc hwi htt hb' hs) λD σ H zz=>?_;obtain⟨ρ,E,fr,h,en⟩:=zz;refine wiq σ H ρ _ fr (hi.mono _ _ _ (λds ogs q J H2 S2 _ ok=>?_) h);have fr2:=fr.mono S2;have en2:Ent X.K (prot H2 ρ) F E D:=en.prot fr2;refine⟨λi m σ' H'=>m=ds.length-i/\i<=ds.length /\ ∃ρ',Fr X.K (prot H2 ρ) F σ' H' ρ'/\b8 g tb ogs (ds.drop i) E ρ',⟨ds.length,by simp,qd _,ρ,fr2.prot,by simpa using q⟩,?_⟩;rintro i m σ' H' ⟨rfl,hil,ρ',fr',q'⟩;have gd:guard ogs ρ':=DL q';have Gn:=fr2.gen fr';have oks:=ok i H' (MM F ρ') fr'.same Gn λp hp=>let ⟨_,_,_,h⟩:=fr'.at_own (gd p hp);h;by_cases hlt:i<ds.length
 ·have hd:ds[i]?=ae ds[i]:=by simp[hlt]
  have hdr:ds.drop i=ds[i]::ds.drop (i+1):=fj hlt;rw[hdr,b7] at q';obtain⟨go,yld⟩:=oks.1 _ hd;refine .inr ⟨go,λσ2 H2'=>∃ρ2,Fr X.K (prot H2 ρ) F σ2 H2' ρ2/\b8 g tb ogs (ds.drop (i+1)) E ρ2,λσ2 H2' zq3=>by obtain⟨ρ2,f2',q2⟩:=zq3;exact⟨ds.length-(i+1),⋯,rfl,hlt,ρ2,f2',q2⟩,λy H3 hy=>?_⟩;obtain⟨S3,ry⟩:=yld y H3 hy;refine ttq _ F y _ σ' H3 ρ' _ (fr'.mono S3) ry (hg.mono _ _ _ _ (λρ1 q1 σ1 f1 _=>?_) q'.2);exact⟨_,ρ1,_,f1,q1,λρ3 σ3 H3' f3 q3=>⟨ρ3,f3,q3⟩,en2.nx,λρ3 σ3 H3' f3 q3=>⟨ρ3,f3,q3⟩,en2.rt⟩
 ·have e:i=ds.length:=⋯;subst e;rw[Vr,b6] at q';exact .inl ⟨oks.2 (cg _),en2.nx _ _ _ fr' q'.2⟩
end
end _Z
variable {l:List Nat}{te:_Z.dE}{ds:List _Z.Dv}{ρ:List _Z.Sl}
namespace _Z
open _L
def Ay(tc:mG)(tb:c7):c7:=λE ρ=>∃I:Nat->List Sl->Prop,(∃m,I m ρ) /\ ∀m ρ,I m ρ->tc ρ λb=>
 if b=ak then tb { E with nx:=λρ'=>∃m',m'<m/\I m' ρ',ct:=λρ'=>∃m',m'<m/\I m' ρ',bk:=E.nx } ρ else E.nx ρ
variable {σ:St}{j:Nat}{elt a0L:Expr}{ti:wZ}{ts:oN}
section
variable {c:Expr}{g:C8}{tb:c7}{a0R:List kg}{k:Nat}{tc:mG}
theorem MQ(hp:X5 (bn X.prog X.w) X.A X.env X.xe)(hc:QT X c tc)(hb:QSs X a0R tb):QS X (.While c a0R [] pos) (Ay tc tb):=by
 refine⟨λE E' ρ w h=>?_,λHZ F=>e7 (CY hp (hc.run HZ F) (hb.run HZ F)) λD σ H ⟨ρ,E,fr,h,en⟩=>?_⟩
 ·obtain⟨I,i0,step⟩:=h;refine⟨I,i0,λm ρ hI=>hc.mono _ _ _ (λb q=>?_) (step m ρ hI)⟩;have w2:EnLe { E with nx:=λρ'=>∃m',m'<m/\I m' ρ',ct:=λρ'=>∃m',m'<m/\I m' ρ',bk:=E.nx } { E' with nx:=λρ'=>∃m',m'<m/\I m' ρ',ct:=λρ'=>∃m',m'<m/\I m' ρ',bk:=E'.nx }:=
   ⟨λ_ h=>h,w.rt,w.nx,λ_ h=>h⟩
  split at q
  ·rw[a0G ‹_›];exact hb.mono _ _ _ w2 q
  ·rw[a0h ‹_›];exact w.nx _ q
 ·obtain⟨I,⟨m0,i0⟩,step⟩:=h;refine⟨λm σ H=>∃ρ,Fr X.K HZ F σ H ρ/\I m ρ,⟨m0,ρ,fr,i0⟩,?_⟩;rintro m σ H ⟨ρ,fr,hI⟩;refine hc.step fr (step m ρ hI) λb H1 q S1=>?_;cases b with
  |true=>
   simp only[if_true] at q;refine qX ⟨λσ' H'=>∃m',m'<m /\ ∃ρ',Fr X.K HZ F σ' H' ρ'/\I m' ρ',λσ' H' zq4=>by obtain⟨m',l,h⟩:=zq4;exact⟨m',l,h⟩,ρ,_,fr.mono S1,q,?_,en.nx,?_,en.rt⟩
   ·rintro ρ' σ' H' fr' ⟨m',l,h⟩;exact⟨m',l,ρ',fr',h⟩
   ·rintro ρ' σ' H' fr' ⟨m',l,h⟩;exact⟨m',l,ρ',fr',h⟩
  |false=>exact pV (en.nx _ _ _ (fr.mono S1) (by simpa using q))
noncomputable def fT(js:List Nat)(ρ:List Sl):List Sl:=js.map λj=>(ρ[j]?).getD .un
def d8(ρ0:List Sl)(g:C8)(tt:mG)(te:dE):List Dv->List Dv->(R->Prop)->Prop
 | [],acc,Q=>Q (.nw (.lst acc))
 |d::r,acc,Q=>g d ρ0 λρ1=>tt ρ1 λb=>if b=ak then te ρ1 λv=>(v.free=ak/\acc.length<zZ)/\d8 ρ0 g tt te r (acc++[v.d]) Q else d8 ρ0 g tt te r acc Q
def eJ(k:Nat)(js:List Nat)(ti:wZ)(g:C8)(tt:mG)(te:dE):dE:=λρ Q=>ti ρ λds _=>d8 (av k .un++fT js ρ) g tt te ds [] Q
structure QTs(X:Cx)(ifs:List Expr)(t:mG):Prop where
 mono:∀(ρ:List Sl) (Q Q':Bool->Prop),(∀r,Q r->Q' r)->t ρ Q->t ρ Q'
 run:∀(HZ:Hp) (F:af->Prop),Qt X ifs (liftT X.K HZ F t)
def eP:mG:=λ_ Q=>Q ak
theorem kC:QTs X [] eP:=⟨λ_ _ _ w q=>w _ q,λHZ F pj s σ H Q I zq5=>by obtain⟨ρ,fr,q⟩:=zq5;exact MZ pj s σ H Q I (q H (aT.refl _))⟩
theorem qJ{t:mG}(h:QT X c t):QTs X [c] t:=⟨h.mono,λHZ F=>MY (h.run HZ F)⟩
theorem n4{s:Sl}(h:(fT js ρ)[i]?=ae s)(hs:s ≠ .un):∃j,js[i]?=ae j/\ρ[j]?=ae s:=by
 unfold fT at h;rw[dw] at h;cases e:js[i]? with
 |none=>rw[e] at h;cases h
 |some j=>
  rw[e] at h;refine⟨j,rfl,?_⟩;have h':(ρ[j]?).getD .un=s:=Option.some.inj h;cases q:ρ[j]? with
  |none=>rw[q] at h';exact absurd h'.symm hs
  |some o=>rw[q] at h';exact congrArg ae h'
theorem FT{x:V}(hj:js[i]?=ae j)(h:σ[j]?=ae (ae x)):(pick js σ)[i]?=ae (ae x):=by
 unfold pick;rw[dw,hj,wa,h];rfl
theorem lM{ρ0:List Sl}{tt:mG}(mg:∀d ρ (Q Q':List Sl->Prop),(∀ρ,Q ρ->Q' ρ)->g d ρ Q->g d ρ Q')(mt:∀(ρ:List Sl) (Q Q':Bool->Prop),(∀r,Q r->Q' r)->tt ρ Q->tt ρ Q')(me:∀(ρ:List Sl) (Q Q':R->Prop),(∀r,Q r->Q' r)->te ρ Q->te ρ Q'):
  ∀(ds acc:List Dv) (Q Q':R->Prop),(∀r,Q r->Q' r)->d8 ρ0 g tt te ds acc Q->d8 ρ0 g tt te ds acc Q'
 | [],acc,Q,Q',w,h=>w _ h
 |d::r,acc,Q,Q',w,h=>by
  refine mg _ _ _ _ (λρ1 h=>mt _ _ _ (λb h=>?_) h) h;split at h
  ·rw[a0G ‹_›];exact me _ _ _ (λv h=>⟨h.1,lM mg mt me r _ Q Q' w h.2⟩) h
  ·rw[a0h ‹_›];exact lM mg mt me r _ Q Q' w h
theorem HN(hN:l.Nodup){x:Nat}(a:l[i]?=ae x)(b:l[j]?=ae x):i=j:=by
 obtain⟨h1,e1⟩:=fb.mp a;obtain⟨h2,e2⟩:=fb.mp b;have P:=fk.mp hN;rcases Yd i j with h | h | h
 ·exact absurd (e1.trans e2.symm) (P i j h1 h2 h)
 ·exact h
 ·exact absurd (e2.trans e1.symm) (P j i h2 h1 h)
theorem Fr.block{H2:Hp}{k:Nat}{D:af}{old:St}(fr:Fr K HZ F σ H ρ)(S:aT H H2)(hD:H D=ao)(hD2:H2 D≠ao)(nd:js.Nodup)(lo:old.length=k):
  ∃(P:Hp) (F':af->Prop),Fr K P F' (old++pick js σ) H2 (av k .un++fT js ρ)/\(∀a,MM F' (av k .un++fT js ρ) a ↔ MM F ρ a \/ a=D)/\(∀a,F' a ↔ (MM F ρ a \/ a=D) /\ ¬ ∃d,Sl.own a d∈fT js ρ):=by
 have mem:∀{a:af} {d:Dv},Sl.own a d∈av k Sl.un++fT js ρ->Sl.own a d∈fT js ρ:=λh=>by
  rcases cr.mp h with h | h
  ·cases gm h
  ·exact h
 have sub:∀{a:af} {d:Dv},Sl.own a d∈fT js ρ->Sl.own a d∈ρ:=λh=>by
  obtain⟨i,e⟩:=xf.mp h;obtain⟨j,_,e2⟩:=n4 e (by intro z;cases z);exact ee e2
 refine⟨_Z.prot H2 (fT js ρ),λa=>(MM F ρ a \/ a=D) /\ ¬ ∃d,Sl.own a d∈fT js ρ,?_,λa=>⟨λh=>?_,λh=>?_⟩,λa=>a0D⟩
 ·have iff:∀a,MM (λa=>(MM F ρ a \/ a=D) /\ ¬ ∃d,Sl.own a d∈fT js ρ) (av k .un++fT js ρ) a->MM F ρ a \/ a=D:=λa h=>by
   rcases h with h | ⟨d,h⟩
   ·exact h.1
   ·exact .inl (.inr ⟨d,sub (mem h)⟩)
  have G:Gen K (MM F ρ) (MM (λa=>(MM F ρ a \/ a=D) /\ ¬ ∃d,Sl.own a d∈fT js ρ) (av k .un++fT js ρ)) H H2:=((Gen.fresh hD).trans (.mono S)).trans (.weak iff);refine⟨by simp[pick,fT,lo],λi s e=>?_,λi j a d d' e1 e2=>?_,λa d h=>xQ (mem h),λb o h=>uW h,λa h=>?_,λPt q z=>?_⟩
  ·by_cases hi:i<k
   ·rw[dj (by simpa using hi),jw,a0G hi] at e;cases e;trivial
   ·rw[bt (by simpa using sk hi),jx] at e;rw[bt (by rw[lo];exact sk hi),lo];cases s with
    |un=>trivial
    |v d=>
     obtain⟨j,hj,e2⟩:=n4 e (by intro z;cases z);obtain⟨x,hx,r⟩:=fr.sl j _ e2;exact⟨x,FT hj hx,r.gen G⟩
    |own a d=>
     obtain⟨j,hj,e2⟩:=n4 e (by intro z;cases z);obtain⟨hx,r⟩:=fr.sl j _ e2;exact⟨FT hj hx,r.gen G λo e=>S _ _ e⟩
  ·have ge:∀{i:Nat} {d:Dv},(av k Sl.un++fT js ρ)[i]?=ae (.own a d)->k<=i/\(fT js ρ)[i-k]?=ae (.own a d):=λ{i d} e=>by
    by_cases hi:i<k
    ·rw[dj (by simpa using hi),jw,a0G hi] at e;cases e
    ·rw[bt (by simpa using sk hi),jx] at e;exact⟨sk hi,e⟩
   obtain⟨k1,e1⟩:=ge e1;obtain⟨k2,e2⟩:=ge e2;obtain⟨j1,hj1,e1⟩:=n4 e1 (by intro z;cases z);obtain⟨j2,hj2,e2⟩:=n4 e2 (by intro z;cases z);have:=fr.nd j1 j2 a d d' e1 e2;subst this;have:=HN nd hj1 hj2;ac_rfl
  ·rw[cS h.2];rcases h.1 with m | m
   ·intro z;exact fr.dom m (S.free z)
   ·rw[m];exact hD2
  ·have e:=fr.old.t Pt q z;rw[cS ?_]
   ·exact S _ _ (fr.same _ _ e)
   ·rintro⟨d,c⟩;rw[fr.new Pt d (sub c)] at e;cases e
 ·rcases h with h | ⟨d,h⟩
  ·exact h.1
  ·exact .inl (.inr ⟨d,sub (mem h)⟩)
 ·by_cases c:∃d,Sl.own a d∈fT js ρ
  ·obtain⟨d,c⟩:=c;exact .inr ⟨d,gh _ c⟩
  ·exact .inl ⟨h,c⟩
end
inductive liftG(K:aq)(k:Nat)(g:C8)(v:V)(σ:St)(H:Hp)(Q:St->Hp->Prop):Prop
 |mk (d:Dv) (HZ:Hp) (F:af->Prop) (ρ:List Sl) (fr:Fr K HZ F σ H ρ) (r:Rep K (MM F ρ) H v d) (h:g d ρ (λρ1=>∀σ1,Fr K HZ F σ1 H ρ1->(∀j,k<=j->σ1[j]?=σ[j]?)->Q σ1 H))
theorem QG.pg{k:Nat}{g:C8}(h:QG X tg k g):PG X tg (liftG X.K k g):=by
 obtain⟨t,ht,tq⟩:=h.run;intro pj s σ H v u Q I r ⟨d,HZ,F,ρ,fr,rv,q⟩;exact ht pj s σ H v u Q I r (tq HZ F v d σ H ρ Q fr rv q)
theorem QE.pe(h:QE X e te):PE X e (λσ H Q=>∃HZ F,lift X.K HZ F te σ H Q):=λpj s σ H Q I zq6=>by obtain⟨HZ,F,q⟩:=zq6;exact h.run HZ F pj s σ H Q I q
variable {tt:mG}
theorem QTs.pt(h:QTs X ifs tt):Qt X ifs (λσ H Q=>∃HZ F,liftT X.K HZ F tt σ H Q):=λpj s σ H Q I zq0=>by obtain⟨HZ,F,q⟩:=zq0;exact h.run HZ F pj s σ H Q I q
theorem Iy{l a b:List α}{k:Nat}(ha:a.length=k)(hl:l.length=k+b.length)(h:∀j,k<=j->l[j]?=(a++b)[j]?):l=l.take k++b:=by
 refine Wr λj=>?_;by_cases hj:j<k
 ·rw[dj (by rw[lc];ac_rfl),ly hj]
 ·rw[h j ⋯,bt ⋯,bt (by rw[lc];ac_rfl),ha,lc,xp ⋯]
variable {tgt:Expr}{cl:List (bq×af)}{tgs ns:List bq}
theorem Da{k:Nat}{g:C8}(hk:tgs.length=k)
  (hi:QI X tgt a0L ti) (hg:∀(fp:List af) (s:aj) (H:Hp),QG (qO X a0H cl fp (tgs++ns) s H) tgt k g) (ht:∀(fp:List af) (s:aj) (H:Hp),QTs (qO X a0H cl fp (tgs++ns) s H) ifs tt)
  (he:∀(fp:List af) (s:aj) (H:Hp),QE (qO X a0H cl fp (tgs++ns) s H) elt te) (nd:js.Nodup) (HZ:Hp) (F:af->Prop):
  ∃wi,PI X tgt a0L wi /\ ∀σ H Q,lift X.K HZ F (eJ k js ti g tt te) σ H Q->Au wi tgs.length js (liftG X.K k g) (λσ H Q=>∃HZ F,liftT X.K HZ F tt σ H Q) (λσ H Q=>∃HZ F,lift X.K HZ F te σ H Q) σ H Q:=by
 have mg:=(hg [] X.s₀ λ_=>ao).mono;have ag:=(hg [] X.s₀ λ_=>ao).agree;have mt:=(ht [] X.s₀ λ_=>ao).mono;have me:=(he [] X.s₀ λ_=>ao).mono;obtain⟨wi,hwi,wiq⟩:=hi.run HZ F;refine⟨wi,hwi,λσ H Q zz=>?_⟩;obtain⟨ρ,fr,h⟩:=zz;subst hk;refine wiq σ H ρ _ fr (hi.mono _ _ _ (λds ogs q J H1 S1 gd ok=>?_) h);intro D hD;have fr1:=fr.mono S1;refine⟨λi m acc H2=>m=ds.length-i/\i<=ds.length/\aT H1 H2 /\ ∃accD,Reps X.K (λa=>MM F ρ a \/ a=D) H2 acc accD /\
  d8 (av tgs.length .un++fT js ρ) g tt te (ds.drop i) accD (λr=>∀x H',aT H H'->eX X.K (MM F ρ) (CD ρ) H x r H'->Q x H'),
  ⟨ds.length,by simp,qd _,aT.new' hD,[],.nil,by simpa using q⟩,?_⟩
 rintro i m acc H2 ⟨rfl,hil,S2,accD,ra,q⟩ hDl;have G2:Gen X.K (MM F ρ) (λa=>MM F ρ a \/ a=D) H1 H2:=(Gen.fresh hD).trans (.mono S2);have oks:=ok i H2 (λa=>MM F ρ a \/ a=D) (λb o e=>S2 _ _ (uW e)) G2 λp hp=>by
  obtain⟨_,_,_,ow⟩:=fr1.at_own (gd p hp);exact ow.gen G2 λo e=>S2 _ _ e
 by_cases hlt:i<ds.length
 ·have hd:ds[i]?=ae ds[i]:=by simp[hlt]
  rw[fj hlt] at q;obtain⟨go,yld⟩:=oks.1 _ hd;refine .inr ⟨go,λy H3 hy old lo=>?_⟩;obtain⟨S3,ry⟩:=yld y H3 hy;have hD3:=S3 _ _ hDl;obtain⟨P,F',fr',iff,iffF⟩:=fr1.block (js:=js) (old:=old) (S2.trans S3) hD (by rw[hD3];simp) nd lo;refine⟨_,P,F',_,fr',ry.weak λa z=>(iff a).mp z,mg _ _ _ _ (λρ1 q1 σ1 f1 a1=>?_) (ag _ _ _ q)⟩;obtain⟨q1,l1,b1⟩:=q1;have up:∀a,MM F ρ a \/ a=D->MM F' ρ1 a:=λa z=>by
   rcases(iff a).mpr z with z | ⟨d,z⟩
   ·exact .inl z
   ·refine .inr ⟨d,?_⟩;obtain⟨j,e⟩:=xf.mp z;have hj:tgs.length<=j:=by
     by_cases hj:j<tgs.length
     ·rw[dj (by simpa using hj),jw,a0G hj] at e;cases e
     ·ac_rfl
    rw[<- b1 j hj] at e;exact ee e
  have hlen:σ1.length=tgs.length+(pick js σ).length:=by
   have:=f1.len;rw[l1] at this;simp[pick,fT] at this ⊢;ac_rfl
  refine⟨⟨σ1.take tgs.length,by rw[lc];ac_rfl,Iy lo hlen a1⟩,P,F',ρ1,f1,mt _ _ _ (λb q5 H5 S5=>?_) q1⟩;have S25:=(S2.trans S3).trans S5;cases b with
  |true=>
   simp only[if_true] at q5;refine qX ⟨P,F',ρ1,f1.mono S5,me _ _ _ (λr q6 x H6 S6 rx=>?_) q5⟩;have hD6:=S6 _ _ (S5 _ _ hD3);obtain⟨⟨rf,rl⟩,q6⟩:=q6;have rep:=(rx.rep (λa z=>(f1.mono S5).dom z) rf).weak up;refine⟨hD6,by rw[ra.length];exact BU rl,ds.length-(i+1),⋯,rfl,hlt,λb o e=>?_,_,?_,q6⟩
   ·rw[b5 (bG e hD)];exact S6 _ _ (S25 _ _ e)
   ·have G6:Gen X.K (λa=>MM F ρ a \/ a=D) (λa=>MM F ρ a \/ a=D) H6 (upd H6 D (.lst (acc++[x]))):=Gen.write (.inr rfl) (by rw[hD6];trivial);exact((ra.mono ((S3.trans S5).trans S6)).append (.cons rep .nil)).gen G6
  |false=>
   simp only[de,if_false] at q5;exact pV ⟨S5 _ _ hD3,ds.length-(i+1),⋯,rfl,hlt,S25,accD,ra.mono (S3.trans S5),q5⟩
 ·have e:i=ds.length:=⋯;subst e;rw[Vr] at q;exact .inl ⟨oks.2 (cg _),q (.ref D) H2 (S1.trans S2) ⟨D,rfl,S1.free hD,acc,hDl,ra⟩⟩
theorem P1{k:Nat}{g:C8}(hc:X.N=X.N)(hk:tgs.length=k)
  (hi:QI X tgt a0L ti) (hg:∀(fp:List af) (s:aj) (H:Hp),QG (qO X a0H cl fp (tgs++ns) s H) tgt k g) (ht:∀(fp:List af) (s:aj) (H:Hp),QTs (qO X a0H cl fp (tgs++ns) s H) ifs tt)
  (he:∀(fp:List af) (s:aj) (H:Hp),QE (qO X a0H cl fp (tgs++ns) s H) elt te)
  (a15:xa a0H X.env=jh cl) (a11:∀x c,cl.lookup x=ae c->X.env.cells.lookup x=ae c)
  (a19:∀x,((jg a0H X.env).names.lookup x=ae .cell \/ (jg a0H X.env).names.lookup x=ae .free) -> ∃c,cl.lookup x=ae c)
  (hjs:js.map (λj=>X.N[j]?)=ns.map ae) (hin:∀y∈ns,(jg a0H X.env).names.lookup y=ae .cell \/ (jg a0H X.env).names.lookup y=ae .free)
  (a16:∀y∈ns,X.env.kindOf y=ae .cell \/ X.env.kindOf y=ae .free) (nd:js.Nodup)
  (a0O:autoParam (∀y∈a0H.names,y.2 ≠ .cell) F9._auto_1) (a0T:autoParam (a0H.kind=.function) cA._auto_1)
  (a0U:autoParam (∀y∈a0H.names,y.2=.local->a0H.names.lookup y.1=ae .local) F9._auto_1)
  (hs:autoParam (∀z,jl a0L X.env z=jh z) M7._auto_1):
  QE X (.ListComp elt [⟨tgt,a0L,ifs,0⟩] a0H pos) (eJ k js ti g tt te):=by
 refine⟨λρ Q Q' w h=>hi.mono _ _ _ (λds ogs h=>lM (hg [] X.s₀ λ_=>ao).mono (ht [] X.s₀ λ_=>ao).mono (he [] X.s₀ λ_=>ao).mono ds [] Q Q' w h) h,λHZ F=>?_⟩;obtain⟨wi,hwi,key⟩:=Da hk hi hg ht he nd HZ F;exact cZ (Jd (tgs:=tgs) (ns:=ns) (js:=js) hc hwi (λfp s H=>(hg fp s H).pg) (λfp s H=>(ht fp s H).pt) (λfp s H=>(he fp s H).pe) a15 a11 a19 hjs hin a16 a0O a0T a0U hs) key
def qG(X:Cx)(f:ah)(p:List Dv->(R->Prop)->Prop):Prop:=
 (∀ds (Q Q':R->Prop),(∀r,Q r->Q' r)->p ds Q->p ds Q') /\ ∃r:List V->Hp->VK->Prop,gI X f r /\ ∀(M:af->Prop) (O:af->Dv->Prop) (H:Hp) (xs:List V) (ds:List Dv) (Q:VK),Dh X.K M H xs ds ->
  p ds (λrr=>∀z H',aT H H'->eX X.K M O H z rr H'->Q z H')->r xs H Q
def gD(p:List Dv->(R->Prop)->Prop)(ts:oN):dE:=λρ Q=>ts ρ λrs=>p (rs.map R.d) Q
variable {T:String}{p2:lj}
section
variable {x:bq}{id:String}{pp:List Dv->(R->Prop)->Prop}
theorem GT{r:List V->Hp->VK->Prop}(ha:QA X es ts)(mo:∀ds (Q Q':R->Prop),(∀r,Q r->Q' r)->pp ds Q->pp ds Q')
  (hr:∀(M:af->Prop) (O:af->Dv->Prop) (H:Hp) (xs:List V) (ds:List Dv) (Q:VK),Dh X.K M H xs ds->pp ds (λrr=>∀z H',aT H H'->eX X.K M O H z rr H'->Q z H')->r xs H Q)
  (HZ:Hp) (F:af->Prop) (σ:St) (H:Hp) (Q:VK) (h:lift X.K HZ F (gD pp ts) σ H Q):UI r (liftA X.K HZ F ts) σ H Q:=by
 obtain⟨ρ,fr,h⟩:=h;refine ha.step fr h λrs xs H1 q S1 r1=>?_;exact hr (MM F ρ) (CD ρ) H1 xs _ Q r1.c (mo _ _ _ (λrr k z H' S rz=>k z H' (S1.trans S) (rz.ahead S1)) q)
theorem bN(hc:qG X (.builtin id) pp)(hg:Gl X x)(hm:X.mg x=ao)(hv:pz x=ae (.builtin id))(ha:QA X (e::es) ts)(hn:autoParam (x ≠ "__name__") mJ._auto_1)(hdb:autoParam ((x==("__debug__":bq))=am) mJ._auto_1)
  (he:autoParam (ay (e::es) X.env=(am,gw e X.env)::ay es X.env) cA._auto_1) (hpl:autoParam ((jd pos (ay es X.env)).any (·.1)=am) cA._auto_1):QE X (.Call (.Name x p) (e::es) [] pos) (gD pp ts):=by
 obtain⟨mo,r,hR,hr⟩:=hc;exact⟨λρ Q Q' w q=>ha.mono _ _ _ (λrs q=>mo _ _ _ w q) q,λHZ F=>cZ (tH hR hg hm hv (ha.run HZ F) hn hdb he hpl) (GT ha mo hr HZ F)⟩
theorem eU(hc:qG X (.type T) pp)(hg:Gl X x)(hm:X.mg x=ao)(hv:pz x=ae (.type T))(ha:QA X (e::es) ts)(hn:autoParam (x ≠ "__name__") mJ._auto_1)(hdb:autoParam ((x==("__debug__":bq))=am) mJ._auto_1)
  (he:autoParam (ay (e::es) X.env=(am,gw e X.env)::ay es X.env) cA._auto_1) (hpl:autoParam ((jd pos (ay es X.env)).any (·.1)=am) cA._auto_1):QE X (.Call (.Name x p) (e::es) [] pos) (gD pp ts):=by
 obtain⟨mo,r,hR,hr⟩:=hc;exact⟨λρ Q Q' w q=>ha.mono _ _ _ (λrs q=>mo _ _ _ w q) q,λHZ F=>cZ (Gu hR hg hm hv (ha.run HZ F) hn hdb he hpl) (GT ha mo hr HZ F)⟩
def fO:List Dv->(R->Prop)->Prop
 | [.lst xs],Q=>Q (.v (.int xs.length))
 | [.tup xs],Q=>Q (.v (.int xs.length))
 | [.scr ns],Q=>Q (.v (.int ns.length))
 | [.str y],Q=>y.length<=zZ/\Q (.v (.int y.length))
 | [.dik kvs],Q=>Q (.v (.int kvs.length))
 |_,_=>False
theorem RepK.length{K:aq}{M:af->Prop}{H:Hp}{xs:List (cB×V)}{ds:List (cB×Dv)}(r:RepK K M H xs ds):xs.length=ds.length:=r.ind (P:=λxs ds=>xs.length=ds.length) rfl λ_ _ _ _ _ _ _ ih=>congrArg (· + 1) ih
theorem dZ:qG X (.builtin "len") fO:=by
 refine⟨λds Q Q' w h=>?_,_,C5.or (C4.or IH),λM O H xs ds Q c h=>?_⟩
 ·unfold fO at *;split at h<;>first | exact w _ h | exact⟨h.1,w _ h.2⟩ | exact h
 ·unfold fO at h;split at h
  ·obtain⟨x,rfl,cx⟩:=fW c;obtain⟨a,ys,rfl,ea,ra⟩:=cx.lst;refine .inl ⟨a,ys,rfl,.inl (g6.of ea),?_⟩;rw[ra.length];exact h _ H (aT.refl _) (Rep.int _)
  ·obtain⟨x,rfl,cx⟩:=fW c;obtain⟨a,ys,rfl,ea,ra⟩:=cx.tup;refine .inl ⟨a,ys,rfl,.inr (oQ.of ea),?_⟩;rw[ra.length];exact h _ H (aT.refl _) (Rep.int _)
  ·obtain⟨x,rfl,cx⟩:=fW c;obtain⟨a,rfl,ea⟩:=cx.scr;refine .inl ⟨a,_,rfl,.inl ea.sq,?_⟩;rw[bf];exact h _ H (aT.refl _) (Rep.int _)
  ·obtain⟨x,rfl,cx⟩:=fW c;obtain rfl:=cx.str;exact .inr (.inl ⟨_,rfl,jL h.1,h.2 _ H (aT.refl _) (Rep.int _)⟩)
  ·obtain⟨x,rfl,cx⟩:=fW c;obtain⟨a,ys,rfl,ea,ra⟩:=cx.dik;refine .inr (.inr ⟨a,ys,rfl,ea,?_⟩);rw[ra.length];exact h _ H (aT.refl _) (Rep.int _)
  ·exact h.elim
def HI:List Dv->(R->Prop)->Prop
 | [.int i],Q=>Q (.v (.int (if i<0 then -i else i)))
 |_,_=>False
theorem Lp:qG X (.builtin "abs") HI:=by
 refine⟨λds Q Q' w h=>?_,_,Lr,λM O H xs ds Q c h=>?_⟩
 ·unfold HI at *;split at h<;>first | exact w _ h | exact h
 ·unfold HI at h;split at h
  ·obtain⟨x,rfl,cx⟩:=fW c;obtain rfl:=cx.int;exact⟨_,rfl,h _ H (aT.refl _) (Rep.int _)⟩
  ·exact h.elim
def Rt:List Dv->(R->Prop)->Prop
 | [.int i,.int j],Q=>Q (.v (.int (if j<i then j else i)))
 |_,_=>False
def Ru:List Dv->(R->Prop)->Prop
 | [.int i,.int j],Q=>Q (.v (.int (if j > i then j else i)))
 |_,_=>False
def EH:List Dv->(R->Prop)->Prop
 | [.lst ds],Q=>∃ns:List Int,ds=ns.map .int/\Q (.v (.int ns.sum))
 |_,_=>False
def HG:List Dv->(R->Prop)->Prop
 | [.lst ds],Q=>∃bs:List Bool,ds=bs.map .bl/\Q (.v (.bl (bs.all _root_.id)))
 |_,_=>False
theorem Reps.of_ints{K:aq}{M:af->Prop}{H:Hp}:∀{xs:List V} {ns:List Int},Reps K M H xs (ns.map .int)->xs=ns.map V.int
 |_,[],.nil=>rfl
 |_,n::r,.cons a t=>by cases a;rw[Reps.of_ints t];rfl
theorem Reps.of_bls{K:aq}{M:af->Prop}{H:Hp}:∀{xs:List V} {ns:List Bool},Reps K M H xs (ns.map .bl)->xs=ns.map V.bl
 |_,[],.nil=>rfl
 |_,n::r,.cons a t=>by cases a;rw[Reps.of_bls t];rfl
theorem Lm(hc:X.N=X.N):qG X (.builtin "sum") EH:=by
 refine⟨λds Q Q' w h=>?_,_,IG hc,λM O H xs ds Q c h=>?_⟩
 ·unfold EH at *;split at h
  ·obtain⟨ns,e,h⟩:=h;exact⟨ns,e,w _ h⟩
  ·exact h
 ·unfold EH at h;split at h
  ·obtain⟨ns,rfl,h⟩:=h;obtain⟨x,rfl,cx⟩:=fW c;obtain⟨a,ys,rfl,ea,ra⟩:=cx.lst;obtain rfl:=ra.of_ints;exact⟨a,ns,rfl,g6.of ea,h _ H (aT.refl _) (Rep.int _)⟩
  ·exact h.elim
theorem Lo(hc:X.calm=ak):qG X (.builtin "all") HG:=by
 refine⟨λds Q Q' w h=>?_,_,IK hc,λM O H xs ds Q c h=>?_⟩
 ·unfold HG at *;split at h
  ·obtain⟨ns,e,h⟩:=h;exact⟨ns,e,w _ h⟩
  ·exact h
 ·unfold HG at h;split at h
  ·obtain⟨ns,rfl,h⟩:=h;obtain⟨x,rfl,cx⟩:=fW c;obtain⟨a,ys,rfl,ea,ra⟩:=cx.lst;obtain rfl:=ra.of_bls;exact⟨a,ns,rfl,g6.of ea,h _ H (aT.refl _) (Rep.bl _)⟩
  ·exact h.elim
def O9:List Dv->(R->Prop)->Prop
 | [.lst ds],Q=>Q (.nw (.lst ds))
 | [.tup ds],Q=>Q (.nw (.lst ds))
 | [.scr ns],Q=>Q (.nw (.lst (ns.map .int)))
 |_,_=>False
def gK:List Dv->(R->Prop)->Prop
 | [.lst ds],Q=>Q (.v (.tup ds))
 | [.tup ds],Q=>Q (.v (.tup ds))
 |_,_=>False
theorem fX:qG X (.type "tuple") gK:=by
 refine⟨λds Q Q' w h=>?_,_,zW,λM O H xs ds Q c h=>?_⟩
 ·unfold gK at *;split at h<;>first | exact w _ h | exact h
 ·unfold gK at h;split at h
  ·obtain⟨x,rfl,cx⟩:=fW c;obtain⟨a,ys,rfl,ea,ra⟩:=cx.lst;exact⟨a,ys,rfl,.inl ⟨g6.of ea,λl hl=>h _ _ (aT.new' hl) (IZ hl ra)⟩⟩
  ·obtain⟨x,rfl,cx⟩:=fW c;obtain⟨a,ys,rfl,ea,ra⟩:=cx.tup;exact⟨a,ys,rfl,.inr ⟨oQ.of ea,h _ H (aT.refl _) (Rep.tup ea ra)⟩⟩
  ·exact h.elim
noncomputable def Tn:Dv->String
 | .non=>"NoneType"
 | .bl _=>"bool"
 | .int _=>"int"
 | .str _=>"str"
 | .tup _=>"tuple"
 | .lst _=>"list"
 | .scr _=>"list"
 | .dik _=>"dict"
 | .dit _=>"dict"
 | .obj _ _=>""
 | .exc _ _=>""
 | .dns _=>""
noncomputable def DH(T:String)(d:Dv):Bool:=Tn d==T || (T == "int" && Tn d == "bool")
noncomputable def CI:Dv->Bool
 | .obj _ _=>am
 | .exc _ _=>am
 | .dns _=>am
 | .scr _=>am
 |_=>ak
def v8(T:String)(te:dE):dE:=λρ Q=>te ρ λr=>CI r.d=ak/\Q (.v (.bl (DH T r.d)))
theorem NT(hT:T = "int" \/ T = "bool" \/ T = "tuple" \/ T = "list" \/ T = "str")(d:Dv)(ho:CI d=ak):gr K (.type (Tn d)) (.type T)=ae (DH T d):=by
 rcases hT with rfl | rfl | rfl | rfl | rfl<;>cases d<;>first | (simp[CI] at ho;done) | with_unfolding_all rfl
theorem eB.ty{x:V}{d:Dv}(c:eB K M H x d)(ho:CI d=ak):TyOf K H x (.type (Tn d)):=by
 cases d with
 |non=>obtain rfl:=c.non;exact .non
 |bl b=>obtain rfl:=c.bl;exact .bl b
 |int i=>obtain rfl:=c.int;exact .int i
 |str y=>obtain rfl:=c.str;exact .str y
 |tup ds=>obtain⟨a,xs,rfl,e,_⟩:=c.tup;exact .tup e
 |lst ds=>obtain⟨a,xs,rfl,e,_⟩:=c.lst;exact .lst e
 |dik ds=>obtain⟨a,xs,rfl,e,_⟩:=c.dik;exact .dK e
 |dit ds=>obtain⟨a,ep,xs,rfl,e,_⟩:=c.dit;exact .dT e
 |obj C fs=>simp[CI] at ho
 |scr ns=>simp[CI] at ho
 |exc C p=>simp[CI] at ho
 |dns ks=>simp[CI] at ho
theorem rC(hT:T = "int" \/ T = "bool" \/ T = "tuple" \/ T = "list" \/ T = "str")(hg:Gl X "isinstance")(hm:X.mg "isinstance"=ao)(ha:QE X e te)(hty:PE X (.Name x p2) (tC (.ty T)))
  (he:autoParam (ay [e,.Name x p2] X.env=(am,gw e X.env)::ay [.Name x p2] X.env) cA._auto_1) (he2:autoParam (ay [ZR x p2] X.env=(am,gw (.Name x p2) X.env)::ay [] X.env) cA._auto_1) (hpl:autoParam ((jd pos (ay [.Name x p2] X.env)).any (·.1)=am) cA._auto_1):
  QE X (.Call (.Name "isinstance" p) [e,.Name x p2] [] pos) (v8 T te):=by
 refine⟨λρ Q Q' w q=>ha.mono _ _ _ (λr q=>⟨q.1,w _ q.2⟩) q,λHZ F=>cZ (tH Lq hg hm WA (kE (ha.run HZ F) (kE hty uX he2) he) ∅ ∅ he hpl) λσ H Q zz=>?_⟩;obtain⟨ρ,fr,h⟩:=zz;refine ha.step fr h λr x H1 q S1 r1=>?_;exact⟨x,T,_,_,rfl,r1.c.ty q.1,NT hT _ q.1,q.2 _ H1 S1 (Rep.bl _)⟩
end
noncomputable def kD:cB->Dv
 | .inl i=>.int i
 | .inr x=>.str x
def cW:Dv->Dv->(R->Prop)->Prop
 | .lst xs,.int i,Q=>match sU xs i with
  |some d=>Q (.v d)
  |none=>False
 | .tup xs,.int i,Q=>match sU xs i with
  |some d=>Q (.v d)
  |none=>False
 | .scr ns,.int i,Q=>match sU ns i with
  |some n=>Q (.v (.int n))
  |none=>False
 | .str z,.int i,Q=>z.length<=zZ/\match sU z.cps.toList i with
  |some c=>Q (.v (.str ⟨#[c]⟩))
  |none=>False
 | .dik kvs,.int i,Q=>match kvs.find? (λkv=>decide (kv.1=di i)) with
  |some kv=>Q (.v kv.2)
  |none=>False
 | .dik kvs,.str x,Q=>match kvs.find? (λkv=>decide (kv.1=yf x)) with
  |some kv=>Q (.v kv.2)
  |none=>False
 | .dit kvs,.tup ds,Q=>∃k:List cB,ds=k.map kD/\match kvs.find? (λkv=>decide (kv.1=k)) with
  |some kv=>Q (.v kv.2)
  |none=>False
 |_,_,_=>False
variable {tb ta:dE}{a b:Expr}
theorem Reps.at{K:aq}{M:af->Prop}{H:Hp}{xs:List V}{ds:List Dv}{i:Int}{d:Dv}(r:Reps K M H xs ds)(h:sU ds i=ae d):∃x,sU xs i=ae x/\Rep K M H x d:=by
 unfold sU at *;rw[r.length];cases e:wB ds.length i with
 |none=>rw[e] at h;cases h
 |some j=>
  rw[e] at h;obtain⟨x,hx,rx⟩:=r.get (i:=j) h;exact⟨x,hx,rx⟩
theorem Nr{β:Type}{f:α->β}{l:List α}{i:Int}:sU (l.map f) i=(sU l i).map f:=by
 unfold sU;rw[bf];cases wB l.length i with
 |none=>rfl
 |some j=>simp
theorem RepK.val{k:cB}{xs:List (cB×V)}{ds:List (cB×Dv)}(r:RepK K M H xs ds):(∀kv,ds.find? (λkv=>decide (kv.1=k))=ae kv -> ∃x,lR xs k=ae x/\Rep K M H x kv.2)/\(ds.find? (λkv=>decide (kv.1=k))=ao->lR xs k=ao):=
 r.ind (P:=λxs ds=>(∀kv,ds.find? (λkv=>decide (kv.1=k))=ae kv -> ∃x,lR xs k=ae x/\Rep K M H x kv.2)/\(ds.find? (λkv=>decide (kv.1=k))=ao->lR xs k=ao)) ⟨λ_ h=>(by cases h),λ_=>rfl⟩ λk' x d xs ds a _ ih=>by
  by_cases e:k'=k
  ·rw[ss (by simpa using e),oV e];exact⟨λkv h=>by cases h;exact⟨x,rfl,a⟩,λh=>by cases h⟩
  ·rw[su (by simpa using e),oW e];exact ih
theorem RepT.val{k:List cB}{ds:List (List cB×Dv)}(r:RepT K M H xs ds):(∀kv,ds.find? (λkv=>decide (kv.1=k))=ae kv -> ∃x,lR xs k=ae x/\Rep K M H x kv.2)/\(ds.find? (λkv=>decide (kv.1=k))=ao->lR xs k=ao):=
 r.ind (P:=λxs ds=>(∀kv,ds.find? (λkv=>decide (kv.1=k))=ae kv -> ∃x,lR xs k=ae x/\Rep K M H x kv.2)/\(ds.find? (λkv=>decide (kv.1=k))=ao->lR xs k=ao)) ⟨λ_ h=>(by cases h),λ_=>rfl⟩ λk' x d xs ds a _ ih=>by
  by_cases e:k'=k
  ·rw[ss (by simpa using e),oV e];exact⟨λkv h=>by cases h;exact⟨x,rfl,a⟩,λh=>by cases h⟩
  ·rw[su (by simpa using e),oW e];exact ih
theorem Reps.keys{K:aq}{M:af->Prop}{H:Hp}:∀{xs:List V} {k:List cB},Reps K M H xs (k.map kD)->xs=k.map kV
 |_,[],.nil=>rfl
 |_,.inl i::r,.cons a t=>by cases a;rw[Reps.keys t];rfl
 |_,.inr x::r,.cons a t=>by cases a;rw[Reps.keys t];rfl
def UT:R2:=λx y H Q=>∃a v,x=.ref a/\vJ H a y (ae v)/\Q v H
theorem NX(hu:X.A.units+1<gv):M9 X UT:=by
 intro a0Q a13 pj s σ H x y v u Q I rx ry h hs;obtain⟨a,z,rfl,g,q⟩:=h;cases rx;have hT:=DX I g;unfold Xl;refine aa ?_;rw[getitemInPython_of_ne hT.not_modules];refine aa (jp hT PySem.F.slot_dict_getitem.lookup ?_);have fin:bg (bn X.prog X.w) X.A (YO a13 am (.ref a) u) (λr s₃=>bg (bn X.prog X.w) X.A (letTemporaryGo a0Q (.ref a) r >>= λ_=>jh r) (EP X pj σ Q) X.xe s₃) X.xe s:=by
  rw[hs];exact wpAny_operating (ix (ID hu I g ry λw' s' I' rw'=>show EP X pj σ Q w' s' from⟨z,H,I',rw',q⟩) (λr s₃ h₃=>aa (wpAny_letTemporaryGo (ai h₃))) λ_ _ x=>x)
 first
  |exact ai (aa fin)
  |exact aa (ai (aa fin))
  |exact aa fin
theorem Cs:∀dx dy (Q Q':R->Prop),(∀r,Q r->Q' r)->cW dx dy Q->cW dx dy Q':=by
 intro dx dy Q Q' w h;unfold cW at *;split at h
 ·split at h
  ·exact w _ h
  ·exact h
 ·split at h
  ·exact w _ h
  ·exact h
 ·split at h
  ·exact w _ h
  ·exact h
 ·refine⟨h.1,?_⟩;have h2:=h.2;split at h2
  ·exact w _ h2
  ·exact h2
 ·split at h
  ·exact w _ h
  ·exact h
 ·split at h
  ·exact w _ h
  ·exact h
 ·obtain⟨k,e,h⟩:=h;refine⟨k,e,?_⟩;split at h
  ·exact w _ h
  ·exact h
 ·exact h
theorem cF(hu:X.A.units+1<gv)(ha:QE X a ta)(hb:QE X b tb)(hs:autoParam (C9 b) VS._auto_1):QE X (.Subscript a b pos) (aQ cW ta tb):=by
 refine⟨u9 ha hb Cs,λHZ F=>cZ (O4 (QN.or (NX hu)) (ha.run HZ F) (hb.run HZ F) hs) (wU ha hb (λM O H x y dx dy Q cx cy h=>?_) Cs HZ F)⟩;unfold cW at h;split at h
 ·rename_i xs i;split at h
  ·rename_i d hd;obtain⟨p,vs,rfl,ea,ra⟩:=cx.lst;obtain rfl:=cy.int;obtain⟨z,hz,rz⟩:=ra.at hd;exact .inl (.inl ⟨p,vs,i,z,rfl,rfl,g6.of ea,hz,h _ H (aT.refl _) rz⟩)
  ·exact h.elim
 ·rename_i xs i;split at h
  ·rename_i d hd;obtain⟨p,vs,rfl,ea,ra⟩:=cx.tup;obtain rfl:=cy.int;obtain⟨z,hz,rz⟩:=ra.at hd;exact .inl (.inr (.inl ⟨p,vs,i,z,rfl,rfl,oQ.of ea,hz,h _ H (aT.refl _) rz⟩))
  ·exact h.elim
 ·rename_i ns i;split at h
  ·rename_i n hn;obtain⟨p,rfl,ea⟩:=cx.scr;obtain rfl:=cy.int;refine .inl (.inl ⟨p,_,i,.int n,rfl,rfl,ea.sq,?_,h _ H (aT.refl _) (Rep.int _)⟩);rw[Nr,hn];rfl
  ·exact h.elim
 ·rename_i z i;obtain⟨hl,h⟩:=h;split at h
  ·rename_i c hc;obtain rfl:=cx.str;obtain rfl:=cy.int;exact .inl (.inr (.inr ⟨z,i,c,rfl,rfl,jL hl,hc,h _ H (aT.refl _) (Rep.str _)⟩))
  ·exact h.elim
 ·split at h
  ·rename_i kv hk;obtain⟨p,kvs,rfl,ea,ra⟩:=cx.dik;obtain rfl:=cy.int;obtain⟨z,hz,rz⟩:=ra.val.1 kv hk;exact .inr ⟨p,z,rfl,by rw[<- hz];exact vJ.k (k:=di _) ea,h _ H (aT.refl _) rz⟩
  ·exact h.elim
 ·split at h
  ·rename_i kv hk;obtain⟨p,kvs,rfl,ea,ra⟩:=cx.dik;obtain rfl:=cy.str;obtain⟨z,hz,rz⟩:=ra.val.1 kv hk;exact .inr ⟨p,z,rfl,by rw[<- hz];exact vJ.k (k:=yf _) ea,h _ H (aT.refl _) rz⟩
  ·exact h.elim
 ·obtain⟨k,rfl,h⟩:=h;split at h
  ·rename_i kv hk;obtain⟨p,ep,kvs,rfl,ea,ra⟩:=cx.dit;obtain⟨b,ys,rfl,eb,rb⟩:=cy.tup;obtain rfl:=rb.keys;obtain⟨z,hz,rz⟩:=ra.val.1 kv hk;exact .inr ⟨p,z,rfl,by rw[<- hz];exact vJ.t ea eb,h _ H (aT.refl _) rz⟩
  ·exact h.elim
 ·exact h.elim
abbrev TD:=List Sl->(Option Int->Prop)->Prop
structure QO(X:Cx)(e:Option Expr)(t:TD):Prop where
 mono:∀(ρ:List Sl) (Q Q':Option Int->Prop),(∀r,Q r->Q' r)->t ρ Q->t ρ Q'
 run:∀(HZ:Hp) (F:af->Prop),PO X e (λσ H Q=>∃ρ,Fr X.K HZ F σ H ρ/\t ρ λo=>∀H',aT H H'->Q o H')
def lI:TD:=λ_ Q=>Q ao
def vU(te:dE):TD:=λρ Q=>te ρ λr=>match r.d with
 | .int i=>Q (ae i)
 |_=>False
theorem M2{e:Option Expr}{t t':TO}(h:PO X e t)(w:∀σ H Q,t' σ H Q->t σ H Q):PO X e t':=λpj s σ H Q I q=>h pj s σ H Q I (w σ H Q q)
theorem B4:QO X ao lI:=⟨λ_ _ _ w q=>w _ q,λHZ F=>M2 Mf λσ H Q zq1=>by obtain⟨ρ,fr,q⟩:=zq1;exact q H (aT.refl _)⟩
theorem B3(h:QE X e te):QO X (ae e) (vU te):=by
 refine⟨λρ Q Q' w q=>h.mono _ _ _ (λr q=>?_) q,λHZ F=>M2 (Me (h.run HZ F)) λσ H Q ⟨ρ,fr,q⟩=>?_⟩
 ·split at q
  ·exact w _ q
  ·exact q
 ·refine h.step fr q λr x H1 q S1 r1=>?_;split at q
  ·rename_i i e;have c:=r1.c;rw[e] at c;exact⟨i,c.int,q H1 S1⟩
  ·exact q.elim
noncomputable def cut(xs:List α)(lo hi:Option Int):List α:=(xs.drop (HT.iG xs.length 0 lo)).take (HT.iG xs.length xs.length hi-HT.iG xs.length 0 lo)
def O8:Dv->Option Int->Option Int->(R->Prop)->Prop
 | .lst xs,lo,hi,Q=>Q (.nw (.lst (cut xs lo hi)))
 | .scr ns,lo,hi,Q=>Q (.nw (.lst ((cut ns lo hi).map .int)))
 | .tup xs,lo,hi,Q=>¬(HT.iG xs.length 0 lo=0/\HT.iG xs.length xs.length hi=xs.length)/\Q (.v (.tup (cut xs lo hi)))
 |_,_,_,_=>False
def OT(te:dE)(tl th:TD):dE:=λρ Q=>te ρ λr=>tl ρ λlo=>th ρ λhi=>O8 r.d lo hi Q
theorem Jl:∀d lo hi (Q Q':R->Prop),(∀r,Q r->Q' r)->O8 d lo hi Q->O8 d lo hi Q':=by
 intro d lo hi Q Q' w h;unfold O8 at *;split at h<;>first | exact w _ h | exact⟨h.1,w _ h.2⟩ | exact h
theorem Reps.cut{K:aq}{M:af->Prop}{H:Hp}{xs:List V}{ds:List Dv}(r:Reps K M H xs ds)(lo hi:Option Int):Reps K M H (DY xs lo hi) (_Z.cut ds lo hi):=by
 unfold DY _Z.cut;rw[r.length];exact(r.drop _).take _
theorem B5{lo hi:Option Expr}{tl th:TD}(he:QE X e te)(hl:QO X lo tl)(hh:QO X hi th):QE X (.Subscript e (.Slice lo hi ao p2) pos) (OT te tl th):=by
 refine⟨λρ Q Q' w q=>he.mono _ _ _ (λr q=>hl.mono _ _ _ (λl q=>hh.mono _ _ _ (λu q=>Jl _ _ _ _ _ w q) q) q) q,λHZ F=>cZ (JX (MJ.or Ov) (he.run HZ F) (hl.run HZ F) (hh.run HZ F)) λσ H Q zz=>?_⟩;obtain⟨ρ,fr,q⟩:=zz;refine he.step fr q λr x H1 q S1 r1=>?_;refine⟨ρ,fr.mono S1,hl.mono _ _ _ (λl q H2 S2=>?_) q⟩;refine⟨ρ,(fr.mono S1).mono S2,hh.mono _ _ _ (λu q H3 S3=>?_) q⟩;have S13:=(S1.trans S2).trans S3;have c:=(r1.mono (S2.trans S3)).c;generalize r.d=d at q c;unfold O8 at q;split at q
 ·obtain⟨a,xs,rfl,ea,ra⟩:=c.lst;exact .inl ⟨a,xs,rfl,g6.of ea,λp hp=>q _ _ (S13.trans (aT.new' hp)) ((pP hp (ra.cut _ _)).ahead S13)⟩
 ·obtain⟨a,rfl,ea⟩:=c.scr;refine .inl ⟨a,_,rfl,ea.sq,λp hp=>q _ _ (S13.trans (aT.new' hp)) (eX.ahead (pP hp ?_) S13)⟩;have:∀(ns:List Int) l u,(_Z.cut ns l u).map Dv.int=_Z.cut (ns.map Dv.int) l u:=λns l u=>by
   unfold _Z.cut;simp[ZF,ZG]
  rw[this];exact(Reps.ints _).cut _ _
 ·obtain⟨a,xs,rfl,ea,ra⟩:=c.tup;exact .inr ⟨a,xs,rfl,oQ.of ea,by rw[ra.length];exact q.1,λp hp=>q.2 _ _ (S13.trans (aT.new' hp)) (eX.ahead (IZ hp (ra.cut _ _)) S13)⟩
 ·exact q.elim
section
variable {c:Expr}{tc:dE}
theorem FN{op op':YK}{f f':Int->Int->Bool}(ho:lQ X (dm op) (Di λi j=>.bl (f i j)))(ho':lQ X (dm op') (Di λi j=>.bl (f' i j)))(ha:QE X a ta)(hb:QE X b tb)(hc:QE X c tc)
  (hm:autoParam (Yp [op,op'] [b,c]=am) Tj._auto_1):QE X (.Compare a [op,op'] [b,c] pos) (sK (AL f) (AL f') ta tb tc):=by
 refine⟨λρ Q Q' w q=>ha.mono _ _ _ (λrx q=>hb.mono _ _ _ (λry q=>xV _ _ _ _ (λz q=>?_) q) q) q,λHZ F=>cZ (Je ho ho' (ha.run HZ F) (hb.run HZ F) (hc.run HZ F) hm) λσ H Q ⟨ρ,fr,q⟩=>?_⟩
 ·split at q
  ·split at q
   ·rw[a0G ‹_›];exact hc.mono _ _ _ (λw' q=>xV _ _ _ _ w q) q
   ·rw[a0h ‹_›];exact w _ q
  ·exact q
 ·refine ha.step fr q λrx x H1 q1 S1 r1=>?_;refine hb.step (fr.mono S1) q1 λry y H2 q2 S2 r2=>?_;have cx:=(r1.mono S2).c;have cy:=r2.c;generalize rx.d=dx at q2 cx;generalize ry.d=dy at q2 cy;unfold AL at q2;split at q2
  ·rename_i Q2 i j;obtain rfl:=cx.int;obtain rfl:=cy.int;refine⟨_,_,rfl,rfl,f i j,rfl,?_⟩;have S12:=S1.trans S2;replace q2:=(show (if f i j=ak then tc ρ (λw=>AL f' (.int j) w.d (λr=>∀x H',aT H H'->eX X.K (MM F ρ) (_Z.CD ρ) H x r H'->Q x H')) else (∀x H',aT H H'->eX X.K (MM F ρ) (_Z.CD ρ) H x (.v (.bl am)) H'->Q x H')) from q2);cases h:f i j with
   |true=>
    rw[h] at q2;simp only[if_true] at q2;refine qX (hc.step ((fr.mono S1).mono S2) q2 λrw' z H3 q3 S3 r3=>?_);have cz:=r3.c;generalize rw'.d=dz at q3 cz;cases dz with
    |int l=>
     obtain rfl:=cz.int;exact⟨_,_,rfl,rfl,q3 _ H3 (S12.trans S3) (Rep.bl _)⟩
    |_=>exact(show False from q3).elim
   |false=>
    rw[h] at q2;simp only[de,if_false] at q2;exact pV (q2 _ H2 S12 (Rep.bl _))
  ·exact q2.elim
noncomputable def qU:Dv->Option Bool
 | .non=>ae am
 | .bl b=>ae b
 | .int i=>ae (i != 0)
 | .lst xs=>ae (!xs.isEmpty)
 | .tup xs=>ae (!xs.isEmpty)
 | .dik xs=>ae (!xs.isEmpty)
 | .scr xs=>ae (!xs.isEmpty)
 |_=>ao
def jM(te:dE):mG:=λρ Q=>te ρ λr=>match qU r.d with
 |some k=>Q k
 |none=>False
theorem Reps.empty{xs:List V}(r:Reps K M H xs ds):xs.isEmpty=ds.isEmpty:=by cases r<;>rfl
theorem eT(h:QE X e te)(he:autoParam (∀a12,isTrue e X.env a12=(do let v <- a12;XZ e.pos;Wj [v] (truthy v))) M7._auto_1):QT X e (jM te):=by
 refine⟨λρ Q Q' w q=>h.mono _ _ _ (λr q=>?_) q,λHZ F=>CA (JM (h.run HZ F) he) λσ H Q ⟨ρ,fr,q⟩=>?_⟩
 ·split at q
  ·exact w _ q
  ·exact q
 ·refine h.step fr q λr x H1 q S1 r1=>?_;have cx:=r1.c;generalize r.d=d at q cx;split at q
  ·rename_i k hk;refine⟨k,?_,q H1 S1⟩;cases d with
   |non=>obtain rfl:=cx.non;simp only[qU,jm] at hk;subst hk;rfl
   |bl b=>obtain rfl:=cx.bl;simp only[qU,jm] at hk;exact hk.symm
   |int i=>obtain rfl:=cx.int;simp only[qU,jm] at hk;exact hk.symm
   |lst ds=>
    obtain⟨a,xs,rfl,ea,ra⟩:=cx.lst;simp only[qU,jm] at hk;exact .inl ⟨xs,g6.of ea,by rw[ra.empty];exact hk.symm⟩
   |tup ds=>
    obtain⟨a,xs,rfl,ea,ra⟩:=cx.tup;simp only[qU,jm] at hk;exact .inr (.inl ⟨xs,oQ.of ea,by rw[ra.empty];exact hk.symm⟩)
   |dik ds=>
    obtain⟨a,xs,rfl,ea,ra⟩:=cx.dik;simp only[qU,jm] at hk;exact .inr (.inr ⟨xs,ea,by rw[<- hk];cases ra<;>rfl⟩)
   |scr ns=>
    obtain⟨a,rfl,ea⟩:=cx.scr;simp only[qU,jm] at hk;exact .inl ⟨_,ea.sq,by rw[<- hk];cases ns<;>rfl⟩
   |_=>simp[qU] at hk
  ·exact q.elim
end
abbrev Fn:=List Dv->(R->Prop)->Prop
inductive low(K:aq)(sp:Fn)(vs:List V)(H:Hp)(Q:VK)(E:XK):Prop
 |mk (F:af->Prop) (ds:List Dv) (hF:OldF K F H) (r:Reps K F H vs ds) (q:sp ds (λr=>∀x H',aT H H'->eX K F Aj H x r H'->Q x H'))
structure MonoF(sp:Fn):Prop where
 mo:∀ds (Q Q':R->Prop),(∀r,Q r->Q' r)->sp ds Q->sp ds Q'
structure Def(P:bj)(w:df)(K:aq)(mg:bq->Option ah)(base:eh)(k:Nat)(x:bq)(ps:List bq)(sp:Sp):Prop where
 ex:∃f fd,mg x=ae (.ref f)/\qc K (.ref f)=ak/\j4 K fd ps []/\FnOk P w K mg base CF k f fd ps sp
structure At(K:aq)(mg:bq->Option ah)(x nm:bq)(st:kg)(ps:List bq):Prop where
 ex:∃f fd,mg x=ae (.ref f)/\Fun K nm nm st f fd/\j4 K fd ps []
structure MDef(P:bj)(w:df)(K:aq)(mg:bq->Option ah)(base:eh)(k:Nat)(C:af)(m:bq)(ps:List bq)(sp:Sp):Prop where
 ex:∃f fd,Meth K C m f/\j4 K fd ps []/\FnOk P w K mg base CF k f fd ps sp
structure MAt(K:aq)(C:af)(m qual:bq)(st:kg)(ps:List bq):Prop where
 ex:∃f fd,Meth K C m f/\Fun K m qual st f fd/\j4 K fd ps []
theorem At.ok{P:bj}{w:df}{K:aq}{mg:bq->Option ah}{base:eh}{k:Nat}{x nm:bq}{st:kg}{ps N:List bq}{sp:Sp}(a:At K mg x nm st ps)(S:FnScope N ps (aM st))(len:∀vs H Q E,sp vs H Q E->vs.length=ps.length)
  (a0W:∀(f:af) (cdv:ah) (A:cb) (outer:List zw) (s:aj) (H:Hp) (vs:List V) (Q:VK) (E:XK),Room k (A.deeper (tw nm (aM st) s.heap.objs.size f cdv))->sp vs H Q E ->
   ∃t,wF (i6 CF P w K mg base N nm (aM st) f cdv A outer s H E).nox (eK st) t/\t { nx:=λ_ H'=>Q .non H',rt:=Q } (start N vs) H):Def P w K mg base (k+1) x ps sp:=by
 obtain⟨f,fd,hm,F,hb⟩:=a.ex;exact⟨f,fd,hm,F.kp,hb,F.ok S len (a0W f)⟩
theorem MAt.ok{P:bj}{w:df}{K:aq}{mg:bq->Option ah}{base:eh}{k:Nat}{C:af}{m a0I:bq}{st:kg}{ps N:List bq}{sp:Sp}(a:MAt K C m a0I st ps)(S:FnScope N ps (aM st))(len:∀vs H Q E,sp vs H Q E->vs.length=ps.length)
  (a0W:∀(f:af) (cdv:ah) (A:cb) (outer:List zw) (s:aj) (H:Hp) (vs:List V) (Q:VK) (E:XK),Room k (A.deeper (tw a0I (aM st) s.heap.objs.size f cdv))->sp vs H Q E ->
   ∃t,wF (i6 CF P w K mg base N a0I (aM st) f cdv A outer s H E).nox (eK st) t/\t { nx:=λ_ H'=>Q .non H',rt:=Q } (start N vs) H):MDef P w K mg base (k+1) C m ps sp:=by
 obtain⟨f,fd,hm,F,hb⟩:=a.ex;exact⟨f,fd,hm,hb,F.ok S len (a0W f)⟩
noncomputable def aN(N:List bq)(ds:List Dv):List Sl:=ds.map .v++av (N.length-ds.length) .un
variable {vs:List V}
theorem CL(hF:OldF K F H)(r:Reps K F H vs ds):Fr K H F (start N vs) H (aN N ds):=by
 have no:∀{a:af} {d:Dv},Sl.own a d∈aN N ds->False:=λ{a d} h=>by
  rcases cr.mp h with h | h
  ·obtain⟨z,_,e⟩:=fq.mp h;cases e
  ·cases gm h
 have wk:∀a,MM F (aN N ds) a->F a:=λa h=>by
  rcases h with h | ⟨d,h⟩
  ·exact h
  ·exact(no h).elim
 have hl:=r.length;refine⟨by simp[_L.start,aN,hl],λi s e=>?_,λi j a d d' e _=>(no (ee e)).elim,λa d h=>(no h).elim,aT.refl _,hF⟩;unfold aN at e;by_cases hi:i<ds.length
 ·rw[dj (by simpa using hi),dw] at e;cases q:ds[i]? with
  |none=>rw[q] at e;cases e
  |some d=>
   rw[q] at e;cases e;obtain⟨x,hx,rx⟩:=r.get q;refine⟨x,?_,rx.weak wk⟩;unfold _L.start;rw[dj (by simpa using(fb.mp hx).1),dw,hx];rfl
 ·rw[bt (by simpa using sk hi)] at e;have:=ee e;cases gm this;trivial
variable {Q:VK}{E:XK}{sp:Fn}
theorem wX{sts:List kg}{t:c7}(h:QSs X sts t)(hsp:∀ds Q,sp ds Q->t ↥Q (aN N ds))(q:low X.K sp vs H Q E):
  ∃t',wF X sts t'/\t' { nx:=λ_ H'=>Q .non H',rt:=Q } (start N vs) H:=by
 obtain⟨F,ds,hF,r,q⟩:=q;exact⟨_,h.run H F,aN N ds,_,CL hF r,hsp ds _ q,λρ σ H' fr q=>q .non H' fr.same Rep.non,λ_ _ _ _ z=>z.elim,λ_ _ _ _ z=>z.elim,λrr x H' S rx q=>q x H' S rx⟩
theorem wP(h:∀ds Q,sp ds Q->ds.length=n):∀vs H Q E,low K sp vs H Q E->vs.length=n:=λvs H Q E zq2=>by obtain⟨F,ds,_,r,q⟩:=zq2;(rw[r.length];exact h _ _ q)
variable {st:kg}
theorem At.okP{k:Nat}{x nm:bq}{t:c7}(a:At K mg x nm st ps)(S:FnScope N ps (aM st))
  (hq:∀(f:af) (cdv:ah) (A:cb) (outer:List zw) (s:aj) (H:Hp) (E:XK),Room k (A.deeper (tw nm (aM st) s.heap.objs.size f cdv))->QSs (i6 CF P w K mg base N nm (aM st) f cdv A outer s H E).nox (eK st) t)
  (len:∀ds Q,sp ds Q->ds.length=ps.length) (hsp:∀ds Q,sp ds Q->t ↥Q (aN N ds)):Def P w K mg base (k+1) x ps (low K sp):=
 a.ok S (wP len) λf cdv A outer s H vs Q E hr q=>wX (hq f cdv A outer s H E hr) hsp q
variable {m:bq}
theorem MAt.okP{k:Nat}{t:c7}(a:MAt K C m a0I st ps)(S:FnScope N ps (aM st))
  (hq:∀(f:af) (cdv:ah) (A:cb) (outer:List zw) (s:aj) (H:Hp) (E:XK),Room k (A.deeper (tw a0I (aM st) s.heap.objs.size f cdv))->QSs (i6 CF P w K mg base N a0I (aM st) f cdv A outer s H E).nox (eK st) t)
  (len:∀ds Q,sp ds Q->ds.length=ps.length) (hsp:∀ds Q,sp ds Q->t ↥Q (aN N ds)):MDef P w K mg base (k+1) C m ps (low K sp):=
 a.ok S (wP len) λf cdv A outer s H vs Q E hr q=>wX (hq f cdv A outer s H E hr) hsp q
noncomputable def R.flat:R->Bool
 | .v d=>kB d
 | .nw d=>LR d
 | .ow _ _=>am
def back(rs:List R)(Q:R->Prop):R->Prop:=λr=>(rs.all R.free=ak \/ r.flat=ak)/\Q r
def aU(sp:Fn)(ts:oN):dE:=λρ Q=>ts ρ λrs=>sp (rs.map R.d) (back rs Q)
variable {rs:List R}
def lent(M:af->Prop)(rs:List R):af->Prop:=λa=>M a /\ ∀d,R.ow a d ∉ rs
theorem qL(fr:Fr K HZ F σ H ρ){all:List R}:∀{xs:List V} {rs:List R},(∀r∈rs,r∈all)->Paired (λx r=>eX K (MM F ρ) (_Z.CD ρ) H x r H1) xs rs->Reps K (lent (MM F ρ) all) H1 xs (rs.map R.d)
 |_,_,_,.nil=>.nil
 |_,r::_,hs,.cons a t=>by
  refine .cons ?_ (qL fr (λr hr=>hs r (by simp[hr])) t);have wk:∀a,lent (MM F ρ) all a->MM F ρ a:=λa z=>z.1;cases r with
  |v d=>exact Rep.weak wk a
  |nw d=>exact(eX.rep a (λa m=>fr.dom m) rfl).weak wk
  |ow b d=>
   obtain⟨rfl,_,o⟩:=a;exact(o.weak wk).rep λz=>z.2 d (hs _ (by simp))
theorem M0(h:rs.all R.free=ak)(a:af)(d:Dv):R.ow a d ∉ rs:=λz=>by
 have:=vp.mp h _ z;simp[R.free] at this
theorem AO{x:V}{r:R}{O:af->Dv->Prop}(fr:Fr K HZ F σ H ρ)(S1:aT H H1)(h:eX K (lent (MM F ρ) rs) Aj H1 x r H')(f:rs.all R.free=ak \/ r.flat=ak):eX K (MM F ρ) O H x r H':=by
 rcases f with f | f
 ·have wk:∀a,MM F ρ a->lent (MM F ρ) rs a:=λa z=>⟨z,λd=>M0 f a d⟩;cases r with
  |v d=>exact Rep.weak wk h
  |ow a d=>exact h.2.1.elim
  |nw d=>
   obtain⟨a,e,n,o⟩:=h;exact⟨a,e,S1.free n,o.weak λb z=>z.elim (λz=>.inl (wk b z)) .inr⟩
 ·cases r with
  |v d=>exact Rep.flat f h
  |ow a d=>exact h.2.1.elim
  |nw d=>
   obtain⟨a,e,n,o⟩:=h;exact⟨a,e,S1.free n,o.flat f⟩
variable {Q':R->Prop}{pl:YJ Bool}
section
variable {k:Nat}{x:bq}{o:Expr}{to:dE}{a0S:lj}
theorem uB{xs:List V}(mo:MonoF sp)(fr:Fr X.K HZ F σ H ρ)(S1:aT H H1)(r1:lA X.K (MM F ρ) (_Z.CD ρ) H xs rs H1)(q:sp (rs.map R.d) (back rs Q'))
  (w:∀r,Q' r -> ∀x H',aT H H'->eX X.K (MM F ρ) (_Z.CD ρ) H x r H'->Q x H'):low X.K sp xs H1 Q E:=by
 refine⟨lent (MM F ρ) rs,_,⟨λa z=>(fr.mono S1).dom z.1,(fr.mono S1).tab⟩,qL fr (λ_ h=>h) r1,mo.mo _ _ _ (λr q x H' S rx=>?_) q⟩;exact w r q.2 x H' (S1.trans S) (AO fr S1 rx q.1)
theorem nE{Q:R->Prop}(w:∀r,Q r->Q' r):∀r,back rs Q r->back rs Q' r:=λr h=>⟨h.1,w r h.2⟩
theorem aW(d:Def X.prog X.w X.K X.mg X.base k x ps (low X.K sp))(mo:MonoF sp)(hr:Room k X.A)(ha:QA X (e::es) ts)(hg:autoParam (Gl X x) cA._auto_1)
  (hdb:autoParam ((x==("__debug__":bq))=am) mJ._auto_1) (he:autoParam (ay (e::es) X.env=(am,gw e X.env)::ay es X.env) cA._auto_1) (hpl:autoParam ((jd pos (ay es X.env)).any (·.1)=am) cA._auto_1):
  QE X (.Call (.Name x p) (e::es) [] pos) (aU sp ts):=by
 obtain⟨f,fd,hm,hk,hb,FO⟩:=d.ex;refine⟨λρ Q Q' w q=>ha.mono _ _ _ (λrs q=>mo.mo _ _ _ (nE w) q) q,λHZ F=>cZ (FW FO hr hg hm hk hb .nil Cb (ha.run HZ F) hdb he hpl) λσ H Q zz=>?_⟩;obtain⟨ρ,fr,h⟩:=zz;refine ha.step fr h λrs xs H1 q S1 r1=>?_;rw[fy];exact uB mo fr S1 r1 q λr z=>z
def fU(C:af)(m:bq)(sp:Fn)(to:dE)(ts:oN):dE:=λρ Q=>to ρ λro=>match ro.d with
 | .obj C' fs=>(C'=C/\fs.lookup m=ao)/\ts ρ λrs=>sp (ro.d::rs.map R.d) (back (ro::rs) Q)
 |_=>False
theorem RepF.lookup{K:aq}{M:af->Prop}{H:Hp}{f:bq}{xs:List (bq×V)}{ds:List (bq×Dv)}(r:RepF K M H xs ds):(ds.lookup f=ao->xs.lookup f=ao) /\ ∀d,ds.lookup f=ae d -> ∃x,xs.lookup f=ae x/\Rep K M H x d:=
 r.ind (P:=λxs ds=>(ds.lookup f=ao->xs.lookup f=ao) /\ ∀d,ds.lookup f=ae d -> ∃x,xs.lookup f=ae x/\Rep K M H x d) ⟨λ_=>rfl,λd h=>by cases h⟩ λk x d xs ds a _ ih=>by
  rw[YR,YR];cases h:f==k with
  |true=>
   refine⟨λz=>?_,λd' z=>?_⟩
   ·cases z
   ·cases z;exact⟨x,rfl,a⟩
  |false=>exact ih
theorem jW(c:Cls X.K C)(d:MDef X.prog X.w X.K X.mg X.base k C m ps (low X.K sp))(mo:MonoF sp)(hr:Room k X.A)(ho:QE X o to)(ha:QA X (e::es) ts)
  (hst:autoParam (ay (e::es) X.env=(am,gw e X.env)::ay es X.env) cA._auto_1) (hpl:autoParam ((jd pos (ay es X.env)).any (·.1)=am) cA._auto_1)
  (ht:autoParam (gw (.Call (.Attribute o m a0S) (e::es) [] pos) X.env=(do
   let ov <- gw o X.env
   XZ a0S.atName
   let (f,first) <- Wj [ov] (W2 ov m pl)
   Zj pos f first (jd pos (ay (e::es) X.env)) (yz pos (ul [] X.env)))) cA._auto_1):
  QE X (.Call (.Attribute o m a0S) (e::es) [] pos) (fU C m sp to ts):=by
 obtain⟨f,fd,hm,hb,FO⟩:=d.ex;refine⟨λρ Q Q' w q=>ho.mono _ _ _ (λro q=>?_) q,λHZ F=>cZ (Mj (pl:=pl) (ho.run HZ F) c hm FO hr hb .nil Cb (ha.run HZ F) hst hpl ht) λσ H Q ⟨ρ,fr,h⟩=>?_⟩
 ·split at q
  ·exact⟨q.1,ha.mono _ _ _ (λrs q=>mo.mo _ _ _ (nE w) q) q.2⟩
  ·exact q
 ·refine ho.step fr h λro x H1 q S1 r1=>?_;split at q
  ·rename_i C' fs e;obtain⟨⟨rfl,hl⟩,q⟩:=q;have cx:=r1.c;rw[e] at cx;obtain⟨a,dx,fs',rfl,ea,ra⟩:=cx.obj;refine⟨a,dx,fs',rfl,ea,ra.lookup.1 hl,ha.step (fr.mono S1) q λrs xs H2 q S2 r2=>?_⟩;rw[fy];exact uB (rs:=ro::rs) (xs:=.ref a::xs) mo fr (S1.trans S2) (.cons (r1.mono S2) (r2.ahead S1)) q λr z=>z
  ·exact q.elim
theorem o4(c:Cls X.K C)(d:MDef X.prog X.w X.K X.mg X.base k C m ps (low X.K sp))(mo:MonoF sp)(hr:Room k X.A)(ho:QE X o to)
  (ht:autoParam (gw (.Call (.Attribute o m a0S) [] [] pos) X.env=(do
   let ov <- gw o X.env
   XZ a0S.atName
   let (f,first) <- Wj [ov] (W2 ov m pl)
   Zj pos f first (jd pos (ay [] X.env)) (yz pos (ul [] X.env)))) cA._auto_1):
  QE X (.Call (.Attribute o m a0S) [] [] pos) (fU C m sp to aG):=by
 obtain⟨f,fd,hm,hb,FO⟩:=d.ex;refine⟨λρ Q Q' w q=>ho.mono _ _ _ (λro q=>?_) q,λHZ F=>cZ (JY (pl:=pl) (ho.run HZ F) c hm FO hr hb .nil Cb ht) λσ H Q ⟨ρ,fr,h⟩=>?_⟩
 ·split at q
  ·exact⟨q.1,mo.mo _ _ _ (nE w) q.2⟩
  ·exact q
 ·refine ho.step fr h λro x H1 q S1 r1=>?_;split at q
  ·rename_i C' fs e;obtain⟨⟨rfl,hl⟩,q⟩:=q;have cx:=r1.c;rw[e] at cx;obtain⟨a,dx,fs',rfl,ea,ra⟩:=cx.obj;refine⟨a,dx,fs',rfl,ea,ra.lookup.1 hl,?_⟩;exact uB (rs:=[ro]) (xs:=[.ref a]) (E:=E0) mo fr S1 (.cons r1 .nil) q λr z=>z
  ·exact q.elim
def Ld(C:af)(f:bq)(to:dE):dE:=λρ Q=>to ρ λro=>match ro.d with
 | .obj C' fs=>C'=C/\match fs.lookup f with
  |some d=>Q (.v d)
  |none=>False
 |_=>False
theorem O3{f:bq}(c:Cls X.K C)(n:kA X.K C f)(ho:QE X o to)(hb:autoParam (kh o f X.env (gw o X.env)=gw o X.env) cA._auto_1):QE X (.Attribute o f pos) (Ld C f to):=by
 refine⟨λρ Q Q' w q=>ho.mono _ _ _ (λro q=>?_) q,λHZ F=>cZ (Pa (ho.run HZ F) hb) λσ H Q ⟨ρ,fr,h⟩=>?_⟩
 ·split at q
  ·refine⟨q.1,?_⟩;have q2:=q.2;split at q2
   ·exact w _ q2
   ·exact q2
  ·exact q
 ·refine ho.step fr h λro x H1 q S1 r1=>?_;split at q
  ·rename_i C' fs e;obtain⟨rfl,q⟩:=q;have cx:=r1.c;rw[e] at cx;obtain⟨a,dx,fs',rfl,ea,ra⟩:=cx.obj;split at q
   ·rename_i d hd;obtain⟨z,hz,rz⟩:=ra.lookup.2 d hd;exact⟨a,_,dx,fs',z,rfl,ea,c,n,hz,q _ H1 S1 rz⟩
   ·exact q.elim
  ·exact q.elim
end
end _Z
namespace _L
end _L
namespace _Z
open _L
variable {σ:St}{P:Hp}{elts:List Expr}{x1:Nat}{tp:lj}
section
variable {a b c:Expr}{ta tb:dE}{ts:oN}{p2:lj}
noncomputable def Oy(lo c:Int)(n:Nat):List Dv:=(iw n).map λ(k:Nat)=>Dv.int (lo+(k:Int)*c)
def GG(ts:oN):wZ:=λρ Q=>ts ρ λrs=>match rs.map R.d with
 | [.int i,.int j,.int c]=>(c≠0/\c.natAbs<1000/\a0r i j c=ak/\0<=vm i j c)/\Q (Oy i c (vm i j c).toNat) []
 |_=>False
def Sq(ts:oN):dE:=λρ Q=>ts ρ λrs=>match rs.map R.d with
 | [.int j]=>(-(2 ^ 62)<=j/\j<2 ^ 62/\j.toNat<=1000000)/\Q (.nw (.lst (bE 0 j.toNat)))
 |_=>False
def So(ts:oN):dE:=λρ Q=>ts ρ λrs=>match rs.map R.d with
 | [.int i,.int j]=>((-(2 ^ 62)<=i/\i<2 ^ 62 /\ -(2 ^ 62)<=j/\j<2 ^ 62)/\(j-i).toNat<=1000000)/\Q (.nw (.lst (bE i (j-i).toNat)))
 |_=>False
noncomputable def vT(ds:List Dv):List Dv:=(ds.zipIdx).map λq=>.tup [.int (q.2:Int),q.1]
theorem Hw{d:Dv}(h:(vT ds)[i]?=ae d):∃d0,ds[i]?=ae d0/\d=.tup [.int i,d0]:=by
 unfold vT at h;rw[dw,List.getElem?_zipIdx] at h;cases e:ds[i]? with
 |none=>rw[e] at h;cases h
 |some d0=>
  rw[e] at h;refine⟨d0,rfl,?_⟩;simp at h;exact h.symm
def BY(ts:oN):wZ:=λρ Q=>ts ρ λrs=>match rs with
 | [.v (.lst ds)]=>Q (vT ds) []
 | [.nw (.lst ds)]=>Q (vT ds) []
 | [.ow a (.lst ds)]=>Q (vT ds) [(a,ds)]
 |_=>False
structure Walked(K:aq)(P:Hp)(M:af->Prop)(H1:Hp)(a:af)(ds:List Dv)(ogs:List (af×List Dv)):Prop where
 at_:∀(H':Hp) (M':af->Prop),aT P H'->Gen K M M' H1 H'->(∀p∈ogs,fB K M' H' p.1 (.lst p.2)) -> ∃xs,H' a=ae (.lst xs)/\Reps K M' H' xs ds
noncomputable def rF:R->List (af×List Dv)
 | .ow a (.lst ds)=>[(a,ds)]
 |_=>[]
theorem walked{x:V}{r:R}(fr:Fr K HZ F σ H ρ)(S1:aT H H1)(r1:eX K (MM F ρ) (_Z.CD ρ) H x r H1)(hd:r.d=.lst ds):
  ∃a xs,x=.ref a/\H1 a=ae (.lst xs)/\guard (rF r) ρ/\Walked K (prot H1 ρ) (MM F ρ) H1 a ds (rF r):=by
 cases r with
 |v d=>
  have e:d=.lst ds:=hd;subst e;cases r1 with
  |lst e m rs=>
   refine⟨_,_,rfl,e,by intro p hp;simp[rF] at hp,⟨λH' M' S G _=>⟨_,S _ _ (by rw[cS λc=>m (.inr c)];exact e),rs.gen G⟩⟩⟩
 |nw d=>
  have e:d=.lst ds:=hd;subst e;obtain⟨a,rfl,n,xs,e,rs⟩:=r1;exact⟨_,_,rfl,e,by intro p hp;simp[rF] at hp,⟨λH' M' S G _=>⟨_,S _ _ (by rw[cS λc=>fr.fresh n (.inr c)];exact e),(rs.weak λb z=>.inl z).gen G⟩⟩⟩
 |ow a d=>
  have e:d=.lst ds:=hd;subst e;obtain⟨rfl,m,xs,e,rs⟩:=r1;refine⟨_,_,rfl,e,by intro p hp;simp[rF] at hp;subst hp;exact m,⟨λH' M' S G ow=>?_⟩⟩;exact ow (a,ds) (by simp[rF])
theorem Ho{a:af}{ogs:List (af×List Dv)}(w:Walked K P M H1 a ds ogs):A2 K P M H1 (Tz K a) (vT ds) ogs:=by
 intro i H' M' S G ow;obtain⟨xs,h',r⟩:=w.at_ H' M' S G ow;refine⟨λd e=>?_,λh=>⟨xs,g6.of h',by rw[r.length];simpa [vT] using h⟩⟩;obtain⟨d0,e0,rfl⟩:=Hw e;obtain⟨x,hx,rx⟩:=r.get e0;refine⟨⟨xs,x,g6.of h',hx⟩,λy H'' zz=>?_⟩;obtain⟨T,z,hT,e1,e2,hz⟩:=zz;subst e1 e2;have:=hz xs (g6.of h');rw[hx] at this;cases this;exact⟨aT.new' hT,.tup bP (.cons (.int _) (.cons (rx.mono (aT.new' hT)) .nil))⟩
theorem MR(hg:Gl X "enumerate")(hm:X.mg "enumerate"=ao)(ha:QA X [a] ts)(hs:autoParam (ay [a] X.env=[(am,gw a X.env)]) cA._auto_1):QI X (.Tuple elts x1 tp) (.Call (.Name "enumerate" p) [a] [] pos) (BY ts):=by
 refine⟨λρ Q Q' w q=>ha.mono _ _ _ (λr q=>?_) q,λHZ F=>⟨_,Mi hg hm (ha.run HZ F) hs,λσ H ρ R fr q=>?_⟩⟩
 ·split at q<;>first | exact w _ _ q | exact q
 ·refine ha.step fr q λrs xs H1 q S1 r1=>?_;have one:∀{r:_Z.R} {ds:List Dv},rs=[r]->r.d=.lst ds->(∀J H1',aT H H1'->guard (rF r) ρ->A2 X.K (prot H1' ρ) (MM F ρ) H1' J (vT ds) (rF r)->R J H1') -> ∃a,xs=[V.ref a]/\(∃xs,g6 X.K H1 a xs)/\R (Tz X.K a) H1:=by
   intro r ds e hd k;subst e;cases r1 with
   |cons a1 t1=>
    cases t1;obtain⟨a,ys,rfl,ea,gd,wk⟩:=walked fr S1 a1 hd;exact⟨a,rfl,⟨ys,g6.of ea⟩,k _ H1 S1 gd (Ho wk)⟩
  split at q
  ·exact one rfl rfl q
  ·exact one rfl rfl q
  ·exact one rfl rfl q
  ·exact q.elim
noncomputable def CG(xs ys:List Dv):List Dv:=Ye (λx y=>.tup [x,y]) xs ys
def AY(ts:oN):wZ:=λρ Q=>ts ρ λrs=>match rs with
 | [r,r']=>match r.d,r'.d with
  | .lst xs,.lst ys=>Q (CG xs ys) (rF r++rF r')
  |_,_=>False
 |_=>False
theorem L5{a b:af}{es:List Dv}{o1 o2:List (af×List Dv)}(w1:Walked K P M H1 a ds o1)(w2:Walked K P M H1 b es o2):A2 K P M H1 (VR a b) (CG ds es) (o1++o2):=by
 intro i H' M' S G ow;obtain⟨xs,h1,r1⟩:=w1.at_ H' M' S G λp hp=>ow p (ng _ hp);obtain⟨ys,h2,r2⟩:=w2.at_ H' M' S G λp hp=>ow p (gh _ hp);refine⟨λd e=>?_,λh=>⟨xs,ys,h1,h2,?_⟩⟩
 ·unfold CG at e;rw[List.getElem?_zipWith] at e;cases e1:ds[i]? with
  |none=>rw[e1] at e;cases e
  |some d1=>
   cases e2:es[i]? with
   |none=>rw[e1,e2] at e;cases e
   |some d2=>
    rw[e1,e2] at e;cases e;obtain⟨x,hx,rx⟩:=r1.get e1;obtain⟨y,hy,ry⟩:=r2.get e2;refine⟨⟨xs,ys,x,y,h1,h2,hx,hy⟩,λz H'' zz=>?_⟩;obtain⟨T,z1,z2,hT,e3,e4,k1,k2⟩:=zz;subst e3 e4;have q1:=k1 xs h1;have q2:=k2 ys h2;rw[hx] at q1;rw[hy] at q2;cases q1;cases q2;exact⟨aT.new' hT,.tup bP (.cons (rx.mono (aT.new' hT)) (.cons (ry.mono (aT.new' hT)) .nil))⟩
 ·rw[r1.length,r2.length];simp only[CG,List.length_zipWith] at h;ac_rfl
theorem JG(hg:Gl X "zip")(hm:X.mg "zip"=ao)(ha:QA X [a,b] ts)(hs:autoParam (ay [a,b] X.env=[(am,gw a X.env),(am,gw b X.env)]) cA._auto_1)(hs2:autoParam (ay [b] X.env=[(am,gw b X.env)]) cA._auto_1):
  QI X (.Tuple elts x1 tp) (.Call (.Name "zip" p) [a,b] [] pos) (AY ts):=by
 refine⟨λρ Q Q' w q=>ha.mono _ _ _ (λr q=>?_) q,λHZ F=>⟨_,PL hg hm (ha.run HZ F) hs hs2,λσ H ρ R fr q=>?_⟩⟩
 ·split at q
  ·split at q
   ·exact w _ _ q
   ·exact q
  ·exact q
 ·refine ha.step fr q λrs xs H1 q S1 r1=>?_;split at q
  ·rename_i r r';split at q
   ·rename_i ds es h1 h2;cases r1 with
    |cons a1 t1=>
     cases t1 with
     |cons a2 t2=>
      cases t2;obtain⟨a,ys,rfl,ea,gd,wk⟩:=walked fr S1 a1 h1;obtain⟨b,zs,rfl,eb,gd2,wk2⟩:=walked fr S1 a2 h2;refine⟨a,b,rfl,⟨ys,ea⟩,⟨zs,eb⟩,q _ H1 S1 (λp hp=>?_) (L5 wk wk2)⟩;rcases cr.mp hp with h | h
      ·exact gd p h
      ·exact gd2 p h
   ·exact q.elim
  ·exact q.elim
end
noncomputable def fM(env:zw):List (bq×xn)->List (bq×af)->List (bq×af)
 | [],acc=>acc
 | (n,k)::r,acc=>if (k == .free)=ak then (match env.cells.lookup n with | some c=>fM env r ((n,c)::acc) | none=>fM env r acc) else fM env r acc
variable {env:zw}
theorem rJ(h:(a0H.names.all λy=>!(y.2 == .free) || (env.cells.lookup y.1).isSome)=ak):xa a0H env=jh (fM env a0H.names []):=by
 unfold xa;have key:∀(l:List (bq×xn)) (acc:List (bq×af)),(l.all λy=>!(y.2 == .free) || (env.cells.lookup y.1).isSome)=ak ->
   (YQ (m:=YJ) l acc λx r=>(match x with | (name,kind)=>if (kind==NameKind.free)=ak then (do let c <- cellOf env name;jh (nk ((name,c)::r))) else jh (nk r)))=jh (fM env l acc):=by
  intro l;induction l with
  |nil=>intro acc _;rfl
  |cons y r ih=>
   intro acc hl;obtain⟨n,k⟩:=y;rw[WR,cp] at hl;rw[uk];unfold fM;by_cases hk:(k==NameKind.free)=ak
   ·rw[a0G hk];have h1:(env.cells.lookup n).isSome=ak:=by
     have:=hl.1;simpa [hk] using this
    obtain⟨c,hc⟩:=Vp.mp h1;have e:cellOf env n=jh c:=by unfold cellOf;rw[hc]
    simp only[hk,if_true,e,hc];exact ih _ hl.2
   ·rw[a0h hk];simp only[hk];exact ih _ hl.2
 dsimp only;have h2:=key a0H.names [] h;refine Eq.trans (congrArg (λt:YJ (List (bq×af))=>t >>= λr=>jh r) h2) ?_;rfl
theorem nB{env:zw}:∀(l:List (bq×xn)) (acc:List (bq×af)),(∀q∈acc,env.cells.lookup q.1=ae q.2) -> ∀q∈fM env l acc,env.cells.lookup q.1=ae q.2
 | [],acc,h,q,hq=>h q hq
 | (n,k)::r,acc,h,q,hq=>by
  unfold fM at hq;split at hq
  ·split at hq
   ·rename_i c hc;refine nB r _ (λq' hq'=>?_) q hq;rcases bv.mp hq' with e | e
    ·rw[e];exact hc
    ·exact h q' e
   ·exact nB r acc h q hq
  ·exact nB r acc h q hq
theorem oJ{env:zw}:∀(l:List (bq×xn)) (acc:List (bq×af)),∀q∈acc,q∈fM env l acc
 | [],acc,q,hq=>hq
 | (n,k)::r,acc,q,hq=>by
  unfold fM;split
  ·split
   ·exact oJ r _ q (bp _ hq)
   ·exact oJ r acc q hq
  ·exact oJ r acc q hq
theorem l8{env:zw}{x:bq}:∀(l:List (bq×xn)) (acc:List (bq×af)),(l.all λy=>!(y.2 == .free) || (env.cells.lookup y.1).isSome)=ak->(x,NameKind.free)∈l -> ∃c,(x,c)∈fM env l acc
 | [],_,_,h=>by simp at h
 | (n,k)::r,acc,hl,h=>by
  rw[WR,cp] at hl;unfold fM;rcases bv.mp h with e | e
  ·cases e;rw[a0G (by rfl)];have h1:(env.cells.lookup x).isSome=ak:=by simpa using hl.1
   obtain⟨c,hc⟩:=Vp.mp h1;rw[hc];exact⟨c,oJ r _ _ (by simp)⟩
  ·split
   ·split
    ·exact l8 r _ hl.2 e
    ·exact l8 r _ hl.2 e
   ·exact l8 r _ hl.2 e
theorem lY{α:Type}{x:bq}{c:α}:∀{l:List (bq×α)},(x,c)∈l -> ∃c',l.lookup x=ae c'
 | (n,d)::r,h=>by
  rw[YR];cases e:x==n with
  |true=>exact⟨d,rfl⟩
  |false=>
   rcases bv.mp h with z | z
   ·cases z;simp at e
   ·exact lY z
theorem t9{x:bq}(a0O:∀y∈a0H.names,y.2 ≠ .cell)(h:(jg a0H env).names.lookup x=ae .cell \/ (jg a0H env).names.lookup x=ae .free):(x,NameKind.free)∈a0H.names:=by
 have:(x,NameKind.cell)∈(jg a0H env).names \/ (x,NameKind.free)∈(jg a0H env).names:=h.imp iq iq;rcases this with h | h
 ·obtain⟨⟨n,k⟩,hm,e⟩:=fq.mp h;dsimp only at e;split at e
  ·rename_i hc;rw[cp,cp,beq_iff_eq] at hc;cases e;rw[hc.1.1] at hm;exact hm
  ·cases e;exact absurd rfl (a0O _ hm)
 ·obtain⟨⟨n,k⟩,hm,e⟩:=fq.mp h;dsimp only at e;split at e
  ·cases e
  ·cases e;exact hm
theorem B6{elt a0L tgt:Expr}(tgs ns:List bq)(js:List Nat){k:Nat}{ti:wZ}{g:C8}{tt:mG}(hc:X.N=X.N)(hi:QI X tgt a0L ti)
  (hg:∀(fp:List af) (s:aj) (H:Hp),QG (qO X a0H (fM X.env a0H.names []) fp (tgs++ns) s H) tgt k g) (ht:∀(fp:List af) (s:aj) (H:Hp),QTs (qO X a0H (fM X.env a0H.names []) fp (tgs++ns) s H) ifs tt)
  (he:∀(fp:List af) (s:aj) (H:Hp),QE (qO X a0H (fM X.env a0H.names []) fp (tgs++ns) s H) elt te) (hk:autoParam (tgs.length=k) cA._auto_1)
  (hall:autoParam ((a0H.names.all λy=>!(y.2 == .free) || (X.env.cells.lookup y.1).isSome)=ak) cA._auto_1) (hjs:autoParam (js.map (λj=>X.N[j]?)=ns.map ae) cA._auto_1)
  (hin:autoParam ((ns.all λy=>(jg a0H X.env).names.lookup y==ae .cell || (jg a0H X.env).names.lookup y==ae .free)=ak) cA._auto_1) (a16:autoParam ((ns.all λy=>X.env.kindOf y==ae .cell || X.env.kindOf y==ae .free)=ak) cA._auto_1)
  (nd:autoParam (js.Nodup) mJ._auto_1) (a0O:autoParam (∀y∈a0H.names,y.2 ≠ .cell) F9._auto_1) (a0T:autoParam (a0H.kind=.function) cA._auto_1)
  (a0U:autoParam (∀y∈a0H.names,y.2=.local->a0H.names.lookup y.1=ae .local) F9._auto_1) (hs:autoParam (∀z,jl a0L X.env z=jh z) M7._auto_1):
  QE X (.ListComp elt [⟨tgt,a0L,ifs,0⟩] a0H pos) (eJ k js ti g tt te):=by
 refine P1 hc hk hi hg ht he (rJ hall) (λx c e=>nB a0H.names [] (by simp) (x,c) (iq e)) (λx h=>?_) hjs (λy hy=>?_) (λy hy=>?_) nd a0O a0T a0U hs
 ·obtain⟨c,hc⟩:=l8 a0H.names [] hall (t9 a0O h);exact lY hc
 ·have:=vp.mp hin y hy;simpa using this
 ·have:=vp.mp a16 y hy;simpa using this
open Classical in
def zQ(h:eh)(db:a01)(u:ah):Bool:=if q:∃d as,ZQ h u d as then ku (choose q) db else am
theorem GO{db d:a01}{as:List af}(ok:d.canLay0=ak)(r:ZQ h u d as):zQ h db u=ku d db:=by
 unfold zQ;have q:∃d as,ZQ h u d as:=⟨d,as,r⟩;rw[dif_pos q];obtain⟨as',r'⟩:=Classical.choose_spec q;rw[a0v d _ u as as' ok r r']
theorem z9(I:Inv X pj σ H s){db:a01}{dx:Dv}(hb:db=jD dx):∀{xs:List V} {ds:List Dv} {us:List ah},Reps X.K M H xs ds->okDs 8 ds=ak->bM xs us->us.any (zQ s.heap db)=ds.any λd=>eqD d dx
 |_,_,_,.nil,_,r=>by cases r;rfl
 |_,_,_,.cons a q,ok,r=>by
  have ok':(eQ 8 _&&okDs 8 _)=ak:=ok;rw[cp] at ok';cases r with
  |cons r1 r2=>
   obtain⟨as,ra⟩:=Rep.reads I a ok'.1 r1;rw[wb,wb,z9 I hb q ok'.2 r2,GO (tT 8 _ ok'.1).1 ra,hb];rfl
theorem yC(I:Inv X pj σ H s){A:cb}{v:ah}{dx:Dv}{bs:List af}(rb:ZQ s.heap v (jD dx) bs)(ob:eQ 8 dx=ak)(hu:A.units+64<gv):∀{xs:List V} {ds:List Dv} {us:List ah},Reps X.K M H xs ds->okDs 8 ds=ak->bM xs us -> ∀u∈us,SeqAt.EqAt A s u v (zQ s.heap (jD dx) u)
 |_,_,_,.nil,_,r,u,hm=>by cases r;simp at hm
 |_,_,_,.cons a q,ok,r,u,hm=>by
  have ok':(eQ 8 _&&okDs 8 _)=ak:=ok;rw[cp] at ok';cases r with
  |cons r1 r2=>
   rcases bv.mp hm with e | hm
   ·subst e;obtain⟨as,ra⟩:=Rep.reads I a ok'.1 r1;obtain⟨l1,l2⟩:=tT 8 _ ok'.1;obtain⟨m1,m2⟩:=tT 8 _ ob;rw[GO l1 ra];exact SeqAt.eqAt_reads _ _ A s u v as bs ra rb l1 m1 ⋯
   ·exact yC I rb ob hu q ok'.2 r2 u hm
def UV(K:aq)(neg:Bool):R2:=λx y H Q=>∃M dx ds p xs,eB K M H x dx/\y=.ref p/\(g6 K H p xs \/ oQ K H p xs)/\Reps K M H xs ds/\eQ 8 dx=ak/\okDs 8 ds=ak /\
 Q (.bl (if neg then !(ds.any λd=>eqD d dx) else ds.any λd=>eqD d dx)) H
theorem AW(h:A.units+65<gv):A.in1.units+64<gv:=by
 have:A.in1.units<=A.units+1:=by unfold Around.in1;simp[Around.units]
 ac_rfl
theorem HJ(hu:X.A.units+65<gv):lQ X (dm .NotIn) (UV X.K ak):=by
 intro pj s σ H x y v u Q I rx ry h;obtain⟨M,dx,ds,p,xs,cx,rfl,hq,rs,o1,o2,q⟩:=h;cases ry;obtain⟨bs,rb⟩:=cx.reads I o1 rx;rcases hq with hq | hq
 ·obtain⟨its,r,pl,hz⟩:=I.list hq;refine SeqAt.notIn_listAt (zQ s.heap (jD dx)) pl.isList (λw hw=>yC I rb o1 (AW hu) rs o2 r w (by simpa using hw)) ⟨.bl _,H,I,rfl,?_⟩;rw[show its.toArray.any (zQ s.heap (jD dx))=its.any (zQ s.heap (jD dx)) by simp,z9 I rfl rs o2 r];exact q
 ·obtain⟨its,r,pl,hz⟩:=I.tuple hq;refine SeqAt.notIn_tupleAt (zQ s.heap (jD dx)) pl (λw hw=>yC I rb o1 (AW hu) rs o2 r w (by simpa using hw)) ⟨.bl _,H,I,rfl,?_⟩;rw[show its.toArray.any (zQ s.heap (jD dx))=its.any (zQ s.heap (jD dx)) by simp,z9 I rfl rs o2 r];exact q
end _Z
variable {sp:_Z.Fn}
namespace _Z
open _L
theorem wH{k:Nat}(r:Room k A):A.units+65<gv:=by have:=r.un;ac_rfl
def Rs:Dv->Dv->(R->Prop)->Prop
 | .int i,.int j,Q=>j≠0/\Q (.v (.int (i.fmod j)))
 |_,_,_=>False
noncomputable def isB(b:Bool):Dv->Bool
 | .bl c=>c==b
 |_=>am
def Ub:Dv->Dv->(R->Prop)->Prop
 |d,.bl b,Q=>Q (.v (.bl (isB b d)))
 |_,_,_=>False
def Rr:Dv->Dv->(R->Prop)->Prop
 |d,.bl b,Q=>Q (.v (.bl (!isB b d)))
 |_,_,_=>False
def O0(i:Nat)(tk tv:dE):c7:=λE ρ=>match ρ[i]? with
 |some (.own a (.lst xs))=>tv ρ λr=>tk ρ λk=>match k.d with
  | .int n=>match wB xs.length n with
   |some j=>r.free=ak/\E.nx (ρ.set i (.own a (.lst (xs.set j r.d))))
   |none=>False
  |_=>False
 |_=>False
noncomputable def inD(d:Dv)(ds:List Dv):Bool:=ds.any λe=>eqD e d
def iO:Dv->Dv->(R->Prop)->Prop
 |d,.lst ds,Q=>(eQ 8 d=ak/\okDs 8 ds=ak)/\Q (.v (.bl (!inD d ds)))
 |d,.tup ds,Q=>(eQ 8 d=ak/\okDs 8 ds=ak)/\Q (.v (.bl (!inD d ds)))
 |_,_,_=>False
theorem qK(hu:X.A.units+65<gv)(_hu1:X.A.units+1<gv):xA X (dm .NotIn) iO:=by
 refine⟨λdx dy Q Q' w h=>?_,_,HJ hu,λM O H x y dx dy Q cx cy h=>?_⟩
 ·unfold iO at h;split at h
  ·exact⟨h.1,w _ h.2⟩
  ·exact⟨h.1,w _ h.2⟩
  ·exact h.elim
 ·unfold iO at h;split at h
  ·obtain⟨a,xs,rfl,ea,ra⟩:=cy.lst;exact⟨M,_,_,a,xs,cx,rfl,.inl (g6.of ea),ra,h.1.1,h.1.2,h.2 _ H (aT.refl _) (Rep.bl _)⟩
  ·obtain⟨a,xs,rfl,ea,ra⟩:=cy.tup;exact⟨M,_,_,a,xs,cx,rfl,.inr (oQ.of ea),ra,h.1.1,h.1.2,h.2 _ H (aT.refl _) (Rep.bl _)⟩
  ·exact h.elim
structure QX(X:Cx)(st:kg)(i:Nat)(te:dE):Prop where
 mono:∀(ρ:List Sl) (Q Q':R->Prop),(∀r,Q r->Q' r)->te ρ Q->te ρ Q'
 run:∀(HZ:Hp) (F:af->Prop),PS X st (Os (lift X.K HZ F te) (DK i))
variable {σ:St}{st:kg}
theorem QX.step{Q:R->Prop}{Q':VK}(h:QX X st i te)(fr:Fr X.K HZ F σ H ρ)(q:te ρ Q)
  (k:∀r x H',Q r->aT H H'->eX X.K (MM F ρ) (CD ρ) H x r H'->Q' x H'):lift X.K HZ F te σ H Q':=⟨ρ,fr,h.mono _ _ _ (λr qr x H' S rx=>k r x H' qr S rx) q⟩
theorem uV(he:QX X st i te):QS X st (c6 i te):=by
 refine⟨λE E' ρ w h=>he.mono _ _ _ (λr q=>?_) h,λHZ F=>e7 (he.run HZ F) λD σ H ⟨ρ,E,fr,h,en⟩=>?_⟩
 ·cases r with
  |v d=>exact w.nx _ q
  |nw d=>exact w.nx _ q
  |ow a d=>exact q
 ·refine he.step fr h λr x H1 q S1 r1=>?_;cases r with
  |v d=>exact en.nx _ _ _ ((fr.mono S1).setv r1) q
  |nw d=>exact en.nx _ _ _ ((fr.mono S1).setv (r1.rep (λa m=>fr.dom m) rfl)) q
  |ow a d=>exact q.elim
variable {y:bq}{py spos:lj}{iy:Nat}{elt a0L tgt:Expr}{ti:wZ}{tt:mG}
theorem MT{cl:List (bq×af)}{tgs ns:List bq}{k:Nat}{g:C8}(hN:X.N.Nodup)(hi2:X.N[iy]?=ae y)(hx2:GW X.env.scope y)(hc:X.N=X.N)(hk:tgs.length=k)
  (hi:QI X tgt a0L ti) (hg:∀(fp:List af) (s:aj) (H:Hp),QG (qO X a0H cl fp (tgs++ns) s H) tgt k g) (ht:∀(fp:List af) (s:aj) (H:Hp),QTs (qO X a0H cl fp (tgs++ns) s H) ifs tt)
  (he:∀(fp:List af) (s:aj) (H:Hp),QE (qO X a0H cl fp (tgs++ns) s H) elt te)
  (a15:xa a0H X.env=jh cl) (a11:∀x c,cl.lookup x=ae c->X.env.cells.lookup x=ae c)
  (a19:∀x,((jg a0H X.env).names.lookup x=ae .cell \/ (jg a0H X.env).names.lookup x=ae .free) -> ∃c,cl.lookup x=ae c)
  (hjs:js.map (λj=>X.N[j]?)=ns.map ae) (hin:∀y∈ns,(jg a0H X.env).names.lookup y=ae .cell \/ (jg a0H X.env).names.lookup y=ae .free)
  (a16:∀y∈ns,X.env.kindOf y=ae .cell \/ X.env.kindOf y=ae .free) (nd:js.Nodup)
  (a0O:autoParam (∀y∈a0H.names,y.2 ≠ .cell) F9._auto_1) (a0T:autoParam (a0H.kind=.function) cA._auto_1)
  (a0U:autoParam (∀y∈a0H.names,y.2=.local->a0H.names.lookup y.1=ae .local) F9._auto_1)
  (hs:autoParam (∀z,jl a0L X.env z=jh z) M7._auto_1)
  (hsw:autoParam (io (.ListComp elt [⟨tgt,a0L,ifs,0⟩] a0H pos) (ae (.Name y py)) spos.line X.env=jh ak) cA._auto_1) (hf:autoParam (X.fn y=ak \/ X.env.scope.names.lookup y=ae .local) FA._auto_1):
  QX X (.Assign [.Name y py] (.ListComp elt [⟨tgt,a0L,ifs,0⟩] a0H pos) spos) iy (eJ k js ti g tt te):=by
 refine⟨λρ Q Q' w h=>hi.mono _ _ _ (λds ogs h=>lM (hg [] X.s₀ λ_=>ao).mono (ht [] X.s₀ λ_=>ao).mono (he [] X.s₀ λ_=>ao).mono ds [] Q Q' w h) h,λHZ F=>?_⟩;obtain⟨wi,hwi,key⟩:=Da hk hi hg ht he nd HZ F;exact e7 (JT (tgs:=tgs) (ns:=ns) (js:=js) hN hi2 hx2 hc hwi (λfp s H=>(hg fp s H).pg) (λfp s H=>(ht fp s H).pt) (λfp s H=>(he fp s H).pe) a15 a11 a19 hjs hin a16 a0O a0T a0U hs hsw hf) λD σ H h=>key σ H _ h
theorem AG(tgs ns:List bq)(js:List Nat){k:Nat}{g:C8}(hN:X.N.Nodup)(hi2:X.N[iy]?=ae y)(hx2:GW X.env.scope y)(hc:X.N=X.N)(hi:QI X tgt a0L ti)
  (hg:∀(fp:List af) (s:aj) (H:Hp),QG (qO X a0H (fM X.env a0H.names []) fp (tgs++ns) s H) tgt k g) (ht:∀(fp:List af) (s:aj) (H:Hp),QTs (qO X a0H (fM X.env a0H.names []) fp (tgs++ns) s H) ifs tt)
  (he:∀(fp:List af) (s:aj) (H:Hp),QE (qO X a0H (fM X.env a0H.names []) fp (tgs++ns) s H) elt te) (hk:autoParam (tgs.length=k) cA._auto_1)
  (hall:autoParam ((a0H.names.all λy=>!(y.2 == .free) || (X.env.cells.lookup y.1).isSome)=ak) cA._auto_1) (hjs:autoParam (js.map (λj=>X.N[j]?)=ns.map ae) cA._auto_1)
  (hin:autoParam ((ns.all λy=>(jg a0H X.env).names.lookup y==ae .cell || (jg a0H X.env).names.lookup y==ae .free)=ak) cA._auto_1) (a16:autoParam ((ns.all λy=>X.env.kindOf y==ae .cell || X.env.kindOf y==ae .free)=ak) cA._auto_1)
  (nd:autoParam (js.Nodup) mJ._auto_1) (a0O:autoParam (∀y∈a0H.names,y.2 ≠ .cell) F9._auto_1) (a0T:autoParam (a0H.kind=.function) cA._auto_1)
  (a0U:autoParam (∀y∈a0H.names,y.2=.local->a0H.names.lookup y.1=ae .local) F9._auto_1) (hs:autoParam (∀z,jl a0L X.env z=jh z) M7._auto_1)
  (hsw:autoParam (io (.ListComp elt [⟨tgt,a0L,ifs,0⟩] a0H pos) (ae (.Name y py)) spos.line X.env=jh ak) cA._auto_1) (hf:autoParam (X.fn y=ak \/ X.env.scope.names.lookup y=ae .local) FA._auto_1):
  QX X (.Assign [.Name y py] (.ListComp elt [⟨tgt,a0L,ifs,0⟩] a0H pos) spos) iy (eJ k js ti g tt te):=by
 refine MT hN hi2 hx2 hc hk hi hg ht he (rJ hall) (λx c e=>nB a0H.names [] (by simp) (x,c) (iq e)) (λx h=>?_) hjs (λy hy=>?_) (λy hy=>?_) nd a0O a0T a0U hs hsw hf
 ·obtain⟨c,hc⟩:=l8 a0H.names [] hall (t9 a0O h);exact lY hc
 ·have:=vp.mp hin y hy;simpa using this
 ·have:=vp.mp a16 y hy;simpa using this
def Rx:Dv->Dv->(R->Prop)->Prop
 | .int i,.int j,Q=>Q (.v (.int (i+j)))
 | .str x,.str y,Q=>x.length+y.length<=zZ/\Q (.v (.str (x++y)))
 |_,_,_=>False
def Cu:Dv->Dv->(R->Prop)->Prop
 | .int i,.int j,Q=>Q (.v (.int (i-j)))
 |_,_,_=>False
def Rv:Dv->Dv->(R->Prop)->Prop
 | .int i,.int j,Q=>vW i j/\Q (.v (.int (i*j)))
 |_,_,_=>False
theorem LA:VZ X .Sub Cu:=by
 refine⟨λdx dy Q Q' w h=>?_,_,NY,λM O H x y dx dy Q cx cy h=>?_⟩
 ·unfold Cu at h;split at h
  ·exact w _ h
  ·exact h.elim
 ·unfold Cu at h;split at h
  ·obtain rfl:=cx.int;obtain rfl:=cy.int;exact⟨_,_,rfl,rfl,h _ H (aT.refl _) (Rep.int _)⟩
  ·exact h.elim
def RO(te:dE)(g:C8):c7:=λE ρ=>te ρ λr=>r.free=ak/\g r.d ρ E.nx
theorem JC{a b c:Expr}{ta tb tc:dE}{op op':YK}{f f':Int->Int->Bool}(ho:lQ X (dm op) (Di λi j=>.bl (f i j)))(ho':lQ X (dm op') (Di λi j=>.bl (f' i j)))(ha:QE X a ta)(hb:QE X b tb)(hc:QE X c tc)
  (hm:autoParam (Yp [op,op'] [b,c]=am) Tj._auto_1):QT X (.Compare a [op,op'] [b,c] pos) (aV (sK (AL f) (AL f') ta tb tc)):=by
 have Q0:=FN (pos:=pos) ho ho' ha hb hc hm;have low:∀(HZ:Hp) (F:af->Prop) (σ:St) (H:Hp) (Q:VK),lift X.K HZ F (sK (AL f) (AL f') ta tb tc) σ H Q->Dx (Di λi j=>.bl (f i j)) (Di λi j=>.bl (f' i j)) (lift X.K HZ F ta) (lift X.K HZ F tb) (lift X.K HZ F tc) σ H Q:=by
  rintro HZ F σ H Q ⟨ρ,fr,q⟩;refine ha.step fr q λrx x H1 q1 S1 r1=>?_;refine hb.step (fr.mono S1) q1 λry y H2 q2 S2 r2=>?_;have cx:=(r1.mono S2).c;have cy:=r2.c;generalize rx.d=dx at q2 cx;generalize ry.d=dy at q2 cy;unfold AL at q2;split at q2
  ·rename_i Q2 i j;obtain rfl:=cx.int;obtain rfl:=cy.int;refine⟨_,_,rfl,rfl,f i j,rfl,?_⟩;have S12:=S1.trans S2;replace q2:=(show (if f i j=ak then tc ρ (λw=>AL f' (.int j) w.d (λr=>∀x H',aT H H'->eX X.K (MM F ρ) (_Z.CD ρ) H x r H'->Q x H')) else (∀x H',aT H H'->eX X.K (MM F ρ) (_Z.CD ρ) H x (.v (.bl am)) H'->Q x H')) from q2);cases h:f i j with
   |true=>
    rw[h] at q2;simp only[if_true] at q2;refine qX (hc.step ((fr.mono S1).mono S2) q2 λrw' z H3 q3 S3 r3=>?_);have cz:=r3.c;generalize rw'.d=dz at q3 cz;cases dz with
    |int l=>
     obtain rfl:=cz.int;exact⟨_,_,rfl,rfl,q3 _ H3 (S12.trans S3) (Rep.bl _)⟩
    |_=>exact(show False from q3).elim
   |false=>
    rw[h] at q2;simp only[de,if_false] at q2;exact pV (q2 _ H2 S12 (Rep.bl _))
  ·exact q2.elim
 refine⟨λρ Q Q' w q=>yO Q0.mono ρ Q Q' w q,λHZ F=>CA (JN ho ho' (ha.run HZ F) (hb.run HZ F) (hc.run HZ F) hm) λσ H Q zz=>?_⟩;obtain⟨ρ,fr,q⟩:=zz;refine low HZ F σ H _ (Q0.step fr q λr x H1 q S1 r1=>?_);have cx:=r1.c;generalize r.d=d at q cx;split at q
 ·obtain rfl:=cx.bl;exact⟨_,rfl,q H1 S1⟩
 ·exact q.elim
variable {f:bq}{p1 p2:lj}
def Gi(i:Nat)(te:dE):c7:=λE ρ=>match ρ[i]? with
 |some (.own a (.lst xs))=>te ρ λr=>match r.d with
  | .lst ys=>xs.length+ys.length<=zZ/\E.nx (ρ.set i (.own a (.lst (xs++ys))))
  |_=>False
 |_=>False
theorem Rh{x:bq}{p3:lj}(hv:PE X (.Name x p1) (vX i))(he:QE X e te)(hs:autoParam (io (.Call (.Attribute (.Name x p1) "extend" p2) [e] [] p3) ao pos.line X.env=jh am) cA._auto_1)
  (a0Z:autoParam (kh (.Name x p1) "extend" X.env (gw (.Name x p1) X.env)=gw (.Name x p1) X.env) cA._auto_1)
  (hfew:autoParam (((jd p3 (ay [e] X.env)).all (λx=>!x.1)&&(yz p3 (ul [] X.env)).all (λx=>x.1.isSome)
   && decide ([e].length+([]:List Vo).length+(if ([]:List Vo).isEmpty then 0 else 1)<30))=ak) cA._auto_1)
  (a10:autoParam ((p2.endLine==p3.line)=ak) cA._auto_1) (hst:autoParam (ay [e] X.env=(am,gw e X.env)::ay [] X.env) cA._auto_1) (a14:autoParam ((jd p3 (ay [] X.env)).any (·.1)=am) cA._auto_1):
  QS X (.Expr (.Call (.Attribute (.Name x p1) "extend" p2) [e] [] p3) pos) (Gi i te):=by
 refine⟨λE E' ρ w h=>?_,λHZ F=>e7 (tG (Jg ka PySem.F.slot_list_extend PySem.F.type_list_extend HQ hv (kE (he.run HZ F) uX hst) a0Z hfew a10 hst a14) hs) λD σ H ⟨ρ,E,fr,h,en⟩=>?_⟩
 ·unfold Gi at *;split at h
  ·refine he.mono _ _ _ (λr q=>?_) h;split at q
   ·exact⟨q.1,w.nx _ q.2⟩
   ·exact q
  ·exact h
 ·unfold Gi at h;split at h
  ·rename_i a xs hx;obtain⟨hs1,vs,hv1,rv1⟩:=fr.sl i _ hx;refine⟨_,hs1,.inl ⟨rfl,_,g6.of hv1⟩,he.step fr h λr y H1 q S1 r1=>?_⟩;have cy:=r1.c;generalize r.d=d at q cy;split at q
   ·rename_i ys;obtain⟨b,zs,rfl,eb,rb⟩:=cy.lst;obtain⟨ql,q2⟩:=q;have hv2:=S1 _ _ hv1;refine⟨a,b,vs,zs,rfl,rfl,hv2,eb,jL (by rw[rv1.length,rb.length];exact ql),?_⟩;refine en.nx _ _ _ ((fr.mono S1).write (d':=.lst (xs++ys)) hx ⟨_,bP,?_⟩) q2;have G:Gen X.K (MM F ρ) (MM F ρ) H1 (upd H1 a (.lst (vs++zs))):=Gen.write (.inr ⟨_,ee hx⟩) (by rw[hv2];trivial);exact((rv1.mono S1).append rb).gen G
   ·exact q.elim
  ·exact h.elim
noncomputable def JK(f:bq)(d:Dv):List (bq×Dv)->List (bq×Dv)
 | []=>[(f,d)]
 | (g,x)::r=>if g=f then (g,d)::r else (g,x)::JK f d r
theorem RepF.put{x:V}{d:Dv}(a:Rep K M H x d){xs:List (bq×V)}{ds:List (bq×Dv)}(r:RepF K M H xs ds):RepF K M H (o7 f x xs) (JK f d ds):=
 r.ind (P:=λxs ds=>RepF K M H (o7 f x xs) (JK f d ds)) (.cons a .nil) λk _ _ _ _ b r ih=>by
  show RepF K M H (if k=f then _ else _) (if k=f then _ else _);split
  ·exact .cons a r
  ·exact .cons b ih
theorem RepF.length{K:aq}{M:af->Prop}{H:Hp}{xs:List (bq×V)}{ds:List (bq×Dv)}(r:RepF K M H xs ds):xs.length=ds.length:=r.ind (P:=λxs ds=>xs.length=ds.length) rfl λ_ _ _ _ _ _ _ ih=>congrArg (· + 1) ih
def xN(C:af)(i:Nat)(f:bq)(te:dE):c7:=λE ρ=>match ρ[i]? with
 |some (.own a (.obj C' fs))=>te ρ λr=>(C'=C/\r.free=ak/\fs.length<1000)/\E.nx (ρ.set i (.own a (.obj C' (JK f r.d fs))))
 |_=>False
theorem JH{x:bq}(c:Cls X.K C)(n:kA X.K C f)(hv:PE X (.Name x p1) (vX i))(he:QE X e te)
  (hs:autoParam (io e (ae (.Attribute (.Name x p1) f p2)) pos.line X.env=jh am) cA._auto_1):QS X (.Assign [.Attribute (.Name x p1) f p2] e pos) (xN C i f te):=by
 refine⟨λE E' ρ w h=>?_,λHZ F=>e7 (PH hv he.pe hs) λD σ H ⟨ρ,E,fr,h,en⟩=>?_⟩
 ·unfold xN at *;split at h
  ·exact he.mono _ _ _ (λr q=>⟨q.1,w.nx _ q.2⟩) h
  ·exact h
 ·unfold xN at h;split at h
  ·rename_i a C' fs hx;refine⟨HZ,F,he.step fr h λr y H1 q S1 r1=>?_⟩;obtain⟨⟨rfl,qf,ql⟩,q2⟩:=q;have fr1:=fr.mono S1;obtain⟨hs1,dx,fs1,hv1,rv1⟩:=fr1.sl i _ hx;have rep:=r1.rep (λa m=>fr.dom m) qf;refine⟨_,hs1,a,C',dx,fs1,rfl,hv1,c,n,by rw[rv1.length];exact ql,?_⟩;refine en.nx _ _ _ (fr1.write (d':=.obj C' (JK f r.d fs)) hx ⟨dx,_,bP,?_⟩) q2;have G:Gen X.K (MM F ρ) (MM F ρ) H1 (upd H1 a (.ins C' dx (o7 f y fs1))):=Gen.write (.inr ⟨_,ee hx⟩) (by rw[hv1];trivial);exact(RepF.put rep rv1).gen G
  ·exact h.elim
def Uf(K:aq)(C:af)(sp:Fn):Sp:=λvs H Q _=>∃(x dx:af) (vs':List V) (H0:Hp) (F:af->Prop) (ds:List Dv),vs=.ref x::vs'/\H=upd (upd H0 dx (.own x)) x (.ins C dx [])/\H0 x=ao/\H0 dx=ao/\dx≠x/\OldF K F H0/\Reps K F H0 vs' ds /\
 sp ds (λr=>∀H',aT H0 H'->eX K F Aj H0 (.ref x) r H'->Q .non H')
structure IDef(P:bj)(w:df)(K:aq)(mg:bq->Option ah)(base:eh)(k:Nat)(x:bq)(C:af)(ps:List bq)(sp:Fn):Prop where
 ex:∃f fd,Mk K C f/\mg x=ae (.ref C)/\j4 K fd ps []/\FnOk P w K mg base CF k f fd ps (Uf K C sp)
structure IAt(K:aq)(mg:bq->Option ah)(x:bq)(C:af)(qual:bq)(st:kg)(ps:List bq):Prop where
 ex:∃f fd,Mk K C f/\mg x=ae (.ref C)/\Fun K "__init__" qual st f fd/\j4 K fd ps []
noncomputable def jV(C a:af)(N:List bq)(ds:List Dv):List Sl:=.own a (.obj C [])::(ds.map .v++av (N.length-(ds.length+1)) .un)
variable {H0:Hp}{dx:af}
theorem J1{x:af}{o o':HO}(hx:H0 x=ao)(hd:H0 dx=ao):aT H0 (upd (upd H0 dx o) x o'):=λb q e=>by
 rw[b5 (bG e hx),b5 (bG e hd)];exact e
theorem Gd{x:af}{vs:List V}(hx:H0 x=ao)(hd:H0 dx=ao)(hF:OldF K F H0)(r:Reps K F H0 vs ds):
  Fr K H0 F (start N (.ref x::vs)) (upd (upd H0 dx (.own x)) x (.ins C dx [])) (jV C x N ds):=by
 have S:aT H0 (upd (upd H0 dx (.own x)) x (.ins C dx [])):=J1 hx hd;have only:∀{a:af} {d:Dv},Sl.own a d∈jV C x N ds->a=x:=λ{a d} h=>by
  rcases bv.mp h with h | h
  ·cases h;rfl
  ·rcases cr.mp h with h | h
   ·obtain⟨z,_,e⟩:=fq.mp h;cases e
   ·cases gm h
 have wk:∀a,MM F (jV C x N ds) a->F a \/ a=x:=λa h=>by
  rcases h with h | ⟨d,h⟩
  ·exact .inl h
  ·exact .inr (only h)
 have G:Gen K F (MM F (jV C x N ds)) H0 (upd (upd H0 dx (.own x)) x (.ins C dx [])):=((Gen.fresh hx).trans (.mono S)).trans (.weak wk);have hl:=r.length;have r':=r.gen G;have zero:∀(i:Nat) (a:af) (d:Dv),(jV C x N ds)[i]?=ae (.own a d)->i=0:=λi a d e=>by
  cases i with
  |zero=>rfl
  |succ i=>
   have e':(ds.map Sl.v++av (N.length-(ds.length+1)) Sl.un)[i]?=ae (.own a d):=e;have:=ee e';rcases cr.mp this with h | h
   ·obtain⟨z,_,e⟩:=fq.mp h;cases e
   ·cases gm h
 refine⟨by simp[_L.start,jV,hl],λi s e=>?_,λi j a d d' e1 e2=>?_,λa d h=>by rw[only h];exact hx,S,hF⟩
 ·cases i with
  |zero=>
   cases e;exact⟨rfl,dx,[],bP,.nil⟩
  |succ i=>
   have e':(ds.map Sl.v++av (N.length-(ds.length+1)) Sl.un)[i]?=ae s:=e;have es:(start N (.ref x::vs))[i+1]?=(vs.map ae++av (N.length-(vs.length+1)) ao)[i]?:=by simp[_L.start]
   rw[es];by_cases hi:i<ds.length
   ·rw[dj (by simpa using hi),dw] at e';cases q:ds[i]? with
    |none=>rw[q] at e';cases e'
    |some d=>
     rw[q] at e';cases e';obtain⟨y,hy,ry⟩:=r'.get q;refine⟨y,?_,ry⟩;rw[dj (by simpa using(fb.mp hy).1),dw,hy];rfl
   ·rw[bt (by simpa using sk hi)] at e';have:=ee e';cases gm this;trivial
 ·rw[zero i a d e1,zero j a d' e2]
theorem IAt.okP{k:Nat}{x:bq}{t:c7}(m:IAt K mg x C a0I st ps)(S:FnScope N ps (aM st))
  (hq:∀(f:af) (cdv:ah) (A:cb) (outer:List zw) (s:aj) (H:Hp) (E:XK),Room k (A.deeper (tw a0I (aM st) s.heap.objs.size f cdv))->QSs (i6 CF P w K mg base N a0I (aM st) f cdv A outer s H E).nox (eK st) t)
  (len:∀ds Q,sp ds Q->ds.length+1=ps.length) (hsp:∀ds Q,sp ds Q -> ∀a,t { nx:=λρ=>∃d,ρ[0]?=ae (.own a d)/\Q (.nw d),rt:=λ_=>False } (jV C a N ds)):IDef P w K mg base (k+1) x C ps sp:=by
 obtain⟨f,fd,M,hm,FF,hb⟩:=m.ex;refine⟨f,fd,M,hm,hb,FF.ok S (λvs H Q E zz=>?_) λcdv A outer s H vs Q E hr q=>?_⟩
 ·obtain⟨a,dx,vs',H0,F,ds,e,_,_,_,_,_,r,q⟩:=zz;rw[e,dg,r.length];exact len _ _ q
 ·obtain⟨a,dx,vs',H0,F,ds,rfl,rfl,hx,hd,hn,hF,r,q⟩:=q;refine⟨_,(hq f cdv A outer s _ E hr).run H0 F,jV C a N ds,_,Gd hx hd hF r,hsp ds _ q a,?_,λ_ _ _ _ z=>z.elim,λ_ _ _ _ z=>z.elim,λ_ _ _ _ _ z=>z.elim⟩;rintro ρ σ H' fr ⟨d,hd',q⟩;have mem:Sl.own a d∈ρ:=ee hd';exact q H' fr.same ⟨a,rfl,hx,(fr.sl 0 _ hd').2.weak λb z=>z.elim .inl λz=>.inr ⟨d,by rw[z];exact mem⟩⟩
def DQ(sp:Fn)(ts:oN):dE:=λρ Q=>ts ρ λrs=>sp (rs.map R.d) (back rs Q)
variable {ts:oN}
section
variable {k:Nat}{x:bq}
theorem Oz(d:IDef X.prog X.w X.K X.mg X.base k x C ps sp)(mo:MonoF sp)(hr:Room (k+1) X.A)(ha:QA X (e::es) ts)(hg:autoParam (Gl X x) cA._auto_1)
  (hdb:autoParam ((x==("__debug__":bq))=am) mJ._auto_1) (he:autoParam (ay (e::es) X.env=(am,gw e X.env)::ay es X.env) cA._auto_1) (hpl:autoParam ((jd pos (ay es X.env)).any (·.1)=am) cA._auto_1):
  QE X (.Call (.Name x p) (e::es) [] pos) (DQ sp ts):=by
 obtain⟨f,fd,M,hm,hb,FO⟩:=d.ex;refine⟨λρ Q Q' w q=>ha.mono _ _ _ (λrs q=>mo.mo _ _ _ (nE w) q) q,λHZ F=>cZ (Ml M FO hr hg hm hb .nil Cb (ha.run HZ F) hdb he hpl) λσ H Q zz=>?_⟩;obtain⟨ρ,fr,h⟩:=zz;refine ha.step fr h λrs xs H1 q S1 r1=>?_;intro a dx hx hd hn;rw[fy];refine⟨a,dx,xs,H1,lent (MM F ρ) rs,rs.map R.d,rfl,rfl,hx,hd,hn,⟨λb z=>(fr.mono S1).dom z.1,(fr.mono S1).tab⟩,qL fr (λ_ h=>h) r1,mo.mo _ _ _ (λr q H' S rx=>?_) q⟩;exact⟨rfl,q.2 _ H' (S1.trans S) (AO fr S1 rx q.1)⟩
end
noncomputable def Ot(a:af)(N:List bq):List Dv->List Sl
 | []=>[]
 |d::ds=>.own a d::(ds.map .v++av (N.length-(ds.length+1)) .un)
def RM(i:Nat)(sp:Fn)(ts:oN):c7:=λE ρ=>ts ρ λrs=>match rs with
 | .ow a d::a0J=>ρ[i]?=ae (.own a d)/\a0J.all R.free=ak/\sp (d::a0J.map R.d) (λr=>match r with | .nw d'=>∀b,E.nx (ρ.set i (.own b d')) | _=>False)
 |_=>False
section
variable {k:Nat}{x:bq}{pos2:lj}
end
def Ua:Dv->Dv->(R->Prop)->Prop
 | .int i,.int j,Q=>M6 i j/\Q (.v (.int (i*2 ^ j.toNat)))
 |_,_,_=>False
end _Z
namespace _L
open AutoSeq1
section
variable {r:af}{a b c:Int}{t u v:a0F}
end
end _L
namespace _L
end _L
namespace _Z
open _L
section
variable {a:Expr}{ts:oN}{p2:lj}
def Sm(ts:oN):dE:=λρ Q=>ts ρ λrs=>match rs.map R.d with
 | [.int j]=>(-(2 ^ 62)<=j/\j<2 ^ 62/\j.toNat<=1000000)/\Q (.v (.tup (bE 0 j.toNat)))
 |_=>False
end
end _Z
namespace Tim
open PySem PySem.W PyProof.Rows
structure Weak(lt:Nat->Nat->Bool):Prop where
 irr:∀a,lt a a=am
 tr:∀a b c,lt a b=ak->lt b c=ak->lt a c=ak
 nt:∀a b c,lt a c=ak->lt a b=ak \/ lt b c=ak
noncomputable def Oc(p:Array Nat)(k:Nat):Nat:=p.getD k 0
def Pm(N:Nat)(p:Array Nat):Prop:=p.Perm (Yg (iw N))
variable {a b:Nat}
section
variable {lt:Nat->Nat->Bool}{N:Nat}{p:Array Nat}
theorem Pm.size(h:Pm N p):p.size=N:=by
 have:=Array.Perm.size_eq h;simpa using this
theorem Pm.list(h:Pm N p):p.toList.Perm (iw N):=by
 have:=zi.mp h;simpa using this
theorem z8{k:Nat}(hk:k<p.size):Oc p k=p.toList[k]'(by simpa using hk):=by
 unfold Oc;simp[Ws,hk]
theorem Pm.ltN(h:Pm N p){k:Nat}(hk:k<N):Oc p k<N:=by
 have hs:k<p.size:=by rw[h.size];exact hk
 rw[z8 hs];exact sy.mp (h.list.mem_iff.mp (ft _))
def Th(lt:Nat->Nat->Bool)(a b:Nat):Prop:=lt b a=am/\(lt a b=ak \/ a<b)
theorem Weak.asym(W:Weak lt)(h:lt a b=ak):lt b a=am:=by
 cases e:lt b a with
 |false=>rfl
 |true=>have:=W.tr _ _ _ h e;rw[W.irr] at this;cases this
theorem Th.of(W:Weak lt)(h:lt a b=ak):Th lt a b:=⟨W.asym h,.inl h⟩
def Up(lt:Nat->Nat->Bool)(p:Array Nat)(k:Nat):Prop:=∀u v,u<v->v<k->Th lt (Oc p u) (Oc p v)
end
end Tim
namespace _L
open PySem PySem.Spec PySem.W PyProof.Rows Tim
noncomputable abbrev picked(vs:List ah)(p:Array Nat):List ah:=p.toList.map λi=>vs.getD i fh
structure Cmp(prog:bj)(w:df)(s:aj)(a:af)(vs:List ah)(lt:Nat->Nat->Bool)(κ:re):Prop where
 wk:Weak lt
 kind:∀(A:cb) (h:eh) (Q:re->aj->Prop),(∀b o,b≠a->s.heap.get? b=ae o->h.get? b=ae o)->Q κ { s with heap:=h }->bg (bn prog w) A (a0k vs.toArray) Q (λ_ _=>False) { s with heap:=h }
 less:∀(A:cb) (h:eh) (i j:Nat) (C:Bool->aj->Prop),(∀b o,b≠a->s.heap.get? b=ae o->h.get? b=ae o)->i<vs.length->j<vs.length->i≠j->C (lt i j) { s with heap:=h } ->
  bg (bn prog w) A (keyLt' κ (vs.getD i fh) (vs.getD j fh)) C (λ_ _=>False) { s with heap:=h }
theorem Gq(vs:List ah):picked vs (Yg (iw vs.length))=vs:=by
 apply Wr;intro i;by_cases h:i<vs.length
 ·simp[picked,h]
 ·simp[picked,h]
noncomputable def gP:List Int->List Int->Bool
 | [],[]=>am
 | [],_::_=>ak
 |_::_,[]=>am
 |a::r,b::t=>if a=b then gP r t else decide (a<b)
theorem kX:∀a,gP a a=am
 | []=>rfl
 |a::r=>by rw[gP,a0G rfl];exact kX r
theorem tY:∀a b c,gP a b=ak->gP b c=ak->gP a c=ak
 | [],[],_,h,_=>by cases h
 | [],_::_,[],_,k=>by cases k
 | [],_::_,_::_,_,_=>rfl
 |_::_,[],_,h,_=>by cases h
 |_::_,_::_,[],_,k=>by cases k
 |a::r,b::t,c::u,h,k=>by
  unfold gP at h k ⊢;by_cases e:a=b
  ·rw[a0G e] at h;subst e;by_cases e2:a=c
   ·rw[a0G e2] at k ⊢;exact tY r t u h k
   ·rw[a0h e2] at k ⊢;exact k
  ·rw[a0h e] at h;have h1:=of_decide_eq_true h;by_cases e2:b=c
   ·subst e2;rw[a0h e];exact h
   ·rw[a0h e2] at k;have h2:=of_decide_eq_true k;rw[a0h ⋯];exact decide_eq_true ⋯
theorem pU:∀a b,a≠b->gP a b=ak \/ gP b a=ak
 | [],[],h=>absurd rfl h
 | [],_::_,_=>.inl rfl
 |_::_,[],_=>.inr rfl
 |a::r,b::t,h=>by
  unfold gP;by_cases e:a=b
  ·subst e;rw[a0G rfl,a0G rfl];exact pU r t λz=>h (by rw[z])
  ·rw[a0h e,a0h (Ne.symm e)];rcases Int.lt_or_gt_of_ne e with z | z
   ·exact .inl (decide_eq_true z)
   ·exact .inr (decide_eq_true z)
theorem Hc(f:Nat->List Int):Weak λi j=>gP (f i) (f j):=by
 refine⟨λa=>kX _,λa b c=>tY _ _ _,λa b c h=>?_⟩;by_cases e:f a=f b
 ·exact .inr (by rw[<- e];exact h)
 ·rcases pU _ _ e with z | z
  ·exact .inl z
  ·exact .inr (tY _ _ _ z h)
section
variable {C:Bool->aj->Prop}{fin:Bool}
theorem DD:∀(ns ms:List Int) (us vs ru rv:List ah) (i:Nat),oz us ns->oz vs ms->ns.length=ms.length->ns≠ms->C (gP ns ms) s->KatLex prog w A ak fin C ((us++ru).zip (vs++rv)) i s
 | [],[],_,_,_,_,_,_,_,_,n,_=>absurd rfl n
 | [],_::_,_,_,_,_,_,_,_,l,_,_=>by cases l
 |_::_,[],_,_,_,_,_,_,_,l,_,_=>by cases l
 |a::r,b::t,_,_,ru,rv,i,.cons _ x hu,.cons _ y hv,l,n,q=>by
  unfold gP at q;refine kat_cons (nz (kat_go (λe=>kat_yes ?_) λe=>kat_no ?_))
  ·have e':a=b:=by simpa using e
   rw[a0G e'] at q;exact DD r t _ _ ru rv (i+1) hu hv (by simpa using l) (λz=>n (by rw[e',z])) q
  ·have e':¬a=b:=by simpa using e
   rw[a0h e'] at q;by_cases z:i=0
   ·rw[show (ak&&i==0)=ak by simp[z]];exact oneLt_int q
   ·rw[show (ak&&i==0)=am by simp[z]];exact kat_one _ _ (lt_int q)
end
variable {N:Nat}{p:Array Nat}
abbrev R4:=af×List Int×List V
theorem FU(P:Pm N p)(xs:List α)(hl:xs.length=N)(d:α):(p.toList.map λi=>xs.getD i d).Perm xs:=by
 have e:(iw N).map (λi=>xs.getD i d)=xs:=by
  apply Wr;intro i;by_cases h:i<N
  ·simp[h,hl]
  ·simp[h,hl]
 have:=P.list.map λi=>xs.getD i d;rwa[e] at this
theorem vL{lt:Nat->Nat->Bool}(P:Pm N p)(U:Up lt p N)(xs:List α)(d:α)(Rel:α->α->Prop)(hR:∀i j,i<N->j<N->Th lt i j->Rel (xs.getD i d) (xs.getD j d)):
  (p.toList.map λi=>xs.getD i d).Pairwise Rel:=by
 rw[jb];rw[fk];intro i j hi hj hij;have si:i<p.size:=by simpa using hi
 have sj:j<p.size:=by simpa using hj
 have b:=U i j hij (by rw[<- P.size];exact sj);rw[z8 si,z8 sj] at b;have:=P.ltN (k:=i) (by rw[<- P.size];exact si);have:=P.ltN (k:=j) (by rw[<- P.size];exact sj);rw[z8 si] at *;rw[z8 sj] at *;exact hR _ _ (by assumption) (by assumption) b
theorem C2:gI X (.builtin "sorted") (λxs H Q=>∃(p:af) (ns:List Int),xs=[.ref p]/\g6 X.K H p (ns.map V.int)/\ns.length<64 /\ ∀ms:List Int,ms.Perm ns->ms.Pairwise (· <= ·) -> ∀l,H l=ao->Q (.ref l) (upd H l (.lst (ms.map V.int)))):=by
 intro pj s σ H xs us Q I r h;obtain⟨p,ns,rfl,hl,h64,q⟩:=h;obtain⟨u,rfl,ru⟩:=mK r;cases ru;obtain⟨vs,rv,pl,hz⟩:=I.list hl;have ia:=sH rv;refine sorted_ints pl.isList ia (by rw[ia.length];exact h64) λout ms hi hp hs=>?_;obtain⟨c,at1⟩:=Wt s.heap vs out;have back:∀{us:List ah} {ns:List Int},oz us ns->bM (ns.map V.int) us:=λh=>by
  induction h with
  |nil=>exact .nil
  |cons a t _ ih=>exact .cons ⟨t,rfl⟩ ih
 have ea:out.toList.toArray=out:=by cases out;rfl
 have hle:(ms.map V.int).length<=bo:=by rw[ky,bf,hp.length_eq];ac_rfl
 exact⟨.ref (s.heap.objs.size+1),_,I.laid (t':=s.toks) (λb o e=>Vt e) (vd _) (show cR X.prog X.w _ _ _ (.lst _) from⟨hle,out.toList,c,back hi,by rw[ea];exact at1⟩),rfl,q ms hp hs _ (I.hok.fresh (vd _))⟩
end _L
namespace _L
open PySem.W
noncomputable def gal:Bool->rh->Array rh->Nat->Nat->Nat->StateT jc YJ (Option Nat):=sortPriv% PySem.Builtin.gallop
noncomputable def SF:Array rh->Array rh->StateT jc YJ (Array rh):=sortPriv% PySem.Builtin.mergeLo
noncomputable def SG:Array rh->Array rh->StateT jc YJ (Array rh):=sortPriv% PySem.Builtin.mergeHi
variable {arr:Array rh}{st:jc}{Q:Option Nat->jc->Prop}{N:Nat}{it:Nat->rh}{κ:re}{left:Bool}{M:Vl}
structure Tm(M:Vl)(A:cb)(E:ah->aj->Prop)(s:aj)(N:Nat)(lt:Nat->Nat->Bool)(it:Nat->rh)(κ:re):Prop where
 cmp:∀i j,i<N->j<N->i≠j -> ∀(st:jc) (Q:Option Bool->jc->Prop),ni st=κ->Q (ae (lt i j)) st->Z7 M A E s (lt' (it i) (it j)) Q st
 tot:∀i j,i<N->j<N->i≠j->lt i j = !lt j i
 tr:∀i j k,i<N->j<N->k<N->lt i j=ak->lt j k=ak->lt i k=ak
theorem dW{x:rh}{Q:rh->jc->Prop}(h:arr[i]?=ae x)(q:Q x st):Z7 M A E s (elem' arr i) Q st:=by
 rw[elem'_eq,h];exact bi q
theorem Bc{lt:Nat->Nat->Bool}(T:Tm M A E s N lt it κ){x:Nat}{base a0V:Nat}{f:Nat->Nat}(hk:ni st=κ)(hx:x<N)
  (ha:∀i,i<n->arr[base+i]?=ae (it (f i))) (hf:∀i,i<n->f i<N/\f i≠x) (up:∀i j,i<j->j<n->lt (f i) (f j)=ak) (hh:a0V<n)
  (q:∀k,k<=n->(∀i,i<k->lt (f i) x=ak)->(∀i,k<=i->i<n->lt x (f i)=ak)->Q (ae k) st):Z7 M A E s (gal left (it x) arr base n a0V) Q st:=by
 have b1:∀i (Q:Option Bool->jc->Prop),i<n->Q (ae (lt (f i) x)) st->Z7 M A E s (do
   let y <- elem' arr (base+i)
   if left=ak then lt' y (it x) else do
    let r <- lt' (it x) y
    jh (r.map λb=>!b)) Q st:=λi Q hi q=>by
  obtain⟨h1,h2⟩:=hf i hi;refine az (dW (ha i hi) ?_);cases left with
  |true=>exact T.cmp _ _ h1 hx h2 st Q hk q
  |false=>
   refine az (T.cmp _ _ hx h1 (Ne.symm h2) st _ hk (bi ?_));rw[T.tot _ _ hx h1 (Ne.symm h2)];simpa using q
 have mon:∀i j,i<=j->j<n->lt (f j) x=ak->lt (f i) x=ak:=λi j hij hj z=>by
  by_cases e:i=j
  ·rw[e];exact z
  ·exact T.tr _ _ _ (hf i (by omega)).1 (hf j hj).1 hx (up i j (by omega) hj) z
 show Z7 M A E s (gal left (it x) arr base n a0V) Q st;unfold gal;refine az (b1 a0V _ hh ?_);dsimp only;cases y0:lt (f a0V) x with
 |true=>
  rw[a0G rfl];refine az (lq (gj (I:=λi c st'=>st=st' /\ ∃l o,c=(ao,l,o)/\l<o/\i+1<=o/\a0V+l<n/\lt (f (a0V+l)) x=ak)
   (Q:=λc st'=>st=st' /\ ∃l o,c=(ao,l,o)/\l<o/\a0V+l<n/\lt (f (a0V+l)) x=ak/\(a0V+o<n->lt (f (a0V+o)) x=am)) ?_ ?_ ?_) ?_)
  ·rintro i c st' _ hi ⟨rfl,l,o,rfl,l1,l2,l3,l4⟩;dsimp only;by_cases z:o >= n-a0V
   ·rw[a0G z];exact bi ⟨rfl,l,o,rfl,l1,l3,l4,λh=>by omega⟩
   ·rw[a0h z];refine az (b1 (a0V+o) _ (by omega) ?_);cases y:lt (f (a0V+o)) x with
    |true=>
     dsimp only;rw[a0h ∅];exact bi ⟨rfl,_,_,rfl,by omega,by omega,by omega,y⟩
    |false=>
     dsimp only;rw[a0G ∅];exact bi ⟨rfl,l,o,rfl,l1,l3,l4,λ_=>y⟩
  ·rintro c st' ⟨rfl,l,o,rfl,l1,l2,l3,l4⟩;exact⟨rfl,l,o,rfl,l1,l3,l4,λh=>by omega⟩
  ·exact⟨rfl,0,1,rfl,by omega,by omega,by omega,y0⟩
  rintro c st' ⟨rfl,l,o,rfl,l1,l3,l4,l5⟩;dsimp only;refine az (lq (gj (I:=λi c st'=>st=st' /\ ∃lo hi,c=(ao,lo,hi)/\lo<=hi/\hi<=n/\hi-lo+i<=n/\(∀i,i<lo->lt (f i) x=ak)/\(∀i,hi<=i->i<n->lt (f i) x=am))
   (Q:=λc st'=>st=st' /\ ∃k,c=(ao,k,k)/\k<=n/\(∀i,i<k->lt (f i) x=ak)/\(∀i,k<=i->i<n->lt (f i) x=am)) ?_ ?_ ?_) ?_)
  ·rintro i c st' _ hi ⟨rfl,lo,h,rfl,l1,l2,l3,l4,l5⟩;dsimp only;by_cases z:lo >= h
   ·rw[a0G z];have e:lo=h:=by omega
    subst e;exact bi ⟨rfl,lo,rfl,l2,l4,l5⟩
   ·rw[a0h z];have hm:(h-lo) / 2<h-lo:=by omega
    generalize (h-lo) / 2=d at *;refine az (b1 (lo+d) _ (by omega) ?_);cases y:lt (f (lo+d)) x with
    |true=>
     dsimp only;rw[a0G rfl];exact bi ⟨rfl,_,_,rfl,by omega,by omega,by omega,λj hj=>mon j _ (by omega) (by omega) y,l5⟩
    |false=>
     dsimp only;rw[a0h ∅];refine bi ⟨rfl,_,_,rfl,by omega,by omega,by omega,l4,λj hj hn=>?_⟩;cases y2:lt (f j) x with
     |false=>rfl
     |true=>rw[mon _ j hj hn y2] at y;cases y
  ·rintro c st' ⟨rfl,lo,h,rfl,l1,l2,l3,l4,l5⟩;have e:lo=h:=by omega
   subst e;exact⟨rfl,lo,rfl,l2,l4,l5⟩
  ·exact⟨rfl,_,_,rfl,by omega,by omega,by omega,λj hj=>mon j _ (by omega) l3 l4,λj hj hn=>by
    cases y2:lt (f j) x with
    |false=>rfl
    |true=>have z:=mon (a0V+o) j (by omega) hn y2;rw[l5 (by omega)] at z;cases z⟩
  ·rintro c st' ⟨rfl,k,rfl,l2,l4,l5⟩;exact bi (q k l2 l4 λi hi hn=>by rw[T.tot _ _ hx (hf i hn).1 (Ne.symm (hf i hn).2),l5 i hi hn];rfl)
 |false=>
  rw[a0h ∅];refine az (lq (gj (I:=λi c st'=>st=st' /\ ∃l o,c=(ao,l,o)/\l<o/\i+1<=o/\l<=a0V/\lt (f (a0V-l)) x=am)
   (Q:=λc st'=>st=st' /\ ∃l o,c=(ao,l,o)/\l<o/\l<=a0V/\lt (f (a0V-l)) x=am/\(o<=a0V->lt (f (a0V-o)) x=ak)) ?_ ?_ ?_) ?_)
  ·rintro i c st' _ hi ⟨rfl,l,o,rfl,l1,l2,l3,l4⟩;dsimp only;by_cases z:o >= a0V+1
   ·rw[a0G z];exact bi ⟨rfl,l,o,rfl,l1,l3,l4,λh=>by omega⟩
   ·rw[a0h z];refine az (b1 (a0V-o) _ (by omega) ?_);cases y:lt (f (a0V-o)) x with
    |true=>
     dsimp only;rw[a0G rfl];exact bi ⟨rfl,l,o,rfl,l1,l3,l4,λ_=>y⟩
    |false=>
     dsimp only;rw[a0h ∅];exact bi ⟨rfl,_,_,rfl,by omega,by omega,by omega,y⟩
  ·rintro c st' ⟨rfl,l,o,rfl,l1,l2,l3,l4⟩;exact⟨rfl,l,o,rfl,l1,l3,l4,λh=>by omega⟩
  ·exact⟨rfl,0,1,rfl,by omega,by omega,by omega,y0⟩
  rintro c st' ⟨rfl,l,o,rfl,l1,l3,l4,l5⟩;dsimp only;refine az (lq (gj (I:=λi c st'=>st=st' /\ ∃lo hi,c=(ao,lo,hi)/\lo<=hi/\hi<=n/\hi-lo+i<=n/\(∀i,i<lo->lt (f i) x=ak)/\(∀i,hi<=i->i<n->lt (f i) x=am))
   (Q:=λc st'=>st=st' /\ ∃k,c=(ao,k,k)/\k<=n/\(∀i,i<k->lt (f i) x=ak)/\(∀i,k<=i->i<n->lt (f i) x=am)) ?_ ?_ ?_) ?_)
  ·rintro i c st' _ hi ⟨rfl,lo,h,rfl,l1,l2,l3,l4,l5⟩;dsimp only;by_cases z:lo >= h
   ·rw[a0G z];have e:lo=h:=by omega
    subst e;exact bi ⟨rfl,lo,rfl,l2,l4,l5⟩
   ·rw[a0h z];have hm:(h-lo) / 2<h-lo:=by omega
    generalize (h-lo) / 2=d at *;refine az (b1 (lo+d) _ (by omega) ?_);cases y:lt (f (lo+d)) x with
    |true=>
     dsimp only;rw[a0G rfl];exact bi ⟨rfl,_,_,rfl,by omega,by omega,by omega,λj hj=>mon j _ (by omega) (by omega) y,l5⟩
    |false=>
     dsimp only;rw[a0h ∅];refine bi ⟨rfl,_,_,rfl,by omega,by omega,by omega,l4,λj hj hn=>?_⟩;cases y2:lt (f j) x with
     |false=>rfl
     |true=>rw[mon _ j hj hn y2] at y;cases y
  ·rintro c st' ⟨rfl,lo,h,rfl,l1,l2,l3,l4,l5⟩;have e:lo=h:=by omega
   subst e;exact⟨rfl,lo,rfl,l2,l4,l5⟩
  ·exact⟨rfl,_,_,rfl,by omega,by omega,by omega,λj hj=>mon j (a0V-o) (by omega) (by omega) (l5 (by omega)),λj hj hn=>by
    cases y2:lt (f j) x with
    |false=>rfl
    |true=>have z:=mon (a0V-l) j (by omega) hn y2;rw[l4] at z;cases z⟩
  ·rintro c st' ⟨rfl,k,rfl,l2,l4,l5⟩;exact bi (q k l2 l4 λi hi hn=>by rw[T.tot _ _ hx (hf i hn).1 (Ne.symm (hf i hn).2),l5 i hi hn];rfl)
structure Mg(lt:Nat->Nat->Bool)(la lb lo:List Nat)(ia ib:Nat):Prop where
 pm:(lo++(la.drop ia++lb.drop ib)).Perm (la++lb)
 up:lo.Pairwise λx y=>lt x y=ak
 lo:∀o∈lo,∀r∈la.drop ia++lb.drop ib,lt o r=ak
structure Two(N:Nat)(lt:Nat->Nat->Bool)(la lb:List Nat):Prop where
 ua:la.Pairwise λx y=>lt x y=ak
 ub:lb.Pairwise λx y=>lt x y=ak
 nd:(la++lb).Nodup
 bd:∀x∈la++lb,x<N
variable {la lb:List Nat}{ia ib:Nat}
section
variable {lt:Nat->Nat->Bool}{lo:List Nat}
theorem Two.symm(T:Two N lt la lb):Two N lt lb la:=⟨T.ub,T.ua,(rj.nodup_iff).mp T.nd,λx hx=>T.bd x (rj.mem_iff.mp hx)⟩
theorem Mg.symm(m:Mg lt la lb lo ia ib):Mg lt lb la lo ib ia:=
 ⟨((rj (l₁:=lb.drop ib) (l₂:=la.drop ia)).append_left lo).trans (m.pm.trans rj),m.up,λo ho r hr=>m.lo o ho r (rj.mem_iff.mp hr)⟩
theorem Mg.takeA(T:Two N lt la lb)(m:Mg lt la lb lo ia ib)(k:Nat)(h:∀x∈(la.drop ia).take k,∀r∈lb.drop ib,lt x r=ak):Mg lt la lb (lo++(la.drop ia).take k) (ia+k) ib:=by
 have e:(la.drop ia).take k++la.drop (ia+k)=la.drop ia:=by rw[<- ZS,uu]
 have ud:(la.drop ia).Pairwise λx y=>lt x y=ak:=T.ua.sublist (yj _ _);rw[<- e] at ud;have ud2:=lf.mp ud;refine⟨?_,lf.mpr ⟨m.up,ud2.1,λo ho x hx=>m.lo o ho x ?_⟩,λo ho r hr=>?_⟩
 ·have:=m.pm;rw[<- e] at this;simpa [eo] using this
 ·exact ng _ (WS hx)
 ·rcases cr.mp ho with ho | ho
  ·refine m.lo o ho r ?_;rcases cr.mp hr with hr | hr
   ·exact ng _ (by rw[<- e];exact gh _ hr)
   ·exact gh _ hr
  ·rcases cr.mp hr with hr | hr
   ·exact ud2.2.2 o ho r hr
   ·exact h o ho r hr
theorem Mg.takeB(T:Two N lt la lb)(m:Mg lt la lb lo ia ib)(k:Nat)(h:∀x∈(lb.drop ib).take k,∀r∈la.drop ia,lt x r=ak):Mg lt la lb (lo++(lb.drop ib).take k) ia (ib+k):=
 (m.symm.takeA T.symm k h).symm
def CB(lt:Nat->Nat->Bool)(la lb l:List Nat):Prop:=l.Perm (la++lb)/\l.Pairwise λx y=>lt x y=ak
theorem Mg.endA(T:Two N lt la lb)(m:Mg lt la lb lo ia ib)(h:∀x∈la.drop ia,∀r∈lb.drop ib,lt x r=ak):CB lt la lb (lo++la.drop ia++lb.drop ib):=by
 refine⟨by rw[eo];exact m.pm,?_⟩;rw[eo];refine lf.mpr ⟨m.up,lf.mpr ⟨T.ua.sublist (yj _ _),T.ub.sublist (yj _ _),h⟩,m.lo⟩
theorem Mg.endB(T:Two N lt la lb)(m:Mg lt la lb lo ia ib)(h:∀x∈lb.drop ib,∀r∈la.drop ia,lt x r=ak):CB lt la lb (lo++lb.drop ib++la.drop ia):=by
 have:=m.symm.endA T.symm h;exact⟨this.1.trans rj,this.2⟩
theorem uA(h:i<l.length):l.drop i=l.getD i 0::l.drop (i+1):=by
 rw[fj h];simp[gz,h]
theorem Two.headA(T:Two N lt la lb)(tr:∀i j k,i<N->j<N->k<N->lt i j=ak->lt j k=ak->lt i k=ak){x:Nat}(hx:x<N)(hi:ia<la.length)(h:lt x (la.getD ia 0)=ak):∀r∈la.drop ia,lt x r=ak:=λr hr=>by
 rw[uA hi] at hr;rcases bv.mp hr with e | hr
 ·rw[e];exact h
 ·have ud:(la.drop ia).Pairwise λx y=>lt x y=ak:=T.ua.sublist (yj _ _);rw[uA hi] at ud;have b1:la.getD ia 0<N:=T.bd _ (ng _ (by rw[fu,dt hi];exact ft hi));have b2:r<N:=T.bd r (ng _ (WT hr));exact tr _ _ _ hx b1 b2 h ((ip.mp ud).1 r hr)
end
variable {j:Nat}{G:Prop}{σ:Type}
section
variable {lt:Nat->Nat->Bool}
structure SEq(st st':jc):Prop where
 k:ni st'=ni st
 a:wo st'=wo st
 p:bw st'=bw st
 f:xq st'=xq st
theorem SEq.refl(st:jc):SEq st st:=⟨rfl,rfl,rfl,rfl⟩
noncomputable abbrev eA(it:Nat->rh)(l:List Nat):Array rh:=(l.map it).toArray
theorem cL(h:i<l.length):(eA it l)[i]?=ae (it (l.getD i 0)):=by
 simp[gz,h]
theorem aX{x:Nat}:(eA it l).push (it x)=eA it (l++[x]):=by simp[eA]
theorem aZ{m:List Nat}:eA it l++eA it m=eA it (l++m):=by simp[eA]
theorem qE:(eA it l).size=l.length:=by simp[eA]
theorem aY:(eA it l).extract i j=eA it ((l.drop i).take (j-i)):=by
 simp[eA,ZF,ZG]
theorem cQ:(eA it l).extract i l.length=eA it (l.drop i):=by
 rw[aY,sr (by simp)]
theorem Two.neAB(W:Two N lt la lb)(hi:i<la.length)(hj:j<lb.length):la.getD i 0≠lb.getD j 0:=by
 have e1:la.getD i 0=la[i]:=by simp[gz,hi]
 have e2:lb.getD j 0=lb[j]:=by simp[gz,hj]
 rw[e1,e2];exact(yk.mp W.nd).2.2 _ (ft hi) _ (ft hj)
theorem Two.ltA(W:Two N lt la lb)(hi:i<la.length):la.getD i 0<N:=W.bd _ (ng _ (by rw[fu,dt hi];exact ft hi))
theorem Two.upA(W:Two N lt la lb)(hij:i<j)(hj:j<la.length):lt (la.getD i 0) (la.getD j 0)=ak:=by
 have e1:la.getD i 0=la[i]'⋯:=by simp[gz,show i<la.length by ac_rfl]
 have e2:la.getD j 0=la[j]:=by simp[gz,hj]
 rw[e1,e2];exact fk.mp W.ua i j ⋯ hj hij
variable {lo:List Nat}
structure Trn(N:Nat)(lt:Nat->Nat->Bool):Prop where
 tr:∀i j k,i<N->j<N->k<N->lt i j=ak->lt j k=ak->lt i k=ak
theorem _root_._L.Tm.trn(T:Tm M A E s N lt it κ):Trn N lt:=⟨T.tr⟩
theorem Mg.stepB(T:Trn N lt)(W:Two N lt la lb)(m:Mg lt la lb lo ia ib)(hi:ia<la.length)(hj:ib<lb.length)(h:lt (lb.getD ib 0) (la.getD ia 0)=ak):Mg lt la lb (lo++[lb.getD ib 0]) ia (ib+1):=by
 have e:(lb.drop ib).take 1=[lb.getD ib 0]:=by rw[uA hj];rfl
 have:=m.takeB W 1 (by
  rw[e];intro x hx;rw[cq.mp hx];exact W.headA T.tr (W.symm.ltA hj) hi h)
 rwa[e] at this
theorem Mg.stepA(T:Trn N lt)(W:Two N lt la lb)(m:Mg lt la lb lo ia ib)(hi:ia<la.length)(hj:ib<lb.length)(h:lt (la.getD ia 0) (lb.getD ib 0)=ak):Mg lt la lb (lo++[la.getD ia 0]) (ia+1) ib:=(m.symm.stepB T W.symm hj hi h).symm
theorem Mg.galA(T:Trn N lt)(W:Two N lt la lb)(m:Mg lt la lb lo ia ib){k:Nat}(hj:ib<lb.length)(hk:k<=la.length-ia)(h:∀i,i<k->lt (la.getD (ia+i) 0) (lb.getD ib 0)=ak):Mg lt la lb (lo++(la.drop ia).take k) (ia+k) ib:=
 m.takeA W k λx hx r hr=>by
  obtain⟨i,hi,e⟩:=xz.mp hx;simp at hi;have e2:x=la.getD (ia+i) 0:=by
   rw[<- e];simp[gz,show ia+i<la.length by ac_rfl]
  subst e2;exact W.symm.headA T.tr (W.ltA ⋯) hj (h i ⋯) r hr
theorem Mg.galB(T:Trn N lt)(W:Two N lt la lb)(m:Mg lt la lb lo ia ib){k:Nat}(hi:ia<la.length)(hk:k<=lb.length-ib)(h:∀i,i<k->lt (lb.getD (ib+i) 0) (la.getD ia 0)=ak):Mg lt la lb (lo++(lb.drop ib).take k) ia (ib+k):=
 (m.symm.galA T W.symm hi hk h).symm
theorem Mg.doneA(W:Two N lt la lb)(m:Mg lt la lb lo ia ib)(h:ia=la.length \/ ib=lb.length):CB lt la lb (lo++la.drop ia++lb.drop ib):=m.endA W λx hx r hr=>by
 rcases h with h | h
 ·rw[h,Vr] at hx;cases hx
 ·rw[h,Vr] at hr;cases hr
theorem Mg.lastA(W:Two N lt la lb)(m:Mg lt la lb lo ia ib)(hz:∀r∈lb,lt r (la.getD (la.length-1) 0)=ak)(h:ia+1=la.length):CB lt la lb (lo++lb.drop ib++la.drop ia):=m.endB W λx hx r hr=>by
 rw[uA ⋯,h,Vr] at hr;rw[cq.mp hr,show ia=la.length-1 by ac_rfl];exact hz x (WT hx)
theorem LK(T:Tm M A E s N lt it κ)(W:Two N lt la lb)(hk:ni st=κ)(hi:ia<la.length)(hj:ib<lb.length)
  (q:∀k,k<=la.length-ia->(∀i,i<k->lt (la.getD (ia+i) 0) (lb.getD ib 0)=ak)->(∀i,k<=i->i<la.length-ia->lt (lb.getD ib 0) (la.getD (ia+i) 0)=ak)->Q (ae k) st):
  Z7 M A E s (gal left (it (lb.getD ib 0)) (eA it la) ia (la.length-ia) 0) Q st:=
 Bc T (f:=λi=>la.getD (ia+i) 0) hk (W.symm.ltA hj) (λi h=>cL ⋯) (λi h=>⟨W.ltA ⋯,W.neAB ⋯ hj⟩) (λi j h h2=>W.upA ⋯ ⋯) ⋯ q
theorem Im{c1 c2:Prop}[Decidable c1][Decidable c2]{p1 p2:Array rh}{k:jc->StateT jc YJ (Array rh)}{Q:Array rh->jc->Prop}(h1:c1->Q p1 st)(h2:¬c1->c2->Q p2 st)(h3:¬c1 -> ¬c2->Z7 M A E s (k st) Q st):
  Z7 M A E s (if c1 then jh p1 else if c2 then jh p2 else bind get k) Q st:=by
 by_cases z1:c1
 ·rw[a0G z1];exact bi (h1 z1)
 ·rw[a0h z1];by_cases z2:c2
  ·rw[a0G z2];exact bi (h2 z1 z2)
  ·rw[a0h z2];exact az (wd (h3 z1 z2))
theorem OF{P:Nat->Prop}(main:(∀g,P g)->G)(key:∀g,P g):G:=main key
theorem G9{P F:List Nat->Nat->Prop}(main:(∀lo ia,F lo ia->P lo ia)->G)(key:∀lo ia,F lo ia->P lo ia):G:=main key
theorem gR{c:Prop}[hc:Decidable c]{a b:StateT σ YJ α}{Q:α->σ->Prop}{st:σ}(h:c)(H:Z7 M A E s a Q st):Z7 M A E s (if c then a else b) Q st:=by rw[a0G h];exact H
theorem gS{c:Prop}[hc:Decidable c]{a b:StateT σ YJ α}{Q:α->σ->Prop}{st:σ}(h:¬c)(H:Z7 M A E s b Q st):Z7 M A E s (if c then a else b) Q st:=by rw[a0h h];exact H
theorem NB(T:Tm M A E s N lt it κ)(W:Two N lt la lb){Q:Array rh->jc->Prop}(hk:ni st=κ)(ha:0<la.length)(hb:0<lb.length)(h0:lt (lb.getD 0 0) (la.getD 0 0)=ak)(hz:∀r∈lb,lt r (la.getD (la.length-1) 0)=ak)
  (q:∀l st',CB lt la lb l->SEq st st'->Q (eA it l) st'):Z7 M A E s (SF (eA it la) (eA it lb)) Q st:=by
 have m0:Mg lt la lb [] 0 0:=⟨by simp,.nil,λo ho=>by cases ho⟩;have m1:=m0.stepB T.trn W ha hb h0;have sa:(eA it la).size=la.length:=qE;have sb:(eA it lb).size=lb.length:=qE;unfold SF;refine az (W8 (ir ⟨rfl,?_⟩));refine az (dW (cL hb) ?_);refine Im (λc1=>?_) (λc1 c2=>?_) λc1 c2=>?_
 ·simp only[sa,sb,cQ,beq_iff_eq] at c1 ⊢;rw[show #[it (lb.getD 0 0)]=eA it ([]++[lb.getD 0 0]) from rfl];simp only[aZ];exact q _ _ (by have:=m1.doneA W (.inr c1);simpa using this) (.refl st)
 ·simp only[sa,sb,cQ,beq_iff_eq] at c2 ⊢;rw[show #[it (lb.getD 0 0)]=eA it ([]++[lb.getD 0 0]) from rfl];simp only[aZ];exact q _ _ (by have:=m1.lastA W hz c2;simpa using this) (.refl st)
 simp only[sa,sb,beq_iff_eq] at c1 c2;refine az (lq (gj
  (I:=λx c st'=>SEq st st' /\ ∃X lo ia ib g,c=(ao,X,ia,ib,g)/\X=eA it lo/\Mg lt la lb lo ia ib/\ia+1<la.length/\ib<lb.length/\x+1<=ia+ib)
  (Q:=λc st'=>SEq st st' /\ ∃X l c',c=(ae X,c')/\X=eA it l/\CB lt la lb l) ?step ?fin ?init) ?post)
 case fin=>
  rintro c st' ⟨_,_,lo,ia,ib,g,rfl,rfl,m,h1,h2,h3⟩;ac_rfl
 case init=>exact⟨.refl st,_,_,_,_,_,rfl,by first | rfl | ((try simp only[cQ]);simp only[aX,aZ,aY,cn]),m1,⋯,⋯,⋯⟩
 case post=>
  rintro c st' ⟨e,_,l,c',rfl,rfl,d⟩;exact bi (q l st' d e)
 case step=>
  rintro x c st' _ hx ⟨e,_,lo,ia,ib,g,rfl,rfl,m,h1,h2,h3⟩;dsimp only;generalize (eA it la).size=na at sa hx ⊢;generalize (eA it lb).size=nb at sb hx ⊢;subst sa sb;refine az (lq (gj
   (I:=λy c st'=>SEq st st' /\ ∃X lo ia' ib' ac bc,c=(ao,X,ia',ib',ac,bc)/\X=eA it lo/\Mg lt la lb lo ia' ib'/\ia'+1<la.length/\ib'<lb.length/\ia+ib+y<=ia'+ib')
   (Q:=λc st'=>SEq st st'/\((∃X l c',c=(ae X,c')/\X=eA it l/\CB lt la lb l) \/ ∃X lo ia' ib' ac bc,c=(ao,X,ia',ib',ac,bc)/\X=eA it lo/\Mg lt la lb lo ia' ib'/\ia'+1<la.length/\ib'<lb.length/\ia+ib+1<=ia'+ib')) ?s1 ?f1 ?i1) ?p1)
  case i1=>exact⟨e,_,_,_,_,_,_,rfl,by first | rfl | ((try simp only[cQ]);simp only[aX,aZ,aY,cn]),m,h1,h2,cg _⟩
  case f1=>
   rintro c st2 ⟨e2,_,lo2,ia2,ib2,ac,bc,rfl,rfl,m2,a1,a2,a3⟩;exact⟨e2,.inr ⟨_,_,_,_,_,_,rfl,by first | rfl | ((try simp only[cQ]);simp only[aX,aZ,aY,cn]),m2,a1,a2,⋯⟩⟩
  case s1=>
   rintro y c st2 _ hy ⟨e2,_,lo2,ia2,ib2,ac,bc,rfl,rfl,m2,a1,a2,a3⟩;dsimp only;refine az (dW (cL a2) (az (dW (cL ⋯) (az (T.cmp _ _ (W.symm.ltA a2) (W.ltA ⋯) (Ne.symm (W.neAB ⋯ a2)) _ _ (e2.k.trans hk) ?_)))));cases y0:lt (lb.getD ib2 0) (la.getD ia2 0) with
   |true=>
    dsimp only;refine gR rfl ?_;refine az (dW (cL a2) ?_);have m3:=m2.stepB T.trn W ⋯ a2 y0;by_cases z:ib2+1=lb.length
    ·refine gR (beq_iff_eq.mpr z) ?_;exact bi ⟨e2,.inl ⟨_,_,_,rfl,by first | rfl | ((try simp only[cQ]);simp only[aX,aZ,aY,cn]),m3.doneA W (.inr z)⟩⟩
    ·refine gS (λh=>z (beq_iff_eq.mp h)) ?_;split
     ·exact bi ⟨e2,.inr ⟨_,_,_,_,_,_,rfl,by first | rfl | ((try simp only[cQ]);simp only[aX,aZ,aY,cn]),m3,a1,⋯,⋯⟩⟩
     ·exact bi ⟨e2,_,_,_,_,_,_,rfl,by first | rfl | ((try simp only[cQ]);simp only[aX,aZ,aY,cn]),m3,a1,⋯,⋯⟩
   |false=>
    dsimp only;refine gS ∅ ?_;refine az (dW (cL ⋯) ?_);have y1:lt (la.getD ia2 0) (lb.getD ib2 0)=ak:=by rw[T.tot _ _ (W.ltA ⋯) (W.symm.ltA a2) (W.neAB ⋯ a2),y0];rfl
    have m3:=m2.stepA T.trn W ⋯ a2 y1;by_cases z:ia2+1+1=la.length
    ·refine gR (beq_iff_eq.mpr z) ?_;exact bi ⟨e2,.inl ⟨_,_,_,rfl,by first | rfl | ((try simp only[cQ]);simp only[aX,aZ,aY,cn]),m3.lastA W hz z⟩⟩
    ·refine gS (λh=>z (beq_iff_eq.mp h)) ?_;split
     ·exact bi ⟨e2,.inr ⟨_,_,_,_,_,_,rfl,by first | rfl | ((try simp only[cQ]);simp only[aX,aZ,aY,cn]),m3,⋯,a2,⋯⟩⟩
     ·exact bi ⟨e2,_,_,_,_,_,_,rfl,by first | rfl | ((try simp only[cQ]);simp only[aX,aZ,aY,cn]),m3,⋯,a2,⋯⟩
  case p1=>
   rintro c st2 ⟨e2,⟨_,l,c',rfl,rfl,d⟩ | ⟨_,lo2,ia2,ib2,ac,bc,rfl,rfl,m2,a1,a2,a3⟩⟩
   ·exact bi ⟨e2,_,l,_,rfl,rfl,d⟩
   dsimp only;refine az (W8 (ir ⟨rfl,?_⟩));refine az (lq (gj
    (I:=λy c st'=>SEq st st' /\ ∃X lo ia' ib' g' ac bc,c=(ao,X,ia',ib',g',ac,bc)/\X=eA it lo/\Mg lt la lb lo ia' ib'/\ia'+1<la.length/\ib'<lb.length/\ia2+ib2+y<=ia'+ib')
    (Q:=λc st'=>SEq st st'/\((∃X l c',c=(ae X,c')/\X=eA it l/\CB lt la lb l) \/ ∃X lo ia' ib' g' ac bc,c=(ao,X,ia',ib',g',ac,bc)/\X=eA it lo/\Mg lt la lb lo ia' ib'/\ia'+1<la.length/\ib'<lb.length/\ia2+ib2<=ia'+ib')) ?s2 ?f2 ?i2) ?p2)
   case i2=>exact⟨e2,_,_,_,_,_,_,_,rfl,by first | rfl | ((try simp only[cQ]);simp only[aX,aZ,aY,cn]),m2,a1,a2,cg _⟩
   case f2=>
    rintro c st3 ⟨e3,_,lo3,ia3,ib3,g3,ac3,bc3,rfl,rfl,m3,b1,b2,b3⟩;exact⟨e3,.inr ⟨_,_,_,_,_,_,_,rfl,by first | rfl | ((try simp only[cQ]);simp only[aX,aZ,aY,cn]),m3,b1,b2,⋯⟩⟩
   case p2=>
    rintro c st3 ⟨e3,⟨_,l,c',rfl,rfl,d⟩ | ⟨_,lo3,ia3,ib3,g3,ac3,bc3,rfl,rfl,m3,b1,b2,b3⟩⟩
    ·exact bi ⟨e3,_,l,_,rfl,rfl,d⟩
    dsimp only;refine az (lu ?_);exact bi ⟨⟨e3.k,e3.a,e3.p,e3.f⟩,_,_,_,_,_,rfl,by first | rfl | ((try simp only[cQ]);simp only[aX,aZ,aY,cn]),m3,b1,b2,⋯⟩
   case s2=>
    rintro y c st3 _ hy ⟨e3,_,lo3,ia3,ib3,g3,ac3,bc3,rfl,rfl,m3,b1,b2,b3⟩;dsimp only;refine' OF (λkey=>?mn1) ?ky1
    case mn1=>
     by_cases hg:g3 > 1
     ·refine gR hg ?_;generalize g3-1=g;exact key g
     ·refine gS hg ?_;exact key g3
    case ky1=>
     intro g;refine az (lu ?_);refine az (dW (cL b2) ?_);refine az (LK (left:=am) (ia:=ia3) (ib:=ib3) T W (e3.k.trans hk) ⋯ b2 λk k1 k2 k3=>?_);dsimp only;refine' G9 (F:=λlo ia=>Mg lt la lb lo ia ib3/\ia+1<la.length/\ia3<=ia/\lt (lb.getD ib3 0) (la.getD ia 0)=ak) (λkey=>?mn2) ?ky2
     case mn2=>
      by_cases kz:k > 0
      ·refine gR kz ?_;have m4:=m3.galA T.trn W b2 k1 k2;by_cases z1:ia3+k+1=la.length
       ·refine gR (beq_iff_eq.mpr z1) ?_;exact bi ⟨⟨e3.k,e3.a,e3.p,e3.f⟩,.inl ⟨_,_,_,rfl,by first | rfl | ((try simp only[cQ]);simp only[aX,aZ,aY,cn]),m4.lastA W hz z1⟩⟩
       refine gS (λh=>z1 (beq_iff_eq.mp h)) ?_;by_cases z2:ia3+k=la.length
       ·refine gR (beq_iff_eq.mpr z2) ?_;exact bi ⟨⟨e3.k,e3.a,e3.p,e3.f⟩,.inl ⟨_,_,_,rfl,by first | rfl | ((try simp only[cQ]);simp only[aX,aZ,aY,cn]),m4.doneA W (.inl z2)⟩⟩
       refine gS (λh=>z2 (beq_iff_eq.mp h)) ?_;have hl:=k3 k (cg _) ⋯;have c1:ia3+k+1<la.length:=⋯;have c2:ia3<=ia3+k:=⋯;rw[show eA it lo3++(eA it la).extract ia3 (ia3+k)=eA it (lo3++(la.drop ia3).take k) by rw[aY,aZ,cn]];generalize lo3++(la.drop ia3).take k=lo at m4 ⊢;generalize ia3+k=ia at m4 hl c1 c2 ⊢;exact key lo ia ⟨m4,c1,c2,hl⟩
      ·refine gS kz ?_;have hl:=k3 0 ⋯ ⋯;rw[Zr] at hl;exact key lo3 ia3 ⟨m3,b1,cg _,hl⟩
     case ky2=>
      rintro lo ia ⟨m4,c1,c2,hl⟩;refine az (dW (cL b2) ?_);have m5:=m4.stepB T.trn W ⋯ b2 hl;by_cases z1:ib3+1=lb.length
      ·refine gR (beq_iff_eq.mpr z1) ?_;exact bi ⟨⟨e3.k,e3.a,e3.p,e3.f⟩,.inl ⟨_,_,_,rfl,by first | rfl | ((try simp only[cQ]);simp only[aX,aZ,aY,cn]),m5.doneA W (.inr z1)⟩⟩
      refine gS (λh=>z1 (beq_iff_eq.mp h)) ?_;refine az (dW (cL ⋯) ?_);refine az (LK (left:=ak) (ia:=ib3+1) (ib:=ia) T W.symm (e3.k.trans hk) ⋯ ⋯ λj j1 j2 j3=>?_);dsimp only;rw[aX];generalize lo++[lb.getD ib3 0]=lo' at m5 ⊢;refine' G9 (F:=λlo ib=>Mg lt la lb lo ia ib/\ib<lb.length/\ib3+1<=ib/\lt (la.getD ia 0) (lb.getD ib 0)=ak) (λkey=>?mn3) ?ky3
      case mn3=>
       by_cases jz:j > 0
       ·refine gR jz ?_;have m6:=m5.galB T.trn W ⋯ j1 j2;by_cases z4:ib3+1+j=lb.length
        ·refine gR (beq_iff_eq.mpr z4) ?_;exact bi ⟨⟨e3.k,e3.a,e3.p,e3.f⟩,.inl ⟨_,_,_,rfl,by first | rfl | ((try simp only[cQ]);simp only[aX,aZ,aY,cn]),m6.doneA W (.inr z4)⟩⟩
        refine gS (λh=>z4 (beq_iff_eq.mp h)) ?_;have hl2:=j3 j (cg _) ⋯;have d1:ib3+1+j<lb.length:=⋯;have d2:ib3+1<=ib3+1+j:=⋯;rw[show eA it lo'++(eA it lb).extract (ib3+1) (ib3+1+j)=eA it (lo'++(lb.drop (ib3+1)).take j) by rw[aY,aZ,cn]];generalize lo'++(lb.drop (ib3+1)).take j=lo at m6 ⊢;generalize ib3+1+j=ib at m6 hl2 d1 d2 ⊢;exact key lo ib ⟨m6,d1,d2,hl2⟩
       ·refine gS jz ?_;have hl2:=j3 0 ⋯ ⋯;rw[Zr] at hl2;exact key lo' (ib3+1) ⟨m5,⋯,cg _,hl2⟩
      case ky3=>
       rintro lo ib ⟨m6,d1,d2,hl2⟩;have m7:=m6.stepA T.trn W ⋯ d1 hl2;refine az (dW (cL ⋯) ?_);by_cases z3:ia+1+1=la.length
       ·refine gR (beq_iff_eq.mpr z3) ?_;exact bi ⟨⟨e3.k,e3.a,e3.p,e3.f⟩,.inl ⟨_,_,_,rfl,by first | rfl | ((try simp only[cQ]);simp only[aX,aZ,aY,cn]),m7.lastA W hz z3⟩⟩
       refine gS (λh=>z3 (beq_iff_eq.mp h)) ?_;by_cases z5:(decide (k<7)&&decide (j<7))=ak
       ·refine gR z5 ?_;exact bi ⟨⟨e3.k,e3.a,e3.p,e3.f⟩,.inr ⟨_,_,_,_,_,_,_,rfl,by first | rfl | ((try simp only[cQ]);simp only[aX,aZ,aY,cn]),m7,⋯,d1,⋯⟩⟩
       ·refine gS z5 ?_;exact bi ⟨⟨e3.k,e3.a,e3.p,e3.f⟩,_,_,_,_,_,_,_,rfl,by first | rfl | ((try simp only[cQ]);simp only[aX,aZ,aY,cn]),m7,⋯,d1,⋯⟩
end
noncomputable abbrev fl(lt:Nat->Nat->Bool):Nat->Nat->Bool:=λx y=>lt y x
variable {na:Nat}
section
variable {lt:Nat->Nat->Bool}{lo:List Nat}{nb:Nat}
theorem Trn.fl(T:Trn N lt):Trn N (fl lt):=⟨λi j k a b c h1 h2=>T.tr k j i c b a h2 h1⟩
theorem Two.fl(W:Two N lt la lb):Two N (fl lt) la.reverse lb.reverse where
 ua:=wq.mpr W.ua
 ub:=wq.mpr W.ub
 nd:=by
  have:=W.nd;refine(List.Perm.nodup_iff ?_).mp this;exact(qh la).symm.append (qh lb).symm
 bd:=λx hx=>W.bd x (by simpa using hx)
structure Hg(lt:Nat->Nat->Bool)(la lb lo:List Nat)(na nb:Nat):Prop where
 m:Mg (fl lt) la.reverse lb.reverse lo (la.length-na) (lb.length-nb)
 a:na<=la.length
 b:nb<=lb.length
theorem t8(h0:0<n)(h:n<=l.length):l.reverse.getD (l.length-n) 0=l.getD (n-1) 0:=by
 simp only[fu];rw[List.getElem?_reverse ⋯];congr 2;ac_rfl
theorem pF(h:n<=l.length):l.reverse.drop (l.length-n)=(l.take n).reverse:=by
 rw[List.drop_reverse];congr 2;ac_rfl
theorem ML{t:Nat}(h1:t<=n)(h:n<=l.length):(l.reverse.drop (l.length-n)).take (n-t)=((l.drop t).take (n-t)).reverse:=by
 rw[pF h,List.take_reverse,lc,xp h];congr 1;rw[show n-(n-t)=t by ac_rfl,List.drop_take]
theorem Hg.symm(h:Hg lt la lb lo na nb):Hg lt lb la lo nb na:=⟨h.m.symm,h.b,h.a⟩
theorem Hg.stepA(T:Trn N lt)(W:Two N lt la lb)(h:Hg lt la lb lo na nb)(h1:0<na)(h2:0<nb)(z:lt (lb.getD (nb-1) 0) (la.getD (na-1) 0)=ak):Hg lt la lb (lo++[la.getD (na-1) 0]) (na-1) nb:=by
 have a:=h.a;have b:=h.b;have:=h.m.stepA T.fl W.fl ⋯ ⋯ (by rw[t8 h1 h.a,t8 h2 h.b];exact z);rw[t8 h1 h.a,show la.length-na+1=la.length-(na-1) by ac_rfl] at this;exact⟨this,⋯,h.b⟩
theorem Hg.stepB(T:Trn N lt)(W:Two N lt la lb)(h:Hg lt la lb lo na nb)(h1:0<na)(h2:0<nb)(z:lt (la.getD (na-1) 0) (lb.getD (nb-1) 0)=ak):Hg lt la lb (lo++[lb.getD (nb-1) 0]) na (nb-1):=(h.symm.stepA T W.symm h2 h1 z).symm
theorem Hg.galA(T:Trn N lt)(W:Two N lt la lb)(h:Hg lt la lb lo na nb){t:Nat}(h2:0<nb)(ht:t<=na)(z:∀i,t<=i->i<na->lt (lb.getD (nb-1) 0) (la.getD i 0)=ak):Hg lt la lb (lo++((la.drop t).take (na-t)).reverse) t nb:=by
 have a:=h.a;have b:=h.b;have:=h.m.galA T.fl W.fl (k:=na-t) ⋯ ⋯ (λi hi=>by
  rw[t8 h2 h.b,show la.length-na+i=la.length-(na-i) by ac_rfl,t8 ⋯ ⋯];exact z (na-i-1) ⋯ ⋯)
 rw[ML ht h.a,show la.length-na+(na-t)=la.length-t by ac_rfl] at this;exact⟨this,⋯,h.b⟩
theorem Hg.galB(T:Trn N lt)(W:Two N lt la lb)(h:Hg lt la lb lo na nb){t:Nat}(h1:0<na)(ht:t<=nb)(z:∀i,t<=i->i<nb->lt (la.getD (na-1) 0) (lb.getD i 0)=ak):Hg lt la lb (lo++((lb.drop t).take (nb-t)).reverse) na t:=(h.symm.galA T W.symm h1 ht z).symm
theorem CB.rev(d:CB (fl lt) la.reverse lb.reverse l):CB lt la lb l.reverse:=
 ⟨(qh l).trans (d.1.trans ((qh la).append (qh lb))),wq.mpr d.2⟩
theorem Hg.first(W:Two N lt la lb)(h:Hg lt la lb lo na nb)(z:∀x∈la.take na,∀r∈lb.take nb,lt r x=ak):CB lt la lb (lb.take nb++la.take na++lo.reverse):=by
 have:=(h.m.endA W.fl (by rw[pF h.a,pF h.b];intro x hx r hr;exact z x (by simpa using hx) r (by simpa using hr))).rev;rw[pF h.a,pF h.b] at this;simpa using this
theorem Hg.done(W:Two N lt la lb)(h:Hg lt la lb lo na nb)(z:na=0 \/ nb=0):CB lt la lb (la.take na++lb.take nb++lo.reverse):=by
 have:=h.first W (λx hx r hr=>by rcases z with z | z<;>subst z<;>first | (simp at hx;done) | (simp at hr;done));rcases z with z | z
 ·subst z;simpa using this
 ·subst z;simpa using this
theorem d5:(eA it l).reverse=eA it l.reverse:=by simp[eA]
theorem cU:(eA it l).extract 0 n=eA it (l.take n):=by rw[aY];simp
theorem LL(T:Tm M A E s N lt it κ)(W:Two N lt la lb)(hk:ni st=κ)(h1:0<na)(ha:na<=la.length)(h2:0<nb)(hb:nb<=lb.length)
  (q:∀t,t<=na->(∀i,i<t->lt (la.getD i 0) (lb.getD (nb-1) 0)=ak)->(∀i,t<=i->i<na->lt (lb.getD (nb-1) 0) (la.getD i 0)=ak)->Q (ae t) st):
  Z7 M A E s (gal left (it (lb.getD (nb-1) 0)) (eA it la) 0 na (na-1)) Q st:=
 Bc T (f:=λi=>la.getD i 0) hk (W.symm.ltA ⋯) (λi h=>by rw[zj];exact cL ⋯) (λi h=>⟨W.ltA ⋯,W.neAB ⋯ ⋯⟩) (λi j h h2=>W.upA h ⋯) ⋯ q
theorem NC(T:Tm M A E s N lt it κ)(W:Two N lt la lb){Q:Array rh->jc->Prop}(hk:ni st=κ)(ha:0<la.length)(hb:0<lb.length)(h0:∀x∈la,lt (lb.getD 0 0) x=ak)(hz:lt (lb.getD (lb.length-1) 0) (la.getD (la.length-1) 0)=ak)
  (q:∀l st',CB lt la lb l->SEq st st'->Q (eA it l) st'):Z7 M A E s (SG (eA it la) (eA it lb)) Q st:=by
 have m0:Hg lt la lb [] la.length lb.length:=⟨⟨by simpa using(qh la).append (qh lb) |>.trans (List.Perm.refl _) |>.symm.symm.trans ((qh la).append (qh lb)).symm,.nil,λo ho=>by cases ho⟩,cg _,cg _⟩;have m1:=m0.stepA T.trn W ha hb hz;have fst:∀{lo na nb},Hg lt la lb lo na nb->nb=1->CB lt la lb (lb.take nb++la.take na++lo.reverse):=λ{lo na nb} m e=>m.first W λx hx r hr=>by
  subst e;have er:r=lb.getD 0 0:=by
   cases lb with
   |nil=>simp at hb
   |cons b l=>simpa using hr
  rw[er];exact h0 x (WS hx)
 have sa:(eA it la).size=la.length:=qE;have sb:(eA it lb).size=lb.length:=qE;unfold SG;refine az (W8 (ir ⟨rfl,?_⟩));refine az (dW (x:=it (la.getD (la.length-1) 0)) (by rw[sa];exact cL ⋯) ?_);refine Im (λc1=>?_) (λc1 c2=>?_) λc1 c2=>?_
 ·simp only[sa,sb,cU,beq_iff_eq] at c1 ⊢;rw[show #[it (la.getD (la.length-1) 0)]=eA it ([]++[la.getD (la.length-1) 0]) from rfl];simp only[d5,aZ];exact q _ _ (m1.done W (.inl c1)) (.refl st)
 ·simp only[sa,sb,cU,beq_iff_eq] at c2 ⊢;rw[show #[it (la.getD (la.length-1) 0)]=eA it ([]++[la.getD (la.length-1) 0]) from rfl];simp only[d5,aZ];exact q _ _ (fst m1 c2) (.refl st)
 simp only[sa,sb,beq_iff_eq] at c1 c2;refine az (lq (gj
  (I:=λx c st'=>SEq st st' /\ ∃X lo na nb g,c=(ao,na,nb,X,g)/\X=eA it lo/\Hg lt la lb lo na nb/\0<na/\1<nb/\na+nb+x+1<=la.length+lb.length)
  (Q:=λc st'=>SEq st st' /\ ∃X l c',c=(ae X,c')/\X=eA it l/\CB lt la lb l) ?step ?fin ?init) ?post)
 case fin=>
  rintro c st' ⟨_,_,lo,na,nb,g,rfl,rfl,m,h1,h2,h3⟩;ac_rfl
 case init=>exact⟨.refl st,_,[]++[la.getD (la.length-1) 0],_,_,_,rfl,rfl,by rw[sa,sb];exact m1,⋯,⋯,⋯⟩
 case post=>
  rintro c st' ⟨e,_,l,c',rfl,rfl,d⟩;exact bi (q l st' d e)
 case step=>
  rintro x c st' _ hx ⟨e,_,lo,na,nb,g,rfl,rfl,m,h1,h2,h3⟩;dsimp only;generalize (eA it la).size=sza at sa hx ⊢;generalize (eA it lb).size=szb at sb hx ⊢;subst sa sb;refine az (lq (gj
   (I:=λy c st'=>SEq st st' /\ ∃X lo na' nb' ac bc,c=(ao,na',nb',X,ac,bc)/\X=eA it lo/\Hg lt la lb lo na' nb'/\0<na'/\1<nb'/\na'+nb'+y<=na+nb)
   (Q:=λc st'=>SEq st st'/\((∃X l c',c=(ae X,c')/\X=eA it l/\CB lt la lb l) \/ ∃X lo na' nb' ac bc,c=(ao,na',nb',X,ac,bc)/\X=eA it lo/\Hg lt la lb lo na' nb'/\0<na'/\1<nb'/\na'+nb'+1<=na+nb)) ?s1 ?f1 ?i1) ?p1)
  case i1=>exact⟨e,_,_,_,_,_,_,rfl,by first | rfl | ((try simp only[cU]);simp only[aX,aZ,aY,d5]),m,h1,h2,cg _⟩
  case f1=>
   rintro c st2 ⟨e2,_,lo2,na2,nb2,ac,bc,rfl,rfl,m2,a1,a2,a3⟩;exact⟨e2,.inr ⟨_,_,_,_,_,_,rfl,by first | rfl | ((try simp only[cU]);simp only[aX,aZ,aY,d5]),m2,a1,a2,⋯⟩⟩
  case s1=>
   rintro y c st2 _ hy ⟨e2,_,lo2,na2,nb2,ac,bc,rfl,rfl,m2,a1,a2,a3⟩;have pa:=m2.a;have pb:=m2.b;dsimp only;refine az (dW (cL ⋯) (az (dW (cL ⋯) (az (T.cmp _ _ (W.symm.ltA ⋯) (W.ltA ⋯) (Ne.symm (W.neAB ⋯ ⋯)) _ _ (e2.k.trans hk) ?_)))));cases y0:lt (lb.getD (nb2-1) 0) (la.getD (na2-1) 0) with
   |true=>
    dsimp only;rw[a0G rfl];refine az (dW (cL ⋯) ?_);have m3:=m2.stepA T.trn W a1 ⋯ y0;by_cases z:na2-1=0
    ·rw[a0G (beq_iff_eq.mpr z)];exact bi ⟨e2,.inl ⟨_,_,_,rfl,by first | rfl | ((try simp only[cU]);simp only[aX,aZ,aY,d5]),m3.done W (.inl z)⟩⟩
    ·rw[a0h (λh=>z (beq_iff_eq.mp h))];split
     ·exact bi ⟨e2,.inr ⟨_,_,_,_,_,_,rfl,by first | rfl | ((try simp only[cU]);simp only[aX,aZ,aY,d5]),m3,⋯,a2,⋯⟩⟩
     ·exact bi ⟨e2,_,_,_,_,_,_,rfl,by first | rfl | ((try simp only[cU]);simp only[aX,aZ,aY,d5]),m3,⋯,a2,⋯⟩
   |false=>
    dsimp only;rw[a0h ∅];refine az (dW (cL ⋯) ?_);have y1:lt (la.getD (na2-1) 0) (lb.getD (nb2-1) 0)=ak:=by rw[T.tot _ _ (W.ltA ⋯) (W.symm.ltA ⋯) (W.neAB ⋯ ⋯),y0];rfl
    have m3:=m2.stepB T.trn W a1 ⋯ y1;by_cases z:nb2-1=1
    ·rw[a0G (beq_iff_eq.mpr z)];exact bi ⟨e2,.inl ⟨_,_,_,rfl,by first | rfl | ((try simp only[cU]);simp only[aX,aZ,aY,d5]),fst m3 z⟩⟩
    ·rw[a0h (λh=>z (beq_iff_eq.mp h))];split
     ·exact bi ⟨e2,.inr ⟨_,_,_,_,_,_,rfl,by first | rfl | ((try simp only[cU]);simp only[aX,aZ,aY,d5]),m3,a1,⋯,⋯⟩⟩
     ·exact bi ⟨e2,_,_,_,_,_,_,rfl,by first | rfl | ((try simp only[cU]);simp only[aX,aZ,aY,d5]),m3,a1,⋯,⋯⟩
  case p1=>
   rintro c st2 ⟨e2,⟨_,l,c',rfl,rfl,d⟩ | ⟨_,lo2,na2,nb2,ac,bc,rfl,rfl,m2,a1,a2,a3⟩⟩
   ·exact bi ⟨e2,_,l,_,rfl,rfl,d⟩
   dsimp only;refine az (W8 (ir ⟨rfl,?_⟩));refine az (lq (gj
    (I:=λy c st'=>SEq st st' /\ ∃X lo na' nb' g' ac bc,c=(ao,na',nb',X,g',ac,bc)/\X=eA it lo/\Hg lt la lb lo na' nb'/\0<na'/\1<nb'/\na'+nb'+y<=na2+nb2)
    (Q:=λc st'=>SEq st st'/\((∃X l c',c=(ae X,c')/\X=eA it l/\CB lt la lb l) \/ ∃X lo na' nb' g' ac bc,c=(ao,na',nb',X,g',ac,bc)/\X=eA it lo/\Hg lt la lb lo na' nb'/\0<na'/\1<nb'/\na'+nb'<=na2+nb2)) ?s2 ?f2 ?i2) ?p2)
   case i2=>exact⟨e2,_,_,_,_,_,_,_,rfl,by first | rfl | ((try simp only[cU]);simp only[aX,aZ,aY,d5]),m2,a1,a2,cg _⟩
   case f2=>
    rintro c st3 ⟨e3,_,lo3,na3,nb3,g3,ac3,bc3,rfl,rfl,m3,b1,b2,b3⟩;exact⟨e3,.inr ⟨_,_,_,_,_,_,_,rfl,by first | rfl | ((try simp only[cU]);simp only[aX,aZ,aY,d5]),m3,b1,b2,⋯⟩⟩
   case p2=>
    rintro c st3 ⟨e3,⟨_,l,c',rfl,rfl,d⟩ | ⟨_,lo3,na3,nb3,g3,ac3,bc3,rfl,rfl,m3,b1,b2,b3⟩⟩
    ·exact bi ⟨e3,_,l,_,rfl,rfl,d⟩
    dsimp only;refine az (lu ?_);exact bi ⟨⟨e3.k,e3.a,e3.p,e3.f⟩,_,_,_,_,_,rfl,by first | rfl | ((try simp only[cU]);simp only[aX,aZ,aY,d5]),m3,b1,b2,⋯⟩
   case s2=>
    rintro y c st3 _ hy ⟨e3,_,lo3,na3,nb3,g3,ac3,bc3,rfl,rfl,m3,b1,b2,b3⟩;have pa:=m3.a;have pb:=m3.b;dsimp only;refine' OF (λkey=>?mn1) ?ky1
    case mn1=>
     by_cases hg:g3 > 1
     ·rw[a0G hg];generalize g3-1=g;exact key g
     ·rw[a0h hg];exact key g3
    case ky1=>
     intro g;refine az (lu ?_);refine az (dW (cL ⋯) ?_);refine az (LL (left:=am) (na:=na3) (nb:=nb3) T W (e3.k.trans hk) b1 pa ⋯ pb λt k1 k2 k3=>?_);dsimp only;refine' G9 (F:=λlo na=>Hg lt la lb lo na nb3/\0<na/\na<=na3/\lt (la.getD (na-1) 0) (lb.getD (nb3-1) 0)=ak) (λkey=>?mn2) ?ky2
     case mn2=>
      by_cases kz:na3-t > 0
      ·rw[a0G kz];have m4:=m3.galA T.trn W ⋯ k1 k3;by_cases z0:t=0
       ·rw[a0G (beq_iff_eq.mpr z0)];exact bi ⟨⟨e3.k,e3.a,e3.p,e3.f⟩,.inl ⟨_,_,_,rfl,by first | rfl | ((try simp only[cU]);simp only[aX,aZ,aY,d5]),m4.done W (.inl z0)⟩⟩
       rw[a0h (λh=>z0 (beq_iff_eq.mp h))];have hl:=k2 (t-1) ⋯;have c1:0<t:=⋯;have k1':=k1;obtain⟨t',ht'⟩:∃t',t'=t:=⟨t,rfl⟩;rw[<- ht'] at m4 hl c1 k1' ⊢;rw[show eA it lo3++((eA it la).extract t' na3).reverse=eA it (lo3++((la.drop t').take (na3-t')).reverse) by rw[aY,d5,aZ]];generalize lo3++((la.drop t').take (na3-t')).reverse=lo at m4 ⊢;exact key lo t' ⟨m4,c1,k1',hl⟩
      ·rw[a0h kz];have et:t=na3:=⋯;have hl:=k2 (na3-1) ⋯;subst et;exact key lo3 _ ⟨m3,b1,cg _,hl⟩
     case ky2=>
      rintro lo na ⟨m4,c1,c2,hl⟩;refine az (dW (cL ⋯) ?_);have m5:=m4.stepB T.trn W c1 ⋯ hl;by_cases z1:nb3-1=1
      ·rw[a0G (beq_iff_eq.mpr z1)];exact bi ⟨⟨e3.k,e3.a,e3.p,e3.f⟩,.inl ⟨_,_,_,rfl,by first | rfl | ((try simp only[cU]);simp only[aX,aZ,aY,d5]),fst m5 z1⟩⟩
      rw[a0h (λh=>z1 (beq_iff_eq.mp h))];refine az (dW (cL ⋯) ?_);refine az (LL (left:=ak) (na:=nb3-1) (nb:=na) T W.symm (e3.k.trans hk) ⋯ ⋯ ⋯ ⋯ λu j1 j2 j3=>?_);dsimp only;rw[aX];generalize lo++[lb.getD (nb3-1) 0]=lo' at m5 ⊢;refine' G9 (F:=λlo nb=>Hg lt la lb lo na nb/\1<nb/\nb<=nb3-1/\lt (lb.getD (nb-1) 0) (la.getD (na-1) 0)=ak) (λkey=>?mn3) ?ky3
      case mn3=>
       by_cases jz:nb3-1-u > 0
       ·rw[a0G jz];have m6:=m5.galB T.trn W c1 j1 j3;by_cases z4:u=1
        ·rw[a0G (beq_iff_eq.mpr z4)];exact bi ⟨⟨e3.k,e3.a,e3.p,e3.f⟩,.inl ⟨_,_,_,rfl,by first | rfl | ((try simp only[cU]);simp only[aX,aZ,aY,d5]),fst m6 z4⟩⟩
        rw[a0h (λh=>z4 (beq_iff_eq.mp h))];by_cases z6:u=0
        ·rw[a0G (beq_iff_eq.mpr z6)];exact bi ⟨⟨e3.k,e3.a,e3.p,e3.f⟩,.inl ⟨_,_,_,rfl,by first | rfl | ((try simp only[cU]);simp only[aX,aZ,aY,d5]),m6.done W (.inr z6)⟩⟩
        rw[a0h (λh=>z6 (beq_iff_eq.mp h))];have hl2:=j2 (u-1) ⋯;have d1:1<u:=⋯;have j1':=j1;obtain⟨u',hu'⟩:∃u',u'=u:=⟨u,rfl⟩;rw[<- hu'] at m6 hl2 d1 j1' ⊢;rw[show eA it lo'++((eA it lb).extract u' (nb3-1)).reverse=eA it (lo'++((lb.drop u').take (nb3-1-u')).reverse) by rw[aY,d5,aZ]];generalize lo'++((lb.drop u').take (nb3-1-u')).reverse=lo2 at m6 ⊢;exact key lo2 u' ⟨m6,d1,j1',hl2⟩
       ·rw[a0h jz];have eu:u=nb3-1:=⋯;have hl2:=j2 (nb3-1-1) ⋯;subst eu;exact key lo' _ ⟨m5,⋯,cg _,hl2⟩
      case ky3=>
       rintro lo nb ⟨m6,d1,d2,hl2⟩;have m7:=m6.stepA T.trn W c1 ⋯ hl2;refine az (dW (cL ⋯) ?_);by_cases z3:na-1=0
       ·rw[a0G (beq_iff_eq.mpr z3)];exact bi ⟨⟨e3.k,e3.a,e3.p,e3.f⟩,.inl ⟨_,_,_,rfl,by first | rfl | ((try simp only[cU]);simp only[aX,aZ,aY,d5]),m7.done W (.inl z3)⟩⟩
       rw[a0h (λh=>z3 (beq_iff_eq.mp h))];by_cases z5:(decide (na3-na<7)&&decide (nb3-1-nb<7))=ak
       ·rw[a0G z5];exact bi ⟨⟨e3.k,e3.a,e3.p,e3.f⟩,.inr ⟨_,_,_,_,_,_,_,rfl,by first | rfl | ((try simp only[cU]);simp only[aX,aZ,aY,d5]),m7,⋯,d1,⋯⟩⟩
       ·rw[a0h z5];exact bi ⟨⟨e3.k,e3.a,e3.p,e3.f⟩,_,_,_,_,_,_,_,rfl,by first | rfl | ((try simp only[cU]);simp only[aX,aZ,aY,d5]),m7,⋯,d1,⋯⟩
end
variable {u v lo:Nat}{p p':List Nat}
section
variable {lt:Nat->Nat->Bool}
noncomputable abbrev g(p:List Nat)(u:Nat):Nat:=p.getD u 0
structure Sp1(it:Nat->rh)(κ:re)(st:jc)(p:List Nat):Prop where
 k:ni st=κ
 a:wo st=eA it p
 f:xq st=ao
abbrev vI(N:Nat)(p:List Nat):Prop:=p.Perm (iw N)
theorem pL(h:vI N p):p.length=N:=by rw[h.length_eq,List.length_range]
theorem dB(h:vI N p)(hu:u<N):g p u<N:=by
 have hl:=pL h;have e:g p u=p[u]'⋯:=by simp[g,gz,show u<p.length by ac_rfl]
 rw[e];exact sy.mp (h.mem_iff.mp (ft _))
theorem xR(h:vI N p)(hu:u<N)(hv:v<N)(n:u≠v):g p u≠g p v:=by
 have hl:=pL h;have nd:p.Nodup:=h.nodup_iff.mpr YA;have e1:g p u=p[u]'⋯:=by simp[g,gz,show u<p.length by ac_rfl]
 have e2:g p v=p[v]'⋯:=by simp[g,gz,show v<p.length by ac_rfl]
 rw[e1,e2];rcases zk n with z | z
 ·exact fk.mp nd u v ⋯ ⋯ z
 ·exact Ne.symm (fk.mp nd v u ⋯ ⋯ z)
def Sg(lt:Nat->Nat->Bool)(p:List Nat)(lo hi:Nat):Prop:=∀u v,lo<=u->u<v->v<hi->lt (g p u) (g p v)=ak
def Ou(p p':List Nat)(lo hi:Nat):Prop:=∀u,(u<lo \/ hi<=u)->g p' u=g p u
theorem uF(T:Tm M A E s N lt it κ){Q:Option Bool->jc->Prop}(S:Sp1 it κ st p)(P:vI N p)(hi:i<N)(hj:j<N)(hn:i≠j)(q:Q (ae (lt (g p i) (g p j))) st):Z7 M A E s (ltAt' i j) Q st:=by
 have hl:=pL P;unfold ltAt';refine az (wd ?_);refine az (dW (x:=it (g p i)) (by rw[show (sortPriv% PySem.Builtin.SortState.a) st=eA it p from S.a];exact cL ⋯) (az (dW (x:=it (g p j)) (by rw[show (sortPriv% PySem.Builtin.SortState.a) st=eA it p from S.a];exact cL ⋯) ?_)));exact T.cmp _ _ (dB P hi) (dB P hj) (xR P hi hj hn) st Q S.k q
theorem pW{q:Array Nat}(h:q[u]?=p[v]?):g q.toList u=g p v:=by
 unfold g;rw[fu,fu,lp,h]
theorem MN(hj:j<=p.length):∃p',Zs (eA it p) i j ((j-i) / 2)=eA it p'/\p'.Perm p /\ ∀u,g p' u=if i<=u/\u<j then g p (i+j-1-u) else g p u:=by
 refine⟨(Zs p.toArray i j ((j-i) / 2)).toList,?_,?_,λu=>?_⟩
 ·apply vi;intro u;rw[yd (by simpa using hj)];simp only[eA,wr,dw,lp];rw[yd (by simpa using hj)];split<;>simp
 ·have:=mirror_perm p.toArray i j ((j-i) / 2);simpa using this.toList
 ·have e:=yd (xs:=p.toArray) (i:=i) (j:=j) (by simpa using hj) u;split
  ·rename_i h;rw[a0G h] at e;exact pW (by rw[e];simp)
  ·rename_i h;rw[a0h h] at e;exact pW (by rw[e];simp)
theorem No{src d:Nat}(hs:src<p.length)(hd:d<=src):∃p',a0w (eA it p) src d=eA it p'/\p'.Perm p /\ ∀u,g p' u=if u=src-d then g p src else if src-d<u/\u<=src then g p (u-1) else g p u:=by
 refine⟨(a0w p.toArray src d).toList,?_,?_,λu=>?_⟩
 ·apply vi;intro u;rw[WB (by simpa using hs) d hd];simp only[eA,wr,dw,lp];rw[WB (by simpa using hs) d hd]
  repeat' split
  all_goals simp
 ·have:=bubble_perm p.toArray src d;simpa using this.toList
 ·have e:=WB (xs:=p.toArray) (src:=src) (by simpa using hs) d hd u;by_cases h1:u=src-d
  ·rw[a0G h1] at e ⊢;exact pW (by rw[e];simp)
  ·rw[a0h h1] at e ⊢;by_cases h2:src-d<u/\u<=src
   ·rw[a0G h2] at e ⊢;exact pW (by rw[e];simp)
   ·rw[a0h h2] at e ⊢;exact pW (by rw[e];simp)
theorem Lk(T:Tm M A E s N lt it κ)(S:Sp1 it κ st p)(P:vI N p)(h1:0<n)(hn:lo+n<=N)
  (q:∀m st' p',1<=m->m<=n->Sp1 it κ st' p'->bw st'=bw st->vI N p'->Sg lt p' lo (lo+m)->Ou p p' lo (lo+m)->Q (ae m) st'):Z7 M A E s (countRun' lo n) Q st:=by
 have grow:∀{p:List Nat} {m:Nat},vI N p->1<=m->lo+m<N->Sg lt p lo (lo+m)->lt (g p (lo+m)) (g p (lo+m-1))=am->Sg lt p lo (lo+(m+1)):=λ{p m} P hm hN sg z u v hu huv hv=>by
  have last:lt (g p (lo+m-1)) (g p (lo+m))=ak:=by rw[T.tot _ _ (dB P ⋯) (dB P ⋯) (xR P ⋯ ⋯ ⋯),z];rfl
  by_cases e:v=lo+m
  ·subst e;by_cases e2:u=lo+m-1
   ·rw[e2];exact last
   ·exact T.tr _ _ _ (dB P ⋯) (dB P ⋯) (dB P ⋯) (sg u (lo+m-1) hu ⋯ ⋯) last
  ·exact sg u v hu huv ⋯
 unfold countRun';refine az (lq (gj
  (I:=λx c st'=>st=st'/\c=(ao,x)/\Sg lt p lo (lo+x))
  (Q:=λc st'=>st=st' /\ ∃m,c=(ao,m)/\1<=m/\m<=n/\Sg lt p lo (lo+m)/\(m<n->lt (g p (lo+m)) (g p (lo+m-1))=ak)) ?s1 ?f1 ?i1) ?p1)
 case i1=>exact⟨rfl,rfl,λu v a b c=>by ac_rfl⟩
 case f1=>
  rintro c st' ⟨rfl,rfl,sg⟩;exact⟨rfl,_,rfl,⋯,⋯,by rw[show max 1 n=n by ac_rfl] at sg ⊢;exact sg,λh=>by ac_rfl⟩
 case s1=>
  rintro x c st' hx1 hx ⟨rfl,rfl,sg⟩;dsimp only;refine az (uF T S P ⋯ ⋯ ⋯ ?_);cases y:lt (g p (lo+x)) (g p (lo+x-1)) with
  |true=>
   dsimp only;rw[a0G rfl];exact bi ⟨rfl,x,rfl,hx1,⋯,sg,λ_=>y⟩
  |false=>
   dsimp only;rw[a0h ∅];exact bi ⟨rfl,rfl,grow P hx1 ⋯ sg y⟩
 case p1=>
  rintro c st' ⟨rfl,m,rfl,m1,m2,sg,fall⟩;dsimp only;by_cases z:m=n
  ·rw[a0G (by simpa using z)];exact bi (q m st p m1 m2 S rfl P sg λu h=>rfl)
  rw[a0h (by simpa using z)];have fa:=fall ⋯;by_cases z2:m > 1
  ·rw[a0G z2];refine az (uF T S P ⋯ ⋯ ⋯ ?_);rw[sg lo (lo+m-1) (cg _) ⋯ ⋯];dsimp only;rw[a0G rfl];exact bi (q m st p m1 m2 S rfl P sg λu h=>rfl)
  rw[a0h z2];obtain rfl:m=1:=⋯;refine az (W8 (ir ⟨rfl,?_⟩));refine az (lq (gj
   (I:=λx c st'=>st=st'/\c=(ao,x,0) /\ ∀u v,lo<=u->u<v->v<lo+x->lt (g p v) (g p u)=ak)
   (Q:=λc st'=>st=st' /\ ∃k,c=(ao,k,0)/\2<=k/\k<=n /\ ∀u v,lo<=u->u<v->v<lo+k->lt (g p v) (g p u)=ak) ?s2 ?f2 ?i2) ?p2)
  case i2=>
   refine⟨rfl,rfl,λu v a b c=>?_⟩;rw[show u=lo by ac_rfl,show v=lo+1 by ac_rfl];exact fa
  case f2=>
   rintro c st' ⟨rfl,rfl,d⟩;exact⟨rfl,_,rfl,⋯,⋯,d⟩
  case s2=>
   rintro x c st' hx1 hx ⟨rfl,rfl,d⟩;dsimp only;refine az (uF T S P ⋯ ⋯ ⋯ ?_);cases y:lt (g p (lo+x)) (g p (lo+x-1)) with
   |true=>
    dsimp only;rw[a0G rfl,a0h ∅];refine bi ⟨rfl,rfl,λu v hu huv hv=>?_⟩;by_cases e:v=lo+x
    ·subst e;by_cases e2:u=lo+x-1
     ·rw[e2];exact y
     ·exact T.tr _ _ _ (dB P ⋯) (dB P ⋯) (dB P ⋯) y (d u (lo+x-1) hu ⋯ ⋯)
    ·exact d u v hu huv ⋯
   |false=>
    dsimp only;rw[a0h ∅];refine az (uF T S P ⋯ ⋯ ⋯ ?_);rw[show lt (g p (lo+x-1)) (g p (lo+x))=ak by rw[T.tot _ _ (dB P ⋯) (dB P ⋯) (xR P ⋯ ⋯ ⋯),y];rfl];dsimp only;rw[a0G rfl];exact bi ⟨rfl,x,rfl,hx1,⋯,d⟩
  case p2=>
   rintro c st' ⟨rfl,k,rfl,k1,k2,d⟩;dsimp only;rw[a0h ∅];have hl:=pL P;obtain⟨p2,e2,pp2,gp2⟩:=MN (it:=it) (p:=p) (i:=lo) (j:=lo+k) ⋯;have S2:Sp1 it κ (a0x st (Zs (wo st) lo (lo+k) ((lo+k-lo) / 2))) p2:=⟨S.k,by show Zs (wo st) lo (lo+k) ((lo+k-lo) / 2)=_;rw[S.a];exact e2,S.f⟩;have P2:vI N p2:=pp2.trans P;have sg2:Sg lt p2 lo (lo+k):=λu v hu huv hv=>by
    rw[gp2 u,gp2 v,a0G ⋯,a0G ⋯];exact d _ _ ⋯ ⋯ ⋯
   refine az (lu ?_);show Z7 M A E s _ Q (a0x st (Zs (wo st) lo (lo+k) ((lo+k-lo) / 2)));generalize hst:a0x st (Zs (wo st) lo (lo+k) ((lo+k-lo) / 2))=st2 at S2 ⊢;have pe:bw st2=bw st:=by rw[<- hst]
   refine az (lq (gj
    (I:=λx c st'=>st2=st'/\c=(ao,x)/\Sg lt p2 lo (lo+x))
    (Q:=λc st'=>st2=st' /\ ∃m,c=(ao,m)/\k<=m/\m<=n/\Sg lt p2 lo (lo+m)) ?s3 ?f3 ?i3) ?p3)
   case i3=>exact⟨rfl,rfl,sg2⟩
   case f3=>
    rintro c st' ⟨rfl,rfl,sg3⟩;exact⟨rfl,_,rfl,⋯,⋯,sg3⟩
   case s3=>
    rintro x c st' hx1 hx ⟨rfl,rfl,sg3⟩;dsimp only;refine az (uF T S2 P2 ⋯ ⋯ ⋯ ?_);cases y:lt (g p2 (lo+x)) (g p2 (lo+x-1)) with
    |true=>
     dsimp only;rw[a0G rfl];exact bi ⟨rfl,x,rfl,hx1,⋯,sg3⟩
    |false=>
     dsimp only;rw[a0h ∅];exact bi ⟨rfl,rfl,grow P2 ⋯ ⋯ sg3 y⟩
   case p3=>
    rintro c st' ⟨rfl,m,rfl,m1,m2,sg3⟩;exact bi (q m st2 p2 ⋯ m2 S2 pe P2 sg3 λu h=>by rw[gp2 u,a0h ⋯])
theorem Ql(T:Tm M A E s N lt it κ){ok:Nat}{Q:Bool->jc->Prop}(S:Sp1 it κ st p)(P:vI N p)(h1:1<=ok)(ho:ok<=n)(hn:lo+n<=N)(sg:Sg lt p lo (lo+ok))
  (q:∀st' p',Sp1 it κ st' p'->bw st'=bw st->vI N p'->Sg lt p' lo (lo+n)->Ou p p' lo (lo+n)->Q ak st'):Z7 M A E s (binarySort' lo n ok) Q st:=by
 unfold binarySort';refine az (lq (gj
  (I:=λk c st'=>c=(ao,()) /\ ∃p',Sp1 it κ st' p'/\bw st'=bw st/\vI N p'/\Sg lt p' lo (lo+k)/\Ou p p' lo (lo+n))
  (Q:=λc st'=>c=(ao,()) /\ ∃p',Sp1 it κ st' p'/\bw st'=bw st/\vI N p'/\Sg lt p' lo (lo+n)/\Ou p p' lo (lo+n)) ?s1 ?f1 ?i1) ?p1)
 case i1=>exact⟨rfl,p,S,rfl,P,by rw[show max ok 1=ok by ac_rfl];exact sg,λu h=>rfl⟩
 case f1=>
  rintro c st' ⟨rfl,p',S',e,P',sg',o⟩;exact⟨rfl,p',S',e,P',by rw[show max (max ok 1) n=n by ac_rfl] at sg';exact sg',o⟩
 case p1=>
  rintro c st' ⟨rfl,p',S',e,P',sg',o⟩;exact bi (q st' p' S' e P' sg' o)
 case s1=>
  rintro k c st' hk1 hk ⟨rfl,p',S',e,P',sg',o⟩;dsimp only;refine az (lq (gj
   (I:=λx c st2=>st'=st2 /\ ∃l r,c=(ao,l,r)/\l<=r/\r<=k/\r-l+x<=k/\(∀u,u<l->lt (g p' (lo+u)) (g p' (lo+k))=ak) /\ ∀u,r<=u->u<k->lt (g p' (lo+k)) (g p' (lo+u))=ak)
   (Q:=λc st2=>st'=st2 /\ ∃l,c=(ao,l,l)/\l<=k/\(∀u,u<l->lt (g p' (lo+u)) (g p' (lo+k))=ak) /\ ∀u,l<=u->u<k->lt (g p' (lo+k)) (g p' (lo+u))=ak) ?s2 ?f2 ?i2) ?p2)
  case i2=>exact⟨rfl,0,k,rfl,⋯,⋯,⋯,λu h=>by ac_rfl,λu h h2=>by ac_rfl⟩
  case f2=>
   rintro c st2 ⟨rfl,l,r,rfl,l1,l2,l3,l4,l5⟩;obtain rfl:l=r:=⋯;exact⟨rfl,l,rfl,l2,l4,l5⟩
  case s2=>
   rintro x c st2 _ hx ⟨rfl,l,r,rfl,l1,l2,l3,l4,l5⟩;dsimp only;by_cases z:l >= r
   ·rw[a0G z];obtain rfl:l=r:=⋯;exact bi ⟨rfl,l,rfl,l2,l4,l5⟩
   rw[a0h z];have hm:l<=(l+r) / 2/\(l+r) / 2<r:=⋯;generalize (l+r) / 2=m at *;refine az (uF T S' P' ⋯ ⋯ ⋯ ?_);cases y:lt (g p' (lo+k)) (g p' (lo+m)) with
   |true=>
    dsimp only;rw[a0G rfl];refine bi ⟨rfl,_,_,rfl,⋯,⋯,⋯,l4,λu hu hk2=>?_⟩;by_cases e2:u=m
    ·rw[e2];exact y
    ·exact T.tr _ _ _ (dB P' ⋯) (dB P' ⋯) (dB P' ⋯) y (sg' _ _ ⋯ ⋯ ⋯)
   |false=>
    dsimp only;rw[a0h ∅];have y1:lt (g p' (lo+m)) (g p' (lo+k))=ak:=by rw[T.tot _ _ (dB P' ⋯) (dB P' ⋯) (xR P' ⋯ ⋯ ⋯),y];rfl
    refine bi ⟨rfl,_,_,rfl,⋯,⋯,⋯,λu hu=>?_,l5⟩;by_cases e2:u=m
    ·rw[e2];exact y1
    ·exact T.tr _ _ _ (dB P' ⋯) (dB P' ⋯) (dB P' ⋯) (sg' _ _ ⋯ ⋯ ⋯) y1
  case p2=>
   rintro c st2 ⟨rfl,l,rfl,l2,l4,l5⟩;dsimp only;have hl:=pL P';obtain⟨p2,e2,pp2,gp2⟩:=No (it:=it) (p:=p') (src:=lo+k) (d:=lo+k-(lo+l)) ⋯ ⋯;have S2:Sp1 it κ (a0x st' (a0w (wo st') (lo+k) (lo+k-(lo+l)))) p2:=⟨S'.k,by show a0w (wo st') (lo+k) (lo+k-(lo+l))=_;rw[S'.a];exact e2,S'.f⟩;refine az (lu ?_);refine bi ⟨rfl,p2,S2,e,pp2.trans P',λu v hu huv hv=>?_,λu h=>?_⟩
   ·rw[gp2 u,gp2 v];by_cases c1:u=lo+k-(lo+k-(lo+l))
    ·rw[a0G c1,a0h ⋯,a0G ⋯];have:=l5 (v-1-lo) ⋯ ⋯;rw[show lo+(v-1-lo)=v-1 by ac_rfl] at this;exact this
    ·rw[a0h c1];by_cases c2:v=lo+k-(lo+k-(lo+l))
     ·rw[a0G c2,a0h ⋯];have:=l4 (u-lo) ⋯;rw[show lo+(u-lo)=u by ac_rfl] at this;exact this
     ·rw[a0h c2];split
      ·split
       ·exact sg' _ _ ⋯ ⋯ ⋯
       ·ac_rfl
      ·split
       ·exact sg' _ _ ⋯ ⋯ ⋯
       ·exact sg' _ _ ⋯ ⋯ ⋯
   ·rw[gp2 u,a0h ⋯,a0h ⋯];exact o u h
end
variable {b:Nat}
theorem LO:∀(l:List α) (j0:Nat) (xs:Array α),b+j0+l.length<=xs.size -> ∀u,((l.zipIdx j0).foldl (λa (q:α×Nat)=>a.setIfInBounds (b+q.2) q.1) xs)[u]?=if b+j0<=u/\u<b+j0+l.length then l[u-(b+j0)]? else xs[u]?:=by
 intro l;induction l with
 |nil=>
  intro j0 xs h u;rw[a0h (by simp only[xb];ac_rfl)];rfl
 |cons x l ih=>
  intro j0 xs h u;simp only[dg] at h ⊢;rw[YG,Wo,ih (j0+1) _ ⋯ u];by_cases c:u=b+j0
  ·subst c;rw[a0h ⋯,a0G ⋯];simp[show b+j0<xs.size by ac_rfl]
  ·by_cases c2:b+(j0+1)<=u/\u<b+(j0+1)+l.length
   ·rw[a0G c2,a0G ⋯,show u-(b+j0)=u-(b+(j0+1))+1 by ac_rfl];rfl
   ·rw[a0h c2,a0h ⋯,wm ⋯]
section
variable {lt:Nat->Nat->Bool}
theorem MX(h:b+l.length<=p.length):((eA it l).toList.zipIdx.foldl (λa (q:rh×Nat)=>a.setIfInBounds (b+q.2) q.1) (eA it p))=eA it (p.take b++l++p.drop (b+l.length)):=by
 apply vi;intro u;have:=LO (b:=b) (eA it l).toList 0 (eA it p) (by simpa [eA] using h) u;rw[this];simp only[eA,zh,bf,Zr,wr,dw];by_cases c:b<=u/\u<b+l.length
 ·rw[a0G c,eo,bt ⋯,dj ⋯];simp[lc,xp (show b<=p.length by ac_rfl)]
 ·rw[a0h c];by_cases c2:u<b
  ·rw[eo,dj ⋯,ly c2]
  ·rw[bt ⋯];simp only[dh,lc,zl];congr 2;ac_rfl
theorem Bb(h:b+l.length<=p.length):g (p.take b++l++p.drop (b+l.length)) u=if u<b then g p u else if u<b+l.length then g l (u-b) else g p u:=by
 unfold g;simp only[fu];by_cases c2:u<b
 ·rw[a0G c2,eo,dj ⋯,ly c2]
 ·rw[a0h c2];by_cases c:u<b+l.length
  ·rw[a0G c,eo,bt ⋯,dj ⋯];simp[lc,xp (show b<=p.length by ac_rfl)]
  ·rw[a0h c,bt ⋯];simp only[dh,lc,zl];congr 2;ac_rfl
theorem wJ{x:Nat}(h:b+n<=p.length)(hx:x∈(p.drop b).take n):∃u,b<=u/\u<b+n/\x=g p u:=by
 obtain⟨i,hi,e⟩:=xz.mp hx;simp at hi;refine⟨b+i,⋯,⋯,?_⟩;rw[<- e];simp[g,gz,show b+i<p.length by ac_rfl]
theorem Ax(hi:i<n)(h:b+n<=p.length):((p.drop b).take n).getD i 0=g p (b+i):=by
 unfold g;simp only[fu];rw[ly hi,zl]
theorem J0(h:b+n<=p.length)(sg:Sg lt p b (b+n)):((p.drop b).take n).Pairwise λx y=>lt x y=ak:=by
 rw[fk];intro i j hi hj hij;simp at hi hj;have e1:((p.drop b).take n)[i]'⋯=g p (b+i):=by simp[g,gz,show b+i<p.length by ac_rfl]
 have e2:((p.drop b).take n)[j]'⋯=g p (b+j):=by simp[g,gz,show b+j<p.length by ac_rfl]
 rw[e1,e2];exact sg _ _ ⋯ ⋯ ⋯
theorem Gf{a m:Nat}:(p.drop a).take m++(p.drop (a+m)).take b=(p.drop a).take (m+b):=by
 rw[List.take_add,ZS]
theorem JI(h:b+n<=p.length)(d:l.Perm ((p.drop b).take n)):(p.take b++l++p.drop (b+l.length)).Perm p:=by
 have el:l.length=n:=by rw[d.length_eq];simp;ac_rfl
 rw[el];have e:p.take b++(p.drop b).take n++p.drop (b+n)=p:=by
  rw[eo,<- ZS,uu,uu]
 refine List.Perm.trans ?_ (List.Perm.of_eq e);exact(d.append_left _).append_right _
theorem MC{a:σ}{Q:PUnit->σ->Prop}{st:σ}(h:Q ⟨⟩ a):Z7 M A E s (set a:StateT σ YJ PUnit) Q st:=by
 unfold Z7;rw[StateT.run_set];exact ai ⟨rfl,h⟩
theorem T7(T:Tm M A E s N lt it κ){sa sb nb pw x:Nat}{Q:Bool->jc->Prop}(S:Sp1 it κ st p)(P:vI N p)(e1:(bw st)[i]?=ae (sa,na,pw))(e2:(bw st)[i+1]?=ae (sb,nb,x))(hs:sb=sa+na)(ha:0<na)(hb:0<nb)(hN:sb+nb<=N)
  (ga:Sg lt p sa (sa+na)) (gb:Sg lt p sb (sb+nb))
  (q:∀st' p',Sp1 it κ st' p'->bw st'=((bw st).setIfInBounds i (sa,na+nb,pw)).eraseIdxIfInBounds (i+1)->vI N p'->Sg lt p' sa (sa+(na+nb))->Ou p p' sa (sa+(na+nb))->Q ak st'):Z7 M A E s (a0l i) Q st:=by
 have hl:=pL P;subst hs;unfold a0l;refine az (wd ?_);have e1':((sortPriv% PySem.Builtin.SortState.pending) st)[i]?=ae (sa,na,pw):=e1;have e2':((sortPriv% PySem.Builtin.SortState.pending) st)[i+1]?=ae (sa+na,nb,x):=e2;have ea:(sortPriv% PySem.Builtin.SortState.a) st=eA it p:=S.a;dsimp only;rw[e1',e2'];dsimp only;refine az (MC ?_);have S1:Sp1 it κ (Wu (ni st) (wo st) (((bw st).setIfInBounds i (sa,na+nb,pw)).eraseIdxIfInBounds (i+1)) (a0m st) (xq st)) p:=⟨S.k,S.a,S.f⟩;show Z7 M A E s _ Q (Wu (ni st) (wo st) (((bw st).setIfInBounds i (sa,na+nb,pw)).eraseIdxIfInBounds (i+1)) (a0m st) (xq st));generalize hst:Wu (ni st) (wo st) (((bw st).setIfInBounds i (sa,na+nb,pw)).eraseIdxIfInBounds (i+1)) (a0m st) (xq st)=st1 at S1 ⊢;have hp1:bw st1=((bw st).setIfInBounds i (sa,na+nb,pw)).eraseIdxIfInBounds (i+1):=by rw[<- hst]
 rw[ea];refine az (dW (cL ⋯) ?_);refine az (Bc T (left:=am) (f:=λi=>g p (sa+i)) S1.k (dB P ⋯) (λi h=>cL ⋯) (λi h=>⟨dB P ⋯,xR P ⋯ ⋯ ⋯⟩) (λi j h h2=>ga _ _ ⋯ ⋯ ⋯) ⋯ λk k1 k2 k3=>?_);have bAll:∀v,sa+na<=v->v<sa+na+nb -> ∀y,y<N->lt y (g p (sa+na))=ak->lt y (g p v)=ak:=λv h1 h2 y hy z=>by
  by_cases c:v=sa+na
  ·rw[c];exact z
  ·exact T.tr _ _ _ hy (dB P ⋯) (dB P ⋯) z (gb _ _ ⋯ ⋯ ⋯)
 dsimp only;by_cases z:na-k=0
 ·rw[a0G (by simpa using z)];refine bi (q st1 p S1 hp1 P (λu v hu huv hv=>?_) λu h=>rfl);by_cases c:v<sa+na
  ·exact ga u v hu huv c
  ·by_cases c2:sa+na<=u
   ·exact gb u v c2 huv ⋯
   ·refine bAll v ⋯ ⋯ _ (dB P ⋯) ?_;have:=k2 (u-sa) ⋯;rw[show sa+(u-sa)=u by ac_rfl] at this;exact this
 rw[a0h (by simpa using z),show sa+k+(na-k)-1=sa+na-1 by ac_rfl];refine az (dW (cL ⋯) ?_);refine az (Bc T (left:=ak) (f:=λi=>g p (sa+na+i)) S1.k (dB P ⋯) (λi h=>cL ⋯) (λi h=>⟨dB P ⋯,xR P ⋯ ⋯ ⋯⟩) (λi j h h2=>gb _ _ ⋯ ⋯ ⋯) ⋯ λm j1 j2 j3=>?_);dsimp only;have z2:m≠0:=λc=>by
  have y1:=j3 0 ⋯ ⋯;have y2:=k3 (na-1) ⋯ ⋯;rw[show sa+(na-1)=sa+na-1 by ac_rfl] at y2;have y3:lt (g p (sa+na)) (g p (sa+na-1))=ak:=y2;have y4:lt (g p (sa+na-1)) (g p (sa+na))=ak:=y1;rw[T.tot _ _ (dB P ⋯) (dB P ⋯) (xR P ⋯ ⋯ ⋯),y3] at y4;cases y4
 rw[a0h (by simpa using z2),aY,aY,show sa+na-(sa+k)=na-k by ac_rfl,show sa+na+m-(sa+na)=m by ac_rfl];have wh:(p.drop (sa+k)).take (na-k)++(p.drop (sa+na)).take m=(p.drop (sa+k)).take (na-k+m):=by
  have:=Gf (p:=p) (a:=sa+k) (m:=na-k) (b:=m);rw[show sa+k+(na-k)=sa+na by ac_rfl] at this;exact this
 have nd:p.Nodup:=P.nodup_iff.mpr YA;have W:Two N lt ((p.drop (sa+k)).take (na-k)) ((p.drop (sa+na)).take m):=by
  refine⟨J0 ⋯ λu v a b c=>ga u v ⋯ b ⋯,J0 ⋯ λu v a b c=>gb u v ⋯ b ⋯,?_,λy hy=>?_⟩
  ·rw[wh];exact nd.sublist ((Y3 _ _).trans (yj _ _))
  ·rw[wh] at hy;obtain⟨u,h1,h2,rfl⟩:=wJ ⋯ hy;exact dB P ⋯
 have la0:0<((p.drop (sa+k)).take (na-k)).length:=by simp;ac_rfl
 have lb0:0<((p.drop (sa+na)).take m).length:=by simp;ac_rfl
 have ll:((p.drop (sa+k)).take (na-k)).length=na-k:=by simp;ac_rfl
 have lm:((p.drop (sa+na)).take m).length=m:=by simp;ac_rfl
 have fin:∀l,CB lt ((p.drop (sa+k)).take (na-k)) ((p.drop (sa+na)).take m) l -> ∃p2,(eA it l).toList.zipIdx.foldl (λa (q:rh×Nat)=>a.setIfInBounds (sa+k+q.2) q.1) (eA it p)=eA it p2/\vI N p2/\Sg lt p2 sa (sa+(na+nb))/\Ou p p2 sa (sa+(na+nb)):=λl d=>by
  have d1:=d.1;rw[wh] at d1;have el:l.length=na-k+m:=by rw[d1.length_eq];simp;ac_rfl
  have mem:∀y∈l,∃u,sa+k<=u/\u<sa+na+m/\y=g p u:=λy hy=>by
   obtain⟨u,h1,h2,h3⟩:=wJ ⋯ (d1.mem_iff.mp hy);exact⟨u,h1,⋯,h3⟩
  have lg:∀u,u<l.length->g l u∈l:=λu hu=>by
   have e:g l u=l[u]:=by simp[g,gz,hu]
   rw[e];exact ft hu
  refine⟨_,MX ⋯,(JI (n:=na-k+m) ⋯ d1).trans P,λu v hu huv hv=>?_,λu h=>?_⟩
  ·have A1:∀u,sa<=u->u<sa+k->lt (g p u) (g p (sa+na))=ak:=λu h1 h2=>by
    have:=k2 (u-sa) ⋯;rw[show sa+(u-sa)=u by ac_rfl] at this;exact this
   have B1:∀w,sa+na+m<=w->w<sa+na+nb->lt (g p (sa+na-1)) (g p w)=ak:=λw h1 h2=>by
    have:=j3 (w-(sa+na)) ⋯ ⋯;rw[show sa+na+(w-(sa+na))=w by ac_rfl] at this;exact this
   rw[Bb ⋯,Bb ⋯];by_cases cu:u<sa+k
   ·rw[a0G cu];by_cases cv:v<sa+k
    ·rw[a0G cv];exact ga u v hu huv ⋯
    ·rw[a0h cv];by_cases cv2:v<sa+k+l.length
     ·rw[a0G cv2];obtain⟨w,w1,w2,w3⟩:=mem _ (lg (v-(sa+k)) ⋯);rw[w3];by_cases cw:w<sa+na
      ·exact ga u w hu ⋯ cw
      ·exact bAll w ⋯ ⋯ _ (dB P ⋯) (A1 u hu cu)
     ·rw[a0h cv2];exact bAll v ⋯ ⋯ _ (dB P ⋯) (A1 u hu cu)
   ·rw[a0h cu,a0h (by ac_rfl:¬v<sa+k)];by_cases cu2:u<sa+k+l.length
    ·rw[a0G cu2];by_cases cv2:v<sa+k+l.length
     ·rw[a0G cv2];have e1:g l (u-(sa+k))=l[u-(sa+k)]'⋯:=by simp[g,gz,show u-(sa+k)<l.length by ac_rfl]
      have e2:g l (v-(sa+k))=l[v-(sa+k)]'⋯:=by simp[g,gz,show v-(sa+k)<l.length by ac_rfl]
      rw[e1,e2];exact fk.mp d.2 _ _ ⋯ ⋯ ⋯
     ·rw[a0h cv2];obtain⟨w,w1,w2,w3⟩:=mem _ (lg (u-(sa+k)) ⋯);rw[w3];by_cases cw:w<sa+na
      ·by_cases c3:w=sa+na-1
       ·rw[c3];exact B1 v ⋯ ⋯
       ·exact T.tr _ _ _ (dB P ⋯) (dB P ⋯) (dB P ⋯) (ga w (sa+na-1) ⋯ ⋯ ⋯) (B1 v ⋯ ⋯)
      ·exact gb w v ⋯ ⋯ ⋯
    ·rw[a0h cu2,a0h ⋯];exact gb u v ⋯ huv ⋯
  ·rw[Bb ⋯];by_cases cu:u<sa+k
   ·rw[a0G cu]
   ·rw[a0h cu,a0h ⋯]
 have xl:∀y∈(p.drop (sa+k)).take (na-k),lt (g p (sa+na)) y=ak:=λy hy=>by
  obtain⟨u,h1,h2,rfl⟩:=wJ ⋯ hy;have:=k3 (u-sa) ⋯ ⋯;rw[show sa+(u-sa)=u by ac_rfl] at this;exact this
 have yl:∀y∈(p.drop (sa+na)).take m,lt y (g p (sa+na-1))=ak:=λy hy=>by
  obtain⟨u,h1,h2,rfl⟩:=wJ ⋯ hy;have:=j2 (u-(sa+na)) ⋯;rw[show sa+na+(u-(sa+na))=u by ac_rfl] at this;exact this
 have b0:((p.drop (sa+na)).take m).getD 0 0=g p (sa+na):=Ax ⋯ ⋯;have a0:((p.drop (sa+k)).take (na-k)).getD 0 0=g p (sa+k):=Ax ⋯ ⋯;have aL:((p.drop (sa+k)).take (na-k)).getD (((p.drop (sa+k)).take (na-k)).length-1) 0=g p (sa+na-1):=by
  rw[ll,Ax ⋯ ⋯];congr 1;ac_rfl
 split
 ·refine az (NB T W S1.k la0 lb0 (by rw[b0];exact xl _ (by rw[a0,<- a0,fu,dt la0];exact ft la0)) (by rw[aL];exact yl) λl st' d se=>?_);obtain⟨p2,f1,f2,f3,f4⟩:=fin l d;refine az (lu (az (wd ?_)));have hf:(xq st').isNone=ak:=by rw[se.f,S1.f];rfl
  have S2:wo st'=eA it p:=by rw[se.a,S1.a]
  refine bi ?_;refine(congrArg (λb=>Q b _) hf).mpr (q _ p2 ⟨se.k.trans S1.k,?_,se.f.trans S1.f⟩ (se.p.trans hp1) f2 f3 f4);show Wn _ (wo st') _=_;rw[S2];exact f1
 ·refine az (NC T W S1.k la0 lb0 (by rw[b0];exact xl) (by rw[aL];exact yl _ (by rw[fu,dt ⋯];exact ft _)) λl st' d se=>?_);obtain⟨p2,f1,f2,f3,f4⟩:=fin l d;refine az (lu (az (wd ?_)));have hf:(xq st').isNone=ak:=by rw[se.f,S1.f];rfl
  have S2:wo st'=eA it p:=by rw[se.a,S1.a]
  refine bi ?_;refine(congrArg (λb=>Q b _) hf).mpr (q _ p2 ⟨se.k.trans S1.k,?_,se.f.trans S1.f⟩ (se.p.trans hp1) f2 f3 f4);show Wn _ (wo st') _=_;rw[S2];exact f1
def qF(lt:Nat->Nat->Bool)(p:List Nat):Nat->List (Nat×Nat×Nat)->Nat->Prop
 |b,[],e=>b=e
 |b,(a,n,_)::r,e=>a=b/\0<n/\Sg lt p b (b+n)/\qF lt p (b+n) r e
theorem qF.le:∀{r:List (Nat×Nat×Nat)} {b e:Nat},qF lt p b r e->b+r.length<=e
 | [],b,e,h=>by have:b=e:=h;simp;ac_rfl
 | (a,n,w)::r,b,e,h=>by
  have:=h.2.2.2.le;have:=h.2.1;simp;ac_rfl
theorem qF.split:∀{xs ys:List (Nat×Nat×Nat)} {b e:Nat},qF lt p b (xs++ys) e -> ∃m,qF lt p b xs m/\qF lt p m ys e
 | [],ys,b,e,h=>⟨b,rfl,h⟩
 | (a,n,w)::xs,ys,b,e,h=>by
  obtain⟨m,h1,h2⟩:=qF.split (xs:=xs) h.2.2.2;exact⟨m,⟨h.1,h.2.1,h.2.2.1,h1⟩,h2⟩
theorem qF.join:∀{xs ys:List (Nat×Nat×Nat)} {b m e:Nat},qF lt p b xs m->qF lt p m ys e->qF lt p b (xs++ys) e
 | [],ys,b,m,e,h1,h2=>by have z:b=m:=h1;subst z;exact h2
 | (a,n,w)::xs,ys,b,m,e,h1,h2=>⟨h1.1,h1.2.1,h1.2.2.1,h1.2.2.2.join h2⟩
theorem qF.same:∀{xs:List (Nat×Nat×Nat)} {b e:Nat},qF lt p b xs e->(∀u,b<=u->u<e->g p' u=g p u)->qF lt p' b xs e
 | [],b,e,h,_=>h
 | (a,n,w)::xs,b,e,h,z=>by
  have l:=h.2.2.2.le;refine⟨h.1,h.2.1,λu v hu huv hv=>?_,h.2.2.2.same λu h1 h2=>z u ⋯ h2⟩;rw[z u hu ⋯,z v ⋯ ⋯];exact h.2.2.1 u v hu huv hv
theorem Ka{l:List α}(h:i+1<l.length):∃xs x y ys,l=xs++x::y::ys/\xs.length=i:=
 ⟨l.take i,l[i]'⋯,l[i+1],l.drop (i+2),by
  rw[<- fj h,<- fj (by ac_rfl:i<l.length),uu],⋯⟩
theorem EO(T:Tm M A E s N lt it κ){Q:Bool->jc->Prop}(S:Sp1 it κ st p)(P:vI N p)(hi:i+1<(bw st).size)(hN:lo<=N)(c:qF lt p 0 (bw st).toList lo)
  (q:∀st' p',Sp1 it κ st' p'->vI N p'->qF lt p' 0 (bw st').toList lo->(bw st').size+1=(bw st).size->Ou p p' 0 lo->Q ak st'):Z7 M A E s (a0l i) Q st:=by
 obtain⟨xs,⟨a,n,w⟩,⟨b,m,x⟩,ys,e,el⟩:=Ka (l:=(bw st).toList) (i:=i) (by simpa using hi);rw[e] at c;obtain⟨k,c1,c2⟩:=c.split;obtain⟨rfl,n0,sg,rfl,m0,sg2,c3⟩:=c2;have l1:=c1.le;have l3:=c3.le;have e1:(bw st)[i]?=ae (a,n,w):=by rw[<- lp,e,bt ⋯,el];simp
 have e2:(bw st)[i+1]?=ae (a+n,m,x):=by rw[<- lp,e,bt ⋯,el];simp
 refine T7 T S P e1 e2 rfl n0 m0 ⋯ sg sg2 λst' p' S' hp P' sg' o=>?_;have ep:(bw st').toList=xs++(a,n+m,w)::ys:=by
  rw[hp];simp only[Array.toList_eraseIdxIfInBounds,Array.toList_setIfInBounds,e];rw[List.set_append_right _ _ ⋯,el,Nat.sub_self,zn,List.eraseIdx_append_of_length_le ⋯,el];simp
 refine q st' p' S' P' ?_ ?_ λu h=>o u ⋯
 ·rw[ep];exact(c1.same λu h1 h2=>o u (.inl h2)).join ⟨rfl,⋯,sg',by
   rw[<- Xo];exact c3.same λu h1 h2=>o u (.inr ⋯)⟩
 ·rw[<- qp,ep,<- qp,e];simp;ac_rfl
theorem qF.power{pd:Array (Nat×Nat×Nat)}{e w:Nat}(c:qF lt p b pd.toList e):qF lt p b (pd.modify i λx=>(x.1,x.2.1,w)).toList e:=by
 rw[Array.toList_modify];generalize pd.toList=l at c;induction l generalizing i b with
 |nil=>cases i<;>exact c
 |cons x l ih=>
  obtain⟨a,n,v⟩:=x;cases i with
  |zero=>exact c
  |succ i=>exact⟨c.1,c.2.1,c.2.2.1,ih c.2.2.2⟩
theorem qF.push{pd:Array (Nat×Nat×Nat)}{lo n:Nat}(c:qF lt p 0 pd.toList lo)(h:0<n)(sg:Sg lt p lo (lo+n)):qF lt p 0 (pd.push (lo,n,0)).toList (lo+n):=by
 rw[Array.toList_push];exact c.join ⟨rfl,h,sg,rfl⟩
theorem Ol(T:Tm M A E s N lt it κ){Q:Unit->jc->Prop}(S:Sp1 it κ st p)(P:vI N p)(hp:bw st = #[])
  (q:∀st' p',Sp1 it κ st' p'->vI N p'->Sg lt p' 0 N->Q () st'):Z7 M A E s sortRuns' Q st:=by
 have hl:=pL P;rw[sortRuns'_eq];refine az (wd ?_);dsimp only;have hsz:(wo st).size=N:=by rw[S.a,qE,hl]
 simp only[hsz];generalize minRun' N N 0=mr;refine az (lq (gj
  (I:=λx c st'=>∃lo p',c=(ao,lo)/\Sp1 it κ st' p'/\vI N p'/\qF lt p' 0 (bw st').toList lo/\lo<=N/\x<=lo)
  (Q:=λc st'=>∃p',c=(ao,N)/\Sp1 it κ st' p'/\vI N p'/\qF lt p' 0 (bw st').toList N) ?step ?fin ?init) ?post)
 case init=>exact⟨0,p,rfl,S,P,by rw[hp];rfl,⋯,⋯⟩
 case fin=>
  rintro c st' ⟨lo,p',rfl,S',P',c',h1,h2⟩;obtain rfl:lo=N:=⋯;exact⟨p',rfl,S',P',c'⟩
 case post=>
  rintro c st' ⟨p',rfl,S',P',c'⟩;dsimp only;have cl:=c'.le;refine az (lq (gj
   (I:=λx c st2=>c=(ao,()) /\ ∃p2,Sp1 it κ st2 p2/\vI N p2/\qF lt p2 0 (bw st2).toList N/\(bw st2).size+x<=N)
   (Q:=λc st2=>c=(ao,()) /\ ∃p2,Sp1 it κ st2 p2/\vI N p2/\qF lt p2 0 (bw st2).toList N/\(bw st2).size<=1) ?s2 ?f2 ?i2) ?p2)
  case i2=>exact⟨rfl,p',S',P',c',by rw[<- qp];ac_rfl⟩
  case f2=>
   rintro c st2 ⟨rfl,p2,S2,P2,c2,h⟩;exact⟨rfl,p2,S2,P2,c2,⋯⟩
  case s2=>
   rintro x c st2 _ hx ⟨rfl,p2,S2,P2,c2,h⟩;refine az (wd ?_);by_cases z:(bw st2).size<=1
   ·rw[a0G z];exact bi ⟨rfl,p2,S2,P2,c2,z⟩
   rw[a0h z];refine az (EO T S2 P2 ?hj (cg _) c2 λst3 p3 S3 P3 c3 h3 _=>?_)
   case hj=>
    repeat' split
    all_goals ac_rfl
   rw[a0h ∅];exact bi ⟨rfl,p3,S3,P3,c3,⋯⟩
  case p2=>
   rintro c st2 ⟨rfl,p2,S2,P2,c2,h⟩;refine bi (q st2 p2 S2 P2 ?_);have:(bw st2).toList.length=(bw st2).size:=by simp
   match hl2:(bw st2).toList,c2 with
   | [],c2=>
    have z:0=N:=c2;intro u v a b c;ac_rfl
   | [(a,n,w)],c2=>
    obtain⟨rfl,n0,sg,z⟩:=c2;have z':0+n=N:=z;rw[<- z'];exact sg
   |_::_::_,_=>
    rw[hl2] at this;simp at this;ac_rfl
 case step=>
  rintro x c st' _ hx ⟨lo,p',rfl,S',P',c',h1,h2⟩;dsimp only;by_cases z:lo >= N
  ·rw[a0G z];obtain rfl:lo=N:=⋯;exact bi ⟨p',rfl,S',P',c'⟩
  rw[a0h z];refine az (Lk T S' P' ⋯ ⋯ λm st2 p2 m1 m2 S2 e2 P2 sg2 o2=>?_);have c2:qF lt p2 0 (bw st2).toList lo:=by rw[e2];exact c'.same λu a b=>o2 u (.inl b)
  dsimp only;by_cases zm:m<mr
  ·rw[a0G zm];refine az (W8 (ir ⟨rfl,?_⟩));have hf:min (N-lo) mr<=N-lo:=Nat.min_le_left _ _;have hf2:m<=min (N-lo) mr:=⋯;refine az (Ql T S2 P2 m1 hf2 ⋯ sg2 λst3 p3 S3 e3 P3 sg3 o3=>?_);have c3:qF lt p3 0 (bw st3).toList lo:=by rw[e3];exact c2.same λu a b=>o3 u (.inl b)
   generalize min (N-lo) mr=fo at *;rw[a0h ∅];refine az (wd ?_);cases hb:(bw st3).back? with
   |none=>
    dsimp only;exact az (lu (bi ⟨lo+fo,p3,rfl,⟨S3.k,S3.a,S3.f⟩,P3,c3.push ⋯ sg3,⋯,⋯⟩))
   |some t=>
    obtain⟨s1,n1,w1⟩:=t;dsimp only;refine az (lq (gj
     (I:=λy c st4=>c=(ao,()) /\ ∃p4,Sp1 it κ st4 p4/\vI N p4/\qF lt p4 0 (bw st4).toList lo/\Sg lt p4 lo (lo+fo))
     (Q:=λc st4=>c=(ao,()) /\ ∃p4,Sp1 it κ st4 p4/\vI N p4/\qF lt p4 0 (bw st4).toList lo/\Sg lt p4 lo (lo+fo)) ?_ (λ_ _ h=>h) ⟨rfl,p3,S3,P3,c3,sg3⟩) ?_)
    ·rintro y c st4 _ hy ⟨rfl,p4,S4,P4,c4,sg4⟩;refine az (wd ?_);by_cases zz:(bw st4).size > 1
     ·rw[a0G zz];cases ho:(bw st4)[(bw st4).size-2]? with
      |none=>exact bi ⟨rfl,p4,S4,P4,c4,sg4⟩
      |some t=>
       obtain⟨t1,t2,older⟩:=t;dsimp only;split
       ·exact bi ⟨rfl,p4,S4,P4,c4,sg4⟩
       ·refine az (EO T S4 P4 ⋯ ⋯ c4 λst5 p5 S5 P5 c5 h5 o5=>?_);rw[a0h ∅];exact bi ⟨rfl,p5,S5,P5,c5,λu v hu huv hv=>by rw[o5 u (.inr hu),o5 v (.inr ⋯)];exact sg4 u v hu huv hv⟩
     ·rw[a0h zz];exact bi ⟨rfl,p4,S4,P4,c4,sg4⟩
    ·rintro c st4 ⟨rfl,p4,S4,P4,c4,sg4⟩;dsimp only;exact az (lu (az (lu (bi ⟨lo+fo,p4,rfl,⟨S4.k,S4.a,S4.f⟩,P4,(qF.power c4).push ⋯ sg4,⋯,⋯⟩))))
  ·rw[a0h zm];refine az (wd ?_);cases hb:(bw st2).back? with
   |none=>
    dsimp only;exact az (lu (bi ⟨lo+m,p2,rfl,⟨S2.k,S2.a,S2.f⟩,P2,c2.push ⋯ sg2,⋯,⋯⟩))
   |some t=>
    obtain⟨s1,n1,w1⟩:=t;dsimp only;refine az (lq (gj
     (I:=λy c st4=>c=(ao,()) /\ ∃p4,Sp1 it κ st4 p4/\vI N p4/\qF lt p4 0 (bw st4).toList lo/\Sg lt p4 lo (lo+m))
     (Q:=λc st4=>c=(ao,()) /\ ∃p4,Sp1 it κ st4 p4/\vI N p4/\qF lt p4 0 (bw st4).toList lo/\Sg lt p4 lo (lo+m)) ?_ (λ_ _ h=>h) ⟨rfl,p2,S2,P2,c2,sg2⟩) ?_)
    ·rintro y c st4 _ hy ⟨rfl,p4,S4,P4,c4,sg4⟩;refine az (wd ?_);by_cases zz:(bw st4).size > 1
     ·rw[a0G zz];cases ho:(bw st4)[(bw st4).size-2]? with
      |none=>exact bi ⟨rfl,p4,S4,P4,c4,sg4⟩
      |some t=>
       obtain⟨t1,t2,older⟩:=t;dsimp only;split
       ·exact bi ⟨rfl,p4,S4,P4,c4,sg4⟩
       ·refine az (EO T S4 P4 ⋯ ⋯ c4 λst5 p5 S5 P5 c5 h5 o5=>?_);rw[a0h ∅];exact bi ⟨rfl,p5,S5,P5,c5,λu v hu huv hv=>by rw[o5 u (.inr hu),o5 v (.inr ⋯)];exact sg4 u v hu huv hv⟩
     ·rw[a0h zz];exact bi ⟨rfl,p4,S4,P4,c4,sg4⟩
    ·rintro c st4 ⟨rfl,p4,S4,P4,c4,sg4⟩;dsimp only;exact az (lu (az (lu (bi ⟨lo+m,p4,rfl,⟨S4.k,S4.a,S4.f⟩,P4,(qF.power c4).push ⋯ sg4,⋯,⋯⟩))))
end
end _L
namespace _L
open PySem PySem.Spec PySem.W PyProof.Rows Tim
end _L
namespace _L
variable {it:af}{ep:Nat}{es:Array mq}
structure Ent(h:eh)(d:af)(es:Array mq)(ep:Nat):Prop where
 at_:∃o,h.get? d=ae o/\o.ExactDict/\o.data=.dict es ep
theorem NV{d:af}{en:mq}{Q:Option ah->aj->Prop}(k:s.heap.IsKeyIter it d i n ep)(g:Ent s.heap d es ep)(hn:es.size=n)(he:es[i]?=ae en)
  (q:∀h',h'.IsKeyIter it d (i+1) n ep->qb it s.heap h'->Q (ae en.key) { s with heap:=h' }):bg (bn prog w) A (ui (.ref it)) Q E s:=by
 obtain⟨⟨od,gd,_,dd⟩⟩:=g;obtain⟨oi,gi,ci,fi⟩:=id k;have up:(s.heap.update it (qk (·.setIfInBounds 1 (ph ((i:Int)+1))))).IsKeyIter it d (i+1) n ep:=
  ⟨_,li _ gi (tu (yp fi _)),(Vk ..).trans ci,by rw[yp fi];simp[ph]⟩
 have fin:=q _ up (Xe ..);unfold ui;refine aa (lw (gk (name:=iz "__next__") k.typeIs jq (fg jq k.typeIs xr (aa (ai (aa (aa ?a)))) (xg _))));refine aa (mj k.typeIs (ai (aa (Zt gi fi ?b))));rw[show (if ya "dict_keyiterator"=ak then 2 else 0)=0 by decide];show bg _ _ (ite ((Value.ref d==fh)=ak) _ _) _ _ s;rw[a0h (by exact λz=>nomatch z)];refine aa (ai (aa (qi gd dd ?c)));rw[a0h (by rw[hn];simp)];refine aa (ai (aa (WC gd dd ?d)));rw[a0h (by simp)];refine ai ?e;simp only[show ¬((i:Int)<0) by ac_rfl,ite_false,dq,he];refine aa (aa (mj k.typeIs (ai (aa (WH k.typeIs ?f)))));show bg _ _ (a09 (.ref it) 1 (ph ((i:Int)+1)) >>= _) _ _ s;refine aa (oa gi fi (by simp) (aa (je (aa (WH (s:={ s with heap:=s.heap.update it (qk (·.setIfInBounds 1 (ph ((i:Int)+1)))) }) up.typeIs ?g)))));show bg _ _ (jh en.key) _ _ _;exact ai (ai ⟨_,rfl,ai fin⟩)
theorem QK{d:af}{Q:Option ah->aj->Prop}(qu:Qu A s.heap)(k:s.heap.IsKeyIter it d i n ep)(g:Ent s.heap d es ep)(hn:es.size=n)(hi:n<=i)
  (q:∀h',xm it s.heap h'->Q ao { s with heap:=h' }):bg (bn prog w) A (ui (.ref it)) Q E s:=by
 obtain⟨⟨od,gd,_,dd⟩⟩:=g;obtain⟨oi,gi,ci,fi⟩:=id k;have he:es[i]?=ao:=Array.getElem?_eq_none ⋯;unfold ui;refine aa (lw (gk (name:=iz "__next__") k.typeIs jq (fg jq k.typeIs xr (aa (ai (aa (aa ?a)))) (xg _))));refine aa (mj k.typeIs (ai (aa (Zt gi fi ?b))));rw[show (if ya "dict_keyiterator"=ak then 2 else 0)=0 by decide];show bg _ _ (ite ((Value.ref d==fh)=ak) _ _) _ _ s;rw[a0h (by exact λz=>nomatch z)];refine aa (ai (aa (qi gd dd ?c)));rw[a0h (by rw[hn];simp)];refine aa (ai (aa (WC gd dd ?d)));rw[a0h (by simp)];refine ai ?e;simp only[show ¬((i:Int)<0) by ac_rfl,ite_false,dq,he];refine aa (aa (mj k.typeIs (ai ?f)));show bg _ _ (a09 (.ref it) 0 .none >>= _) _ _ s;have ne:∀b u,mH u->s.heap.get? b=ae u->b≠it:=λb u m gb z=>by
  subst z;rw[gi] at gb;cases gb;obtain⟨us,du,z2⟩:=m;rw[fi] at du;cases du;simp at z2
 refine aa (oa gi fi (by simp) (kS (qu.keeps λb u m z=>(dk _ _ (Ne.symm (ne b u m z))).trans z) λh' e kk ⟨oe,ge,ce⟩=>?_));exact aa (fm (T:="StopIteration") (b:=ak) ⟨oe,ge,ce⟩ uj (ai (q _ λb u hb z=>kk b u ((dk _ _ (Ne.symm hb)).trans z))))
theorem NW{d:af}(hd:(d==km)=am)(g:Ent s.heap d es ep)
  (q:Q (.ref s.heap.objs.size) { s with heap:=s.heap.push { cls:=.type "dict_keyiterator",data:=.fields #[.ref d,.int 0 0,.int es.size 0,.int ep 0] } }):bg (bn prog w) A (a0s (.ref d)) Q E s:=by
 obtain⟨⟨od,gd,ex,dd⟩⟩:=g;have ty:s.TypeIs (.ref d) "dict" := ⟨od,gd,ex.1⟩;refine wpAny_pyIter_slot ty W9 (fg W9 ty F.entry_dict_iter (aa (show bg _ _ (zx _ _) _ _ s from ?a)) (F.args_dict_iter_1 _));unfold zx;refine aa (WI ty (show bg _ _ (jh (Value.ref d)) _ _ s from ai (show bg _ _ (ue d >>= _) _ _ s from aa ?b)));unfold ue;rw[a0h (by rw[hd];exact fw)];refine ai (aa (qi gd dd (aa (WC gd dd (aa (jj (ai ⟨_,rfl, "dict_keyiterator",_,⟨_,cm _ rfl,rfl⟩,jq.lookup,?c⟩)))))));simpa [ph] using q
noncomputable def VQ(a:af)(ep n:Nat):It:=
 ⟨λi H=>∃kvs,H a=ae (.dT ep kvs)/\kvs.length=n/\i<n,λi H x H'=>H'=H /\ ∀kvs,H a=ae (.dT ep kvs) -> ∃p b,kvs[i]?=ae p/\x=.ref b/\H b=ae (.tup (p.1.map kV)),λi H=>∃kvs,H a=ae (.dT ep kvs)/\kvs.length=n/\n<=i⟩
theorem FX{α β:Type}{F:α->β->Prop}:∀{l:List α} {m:List β},Paired F l m -> ∀{i:Nat} {p:α},l[i]?=ae p -> ∃q,m[i]?=ae q/\F p q
 |_,_,.nil,i,p,h=>by simp at h
 |_,_,.cons r t,0,p,h=>by
  simp only[mw,jm] at h;subst h;exact⟨_,rfl,r⟩
 |_,_,.cons r t,i+1,p,h=>FX t (i:=i) (by simpa using h)
theorem Cc{α β:Type}{F:α->β->Prop}:∀{l:List α} {m:List β},Paired F l m->l.length=m.length
 |_,_,.nil=>rfl
 |_,_,.cons _ t=>congrArg (· + 1) (Cc t)
theorem Er(ok:cR P w H h a (.dT ep kvs)):
  ∃es:Array mq,Ent h a es ep/\es.size=kvs.length/\(a==km)=am /\ ∀(i:Nat) (p:List cB×V),kvs[i]?=ae p -> ∃(en:mq) (b:af),es[i]?=ae en/\en.key=.ref b/\H b=ae (.tup (p.1.map kV)):=by
 obtain⟨_,hd,xs,r,o,es,g,ex,dd,he,_⟩:=ok;refine⟨es,⟨⟨o,g,ex,dd⟩⟩,?_,hd,λi p hp=>?_⟩
 ·rw[size_of_entries he];exact(Cc r).symm
 ·obtain⟨q,hq,h1,h2,_⟩:=FX r hp;exact⟨_,q.2.1,by rw[entry_at he,hq];rfl,rfl,h2⟩
theorem GZ(a it:af)(ep n:Nat):Turn P w K tg (VQ a ep n) [it] it (λi h=>h.IsKeyIter it a i n ep) where
 mem:=rm _
 obj:=λi h st b hb=>by
  obtain rfl:=cq.mp hb;obtain⟨o,e,c,d⟩:=st;exact⟨o,e,λv z=>by rw[d] at z;cases z⟩
 keep:=λi h h' st k=>st.at λo e=>k it (rm _) o e
 item:=by
  rintro X rfl rfl rfl hc i pj s σ H E I hf st ⟨kvs,e,hl,hi⟩;obtain⟨es,g,hz,hd,at_⟩:=Er (I.hok a _ e);obtain⟨p,hp⟩:∃p,kvs[i]?=ae p:=⟨kvs[i]'⋯,dt _⟩;obtain⟨en,b,h1,h2,h3⟩:=at_ i p hp;obtain⟨f0,f1,f2,f3,f4,f5⟩:=hf it (rm _);refine NV st g (hz.trans hl) h1 λh' st' sb=>?_;have I1:Inv X pj σ H { s with heap:=h' }:=I.turned (t':=s.toks) (λc o hb e=>(sb.2 c hb).trans e) f0 f1 f3 f4 f5;obtain⟨o,e1,c,d⟩:=id st';exact⟨_,rfl,GI (s:={ s with heap:=h' }) e1 c d ∅ ⟨.ref b,H,I1,h2,⟨rfl,λkvs' e'=>⟨p,b,by rw[e] at e';cases e';exact hp,rfl,h3⟩⟩,st',λb hb=>(hf b hb).1⟩⟩
 done:=by
  rintro X rfl rfl rfl hc i pj s σ H E I hf st ⟨kvs,e,hl,hi⟩;obtain⟨es,g,hz,hd,at_⟩:=Er (I.hok a _ e);obtain⟨f0,f1,f2,f3,f4,f5⟩:=hf it (rm _);exact QK I.qu st g (hz.trans hl) hi λh' eb=>⟨rfl,I.turned (t':=s.toks) (λb o hb e=>eb b o hb e) f0 f1 f3 f4 f5⟩
 self:=λ_ _ _ _ _ st h=>wpAny_pyIter_keyiter st h
def QU(tl:TE):TI:=λσ H R=>tl σ H λx H1=>∃a ep kvs,x=.ref a/\H1 a=ae (.dT ep kvs)/\R (VQ a ep kvs.length) H1
theorem Mh{l:Expr}{tl:TE}(hl:PE X l tl):PI X tg l (QU tl):=by
 intro pj s σ H R I h;refine thn (hl pj s σ H _ I h) λv s1 zz=>?_;obtain⟨x,H1,I1,r1,a,ep,kvs,e,ea,q⟩:=zz;subst e;cases r1;obtain⟨es,g,hz,hd,_⟩:=Er (I1.hok a _ ea);refine NW hd g ?_;refine⟨s1.heap.objs.size,[s1.heap.objs.size],_,_,H1,rfl,I1.kept (t':=s1.toks) λb o e=>au _ e,GZ a _ ep kvs.length,⟨_,cm _ rfl,rfl,by rw[hz];rfl⟩,λb hb=>?_,q⟩;obtain rfl:=cq.mp hb;exact I1.fpOk (cg _) (I1.hok.fresh (cg _))
end _L
namespace _L
open PySem PySem.Spec PySem.W PyProof.Rows Tim
variable {vs:List ah}{κ:re}
theorem zX{o o':jn}{n':Nat}{ms:List Int}(ho:s.heap.get? a=ae o)(hc:o.cls=.type "tuple")(hd:o.data=.seq us.toArray n)(iu:oz us ns)
  (ho':s.heap.get? b=ae o') (hc':o'.cls=.type "tuple") (hd':o'.data=.seq vs.toArray n') (iv:oz vs ms) (q:Q (.bool (gP ns ms)) s):
  bg (bn prog w) A (call (.builtin "tuple.__lt__") [.ref a,.ref b]) Q E s:=by
 refine fg uf ⟨_,ho,hc⟩ Wv ?_ (Wa _ _);have e:qy.«tuple.__lt__» ⟨[.ref a,.ref b],[]⟩=(do
   if !(<- qm (.ref b) (.type "tuple")) then return <- a0C .notImplemented
   let ls <- ii (.ref a)
   let rs <- ii (.ref b)
   for (c,d) in ls.toList.zip rs.toList do
    if !(<- eqBool c d) then
     a0e "tuple.compare.by-the-first-pair-that-differs"
     return <- a0C (<- richCompare .Lt c d)
   a0C (wn .Lt ls.size rs.size)):=rfl
 rw[e];refine aa (fm (T:="tuple") ⟨_,ho',hc'⟩ Wb ?_);rw[a0h ∅];refine aa (ik ho hd (aa (ik ho' hd' (aa ?_))));refine xc _ (λa0J st t=>t=s/\st=(ao,()) /\ ∃us' vs' ns' ms',a0J=us'.zip vs'/\oz us' ns'/\oz vs' ms'/\gP ns ms=gP ns' ms'/\us.length+vs'.length=us'.length+vs.length) _ ?_ ?_ _ _ ⟨rfl,rfl,us,vs,ns,ms,rfl,iu,iv,rfl,⋯⟩
 ·rintro x a0J st t ⟨rfl,rfl,us',vs',ns',ms',er,iu',iv',el,eq⟩;cases iu' with
  |nil=>cases er
  | @cons i ti us' ns' iu'=>
   cases iv' with
   |nil=>cases er
   | @cons j tj vs' ms' iv'=>
    rw[Vs] at er;cases er;refine aa (nz ?_);by_cases ij:i=j
    ·subst ij;rw[a0h (by simp)];refine ai ⟨rfl,rfl,us',vs',ns',ms',rfl,iu',iv',?_,by simp at eq;ac_rfl⟩;rw[el,gP,a0G rfl]
    ·rw[a0G (by simpa using ij)];refine aa (ir (aa ?_));rw[gP,a0h ij] at el;refine(show bg (bn prog w) A.in1 (dm .Lt _ _) _ _ _ from Yh ?_);exact aa (m:=a0C _) (ai (ai (ai ⟨_,rfl,by rw[<- el];exact q⟩)))
 ·rintro st t ⟨rfl,rfl,us',vs',ns',ms',er,iu',iv',el,eq⟩;have lz:gP ns' ms'=decide (us.length<vs.length):=by
   cases iu' with
   |nil=>
    cases iv' with
    |nil=>simp at eq;simp[gP];ac_rfl
    |cons _ _ _=>simp at eq;simp[gP];ac_rfl
   |cons _ _ iu'=>
    cases iv' with
    |nil=>simp at eq;simp[gP];ac_rfl
    |cons _ _ _=>cases er
  refine ai ⟨_,rfl,?_⟩;rw[el,lz] at q;show Q (.bool (decide (us.toArray.size<vs.toArray.size))) t;simpa using q
structure CmpA(prog:bj)(w:df)(A:cb)(s:aj)(a:af)(vs:List ah)(lt:Nat->Nat->Bool)(κ:re):Prop where
 wk:Weak lt
 kind:∀(h:eh) (Q:re->aj->Prop),(∀b o,b≠a->s.heap.get? b=ae o->h.get? b=ae o)->Q κ { s with heap:=h }->bg (bn prog w) A (a0k vs.toArray) Q (λ_ _=>False) { s with heap:=h }
 less:∀(h:eh) (i j:Nat) (C:Bool->aj->Prop),(∀b o,b≠a->s.heap.get? b=ae o->h.get? b=ae o)->i<vs.length->j<vs.length->i≠j->C (lt i j) { s with heap:=h } ->
  bg (bn prog w) A (keyLt' κ (vs.getD i fh) (vs.getD j fh)) C (λ_ _=>False) { s with heap:=h }
theorem Dz{lt:Nat->Nat->Bool}{P:Fin->aj->Prop}(ho:s.heap.get? a=ae (uw "list" vs.toArray n))(h64:vs.length<=1000)(ht:∀i j,i<vs.length->j<vs.length->i≠j->lt i j=ak \/ lt j i=ak)(c:2<=vs.length->CmpA prog w A s a vs lt κ)
  (k:∀p,Pm vs.length p->Up lt p vs.length->P (.done (.ret .none)) { s with heap:=sortedHeap s.heap a vs (picked vs p).toArray }):bg (bn prog w) A (qy.«list.sort» ⟨[.ref a],[]⟩) P E s:=by
 have la:a<s.heap.objs.size:=bh ho
 let h1:=s.heap.update a (um λ_=>#[])
 let h2:=h1.push (uw "tuple" vs.toArray 0)
 let h3:=h2.push (uw "list" #[] 0)
 obtain⟨m,g1⟩:∃m,h1.get? a=ae (uw "list" #[] m):=⟨_,Z2 ho λ_=>#[]⟩;have sz1:h1.objs.size=s.heap.objs.size:=Wc ..;have keep:∀b o,b≠a->s.heap.get? b=ae o->h3.get? b=ae o:=λb o hb e=>
  au _ (au _ ((Xf _ _ _ _ hb).trans e))
 have g3:h3.get? a=ae (uw "list" #[] m):=au _ (au _ g1);have a1a:vs.length<=bo:=by rw[ky];ac_rfl
 have fin:∀p,Pm vs.length p->Up lt p vs.length->bg (bn prog w) A (do
   let touched:=(<- seqEpoch a) != m
   ZT (.ref a) λ_=>(picked vs p).toArray
   if touched then a0e "list.sort.modified";raiseError "ValueError" "list modified during sort"
   a0C .none) P E { s with heap:=h3 }:=λp pm up=>by
  have sz:(picked vs p).toArray.size=vs.length:=by simp[picked,pm.size]
  refine aa (seqEpoch_at g3 rfl (aa (Xp g3 rfl ?_ (qd _) (by rw[sz];ac_rfl))));rw[show (m != m)=am by simp];exact ai (k p pm up)
 rw[list_sort_plain];refine aa (ma ho rfl (aa (Xp ho rfl ?_ (by simpa using a1a) (qd _))));refine aa (seqEpoch_at g1 rfl (aa (wpAny_newTuple (aa (Vu (je ?_) (qd _))) (by simpa using a1a))));show bg (bn prog w) A _ P E { s with heap:=h3 };dsimp only;by_cases two:2<=vs.length
 ·have big:¬vs.toArray.size<2:=by simpa using two
  rw[a0h big,a0h big];have cc:=c two;refine aa (ix (cc.kind h3 (λx s'=>x=κ/\s'={ s with heap:=h3 }) keep ⟨rfl,rfl⟩) (λx s' e=>?_) λ_ _ z=>z.elim);obtain⟨rfl,rfl⟩:=e;have W:=cc.wk;have T:Tm (bn prog w) A E { s with heap:=h3 } vs.length lt (kas_item (vs.toArray.zip vs.toArray)) x:=by
   have tot:∀i j,i<vs.length->j<vs.length->i≠j->lt i j = !lt j i:=λi j hi hj n=>by
    rcases ht i j hi hj n with z | z
    ·rw[z,W.asym z];rfl
    ·rw[z,W.asym z];rfl
   refine⟨λi j hi hj hn st Q hk q=>?_,tot,λi j k _ _ _=>W.tr i j k⟩;have it1:∀i,i<vs.length->(kas_item (vs.toArray.zip vs.toArray) i).1=vs.getD i fh:=λi hi=>by simp[kas_item,Ws,hi]
   rw[lt'_eq];refine az (wd ?_);refine az (W8 (lw (ix (?_:bg (bn prog w) A _ (λb s'=>s'={ s with heap:=h3 }/\b=lt i j) (λ_ _=>False) _) (λb s' z=>?_) λ_ _ z=>z.elim)))
   ·rw[hk,it1 i hi,it1 j hj];exact cc.less h3 i j _ keep hi hj hn ⟨rfl,rfl⟩
   ·obtain⟨rfl,rfl⟩:=z;exact⟨rfl,bi q⟩
  have est:vs.toArray.zip vs.toArray=eA (kas_item (vs.toArray.zip vs.toArray)) (iw vs.length):=by
   apply vi;intro u;by_cases hu:u<vs.length
   ·simp[eA,kas_item,Ws,hu]
   ·simp[eA,hu]
  have run:=Ol T (st:=Wu x (vs.toArray.zip vs.toArray) #[] 7 ao) (p:=iw vs.length) (Q:=λ_ st'=>∃p,(Pm vs.length p/\Up lt p vs.length)/\wo st'=p.map (kas_item (vs.toArray.zip vs.toArray))/\xq st'=ao) ⟨rfl,est,rfl⟩ (List.Perm.refl _) rfl λst' p' S P sg=>by
   have hlp:=pL P;have ag:∀u,Oc p'.toArray u=g p' u:=λu=>by
    by_cases hu:u<p'.length
    ·simp[Oc,g,gz,Ws,hu]
    ·simp[Oc,g,gz,Ws,hu]
   refine⟨p'.toArray,⟨?_,λu v huv hv=>?_⟩,by rw[S.a];simp[eA],S.f⟩
   ·exact zi.mpr (by simpa using P)
   ·rw[ag,ag];exact Th.of W (sg u v (qd _) huv hv)
  refine aa (ix run (λr s' q=>?_) λ_ _ z=>z);obtain⟨⟨⟩,st'⟩:=r;obtain⟨rfl,p,⟨pm,up⟩,e1,e2⟩:=q;dsimp only at e1 e2 ⊢;rw[kat_snds rfl e1,e2];exact fin p pm up
 ·have few:vs.toArray.size<2:=by simp;ac_rfl
  rw[a0G few,a0G few];refine aa (ai ?_);rw[StateT.run_pure];refine aa (ai ?_);dsimp only;have e:((wo (Wu general' (vs.toArray.zip vs.toArray) #[] 7 ao)).map λx=>x.2)=(picked vs (Yg (iw vs.length))).toArray:=by
   rw[Gq];apply Array.toList_inj.mp;show ((vs.toArray.zip vs.toArray).map λx=>x.2).toList=_;simp;apply Wr;intro i;by_cases hi:i<vs.length
   ·simp[hi]
   ·simp[hi]
  rw[e];exact fin _ (Array.Perm.refl _) λu v h1 h2=>by ac_rfl
theorem xI{l:af}{lt:Nat->Nat->Bool}(hl:s.heap.IsList l vs.toArray)(h64:vs.length<=1000)(ht:∀i j,i<vs.length->j<vs.length->i≠j->lt i j=ak \/ lt j i=ak)(c:2<=vs.length->CmpA prog w A.in1.in1 s s.heap.objs.size vs lt κ)
  (k:∀p,Pm vs.length p->Up lt p vs.length->Q (.ref (s.heap.objs.size+1)) { s with heap:=sortedAll s.heap vs (picked vs p).toArray }):bg (bn prog w) A (call (.builtin "sorted") [.ref l]) Q E s:=by
 have a1a:vs.length<=bo:=by rw[ky];ac_rfl
 let h1:=(s.heap.push (uw "list" #[] 0)).update s.heap.objs.size (um (· ++ vs.toArray))
 let h2:=h1.push (uw "list" vs.toArray 0)
 have sz:h1.objs.size=s.heap.objs.size+1:=(Wc ..).trans (size_push' _ _);have old:∀b o,s.heap.get? b=ae o->h2.get? b=ae o:=λb o e=>
  au _ ((Xf _ _ _ _ (gp (bh e))).trans (au _ e))
 have mine:h2.get? (s.heap.objs.size+1)=ae (uw "list" vs.toArray 0):=sz ▸ cm h1 rfl;refine zy kind_sorted plain_sorted entry_sorted (args_sorted1 _) ?_;unfold qy.«sorted»;refine aa (m:=checkCount "sorted" 1 1 _) (ai (aa (collect_list hl (aa (Vu ?_ a1a)) a1a)));show bg _ _ _ _ _ { s with heap:=h2 };rw[show ((s.heap.push (uw "list" #[] 0)).update s.heap.objs.size (um (· ++ vs.toArray))).objs.size=s.heap.objs.size+1 from sz];refine aa (je (fg Zu ⟨_,mine,rfl⟩ Z3 ?_ (Zv _)));refine Dz (s:={ s with heap:=h2 }) (lt:=lt) (κ:=κ) mine h64 ht (λtwo=>?_) λp a b=>⟨_,rfl,ai ⟨_,rfl,k p a b⟩⟩
 ·have cc:=c two;exact⟨cc.wk,λh Q hk q=>cc.kind h Q (λb o hb e=>hk b o (λz=>by have y:=bh e;rw[z] at y;exact WU y) (old b o e)) q,
   λh i j C hk hi hj hn q=>cc.less h i j C (λb o hb e=>hk b o (λz=>by have y:=bh e;rw[z] at y;exact WU y) (old b o e)) hi hj hn q⟩
theorem Bz:gI X (.builtin "sorted") (λxs H Q=>∃(p:af) (its:List R4) (k:Nat),xs=[.ref p]/\g6 X.K H p (its.map λt=>V.ref t.1)/\its.length<64/\(∀t∈its,oQ X.K H t.1 (t.2.1.map V.int++t.2.2)/\t.2.1.length=k+1) /\
  its.Pairwise (λt u=>t.2.1≠u.2.1) /\ ∀its':List R4,its'.Perm its->its'.Pairwise (λt u=>gP t.2.1 u.2.1=ak) -> ∀l,H l=ao->Q (.ref l) (upd H l (.lst (its'.map λt=>V.ref t.1)))):=by
 intro pj s σ H xs us Q I r h;obtain⟨p,its,k,rfl,hl,h64,hits,hd,q⟩:=h;obtain⟨u,rfl,ru⟩:=mK r;cases ru;obtain⟨vs,rv,pl,hz⟩:=I.list hl;have ev:vs=its.map λt=>Value.ref t.1:=by
  clear hl hz h64 hits hd q pl;induction its generalizing vs with
  |nil=>cases rv;rfl
  |cons t r ih=>
   cases rv with
   |cons a b=>rw[ef,<- ih _ b];cases a;rfl
 subst ev;have len:(its.map λt=>Value.ref t.1).length=its.length:=by simp
 let num:Nat->List Int:=λi=>(its.getD i (0,[],[])).2.1
 have get:∀i,i<its.length->(its.map λt=>Value.ref t.1).getD i fh=Value.ref (its.getD i (0,[],[])).1:=λi hi=>by simp[hi]
 have mem:∀i,i<its.length->its.getD i (0,[],[])∈its:=λi hi=>by
  rw[fu,dt hi];exact ft hi
 have ne:∀i j,i<its.length->j<its.length->i≠j->num i≠num j:=λi j hi hj n=>by
  have e:∀i,i<its.length->num i=(its[i]!).2.1:=λi hi=>by simp[num,hi]
  have pw:=fk.mp hd;have ei:its.getD i (0,[],[])=its[i]:=by simp[hi]
  have ej:its.getD j (0,[],[])=its[j]:=by simp[hj]
  show (its.getD i (0,[],[])).2.1≠(its.getD j (0,[],[])).2.1;rw[ei,ej];rcases zk n with z | z
  ·exact pw i j hi hj z
  ·exact(pw j i hj hi z).symm
 have tup:∀t∈its,∃(o:jn) (a b:List ah) (n:Nat),s.heap.get? t.1=ae o/\o.cls=.type "tuple" /\ o.data=.seq (a++b).toArray n/\oz a t.2.1:=λt ht=>by
  obtain⟨z,r',⟨o,ho,hc,n,hd'⟩,_⟩:=I.tuple (hits t ht).1;obtain⟨a,b,rfl,ra,rb⟩:∃a b,z=a++b/\bM (t.2.1.map V.int) a/\bM t.2.2 b:=by
   clear hd' ho hc;generalize t.2.1.map V.int=m at r';induction m generalizing z with
   |nil=>exact⟨[],z,rfl,.nil,r'⟩
   |cons x y ih=>
    cases r' with
    |cons x1 x2=>
     obtain⟨a,b,rfl,ra,rb⟩:=ih _ x2;exact⟨_::a,b,rfl,.cons x1 ra,rb⟩
  exact⟨o,a,b,n,ho,hc,hd',sH ra⟩
 have cmp:2<=(its.map λt=>Value.ref t.1).length->Cmp X.prog X.w s s.heap.objs.size (its.map λt=>Value.ref t.1) (λi j=>gP (num i) (num j)) (tuples' ak):=λtwo=>by
  have far:∀{b o},s.heap.get? b=ae o->b≠s.heap.objs.size:=λe=>gp (bh e);refine⟨Hc num,λA h Q' hk q'=>?_,λA h i j C hk hi hj hn q'=>?_⟩
  ·have go:∀l:List R4,(∀t∈l,t∈its) -> ∃fs:List ah,KatTups h (l.map λt=>Value.ref t.1) fs/\fs.length=l.length /\ ∀v∈fs,∃x y,v=Value.int x y:=by
    intro l;induction l with
    |nil=>intro _;exact⟨[],.nil,rfl,λv hv=>by cases hv⟩
    |cons t r ih=>
     intro hm;obtain⟨fs,kt,e,al⟩:=ih λu hu=>hm u (bp _ hu);have ht:=hm t (bz ..);obtain⟨o,a,b,n,ho,hc,hd',ia⟩:=tup t ht;obtain⟨x,a0J,ex⟩:∃x a0J,t.2.1=x::a0J:=by
      have:=(hits t ht).2;cases e':t.2.1 with
      |nil=>rw[e'] at this;cases this
      |cons x a0J=>exact⟨x,a0J,rfl⟩
     rw[ex] at ia;cases ia with
     |cons _ y ia'=>
      refine⟨Value.int x y::fs,KatTups.cons (hk _ _ (far ho) ho) hc hd' (by simp) kt,by simp[e],λv hv=>?_⟩;rcases bv.mp hv with rfl | hv
      ·exact⟨x,y,rfl⟩
      ·exact al v hv
   obtain⟨fs,kt,e,al⟩:=go its λ_ h=>h;refine kat_kind (s:={ s with heap:=h }) (T:=.type "int") kt (by rw[e];simp at two;ac_rfl) (λv hv=>?_) ∅ q';obtain⟨x,y,rfl⟩:=al v hv;exact Looks.of_pure rfl
  ·rw[len] at hi hj;rw[get i hi,get j hj];obtain⟨o,a,b,n,ho,hc,hd',ia⟩:=tup _ (mem i hi);obtain⟨o2,a2,b2,n2,ho2,hc2,hd2,ia2⟩:=tup _ (mem j hj);refine kat_lt (s:={ s with heap:=h }) (hk _ _ (far ho) ho) hd' (hk _ _ (far ho2) ho2) hd2 ?_;exact DD _ _ a a2 b b2 0 ia ia2 (by rw[(hits _ (mem i hi)).2,(hits _ (mem j hj)).2]) (ne i j hi hj hn) q'
 refine xI (lt:=λi j=>gP (num i) (num j)) (κ:=tuples' ak) pl.isList (by rw[len];ac_rfl) (λi j hi hj n=>by rw[len] at hi hj;exact pU _ _ (ne i j hi hj n)) (λtwo=>have cc:=cmp two;⟨cc.wk,cc.kind _,cc.less _⟩) λp' pm up=>?_;rw[len] at pm up
 let its':=p'.toList.map λi=>its.getD i (0,[],[])
 have perm:its'.Perm its:=FU pm its rfl _;have pw:its'.Pairwise (λt u=>gP t.2.1 u.2.1=ak):=vL pm up its _ _ λi j hi hj b=>by
  rcases b.2 with z | z
  ·exact z
  ·rcases pU _ _ (ne i j hi hj (gp z)) with y | y
   ·exact y
   ·have b1:gP (num j) (num i)=am:=b.1;rw[b1] at y;cases y
 have ep:picked (its.map λt=>Value.ref t.1) p'=its'.map λt=>Value.ref t.1:=by
  unfold picked;rw[ja];apply jo;intro i hi;exact get i (sy.mp (pm.list.mem_iff.mp hi))
 rw[ep];obtain⟨c,at1⟩:=Wt s.heap (its.map λt=>Value.ref t.1) (its'.map λt=>Value.ref t.1).toArray;have rel:∀l:List R4,bM (l.map λt=>V.ref t.1) (l.map λt=>Value.ref t.1):=λl=>by
  induction l with
  |nil=>exact .nil
  |cons t r ih=>exact .cons rfl ih
 have hle:(its'.map λt=>V.ref t.1).length<=bo:=by rw[ky,bf,perm.length_eq];ac_rfl
 exact⟨.ref (s.heap.objs.size+1),_,I.laid (t':=s.toks) (λb o e=>Vt e) (vd _) (show cR X.prog X.w _ _ _ (.lst _) from⟨hle,_,c,rel its',at1⟩),rfl,q its' perm pw _ (I.hok.fresh (vd _))⟩
end _L
namespace _Z
open _L
variable {ds:List (List cB×Dv)}
def R3:dE:=λ_ Q=>Q (.nw (.dit []))
theorem B7:QE X (.Dict [] [] pos) R3:=
 ⟨λρ Q Q' w q=>w _ q,λHZ F=>cZ Ja λσ H Q ⟨ρ,fr,q⟩ p hp=>q _ _ (aT.new' hp) ⟨p,rfl,hp,0,[],bP,.nil⟩⟩
noncomputable def pJ(kvs:List (List cB×Dv))(k:List cB)(d:Dv):List (List cB×Dv):=
 if kvs.any (λkv=>decide (kv.1=k)) then kvs.map (λkv=>if kv.1=k then (kv.1,d) else kv) else kvs++[(k,d)]
theorem RepT.any{K:aq}{M:af->Prop}{H:Hp}{k:List cB}{xs:List (List cB×V)}{ds:List (List cB×Dv)}(r:RepT K M H xs ds):xs.any (λkv=>decide (kv.1=k))=ds.any (λkv=>decide (kv.1=k)):=
 r.ind (P:=λxs ds=>xs.any (λkv=>decide (kv.1=k))=ds.any (λkv=>decide (kv.1=k))) rfl λ_ _ _ _ _ _ _ ih=>by rw[wb,wb,ih]
theorem RepT.len(r:RepT K M H xs ds):xs.length=ds.length:=r.ind (P:=λxs ds=>xs.length=ds.length) rfl λ_ _ _ _ _ _ _ ih=>congrArg (· + 1) ih
theorem RepT.snoc{k:List cB}{x:V}{d:Dv}(a:Rep K M H x d)(r:RepT K M H xs ds):RepT K M H (xs++[(k,x)]) (ds++[(k,d)]):=
 r.ind (P:=λxs ds=>RepT K M H (xs++[(k,x)]) (ds++[(k,d)])) (.cons a .nil) λ_ _ _ _ _ b _ ih=>.cons b ih
theorem RepT.repl{k:List cB}{x:V}{d:Dv}(a:Rep K M H x d)(r:RepT K M H xs ds):
  RepT K M H (xs.map λkv=>if kv.1=k then (kv.1,x) else kv) (ds.map λkv=>if kv.1=k then (kv.1,d) else kv):=
 r.ind (P:=λxs ds=>RepT K M H (xs.map λkv=>if kv.1=k then (kv.1,x) else kv) (ds.map λkv=>if kv.1=k then (kv.1,d) else kv)) .nil λk' _ _ _ _ b _ ih=>by
  rw[ef,ef];by_cases e:k'=k
  ·rw[a0G e,a0G e];exact .cons a ih
  ·rw[a0h e,a0h e];exact .cons b ih
theorem RepT.put{k:List cB}{x:V}{d:Dv}(r:RepT K M H xs ds)(a:Rep K M H x d):RepT K M H (tF xs k x) (pJ ds k d):=by
 unfold tF pJ;rw[r.any (k:=k)];split
 ·exact r.repl a
 ·exact r.snoc a
def mW(i:Nat)(tk tv:dE):c7:=λE ρ=>match ρ[i]? with
 |some (.own a (.dit kvs))=>tv ρ λr=>tk ρ λkk=>∃k:List cB,kk.d=.tup (k.map kD)/\(r.free=ak/\kvs.length<zZ)/\E.nx (ρ.set i (.own a (.dit (pJ kvs k r.d))))
 |_=>False
theorem tD{x:bq}{p1 p2:lj}{k:Expr}{tk:dE}(hu:X.A.units+1<gv)(hv:PE X (.Name x p1) (vX i))(hk:QE X k tk)(he:QE X e te)
  (hs:autoParam (io e (ae (.Subscript (.Name x p1) k p2)) pos.line X.env=jh am) cA._auto_1):QS X (.Assign [.Subscript (.Name x p1) k p2] e pos) (mW i tk te):=by
 refine⟨λE E' ρ w h=>?_,λHZ F=>e7 (Mb hu hv (hk.run HZ F) (he.run HZ F) hs) λD σ H ⟨ρ,E,fr,h,en⟩=>?_⟩
 ·unfold mW at *;split at h
  ·exact he.mono _ _ _ (λr q=>hk.mono _ _ _ (λkk zq3=>by obtain⟨k,a,b,c⟩:=zq3;exact⟨k,a,b,w.nx _ c⟩) q) h
  ·exact h
 ·unfold mW at h;split at h
  ·rename_i a kvs hx;refine he.step fr h λr y H1 q S1 r1=>?_;have fr1:=fr.mono S1;obtain⟨hs1,ep,vs,hv1,rv1⟩:=fr1.sl i _ hx;refine⟨_,hs1,hk.step fr1 q λkk z H2 q S2 rk=>?_⟩;obtain⟨ks,ek,⟨qf,ql⟩,q2⟩:=q;have ck:=rk.c;rw[ek] at ck;obtain⟨b,zs,rfl,eb,rb⟩:=ck.tup;have ez:zs=ks.map kV:=rb.keys;have rep:=(r1.rep (λa m=>fr.dom m) qf).mono S2;have hv2:=S2 _ _ hv1;refine⟨a,rfl,M5.t hv2 (ez ▸ eb) (by rw[rv1.len];exact BU ql) λep2=>?_⟩;refine en.nx _ _ _ ((fr1.mono S2).write (d':=.dit (pJ kvs ks r.d)) hx ⟨_,_,bP,?_⟩) q2;have G:Gen X.K (MM F ρ) (MM F ρ) H2 (upd H2 a (.dT ep2 (tF vs ks y))):=Gen.write (.inr ⟨_,ee hx⟩) (by rw[hv2];trivial);exact((rv1.gen (.mono S2)).put rep).gen G
  ·exact h.elim
def J5(i:Nat):c7:=λE ρ=>match ρ[i]? with
 |some (.own a (.lst _))=>E.nx (ρ.set i (.own a (.lst [])))
 |_=>False
def CP(i:Nat):c7:=λE ρ=>match ρ[i]? with
 |some (.own a (.lst xs))=>E.nx (ρ.set i (.own a (.lst xs.reverse)))
 |_=>False
noncomputable abbrev tI(t:List Int×List Dv):Dv:=.tup (t.1.map .int++t.2)
def g8:List Dv->(R->Prop)->Prop
 | [.lst xs],Q=>(∃ns:List Int,xs=ns.map .int/\ns.length<64 /\ ∀ms:List Int,ms.Perm ns->ms.Pairwise (· <= ·)->Q (.nw (.lst (ms.map .int)))) \/
  ∃(ts:List (List Int×List Dv)) (k:Nat),xs=ts.map tI/\ts.length<64/\(∀t∈ts,t.1.length=k+1)/\ts.Pairwise (λt u=>t.1≠u.1) /\ ∀ts':List (List Int×List Dv),ts'.Perm ts->ts'.Pairwise (λt u=>gP t.1 u.1=ak)->Q (.nw (.lst (ts'.map tI)))
 |_,_=>False
theorem Reps.fore{K:aq}{M:af->Prop}{H:Hp}:∀{ns:List Int} {xs:List V} {ds:List Dv},Reps K M H xs (ns.map .int++ds) -> ∃ys,xs=ns.map V.int++ys/\Reps K M H ys ds
 | [],xs,ds,r=>⟨xs,rfl,r⟩
 |n::ns,_,ds,.cons a r=>by
  obtain⟨ys,e,r'⟩:=Reps.fore (ns:=ns) r;cases a;exact⟨ys,by rw[e];rfl,r'⟩
theorem AI{β:Type}{f:α->β}{zs ws:List β}(hp:zs.Perm ws):∀{its:List α},its.map f=ws -> ∃jts:List α,jts.Perm its/\zs=jts.map f:=by
 induction hp with
 |nil=>intro its hz;exact⟨its,.refl _,hz.symm⟩
 |cons x p ih=>
  intro its hz;cases its with
  |nil=>cases hz
  |cons t r=>
   rw[ef] at hz;injection hz with h1 h2;obtain⟨j,hj,e⟩:=ih h2;exact⟨t::j,hj.cons t,by rw[ef,h1,e]⟩
 |swap x y l=>
  intro its hz
  match its,hz with
  |t::u::r,hz=>
   simp only[ef,im] at hz;obtain⟨h1,h2,h3⟩:=hz;exact⟨u::t::r,.swap _ _ _,by simp only[ef,h1,h2,h3]⟩
 |trans p1 p2 ih1 ih2=>
  intro its hz;obtain⟨j,hj,e⟩:=ih2 hz;obtain⟨j2,hj2,e2⟩:=ih1 e.symm;exact⟨j2,hj2.trans hj,e2⟩
theorem vD:qG X (.builtin "sorted") g8:=by
 refine⟨λds Q Q' w h=>?_,_,C2.or Bz,λM O H xs ds Q c h=>?_⟩
 ·unfold g8 at *;split at h
  ·rcases h with⟨ns,a,b,q⟩ | ⟨ts,k,a,b,c,d,q⟩
   ·exact .inl ⟨ns,a,b,λms x y=>w _ (q ms x y)⟩
   ·exact .inr ⟨ts,k,a,b,c,d,λts' x y=>w _ (q ts' x y)⟩
  ·exact h
 ·unfold g8 at h;split at h
  ·obtain⟨x,rfl,cx⟩:=fW c;obtain⟨a,ys,rfl,ea,ra⟩:=cx.lst;rcases h with⟨ns,rfl,hl,q⟩ | ⟨ts,k,rfl,hl,hk,hd,q⟩
   ·have ey:ys=ns.map V.int:=by
     have ra':Reps X.K M H ys (ns.map .int++[]):=by simpa using ra
     obtain⟨zs,e,r'⟩:=ra'.fore;cases r';simpa using e
    subst ey;exact .inl ⟨a,ns,rfl,g6.of ea,hl,λms hp hs l hl=>q ms hp hs _ _ (aT.new' hl) (pP hl (Reps.ints _))⟩
   ·-- what each item is,by its place
    have go:∀{ys:List V} {ts:List (List Int×List Dv)},Reps X.K M H ys (ts.map tI) -> ∃its:List (R4×List Dv),ys=its.map (λt=>V.ref t.1.1)/\ts=its.map (λt=>(t.1.2.1,t.2)) /\
      ∀t∈its,H t.1.1=ae (.tup (t.1.2.1.map V.int++t.1.2.2))/\Reps X.K M H t.1.2.2 t.2:=by
     intro ys ts r;induction ts generalizing ys with
     |nil=>cases r;exact⟨[],rfl,rfl,λt ht=>by cases ht⟩
     |cons t ts ih=>
      cases r with
      |cons u r=>
       obtain⟨its,e1,e2,e3⟩:=ih r;cases u with
       |tup hb rb=>
        obtain⟨zs,e,rz⟩:=rb.fore;subst e;refine⟨((_,t.1,zs),t.2)::its,by rw[e1];rfl,by rw[e2];rfl,λy hy=>?_⟩;rcases bv.mp hy with rfl | hy
        ·exact⟨hb,rz⟩
        ·exact e3 y hy
    obtain⟨its,rfl,rfl,al⟩:=go ra;refine .inr ⟨a,its.map (·.1),k,rfl,by rw[ja];exact g6.of ea,by simpa using hl,λt ht=>?_,?_,λits' hp hs l hl=>?_⟩
    ·obtain⟨u,hu,rfl⟩:=fq.mp ht;exact⟨oQ.of (al u hu).1,hk _ (fq.mpr ⟨u,hu,rfl⟩)⟩
    ·rw[jb] at hd ⊢;exact hd
    ·-- bring the plain parts along
     obtain⟨jts,hj,rfl⟩:=AI hp rfl;have rr:∀jts:List (R4×List Dv),(∀t∈jts,t∈its)->Reps X.K M H (jts.map λt=>V.ref t.1.1) ((jts.map λt=>(t.1.2.1,t.2)).map tI):=by
      intro jts;induction jts with
      |nil=>intro _;exact .nil
      |cons t r ih=>
       intro hm;have ht:=al t (hm t (bz ..));have one:Reps X.K M H (t.1.2.1.map V.int++t.1.2.2) (t.1.2.1.map .int++t.2):=(Reps.ints _).append ht.2;exact .cons (.tup ht.1 one) (ih λu hu=>hm u (bp _ hu))
     rw[ja];show Q _ (upd H l (.lst (jts.map λt=>V.ref t.1.1)));refine q (jts.map λt=>(t.1.2.1,t.2)) (hj.map _) ?_ _ _ (aT.new' hl) (pP hl (rr jts λt ht=>hj.mem_iff.mp ht));rw[jb] at hs ⊢;exact hs
  ·exact h.elim
theorem Fw{i j:Int}{Q:R->Prop}:(dJ (.int i) (.int j) Q)=(Q (.v (.int (i+j)))):=rfl
theorem FY{i j:Int}{Q:R->Prop}:(tN (.int i) (.int j) Q)=(Q (.v (.int (i-j)))):=rfl
theorem Fi{i j:Int}{Q:R->Prop}:(j5 (.int i) (.int j) Q)=(vW i j/\Q (.v (.int (i*j)))):=rfl
theorem Ft{i j:Int}{Q:R->Prop}:(lX (.int i) (.int j) Q)=((0<j/\j<2 ^ 200)/\Q (.v (.int (i / j)))):=rfl
theorem Cy{i j:Int}{Q:R->Prop}:(Ry (.int i) (.int j) Q)=((j≠0/\j.natAbs<2 ^ 4000)/\Q (.v (.int (i.fdiv j)))):=rfl
theorem Fj{i j:Int}{Q:R->Prop}:(gO (.int i) (.int j) Q)=(0<j/\Q (.v (.int (i % j)))):=rfl
theorem Cr{i j:Int}{Q:R->Prop}:(Rs (.int i) (.int j) Q)=(j≠0/\Q (.v (.int (i.fmod j)))):=rfl
theorem Fa{i j:Int}{Q:R->Prop}:(w9 (.int i) (.int j) Q)=(M6 i j/\Q (.v (.int (i ^ j.toNat)))):=rfl
theorem Fv{xs ys:List Dv}{Q:R->Prop}:(dJ (.lst xs) (.lst ys) Q)=((xs.length+ys.length<=zZ/\Q (.nw (.lst (xs++ys))))):=rfl
theorem Fu{x y:bq}{Q:R->Prop}:(dJ (.str x) (.str y) Q)=((x.length+y.length<=zZ/\Q (.v (.str (x++y))))):=rfl
theorem Fh{xs:List Dv}{k:Int}{Q:R->Prop}:(j5 (.lst xs) (.int k) Q)=(((-(2 ^ 63)<=k/\k<2 ^ 63/\xs.length*k.toNat<=zZ)/\Q (.nw (.lst (av k.toNat xs).flatten)))):=rfl
theorem Jy{f:Int->Int->Bool}{i j:Int}{Q:R->Prop}:(AL f (.int i) (.int j) Q)=(Q (.v (.bl (f i j)))):=rfl
theorem Ju{d:Dv}{Q:R->Prop}:(Jv d .non Q)=(Q (.v (.bl (isN d)))):=rfl
theorem Fb{d:Dv}{Q:R->Prop}:(AK d .non Q)=(Q (.v (.bl (!isN d)))):=rfl
theorem Jw{d:Dv}{b:Bool}{Q:R->Prop}:(Ub d (.bl b) Q)=(Q (.v (.bl (isB b d)))):=rfl
theorem Fc{d:Dv}{b:Bool}{Q:R->Prop}:(Rr d (.bl b) Q)=(Q (.v (.bl (!isB b d)))):=rfl
theorem Jz{i j:Int}{Q:R->Prop}:(lB (.int i) (.int j) Q)=(Q (.v (.bl (decide (i=j))))):=rfl
theorem Jm{i j:Int}{Q:R->Prop}:(BE (.int i) (.int j) Q)=(Q (.v (.bl (!decide (i=j))))):=rfl
theorem K0{x:Bool}{d:Dv}{Q:R->Prop}:(lB (.bl x) d Q)=(((eQ 8 (.bl x)=ak/\eQ 8 d=ak)/\Q (.v (.bl (eqD (.bl x) d))))):=rfl
theorem Jn{x:Bool}{d:Dv}{Q:R->Prop}:(BE (.bl x) d Q)=(((eQ 8 (.bl x)=ak/\eQ 8 d=ak)/\Q (.v (.bl (!eqD (.bl x) d))))):=rfl
theorem Fo{x:List Dv}{d:Dv}{Q:R->Prop}:(lB (.tup x) d Q)=(((eQ 8 (.tup x)=ak/\eQ 8 d=ak)/\Q (.v (.bl (eqD (.tup x) d))))):=rfl
theorem Fd{x:List Dv}{d:Dv}{Q:R->Prop}:(BE (.tup x) d Q)=(((eQ 8 (.tup x)=ak/\eQ 8 d=ak)/\Q (.v (.bl (!eqD (.tup x) d))))):=rfl
theorem Fs{x:List Dv}{d:Dv}{Q:R->Prop}:(lB (.lst x) d Q)=(((eQ 8 (.lst x)=ak/\eQ 8 d=ak)/\Q (.v (.bl (eqD (.lst x) d))))):=rfl
theorem Fg{x:List Dv}{d:Dv}{Q:R->Prop}:(BE (.lst x) d Q)=(((eQ 8 (.lst x)=ak/\eQ 8 d=ak)/\Q (.v (.bl (!eqD (.lst x) d))))):=rfl
theorem Fp{x:bq}{d:Dv}{Q:R->Prop}:(lB (.str x) d Q)=(((eQ 8 (.str x)=ak/\eQ 8 d=ak)/\Q (.v (.bl (eqD (.str x) d))))):=rfl
theorem Fe{x:bq}{d:Dv}{Q:R->Prop}:(BE (.str x) d Q)=(((eQ 8 (.str x)=ak/\eQ 8 d=ak)/\Q (.v (.bl (!eqD (.str x) d))))):=rfl
theorem Fq{x:List Int}{d:Dv}{Q:R->Prop}:(lB (.scr x) d Q)=(((eQ 8 (.scr x)=ak/\eQ 8 d=ak)/\Q (.v (.bl (eqD (.scr x) d))))):=rfl
theorem Ff{x:List Int}{d:Dv}{Q:R->Prop}:(BE (.scr x) d Q)=(((eQ 8 (.scr x)=ak/\eQ 8 d=ak)/\Q (.v (.bl (!eqD (.scr x) d))))):=rfl
theorem OC{xs:List Dv}{i:Int}{Q:R->Prop}:(cW (.lst xs) (.int i) Q)=((match sU xs i with | some d=>Q (.v d) | none=>False)):=rfl
theorem OA{xs:List Dv}{i:Int}{Q:R->Prop}:(cW (.tup xs) (.int i) Q)=((match sU xs i with | some d=>Q (.v d) | none=>False)):=rfl
theorem OB{ns:List Int}{i:Int}{Q:R->Prop}:(cW (.scr ns) (.int i) Q)=((match sU ns i with | some n=>Q (.v (.int n)) | none=>False)):=rfl
theorem O7{xs:List Dv}{lo hi:Option Int}{Q:R->Prop}:(O8 (.lst xs) lo hi Q)=(Q (.nw (.lst (cut xs lo hi)))):=rfl
theorem O6{ns:List Int}{lo hi:Option Int}{Q:R->Prop}:(O8 (.scr ns) lo hi Q)=(Q (.nw (.lst ((cut ns lo hi).map .int)))):=rfl
theorem O5{xs:List Dv}{lo hi:Option Int}{Q:R->Prop}:(O8 (.tup xs) lo hi Q)=((¬(HT.iG xs.length 0 lo=0/\HT.iG xs.length xs.length hi=xs.length)/\Q (.v (.tup (cut xs lo hi))))):=rfl
theorem Js{xs:List Dv}{Q:R->Prop}:(fO [(.lst xs)] Q)=(Q (.v (.int xs.length))):=rfl
theorem Jq{xs:List Dv}{Q:R->Prop}:(fO [(.tup xs)] Q)=(Q (.v (.int xs.length))):=rfl
theorem Jr{ns:List Int}{Q:R->Prop}:(fO [.scr ns] Q)=(Q (.v (.int ns.length))):=rfl
theorem K3{i:Int}{Q:R->Prop}:(HI [.int i] Q)=(Q (.v (.int (if i<0 then -i else i)))):=rfl
theorem Jo{i j:Int}{Q:R->Prop}:(Rt [.int i,.int j] Q)=(Q (.v (.int (if j<i then j else i)))):=rfl
theorem Jp{i j:Int}{Q:R->Prop}:(Ru [.int i,.int j] Q)=(Q (.v (.int (if j > i then j else i)))):=rfl
theorem Cq{xs:List Dv}{Q:R->Prop}:(gK [.lst xs] Q)=(Q (.v (.tup xs))):=rfl
theorem Cp{xs:List Dv}{Q:R->Prop}:(gK [.tup xs] Q)=(Q (.v (.tup xs))):=rfl
theorem Fm{xs:List Dv}{Q:R->Prop}:(O9 [.lst xs] Q)=(Q (.nw (.lst xs))):=rfl
theorem Fk{xs:List Dv}{Q:R->Prop}:(O9 [.tup xs] Q)=(Q (.nw (.lst xs))):=rfl
theorem K2{ds:List Dv}{Q:R->Prop}:(HG [.lst ds] Q)=((∃bs:List Bool,ds=bs.map .bl/\Q (.v (.bl (bs.all _root_.id))))):=rfl
theorem Jk{ds:List Dv}{Q:R->Prop}:(EH [.lst ds] Q)=((∃ns:List Int,ds=ns.map .int/\Q (.v (.int ns.sum)))):=rfl
theorem TU{d:Dv}:(R.d (.v d))=(d):=rfl
theorem TW{d:Dv}:(R.d (.nw d))=(d):=rfl
theorem TV{a:af}{d:Dv}:(R.d (.ow a d))=(d):=rfl
theorem TF{d:Dv}:(R.out (.v d))=(.v d):=rfl
theorem TJ{d:Dv}:(R.out (.nw d))=(.nw d):=rfl
theorem TH{a:af}{d:Dv}:(R.out (.ow a d))=(.nw d):=rfl
theorem TN{d:Dv}:(R.free (.v d))=(ak):=rfl
theorem TR{d:Dv}:(R.free (.nw d))=(ak):=rfl
theorem TQ{a:af}{d:Dv}:(R.free (.ow a d))=(am):=rfl
theorem TK{d:Dv}:(R.flat (.v d))=(kB d):=rfl
theorem TM{d:Dv}:(R.flat (.nw d))=(LR d):=rfl
theorem TL{a:af}{d:Dv}:(R.flat (.ow a d))=(am):=rfl
theorem LX{a b:Bool}:(eqD (.bl a) (.bl b))=((a==b)):=by cases a<;>cases b<;>simp[eqD,jD,ku]
theorem d7{ρ0:List Sl}{g:C8}{tt:mG}{te:dE}{acc:List Dv}{Q:R->Prop}:(d8 ρ0 g tt te [] acc Q)=(Q (.nw (.lst acc))):=rfl
theorem iA{ρ0:List Sl}{g:C8}{tt:mG}{te:dE}{d:Dv}{r acc:List Dv}{Q:R->Prop}:(d8 ρ0 g tt te (d::r) acc Q)=((g d ρ0 λρ1=>tt ρ1 λb=>if b=ak then te ρ1 λv=>(v.free=ak/\acc.length<zZ)/\d8 ρ0 g tt te r (acc++[v.d]) Q else d8 ρ0 g tt te r acc Q)):=rfl
theorem jK{xs:List α}{i:Int}(h0:0<=i)(h1:i<xs.length):sU xs i=xs[i.toNat]?:=by
 unfold sU wB;rw[a0G h0,a0G h1];rfl
theorem Lx{α:Type}{x:α}{r:List α}:sU (x::r) 0=ae x:=by rw[jK ∅ (by simp<;>ac_rfl)];rfl
theorem Ob{α:Type}{x y:α}{r:List α}:sU (x::y::r) 1=ae y:=by rw[jK ∅ (by simp<;>ac_rfl)];rfl
theorem Oa{α:Type}{x y z:α}{r:List α}:sU (x::y::z::r) 2=ae z:=by rw[jK ∅ (by simp<;>ac_rfl)];rfl
theorem OZ{α:Type}{x y z w:α}{r:List α}:sU (x::y::z::w::r) 3=ae w:=by rw[jK ∅ (by simp<;>ac_rfl)];rfl
theorem OY{α:Type}{x y z w v:α}{r:List α}:sU (x::y::z::w::v::r) 4=ae v:=by rw[jK ∅ (by simp<;>ac_rfl)];rfl
theorem L9{b c:Bool}:isB b (.bl c)=(c==b):=rfl
theorem GC{b:Bool}{i:Int}:isB b (.int i)=am:=rfl
theorem OJ:isN .non=ak:=rfl
theorem OM{b:Bool}:isN (.bl b)=am:=rfl
theorem OL{i:Int}:isN (.int i)=am:=rfl
theorem OH{i:bq}:isN (.str i)=am:=rfl
theorem OG{i:List Dv}:isN (.tup i)=am:=rfl
theorem OK{i:List Dv}:isN (.lst i)=am:=rfl
theorem OI{C:af}{i:List (bq×Dv)}:isN (.obj C i)=am:=rfl
theorem Il{b:Bool}:qU (.bl b)=ae b:=rfl
theorem Ih:qU .non=ae am:=rfl
theorem Ik{i:Int}:qU (.int i)=ae (i != 0):=rfl
theorem Ii{xs:List Dv}:qU (.lst xs)=ae (!xs.isEmpty):=rfl
theorem Ie{xs:List Dv}:qU (.tup xs)=ae (!xs.isEmpty):=rfl
theorem Ij{xs:List (cB×Dv)}:qU (.dik xs)=ae (!xs.isEmpty):=rfl
theorem Ig{xs:List Int}:qU (.scr xs)=ae (!xs.isEmpty):=rfl
theorem L4:wB 1 0=ae 0:=rfl
theorem L3:wB 2 0=ae 0:=rfl
theorem L1:wB 2 1=ae 1:=rfl
theorem L0:wB 3 0=ae 0:=rfl
theorem Kz:wB 3 1=ae 1:=rfl
theorem Ky:wB 3 2=ae 2:=rfl
theorem Kx:wB 4 0=ae 0:=rfl
theorem Kw:wB 4 1=ae 1:=rfl
theorem Kv:wB 4 2=ae 2:=rfl
theorem Ku:wB 4 3=ae 3:=rfl
theorem Kt:wB 5 0=ae 0:=rfl
theorem Ks:wB 5 1=ae 1:=rfl
theorem Kr:wB 5 2=ae 2:=rfl
theorem Kq:wB 5 3=ae 3:=rfl
theorem Kp:wB 5 4=ae 4:=rfl
variable {lo:Int}
theorem bS:bE lo 0=[]:=rfl
theorem bI:bE lo (n+1)=.int lo::bE (lo+1) n:=by
 unfold bE;rw[List.range_succ_eq_map,ef,ja];congr 1
 ·simp
 ·apply jo;intro k _;show Dv.int _=Dv.int _;congr 1;show lo+((k+1:Nat):Int)=lo+1+k;ac_rfl
theorem Cw{i j:Int}{Q:R->Prop}:(Rx (.int i) (.int j) Q)=(Q (.v (.int (i+j)))):=rfl
theorem Ct{i j:Int}{Q:R->Prop}:(Cu (.int i) (.int j) Q)=(Q (.v (.int (i-j)))):=rfl
theorem Cv{i j:Int}{Q:R->Prop}:(Rv (.int i) (.int j) Q)=(vW i j/\Q (.v (.int (i*j)))):=rfl
theorem Lj{xs:List α}{k:Int}(h0:0<=k):cut xs (ae k) ao=xs.drop k.toNat:=by
 unfold cut;have e:HT.iG xs.length 0 (ae k)=min k.toNat xs.length:=by show (if k<0 then _ else _)=_;rw[a0h ⋯]
 rw[e,HT.J3];rcases Nat.le_total k.toNat xs.length with h | h
 ·rw[xp h];exact sr (by rw[YM];exact cg _)
 ·rw[Nat.min_eq_right h,uh (cg _),uh h,List.take_nil]
theorem CM{a:af}{N:List bq}{d:Dv}{ds:List Dv}:Ot a N (d::ds)=.own a d::(ds.map .v++av (N.length-(ds.length+1)) .un):=rfl
theorem FZ{i j:Int}{Q:R->Prop}:(Ua (.int i) (.int j) Q)=(M6 i j/\Q (.v (.int (i*2 ^ j.toNat)))):=rfl
theorem Gz{ts:List (List Int×List Dv)}{k:Nat}{Q:R->Prop}(h:ts.length<64)(hk:∀t∈ts,t.1.length=k+1)(hd:ts.Pairwise (λt u=>t.1≠u.1))
  (q:∀ts':List (List Int×List Dv),ts'.Perm ts->ts'.Pairwise (λt u=>gP t.1 u.1=ak)->Q (.nw (.lst (ts'.map tI)))):g8 [.lst (ts.map tI)] Q:=.inr ⟨ts,k,rfl,h,hk,hd,q⟩
theorem Ko:∀{a b:List cB},a.map kD=b.map kD->a=b
 | [],[],_=>rfl
 | [],_::_,h=>by cases h
 |_::_,[],h=>by cases h
 |a::r,b::t,h=>by
  rw[ef,ef] at h;injection h with h1 h2;have e:a=b:=by cases a<;>cases b<;>first | (injection h1 with h1;rw[h1]) | cases h1
  rw[e,Ko h2]
theorem Jt{kvs:List (List cB×Dv)}{a b:Int}{Q:R->Prop}:(cW (.dit kvs) (.tup [.int a,.int b]) Q)=(match kvs.find? (λkv=>decide (kv.1=[di a,di b])) with | some kv=>Q (.v kv.2) | none=>False):=by
 apply propext;constructor
 ·rintro⟨k,e,h⟩;have:k=[di a,di b]:=Ko (e.symm.trans rfl);subst this;exact h
 ·exact λh=>⟨[di a,di b],rfl,h⟩
end _Z
namespace Sf
structure Rw where
 x:Int
 y:Int
 m:Int
def Rw.up(r:Rw):Prop:=0<r.y \/ (r.y=0/\0<r.x)
noncomputable def crs(a b:Rw):Int:=a.x*b.y-b.x*a.y
noncomputable def place(v:Rw)(rows:List Rw):Nat:=rows.countP λr=>decide (0<crs r v)
def vH(rows:List Rw):Prop:=rows.Pairwise λa b=>0<crs a b
structure Pre(s:Int)(rows:List Rw):Prop where
 srt:vH rows
 ok:∀r∈rows,r.up /\ -s<=r.x/\r.x<=s/\r.y<=s/\1<=r.m
noncomputable def many(rows:List Rw):Int:=(rows.map (·.m)).sum
structure Good(rows:List Rw):Prop where
 lo:2<=rows.length
 hi:rows.length<=6
 srt:vH rows
 ok:∀r∈rows,r.up /\ -999999999999<=r.x/\r.x<=999999999999/\r.y<=999999999999/\1<=r.m
 tot:many rows<=12
noncomputable def bB:Nat->List Rw->List Int
 |_,[]=>[]
 |k,r::rs=>av r.m.toNat (k:Int)++bB (k+1) rs
noncomputable abbrev aK(rows:List Rw):List Int:=bB 0 rows
end Sf
namespace _L
section
variable {D:Ends}{Q:VK}{t u:TS}{te ta tb tc:TE}{g:TG}
end
end _L
namespace _Z
open _L
theorem Gc(h:∀Q:R->Prop,Q (.v (.bl ak))->sp [.scr ns] Q)(hO:M4 H)(hT:Ai K H)(hS:g6 K H a (ns.map V.int)):low K sp [.ref a] H (λv _=>v=.bl ak) (λ_ _ _=>False):=by
 refine⟨λ_=>False,[.scr ns],⟨λ_ z=>z.elim,hT⟩,.cons (.scr ?_) .nil,h _ λx H' S r=>?_⟩
 ·rcases hS with(h | h) | h
  ·rcases hO a with z | ⟨o,xs,z⟩
   ·rw[z] at h;cases h
   ·rw[z] at h;cases h
  ·exact .inl h
  ·exact .inr h
 ·have r':Rep K (λ_=>False) H' x (.bl ak):=r;cases r';rfl
end _Z
namespace _L
variable {xs:List ah}
noncomputable abbrev grown(h:eh)(xs:List ah):eh:=(h.push (uw "list" #[] 0)).update h.objs.size (um (· ++ xs.toArray))
theorem Db{t:af}{P:List ah->aj->Prop}(ht:ZM s.heap t xs.toArray)(a1a:xs.length<=bo)(k:P xs { s with heap:=grown s.heap xs }):bg (bn prog w) A (collect (.ref t)) P E s:=by
 obtain⟨ob,get,cl,m,dat⟩:=ht;have new:(s.heap.push (uw "list" #[] 0)).get? s.heap.objs.size=ae (uw "list" #[] 0):=cm s.heap rfl;have old:=au (uw "list" #[] 0) get;have room:((#[]:Array ah)++xs.toArray).size<=bo+1:=by
  rw[Array.size_append,cj];exact mh (a0f (zj _)) (Nat.le_succ_of_le a1a)
 have a12:((#[]:Array ah)++xs.toArray).toList=xs:=by simp
 have tuple:(wv "tuple" == wv "tuple")=ak:=rfl;unfold collect;apply aa;apply wpAny_runValue;apply vf entry_proto_collect';show bg _ _ (newList [] >>= λacc=>Zg (.builtin "list.__iadd__" ⟨[acc,.ref t],[]⟩)) _ _ s;apply aa;refine Vu ?_ (qd _);apply ai;refine⟨XI _ (by decide +kernel),?_⟩;apply vf entry_list_iadd';show bg _ _ (yo (Value.ref s.heap.objs.size) (Value.ref t) (Value.ref s.heap.objs.size)) _ _ ({ s with heap:=s.heap.push (uw "list" #[] 0) }:aj)
 delta yo
 apply aa;refine Y5 (T:="tuple") ⟨ob,old,cl⟩ ?_;rw[a0G (by simp[tuple])];apply aa;refine ma old dat ?_;apply aa;refine ma new rfl ?_;rw[a0h (λz=>by simp at z)];apply aa;refine Xp new rfl ?_ (qd _) room;apply ai;show bg (bn prog w) A (load s.heap.objs.size >>= λo=>match o.data with
  | .seq ys _=>jh ys.toList
  |_=>unsupported "internal:collect") P E ({ s with heap:=grown s.heap xs }:aj)
 apply aa;refine Z9 (Z2 new (· ++ xs.toArray)) ?_;apply ai;rw[a12];exact k
theorem CN{t:af}{P:ah->aj->Prop}(ht:ZM s.heap t xs.toArray)(num:oz xs ks)(few:xs.length<64)
  (k:∀(ys:Array ah) (ms:List Int),oz ys.toList ms->ms.Perm ks->ms.Pairwise (· <= ·)->P (.ref (s.heap.objs.size+1)) { s with heap:=sortedAll s.heap xs ys }):
  bg (bn prog w) A (call (tm "sorted") [Value.ref t]) P E s:=by
 have a1a:xs.length<=bo:=mh (XW few) (by rw[ky];decide);have sz:(grown s.heap xs).objs.size=s.heap.objs.size+1:=(Wc ..).trans (size_push' _ _);have mine:((grown s.heap xs).push (uw "list" xs.toArray 0)).get? (s.heap.objs.size+1)=ae (uw "list" xs.toArray 0):=sz ▸ cm (grown s.heap xs) rfl;apply zy kind_sorted plain_sorted entry_sorted (args_sorted1 _)
 delta qy.«sorted»
 refine aa (m:=checkCount "sorted" 1 1 _) (ai (aa (Db ht a1a (aa (Vu ?_ a1a)))));show bg _ _ _ _ _ ({ s with heap:=(grown s.heap xs).push (uw "list" xs.toArray 0) }:aj);rw[sz];refine aa (je (fg Zu ⟨_,mine,rfl⟩ Z3 (list_sort_tree mine num few λys ms b1 b2 b3=>?_) (Zv _)));exact⟨_,rfl,ai ⟨_,rfl,k ys ms b1 b2 b3⟩⟩
theorem By:gI X (.builtin "sorted") (λxs H Q=>∃(p:af) (ns:List Int),xs=[.ref p]/\oQ X.K H p (ns.map V.int)/\ns.length<64 /\ ∀ms:List Int,ms.Perm ns->ms.Pairwise (· <= ·) -> ∀l,H l=ao->Q (.ref l) (upd H l (.lst (ms.map V.int)))):=by
 intro pj s σ H xs us Q I r h;obtain⟨p,ns,rfl,hl,h64,q⟩:=h;obtain⟨u,rfl,ru⟩:=mK r;cases ru;obtain⟨vs,rv,pl,hz⟩:=I.tuple hl;have ia:=sH rv;refine CN pl ia (by rw[ia.length];exact h64) λout ms hi hp hs=>?_;obtain⟨c,at1⟩:=Wt s.heap vs out;have back:∀{us:List ah} {ns:List Int},oz us ns->bM (ns.map V.int) us:=λh=>by
  induction h with
  |nil=>exact .nil
  |cons a t _ ih=>exact .cons ⟨t,rfl⟩ ih
 have ea:out.toList.toArray=out:=by cases out;rfl
 have hle:(ms.map V.int).length<=bo:=by rw[ky,bf,hp.length_eq];ac_rfl
 exact⟨.ref (s.heap.objs.size+1),_,I.laid (t':=s.toks) (λb o e=>Vt e) (vd _) (show cR X.prog X.w _ _ _ (.lst _) from⟨hle,out.toList,c,back hi,by rw[ea];exact at1⟩),rfl,q ms hp hs _ (I.hok.fresh (vd _))⟩
def RZ(K:aq):R2:=λx y H Q=>∃a b xs ys,x=.ref a/\y=.ref b/\oQ K H a xs/\oQ K H b ys/\xs.length+ys.length<=bo /\
 (xs=[]->Q (.ref b) H)/\(xs≠[]->ys=[]->Q (.ref a) H)/\(xs≠[]->ys≠[] -> ∀p,H p=ao->Q (.ref p) (upd H p (.tup (xs++ys))))
theorem Mw:lQ X (ju .Add) (RZ X.K):=by
 intro pj s σ H x y v u Q I rx ry h;obtain⟨a,b,xs,ys,rfl,rfl,ha,hb,hz,q0,q1,q2⟩:=h;by_cases hx:xs=[]
 ·cases rx;cases ry;obtain⟨its,r1,p1,_⟩:=I.tuple ha;obtain⟨its2,r2,p2,_⟩:=I.tuple hb;have hv:=r1.nil_iff.mpr hx;obtain⟨⟨cls,dd,data,sl⟩,ho,hc,n,hd⟩:=id p1;obtain⟨⟨cls2,dd2,data2,sl2⟩,ho2,hc2,n2,hd2⟩:=id p2;simp only at hc hd hc2 hd2;subst hc hd hc2 hd2;exact Y4 ⟨_,ho,rfl⟩ ⟨_,ho2,rfl⟩ W5 Xk vy vn (va _ _)
   (tuple_addW0 a b its.toArray its2.toArray n n2 dd dd2 sl sl2 (by simp[hv])) ⟨ho,ho2,.ref b,H,I,rfl,q0 hx⟩
 ·exact Mx pj s σ H _ _ v u Q I rx ry ⟨a,b,xs,ys,rfl,rfl,ha,hb,hx,hz,q1 hx,q2 hx⟩
end _L
namespace _Z
open _L
variable {Q:R->Prop}
def n6:List Dv->(R->Prop)->Prop
 | [.tup xs],Q=>∃ns:List Int,xs=ns.map .int/\ns.length<64 /\ ∀ms:List Int,ms.Perm ns->ms.Pairwise (· <= ·)->Q (.nw (.lst (ms.map .int)))
 |_,_=>False
theorem yW:qG X (.builtin "sorted") n6:=by
 refine⟨λds Q Q' w h=>?_,_,By,λM O H xs ds Q c h=>?_⟩
 ·unfold n6 at *;split at h
  ·obtain⟨ns,a,b,q⟩:=h;exact⟨ns,a,b,λms x y=>w _ (q ms x y)⟩
  ·exact h
 ·unfold n6 at h;split at h
  ·obtain⟨x,rfl,cx⟩:=fW c;obtain⟨a,ys,rfl,ea,ra⟩:=cx.tup;obtain⟨ns,rfl,hl,q⟩:=h;have ey:ys=ns.map V.int:=by
    have ra':Reps X.K M H ys (ns.map .int++[]):=by simpa using ra
    obtain⟨zs,e,r'⟩:=ra'.fore;cases r';simpa using e
   subst ey;exact⟨a,ns,rfl,oQ.of ea,hl,λms hp hs l hl=>q ms hp hs _ _ (aT.new' hl) (pP hl (Reps.ints _))⟩
  ·exact h.elim
theorem EI(h:ns.length<64)(q:∀ms:List Int,ms.Perm ns->ms.Pairwise (· <= ·)->Q (.nw (.lst (ms.map .int)))):n6 [.tup (ns.map .int)] Q:=⟨ns,rfl,h,q⟩
def kU:Dv->Dv->(R->Prop)->Prop
 | .tup xs,.tup ys,Q=>xs.length+ys.length<=zZ/\Q (.v (.tup (xs++ys)))
 |_,_,_=>False
theorem Cz{xs ys:List Dv}:kU (.tup xs) (.tup ys) Q=(xs.length+ys.length<=zZ/\Q (.v (.tup (xs++ys)))):=rfl
theorem tS:xA X (ju .Add) kU:=by
 refine⟨λdx dy Q Q' w h=>?_,_,Mw,λM O H x y dx dy Q cx cy h=>?_⟩
 ·unfold kU at *;split at h
  ·exact⟨h.1,w _ h.2⟩
  ·exact h
 ·unfold kU at h;split at h
  ·obtain⟨a,xs,rfl,ea,ra⟩:=cx.tup;obtain⟨b,ys,rfl,eb,rb⟩:=cy.tup;have l1:=ra.length;have l2:=rb.length;refine⟨a,b,xs,ys,rfl,rfl,oQ.of ea,oQ.of eb,jL ⋯,λe=>?_,λ_ e=>?_,λ_ _ p hp=>h.2 _ _ (aT.new' hp) (IZ hp (ra.append rb))⟩
   ·subst e;cases ra;exact h.2 _ H (aT.refl _) (Rep.tup eb rb)
   ·subst e;cases rb;refine h.2 _ H (aT.refl _) ?_;rw[fy];exact Rep.tup ea ra
  ·exact h.elim
theorem Reps.ofKeys{K:aq}{M:af->Prop}{H:Hp}:∀k:List cB,Reps K M H (k.map kV) (k.map kD)
 | []=>.nil
 | .inl i::r=>.cons (.int i) (Reps.ofKeys r)
 | .inr x::r=>.cons (.str x) (Reps.ofKeys r)
noncomputable abbrev zP(kv:List cB×Dv):Dv:=.tup (kv.1.map kD)
variable {ds:List (List cB×Dv)}
theorem RepT.key(r:RepT K M H xs ds):xs.map (·.1)=ds.map (·.1):=
 r.ind (P:=λxs ds=>xs.map (·.1)=ds.map (·.1)) rfl λ_ _ _ _ _ _ _ ih=>by rw[ef,ef,ih]
theorem AS{P:Hp}{ep:Nat}(hP:P a=ae (.dT ep xs))(r:RepT K M H1 xs ds):
  A2 K P M H1 (VQ a ep xs.length) (ds.map zP) []:=by
 intro i H' M' S G _;have h':=S _ _ hP;have hl:=r.len;refine⟨λd e=>?_,λh=>⟨xs,h',rfl,by rw[bf] at h;ac_rfl⟩⟩;rw[dw] at e;cases ed:ds[i]? with
 |none=>rw[ed] at e;cases e
 |some q=>
  rw[ed] at e;cases e;have hi:=(fb.mp ed).1;refine⟨⟨xs,h',rfl,⋯⟩,λy H'' zz=>?_⟩;obtain⟨e1,e2⟩:=zz;subst e1;obtain⟨p,b,hp,rfl,hb⟩:=e2 xs h';have k1:(xs.map (·.1))[i]?=ae p.1:=by rw[dw,hp];rfl
  rw[r.key,dw,ed] at k1;have k2:q.1=p.1:=Option.some.inj k1;rw[zP,k2];exact⟨aT.refl _,.tup hb (Reps.ofKeys _)⟩
def lH(tl:dE):wZ:=λρ Q=>tl ρ λr=>match r with
 | .v (.dit kvs)=>Q (kvs.map zP) []
 | .nw (.dit kvs)=>Q (kvs.map zP) []
 |_=>False
section
variable {l:Expr}{tl:dE}
theorem wK(h:QE X l tl):QI X tg l (lH tl):=by
 refine⟨λρ Q Q' w q=>h.mono _ _ _ (λr q=>?_) q,λHZ F=>⟨_,Mh (h.run HZ F),λσ H ρ R fr q=>?_⟩⟩
 ·unfold lH at *;split at q<;>first | exact w _ _ q | exact q
 ·refine h.step fr q λr x H1 q S1 r1=>?_;have fr1:=fr.mono S1;split at q
  ·rename_i ds;cases r1 with
   |dit e m rs=>exact⟨_,_,_,rfl,e,q _ H1 S1 (by intro p hp;simp at hp) (AS (by rw[cS λc=>m (.inr c)];exact e) rs)⟩
  ·rename_i ds;obtain⟨a,rfl,n,ep,xs,e,rs⟩:=r1;exact⟨_,_,_,rfl,e,q _ H1 S1 (by intro p hp;simp at hp) (AS (by rw[cS λc=>fr.fresh n (.inr c)];exact e) (rs.gen (.weak λb z=>.inl z)))⟩
  ·exact q.elim
noncomputable def LH(kvs:List (List cB×Dv))(k:List cB):Bool:=kvs.any λkv=>decide (kv.1=k)
def UW(neg:Bool):R2:=λx y H Q=>∃a o,y=.ref a/\vJ H a x o/\Q (.bl (if neg then !o.isSome else o.isSome)) H
theorem Pp(hu:X.A.units+1<gv):lQ X (dm .In) (UW am):=by
 intro pj s σ H x y v u Q I rx ry h;obtain⟨a,o,rfl,g,q⟩:=h;cases ry;exact V2 hu I g rx λs' I'=>⟨.bl o.isSome,H,I',rfl,q⟩
def HE:Dv->Dv->(R->Prop)->Prop
 | .tup ds,.dit kvs,Q=>∃k:List cB,ds=k.map kD/\Q (.v (.bl (LH kvs k)))
 |_,_,_=>False
theorem RepT.has{k:List cB}(r:RepT K M H xs ds):(lR xs k).isSome=LH ds k:=by
 have h:=r.val (k:=k);unfold LH;cases e:ds.find? (λkv=>decide (kv.1=k)) with
 |none=>
  rw[h.2 e];have:=zp.mp e;symm;rw[Option.isSome_none,Vn];exact this
 |some kv=>
  obtain⟨x,hx,_⟩:=h.1 kv e;rw[hx];symm;rw[XB,WW];exact⟨kv,mn e,by have:=XJ (p:=λkv:List cB×Dv=>decide (kv.1=k)) e;exact this⟩
theorem Fy(hu:X.A.units+1<gv):xA X (dm .In) HE:=by
 refine⟨λdx dy Q Q' w h=>?_,_,Pp hu,λM O H x y dx dy Q cx cy h=>?_⟩
 ·unfold HE at *;split at h
  ·exact⟨h.choose,h.choose_spec.1,w _ h.choose_spec.2⟩
  ·exact h
 ·unfold HE at h;split at h
  ·obtain⟨k,rfl,q⟩:=h;obtain⟨b,ys,rfl,eb,rb⟩:=cx.tup;obtain rfl:=rb.keys;obtain⟨a,ep,kvs,rfl,ea,ra⟩:=cy.dit;refine⟨a,_,rfl,vJ.t ea eb,?_⟩;rw[a0h ∅,ra.has];exact q _ H (aT.refl _) (Rep.bl _)
  ·exact h.elim
end
end _Z
namespace HT
open PySem PyProof.Rows
section
open PySem.SeqAt
open PySem.AutoSeq1 (wpAny_loadPart')
open PySem.MeetsSeq PySem.MeetsSeq2 PySem.MeetsSeq3
end
end HT
namespace _L
end _L
namespace _Z
open _L
section
variable {o:Expr}{to:dE}{a0S:lj}
end
end _Z
namespace _L
end _L
namespace _Z
open _L
section
variable {o:Expr}{to tg tp:dE}{a0S:lj}
end
end _Z
namespace _L
variable {h':eh}
theorem cR.at{o:HO}(x:cR P w H h a o):∃ob,h.get? a=ae ob:=by
 cases o with
 |lst xs=>obtain⟨_,_,_,_,e⟩:=x;exact⟨_,e⟩
 |tup xs=>obtain⟨_,_,_,_,e,_⟩:=x;exact⟨_,e⟩
 |dK kvs=>obtain⟨_,_,_,_,o,_,_,e,_⟩:=x;exact⟨_,e⟩
 |dT ep kvs=>obtain⟨_,_,_,_,o,_,e,_⟩:=x;exact⟨_,e⟩
 |set S n=>obtain⟨o,_,_,_,e,_⟩:=x;exact⟨_,e⟩
 |ins C dx fs=>obtain⟨_,_,_,e,_⟩:=x;exact⟨_,e⟩
 |own y=>exact x
 |xd fs=>obtain⟨_,⟨_,_,_,e,_⟩,_⟩:=x;exact⟨_,e⟩
 |lam q=>obtain⟨_,e,_⟩:=x;exact⟨_,e⟩
 |cod q=>obtain⟨_,_,_,_,e,e2,_⟩:=x;cases e;exact⟨_,e2⟩
 |rng lo hi=>obtain⟨_,_,_,e⟩:=x;exact⟨_,e⟩
 |frz ob u=>obtain⟨e,_⟩:=x;exact⟨_,e⟩
 |tbl ps=>exact⟨_,(show h.get? a=ae _ from x)⟩
 |met f y=>exact⟨_,(show h.get? a=ae _ from x)⟩
 |ext φ=>obtain⟨_,e,_⟩:=x;exact e
theorem nJ.out(x:nJ P w H h)(e:h.get? a=ao):H a=ao:=by
 cases q:H a with
 |none=>rfl
 |some u=>
  obtain⟨o,z⟩:=(x a u q).at;rw[e] at z;cases z
noncomputable abbrev OS:List ah:=[.type "ValueError",.type "Exception",.type "BaseException",.type "object"]
def F7(K:aq)(C:af):Prop:=a0E K C OS "ValueError.__new__"=ak
theorem F7.cls(X:K.In h)(q:F7 K C):∃bm N nm qn bs hd sn sub ab col dd k0 k1 k2 k3 k5 mN,
  h.get? C=ae (excClassObj nm qn C N bs bm hd sn sub ab col dd k0 k1 k2 k3 k5 "ValueError.__new__")/\h.Ns N mN/\mN "__init__"=ao/\OwnTail h OS bm:=by
 unfold F7 a0E at q;split at q
 ·rename_i dd cd sl ho;split at q
  ·rename_i C1 bm a0 a1 a2 a3 n a5 hm hs;rw[cp,cp,cp,cp,cp] at q;obtain⟨⟨⟨⟨⟨e1,e2⟩,e3⟩,e4⟩,e5⟩,e6⟩:=q;cases beq_iff_eq.mp e1;cases beq_iff_eq.mp e2;cases cd with
   |mk nm bs mro ns qn hd sn sub ab col del=>
    dsimp only at hm e3 e5 e6;cases hm;have dz:del=am:=by cases del<;>simp_all
    cases dz;cases sl with
    |mk l=>
     dsimp only at hs;cases hs;exact⟨bm,ns,nm,qn,bs,hd,sn,sub,ab,col,dd,a0,a1,a2,a3,a5,_,X _ _ ho,.of_isNs (W.isNs_of_in X e5),W.nsMap_none_of_in X e5 (beq_iff_eq.mp e6),W.tail_of_in X e4⟩
  ·cases q
 ·cases q
def A3(P:bj)(w:df):IT:=λouter H s E e s'=>∃(a:af) (o:jn) (C:af) (H':Hp) (B:eh),e=.ref a/\s'.os=s.os/\yg s'.gens/\Un (frs outer) [] H H' s.heap s'.heap/\nJ P w H' s'.heap /\
 Fly B outer a o .none s'.heap/\(∀b o,s'.heap.get? b=ae o->b ∉ frs outer->(H' b≠ao \/ ∃u,s.heap.get? b=ae u)->B.get? b=ae o)/\s.heap.get? a=ao/\H' a=ao/\E (.ref C) o.dict H'/\o.cls=.ref C/\mH o
section
variable {fs:List af}{h0 h1 h2 B:eh}
theorem Un.fly(u:Un fs [] H H' h0 h1)(k:∀b o,h1.get? b=ae o->b ∉ fs->(H' b≠ao \/ ∃u,h0.get? b=ae u)->B.get? b=ae o)(hB:B.StaysIn h2)
  (sl:∀b∈fs,∀o,h1.get? b=ae o -> ∃z,h2.get? b=ae { o with slots:=z }):Un fs [] H H' h0 h2 where
 keep:=λb o e n hb hx=>hB b o (k b o (u.keep b o e n hb hx) hb (.inr ⟨_,e⟩))
 slot:=λb o e n hb hx=>by
  obtain⟨z,q⟩:=u.slot b o e n hb hx;obtain⟨z',q'⟩:=sl b hb _ q;exact⟨z',q'⟩
 free:=u.free
 there:=λb o e hx=>by
  obtain⟨o',q⟩:=u.there b o e hx;by_cases hb:b∈fs
  ·obtain⟨z,q'⟩:=sl b hb _ q;exact⟨_,q'⟩
  ·exact⟨_,hB b o' (k b o' q hb (.inr ⟨_,e⟩))⟩
 tups:=u.tups
 frzs:=u.frzs
 tbls:=u.tbls
theorem nJ.fly(x:nJ P w H' h1)(nf:∀b∈fs,H' b=ao)(k:∀b o,h1.get? b=ae o->b ∉ fs->(H' b≠ao \/ ∃u,h0.get? b=ae u)->B.get? b=ae o)(hB:B.StaysIn h2):nJ P w H' h2:=λb o e=>
 (x b o e).stay (λc v hc q=>by
  have hn:H' c≠ao:=by
   rcases hc with z | z
   ·rw[z,e];simp
   ·rw[z];simp
  exact hB c v (k c v q (λm=>hn (nf c m)) (.inl hn))) (λ_ q=>q) (λ_ _ q=>q) λ_ _ q=>q
end
section
variable {cd:ah}{s0:aj}{H0:Hp}{E:XK}
theorem MA(I:Inv (i6 (A3 P w) P w K mg base N a0I a0H f cd A outer s0 H0 E) pj σ H s)(m:Zw s.heap h' a (.ref C) us)
  (hE:E (.ref C) ao H):(i6 (A3 P w) P w K mg base N a0I a0H f cd A outer s0 H0 E).xe (.ref a) { s with heap:=h' }:=by
 have hin:∀env∈(i6 (A3 P w) P w K mg base N a0I a0H f cd A outer s0 H0 E).stack,∀b,env.frame=ae b->b∈frs (i6 (A3 P w) P w K mg base N a0I a0H f cd A outer s0 H0 E).stack:=λenv he b hb=>yv.mpr ⟨env,he,hb⟩;obtain⟨t,ge,_,_⟩:=m.there;have nb:(X3 s.heap (frs (i6 (A3 P w) P w K mg base N a0I a0H f cd A outer s0 H0 E).stack)).get? a=ao:=by
  cases q:(X3 s.heap (frs (i6 (A3 P w) P w K mg base N a0I a0H f cd A outer s0 H0 E).stack)).get? a with
  |none=>rfl
  |some o'=>
   have:=XV _ q;rw[m.new] at this;cases this
 refine LQ (base:=X3 s.heap (frs (i6 (A3 P w) P w K mg base N a0I a0H f cd A outer s0 H0 E).stack)) I.ok.frames ((W.funFrames_hide I.stack hin).of_keeps λb o hb _=>⟨o,m.keeps b o hb,rfl⟩) rfl (λb o q=>m.keeps b o (XV _ q)) nb ge rfl rfl λh2 x1 x4=>?_;have fs:∀b,b∈frs (i6 (A3 P w) P w K mg base N a0I a0H f cd A outer s0 H0 E).stack->b=(tw a0I a0H s0.heap.objs.size f cd).locals \/ b∈frs outer:=λb hb=>bv.mp (I.stkSub b hb);have k1:∀b o,s.heap.get? b=ae o->b ∉ frs outer->(H b≠ao \/ ∃u,s0.heap.get? b=ae u)->(X3 s.heap (frs (i6 (A3 P w) P w K mg base N a0I a0H f cd A outer s0 H0 E).stack)).get? b=ae o:=λb o e nb hc=>by
  refine ZE _ e λhm=>?_;rcases fs b hm with z | z
  ·rcases hc with hc | ⟨u,hu⟩
   ·exact hc (I.stkFree b hm)
   ·have:b<s0.heap.objs.size:=bh hu;have h2:s0.heap.objs.size<=b:=by rw[z];exact I.ok.above
    exact absurd (fc this h2) (sw _)
  ·exact nb z
 have sl:∀b∈frs outer,∀o,s.heap.get? b=ae o -> ∃z,h2.get? b=ae { o with slots:=z }:=λb hb o e=>by
  obtain⟨_,o',q,nf⟩:=I.funs.mem hb;rw[e] at q;cases q;exact x4 b o (m.keeps b o e) nf
 refine⟨a,_,C,H,_,rfl,I.os,I.bare,Un.fly I.base k1 x1.st sl,nJ.fly (fs:=frs outer) I.hok (λb hb=>?_) k1 x1.st,x1,λb o e nb hc=>?_,?_,I.hok.out m.new,hE,rfl,⟨_,rfl,rfl⟩⟩
 ·obtain⟨_,o,q,_⟩:=I.ok.funs.mem hb;exact I.base.free b o q (I.ok.frf b hb) (λz=>nomatch z)
 ·have:∃o',s.heap.get? b=ae o':=by
   rcases hc with hc | ⟨u,hu⟩
   ·cases q:H b with
    |none=>exact(hc q).elim
    |some v=>exact(I.hok b v q).at
   ·exact I.base.there b u hu (λz=>nomatch z)
  obtain⟨o',q⟩:=this;have q1:=k1 b o' q nb hc;have q2:=x1.st b o' q1;rw[e] at q2;cases q2;exact q1
 ·cases q:s0.heap.get? a with
  |none=>rfl
  |some o=>
   obtain⟨o',q'⟩:=I.base.there a o q (λz=>nomatch z);rw[m.new] at q';cases q'
end
variable {np:lj}
section
variable {x:bq}{t:TA}
theorem JO{Ψ:Hp->Prop}(hh:X.A.handled=ao)(hm:X.mg x=ae (.ref C))(hg:Gl X x)(q:F7 X.K C)(ha:PA X (e::es) t)
  (hx:∀(pj:List (af×jn)) (σ:St) (H:Hp) (s:aj) (h':eh) (a:af) (us:List ah),Inv X pj σ H s->Zw s.heap h' a (.ref C) us->Ψ H->X.xe (.ref a) { s with heap:=h' })
  (hdb:autoParam ((x==("__debug__":bq))=am) mJ._auto_1) (he:autoParam (ay (e::es) X.env=(am,gw e X.env)::ay es X.env) cA._auto_1) (hpl:autoParam ((jd a0P (ay es X.env)).any (·.1)=am) cA._auto_1):
  PS X (.Raise (ae (.Call (.Name x np) (e::es) [] a0P)) ao pos) (λ_ σ H=>t σ H λvs H1=>vs.length<=bo/\Ψ H1):=by
 intro pj s σ H D I h;obtain⟨bm,N,nm,qn,bs,hd,sn,sub,ab,col,dd,a0,a1,a2,a3,a5,mN,c1,c2,c3,c4⟩:=q.cls I.ok.mod.kin;refine wpAny_Raise_call_subT (N:=N) (bm:=bm) (C:=C) (q:=qn) (nm:=nm) (bs:=bs) (sn:=sn) (hdct:=hd) (sub:=sub) (col:=col) (ab:=ab) (dd:=dd) (k5:=a5) (k0:=a0) (k1:=a1) (k2:=a2) (k3:=a3) PySem.F.excBase_ValueError (mN:=mN) (c4.hasType rfl) hh ?_ c3 (oE I hg hm ⟨rfl,?_⟩ hdb)
 ·rw[he];show (am || (jd a0P (ay es X.env)).any (·.1))=am;rw[hpl];rfl
 ·have h1:=ha a0P pj s σ H _ I h;rw[he] at h1 ⊢;refine WP (ix h1 (λus s1 z=>?_) λ_ _ z=>z);obtain⟨vs,H1,I1,r,l,p⟩:=z;exact⟨rfl,by rw[<- r.length];exact l,I1.bk _ _ c1,c2.keeps I1.bk,c4.keeps I1.bk,λh' a m=>hx pj σ H1 s1 h' a us I1 m p⟩
end
noncomputable abbrev Cx.inx(X:Cx)(a:af):Cx:={ X with A:=X.A.mark (ae (.ref a)),calm:=am,xe:=λ_ _=>False,hs:=a::X.hs }
variable {M:Vl}{Q:Unit->aj->Prop}{n:bq}
theorem Cx.Ok.inx(ok:X.Ok)(a:af):(X.inx a).Ok:=
 ⟨ok.mod,ok.kind,ok.glob,ok.blt,ok.above,ok.inj,ok.has,ok.cab,(λz=>nomatch z),ok.frames,ok.stk,ok.exf,ok.bs,ok.bsz,ok.noex,ok.exfs,ok.funs,ok.frf,.inr ⟨a,bz,rfl⟩⟩
theorem Inv.inx(I:Inv X pj σ H s)(a:af)(m:∃o u,H a=ae (.frz o u)/\mH o):Inv (X.inx a) pj σ H s:=⟨I.ok.inx a,I.os,I.bare,I.base,I.loc,I.cell,I.free,I.freeC,I.pin,I.hok,I.len,λb hb=>(bv.mp hb).elim (λe=>e ▸ m) (I.mild b)⟩
theorem Inv.outx(ok:X.Ok)(I:Inv (X.inx a) pj σ H s):Inv X pj σ H s:=⟨ok,I.os,I.bare,I.base,I.loc,I.cell,I.free,I.freeC,I.pin,I.hok,I.len,λb hb=>I.mild b (bp _ hb)⟩
theorem Inv.goes(I:Inv X pj σ H s)(hN:X.N.Nodup)(hi:X.N[i]?=ae n)(hk:X.env.scope.names.lookup n=ae .local)
  (h:∀s',Inv X pj (σ.set i ao) H s'->Q () s'):bg M A (do bindName X.env n .none;unbindBehindTheSuite X.env n pos) Q E s:=by
 obtain⟨m,hn,hl⟩:=id I.loc;have hcls:(X.env.scope.kind == .class || (X.env.scope.kind == .module&&X.env.locals != X.env.globals))=am:=by rw[I.ok.kind];rfl
 refine wpAny_nameGoes_keeps hk hn hcls λh' v hn' hs=>h _ ?_;have old:∀b o,X.s₀.heap.get? b=ae o->h'.get? b=s.heap.get? b:=λb o e=>hs.2 b (gp (fc (bh e) I.ok.above));refine⟨I.ok,I.os,I.bare,⟨λb o e n hb hx=>?_,λb o e n hb hx=>?_,I.base.free,λb o e hx=>?_,I.base.tups,I.base.frzs,I.base.tbls⟩,⟨_,hn',λj y v' e1 e2 e3=>?_⟩,λy c e=>?_,I.free,I.freeC,λp hp=>?_,λb ob e=>?_,by simpa using I.len,I.mild⟩
 ·exact(old b o e).trans (I.base.keep b o e n hb hx)
 ·obtain⟨sl,q⟩:=I.base.slot b o e n hb hx;exact⟨sl,(old b o e).trans q⟩
 ·obtain⟨o',q⟩:=I.base.there b o e hx;exact⟨o',(old b o e).trans q⟩
 ·have ne:i≠j:=λz=>by
   subst z;by_cases hl2:i<σ.length
   ·rw[jf hl2] at e2;cases e2
   ·rw[uc (by simpa using sk hl2)] at e2;cases e2
  rw[gf ne] at e2;obtain⟨u,r,q⟩:=hl j y v' e1 e2 e3;have yn:y≠n:=λz=>ne (y6 hN hi (z ▸ e1));refine⟨u,r,?_⟩;rcases q with⟨k,q⟩ | ⟨k,c,q,z⟩
  ·exact .inl ⟨k,by simp[yn,q]⟩
  ·exact .inr ⟨k,c,q,z.sameBut hs (I.cne y c q)⟩
 ·obtain⟨w',z⟩:=I.cell y c e;exact⟨w',z.sameBut hs (I.cne y c e)⟩
 ·obtain⟨e,q,ne,nf,d⟩:=I.pin p hp;exact⟨(hs.2 p.1 ne).trans e,q,ne,nf,d⟩
 ·refine(I.hok b ob e).stay (λc w' hc q=>(hs.2 c ?_).trans q) (λ_ q=>q) (λ_ _ q=>q) λ_ _ q=>q;rintro rfl;rcases hc with rfl | hc
  ·rw[I.free] at e;cases e
  ·rw[I.free] at hc;cases hc
variable {b0:kg}{hb:List kg}{hpos:lj}{th:TS}{C0 C1:af}
section
variable {s1 s2:aj}{E:XK}{e:ah}{D:Ends}
noncomputable abbrev Ends.goes(D:Ends)(i:Nat):Ends:={ nx:=λσ H=>D.nx (σ.set i ao) H,rt:=D.rt,bk:=λσ H=>D.bk (σ.set i ao) H,ct:=λσ H=>D.ct (σ.set i ao) H }
theorem caught{c:bq}{a0J:List ExceptHandler}(I1:Inv X pj σ H1 s1)(cx:A3 X.prog X.w X.stack H1 s1 E e s2)
  (hN:X.N.Nodup) (hi:X.N[i]?=ae n) (hk:X.env.scope.names.lookup n=ae .local) (hst:X.stack=X.env::X.outer) (hfr:X.env.frame=ae X.env.locals) (hg:Gl X c) (hm:X.mg c=ae (.ref C1))
  (hx:Yi X.K (.ref C0) (.ref C1)=ae ak)
  (hE:∀C dd H',E (.ref C) dd H'->C=C0 /\ ∀a o,H' a=ao->o.cls=.ref C0->o.dict=dd->mH o->th (D.goes i) (σ.set i (ae (.ref a))) (upd H' a (.frz o (.own a))))
  (a0W:∀a,wF (X.inx a) (b0::hb) th) (hdb:autoParam ((c==("__debug__":bq))=am) mJ._auto_1):
  bg (bn X.prog X.w) X.A (Vy e X.env) (λ_ s3=>bg (bn X.prog X.w) X.A (ZK e ao) (λ_ s4=>
   bg (bn X.prog X.w) X.A (handleBy e X.env (.ExceptHandler (ae (.Name c np)) (ae n) (b0::hb) hpos::a0J)) (SP X pj D) X.xe s4) X.xe s3) X.xe s2:=by
 obtain⟨a,o0,C,H',B,rfl,os,bare,un,hok,fl,k,na,nH,hE',hc0,hm0⟩:=cx;obtain⟨rfl,go⟩:=hE C _ H' hE';have ff:X.A.frames=ae (X.env::X.outer):=by rw[<- hst];exact I1.ok.frames
 have nfr:∀b∈frs X.stack,H' b=ao:=λb hb=>by
  obtain⟨_,o,q,_⟩:=I1.stack.mem hb;exact un.free b o q (I1.stkFree b hb) (λz=>nomatch z)
 have sl:∀{h:eh},s2.heap.UpToSlots h -> ∀b∈frs X.stack,∀o,s2.heap.get? b=ae o -> ∃z,h.get? b=ae { o with slots:=z }:=λ{h} u b hb o e=>by
  obtain⟨_,o1,q,nf⟩:=I1.stack.mem hb;obtain⟨z,q2⟩:=un.slot b o1 q (I1.stkFree b hb) hb (λz=>nomatch z);rw[e] at q2;cases q2;exact u b _ e nf
 have inv:∀h,B.StaysIn h->s2.heap.UpToSlots h->Inv X pj σ H' { s2 with heap:=h }:=λh hB u=>
  I1.call' os (un.fly k hB (sl u)) (nJ.fly hok nfr k hB) bare (λ_ z=>nomatch z)
 rw[hst] at fl;refine LP ff hfr fl λh4 hl4 u4=>?_;refine v5 hl4 λh5 hl5 u5=>?_;have I5:=inv h5 hl5.st (u4.trans u5);obtain⟨o5,he5,lk5⟩:=hl5.there;have hc5:o5.cls=.ref C:=lk5.cls.trans hc0;have nu:∀b u,H' b=ae u->b≠a:=λb u e z=>by rw[z,nH] at e;cases e
 have invx:∀h oh,B.StaysIn h->s2.heap.UpToSlots h->h.get? a=ae oh->Inv X pj σ (upd H' a (.frz oh (.own a))) { s2 with heap:=h }:=λh oh hB u g=>by
  have un6:=un.fly k hB (sl u);refine I1.call' os (ch:=[]) ⟨un6.keep,un6.slot,λb o e n hx=>?_,un6.there,λb xs e=>?_,λb o u e=>?_,λb ps e=>?_⟩ (λb u' e=>?_) bare (λ_ z=>nomatch z)
  ·rw[b5 (λz=>by rw[z,na] at e;cases e)];exact un6.free b o e n hx
  ·rw[b5 (nu b _ (un6.tups b xs e))];exact un6.tups b xs e
  ·rw[b5 (nu b _ (un6.frzs b o u e))];exact un6.frzs b o u e
  ·obtain⟨m,q⟩:=un6.tbls b ps e;exact⟨m,by rw[b5 (nu b _ q)];exact q⟩
  ·by_cases hb:b=a
   ·subst hb;rw[bP] at e;cases e;exact⟨g,_,g⟩
   ·rw[b5 hb] at e;exact((inv h hB u).hok b u' e).stay (λ_ _ _ q=>q) (λc q=>by rw[b5 (nu c _ q)];exact q) (λc xs q=>by rw[b5 (nu c _ q)];exact q) λc xs q=>by rw[b5 (nu c _ q)];exact q
 have I5x:=(invx h5 o5 hl5.st (u4.trans u5) he5).inx a ⟨o5,_,bP,lk5.mild hm0⟩;refine wpAny_handleBy_cons (codeAny_handlers_test (oE (X:=X.inx a) I5x hg hm ?_ hdb)) (λz=>nomatch z);have LT:xh (bn X.prog X.w) h5 (zd (.ref a)) (.ref C):=hc5 ▸ (a0y he5).andThen .now;refine(W.exm_one I5.kIn LT hx).here (codeAny_handlers_suite_as ?_);refine v5 hl5 λh6 hl6 u6=>?_;obtain⟨o6,he6,lk6⟩:=hl6.there;have hc6:o6.cls=.ref C:=lk6.cls.trans hc0;have I7:=invx h6 o6 hl6.st ((u4.trans u5).trans u6) he6;refine sY (X:=X.inx a) (v:=.ref a) (I7.inx a ⟨o6,_,bP,lk6.mild hm0⟩) hN hi (.inl hk) rfl (λs7 I8=>?_) (.inr hk);refine ix (a0W a pj s7 _ _ (D.goes i) I8 (go a o6 nH hc6 lk6.dict (lk6.mild hm0))) (λf s8 q=>?_) λ_ _ z=>z.elim;cases f with
 |next=>
  obtain⟨σ',H'',I9,q⟩:=q;exact(I9.outx I1.ok).goes hN hi hk λs9 I10=>⟨_,_,I10,q⟩
 |brk=>
  obtain⟨σ',H'',I9,q⟩:=q;exact(I9.outx I1.ok).goes hN hi hk λs9 I10=>⟨_,_,I10,q⟩
 |cont=>
  obtain⟨σ',H'',I9,q⟩:=q;exact(I9.outx I1.ok).goes hN hi hk λs9 I10=>⟨_,_,I10,q⟩
 |ret u=>
  obtain⟨v,σ',H'',I9,r,q⟩:=q;exact(I9.outx I1.ok).goes hN hi hk λs9 I10=>⟨v,_,_,I10,r,q⟩
end
variable {sp:Sp}{fd:ko}
section
variable {k:Nat}{x:bq}{epos:lj}{t:TA}
theorem PC{c:bq}{a18:List kg}{to:TS}(hno:∀e s,¬X.xe e s)(F:FnOk X.prog X.w X.K X.mg X.base (A3 X.prog X.w) k f fd ps sp)(hr:Room k X.A)(hg:Gl X x)
  (hm:X.mg x=ae (.ref f)) (hkp:qc X.K (.ref f)=ak) (hbd:j4 X.K fd ps []) (ha:PA X (e::es) t)
  (hN:X.N.Nodup) (hi:X.N[i]?=ae n) (hk:X.env.scope.names.lookup n=ae .local) (hst:X.stack=X.env::X.outer) (hfr:X.env.frame=ae X.env.locals) (hgc:Gl X c) (hmc:X.mg c=ae (.ref C1))
  (hx:Yi X.K (.ref C0) (.ref C1)=ae ak) (a0W:∀a,wF (X.inx a) (b0::hb) th) (hel:wF X a18 to)
  (hdb:autoParam ((x==("__debug__":bq))=am) mJ._auto_1) (hdc:autoParam ((c==("__debug__":bq))=am) mJ._auto_1) (he:autoParam (ay (e::es) X.env=(am,gw e X.env)::ay es X.env) cA._auto_1) (hpl:autoParam ((jd a0P (ay es X.env)).any (·.1)=am) cA._auto_1)
  (hs:autoParam (io (.Call (.Name x p) (e::es) [] a0P) ao epos.line X.env=jh am) cA._auto_1):
  PS X (.Try [.Expr (.Call (.Name x p) (e::es) [] a0P) epos] [.ExceptHandler (ae (.Name c np)) (ae n) (b0::hb) hpos] a18 [] pos)
   (λD σ H=>t σ H λvs H1=>sp vs H1 (λ_ H2=>to D σ H2) (λcv dd H2=>∀C,cv=.ref C->C=C0 /\ ∀a o,H2 a=ao->o.cls=.ref C0->o.dict=dd->mH o->th (D.goes i) (σ.set i (ae (.ref a))) (upd H2 a (.frz o (.own a))))):=by
 intro pj s σ H D I h;refine wpAny_Try_except (W0 (Ze (om (oE I hg hm ?_ hdb)) I.quiet hs));refine yi (h₀:=X.base) I.ok.mod.kin hkp (ix (ha a0P pj s σ H _ I h) (λus s1 z=>?_) λe s z=>(hno e s z).elim) he hpl;obtain⟨vs,H1,I1,r,q⟩:=z;refine⟨I1.kIn,?_⟩;have hl:us.length=ps.length:=by rw[<- r.length];exact F.len _ _ _ _ q
 have hb1:=hbd s1 us I1.kIn (by rw[fy];exact hl);rw[fy] at hb1;refine yx (ut (F.run X.A X.stack s1 H1 ⟨us,[]⟩ us vs _ _ hr I1.env0 hb1 r q) λr s2 hq=>?_);cases r with
 |error e=>
  dsimp only[CR] at hq;exact caught I1 hq hN hi hk hst hfr hgc hmc hx (λC dd H' z=>z C rfl) a0W hdc
 |ok fl=>
  cases fl with
  |ret u=>
   obtain⟨v,H2,I2,_,q2⟩:=I1.after hq;exact ve (hel pj s2 σ H2 D I2 q2)
  |next=>exact gy hq
  |brk=>exact gy hq
  |cont=>exact gy hq
end
structure ExcI(K:aq)(C:af):Prop where
 cls:YB K C=ak
 ga:jv K (.ref C) "__getattribute__"=ae (ae (.builtin "BaseException.__getattribute__"))
 gt:jv K (.ref C) "__getattr__"=ae ao
 be:Y0 K C (.type "BaseException")=ae ak
 ca:jv K (.ref C) "__class__"=ae (ae (.builtin "object.__class__"))
 sp:WN K (.builtin "object.__class__") "__get__"=ae (ae (.builtin "getset_descriptor.__get__"))
 tk:Ys K (.builtin "object.__class__")=ae ak
 ob:Y0 K C (.type "object")=ae ak
def zB(x C:af)(h:eh):Prop:=∃o,h.get? x=ae o/\o.cls=.ref C
section
open PySem.Calls PySem.Builtin PySem.Builtin.ObjectAttr PySem.Builtin.Getset_descriptor
variable {x:af}
theorem zB.ty(o:zB x C h):xh M h (zd (.ref x)) (.ref C):=by
 obtain⟨ox,e,c⟩:=o;rw[<- c];exact(a0y e).andThen .now
theorem DC{a g:ah}(X:K.In h)(ha:jv K (.ref C) n=ae (ae a))(hg:WN K a "__get__"=ae (ae g))(ht:Ys K a=ae ak):
  xh M h (find (.ref x) (.ref C) n) (.bind g a):=by
 have l1:=yw (M:=M) X ha;have l2:xh M h (getOf (ae a)) (ae g):=W.looks_specialIn X hg;have l3:xh M h (dataDescriptor? (ae a) (ae g)) (ae (g,a)):=(W.looks_takesIn (M:=M) X ht).andThen .now;exact l1.andThen (l2.andThen (l3.andThen (xh.tag .now)))
theorem Bx{R:a0u->aj->Prop}{tp:ah}(X:K.In s.heap)(o:zB x C s.heap)(hm:Y0 K C (.type "object")=ae ak)(hR:R (.ok (.ret (.ref C))) s):
  yh (bn prog w) A (.call (.builtin "getset_descriptor.__get__") ⟨[.builtin "object.__class__",.ref x,tp],[]⟩) R s:=by
 obtain⟨hp,ge,dr,tk,os⟩:=s;have l0:xh (bn prog w) hp (zd (.ref x)) (.ref C):=o.ty;have l1:=Xq (M:=bn prog w) X hm;refine WX a04.plain W.KF.entry_gs (a04.check _ _ _ _ _ _ _ _ W.KF.type_class (W.KF.args_gs _ _ _) ?_);unfold qy.«getset_descriptor.__get__»;unfold descrGet;rw[W.dga_obj];refine aa (ai ?_);unfold descrGetter;unfold descrCheckInstance;unfold descrNameAndClass;unfold qm;simp only[W.KF.owner_class]
 repeat lk
 refine⟨XI _ (by decide +kernel),vf W.KF.entry_class ?_⟩;unfold qy.«object.__class__»;unfold shownTypeOf
 repeat lk
 exact hR
theorem LM{R:Fin->aj->Prop}{tk:a0F}(X:K.In s.heap)(o:zB x C s.heap)(c:ExcI K C)(hR:R (.done (.ret (.ref C))) s):bg (bn prog w) A (qy.«object.__getattribute__» ⟨[.ref x,.str "__class__" tk],[]⟩) R E s:=by
 obtain⟨hp,g,d,t,os⟩:=s;have l0:xh (bn prog w) hp (zd (.ref x)) (.ref C):=o.ty;have l3:=DC (M:=bn prog w) (x:=x) X c.ca c.sp c.tk;unfold qy.«object.__getattribute__»;refine aa (ai (aa (ai (aa (l0.at (aa (l3.at ?_)))))));show bg _ _ (bindTo _ _ _ _) _ _ _;unfold bindTo;refine aa (je (yx (Bx X o c.ob ?_)));exact ai hR
theorem LN{nv:ah}(X:K.In s.heap)(o:zB x C s.heap)(c:ExcI K C)(hQ:Q () s):bg (bn prog w) A (YC "BaseException.__getattribute__" ⟨[.ref x,nv],[]⟩) Q E s:=by
 obtain⟨hp,g,d,t,os⟩:=s;have l0:xh (bn prog w) hp (zd (.ref x)) (.ref C):=o.ty;have l4:=Xq (M:=bn prog w) X c.be;have k1:builtinKind "BaseException.__getattribute__"=ae .slot:=by decide +kernel
 have k2:splitId "BaseException.__getattribute__"=ae ("BaseException","__getattribute__"):=by decide +kernel
 have k3:=PySem.F.args_bexc_ga (.ref x) nv;simp only[YC,k1,k2];refine aa ?_;unfold qm;refine aa (l0.at (l4.at ?_))
 repeat (any_goals (first | assumption | wp_step))
theorem z7{Q:Option ah->aj->Prop}(X:K.In s.heap)(o:zB x C s.heap)(c:ExcI K C)(hQ:Q (ae (.ref C)) { s with toks:=s.toks+1 }):bg (bn prog w) A (getAttr? (.ref x) "__class__") Q E s:=by
 obtain⟨hp,g,d,t,os⟩:=s;have l0:xh (bn prog w) hp (zd (.ref x)) (.ref C):=o.ty;have l1:=yw (M:=bn prog w) X c.ga;have l2:=yw (M:=bn prog w) X c.gt;have l4:=Xq (M:=bn prog w) X c.be;have ne:(tm "BaseException.__getattribute__" == tm "object.__getattribute__")=am:=by decide +kernel
 unfold getAttr?;unfold getAttrBy?;unfold getAttrBy;refine aa (wpAny_mkText (aa (lw (je (aa (l0.at (aa (l1.at ?_))))))));dsimp only;rw[ne,qz,a0h fw];unfold getAttrByItsOwn;unfold hookBefore;rw[a0G (show onTheHeap (Value.ref C)=ak from rfl)];refine aa (l2.at ?_);refine aa (lw (je ?_));unfold callGetattribute;rw[a0h (by simp)];unfold boundAndCalled;refine aa (wpAny_of_eq (We.ga.bind (.ref x)) ?_);refine yx (WX We.ga.plain PySem.F.entry_bexc_ga ?_);refine LN X o c (LM X o c ?_);exact W.handed_on rfl (ai hQ)
theorem G5(c:ExcI K C):W.KitX K (.ref x) (.ref C) (zB x C) where
 ty:=λ_ _ _ o=>o.ty
 it:=λ_ _ X _=>by
  have cl:=c.cls;unfold YB W.clsIn at cl;split at cl
  ·rename_i ho;intro A1 Q1 E1 s1 kp z;unfold isType loadHead;exact aa (Zi (kp _ _ (X _ _ ho)) (ai z))
  ·cases cl
 ne:=λh tp dd its m sl X htp=>by
  have cl:=c.cls;refine Bool.eq_false_iff.mpr λz=>?_;have e:C=tp:=Value.ref.inj (beq_iff_eq.mp z);subst e;unfold YB W.clsIn at cl;split at cl
  ·rename_i ho;cases (X _ _ ho).symm.trans htp
  ·cases cl
 ca:=λX o k=>z7 X o c k
end
def RX(K:aq):List V->Hp->VK->Prop:=λxs H Q=>∃(a C C':af) (o:jn) (u:HO) (b:Bool),xs=[.ref a,.ref C']/\H a=ae (.frz o u)/\o.cls=.ref C/\ExcI K C/\gr K (.ref C) (.ref C')=ae b/\Q (.bl b) H
theorem IJ:gI X (.builtin "isinstance") (RX X.K):=by
 intro pj s σ H xs us Q I r h;obtain⟨a,C,C',o,u,b,rfl,ha,hc,ci,kb,q⟩:=h;obtain⟨u1,u2,rfl,r1,r2⟩:=FC r;cases r1;cases r2;obtain⟨ho,_⟩:=(show cR X.prog X.w H s.heap a (.frz o u) from I.hok a _ ha);exact px (G5 ci) I.kIn ⟨o,ho,hc⟩ kb (λz=>nomatch z) λtk=>⟨.bl b,H,I.tok tk,rfl,q⟩
noncomputable abbrev pG(A:cb):cb:={ A with handled:=ao }
def Td(A:cb)(H:Hp):Prop:=A.handled=ao \/ ∃a o u,A.handled=ae (.ref a)/\H a=ae (.frz o u)/\mH o
theorem Inv.hdOk(I:Inv X pj σ H s):Td X.A H:=by
 rcases I.ok.hq with e | ⟨a,ha,e⟩
 ·exact .inl e
 ·obtain⟨o,u,g,m⟩:=I.mild a ha;exact .inr ⟨a,o,u,e,g,m⟩
structure FnOkH(P:bj)(w:df)(K:aq)(mg:bq->Option ah)(base:eh)(k:Nat)(f:af)(fd:ko)(ps:List bq)(sp:Sp):Prop where
 len:∀vs H Q E,sp vs H Q E->vs.length=ps.length
 run:∀(A:cb) (outer:List zw) (s:aj) (H:Hp) (args:Args) (us:List ah) (vs:List V) (Q:VK) (E:XK),Room k (pG A)->Td A H->Env0 P w K mg base A outer s H->X6 s fd args (ps.zip us)->bM vs us->sp vs H Q E ->
  yh (bn P w) A (.call (.ref f) args) (CR CF outer P w H s Q E) s
noncomputable abbrev Tv(P:bj)(w:df)(K:aq)(mg:bq->Option ah)(base:eh)(N:List bq)(a0I:bq)(a0H:Scope)(f:af)(cd:ah)(A:cb)(outer:List zw)(s:aj)(H:Hp)(E:XK):Cx:=
 { i6 CF P w K mg base N a0I a0H f cd A outer s H E with calm:=am,xe:=λ_ _=>False }
theorem Qb{k:Nat}{name:bq}{a17:ZP}{a0R:List kg}{dV kV doc pm cdv ct oc:ah}{an od:Option af}
  {osl:Array (Option ah)}   (lk:K.lookup f=ae ⟨oc,od,.func (xy name a0I a17 a0R a0H dV kV doc pm an cdv ct),osl⟩) (hcd:W4 K cdv a0I=ak) (S:FnScope N ps a0H)
  (len:∀vs H Q E,sp vs H Q E->vs.length=ps.length)
  (a0W:∀(A:cb) (outer:List zw) (s:aj) (H:Hp) (vs:List V) (Q:VK) (E:XK),Room k (pG (A.deeper (tw a0I a0H s.heap.objs.size f cdv)))->sp vs H Q E ->
   ∃t,wF (Tv P w K mg base N a0I a0H f cdv A outer s H E) a0R t/\t { nx:=λ_ H'=>Q .non H',rt:=Q } (start N vs) H):
  FnOkH P w K mg base (k+1) f (xy name a0I a17 a0R a0H dV kV doc pm an cdv ct) ps sp:=by
 refine⟨len,λA outer s H args us vs Q E hr hdk e0 hb r hsp=>?_⟩;have hl:=len _ _ _ _ hsp;have KX:K.In s.heap:=e0.mod.kin.keeps λb o e=>(e0.bs b o e).1;have lim:s.heap.NoLimit:=e0.mod.nolimit.keeps λb o e=>(e0.bs b o e).1;have a0T:∀y∈ps.zip us,a0H.names.lookup y.1=ae .local \/ (a0H.names.lookup y.1=ae .cell/\((Yt (s.heap.objs.size+1) a0H.names []).lookup y.1).isSome=ak):=λ⟨n,v⟩ hy=>by
  rcases S.par n (Xy hy).1 with q | q
  ·exact .inl q
  ·exact .inr ⟨q,W3 _ _ _ (.inl q)⟩
 refine WG (show A.depth<WO from hr.depth) (KX _ _ lk) rfl S.co S.gen rfl (ZW KX hcd) (hb _ _ _ _ ?_);refine za S.kind a0T λenv he s1 x=>?_;subst he;refine⟨lim.keeps x.toInCall.keep,codeAny_func ?_⟩;obtain⟨t,ht,hq⟩:=a0W A outer s H vs Q E (hr.deeper _) hsp;have e1:Env0 P w K mg base (pG A) outer s H:=⟨e0.frames,e0.mod,e0.bs,e0.bsz,e0.funs,e0.frf,e0.hok,e0.bare⟩;have I0:Inv (i6 CF P w K mg base N a0I a0H f cdv (pG A) outer s H E) [] (start N vs) H s1:=AU S rfl e1 hl r x;have I:Inv (Tv P w K mg base N a0I a0H f cdv A outer s H E) [] (start N vs) H s1:=
  ⟨⟨I0.ok.mod,I0.ok.kind,I0.ok.glob,I0.ok.blt,I0.ok.above,I0.ok.inj,I0.ok.has,I0.ok.cab,(λz=>nomatch z),I0.ok.frames,I0.ok.stk,I0.ok.exf,I0.ok.bs,I0.ok.bsz,I0.ok.noex,I0.ok.exfs,I0.ok.funs,I0.ok.frf,(show A.handled=ao \/ ∃a,a∈DJ A/\A.handled=ae (.ref a) from hdk.elim .inl λzq4=>by obtain⟨a,_,_,e,_,_⟩:=zq4;exact .inr ⟨a,by unfold DJ;rw[e];exact bz,e⟩)⟩,
   I0.os,I0.bare,I0.base,I0.loc,I0.cell,I0.free,I0.freeC,I0.pin,I0.hok,I0.len,(show ∀a∈DJ A,∃o u,H a=ae (.frz o u)/\mH o from λb hb=>by
    unfold DJ at hb;rcases hdk with e | ⟨a,o,u,e,g,m⟩
    ·rw[e] at hb;simp at hb
    ·rw[e] at hb;have:b=a:=by simpa using hb
     subst this;exact⟨o,u,g,m⟩)⟩
 refine ix (ht [] s1 (start N vs) H _ I hq) (λfl s' hs=>?_) λe s' hs=>hs.elim;have fin:∀{σ':St} {H':Hp} {v:V} {u:ah},Inv (Tv P w K mg base N a0I a0H f cdv A outer s H E) [] σ' H' s'->cM v u->Q v H'->CE outer P w H s Q u s':=
  λ{σ' H' v u} J rv q=>⟨v,H',J.os,J.bare,J.base,J.hok,rv,q⟩
 cases fl with
 |ret u=>
  obtain⟨v,σ',H',J,rv,q⟩:=hs;exact fin J rv q
 |next=>
  obtain⟨σ',H',J,q⟩:=hs;exact fin (v:=V.non) (u:=fh) J rfl q
 |brk=>
  obtain⟨_,_,_,q⟩:=hs;exact gy q
 |cont=>
  obtain⟨_,_,_,q⟩:=hs;exact gy q
section
variable {k:Nat}{E:XK}{x:bq}{t:TA}
theorem Jf(F:FnOkH X.prog X.w X.K X.mg X.base k f fd ps sp)(hr:Room k (pG X.A))(hg:Gl X x)(hm:X.mg x=ae (.ref f))(hk:qc X.K (.ref f)=ak)(hb:j4 X.K fd ps [])
  (ha:PA X (e::es) t) (hdb:autoParam ((x==("__debug__":bq))=am) mJ._auto_1) (he:autoParam (ay (e::es) X.env=(am,gw e X.env)::ay es X.env) cA._auto_1) (hpl:autoParam ((jd pos (ay es X.env)).any (·.1)=am) cA._auto_1):
  PE X (.Call (.Name x p) (e::es) [] pos) (Ny sp [] E t):=by
 intro pj s σ H Q I h;refine om (oE I hg hm ?_ hdb);refine yi (h₀:=X.base) I.ok.mod.kin hk (thn (ha pos pj s σ H _ I h) λus s1 ⟨vs,H1,I1,r,q⟩=>⟨I1.kIn,?_⟩) he hpl;replace q:sp (vs++[]) H1 Q E:=q;rw[fy] at q;have hl:us.length=ps.length:=by rw[<- r.length];exact F.len _ _ _ _ q
 have hb1:=hb s1 us I1.kIn (by rw[fy];exact hl);rw[fy] at hb1;refine yx (ut (F.run X.A X.stack s1 H1 ⟨us,[]⟩ us vs Q E hr I1.hdOk I1.env0 hb1 r q) λr s' hq=>?_);cases r with
 |error e=>exact gy hq
 |ok fl=>
  cases fl with
  |ret u=>exact I1.after hq
  |next=>exact gy hq
  |brk=>exact gy hq
  |cont=>exact gy hq
end
end _L
namespace _Z
open _L
abbrev IP:=af×Option Int
abbrev IS:=List Dv->(R->Prop)->(IP->Prop)->Prop
inductive lowX(K:aq)(sp:IS)(vs:List V)(H:Hp)(Q:VK)(E:XK):Prop
 |mk (F:af->Prop) (ds:List Dv) (Ψ:IP->Prop) (hF:OldF K F H) (r:Reps K F H vs ds) (q:sp ds (λr=>∀x H',aT H H'->eX K F Aj H x r H'->Q x H') Ψ) (hE:∀C p dd H',Ψ (C,p)->aT H H'->zA H' p dd->E (.ref C) dd H')
structure MonoX(sp:IS):Prop where
 mo:∀ds (Q Q':R->Prop) (Ψ Ψ':IP->Prop),(∀r,Q r->Q' r)->(∀C,Ψ C->Ψ' C)->sp ds Q Ψ->sp ds Q' Ψ'
structure DefX(P:bj)(w:df)(K:aq)(mg:bq->Option ah)(base:eh)(k:Nat)(x:bq)(ps:List bq)(sp:Sp):Prop where
 ex:∃f fd,mg x=ae (.ref f)/\qc K (.ref f)=ak/\j4 K fd ps []/\FnOk P w K mg base (A3 P w) k f fd ps sp
structure QxS(X:Cx)(HZ:Hp)(F:af->Prop)(st:kg)(t:c7):Prop where
 mono:∀E E' ρ,EnLe E E'->t E ρ->t E' ρ
 run:PS X st (liftS X.K HZ F t)
structure QxB(X:Cx)(HZ:Hp)(F:af->Prop)(sts:List kg)(t:c7):Prop where
 mono:∀E E' ρ,EnLe E E'->t E ρ->t E' ρ
 run:wF X sts (liftS X.K HZ F t)
variable {st:kg}
section
variable {sts a b:List kg}{t u:c7}{c:Expr}{tc:mG}
theorem QS.x(h:QS X st t):QxS X HZ F st t:=⟨h.mono,h.run HZ F⟩
theorem QSs.x(h:QSs X sts t):QxB X HZ F sts t:=⟨h.mono,h.run HZ F⟩
theorem IV(h:QxS X HZ F st t):QxB X HZ F [st] t:=⟨h.mono,FR h.run⟩
theorem nK(h1:QxS X HZ F st t)(h2:QxB X HZ F sts u):QxB X HZ F (st::sts) (aP t u):=by
 refine⟨λE E' ρ w h=>h1.mono _ _ _ (w.with_nx λρ h=>h2.mono _ _ _ w h) h,uD (mZ h1.run h2.run) λD σ H z=>?_⟩;obtain⟨ρ,E,fr,h,en⟩:=z;exact⟨ρ,_,fr,h,λρ' σ' H' fr' h'=>⟨ρ',E,fr',h',en⟩,en.bk,en.ct,en.rt⟩
theorem U0(hc:QT X c tc)(ha:QxB X HZ F a t)(hb:QxB X HZ F b u):QxS X HZ F (.If c a b pos) (gM tc t u):=by
 refine⟨λE E' ρ w h=>hc.mono _ _ _ (λk q=>?_) h,e7 (JR (hc.run HZ F) ha.run hb.run) λD σ H z=>?_⟩
 ·cases k with
  |true=>exact qX (ha.mono _ _ _ w (by simpa using q))
  |false=>exact pV (hb.mono _ _ _ w (by simpa using q))
 ·obtain⟨ρ,E,fr,h,en⟩:=z;refine hc.step fr h λk H1 q S1=>?_;cases k with
  |true=>exact qX ⟨ρ,E,fr.mono S1,by simpa using q,en⟩
  |false=>exact pV ⟨ρ,E,fr.mono S1,by simpa using q,en⟩
end
def Az(Ψ:IP->Prop)(C:af)(ts:oN):c7:=λ_ ρ=>ts ρ λrs=>rs.length<=1000/\Ψ (C,ao)
theorem lA.len{K:aq}{M:af->Prop}{O:af->Dv->Prop}{H H':Hp}:∀{xs:List V} {rs:List R},lA K M O H xs rs H'->xs.length=rs.length
 |_,_,.nil=>rfl
 |_,_,.cons _ t=>by rw[dg,dg,lA.len t]
section
variable {cd:ah}{s0:aj}{H0:Hp}{E:XK}
end
variable {nm:bq}
theorem At.okX{k:Nat}{x:bq}{sp:IS}{t:(IP->Prop)->c7}(a:At K mg x nm st ps)(S:FnScope N ps (aM st))
  (hq:∀(f:af) (cdv:ah) (A:cb) (outer:List zw) (s:aj) (H:Hp) (E:XK) (F:af->Prop) (Ψ:IP->Prop),Room k (A.deeper (tw nm (aM st) s.heap.objs.size f cdv))->(∀C p dd H',Ψ (C,p)->aT H H'->zA H' p dd->E (.ref C) dd H') ->
   QxB (i6 (A3 P w) P w K mg base N nm (aM st) f cdv A outer s H E) H F (eK st) (t Ψ))
  (len:∀ds Q Ψ,sp ds Q Ψ->ds.length=ps.length) (hsp:∀ds Q Ψ,sp ds Q Ψ->t Ψ ↥Q (aN N ds)):DefX P w K mg base (k+1) x ps (lowX K sp):=by
 obtain⟨f,fd,hm,F,hb⟩:=a.ex;obtain⟨oc,od,kV,doc,pm,an,cdv,ct,osl,rfl,lk,hcd⟩:=F.ex;refine⟨f,_,hm,F.kp,hb,OR lk hcd S (λvs H Q E z=>?_) λA outer s H vs Q E hr z=>?_⟩
 ·obtain⟨F,ds,Ψ,hF,r,q,hE⟩:=z;rw[r.length];exact len _ _ _ q
 ·obtain⟨F,ds,Ψ,hF,r,q,hE⟩:=z;exact⟨_,(hq f cdv A outer s H E F Ψ hr hE).run,aN N ds,_,CL hF r,hsp ds _ Ψ q,λρ σ H' fr q=>q .non H' fr.same Rep.non,λ_ _ _ _ z=>z.elim,λ_ _ _ _ z=>z.elim,λrr x H' S rx q=>q x H' S rx⟩
noncomputable abbrev En.goes(E:En)(i:Nat):En:={ nx:=λρ=>E.nx (ρ.set i .un),rt:=E.rt,bk:=λρ=>E.bk (ρ.set i .un),ct:=λρ=>E.ct (ρ.set i .un) }
def J2(C0:af)(i:Nat)(sp:IS)(ts:oN)(th to:c7):c7:=λE ρ=>ts ρ λrs=>sp (rs.map R.d) (λ_=>to E ρ) (λx=>x.1=C0/\th (E.goes i) (ρ.set i (.v (.exc C0 x.2))))
theorem EnLe.goes{E E':En}(w:EnLe E E')(i:Nat):EnLe (E.goes i) (E'.goes i):=⟨λ_ h=>w.nx _ h,w.rt,λ_ h=>w.bk _ h,λ_ h=>w.ct _ h⟩
theorem Ent.goes{K:aq}{HZ:Hp}{F:af->Prop}{E:En}{D:Ends}(en:Ent K HZ F E D)(i:Nat):Ent K HZ F (E.goes i) (D.goes i):=
 ⟨λ_ _ _ fr h=>en.nx _ _ _ fr.setu h,λ_ _ _ fr h=>en.bk _ _ _ fr.setu h,λ_ _ _ fr h=>en.ct _ _ _ fr.setu h,en.rt⟩
variable {ts:oN}
section
variable {k:Nat}{sp:IS}{x:bq}{epos:lj}
theorem Rb{c n:bq}{b0:kg}{hb a18:List kg}{hpos np:lj}{th to:c7}{C0 C1:af}(hno:∀e s,¬X.xe e s)(d:DefX X.prog X.w X.K X.mg X.base k x ps (lowX X.K sp))(mo:MonoX sp)(hr:Room k X.A)(ha:QA X (e::es) ts)
  (hN:X.N.Nodup) (hmc:X.mg c=ae (.ref C1)) (hx:Yi X.K (.ref C0) (.ref C1)=ae ak) (a0W:∀a,QSs (X.inx a) (b0::hb) th) (hel:QSs X a18 to)
  (hi:autoParam (X.N[i]?=ae n) cA._auto_1) (hk:autoParam (X.env.scope.names.lookup n=ae .local) cA._auto_1) (hst:autoParam (X.stack=X.env::X.outer) cA._auto_1) (hfr:autoParam (X.env.frame=ae X.env.locals) cA._auto_1) (hg:autoParam (Gl X x) cA._auto_1) (hgc:autoParam (Gl X c) cA._auto_1)
  (hdb:autoParam ((x==("__debug__":bq))=am) mJ._auto_1) (hdc:autoParam ((c==("__debug__":bq))=am) mJ._auto_1) (he:autoParam (ay (e::es) X.env=(am,gw e X.env)::ay es X.env) cA._auto_1) (hpl:autoParam ((jd a0P (ay es X.env)).any (·.1)=am) cA._auto_1)
  (hs:autoParam (io (.Call (.Name x p) (e::es) [] a0P) ao epos.line X.env=jh am) cA._auto_1):
  QS X (.Try [.Expr (.Call (.Name x p) (e::es) [] a0P) epos] [.ExceptHandler (ae (.Name c np)) (ae n) (b0::hb) hpos] a18 [] pos) (J2 C0 i sp ts th to):=by
 obtain⟨f,fd,hm,hkp,hbd,FO⟩:=d.ex;refine⟨λE E' ρ w h=>ha.mono _ _ _ (λrs q=>mo.mo _ _ _ _ _ (λ_ q=>hel.mono _ _ _ w q) (λC q=>⟨q.1,(a0W 0).mono _ _ _ (w.goes i) q.2⟩) q) h,λHZ F=>e7 (PC (th:=liftS X.K HZ F th) (to:=liftS X.K HZ F to) hno FO hr hg hm hkp hbd (ha.run HZ F) hN hi hk hst hfr hgc hmc hx (λa=>(a0W a).run HZ F) (hel.run HZ F) hdb hdc he hpl hs) λD σ H z=>?_⟩;obtain⟨ρ,E,fr,h,en⟩:=z;refine ha.step fr h λrs xs H1 q S1 r1=>?_;have fr1:=fr.mono S1;refine⟨lent (MM F ρ) rs,_,λx=>x.1=C0/\th (E.goes i) (ρ.set i (.v (.exc C0 x.2))),⟨λa z=>fr1.dom z.1,fr1.tab⟩,qL fr (λ_ h=>h) r1,mo.mo _ _ _ _ _ (λr q x H' S rx=>?_) (λC q=>q) q,λC p dd H2 q S2 py=>?_⟩
 ·exact⟨ρ,E,fr1.mono S,q,en⟩
 ·intro C' ec;cases ec;refine⟨q.1,λa o hn hc hd hm=>?_⟩;have S3:aT H2 (upd H2 a (.frz o (.own a))):=aT.new' hn;exact⟨_,_,((fr1.mono S2).mono S3).setv (.exc ⟨o,_,bP,hc,by rw[hd];exact py.gen λb o u e=>S3 b _ e,hm⟩),q.2,en.goes i⟩
end
structure DefH(P:bj)(w:df)(K:aq)(mg:bq->Option ah)(base:eh)(k:Nat)(x:bq)(ps:List bq)(sp:Sp):Prop where
 ex:∃f fd,mg x=ae (.ref f)/\qc K (.ref f)=ak/\j4 K fd ps []/\FnOkH P w K mg base k f fd ps sp
theorem At.okH{k:Nat}{x:bq}{t:c7}(a:At K mg x nm st ps)(S:FnScope N ps (aM st))
  (hq:∀(f:af) (cdv:ah) (A:cb) (outer:List zw) (s:aj) (H:Hp) (E:XK),Room k (pG (A.deeper (tw nm (aM st) s.heap.objs.size f cdv)))->QSs (Tv P w K mg base N nm (aM st) f cdv A outer s H E) (eK st) t)
  (len:∀ds Q,sp ds Q->ds.length=ps.length) (hsp:∀ds Q,sp ds Q->t ↥Q (aN N ds)):DefH P w K mg base (k+1) x ps (low K sp):=by
 obtain⟨f,fd,hm,F,hb⟩:=a.ex;obtain⟨oc,od,kV,doc,pm,an,cdv,ct,osl,rfl,lk,hcd⟩:=F.ex;exact⟨f,_,hm,F.kp,hb,Qb lk hcd S (wP len) λA outer s H vs Q E hr z=>wX (hq f cdv A outer s H E hr) hsp z⟩
theorem Room.inx{k:Nat}(r:Room k A)(v:Option ah):Room k (pG (A.mark v)):=⟨rfl,r.dp,r.un⟩
section
variable {k:Nat}{x:bq}
theorem MU(d:DefH X.prog X.w X.K X.mg X.base k x ps (low X.K sp))(mo:MonoF sp)(hr:Room k (pG X.A))(ha:QA X (e::es) ts)(hg:autoParam (Gl X x) cA._auto_1)
  (hdb:autoParam ((x==("__debug__":bq))=am) mJ._auto_1) (he:autoParam (ay (e::es) X.env=(am,gw e X.env)::ay es X.env) cA._auto_1) (hpl:autoParam ((jd pos (ay es X.env)).any (·.1)=am) cA._auto_1):
  QE X (.Call (.Name x p) (e::es) [] pos) (aU sp ts):=by
 obtain⟨f,fd,hm,hk,hb,FO⟩:=d.ex;refine⟨λρ Q Q' w q=>ha.mono _ _ _ (λrs q=>mo.mo _ _ _ (nE w) q) q,λHZ F=>cZ (Jf (E:=E0) FO hr hg hm hk hb (ha.run HZ F) hdb he hpl) λσ H Q z=>?_⟩;obtain⟨ρ,fr,h⟩:=z;refine ha.step fr h λrs xs H1 q S1 r1=>?_;rw[fy];exact uB mo fr S1 r1 q λr z=>z
def lJ(K:aq)(C':af)(te:dE):dE:=λρ Q=>te ρ λr=>match r.d with
 | .exc C _=>ExcI K C /\ ∃b,gr K (.ref C) (.ref C')=ae b/\Q (.v (.bl b))
 |_=>False
theorem kT{y:bq}{C':af}{p2:lj}(hg:Gl X "isinstance")(hm:X.mg "isinstance"=ao)(ha:QE X e te)(hmy:X.mg y=ae (.ref C'))(hgy:autoParam (Gl X y) cA._auto_1)(hdy:autoParam ((y==("__debug__":bq))=am) mJ._auto_1)
  (he:autoParam (ay [e,.Name y p2] X.env=(am,gw e X.env)::ay [.Name y p2] X.env) cA._auto_1) (he2:autoParam (ay [ZR y p2] X.env=(am,gw (.Name y p2) X.env)::ay [] X.env) cA._auto_1) (hpl:autoParam ((jd pos (ay [.Name y p2] X.env)).any (·.1)=am) cA._auto_1):
  QE X (.Call (.Name "isinstance" p) [e,.Name y p2] [] pos) (lJ X.K C' te):=by
 refine⟨λρ Q Q' w q=>ha.mono _ _ _ (λr q=>?_) q,λHZ F=>cZ (tH IJ hg hm WA (kE (ha.run HZ F) (kE (FV (v:=.ref C') hgy hmy rfl hdy) uX he2) he) ∅ ∅ he hpl) λσ H Q z=>?_⟩
 ·generalize r.d=d at q ⊢;cases d with
  |exc C p=>
   obtain⟨ci,b,kb,q⟩:=q;exact⟨ci,b,kb,w _ q⟩
  |_=>exact q.elim
 ·obtain⟨ρ,fr,h⟩:=z;refine ha.step fr h λr x H1 q S1 r1=>?_;have cx:=r1.c;generalize r.d=d at q cx;cases d with
  |exc C p=>
   obtain⟨ci,b,kb,q⟩:=q;obtain⟨a,rfl,o,u,ea,hc,_⟩:=cx.exc;exact⟨a,C,C',o,u,b,rfl,ea,hc,ci,kb,q _ H1 S1 (Rep.bl _)⟩
  |_=>exact q.elim
end
end _Z
namespace _L
end _L
namespace _Z
open _L
section
variable {l o:Expr}{tl to:dE}{a0S:lj}
end
end _Z
namespace _L
theorem Hu:TZ X (λo i H Q=>∃p xs k v,o=.ref p/\i=.int (k:Nat)/\H p=ae (.lst xs)/\xs[k]?=ae v/\Q v H):=by
 intro pj s σ H o i ov iv Q I ro ri h;obtain⟨p,xs,k,v,rfl,rfl,hp,hv,q⟩:=h;cases ro;obtain⟨t,rfl⟩:=ri;obtain⟨its,r,pl,hz⟩:=I.list (g6.of hp);obtain⟨w,ew,rw'⟩:=r.get hv;have hl:=r.length;have hk:=(fb.mp hv).1;have hn:=pT;exact wpAny_getItem_list pl.isList ⋯ ⋯ (by rw[dq];simpa using ew) ⟨v,H,I,rw',q⟩
end _L
namespace _Z
open _L
section
variable {a b c d:Expr}{ta tb tc td:dE}
def AE(i:Nat)(tk te:dE):c7:=λE ρ=>match ρ[i]? with
 |some (.own a (.lst xs))=>tk ρ λk=>∃(n:Nat) (x:Int),k.d=.int n/\xs[n]?=ae (.int x)/\te ρ λr=>∃y:Int,r.d=.int y/\E.nx (ρ.set i (.own a (.lst (xs.set n (.int (x+y))))))
 |_=>False
theorem P7{x:bq}{p1 p2:lj}{k:Expr}{tk:dE}(hv:PE X (.Name x p1) (vX i))(hk:QE X k tk)(he:QE X e te)
  (ha:autoParam (∀ov iv new,augStore k ov iv new=(do Wj [new,ov,iv] (Z6 ov iv new);release [new,ov,iv] [];jh .next)) VU._auto_1):QS X (.AugAssign (.Subscript (.Name x p1) k p2) .Add e pos) (AE i tk te):=by
 refine⟨λE E' ρ w h=>?_,λHZ F=>e7 (Mc hv (hk.run HZ F) Hu (he.run HZ F) QP Iz ha) λD σ H ⟨ρ,E,fr,h,en⟩=>?_⟩
 ·unfold AE at *;split at h
  ·exact hk.mono _ _ _ (λkk zq6=>by obtain⟨n,z,e1,e2,q⟩:=zq6;exact⟨n,z,e1,e2,he.mono _ _ _ (λr zq5=>by obtain⟨y,e3,q⟩:=zq5;exact⟨y,e3,w.nx _ q⟩) q⟩) h
  ·exact h
 ·unfold AE at h;split at h
  ·rename_i a xs hx;obtain⟨hs1,vs,hv1,rv1⟩:=fr.sl i _ hx;refine⟨_,hs1,hk.step fr h λkk z H1 q S1 rk=>?_⟩;obtain⟨n,zz,e1,e2,q⟩:=q;have ck:=rk.c;rw[e1] at ck;obtain rfl:=ck.int;obtain⟨v,hv2,rv2⟩:=rv1.get e2;cases rv2;have h1:=S1 _ _ hv1;refine⟨a,vs,n,_,rfl,rfl,h1,hv2,he.step (fr.mono S1) q λr y H2 q S2 r2=>?_⟩;obtain⟨yy,e3,q⟩:=q;have cy:=r2.c;rw[e3] at cy;obtain rfl:=cy.int;have h2:=S2 _ _ h1;have hn:=(fb.mp e2).1;refine⟨_,_,rfl,rfl,a,vs,n,n,rfl,rfl,h2,?_,?_⟩
   ·unfold wB;rw[rv1.length,a0G ⋯,a0G ⋯,dq]
   refine en.nx _ _ _ (((fr.mono S1).mono S2).write (d':=.lst (xs.set n (.int (zz+yy)))) hx ⟨_,bP,?_⟩) q;have G:Gen X.K (MM F ρ) (MM F ρ) H2 (upd H2 a (.lst (vs.set n (.int (zz+yy))))):=Gen.write (.inr ⟨_,ee hx⟩) (by rw[h2];trivial);exact(Reps.set (Rep.int _) n ((rv1.mono S1).mono S2)).gen G
  ·exact h.elim
end
end _Z
namespace _L
end _L
namespace _Z
open _L
section
variable {a b c d:Expr}{ta tb tc td:dE}
end
def Gh(i j:Nat):c7:=λE ρ=>match ρ[i]? with
 |some (.own a (.lst xs))=>∃ys d,xs=ys++[d]/\E.nx ((ρ.set i (.own a (.lst ys))).set j (.v d))
 |_=>False
theorem Reps.unsnoc{d:Dv}:∀{ys:List Dv} {xs:List V},Reps K M H xs (ys++[d]) -> ∃vs v,xs=vs++[v]/\Reps K M H vs ys/\Rep K M H v d:=by
 intro ys;induction ys with
 |nil=>
  intro xs h;cases h with
  |cons a t=>cases t;exact⟨[],_,rfl,.nil,a⟩
 |cons y ys ih=>
  intro xs h;cases h with
  |cons a t=>
   obtain⟨vs,v,rfl,r1,r2⟩:=ih t;exact⟨_::vs,v,rfl,.cons a r1,r2⟩
theorem Rf{j:Nat}{x y:bq}{p1 p2 p3 py:lj}(hv:PE X (.Name x p1) (vX i))(hN:X.N.Nodup)(hj:X.N[j]?=ae y)(hy:GW X.env.scope y)
  (hs:autoParam (io (.Call (.Attribute (.Name x p1) "pop" p2) [] [] p3) (ae (.Name y py)) pos.line X.env=jh am) cA._auto_1)
  (a0Z:autoParam (kh (.Name x p1) "pop" X.env (gw (.Name x p1) X.env)=gw (.Name x p1) X.env) cA._auto_1) (a10:autoParam ((p2.endLine==p3.line)=ak) cA._auto_1) (hf:autoParam (X.fn y=ak \/ X.env.scope.names.lookup y=ae .local) FA._auto_1):
  QS X (.Assign [.Name y py] (.Call (.Attribute (.Name x p1) "pop" p2) [] [] p3) pos) (Gh i j):=by
 refine⟨λE E' ρ w h=>?_,λHZ F=>e7 (BA hN hj hy (EB ka wt wu EN hv a0Z a10) hs hf) λD σ H ⟨ρ,E,fr,h,en⟩=>?_⟩
 ·unfold Gh at *;split at h
  ·obtain⟨ys,d,e,q⟩:=h;exact⟨ys,d,e,w.nx _ q⟩
  ·exact h
 ·unfold Gh at h;split at h
  ·rename_i a xs hx;obtain⟨hs1,vs,hv1,rv1⟩:=fr.sl i _ hx;obtain⟨ys,d,rfl,q⟩:=h;obtain⟨ws,v,rfl,r1,r2⟩:=rv1.unsnoc;have G:Gen X.K (MM F ρ) (MM F ρ) H (upd H a (.lst ws)):=Gen.write (.inr ⟨_,ee hx⟩) (by rw[hv1];trivial);have fr1:=fr.write (d':=.lst ys) hx ⟨ws,bP,r1.gen G⟩;refine⟨_,hs1,.inl ⟨rfl,_,g6.of hv1⟩,a,ws++[v],v,rfl,rfl,hv1,by simp,?_⟩;rw[xt];refine en.nx _ _ _ (fr1.setv ((r2.gen G).weak λb z=>?_)) q;rcases MM.set b z with z | ⟨_,z⟩
   ·exact z
   ·cases z;exact .inr ⟨_,ee hx⟩
  ·exact h.elim
end _Z
namespace _L
section
variable {r:ah}
end
end _L
namespace _L
open PySem.MeetsSeq PySem.SeqAt
end _L
namespace _Z
open _L
end _Z
namespace _L
variable {cd:ah}{s0:aj}{H0:Hp}{E:XK}
section
variable {E':XK}
end
section
variable {s1 s2:aj}{e:ah}{D:Ends}
end
variable {fd:ko}{sp:Sp}
section
variable {k:Nat}{x:bq}{epos:lj}{t:TA}
end
section
variable {fa:af}{E0:XK}
variable {k:Nat}{x:bq}{t:TA}
end
end _L
namespace _Z
open _L
variable {ts:oN}
section
variable {cd:ah}{s0:aj}{H0:Hp}{E:XK}{Ψ:IP->Prop}
theorem IU{x:bq}{np:lj}(hS:∀H',aT HZ H'->aT H0 H')(hh:(A.deeper (tw a0I a0H s0.heap.objs.size f cd)).handled=ao)(hE:∀C p dd H',Ψ (C,p)->aT H0 H'->zA H' p dd->E (.ref C) dd H')
  (hm:mg x=ae (.ref C)) (q:F7 K C) (hg:Gl (i6 (A3 P w) P w K mg base N a0I a0H f cd A outer s0 H0 E) x) (ha:QA (i6 (A3 P w) P w K mg base N a0I a0H f cd A outer s0 H0 E) (e::es) ts)
  (hdb:autoParam ((x==("__debug__":bq))=am) mJ._auto_1) (he:autoParam (ay (e::es) (i6 (A3 P w) P w K mg base N a0I a0H f cd A outer s0 H0 E).env=(am,gw e (i6 (A3 P w) P w K mg base N a0I a0H f cd A outer s0 H0 E).env)::ay es (i6 (A3 P w) P w K mg base N a0I a0H f cd A outer s0 H0 E).env) cA._auto_1)
  (hpl:autoParam ((jd a0P (ay es (i6 (A3 P w) P w K mg base N a0I a0H f cd A outer s0 H0 E).env)).any (·.1)=am) cA._auto_1):
  QxS (i6 (A3 P w) P w K mg base N a0I a0H f cd A outer s0 H0 E) HZ F (.Raise (ae (.Call (.Name x np) (e::es) [] a0P)) ao pos) (Az Ψ C ts):=by
 refine⟨λE E' ρ w h=>h,e7 (JO (X:=i6 (A3 P w) P w K mg base N a0I a0H f cd A outer s0 H0 E) (Ψ:=λH1=>E (.ref C) ao H1) hh hm hg q (ha.run HZ F) (λpj σ H s h' a us I m p=>MA I m p) hdb he hpl) λD σ H z=>?_⟩;obtain⟨ρ,E',fr,h,en⟩:=z;refine ha.step fr h λrs xs H1 q1 S1 r1=>⟨?_,hE C ao ao H1 q1.2 (hS _ (fr.same.trans S1)) trivial⟩;rw[r1.len];exact mh q1.1 ∅
end
section
variable {k:Nat}{sp:IS}{x:bq}{epos:lj}
end
section
variable {M':af->Prop}
end
section
variable {k:Nat}{y f:bq}{e1 e2 z c:Expr}{tt:mG}{tb tr:c7}{te2:dE}{a0R a0J:List kg}{a0Y a0S ipos q1 q2 q3 q4 q5 r1 r3 r4 r5:lj}
end
theorem DefX.calm{k:Nat}{x:bq}{sp:IS}(d:DefX P w K mg base k x ps (lowX K sp)):Def P w K mg base k x ps (low K λds Q=>sp ds Q λ_=>False):=by
 obtain⟨f,fd,hm,hk,hb,FO⟩:=d.ex;refine⟨f,fd,hm,hk,hb,λvs H Q E q=>?_,λA outer s H args us vs Q E hr he hbd hv q=>?_⟩
 ·obtain⟨F,ds,hF,r,q⟩:=q;exact FO.len vs H Q (λ_ _ _=>False) ⟨F,ds,λ_=>False,hF,r,q,λ_ _ _ _ z=>z.elim⟩
 ·obtain⟨F,ds,hF,r,q⟩:=q;refine ut (FO.run A outer s H args us vs Q (λ_ _ _=>False) hr he hbd hv ⟨F,ds,λ_=>False,hF,r,q,λ_ _ _ _ z=>z.elim⟩) λrr s' hq=>?_;cases rr with
  |ok o=>cases o<;>exact hq
  |error e=>
   obtain⟨_,_,_,_,_,_,_,_,_,_,_,_,_,_,z,_⟩:=hq;exact z.elim
theorem MonoX.calm{sp:IS}(m:MonoX sp):MonoF λds Q=>sp ds Q λ_=>False:=⟨λds Q Q' w h=>m.mo ds Q Q' _ _ w (λ_ z=>z) h⟩
end _Z
namespace _L
noncomputable def IF:List Bool->Nat
 | []=>0
 |b::r=>IF r+(if b=ak then 1 else 0)
theorem Dc:∀(bs:List Bool) {its:List ah},bM (bs.map V.bl) its->its=bs.map kj
 | [],_,r=>by cases r;rfl
 |b::bs,_,r=>by
  cases r with
  |cons a t=>
   rw[Dc bs t,show _=kj b from a];rfl
theorem OX:∀bs:List Bool,(bs.map kj).countP (isBoolOf ak)=IF bs
 | []=>rfl
 |b::bs=>by
  rw[ef,List.countP_cons,OX bs];cases b<;>rfl
theorem N2:Tx X "list.count" (λx vs H Q=>∃(l:af) (bs:List Bool),x=.ref l/\vs=[.bl ak]/\H l=ae (.lst (bs.map V.bl))/\Q (.int (IF bs)) H):=by
 intro pj s σ H x vs v us Q I rx rv h;obtain⟨l,bs,rfl,rfl,hH,q⟩:=h;cases rx;obtain⟨u,rfl,ru⟩:=rv.one;cases (show u=kj ak from ru);obtain⟨z,its,n,r,hl,e⟩:=I.lstM hH;have ei:=Dc bs r;subst ei;refine ze F.slot_list_count ⟨_,e,rfl⟩ F.entry_list_count (F.args_list_count_2 _ _) (ZI l (bs.map kj).toArray n ao #[] (.bool ak) (isBoolOf ak)) ⟨e,λy hy=>?_,?_⟩
 ·obtain⟨b,_,rfl⟩:=fq.mp (List.mem_toArray.mp hy);exact Zx b ak
 ·rw[show (bs.map kj).toArray.toList=bs.map kj from rfl,OX];exact⟨.int (IF bs),H,I.tok _,⟨_,rfl⟩,q⟩
def RW(K:aq):List V->Hp->VK->Prop:=λxs H Q=>∃(a C:af) (o:jn) (u:HO) (b:Bool),xs=[.ref a,.ty "ValueError"]/\H a=ae (.frz o u)/\o.cls=.ref C/\ExcI K C/\gr K (.ref C) (.type "ValueError")=ae b/\Q (.bl b) H
theorem II:gI X (.builtin "isinstance") (RW X.K):=by
 intro pj s σ H xs us Q I r h;obtain⟨a,C,o,u,b,rfl,ha,hc,ci,kb,q⟩:=h;obtain⟨u1,u2,rfl,r1,r2⟩:=FC r;cases r1;cases r2;obtain⟨ho,_⟩:=(show cR X.prog X.w H s.heap a (.frz o u) from I.hok a _ ha);exact px (G5 ci) I.kIn ⟨o,ho,hc⟩ kb (λz=>nomatch z) λtk=>⟨.bl b,H,I.tok tk,rfl,q⟩
section
variable {fa:af}{cd:ah}{s0:aj}{H0:Hp}{E0:XK}
variable {k:Nat}{fd:ko}{sp:Sp}{x:bq}{t:TA}
end
end _L
namespace _Z
open _L
section
variable {o:Expr}{to:dE}{a0S:lj}
def Le(to:dE):dE:=λρ Q=>to ρ λr=>match r.d with
 | .lst ds=>∃bs:List Bool,ds=bs.map Dv.bl/\Q (.v (.int (IF bs)))
 |_=>False
theorem P6(ho:QE X o to)(he:QE X e (eC (.bl ak)))(a0Z:autoParam (kh o "count" X.env (gw o X.env)=gw o X.env) cA._auto_1)
  (hfew:autoParam (((jd a0P (ay (e::[]) X.env)).all (λx=>!x.1)&&(yz a0P (ul [] X.env)).all (λx=>x.1.isSome)
   && decide ((e::[]).length+([]:List Vo).length+(if ([]:List Vo).isEmpty then 0 else 1)<30))=ak) cA._auto_1)
  (a10:autoParam ((a0S.endLine==a0P.line)=ak) cA._auto_1) (hs:autoParam (ay (e::[]) X.env=(am,gw e X.env)::ay [] X.env) cA._auto_1) (a14:autoParam ((jd a0P (ay [] X.env)).any (·.1)=am) cA._auto_1):
  QE X (.Call (.Attribute o "count" a0S) [e] [] a0P) (Le to):=by
 have hA:QA X [e] (aA (eC (.bl ak)) aG):=aB he aF hs;refine⟨λρ Q Q' w h=>ho.mono _ _ _ (λr h=>?_) h,λHZ F=>cZ (Jg ka PySem.F.slot_list_count PySem.F.type_list_count N2 (ho.run HZ F) (hA.run HZ F) a0Z hfew a10 hs a14) λσ H Q z=>?_⟩
 ·generalize r.d=d at h ⊢;cases d with
  |lst ds=>obtain⟨bs,a,q⟩:=h;exact⟨bs,a,w _ q⟩
  |_=>exact h.elim
 ·obtain⟨ρ,fr,h⟩:=z;refine ho.step fr h λr x H1 h S1 r1=>?_;have cx:=r1.c;generalize r.d=d at h cx;cases d with
  |lst ds=>
   obtain⟨bs,eds,q⟩:=h;obtain⟨a,xs,rfl,ea,ra⟩:=cx.lst;refine⟨.inl ⟨rfl,xs,g6.of ea⟩,?_⟩;refine hA.step (fr.mono S1) (Q:=λrs=>rs=[.v (.bl ak)]) rfl λrs xs' H2 er S2 r2=>?_;subst er;have cc:=r2.c;obtain⟨y,rfl,cy⟩:=fW cc;obtain rfl:=cy.bl;subst eds;rw[ra.of_bls] at ea;exact⟨a,bs,rfl,rfl,S2 _ _ ea,q _ H2 (S1.trans S2) (Rep.int _)⟩
  |_=>exact h.elim
def Lc(K:aq)(te:dE):dE:=λρ Q=>te ρ λr=>match r.d with
 | .exc C _=>ExcI K C /\ ∃b,gr K (.ref C) (.type "ValueError")=ae b/\Q (.v (.bl b))
 |_=>False
theorem P0{p2:lj}(hg:Gl X "isinstance")(hm:X.mg "isinstance"=ao)(ha:QE X e te)(hmv:X.mg "ValueError"=ao)(hgv:autoParam (Gl X "ValueError") cA._auto_1)(hbv:autoParam (pz "ValueError"=ae (.type "ValueError")) cA._auto_1)
  (he:autoParam (ay [e,.Name "ValueError" p2] X.env=(am,gw e X.env)::ay [.Name "ValueError" p2] X.env) cA._auto_1) (he2:autoParam (ay [ZR "ValueError" p2] X.env=(am,gw (.Name "ValueError" p2) X.env)::ay [] X.env) cA._auto_1) (hpl:autoParam ((jd pos (ay [.Name "ValueError" p2] X.env)).any (·.1)=am) cA._auto_1):
  QE X (.Call (.Name "isinstance" p) [e,.Name "ValueError" p2] [] pos) (Lc X.K te):=by
 refine⟨λρ Q Q' w q=>ha.mono _ _ _ (λr q=>?_) q,λHZ F=>cZ (tH II hg hm WA (kE (ha.run HZ F) (kE (iN (v:=.ty "ValueError") hgv hmv hbv rfl) uX he2) he) ∅ ∅ he hpl) λσ H Q z=>?_⟩
 ·generalize r.d=d at q ⊢;cases d with
  |exc C p=>
   obtain⟨ci,b,kb,q⟩:=q;exact⟨ci,b,kb,w _ q⟩
  |_=>exact q.elim
 ·obtain⟨ρ,fr,h⟩:=z;refine ha.step fr h λr x H1 q S1 r1=>?_;have cx:=r1.c;generalize r.d=d at q cx;cases d with
  |exc C p=>
   obtain⟨ci,b,kb,q⟩:=q;obtain⟨a,rfl,o,u,ea,hc,_⟩:=cx.exc;exact⟨a,C,o,u,b,rfl,ea,hc,ci,kb,q _ H1 S1 (Rep.bl _)⟩
  |_=>exact q.elim
end
section
variable {cd:ah}{s0:aj}{H0:Hp}{E:XK}{Ψ:IP->Prop}
end
end _Z
namespace _L
end _L
namespace _Z
open _L
end _Z
namespace _L
variable {xs:List (List cB×af×ah)}
noncomputable abbrev tkn(prog:bj)(w:df):HeapKind prog w (List cB):=sx (dH prog w)
theorem Es{id:String}{d:af}{o:jn}{es:Array mq}{ep:Nat}{Q:Array mq->aj->Prop}(g:s.heap.get? d=ae o)(dd:o.data=.dict es ep)(he:es.toList=xs.map (ww (tkn prog w)))(is:∀x∈xs,s.TypeIs (.ref x.2.1) "tuple")(one:∀e∈es,(es.filter λx=>x.hash==e.hash).size<=1)(q:Q es s):
  bg (bn prog w) A (yb id d) Q E s:=by
 unfold yb;refine aa (qi g dd (aa ?_));rw[<- wc];refine xc _ (λa0J r s'=>s'=s /\ ∀e∈a0J,e∈es /\ ∃x∈xs,e=ww (tkn prog w) x) _ (λv a0J r s' z=>?_) (λr s' z=>?_) _ _ ⟨rfl,λe he'=>?_⟩
 ·obtain⟨rfl,al⟩:=z;obtain⟨hm,x,hx,rfl⟩:=al v bz;refine aa (show bg _ _ (a0n (.ref x.2.1)) _ _ _ from aa (jp (is x hx) nn.lookup (ai ?_)));rw[show ((ae (tm "tuple.__eq__")==ae (tm "object.__eq__"))=am) from by decide];simp only[uq,if_true];rw[a0h (by have:=one _ hm;ac_rfl)];exact ai ⟨rfl,λy hy=>al y (bp _ hy)⟩
 ·obtain⟨rfl,_⟩:=z;exact ai q
 ·rw[he] at he';obtain⟨x,hx,e⟩:=fq.mp he';exact⟨by rw[<- WM,he];exact he',x,hx,e.symm⟩
theorem IE{o:af}(hs:(o==km)=am)(dd:s.heap.DictOfH (tkn prog w) o xs)(hn:xs≠[])(hl:xs.length<=bo)(ht:∀x∈xs,s.TypeIs (.ref x.2.1) "tuple")(hh:(xs.map λx=>(tkn prog w).hash x.1).Nodup)
  (q:∀(h':eh) (o':jn) (es:Array mq) (ep:Nat),h'.get? s.heap.objs.size=ae o'->o'.ExactDict->o'.data=.dict es ep->es.toList=xs.map (ww (tkn prog w))->qb s.heap.objs.size (s.heap.push { cls:=.type "dict",data:=.dict #[] }) h'->Q (.ref s.heap.objs.size) { s with heap:=h' }):
  bg (bn prog w) A (call (.type "dict") [.ref o]) Q E s:=by
 obtain⟨ob,es,ep,g,ex,da,he,is,nd⟩:=dd;have lo:o<s.heap.objs.size:=bh g;refine callType_codes F.kt_called_dict (F.kt_typeCall_dict_1 _) F.entry_dict_init (kt_code_dict_new (Q₁:=λv s1=>v=.ref s.heap.objs.size/\s1={ s with heap:=s.heap.push { cls:=.type "dict",data:=.dict #[] } }) _ ⟨rfl,rfl⟩) ?_;rintro obj s1 ⟨rfl,rfl⟩;have gn:(s.heap.push { cls:=.type "dict",data:=.dict #[] }).get? s.heap.objs.size=ae { cls:=.type "dict",data:=.dict #[] }:=cm _ rfl;have go:(s.heap.push { cls:=.type "dict",data:=.dict #[] }).get? o=ae ob:=au _ g;have tn:({ s with heap:=s.heap.push { cls:=.type "dict",data:=.dict #[] } }:aj).TypeIs (.ref s.heap.objs.size) "dict" := ⟨_,gn,rfl⟩;have to:({ s with heap:=s.heap.push { cls:=.type "dict",data:=.dict #[] } }:aj).TypeIs (.ref o) "dict" := ⟨_,go,ex.1⟩;refine⟨tn,F.args_dict_init_2 _ _,?_⟩;unfold qy.«dict.__init__»;refine aa (m:=Vv "__init__" _) ?_;unfold Vv;refine aa (WI tn ?_);refine aa (m:=Xh (.ref s.heap.objs.size)) (ai (ai ?_));refine(show bg _ _ (Wf "dict.__init__" s.heap.objs.size (.ref o) [] fh) _ _ _ from ?_);unfold Wf;refine aa (Y5 to ?_);rw[a0h ∅];refine aa (m:=XM _ _ _) ?_;unfold XM;refine aa (m:=Vj _) ?_;unfold Vj;refine aa (fm to isSubtype_dict_dict ?_);simp only[ki,de,if_false];refine aa (jp to W9.lookup (ai ?_));simp only[beq_self_eq_true,if_true];refine aa (m:=Xh (.ref o)) (ai ?_);unfold a05;rw[a0h (λz=>XQ lo (W6 z))];refine aa (m:=ue o) ?_;unfold ue;rw[a0h (by rw[hs];exact fw)];refine ai (aa (qi go da ?_));dsimp only;have few:(decide (es.size<=8)&&es.all λe=>(keyPart e.key).isSome)=am:=by
  rw[Bool.and_eq_false_iff];right;rw[<- Array.all_toList,he];cases xs with
  |nil=>exact absurd rfl hn
  |cons x r=>rfl
 rw[few];simp only[uq,if_true];refine aa (qi gn rfl ?_);simp only[Array.isEmpty_empty,if_true];refine aa (Es go da he (λx hx=>?_) (λe hm=>?_) ?_)
 ·obtain⟨u,gu,cu⟩:=ht x hx;exact⟨u,au _ gu,cu⟩
 ·rw[<- qp,Array.toList_filter,he,List.filter_map,bf];have hx':e∈xs.map (ww (tkn prog w)):=by rw[<- he];exact WM.mpr hm
  obtain⟨y,hy,rfl⟩:=fq.mp hx';have key:∀l:List (List cB×af×ah),(l.map λx=>(tkn prog w).hash x.1).Nodup->(l.filter ((λx:mq=>x.hash==(ww (tkn prog w) y).hash) ∘ ww (tkn prog w))).length<=1:=by
   intro l;induction l with
   |nil=>intro _;simp
   |cons x r ih=>
    intro nd;rw[ef,wz] at nd;by_cases c:(tkn prog w).hash x.1=(tkn prog w).hash y.1
    ·rw[vq (by exact beq_iff_eq.mpr c)];rw[dg,Ww.mpr ?_]
     ·simp
     ·intro z hz hc;have e:(tkn prog w).hash z.1=(tkn prog w).hash y.1:=beq_iff_eq.mp hc;exact nd.1 (fq.mpr ⟨z,hz,by rw[e,c]⟩)
    ·rw[vt (by intro z;exact c (beq_iff_eq.mp z))];exact ih nd.2
  exact key xs hh
 ·have ne:(!es.isEmpty)=ak:=by
   rw[<- Array.isEmpty_toList,he];cases xs with
   |nil=>exact absurd rfl hn
   |cons x r=>rfl
  rw[a0G ne];have sz:es.size=xs.length:=by rw[<- qp,he,bf]
  refine aa (wpAny_updateDictKeysTo gn rfl (ai ?_) (by rw[sz];ac_rfl));refine aa (m:=ZJ _ []) (aa (ai (ai (ai ?_))));refine⟨rfl,q _ _ es 1 (li _ gn rfl) ⟨rfl,rfl,rfl⟩ rfl he (Xe _ _ _)⟩
noncomputable def hP(l:List Int):Int:=vh (fx (l.map ye))
noncomputable def F1:List (Int×Int):=(iw 12).flatMap λ(a:Nat)=>(iw 12).map λ(b:Nat)=>((a:Int),(b:Int))
noncomputable def Ts:List Int->Bool
 | []=>ak
 |x::r=>r.all (λy=>decide (x≠y))&&Ts r
theorem SX:Ts (F1.map λp=>hP [p.1,p.2])=ak:=by decide +kernel
theorem KH:∀l:List Int,Ts l=ak->l.Nodup
 | [],_=>Yw
 |x::r,h=>by
  unfold Ts at h;rw[cp,vp] at h;exact wz.mpr ⟨λm=>of_decide_eq_true (h.1 x m) rfl,KH r h.2⟩
theorem QY{p q:Int×Int}(hp:p∈F1)(hq:q∈F1)(e:hP [p.1,p.2]=hP [q.1,q.2]):p=q:=by
 have nd:=KH _ SX;rw[oq,jb,fk] at nd;obtain⟨i,hi,rfl⟩:=xz.mp hp;obtain⟨j,hj,rfl⟩:=xz.mp hq;rcases Yd i j with z | z | z
 ·exact(nd i j hi hj z e).elim
 ·subst z;rfl
 ·exact(nd j i hj hi z e.symm).elim
theorem NZ{a b:Int}(h1:0<=a/\a<12)(h2:0<=b/\b<12):(a,b)∈F1:=by
 unfold F1;rw[WY];refine⟨a.toNat,sy.mpr ⋯,fq.mpr ⟨b.toNat,sy.mpr ⋯,?_⟩⟩;rw[show ((a.toNat:Nat):Int)=a by ac_rfl,show ((b.toNat:Nat):Int)=b by ac_rfl]
noncomputable abbrev pK(p:Int×Int):List cB:=[di p.1,di p.2]
theorem Ey:gI X (.type "dict") (λxs H Q=>∃(a:af) (ep:Nat) (kvs:List (List cB×V)) (ps:List (Int×Int)),xs=[.ref a]/\H a=ae (.dT ep kvs)/\kvs.map (·.1)=ps.map pK/\ps≠[]/\(∀p∈ps,p∈F1) /\ ∀p,H p=ao -> ∀ep',Q (.ref p) (upd H p (.dT ep' kvs))):=by
 intro pj s σ H xs us Q I r h;obtain⟨a,ep,kvs,ps,rfl,e,ek,hn,hp,q⟩:=h;obtain⟨u,rfl,ru⟩:=mK r;cases ru;obtain⟨z,hd,xs,rel,dd⟩:=OU I.hok e;have nd:(xs.map (·.1)).Nodup:=by obtain⟨_,_,_,_,_,_,_,_,nd⟩:=dd;exact nd
 have is:∀x∈xs,(sx (dH X.prog X.w)).is s.heap x.1 x.2.1:=by obtain⟨_,_,_,_,_,_,_,is,_⟩:=dd;exact is
 have ex:xs.map (·.1)=ps.map pK:=by
  rw[<- ek];clear ek dd z nd is e q;induction rel with
  |nil=>rfl
  |cons hq t ih=>rw[ef,ef,ih,hq.1]
 have lx:xs.length=kvs.length:=by have:=congrArg List.length (ex.trans ek.symm);simpa using this
 have hnx:xs≠[]:=λz=>hn (by rw[z] at ex;cases ps with | nil=>rfl | cons=>cases ex);have hh:(xs.map λx=>(sx (dH X.prog X.w)).hash x.1).Nodup:=by
  have e1:(xs.map λx=>(sx (dH X.prog X.w)).hash x.1)=ps.map λp=>hP [p.1,p.2]:=by
   rw[show (xs.map λx=>(sx (dH X.prog X.w)).hash x.1)=(xs.map (·.1)).map (sx (dH X.prog X.w)).hash by rw[ja];rfl,ex,ja];rfl
  rw[e1,oq,jb];rw[ex,oq,jb] at nd;refine nd.imp_of_mem λ{p q} m1 m2 ne z=>ne ?_;rw[QY (hp p m1) (hp q m2) z]
 refine IE hd dd hnx ⋯ (λx hx=>IsTupleKey.typeIs (is x hx)) hh λh' o' es ep' g' ex' da' he' hs=>?_;have hk:∀b o,s.heap.get? b=ae o->h'.get? b=ae o:=λb o e=>(hs.2 b (gp (bh e))).trans (au _ e);have fresh:=I.hok.fresh (cg s.heap.objs.size);have I':=I.laid (a:=s.heap.objs.size) (o:=.dT ep' kvs) (t':=s.toks) (h':=h') hk (cg _)
  ⟨z,beq_eq_false_iff_ne.mpr (Ne.symm (gp I.big)),xs,Paired.mapP rel λp q zq0=>by obtain⟨k1,k2,k3⟩:=zq0;exact⟨k1,by rw[b5 (bG k2 fresh)];exact k2,k3⟩,o',es,g',ex',da',he',nd⟩
 exact⟨.ref s.heap.objs.size,_,I',rfl,q _ fresh ep'⟩
end _L
namespace _Z
open _L
def pN:List Dv->(R->Prop)->Prop
 | [.dit kvs],Q=>∃ps:List (Int×Int),kvs.map (·.1)=ps.map pK/\ps≠[]/\(∀p∈ps,p∈F1)/\Q (.nw (.dit kvs))
 |_,_=>False
theorem De:qG X (.type "dict") pN:=by
 refine⟨λds Q Q' w h=>?_,_,Ey,λM O H xs ds Q c h=>?_⟩
 ·unfold pN at *;split at h
  ·obtain⟨ps,a,b,d,q⟩:=h;exact⟨ps,a,b,d,w _ q⟩
  ·exact h
 ·unfold pN at h;split at h
  ·obtain⟨ps,e,n,al,q⟩:=h;obtain⟨x,rfl,cx⟩:=fW c;obtain⟨a,ep,kvs,rfl,ea,ra⟩:=cx.dit;refine⟨a,ep,kvs,ps,rfl,ea,by rw[ra.key];exact e,n,al,λp hp ep'=>?_⟩;exact q _ _ (aT.new' hp) ⟨p,rfl,hp,ep',kvs,bP,ra.gen ((Gen.fresh hp).trans (.mono (aT.new' hp)))⟩
  ·exact h.elim
section
variable {c:Expr}{tb:c7}{a0R:List kg}{tc:mG}
theorem MB(hp:X5 (bn X.prog X.w) X.A X.env X.xe)(hc:QT X c tc)(hb:QxB X HZ F a0R tb):QxS X HZ F (.While c a0R [] pos) (Ay tc tb):=by
 refine⟨λE E' ρ w h=>?_,e7 (CY hp (hc.run HZ F) hb.run) λD σ H z=>?_⟩
 ·obtain⟨I,i0,step⟩:=h;refine⟨I,i0,λm ρ hI=>hc.mono _ _ _ (λb q=>?_) (step m ρ hI)⟩;have w2:EnLe { E with nx:=λρ'=>∃m',m'<m/\I m' ρ',ct:=λρ'=>∃m',m'<m/\I m' ρ',bk:=E.nx } { E' with nx:=λρ'=>∃m',m'<m/\I m' ρ',ct:=λρ'=>∃m',m'<m/\I m' ρ',bk:=E'.nx }:=
   ⟨λ_ h=>h,w.rt,w.nx,λ_ h=>h⟩
  split at q
  ·rw[a0G ‹_›];exact hb.mono _ _ _ w2 q
  ·rw[a0h ‹_›];exact w.nx _ q
 ·obtain⟨ρ,E,fr,h,en⟩:=z;obtain⟨I,⟨m0,i0⟩,step⟩:=h;refine⟨λm σ H=>∃ρ,Fr X.K HZ F σ H ρ/\I m ρ,⟨m0,ρ,fr,i0⟩,?_⟩;rintro m σ H ⟨ρ,fr,hI⟩;refine hc.step fr (step m ρ hI) λb H1 q S1=>?_;cases b with
  |true=>
   simp only[if_true] at q;refine qX ⟨λσ' H'=>∃m',m'<m /\ ∃ρ',Fr X.K HZ F σ' H' ρ'/\I m' ρ',λσ' H' zq1=>by obtain⟨m',l,h⟩:=zq1;exact⟨m',l,h⟩,ρ,_,fr.mono S1,q,?_,en.nx,?_,en.rt⟩
   ·rintro ρ' σ' H' fr' ⟨m',l,h⟩;exact⟨m',l,ρ',fr',h⟩
   ·rintro ρ' σ' H' fr' ⟨m',l,h⟩;exact⟨m',l,ρ',fr',h⟩
  |false=>exact pV (en.nx _ _ _ (fr.mono S1) (by simpa using q))
end
noncomputable abbrev To(k:Tl):Dv:=.tup [.int k.1,.int k.2.1,.tup (k.2.2.map Dv.int)]
noncomputable abbrev Oj(k:Tk):Dv:=.tup (k.map To)
noncomputable def f9(ks:List Tk)(k:Tk):List Tk:=if ks.any (λx=>decide (x=k)) then ks else ks++[k]
noncomputable def hasTk(ks:List Tk)(k:Tk):Bool:=ks.any λx=>decide (x=k)
theorem Ba(xs:List (Tk×af))(k:Tk):hasN xs k=hasTk (xs.map (·.1)) k:=by
 unfold hasN hasTk;rw[List.any_map];rfl
theorem MW(xs:List (Tk×af))(k:Tk)(b:af):(xP xs k b).map (·.1)=f9 (xs.map (·.1)) k:=by
 unfold xP f9;rw[Ba];unfold hasTk;split
 ·rfl
 ·rw[oo];rfl
theorem Oi{x:V}{k:Tl}(c:eB K M H x (To k)):∃b,x=.ref b/\IM H k b:=by
 obtain⟨b,vs,rfl,e,r⟩:=c.tup;cases r with
 |cons r1 r=>
  cases r with
  |cons r2 r=>
   cases r with
   |cons r3 r=>
    cases r;cases r1;cases r2;cases r3 with
    |tup e3 r3=>
     refine⟨b,rfl,_,e,?_⟩;have ey:∀{ns:List Int} {ys:List V},Reps K M H ys (ns.map .int)->ys=ns.map V.int:=by
      intro ns;induction ns with
      |nil=>intro ys r;cases r;rfl
      |cons n ns ih=>
       intro ys r;cases r with
       |cons r1 r=>cases r1;rw[ih r];rfl
     rw[<- ey r3];exact e3
theorem Ap{K:aq}{M:af->Prop}{H:Hp}:∀{k:Tk} {xs:List V},Reps K M H xs (k.map To) -> ∃as:List af,xs=as.map V.ref/\Paired (IM H) k as
 | [],_,.nil=>⟨[],rfl,.nil⟩
 |_::_,_,.cons r t=>by
  obtain⟨b,rfl,h⟩:=Oi (.inl r);obtain⟨as,rfl,hs⟩:=Ap t;exact⟨b::as,rfl,.cons h hs⟩
theorem sX{x:V}{k:Tk}(c:eB K M H x (Oj k)):∃b,x=.ref b/\TileAt H k b:=by
 obtain⟨b,vs,rfl,e,r⟩:=c.tup;obtain⟨as,rfl,h⟩:=Ap r;exact⟨b,rfl,as,e,h⟩
theorem LD{k:Nat}(r:Room k A):A.units+3<gv:=by have:=r.un;ac_rfl
variable {ks:List Tk}{Q:R->Prop}
def Tu:dE:=λ_ Q=>Q (.nw (.dns []))
theorem MS:QE X (.Dict [] [] pos) Tu:=
 ⟨λρ Q Q' w q=>w _ q,λHZ F=>cZ Jb λσ H Q ⟨ρ,fr,q⟩ p hp=>q _ _ (aT.new' hp) ⟨p,rfl,hp,[],bP,rfl,λ_ z=>nomatch z⟩⟩
def xM(i:Nat)(tk tv:dE):c7:=λE ρ=>match ρ[i]? with
 |some (.own a (.dns ks))=>tv ρ λr=>r=.v (.bl ak)/\tk ρ λkk=>∃k:Tk,kk.d=Oj k/\ks.length<zZ/\E.nx (ρ.set i (.own a (.dns (f9 ks k))))
 |_=>False
theorem JE{x:bq}{p1 p2:lj}{k:Expr}{tk:dE}(hu:X.A.units+3<gv)(hv:PE X (.Name x p1) (vX i))(hk:QE X k tk)(he:QE X e te)
  (hs:autoParam (io e (ae (.Subscript (.Name x p1) k p2)) pos.line X.env=jh am) cA._auto_1):QS X (.Assign [.Subscript (.Name x p1) k p2] e pos) (xM i tk te):=by
 refine⟨λE E' ρ w h=>?_,λHZ F=>e7 (JS hu hv (hk.run HZ F) (he.run HZ F) hs) λD σ H ⟨ρ,E,fr,h,en⟩=>?_⟩
 ·unfold xM at *;split at h
  ·exact he.mono _ _ _ (λr q=>⟨q.1,hk.mono _ _ _ (λkk zq2=>by obtain⟨k,a,b,c⟩:=zq2;exact⟨k,a,b,w.nx _ c⟩) q.2⟩) h
  ·exact h
 ·unfold xM at h;split at h
  ·rename_i a ks hx;refine he.step fr h λr y H1 q S1 r1=>?_;obtain⟨rfl,q⟩:=q;have fr1:=fr.mono S1;obtain⟨hs1,xs,hv1,ek,t1⟩:=fr1.sl i _ hx;refine⟨by cases r1;rfl,_,hs1,hk.step fr1 q λkk z H2 q S2 rk=>?_⟩;obtain⟨k,ed,ql,q2⟩:=q;have ck:=rk.c;rw[ed] at ck;obtain⟨b,rfl,tb⟩:=sX ck;have hv2:=S2 _ _ hv1;have t2:∀x∈xs,TileAt H2 x.1 x.2:=λx hx=>(t1 x hx).gen λ_ _ e=>S2 _ _ e;refine⟨a,b,xs,k,rfl,rfl,hv2,t2,tb,BU (by rw[ek,bf] at ql;exact ql),?_⟩;have G:Gen X.K (MM F ρ) (MM F ρ) H2 (upd H2 a (.dN a (xP xs k b))):=Gen.write (.inr ⟨_,ee hx⟩) (by rw[hv2];trivial);refine en.nx _ _ _ ((fr1.mono S2).write (d':=.dns (f9 ks k)) hx ⟨_,bP,by rw[MW,ek],λy hy=>?_⟩) q2;unfold xP at hy;split at hy
   ·exact(t2 y hy).gen G.t
   ·rcases cr.mp hy with z | z
    ·exact(t2 y z).gen G.t
    ·rw[cq.mp z];exact tb.gen G.t
  ·exact h.elim
def Jx:Dv->Dv->(R->Prop)->Prop
 | .tup ds,.dns ks,Q=>∃k:Tk,Dv.tup ds=Oj k/\Q (.v (.bl (hasTk ks k)))
 |_,_,_=>False
def tO:Dv->Dv->(R->Prop)->Prop
 | .tup ds,.dns ks,Q=>∃k:Tk,Dv.tup ds=Oj k/\Q (.v (.bl (!hasTk ks k)))
 |_,_,_=>False
theorem Pg{k:Tk}(q:Q (.v (.bl (hasTk ks k)))):Jx (Oj k) (.dns ks) Q:=⟨k,rfl,q⟩
theorem HA{k:Tk}(q:Q (.v (.bl (!hasTk ks k)))):tO (Oj k) (.dns ks) Q:=⟨k,rfl,q⟩
theorem Mt(hu:X.A.units+3<gv):xA X (dm .In) Jx:=by
 refine⟨λdx dy Q Q' w h=>?_,_,Pq hu,λM O H x y dx dy Q cx cy h=>?_⟩
 ·unfold Jx at *;split at h
  ·exact⟨h.choose,h.choose_spec.1,w _ h.choose_spec.2⟩
  ·exact h
 ·unfold Jx at h;split at h
  ·obtain⟨k,ed,q⟩:=h;rw[ed] at cx;obtain⟨b,rfl,tb⟩:=sX cx;obtain⟨a,rfl,xs,e1,ek,t⟩:=cy.dns;subst ek;refine⟨a,b,xs,k,rfl,rfl,e1,t,tb,?_⟩;simp only[de,if_false];rw[Ba];exact q _ H (aT.refl _) (Rep.bl _)
  ·exact h.elim
theorem EK(hu:X.A.units+3<gv):xA X (dm .NotIn) tO:=by
 refine⟨λdx dy Q Q' w h=>?_,_,HK hu,λM O H x y dx dy Q cx cy h=>?_⟩
 ·unfold tO at *;split at h
  ·exact⟨h.choose,h.choose_spec.1,w _ h.choose_spec.2⟩
  ·exact h
 ·unfold tO at h;split at h
  ·obtain⟨k,ed,q⟩:=h;rw[ed] at cx;obtain⟨b,rfl,tb⟩:=sX cx;obtain⟨a,rfl,xs,e1,ek,t⟩:=cy.dns;subst ek;refine⟨a,b,xs,k,rfl,rfl,e1,t,tb,?_⟩;simp only[if_true];rw[Ba];exact q _ H (aT.refl _) (Rep.bl _)
  ·exact h.elim
end _Z
namespace _L
open PySem PySem.Spec PySem.W PyProof.Rows Tim
noncomputable def IQ(t u:Tl):Bool:=if t.1=u.1 then (if t.2.1=u.2.1 then gP t.2.2 u.2.2 else decide (t.2.1<u.2.1)) else decide (t.1<u.1)
noncomputable def pS:Tk->Tk->Bool
 | [],[]=>am
 | [],_::_=>ak
 |_::_,[]=>am
 |t::r,u::q=>if t=u then pS r q else IQ t u
theorem NG(t:Tl):IQ t t=am:=by unfold IQ;rw[a0G rfl,a0G rfl];exact kX _
theorem Pz{a b c:Tl}(h:IQ a b=ak)(k:IQ b c=ak):IQ a c=ak:=by
 unfold IQ at *;by_cases e1:a.1=b.1
 ·rw[a0G e1] at h;by_cases e2:b.1=c.1
  ·rw[a0G e2] at k;rw[a0G (e1.trans e2)];by_cases e3:a.2.1=b.2.1
   ·rw[a0G e3] at h;by_cases e4:b.2.1=c.2.1
    ·rw[a0G e4] at k;rw[a0G (e3.trans e4)];exact tY _ _ _ h k
    ·rw[a0h e4] at k;rw[a0h ⋯];have:=of_decide_eq_true k;exact decide_eq_true ⋯
   ·rw[a0h e3] at h;have:=of_decide_eq_true h;by_cases e4:b.2.1=c.2.1
    ·rw[a0h ⋯];exact decide_eq_true ⋯
    ·rw[a0h e4] at k;have:=of_decide_eq_true k;rw[a0h ⋯];exact decide_eq_true ⋯
  ·rw[a0h e2] at k;have:=of_decide_eq_true k;rw[a0h ⋯];exact decide_eq_true ⋯
 ·rw[a0h e1] at h;have:=of_decide_eq_true h;by_cases e2:b.1=c.1
  ·rw[a0h ⋯];exact decide_eq_true ⋯
  ·rw[a0h e2] at k;have:=of_decide_eq_true k;rw[a0h ⋯];exact decide_eq_true ⋯
theorem NF{a b:Tl}(h:a≠b):IQ a b=ak \/ IQ b a=ak:=by
 unfold IQ;by_cases e1:a.1=b.1
 ·rw[a0G e1,a0G e1.symm];by_cases e2:a.2.1=b.2.1
  ·rw[a0G e2,a0G e2.symm];exact pU _ _ λz=>h (Prod.ext e1 (Prod.ext e2 z))
  ·rw[a0h e2,a0h (Ne.symm e2),decide_eq_true_eq,decide_eq_true_eq];ac_rfl
 ·rw[a0h e1,a0h (Ne.symm e1),decide_eq_true_eq,decide_eq_true_eq];ac_rfl
theorem wO:∀a:Tk,pS a a=am
 | []=>rfl
 |a::r=>by rw[pS,a0G rfl];exact wO r
theorem BQ:∀a b c:Tk,pS a b=ak->pS b c=ak->pS a c=ak
 | [],[],_,h,_=>by cases h
 | [],_::_,[],_,k=>by cases k
 | [],_::_,_::_,_,_=>rfl
 |_::_,[],_,h,_=>by cases h
 |_::_,_::_,[],_,k=>by cases k
 |a::r,b::t,c::u,h,k=>by
  unfold pS at h k ⊢;by_cases e:a=b
  ·rw[a0G e] at h;subst e;by_cases e2:a=c
   ·rw[a0G e2] at k ⊢;exact BQ r t u h k
   ·rw[a0h e2] at k ⊢;exact k
  ·rw[a0h e] at h;by_cases e2:b=c
   ·subst e2;rw[a0h e];exact h
   ·rw[a0h e2] at k;have z:=Pz h k;rw[a0h (λq=>by rw[q,NG] at z;cases z)];exact z
theorem wN:∀a b:Tk,a≠b->pS a b=ak \/ pS b a=ak
 | [],[],h=>absurd rfl h
 | [],_::_,_=>.inl rfl
 |_::_,[],_=>.inr rfl
 |a::r,b::t,h=>by
  unfold pS;by_cases e:a=b
  ·subst e;rw[a0G rfl,a0G rfl];exact wN r t λz=>h (by rw[z])
  ·rw[a0h e,a0h (Ne.symm e)];exact NF e
theorem KY(f:Nat->Tk):Weak λi j=>pS (f i) (f j):=by
 refine⟨λa=>wO _,λa b c=>BQ _ _ _,λa b c h=>?_⟩;by_cases e:f a=f b
 ·exact .inr (by rw[<- e];exact h)
 ·rcases wN _ _ e with z | z
  ·exact .inl z
  ·exact .inr (BQ _ _ _ z h)
variable {F G:Tk}
theorem sG:∀{ns:List Int} {us:List ah},ItemsAre (XR prog w) ns us->oz us ns
 |_,_,.nil=>.nil
 |_,_,.cons h t=>by
  rename_i k v ks vs;cases v with
  |int n tok=>
   have e:n=k:=W6 (show (n==k)=ak from h);subst e;exact .cons _ _ (sG t)
  |_=>exact absurd h fw
theorem ME{x y:Tl}(hu:A.units+3<gv)(hx:cV prog w s.heap x a)(hy:cV prog w s.heap y b)(ne:x≠y)(q:Q (.bool (IQ x y)) s):
  bg (bn prog w) A (call (.builtin "tuple.__lt__") [.ref a,.ref b]) Q E s:=by
 refine fg uf hx.ty Wv ?_ (Wa _ _);have e:qy.«tuple.__lt__» ⟨[.ref a,.ref b],[]⟩=(do
   if !(<- qm (.ref b) (.type "tuple")) then return <- a0C .notImplemented
   let ls <- ii (.ref a)
   let rs <- ii (.ref b)
   for (c,d) in ls.toList.zip rs.toList do
    if !(<- eqBool c d) then
     a0e "tuple.compare.by-the-first-pair-that-differs"
     return <- a0C (<- richCompare .Lt c d)
   a0C (wn .Lt ls.size rs.size)):=rfl
 rw[e];have ty:=hy.ty;obtain⟨o,t,u,c,n,g,_,d,i⟩:=hx;obtain⟨o2,t2,u2,c2,n2,g2,_,d2,i2⟩:=hy;refine aa (fm (T:="tuple") ty Wb ?_);rw[a0h ∅];refine aa (ik g d (aa (ik g2 d2 (aa ?_))));simp only[Vs,zg,uk,vk];unfold IQ at q;refine aa (aa (nz ?_));by_cases e1:x.1=y.1
 ·rw[beq_iff_eq.mpr e1];rw[a0G e1] at q;refine ai (aa (aa (nz ?_)));by_cases e2:x.2.1=y.2.1
  ·rw[beq_iff_eq.mpr e2];rw[a0G e2] at q;refine ai (aa (aa (XE (by show A.units+1<gv;ac_rfl) i i2 ?_)));rw[decide_eq_false (λz=>ne (Prod.ext e1 (Prod.ext e2 z)))];obtain⟨oc,its,nc,gc,cc,dc,ic⟩:=i;obtain⟨oc2,its2,nc2,gc2,cc2,dc2,ic2⟩:=i2;refine aa (ir (aa (ny (op:=.Lt) ⟨_,gc,cc⟩ ⟨_,gc2,cc2⟩ uf (zX (us:=its.toList) (vs:=its2.toList) gc cc (by rw[dc]) (sG ic) gc2 cc2 (by rw[dc2]) (sG ic2) ⟨(λz=>nomatch z),?_⟩) (by show A.units+1<gv;ac_rfl))));exact aa (m:=a0C _) (ai (ai (ai (ai ⟨_,rfl,q⟩))))
  ·rw[beq_eq_false_iff_ne.mpr e2];rw[a0h e2] at q;refine aa (ir (aa ?_));refine(show bg (bn prog w) A.in1 (dm .Lt _ _) _ _ _ from Yh ?_);exact aa (m:=a0C _) (ai (ai (ai (ai ⟨_,rfl,q⟩))))
 ·rw[beq_eq_false_iff_ne.mpr e1];rw[a0h e1] at q;refine aa (ir (aa ?_));refine(show bg (bn prog w) A.in1 (dm .Lt _ _) _ _ _ from Yh ?_);exact aa (m:=a0C _) (ai (ai (ai (ai ⟨_,rfl,q⟩))))
def wG(prog:bj)(w:df)(h:eh)(k:Tk)(a:af):Prop:=∃(o:jn) (as:List af) (n:Nat),h.get? a=ae o/\o.cls=.type "list" /\ o.data=.seq (as.map Value.ref).toArray n/\Paired (λt b=>cV prog w h t b) k as
theorem wG.ty{k:Tk}(x:wG prog w s.heap k a):s.TypeIs (.ref a) "list" := let ⟨o,_,_,g,c,_⟩:=x;⟨o,g,c⟩
theorem tJ{h:eh}:∀{k:Tk} {as:List af},Paired (λt b=>cV prog w h t b) k as -> ∀{i:Nat} {t:Tl},k[i]?=ae t -> ∃b,as[i]?=ae b/\cV prog w h t b
 |_,_,.nil,i,t,h=>by simp at h
 |_,_,.cons r _,0,t,h=>by
  simp only[mw,jm] at h;subst h;exact⟨_,rfl,r⟩
 |_,_,.cons _ a0J,i+1,t,h=>tJ a0J (i:=i) (by simpa using h)
theorem NE:∀(m i:Nat),F.length+G.length-i=m->MeetsIn prog w (qy.«list.__eq__.loop» ⟨[.ref a,.ref b,ph i,ph 0],[]⟩) λA R s=>
  A.units+6<gv/\wG prog w s.heap F a/\wG prog w s.heap G b/\i<=F.length/\i<=G.length/\pS F G=pS (F.drop i) (G.drop i)/\R (.ok (.ret (.bool (pS F G)))) s:=by
 intro m;induction m using Nat.strongRecOn with
 |ind m ih=>
  intro i hm A R s ⟨hu,hx,hy,l1,l2,el,q⟩;have tx:=hx.ty;have ty:=hy.ty;obtain⟨o,as,n,g,c,d,p⟩:=id hx;obtain⟨o2,bs,n2,g2,c2,d2,p2⟩:=id hy;have la:=n5 p;have lb:=n5 p2;refine aa (m:=a06 (.ref a)) (ma g d (aa (ma g2 d2 ?_)));have ga:∀j:Nat,(as.map Value.ref).toArray[((j:Int)).toNat]?=(as[j]?).map Value.ref:=λj=>by simp
  have gb:∀j:Nat,(bs.map Value.ref).toArray[((j:Int)).toNat]?=(bs[j]?).map Value.ref:=λj=>by simp
  rw[ga,gb];by_cases h1:i<F.length
  ·by_cases h2:i<G.length
   ·obtain⟨b1,e1,r1⟩:=tJ p (dt h1);obtain⟨b2,e2,r2⟩:=tJ p2 (dt h2);rw[e1,e2];dsimp only[wa];rw[fj h1,fj h2,pS] at el;refine aa (FE (by show A.units+1+1<gv;ac_rfl) r1 r2 ?_);by_cases e:F[i]=G[i]
    ·rw[decide_eq_true e,a0G rfl];rw[a0G e] at el;refine ai ⟨plainId_quiet Wg _,vf Wh ?_⟩;rw[show ((i:Int)+1)=((i+1:Nat):Int) by ac_rfl];exact ih _ ⋯ (i+1) rfl A R s ⟨hu,hx,hy,h1,h2,el,q⟩
    ·rw[decide_eq_false e,a0h fw];rw[a0h e] at el;refine aa (ma g d (aa (ma g2 d2 ?_)));rw[ga,gb,e1,e2];dsimp only[wa];refine aa (ny (op:=.Lt) r1.ty r2.ty uf (ME (by show A.units+1+3<gv;ac_rfl) r1 r2 e ⟨(λz=>nomatch z),?_⟩) (by show A.units+1<gv;ac_rfl));rw[<- el];exact ai q
   ·have e2:bs[i]?=ao:=uc ⋯;have eg:pS F G=decide (as.length<bs.length):=by
     rw[el,we (by ac_rfl:G.length<=i),fj h1];symm;exact decide_eq_false ⋯
    obtain⟨b1,e1,r1⟩:=tJ p (dt h1);rw[e1,e2];dsimp only[Z4,wa];rw[eg] at q;refine aa (ma g d (aa (ma g2 d2 ?_)));refine(show bg _ _ (a0C (.bool (decide ((as.map Value.ref).toArray.size<(bs.map Value.ref).toArray.size)))) _ _ _ from ai ?_);rw[cj,cj,bf,bf];exact q
  ·have e1:as[i]?=ao:=uc ⋯;have eg:pS F G=decide (as.length<bs.length):=by
    rw[el,we (by ac_rfl:F.length<=i)];by_cases h2:i<G.length
    ·rw[fj h2];symm;exact decide_eq_true ⋯
    ·rw[we (by ac_rfl:G.length<=i)];symm;exact decide_eq_false ⋯
   rw[e1];dsimp only[Z4];rw[eg] at q;refine aa (ma g d (aa (ma g2 d2 ?_)));refine(show bg _ _ (a0C (.bool (decide ((as.map Value.ref).toArray.size<(bs.map Value.ref).toArray.size)))) _ _ _ from ai ?_);rw[cj,cj,bf,bf];exact q
theorem NH(hu:A.units+6<gv)(hx:wG prog w s.heap F a)(hy:wG prog w s.heap G b)(q:Q (.bool (pS F G)) s):bg (bn prog w) A (call (.builtin "list.__lt__") [.ref a,.ref b]) Q E s:=by
 refine call_meetsIn (S:=λA R s=>A.units+6<gv/\wG prog w s.heap F a/\wG prog w s.heap G b/\R (.ok (.ret (.bool (pS F G)))) s) WZ hx.ty PySem.F.entry_list_lt (PySem.F.args_list_lt_2 _ _) (λA R s ⟨hu,hx,hy,q⟩=>?_) ⟨hu,hx,hy,q⟩;refine aa (m:=qm (.ref b) (.type "list")) (fm hy.ty PySem.F.sub_list_list ?_);rw[a0h ∅];refine(show bg _ _ (Zg (.builtin "list.__eq__.loop" ⟨[.ref a,.ref b,ph ((0:Nat):Int),ph 0],[]⟩)) _ _ _ from ai ⟨plainId_quiet Wg _,vf Wh ?_⟩);exact NE _ 0 rfl A R s ⟨hu,hx,hy,qd _,qd _,rfl,q⟩
theorem ND{C:Bool->aj->Prop}(hu:A.units+6<gv)(hx:wG prog w s.heap F a)(hy:wG prog w s.heap G b)(q:C (pS F G) s):bg (bn prog w) A (keyLt' Zy (.ref a) (.ref b)) C E s:=by
 rw[keyLt'_oneType,oneLt'_eq];simp only[if_true];refine aa (wpAny_cRoomFor ⋯ (aa (wpAny_callSpecialIfBound?_slot hx.ty WZ (NH hu hx hy ?_))));exact gx q
theorem GM{M:Vl}:∀(vs:List ah) {Q:List (Option ah)->aj->Prop},(∀v∈vs,Looks M s.heap (zd v) (.type "list"))->Q (vs.map λ_=>ao) s->bg M A (vs.mapM firstOfTuple') Q E s
 | [],_,_,h=>by rw[List.mapM_nil];exact ai h
 |v::vs,Q,t,h=>by
  rw[List.mapM_cons,kas_first_eq];refine aa (aa (Looks.here (t v (bz ..)) ?_));rw[a0G ∅];exact ai (aa (GM vs (Q:=λbs s'=>bg M A (jh (ao::bs)) Q E s') (λx hx=>t x (bp _ hx)) (ai h)))
theorem SR{M:Vl}{v:ah}{vs:List ah}{Q:re->aj->Prop}(hT:∀x∈v::vs,Looks M s.heap (zd x) (.type "list"))(h:Q Zy s):bg M A (a0k (v::vs).toArray) Q E s:=by
 rw[kat_kind_eq,Yj,map_eq_pure_bind];refine aa (aa (GM _ hT (ai ?_)));rw[a0h (by
  rw[List.all_toArray];intro z;cases z)]
 rw[a0h (by simp)];rw[oneTypeOnly'_eq,Yj,map_eq_pure_bind];refine aa (aa (aa (kas_mapM (r:=.type "list") _ (λv hv Q' hq=>(hT v hv).here hq) (ai ?_))));have h0:(wf (λ_=>wv "list") (v::vs)).toArray[0]?=ae (.type "list"):=by simp
 rw[h0];have al:((wf (λ_=>wv "list") (v::vs)).toArray.all λx=>x==wv "list")=ak:=by simp
 simp only[al,if_true];exact ai (ai h)
def Te(H:Hp)(k:Tk)(a:af):Prop:=∃as:List af,H a=ae (.lst (as.map V.ref))/\Paired (IM H) k as
theorem cV.more{h':eh}{k:Tl}(x:cV prog w h k b)(e:∀c o,h.get? c=ae o->h'.get? c=ae o):cV prog w h' k b:=by
 obtain⟨o,t,u,c,n,g,cl,d,oc,its,nc,gc,cc,dc,ic⟩:=x;exact⟨o,t,u,c,n,e _ _ g,cl,d,oc,its,nc,e _ _ gc,cc,dc,ic⟩
abbrev Tf:=af×Tk
theorem C3(hu:X.A.units+8<gv):gI X (.builtin "sorted") (λxs H Q=>∃(p:af) (its:List Tf),xs=[.ref p]/\g6 X.K H p (its.map λt=>V.ref t.1)/\its.length<=1000/\(∀t∈its,Te H t.2 t.1) /\
  its.Pairwise (λt u=>t.2≠u.2) /\ ∀its':List Tf,its'.Perm its->its'.Pairwise (λt u=>pS t.2 u.2=ak) -> ∀l,H l=ao->Q (.ref l) (upd H l (.lst (its'.map λt=>V.ref t.1)))):=by
 intro pj s σ H xs us Q I r h;obtain⟨p,its,rfl,hl,h64,hits,hd,q⟩:=h;obtain⟨u,rfl,ru⟩:=mK r;cases ru;obtain⟨vs,rv,pl,hz⟩:=I.list hl;have ev:vs=its.map λt=>Value.ref t.1:=by
  clear hl hz h64 hits hd q pl;induction its generalizing vs with
  |nil=>cases rv;rfl
  |cons t r ih=>
   cases rv with
   |cons a b=>rw[ef,<- ih _ b];cases a;rfl
 subst ev;have len:(its.map λt=>Value.ref t.1).length=its.length:=by simp
 let num:Nat->Tk:=λi=>(its.getD i (0,[])).2
 have get:∀i,i<its.length->(its.map λt=>Value.ref t.1).getD i fh=Value.ref (its.getD i (0,[])).1:=λi hi=>by simp[hi]
 have mem:∀i,i<its.length->its.getD i (0,[])∈its:=λi hi=>by
  rw[fu,dt hi];exact ft hi
 have ne:∀i j,i<its.length->j<its.length->i≠j->num i≠num j:=λi j hi hj n=>by
  have pw:=fk.mp hd;have ei:its.getD i (0,[])=its[i]:=by simp[hi]
  have ej:its.getD j (0,[])=its[j]:=by simp[hj]
  show (its.getD i (0,[])).2≠(its.getD j (0,[])).2;rw[ei,ej];rcases zk n with z | z
  ·exact pw i j hi hj z
  ·exact(pw j i hj hi z).symm
 have fl:∀t∈its,wG X.prog X.w s.heap t.2 t.1:=λt ht=>by
  obtain⟨as,e,pr⟩:=hits t ht;obtain⟨z,ws,n,rw',g⟩:=(show cR X.prog X.w H s.heap t.1 (.lst _) from I.hok t.1 _ e);obtain rfl:=uH rw';exact⟨_,as,n,g,rfl,rfl,Paired.mapP pr λ_ _ z=>z.is I.hok⟩
 have far:∀{b o},s.heap.get? b=ae o->b≠s.heap.objs.size:=λe=>gp (bh e);have flh:∀(h:eh),(∀b o,b≠s.heap.objs.size->s.heap.get? b=ae o->h.get? b=ae o) -> ∀t∈its,wG X.prog X.w h t.2 t.1:=λh hk t ht=>by
  obtain⟨o,as,n,g,c,d,pr⟩:=fl t ht;exact⟨o,as,n,hk _ _ (far g) g,c,d,Paired.mapP pr λ_ _ z=>z.more λc o e=>hk _ _ (far e) e⟩
 have cmp:2<=(its.map λt=>Value.ref t.1).length->CmpA X.prog X.w X.A.in1.in1 s s.heap.objs.size (its.map λt=>Value.ref t.1) (λi j=>pS (num i) (num j)) Zy:=λtwo=>by
  refine⟨KY num,λh Q' hk q'=>?_,λh i j C hk hi hj hn q'=>?_⟩
  ·have al:∀x∈its.map λt=>Value.ref t.1,Looks (bn X.prog X.w) h (zd x) (.type "list"):=λx hx=>by
    obtain⟨t,ht,rfl⟩:=fq.mp hx;obtain⟨o,as,n,g,c,d,pr⟩:=flh h hk t ht;rw[<- c];exact(show Looks (bn X.prog X.w) h (zd (.ref t.1)) o.cls from(Looks.ld g).andThen .now)
   cases hv:its.map λt=>Value.ref t.1 with
   |nil=>rw[hv] at two;simp at two
   |cons v vs=>
    rw[hv] at al;exact SR (s:={ s with heap:=h }) al q'
  ·rw[len] at hi hj;rw[get i hi,get j hj];exact ND (s:={ s with heap:=h }) (by show X.A.units+1+1+6<gv;ac_rfl) (flh h hk _ (mem i hi)) (flh h hk _ (mem j hj)) q'
 refine xI (lt:=λi j=>pS (num i) (num j)) (κ:=Zy) pl.isList (by rw[len];exact h64) (λi j hi hj n=>wN _ _ (ne i j (by rw[len] at hi;exact hi) (by rw[len] at hj;exact hj) n)) cmp λp' pm up=>?_;rw[len] at pm up
 let its':=p'.toList.map λi=>its.getD i (0,[])
 have perm:its'.Perm its:=FU pm its rfl _;have pw:its'.Pairwise (λt u=>pS t.2 u.2=ak):=vL pm up its _ _ λi j hi hj b=>by
  rcases b.2 with z | z
  ·exact z
  ·rcases wN _ _ (ne i j hi hj (gp z)) with y | y
   ·exact y
   ·have b1:pS (num j) (num i)=am:=b.1;rw[b1] at y;cases y
 have ep:picked (its.map λt=>Value.ref t.1) p'=its'.map λt=>Value.ref t.1:=by
  unfold picked;rw[ja];apply jo;intro i hi;exact get i (sy.mp (pm.list.mem_iff.mp hi))
 rw[ep];obtain⟨c,at1⟩:=Wt s.heap (its.map λt=>Value.ref t.1) (its'.map λt=>Value.ref t.1).toArray;have rel:∀l:List Tf,bM (l.map λt=>V.ref t.1) (l.map λt=>Value.ref t.1):=λl=>by
  induction l with
  |nil=>exact .nil
  |cons t r ih=>exact .cons rfl ih
 have hle:(its'.map λt=>V.ref t.1).length<=bo:=by rw[ky,bf,perm.length_eq];ac_rfl
 exact⟨.ref (s.heap.objs.size+1),_,I.laid (t':=s.toks) (λb o e=>Vt e) (vd _) (show cR X.prog X.w _ _ _ (.lst _) from⟨hle,_,c,rel its',at1⟩),rfl,q its' perm pw _ (I.hok.fresh (vd _))⟩
end _L
namespace _Z
open _L
noncomputable abbrev GL(k:Tk):Dv:=.lst (k.map To)
def pM:List Dv->(R->Prop)->Prop
 | [.lst ds],Q=>∃F:List Tk,ds=F.map GL/\F.length<=1000/\F.Pairwise (· ≠ ·) /\ ∀F':List Tk,F'.Perm F->F'.Pairwise (λa b=>pS a b=ak)->Q (.nw (.lst (F'.map GL)))
 |_,_=>False
theorem GK:∀{F:List Tk} {xs:List V},Reps K M H xs (F.map GL) -> ∃its:List Tf,xs=its.map (λt=>V.ref t.1)/\its.map (·.2)=F /\ ∀t∈its,Te H t.2 t.1/\Rep K M H (.ref t.1) (GL t.2)
 | [],_,.nil=>⟨[],rfl,rfl,λt h=>nomatch h⟩
 |k::F,_,.cons (x:=x) r t=>by
  obtain⟨its,rfl,e,al⟩:=GK t;have r':=r;cases r with
  | @lst a ys _ ea m ry=>
   obtain⟨as,rfl,h⟩:=Ap ry;refine⟨(a,k)::its,rfl,by rw[ef,e],λt ht=>?_⟩;rcases bv.mp ht with rfl | ht
   ·exact⟨⟨as,ea,h⟩,r'⟩
   ·exact al t ht
theorem CS:∀{its:List Tf},(∀t∈its,Rep K M H (.ref t.1) (GL t.2))->Reps K M H (its.map λt=>V.ref t.1) ((its.map (·.2)).map GL)
 | [],_=>.nil
 |t::r,h=>.cons (h t (bz ..)) (CS λu hu=>h u (bp _ hu))
theorem yX(hu:X.A.units+65<gv):qG X (.builtin "sorted") pM:=by
 refine⟨λds Q Q' w h=>?_,_,C3 ⋯,λM O H xs ds Q c h=>?_⟩
 ·unfold pM at *;split at h
  ·obtain⟨F,a,b,d,q⟩:=h;exact⟨F,a,b,d,λF' p s=>w _ (q F' p s)⟩
  ·exact h
 ·unfold pM at h;split at h
  ·obtain⟨F,rfl,hl,hd,q⟩:=h;obtain⟨x,rfl,cx⟩:=fW c;obtain⟨a,ys,rfl,ea,ra⟩:=cx.lst;obtain⟨its,rfl,rfl,al⟩:=GK ra;refine⟨a,its,rfl,g6.of ea,by simpa using hl,λt ht=>(al t ht).1,by rw[jb] at hd;exact hd,λits' p s l hl=>?_⟩;refine q (its'.map (·.2)) (p.map _) (by rw[jb];exact s) _ _ (aT.new' hl) (pP hl (CS λt ht=>(al t (p.subset ht)).2))
  ·exact h.elim
end _Z
namespace _L
section
variable {xs:List (Tk×af)}{k:Tk}
theorem SA{Q:Unit->aj->Prop}(hu:A.units+3<gv)(I:Inv X pj σ H s)(e:H a=ae (.dN a xs))(t:∀x∈xs,TileAt H x.1 x.2)(tb:TileAt H k b)(hl:xs.length<bo)
  (h:∀s',Inv X pj σ (upd H a (.dN a (xP xs k b))) s'->Q () s'):bg (bn X.prog X.w) A (dictSet a (.ref b) (.bool ak)) Q E s:=by
 obtain⟨z,hd,dd⟩:=tW I.hok e t;refine wpAny_dictSet_heap (knd:=oX X.prog X.w) (hsz:=by rw[bf];exact z) (show A.units+2<gv by ac_rfl) (tb.is I.hok) dd λh' dd' hs=>h _ ?_;rw[xG] at dd';obtain⟨q,es,ep,hq,h2,h3,h4,_,h5⟩:=dd';refine wV I (by rw[e];exact nh) hs ⟨q,hq⟩ (tV ⟨mh (FQ xs k b) hl,hd,q,es,ep,hq,h2,h3,?_,?_⟩)
 ·rw[h4,ja];rfl
 ·rw[ja] at h5;exact h5
end
def Oo(tk tv:TE):TE:=λσ H Q=>∀p,H p=ao->tk σ (upd H p (.dN p [])) λx H1=>tv σ H1 λy H2=>y=.bl ak/\H2 p=ae (.dN p []) /\ ∃b k,x=.ref b/\TileAt H2 k b/\Q (.ref p) (upd H2 p (.dN p [(k,b)]))
theorem Jc{k v:Expr}{tk tv:TE}(hu:X.A.units+3<gv)(hk:PE X k tk)(hv:PE X v tv):PE X (.Dict [ae k] [v] pos) (Oo tk tv):=by
 intro pj s σ H Q I q;have h:Tw X pos [ae k] [v] [(tk,tv)]:=JU hk hv Md;have hn:=I.hok.fresh (cg s.heap.objs.size);have I1:=I.laid (a:=s.heap.objs.size) (o:=.dN s.heap.objs.size []) (h':=s.heap.push { cls:=.type "dict",data:=.dict #[] }) (t':=s.toks) (λ_ _ q=>au _ q) (cg _)
  (tV ⟨qd _,beq_eq_false_iff_ne.mpr (Ne.symm (gp I.big)),_,#[],0,cm _ rfl,⟨rfl,rfl,rfl⟩,rfl,rfl,Yw⟩)
 have hpl:=pairTrees_length [ae k] [v] X.env pos rfl rfl;have hne:pairTrees [ae k] [v] X.env pos≠[]:=by
  intro he;rw[he] at hpl;cases hpl
 rw[arm_eval_Dict,zip_pairTrees [ae k] [v] X.env pos rfl rfl,dictDisplay_pairs _ hne (by rw[hpl];simp)];refine aa (Xm (aa ?_));unfold subDict;refine aa (wpAny_alloc ?_);refine aa (je ?_);rw[a0G (by rw[hpl];simp)];have q1:=q _ hn;refine aa (thn (h pj _ σ _ (λps H2=>match ps with | [(x,y)]=>y=.bl ak/\H2 s.heap.objs.size=ae (.dN s.heap.objs.size []) /\ ∃b k,x=.ref b/\TileAt H2 k b/\Q (.ref s.heap.objs.size) (upd H2 s.heap.objs.size (.dN s.heap.objs.size [(k,b)])) | _=>False) I1 q1) λws s2 zz=>?_);obtain⟨ps,H2,I2,rel,qq⟩:=zz;split at qq
 ·rename_i x y;obtain⟨rfl,e,b,kk,rfl,tb,q2⟩:=qq;refine je ?_;cases rel with
  | @cons _ y0 _ ys hx t=>
   cases t;obtain⟨y1,y2⟩:=y0;obtain rfl:y1=Value.ref b:=hx.1;obtain rfl:y2=kj ak:=hx.2;rw[uk];refine aa (aa (aa (SA hu I2 e (λ_ z=>nomatch z) tb (by rw[ky,xb];ac_rfl) λs' I'=>ai ?_)));refine(show bg _ _ (YQ [] PUnit.unit _) _ _ _ from ?_);rw[vk];exact ai (ai (ai (ai ⟨.ref s.heap.objs.size,_,I',rfl,q2⟩)))
 ·exact qq.elim
end _L
namespace _Z
open _L
def Nj(tk tv:dE):dE:=λρ Q=>tk ρ λkk=>tv ρ λr=>r=.v (.bl ak) /\ ∃k:Tk,kk.d=Oj k/\Q (.nw (.dns [k]))
theorem Ri{k v:Expr}{tk tv:dE}(hu:X.A.units+3<gv)(hk:QE X k tk)(hv:QE X v tv):QE X (.Dict [ae k] [v] pos) (Nj tk tv):=by
 refine⟨λρ Q Q' w q=>hk.mono _ _ _ (λkk q=>hv.mono _ _ _ (λr q=>⟨q.1,q.2.choose,q.2.choose_spec.1,w _ q.2.choose_spec.2⟩) q) q,λHZ F=>cZ (Jc hu (hk.run HZ F) (hv.run HZ F)) λσ H Q ⟨ρ,fr,q⟩ p hp=>?_⟩;have S0:aT H (upd H p (.dN p [])):=aT.new' hp;have fr0:=fr.mono S0;refine hk.step fr0 q λkk x H1 q S1 r1=>?_;refine hv.step (fr0.mono S1) q λr y H2 q S2 r2=>?_;obtain⟨rfl,k,ek,q⟩:=q;have c1:=r1.c;rw[ek] at c1;obtain⟨b,rfl,tb⟩:=sX c1;have tb2:=tb.gen λa xs e=>S2 _ _ e;have ep:=S2 _ _ (S1 _ _ (show (upd H p (.dN p [])) p=ae (.dN p []) from bP));refine⟨by cases r2;rfl,ep,b,k,rfl,tb2,q _ _ (λc o e=>?_) ⟨p,rfl,hp,[(k,b)],bP,rfl,λx hx=>?_⟩⟩
 ·rw[b5 (bG e hp)];exact S2 _ _ (S1 _ _ (S0 _ _ e))
 ·rw[cq.mp hx];exact tb2.gen λa xs e=>by
   rw[b5 λz=>by rw[z,ep] at e;cases e];exact e
section
variable {H2 H3:Hp}{D:af}{bs:List af}{rows:List (List Int)}{row:List Int}
end
noncomputable def IL:Dv->Bool
 | .int _=>ak
 | .obj _ fs=>flatDs (fs.map (·.2))
 |_=>am
def t7(i:Nat)(sp:Fn)(ts:oN)(tt:mG)(tb:c7)(tr:c7):c7:=λE ρ=>i<ρ.length/\ts ρ λrs=>(rs.all R.free=ak/\(rs.map R.d).all IL=ak)/\sp (rs.map R.d) λr=>match r with
 | .nw (.lst ds)=>tt (ρ.set i (.v (.lst ds))) λb=>if b=ak then tb { E with nx:=λ_=>False } (ρ.set i (.v (.lst ds))) else
   ∃ns n a0J e0,(ds=.lst (ns++[n])::a0J/\ds.length=e0+1)/\tr E (ρ.set i .un)
 |_=>False
section
variable {M':af->Prop}
theorem Ly{x:V}{d:Dv}(r:Rep K M H x d)(h:IL d=ak):(∀c,x=.ref c -> ¬M c /\ ∀zs,H c≠ae (.lst zs)) /\ ∀M':af->Prop,(∀c,x=.ref c -> ¬M' c)->Rep K M' H x d:=by
 cases r with
 |int=>exact⟨λc z=>(nomatch z),λ_ _=>.int _⟩
 | @obj a C dx fs ds e m r=>exact⟨λc z=>(by cases z;exact⟨m,λzs z=>(by rw[e] at z;cases z)⟩),λM' m'=>.obj e (m' a rfl) (r.flat h)⟩
 |_=>exact Bool.noConfusion h
theorem Lz{xs:List V}(r:Reps K M H xs ds):ds.all IL=ak->(∀c,V.ref c∈xs -> ¬M c /\ ∀zs,H c≠ae (.lst zs)) /\ ∀M':af->Prop,(∀c,V.ref c∈xs -> ¬M' c)->Reps K M' H xs ds:=
 r.ind (P:=λxs ds=>ds.all IL=ak->(∀c,V.ref c∈xs -> ¬M c /\ ∀zs,H c≠ae (.lst zs)) /\ ∀M':af->Prop,(∀c,V.ref c∈xs -> ¬M' c)->Reps K M' H xs ds)
  (λ_=>⟨λc z=>(nomatch z),λ_ _=>.nil⟩) λx d xs ds a _ ih h=>by
   rw[WR,cp] at h;obtain⟨h1,h3⟩:=Ly a h.1;obtain⟨i1,i2⟩:=ih h.2;refine⟨λb hb=>?_,λM' hm=>.cons (h3 M' λc e=>hm c (by rw[e];exact bz ..)) (i2 M' λb hb=>hm b (bp _ hb))⟩;rcases bv.mp hb with e | hb
   ·exact h1 b e.symm
   ·exact i1 b hb
end
section
variable {k:Nat}{y f:bq}{z c:Expr}{ts:oN}{tt:mG}{tb tr:c7}{a0R a0J:List kg}{a0Y a0S ipos q1 q2 q3 q4 q5 r1 r3 r4 r5:lj}
theorem JD(d:Def X.prog X.w X.K X.mg X.base k f ps (low X.K sp))(mo:MonoF sp)(hr:Room k X.A)(ha:QA X (e::es) ts)(hc:QT X c tt)(hb:QSs X a0R tb)(hz:QE X z (eC (.int 0)))(hrest:QSs X a0J tr)
  (hN:X.N.Nodup) (hi:X.N[i]?=ae y) (hy:GW X.env.scope y) (hv:PE X (.Name y q1) (vX i)) (hv2:PE X (.Name y r1) (vX i))
  (hg:autoParam (Gl X f) cA._auto_1) (hdb:autoParam ((f==("__debug__":bq))=am) mJ._auto_1) (hst0:autoParam (ay (e::es) X.env=(am,gw e X.env)::ay es X.env) cA._auto_1) (hpl:autoParam ((jd a0P (ay es X.env)).any (·.1)=am) cA._auto_1)
  (hs0:autoParam (io (.Call (.Name f p) (e::es) [] a0P) (ae (.Name y a0Y)) a0S.line X.env=jh am) cA._auto_1) (hf:autoParam (X.fn y=ak \/ X.env.scope.names.lookup y=ae .local) FA._auto_1)
  (hix:autoParam (C9 z) VS._auto_1)
  (hs1:autoParam (io (.Call (.Attribute (.Subscript (.Name y q1) z q2) "pop" q3) [] [] q4) ao q5.line X.env=jh am) cA._auto_1)
  (hbase1:autoParam (kh (.Subscript (.Name y q1) z q2) "pop" X.env (gw (.Subscript (.Name y q1) z q2) X.env)=gw (.Subscript (.Name y q1) z q2) X.env) cA._auto_1) (hline1:autoParam ((q3.endLine==q4.line)=ak) cA._auto_1)
  (hs2:autoParam (io (.Call (.Attribute (.Name y r1) "pop" r3) [] [] r4) ao r5.line X.env=jh am) cA._auto_1)
  (hbase2:autoParam (kh (.Name y r1) "pop" X.env (gw (.Name y r1) X.env)=gw (.Name y r1) X.env) cA._auto_1) (hline2:autoParam ((r3.endLine==r4.line)=ak) cA._auto_1):
  QSs X (.Assign [.Name y a0Y] (.Call (.Name f p) (e::es) [] a0P) a0S :: .If c a0R [] ipos :: .Expr (.Call (.Attribute (.Subscript (.Name y q1) z q2) "pop" q3) [] [] q4) q5 :: .Expr (.Call (.Attribute (.Name y r1) "pop" r3) [] [] r4) r5::a0J) (t7 i sp ts tt tb tr):=by
 obtain⟨fa,fd,hm,hk,hbd,FO⟩:=d.ex;refine⟨λE E' ρ w h=>?_,λHZ F=>?_⟩
 ·unfold t7 at h ⊢;refine⟨h.1,ha.mono _ _ _ (λrs q=>⟨q.1,mo.mo _ _ _ (λr q=>?_) q.2⟩) h.2⟩;split at q
  ·refine hc.mono _ _ _ (λb q=>?_) q;split at q
   ·rw[a0G ‹_›];exact hb.mono _ _ _ (w.with_nx λ_ h=>h) q
   ·rw[a0h ‹_›];obtain⟨ns,n,rest',e0,a,q⟩:=q;exact⟨ns,n,rest',e0,a,hrest.mono _ _ _ w q⟩
  ·exact q
 ·refine uD (mZ (BA hN hi hy (FW FO hr hg hm hk hbd .nil Cb (ha.run HZ F) hdb hst0 hpl) hs0 hf) (mZ (JR (hc.run HZ F) (hb.run HZ F) FS)
   (mZ (tG (EB ka wt wu EN (O4 GA hv (hz.run HZ F) hix) hbase1 hline1) hs1)
    (mZ (tG (EB ka wt wu EN hv2 hbase2 hline2) hs2) (hrest.run HZ F))))) λD σ H ⟨ρ,E,fr,h,en⟩=>?_
  unfold t7 at h;obtain⟨il,h⟩:=h;refine ha.step fr h λrs xs H1 q S1 rr=>?_;obtain⟨⟨qf,qa⟩,q⟩:=q;have fr1:=fr.mono S1;have reps:=rr.reps (λa m=>fr.dom m) qf;obtain⟨ar,aw⟩:=Lz reps qa;rw[fy];refine⟨λb=>H1 b≠ao/\V.ref b ∉ xs,_,⟨λb z=>z.1,fr1.tab⟩,aw _ λb hb z=>z.2 hb,mo.mo _ _ _ (λr q x H2 S2 rx=>?_) q⟩;split at q
  ·rename_i ds;obtain⟨a,rfl,ha1,vs,ea,rv⟩:=rx;have hal:¬MM F ρ a:=λz=>fr1.dom z ha1;have wk:∀b,MM F ρ b->(λb=>(H1 b≠ao/\V.ref b ∉ xs) \/ b=a) b:=λb z=>.inl ⟨fr1.dom z,λhb=>(ar b hb).1 z⟩;have rep:Rep X.K (MM F ρ) H2 (.ref a) (.lst ds):=.lst ea hal (rv.weak wk);have fr2:Fr X.K HZ F (σ.set i (ae (.ref a))) H2 (ρ.set i (.v (.lst ds))):=(fr1.mono S2).setv rep;have hsi:(σ.set i (ae (.ref a)))[i]?=ae (ae (.ref a)):=jf (by rw[fr.len];exact il);refine hc.step fr2 q λbb H3 q S3=>?_;cases bb with
   |true=>exact qX ⟨_,{ E with nx:=λ_=>False },fr2.mono S3,by simpa using q,λ_ _ _ _ z=>z.elim,en.bk,en.ct,en.rt⟩
   |false=>
    obtain⟨ns,n,rest',e0,⟨rfl,_⟩,qr⟩:=(show ∃ns n rest' e0,(ds=.lst (ns++[n])::rest'/\ds.length=e0+1)/\tr E (ρ.set i .un) from by simpa using q);cases rv with
    | @cons v0 _ vs0 _ r0 rt=>
     cases r0 with
     | @lst b zs _ eb nb rz=>
      have hb1:H1 b=ao:=by
       cases hq:H1 b with
       |none=>rfl
       |some o=>
        refine absurd (Or.inl ⟨(by rw[hq];exact Option.some_ne_none _),λhx=>?_⟩) nb;have:=S2 _ _ hq;rw[eb] at this;cases this;exact(ar b hx).2 _ hq
      have hab:b≠a:=λz=>nb (.inr z);obtain⟨ws,v,rfl,_,_⟩:=rz.unsnoc;have fr3:=fr2.mono S3;refine pV ⟨_,hsi,hz.step fr3 (Q:=λr=>r=.v (.int 0)) rfl λr y0 H4 e0 S4 r4=>?_⟩;subst e0;cases r4;have ea4:=S4 _ _ (S3 _ _ ea);have eb4:=S4 _ _ (S3 _ _ eb);have at0:sU (V.ref b::vs0) 0=ae (V.ref b):=Lx;refine⟨a,_,0,.ref b,rfl,rfl,g6.of ea4,at0,.inl ⟨rfl,_,g6.of eb4⟩,b,ws++[v],v,rfl,rfl,eb4,by simp,?_⟩;rw[xt];have hb0:=S1.free hb1;have S05:aT H H4:=S1.trans (S2.trans (S3.trans S4));have S06:aT H (upd H4 b (.lst ws)):=λc o e=>by
       rw[b5 (bG e hb0)];exact S05 _ _ e
      have ea6:upd H4 b (.lst ws) a=ae (.lst (.ref b::vs0)):=by rw[b5 λz=>hab z.symm];exact ea4
      have ha0:=S1.free ha1;obtain⟨vs',v',ev⟩:∃vs' v',V.ref b::vs0=vs'++[v']:=⟨(V.ref b::vs0).dropLast,(V.ref b::vs0).getLast (by simp),(sv _).symm⟩;rw[ev] at ea6;refine⟨_,hsi,.inl ⟨rfl,_,g6.of ea6⟩,a,vs'++[v'],v',rfl,rfl,ea6,by simp,?_⟩;rw[xt];have S08:aT H (upd (upd H4 b (.lst ws)) a (.lst vs')):=λc o e=>by
       rw[b5 (bG e ha0)];exact S06 _ _ e
      exact⟨_,E,(fr.mono S08).setu,qr,en⟩
  ·exact q.elim
end
abbrev F8(x a0I:bq)(st:kg)(ps:List bq):Prop:=∀(kV doc pm:ah) (an:Option af) (cdv ct:ah) (us:List ah),us.length=ps.length->a0g (xy x a0I (kH st) (eK st) (aM st) .none kV doc pm an cdv ct) ⟨us,[]⟩=jh (ps.zip us)
theorem VG{p:List ah->Prop}(h:∀(a:ah) (us:List ah),us.length=n->p (a::us)):∀us:List ah,us.length=n+1->p us
 | [],e=>by cases e
 |a::us,e=>h a us (Nat.succ.inj e)
theorem VH{p:List ah->Prop}(h:p []):∀us:List ah,us.length=0->p us
 | [],_=>h
 |_::_,e=>by cases e
variable {st:kg}
theorem DF.at{x nm:bq}(d:DF K mg x nm st)(h:F8 nm nm st ps:=by intro _ _ _ _ _ _;(repeat refine _Z.VG λ_=>?_);exact _Z.VH rfl):At K mg x nm st ps:=by
 obtain⟨a,l,c,k⟩:=d;have F:=Bd l c k;exact⟨_,_,a,F,F.binds h⟩
theorem MF.at{m:bq}(d:MF K C m a0I st)(h:autoParam (F8 m a0I st ps) DF.at._auto_1):MAt K C m a0I st ps:=by
 obtain⟨a,i,l,c,k⟩:=d;have F:=Bd l c k;exact⟨_,_,⟨a,i,k⟩,F,F.binds h⟩
theorem MF.ini{x:bq}(d:MF K C "__init__" a0I st)(e:mg x=ae (.ref C))(mk:Yq K C=ak)(kc:qc K (.ref C)=ak)
  (h:autoParam (F8 "__init__" a0I st ps) DF.at._auto_1):IAt K mg x C a0I st ps:=by
 obtain⟨a,i,l,c,k⟩:=d;have F:=Bd l c k;exact⟨_,_,⟨mk,a,i,kc⟩,e,F,F.binds h⟩
end _Z
namespace _Z
theorem R3_q:type_of% @R3.eq_1:=@R3.eq_1
theorem mW_q:type_of% @mW.eq_1:=@mW.eq_1
theorem J5_q:type_of% @J5.eq_1:=@J5.eq_1
theorem CP_q:type_of% @CP.eq_1:=@CP.eq_1
theorem Sm_q:type_of% @Sm.eq_1:=@Sm.eq_1
theorem Gi_q:type_of% @Gi.eq_1:=@Gi.eq_1
theorem xN_q:type_of% @xN.eq_1:=@xN.eq_1
theorem DQ_q:type_of% @DQ.eq_1:=@DQ.eq_1
theorem RM_q:type_of% @RM.eq_1:=@RM.eq_1
theorem fU_q:type_of% @fU.eq_1:=@fU.eq_1
theorem Ld_q:type_of% @Ld.eq_1:=@Ld.eq_1
theorem jV_q:type_of% @jV.eq_1:=@jV.eq_1
theorem RO_q:type_of% @RO.eq_1:=@RO.eq_1
theorem GG_q:type_of% @GG.eq_1:=@GG.eq_1
theorem BY_q:type_of% @BY.eq_1:=@BY.eq_1
theorem AY_q:type_of% @AY.eq_1:=@AY.eq_1
theorem Sq_q:type_of% @Sq.eq_1:=@Sq.eq_1
theorem So_q:type_of% @So.eq_1:=@So.eq_1
theorem aP_q:type_of% @aP.eq_1:=@aP.eq_1
theorem bH_q:type_of% @bH.eq_1:=@bH.eq_1
theorem J6_q:type_of% @J6.eq_1:=@J6.eq_1
theorem FJ_q:type_of% @FJ.eq_1:=@FJ.eq_1
theorem hW_q:type_of% @hW.eq_1:=@hW.eq_1
theorem AD_q:type_of% @AD.eq_1:=@AD.eq_1
theorem c8_q:type_of% @c8.eq_1:=@c8.eq_1
theorem O1_q:type_of% @O1.eq_1:=@O1.eq_1
theorem gM_q:type_of% @gM.eq_1:=@gM.eq_1
theorem c6_q:type_of% @c6.eq_1:=@c6.eq_1
theorem fR_q:type_of% @fR.eq_1:=@fR.eq_1
theorem vY_q:type_of% @vY.eq_1:=@vY.eq_1
theorem freeze_q:type_of% @freeze.eq_1:=@freeze.eq_1
theorem Gj_q:type_of% @Gj.eq_1:=@Gj.eq_1
theorem mX_q:type_of% @mX.eq_1:=@mX.eq_1
theorem O0_q:type_of% @O0.eq_1:=@O0.eq_1
theorem fS_q:type_of% @fS.eq_1:=@fS.eq_1
theorem aE_q:type_of% @aE.eq_1:=@aE.eq_1
theorem eC_q:type_of% @eC.eq_1:=@eC.eq_1
theorem aA_q:type_of% @aA.eq_1:=@aA.eq_1
theorem aG_q:type_of% @aG.eq_1:=@aG.eq_1
theorem aQ_q:type_of% @aQ.eq_1:=@aQ.eq_1
theorem aV_q:type_of% @aV.eq_1:=@aV.eq_1
theorem qZ_q:type_of% @qZ.eq_1:=@qZ.eq_1
theorem Et_q:type_of% @Et.eq_1:=@Et.eq_1
theorem lC_q:type_of% @lC.eq_1:=@lC.eq_1
theorem oP_q:type_of% @oP.eq_1:=@oP.eq_1
theorem La_q:type_of% @La.eq_1:=@La.eq_1
theorem yP_q:type_of% @yP.eq_1:=@yP.eq_1
theorem VX_q:type_of% @VX.eq_1:=@VX.eq_1
theorem bY_q:type_of% @bY.eq_1:=@bY.eq_1
theorem dU_q:type_of% @dU.eq_1:=@dU.eq_1
theorem Sn_q:type_of% @Sn.eq_1:=@Sn.eq_1
theorem jM_q:type_of% @jM.eq_1:=@jM.eq_1
theorem aU_q:type_of% @aU.eq_1:=@aU.eq_1
theorem back_q:type_of% @back.eq_1:=@back.eq_1
theorem gD_q:type_of% @gD.eq_1:=@gD.eq_1
theorem v8_q:type_of% @v8.eq_1:=@v8.eq_1
theorem eJ_q:type_of% @eJ.eq_1:=@eJ.eq_1
theorem eP_q:type_of% @eP.eq_1:=@eP.eq_1
theorem OT_q:type_of% @OT.eq_1:=@OT.eq_1
theorem vU_q:type_of% @vU.eq_1:=@vU.eq_1
theorem lI_q:type_of% @lI.eq_1:=@lI.eq_1
theorem kY_q:type_of% @kY.eq_1:=@kY.eq_1
theorem eR_q:type_of% @eR.eq_1:=@eR.eq_1
theorem gX_q:type_of% @gX.eq_1:=@gX.eq_1
theorem gN_q:type_of% @gN.eq_1:=@gN.eq_1
theorem gT_q:type_of% @gT.eq_1:=@gT.eq_1
theorem aN_q:type_of% @aN.eq_1:=@aN.eq_1
theorem sK_q:type_of% @sK.eq_1:=@sK.eq_1
theorem fT_q:type_of% @fT.eq_1:=@fT.eq_1
end _Z
local macro_rules | `(tactic| push_cast [$xs,*])=>do
 let f (g:Lean.Ident->Lean.MacroM (Lean.TSyntax `Lean.Parser.Tactic.simpLemma)) (s:String):=(s.splitOn " ").toArray.mapM λn=>g (Lean.mkIdent n.toName)
 let a<-f (λn=>`(Lean.Parser.Tactic.simpLemma| ↓$n:term)) "R3_q mW_q J5_q CP_q Jt Sm_q FZ Gi_q xN_q DQ_q RM_q fU_q Ld_q jV_q CM RO_q Cw Ct Cv GG_q BY_q AY_q Sq_q So_q aP_q bH_q J6_q FJ_q hW_q AD_q c8_q O1_q gM_q c6_q fR_q vY_q freeze_q Gj_q mX_q O0_q fS_q aE_q eC_q aA_q aG_q aQ_q aV_q qZ_q Et_q lC_q oP_q La_q yP_q VX_q bY_q dU_q Sn_q jM_q aU_q back_q gD_q v8_q eJ_q eP_q OT_q vU_q lI_q kY_q eR_q gX_q gN_q gT_q aN_q sK_q Fw FY Fi Ft Cy Fj Cr Fa Fv Fu Fh Jy Ju Fb Jw Fc Jz Jm K0 Jn Fo Fd Fs Fg Fp Fe Fq Ff OC OA OB O7 O6 O5 Js Jq Jr K3 Jo Jp Cq Cp Fm Fk K2 Jk d7 iA fT_q reduceIte Gh AE J2 Az lH Tu xM Nj"
 let b<-f (λn=>`(Lean.Parser.Tactic.simpLemma| $n:term)) "TU TW TV TF TJ TH TN TR TQ TK TM TL LX b6 b7 L9 GC OJ OM OL OH OG OK OI Il Ih Ik Ii Ie Ij Ig Lx Ob Oa OZ OY L4 L3 L1 L0 Kz Ky Kx Kw Kv Ku Kt Ks Kr Kq Kp beq_self_eq_true mw Wd zn XG ef qe WV nj fy dg xb kq Xg WR a03 getD_some ZH fv if_true de if_false true_and and_true true_or decide_eq_true_eq decide_true decide_false ki uq gg false_imp_iff implies_true nY Nat.reduceSub Nat.reduceAdd Int.reduceEq Int.reduceMul Int.reduceAdd Int.reduceSub Int.reduceNeg _Z.guard Int.reduceLT Int.reduceLE Int.reduceToNat Int.reducePow Nat.reduceLT Nat.reduceLeDiff Nat.reducePow zZ"
 `(tactic| simp only[$a,*,$b,*,$xs,*])
local macro_rules | `(tactic| ac_nf)=>`(tactic| push_cast [if_true])
namespace _W
open _L _Z
theorem gq:_Z.guard [] ρ:=λp hp=>by simp at hp
theorem sq{t u:c7}{E:En}{ρ:List Sl}(g:∀U,U=u->t { E with nx:=U E } ρ):aP t u E ρ:=g u rfl
theorem uP(c:Nat):((c:Int)+1)=((c+1:Nat):Int):=rfl
abbrev Ln(sp:Fn)(n:Nat):Prop:=∀ds Q,sp ds Q->ds.length=n
variable (P:bj)(w:df)(mg:bq->Option ah)(base:eh)
noncomputable abbrev q0a:List PySem.Str:=["direction"]
noncomputable abbrev q0b:List PySem.Str:=["self"]
noncomputable abbrev q0c:List PySem.Str:=["a","b","c","some"]
noncomputable abbrev q0d:List PySem.Str:=["sides"]
noncomputable abbrev q0e:List PySem.Str:=["self","band"]
noncomputable abbrev q0f:List PySem.Str:=["below","band"]
noncomputable abbrev q0g:List PySem.Str:=["sides","ups","three"]
noncomputable abbrev q0h:List PySem.Str:=["thing"]
noncomputable abbrev q0i:List PySem.Str:=["direction","ahead"]
noncomputable abbrev q0j:List PySem.Str:=["sides","four"]
noncomputable abbrev q0k:List PySem.Str:=["sides","ups","z","x","y"]
noncomputable abbrev q0l:List PySem.Str:=["_law_found"]
noncomputable abbrev q0m:List PySem.Str:=["_law_below","_law_band"]
noncomputable abbrev q0n:List PySem.Str:=["_law_z"]
noncomputable abbrev q0o:List PySem.Str:=["below","three"]
noncomputable abbrev q0p:List PySem.Str:=["self","directions"]
noncomputable abbrev q0q:List PySem.Str:=["sides","ups"]
noncomputable abbrev q0r:List PySem.Str:=["sides","most"]
noncomputable abbrev q0s:List PySem.Str:=["_law_sides","_law_most"]
noncomputable abbrev q0t:List PySem.Str:=["sides","ups","four"]
noncomputable abbrev q0u:List PySem.Str:=["sides","some"]
noncomputable abbrev q0v:List PySem.Str:=["sides","floor"]
noncomputable abbrev q0w:List PySem.Str:=["sides","floor","three"]
noncomputable abbrev q0x:List PySem.Str:=["_law_script","_law_k"]
noncomputable abbrev q0y:List PySem.Str:=["_law_counts_here","_law_cell"]
noncomputable abbrev q0z:List PySem.Str:=["_law_counts_here"]
noncomputable abbrev q1a:List PySem.Str:=["_law_kinds_here"]
noncomputable abbrev q1b:List PySem.Str:=["_law_many","_law_rest"]
noncomputable abbrev q1c:List PySem.Str:=["_law_floor","_law_kinds_here"]
noncomputable abbrev q1d:List PySem.Str:=["_law_kinds_here","_law_least","_law_most"]
noncomputable abbrev q1e:List PySem.Str:=["_law_counts_here","_law_many"]
noncomputable abbrev q1f:List PySem.Str:=["_law_sides","_law_counts_here","_law_due","_law_most"]
noncomputable abbrev q1g:List PySem.Str:=["_law_script","_law_counts_here","_law_kinds_here","_law_sides","_law_cell","_law_limit","_law_most","_law_due"]
noncomputable abbrev q1h:List PySem.Str:=["_law_script"]
noncomputable abbrev q1i:List PySem.Str:=["floor","told","a","b","below"]
noncomputable abbrev q1j:List PySem.Str:=["many","told","i","j","k","l"]
noncomputable abbrev q1k:List PySem.Str:=["below","three","a","b","c","tiles"]
noncomputable abbrev q1l:List PySem.Str:=["directions","direction","ahead"]
noncomputable abbrev q1m:List PySem.Str:=["self","directions","kinds","number","direction"]
noncomputable abbrev q1n:List PySem.Str:=["sides","ups","four","within","stand","changes"]
noncomputable abbrev q1o:List PySem.Str:=["self","found","a","b"]
noncomputable abbrev q1p:List PySem.Str:=["sides","told","a","b","c"]
noncomputable abbrev q1q:List PySem.Str:=["sides","ups","known","three","four"]
noncomputable abbrev q1r:List PySem.Str:=["sides","some","ups","three","told","x","y","below"]
noncomputable abbrev q1s:List PySem.Str:=["sides","floor","below"]
noncomputable abbrev q1t:List PySem.Str:=["sides","floor","three","tiles","others"]
noncomputable abbrev q1u:List PySem.Str:=["sides","most","found","seen","waiting","floor","three"]
noncomputable abbrev q1v:List PySem.Str:=["_law_script","_law_k","_law_cell","_law_deep_here","_law_j"]
noncomputable abbrev q1w:List PySem.Str:=["_law_counts_here","_law_cell","_law_a","_law_s","_law_t"]
noncomputable abbrev q1x:List PySem.Str:=["_law_counts_here","_law_kinds_here","_law_k"]
noncomputable abbrev q1y:List PySem.Str:=["_law_kinds_here","_law_tiles","_law_x","_law_y","_law_between","_law_beyond"]
noncomputable abbrev q1z:List PySem.Str:=["_law_e","_law_hits"]
noncomputable abbrev q2a:List PySem.Str:=["_law_many","_law_rest","_law_counts_here","_law_left","_law_k","_law_extra"]
noncomputable abbrev q2b:List PySem.Str:=["_law_cell","_law_branch","_law_rest"]
noncomputable abbrev q2c:List PySem.Str:=["_law_floor","_law_kinds_here","_law_belows","_law_a","_law_b","_law_below","_law_found","_law_c","_law_least","_law_high","_law_last","_law_new"]
noncomputable abbrev q2d:List PySem.Str:=["_law_kinds_here","_law_least","_law_most","_law_waiting","_law_seen","_law_k","_law_floor"]
noncomputable abbrev q2e:List PySem.Str:=["_law_sides","_law_most","_law_e"]
noncomputable abbrev q2f:List PySem.Str:=["_law_told","_law_floor","_law_tile"]
noncomputable abbrev q2g:List PySem.Str:=["_law_counts_here","_law_many","_law_over","_law_under","_law_i","_law_j","_law_k"]
noncomputable abbrev q2h:List PySem.Str:=["_law_sides","_law_counts_here","_law_due","_law_most","_law_told"]
noncomputable abbrev q2i:List PySem.Str:=["_law_z","_law_kinds_here","_law_y"]
abbrev oY:c7:=
 (c8 (gD gK (aA (gD n6 (aA (aQ kU (aE 0) (bY (aA (aE 1) aG))) aG)) aG)))
variable {cK bT bK bR dA c9 eW bO bV:Fn}{aS:af}
section
local macro_rules | `(tactic| norm_cast)=>`(tactic| exact⟨rfl,rfl,rfl,by decide +kernel,rfl,by decide +kernel,by decide +kernel⟩)
theorem Bl(m:At K mg "with_band" "with_band" (top 14) q0f)(cX:mg "sorted"=ao)(bU:mg "tuple"=ao)(len:Ln sp 2)(hsp:∀ds Q,sp ds Q->oY  ↥Q (aN q0f ds)):Def P w K mg base 1 "with_band" q0f (low K sp):=by
 have sc:FnScope q0f q0f (aM (top 14)):=by norm_cast
 refine m.okP (k:=0) (t:=oY ) sc (λf cdv A outer s H E hr=>?_) len hsp
 ·
  exact(aJ (bJ (eU fX rfl bU lv (aB (bN yW rfl cX vw (aB (bA tS (aD 0 (pv 0)) (cH (aB (aD 1 (pv 1)) aF))) aF)) aF))))
abbrev sT:c7:=
 (mW 1 (bY (aA (aE 2) (aA (aE 3) aG))) (aE 4))
abbrev xF:c7:=
 (aP (fR 1 R3)
 (aP (fS (kY (aE 0)) (gT [2,3,4]) sT)
 (c8 (aE 1))))
theorem IA(m:At K mg "belows" "belows" (top 15) ["floor"])(len:Ln sp 1)(hsp:∀ds Q,sp ds Q->xF  ↥Q (aN q1i ds)):Def P w K mg base 1 "belows" ["floor"] (low K sp):=by
 have sc:FnScope q1i ["floor"] (aM (top 15)):=by norm_cast
 refine m.okP (k:=0) (t:=xF ) sc (λf cdv A outer s H E hr=>?_) len hsp
 ·
  have hu1:=fN hr;exact(aI (fJ (i:=1) sc.nd rfl (.inl rfl) B7)
 (aI (dY bu rfl (fK (aD 0 (pv 0))) (CW (k:=5) (is:=[2,3,4]) rfl (d6 (dO (i:=2) sc.nd rfl (.inl rfl)) (d6 (dO (i:=3) sc.nd rfl (.inl rfl)) (d6 (dO (i:=4) sc.nd rfl (.inl rfl)) lF)))) (aJ (tD hu1 (i:=1) (pv 1) (cH (aB (aD 2 (pv 2)) (aB (aD 3 (pv 3)) aF))) (aD 4 (pv 4)))))
 (aJ (bJ (aD 1 (pv 1))))))
abbrev vE:c7:=
 (mX 1 (bY (aA (aE 2) (aA (aE 3) (aA (aE 4) (aA (aE 5) aG))))))
abbrev qS:c7:=
 (fS (gX (aA (aQ dJ (aE 4) (eC (.int 1))) (aA (aE 0) aG))) (gN 5) vE)
abbrev qR:c7:=
 (fS (gX (aA (aQ dJ (aE 3) (eC (.int 1))) (aA (aE 0) aG))) (gN 4) qS)
abbrev qQ:c7:=
 (fS (gX (aA (aQ dJ (aE 2) (eC (.int 1))) (aA (aE 0) aG))) (gN 3) qR)
abbrev As:c7:=
 (aP (fR 1 (dU aG))
 (aP (fS (eR (aA (aE 0) aG)) (gN 2) qQ)
 (c8 (aE 1))))
theorem Lh(m:At K mg "fours" "fours" (top 19) ["many"])(b4:mg "range"=ao)(len:Ln sp 1)(hsp:∀ds Q,sp ds Q->As  ↥Q (aN q1j ds)):Def P w K mg base 1 "fours" ["many"] (low K sp):=by
 have sc:FnScope q1j ["many"] (aM (top 19)):=by norm_cast
 refine m.okP (k:=0) (t:=As ) sc (λf cdv A outer s H E hr=>?_) len hsp
 ·
  exact(aI (fJ (i:=1) sc.nd rfl (.inl rfl) (cO aF))
 (aI (dY bu rfl (eD rfl b4 (aB (aD 0 (pv 0)) aF)) (f8 (i:=2) (k:=6) sc.nd rfl (.inl rfl)) (aJ (dY bu rfl (g7 rfl b4 (aB (bA bC (aD 2 (pv 2)) aH) (aB (aD 0 (pv 0)) aF))) (f8 (i:=3) (k:=6) sc.nd rfl (.inl rfl)) (aJ (dY bu rfl (g7 rfl b4 (aB (bA bC (aD 3 (pv 3)) aH) (aB (aD 0 (pv 0)) aF))) (f8 (i:=4) (k:=6) sc.nd rfl (.inl rfl)) (aJ (dY bu rfl (g7 rfl b4 (aB (bA bC (aD 4 (pv 4)) aH) (aB (aD 0 (pv 0)) aF))) (f8 (i:=5) (k:=6) sc.nd rfl (.inl rfl)) (aJ (rE (i:=1) (pv 1) (cH (aB (aD 2 (pv 2)) (aB (aD 3 (pv 3)) (aB (aD 4 (pv 4)) (aB (aD 5 (pv 5)) aF))))))))))))))
 (aJ (bJ (aD 1 (pv 1))))))
abbrev lS(cK:Fn):c7:=
 (c8 (dU (aA (bY (aA (aE 0) (aA (aE 1) (aA (aE 3) aG)))) (aA (bY (aA (aE 0) (aA (aE 2) (aA (aU cK (aA (aE 3) (aA (aE 1) aG))) aG)))) (aA (bY (aA (aE 1) (aA (aE 2) (aA (aE 3) aG)))) aG)))))
theorem yQ(m:At K mg "standing_up" "standing_up" (top 26) q0c)(fV:Def P w K mg base 1 "with_band" q0f (low K cK))(kG:MonoF cK)(len:Ln sp 4)(hsp:∀ds Q,sp ds Q->lS cK ↥Q (aN q0c ds)):Def P w K mg base 2 "standing_up" q0c (low K sp):=by
 have sc:FnScope q0c q0c (aM (top 26)):=by norm_cast
 refine m.okP (k:=1) (t:=lS cK) sc (λf cdv A outer s H E hr=>?_) len hsp
 ·
  exact(aJ (bJ (cO (aB (cH (aB (aD 0 (pv 0)) (aB (aD 1 (pv 1)) (aB (aD 3 (pv 3)) aF)))) (aB (cH (aB (aD 0 (pv 0)) (aB (aD 2 (pv 2)) (aB (aW fV kG (hr.mono ∅) (aB (aD 3 (pv 3)) (aB (aD 1 (pv 1)) aF))) aF)))) (aB (cH (aB (aD 1 (pv 1)) (aB (aD 2 (pv 2)) (aB (aD 3 (pv 3)) aF)))) aF))))))
abbrev jU(cK:Fn):c7:=
 (c8 (dU (aA (bY (aA (aE 0) (aA (aE 1) (aA (aU cK (aA (aE 3) (aA (aE 2) aG))) aG)))) (aA (bY (aA (aE 0) (aA (aE 2) (aA (aE 3) aG)))) (aA (bY (aA (aE 1) (aA (aE 2) (aA (aU cK (aA (aE 3) (aA (aE 0) aG))) aG)))) aG)))))
theorem vA(m:At K mg "standing_down" "standing_down" (top 27) q0c)(fV:Def P w K mg base 1 "with_band" q0f (low K cK))(kG:MonoF cK)(len:Ln sp 4)(hsp:∀ds Q,sp ds Q->jU cK ↥Q (aN q0c ds)):Def P w K mg base 2 "standing_down" q0c (low K sp):=by
 have sc:FnScope q0c q0c (aM (top 27)):=by norm_cast
 refine m.okP (k:=1) (t:=jU cK) sc (λf cdv A outer s H E hr=>?_) len hsp
 ·
  exact(aJ (bJ (cO (aB (cH (aB (aD 0 (pv 0)) (aB (aD 1 (pv 1)) (aB (aW fV kG (hr.mono ∅) (aB (aD 3 (pv 3)) (aB (aD 2 (pv 2)) aF))) aF)))) (aB (cH (aB (aD 0 (pv 0)) (aB (aD 2 (pv 2)) (aB (aD 3 (pv 3)) aF)))) (aB (cH (aB (aD 1 (pv 1)) (aB (aD 2 (pv 2)) (aB (aW fV kG (hr.mono ∅) (aB (aD 3 (pv 3)) (aB (aD 0 (pv 0)) aF))) aF)))) aF))))))
abbrev jT(eN dL:Fn):c7:=
 (aP (c6 2 (aQ cW (aE 1) (eC (.int 0))))
 (aP (c6 3 (aQ cW (aE 1) (eC (.int 1))))
 (aP (c6 4 (aQ cW (aE 1) (eC (.int 2))))
 (aP (c6 5 (dU (aA (bY (aA (aE 2) (aA (aE 3) (aA (aQ cW (aE 0) (bY (aA (aE 2) (aA (aE 3) aG)))) aG)))) (aA (bY (aA (aE 2) (aA (aE 4) (aA (aQ cW (aE 0) (bY (aA (aE 2) (aA (aE 4) aG)))) aG)))) (aA (bY (aA (aE 3) (aA (aE 4) (aA (aQ cW (aE 0) (bY (aA (aE 3) (aA (aE 4) aG)))) aG)))) aG)))))
 (aP (gM (aV (aQ lB (aE 5) (aU eN (aA (aE 2) (aA (aE 3) (aA (aE 4) (aA (aQ cW (aE 0) (bY (aA (aE 2) (aA (aE 3) aG)))) aG))))))) (c8 (aU dL (aA (aE 2) (aA (aE 3) (aA (aE 4) (aA (aQ cW (aE 0) (bY (aA (aE 2) (aA (aE 3) aG)))) aG)))))) bH)
 (aP (gM (aV (aQ lB (aE 5) (aU dL (aA (aE 2) (aA (aE 3) (aA (aE 4) (aA (aQ cW (aE 0) (bY (aA (aE 2) (aA (aE 4) aG)))) aG))))))) (c8 (aU eN (aA (aE 2) (aA (aE 3) (aA (aE 4) (aA (aQ cW (aE 0) (bY (aA (aE 2) (aA (aE 4) aG)))) aG)))))) bH)
 (c8 (eC .non))))))))
theorem v9{eN dL:Fn}(m:At K mg "tiles_by_flip" "tiles_by_flip" (top 28) q0o)(jE:Def P w K mg base 2 "standing_up" q0c (low K eN))(pQ:MonoF eN)(gY:Def P w K mg base 2 "standing_down" q0c (low K dL))(n8:MonoF dL)(len:Ln sp 2)(hsp:∀ds Q,sp ds Q->jT eN dL ↥Q (aN q1k ds)):Def P w K mg base 3 "tiles_by_flip" q0o (low K sp):=by
 have sc:FnScope q1k q0o (aM (top 28)):=by norm_cast
 refine m.okP (k:=2) (t:=jT eN dL) sc (λf cdv A outer s H E hr=>?_) len hsp
 ·
  have hu:=hr.units;have hu1:=fN hr;exact(aI (cI (i:=2) sc.nd rfl (.inl rfl) (cF hu1 (aD 1 (pv 1)) aH))
 (aI (cI (i:=3) sc.nd rfl (.inl rfl) (cF hu1 (aD 1 (pv 1)) aH))
 (aI (cI (i:=4) sc.nd rfl (.inl rfl) (cF hu1 (aD 1 (pv 1)) aH))
 (aI (cI (i:=5) sc.nd rfl (.inl rfl) (cO (aB (cH (aB (aD 2 (pv 2)) (aB (aD 3 (pv 3)) (aB (cF hu1 (aD 0 (pv 0)) (cH (aB (aD 2 (pv 2)) (aB (aD 3 (pv 3)) aF)))) aF)))) (aB (cH (aB (aD 2 (pv 2)) (aB (aD 4 (pv 4)) (aB (cF hu1 (aD 0 (pv 0)) (cH (aB (aD 2 (pv 2)) (aB (aD 4 (pv 4)) aF)))) aF)))) (aB (cH (aB (aD 3 (pv 3)) (aB (aD 4 (pv 4)) (aB (cF hu1 (aD 0 (pv 0)) (cH (aB (aD 3 (pv 3)) (aB (aD 4 (pv 4)) aF)))) aF)))) aF)))))
 (aI (dX (b9 (dC hu) (aD 5 (pv 5)) (aW jE pQ (hr.mono ∅) (aB (aD 2 (pv 2)) (aB (aD 3 (pv 3)) (aB (aD 4 (pv 4)) (aB (cF hu1 (aD 0 (pv 0)) (cH (aB (aD 2 (pv 2)) (aB (aD 3 (pv 3)) aF)))) aF)))))) (aJ (bJ (aW gY n8 (hr.mono ∅) (aB (aD 2 (pv 2)) (aB (aD 3 (pv 3)) (aB (aD 4 (pv 4)) (aB (cF hu1 (aD 0 (pv 0)) (cH (aB (aD 2 (pv 2)) (aB (aD 3 (pv 3)) aF)))) aF))))))) bF)
 (aI (dX (b9 (dC hu) (aD 5 (pv 5)) (aW gY n8 (hr.mono ∅) (aB (aD 2 (pv 2)) (aB (aD 3 (pv 3)) (aB (aD 4 (pv 4)) (aB (cF hu1 (aD 0 (pv 0)) (cH (aB (aD 2 (pv 2)) (aB (aD 4 (pv 4)) aF)))) aF)))))) (aJ (bJ (aW jE pQ (hr.mono ∅) (aB (aD 2 (pv 2)) (aB (aD 3 (pv 3)) (aB (aD 4 (pv 4)) (aB (cF hu1 (aD 0 (pv 0)) (cH (aB (aD 2 (pv 2)) (aB (aD 4 (pv 4)) aF)))) aF))))))) bF)
 (aJ (bJ JF))))))))
abbrev rO:c7:=
 (c8 (oP (v8 "int" (aE 0)) (yP (v8 "bool" (aE 0)))))
theorem DT(m:At K mg "is_whole" "is_whole" (top 35) q0h)(aO:mg "isinstance"=ao)(A6:mg "int"=ao)(uG:mg "bool"=ao)(len:Ln sp 1)(hsp:∀ds Q,sp ds Q->rO  ↥Q (aN q0h ds)):Def P w K mg base 1 "is_whole" q0h (low K sp):=by
 have sc:FnScope q0h q0h (aM (top 35)):=by norm_cast
 refine m.okP (k:=0) (t:=rO ) sc (λf cdv A outer s H E hr=>?_) len hsp
 ·
  exact(aJ (bJ (vO (rC (.inl rfl) rfl aO (aD 0 (pv 0)) (iN (v:=.ty "int") rfl A6 boot_int rfl)) (rB (FL (rC (.inr (.inl rfl)) rfl aO (aD 0 (pv 0)) (iN (v:=.ty "bool") rfl uG boot_bool rfl)))))))
abbrev hU(jB:Fn):c7:=
 (aP (gM (Et (lC (jM (v8 "tuple" (aE 0)))) (aV (aQ BE (gD fO (aA (aE 0) aG)) (eC (.int 3))))) (c8 (eC (.bl am))) bH)
 (c8 (gD HG (aA (eJ 1 [] (kY (aE 0)) (gN 0) eP (aU jB (aA (aE 0) aG))) aG))))
theorem r6{jB:Fn}(m:At K mg "has_three_wholes" "has_three_wholes" (top 41) q0a)(aO:mg "isinstance"=ao)(bU:mg "tuple"=ao)(bZ:mg "len"=ao)(A7:mg "all"=ao)(sP:Def P w K mg base 1 "is_whole" q0h (low K jB))(D5:MonoF jB)(len:Ln sp 1)(hsp:∀ds Q,sp ds Q->hU jB ↥Q (aN q0a ds)):Def P w K mg base 2 "has_three_wholes" q0a (low K sp):=by
 have sc:FnScope q0a q0a (aM (top 41)):=by norm_cast
 refine m.okP (k:=1) (t:=hU jB) sc (λf cdv A outer s H E hr=>?_) len hsp
 ·
  have hu:=hr.units;exact(aI (dX (QW.qt (tB (fI (eT (rC (.inr (.inr (.inl rfl))) rfl aO (aD 0 (pv 0)) (iN (v:=.ty "tuple") rfl bU lv rfl)))) (uU (b9 (rY hu) (bN dZ rfl bZ ji (aB (aD 0 (pv 0)) aF)) aH)))) (aJ (bJ pH)) bF)
 (aJ (bJ (bN (Lo rfl) rfl A7 boot_all (aB (B6 ["part"] [] [] rfl (fK (aD 0 (pv 0))) (λfp s H=>(f8 (i:=0) (k:=1) (show jr (["part"]:List bq) by decide +kernel) rfl (.inl rfl))) (λfp s H=>kC) (λfp s H=>(aW sP D5 (hr.mono ∅) (aB (aD 0 (pv 0)) aF)))) aF)))))
abbrev iK:c7:=
 (c8 (oP (aQ Mr (gD HI (aA (aQ cW (aE 0) (eC (.int 0))) aG)) (eC (.int 999999999999))) (aQ Mr (gD HI (aA (aQ cW (aE 0) (eC (.int 1))) aG)) (eC (.int 999999999999)))))
theorem sM(m:At K mg "has_few_figures" "has_few_figures" (top 42) q0a)(FB:mg "abs"=ao)(iI:∃t,mg "LARGEST_PART"=ae (.int 999999999999 t))(len:Ln sp 1)(hsp:∀ds Q,sp ds Q->iK  ↥Q (aN q0a ds)):Def P w K mg base 1 "has_few_figures" q0a (low K sp):=by
 have sc:FnScope q0a q0a (aM (top 42)):=by norm_cast
 refine m.okP (k:=0) (t:=iK ) sc (λf cdv A outer s H E hr=>?_) len hsp
 ·
  have hu1:=fN hr;exact(aJ (bJ (vO (lE BF (bN Lp rfl FB boot_abs (aB (cF hu1 (aD 0 (pv 0)) aH) aF)) (tE iI)) (rB (lE BF (bN Lp rfl FB boot_abs (aB (cF hu1 (aD 0 (pv 0)) aH) aF)) (tE iI))))))
abbrev oZ:c7:=
 (c8 (La (aQ EJ (aQ cW (aE 0) (eC (.int 1))) (eC (.int 0))) (oP (aQ lB (aQ cW (aE 0) (eC (.int 1))) (eC (.int 0))) (aQ EJ (aQ cW (aE 0) (eC (.int 0))) (eC (.int 0))))))
theorem Bm(m:At K mg "points_up" "points_up" (top 43) q0a)(len:Ln sp 1)(hsp:∀ds Q,sp ds Q->oZ  ↥Q (aN q0a ds)):Def P w K mg base 1 "points_up" q0a (low K sp):=by
 have sc:FnScope q0a q0a (aM (top 43)):=by norm_cast
 refine m.okP (k:=0) (t:=oZ ) sc (λf cdv A outer s H E hr=>?_) len hsp
 ·
  have hu:=hr.units;have hu1:=fN hr;exact(aJ (bJ (Rg (lE kW (cF hu1 (aD 0 (pv 0)) aH) aH) (rB (vO (lE (dC hu) (cF hu1 (aD 0 (pv 0)) aH) aH) (rB (lE kW (cF hu1 (aD 0 (pv 0)) aH) aH)))))))
abbrev p6:c7:=
 (c8 (aQ EJ (aQ tN (aQ j5 (aQ cW (aE 1) (eC (.int 0))) (aQ cW (aE 0) (eC (.int 1)))) (aQ j5 (aQ cW (aE 0) (eC (.int 0))) (aQ cW (aE 1) (eC (.int 1))))) (eC (.int 0))))
theorem Bn(m:At K mg "lies_left" "lies_left" (top 44) q0i)(len:Ln sp 2)(hsp:∀ds Q,sp ds Q->p6  ↥Q (aN q0i ds)):Def P w K mg base 1 "lies_left" q0i (low K sp):=by
 have sc:FnScope q0i q0i (aM (top 44)):=by norm_cast
 refine m.okP (k:=0) (t:=p6 ) sc (λf cdv A outer s H E hr=>?_) len hsp
 ·
  have hu1:=fN hr;exact(aJ (bJ (lE kW (bA tQ (bA eG (cF hu1 (aD 1 (pv 1)) aH) (cF hu1 (aD 0 (pv 0)) aH)) (bA eG (cF hu1 (aD 0 (pv 0)) aH) (cF hu1 (aD 1 (pv 1)) aH))) aH)))
abbrev iL(d9 dI iB:Fn):c7:=
 (aP (gM (lC (jM (aU d9 (aA (aE 0) aG)))) hW bH)
 (aP (gM (lC (jM (aU dI (aA (aE 0) aG)))) hW bH)
 (aP (gM (lC (jM (aU iB (aA (aE 0) aG)))) hW bH)
 (gM (aV (aQ HD (aQ cW (aE 0) (eC (.int 2))) (eC (.int 1)))) hW bH))))
theorem sN{d9 dI iB:Fn}(m:At K mg "check_direction" "check_direction" (top 45) q0a)(hX:Def P w K mg base 2 "has_three_wholes" q0a (low K d9))(qV:MonoF d9)(iT:Def P w K mg base 1 "has_few_figures" q0a (low K dI))(sC:MonoF dI)(pY:Def P w K mg base 1 "points_up" q0a (low K iB))(BJ:MonoF iB)(len:Ln sp 1)(hsp:∀ds Q,sp ds Q->iL d9 dI iB ↥Q (aN q0a ds)):Def P w K mg base 3 "check_direction" q0a (low K sp):=by
 have sc:FnScope q0a q0a (aM (top 45)):=by norm_cast
 refine m.okP (k:=2) (t:=iL d9 dI iB) sc (λf cdv A outer s H E hr=>?_) len hsp
 ·
  have hu1:=fN hr;exact(aI (dX (fI (eT (aW hX qV (hr.mono ∅) (aB (aD 0 (pv 0)) aF)))) (aJ gU) bF)
 (aI (dX (fI (eT (aW iT sC (hr.mono ∅) (aB (aD 0 (pv 0)) aF)))) (aJ gU) bF)
 (aI (dX (fI (eT (aW pY BJ (hr.mono ∅) (aB (aD 0 (pv 0)) aF)))) (aJ gU) bF)
 (aJ (dX (b9 rZ (cF hu1 (aD 0 (pv 0)) aH) aH) (aJ gU) bF)))))
abbrev jO(bX dP:Fn):c7:=
 (AD (aU bX (aA (aE 1) aG)))
abbrev g4(bX dP:Fn):c7:=
 (gM (lC (jM (aU dP (aA (aE 1) (aA (aE 2) aG))))) hW bH)
abbrev hV(bX dP:Fn):c7:=
 (aP (gM (lC (jM (v8 "list" (aE 0)))) hW bH)
 (aP (gM (lC (aV (sK Mr Mr (eC (.int 2)) (gD fO (aA (aE 0) aG)) (eC (.int 6))))) hW bH)
 (aP (fS (kY (aE 0)) (gN 1) (jO bX dP))
 (aP (gM (aV (aQ EJ (gD EH (aA (eJ 1 [] (kY (aE 0)) (gN 0) eP (aQ cW (aE 0) (eC (.int 2)))) aG)) (eC (.int 12)))) hW bH)
 (fS (AY (aA (aE 0) (aA (OT (aE 0) (vU (eC (.int 1))) lI) aG))) (gT [2,1]) (g4 bX dP))))))
theorem r8{bX dP:Fn}(m:At K mg "check_directions" "check_directions" (top 46) ["directions"])(aO:mg "isinstance"=ao)(rL:mg "list"=ao)(bZ:mg "len"=ao)(A5:mg "sum"=ao)(A4:mg "zip"=ao)(gJ:∃t,mg "FEWEST_DIRECTIONS"=ae (.int 2 t))(iH:∃t,mg "MOST_DIRECTIONS"=ae (.int 6 t))(nN:∃t,mg "MOST_BANDS"=ae (.int 12 t))(iU:Def P w K mg base 3 "check_direction" q0a (low K bX))(sD:MonoF bX)(pZ:Def P w K mg base 1 "lies_left" q0i (low K dP))(BK:MonoF dP)(len:Ln sp 1)(hsp:∀ds Q,sp ds Q->hV bX dP ↥Q (aN q1l ds)):Def P w K mg base 4 "check_directions" ["directions"] (low K sp):=by
 have sc:FnScope q1l ["directions"] (aM (top 46)):=by norm_cast
 refine m.okP (k:=3) (t:=hV bX dP) sc (λf cdv A outer s H E hr=>?_) len hsp
 ·
  have hu1:=fN hr;exact(aI (dX (fI (eT (rC (.inr (.inr (.inr (.inl rfl)))) rfl aO (aD 0 (pv 0)) (iN (v:=.ty "list") rfl rL ZU rfl)))) (aJ gU) bF)
 (aI (dX (fI (JC KA KA (tE gJ) (bN dZ rfl bZ ji (aB (aD 0 (pv 0)) aF)) (tE iH))) (aJ gU) bF)
 (aI (dY bu rfl (fK (aD 0 (pv 0))) (f8 (i:=1) (k:=3) sc.nd rfl (.inl rfl)) (aJ (E8 (aW iU sD (hr.mono ∅) (aB (aD 1 (pv 1)) aF)))))
 (aI (dX (b9 kW (bN (Lm rfl) rfl A5 boot_sum (aB (B6 q0a [] [] rfl (fK (aD 0 (pv 0))) (λfp s H=>(f8 (i:=0) (k:=1) (show jr (q0a:List bq) by decide +kernel) rfl (.inl rfl))) (λfp s H=>kC) (λfp s H=>(cF hu1 (aD 0 (pv 0)) aH))) aF)) (tE nN)) (aJ gU) bF)
 (aJ (dY bu rfl (JG rfl A4 (aB (aD 0 (pv 0)) (aB (B5 (aD 0 (pv 0)) (B3 aH) B4) aF))) (CW (k:=3) (is:=[2,1]) rfl (d6 (dO (i:=2) sc.nd rfl (.inl rfl)) (d6 (dO (i:=1) sc.nd rfl (.inl rfl)) lF))) (aJ (dX (fI (eT (aW pZ BK (hr.mono ∅) (aB (aD 1 (pv 1)) (aB (aD 2 (pv 2)) aF))))) (aJ gU) bF))))))))
abbrev uC(C:af)(cE:Fn):c7:=
 (Gi 2 (aQ j5 (dU (aA (aE 3) aG)) (aQ cW (aE 4) (eC (.int 2)))))
abbrev Dw(C:af)(cE:Fn):c7:=
 (aP (AD (aU cE (aA (aE 1) aG)))
 (aP (fR 2 (dU aG))
 (aP (fS (BY (aA (aE 1) aG)) (gT [3,4]) (uC C cE))
 (aP (xN C 0 "kinds" (gD gK (aA (aE 2) aG)))
 (xN C 0 "vectors" (gD gK (aA (eJ 1 [] (kY (aE 1)) (gN 0) eP (bY (aA (aQ cW (aE 0) (eC (.int 0))) (aA (aQ cW (aE 0) (eC (.int 1))) aG)))) aG)))))))
theorem Nm{cE:Fn}(m:IAt K mg "Sides" C "Sides.__init__" (gB (top 47) 0) q0p)(oU:mg "enumerate"=ao)(bU:mg "tuple"=ao)(cl:Cls K C)(kF:kA K C "kinds")(uY:kA K C "vectors")(i5:Def P w K mg base 4 "check_directions" ["directions"] (low K cE))(qW:MonoF cE)(len:∀ds Q,sp ds Q->ds.length+1=2)(hsp:∀ds Q,sp ds Q -> ∀a,Dw C cE { nx:=λρ=>∃d,ρ[0]?=ae (.own a d)/\Q (.nw d),rt:=λ_=>False } (jV C a q1m ds)):IDef P w K mg base 5 "Sides" C q0p sp:=by
 have sc:FnScope q1m q0p (aM (gB (top 47) 0)):=by norm_cast
 refine m.okP (k:=4) (t:=Dw C cE) sc (λf cdv A outer s H E hr=>?_) len hsp
 ·
  have hu1:=fN hr;exact(aI (E8 (aW i5 qW (hr.mono ∅) (aB (aD 1 (pv 1)) aF)))
 (aI (fJ (i:=2) sc.nd rfl (.inl rfl) (cO aF))
 (aI (dY bu rfl (MR rfl oU (aB (aD 1 (pv 1)) aF)) (CW (k:=5) (is:=[3,4]) rfl (d6 (dO (i:=3) sc.nd rfl (.inl rfl)) (d6 (dO (i:=4) sc.nd rfl (.inl rfl)) lF))) (aJ (Rh (i:=2) (pv 2) (bA eG (cO (aB (aD 3 (pv 3)) aF)) (cF hu1 (aD 4 (pv 4)) aH)))))
 (aI (JH (i:=0) cl kF (pv 0) (eU fX rfl bU lv (aB (aD 2 (pv 2)) aF)))
 (aJ (JH (i:=0) cl uY (pv 0) (eU fX rfl bU lv (aB (B6 q0a [] [] rfl (fK (aD 1 (pv 1))) (λfp s H=>(f8 (i:=0) (k:=1) (show jr (q0a:List bq) by decide +kernel) rfl (.inl rfl))) (λfp s H=>kC) (λfp s H=>(cH (aB (cF hu1 (aD 0 (pv 0)) aH) (aB (cF hu1 (aD 0 (pv 0)) aH) aF))))) aF))))))))
abbrev Ds(C:af):c7:=
 (c8 (gD fO (aA (Ld C "kinds" (aE 0)) aG)))
theorem Nk(m:MAt K C "many" "Sides.many" (gB (top 47) 1) q0b)(bZ:mg "len"=ao)(cl:Cls K C)(kF:kA K C "kinds")(len:Ln sp 1)(hsp:∀ds Q,sp ds Q->Ds C  ↥Q (aN q0b ds)):MDef P w K mg base 1 C "many" q0b (low K sp):=by
 have sc:FnScope q0b q0b (aM (gB (top 47) 1)):=by norm_cast
 refine m.okP (k:=0) (t:=Ds C ) sc (λf cdv A outer s H E hr=>?_) len hsp
 ·
  exact(aJ (bJ (bN dZ rfl bZ ji (aB (O3 cl kF (aD 0 (pv 0))) aF))))
abbrev Dt(C:af):c7:=
 (c8 (aQ cW (Ld C "kinds" (aE 0)) (aE 1)))
theorem Nl(m:MAt K C "kind" "Sides.kind" (gB (top 47) 2) q0e)(cl:Cls K C)(kF:kA K C "kinds")(len:Ln sp 2)(hsp:∀ds Q,sp ds Q->Dt C  ↥Q (aN q0e ds)):MDef P w K mg base 1 C "kind" q0e (low K sp):=by
 have sc:FnScope q0e q0e (aM (gB (top 47) 2)):=by norm_cast
 refine m.okP (k:=0) (t:=Dt C ) sc (λf cdv A outer s H E hr=>?_) len hsp
 ·
  have hu1:=fN hr;exact(aJ (bJ (cF hu1 (O3 cl kF (aD 0 (pv 0))) (aD 1 (pv 1)))))
abbrev kP(C:af)(bT:Fn):c7:=
 (aP (gM (aV (aQ lB (fU C "kind" bT (aE 0) (aA (aQ cW (aE 2) (eC (.int 0))) aG)) (fU C "kind" bT (aE 0) (aA (aQ cW (aE 2) (eC (.int 1))) aG)))) (c8 (eC (.bl am))) bH)
 (aP (gM (aV (aQ lB (fU C "kind" bT (aE 0) (aA (aQ cW (aE 2) (eC (.int 1))) aG)) (fU C "kind" bT (aE 0) (aA (aQ cW (aE 2) (eC (.int 2))) aG)))) (c8 (eC (.bl ak))) bH)
 (c8 (aQ HE (aE 2) (aE 1)))))
theorem wD(m:At K mg "counts_as_up" "counts_as_up" (top 18) q0g)(cl:Cls K C)(eV:MDef P w K mg base 1 C "kind" q0e (low K bT))(dG:MonoF bT)(len:Ln sp 3)(hsp:∀ds Q,sp ds Q->kP C bT ↥Q (aN q0g ds)):Def P w K mg base 2 "counts_as_up" q0g (low K sp):=by
 have sc:FnScope q0g q0g (aM (top 18)):=by norm_cast
 refine m.okP (k:=1) (t:=kP C bT) sc (λf cdv A outer s H E hr=>?_) len hsp
 ·
  have hu:=hr.units;have hu1:=fN hr;exact(aI (dX (b9 (dC hu) (jW cl eV dG (hr.mono ∅) (aD 0 (pv 0)) (aB (cF hu1 (aD 2 (pv 2)) aH) aF)) (jW cl eV dG (hr.mono ∅) (aD 0 (pv 0)) (aB (cF hu1 (aD 2 (pv 2)) aH) aF))) (aJ (bJ pH)) bF)
 (aI (dX (b9 (dC hu) (jW cl eV dG (hr.mono ∅) (aD 0 (pv 0)) (aB (cF hu1 (aD 2 (pv 2)) aH) aF)) (jW cl eV dG (hr.mono ∅) (aD 0 (pv 0)) (aB (cF hu1 (aD 2 (pv 2)) aH) aF))) (aJ (bJ pH)) bF)
 (aJ (bJ (lE (Fy hu1) (aD 2 (pv 2)) (aD 1 (pv 1)))))))
abbrev iJ(C:af)(bT:Fn):c7:=
 (c8 (La (aQ lB (fU C "kind" bT (aE 0) (aA (aQ cW (aE 1) (eC (.int 0))) aG)) (fU C "kind" bT (aE 0) (aA (aQ cW (aE 1) (eC (.int 2))) aG))) (aQ lB (fU C "kind" bT (aE 0) (aA (aQ cW (aE 1) (eC (.int 1))) aG)) (fU C "kind" bT (aE 0) (aA (aQ cW (aE 1) (eC (.int 3))) aG)))))
theorem sL(m:At K mg "has_three_alike" "has_three_alike" (top 20) q0j)(cl:Cls K C)(eV:MDef P w K mg base 1 C "kind" q0e (low K bT))(dG:MonoF bT)(len:Ln sp 2)(hsp:∀ds Q,sp ds Q->iJ C bT ↥Q (aN q0j ds)):Def P w K mg base 2 "has_three_alike" q0j (low K sp):=by
 have sc:FnScope q0j q0j (aM (top 20)):=by norm_cast
 refine m.okP (k:=1) (t:=iJ C bT) sc (λf cdv A outer s H E hr=>?_) len hsp
 ·
  have hu:=hr.units;have hu1:=fN hr;exact(aJ (bJ (Rg (lE (dC hu) (jW cl eV dG (hr.mono ∅) (aD 0 (pv 0)) (aB (cF hu1 (aD 1 (pv 1)) aH) aF)) (jW cl eV dG (hr.mono ∅) (aD 0 (pv 0)) (aB (cF hu1 (aD 1 (pv 1)) aH) aF))) (rB (lE (dC hu) (jW cl eV dG (hr.mono ∅) (aD 0 (pv 0)) (aB (cF hu1 (aD 1 (pv 1)) aH) aF)) (jW cl eV dG (hr.mono ∅) (aD 0 (pv 0)) (aB (cF hu1 (aD 1 (pv 1)) aH) aF)))))))
abbrev pC(bK:Fn):c7:=
 (aP (c6 3 (dU (aA (bY (aA (aQ cW (aE 2) (eC (.int 0))) (aA (aQ cW (aE 2) (eC (.int 1))) (aA (aQ cW (aE 2) (eC (.int 2))) aG)))) (aA (bY (aA (aQ cW (aE 2) (eC (.int 0))) (aA (aQ cW (aE 2) (eC (.int 1))) (aA (aQ cW (aE 2) (eC (.int 3))) aG)))) (aA (bY (aA (aQ cW (aE 2) (eC (.int 0))) (aA (aQ cW (aE 2) (eC (.int 2))) (aA (aQ cW (aE 2) (eC (.int 3))) aG)))) (aA (OT (aE 2) (vU (eC (.int 1))) lI) aG))))))
 (aP (c6 4 (eJ 1 [0,1] (kY (aE 3)) (gN 0) eP (aU bK (aA (aE 1) (aA (aE 2) (aA (aE 0) aG))))))
 (aP (c6 5 (eJ 2 [] (AY (aA (aE 4) (aA (OT (aE 4) (vU (eC (.int 1))) lI) aG))) (gT [0,1]) (aV (aQ BE (aE 0) (aE 1))) (eC (.int 1))))
 (c8 (aQ EJ (gD fO (aA (aE 5) aG)) (eC (.int 1)))))))
theorem Bt(m:At K mg "is_barred" "is_barred" (top 21) q0t)(A4:mg "zip"=ao)(bZ:mg "len"=ao)(dD:Def P w K mg base 2 "counts_as_up" q0g (low K bK))(fA:MonoF bK)(len:Ln sp 3)(hsp:∀ds Q,sp ds Q->pC bK ↥Q (aN q1n ds)):Def P w K mg base 3 "is_barred" q0t (low K sp):=by
 have sc:FnScope q1n q0t (aM (top 21)):=by norm_cast
 refine m.okP (k:=2) (t:=pC bK) sc (λf cdv A outer s H E hr=>?_) len hsp
 ·
  have hu:=hr.units;have hu1:=fN hr;exact(aI (cI (i:=3) sc.nd rfl (.inl rfl) (cO (aB (cH (aB (cF hu1 (aD 2 (pv 2)) aH) (aB (cF hu1 (aD 2 (pv 2)) aH) (aB (cF hu1 (aD 2 (pv 2)) aH) aF)))) (aB (cH (aB (cF hu1 (aD 2 (pv 2)) aH) (aB (cF hu1 (aD 2 (pv 2)) aH) (aB (cF hu1 (aD 2 (pv 2)) aH) aF)))) (aB (cH (aB (cF hu1 (aD 2 (pv 2)) aH) (aB (cF hu1 (aD 2 (pv 2)) aH) (aB (cF hu1 (aD 2 (pv 2)) aH) aF)))) (aB (B5 (aD 2 (pv 2)) (B3 aH) B4) aF))))))
 (aI (uV (AG (iy:=4) ["three"] q0q [0,1] sc.nd rfl (.inl rfl) rfl (fK (aD 3 (pv 3))) (λfp s H=>(f8 (i:=0) (k:=1) (show jr (["three","sides","ups"]:List bq) by decide +kernel) rfl (.inl rfl))) (λfp s H=>kC) (λfp s H=>(aW dD fA (hr.mono ∅) (aB (aD 1 (pv 1)) (aB (aD 2 (pv 2)) (aB (aD 0 (pv 0)) aF)))))))
 (aI (uV (AG (iy:=5) ["one","other"] [] [] sc.nd rfl (.inl rfl) rfl (JG rfl A4 (aB (aD 4 (pv 4)) (aB (B5 (aD 4 (pv 4)) (B3 aH) B4) aF))) (λfp s H=>(CW (k:=2) (is:=[0,1]) rfl (d6 (dO (i:=0) (show jr (["one","other"]:List bq) by decide +kernel) rfl (.inl rfl)) (d6 (dO (i:=1) (show jr (["one","other"]:List bq) by decide +kernel) rfl (.inl rfl)) lF)))) (λfp s H=>(qJ (b9 (rY hu) (aD 0 (pv 0)) (aD 1 (pv 1))))) (λfp s H=>aH)))
 (aJ (bJ (lE kW (bN dZ rfl bZ ji (aB (aD 5 (pv 5)) aF)) aH))))))
abbrev rP(bK:Fn):c7:=
 (aP (gM (aV (aQ HD (aE 2) (aE 3))) (c8 (yP (aU bK (aA (aE 0) (aA (aE 1) (aA (bY (aA (aE 2) (aA (aE 3) (aA (aE 4) aG)))) aG)))))) bH)
 (aP (gM (aV (aQ EJ (aE 2) (aE 4))) (c8 (yP (aU bK (aA (aE 0) (aA (aE 1) (aA (bY (aA (aE 3) (aA (aE 4) (aA (aE 2) aG)))) aG)))))) bH)
 (c8 (oP (sK HD HD (aE 3) (aE 2) (aE 4)) (aU bK (aA (aE 0) (aA (aE 1) (aA (bY (aA (aE 3) (aA (aE 2) (aA (aE 4) aG)))) aG))))))))
theorem DU(m:At K mg "is_below" "is_below" (top 23) q0k)(dD:Def P w K mg base 2 "counts_as_up" q0g (low K bK))(fA:MonoF bK)(len:Ln sp 5)(hsp:∀ds Q,sp ds Q->rP bK ↥Q (aN q0k ds)):Def P w K mg base 3 "is_below" q0k (low K sp):=by
 have sc:FnScope q0k q0k (aM (top 23)):=by norm_cast
 refine m.okP (k:=2) (t:=rP bK) sc (λf cdv A outer s H E hr=>?_) len hsp
 ·
  exact(aI (dX (b9 rZ (aD 2 (pv 2)) (aD 3 (pv 3))) (aJ (bJ (FL (aW dD fA (hr.mono ∅) (aB (aD 0 (pv 0)) (aB (aD 1 (pv 1)) (aB (cH (aB (aD 2 (pv 2)) (aB (aD 3 (pv 3)) (aB (aD 4 (pv 4)) aF)))) aF))))))) bF)
 (aI (dX (b9 kW (aD 2 (pv 2)) (aD 4 (pv 4))) (aJ (bJ (FL (aW dD fA (hr.mono ∅) (aB (aD 0 (pv 0)) (aB (aD 1 (pv 1)) (aB (cH (aB (aD 3 (pv 3)) (aB (aD 4 (pv 4)) (aB (aD 2 (pv 2)) aF)))) aF))))))) bF)
 (aJ (bJ (vO (FN K9 K9 (aD 3 (pv 3)) (aD 2 (pv 2)) (aD 4 (pv 4))) (rB (aW dD fA (hr.mono ∅) (aB (aD 0 (pv 0)) (aB (aD 1 (pv 1)) (aB (cH (aB (aD 3 (pv 3)) (aB (aD 2 (pv 2)) (aB (aD 4 (pv 4)) aF)))) aF))))))))))
abbrev Ah(C:af)(bR bT:Fn):c7:=
 (gM (aV (aQ BE (fU C "kind" bT (aE 0) (aA (aE 2) aG)) (fU C "kind" bT (aE 0) (aA (aE 3) aG)))) (mX 1 (bY (aA (aE 2) (aA (aE 3) aG)))) bH)
abbrev nI(C:af)(bR bT:Fn):c7:=
 (fS (gX (aA (aQ dJ (aE 2) (eC (.int 1))) (aA (fU C "many" bR (aE 0) aG) aG))) (gN 3) (Ah C bR bT))
abbrev Ar(C:af)(bR bT:Fn):c7:=
 (aP (fR 1 (dU aG))
 (aP (fS (eR (aA (fU C "many" bR (aE 0) aG) aG)) (gN 2) (nI C bR bT))
 (c8 (aE 1))))
theorem Lg(m:MAt K C "pairs" "Sides.pairs" (gB (top 47) 4) q0b)(b4:mg "range"=ao)(cl:Cls K C)(j9:MDef P w K mg base 1 C "many" q0b (low K bR))(gA:MonoF bR)(eV:MDef P w K mg base 1 C "kind" q0e (low K bT))(dG:MonoF bT)(len:Ln sp 1)(hsp:∀ds Q,sp ds Q->Ar C bR bT ↥Q (aN q1o ds)):MDef P w K mg base 2 C "pairs" q0b (low K sp):=by
 have sc:FnScope q1o q0b (aM (gB (top 47) 4)):=by norm_cast
 refine m.okP (k:=1) (t:=Ar C bR bT) sc (λf cdv A outer s H E hr=>?_) len hsp
 ·
  have hu:=hr.units;exact(aI (fJ (i:=1) sc.nd rfl (.inl rfl) (cO aF))
 (aI (dY bu rfl (eD rfl b4 (aB (o4 cl j9 gA (hr.mono ∅) (aD 0 (pv 0))) aF)) (f8 (i:=2) (k:=4) sc.nd rfl (.inl rfl)) (aJ (dY bu rfl (g7 rfl b4 (aB (bA bC (aD 2 (pv 2)) aH) (aB (o4 cl j9 gA (hr.mono ∅) (aD 0 (pv 0))) aF))) (f8 (i:=3) (k:=4) sc.nd rfl (.inl rfl)) (aJ (dX (b9 (rY hu) (jW cl eV dG (hr.mono ∅) (aD 0 (pv 0)) (aB (aD 2 (pv 2)) aF)) (jW cl eV dG (hr.mono ∅) (aD 0 (pv 0)) (aB (aD 3 (pv 3)) aF))) (aJ (rE (i:=1) (pv 1) (cH (aB (aD 2 (pv 2)) (aB (aD 3 (pv 3)) aF))))) bF)))))
 (aJ (bJ (aD 1 (pv 1))))))
abbrev yZ(C:af)(dA bR bT:Fn):c7:=
 (gM (aV (aQ BE (fU C "kind" bT (aE 0) (aA (aE 4) aG)) (fU C "kind" bT (aE 0) (aA (aE 3) aG)))) (mX 1 (bY (aA (aE 2) (aA (aE 3) (aA (aE 4) aG))))) bH)
abbrev l9(C:af)(dA bR bT:Fn):c7:=
 (fS (gX (aA (aQ dJ (aE 3) (eC (.int 1))) (aA (fU C "many" bR (aE 0) aG) aG))) (gN 4) (yZ C dA bR bT))
abbrev xE(C:af)(dA bR bT:Fn):c7:=
 (aP (fR 1 (dU aG))
 (aP (fS (kY (fU C "pairs" dA (aE 0) aG)) (gT [2,3]) (l9 C dA bR bT))
 (c8 (aE 1))))
theorem Hz(m:At K mg "threes" "threes" (top 17) q0d)(b4:mg "range"=ao)(cl:Cls K C)(qN:MDef P w K mg base 2 C "pairs" q0b (low K dA))(n9:MonoF dA)(j9:MDef P w K mg base 1 C "many" q0b (low K bR))(gA:MonoF bR)(eV:MDef P w K mg base 1 C "kind" q0e (low K bT))(dG:MonoF bT)(len:Ln sp 1)(hsp:∀ds Q,sp ds Q->xE C dA bR bT ↥Q (aN q1p ds)):Def P w K mg base 3 "threes" q0d (low K sp):=by
 have sc:FnScope q1p q0d (aM (top 17)):=by norm_cast
 refine m.okP (k:=2) (t:=xE C dA bR bT) sc (λf cdv A outer s H E hr=>?_) len hsp
 ·
  have hu:=hr.units;exact(aI (fJ (i:=1) sc.nd rfl (.inl rfl) (cO aF))
 (aI (dY bu rfl (fK (o4 cl qN n9 (hr.mono ∅) (aD 0 (pv 0)))) (CW (k:=5) (is:=[2,3]) rfl (d6 (dO (i:=2) sc.nd rfl (.inl rfl)) (d6 (dO (i:=3) sc.nd rfl (.inl rfl)) lF))) (aJ (dY bu rfl (g7 rfl b4 (aB (bA bC (aD 3 (pv 3)) aH) (aB (o4 cl j9 gA (hr.mono ∅) (aD 0 (pv 0))) aF))) (f8 (i:=4) (k:=5) sc.nd rfl (.inl rfl)) (aJ (dX (b9 (rY hu) (jW cl eV dG (hr.mono ∅) (aD 0 (pv 0)) (aB (aD 4 (pv 4)) aF)) (jW cl eV dG (hr.mono ∅) (aD 0 (pv 0)) (aB (aD 3 (pv 3)) aF))) (aJ (rE (i:=1) (pv 1) (cH (aB (aD 2 (pv 2)) (aB (aD 3 (pv 3)) (aB (aD 4 (pv 4)) aF)))))) bF)))))
 (aJ (bJ (aD 1 (pv 1))))))
abbrev vF(C:af)(c9 jG bW dR bR:Fn):c7:=
 (gM (aV (aQ iO (aE 3) (aE 2))) hW bH)
abbrev gH(C:af)(c9 jG bW dR bR:Fn):c7:=
 (gM (qZ (lC (jM (aU bW (aA (aE 0) (aA (aE 4) aG))))) (jM (aU dR (aA (aE 0) (aA (aE 1) (aA (aE 4) aG)))))) hW bH)
abbrev kQ(C:af)(c9 jG bW dR bR:Fn):c7:=
 (aP (c6 2 (aU c9 (aA (aE 0) aG)))
 (aP (fS (lH (aE 1)) (gN 3) (vF C c9 jG bW dR bR))
 (fS (kY (aU jG (aA (fU C "many" bR (aE 0) aG) aG))) (gN 4) (gH C c9 jG bW dR bR))))
theorem wE{jG bW dR:Fn}(m:At K mg "check_threes" "check_threes" (top 22) q0q)(cl:Cls K C)(iR:Def P w K mg base 3 "threes" q0d (low K c9))(g9:MonoF c9)(Bv:Def P w K mg base 1 "fours" ["many"] (low K jG))(y9:MonoF jG)(iS:Def P w K mg base 2 "has_three_alike" q0j (low K bW))(sB:MonoF bW)(qB:Def P w K mg base 3 "is_barred" q0t (low K dR))(BO:MonoF dR)(j9:MDef P w K mg base 1 C "many" q0b (low K bR))(gA:MonoF bR)(len:Ln sp 2)(hsp:∀ds Q,sp ds Q->kQ C c9 jG bW dR bR ↥Q (aN q1q ds)):Def P w K mg base 4 "check_threes" q0q (low K sp):=by
 have sc:FnScope q1q q0q (aM (top 22)):=by norm_cast
 refine m.okP (k:=3) (t:=kQ C c9 jG bW dR bR) sc (λf cdv A outer s H E hr=>?_) len hsp
 ·
  have hu1:=fN hr;have hu65:=wH hr;exact(aI (cI (i:=2) sc.nd rfl (.inl rfl) (aW iR g9 (hr.mono ∅) (aB (aD 0 (pv 0)) aF)))
 (aI (dY bu rfl (wK (aD 1 (pv 1))) (f8 (i:=3) (k:=5) sc.nd rfl (.inl rfl)) (aJ (dX (b9 (qK hu65 hu1) (aD 3 (pv 3)) (aD 2 (pv 2))) (aJ gU) bF)))
 (aJ (dY bu rfl (fK (aW Bv y9 (hr.mono ∅) (aB (o4 cl j9 gA (hr.mono ∅) (aD 0 (pv 0))) aF))) (f8 (i:=4) (k:=5) sc.nd rfl (.inl rfl)) (aJ (dX (QW.qt (rV (fI (eT (aW iS sB (hr.mono ∅) (aB (aD 0 (pv 0)) (aB (aD 4 (pv 4)) aF))))) (nZ (eT (aW qB BO (hr.mono ∅) (aB (aD 0 (pv 0)) (aB (aD 1 (pv 1)) (aB (aD 4 (pv 4)) aF)))))))) (aJ gU) bF))))))
abbrev C6(C:af)(cP eO dA bR:Fn):c7:=
 (mW 2 (aE 3) (eC (.bl ak)))
abbrev kJ(C:af)(cP eO dA bR:Fn):c7:=
 (aP (c6 7 (eJ 1 [0,2,5,6] (eR (aA (fU C "many" bR (aE 0) aG) aG)) (gN 0) (jM (aU eO (aA (aE 1) (aA (aE 2) (aA (aE 0) (aA (aE 3) (aA (aE 4) aG))))))) (aE 0)))
 (mX 4 (bY (aA (aE 5) (aA (aE 6) (aA (gD gK (aA (aE 7) aG)) aG))))))
abbrev rQ(C:af)(cP eO dA bR:Fn):c7:=
 (aP (fR 2 R3)
 (aP (fS (kY (aE 1)) (gN 3) (C6 C cP eO dA bR))
 (aP (AD (aU cP (aA (aE 0) (aA (aE 2) aG))))
 (vY 2 (aP (fR 4 (dU aG))
 (aP (fS (kY (fU C "pairs" dA (aE 0) aG)) (gT [5,6]) (kJ C cP eO dA bR))
 (c8 (aE 4))))))))
theorem DV{cP eO:Fn}(m:At K mg "floor_by" "floor_by" (top 24) q0u)(b4:mg "range"=ao)(bU:mg "tuple"=ao)(cl:Cls K C)(l6:Def P w K mg base 4 "check_threes" q0q (low K cP))(wA:MonoF cP)(sQ:Def P w K mg base 3 "is_below" q0k (low K eO))(D6:MonoF eO)(qN:MDef P w K mg base 2 C "pairs" q0b (low K dA))(n9:MonoF dA)(j9:MDef P w K mg base 1 C "many" q0b (low K bR))(gA:MonoF bR)(len:Ln sp 2)(hsp:∀ds Q,sp ds Q->rQ C cP eO dA bR ↥Q (aN q1r ds)):Def P w K mg base 5 "floor_by" q0u (low K sp):=by
 have sc:FnScope q1r q0u (aM (top 24)):=by norm_cast
 refine m.okP (k:=4) (t:=rQ C cP eO dA bR) sc (λf cdv A outer s H E hr=>?_) len hsp
 ·
  have hu1:=fN hr;exact(aI (fJ (i:=2) sc.nd rfl (.inr rfl) B7)
 (aI (dY bu rfl (fK (aD 1 (pv 1))) (f8 (i:=3) (k:=8) sc.nd rfl (.inl rfl)) (aJ (tD hu1 (i:=2) (pv 2) (aD 3 (pv 3)) pH)))
 (aI (E8 (aW l6 wA (hr.mono ∅) (aB (aD 0 (pv 0)) (aB (aD 2 (pv 2)) aF))))
 (FM 2 (aI (fJ (i:=4) sc.nd rfl (.inl rfl) (cO aF))
 (aI (dY bu rfl (fK (o4 cl qN n9 (hr.mono ∅) (aD 0 (pv 0)))) (CW (k:=8) (is:=[5,6]) rfl (d6 (dO (i:=5) sc.nd rfl (.inr rfl)) (d6 (dO (i:=6) sc.nd rfl (.inr rfl)) lF))) (aI (uV (AG (iy:=7) ["z"] ["sides","ups","x","y"] [0,2,5,6] sc.nd rfl (.inl rfl) rfl (eD rfl b4 (aB (o4 cl j9 gA (hr.mono ∅) (aD 0 (pv 0))) aF)) (λfp s H=>(f8 (i:=0) (k:=1) (show jr (["z","sides","ups","x","y"]:List bq) by decide +kernel) rfl (.inl rfl))) (λfp s H=>(qJ (eT (aW sQ D6 (hr.mono ∅) (aB (aD 1 (pv 1)) (aB (aD 2 (pv 2)) (aB (aD 0 (pv 0)) (aB (aD 3 (pv 3)) (aB (aD 4 (pv 4)) aF))))))))) (λfp s H=>(aD 0 (pv 0)))))
 (aJ (rE (i:=4) (pv 4) (cH (aB (aD 5 (pv 5)) (aB (aD 6 (pv 6)) (aB (eU fX rfl bU lv (aB (aD 7 (pv 7)) aF)) aF))))))))
 (aJ (bJ (aD 4 (pv 4))))))))))
abbrev pD(eW c9 bO:Fn):c7:=
 (aP (c6 2 (aU eW (aA (aE 1) aG)))
 (c8 (eJ 1 [2] (kY (aU c9 (aA (aE 0) aG))) (gN 0) (aV (aQ AK (aU bO (aA (aE 1) (aA (aE 0) aG))) (eC .non))) (aE 0))))
theorem Bu(m:At K mg "flippable" "flippable" (top 29) q0v)(nA:Def P w K mg base 1 "belows" ["floor"] (low K eW))(kM:MonoF eW)(iR:Def P w K mg base 3 "threes" q0d (low K c9))(g9:MonoF c9)(eE:Def P w K mg base 3 "tiles_by_flip" q0o (low K bO))(j7:MonoF bO)(len:Ln sp 2)(hsp:∀ds Q,sp ds Q->pD eW c9 bO ↥Q (aN q1s ds)):Def P w K mg base 4 "flippable" q0v (low K sp):=by
 have sc:FnScope q1s q0v (aM (top 29)):=by norm_cast
 refine m.okP (k:=3) (t:=pD eW c9 bO) sc (λf cdv A outer s H E hr=>?_) len hsp
 ·
  exact(aI (cI (i:=2) sc.nd rfl (.inr rfl) (aW nA kM (hr.mono ∅) (aB (aD 1 (pv 1)) aF)))
 (aJ (bJ (B6 ["three"] ["below"] [2] rfl (fK (aW iR g9 (hr.mono ∅) (aB (aD 0 (pv 0)) aF))) (λfp s H=>(f8 (i:=0) (k:=1) (show jr (["three","below"]:List bq) by decide +kernel) rfl (.inl rfl))) (λfp s H=>(qJ (b9 K4 (aW eE j7 (hr.mono ∅) (aB (aD 1 (pv 1)) (aB (aD 0 (pv 0)) aF))) JF))) (λfp s H=>(aD 0 (pv 0)))))))
abbrev uL(c9 eW bO:Fn):c7:=
 (aP (gM (aV (aQ iO (aE 2) (aU c9 (aA (aE 0) aG)))) hW bH)
 (aP (c6 3 (aU bO (aA (aU eW (aA (aE 1) aG)) (aA (aE 2) aG))))
 (aP (gM (aV (aQ Jv (aE 3) (eC .non))) hW bH)
 (aP (c6 4 (eJ 1 [2] (kY (aE 1)) (gN 0) (Et (aV (aQ iO (aQ cW (aE 0) (eC (.int 0))) (aE 1))) (aV (aQ iO (aQ cW (aE 0) (eC (.int 1))) (aE 1)))) (aE 0)))
 (c8 (gD g8 (aA (aQ dJ (aE 4) (aE 3)) aG)))))))
theorem Ew(m:At K mg "flipped" "flipped" (top 30) q0w)(cX:mg "sorted"=ao)(iR:Def P w K mg base 3 "threes" q0d (low K c9))(g9:MonoF c9)(nA:Def P w K mg base 1 "belows" ["floor"] (low K eW))(kM:MonoF eW)(eE:Def P w K mg base 3 "tiles_by_flip" q0o (low K bO))(j7:MonoF bO)(len:Ln sp 3)(hsp:∀ds Q,sp ds Q->uL c9 eW bO ↥Q (aN q1t ds)):Def P w K mg base 4 "flipped" q0w (low K sp):=by
 have sc:FnScope q1t q0w (aM (top 30)):=by norm_cast
 refine m.okP (k:=3) (t:=uL c9 eW bO) sc (λf cdv A outer s H E hr=>?_) len hsp
 ·
  have hu1:=fN hr;have hu65:=wH hr;exact(aI (dX (b9 (qK hu65 hu1) (aD 2 (pv 2)) (aW iR g9 (hr.mono ∅) (aB (aD 0 (pv 0)) aF))) (aJ gU) bF)
 (aI (cI (i:=3) sc.nd rfl (.inl rfl) (aW eE j7 (hr.mono ∅) (aB (aW nA kM (hr.mono ∅) (aB (aD 1 (pv 1)) aF)) (aB (aD 2 (pv 2)) aF))))
 (aI (dX (b9 Ms (aD 3 (pv 3)) JF) (aJ gU) bF)
 (aI (uV (AG (iy:=4) ["tile"] ["three"] [2] sc.nd rfl (.inl rfl) rfl (fK (aD 1 (pv 1))) (λfp s H=>(f8 (i:=0) (k:=1) (show jr (["tile","three"]:List bq) by decide +kernel) rfl (.inl rfl))) (λfp s H=>(qJ (QW.qt (tB (b9 (qK hu65 hu1) (cF hu1 (aD 0 (pv 0)) aH) (aD 1 (pv 1))) (uU (b9 (qK hu65 hu1) (cF hu1 (aD 0 (pv 0)) aH) (aD 1 (pv 1)))))))) (λfp s H=>(aD 0 (pv 0)))))
 (aJ (bJ (bN vD rfl cX vw (aB (bA bC (aD 4 (pv 4)) (aD 3 (pv 3))) aF))))))))
abbrev Ir(jC:Fn):c7:=
 (c8 (aU jC (aA (aE 0) (aA (dU aG) aG))))
theorem Qe{jC:Fn}(m:At K mg "low" "low" (top 31) q0d)(sR:Def P w K mg base 5 "floor_by" q0u (low K jC))(D7:MonoF jC)(len:Ln sp 1)(hsp:∀ds Q,sp ds Q->Ir jC ↥Q (aN q0d ds)):Def P w K mg base 6 "low" q0d (low K sp):=by
 have sc:FnScope q0d q0d (aM (top 31)):=by norm_cast
 refine m.okP (k:=5) (t:=Ir jC) sc (λf cdv A outer s H E hr=>?_) len hsp
 ·
  exact(aJ (bJ (aW sR D7 (hr.mono ∅) (aB (aD 0 (pv 0)) (aB (cO aF) aF)))))
abbrev hG(aS:af)(Ψ:IP->Prop)(rK dS fG:Fn):c7:=
 (mX 4 (aU fG (aA (aE 0) (aA (aE 5) (aA (aE 6) aG)))))
abbrev jZ(aS:af)(Ψ:IP->Prop)(rK dS fG:Fn):c7:=
 (aP (Gh 4 5)
 (aP (gM (aV (aQ Jx (gD gK (aA (aE 5) aG)) (aE 3))) FJ bH)
 (aP (gM (aV (aQ VW (gD fO (aA (aE 2) aG)) (aE 1))) (Az Ψ aS (aA (eC (.str "there are more floors than the told most")) aG)) bH)
 (aP (xM 3 (gD gK (aA (aE 5) aG)) (eC (.bl ak)))
 (aP (mX 2 (aE 5))
 (fS (kY (aU dS (aA (aE 0) (aA (aE 5) aG)))) (gN 6) (hG aS Ψ rK dS fG)))))))
abbrev lW(aS:af)(Ψ:IP->Prop)(rK dS fG:Fn):c7:=
 (aP (fR 2 (dU aG))
 (aP (fR 3 Tu)
 (aP (fR 4 (dU (aA (aU rK (aA (aE 0) aG)) aG)))
 (aP (Ay (jM (aE 4)) (jZ aS Ψ rK dS fG))
 (c8 (gD pM (aA (aE 2) aG)))))))
theorem yU{rK dS fG:Fn}{sp:IS}(m:At K mg "all_floors" "all_floors" (top 33) q0r)(bU:mg "tuple"=ao)(bZ:mg "len"=ao)(cX:mg "sorted"=ao)(gC:mg "TooMany"=ae (.ref aS))(uT:F7 K aS)(Li:Def P w K mg base 6 "low" q0d (low K rK))(ER:MonoF rK)(qC:Def P w K mg base 4 "flippable" q0v (low K dS))(BP:MonoF dS)(vC:Def P w K mg base 4 "flipped" q0w (low K fG))(ET:MonoF fG)(len:∀ds Q Ψ,sp ds Q Ψ->ds.length=2)(hsp:∀ds Q Ψ,sp ds Q Ψ->lW aS Ψ rK dS fG ↥Q (aN q1u ds)):DefX P w K mg base 7 "all_floors" q0r (lowX K sp):=by
 have sc:FnScope q1u q0r (aM (top 33)):=by norm_cast
 refine m.okX (k:=6) (t:=λΨ=>lW aS Ψ rK dS fG) sc (λf cdv A outer s H E F Ψ hr hE=>?_) len hsp
 ·
  have hS:∀H2,aT H H2->aT H H2:=λ_ z=>z;have hu65:=wH hr;have hu2:=LD hr;exact(nK (QS.x (fJ (i:=2) sc.nd rfl (.inl rfl) (cO aF)))
 (nK (QS.x (fJ (i:=3) sc.nd rfl (.inl rfl) MS))
 (nK (QS.x (fJ (i:=4) sc.nd rfl (.inl rfl) (cO (aB (aW Li ER (hr.mono ∅) (aB (aD 0 (pv 0)) aF)) aF))))
 (nK (MB Yk (eT (aD 4 (pv 4))) (nK (QS.x (Rf (i:=4) (j:=5) (pv 4) sc.nd rfl (.inl rfl)))
 (nK (QS.x (dX (b9 (Mt hu2) (eU fX rfl bU lv (aB (aD 5 (pv 5)) aF)) (aD 3 (pv 3))) (aJ E9) bF))
 (nK (U0 (b9 Ph (bN dZ rfl bZ ji (aB (aD 2 (pv 2)) aF)) (aD 1 (pv 1))) (IV (IU hS hr.hd hE gC uT rfl (aB Re aF))) (QSs.x bF))
 (nK (QS.x (JE hu2 (i:=3) (pv 3) (eU fX rfl bU lv (aB (aD 5 (pv 5)) aF)) pH))
 (nK (QS.x (rE (i:=2) (pv 2) (aD 5 (pv 5))))
 (IV (QS.x (dY Yk rfl (fK (aW qC BP (hr.mono ∅) (aB (aD 0 (pv 0)) (aB (aD 5 (pv 5)) aF)))) (f8 (i:=6) (k:=7) sc.nd rfl (.inl rfl)) (aJ (rE (i:=4) (pv 4) (aW vC ET (hr.mono ∅) (aB (aD 0 (pv 0)) (aB (aD 5 (pv 5)) (aB (aD 6 (pv 6)) aF)))))))))))))))
 (IV (QS.x (bJ (bN (yX hu65) rfl cX vw (aB (aD 2 (pv 2)) aF)))))))))
abbrev iZ:c7:=
 (c6 3 (aQ dJ (aQ j5 (aE 3) (eC (.int 2147483647))) (aQ gO (aQ j5 (aQ gO (aQ dJ (aQ j5 (aE 2) (eC (.int 48271))) (aQ j5 (aQ j5 (aQ dJ (aE 4) (eC (.int 5))) (aQ dJ (aQ dJ (aE 4) (aE 1)) (eC (.int 2)))) (eC (.int 69621)))) (eC (.int 2147483647))) (eC (.int 16807))) (eC (.int 2147483629)))))
abbrev rN:c7:=
 (aP (c6 2 (eC (.int 0)))
 (aP (gM (aV (aQ HD (aE 1) (gD fO (aA (aE 0) aG)))) (c6 2 (aQ cW (aE 0) (aE 1))) bH)
 (aP (gM (Et (aV (aQ HD (aE 2) (eC (.int 0)))) (aV (aQ EJ (aE 2) (aQ w9 (eC (.int 10)) (eC (.int 15)))))) (c8 (aE 2)) bH)
 (aP (c6 3 (eC (.int 0)))
 (aP (fS (eR (aA (eC (.int 14)) aG)) (gN 4) iZ)
 (c8 (aE 3)))))))
theorem DS(m:At K mg "_law_deep" "_law_deep" (top 49) q0x)(bZ:mg "len"=ao)(b4:mg "range"=ao)(len:Ln sp 2)(hsp:∀ds Q,sp ds Q->rN  ↥Q (aN q1v ds)):Def P w K mg base 1 "_law_deep" q0x (low K sp):=by
 have sc:FnScope q1v q0x (aM (top 49)):=by norm_cast
 refine m.okP (k:=0) (t:=rN ) sc (λf cdv A outer s H E hr=>?_) len hsp
 ·
  have hu1:=fN hr;exact(aI (cI (i:=2) sc.nd rfl (.inl rfl) aH)
 (aI (dX (b9 rZ (aD 1 (pv 1)) (bN dZ rfl bZ ji (aB (aD 0 (pv 0)) aF))) (aJ (cI (i:=2) sc.nd rfl (.inl rfl) (cF hu1 (aD 0 (pv 0)) (aD 1 (pv 1))))) bF)
 (aI (dX (QW.qt (tB (b9 rZ (aD 2 (pv 2)) aH) (uU (b9 kW (aD 2 (pv 2)) (bA tR aH aH))))) (aJ (bJ (aD 2 (pv 2)))) bF)
 (aI (cI (i:=3) sc.nd rfl (.inl rfl) aH)
 (aI (dY bu rfl (eD rfl b4 (aB aH aF)) (f8 (i:=4) (k:=5) sc.nd rfl (.inl rfl)) (aJ (cI (i:=3) sc.nd rfl (.inl rfl) (bA bC (bA eG (aD 3 (pv 3)) aH) (bA d3 (bA eG (bA d3 (bA bC (bA eG (aD 2 (pv 2)) aH) (bA eG (bA eG (bA bC (aD 4 (pv 4)) aH) (bA bC (bA bC (aD 4 (pv 4)) (aD 1 (pv 1))) aH)) aH)) aH) aH) aH)))))
 (aJ (bJ (aD 3 (pv 3)))))))))
abbrev p7:c7:=
 (c8 (oP (v8 "int" (aE 0)) (yP (v8 "bool" (aE 0)))))
theorem Bo(m:At K mg "_law_whole" "_law_whole" (top 50) q0l)(aO:mg "isinstance"=ao)(A6:mg "int"=ao)(uG:mg "bool"=ao)(len:Ln sp 1)(hsp:∀ds Q,sp ds Q->p7  ↥Q (aN q0l ds)):Def P w K mg base 1 "_law_whole" q0l (low K sp):=by
 have sc:FnScope q0l q0l (aM (top 50)):=by norm_cast
 refine m.okP (k:=0) (t:=p7 ) sc (λf cdv A outer s H E hr=>?_) len hsp
 ·
  exact(aJ (bJ (vO (rC (.inl rfl) rfl aO (aD 0 (pv 0)) (iN (v:=.ty "int") rfl A6 boot_int rfl)) (rB (FL (rC (.inr (.inl rfl)) rfl aO (aD 0 (pv 0)) (iN (v:=.ty "bool") rfl uG boot_bool rfl)))))))
abbrev rM:c7:=
 (aP (c6 2 (aQ dJ (eC (.int 1)) (aQ gO (aE 1) (aQ w9 (eC (.int 10)) (eC (.int 11))))))
 (aP (c6 3 (aQ tN (aQ gO (aQ lX (aE 1) (eC (.int 7))) (aQ j5 (eC (.int 2)) (aQ w9 (eC (.int 10)) (eC (.int 10))))) (aQ w9 (eC (.int 10)) (eC (.int 10)))))
 (aP (c6 4 (aQ dJ (eC (.int 1)) (aQ gO (aQ lX (aE 1) (eC (.int 11))) (aQ w9 (eC (.int 10)) (eC (.int 10))))))
 (c8 (eJ 1 [2,4,0,3] (eR (aA (gD fO (aA (aE 0) aG)) aG)) (gN 0) eP (bY (aA (aQ tN (aE 1) (aQ j5 (aE 0) (aE 4))) (aA (aQ j5 (aE 0) (aE 2)) (aA (aQ cW (aE 3) (aE 0)) aG)))))))))
theorem DR(m:At K mg "_law_dirs" "_law_dirs" (top 51) q0y)(bZ:mg "len"=ao)(b4:mg "range"=ao)(len:Ln sp 2)(hsp:∀ds Q,sp ds Q->rM  ↥Q (aN q1w ds)):Def P w K mg base 1 "_law_dirs" q0y (low K sp):=by
 have sc:FnScope q1w q0y (aM (top 51)):=by norm_cast
 refine m.okP (k:=0) (t:=rM ) sc (λf cdv A outer s H E hr=>?_) len hsp
 ·
  have hu1:=fN hr;exact(aI (cI (i:=2) sc.nd rfl (.inr rfl) (bA bC aH (bA d3 (aD 1 (pv 1)) (bA tR aH aH))))
 (aI (cI (i:=3) sc.nd rfl (.inr rfl) (bA tQ (bA d3 (bA gW (aD 1 (pv 1)) aH) (bA eG aH (bA tR aH aH))) (bA tR aH aH)))
 (aI (cI (i:=4) sc.nd rfl (.inr rfl) (bA bC aH (bA d3 (bA gW (aD 1 (pv 1)) aH) (bA tR aH aH))))
 (aJ (bJ (B6 ["_law_k"] ["_law_a","_law_t","_law_counts_here","_law_s"] [2,4,0,3] rfl (eD rfl b4 (aB (bN dZ rfl bZ ji (aB (aD 0 (pv 0)) aF)) aF)) (λfp s H=>(f8 (i:=0) (k:=1) (show jr (["_law_k","_law_a","_law_t","_law_counts_here","_law_s"]:List bq) by decide +kernel) rfl (.inl rfl))) (λfp s H=>kC) (λfp s H=>(cH (aB (bA tQ (aD 1 (pv 1)) (bA eG (aD 0 (pv 0)) (aD 4 (pv 4)))) (aB (bA eG (aD 0 (pv 0)) (aD 2 (pv 2))) (aB (cF hu1 (aD 3 (pv 3)) (aD 0 (pv 0))) aF)))))))))))
abbrev jH:c7:=
 (c6 1 (aQ dJ (aE 1) (aQ j5 (dU (aA (aE 2) aG)) (aQ cW (aE 0) (aE 2)))))
abbrev p9:c7:=
 (aP (c6 1 (dU aG))
 (aP (fS (eR (aA (gD fO (aA (aE 0) aG)) aG)) (gN 2) jH)
 (c8 (aE 1))))
theorem Bq(m:At K mg "_law_kinds" "_law_kinds" (top 52) q0z)(bZ:mg "len"=ao)(b4:mg "range"=ao)(len:Ln sp 1)(hsp:∀ds Q,sp ds Q->p9  ↥Q (aN q1x ds)):Def P w K mg base 1 "_law_kinds" q0z (low K sp):=by
 have sc:FnScope q1x q0z (aM (top 52)):=by norm_cast
 refine m.okP (k:=0) (t:=p9 ) sc (λf cdv A outer s H E hr=>?_) len hsp
 ·
  have hu1:=fN hr;exact(aI (cI (i:=1) sc.nd rfl (.inl rfl) (cO aF))
 (aI (dY bu rfl (eD rfl b4 (aB (bN dZ rfl bZ ji (aB (aD 0 (pv 0)) aF)) aF)) (f8 (i:=2) (k:=3) sc.nd rfl (.inl rfl)) (aJ (cI (i:=1) sc.nd rfl (.inl rfl) (bA bC (aD 1 (pv 1)) (bA eG (cO (aB (aD 2 (pv 2)) aF)) (cF hu1 (aD 0 (pv 0)) (aD 2 (pv 2))))))))
 (aJ (bJ (aD 1 (pv 1))))))
abbrev lO:c7:=
 (aP (c6 4 (eJ 1 [0,3] (gX (aA (aQ dJ (aE 2) (eC (.int 1))) (aA (aE 3) aG))) (gN 0) (aV (aQ lB (aQ cW (aE 1) (aE 0)) (aQ cW (aE 1) (aE 2)))) (aE 0)))
 (aP (c6 5 (eJ 1 [0,3] (gX (aA (aQ dJ (aE 3) (eC (.int 1))) (aA (gD fO (aA (aE 0) aG)) aG))) (gN 0) (aV (aQ BE (aQ cW (aE 1) (aE 0)) (aQ cW (aE 1) (aE 2)))) (aE 0)))
 (gM (aV (aQ HD (aQ cW (aE 0) (aE 2)) (aQ cW (aE 0) (aE 3)))) (mX 1 (bY (aA (aE 2) (aA (aE 3) (aA (gD gK (aA (aQ dJ (aQ dJ (eJ 1 [] (eR (aA (aE 2) aG)) (gN 0) eP (aE 0)) (aE 4)) (aE 5)) aG)) aG))))) bH)))
abbrev lN:c7:=
 (fS (gX (aA (aQ dJ (aE 2) (eC (.int 1))) (aA (gD fO (aA (aE 0) aG)) aG))) (gN 3) lO)
abbrev uK:c7:=
 (aP (fR 1 (dU aG))
 (aP (fS (eR (aA (gD fO (aA (aE 0) aG)) aG)) (gN 2) lN)
 (c8 (aE 1))))
theorem Ev(m:At K mg "_law_low" "_law_low" (top 53) q1a)(bZ:mg "len"=ao)(b4:mg "range"=ao)(bU:mg "tuple"=ao)(len:Ln sp 1)(hsp:∀ds Q,sp ds Q->uK  ↥Q (aN q1y ds)):Def P w K mg base 1 "_law_low" q1a (low K sp):=by
 have sc:FnScope q1y q1a (aM (top 53)):=by norm_cast
 refine m.okP (k:=0) (t:=uK ) sc (λf cdv A outer s H E hr=>?_) len hsp
 ·
  have hu:=hr.units;have hu1:=fN hr;exact(aI (fJ (i:=1) sc.nd rfl (.inl rfl) (cO aF))
 (aI (dY bu rfl (eD rfl b4 (aB (bN dZ rfl bZ ji (aB (aD 0 (pv 0)) aF)) aF)) (f8 (i:=2) (k:=6) sc.nd rfl (.inl rfl)) (aJ (dY bu rfl (g7 rfl b4 (aB (bA bC (aD 2 (pv 2)) aH) (aB (bN dZ rfl bZ ji (aB (aD 0 (pv 0)) aF)) aF))) (f8 (i:=3) (k:=6) sc.nd rfl (.inr rfl)) (aI (uV (AG (iy:=4) q0n ["_law_kinds_here","_law_y"] [0,3] sc.nd rfl (.inl rfl) rfl (g7 rfl b4 (aB (bA bC (aD 2 (pv 2)) aH) (aB (aD 3 (pv 3)) aF))) (λfp s H=>(f8 (i:=0) (k:=1) (show jr (q2i:List bq) by decide +kernel) rfl (.inl rfl))) (λfp s H=>(qJ (b9 (dC hu) (cF hu1 (aD 1 (pv 1)) (aD 0 (pv 0))) (cF hu1 (aD 1 (pv 1)) (aD 2 (pv 2)))))) (λfp s H=>(aD 0 (pv 0)))))
 (aI (uV (AG (iy:=5) q0n ["_law_kinds_here","_law_y"] [0,3] sc.nd rfl (.inl rfl) rfl (g7 rfl b4 (aB (bA bC (aD 3 (pv 3)) aH) (aB (bN dZ rfl bZ ji (aB (aD 0 (pv 0)) aF)) aF))) (λfp s H=>(f8 (i:=0) (k:=1) (show jr (q2i:List bq) by decide +kernel) rfl (.inl rfl))) (λfp s H=>(qJ (b9 (rY hu) (cF hu1 (aD 1 (pv 1)) (aD 0 (pv 0))) (cF hu1 (aD 1 (pv 1)) (aD 2 (pv 2)))))) (λfp s H=>(aD 0 (pv 0)))))
 (aJ (dX (b9 rZ (cF hu1 (aD 0 (pv 0)) (aD 2 (pv 2))) (cF hu1 (aD 0 (pv 0)) (aD 3 (pv 3)))) (aJ (rE (i:=1) (pv 1) (cH (aB (aD 2 (pv 2)) (aB (aD 3 (pv 3)) (aB (eU fX rfl bU lv (aB (bA bC (bA bC (B6 q0n [] [] rfl (eD rfl b4 (aB (aD 2 (pv 2)) aF)) (λfp s H=>(f8 (i:=0) (k:=1) (show jr (q0n:List bq) by decide +kernel) rfl (.inl rfl))) (λfp s H=>kC) (λfp s H=>(aD 0 (pv 0)))) (aD 4 (pv 4))) (aD 5 (pv 5))) aF)) aF)))))) bF)))))))
 (aJ (bJ (aD 1 (pv 1))))))
abbrev pB(K:aq)(g5 iF lP iE jR aS eZ jS jQ jP:af):c7:=
 (aP (c6 1 (dU (aA (lJ K iE (aE 0)) (aA (lJ K lP (aE 0)) (aA (lJ K iF (aE 0)) (aA (lJ K g5 (aE 0)) aG))))))
 (aP (c6 1 (aQ dJ (aE 1) (dU (aA (lJ K jS (aE 0)) (aA (lJ K eZ (aE 0)) (aA (lJ K aS (aE 0)) (aA (lJ K jR (aE 0)) aG)))))))
 (aP (c6 1 (aQ dJ (aE 1) (dU (aA (lJ K jP (aE 0)) (aA (lJ K jQ (aE 0)) aG)))))
 (c8 (oP (aQ lB (Le (aE 1)) (eC (.int 1))) (Lc K (aE 0)))))))
theorem Bs{g5 iF lP iE jR eZ jS jQ jP:af}(m:At K mg "_law_alone" "_law_alone" (top 54) ["_law_e"])(aO:mg "isinstance"=ao)(nL:mg "ValueError"=ao)(sJ:mg "NoThrees"=ae (.ref g5))(v7:mg "NoFloor"=ae (.ref iF))(Bk:mg "NoRow"=ae (.ref lP))(v6:mg "NoSides"=ae (.ref iE))(yM:mg "NoHold"=ae (.ref jR))(gC:mg "TooMany"=ae (.ref aS))(pX:mg "NoHeights"=ae (.ref eZ))(yN:mg "NoFlip"=ae (.ref jS))(yL:mg "NoText"=ae (.ref jQ))(yK:mg "NoTurn"=ae (.ref jP))(len:Ln sp 1)(hsp:∀ds Q,sp ds Q->pB K g5 iF lP iE jR aS eZ jS jQ jP  ↥Q (aN q1z ds)):DefH P w K mg base 1 "_law_alone" ["_law_e"] (low K sp):=by
 have sc:FnScope q1z ["_law_e"] (aM (top 54)):=by norm_cast
 refine m.okH (k:=0) (t:=pB K g5 iF lP iE jR aS eZ jS jQ jP ) sc (λf cdv A outer s H E hr=>?_) len hsp
 ·
  have hu:=hr.units;exact(aI (cI (i:=1) sc.nd rfl (.inl rfl) (cO (aB (kT rfl aO (aD 0 (pv 0)) v6) (aB (kT rfl aO (aD 0 (pv 0)) Bk) (aB (kT rfl aO (aD 0 (pv 0)) v7) (aB (kT rfl aO (aD 0 (pv 0)) sJ) aF))))))
 (aI (cI (i:=1) sc.nd rfl (.inl rfl) (bA bC (aD 1 (pv 1)) (cO (aB (kT rfl aO (aD 0 (pv 0)) yN) (aB (kT rfl aO (aD 0 (pv 0)) pX) (aB (kT rfl aO (aD 0 (pv 0)) gC) (aB (kT rfl aO (aD 0 (pv 0)) yM) aF)))))))
 (aI (cI (i:=1) sc.nd rfl (.inl rfl) (bA bC (aD 1 (pv 1)) (cO (aB (kT rfl aO (aD 0 (pv 0)) yK) (aB (kT rfl aO (aD 0 (pv 0)) yL) aF)))))
 (aJ (bJ (vO (lE (dC hu) (P6 (aD 1 (pv 1)) pH) aH) (rB (P0 rfl aO (aD 0 (pv 0)) nL))))))))
abbrev iW:c7:=
 (aP (c6 5 (aQ gO (aE 1) (aQ dJ (aE 3) (eC (.int 1)))))
 (aP (c6 1 (aQ lX (aE 1) (aQ dJ (aE 3) (eC (.int 1)))))
 (aP (AE 2 (aE 4) (aE 5))
 (Gj 3 Cu (aE 5)))))
abbrev nP:c7:=
 (aP (fR 2 (aQ j5 (dU (aA (eC (.int 1)) aG)) (aE 0)))
 (aP (c6 3 (aQ tN (eC (.int 12)) (aE 0)))
 (aP (fS (eR (aA (aE 0) aG)) (gN 4) iW)
 (c8 (aE 2)))))
theorem zS(m:At K mg "_law_parted" "_law_parted" (top 55) q1b)(b4:mg "range"=ao)(len:Ln sp 2)(hsp:∀ds Q,sp ds Q->nP  ↥Q (aN q2a ds)):Def P w K mg base 1 "_law_parted" q1b (low K sp):=by
 have sc:FnScope q2a q1b (aM (top 55)):=by norm_cast
 refine m.okP (k:=0) (t:=nP ) sc (λf cdv A outer s H E hr=>?_) len hsp
 ·
  exact(aI (fJ (i:=2) sc.nd rfl (.inl rfl) (bA eG (cO (aB aH aF)) (aD 0 (pv 0))))
 (aI (cI (i:=3) sc.nd rfl (.inl rfl) (bA tQ aH (aD 0 (pv 0))))
 (aI (dY bu rfl (eD rfl b4 (aB (aD 0 (pv 0)) aF)) (f8 (i:=4) (k:=6) sc.nd rfl (.inl rfl)) (aI (cI (i:=5) sc.nd rfl (.inl rfl) (bA d3 (aD 1 (pv 1)) (bA bC (aD 3 (pv 3)) aH)))
 (aI (cI (i:=1) sc.nd rfl (.inl rfl) (bA gW (aD 1 (pv 1)) (bA bC (aD 3 (pv 3)) aH)))
 (aI (P7 (i:=2) (pv 2) (aD 4 (pv 4)) (aD 5 (pv 5)))
 (aJ (Rk (i:=3) LA sc.nd rfl (.inl rfl) (aD 5 (pv 5))))))))
 (aJ (bJ (aD 2 (pv 2)))))))
noncomputable def yK(ns:List Nat):List Dv:=ns.map λn:Nat=>.int n
noncomputable def yL(xs:List (List Nat)):List Dv:=xs.map λn=>.lst (yK n)
noncomputable def y1(ns:List Nat):dE:=dU (ns.foldr (λ(n:Nat) t=>aA (eC (.int n)) t) aG)
noncomputable def y2(xs:List (List Nat)):dE:=dU (xs.foldr (λn t=>aA (y1 n) t) aG)
abbrev nR(gE:Fn):c7:=
 (aP (c6 1 (aQ gO (aE 0) (eC (.int 6))))
 (aP (c6 2 (aQ lX (aE 0) (eC (.int 6))))
 (aP (gM (qZ (aV (aQ lB (aQ gO (aE 2) (eC (.int 8))) (eC (.int 7)))) (aV (aQ lB (aE 1) (eC (.int 3))))) (c8 (aQ cW (y2 [[1,1,10],[10,1,1],[1,10,1],[1,2,4],[4,1,2]]) (aQ gO (aQ lX (aE 2) (eC (.int 8))) (eC (.int 5))))) bH)
 (aP (gM (aV (aQ lB (aQ gO (aE 2) (eC (.int 8))) (eC (.int 7)))) (c8 (aU gE (aA (aQ cW (y1 [2,2,3,3,4,5]) (aE 1)) (aA (aQ lX (aE 2) (eC (.int 8))) aG)))) bH)
 (aP (gM (aV (aQ HD (aE 1) (eC (.int 2)))) (c8 (dU (aA (aQ dJ (eC (.int 1)) (aQ gO (aE 2) (eC (.int 3)))) (aA (aQ dJ (eC (.int 1)) (aQ gO (aQ lX (aE 2) (eC (.int 3))) (eC (.int 3)))) aG)))) bH)
 (aP (gM (aV (aQ lB (aE 1) (eC (.int 2)))) (c8 (dU (aA (aQ dJ (eC (.int 1)) (aQ gO (aE 2) (eC (.int 2)))) (aA (aQ dJ (eC (.int 1)) (aQ gO (aQ lX (aE 2) (eC (.int 2))) (eC (.int 2)))) (aA (aQ dJ (eC (.int 1)) (aQ gO (aQ lX (aE 2) (eC (.int 4))) (eC (.int 2)))) aG))))) bH)
 (aP (gM (aV (aQ lB (aE 1) (eC (.int 3)))) (c8 (aQ cW (y2 [[1,1,3],[3,1,1],[1,3,1],[1,2,3]]) (aQ gO (aE 2) (eC (.int 4))))) bH)
 (aP (gM (aV (aQ lB (aE 1) (eC (.int 4)))) (c8 (aQ cW (y2 [[1,1,1,1],[2,1,1,1],[1,2,1,1],[1,1,2,1],[1,1,1,2]]) (aQ gO (aE 2) (eC (.int 5))))) bH)
 (c8 (aQ j5 (dU (aA (eC (.int 1)) aG)) (aQ dJ (eC (.int 5)) (aQ gO (aE 2) (eC (.int 2))))))))))))))
theorem zU{gE:Fn}(m:At K mg "_law_counts" "_law_counts" (top 56) ["_law_cell"])(oG:Def P w K mg base 1 "_law_parted" q1b (low K gE))(zM:MonoF gE)(len:Ln sp 1)(hsp:∀ds Q,sp ds Q->nR gE ↥Q (aN q2b ds)):Def P w K mg base 2 "_law_counts" ["_law_cell"] (low K sp):=by
 have sc:FnScope q2b ["_law_cell"] (aM (top 56)):=by norm_cast
 refine m.okP (k:=1) (t:=nR gE) sc (λf cdv A outer s H E hr=>?_) len hsp
 ·
  have hu:=hr.units;have hu1:=fN hr;exact(aI (cI (i:=1) sc.nd rfl (.inl rfl) (bA d3 (aD 0 (pv 0)) aH))
 (aI (cI (i:=2) sc.nd rfl (.inl rfl) (bA gW (aD 0 (pv 0)) aH))
 (aI (dX (QW.qt (rV (b9 (dC hu) (bA d3 (aD 2 (pv 2)) aH) aH) (nZ (b9 (dC hu) (aD 1 (pv 1)) aH)))) (aJ (bJ (cF hu1 (cO (aB (cO (aB aH (aB aH (aB aH aF)))) (aB (cO (aB aH (aB aH (aB aH aF)))) (aB (cO (aB aH (aB aH (aB aH aF)))) (aB (cO (aB aH (aB aH (aB aH aF)))) (aB (cO (aB aH (aB aH (aB aH aF)))) aF)))))) (bA d3 (bA gW (aD 2 (pv 2)) aH) aH)))) bF)
 (aI (dX (b9 (dC hu) (bA d3 (aD 2 (pv 2)) aH) aH) (aJ (bJ (aW oG zM (hr.mono ∅) (aB (cF hu1 (cO (aB aH (aB aH (aB aH (aB aH (aB aH (aB aH aF))))))) (aD 1 (pv 1))) (aB (bA gW (aD 2 (pv 2)) aH) aF))))) bF)
 (aI (dX (b9 rZ (aD 1 (pv 1)) aH) (aJ (bJ (cO (aB (bA bC aH (bA d3 (aD 2 (pv 2)) aH)) (aB (bA bC aH (bA d3 (bA gW (aD 2 (pv 2)) aH) aH)) aF))))) bF)
 (aI (dX (b9 (dC hu) (aD 1 (pv 1)) aH) (aJ (bJ (cO (aB (bA bC aH (bA d3 (aD 2 (pv 2)) aH)) (aB (bA bC aH (bA d3 (bA gW (aD 2 (pv 2)) aH) aH)) (aB (bA bC aH (bA d3 (bA gW (aD 2 (pv 2)) aH) aH)) aF)))))) bF)
 (aI (dX (b9 (dC hu) (aD 1 (pv 1)) aH) (aJ (bJ (cF hu1 (cO (aB (cO (aB aH (aB aH (aB aH aF)))) (aB (cO (aB aH (aB aH (aB aH aF)))) (aB (cO (aB aH (aB aH (aB aH aF)))) (aB (cO (aB aH (aB aH (aB aH aF)))) aF))))) (bA d3 (aD 2 (pv 2)) aH)))) bF)
 (aI (dX (b9 (dC hu) (aD 1 (pv 1)) aH) (aJ (bJ (cF hu1 (cO (aB (cO (aB aH (aB aH (aB aH (aB aH aF))))) (aB (cO (aB aH (aB aH (aB aH (aB aH aF))))) (aB (cO (aB aH (aB aH (aB aH (aB aH aF))))) (aB (cO (aB aH (aB aH (aB aH (aB aH aF))))) (aB (cO (aB aH (aB aH (aB aH (aB aH aF))))) aF)))))) (bA d3 (aD 2 (pv 2)) aH)))) bF)
 (aJ (bJ (bA eG (cO (aB aH aF)) (bA bC aH (bA d3 (aD 2 (pv 2)) aH)))))))))))))
abbrev uJ:c7:=
 (c8 (gD gK (aA (gD n6 (aA (aQ kU (aE 0) (bY (aA (aE 1) aG))) aG)) aG)))
theorem Eu(m:At K mg "_law_put" "_law_put" (top 57) q0m)(cX:mg "sorted"=ao)(bU:mg "tuple"=ao)(len:Ln sp 2)(hsp:∀ds Q,sp ds Q->uJ  ↥Q (aN q0m ds)):Def P w K mg base 1 "_law_put" q0m (low K sp):=by
 have sc:FnScope q0m q0m (aM (top 57)):=by norm_cast
 refine m.okP (k:=0) (t:=uJ ) sc (λf cdv A outer s H E hr=>?_) len hsp
 ·
  exact(aJ (bJ (eU fX rfl bU lv (aB (bN yW rfl cX vw (aB (bA tS (aD 0 (pv 0)) (cH (aB (aD 1 (pv 1)) aF))) aF)) aF))))
abbrev mF(cT:Fn):c7:=
 (mW 2 (bY (aA (aE 3) (aA (aE 4) aG))) (aE 5))
abbrev jJ(cT:Fn):c7:=
 (gM (aV (aQ HE (bY (aA (aE 4) (aA (aE 7) aG))) (aE 2))) (aP (c6 8 (aQ cW (aE 2) (bY (aA (aE 3) (aA (aE 4) aG)))))
 (aP (c6 9 (aQ cW (aE 2) (bY (aA (aE 3) (aA (aE 7) aG)))))
 (aP (c6 10 (aQ cW (aE 2) (bY (aA (aE 4) (aA (aE 7) aG)))))
 (aP (gM (qZ (aV (aQ lB (aE 8) (aE 10))) (aV (aQ lB (aE 9) (aU cT (aA (aE 8) (aA (aE 4) aG)))))) (aP (fR 11 (gD pN (aA (aE 2) aG)))
 (aP (mW 11 (bY (aA (aE 3) (aA (aE 4) aG))) (aU cT (aA (aE 8) (aA (aE 7) aG))))
 (aP (mW 11 (bY (aA (aE 3) (aA (aE 7) aG))) (aE 8))
 (aP (mW 11 (bY (aA (aE 4) (aA (aE 7) aG))) (aU cT (aA (aE 8) (aA (aE 3) aG))))
 (vY 11 (mX 6 (gD g8 (aA (eJ 1 [11] (lH (aE 11)) (gN 0) eP (aQ kU (aE 0) (bY (aA (aQ cW (aE 1) (aE 0)) aG)))) aG)))))))) bH)
 (gM (qZ (aV (aQ lB (aE 8) (aU cT (aA (aE 9) (aA (aE 7) aG))))) (aV (aQ lB (aE 10) (aU cT (aA (aE 9) (aA (aE 3) aG)))))) (aP (fR 11 (gD pN (aA (aE 2) aG)))
 (aP (mW 11 (bY (aA (aE 3) (aA (aE 4) aG))) (aE 9))
 (aP (mW 11 (bY (aA (aE 3) (aA (aE 7) aG))) (aU cT (aA (aE 9) (aA (aE 4) aG))))
 (aP (mW 11 (bY (aA (aE 4) (aA (aE 7) aG))) (aE 9))
 (vY 11 (mX 6 (gD g8 (aA (eJ 1 [11] (lH (aE 11)) (gN 0) eP (aQ kU (aE 0) (bY (aA (aQ cW (aE 1) (aE 0)) aG)))) aG)))))))) bH))))) bH)
abbrev jI(cT:Fn):c7:=
 (fS (gX (aA (aQ dJ (aE 4) (eC (.int 1))) (aA (gD fO (aA (aE 1) aG)) aG))) (gN 7) (jJ cT))
abbrev pA(cT:Fn):c7:=
 (aP (fR 2 R3)
 (aP (fS (kY (aE 0)) (gT [3,4,5]) (mF cT))
 (vY 2 (aP (fR 6 (dU aG))
 (aP (fS (lH (aE 2)) (gT [3,4]) (jI cT))
 (c8 (aE 6)))))))
theorem Br{cT:Fn}(m:At K mg "_law_flips" "_law_flips" (top 58) q1c)(bZ:mg "len"=ao)(b4:mg "range"=ao)(Ak:mg "dict"=ao)(cX:mg "sorted"=ao)(i9:Def P w K mg base 1 "_law_put" q0m (low K cT))(j8:MonoF cT)(len:Ln sp 2)(hsp:∀ds Q,sp ds Q->pA cT ↥Q (aN q2c ds)):Def P w K mg base 2 "_law_flips" q1c (low K sp):=by
 have sc:FnScope q2c q1c (aM (top 58)):=by norm_cast
 refine m.okP (k:=1) (t:=pA cT) sc (λf cdv A outer s H E hr=>?_) len hsp
 ·
  have hu:=hr.units;have hu1:=fN hr;exact(aI (fJ (i:=2) sc.nd rfl (.inl rfl) B7)
 (aI (dY bu rfl (fK (aD 0 (pv 0))) (CW (k:=12) (is:=[3,4,5]) rfl (d6 (dO (i:=3) sc.nd rfl (.inl rfl)) (d6 (dO (i:=4) sc.nd rfl (.inl rfl)) (d6 (dO (i:=5) sc.nd rfl (.inl rfl)) lF)))) (aJ (tD hu1 (i:=2) (pv 2) (cH (aB (aD 3 (pv 3)) (aB (aD 4 (pv 4)) aF))) (aD 5 (pv 5)))))
 (FM 2 (aI (fJ (i:=6) sc.nd rfl (.inl rfl) (cO aF))
 (aI (dY bu rfl (wK (aD 2 (pv 2))) (CW (k:=12) (is:=[3,4]) rfl (d6 (dO (i:=3) sc.nd rfl (.inl rfl)) (d6 (dO (i:=4) sc.nd rfl (.inl rfl)) lF))) (aJ (dY bu rfl (g7 rfl b4 (aB (bA bC (aD 4 (pv 4)) aH) (aB (bN dZ rfl bZ ji (aB (aD 1 (pv 1)) aF)) aF))) (f8 (i:=7) (k:=12) sc.nd rfl (.inl rfl)) (aJ (dX (b9 (Fy hu1) (cH (aB (aD 4 (pv 4)) (aB (aD 7 (pv 7)) aF))) (aD 2 (pv 2))) (aI (cI (i:=8) sc.nd rfl (.inl rfl) (cF hu1 (aD 2 (pv 2)) (cH (aB (aD 3 (pv 3)) (aB (aD 4 (pv 4)) aF)))))
 (aI (cI (i:=9) sc.nd rfl (.inl rfl) (cF hu1 (aD 2 (pv 2)) (cH (aB (aD 3 (pv 3)) (aB (aD 7 (pv 7)) aF)))))
 (aI (cI (i:=10) sc.nd rfl (.inl rfl) (cF hu1 (aD 2 (pv 2)) (cH (aB (aD 4 (pv 4)) (aB (aD 7 (pv 7)) aF)))))
 (aI (dX (QW.qt (rV (b9 (dC hu) (aD 8 (pv 8)) (aD 10 (pv 10))) (nZ (b9 (dC hu) (aD 9 (pv 9)) (aW i9 j8 (hr.mono ∅) (aB (aD 8 (pv 8)) (aB (aD 4 (pv 4)) aF))))))) (aI (fJ (i:=11) sc.nd rfl (.inr rfl) (eU De rfl Ak boot_dict (aB (aD 2 (pv 2)) aF)))
 (aI (tD hu1 (i:=11) (pv 11) (cH (aB (aD 3 (pv 3)) (aB (aD 4 (pv 4)) aF))) (aW i9 j8 (hr.mono ∅) (aB (aD 8 (pv 8)) (aB (aD 7 (pv 7)) aF))))
 (aI (tD hu1 (i:=11) (pv 11) (cH (aB (aD 3 (pv 3)) (aB (aD 7 (pv 7)) aF))) (aD 8 (pv 8)))
 (aI (tD hu1 (i:=11) (pv 11) (cH (aB (aD 4 (pv 4)) (aB (aD 7 (pv 7)) aF))) (aW i9 j8 (hr.mono ∅) (aB (aD 8 (pv 8)) (aB (aD 3 (pv 3)) aF))))
 (FM 11 (aJ (rE (i:=6) (pv 6) (bN vD rfl cX vw (aB (B6 ["_law_pair"] ["_law_new"] [11] rfl (wK (aD 11 (pv 11))) (λfp s H=>(f8 (i:=0) (k:=1) (show jr (["_law_pair","_law_new"]:List bq) by decide +kernel) rfl (.inl rfl))) (λfp s H=>kC) (λfp s H=>(bA tS (aD 0 (pv 0)) (cH (aB (cF hu1 (aD 1 (pv 1)) (aD 0 (pv 0))) aF))))) aF))))))))) bF)
 (aJ (dX (QW.qt (rV (b9 (dC hu) (aD 8 (pv 8)) (aW i9 j8 (hr.mono ∅) (aB (aD 9 (pv 9)) (aB (aD 7 (pv 7)) aF)))) (nZ (b9 (dC hu) (aD 10 (pv 10)) (aW i9 j8 (hr.mono ∅) (aB (aD 9 (pv 9)) (aB (aD 3 (pv 3)) aF))))))) (aI (fJ (i:=11) sc.nd rfl (.inr rfl) (eU De rfl Ak boot_dict (aB (aD 2 (pv 2)) aF)))
 (aI (tD hu1 (i:=11) (pv 11) (cH (aB (aD 3 (pv 3)) (aB (aD 4 (pv 4)) aF))) (aD 9 (pv 9)))
 (aI (tD hu1 (i:=11) (pv 11) (cH (aB (aD 3 (pv 3)) (aB (aD 7 (pv 7)) aF))) (aW i9 j8 (hr.mono ∅) (aB (aD 9 (pv 9)) (aB (aD 4 (pv 4)) aF))))
 (aI (tD hu1 (i:=11) (pv 11) (cH (aB (aD 4 (pv 4)) (aB (aD 7 (pv 7)) aF))) (aD 9 (pv 9)))
 (FM 11 (aJ (rE (i:=6) (pv 6) (bN vD rfl cX vw (aB (B6 ["_law_pair"] ["_law_new"] [11] rfl (wK (aD 11 (pv 11))) (λfp s H=>(f8 (i:=0) (k:=1) (show jr (["_law_pair","_law_new"]:List bq) by decide +kernel) rfl (.inl rfl))) (λfp s H=>kC) (λfp s H=>(bA tS (aD 0 (pv 0)) (cH (aB (cF hu1 (aD 1 (pv 1)) (aD 0 (pv 0))) aF))))) aF))))))))) bF)))))) bF)))))
 (aJ (bJ (aD 6 (pv 6)))))))))
abbrev gZ(dQ:Fn):c7:=
 (gM (aV (aQ tO (gD gK (aA (aE 6) aG)) (aE 4))) (aP (xM 4 (gD gK (aA (aE 6) aG)) (eC (.bl ak)))
 (mX 3 (aE 6))) bH)
abbrev jY(dQ:Fn):c7:=
 (aP (fS (kY (aU dQ (aA (aQ cW (aE 3) (aE 5)) (aA (aE 0) aG)))) (gN 6) (gZ dQ))
 (c6 5 (aQ dJ (aE 5) (eC (.int 1)))))
abbrev lU(dQ:Fn):c7:=
 (aP (fR 3 (dU (aA (aE 1) aG)))
 (aP (fR 4 (Nj (gD gK (aA (aE 1) aG)) (eC (.bl ak))))
 (aP (c6 5 (eC (.int 0)))
 (aP (Ay (qZ (aV (aQ HD (aE 5) (gD fO (aA (aE 3) aG)))) (aV (aQ Mr (gD fO (aA (aE 3) aG)) (aE 2)))) (jY dQ))
 (c8 (gD pM (aA (aE 3) aG)))))))
theorem yS{dQ:Fn}(m:At K mg "_law_reached" "_law_reached" (top 59) q1d)(bU:mg "tuple"=ao)(bZ:mg "len"=ao)(cX:mg "sorted"=ao)(q9:Def P w K mg base 2 "_law_flips" q1c (low K dQ))(BM:MonoF dQ)(len:Ln sp 3)(hsp:∀ds Q,sp ds Q->lU dQ ↥Q (aN q2d ds)):Def P w K mg base 3 "_law_reached" q1d (low K sp):=by
 have sc:FnScope q2d q1d (aM (top 59)):=by norm_cast
 refine m.okP (k:=2) (t:=lU dQ) sc (λf cdv A outer s H E hr=>?_) len hsp
 ·
  have hu1:=fN hr;have hu65:=wH hr;have hu2:=LD hr;exact(aI (fJ (i:=3) sc.nd rfl (.inl rfl) (cO (aB (aD 1 (pv 1)) aF)))
 (aI (fJ (i:=4) sc.nd rfl (.inl rfl) (Ri hu2 (eU fX rfl bU lv (aB (aD 1 (pv 1)) aF)) pH))
 (aI (cI (i:=5) sc.nd rfl (.inl rfl) aH)
 (aI (MQ bu (QW.qt (rV (b9 rZ (aD 5 (pv 5)) (bN dZ rfl bZ ji (aB (aD 3 (pv 3)) aF))) (nZ (b9 BF (bN dZ rfl bZ ji (aB (aD 3 (pv 3)) aF)) (aD 2 (pv 2)))))) (aI (dY bu rfl (fK (aW q9 BM (hr.mono ∅) (aB (cF hu1 (aD 3 (pv 3)) (aD 5 (pv 5))) (aB (aD 0 (pv 0)) aF)))) (f8 (i:=6) (k:=7) sc.nd rfl (.inl rfl)) (aJ (dX (b9 (EK hu2) (eU fX rfl bU lv (aB (aD 6 (pv 6)) aF)) (aD 4 (pv 4))) (aI (JE hu2 (i:=4) (pv 4) (eU fX rfl bU lv (aB (aD 6 (pv 6)) aF)) pH)
 (aJ (rE (i:=3) (pv 3) (aD 6 (pv 6))))) bF)))
 (aJ (cI (i:=5) sc.nd rfl (.inl rfl) (bA bC (aD 5 (pv 5)) aH)))))
 (aJ (bJ (bN (yX hu65) rfl cX vw (aB (aD 3 (pv 3)) aF))))))))
abbrev lT(K:aq)(eL aS:af)(iD:Fn)(fH:IS):c7:=
 (aP (J2 aS 2 fH (aA (aE 0) (aA (aE 1) aG)) (c8 (oP (lJ K aS (aE 2)) (aU iD (aA (aE 2) aG)))) bH)
 (c8 (eC (.bl am))))
theorem yR{iD:Fn}{fH:IS}{eL:af}(m:At K mg "_law_refused" "_law_refused" (top 60) q0s)(aO:mg "isinstance"=ao)(oF:mg "SlantError"=ae (.ref eL))(x_TooMany_SlantError:Yi K (.ref aS) (.ref eL)=ae ak)(gC:mg "TooMany"=ae (.ref aS))(jF:DefX P w K mg base 7 "all_floors" q0r (lowX K fH))(yA:MonoX fH)(qA:DefH P w K mg base 1 "_law_alone" ["_law_e"] (low K iD))(BN:MonoF iD)(len:Ln sp 2)(hsp:∀ds Q,sp ds Q->lT K eL aS iD fH ↥Q (aN q2e ds)):Def P w K mg base 8 "_law_refused" q0s (low K sp):=by
 have sc:FnScope q2e q0s (aM (top 60)):=by norm_cast
 refine m.okP (k:=7) (t:=lT K eL aS iD fH) sc (λf cdv A outer s H E hr=>?_) len hsp
 ·
  exact(aI (Rb (i:=2) (λ_ _ z=>z) jF yA (hr.mono ∅) (aB (aD 0 (pv 0)) (aB (aD 1 (pv 1)) aF)) sc.nd oF x_TooMany_SlantError (λa=>(aJ (bJ (vO (kT rfl aO (aD 2 (pv 2)) gC) (rB (MU qA BN (Room.inx (hr.mono ∅) _) (aB (aD 2 (pv 2)) aF))))))) bF)
 (aJ (bJ pH)))
abbrev iY(cY:Fn):c7:=
 (aP (gM (Et (lC (jM (v8 "tuple" (aE 2)))) (Et (aV (aQ BE (gD fO (aA (aE 2) aG)) (eC (.int 3)))) (Et (lC (jM (aU cY (aA (aQ cW (aE 2) (eC (.int 0))) aG)))) (lC (jM (aU cY (aA (aQ cW (aE 2) (eC (.int 1))) aG))))))) (c8 (eC (.bl am))) bH)
 (gM (Et (lC (jM (v8 "tuple" (aQ cW (aE 2) (eC (.int 2)))))) (lC (jM (gD HG (aA (eJ 1 [] (kY (aQ cW (aE 2) (eC (.int 2)))) (gN 0) eP (aU cY (aA (aE 0) aG))) aG))))) (c8 (eC (.bl am))) bH))
abbrev iX(cY:Fn):c7:=
 (aP (gM (lC (jM (v8 "list" (aE 1)))) (c8 (eC (.bl am))) bH)
 (fS (kY (aE 1)) (gN 2) (iY cY)))
abbrev nQ(cY:Fn):c7:=
 (aP (gM (lC (jM (v8 "list" (aE 0)))) (c8 (eC (.bl am))) bH)
 (aP (fS (kY (aE 0)) (gN 1) (iX cY))
 (c8 (eC (.bl ak)))))
theorem zT{cY:Fn}(m:At K mg "_law_formed" "_law_formed" (top 61) ["_law_told"])(aO:mg "isinstance"=ao)(rL:mg "list"=ao)(bU:mg "tuple"=ao)(bZ:mg "len"=ao)(A7:mg "all"=ao)(jN:Def P w K mg base 1 "_law_whole" q0l (low K cY))(oB:MonoF cY)(len:Ln sp 1)(hsp:∀ds Q,sp ds Q->nQ cY ↥Q (aN q2f ds)):Def P w K mg base 2 "_law_formed" ["_law_told"] (low K sp):=by
 have sc:FnScope q2f ["_law_told"] (aM (top 61)):=by norm_cast
 refine m.okP (k:=1) (t:=nQ cY) sc (λf cdv A outer s H E hr=>?_) len hsp
 ·
  have hu:=hr.units;have hu1:=fN hr;exact(aI (dX (fI (eT (rC (.inr (.inr (.inr (.inl rfl)))) rfl aO (aD 0 (pv 0)) (iN (v:=.ty "list") rfl rL ZU rfl)))) (aJ (bJ pH)) bF)
 (aI (dY bu rfl (fK (aD 0 (pv 0))) (f8 (i:=1) (k:=3) sc.nd rfl (.inl rfl)) (aI (dX (fI (eT (rC (.inr (.inr (.inr (.inl rfl)))) rfl aO (aD 1 (pv 1)) (iN (v:=.ty "list") rfl rL ZU rfl)))) (aJ (bJ pH)) bF)
 (aJ (dY bu rfl (fK (aD 1 (pv 1))) (f8 (i:=2) (k:=3) sc.nd rfl (.inl rfl)) (aI (dX (QW.qt (tB (fI (eT (rC (.inr (.inr (.inl rfl))) rfl aO (aD 2 (pv 2)) (iN (v:=.ty "tuple") rfl bU lv rfl)))) (tB (b9 (rY hu) (bN dZ rfl bZ ji (aB (aD 2 (pv 2)) aF)) aH) (tB (fI (eT (aW jN oB (hr.mono ∅) (aB (cF hu1 (aD 2 (pv 2)) aH) aF)))) (uU (fI (eT (aW jN oB (hr.mono ∅) (aB (cF hu1 (aD 2 (pv 2)) aH) aF))))))))) (aJ (bJ pH)) bF)
 (aJ (dX (QW.qt (tB (fI (eT (rC (.inr (.inr (.inl rfl))) rfl aO (cF hu1 (aD 2 (pv 2)) aH) (iN (v:=.ty "tuple") rfl bU lv rfl)))) (uU (fI (eT (bN (Lo rfl) rfl A7 boot_all (aB (B6 q0n [] [] rfl (fK (cF hu1 (aD 2 (pv 2)) aH)) (λfp s H=>(f8 (i:=0) (k:=1) (show jr (q0n:List bq) by decide +kernel) rfl (.inl rfl))) (λfp s H=>kC) (λfp s H=>(aW jN oB (hr.mono ∅) (aB (aD 0 (pv 0)) aF)))) aF))))))) (aJ (bJ pH)) bF)))))))
 (aJ (bJ pH))))
abbrev hC:c7:=
 (aP (c6 2 (aQ j5 (aE 2) (aQ dJ (aQ dJ (aQ dJ (aE 4) (aE 5)) (aE 6)) (eC (.int 2)))))
 (c6 3 (aQ j5 (aE 3) (aQ dJ (aQ dJ (aQ dJ (aE 4) (aE 5)) (aE 6)) (eC (.int 1))))))
abbrev h9:c7:=
 (fS (eR (aA (aQ cW (aE 0) (eC (.int 2))) aG)) (gN 6) hC)
abbrev h7:c7:=
 (fS (eR (aA (aQ cW (aE 0) (eC (.int 1))) aG)) (gN 5) h9)
abbrev lV:c7:=
 (aP (gM (aV (aQ lB (gD fO (aA (aE 0) aG)) (eC (.int 2)))) (c8 (aQ lB (aE 1) (eC (.int 1)))) bH)
 (aP (gM (aV (aQ EJ (gD fO (aA (aE 0) aG)) (eC (.int 3)))) (c8 (eC (.bl ak))) bH)
 (aP (c6 2 (eC (.int 1)))
 (aP (c6 3 (eC (.int 1)))
 (aP (fS (eR (aA (aQ cW (aE 0) (eC (.int 0))) aG)) (gN 4) h7)
 (c8 (aQ lB (aQ j5 (aE 1) (aE 3)) (aE 2))))))))
theorem yT(m:At K mg "_law_counted" "_law_counted" (top 62) q1e)(bZ:mg "len"=ao)(b4:mg "range"=ao)(len:Ln sp 2)(hsp:∀ds Q,sp ds Q->lV  ↥Q (aN q2g ds)):Def P w K mg base 1 "_law_counted" q1e (low K sp):=by
 have sc:FnScope q2g q1e (aM (top 62)):=by norm_cast
 refine m.okP (k:=0) (t:=lV ) sc (λf cdv A outer s H E hr=>?_) len hsp
 ·
  have hu:=hr.units;have hu1:=fN hr;exact(aI (dX (b9 (dC hu) (bN dZ rfl bZ ji (aB (aD 0 (pv 0)) aF)) aH) (aJ (bJ (lE (dC hu) (aD 1 (pv 1)) aH))) bF)
 (aI (dX (b9 kW (bN dZ rfl bZ ji (aB (aD 0 (pv 0)) aF)) aH) (aJ (bJ pH)) bF)
 (aI (cI (i:=2) sc.nd rfl (.inl rfl) aH)
 (aI (cI (i:=3) sc.nd rfl (.inl rfl) aH)
 (aI (dY bu rfl (eD rfl b4 (aB (cF hu1 (aD 0 (pv 0)) aH) aF)) (f8 (i:=4) (k:=7) sc.nd rfl (.inl rfl)) (aJ (dY bu rfl (eD rfl b4 (aB (cF hu1 (aD 0 (pv 0)) aH) aF)) (f8 (i:=5) (k:=7) sc.nd rfl (.inl rfl)) (aJ (dY bu rfl (eD rfl b4 (aB (cF hu1 (aD 0 (pv 0)) aH) aF)) (f8 (i:=6) (k:=7) sc.nd rfl (.inl rfl)) (aI (cI (i:=2) sc.nd rfl (.inl rfl) (bA eG (aD 2 (pv 2)) (bA bC (bA bC (bA bC (aD 4 (pv 4)) (aD 5 (pv 5))) (aD 6 (pv 6))) aH)))
 (aJ (cI (i:=3) sc.nd rfl (.inl rfl) (bA eG (aD 3 (pv 3)) (bA bC (bA bC (bA bC (aD 4 (pv 4)) (aD 5 (pv 5))) (aD 6 (pv 6))) aH))))))))))
 (aJ (bJ (lE (dC hu) (bA eG (aD 1 (pv 1)) (aD 3 (pv 3))) (aD 2 (pv 2))))))))))
abbrev p8(bV f7 gF fF:Fn):c7:=
 (aP (gM (aV (aQ EJ (gD fO (aA (aE 2) aG)) (aE 3))) (c8 (aU bV (aA (aE 0) (aA (aE 3) aG)))) bH)
 (t7 4 f7 (aA (aE 0) (aA (aE 3) aG)) (Et (lC (jM (aU gF (aA (aE 4) aG)))) (Et (aV (aQ BE (aE 4) (aE 2))) (lC (jM (aU fF (aA (aE 1) (aA (gD fO (aA (aE 4) aG)) aG))))))) (c8 (eC (.bl am)))
 (c8 (aQ lB (aU f7 (aA (aE 0) (aA (aE 3) aG))) (aE 2)))))
theorem Bp{f7 gF fF:Fn}(m:At K mg "_law_tried" "_law_tried" (top 63) q1f)(bZ:mg "len"=ao)(eM:Def P w K mg base 8 "_law_refused" q0s (low K bV))(iP:MonoF bV)(kI:Def P w K mg base 7 "all_floors" q0r (low K f7))(rH:MonoF f7)(oH:Def P w K mg base 2 "_law_formed" ["_law_told"] (low K gF))(zN:MonoF gF)(mC:Def P w K mg base 1 "_law_counted" q1e (low K fF))(y8:MonoF fF)(len:Ln sp 4)(hsp:∀ds Q,sp ds Q->p8 bV f7 gF fF ↥Q (aN q2h ds)):Def P w K mg base 9 "_law_tried" q1f (low K sp):=by
 have sc:FnScope q2h q1f (aM (top 63)):=by norm_cast
 refine m.okP (k:=8) (t:=p8 bV f7 gF fF) sc (λf cdv A outer s H E hr=>?_) len hsp
 ·
  have hu:=hr.units;exact(aI (dX (b9 kW (bN dZ rfl bZ ji (aB (aD 2 (pv 2)) aF)) (aD 3 (pv 3))) (aJ (bJ (aW eM iP (hr.mono ∅) (aB (aD 0 (pv 0)) (aB (aD 3 (pv 3)) aF))))) bF)
 (JD (i:=4) kI rH (hr.mono ∅) (aB (aD 0 (pv 0)) (aB (aD 3 (pv 3)) aF)) (QW.qt (tB (fI (eT (aW oH zN (hr.mono ∅) (aB (aD 4 (pv 4)) aF)))) (tB (b9 (rY hu) (aD 4 (pv 4)) (aD 2 (pv 2))) (uU (fI (eT (aW mC y8 (hr.mono ∅) (aB (aD 1 (pv 1)) (aB (bN dZ rfl bZ ji (aB (aD 4 (pv 4)) aF)) aF))))))))) (aJ (bJ pH)) aH
 (aJ (bJ (lE (dC hu) (aW kI rH (hr.mono ∅) (aB (aD 0 (pv 0)) (aB (aD 3 (pv 3)) aF))) (aD 2 (pv 2))))) sc.nd rfl (.inl rfl) (pv 4) (pv 4)))
abbrev Iu(fZ gG iC jA kO fE fY bV qP:Fn):c7:=
 (aP (c6 1 (aU gG (aA (aU fZ (aA (aE 0) (aA (eC (.int 0)) aG))) aG)))
 (aP (c6 2 (aU iC (aA (aE 1) aG)))
 (aP (c6 3 (DQ qP (aA (aU jA (aA (aE 1) (aA (aU fZ (aA (aE 0) (aA (eC (.int 1)) aG))) aG))) aG)))
 (aP (c6 4 (aU fZ (aA (aE 0) (aA (eC (.int 2)) aG))))
 (aP (c6 5 (eC (.int 40)))
 (aP (gM (aV (aQ EJ (gD EH (aA (aE 1) aG)) (eC (.int 8)))) (c6 5 (eC (.int 12))) bH)
 (aP (c6 6 (aQ gO (aE 4) (aQ dJ (aE 5) (eC (.int 1)))))
 (aP (gM (qZ (aV (aQ lB (aE 5) (eC (.int 40)))) (aV (aQ lB (aQ gO (aQ lX (aE 4) (eC (.int 41))) (eC (.int 8))) (eC (.int 3))))) (aP (c6 5 (eC (.int 70)))
 (c6 6 (aQ dJ (eC (.int 41)) (aQ gO (aQ lX (aE 4) (eC (.int 328))) (eC (.int 30)))))) bH)
 (aP (c6 7 (aU fE (aA (aE 2) (aA (aU kO (aA (aE 2) aG)) (aA (aE 5) aG)))))
 (aP (gM (qZ (aV (aQ lB (aE 5) (eC (.int 70)))) (aV (aQ Mr (gD fO (aA (aE 7) aG)) (eC (.int 40))))) (c6 6 (aQ dJ (eC (.int 41)) (aQ gO (aQ lX (aE 4) (eC (.int 328))) (eC (.int 260))))) bH)
 (aP (gM (lC (jM (aU fY (aA (aE 3) (aA (aE 1) (aA (aE 7) (aA (aE 6) aG))))))) (c8 (eC (.bl am))) bH)
 (aP (gM (aV (aQ EJ (gD fO (aA (aE 7) aG)) (aE 5))) (c8 (aU bV (aA (aE 3) (aA (aE 5) aG)))) bH)
 (c8 (oP (aU fY (aA (aE 3) (aA (aE 1) (aA (aE 7) (aA (gD fO (aA (aE 7) aG)) aG))))) (aU bV (aA (aE 3) (aA (aQ tN (gD fO (aA (aE 7) aG)) (eC (.int 1))) aG)))))))))))))))))
theorem Qf{fZ gG iC jA kO fE fY qP:Fn}{fL:af}{fdL:ko}(F:Fun K "law" "law" (top 64) fL fdL)(A5:mg "sum"=ao)(bZ:mg "len"=ao)(kZ:Def P w K mg base 1 "_law_deep" q0x (low K fZ))(pR:MonoF fZ)(oI:Def P w K mg base 2 "_law_counts" ["_law_cell"] (low K gG))(zO:MonoF gG)(q8:Def P w K mg base 1 "_law_kinds" q0z (low K iC))(BL:MonoF iC)(sO:Def P w K mg base 1 "_law_dirs" q0y (low K jA))(D4:MonoF jA)(vB:Def P w K mg base 1 "_law_low" q1a (low K kO))(ES:MonoF kO)(mB:Def P w K mg base 3 "_law_reached" q1d (low K fE))(y7:MonoF fE)(lK:Def P w K mg base 9 "_law_tried" q1f (low K fY))(tX:MonoF fY)(eM:Def P w K mg base 8 "_law_refused" q0s (low K bV))(iP:MonoF bV)(Bw:IDef P w K mg base 5 "Sides" C q0p qP)(KS:MonoF qP)(len:Ln sp 1)(hsp:∀ds Q,sp ds Q->Iu fZ gG iC jA kO fE fY bV qP ↥Q (aN q1g ds)):FnOk P w K mg base CF 10 fL fdL q1h (low K sp):=by
 have sc:FnScope q1g q1h (aM (top 64)):=by norm_cast
 refine F.ok (k:=9) sc (wP len) λcdv A outer s H vs Q E hr qq=>wX (N:=q1g) (t:=Iu fZ gG iC jA kO fE fY bV qP) ?_ hsp qq
 ·
  have hu:=hr.units;exact(aI (cI (i:=1) sc.nd rfl (.inl rfl) (aW oI zO (hr.mono ∅) (aB (aW kZ pR (hr.mono ∅) (aB (aD 0 (pv 0)) (aB aH aF))) aF)))
 (aI (cI (i:=2) sc.nd rfl (.inl rfl) (aW q8 BL (hr.mono ∅) (aB (aD 1 (pv 1)) aF)))
 (aI (cI (i:=3) sc.nd rfl (.inl rfl) (Oz Bw KS (hr.mono ∅) (aB (aW sO D4 (hr.mono ∅) (aB (aD 1 (pv 1)) (aB (aW kZ pR (hr.mono ∅) (aB (aD 0 (pv 0)) (aB aH aF))) aF))) aF)))
 (aI (cI (i:=4) sc.nd rfl (.inl rfl) (aW kZ pR (hr.mono ∅) (aB (aD 0 (pv 0)) (aB aH aF))))
 (aI (cI (i:=5) sc.nd rfl (.inl rfl) aH)
 (aI (dX (b9 kW (bN (Lm rfl) rfl A5 boot_sum (aB (aD 1 (pv 1)) aF)) aH) (aJ (cI (i:=5) sc.nd rfl (.inl rfl) aH)) bF)
 (aI (cI (i:=6) sc.nd rfl (.inl rfl) (bA d3 (aD 4 (pv 4)) (bA bC (aD 5 (pv 5)) aH)))
 (aI (dX (QW.qt (rV (b9 (dC hu) (aD 5 (pv 5)) aH) (nZ (b9 (dC hu) (bA d3 (bA gW (aD 4 (pv 4)) aH) aH) aH)))) (aI (cI (i:=5) sc.nd rfl (.inl rfl) aH)
 (aJ (cI (i:=6) sc.nd rfl (.inl rfl) (bA bC aH (bA d3 (bA gW (aD 4 (pv 4)) aH) aH))))) bF)
 (aI (cI (i:=7) sc.nd rfl (.inl rfl) (aW mB y7 (hr.mono ∅) (aB (aD 2 (pv 2)) (aB (aW vB ES (hr.mono ∅) (aB (aD 2 (pv 2)) aF)) (aB (aD 5 (pv 5)) aF)))))
 (aI (dX (QW.qt (rV (b9 (dC hu) (aD 5 (pv 5)) aH) (nZ (b9 BF (bN dZ rfl bZ ji (aB (aD 7 (pv 7)) aF)) aH)))) (aJ (cI (i:=6) sc.nd rfl (.inl rfl) (bA bC aH (bA d3 (bA gW (aD 4 (pv 4)) aH) aH)))) bF)
 (aI (dX (fI (eT (aW lK tX (hr.mono ∅) (aB (aD 3 (pv 3)) (aB (aD 1 (pv 1)) (aB (aD 7 (pv 7)) (aB (aD 6 (pv 6)) aF))))))) (aJ (bJ pH)) bF)
 (aI (dX (b9 kW (bN dZ rfl bZ ji (aB (aD 7 (pv 7)) aF)) (aD 5 (pv 5))) (aJ (bJ (aW eM iP (hr.mono ∅) (aB (aD 3 (pv 3)) (aB (aD 5 (pv 5)) aF))))) bF)
 (aJ (bJ (vO (aW lK tX (hr.mono ∅) (aB (aD 3 (pv 3)) (aB (aD 1 (pv 1)) (aB (aD 7 (pv 7)) (aB (bN dZ rfl bZ ji (aB (aD 7 (pv 7)) aF)) aF))))) (rB (aW eM iP (hr.mono ∅) (aB (aD 3 (pv 3)) (aB (bA tQ (bN dZ rfl bZ ji (aB (aD 7 (pv 7)) aF)) aH) aF)))))))))))))))))))
end
end _W
namespace Fl
noncomputable abbrev ids(n:Nat):List Int:=(iw n).map λ(k:Nat)=>(k:Int)
variable {l:List Int}{y:Int}
section
variable {p:Nat}{x:Int}
end
noncomputable abbrev kd(ks:List Int)(x:Int):Int:=ks.getD x.toNat 0
variable {e r:List Int}
section
variable {x:Int}
end
noncomputable def pc:List Int->Nat
 | []=>0
 |x::r=>(r.filter λy=>decide (x<y)).length+pc r
end Fl
set_option maxHeartbeats 8000000
namespace Fl
variable {r e:List Int}
section
variable {L:Nat}{kk:Int->Int}{T:Int->Int->Nat}
end
noncomputable def srt(l:List Int):List Int:=l.mergeSort λa b=>decide (a<=b)
theorem eS(l:List Int):(srt l).Perm l:=List.mergeSort_perm l _
theorem Dy(l:List Int):(srt l).Pairwise (· <= ·):=by
 have:=List.pairwise_mergeSort (le:=λa b:Int=>decide (a<=b)) (λa b c h1 h2=>by simp at *;ac_rfl) (λa b=>by simp;ac_rfl) l;exact this.imp λh=>of_decide_eq_true h
theorem Am:∀{l m:List Int},l.Perm m->l.Pairwise (· <= ·)->m.Pairwise (· <= ·)->l=m
 | [],m,p,_,_=>(a0o.mp p).symm
 |x::l,[],p,_,_=>by have:=p.length_eq;simp at this
 |x::l,y::m,p,h1,h2=>by
  obtain⟨a1,a2⟩:=ip.mp h1;obtain⟨b1,b2⟩:=ip.mp h2;have e:x=y:=by
   have i1:x∈y::m:=p.mem_iff.mp (bz ..);have i2:y∈x::l:=p.mem_iff.mpr (bz ..);rcases bv.mp i1 with z | z
   ·exact z
   ·rcases bv.mp i2 with q | q
    ·exact q.symm
    ·have:=b1 x z;have:=a1 y q;ac_rfl
  subst e;rw[Am (Zz _ |>.mp p) a2 b2]
theorem mO{l m:List Int}(p:m.Perm l)(h:m.Pairwise (· <= ·)):m=srt l:=Am (p.trans (eS l).symm) h (Dy l)
theorem lD(l:List Int):(srt l).length=l.length:=(eS l).length_eq
def Qw(s1 s2 s3:List Int)(a b c:Int):Prop:=(s3=s1/\s2=srt (s1++[b])) \/ (s1=srt (s2++[c])/\s3=srt (s2++[a]))
instance (s1 s2 s3:List Int) (a b c:Int):Decidable (Qw s1 s2 s3 a b c):=by unfold Qw;exact inferInstance
section
variable {R S cur:List Int}
end
end Fl
variable {rows:List Sf.Rw}
namespace _W
open _L _Z
open Sf (Rw crs vH Pre Good aK bB)
noncomputable abbrev rD(r:Rw):Dv:=.tup [.int r.x,.int r.y,.int r.m]
noncomputable abbrev CC(rows:List Rw):List Dv:=rows.map rD
noncomputable abbrev cC(r:List Int):List Dv:=r.map Dv.int
noncomputable abbrev Al(rows:List Rw):List Dv:=rows.map λr=>.tup [.int r.x,.int r.y]
noncomputable abbrev bL(C:af)(rows:List Rw):Dv:=.obj C [("kinds",.tup (cC (aK rows))),("vectors",.tup (Al rows))]
def Qz(r:Rw):Prop:=r.up /\ -999999999999<=r.x/\r.x<=999999999999/\r.y<=999999999999/\1<=r.m
def Av:Fn:=λds Q=>∃n:Int,ds=[.int n]/\Q (.v (.bl ak))
def sZ:Fn:=λds Q=>∃r:Rw,ds=[rD r]/\Q (.v (.bl ak))
def uM:Fn:=λds Q=>∃r:Rw,ds=[rD r]/\Qz r/\Q (.v (.bl ak))
def nS:Fn:=λds Q=>∃r a:Rw,ds=[rD r,rD a]/\Qz r/\Qz a/\0<crs a r/\Q (.v (.bl ak))
def nX:Fn:=λds Q=>∃r:Rw,ds=[rD r]/\Qz r/\Q (.v .non)
def uN:Fn:=λds Q=>∃rows:List Rw,ds=[.lst (CC rows)]/\Good rows/\Q (.v .non)
def pE(C:af):Fn:=λds Q=>∃rows:List Rw,ds=[.lst (CC rows)]/\Good rows/\Q (.nw (bL C rows))
theorem NN:Ln Av 1:=by rintro ds Q ⟨_,rfl,_⟩;rfl
theorem Hf:Ln sZ 1:=by rintro ds Q ⟨_,rfl,_⟩;rfl
theorem G4:Ln uM 1:=by rintro ds Q ⟨_,rfl,_⟩;rfl
theorem Kf:Ln nS 2:=by rintro ds Q ⟨_,_,rfl,_⟩;rfl
theorem Kl:Ln nX 1:=by rintro ds Q ⟨_,rfl,_⟩;rfl
theorem NQ:Ln uN 1:=by rintro ds Q ⟨_,rfl,_⟩;rfl
theorem Hh:∀ds Q,pE C ds Q->ds.length+1=2:=by rintro ds Q ⟨_,rfl,_⟩;rfl
theorem Pw:MonoF Av:=⟨λds Q Q' w z=>by obtain⟨r,e,h⟩:=z;exact⟨r,e,w _ h⟩⟩
theorem KL:MonoF sZ:=⟨λds Q Q' w z=>by obtain⟨r,e,h⟩:=z;exact⟨r,e,w _ h⟩⟩
theorem KO:MonoF uM:=⟨λds Q Q' w z=>by obtain⟨r,e,a,h⟩:=z;exact⟨r,e,a,w _ h⟩⟩
theorem N5:MonoF nS:=⟨λds Q Q' w z=>by obtain⟨r,e,a,b,c,d,h⟩:=z;exact⟨r,e,a,b,c,d,w _ h⟩⟩
theorem NA:MonoF nX:=⟨λds Q Q' w z=>by obtain⟨r,e,a,h⟩:=z;exact⟨r,e,a,w _ h⟩⟩
theorem Py:MonoF uN:=⟨λds Q Q' w z=>by obtain⟨r,e,a,h⟩:=z;exact⟨r,e,a,w _ h⟩⟩
theorem KM:MonoF (pE C):=⟨λds Q Q' w z=>by obtain⟨r,e,a,h⟩:=z;exact⟨r,e,a,w _ h⟩⟩
theorem EE:∀ds Q,Av ds Q->rO ↥Q (aN q0h ds):=by
 rintro ds Q ⟨n,rfl,q⟩;ac_nf;exact⟨rfl,rfl,q⟩
theorem rW:∀ds Q,sZ ds Q->hU Av ↥Q (aN q0a ds):=by
 rintro ds Q ⟨r,rfl,q⟩;ac_nf;refine⟨rfl,?_⟩;rw[show DH "tuple" (rD r)=ak from rfl];ac_nf;rw[show (!decide (((0+1+1+1:Nat):Int)=3))=am from rfl];ac_nf;refine⟨_,rfl,?_⟩;ac_nf;refine⟨_,rfl,?_⟩;ac_nf;refine⟨_,rfl,?_⟩;ac_nf;exact⟨[ak,ak,ak],rfl,q⟩
theorem tL:∀ds Q,uM ds Q->iK ↥Q (aN q0a ds):=by
 rintro ds Q ⟨r,rfl,⟨hu,h1,h2,h3,_⟩,q⟩;have hy:0<=r.y:=by rcases hu with h | h<;>ac_rfl
 ac_nf;rw[a0G (show (if r.x<0 then -r.x else r.x)<=999999999999 by split<;>ac_rfl),decide_eq_true (show (if r.y<0 then -r.y else r.y)<=999999999999 by split<;>ac_rfl)];exact q
theorem Ce:∀ds Q,uM ds Q->oZ ↥Q (aN q0a ds):=by
 rintro ds Q ⟨r,rfl,⟨hu,h1,h2,h3,_⟩,q⟩;ac_nf;rcases hu with h | ⟨h,h'⟩
 ·rw[a0G h];exact q
 ·rw[a0h ⋯,a0G h,decide_eq_true h'];exact q
theorem Cg:∀ds Q,nS ds Q->p6 ↥Q (aN q0i ds):=by
 rintro ds Q ⟨r,a,rfl,⟨hu,h1,h2,h3,_⟩,⟨gu,g1,g2,g3,_⟩,hc,q⟩;ac_nf;refine⟨.inl (.inl ⟨⋯,⋯⟩),.inl (.inl ⟨⋯,⋯⟩),?_⟩;rw[decide_eq_true (show 0<a.x*r.y-r.x*a.y from hc)];exact q
theorem tM:∀ds Q,nX ds Q->iL sZ uM uM ↥Q (aN q0a ds):=by
 rintro ds Q ⟨r,rfl,ok,q⟩;ac_nf;refine⟨r,rfl,?_⟩;ac_nf;refine⟨r,rfl,ok,?_⟩;ac_nf;refine⟨r,rfl,ok,?_⟩;ac_nf;rw[a0h (by have:=ok.2.2.2.2;ac_rfl)];exact q
variable {E:En}
theorem Sy{x:Sl}:∀(rows:List Rw) (s t:Sl),(∀r∈rows,Qz r)->(∀s,E.nx [x,s,t])->b8 (gN 1) (jO nX nS) [] (CC rows) E [x,s,t]:=by
 intro rows;induction rows with
 |nil=>
  intro s t _ h;ac_nf;exact h s
 |cons r rs ih=>
  intro s t ok h;ac_nf;refine⟨r,rfl,ok r (by simp),?_⟩;ac_nf;exact ih _ _ (λr hr=>ok r (by simp[hr])) h
variable {Q:R->Prop}
theorem Sw:∀(rows:List Rw) (acc:List Int),acc.length+rows.length<=100->Q (.nw (.lst (cC (acc++rows.map (·.m)))))->d8 [.un] (gN 0) eP (aQ cW (aE 0) (eC (.int 2))) (CC rows) (cC acc) Q:=by
 intro rows;induction rows with
 |nil=>
  intro acc _ h;ac_nf;simpa using h
 |cons r rs ih=>
  intro acc hl h;simp only[dg] at hl;push_cast [bf];refine⟨⋯,?_⟩;rw[show cC acc++[Dv.int r.m]=cC (acc++[r.m]) by simp];exact ih _ ⋯ (by simpa using h)
theorem Sx{x:Sl}:∀(rows:List Rw) (s t:Sl),vH rows->(∀r∈rows,Qz r)->(∀s t,E.nx [x,s,t])->b8 (gT [2,1]) (g4 nX nS) [] (CG (CC rows) (CC (rows.drop 1))) E [x,s,t]:=by
 intro rows;induction rows with
 |nil=>
  intro s t _ _ h;push_cast [CG,List.zipWith_nil_left];exact h s t
 |cons a rs ih=>
  intro s t srt ok h;cases rs with
  |nil=>
   push_cast [CG,List.drop,Ye];exact h s t
  |cons b rs=>
   push_cast [CG,List.drop,Ye];refine⟨b,a,rfl,ok b (by simp),ok a (by simp),?_,?_⟩
   ·exact(ip.mp srt).1 b (by simp)
   ·ac_nf;exact ih _ _ (ip.mp srt).2 (λr hr=>ok r (by simp at hr ⊢;exact .inr hr)) h
theorem rX:∀ds Q,uN ds Q->hV nX nS ↥Q (aN q1l ds):=by
 rintro ds Q ⟨rows,rfl,G,q⟩;have lo:=G.lo;have hi:=G.hi;push_cast [bf];refine⟨rfl,?_⟩;rw[show DH "list" (.lst (CC rows))=ak from rfl];ac_nf;rw[a0G ⋯,decide_eq_true (show (rows.length:Int)<=6 by ac_rfl)];ac_nf;refine Sy rows _ _ G.ok λs=>?_;ac_nf;refine Sw rows [] ⋯ ?_;refine⟨rows.map (·.m),by simp,?_⟩;ac_nf;rw[a0h (by have:=G.tot;unfold Sf.many at this;ac_rfl)];show b8 (gT [2,1]) (g4 nX nS) [] _ _ _;rw[Lj ∅,show (CC rows).drop (Int.toNat 1)=CC (rows.drop 1) by simp[CC]];exact Sx rows _ _ G.srt G.ok λs t=>q
theorem Ha(h:∀r∈rows,1<=r.m):∀k,Sf.many (rows.take k)<=Sf.many rows:=by
 induction rows with
 |nil=>intro k;simp
 |cons r rs ih=>
  intro k;cases k with
  |zero=>
   have:=ih (λr hr=>h r (by simp[hr])) 0;have hm:=h r (by simp);simp only[Sf.many,List.take_zero,qe,sum_nil,ef,vc] at *;ac_rfl
  |succ k=>
   have:=ih (λr hr=>h r (by simp[hr])) k;simp only[Sf.many,List.take_succ_cons,ef,vc] at *;ac_rfl
theorem QR{x y:Sl}:∀(rs:List Rw) (k:Nat) (ks:List Int) (s t:Sl),(∀r∈rs,1<=r.m)->(ks.length:Int)+Sf.many rs<=12->(∀s t,E.nx [x,y,.own a (.lst (cC (ks++bB k rs))),s,t]) ->
  b8 (gT [3,4]) (uC C uN) [] (((CC rs).zipIdx k).map λq=>.tup [.int (q.2:Int),q.1]) E [x,y,.own a (.lst (cC ks)),s,t]:=by
 intro rs;induction rs with
 |nil=>
  intro k ks s t _ _ h;push_cast [YU];simpa [bB] using h s t
 |cons r rs ih=>
  intro k ks s t ok hb h;have hm:=ok r (by simp);have hp:0<=Sf.many rs:=by
   have:=Ha (λr hr=>ok r (by simp[hr])) (rows:=rs) 0;simpa [Sf.many] using this
  have hb':(ks.length:Int)+(r.m+Sf.many rs)<=12:=by simpa [Sf.many] using hb
  push_cast [YG,uC,bf];refine⟨⟨⋯,⋯,⋯⟩,?_⟩;have e:(av r.m.toNat [Dv.int (k:Int)]).flatten=cC (av r.m.toNat (k:Int)):=by
   rw[kx];simp
  rw[e];refine⟨⋯,?_⟩;rw[show cC ks++cC (av r.m.toNat (k:Int))=cC (ks++av r.m.toNat (k:Int)) by simp];refine ih (k+1) _ _ _ (λr hr=>ok r (by simp[hr])) ⋯ λs t=>?_;rw[eo];exact h s t
theorem QQ:∀(rows:List Rw) (acc:List Rw),acc.length+rows.length<=100->Q (.nw (.lst (Al (acc++rows))))->d8 [.un] (gN 0) eP (bY (aA (aQ cW (aE 0) (eC (.int 0))) (aA (aQ cW (aE 0) (eC (.int 1))) aG))) (CC rows) (Al acc) Q:=by
 intro rows;induction rows with
 |nil=>
  intro acc _ h;ac_nf;simpa using h
 |cons r rs ih=>
  intro acc hl h;simp only[dg] at hl;push_cast [bf];refine⟨⋯,?_⟩;rw[show Al acc++[Dv.tup [Dv.int r.x,Dv.int r.y]]=Al (acc++[r]) by simp];exact ih _ ⋯ (by simpa using h)
theorem Pf:∀ds Q,pE C ds Q -> ∀a,Dw C uN { nx:=λρ=>∃d,ρ[0]?=ae (.own a d)/\Q (.nw d),rt:=λ_=>False } (jV C a q1m ds):=by
 rintro ds Q ⟨rows,rfl,G,q⟩ a;have hi:=G.hi;ac_nf;refine⟨rows,rfl,G,?_⟩;ac_nf;intro b;show b8 (gT [3,4]) (uC C uN) [] (((CC rows).zipIdx 0).map λq=>.tup [.int (q.2:Int),q.1]) _ [_,_,.own b (.lst (cC [])),_,_];refine QR rows 0 [] _ _ (λr hr=>(G.ok r hr).2.2.2.2) (by simpa using G.tot) λs t=>?_;ac_nf;refine QQ rows [] ⋯ ?_;ac_nf;exact⟨(by decide:1<1000),_,rfl,q⟩
end _W
namespace _W
open _L _Z
open Sf (Rw crs vH Pre Good aK bB place many)
open Fl (kd ids)
theorem oM{r:List Int}{k:Nat}(h:k<r.length):sU (cC r) (k:Int)=ae (.int (r.getD k 0)):=by
 rw[jK ⋯ ⋯];simp[gz,h]
def eF(C:af):Fn:=λds Q=>∃(rows:List Rw) (b:Nat),ds=[bL C rows,.int b]/\b<(aK rows).length/\Q (.v (.int ((aK rows).getD b 0)))
theorem Kg:Ln (eF C) 2:=by rintro ds Q ⟨_,_,rfl,_⟩;rfl
theorem dG:MonoF (eF C):=⟨λds Q Q' w z=>by obtain⟨r,b,e,a,h⟩:=z;exact⟨r,b,e,a,w _ h⟩⟩
theorem Pe:∀ds Q,eF C ds Q->Dt C ↥Q (aN q0e ds):=by
 rintro ds Q ⟨rows,b,rfl,hb,h⟩;ac_nf;rw[show List.lookup (iz "kinds") [(iz "kinds",Dv.tup (cC (aK rows))),(iz "vectors",Dv.tup (Al rows))]=ae (Dv.tup (cC (aK rows))) from rfl];ac_nf;rw[oM hb];exact h
def dM(C:af):Fn:=λds Q=>∃rows:List Rw,ds=[bL C rows]/\Q (.v (.int (aK rows).length))
theorem Kd:Ln (dM C) 1:=by rintro ds Q ⟨_,rfl,_⟩;rfl
theorem gA:MonoF (dM C):=⟨λds Q Q' w z=>by obtain⟨r,e,h⟩:=z;exact⟨r,e,w _ h⟩⟩
theorem Pd:∀ds Q,dM C ds Q->Ds C ↥Q (aN q0b ds):=by
 rintro ds Q ⟨rows,rfl,h⟩;ac_nf;rw[show List.lookup (iz "kinds") [(iz "kinds",Dv.tup (cC (aK rows))),(iz "vectors",Dv.tup (Al rows))]=ae (Dv.tup (cC (aK rows))) from rfl];push_cast [bf];exact h
noncomputable abbrev vZ(l:List (Int×Int)):List Dv:=l.map λt=>.tup [.int t.1,.int t.2]
noncomputable abbrev uI(l:List (Int×Int×Int)):List Dv:=l.map λt=>.tup [.int t.1,.int t.2.1,.int t.2.2]
noncomputable def AV(ks:List Int)(a:Int):Nat->Nat->List (Int×Int)
 |0,_=>[]
 |i+1,b=>(if kd ks a=kd ks b then [] else [(a,(b:Int))])++AV ks a i (b+1)
noncomputable def o8(ks:List Int):Nat->Nat->List (Int×Int)
 |0,_=>[]
 |i+1,a=>AV ks a (ks.length-(a+1)) (a+1)++o8 ks i (a+1)
noncomputable def bQ(ks:List Int):List (Int×Int):=o8 ks ks.length 0
noncomputable def BW(ks:List Int)(a b:Int):Nat->Nat->List (Int×Int×Int)
 |0,_=>[]
 |i+1,c=>(if kd ks c=kd ks b then [] else [(a,b,(c:Int))])++BW ks a b i (c+1)
noncomputable def gL(ks:List Int)(l:List (Int×Int)):List (Int×Int×Int):=l.flatMap λt=>BW ks t.1 t.2 (ks.length-(t.2.toNat+1)) (t.2.toNat+1)
noncomputable def bD(ks:List Int):List (Int×Int×Int):=gL ks (bQ ks)
theorem tZ(ks:List Int)(a:Int):∀i b,(AV ks a i b).length<=i
 |0,_=>cg _
 |i+1,b=>by rw[AV,dh];have:=tZ ks a i (b+1);split<;>simp<;>ac_rfl
theorem tP(ks:List Int):∀i a,(o8 ks i a).length<=i*ks.length
 |0,_=>qd _
 |i+1,a=>by rw[o8,dh,Z8];have:=tP ks i (a+1);have:=tZ ks a (ks.length-(a+1)) (a+1);ac_rfl
theorem wR(ks:List Int)(a b:Int):∀i c,(BW ks a b i c).length<=i
 |0,_=>cg _
 |i+1,c=>by rw[BW,dh];have:=wR ks a b i (c+1);split<;>simp<;>ac_rfl
theorem nO(ks:List Int):∀l,(gL ks l).length<=l.length*ks.length
 | []=>qd _
 |t::l=>by
  have h1:=nO ks l;have h2:=wR ks t.1 t.2 (ks.length-(t.2.toNat+1)) (t.2.toNat+1);unfold gL at h1 ⊢;rw[Yl,dh,dg,Z8];ac_rfl
theorem wS(ks:List Int)(a:Int):∀(i b:Nat) (t:Int×Int),t∈AV ks a i b ↔ t.1=a/\(b:Int)<=t.2/\t.2<(b+i:Nat)/\kd ks a≠kd ks t.2
 |0,b,t=>by simp[AV];intro _ h1 h2;ac_rfl
 |i+1,b,t=>by
  rw[AV,cr,wS ks a i (b+1) t];obtain⟨x,y⟩:=t;by_cases e:kd ks a=kd ks (b:Int)
  ·rw[a0G e];constructor
   ·rintro(h | ⟨h1,h2,h3,h4⟩)
    ·cases h
    ·exact⟨h1,⋯,⋯,h4⟩
   ·rintro⟨h1,h2,h3,h4⟩;have:y≠(b:Int):=λz=>h4 (by rw[z];exact e);exact .inr ⟨h1,by dsimp only at *;ac_rfl,by dsimp only at *;ac_rfl,h4⟩
  ·rw[a0h e];constructor
   ·rintro(h | ⟨h1,h2,h3,h4⟩)
    ·rw[cq] at h;cases h;exact⟨rfl,X0 _,by dsimp only;ac_rfl,e⟩
    ·exact⟨h1,⋯,⋯,h4⟩
   ·rintro⟨h1,h2,h3,h4⟩;by_cases z:y=(b:Int)
    ·exact .inl (by rw[cq,z];dsimp only at h1;rw[h1])
    ·exact .inr ⟨h1,by dsimp only at *;ac_rfl,by dsimp only at *;ac_rfl,h4⟩
theorem xW(ks:List Int):∀(i a:Nat) (t:Int×Int),a+i=ks.length->(t∈o8 ks i a ↔ (a:Int)<=t.1/\t.1<t.2/\t.2<ks.length/\kd ks t.1≠kd ks t.2)
 |0,a,t,h=>by simp[o8];intro h1 h2 h3;ac_rfl
 |i+1,a,t,h=>by
  rw[o8,cr,wS,xW ks i (a+1) t ⋯];constructor
  ·rintro(⟨h1,h2,h3,h4⟩ | ⟨h1,h2,h3,h4⟩)
   ·exact⟨⋯,⋯,⋯,by rw[h1];exact h4⟩
   ·exact⟨⋯,h2,h3,h4⟩
  ·rintro⟨h1,h2,h3,h4⟩;by_cases z:t.1=(a:Int)
   ·exact .inl ⟨z,⋯,⋯,by rw[<- z];exact h4⟩
   ·exact .inr ⟨⋯,h2,h3,h4⟩
theorem cN{t:Int×Int}:t∈bQ ks ↔ 0<=t.1/\t.1<t.2/\t.2<ks.length/\kd ks t.1≠kd ks t.2:=xW ks ks.length 0 t ⋯
theorem GD(ks:List Int)(a b:Int):∀(i c:Nat) (t:Int×Int×Int),t∈BW ks a b i c->t.1=a/\t.2.1=b/\(c:Int)<=t.2.2/\t.2.2<(c+i:Nat)/\kd ks t.2.2≠kd ks b
 |0,c,t,h=>by cases h
 |i+1,c,t,h=>by
  rw[BW,cr] at h;rcases h with h | h
  ·split at h
   ·cases h
   ·rename_i e;rw[cq] at h;cases h;exact⟨rfl,rfl,X0 _,by dsimp only;ac_rfl,e⟩
  ·obtain⟨h1,h2,h3,h4,h5⟩:=GD ks a b i (c+1) t h;exact⟨h1,h2,⋯,⋯,h5⟩
theorem f6{t:Int×Int×Int}(h:t∈bD ks):0<=t.1/\t.1<t.2.1/\t.2.1<t.2.2/\t.2.2<ks.length/\kd ks t.1≠kd ks t.2.1/\kd ks t.2.1≠kd ks t.2.2:=by
 obtain⟨u,hu,ht⟩:=WY.mp h;obtain⟨a1,a2,a3,a4⟩:=cN.mp hu;obtain⟨h1,h2,h3,h4,h5⟩:=GD ks u.1 u.2 _ _ t ht;exact⟨⋯,⋯,⋯,⋯,by rw[h1,h2];exact a4,by rw[h2];exact λz=>h5 z.symm⟩
def fQ(C:af):Fn:=λds Q=>∃rows:List Rw,ds=[bL C rows]/\(aK rows).length<=12/\Q (.nw (.lst (vZ (bQ (aK rows)))))
theorem Hi:Ln (fQ C) 1:=by rintro ds Q ⟨_,rfl,_⟩;rfl
theorem n9:MonoF (fQ C):=⟨λds Q Q' w z=>by obtain⟨r,e,a,h⟩:=z;exact⟨r,e,a,w _ h⟩⟩
variable {l:af}{E:En}
theorem Mo{a:Nat}(ha:a<(aK rows).length):∀(i b:Nat) (acc:List (Int×Int)) (s:Sl),b+i=(aK rows).length->acc.length+i<=1000 ->
  (∀s,E.nx [.v (bL C rows),.own l (.lst (vZ (acc++AV (aK rows) a i b))),.v (.int a),s]) ->
  b8 (gN 3) (Ah C (dM C) (eF C)) [] (bE b i) E [.v (bL C rows),.own l (.lst (vZ acc)),.v (.int a),s]:=by
 intro i;induction i with
 |zero=>
  intro b acc s _ _ h;rw[bS,b6];exact⟨gq,by simpa [AV] using h s⟩
 |succ i ih=>
  intro b acc s hb hl h;push_cast [bI,bf];refine⟨rfl,rows,a,rfl,ha,?_⟩;ac_nf;refine⟨rfl,rows,b,rfl,⋯,?_⟩;ac_nf;rw[uP b];by_cases e:(aK rows).getD a 0=(aK rows).getD b 0
  ·rw[decide_eq_true e];ac_nf;refine ih (b+1) acc _ ⋯ ⋯ λs=>?_;have:=h s;rw[AV,a0G (by simpa [kd] using e)] at this;exact this
  ·rw[decide_eq_false e];ac_nf;refine⟨⋯,?_⟩;rw[show vZ acc++[Dv.tup [Dv.int a,Dv.int b]]=vZ (acc++[((a:Int),(b:Int))]) by simp];refine ih (b+1) _ _ ⋯ ⋯ λs=>?_;have:=h s;rw[AV,a0h (by simpa [kd] using e)] at this;simpa using this
theorem Mn(hn:(aK rows).length<=12):∀(i a:Nat) (acc:List (Int×Int)) (s t:Sl),a+i=(aK rows).length->acc.length+i*12<=500 ->
  (∀s t,E.nx [.v (bL C rows),.own l (.lst (vZ (acc++o8 (aK rows) i a))),s,t]) ->
  b8 (gN 2) (nI C (dM C) (eF C)) [] (bE a i) E [.v (bL C rows),.own l (.lst (vZ acc)),s,t]:=by
 intro i;induction i with
 |zero=>
  intro a acc s t _ _ h;rw[bS,b6];exact⟨gq,by simpa [o8] using h s t⟩
 |succ i ih=>
  intro a acc s t ha hl h;rw[bI,b7];refine⟨gq,?_⟩;have nx:∀s t,b8 (gN 2) (nI C (dM C) (eF C)) [] (bE ((a:Int)+1) i) E [.v (bL C rows),.own l (.lst (vZ (acc++AV (aK rows) a ((aK rows).length-(a+1)) (a+1)))),s,t]:=λs t=>by
   have il:=tZ (aK rows) a ((aK rows).length-(a+1)) (a+1);refine ih (a+1) _ s t ⋯ ⋯ λs t=>?_;have:=h s t;rw[o8] at this;simpa using this
  generalize b8 (gN 2) (nI C (dM C) (eF C)) [] (bE ((a:Int)+1) i) E=G at nx ⊢;push_cast [nI];refine⟨rfl,rows,rfl,?_⟩;ac_nf;refine⟨⟨⋯,⋯,⋯⟩,?_⟩;rw[show ((aK rows).length-((a:Int)+1)).toNat=(aK rows).length-(a+1) by ac_rfl,uP a];exact Mo ⋯ _ (a+1) acc _ ⋯ ⋯ λs=>nx _ s
theorem Mp:∀ds Q,fQ C ds Q->Ar C (dM C) (eF C) ↥Q (aN q1o ds):=by
 rintro ds Q ⟨rows,rfl,hn,h⟩;ac_nf;intro l;refine⟨rfl,rows,rfl,?_⟩;ac_nf;refine⟨⋯,?_⟩;rw[show ((aK rows).length:Int).toNat=(aK rows).length by ac_rfl];refine Mn hn _ 0 [] _ _ ⋯ ⋯ λs t=>?_;ac_nf;exact h
end _W
namespace _W
open _L _Z
open Sf (Rw crs vH Pre Good aK bB place many)
open Fl (kd ids)
def i8(C:af):Fn:=λds Q=>∃rows:List Rw,ds=[bL C rows]/\(aK rows).length<=12/\Q (.nw (.lst (uI (bD (aK rows)))))
theorem EZ:Ln (i8 C) 1:=by rintro ds Q ⟨_,rfl,_⟩;rfl
theorem g9:MonoF (i8 C):=⟨λds Q Q' w z=>by obtain⟨r,e,a,h⟩:=z;exact⟨r,e,a,w _ h⟩⟩
variable {l:af}{E:En}
theorem Ip{a b:Int}(hb:0<=b/\b<(aK rows).length):∀(i c:Nat) (acc:List (Int×Int×Int)) (s:Sl),c+i=(aK rows).length->acc.length+i<=10000 ->
  (∀s,E.nx [.v (bL C rows),.own l (.lst (uI (acc++BW (aK rows) a b i c))),.v (.int a),.v (.int b),s]) ->
  b8 (gN 4) (yZ C (fQ C) (dM C) (eF C)) [] (bE c i) E [.v (bL C rows),.own l (.lst (uI acc)),.v (.int a),.v (.int b),s]:=by
 intro i;induction i with
 |zero=>
  intro c acc s _ _ h;rw[bS,b6];exact⟨gq,by simpa [BW] using h s⟩
 |succ i ih=>
  intro c acc s hc hl h;push_cast [bI,bf];refine⟨rfl,rows,c,rfl,⋯,?_⟩;ac_nf;refine⟨rfl,rows,b.toNat,by rw[ux hb.1],⋯,?_⟩;ac_nf;rw[uP c];by_cases e:(aK rows).getD c 0=(aK rows).getD b.toNat 0
  ·rw[decide_eq_true e];ac_nf;refine ih (c+1) acc _ ⋯ ⋯ λs=>?_;have:=h s;rw[BW,a0G (by simpa [kd] using e)] at this;exact this
  ·rw[decide_eq_false e];ac_nf;refine⟨⋯,?_⟩;rw[show uI acc++[Dv.tup [Dv.int a,Dv.int b,Dv.int c]]=uI (acc++[(a,b,(c:Int))]) by simp];refine ih (c+1) _ _ ⋯ ⋯ λs=>?_;have:=h s;rw[BW,a0h (by simpa [kd] using e)] at this;simpa using this
theorem Io(hn:(aK rows).length<=12):∀(ps:List (Int×Int)) (acc:List (Int×Int×Int)) (s t u:Sl),(∀t∈ps,0<=t.2/\t.2<(aK rows).length)->acc.length+ps.length*12<=5000 ->
  (∀s t u,E.nx [.v (bL C rows),.own l (.lst (uI (acc++gL (aK rows) ps))),s,t,u]) ->
  b8 (gT [2,3]) (l9 C (fQ C) (dM C) (eF C)) [] (vZ ps) E [.v (bL C rows),.own l (.lst (uI acc)),s,t,u]:=by
 intro ps;induction ps with
 |nil=>
  intro acc s t u _ _ h;rw[show vZ []=[] from rfl,b6];exact⟨gq,by simpa [gL] using h s t u⟩
 |cons p ps ih=>
  intro acc s t u hp hl h;have h0:=hp p (by simp);rw[show vZ (p::ps)=.tup [.int p.1,.int p.2]::vZ ps from rfl,b7];refine⟨gq,?_⟩;have il:=wR (aK rows) p.1 p.2 ((aK rows).length-(p.2.toNat+1)) (p.2.toNat+1);have nx:∀s t u,b8 (gT [2,3]) (l9 C (fQ C) (dM C) (eF C)) [] (vZ ps) E [.v (bL C rows),.own l (.lst (uI (acc++BW (aK rows) p.1 p.2 ((aK rows).length-(p.2.toNat+1)) (p.2.toNat+1)))),s,t,u]:=λs t u=>by
   simp only[dg] at hl;refine ih _ s t u (λt ht=>hp t (bp _ ht)) ⋯ λs t u=>?_;have:=h s t u;unfold gL at this ⊢;rw[Yl] at this;simpa using this
  generalize b8 (gT [2,3]) (l9 C (fQ C) (dM C) (eF C)) [] (vZ ps) E=G at nx ⊢;push_cast [l9];refine⟨rfl,rows,rfl,?_⟩;ac_nf;refine⟨⟨⋯,⋯,⋯⟩,?_⟩;rw[show ((aK rows).length-(p.2+1)).toNat=(aK rows).length-(p.2.toNat+1) by ac_rfl,show (p.2+1)=((p.2.toNat+1:Nat):Int) by ac_rfl];simp only[dg] at hl;exact Ip h0 _ (p.2.toNat+1) acc _ ⋯ ⋯ λs=>nx _ _ s
theorem Ji:∀ds Q,i8 C ds Q->xE C (fQ C) (dM C) (eF C) ↥Q (aN q1p ds):=by
 rintro ds Q ⟨rows,rfl,hn,h⟩;have pl:=tP (aK rows) (aK rows).length 0;have sq:(aK rows).length*(aK rows).length<=12*12:=zq hn hn;ac_nf;intro l;refine⟨rfl,rows,rfl,hn,?_⟩;ac_nf;refine Io hn (bQ (aK rows)) [] _ _ _ (λt ht=>?_) (by unfold bQ;simp;ac_rfl) λs t u=>?_
 ·obtain⟨a1,a2,a3,a4⟩:=cN.mp ht;exact⟨⋯,a3⟩
 ac_nf;exact h
abbrev Ti:=Int×Int×List Int
noncomputable abbrev MG(t:Ti):Dv:=.tup [.int t.1,.int t.2.1,.tup (cC t.2.2)]
noncomputable abbrev fP(l:List Ti):List Dv:=l.map MG
noncomputable abbrev oR(t:Ti):List cB:=[di t.1,di t.2.1]
noncomputable abbrev iQ(l:List Ti):List (List cB×Dv):=l.map λt=>(oR t,.tup (cC t.2.2))
def A0(l:List Ti):Prop:=l.Pairwise λt u=>¬(t.1=u.1/\t.2.1=u.2.1)
def mU:Fn:=λds Q=>∃fl:List Ti,ds=[.lst (fP fl)]/\fl.length<=1000/\A0 fl/\Q (.nw (.dit (iQ fl)))
theorem Eg:Ln mU 1:=by rintro ds Q ⟨_,rfl,_⟩;rfl
theorem kM:MonoF mU:=⟨λds Q Q' w z=>by obtain⟨r,e,a,b,h⟩:=z;exact⟨r,e,a,b,w _ h⟩⟩
theorem FP{l:List Ti}{t:Ti}(h:∀u∈l,¬(u.1=t.1/\u.2.1=t.2.1)):pJ (iQ l) (oR t) (.tup (cC t.2.2))=iQ (l++[t]):=by
 unfold pJ;have e:(iQ l).any (λkv=>decide (kv.1=oR t))=am:=by
  rw[Vn];intro kv hkv;obtain⟨u,hu,rfl⟩:=fq.mp hkv;have:=h u hu;simp only[decide_eq_true_eq];intro z;apply this;simp only[oR,im,Xr,and_true] at z;exact z
 rw[e];simp
theorem Lu{x:Sl}:∀(fl acc:List Ti) (s t u:Sl),A0 (acc++fl)->acc.length+fl.length<=1000->(∀s t u,E.nx [x,.own a (.dit (iQ (acc++fl))),s,t,u]) ->
  b8 (gT [2,3,4]) sT [] (fP fl) E [x,.own a (.dit (iQ acc)),s,t,u]:=by
 intro fl;induction fl with
 |nil=>
  intro acc s t u _ _ h;rw[show fP []=[] from rfl,b6];exact⟨gq,by simpa using h s t u⟩
 |cons p fl ih=>
  intro acc s t u hk hl h;simp only[dg] at hl;rw[show fP (p::fl)=.tup [.int p.1,.int p.2.1,.tup (cC p.2.2)]::fP fl from rfl];push_cast [sT,bf];refine⟨oR p,rfl,⋯,?_⟩;rw[FP λu hu=>(lf.mp hk).2.2 u hu p (by simp)];exact ih _ _ _ _ (by simpa using hk) ⋯ (by simpa using h)
theorem Jj:∀ds Q,mU ds Q->xF ↥Q (aN q1i ds):=by
 rintro ds Q ⟨fl,rfl,hl,hk,h⟩;ac_nf;intro a;refine Lu fl [] _ _ _ (by simpa using hk) ⋯ λs t u=>?_;ac_nf;exact h
noncomputable def oO(l:List Ti)(a c:Int):List Int:=((l.find? λt=>decide (t.1=a/\t.2.1=c)).map λt=>t.2.2).getD []
theorem u8(l:List Ti)(a c:Int):(iQ l).find? (λkv=>decide (kv.1=[di a,di c]))=(l.find? λt=>decide (t.1=a/\t.2.1=c)).map λt=>(oR t,.tup (cC t.2.2)):=by
 induction l with
 |nil=>rfl
 |cons t l ih=>
  rw[show iQ (t::l)=(oR t,.tup (cC t.2.2))::iQ l from rfl];by_cases e:t.1=a/\t.2.1=c
  ·rw[ss (by simpa using e),ss (by simpa using e)];rfl
  ·rw[su (by simpa using e),su (by simpa using e)];exact ih
theorem yI{l:List Ti}{a c:Int}(h:∃t∈l,t.1=a/\t.2.1=c):∃t,(l.find? λt=>decide (t.1=a/\t.2.1=c))=ae t/\t∈l/\t.1=a/\t.2.1=c/\oO l a c=t.2.2:=by
 obtain⟨t,ht,e⟩:=h;cases q:l.find? λt=>decide (t.1=a/\t.2.1=c) with
 |none=>exact absurd (decide_eq_true e) (zp.mp q t ht)
 |some u=>
  have:=XJ q;refine⟨u,rfl,mn q,(of_decide_eq_true this).1,(of_decide_eq_true this).2,?_⟩;unfold oO;rw[q];rfl
def oS(ks:List Int):Prop:=∀a b:Int,0<=a->a<=b->b<ks.length->kd ks a<=kd ks b
theorem xY(n:Nat):∀l:List Int,okDs n (cC l)=ak
 | []=>rfl
 |i::r=>by
  show (eQ n (.int i)&&okDs n (cC r))=ak;rw[xY n r];cases n<;>rfl
theorem CK(hn:ks.length<=12):(bD ks).length<=1728:=by
 have h1:=tP ks ks.length 0;have h2:=nO ks (bQ ks);have sq:ks.length*ks.length<=12*12:=zq hn hn;have h3:(bQ ks).length*ks.length<=144*12:=zq (by unfold bQ;ac_rfl) hn;unfold bD;ac_rfl
end _W
namespace _W
open _L _Z
open Sf (Rw crs vH Pre Good aK bB place many)
open Fl (kd ids pc srt mO Qw)
theorem Bf{α:Type}(f:α->Dv)(hf:∀a b,eqD (f a) (f b)=ak ↔ a=b):∀l m:List α,md (pyDs (l.map f)) (pyDs (m.map f))=ak ↔ l=m
 | [],[]=>by simp[jD.pyDs,md]
 | [],_::_=>by simp[jD.pyDs,md]
 |_::_,[]=>by simp[jD.pyDs,md]
 |a::l,b::m=>by
  show md (jD (f a)::pyDs (l.map f)) (jD (f b)::pyDs (m.map f))=ak ↔ _;have h:=hf a b;unfold eqD at h;rw[md,cp,Bf f hf l m,h,im]
theorem DO(f:α->Dv)(hf:∀a b,eqD (f a) (f b)=ak ↔ a=b)(l m:List α):eqD (.lst (l.map f)) (.lst (m.map f))=ak ↔ l=m:=by
 unfold eqD;show ku (.list (pyDs _)) (.list (pyDs _))=ak ↔ _;rw[ku];exact Bf f hf l m
theorem DN(f:α->Dv)(hf:∀a b,eqD (f a) (f b)=ak ↔ a=b)(l m:List α):eqD (.tup (l.map f)) (.tup (m.map f))=ak ↔ l=m:=by
 unfold eqD;show ku (.tuple (pyDs _)) (.tuple (pyDs _))=ak ↔ _;rw[ku];exact Bf f hf l m
theorem GP(a b:Int):eqD (.int a) (.int b)=ak ↔ a=b:=by rw[_Z.Bg,decide_eq_true_eq]
theorem qM(l m:List Int):eqD (.tup (cC l)) (.tup (cC m))=decide (l=m):=by
 rw[nr,decide_eq_true_eq];exact DN _ GP l m
theorem Qd(t u:Ti):eqD (MG t) (MG u)=ak ↔ t=u:=by
 have h1:=GP t.1 u.1;have h2:=GP t.2.1 u.2.1;have h3:=DN Dv.int GP t.2.2 u.2.2;unfold eqD at h1 h2 h3 ⊢;show ku (.tuple [jD (.int t.1),jD (.int t.2.1),jD (.tup (cC t.2.2))]) (.tuple [jD (.int u.1),jD (.int u.2.1),jD (.tup (cC u.2.2))])=ak ↔ _;rw[ku,md,md,md,md,cp,cp,cp,h1,h2,h3];obtain⟨a,b,c⟩:=t;obtain⟨x,y,z⟩:=u;simp
theorem Bh(l m:List Ti):eqD (.lst (fP l)) (.lst (fP m))=decide (l=m):=by
 rw[nr,decide_eq_true_eq];exact DO _ Qd l m
theorem o9(n:Nat):∀l:List Dv,(∀d∈l,eQ n d=ak)->okDs n l=ak
 | [],_=>rfl
 |d::r,h=>by
  show (eQ n d&&okDs n r)=ak;rw[h d (by simp),o9 n r λx hx=>h x (by simp[hx])];rfl
theorem OD(l:List Ti):eQ 8 (.lst (fP l))=ak:=o9 7 _ λd hd=>by
 obtain⟨t,_,rfl⟩:=fq.mp hd;refine o9 6 _ λd hd=>?_;simp only[bv,gg,or_false] at hd;rcases hd with rfl | rfl | rfl
 ·rfl
 ·rfl
 ·exact xY 5 _
theorem xX(l:List Int):eQ 8 (.tup (cC l))=ak:=xY 7 l
theorem RK(l:List Int)(b:Int):cC l++[Dv.int b]=cC (l++[b]):=by simp
def iM:Fn:=λds Q=>∃(l:List Int) (b:Int),ds=[.tup (cC l),.int b]/\l.length<=30/\Q (.v (.tup (cC (srt (l++[b])))))
theorem Kc:Ln iM 2:=by rintro ds Q ⟨_,_,rfl,_⟩;rfl
theorem KI:MonoF iM:=⟨λds Q Q' w z=>by obtain⟨a,b,c,d,h⟩:=z;exact⟨a,b,c,d,w _ h⟩⟩
theorem vP:∀ds Q,iM ds Q->oY ↥Q (aN q0f ds):=by
 rintro ds Q ⟨l,b,rfl,hl,h⟩;push_cast [Cz,bf];refine⟨⋯,?_⟩;rw[RK];refine EI ⋯ λms hm hs=>?_;obtain rfl:=mO hm hs;ac_nf;exact h
noncomputable def Nv(a b c:Int)(l:List Int):List Ti:=[(a,b,l),(a,c,srt (l++[b])),(b,c,l)]
noncomputable def OV(a b c:Int)(l:List Int):List Ti:=[(a,b,srt (l++[c])),(a,c,l),(b,c,srt (l++[a]))]
def AB:Fn:=λds Q=>∃(a b c:Int) (l:List Int),ds=[.int a,.int b,.int c,.tup (cC l)]/\l.length<=30/\Q (.nw (.lst (fP (Nv a b c l))))
theorem Q7:Ln AB 4:=by rintro ds Q ⟨_,_,_,_,rfl,_⟩;rfl
theorem SB:MonoF AB:=⟨λds Q Q' w z=>by obtain⟨a,b,c,d,e,f,h⟩:=z;exact⟨a,b,c,d,e,f,w _ h⟩⟩
theorem zG:∀ds Q,AB ds Q->lS iM ↥Q (aN q0c ds):=by
 rintro ds Q ⟨a,b,c,l,rfl,hl,h⟩;ac_nf;refine⟨l,b,rfl,hl,?_⟩;ac_nf;exact h
def AC:Fn:=λds Q=>∃(a b c:Int) (l:List Int),ds=[.int a,.int b,.int c,.tup (cC l)]/\l.length<=30/\Q (.nw (.lst (fP (OV a b c l))))
theorem Q8:Ln AC 4:=by rintro ds Q ⟨_,_,_,_,rfl,_⟩;rfl
theorem SC:MonoF AC:=⟨λds Q Q' w z=>by obtain⟨a,b,c,d,e,f,h⟩:=z;exact⟨a,b,c,d,e,f,w _ h⟩⟩
theorem w6:∀ds Q,AC ds Q->jU iM ↥Q (aN q0c ds):=by
 rintro ds Q ⟨a,b,c,l,rfl,hl,h⟩;ac_nf;refine⟨l,c,rfl,hl,?_⟩;ac_nf;refine⟨l,a,rfl,hl,?_⟩;ac_nf;exact h
def F6(fl:List Ti)(a c:Int):Prop:=∃u,(fl.find? λt=>decide (t.1=a/\t.2.1=c))=ae u/\u.2.2=oO fl a c/\u.2.2.length<=30
def kK(fl:List Ti)(t:Int×Int×Int):Prop:=Qw (oO fl t.1 t.2.1) (oO fl t.1 t.2.2) (oO fl t.2.1 t.2.2) t.1 t.2.1 t.2.2
instance (fl:List Ti) (t:Int×Int×Int):Decidable (kK fl t):=by unfold kK;exact inferInstance
def Dl(fl:List Ti)(t:Int×Int×Int):Prop:=oO fl t.2.1 t.2.2=oO fl t.1 t.2.1/\oO fl t.1 t.2.2=srt (oO fl t.1 t.2.1++[t.2.1])
def Nu(fl:List Ti)(t:Int×Int×Int):Prop:=oO fl t.1 t.2.1=srt (oO fl t.1 t.2.2++[t.2.2])/\oO fl t.2.1 t.2.2=srt (oO fl t.1 t.2.2++[t.1])
instance (fl:List Ti) (t:Int×Int×Int):Decidable (Dl fl t):=by unfold Dl;exact inferInstance
noncomputable def tU(fl:List Ti)(t:Int×Int×Int):List Ti:=if Dl fl t then OV t.1 t.2.1 t.2.2 (oO fl t.1 t.2.1) else Nv t.1 t.2.1 t.2.2 (oO fl t.1 t.2.2)
def AA:Fn:=λds Q=>∃(fl:List Ti) (a b c:Int),ds=[.dit (iQ fl),.tup [.int a,.int b,.int c]]/\F6 fl a b/\F6 fl a c/\F6 fl b c/\(kK fl (a,b,c)->Q (.nw (.lst (fP (tU fl (a,b,c))))))/\(¬kK fl (a,b,c)->Q (.v .non))
theorem Q6:Ln AA 2:=by rintro ds Q ⟨_,_,_,_,rfl,_⟩;rfl
theorem OE:MonoF AA:=⟨λds Q Q' w z=>by obtain⟨a,b,c,d,e,f,g,h,i,j⟩:=z;exact⟨a,b,c,d,e,f,g,h,λx=>w _ (i x),λx=>w _ (j x)⟩⟩
variable {a b:Int}{tl:c7}{E:En}{x5:Sl}
theorem U8{c:Int}{x0 x2 x3 x4:Sl}(h:tl E [x0,.v (.tup [.int a,.int b,.int c]),.v (.int a),.v (.int b),.v (.int c),x5]):
  aP (c6 2 (aQ cW (aE 1) (eC (.int 0)))) (aP (c6 3 (aQ cW (aE 1) (eC (.int 1)))) (aP (c6 4 (aQ cW (aE 1) (eC (.int 2)))) tl)) E [x0,.v (.tup [.int a,.int b,.int c]),x2,x3,x4,x5]:=by
 ac_nf;exact h
variable {u1 u2:Ti}{x1:Sl}
theorem U7{fl:List Ti}{c:Int}{u3:Ti}(h1:(fl.find? λt=>decide (t.1=a/\t.2.1=b))=ae u1)(h2:(fl.find? λt=>decide (t.1=a/\t.2.1=c))=ae u2)(h3:(fl.find? λt=>decide (t.1=b/\t.2.1=c))=ae u3)
     (h:tl E [.v (.dit (iQ fl)),x1,.v (.int a),.v (.int b),.v (.int c),.v (.lst (fP [(a,b,u1.2.2),(a,c,u2.2.2),(b,c,u3.2.2)]))]):
  aP (c6 5 (dU (aA (bY (aA (aE 2) (aA (aE 3) (aA (aQ cW (aE 0) (bY (aA (aE 2) (aA (aE 3) aG)))) aG)))) (aA (bY (aA (aE 2) (aA (aE 4) (aA (aQ cW (aE 0) (bY (aA (aE 2) (aA (aE 4) aG)))) aG)))) (aA (bY (aA (aE 3) (aA (aE 4) (aA (aQ cW (aE 0) (bY (aA (aE 3) (aA (aE 4) aG)))) aG)))) aG))))) tl E [.v (.dit (iQ fl)),x1,.v (.int a),.v (.int b),.v (.int c),x5]:=by
 push_cast [u8,h1,h2,h3,wa];exact h
variable {ts:List Ti}
theorem U6{fl:List Ti}{c:Int}(h1:(fl.find? λt=>decide (t.1=a/\t.2.1=b))=ae u1)(l1:u1.2.2.length<=30)
  (y:ts=Nv a b c u1.2.2->E.rt (.nw (.lst (fP (OV a b c u1.2.2))))) (n:ts≠Nv a b c u1.2.2->tl E [.v (.dit (iQ fl)),x1,.v (.int a),.v (.int b),.v (.int c),.v (.lst (fP ts))]):
  aP (gM (aV (aQ lB (aE 5) (aU AB (aA (aE 2) (aA (aE 3) (aA (aE 4) (aA (aQ cW (aE 0) (bY (aA (aE 2) (aA (aE 3) aG)))) aG))))))) (c8 (aU AC (aA (aE 2) (aA (aE 3) (aA (aE 4) (aA (aQ cW (aE 0) (bY (aA (aE 2) (aA (aE 3) aG)))) aG)))))) bH) tl E [.v (.dit (iQ fl)),x1,.v (.int a),.v (.int b),.v (.int c),.v (.lst (fP ts))]:=by
 push_cast [u8,h1,wa];refine⟨a,b,c,u1.2.2,rfl,l1,?_⟩;push_cast [Bh,OD,and_self,true_and,decide_eq_true_eq];by_cases q1:ts=Nv a b c u1.2.2
 ·rw[a0G q1];refine⟨a,b,c,u1.2.2,rfl,l1,?_⟩;ac_nf;exact y q1
 ·rw[a0h q1];exact n q1
theorem U5{fl:List Ti}{c:Int}(h2:(fl.find? λt=>decide (t.1=a/\t.2.1=c))=ae u2)(l2:u2.2.2.length<=30)
  (y:ts=OV a b c u2.2.2->E.rt (.nw (.lst (fP (Nv a b c u2.2.2))))) (n:ts≠OV a b c u2.2.2->tl E [.v (.dit (iQ fl)),x1,.v (.int a),.v (.int b),.v (.int c),.v (.lst (fP ts))]):
  aP (gM (aV (aQ lB (aE 5) (aU AC (aA (aE 2) (aA (aE 3) (aA (aE 4) (aA (aQ cW (aE 0) (bY (aA (aE 2) (aA (aE 4) aG)))) aG))))))) (c8 (aU AB (aA (aE 2) (aA (aE 3) (aA (aE 4) (aA (aQ cW (aE 0) (bY (aA (aE 2) (aA (aE 4) aG)))) aG)))))) bH) tl E [.v (.dit (iQ fl)),x1,.v (.int a),.v (.int b),.v (.int c),.v (.lst (fP ts))]:=by
 push_cast [u8,h2,wa];refine⟨a,b,c,u2.2.2,rfl,l2,?_⟩;push_cast [Bh,OD,and_self,true_and,decide_eq_true_eq];by_cases q1:ts=OV a b c u2.2.2
 ·rw[a0G q1];refine⟨a,b,c,u2.2.2,rfl,l2,?_⟩;ac_nf;exact y q1
 ·rw[a0h q1];exact n q1
theorem w5:∀ds Q,AA ds Q->jT AB AC ↥Q (aN q1k ds):=by
 rintro ds Q ⟨fl,a,b,c,rfl,⟨u1,h1,e1,l1⟩,⟨u2,h2,e2,l2⟩,⟨u3,h3,e3,l3⟩,y,no⟩;unfold tU at y;refine U8 (U7 h1 h2 h3 (U6 h1 l1 (λq=>?_) λq1=>U5 h2 l2 (λq=>?_) λq2=>?_))
 ·simp only[Nv,im,mf,true_and,and_true] at q;rw[e1,e2,e3] at q;have z:Dl fl (a,b,c):=⟨q.2,q.1⟩;rw[a0G z] at y;rw[e1];exact y (.inl z)
 ·simp only[OV,im,mf,true_and,and_true] at q;rw[e1,e2,e3] at q;have z:Nu fl (a,b,c):=q;rw[a0h (show ¬Dl fl (a,b,c) from λz=>q1 (by rw[e1,e2,e3];have z1:=z.1;have z2:=z.2;simp only at z1 z2;rw[z1,z2];rfl))] at y;rw[e2];exact y (.inr z)
 ·refine no λz=>?_;rcases(show Dl fl (a,b,c) \/ Nu fl (a,b,c) from z) with z | z
  ·exact q1 (by rw[e1,e2,e3];have z1:=z.1;have z2:=z.2;simp only at z1 z2;rw[z1,z2];rfl)
  ·exact q2 (by rw[e1,e2,e3];have z1:=z.1;have z2:=z.2;simp only at z1 z2;rw[z1,z2];rfl)
def xH(C:af):Fn:=λds Q=>∃(rows:List Rw) (fl:List Ti),ds=[bL C rows,.lst (fP fl)]/\(aK rows).length<=12/\fl.length<=1000/\A0 fl/\(∀t∈bD (aK rows),F6 fl t.1 t.2.1/\F6 fl t.1 t.2.2/\F6 fl t.2.1 t.2.2)/\Q (.nw (.lst (uI ((bD (aK rows)).filter λt=>decide (kK fl t)))))
theorem Q9:Ln (xH C) 2:=by rintro ds Q ⟨_,_,rfl,_⟩;rfl
theorem SD:MonoF (xH C):=⟨λds Q Q' w z=>by obtain⟨a,b,c,d,e,f,g,h⟩:=z;exact⟨a,b,c,d,e,f,g,w _ h⟩⟩
theorem SY{fl:List Ti}{Q:R->Prop}:∀(l acc:List (Int×Int×Int)),(∀t∈l,F6 fl t.1 t.2.1/\F6 fl t.1 t.2.2/\F6 fl t.2.1 t.2.2)->acc.length+l.length<=10000->Q (.nw (.lst (uI (acc++l.filter λt=>decide (kK fl t))))) ->
  d8 [.un,.v (.dit (iQ fl))] (gN 0) (aV (aQ AK (aU AA (aA (aE 1) (aA (aE 0) aG))) (eC .non))) (aE 0) (uI l) (uI acc) Q:=by
 intro l;induction l with
 |nil=>
  intro acc _ _ h;rw[show uI []=[] from rfl,d7];simpa using h
 |cons t l ih=>
  intro acc hm hl h;simp only[dg] at hl;obtain⟨c1,c2,c3⟩:=hm t (by simp);rw[show uI (t::l)=.tup [.int t.1,.int t.2.1,.int t.2.2]::uI l from rfl];ac_nf;refine⟨fl,t.1,t.2.1,t.2.2,rfl,c1,c2,c3,λq=>?_,λq=>?_⟩
  ·push_cast [bf];refine⟨⋯,?_⟩;rw[show uI acc++[Dv.tup [Dv.int t.1,Dv.int t.2.1,Dv.int t.2.2]]=uI (acc++[t]) by simp];rw[vq (by simpa using q)] at h;exact ih _ (λt ht=>hm t (bp _ ht)) ⋯ (by simpa using h)
  ·ac_nf;rw[vt (by simpa using q)] at h;exact ih _ (λt ht=>hm t (bp _ ht)) ⋯ h
theorem Co:∀ds Q,xH C ds Q->pD mU (i8 C) AA ↥Q (aN q1s ds):=by
 rintro ds Q ⟨rows,fl,rfl,hn,hl,hk,cov,h⟩;have tl:=CK hn;ac_nf;refine⟨fl,rfl,hl,hk,?_⟩;ac_nf;refine⟨rows,rfl,hn,?_⟩;ac_nf;exact SY (bD (aK rows)) [] cov ⋯ h
end _W
namespace _W
open _L _Z
open Sf (Rw crs vH Pre Good aK bB place many)
open Fl (kd ids pc srt mO Qw)
theorem LB(i:Int):∀l:List Int,inD (.int i) (cC l)=decide (i∈l)
 | []=>rfl
 |j::l=>by
  have ih:=LB i l;unfold inD at ih ⊢;rw[show cC (j::l)=.int j::cC l from rfl,wb,ih];by_cases e:i=j
  ·subst e;simp[eqD,jD,ku]
  ·have:eqD (.int i) (.int j)=am:=by simp[eqD,jD,ku,e]
   have:eqD (.int j) (.int i)=am:=by simp[eqD,jD,ku,Ne.symm e]
   simp[*]
theorem ON(t:Int×Int×Int):∀l:List (Int×Int×Int),inD (.tup [.int t.1,.int t.2.1,.int t.2.2]) (uI l)=decide (t∈l)
 | []=>rfl
 |u::l=>by
  have ih:=ON t l;unfold inD at ih ⊢;have e:=qM [u.1,u.2.1,u.2.2] [t.1,t.2.1,t.2.2];rw[show uI (u::l)=.tup (cC [u.1,u.2.1,u.2.2])::uI l from rfl,wb,ih,show Dv.tup [Dv.int t.1,Dv.int t.2.1,Dv.int t.2.2]=.tup (cC [t.1,t.2.1,t.2.2]) from rfl,e,<- Bool.decide_or];refine decide_eq_decide.mpr ?_;obtain⟨a,b,c⟩:=t;obtain⟨x,y,z⟩:=u;simp only[im,and_true,bv,mf];constructor
  ·rintro(⟨p,q,r⟩ | h)
   ·exact .inl ⟨p.symm,q.symm,r.symm⟩
   ·exact .inr h
  ·rintro(⟨p,q,r⟩ | h)
   ·exact .inl ⟨p.symm,q.symm,r.symm⟩
   ·exact .inr h
theorem Mz(l:List (Int×Int×Int)):okDs 8 (uI l)=ak:=o9 8 _ λd hd=>by
 obtain⟨t,_,rfl⟩:=fq.mp hd;exact xY 7 [t.1,t.2.1,t.2.2]
noncomputable abbrev R1(x t:Ti):Bool:=decide (t.1=x.1/\t.2.1=x.2.1)
noncomputable def rp(ts:List Ti)(x:Ti):Ti:=(ts.find? (R1 x)).getD x
noncomputable def uE(fl:List Ti)(t:Int×Int×Int):List Ti:=fl.map (rp (tU fl t))
end _W
namespace _W
open _L _Z
open Sf (Rw crs vH Pre Good aK bB place many)
open Fl (kd ids pc srt mO Qw)
def DB(t u:Ti):Prop:=gP [t.1,t.2.1] [u.1,u.2.1]=ak
theorem Dn:∀{l m:List Ti},l.Perm m->l.Pairwise DB->m.Pairwise DB->l=m
 | [],m,p,_,_=>(a0o.mp p).symm
 |t::l,[],p,_,_=>nomatch p.length_eq
 |t::l,u::m,p,h1,h2=>by
  have e:t=u:=by
   rcases bv.mp (p.mem_iff.mp (bz ..)) with h | h
   ·exact h
   ·rcases bv.mp (p.mem_iff.mpr (bz (a:=u))) with h' | h'
    ·exact h'.symm
    ·have a:=(ip.mp h1).1 u h';have b:=(ip.mp h2).1 t h;have c:=tY _ _ _ a b;rw[kX] at c;cases c
  subst e;rw[Dn (Zz t |>.mp p) (ip.mp h1).2 (ip.mp h2).2]
theorem KZ{t u:Ti}(h:DB t u):t≠u:=λz=>by
 subst z;unfold DB at h;rw[kX] at h;cases h
variable {l m:List Ti}
theorem Sj(h1:l.Pairwise DB)(h2:m.Pairwise DB)(h:∀x,x∈l ↔ x∈m):l=m:=
 Dn ((zr (h1.imp KZ) (h2.imp KZ)).mpr h) h1 h2
variable {a b:Int}
theorem BR{c d:Int}{x y:List Int}(h:a<c \/ a=c/\b<d):DB (a,b,x) (c,d,y):=by
 unfold DB;simp only[gP];rcases h with h | ⟨h,h2⟩
 ·rw[a0h ⋯];exact decide_eq_true h
 ·rw[a0G h,a0h ⋯];exact decide_eq_true h2
structure Fl5(ks:List Int)(fl:List Ti):Prop where
 n12:ks.length<=12
 len:fl.length<=60
 key:A0 fl
 up:fl.Pairwise DB
 ord:∀x∈fl,x.1<x.2.1
 has:∀t∈bD ks,F6 fl t.1 t.2.1/\F6 fl t.1 t.2.2/\F6 fl t.2.1 t.2.2
 so:∀x∈fl,srt x.2.2=x.2.2
theorem F6.mem{fl:List Ti}{c:Int}(h:F6 fl a c):(a,c,oO fl a c)∈fl/\(oO fl a c).length<=30:=by
 obtain⟨u,f,e,l⟩:=h;have m:=mn f;have k:u.1=a/\u.2.1=c:=by
  have:=XJ f;exact of_decide_eq_true this
 rw[<- e];refine⟨?_,l⟩;rw[<- k.1,<- k.2];exact m
theorem A0.one{fl:List Ti}(h:A0 fl){x y:Ti}(hx:x∈fl)(hy:y∈fl)(e:x.1=y.1/\x.2.1=y.2.1):x=y:=by
 induction fl with
 |nil=>cases hx
 |cons z fl ih=>
  obtain⟨h1,h2⟩:=ip.mp h;rcases bv.mp hx with ex | mx
  ·rcases bv.mp hy with ey | my
   ·rw[ex,ey]
   ·rw[ex] at e;exact absurd e (h1 y my)
  ·rcases bv.mp hy with ey | my
   ·rw[ey] at e;exact absurd ⟨e.1.symm,e.2.symm⟩ (h1 x mx)
   ·exact ih h2 mx my
noncomputable def othB(t:Int×Int×Int)(x:Ti):Bool:=decide (x.1 ∉ [t.1,t.2.1,t.2.2]) || decide (x.2.1 ∉ [t.1,t.2.1,t.2.2])
theorem KG(fl:List Ti)(t:Int×Int×Int):(tU fl t).length=3:=by unfold tU;split<;>rfl
theorem Fz(fl:List Ti)(t:Int×Int×Int):(tU fl t).map (λx=>(x.1,x.2.1))=[(t.1,t.2.1),(t.1,t.2.2),(t.2.1,t.2.2)]:=by unfold tU;split<;>rfl
theorem uQ(ts:List Ti)(x:Ti):(rp ts x).1=x.1/\(rp ts x).2.1=x.2.1:=by
 unfold rp;cases h:ts.find? (R1 x) with
 |none=>exact⟨rfl,rfl⟩
 |some u=>
  have:=XJ h;exact of_decide_eq_true this
theorem Qc{fl:List Ti}{t:Int×Int×Int}(h:fl.Pairwise DB):(uE fl t).Pairwise DB:=by
 unfold uE;rw[jb];refine h.imp λ{x y} z=>?_;unfold DB at z ⊢;rw[(uQ _ x).1,(uQ _ x).2,(uQ _ y).1,(uQ _ y).2];exact z
theorem J8{fl:List Ti}{t:Int×Int×Int}{x:Ti}(h:othB t x=ak):rp (tU fl t) x=x:=by
 unfold rp;rw[show (tU fl t).find? (R1 x)=ao by
  rw[zp];intro u hu z;have k:=of_decide_eq_true z;have m:(u.1,u.2.1)∈(tU fl t).map (λx=>(x.1,x.2.1)):=wg hu;rw[Fz,k.1,k.2] at m;simp only[bv,gg,or_false,mf] at m;unfold othB at h;simp only[ie,decide_eq_true_eq,bv,gg,or_false,not_or] at h;ac_rfl]
 rfl
theorem Iq{fl:List Ti}(F:Fl5 ks fl){c:Int}(hab:a<b)(hbc:b<c)(h:(a,b,c)∈bD ks):fl.filter (λx=>!othB (a,b,c) x)=[(a,b,oO fl a b),(a,c,oO fl a c),(b,c,oO fl b c)]:=by
 obtain⟨h1,h2,h3⟩:=F.has _ h;have m1:=h1.mem.1;have m2:=h2.mem.1;have m3:=h3.mem.1;simp only at m1 m2 m3;refine Sj (F.up.filter _) ?_ λx=>?_
 ·refine ip.mpr ⟨λy hy=>?_,ip.mpr ⟨λy hy=>?_,ou _ _⟩⟩
  ·simp only[bv,gg,or_false] at hy;rcases hy with rfl | rfl
   ·exact BR (.inr ⟨rfl,hbc⟩)
   ·exact BR (.inl hab)
  ·rw[cq.mp hy];exact BR (.inl hab)
 ·rw[qo];constructor
  ·rintro⟨hx,z⟩;have o:=F.ord x hx;unfold othB at z;simp only[Bool.not_eq_true',xu,decide_eq_false_iff_not,bv,gg,or_false,Classical.not_not] at z;have k:(x.1=a/\x.2.1=b) \/ (x.1=a/\x.2.1=c) \/ (x.1=b/\x.2.1=c):=⋯;rcases k with k | k | k
   ·rw[F.key.one hx m1 k];simp
   ·rw[F.key.one hx m2 k];simp
   ·rw[F.key.one hx m3 k];simp
  ·intro hx;simp only[bv,gg,or_false] at hx;rcases hx with rfl | rfl | rfl
   ·exact⟨m1,by simp[othB]⟩
   ·exact⟨m2,by simp[othB]⟩
   ·exact⟨m3,by simp[othB]⟩
theorem yJ{α:Type}(p:α->Bool):∀l:List α,(l.filter p++l.filter λx=>!p x).Perm l
 | []=>.nil
 |x::l=>by
  have ih:=yJ p l;cases h:p x
  ·simp only[qj,h,uq,if_true,de,if_false];exact YD.trans (.cons _ ih)
  ·simp only[qj,h,ki,if_true,de,if_false];exact .cons _ ih
theorem O2{fl:List Ti}{c:Int}(hab:a<b)(hbc:b<c)(x y z:List Int):[(a,b,x),(a,c,y),(b,c,z)].map (rp (tU fl (a,b,c)))=tU fl (a,b,c):=by
 have k:=Fz fl (a,b,c);have l:=KG fl (a,b,c);generalize tU fl (a,b,c)=ts at k l
 match ts,l with
 | [u,v,w],_=>
  simp only[ef,qe,im,mf,and_true] at k;obtain⟨⟨k1,k2⟩,⟨k3,k4⟩,k5,k6⟩:=k;simp only[ef,qe,rp,R1,uo,k1,k2,k3,k4,k5,k6];have e1:decide (b=c)=am:=decide_eq_false ⋯;have e2:decide (a=b)=am:=decide_eq_false ⋯;simp[show ¬b=c by ac_rfl,show ¬a=b by ac_rfl]
theorem DM{fl:List Ti}(F:Fl5 ks fl){c:Int}(hab:a<b)(hbc:b<c)(h:(a,b,c)∈bD ks):(uE fl (a,b,c)).Perm (fl.filter (othB (a,b,c))++tU fl (a,b,c)):=by
 have p:=(yJ (othB (a,b,c)) fl).map (rp (tU fl (a,b,c)));rw[oo,Iq F hab hbc h,O2 hab hbc] at p;rw[show (fl.filter (othB (a,b,c))).map (rp (tU fl (a,b,c)))=fl.filter (othB (a,b,c)) by
  conv=>rhs;rw[<- map_id (fl.filter (othB (a,b,c)))]
  refine jo λx hx=>?_;exact J8 (qo.mp hx).2] at p
 exact p.symm
variable {Q:R->Prop}
theorem Rz{c:Int}:∀(l acc:List Ti),acc.length+l.length<=1000->Q (.nw (.lst (fP (acc++l.filter (othB (a,b,c)))))) ->
  d8 [.un,.v (.tup [.int a,.int b,.int c])] (gN 0) (Et (aV (aQ iO (aQ cW (aE 0) (eC (.int 0))) (aE 1))) (aV (aQ iO (aQ cW (aE 0) (eC (.int 1))) (aE 1)))) (aE 0) (fP l) (fP acc) Q:=by
 intro l;induction l with
 |nil=>
  intro acc _ h;rw[show fP []=[] from rfl,d7];rw[ZA,fy] at h;exact h
 |cons x l ih=>
  intro acc hl h;rw[dg] at hl;rw[show fP (x::l)=MG x::fP l from rfl,iA];have nx:=λacc=>ih acc;generalize d8 [.un,.v (.tup [.int a,.int b,.int c])] (gN 0) (Et (aV (aQ iO (aQ cW (aE 0) (eC (.int 0))) (aE 1))) (aV (aQ iO (aQ cW (aE 0) (eC (.int 1))) (aE 1)))) (aE 0) (fP l)=G at nx ⊢;ac_nf;have n1:inD (.int x.1) [.int a,.int b,.int c]=decide (x.1∈[a,b,c]):=LB x.1 [a,b,c];have n2:inD (.int x.2.1) [.int a,.int b,.int c]=decide (x.2.1∈[a,b,c]):=LB x.2.1 [a,b,c];have o3:okDs 8 [.int a,.int b,.int c]=ak:=xY 8 [a,b,c];have yes:othB (a,b,c) x=ak->(fP acc).length<1000000/\G (fP acc++[MG x]) Q:=λz=>by
   refine⟨by rw[bf];ac_rfl,?_⟩;rw[show fP acc++[MG x]=fP (acc++[x]) by simp];refine nx _ ⋯ ?_;rw[qj,a0G z] at h;rw[eo];exact h
  refine(show iO _ (.tup _) _ from⟨⟨rfl,o3⟩,?_⟩);rw[n1];by_cases m1:x.1∈[a,b,c]
  ·rw[decide_eq_true m1];refine pV (show iO _ (.tup _) _ from⟨⟨rfl,o3⟩,?_⟩);rw[n2];by_cases m2:x.2.1∈[a,b,c]
   ·rw[decide_eq_true m2];refine pV (nx acc ⋯ ?_);rw[qj,a0h (by unfold othB;simp only[m1,m2,not_true,decide_false,Bool.or_self];decide)] at h;exact h
   ·rw[decide_eq_false m2];exact qX (yes (by unfold othB;simp only[m2,not_false_iff,decide_true,Bool.or_true]))
  ·rw[decide_eq_false m1];exact qX (yes (by unfold othB;simp only[m1,not_false_iff,decide_true,ZZ]))
def nU(C:af):Fn:=λds Q=>∃(rows:List Rw) (fl:List Ti) (a b c:Int),ds=[bL C rows,.lst (fP fl),.tup [.int a,.int b,.int c]]/\Fl5 (aK rows) fl/\a<b/\b<c/\(a,b,c)∈bD (aK rows)/\kK fl (a,b,c)/\Q (.nw (.lst (fP (uE fl (a,b,c)))))
theorem Kh:Ln (nU C) 3:=by rintro ds Q ⟨_,_,_,_,_,rfl,_⟩;rfl
theorem N6:MonoF (nU C):=⟨λds Q Q' w z=>by obtain⟨a,b,c,d,e,f,g,h,i,j,k,l⟩:=z;exact⟨a,b,c,d,e,f,g,h,i,j,k,w _ l⟩⟩
theorem Nz(P:m.Perm l)(U:m.Pairwise DB)(L:l.length<=60)(q:Q (.nw (.lst (fP m)))):g8 [.lst (fP l)] Q:=by
 rw[show fP l=(l.map λt:Ti=>(([t.1,t.2.1],[Dv.tup (cC t.2.2)]):List Int×List Dv)).map tI by rw[ja];rfl];refine Gz (k:=1) ⋯ (λt ht=>?_) ?_ λts' hp hs=>?_
 ·obtain⟨u,_,rfl⟩:=fq.mp ht;rfl
 ·rw[jb];have nd:l.Pairwise λt u=>DB t u \/ DB u t:=(P.pairwise_iff λ{x y} h=>h.symm).mp (U.imp λh=>.inl h);refine nd.imp λ{x y} z e=>?_;simp only at e;rcases z with z | z <;>
  ·unfold DB at z
   first | rw[e,kX] at z | rw[<- e,kX] at z
   cases z
 ·obtain⟨ps,pp,rfl⟩:=AI hp (its:=l) rfl;rw[jb] at hs;rw[Dn (P.trans pp.symm) U hs] at q;rw[ja];exact q
theorem Gx:∀ds Q,nU C ds Q->uL (i8 C) mU AA ↥Q (aN q1t ds):=by
 rintro ds Q ⟨rows,fl,a,b,c,rfl,F,hab,hbc,h3,hx,q⟩;obtain⟨g1,g2,g3⟩:=F.has _ h3;have fl60:=F.len;ac_nf;refine⟨rows,rfl,F.n12,?_⟩;ac_nf;refine(show iO _ (.lst _) _ from⟨⟨xY 7 [a,b,c],Mz _⟩,?_⟩);rw[show inD (.tup [.int a,.int b,.int c]) (uI (bD (aK rows)))=decide ((a,b,c)∈bD (aK rows)) from ON (a,b,c) _,decide_eq_true h3];refine pV ?_;refine⟨fl,rfl,⋯,F.key,?_⟩;ac_nf;refine⟨fl,a,b,c,rfl,g1,g2,g3,λ_=>?_,λz=>absurd hx z⟩;ac_nf;refine Rz fl [] ⋯ ?_;ac_nf;have nl:=KG fl (a,b,c);have fll:=rq (othB (a,b,c)) fl;refine⟨by rw[bf,bf,nl];ac_rfl,?_⟩;rw[<- oo];exact Nz (DM F hab hbc h3) (Qc F.up) (by rw[<- (DM F hab hbc h3).length_eq,uE,bf];exact fl60) q
end _W
namespace _W
open _L _Z
open Sf (Rw crs vH Pre Good aK bB place many)
open Fl (kd ids)
abbrev T3:=Int×Int×Int
noncomputable def cau(ks:List Int)(a b c:Int):Bool:=!decide (kd ks a=kd ks b)&&decide (kd ks b=kd ks c)
def Tc(n:Nat)(a b c:Int):Prop:=(0<=a/\a<n)/\(0<=b/\b<n)/\(0<=c/\c<n)
def rU(C:af):Fn:=λds Q=>∃(rows:List Rw) (a b c:Int),ds=[bL C rows,.dit [],.tup [.int a,.int b,.int c]]/\(aK rows).length<=12/\Tc (aK rows).length a b c/\Q (.v (.bl (cau (aK rows) a b c)))
theorem NR:Ln (rU C) 3:=by rintro ds Q ⟨_,_,_,_,rfl,_⟩;rfl
theorem KP:MonoF (rU C):=⟨λds Q Q' w z=>by obtain⟨a,b,c,d,e,f,g,h⟩:=z;exact⟨a,b,c,d,e,f,g,w _ h⟩⟩
theorem xT:∀ds Q,rU C ds Q->kP C (eF C) ↥Q (aN q0g ds):=by
 rintro ds Q ⟨rows,a,b,c,rfl,hn,⟨ha,hb,hc⟩,q⟩;have kn:∀{x:Int} {Q:R->Prop},0<=x/\x<(aK rows).length->Q (.v (.int (kd (aK rows) x)))->eF C [bL C rows,.int x] Q:=λ{x Q} hx q=>⟨rows,x.toNat,by rw[ux hx.1],⋯,q⟩;unfold cau at q;ac_nf;refine⟨rfl,kn ha ?_⟩;ac_nf;refine⟨rfl,kn hb ?_⟩;ac_nf;refine gQ (λe=>by rw[decide_eq_true e] at q;exact q) λe=>?_;rw[decide_eq_false e] at q;refine⟨rfl,kn hb ?_⟩;ac_nf;refine⟨rfl,kn hc ?_⟩;ac_nf;refine gQ (λe2=>by rw[decide_eq_true e2] at q;exact q) λe2=>?_;rw[decide_eq_false e2] at q;exact⟨[di a,di b,di c],rfl,q⟩
abbrev T4:=Int×Int×Int×Int
noncomputable abbrev d4(t:T4):Dv:=.tup [.int t.1,.int t.2.1,.int t.2.2.1,.int t.2.2.2]
structure In4(n:Nat)(t:T4):Prop where
 lo:0<=t.1
 ij:t.1<t.2.1
 jk:t.2.1<t.2.2.1
 kl:t.2.2.1<t.2.2.2
 hi:t.2.2.2<n
noncomputable def alike(ks:List Int)(t:T4):Bool:=decide (kd ks t.1=kd ks t.2.2.1) || decide (kd ks t.2.1=kd ks t.2.2.2)
def mV(C:af):Fn:=λds Q=>∃(rows:List Rw) (t:T4),ds=[bL C rows,d4 t]/\In4 (aK rows).length t/\Q (.v (.bl (alike (aK rows) t)))
theorem Hl:Ln (mV C) 2:=by rintro ds Q ⟨_,_,rfl,_⟩;rfl
theorem KR:MonoF (mV C):=⟨λds Q Q' w z=>by obtain⟨a,b,c,d,h⟩:=z;exact⟨a,b,c,d,w _ h⟩⟩
theorem tK:∀ds Q,mV C ds Q->iJ C (eF C) ↥Q (aN q0j ds):=by
 rintro ds Q ⟨rows,t,rfl,i4,q⟩;obtain⟨h0,ij,jk,kl,hi⟩:=i4;have kn:∀{x:Int} {Q:R->Prop},0<=x/\x<(aK rows).length->Q (.v (.int (kd (aK rows) x)))->eF C [bL C rows,.int x] Q:=λ{x Q} hx q=>⟨rows,x.toNat,by rw[ux hx.1],⋯,q⟩;unfold alike at q;ac_nf;refine⟨rfl,kn ⟨⋯,⋯⟩ ?_⟩;ac_nf;refine⟨rfl,kn ⟨⋯,⋯⟩ ?_⟩;ac_nf;refine gQ (λe=>by rw[decide_eq_true e] at q;exact q) λe=>?_;rw[decide_eq_false e,xj] at q;refine⟨rfl,kn ⟨⋯,⋯⟩ ?_⟩;ac_nf;refine⟨rfl,kn ⟨⋯,⋯⟩ ?_⟩;ac_nf;exact q
noncomputable def qY(ks:List Int)(z x y:Int):Bool:=if z<x then !cau ks z x y else if y<z then !cau ks x y z else (decide (x<z)&&decide (z<y))&&cau ks x z y
def rT(C:af):Fn:=λds Q=>∃(rows:List Rw) (z x y:Int),ds=[bL C rows,.dit [],.int z,.int x,.int y]/\(aK rows).length<=12/\Tc (aK rows).length z x y/\Q (.v (.bl (qY (aK rows) z x y)))
theorem NO:Ln (rT C) 5:=by rintro ds Q ⟨_,_,_,_,rfl,_⟩;rfl
theorem Px:MonoF (rT C):=⟨λds Q Q' w z=>by obtain⟨a,b,c,d,e,f,g,h⟩:=z;exact⟨a,b,c,d,e,f,g,w _ h⟩⟩
theorem EF:∀ds Q,rT C ds Q->rP (rU C) ↥Q (aN q0k ds):=by
 rintro ds Q ⟨rows,z,x,y,rfl,hn,⟨hz,hx,hy⟩,q⟩;unfold qY at q;ac_nf;refine gQ (λe=>?_) λe=>gQ (λe2=>?_) λe2=>gQ (λe3=>gQ (λe4=>?_) λe4=>?_) λe3=>?_
 ·rw[a0G e] at q;refine⟨rows,z,x,y,rfl,hn,⟨hz,hx,hy⟩,?_⟩;ac_nf;exact q
 ·rw[a0h e,a0G e2] at q;refine⟨rows,x,y,z,rfl,hn,⟨hx,hy,hz⟩,?_⟩;ac_nf;exact q
 ·rw[a0h e,a0h e2,decide_eq_true e3,fv,decide_eq_true e4,fv] at q;refine⟨rows,x,z,y,rfl,hn,⟨hx,hz,hy⟩,?_⟩;ac_nf;exact q
 ·rw[a0h e,a0h e2,decide_eq_false e4,qz,ig] at q;exact q
 ·rw[a0h e,a0h e2,decide_eq_false e3,ig,ig] at q;exact q
noncomputable def chg(a b:Bool):Nat:=if a=b then 0 else 1
noncomputable def barred(ks:List Int)(t:T4):Bool:=
 decide (1<chg (cau ks t.1 t.2.1 t.2.2.1) (cau ks t.1 t.2.1 t.2.2.2)+chg (cau ks t.1 t.2.1 t.2.2.2) (cau ks t.1 t.2.2.1 t.2.2.2)+chg (cau ks t.1 t.2.2.1 t.2.2.2) (cau ks t.2.1 t.2.2.1 t.2.2.2))
def kL(C:af):Fn:=λds Q=>∃(rows:List Rw) (t:T4),ds=[bL C rows,.dit [],d4 t]/\(aK rows).length<=12/\In4 (aK rows).length t/\Q (.v (.bl (barred (aK rows) t)))
theorem Eh:Ln (kL C) 3:=by rintro ds Q ⟨_,_,rfl,_⟩;rfl
theorem HY:MonoF (kL C):=⟨λds Q Q' w z=>by obtain⟨a,b,c,d,e,h⟩:=z;exact⟨a,b,c,d,e,w _ h⟩⟩
noncomputable def chgs:List (Bool×Bool)->Nat
 | []=>0
 |p::r=>chg p.1 p.2+chgs r
variable {Q:R->Prop}
theorem Lv:∀(l:List (Bool×Bool)) (k:Nat),k+l.length<=100->Q (.nw (.lst (av (k+chgs l) (.int 1)))) ->
  d8 [.un,.un] (gT [0,1]) (aV (aQ BE (aE 0) (aE 1))) (eC (.int 1)) (l.map λp=>.tup [.bl p.1,.bl p.2]) (av k (.int 1)) Q:=by
 intro l;induction l with
 |nil=>
  intro k _ h;rw[qe,d7];exact h
 |cons p l ih=>
  intro k hk h;rw[dg] at hk;rw[chgs,chg] at h;push_cast [ef,jx];refine⟨⟨rfl,rfl⟩,?_⟩;by_cases e:p.1=p.2
  ·rw[a0G e,zj] at h;rw[a0h (by simp[e])];exact ih k ⋯ h
  ·rw[a0h e] at h;rw[a0G (by simp[e]),<- X1];exact⟨⋯,ih (k+1) ⋯ (by rw[show k+1+chgs l=k+(1+chgs l) by ac_rfl];exact h)⟩
noncomputable abbrev Tp(t:T3):Dv:=.tup [.int t.1,.int t.2.1,.int t.2.2]
variable {x3 x4 x5:Sl}{tl:c7}{E:En}
theorem T6{y0 y1:Sl}{t:T4}(h:tl E [y0,y1,.v (d4 t),.v (.lst ([(t.1,t.2.1,t.2.2.1),(t.1,t.2.1,t.2.2.2),(t.1,t.2.2.1,t.2.2.2),t.2].map Tp)),x4,x5]):
  aP (c6 3 (dU (aA (bY (aA (aQ cW (aE 2) (eC (.int 0))) (aA (aQ cW (aE 2) (eC (.int 1))) (aA (aQ cW (aE 2) (eC (.int 2))) aG)))) (aA (bY (aA (aQ cW (aE 2) (eC (.int 0))) (aA (aQ cW (aE 2) (eC (.int 1))) (aA (aQ cW (aE 2) (eC (.int 3))) aG)))) (aA (bY (aA (aQ cW (aE 2) (eC (.int 0))) (aA (aQ cW (aE 2) (eC (.int 2))) (aA (aQ cW (aE 2) (eC (.int 3))) aG)))) (aA (OT (aE 2) (vU (eC (.int 1))) lI) aG)))))) tl E
   [y0,y1,.v (d4 t),x3,x4,x5]:=by
 ac_nf;exact⟨by decide,h⟩
theorem T1(hn:(aK rows).length<=12):∀(l:List T3) (acc:List Dv),(∀t∈l,Tc (aK rows).length t.1 t.2.1 t.2.2)->acc.length+l.length<=100 ->
  Q (.nw (.lst (acc++l.map λt=>.bl (cau (aK rows) t.1 t.2.1 t.2.2))))->d8 [.un,.v (bL C rows),.v (.dit [])] (gN 0) eP (aU (rU C) (aA (aE 1) (aA (aE 2) (aA (aE 0) aG)))) (l.map Tp) acc Q:=by
 intro l;induction l with
 |nil=>
  intro acc _ _ h;rw[qe,fy] at h;rw[qe,d7];exact h
 |cons t l ih=>
  intro acc hi hk h;rw[dg] at hk;push_cast [ef];refine⟨rows,_,_,_,rfl,hn,hi t bz,?_⟩;refine⟨.inl rfl,⟨rfl,⋯⟩,ih _ (λu hu=>hi u (bp _ hu)) ?_ ?_⟩
  ·rw[dh,dg,xb];ac_rfl
  ·rw[eo];exact h
variable {x2:Sl}
theorem T5{l:List T3}(hn:(aK rows).length<=12)(hi:∀t∈l,Tc (aK rows).length t.1 t.2.1 t.2.2)(hl:l.length<=100)
  (h:tl E [.v (bL C rows),.v (.dit []),x2,.v (.lst (l.map Tp)),.v (.lst (l.map λt=>.bl (cau (aK rows) t.1 t.2.1 t.2.2))),x5]):
  aP (c6 4 (eJ 1 [0,1] (kY (aE 3)) (gN 0) eP (aU (rU C) (aA (aE 1) (aA (aE 2) (aA (aE 0) aG)))))) tl E
   [.v (bL C rows),.v (.dit []),x2,.v (.lst (l.map Tp)),x4,x5]:=by
 ac_nf;exact T1 hn l [] hi (by rw[xb,zj];exact hl) h
theorem T2{x0 x1:Sl}{u1 u2 u3 u4:Bool}(h:tl E [x0,x1,x2,x3,.v (.lst [.bl u1,.bl u2,.bl u3,.bl u4]),.v (.lst (av (chgs [(u1,u2),(u2,u3),(u3,u4)]) (.int 1)))]):
  aP (c6 5 (eJ 2 [] (AY (aA (aE 4) (aA (OT (aE 4) (vU (eC (.int 1))) lI) aG))) (gT [0,1]) (aV (aQ BE (aE 0) (aE 1))) (eC (.int 1)))) tl E
   [x0,x1,x2,x3,.v (.lst [.bl u1,.bl u2,.bl u3,.bl u4]),x5]:=by
 ac_nf;refine Lv [(u1,u2),(u2,u3),(u3,u4)] 0 (ug rfl) ?_;rw[zj];exact h
theorem Cn:∀ds Q,kL C ds Q->pC (rU C) ↥Q (aN q1n ds):=by
 rintro ds Q ⟨rows,t,rfl,hn,⟨h0,ij,jk,kl,hi⟩,q⟩;have i2:∀{a b c:Int},0<=a->a<b->b<c->c<(aK rows).length->Tc (aK rows).length a b c:=λ{a b c} h1 h2 h3 h4=>⟨⟨h1,⋯⟩,⟨⋯,⋯⟩,⋯,h4⟩;refine T6 (T5 hn (λu hu=>?_) (ug rfl) (T2 ?_))
 ·simp only[bv,gg,or_false] at hu;rcases hu with rfl | rfl | rfl | rfl
  ·exact i2 h0 ij jk (a0p kl hi)
  ·exact i2 h0 ij (a0p jk kl) hi
  ·exact i2 h0 (a0p ij jk) kl hi
  ·exact i2 (Int.le_trans h0 (Wx ij)) jk kl hi
 ·unfold barred at q;rw[show ∀{a b c d:Bool},chg a b+chg b c+chg c d=chgs [(a,b),(b,c),(c,d)] from λ{a b c d}=>by simp only[chgs,Xo,Zr]] at q;generalize chgs _=m at q ⊢;push_cast [jx];rw[show decide ((1:Int)<(m:Int))=decide (1<m) from decide_eq_decide.mpr ⋯];exact q
end _W
namespace _W
open _L _Z
open Sf (Rw crs vH Pre Good aK bB place many)
open Fl (kd ids)
def vK(n:Nat)(l:List T4):Prop:=∀t∈l,In4 n t
theorem vK.snoc{l:List T4}{t:T4}(h:vK n l)(k:In4 n t):vK n (l++[t]):=λu hu=>by
 rcases cr.mp hu with z | z
 ·exact h u z
 ·rw[cq.mp z];exact k
noncomputable abbrev Dj(l:List T4):List Dv:=l.map d4
variable {E:En}{j:Nat}
theorem Ng{k:Nat}(ij:i<j)(jk:j<k):∀(m l:Nat) (acc:List T4) (s:Sl),k<l->l+m<=n->vK n acc->acc.length+m<=100000 ->
  (∀a0N s,vK n a0N->a0N.length<=acc.length+m->E.nx [.v (.int n),.own b (.lst (Dj a0N)),.v (.int i),.v (.int j),.v (.int k),s]) ->
  b8 (gN 5) vE [] (bE l m) E [.v (.int n),.own b (.lst (Dj acc)),.v (.int i),.v (.int j),.v (.int k),s]:=by
 intro m;induction m with
 |zero=>
  intro l acc s _ _ A _ h;rw[bS,b6];exact⟨gq,h acc s A (cg _)⟩
 |succ m ih=>
  intro l acc s kl hl A ha h;rw[bI,b7];refine⟨gq,?_⟩;push_cast [vE,bf];refine⟨⋯,?_⟩;rw[show Dj acc++[Dv.tup [Dv.int i,.int j,.int k,.int l]]=Dj (acc++[((i:Int),(j:Int),(k:Int),(l:Int))]) by simp,uP l];exact ih (l+1) _ _ ⋯ ⋯ (A.snoc ⟨show (0:Int)<=i by ac_rfl,show (i:Int)<j by ac_rfl,show (j:Int)<k by ac_rfl,show (k:Int)<l by ac_rfl,show (l:Int)<n by ac_rfl⟩) ⋯ λa0N s A' hl'=>h a0N s A' (by simp at hl';ac_rfl)
theorem Nf(hn:n<=12)(ij:i<j):∀(m k:Nat) (acc:List T4) (s t:Sl),j<k->k+m=n->vK n acc->acc.length+m*12<=90000 ->
  (∀a0N s t,vK n a0N->a0N.length<=acc.length+m*12->E.nx [.v (.int n),.own b (.lst (Dj a0N)),.v (.int i),.v (.int j),s,t]) ->
  b8 (gN 4) qS [] (bE k m) E [.v (.int n),.own b (.lst (Dj acc)),.v (.int i),.v (.int j),s,t]:=by
 intro m;induction m with
 |zero=>
  intro k acc s t _ _ A _ h;rw[bS,b6];exact⟨gq,h acc s t A (cg _)⟩
 |succ m ih=>
  intro k acc s t jk hl A ha h;rw[bI,b7];refine⟨gq,?_⟩;have nx:=λa0N s t A' (hl':a0N.length<=acc.length+12)=>ih (k+1) a0N s t ⋯ ⋯ A' ⋯ λa s t A hl=>h a s t A ⋯;rw[uP k];generalize b8 (gN 4) qS [] (bE ((k+1:Nat):Int) m) E=G at nx ⊢;push_cast [qS];refine⟨⋯,?_⟩;rw[show ((n:Int)-((k:Int)+1)).toNat=n-(k+1) by ac_rfl,uP k];exact Ng ij jk (n-(k+1)) (k+1) acc t ⋯ ⋯ A ⋯ λa0N s A' hl'=>nx a0N _ s A' ⋯
theorem Nd(hn:n<=12):∀(m j:Nat) (acc:List T4) (s t u:Sl),i<j->j+m=n->vK n acc->acc.length+m*144<=80000 ->
  (∀a0N s t u,vK n a0N->a0N.length<=acc.length+m*144->E.nx [.v (.int n),.own b (.lst (Dj a0N)),.v (.int i),s,t,u]) ->
  b8 (gN 3) qR [] (bE j m) E [.v (.int n),.own b (.lst (Dj acc)),.v (.int i),s,t,u]:=by
 intro m;induction m with
 |zero=>
  intro j acc s t u _ _ A _ h;rw[bS,b6];exact⟨gq,h acc s t u A (cg _)⟩
 |succ m ih=>
  intro j acc s t u ij hl A ha h;rw[bI,b7];refine⟨gq,?_⟩;have nx:=λa0N s t u A' (hl':a0N.length<=acc.length+144)=>ih (j+1) a0N s t u ⋯ ⋯ A' ⋯ λa s t u A hl=>h a s t u A ⋯;rw[uP j];generalize b8 (gN 3) qR [] (bE ((j+1:Nat):Int) m) E=G at nx ⊢;push_cast [qR];refine⟨⋯,?_⟩;rw[show ((n:Int)-((j:Int)+1)).toNat=n-(j+1) by ac_rfl,uP j];exact Nf hn ij (n-(j+1)) (j+1) acc t u ⋯ ⋯ A ⋯ λa0N s t A' hl'=>nx a0N _ s t A' ⋯
theorem Nc(hn:n<=12):∀(m i:Nat) (acc:List T4) (s t u v:Sl),i+m=n->vK n acc->acc.length+m*1728<=50000 ->
  (∀a0N s t u v,vK n a0N->a0N.length<=acc.length+m*1728->E.nx [.v (.int n),.own b (.lst (Dj a0N)),s,t,u,v]) ->
  b8 (gN 2) qQ [] (bE i m) E [.v (.int n),.own b (.lst (Dj acc)),s,t,u,v]:=by
 intro m;induction m with
 |zero=>
  intro i acc s t u v _ A _ h;rw[bS,b6];exact⟨gq,h acc s t u v A (cg _)⟩
 |succ m ih=>
  intro i acc s t u v hl A ha h;rw[bI,b7];refine⟨gq,?_⟩;have nx:=λa0N s t u v A' (hl':a0N.length<=acc.length+1728)=>ih (i+1) a0N s t u v ⋯ A' ⋯ λa s t u v A hl=>h a s t u v A ⋯;rw[uP i];generalize b8 (gN 2) qQ [] (bE ((i+1:Nat):Int) m) E=G at nx ⊢;push_cast [qQ];refine⟨⋯,?_⟩;rw[show ((n:Int)-((i:Int)+1)).toNat=n-(i+1) by ac_rfl,uP i];exact Nd hn (n-(i+1)) (i+1) acc t u v ⋯ ⋯ A ⋯ λa0N s t u A' hl'=>nx a0N _ s t u A' ⋯
def mS:Fn:=λds Q=>∃n:Nat,ds=[.int n]/\n<=12 /\ ∀l:List T4,vK n l->Q (.nw (.lst (Dj l)))
theorem Hj:Ln mS 1:=by rintro ds Q ⟨_,rfl,_⟩;rfl
theorem y9:MonoF mS:=⟨λds Q Q' w z=>by obtain⟨a,b,c,h⟩:=z;exact⟨a,b,c,λl z=>w _ (h l z)⟩⟩
theorem Mq:∀ds Q,mS ds Q->As ↥Q (aN q1j ds):=by
 rintro ds Q ⟨n,rfl,hn,q⟩;ac_nf;intro b;refine⟨⋯,?_⟩;rw[dq];refine Nc hn n 0 [] _ _ _ _ ⋯ (λt ht=>by cases ht) ⋯ λa0N s t u v A' _=>?_;ac_nf;exact q a0N A'
end _W
namespace _W
open _L _Z
open Sf (Rw crs vH Pre Good aK bB place many)
open Fl (kd ids)
theorem Qn{t:T4}(ha:alike ks t=am):barred ks t=am:=by
 unfold alike at ha;rw[xu,decide_eq_false_iff_not,decide_eq_false_iff_not] at ha;obtain⟨h1,h2⟩:=ha;unfold barred cau;generalize kd ks t.1=i at *;generalize kd ks t.2.1=j at *;generalize kd ks t.2.2.1=k at *;generalize kd ks t.2.2.2=l at *;by_cases e1:i=j<;>by_cases e2:j=k<;>by_cases e3:k=l<;>simp[e1,e2,e3,chg]<;>first | ac_rfl | (subst_vars;simp_all)
def qI(C:af):Fn:=λds Q=>∃(rows:List Rw),ds=[bL C rows,.dit []]/\(aK rows).length<=12/\Q (.v .non)
theorem Kk:Ln (qI C) 2:=by rintro ds Q ⟨_,rfl,_⟩;rfl
theorem N9:MonoF (qI C):=⟨λds Q Q' w z=>by obtain⟨a,b,c,h⟩:=z;exact⟨a,b,c,w _ h⟩⟩
theorem Qk{E:En}{x2 x3:Sl}(hn:(aK rows).length<=12):∀(l:List T4) (s4:Sl),vK (aK rows).length l->(∀s4,E.nx [.v (bL C rows),.v (.dit []),x2,x3,s4]) ->
  b8 (gN 4) (gH C (i8 C) mS (mV C) (kL C) (dM C)) [] (Dj l) E [.v (bL C rows),.v (.dit []),x2,x3,s4]:=by
 intro l;induction l with
 |nil=>
  intro s4 _ h;rw[show Dj []=[] from rfl,b6];exact⟨gq,h _⟩
 |cons t l ih=>
  intro s4 A h;have i4:=A t (bz ..);have nx:=λs4=>ih s4 (λu hu=>A u (bp _ hu)) h;rw[show Dj (t::l)=d4 t::Dj l from rfl,b7];refine⟨gq,?_⟩;generalize b8 (gN 4) (gH C (i8 C) mS (mV C) (kL C) (dM C)) [] (Dj l) E=G at nx ⊢;push_cast [gH];refine⟨rows,t,rfl,i4,?_⟩;cases e:alike (aK rows) t with
  |true=>
   ac_nf;exact nx _
  |false=>
   ac_nf;refine⟨rows,t,rfl,hn,i4,?_⟩;rw[Qn e];ac_nf;exact nx _
theorem xU:∀ds Q,qI C ds Q->kQ C (i8 C) mS (mV C) (kL C) (dM C) ↥Q (aN q1q ds):=by
 rintro ds Q ⟨rows,rfl,hn,q⟩;ac_nf;refine⟨rows,rfl,hn,?_⟩;push_cast [lH,qe];refine⟨rfl,rows,rfl,?_⟩;ac_nf;refine⟨_,rfl,hn,λl A=>?_⟩;ac_nf;exact Qk hn l _ A λs4=>q
end _W
namespace _W
open _L _Z
open Sf (Rw crs vH Pre Good aK bB place many)
open Fl (kd ids)
noncomputable def mE(ks:List Int)(x y:Int):List Int:=(ids ks.length).filter λz=>qY ks z x y
noncomputable def eY(ks:List Int):List Ti:=(bQ ks).map λp=>(p.1,p.2,mE ks p.1 p.2)
def FI(C:af):Fn:=λds Q=>∃(rows:List Rw),ds=[bL C rows,.lst []]/\(aK rows).length<=12/\Q (.nw (.lst (fP (eY (aK rows)))))
theorem QB:Ln (FI C) 2:=by rintro ds Q ⟨_,rfl,_⟩;rfl
theorem SE:MonoF (FI C):=⟨λds Q Q' w z=>by obtain⟨a,b,c,h⟩:=z;exact⟨a,b,c,w _ h⟩⟩
theorem Uw{x y:Int}{Q:R->Prop}(hn:(aK rows).length<=12)(hx:0<=x/\x<(aK rows).length)(hy:0<=y/\y<(aK rows).length):∀(i k:Nat) (acc:List Int),k+i=(aK rows).length->acc.length<=k ->
  Q (.nw (.lst (cC (acc++((YS k i).map λz:Nat=>(z:Int)).filter λz=>qY (aK rows) z x y)))) ->
  d8 [.un,.v (bL C rows),.v (.dit []),.v (.int x),.v (.int y)] (gN 0) (jM (aU (rT C) (aA (aE 1) (aA (aE 2) (aA (aE 0) (aA (aE 3) (aA (aE 4) aG))))))) (aE 0) (bE k i) (cC acc) Q:=by
 intro i;induction i with
 |zero=>
  intro k acc _ _ h;rw[bS,d7];simpa using h
 |succ i ih=>
  intro k acc hk ha h;rw[bI];push_cast [bf];refine⟨rows,(k:Int),x,y,rfl,hn,⟨⟨⋯,⋯⟩,hx,hy⟩,?_⟩;rw[YE,ef] at h;rw[uP k];cases e:qY (aK rows) (k:Int) x y with
  |true=>
   rw[vq (p:=λz=>qY (aK rows) z x y) e] at h;push_cast [bf];refine⟨⋯,?_⟩;rw[show cC acc++[Dv.int (k:Int)]=cC (acc++[(k:Int)]) by simp];exact ih (k+1) _ ⋯ ⋯ (by rw[eo];exact h)
  |false=>
   rw[vt (p:=λz=>qY (aK rows) z x y) (by rw[e];decide)] at h;ac_nf;exact ih (k+1) acc ⋯ ⋯ h
theorem AX(n:Nat):(YS 0 n).map (λz:Nat=>(z:Int))=ids n:=by rw[<- List.range_eq_range']
theorem Ux{E:En}{x1 x3:Sl}(hn:(aK rows).length<=12):∀(ps:List (Int×Int)) (acc:List Ti) (s5 s6 s7:Sl),(∀p∈ps,p∈bQ (aK rows))->acc.length+ps.length<=1000 ->
  (∀s5 s6 s7,E.nx [.v (bL C rows),x1,.v (.dit []),x3,.own b (.lst (fP (acc++ps.map λp=>(p.1,p.2,mE (aK rows) p.1 p.2)))),s5,s6,s7]) ->
  b8 (gT [5,6]) (kJ C (qI C) (rT C) (fQ C) (dM C)) [] (vZ ps) E [.v (bL C rows),x1,.v (.dit []),x3,.own b (.lst (fP acc)),s5,s6,s7]:=by
 intro ps;induction ps with
 |nil=>
  intro acc s5 s6 s7 _ _ h;rw[show vZ []=[] from rfl,b6];rw[qe,fy] at h;exact⟨gq,h _ _ _⟩
 |cons p ps ih=>
  intro acc s5 s6 s7 hp hl h;rw[dg] at hl;obtain⟨p0,p1,p2,_⟩:=cN.mp (hp p (bz ..));have nx:=λs5 s6 s7=>ih (acc++[(p.1,p.2,mE (aK rows) p.1 p.2)]) s5 s6 s7 (λq hq=>hp q (bp _ hq)) ⋯ λs5 s6 s7=>by rw[eo];exact h s5 s6 s7
  rw[show vZ (p::ps)=.tup [.int p.1,.int p.2]::vZ ps from rfl,b7];refine⟨gq,?_⟩;generalize b8 (gT [5,6]) (kJ C (qI C) (rT C) (fQ C) (dM C)) [] (vZ ps) E=G at nx ⊢;push_cast [kJ];refine⟨rfl,rows,rfl,?_⟩;ac_nf;refine⟨⋯,?_⟩;rw[dq];refine Uw hn ⟨p0,⋯⟩ ⟨⋯,p2⟩ (aK rows).length 0 [] ⋯ (cg _) ?_;rw[nj,AX];push_cast [bf];refine⟨⋯,?_⟩;have e:fP acc++[Dv.tup [Dv.int p.1,Dv.int p.2,Dv.tup (cC (mE (aK rows) p.1 p.2))]]=fP (acc++[(p.1,p.2,mE (aK rows) p.1 p.2)]):=by simp
  have:=nx (.v (.int p.1)) (.v (.int p.2)) (.v (.lst (cC (mE (aK rows) p.1 p.2))));rw[<- e] at this;exact this
theorem EG:∀ds Q,FI C ds Q->rQ C (qI C) (rT C) (fQ C) (dM C) ↥Q (aN q1r ds):=by
 rintro ds Q ⟨rows,rfl,hn,q⟩;have pl:(bQ (aK rows)).length<=144:=by
  have h1:=tP (aK rows) (aK rows).length 0;have sq:(aK rows).length*(aK rows).length<=12*12:=zq hn hn;unfold bQ;ac_rfl
 ac_nf;intro a;refine⟨rows,rfl,hn,?_⟩;ac_nf;refine⟨.inr rfl,λb=>?_⟩;refine⟨rfl,rows,rfl,hn,?_⟩;ac_nf;refine Ux hn (bQ (aK rows)) [] _ _ _ (λp hp=>hp) ⋯ λs5 s6 s7=>?_;rw[nj];ac_nf;exact q
end _W
namespace _W
open _L _Z
open Sf (Rw crs vH Pre Good aK bB)
theorem RL{u k:Int}(h0:-1000000<k)(hk:k<1000000):vW u k:=.inl (.inr ⟨⋯,⋯⟩)
noncomputable def aR:Nat->List Nat->List Int
 |_,[]=>[]
 |k,c::cs=>av c (k:Int)++aR (k+1) cs
theorem sS:∀(k:Nat) (cs:List Nat) (c:Nat),aR k (cs++[c])=aR k cs++av c ((k+cs.length:Nat):Int)
 |_,[],_=>by simp[aR]
 |k,a::rs,c=>by
  simp only[WV,aR,sS (k+1) rs c,eo,dg];congr 3;ac_rfl
theorem nD:∀(k:Nat) (cs:List Nat),(aR k cs).length=cs.sum
 |_,[]=>rfl
 |k,c::cs=>by simp[aR,nD (k+1) cs]
structure Cnt(cs:List Nat):Prop where
 lo:2<=cs.length
 hi:cs.length<=6
 ok:∀c∈cs,1<=c
 tot:cs.sum<=12
def nV:Fn:=λds Q=>∃(ns:List Int) (k:Nat),ds=[.scr ns,.int k] /\ ∀c:Int,Q (.v (.int c))
theorem Kj:Ln nV 2:=by rintro ds Q ⟨_,_,rfl,_⟩;rfl
theorem N8:MonoF nV:=⟨λds Q Q' w z=>by obtain⟨p,q,e,h⟩:=z;exact⟨p,q,e,λn=>w _ (h n)⟩⟩
variable {E:En}
theorem Qh{x0:Sl}{k0 c:Int}(hc:0<=c/\c<=1000000000000000)(h:∀(d:Int) (s4:Sl),E.nx [x0,.v (.int k0),.v (.int c),.v (.int d),s4]):∀(i k:Nat) (d:Int) (s4:Sl),k+i<=14 ->
  b8 (gN 4) iZ [] (bE k i) E [x0,.v (.int k0),.v (.int c),.v (.int d),s4]:=by
 intro i;induction i with
 |zero=>
  intro k d s4 _;rw[bS,b6];exact⟨gq,h _ _⟩
 |succ i ih=>
  intro k d s4 hk;rw[bI,b7];refine⟨gq,?_⟩;rw[uP k];have nx:=λd s4=>ih (k+1) d s4 ⋯;generalize b8 (gN 4) iZ [] (bE ((k+1:Nat):Int) i) E=G at nx ⊢;push_cast [iZ];exact⟨.inl (.inr ⟨by decide,by decide⟩),.inl (.inr ⟨by decide,by decide⟩),.inl (.inl ⟨⋯,⋯⟩),.inl (.inr ⟨by decide,by decide⟩),.inl (.inr ⟨by decide,by decide⟩),nx _ _⟩
theorem Uz{k c:Int}{Q:R->Prop}(h:∀c:Int,Q (.v (.int c))):(aP (gM (Et (aV (aQ HD (aE 2) (eC (.int 0)))) (aV (aQ EJ (aE 2) (aQ w9 (eC (.int 10)) (eC (.int 15)))))) (c8 (aE 2)) bH)
 (aP (c6 3 (eC (.int 0)))
 (aP (fS (eR (aA (eC (.int 14)) aG)) (gN 4) iZ)
 (c8 (aE 3))))) ↥Q [.v (.scr ns),.v (.int k),.v (.int c),.un,.un]:=by
 ac_nf;refine gQ (λ_=>h c) λe=>⟨⟨by decide,by decide,by decide⟩,gQ (λ_=>h c) λe2=>?_⟩;refine Qh ⟨⋯,⋯⟩ (λd s4=>?_) 14 0 0 _ ∅;ac_nf;exact h d
theorem V0{k:Nat}{tl:c7}(h:∀c:Int,tl E [.v (.scr ns),.v (.int k),.v (.int c),.un,.un]):(aP (c6 2 (eC (.int 0)))
 (aP (gM (aV (aQ HD (aE 1) (gD fO (aA (aE 0) aG)))) (c6 2 (aQ cW (aE 0) (aE 1))) bH) tl)) E [.v (.scr ns),.v (.int k),.un,.un,.un]:=by
 ac_nf;refine gQ (λ_=>?_) λ_=>h 0;obtain⟨n,hn⟩:∃n,sU ns (k:Int)=ae n:=by
  rw[jK ⋯ ⋯];exact⟨_,dt ⋯⟩
 rw[hn];exact h n
theorem ED:∀ds Q,nV ds Q->rN ↥Q (aN q1v ds):=by
 rintro ds Q ⟨ns,k,rfl,h⟩;exact V0 λc=>Uz h
end _W
variable {cs:List Nat}
namespace _W
open _L _Z
open Sf (Rw crs vH Pre Good aK bB)
open Fl (kd ids)
noncomputable abbrev cD(cs:List Nat):List Dv:=cs.map λc:Nat=>Dv.int (c:Int)
def mQ:Fn:=λds Q=>∃(m:Nat) (o:Int),ds=[.int m,.int o]/\2<=m/\m<=6 /\ ∀cs,Cnt cs->cs.length=m->Q (.nw (.lst (cD cs)))
theorem Ea:Ln mQ 2:=by rintro ds Q ⟨_,_,rfl,_⟩;rfl
theorem HR:MonoF mQ:=⟨λds Q Q' w z=>by obtain⟨p,q,e,a,b,h⟩:=z;exact⟨p,q,e,a,b,λcs g l=>w _ (h cs g l)⟩⟩
theorem Ez{k:Nat}(h:k<cs.length):(cD cs)[k]?=ae (.int (cs[k]:Nat)):=by
 rw[dw,dt h];rfl
theorem FG:∀(cs:List Nat) (k x:Nat) (h:k<cs.length),(cs.set k (cs[k]+x)).sum=cs.sum+x
 |c::cs,0,x,_=>by simp;ac_rfl
 |c::cs,k+1,x,h=>by
  have:=FG cs k x (by simpa using h);simp[this];ac_rfl
theorem Iw:∀(cs:List Nat) (c:Nat),c∈cs->c<=cs.sum
 |d::cs,c,h=>by
  rw[vc];rcases bv.mp h with rfl | h
  ·ac_rfl
  ·have:=Iw cs c h;ac_rfl
variable {E:En}
theorem Pc{x0:Sl}(hn:n<=6)(h:∀(cs:List Nat) (o l:Int) (s4 s5:Sl),cs.length=n->(∀c∈cs,1<=c)->cs.sum<=12->E.nx [x0,.v (.int o),.own a (.lst (cD cs)),.v (.int l),s4,s5]):∀(i k:Nat) (cs:List Nat) (o:Int) (l:Nat) (s4 s5:Sl),k+i=n->cs.length=n->(∀c∈cs,1<=c)->cs.sum+l<=12 ->
  b8 (gN 4) iW [] (bE k i) E [x0,.v (.int o),.own a (.lst (cD cs)),.v (.int l),s4,s5]:=by
 intro i;induction i with
 |zero=>
  intro k cs o l s4 s5 _ h1 h2 h3;rw[bS,b6];exact⟨gq,h _ _ _ _ _ h1 h2 ⋯⟩
 |succ i ih=>
  intro k cs o l s4 s5 hk h1 h2 h3;rw[bI,b7];refine⟨gq,?_⟩;rw[uP k];have nx:=λcs o l s4 s5=>ih (k+1) cs o l s4 s5 ⋯;generalize b8 (gN 4) iW [] (bE ((k+1:Nat):Int) i) E=G at nx ⊢;have kl:k<cs.length:=⋯;obtain⟨x,ex,hx⟩:∃x:Nat,o % ((l:Int)+1)=x/\x<=l:=⟨(o % ((l:Int)+1)).toNat,by rw[ux (xv _ ⋯)],by have:=ur o (show (0:Int)<(l:Int)+1 by ac_rfl);ac_rfl⟩;push_cast [iW];rw[ex];refine⟨⋯,⟨⋯,⋯⟩,k,cs[k],rfl,Ez kl,x,rfl,?_⟩;rw[show (l:Int)-x=((l-x:Nat):Int) by ac_rfl];have e:(cD cs).set k (.int ((cs[k]:Nat)+(x:Nat)))=cD (cs.set k (cs[k]+x)):=by
   show _=(cs.set k (cs[k]+x)).map λc:Nat=>Dv.int (c:Int);rw[List.map_set];rfl
  rw[e];refine nx _ _ _ _ _ (by simpa using h1) (λc hc=>?_) (by rw[FG cs k x kl];ac_rfl);rcases jy hc with hc | rfl
  ·exact h2 c hc
  ·have:=h2 _ (ft kl);ac_rfl
theorem BB:∀ds Q,mQ ds Q->nP ↥Q (aN q2a ds):=by
 rintro ds Q ⟨m,o,rfl,h1,h2,h⟩;have e:(av (m:Int).toNat [Dv.int 1]).flatten=cD (av m 1):=by
  rw[dq];simp[kx]
 ac_nf;rw[e];refine⟨⟨⋯,⋯,⋯⟩,λa=>?_⟩;refine⟨⋯,?_⟩;rw[dq,show (12:Int)-m=((12-m:Nat):Int) by ac_rfl];refine Pc h2 (λcs o l s4 s5 e1 e2 e3=>?_) m 0 _ _ _ _ _ ⋯ (by simp) (λc hc=>by rw[gm hc];decide) ⋯;ac_nf;exact h cs ⟨⋯,⋯,e2,e3⟩ e1
def mR:Fn:=λds Q=>∃cs:List Nat,ds=[.lst (cD cs)]/\Cnt cs/\Q (.v (.lst (cC (aR 0 cs))))
theorem Ec:Ln mR 1:=by rintro ds Q ⟨_,rfl,_⟩;rfl
theorem HU:MonoF mR:=⟨λds Q Q' w z=>by obtain⟨p,e,a,h⟩:=z;exact⟨p,e,a,w _ h⟩⟩
theorem NU(C:Cnt cs)(h:∀s2,E.nx [.v (.lst (cD cs)),.v (.lst (cC (aR 0 cs))),s2]):∀(i k:Nat) (s2:Sl),k+i=cs.length ->
  b8 (gN 2) jH [] (bE k i) E [.v (.lst (cD cs)),.v (.lst (cC (aR 0 (cs.take k)))),s2]:=by
 intro i;induction i with
 |zero=>
  intro k s2 hk;rw[bS,b6];rw[sr ⋯];exact⟨gq,h _⟩
 |succ i ih=>
  intro k s2 hk;rw[bI,b7];refine⟨gq,?_⟩;rw[uP k];have nx:=λs2=>ih (k+1) s2 ⋯;generalize b8 (gN 2) jH [] (bE ((k+1:Nat):Int) i) E=G at nx ⊢;have kl:k<cs.length:=⋯;have at_:sU (cD cs) (k:Int)=ae (.int (cs[k]:Nat)):=by
   rw[jK ⋯ ⋯,dq];exact Ez kl
  have tot:=C.tot;have le:cs[k]<=cs.sum:=Iw cs _ (ft kl);have tl:(cs.take k).sum<=cs.sum:=by
   have:=List.sum_append (l₁:=cs.take k) (l₂:=cs.drop k);rw[uu] at this;ac_rfl
  have e:cC (aR 0 (cs.take k))++(av (cs[k]) [Dv.int (k:Int)]).flatten=cC (aR 0 (cs.take (k+1))):=by
   rw[wj kl,sS];show _=wf Dv.int _;rw[oo,lc,xp ⋯,zj,kx];simp
  push_cast [jH];rw[at_];ac_nf;rw[dq,e];refine⟨⟨⋯,⋯,⋯⟩,?_,nx _⟩;simp[nD];ac_rfl
theorem Cj:∀ds Q,mR ds Q->p9 ↥Q (aN q1x ds):=by
 rintro ds Q ⟨cs,rfl,C,h⟩;have hi:=C.hi;push_cast [bf];refine⟨⋯,?_⟩;rw[dq];refine NU C (λs2=>?_) cs.length 0 _ ⋯;ac_nf;exact h
noncomputable def zF(a s t:Int)(k c:Nat):Rw:=⟨a-k*s,k*t,c⟩
noncomputable def mY(a s t:Int):Nat->List Nat->List Rw
 |_,[]=>[]
 |k,c::cs=>zF a s t k c::mY a s t (k+1) cs
theorem FK{a s t:Int}{k c:Nat}:mY a s t k (c::cs)=zF a s t k c::mY a s t (k+1) cs:=rfl
theorem uS(a s t:Int):∀(k:Nat) (cs:List Nat),(mY a s t k cs).length=cs.length
 |_,[]=>rfl
 |k,c::cs=>by rw[FK,dg,dg,uS]
theorem vN(a s t:Int):∀(k:Nat) (cs:List Nat),bB k (mY a s t k cs)=aR k cs
 |_,[]=>rfl
 |k,c::cs=>by
  show _++bB (k+1) (mY a s t (k+1) cs)=_++aR (k+1) cs;rw[vN a s t (k+1) cs];rfl
theorem xO(a s t:Int):∀(k:Nat) (cs:List Nat),Sf.many (mY a s t k cs)=((cs.sum:Nat):Int)
 |_,[]=>rfl
 |k,c::cs=>by
  have:=xO a s t (k+1) cs;show (c:Int)+Sf.many (mY a s t (k+1) cs)=_;rw[this,vc];ac_rfl
theorem uR(a s t:Int):∀(k:Nat) (cs:List Nat) (r:Rw),r∈mY a s t k cs -> ∃j c,r=zF a s t j c/\k<=j/\j<k+cs.length/\c∈cs
 |_,[],_,h=>nomatch h
 |k,c::cs,r,h=>by
  rcases bv.mp h with rfl | h
  ·exact⟨k,c,rfl,⋯,by simp,bz ..⟩
  ·obtain⟨j,d,e,h1,h2,h3⟩:=uR a s t (k+1) cs r h;exact⟨j,d,e,⋯,⋯,bp _ h3⟩
theorem Sv(a s t:Int)(i j c d:Nat):crs (zF a s t i c) (zF a s t j d)=a*t*((j:Int)-i):=by
 unfold crs zF;dsimp only
 grind
theorem AF{a s t:Int}(ha:0<a)(ht:0<t):∀(k:Nat) (cs:List Nat),vH (mY a s t k cs)
 |_,[]=>.nil
 |k,c::cs=>by
  refine .cons (λr hr=>?_) (AF ha ht (k+1) cs);obtain⟨j,d,rfl,h1,_,_⟩:=uR a s t (k+1) cs r hr;rw[Sv];exact a0q (a0q ha ht) ⋯
end _W
namespace _W
open _L _Z
open Sf (Rw crs vH Pre Good aK bB)
variable {a s:Int}
theorem Ss{t:Int}(C:Cnt cs){Q:R->Prop}:∀(i k:Nat) (acc:List Rw),k+i=cs.length->acc.length+i<=1000->Q (.nw (.lst (CC (acc++mY a s t k (cs.drop k))))) ->
  d8 [.un,.v (.int a),.v (.int t),.v (.lst (cD cs)),.v (.int s)] (gN 0) eP (bY (aA (aQ tN (aE 1) (aQ j5 (aE 0) (aE 4))) (aA (aQ j5 (aE 0) (aE 2)) (aA (aQ cW (aE 3) (aE 0)) aG)))) (bE k i) (CC acc) Q:=by
 intro i;induction i with
 |zero=>
  intro k acc hk _ h;rw[bS,d7];rw[uh ⋯,show mY a s t k []=[] from rfl,fy] at h;exact h
 |succ i ih=>
  intro k acc hk hl h;have kl:k<cs.length:=⋯;have hi:=C.hi;have at_:sU (cD cs) (k:Int)=ae (.int (cs[k]:Nat)):=by
   rw[jK ⋯ ⋯,dq];exact Ez kl
  rw[bI,iA];rw[uP k];rw[fj kl,FK] at h;have nx:=ih (k+1) (acc++[zF a s t k cs[k]]) ⋯ ⋯ (by simpa using h);generalize d8 [.un,.v (.int a),.v (.int t),.v (.lst (cD cs)),.v (.int s)] (gN 0) eP (bY (aA (aQ tN (aE 1) (aQ j5 (aE 0) (aE 4))) (aA (aQ j5 (aE 0) (aE 2)) (aA (aQ cW (aE 3) (aE 0)) aG)))) (bE ((k+1:Nat):Int) i)=G at nx ⊢;ac_nf;rw[at_];push_cast [bf];refine⟨.inl (.inl ⟨⋯,⋯⟩),.inl (.inl ⟨⋯,⋯⟩),⋯,?_⟩;rw[show CC acc++[Dv.tup [Dv.int (a-k*s),Dv.int (k*t),Dv.int (cs[k]:Nat)]]=CC (acc++[zF a s t k cs[k]]) by simp[zF]];exact nx
def t4:Fn:=λds Q=>∃(cs:List Nat) (c:Int),ds=[.lst (cD cs),.int c]/\Cnt cs /\ ∀rows,Good rows->aK rows=aR 0 cs->Q (.nw (.lst (CC rows)))
theorem Ki:Ln t4 2:=by rintro ds Q ⟨_,_,rfl,_⟩;rfl
theorem N7:MonoF t4:=⟨λds Q Q' w z=>by obtain⟨p,q,e,a,h⟩:=z;exact⟨p,q,e,a,λr x y=>w _ (h r x y)⟩⟩
theorem E5{t:Int}(ha:1<=a)(ha2:a<=100000000000)(hs:-10000000000<=s)(hs2:s<=10000000000)(ht:1<=t)(ht2:t<=10000000000)(C:Cnt cs):Good (mY a s t 0 cs):=by
 have lo:=C.lo;have hi:=C.hi;have tt:=C.tot;refine⟨by rw[uS];ac_rfl,by rw[uS];ac_rfl,AF ⋯ ⋯ 0 cs,λr hr=>?_,by rw[xO];ac_rfl⟩;obtain⟨j,c,rfl,_,h2,h3⟩:=uR a s t 0 cs r hr;have h1:=C.ok c h3;have hj:j=0 \/ j=1 \/ j=2 \/ j=3 \/ j=4 \/ j=5:=⋯;unfold zF Rw.up;dsimp only;rcases hj with rfl | rfl | rfl | rfl | rfl | rfl
 all_goals refine⟨?_,?_,?_,?_,?_⟩<;>ac_rfl
theorem EC:∀ds Q,t4 ds Q->rM ↥Q (aN q1w ds):=by
 rintro ds Q ⟨cs,c,rfl,C,h⟩;have hi:=C.hi;have a0:=xv c (show (100000000000:Int)≠0 by decide);have a1:=ur c (show (0:Int)<100000000000 by decide);have b0:=xv (c / 7) (show (20000000000:Int)≠0 by decide);have b1:=ur (c / 7) (show (0:Int)<20000000000 by decide);have c0:=xv (c / 11) (show (10000000000:Int)≠0 by decide);have c1:=ur (c / 11) (show (0:Int)<10000000000 by decide);push_cast [bf];refine⟨⟨by decide,by decide,by decide⟩,⟨by decide,by decide,by decide⟩,.inl (.inr ⟨by decide,by decide⟩),⟨by decide,by decide,by decide⟩,⟨by decide,by decide,by decide⟩,⋯,?_⟩;rw[dq];refine Ss C cs.length 0 [] ⋯ ⋯ ?_;rw[nj,ZB];exact h _ (E5 ⋯ ⋯ ⋯ ⋯ ⋯ ⋯ C) (vN _ _ _ 0 cs)
end _W
variable {W:List (List _W.Ti)}
namespace _W
open _L _Z
open Sf (Rw crs vH Pre Good aK bB place many)
open Fl (kd ids pc srt mO eS Dy lD Qw)
theorem yY(k:Nat)(cs:List Nat):(aR k cs).Pairwise (· <= ·) /\ ∀x∈aR k cs,(k:Int)<=x:=by
 induction cs generalizing k with
 |nil=>exact⟨List.Pairwise.nil,λx hx=>by cases hx⟩
 |cons c cs ih=>
  obtain⟨i1,i2⟩:=ih (k+1);rw[aR];refine⟨lf.mpr ⟨?_,i1,λa ha b hb=>?_⟩,λx hx=>?_⟩
  ·rw[fk];intro i j hi hj _;simp
  ·rw[gm ha];have:=i2 b hb;ac_rfl
  ·rcases cr.mp hx with hx | hx
   ·rw[gm hx];exact X0 _
   ·have:=i2 x hx;ac_rfl
theorem oK(cs:List Nat):oS (aR 0 cs):=λa b h0 hab hb=>by
 have pw:=fk.mp (yY 0 cs).1;show (aR 0 cs).getD a.toNat 0<=(aR 0 cs).getD b.toNat 0;have e1:(aR 0 cs).getD a.toNat 0=(aR 0 cs)[a.toNat]'⋯:=by simp[gz,show a.toNat<(aR 0 cs).length by ac_rfl]
 have e2:(aR 0 cs).getD b.toNat 0=(aR 0 cs)[b.toNat]'⋯:=by simp[gz,show b.toNat<(aR 0 cs).length by ac_rfl]
 rw[e1,e2];rcases a07 a.toNat b.toNat with h | h
 ·exact pw _ _ _ _ h
 ·have:a.toNat=b.toNat:=⋯;simp[this]
noncomputable def yV:List Nat->Nat
 | []=>0
 |c::cs=>c*cs.sum+yV cs
noncomputable def RJ:List Nat->Nat
 | []=>0
 |c::cs=>c*c+RJ cs
theorem Ca:∀(k:Nat) (cs:List Nat),pc (aR k cs)=yV cs
 |_,[]=>rfl
 |k,c::cs=>by
  rw[aR,yV,<- Ca (k+1) cs,<- nD (k+1) cs];have hi:=(yY (k+1) cs).2;generalize aR (k+1) cs=B at hi;induction c with
  |zero=>simp
  |succ c ih=>
   rw[kq,WV,pc,ih,Vw];have e1:(av c (k:Int)).filter (λy=>decide ((k:Int)<y))=[]:=Ww.mpr λx hx=>by rw[gm hx];simp
   have e2:B.filter (λy=>decide ((k:Int)<y))=B:=Xi.mpr λx hx=>by have:=hi x hx;simp;ac_rfl
   rw[e1,e2,Z8];simp;ac_rfl
theorem DZ:∀cs:List Nat,2*yV cs+RJ cs=cs.sum*cs.sum
 | []=>rfl
 |c::cs=>by
  have ih:=DZ cs;rw[yV,RJ,vc,Z8,mul_add c,mul_add cs.sum,<- ih,ZX cs.sum c];ac_rfl
theorem FH:∀cs:List Nat,4*cs.sum<=RJ cs+4*cs.length
 | []=>cg _
 |c::cs=>by
  have ih:=FH cs;have h:4*c<=c*c+4:=by
   rcases a07 c 4 with z | z
   ·have:c=0 \/ c=1 \/ c=2 \/ c=3:=⋯;rcases this with rfl | rfl | rfl | rfl<;>decide
   ·have:=X2 c z;ac_rfl
  rw[RJ,vc,dg];ac_rfl
theorem Qj(C:Cnt cs):pc (aR 0 cs)<=60:=by
 rw[Ca];have h1:=DZ cs;have h2:=FH cs;have h3:=C.tot;have h4:=C.hi;generalize cs.sum=S at *;have h5:S*S<=12*S:=X2 S h3;ac_rfl
theorem wW(C:Cnt cs):2<=(aR 0 cs).length/\(aR 0 cs).length<=12:=by
 rw[nD];have h:∀cs:List Nat,(∀c∈cs,1<=c)->cs.length<=cs.sum:=by
  intro cs;induction cs with
  |nil=>intro _;simp
  |cons c cs ih=>
   intro h;have h1:=h c (by simp);have h2:=ih λx hx=>h x (by simp[hx]);simp only[dg,vc];ac_rfl
 have:=h cs C.ok;have:=C.lo;have:=C.tot;ac_rfl
theorem AM(ks:List Int):∀i a,a+i=ks.length->2*(o8 ks i a).length<=i*i
 |0,_,_=>qd _
 |i+1,a,h=>by
  rw[o8,dh];have h1:=AM ks i (a+1) ⋯;have h2:=tZ ks a (ks.length-(a+1)) (a+1);have h3:(i+1)*(i+1)=i*i+2*i+1:=by rw[Z8,mul_add];ac_rfl
  ac_rfl
theorem xD(hn:ks.length<=12):(bD ks).length<=864:=by
 have h1:=AM ks ks.length 0 ⋯;have h2:=nO ks (bQ ks);have sq:ks.length*ks.length<=12*12:=zq hn hn;have h3:(bQ ks).length*ks.length<=72*12:=zq (by unfold bQ;ac_rfl) hn;unfold bD;ac_rfl
def Dm(l:List Int):Prop:=l.Pairwise (· < ·)
variable {l:List Int}
theorem Ix(h:Dm l):srt l=l:=(mO (.refl l) (h.imp λz=>Wx z)).symm
theorem Dm.nd(h:Dm l):l.Nodup:=h.imp λz e=>by ac_rfl
variable {b:Int}
theorem qD(h:Dm l)(n:b ∉ l):Dm (srt (l++[b])):=by
 have nd:(srt (l++[b])).Nodup:=(eS _).nodup_iff.mpr (yk.mpr ⟨h.nd,ou _ _,λx hx y hy e=>n (by rw[<- cq.mp hy,<- e];exact hx)⟩);exact((Dy _).and nd).imp λz=>by have:=z.1;have:=z.2;ac_rfl
variable {z:Int}
theorem yB(h:z∈srt (l++[b])):z∈l \/ z=b:=by
 have:=(eS _).mem_iff.mp h;simpa using this
theorem CO(h:z∈l):z∈srt (l++[b]):=(eS _).mem_iff.mpr (by simp[h])
theorem BX:z∈ids n ↔ 0<=z/\z<n:=by
 unfold ids;rw[fq];constructor
 ·rintro⟨k,hk,rfl⟩;have:=sy.mp hk;ac_rfl
 ·rintro⟨h1,h2⟩;exact⟨z.toNat,sy.mpr ⋯,⋯⟩
theorem GF(n:Nat):Dm (ids n):=by
 unfold ids Dm;rw[jb];exact List.pairwise_lt_range.imp λh=>by ac_rfl
theorem Na(n:Nat):(ids n).length=n:=by unfold ids;simp
theorem Dm.len(h:Dm l)(b:∀z∈l,0<=z/\z<n):l.length<=n:=by
 have:=h.nd.length_le_of_subset (l₂:=ids n) λz hz=>BX.mpr (b z hz);rw[Na] at this;exact this
abbrev NI(p q:Int×Int):Prop:=p.1<q.1 \/ p.1=q.1/\p.2<q.2
theorem GE(ks:List Int)(a:Int):∀i b,(AV ks a i b).Pairwise NI
 |0,_=>.nil
 |i+1,b=>by
  rw[AV];refine lf.mpr ⟨?_,GE ks a i (b+1),λp hp q hq=>?_⟩
  ·split
   ·exact .nil
   ·exact ou _ _
  ·have h:=(wS ks a i (b+1) q).mp hq;split at hp
   ·cases hp
   ·rw[cq.mp hp];exact .inr ⟨h.1.symm,by have:=h.2.1;dsimp only;ac_rfl⟩
theorem D0(ks:List Int):∀i a,a+i=ks.length->(o8 ks i a).Pairwise NI
 |0,_,_=>.nil
 |i+1,a,h=>by
  rw[o8];refine lf.mpr ⟨GE _ _ _ _,D0 ks i (a+1) ⋯,λp hp q hq=>?_⟩;have h1:=(wS _ _ _ _ p).mp hp;have h2:=(xW ks i (a+1) q ⋯).mp hq;exact .inl (by have:=h1.1;have:=h2.1;ac_rfl)
theorem AJ(ks:List Int):(bQ ks).Pairwise NI:=D0 ks _ 0 ⋯
theorem LC{ks:List Int}(m:oS ks)(a:Int)(h0:0<=a):∀i b:Nat,a<b->b+i=ks.length->(AV ks a i b).length=((ks.drop b).filter λy=>decide (kd ks a<y)).length
 |0,b,_,h=>by rw[uh ⋯];rfl
 |i+1,b,hb,h=>by
  have hl:b<ks.length:=⋯;have e:kd ks (b:Int)=ks[b]:=by unfold kd;rw[dq,gz];simp[hl]
  have mm:=m a b h0 ⋯ ⋯;rw[AV,dh,LC m a h0 i (b+1) ⋯ ⋯,fj hl,qj,<- e];by_cases z:kd ks a=kd ks (b:Int)
  ·rw[a0G z,a0h (by rw[decide_eq_true_eq];ac_rfl)];simp
  ·rw[a0h z,a0G (by rw[decide_eq_true_eq];ac_rfl)];simp;ac_rfl
theorem Fx{ks:List Int}(m:oS ks):∀i a:Nat,a+i=ks.length->(o8 ks i a).length=pc (ks.drop a)
 |0,a,h=>by rw[uh ⋯];rfl
 |i+1,a,h=>by
  have hl:a<ks.length:=⋯;have e:kd ks (a:Int)=ks[a]:=by unfold kd;rw[dq,gz];simp[hl]
  rw[o8,dh,Fx m i (a+1) ⋯,fj hl,pc,<- e,LC m (a:Int) ⋯ _ (a+1) ⋯ ⋯]
theorem Jh(m:oS ks):(bQ ks).length=pc ks:=by
 have:=Fx m ks.length 0 ⋯;rw[ZB] at this;exact this
structure Sh(ks:List Int)(fl:List Ti):Prop where
 prs:fl.map (λt=>(t.1,t.2.1))=bQ ks
 asc:∀t∈fl,Dm t.2.2
 ran:∀t∈fl,∀z∈t.2.2,(0<=z/\z<ks.length)/\z≠t.1/\z≠t.2.1
theorem Sh.mem{fl:List Ti}(S:Sh ks fl){t:Ti}(h:t∈fl):(t.1,t.2.1)∈bQ ks:=by
 rw[<- S.prs];exact wg (f:=λt:Ti=>(t.1,t.2.1)) h
variable {a:Int}
theorem Sh.has{fl:List Ti}(S:Sh ks fl)(hn:ks.length<=12){c:Int}(h:(a,c)∈bQ ks):F6 fl a c:=by
 rw[<- S.prs] at h;obtain⟨t,ht,e⟩:=fq.mp h;obtain⟨u,f,m,_,_,o⟩:=yI (l:=fl) (a:=a) (c:=c) ⟨t,ht,congrArg Prod.fst e,congrArg Prod.snd e⟩;exact⟨u,f,o.symm,mh ((S.asc u m).len λz hz=>(S.ran u m z hz).1) ⋯⟩
theorem i7(m:oS ks){t:Int×Int×Int}(h:t∈bD ks):(t.1,t.2.1)∈bQ ks/\(t.1,t.2.2)∈bQ ks/\(t.2.1,t.2.2)∈bQ ks:=by
 obtain⟨h1,h2,h3,h4,h5,h6⟩:=f6 h;have m1:=m t.1 t.2.1 h1 ⋯ ⋯;have m2:=m t.2.1 t.2.2 ⋯ ⋯ h4;exact⟨cN.mpr ⟨h1,h2,by dsimp only;ac_rfl,h5⟩,cN.mpr ⟨h1,by dsimp only;ac_rfl,h4,by dsimp only;ac_rfl⟩,cN.mpr ⟨by dsimp only;ac_rfl,h3,h4,h6⟩⟩
theorem Sh.up{fl:List Ti}(S:Sh ks fl):fl.Pairwise DB:=by
 have:=AJ ks;rw[<- S.prs,jb] at this;exact this.imp λ{x y} z=>BR (x:=x.2.2) (y:=y.2.2) z
theorem Sh.keys{fl:List Ti}(S:Sh ks fl):A0 fl:=by
 have:=AJ ks;rw[<- S.prs,jb] at this;exact this.imp λ{x y} z e=>by obtain⟨e1,e2⟩:=e;simp only[NI] at z;ac_rfl
theorem Sh.len{fl:List Ti}(S:Sh ks fl):fl.length=(bQ ks).length:=by rw[<- S.prs,bf]
theorem Sh.fl5{fl:List Ti}(S:Sh ks fl)(hn:ks.length<=12)(m:oS ks)(p:pc ks<=60):Fl5 ks fl:=by
 refine⟨hn,by rw[S.len,Jh m];exact p,S.keys,S.up,λx hx=>(cN.mp (S.mem hx)).2.1,λt ht=>?_,λx hx=>Ix (S.asc x hx)⟩;obtain⟨a,b,c⟩:=i7 m ht;exact⟨S.has hn a,S.has hn b,S.has hn c⟩
theorem Sh.flip{fl:List Ti}(S:Sh ks fl)(hn:ks.length<=12)(m:oS ks){c:Int}(ht:(a,b,c)∈bD ks)(hx:kK fl (a,b,c)):Sh ks (uE fl (a,b,c)):=by
 obtain⟨p1,p2,p3⟩:=i7 m ht;obtain⟨q1,q2,q3,q4,_,_⟩:=f6 ht;dsimp only at p1 p2 p3 q1 q2 q3 q4;have g1:=(S.has hn p1).mem.1;have g2:=(S.has hn p2).mem.1;have g3:=(S.has hn p3).mem.1;have a1:=S.asc _ g1;have a2:=S.asc _ g2;have a3:=S.asc _ g3;have r1:=S.ran _ g1;have r2:=S.ran _ g2;have r3:=S.ran _ g3;dsimp only at a1 a2 a3 r1 r2 r3;have key:∀v∈tU fl (a,b,c),Dm v.2.2 /\ ∀z∈v.2.2,(0<=z/\z<ks.length)/\z≠v.1/\z≠v.2.1:=by
  unfold tU;by_cases u:Dl fl (a,b,c)
  ·rw[a0G u];have e1:=u.1;dsimp only at e1;rw[e1] at r3;dsimp only;generalize oO fl a b=l at *;have nc:c ∉ l:=λz=>(r3 c z).2.2 rfl;have na:a ∉ l:=λz=>(r1 a z).2.1 rfl;intro v hv;simp only[OV,bv,gg,or_false] at hv;rcases hv with rfl | rfl | rfl
   ·refine⟨qD a1 nc,λz hz=>?_⟩;rcases yB hz with h | rfl
    ·exact r1 z h
    ·exact⟨⟨⋯,⋯⟩,by dsimp only;ac_rfl,by dsimp only;ac_rfl⟩
   ·exact⟨a1,λz hz=>⟨(r1 z hz).1,(r1 z hz).2.1,(r3 z hz).2.2⟩⟩
   ·refine⟨qD a1 na,λz hz=>?_⟩;rcases yB hz with h | rfl
    ·exact r3 z h
    ·exact⟨⟨⋯,⋯⟩,by dsimp only;ac_rfl,by dsimp only;ac_rfl⟩
  ·rw[a0h u];have d:Nu fl (a,b,c):=hx.resolve_left u;obtain⟨e1,e3⟩:=d;dsimp only at e1 e3;rw[e1] at r1;rw[e3] at r3;dsimp only;generalize oO fl a c=l at *;have nb:b ∉ l:=λz=>(r1 b (CO z)).2.2 rfl;intro v hv;simp only[Nv,bv,gg,or_false] at hv;rcases hv with rfl | rfl | rfl
   ·exact⟨a2,λz hz=>⟨(r2 z hz).1,(r2 z hz).2.1,λy=>nb ((show z=b from y) ▸ hz)⟩⟩
   ·refine⟨qD a2 nb,λz hz=>?_⟩;rcases yB hz with h | rfl
    ·exact r2 z h
    ·exact⟨⟨⋯,⋯⟩,by dsimp only;ac_rfl,by dsimp only;ac_rfl⟩
   ·exact⟨a2,λz hz=>⟨(r2 z hz).1,λy=>nb ((show z=b from y) ▸ hz),(r2 z hz).2.2⟩⟩
 have one:∀u∈uE fl (a,b,c),Dm u.2.2 /\ ∀z∈u.2.2,(0<=z/\z<ks.length)/\z≠u.1/\z≠u.2.1:=by
  intro u hu;obtain⟨x,hx,rfl⟩:=fq.mp hu;unfold rp;cases h:(tU fl (a,b,c)).find? (R1 x) with
  |none=>exact⟨S.asc x hx,S.ran x hx⟩
  |some v=>exact key v (mn h)
 refine⟨?_,λt h=>(one t h).1,λt h=>(one t h).2⟩;rw[<- S.prs,uE,ja];exact jo λx _=>by rw[Vx,(uQ _ x).1,(uQ _ x).2]
theorem FD(ks:List Int):Sh ks (eY ks):=by
 refine⟨by unfold eY;rw[ja];exact map_id _,λt ht=>?_,λt ht z hz=>?_⟩
 ·obtain⟨p,_,rfl⟩:=fq.mp ht;exact(GF _).filter _
 ·obtain⟨p,hp,rfl⟩:=fq.mp ht;obtain⟨_,h2,_,_⟩:=cN.mp hp;obtain⟨i,b⟩:=qo.mp hz;refine⟨BX.mp i,λe=>?_,λe=>?_⟩
  ·dsimp only at e;subst e;unfold qY at b;rw[a0h ⋯,a0h ⋯,decide_eq_false ⋯,ig,ig] at b;cases b
  ·dsimp only at e;subst e;unfold qY at b;rw[a0h ⋯,a0h ⋯,decide_eq_false (show ¬p.2<p.2 by ac_rfl),qz,ig] at b;cases b
inductive Rc(ks:List Int):List Ti->Prop
 |lo:Rc ks (eY ks)
 |go {fl:List Ti} {t:Int×Int×Int}:Rc ks fl->t∈bD ks->kK fl t->Rc ks (uE fl t)
theorem Rc.sh(hn:ks.length<=12)(m:oS ks){fl:List Ti}(r:Rc ks fl):Sh ks fl:=by
 induction r with
 |lo=>exact FD ks
 |go _ ht hx ih=>exact ih.flip hn m ht hx
noncomputable def nbs(ks:List Int)(fl:List Ti):List (List Ti):=((bD ks).filter λt=>decide (kK fl t)).map (uE fl)
theorem BI{fl g:List Ti}:g∈nbs ks fl ↔ ∃t∈bD ks,kK fl t/\uE fl t=g:=by
 unfold nbs;rw[fq];constructor
 ·rintro⟨t,h,e⟩;obtain⟨h1,h2⟩:=qo.mp h;exact⟨t,h1,of_decide_eq_true h2,e⟩
 ·rintro⟨t,h1,h2,e⟩;exact⟨t,qo.mpr ⟨h1,decide_eq_true h2⟩,e⟩
theorem Rc.nb{fl g:List Ti}(r:Rc ks fl)(h:g∈nbs ks fl):Rc ks g:=by
 obtain⟨t,h1,h2,rfl⟩:=BI.mp h;exact r.go h1 h2
theorem Rc.all(lo:eY ks∈W)(cl:∀f∈W,∀g∈nbs ks f,g∈W){fl:List Ti}(r:Rc ks fl):fl∈W:=by
 induction r with
 |lo=>exact lo
 |go _ ht hx ih=>exact cl _ ih _ (BI.mpr ⟨_,ht,hx,rfl⟩)
theorem wM(hn:ks.length<=12)(fl:List Ti):(nbs ks fl).length<=864:=by
 unfold nbs;rw[bf];exact mh (rq _ _) (xD hn)
end _W
namespace _W
open _L _Z
open Sf (Rw crs vH Pre Good aK bB place many)
open Fl (kd ids pc srt)
def rS(C:af):Fn:=λds Q=>∃rows:List Rw,ds=[bL C rows]/\(aK rows).length<=12/\Q (.nw (.lst (fP (eY (aK rows)))))
theorem NL:Ln (rS C) 1:=by rintro ds Q ⟨_,rfl,_⟩;rfl
theorem ER:MonoF (rS C):=⟨λds Q Q' w z=>by obtain⟨a,b,c,h⟩:=z;exact⟨a,b,c,w _ h⟩⟩
theorem Rp:∀ds Q,rS C ds Q->Ir (FI C) ↥Q (aN q0d ds):=by
 rintro ds Q ⟨rows,rfl,hn,q⟩;ac_nf;refine⟨rows,rfl,hn,?_⟩;ac_nf;exact q
noncomputable abbrev cJ(F:List (List Ti)):List Dv:=F.map GL
structure Rd(ks:List Int):Prop where
 n12:ks.length<=12
 mo:oS ks
 pc60:pc ks<=60
def t6(C XT:af):IS:=λds Q Ψ=>∃(rows:List Rw) (a0M:Nat),ds=[bL C rows,.int a0M]/\Rd (aK rows)/\a0M<=300 /\
 (∀F:List (List Ti),F.Pairwise (λa b=>pS a b=ak)->(∀f,f∈F ↔ Rc (aK rows) f)->F.length<=a0M->Q (.nw (.lst (cJ F)))) /\
 ∀G:List (List Ti),G.Nodup->(∀g∈G,Rc (aK rows) g)->G.length=a0M+1->Ψ (XT,ao)
variable {XT:af}
theorem Km:∀ds Q Ψ,t6 C XT ds Q Ψ->ds.length=2:=by rintro ds Q Ψ ⟨_,_,rfl,_⟩;rfl
theorem G1:MonoX (t6 C XT):=⟨λds Q Q' Ψ Ψ' w v zq3=>by obtain⟨a,b,c,d,e,f,g⟩:=zq3;exact⟨a,b,c,d,e,λF x y z=>w _ (f F x y z),λG x y z=>v _ (g G x y z)⟩⟩
variable {E:En}{x1 x2 x3:Sl}
theorem T9{Ψ:IP->Prop}{fl:List Ti}{c:af}(F:Fl5 (aK rows) fl):∀(ts:List (Int×Int×Int)) (wait:List (List Ti)) (s6:Sl),(∀t∈ts,t∈bD (aK rows)/\kK fl t)->wait.length+ts.length<=900000 ->
  (∀s6,E.nx [.v (bL C rows),x1,x2,x3,.own c (.lst (cJ (wait++ts.map (uE fl)))),.v (.lst (fP fl)),s6]) ->
  b8 (gN 6) (hG XT Ψ (rS C) (xH C) (nU C)) [] (uI ts) E [.v (bL C rows),x1,x2,x3,.own c (.lst (cJ wait)),.v (.lst (fP fl)),s6]:=by
 intro ts;induction ts with
 |nil=>
  intro wait s6 _ _ h;rw[show uI []=[] from rfl,b6];rw[qe,fy] at h;exact⟨gq,h _⟩
 |cons t ts ih=>
  intro wait s6 hm hl h;rw[dg] at hl;obtain⟨m1,m2⟩:=hm t (bz ..);obtain⟨_,q2,q3,_,_,_⟩:=f6 m1;have nx:=λs6=>ih (wait++[uE fl t]) s6 (λu hu=>hm u (bp _ hu)) ⋯ λs6=>by rw[eo];exact h s6
  rw[show uI (t::ts)=.tup [.int t.1,.int t.2.1,.int t.2.2]::uI ts from rfl,b7];refine⟨gq,?_⟩;generalize b8 (gN 6) (hG XT Ψ (rS C) (xH C) (nU C)) [] (uI ts) E=G at nx ⊢;push_cast [hG];refine⟨rows,fl,t.1,t.2.1,t.2.2,rfl,F,q2,q3,m1,m2,?_⟩;push_cast [bf];refine⟨⋯,?_⟩;have e:cJ wait++[Dv.lst (fP (uE fl (t.1,t.2.1,t.2.2)))]=cJ (wait++[uE fl t]):=by simp
  have:=nx (.v (.tup [.int t.1,.int t.2.1,.int t.2.2]));rw[<- e] at this;exact this
structure Wl(ks:List Int)(most:Nat)(F W:List (List Ti)):Prop where
 nd:F.Nodup
 rf:∀f∈F,Rc ks f
 rw:∀f∈W,Rc ks f
 lo:eY ks∈F \/ eY ks∈W
 cl:∀f∈F,∀g∈nbs ks f,g∈F \/ g∈W
 le:F.length<=most
 wl:W.length<=1+864*F.length
theorem v3(ks:List Tk)(k:Tk):hasTk ks k=decide (k∈ks):=by
 unfold hasTk;rw[nr,WW,decide_eq_true_eq];constructor
 ·rintro⟨x,h,e⟩;rw[<- of_decide_eq_true e];exact h
 ·intro h;exact⟨k,h,decide_eq_true rfl⟩
theorem B8{ks:List Tk}{k:Tk}(h:k ∉ ks):f9 ks k=ks++[k]:=by
 have:=v3 ks k;rw[decide_eq_false h] at this;unfold f9;rw[show ks.any (λx=>decide (x=k))=am from this,a0h ∅]
theorem BH{l:List α}{a:α}(h:l.Nodup)(n:a ∉ l):(l++[a]).Nodup:=yk.mpr ⟨h,ou _ _,λx hx y hy e=>n (by rw[<- cq.mp hy,<- e];exact hx)⟩
variable {a0M:Nat}{F:List (List Ti)}
theorem Wl.skip{fl:List Ti}(w:Wl ks a0M F (W++[fl]))(h:fl∈F):Wl ks a0M F W:=by
 refine⟨w.nd,w.rf,λf hf=>w.rw f (by simp[hf]),?_,λf hf g hg=>?_,w.le,by have:=w.wl;rw[dh,lr] at this;ac_rfl⟩
 ·rcases w.lo with z | z
  ·exact .inl z
  ·rcases cr.mp z with z | z
   ·exact .inr z
   ·rw[cq.mp z];exact .inl h
 ·rcases w.cl f hf g hg with z | z
  ·exact .inl z
  ·rcases cr.mp z with z | z
   ·exact .inr z
   ·rw[cq.mp z];exact .inl h
theorem Wl.take{fl:List Ti}(hn:ks.length<=12)(w:Wl ks a0M F (W++[fl]))(h:fl ∉ F)(l:F.length<a0M):Wl ks a0M (F++[fl]) (W++nbs ks fl):=by
 have rl:Rc ks fl:=w.rw fl (by simp);have mv:∀g,g∈F \/ g∈W++[fl]->g∈F++[fl] \/ g∈W++nbs ks fl:=λg z=>by
  rcases z with z | z
  ·exact .inl (by simp[z])
  ·rcases cr.mp z with z | z
   ·exact .inr (by simp[z])
   ·exact .inl (cr.mpr (.inr z))
 refine⟨BH w.nd h,λf hf=>?_,λf hf=>?_,mv _ w.lo,λf hf g hg=>?_,⋯,?_⟩
 ·rcases cr.mp hf with z | z
  ·exact w.rf f z
  ·rw[cq.mp z];exact rl
 ·rcases cr.mp hf with z | z
  ·exact w.rw f (by simp[z])
  ·exact rl.nb z
 ·rcases cr.mp hf with z | z
  ·exact mv g (w.cl f z g hg)
  ·rw[cq.mp z] at hg;exact .inr (cr.mpr (.inr hg))
 ·have:=w.wl;have:=wM hn fl;simp only[dh,lr] at *;ac_rfl
theorem T8{Ψ:IP->Prop}{c:af}{fl:List Ti}{s5 s6:Sl}(D:Rd (aK rows))(hm:a0M<=300)(w:Wl (aK rows) a0M F (W++[fl]))
  (ex:∀G:List (List Ti),G.Nodup->(∀g∈G,Rc (aK rows) g)->G.length=a0M+1->Ψ (XT,ao))
  (ct:∀s5 s6,fl∈F->E.ct [.v (bL C rows),.v (.int a0M),.own a (.lst (cJ F)),.own b (.dns F),.own c (.lst (cJ W)),s5,s6])
  (nx:∀s5 s6,fl ∉ F->F.length<a0M->E.nx [.v (bL C rows),.v (.int a0M),.own a (.lst (cJ (F++[fl]))),.own b (.dns (F++[fl])),.own c (.lst (cJ (W++nbs (aK rows) fl))),s5,s6]):
  jZ XT Ψ (rS C) (xH C) (nU C) E [.v (bL C rows),.v (.int a0M),.own a (.lst (cJ F)),.own b (.dns F),.own c (.lst (cJ (W++[fl]))),s5,s6]:=by
 have rl:Rc (aK rows) fl:=w.rw fl (by simp);have S:=rl.sh D.n12 D.mo;have F5:=S.fl5 D.n12 D.mo D.pc60;have wl:=w.wl;have le:=w.le;have tf:=xD D.n12;rw[dh,lr] at wl;have fl60:=F5.len;unfold jZ;ac_nf;refine⟨cJ W,GL fl,by simp,?_⟩;ac_nf;refine Pg ?_;rw[v3];by_cases h:fl∈F
 ·rw[decide_eq_true h];ac_nf;exact ct _ _ h
 rw[decide_eq_false h];push_cast [bf];refine gQ (λl=>?_) λl=>?_
 ·refine ex (F++[fl]) (BH w.nd h) (λg hg=>?_) ⋯;rcases cr.mp hg with z | z
  ·exact w.rf g z
  ·rw[cq.mp z];exact rl
 ·refine⟨fl,rfl,⋯,?_⟩;rw[B8 h];refine⟨⋯,?_⟩;refine⟨rows,fl,rfl,D.n12,⋯,F5.key,F5.has,?_⟩;ac_nf;have e:cJ F++[Dv.lst (fP fl)]=cJ (F++[fl]):=by simp
  have fe:=rq (λt=>decide (kK fl t)) (bD (aK rows));have:=T9 (C:=C) (XT:=XT) (Ψ:=Ψ) (E:=E) (x1:=.v (.int a0M)) (x2:=.own a (.lst (cJ (F++[fl])))) (x3:=.own b (.dns (F++[fl]))) (c:=c) F5 ((bD (aK rows)).filter λt=>decide (kK fl t)) W s6 (λt ht=>by
   obtain⟨h1,h2⟩:=qo.mp ht;exact⟨h1,of_decide_eq_true h2⟩) ⋯ λs6=>nx _ s6 h ⋯
  rw[<- e] at this;exact this
theorem U2{x0 x5 x6:Sl}{c:af}{d:Dv}{xs:List Dv}{B N:Prop}(h:B):jM (aE 4) [x0,x1,x2,x3,.own c (.lst (xs++[d])),x5,x6] (λb=>if b=ak then B else N):=by
 ac_nf;rw[a0G (by simp)];exact h
theorem zK:∀ds Q Ψ,t6 C XT ds Q Ψ->lW XT Ψ (rS C) (xH C) (nU C) ↥Q (aN q1u ds):=by
 rintro ds Q Ψ ⟨rows,a0M,rfl,D,hm,q,ex⟩;ac_nf;intro a b;refine⟨rows,rfl,D.n12,?_⟩;ac_nf;intro c;refine⟨λm ρ=>∃(F W:List (List Ti)) (s5 s6:Sl),ρ=[.v (bL C rows),.v (.int a0M),.own a (.lst (cJ F)),.own b (.dns F),.own c (.lst (cJ W)),s5,s6]/\Wl (aK rows) a0M F W/\m=(a0M-F.length)*865+W.length,⟨_,[],[eY (aK rows)],_,_,rfl,⟨.nil,λf hf=>(nomatch hf),λf hf=>by rw[cq.mp hf];exact .lo,.inr (by simp),λf hf=>(nomatch hf),qd _,by simp⟩,rfl⟩,?_⟩;rintro m ρ ⟨F,W,s5,s6,rfl,w,rfl⟩;rcases List.eq_nil_or_concat W with rfl | ⟨W,fl,rfl⟩
 ·ac_nf;have all:∀f,f∈F ↔ Rc (aK rows) f:=λf=>⟨w.rf f,λr=>r.all (w.lo.resolve_right (by simp)) λf hf g hg=>(w.cl f hf g hg).resolve_right (by simp)⟩;have le:=w.le;refine⟨F,rfl,⋯,w.nd,λF' p s=>?_⟩;exact q F' s (λf=>(p.mem_iff).trans (all f)) (by rw[p.length_eq];exact w.le)
 ·rw[List.concat_eq_append] at *;have e:cJ (W++[fl])=cJ W++[GL fl]:=by simp
  rw[e];refine U2 ?_;rw[<- e];have tl:=wM D.n12 fl;refine T8 D hm w ex (λs5 s6 h=>⟨_,?_,F,W,s5,s6,rfl,w.skip h,rfl⟩) λs5 s6 h l=>⟨_,?_,F++[fl],W++nbs (aK rows) fl,s5,s6,rfl,w.take D.n12 h l,rfl⟩
  ·simp
  ·simp only[dh,lr];ac_rfl
end _W
namespace _W
open _L _Z
open Sf (Rw crs vH Pre Good aK bB place many)
open Fl (kd ids pc srt)
noncomputable abbrev rg(k i:Nat):List Int:=(YS k i).map λz:Nat=>(z:Int)
theorem J9(k i:Nat):rg k (i+1)=(k:Int)::rg (k+1) i:=by rw[rg,YE];rfl
theorem JA(k i:Nat):(rg k i).length=i:=by simp[rg]
theorem E6{k:Nat}{z:Int}:z∈rg k i ↔ (k:Int)<=z/\z<(k+i:Nat):=by
 unfold rg;rw[fq];constructor
 ·rintro⟨j,h,rfl⟩;have:=Ym.mp h;ac_rfl
 ·rintro⟨h1,h2⟩;exact⟨z.toNat,Ym.mpr ⋯,⋯⟩
theorem JB(k i j:Nat):rg k (i+j)=rg k i++rg (k+i) j:=by
 unfold rg;rw[<- oo,List.range'_append_1]
theorem sF(ks:List Int)(k:Nat):kd ks (k:Int)=ks.getD k 0:=by unfold kd;rw[dq]
variable {y:Nat}{Q:R->Prop}
theorem SJ(hy:y<ks.length):∀(i k:Nat) (acc:List Int),k+i<=ks.length->acc.length+i<=100->Q (.nw (.lst (cC (acc++(rg k i).filter λz=>decide (kd ks z=kd ks y))))) ->
  d8 [.un,.v (.lst (cC ks)),.v (.int y)] (gN 0) (aV (aQ lB (aQ cW (aE 1) (aE 0)) (aQ cW (aE 1) (aE 2)))) (aE 0) (bE k i) (cC acc) Q:=by
 intro i;induction i with
 |zero=>
  intro k acc _ _ h;rw[bS,d7];rw[show rg k 0=[] from rfl,ZA,fy] at h;exact h
 |succ i ih=>
  intro k acc hk ha h;rw[J9,qj,sF,sF] at h;rw[bI];push_cast [oM (show k<ks.length by ac_rfl),oM hy,bf];rw[uP k];by_cases e:ks.getD k 0=ks.getD y 0
  ·rw[a0G (decide_eq_true e)] at h;rw[a0G e];refine⟨⋯,?_⟩;rw[show cC acc++[Dv.int (k:Int)]=cC (acc++[(k:Int)]) by simp];exact ih (k+1) _ ⋯ ⋯ (by rw[sF,eo];exact h)
  ·rw[a0h (by rw[decide_eq_true_eq];exact e)] at h;rw[a0h e];exact ih (k+1) acc ⋯ ⋯ (by rw[sF];exact h)
theorem SI(hy:y<ks.length):∀(i k:Nat) (acc:List Int),k+i<=ks.length->acc.length+i<=100->Q (.nw (.lst (cC (acc++(rg k i).filter λz=>!decide (kd ks z=kd ks y))))) ->
  d8 [.un,.v (.lst (cC ks)),.v (.int y)] (gN 0) (aV (aQ BE (aQ cW (aE 1) (aE 0)) (aQ cW (aE 1) (aE 2)))) (aE 0) (bE k i) (cC acc) Q:=by
 intro i;induction i with
 |zero=>
  intro k acc _ _ h;rw[bS,d7];rw[show rg k 0=[] from rfl,ZA,fy] at h;exact h
 |succ i ih=>
  intro k acc hk ha h;rw[J9,qj,sF,sF] at h;rw[bI];push_cast [oM (show k<ks.length by ac_rfl),oM hy,bf];rw[uP k];by_cases e:ks.getD k 0=ks.getD y 0
  ·rw[decide_eq_true e] at h ⊢;ac_nf;rw[a0h ∅] at h;exact ih (k+1) acc ⋯ ⋯ (by rw[sF];exact h)
  ·rw[decide_eq_false e] at h ⊢;ac_nf;rw[a0G ∅] at h;refine⟨⋯,?_⟩;rw[show cC acc++[Dv.int (k:Int)]=cC (acc++[(k:Int)]) by simp];exact ih (k+1) _ ⋯ ⋯ (by rw[sF,eo];exact h)
theorem SH:∀(i k:Nat) (acc:List Int),acc.length+i<=100->Q (.nw (.lst (cC (acc++rg k i))))->d8 [.un] (gN 0) eP (aE 0) (bE k i) (cC acc) Q:=by
 intro i;induction i with
 |zero=>
  intro k acc _ h;rw[bS,d7];rw[show rg k 0=[] from rfl,fy] at h;exact h
 |succ i ih=>
  intro k acc ha h;rw[J9] at h;rw[bI];push_cast [bf];refine⟨⋯,?_⟩;rw[show cC acc++[Dv.int (k:Int)]=cC (acc++[(k:Int)]) by simp,uP k];exact ih (k+1) _ ⋯ (by rw[eo];exact h)
theorem Np{x:Nat}(hxy:x<y)(hy:y<ks.length)(hk:kd ks (x:Int)≠kd ks (y:Int)):
  mE ks x y=rg 0 x++(rg (x+1) (y-(x+1))).filter (λz=>decide (kd ks z=kd ks y))++(rg (y+1) (ks.length-(y+1))).filter λz=>!decide (kd ks z=kd ks y):=by
 have sp:ids ks.length=rg 0 x++((x:Int)::(rg (x+1) (y-(x+1))++((y:Int)::rg (y+1) (ks.length-(y+1))))):=by
  rw[<- AX,show ks.length=x+((y-(x+1))+(ks.length-(y+1)+1)+1) by ac_rfl];show rg 0 (x+((y-(x+1))+(ks.length-(y+1)+1)+1))=_;rw[JB,J9,JB,zj,show x+1+(y-(x+1))=y by ac_rfl,J9];congr 6;ac_rfl
 unfold mE;rw[sp];have bx:qY ks (x:Int) x y=am:=by
  unfold qY;rw[a0h ⋯,a0h ⋯,decide_eq_false ⋯,ig,ig]
 have by_:qY ks (y:Int) x y=am:=by
  unfold qY;rw[a0h ⋯,a0h ⋯,decide_eq_false (show ¬(y:Int)<y by ac_rfl),qz,ig]
 rw[Vw,qj,a0h (by rw[bx];decide),Vw,qj,a0h (by rw[by_];decide),eo];congr 1
 ·refine Xi.mpr λz hz=>?_;have:=E6.mp hz;unfold qY;rw[a0G ⋯,cau,decide_eq_false hk,qz];rfl
 congr 1
 ·refine Yn λz hz=>?_;have:=E6.mp hz;unfold qY;rw[a0h ⋯,a0h ⋯,decide_eq_true ⋯,decide_eq_true ⋯,cau,fv,fv];by_cases e:kd ks z=kd ks y
  ·rw[e,decide_eq_false hk];rfl
  ·rw[decide_eq_false e,qz]
 ·refine Yn λz hz=>?_;have:=E6.mp hz;unfold qY;rw[a0h ⋯,a0G ⋯,cau,decide_eq_false hk,uq,fv];rw[decide_eq_decide.mpr (show kd ks (y:Int)=kd ks z ↔ kd ks z=kd ks (y:Int) from⟨Eq.symm,Eq.symm⟩)]
noncomputable abbrev Tt(ks:List Int)(p:Int×Int):Ti:=(p.1,p.2,mE ks p.1 p.2)
variable {E:En}
theorem SL{x:Nat}(hn:ks.length<=12)(m:oS ks):∀(i y:Nat) (acc:List Ti) (s3 s4 s5:Sl),x<y->y+i=ks.length->acc.length+i<=1000 ->
  (∀s3 s4 s5,E.nx [.v (.lst (cC ks)),.own a (.lst (fP (acc++(AV ks x i y).map (Tt ks)))),.v (.int x),s3,s4,s5]) ->
  b8 (gN 3) lO [] (bE y i) E [.v (.lst (cC ks)),.own a (.lst (fP acc)),.v (.int x),s3,s4,s5]:=by
 intro i;induction i with
 |zero=>
  intro y acc s3 s4 s5 _ _ _ h;rw[bS,b6];exact⟨gq,by simpa [AV] using h s3 s4 s5⟩
 |succ i ih=>
  intro y acc s3 s4 s5 hxy hy hl h;rw[AV,oo] at h;rw[bI,b7];refine⟨gq,?_⟩;rw[uP y];have nx:=λacc s3 s4 s5=>ih (y+1) acc s3 s4 s5 ⋯ ⋯;generalize b8 (gN 3) lO [] (bE ((y+1:Nat):Int) i) E=G at nx ⊢;have yl:y<ks.length:=⋯;unfold lO;refine sq λU u=>?_;ac_nf;refine⟨⟨⋯,⋯,⋯⟩,?_⟩;rw[show ((y:Int)-((x:Int)+1)).toNat=y-(x+1) by ac_rfl,uP x];refine SJ yl _ _ [] ⋯ ⋯ ?_;push_cast [bf];subst u;refine sq λU u=>?_;push_cast [bf];refine⟨⟨⋯,⋯,⋯⟩,?_⟩;rw[show ((ks.length:Int)-((y:Int)+1)).toNat=ks.length-(y+1) by ac_rfl,uP y];refine SI yl _ _ [] ⋯ ⋯ ?_;ac_nf;subst u;push_cast [oM (show x<ks.length by ac_rfl),oM yl];have mm:=m x y ⋯ ⋯ ⋯;rw[sF,sF] at mm;refine gQ (λe=>?_) λe=>?_
  ·have hk:kd ks (x:Int)≠kd ks (y:Int):=by rw[sF,sF];ac_rfl
   rw[a0h hk] at h;refine⟨⋯,?_⟩;rw[dq];refine SH x 0 [] ⋯ ?_;rw[nj];have l1:=rq (λz=>decide (kd ks z=kd ks y)) (rg (x+1) (y-(x+1)));have l2:=rq (λz=>!decide (kd ks z=kd ks y)) (rg (y+1) (ks.length-(y+1)));have l3:=JA 0 x;rw[JA] at l1 l2;have be:=Np hxy yl hk;generalize (rg (x+1) (y-(x+1))).filter (λz=>decide (kd ks z=kd ks y))=B1 at *;generalize (rg (y+1) (ks.length-(y+1))).filter (λz=>!decide (kd ks z=kd ks y))=B2 at *;generalize rg 0 x=B0 at *;push_cast [bf,dh];refine⟨⋯,⋯,⋯,?_⟩;rw[<- oo,<- oo,<- be];have e2:fP acc++[Dv.tup [Dv.int x,Dv.int y,Dv.tup (cC (mE ks x y))]]=fP (acc++[Tt ks ((x:Int),(y:Int))]):=by simp
   rw[e2];exact nx _ _ _ _ ⋯ (by rw[eo];exact h)
  ·have hk:kd ks (x:Int)=kd ks (y:Int):=by rw[sF,sF];ac_rfl
   rw[a0G hk] at h;exact nx _ _ _ _ ⋯ h
theorem SK(hn:ks.length<=12)(m:oS ks):∀(i x:Nat) (acc:List Ti) (s2 s3 s4 s5:Sl),x+i=ks.length->acc.length+i*12<=500 ->
  (∀s2 s3 s4 s5,E.nx [.v (.lst (cC ks)),.own a (.lst (fP (acc++(o8 ks i x).map (Tt ks)))),s2,s3,s4,s5]) ->
  b8 (gN 2) lN [] (bE x i) E [.v (.lst (cC ks)),.own a (.lst (fP acc)),s2,s3,s4,s5]:=by
 intro i;induction i with
 |zero=>
  intro x acc s2 s3 s4 s5 _ _ h;rw[bS,b6];exact⟨gq,by simpa [o8] using h s2 s3 s4 s5⟩
 |succ i ih=>
  intro x acc s2 s3 s4 s5 hx hl h;rw[o8,oo] at h;rw[bI,b7];refine⟨gq,?_⟩;rw[uP x];have il:=tZ ks x (ks.length-(x+1)) (x+1);have nx:=λs2 s3 s4 s5=>ih (x+1) (acc++(AV ks x (ks.length-(x+1)) (x+1)).map (Tt ks)) s2 s3 s4 s5 ⋯ ⋯ (by rw[eo];exact h);generalize b8 (gN 2) lN [] (bE ((x+1:Nat):Int) i) E=G at nx ⊢;push_cast [lN,bf];refine⟨⟨⋯,⋯,⋯⟩,?_⟩;rw[show ((ks.length:Int)-((x:Int)+1)).toNat=ks.length-(x+1) by ac_rfl,uP x];exact SL hn m _ (x+1) acc _ _ _ ⋯ ⋯ ⋯ λs3 s4 s5=>nx _ _ _ _
def t0:Fn:=λds Q=>∃ks:List Int,ds=[.lst (cC ks)]/\ks.length<=12/\oS ks/\Q (.nw (.lst (fP (eY ks))))
theorem Ke:Ln t0 1:=by rintro ds Q ⟨_,rfl,_⟩;rfl
theorem N4:MonoF t0:=⟨λds Q Q' w z=>by obtain⟨a,b,c,d,h⟩:=z;exact⟨a,b,c,d,w _ h⟩⟩
theorem Gw:∀ds Q,t0 ds Q->uK ↥Q (aN q1y ds):=by
 rintro ds Q ⟨ks,rfl,hn,m,q⟩;push_cast [bf];intro a;refine⟨⋯,?_⟩;rw[dq];refine SK hn m ks.length 0 [] _ _ _ _ ⋯ ⋯ λs2 s3 s4 s5=>?_;rw[nj];ac_nf;exact q
theorem Gv:∀ds Q,iM ds Q->uJ ↥Q (aN q0m ds):=vP
end _W
namespace _W
open _L _Z
open Sf (Rw crs vH Pre Good aK bB place many)
open Fl (kd ids pc srt lD)
noncomputable def Ia(fl:List Ti)(u:Ti):List Ti:=fl.map λt=>if t.1=u.1/\t.2.1=u.2.1 then u else t
theorem An(fl:List Ti)(u:Ti):(Ia fl u).map (λt=>(t.1,t.2.1))=fl.map λt=>(t.1,t.2.1):=by
 unfold Ia;rw[ja];refine jo λt _=>?_;show (λt:Ti=>(t.1,t.2.1)) (if t.1=u.1/\t.2.1=u.2.1 then u else t)=_;split
 ·rename_i h;simp only[h.1,h.2]
 ·rfl
theorem B9{fl:List Ti}{u:Ti}(h:(u.1,u.2.1)∈fl.map λt=>(t.1,t.2.1)):pJ (iQ fl) [di u.1,di u.2.1] (.tup (cC u.2.2))=iQ (Ia fl u):=by
 obtain⟨t,ht,e⟩:=fq.mp h;unfold pJ;rw[a0G (by
  rw[WW];refine⟨(oR t,.tup (cC t.2.2)),fq.mpr ⟨t,ht,rfl⟩,?_⟩;rw[decide_eq_true_eq];simp only[mf] at e;simp only[oR,e.1,e.2])]
 unfold Ia;show _=wf (λt:Ti=>(oR t,Dv.tup (cC t.2.2))) (wf _ fl);rw[ja,ja];refine jo λt _=>?_;show (if oR t=[di u.1,di u.2.1] then (oR t,Dv.tup (cC u.2.2)) else (oR t,.tup (cC t.2.2)))=_;have k:oR t=[di u.1,di u.2.1] ↔ t.1=u.1/\t.2.1=u.2.1:=by
  simp only[oR,im,Xr,and_true]
 by_cases z:t.1=u.1/\t.2.1=u.2.1
 ·rw[a0G (k.mpr z),Vx,a0G z,k.mpr z]
 ·rw[a0h (λy=>z (k.mp y)),Vx,a0h z]
variable {b:Int}
theorem Va{fl:List Ti}{a c:Int}(hab:a<b)(hbc:b<c)(l1 l2 l3:List Int):Ia (Ia (Ia fl (a,b,l1)) (a,c,l2)) (b,c,l3)=fl.map (rp [(a,b,l1),(a,c,l2),(b,c,l3)]):=by
 unfold Ia;rw[ja,ja];refine jo λt _=>?_;obtain⟨x,y,z⟩:=t;simp only[Vx,rp,R1,uo,List.find?_nil];by_cases h1:x=a/\y=b
 ·obtain⟨rfl,rfl⟩:=h1;simp[show ¬y=c by ac_rfl,show ¬x=y by ac_rfl]
 ·by_cases h2:x=a/\y=c
  ·obtain⟨rfl,rfl⟩:=h2;simp[show ¬b=y by ac_rfl,show ¬y=b by ac_rfl,show ¬x=b by ac_rfl]
  ·by_cases h3:x=b/\y=c
   ·obtain⟨rfl,rfl⟩:=h3;simp[show ¬x=y by ac_rfl,show ¬y=x by ac_rfl,show ¬x=a by ac_rfl,show ¬a=x by ac_rfl]
   ·have g1:¬(a=x/\b=y):=λz=>h1 ⟨z.1.symm,z.2.symm⟩;have g2:¬(a=x/\c=y):=λz=>h2 ⟨z.1.symm,z.2.symm⟩;have g3:¬(b=x/\c=y):=λz=>h3 ⟨z.1.symm,z.2.symm⟩;simp only[a0h h1,a0h h2,a0h h3,decide_eq_false g1,decide_eq_false g2,decide_eq_false g3];rfl
theorem LV{fl:List Ti}(k:A0 fl){t:Ti}(h:t∈fl):(fl.find? λu=>decide (u.1=t.1/\u.2.1=t.2.1))=ae t:=by
 obtain⟨u,f,m,e1,e2,_⟩:=yI (l:=fl) (a:=t.1) (c:=t.2.1) ⟨t,h,rfl,rfl⟩;rw[f,k.one m h ⟨e1,e2⟩]
variable {Q:R->Prop}
theorem Si{fl:List Ti}(k:A0 fl):∀(l acc:List Ti),(∀t∈l,t∈fl)->acc.length+l.length<=1000->Q (.nw (.lst (fP (acc++l)))) ->
  d8 [.un,.v (.dit (iQ fl))] (gN 0) eP (aQ kU (aE 0) (bY (aA (aQ cW (aE 1) (aE 0)) aG))) ((iQ l).map zP) (fP acc) Q:=by
 intro l;induction l with
 |nil=>
  intro acc _ _ h;rw[show (iQ []).map zP=[] from rfl,d7];rw[fy] at h;exact h
 |cons t l ih=>
  intro acc hm hl h;rw[dg] at hl;have nx:=ih (acc++[t]) (λu hu=>hm u (bp _ hu)) ⋯ (by rw[eo];exact h);have f:=u8 fl t.1 t.2.1;rw[LV k (hm t (bz ..))] at f;rw[show (iQ (t::l)).map zP=.tup [.int t.1,.int t.2.1]::(iQ l).map zP from rfl,iA];generalize d8 [.un,.v (.dit (iQ fl))] (gN 0) eP (aQ kU (aE 0) (bY (aA (aQ cW (aE 1) (aE 0)) aG))) ((iQ l).map zP)=G at nx ⊢;push_cast [f,wa,Cz,bf];refine⟨⋯,?_⟩;rw[show fP acc++[Dv.tup [Dv.int t.1,Dv.int t.2.1,Dv.tup (cC t.2.2)]]=fP (acc++[t]) by simp];exact nx
variable {x0 x1 x6 x7 x8 x9 x10 x11:Sl}{E:En}
theorem Ui:∀(fl acc:List Ti) (s t u:Sl),A0 (acc++fl)->acc.length+fl.length<=1000->(∀s t u,E.nx [x0,x1,.own a (.dit (iQ (acc++fl))),s,t,u,x6,x7,x8,x9,x10,x11]) ->
  b8 (gT [3,4,5]) (mF iM) [] (fP fl) E [x0,x1,.own a (.dit (iQ acc)),s,t,u,x6,x7,x8,x9,x10,x11]:=by
 intro fl;induction fl with
 |nil=>
  intro acc s t u _ _ h;rw[show fP []=[] from rfl,b6];exact⟨gq,by simpa using h s t u⟩
 |cons p fl ih=>
  intro acc s t u hk hl h;simp only[dg] at hl;rw[show fP (p::fl)=.tup [.int p.1,.int p.2.1,.tup (cC p.2.2)]::fP fl from rfl];push_cast [mF,bf];refine⟨oR p,rfl,⋯,?_⟩;rw[FP λu hu=>(lf.mp hk).2.2 u hu p (by simp)];exact ih _ _ _ _ (by simpa using hk) ⋯ (by simpa using h)
theorem Qa{fl:List Ti}(S:Sh ks fl)(b c:Int):LH (iQ fl) [di b,di c]=decide ((b,c)∈bQ ks):=by
 rw[<- S.prs];unfold LH;rw[nr,WW,decide_eq_true_eq,fq];constructor
 ·rintro⟨kv,h,e⟩;obtain⟨t,ht,rfl⟩:=fq.mp h;have e:=of_decide_eq_true e;simp only[oR,im,Xr,and_true] at e;exact⟨t,ht,by rw[e.1,e.2]⟩
 ·rintro⟨t,ht,e⟩;refine⟨_,fq.mpr ⟨t,ht,rfl⟩,?_⟩;simp only[mf] at e;rw[decide_eq_true_eq,oR,e.1,e.2]
variable {l1 l2 l3:List Int}
theorem Q3{fl:List Ti}(S:Sh ks fl)(D:Rd ks){a c:Int}(ht:(a,b,c)∈bD ks)(hx:kK fl (a,b,c))(e:tU fl (a,b,c)=[(a,b,l1),(a,c,l2),(b,c,l3)]):Ia (Ia (Ia fl (a,b,l1)) (a,c,l2)) (b,c,l3)=uE fl (a,b,c):=by
 obtain⟨_,q2,q3,_,_,_⟩:=f6 ht;rw[Va q2 q3,uE,e]
variable {x2 x3 x4 x5:Sl}
theorem Vg{d:Dv}{Q:List Sl->Prop}(h:Q [x0,x1,x2,x3,x4,x5,x6,.v d,x8,x9,x10,x11]):gN 7 d [x0,x1,x2,x3,x4,x5,x6,x7,x8,x9,x10,x11] Q:=by
 ac_nf;exact h
variable {tb:c7}
theorem SN{fl:List Ti}(S:Sh ks fl){c:Int}(h:(b,c)∈bQ ks->tb E [x0,x1,.v (.dit (iQ fl)),x3,.v (.int b),x5,x6,.v (.int c),x8,x9,x10,x11])(h':(b,c) ∉ bQ ks->E.nx [x0,x1,.v (.dit (iQ fl)),x3,.v (.int b),x5,x6,.v (.int c),x8,x9,x10,x11]):
  gM (aV (aQ HE (bY (aA (aE 4) (aA (aE 7) aG))) (aE 2))) tb bH E [x0,x1,.v (.dit (iQ fl)),x3,.v (.int b),x5,x6,.v (.int c),x8,x9,x10,x11]:=by
 ac_nf;refine⟨[di b,di c],rfl,?_⟩;rw[Qa S];by_cases z:(b,c)∈bQ ks
 ·rw[decide_eq_true z];ac_nf;exact h z
 ·rw[decide_eq_false z];ac_nf;exact h' z
variable {tl:c7}
theorem Q4{fl:List Ti}{a c:Int}{u1 u2 u3:Ti}(h1:(fl.find? λt=>decide (t.1=a/\t.2.1=b))=ae u1)(h2:(fl.find? λt=>decide (t.1=a/\t.2.1=c))=ae u2)(h3:(fl.find? λt=>decide (t.1=b/\t.2.1=c))=ae u3)
     (h:tl E [x0,x1,.v (.dit (iQ fl)),.v (.int a),.v (.int b),x5,x6,.v (.int c),.v (.tup (cC u1.2.2)),.v (.tup (cC u2.2.2)),.v (.tup (cC u3.2.2)),x11]):
  aP (c6 8 (aQ cW (aE 2) (bY (aA (aE 3) (aA (aE 4) aG))))) (aP (c6 9 (aQ cW (aE 2) (bY (aA (aE 3) (aA (aE 7) aG))))) (aP (c6 10 (aQ cW (aE 2) (bY (aA (aE 4) (aA (aE 7) aG))))) tl)) E [x0,x1,.v (.dit (iQ fl)),.v (.int a),.v (.int b),x5,x6,.v (.int c),x8,x9,x10,x11]:=by
 push_cast [u8,h1,h2,h3,wa];exact h
section
variable {fl:List Ti}(S:Sh ks fl)(D:Rd ks){a c:Int}(ht:(a,b,c)∈bD ks){acc:List (List Ti)}
include S D ht
theorem Kb(hx:kK fl (a,b,c))(al:acc.length<=900)(e:tU fl (a,b,c)=[(a,b,l1),(a,c,l2),(b,c,l3)])
  (h:E.nx [x0,x1,.v (.dit (iQ fl)),.v (.int a),.v (.int b),x5,.own f (.lst (cJ (acc++[uE fl (a,b,c)]))),.v (.int c),x8,x9,x10,.v (.dit (iQ (uE fl (a,b,c))))]) (p:af):
  vY 11 (mX 6 (gD g8 (aA (eJ 1 [11] (lH (aE 11)) (gN 0) eP (aQ kU (aE 0) (bY (aA (aQ cW (aE 1) (aE 0)) aG)))) aG))) E
   [x0,x1,.v (.dit (iQ fl)),.v (.int a),.v (.int b),x5,.own f (.lst (cJ acc)),.v (.int c),x8,x9,x10,.own p (.dit (pJ (pJ (pJ (iQ fl) [di a,di b] (.tup (cC l1))) [di a,di c] (.tup (cC l2))) [di b,di c] (.tup (cC l3))))]:=by
 obtain⟨p1,p2,p3⟩:=i7 D.mo ht;have F:=S.flip D.n12 D.mo ht hx;have F5:=F.fl5 D.n12 D.mo D.pc60;have fl60:=F5.len;have n:=Q3 S D ht hx e;rw[B9 (u:=(a,b,l1)) (by rw[S.prs];exact p1),B9 (u:=(a,c,l2)) (by rw[An,S.prs];exact p2),B9 (u:=(b,c,l3)) (by rw[An,An,S.prs];exact p3),n];generalize uE fl (a,b,c)=g at *;ac_nf;refine Si F5.key g [] (λt h=>h) ⋯ ?_;rw[nj];refine Nz (.refl _) F5.up F5.len ?_;push_cast [bf];refine⟨⋯,?_⟩;rw[show cJ acc++[Dv.lst (fP g)]=cJ (acc++[g]) by simp];exact h
theorem G3(h:Q (.nw (.dit (iQ fl)))):pN [.dit (iQ fl)] Q:=by
 obtain⟨p1,_,_⟩:=i7 D.mo ht;have n12:=D.n12;refine⟨bQ ks,?_,λz=>(by rw[z] at p1;cases p1),λp hp=>?_,h⟩
 ·rw[<- S.prs,ja,ja];rfl
 ·obtain⟨h1,h2,h3,_⟩:=cN.mp hp;exact NZ ⟨h1,⋯⟩ ⟨⋯,⋯⟩
theorem SM(al:acc.length<=900)(e1:oO fl a b=l1)(e2:oO fl a c=l2)(e3:oO fl b c=l3)(n1:l1.length<=13)(h:Dl fl (a,b,c) -> ∀x11,tl E [x0,x1,.v (.dit (iQ fl)),.v (.int a),.v (.int b),x5,.own f (.lst (cJ (acc++[uE fl (a,b,c)]))),.v (.int c),.v (.tup (cC l1)),.v (.tup (cC l2)),.v (.tup (cC l3)),x11])
  (h':¬Dl fl (a,b,c) -> ∀x11,tl E [x0,x1,.v (.dit (iQ fl)),.v (.int a),.v (.int b),x5,.own f (.lst (cJ acc)),.v (.int c),.v (.tup (cC l1)),.v (.tup (cC l2)),.v (.tup (cC l3)),x11]):
  aP (gM (qZ (aV (aQ lB (aE 8) (aE 10))) (aV (aQ lB (aE 9) (aU iM (aA (aE 8) (aA (aE 4) aG)))))) (aP (fR 11 (gD pN (aA (aE 2) aG)))
 (aP (mW 11 (bY (aA (aE 3) (aA (aE 4) aG))) (aU iM (aA (aE 8) (aA (aE 7) aG))))
 (aP (mW 11 (bY (aA (aE 3) (aA (aE 7) aG))) (aE 8))
 (aP (mW 11 (bY (aA (aE 4) (aA (aE 7) aG))) (aU iM (aA (aE 8) (aA (aE 3) aG))))
 (vY 11 (mX 6 (gD g8 (aA (eJ 1 [11] (lH (aE 11)) (gN 0) eP (aQ kU (aE 0) (bY (aA (aQ cW (aE 1) (aE 0)) aG)))) aG)))))))) bH) tl E
   [x0,x1,.v (.dit (iQ fl)),.v (.int a),.v (.int b),x5,.own f (.lst (cJ acc)),.v (.int c),.v (.tup (cC l1)),.v (.tup (cC l2)),.v (.tup (cC l3)),x11]:=by
 generalize hz:(vY 11 (mX 6 (gD g8 (aA (eJ 1 [11] (lH (aE 11)) (gN 0) eP (aQ kU (aE 0) (bY (aA (aQ cW (aE 1) (aE 0)) aG)))) aG))))=Z0;have ln:fl.length<=60:=(S.fl5 D.n12 D.mo D.pc60).len;have pl:∀(kvs:List (List cB×Dv)) k d,(pJ kvs k d).length<=kvs.length+1:=λkvs k d=>by unfold pJ;split<;>simp
 have p1:=pl (iQ fl) [di a,di b] (.tup (cC (srt (l1++[c]))));have p2:=pl (pJ (iQ fl) [di a,di b] (.tup (cC (srt (l1++[c]))))) [di a,di c] (.tup (cC l1));rw[bf] at p1;push_cast [qM,xX,and_self,true_and,decide_eq_true_eq];refine gQ (λq1=>?_) λq1=>h' (λz=>q1 (by have:=z.1;dsimp only at this;rw[e1,e3] at this;exact this.symm)) _;refine⟨l1,b,rfl,⋯,?_⟩;push_cast [qM,xX,and_self,true_and,decide_eq_true_eq];refine gQ (λq2=>?_) λq2=>h' (λz=>q2 (by have:=z.2;dsimp only at this;rw[e1,e2] at this;exact this)) _;have u:Dl fl (a,b,c):=⟨by dsimp only;rw[e1,e3,q1],by dsimp only;rw[e1,e2,q2]⟩;have e:tU fl (a,b,c)=[(a,b,srt (l1++[c])),(a,c,l1),(b,c,srt (l1++[a]))]:=by
  unfold tU;rw[a0G u];dsimp only;rw[e1];rfl
 refine G3 S D ht λp=>?_;ac_nf;refine⟨l1,c,rfl,⋯,?_⟩;push_cast [bf];refine⟨[di a,di b],rfl,⋯,[di a,di c],rfl,⋯,?_⟩;refine⟨l1,a,rfl,⋯,?_⟩;ac_nf;refine⟨[di b,di c],rfl,⋯,?_⟩;rw[<- hz];exact Kb S D ht (E:={ E with nx:=tl E }) (.inl u) al e (h u _) p
theorem SO(al:acc.length<=900)(e1:oO fl a b=l1)(e2:oO fl a c=l2)(e3:oO fl b c=l3)(n2:l2.length<=13)(h:¬Dl fl (a,b,c)->Nu fl (a,b,c) -> ∀x11,E.nx [x0,x1,.v (.dit (iQ fl)),.v (.int a),.v (.int b),x5,.own f (.lst (cJ (acc++[uE fl (a,b,c)]))),.v (.int c),.v (.tup (cC l1)),.v (.tup (cC l2)),.v (.tup (cC l3)),x11])
  (h':¬Nu fl (a,b,c) -> ∀x11,E.nx [x0,x1,.v (.dit (iQ fl)),.v (.int a),.v (.int b),x5,.own f (.lst (cJ acc)),.v (.int c),.v (.tup (cC l1)),.v (.tup (cC l2)),.v (.tup (cC l3)),x11]):
  gM (qZ (aV (aQ lB (aE 8) (aU iM (aA (aE 9) (aA (aE 7) aG))))) (aV (aQ lB (aE 10) (aU iM (aA (aE 9) (aA (aE 3) aG)))))) (aP (fR 11 (gD pN (aA (aE 2) aG)))
 (aP (mW 11 (bY (aA (aE 3) (aA (aE 4) aG))) (aE 9))
 (aP (mW 11 (bY (aA (aE 3) (aA (aE 7) aG))) (aU iM (aA (aE 9) (aA (aE 4) aG))))
 (aP (mW 11 (bY (aA (aE 4) (aA (aE 7) aG))) (aE 9))
 (vY 11 (mX 6 (gD g8 (aA (eJ 1 [11] (lH (aE 11)) (gN 0) eP (aQ kU (aE 0) (bY (aA (aQ cW (aE 1) (aE 0)) aG)))) aG)))))))) bH E
   [x0,x1,.v (.dit (iQ fl)),.v (.int a),.v (.int b),x5,.own f (.lst (cJ acc)),.v (.int c),.v (.tup (cC l1)),.v (.tup (cC l2)),.v (.tup (cC l3)),x11]:=by
 generalize hz:(vY 11 (mX 6 (gD g8 (aA (eJ 1 [11] (lH (aE 11)) (gN 0) eP (aQ kU (aE 0) (bY (aA (aQ cW (aE 1) (aE 0)) aG)))) aG))))=Z0;have ln:fl.length<=60:=(S.fl5 D.n12 D.mo D.pc60).len;have pl:∀(kvs:List (List cB×Dv)) k d,(pJ kvs k d).length<=kvs.length+1:=λkvs k d=>by unfold pJ;split<;>simp
 have p1:=pl (iQ fl) [di a,di b] (.tup (cC l2));have p2:=pl (pJ (iQ fl) [di a,di b] (.tup (cC l2))) [di a,di c] (.tup (cC (srt (l2++[b]))));rw[bf] at p1;ac_nf;refine⟨l2,c,rfl,⋯,?_⟩;push_cast [qM,xX,and_self,true_and,decide_eq_true_eq];refine gQ (λq1=>?_) λq1=>h' (λz=>q1 (by have:=z.1;dsimp only at this;rw[e1,e2] at this;exact this)) _;refine⟨l2,a,rfl,⋯,?_⟩;push_cast [qM,xX,and_self,true_and,decide_eq_true_eq];refine gQ (λq2=>?_) λq2=>h' (λz=>q2 (by have:=z.2;dsimp only at this;rw[e3,e2] at this;exact this)) _;have d:Nu fl (a,b,c):=⟨by dsimp only;rw[e1,e2,q1],by dsimp only;rw[e3,e2,q2]⟩;have u:¬Dl fl (a,b,c):=λz=>by
  have z2:=z.2;dsimp only at z2;rw[e1,e2] at z2;have g1:=congrArg List.length q1;have g2:=congrArg List.length z2;rw[lD,dh,lr] at g1 g2;ac_rfl
 have e:tU fl (a,b,c)=[(a,b,l2),(a,c,srt (l2++[b])),(b,c,l2)]:=by
  unfold tU;rw[a0h u];dsimp only;rw[e2];rfl
 refine G3 S D ht λp=>?_;push_cast [bf];refine⟨[di a,di b],rfl,⋯,?_⟩;refine⟨l2,b,rfl,⋯,?_⟩;ac_nf;refine⟨[di a,di c],rfl,⋯,[di b,di c],rfl,⋯,?_⟩;rw[<- hz];exact Kb S D ht (E:=E) (.inr d) al e (h u d _) p
theorem Q5(u:Dl fl (a,b,c))(e1:oO fl a b=l1)(e2:oO fl a c=l2)(n2:l2.length<=13){t2:mG}(h:E.nx [x0,x1,.v (.dit (iQ fl)),x3,x4,x5,x6,.v (.int c),.v (.tup (cC l1)),.v (.tup (cC l2)),x10,x11]):
  gM (qZ (aV (aQ lB (aE 8) (aU iM (aA (aE 9) (aA (aE 7) aG))))) t2) tb bH E [x0,x1,.v (.dit (iQ fl)),x3,x4,x5,x6,.v (.int c),.v (.tup (cC l1)),.v (.tup (cC l2)),x10,x11]:=by
 ac_nf;refine⟨l2,c,rfl,⋯,?_⟩;push_cast [qM,xX,and_self,true_and,decide_eq_true_eq];refine gQ (λq1=>?_) λq1=>h;have z2:=u.2;dsimp only at z2;rw[e1,e2] at z2;have g1:=congrArg List.length q1;have g2:=congrArg List.length z2;rw[lD,dh,lr] at g1 g2;ac_rfl
end
theorem Uh{fl:List Ti}(S:Sh ks fl)(D:Rd ks){a:Int}(hab:(a,b)∈bQ ks):∀(i c:Nat) (acc:List (List Ti)) (s7 s8 s9 s10 s11:Sl),b<c->c+i=ks.length->acc.length+i<=900 ->
  (∀s7 s8 s9 s10 s11,E.nx [x0,.v (.lst (cC ks)),.v (.dit (iQ fl)),.v (.int a),.v (.int b),x5,.own f (.lst (cJ (acc++((BW ks a b i c).filter λt=>decide (kK fl t)).map (uE fl)))),s7,s8,s9,s10,s11]) ->
  (∀t∈BW ks a b i c,t∈bD ks) ->
  b8 (gN 7) (jJ iM) [] (bE c i) E [x0,.v (.lst (cC ks)),.v (.dit (iQ fl)),.v (.int a),.v (.int b),x5,.own f (.lst (cJ acc)),s7,s8,s9,s10,s11]:=by
 intro i;induction i with
 |zero=>
  intro c acc s7 s8 s9 s10 s11 _ _ _ h _;rw[bS,b6];exact⟨gq,by simpa [BW] using h s7 s8 s9 s10 s11⟩
 |succ i ih=>
  intro c acc s7 s8 s9 s10 s11 hc hl ha h ht;obtain⟨w1,w2,w3,w4⟩:=cN.mp hab;rw[BW] at h ht;have nx:=λacc s7 s8 s9 s10 s11=>ih (c+1) acc s7 s8 s9 s10 s11 ⋯ ⋯;rw[bI,b7];refine⟨gq,?_⟩;rw[uP c];generalize b8 (gN 7) (jJ iM) [] (bE ((c+1:Nat):Int) i) E=G at nx ⊢;refine Vg ?_;unfold jJ;refine SN S (b:=b) (c:=(c:Int)) (λq=>?_) λq=>?_
  ·have k:¬kd ks (c:Int)=kd ks b:=λz=>(cN.mp q).2.2.2 z.symm;rw[a0h k] at h ht;have t3:(a,b,(c:Int))∈bD ks:=ht _ (by simp);obtain⟨r1,r2,r3⟩:=i7 D.mo t3;obtain⟨u1,g1,o1,_⟩:=S.has D.n12 r1;obtain⟨u2,g2,o2,_⟩:=S.has D.n12 r2;obtain⟨u3,g3,o3,_⟩:=S.has D.n12 r3;have n12:=D.n12;have m1:=mn g1;have m2:=mn g2;have n1:=(S.asc u1 m1).len λz hz=>(S.ran u1 m1 z hz).1;have n2:=(S.asc u2 m2).len λz hz=>(S.ran u2 m2 z hz).1;have ht':∀t∈BW ks a b i (c+1),t∈bD ks:=λt hh=>ht t (by simp[hh]);rw[List.singleton_append,qj] at h;have yes:kK fl (a,b,(c:Int)) -> ∀x11,G [x0,.v (.lst (cC ks)),.v (.dit (iQ fl)),.v (.int a),.v (.int b),x5,.own f (.lst (cJ (acc++[uE fl (a,b,(c:Int))]))),.v (.int c),.v (.tup (cC u1.2.2)),.v (.tup (cC u2.2.2)),.v (.tup (cC u3.2.2)),x11]:=λhx x11=>by
    rw[a0G (decide_eq_true hx)] at h;exact nx _ _ _ _ _ _ ⋯ (by rw[eo];exact h) ht'
   have no:¬kK fl (a,b,(c:Int)) -> ∀x11,G [x0,.v (.lst (cC ks)),.v (.dit (iQ fl)),.v (.int a),.v (.int b),x5,.own f (.lst (cJ acc)),.v (.int c),.v (.tup (cC u1.2.2)),.v (.tup (cC u2.2.2)),.v (.tup (cC u3.2.2)),x11]:=λhx x11=>by
    rw[a0h (by rw[decide_eq_true_eq];exact hx)] at h;exact nx _ _ _ _ _ _ ⋯ h ht'
   refine Q4 g1 g2 g3 (SM S D t3 ⋯ o1.symm o2.symm o3.symm ⋯ (λu x11=>?_) λu x11=>?_)
   ·refine Q5 S D t3 u o1.symm o2.symm ⋯ ?_;exact yes (.inl u) x11
   ·exact SO S D t3 ⋯ o1.symm o2.symm o3.symm ⋯ (λu d x11=>yes (.inr d) x11) λd x11=>no (λz=>z.elim u d) x11
  ·have k:kd ks (c:Int)=kd ks b:=Classical.byContradiction λz=>q (cN.mpr ⟨by dsimp only;ac_rfl,by dsimp only;ac_rfl,by dsimp only;ac_rfl,λy=>z y.symm⟩);rw[a0G k,nj] at h ht;exact nx _ _ _ _ _ _ ⋯ h ht
theorem Uv{p q:Dv}{Q:List Sl->Prop}(h:Q [x0,x1,x2,.v p,.v q,x5,x6,x7,x8,x9,x10,x11]):gT [3,4] (.tup [p,q]) [x0,x1,x2,x3,x4,x5,x6,x7,x8,x9,x10,x11] Q:=by
 ac_nf;exact h
theorem Ug{fl:List Ti}(S:Sh ks fl)(D:Rd ks):∀(ps:List (Int×Int)) (acc:List (List Ti)) (s3 s4 s7 s8 s9 s10 s11:Sl),(∀p∈ps,p∈bQ ks)->acc.length+ps.length*12<=850 ->
  (∀s3 s4 s7 s8 s9 s10 s11,E.nx [x0,.v (.lst (cC ks)),.v (.dit (iQ fl)),s3,s4,x5,.own f (.lst (cJ (acc++((gL ks ps).filter λt=>decide (kK fl t)).map (uE fl)))),s7,s8,s9,s10,s11]) ->
  b8 (gT [3,4]) (jI iM) [] (vZ ps) E [x0,.v (.lst (cC ks)),.v (.dit (iQ fl)),s3,s4,x5,.own f (.lst (cJ acc)),s7,s8,s9,s10,s11]:=by
 intro ps;induction ps with
 |nil=>
  intro acc s3 s4 s7 s8 s9 s10 s11 _ _ h;rw[show vZ []=[] from rfl,b6];exact⟨gq,by simpa [gL] using h s3 s4 s7 s8 s9 s10 s11⟩
 |cons p ps ih=>
  intro acc s3 s4 s7 s8 s9 s10 s11 hp hl h;rw[dg] at hl;have n12:=D.n12;have pm:=hp p (bz ..);obtain⟨w1,w2,w3,_⟩:=cN.mp pm;have il:=wR ks p.1 p.2 (ks.length-(p.2.toNat+1)) (p.2.toNat+1);have fl':=rq (λt=>decide (kK fl t)) (BW ks p.1 p.2 (ks.length-(p.2.toNat+1)) (p.2.toNat+1));rw[show gL ks (p::ps)=BW ks p.1 p.2 (ks.length-(p.2.toNat+1)) (p.2.toNat+1)++gL ks ps from rfl,Vw,oo] at h;have nx:=λs3 s4 s7 s8 s9 s10 s11=>ih (acc++((BW ks p.1 p.2 (ks.length-(p.2.toNat+1)) (p.2.toNat+1)).filter λt=>decide (kK fl t)).map (uE fl)) s3 s4 s7 s8 s9 s10 s11 (λq hq=>hp q (bp _ hq)) ⋯ (by rw[eo];exact h);rw[show vZ (p::ps)=.tup [.int p.1,.int p.2]::vZ ps from rfl,b7];refine⟨gq,Uv ?_⟩;generalize b8 (gT [3,4]) (jI iM) [] (vZ ps) E=G at nx ⊢;unfold jI;push_cast [bf];refine⟨⟨⋯,⋯,⋯⟩,?_⟩;rw[show ((ks.length:Int)-(p.2+1)).toNat=ks.length-(p.2.toNat+1) by ac_rfl,show (p.2+1)=((p.2.toNat+1:Nat):Int) by ac_rfl];exact Uh S D pm _ (p.2.toNat+1) acc _ _ _ _ _ ⋯ ⋯ ⋯ (λs7 s8 s9 s10 s11=>nx _ _ _ _ _ _ _) λt hh=>WY.mpr ⟨p,pm,hh⟩
def j6:Fn:=λds Q=>∃(ks:List Int) (fl:List Ti),ds=[.lst (fP fl),.lst (cC ks)]/\Rd ks/\Sh ks fl/\Q (.nw (.lst (cJ (nbs ks fl))))
theorem Ed:Ln j6 2:=by rintro ds Q ⟨_,_,rfl,_⟩;rfl
theorem HV:MonoF j6:=⟨λds Q Q' w z=>by obtain⟨a,b,c,d,e,h⟩:=z;exact⟨a,b,c,d,e,w _ h⟩⟩
theorem Ck:∀ds Q,j6 ds Q->pA iM ↥Q (aN q2c ds):=by
 rintro ds Q ⟨ks,fl,rfl,D,S,q⟩;have F5:=S.fl5 D.n12 D.mo D.pc60;have fl60:=F5.len;have sl:=S.len;ac_nf;intro a;refine Ui fl [] _ _ _ (by simpa using F5.key) ⋯ λs t u=>?_;rw[nj];ac_nf;intro f;rw[show (iQ fl).map zP=vZ (bQ ks) by rw[<- S.prs,ja];show _=wf _ (wf _ fl);rw[ja];rfl];refine Ug S D (bQ ks) [] _ _ _ _ _ _ _ (λp hp=>hp) ⋯ λs3 s4 s7 s8 s9 s10 s11=>?_;rw[nj];ac_nf;exact q
end _W
namespace _W
open _L _Z
open Sf (Rw crs vH Pre Good aK bB place many)
open Fl (kd ids pc srt)
theorem Gm{W:List Tk}{k f:Tk}:f∈f9 W k ↔ f∈W \/ f=k:=by
 by_cases h:k∈W
 ·have e:=v3 W k;rw[decide_eq_true h] at e;unfold f9;rw[show W.any (λx=>decide (x=k))=ak from e,a0G rfl];exact⟨.inl,λz=>z.elim id λy=>y ▸ h⟩
 ·rw[B8 h,cr,cq]
theorem JJ{W:List Tk}{k:Tk}(nd:W.Nodup):(f9 W k).Nodup:=by
 by_cases h:k∈W
 ·have e:=v3 W k;rw[decide_eq_true h] at e;unfold f9;rw[show W.any (λx=>decide (x=k))=ak from e,a0G rfl];exact nd
 ·rw[B8 h];exact BH nd h
theorem AH(W:List Tk)(k:Tk):∃V,f9 W k=W++V/\V.length<=1:=by
 unfold f9;split
 ·exact⟨[],by simp,by simp⟩
 ·exact⟨[k],rfl,by simp⟩
theorem JL:∀(gs W:List Tk),W.Nodup->(gs.foldl f9 W).Nodup/\(∀f,f∈gs.foldl f9 W ↔ f∈W \/ f∈gs) /\ ∃V,gs.foldl f9 W=W++V/\V.length<=gs.length
 | [],W,nd=>⟨nd,λf=>by simp,[],by simp,by simp⟩
 |g::gs,W,nd=>by
  obtain⟨h1,h2,V,h3,h4⟩:=JL gs (f9 W g) (JJ nd);obtain⟨U,e,l⟩:=AH W g;refine⟨h1,λf=>?_,U++V,?_,⋯⟩
  ·rw[Wo,h2,Gm,bv,or_assoc]
  ·rw[Wo,h3,e,eo]
variable {x0 x1 x2:Sl}{E:En}
theorem RR{x5:Sl}:∀(gs W:List Tk) (s6:Sl),W.length+gs.length<=900000->(∀s6,E.nx [x0,x1,x2,.own a (.lst (cJ (gs.foldl f9 W))),.own b (.dns (gs.foldl f9 W)),x5,s6]) ->
  b8 (gN 6) (gZ j6) [] (cJ gs) E [x0,x1,x2,.own a (.lst (cJ W)),.own b (.dns W),x5,s6]:=by
 intro gs;induction gs with
 |nil=>
  intro W s6 _ h;rw[show cJ []=[] from rfl,b6];exact⟨gq,h _⟩
 |cons g gs ih=>
  intro W s6 hl h;rw[dg] at hl;rw[Wo] at h;obtain⟨U,e,l⟩:=AH W g;have nx:=λs6=>ih (f9 W g) s6 (by rw[e,dh];ac_rfl) h;rw[show cJ (g::gs)=GL g::cJ gs from rfl,b7];refine⟨gq,?_⟩;generalize b8 (gN 6) (gZ j6) [] (cJ gs) E=G at nx ⊢;push_cast [gZ];refine HA ?_;rw[v3];by_cases z:g∈W
  ·rw[decide_eq_true z];ac_nf;have e2:=v3 W g;rw[decide_eq_true z] at e2;have e3:f9 W g=W:=by
    unfold f9;rw[show W.any (λx=>decide (x=g))=ak from e2,a0G rfl]
   rw[e3] at nx;exact nx _
  ·rw[decide_eq_false z];ac_nf;refine⟨g,rfl,⋯,?_⟩;rw[B8 z] at nx ⊢;push_cast [bf];refine⟨⋯,?_⟩;rw[show cJ W++[Dv.lst (fP g)]=cJ (W++[g]) by simp];exact nx _
structure Lb(ks:List Int)(limit:Nat)(W:List (List Ti))(k:Nat):Prop where
 nd:W.Nodup
 rc:∀f∈W,Rc ks f
 lo:eY ks∈W
 le:k<=W.length
 cl:∀f∈W.take k,∀g∈nbs ks f,g∈W
 few:W.length<=limit+865
variable {a0X:Nat}
theorem Lb.step{k:Nat}(hn:ks.length<=12)(L:Lb ks a0X W k)(hk:k<W.length)(hl:W.length<=a0X):Lb ks a0X ((nbs ks W[k]).foldl f9 W) (k+1):=by
 obtain⟨h1,h2,V,h3,h4⟩:=JL (nbs ks W[k]) W L.nd;have nl:=wM hn W[k];have ml:W[k]∈W:=ft hk;refine⟨h1,λf hf=>?_,(h2 _).mpr (.inl L.lo),by rw[h3,dh];ac_rfl,λf hf g hg=>?_,by rw[h3,dh];ac_rfl⟩
 ·rcases(h2 f).mp hf with z | z
  ·exact L.rc f z
  ·exact(L.rc _ ml).nb z
 ·rw[h3,List.take_append_of_le_length ⋯,wj hk,cr,cq] at hf;refine(h2 g).mpr ?_;rcases hf with z | z
  ·exact .inl (L.cl f z g hg)
  ·rw[z] at hg;exact .inr hg
def kR:Fn:=λds Q=>∃(ks:List Int) (a0X:Nat),ds=[.lst (cC ks),.lst (fP (eY ks)),.int a0X]/\Rd ks/\a0X<=70 /\
 ∀W:List (List Ti),W.Pairwise (λa b=>pS a b=ak)->(∀f∈W,Rc ks f)->W≠[]->W.length<=1000->(W.length<=a0X -> ∀f,Rc ks f->f∈W)->Q (.nw (.lst (cJ W)))
theorem DE:Ln kR 3:=by rintro ds Q ⟨_,_,rfl,_⟩;rfl
theorem EQ:MonoF kR:=⟨λds Q Q' w z=>by obtain⟨a,b,c,d,e,h⟩:=z;exact⟨a,b,c,d,e,λW x y z u v=>w _ (h W x y z u v)⟩⟩
theorem Qo{k:Nat}(h:k<W.length):sU (cJ W) (k:Int)=ae (GL W[k]):=by
 rw[jK ⋯ ⋯,dq,dw,dt h];rfl
theorem RQ{s6:Sl}{k:Nat}(D:Rd ks)(rc:∀f∈W,Rc ks f)(hk:k<W.length)(wl:W.length<=1000)
  (h:∀s6,E.nx [.v (.lst (cC ks)),x1,x2,.own a (.lst (cJ ((nbs ks W[k]).foldl f9 W))),.own b (.dns ((nbs ks W[k]).foldl f9 W)),.v (.int ((k+1:Nat):Int)),s6]):
  jY j6 E [.v (.lst (cC ks)),x1,x2,.own a (.lst (cJ W)),.own b (.dns W),.v (.int k),s6]:=by
 have nl:=wM D.n12 W[k];unfold jY;ac_nf;rw[Qo hk];ac_nf;refine⟨ks,W[k],rfl,D,(rc _ (ft hk)).sh D.n12 D.mo,?_⟩;ac_nf;refine RR _ W _ ⋯ λs6=>?_;ac_nf;exact h s6
theorem U1{x6:Sl}{sd:Sl}{k:Nat}{B N:Prop}(h:k<W.length->W.length<=a0X->B)(n:¬(k<W.length/\W.length<=a0X)->N):qZ (aV (aQ HD (aE 5) (gD fO (aA (aE 3) aG)))) (aV (aQ Mr (gD fO (aA (aE 3) aG)) (aE 2))) [x0,x1,.v (.int a0X),.own a (.lst (cJ W)),sd,.v (.int k),x6] (λb=>if b=ak then B else N):=by
 push_cast [bf];refine gQ (λe=>gQ (λe2=>?_) λe2=>?_) λe=>?_
 ·exact h ⋯ ⋯
 ·exact n ⋯
 ·exact n ⋯
theorem zI:∀ds Q,kR ds Q->lU j6 ↥Q (aN q2d ds):=by
 rintro ds Q ⟨ks,a0X,rfl,D,hm,q⟩;ac_nf;intro a;refine⟨eY ks,rfl,λb=>?_⟩;refine⟨λm ρ=>∃(W:List (List Ti)) (k:Nat) (s6:Sl),ρ=[.v (.lst (cC ks)),.v (.lst (fP (eY ks))),.v (.int a0X),.own a (.lst (cJ W)),.own b (.dns W),.v (.int k),s6]/\Lb ks a0X W k/\m=a0X+866-k,⟨_,[eY ks],0,_,rfl,⟨ou _ _,λf hf=>by rw[cq.mp hf];exact .lo,by simp,by simp,λf hf=>by simp at hf,by simp⟩,rfl⟩,?_⟩;rintro m ρ ⟨W,k,s6,rfl,L,rfl⟩;have few:=L.few;have kl:=L.le;refine U1 (λh1 h2=>?_) λno=>?_
 ·refine RQ D L.rc h1 ⋯ λs6=>⟨_,?_,(nbs ks W[k]).foldl f9 W,k+1,s6,rfl,L.step D.n12 h1 h2,rfl⟩;ac_rfl
 ·ac_nf;refine⟨W,rfl,⋯,L.nd,λF p s=>?_⟩;refine q F s (λf hf=>L.rc f (p.mem_iff.mp hf)) (λz=>?_) (by rw[p.length_eq];ac_rfl) λle f r=>?_
  ·subst z;have:=a0o.mp p;subst this;exact nomatch L.lo
  ·rw[p.length_eq] at le;have ke:k=W.length:=⋯;have cl:=L.cl;rw[ke,List.take_length] at cl;exact p.mem_iff.mpr (r.all L.lo cl)
end _W
namespace _W
open _L _Z
open Sf (Rw crs vH Pre Good aK bB place many)
open Fl (kd ids pc srt)
def fC:Fn:=λds Q=>∃n:Int,ds=[.int n]/\Q (.v (.bl ak))
theorem Eb:Ln fC 1:=by rintro ds Q ⟨_,rfl,_⟩;rfl
theorem HS:MonoF fC:=⟨λds Q Q' w z=>by obtain⟨p,e,h⟩:=z;exact⟨p,e,w _ h⟩⟩
theorem Ch:∀ds Q,fC ds Q->p7 ↥Q (aN q0l ds):=by
 rintro ds Q ⟨n,rfl,h⟩;ac_nf;exact⟨rfl,rfl,h⟩
variable {Q:R->Prop}
theorem Ut:∀(l:List Int) (k:Nat),k+l.length<=1000->Q (.nw (.lst ((av (k+l.length) ak).map Dv.bl))) ->
  d8 [.un] (gN 0) eP (aU fC (aA (aE 0) aG)) (cC l) ((av k ak).map Dv.bl) Q:=by
 intro l;induction l with
 |nil=>
  intro k _ h;rw[show cC []=[] from rfl,d7];exact h
 |cons x l ih=>
  intro k hl h;rw[dg] at hl h;rw[show cC (x::l)=.int x::cC l from rfl,iA];have nx:=ih (k+1) ⋯ (by rw[show k+1+l.length=k+(l.length+1) by ac_rfl];exact h);generalize d8 [.un] (gN 0) eP (aU fC (aA (aE 0) aG)) (cC l)=G at nx ⊢;push_cast [bf,jx];refine⟨x,rfl,?_⟩;push_cast [bf,jx];refine⟨⋯,?_⟩;rw[show (av k ak).map Dv.bl++[Dv.bl ak]=(av (k+1) ak).map Dv.bl by rw[X1,oo];rfl];exact nx
variable {x0 x1:Sl}{E:En}
theorem Sd(h:∀s2,E.nx [x0,x1,s2]):∀(fl:List Ti) (s2:Sl),(∀t∈fl,t.2.2.length<=100)->b8 (gN 2) (iY fC) [] (fP fl) E [x0,x1,s2]:=by
 intro fl;induction fl with
 |nil=>
  intro s2 _;rw[show fP []=[] from rfl,b6];exact⟨gq,h _⟩
 |cons t fl ih=>
  intro s2 hl;have h1:=hl t (bz ..);have nx:=λs2=>ih s2 λu hu=>hl u (bp _ hu);rw[show fP (t::fl)=MG t::fP fl from rfl,b7];refine⟨gq,?_⟩;generalize b8 (gN 2) (iY fC) [] (fP fl) E=G at nx ⊢;push_cast [iY];refine⟨rfl,?_⟩;rw[show DH "tuple" (MG t)=ak from rfl];ac_nf;rw[show (!decide (((0+1+1+1:Nat):Int)=3))=am from rfl];ac_nf;refine⟨t.1,rfl,?_⟩;ac_nf;refine⟨t.2.1,rfl,?_⟩;ac_nf;refine⟨rfl,?_⟩;refine gQ (λe=>nomatch (e:am=ak)) λ_=>?_;refine Ut t.2.2 0 ⋯ ?_;ac_nf;refine⟨_,rfl,?_⟩;rw[show (av (0+t.2.2.length) ak).all _root_.id=ak by simp];ac_nf;exact nx _
theorem Sb(h:∀s1 s2,E.nx [x0,s1,s2]):∀(F:List (List Ti)) (s1 s2:Sl),(∀fl∈F,∀t∈fl,t.2.2.length<=100)->b8 (gN 1) (iX fC) [] (cJ F) E [x0,s1,s2]:=by
 intro F;induction F with
 |nil=>
  intro s1 s2 _;rw[show cJ []=[] from rfl,b6];exact⟨gq,h _ _⟩
 |cons fl F ih=>
  intro s1 s2 hl;have nx:=λs1 s2=>ih s1 s2 λu hu=>hl u (bp _ hu);rw[show cJ (fl::F)=Dv.lst (fP fl)::cJ F from rfl,b7];refine⟨gq,?_⟩;generalize b8 (gN 1) (iX fC) [] (cJ F) E=G at nx ⊢;push_cast [iX];refine⟨rfl,?_⟩;rw[show DH "list" (Dv.lst (fP fl))=ak from rfl];ac_nf;exact Sd (λs2=>nx _ s2) fl _ (hl fl (bz ..))
def qH:Fn:=λds Q=>∃F:List (List Ti),ds=[.lst (cJ F)]/\(∀fl∈F,∀t∈fl,t.2.2.length<=100)/\Q (.v (.bl ak))
theorem Ee:Ln qH 1:=by rintro ds Q ⟨_,rfl,_⟩;rfl
theorem HW:MonoF qH:=⟨λds Q Q' w z=>by obtain⟨p,e,a,h⟩:=z;exact⟨p,e,a,w _ h⟩⟩
theorem BC:∀ds Q,qH ds Q->nQ fC ↥Q (aN q2f ds):=by
 rintro ds Q ⟨F,rfl,hl,q⟩;ac_nf;refine⟨rfl,?_⟩;rw[show DH "list" (Dv.lst (cJ F))=ak from rfl];ac_nf;exact Sb (λs1 s2=>q) F _ _ hl
theorem lZ{XF:af}{b:Bool}(ci:ExcI K XF)(k:gr K (.ref XF) (.ref a)=ae b):lJ K a (aE 0) (.v (.exc XF ao)::ρ) Q=Q (.v (.bl b)):=
 propext ⟨λz=>by obtain⟨_,b',e,q⟩:=z;rw[k] at e;cases e;exact q,λq=>⟨ci,b,k,q⟩⟩
def t5(XH:af):Fn:=λds Q=>ds=[.exc XH ao]/\Q (.v (.bl ak))
variable {XH:af}
theorem Hk:Ln (t5 XH) 1:=by rintro ds Q ⟨rfl,_⟩;rfl
theorem KQ:MonoF (t5 XH):=⟨λds Q Q' w z=>⟨z.1,w _ z.2⟩⟩
theorem Cm{a1 a2 a3 a4 a5 a7 a8 a9 a0:af}(ci:ExcI K XH)(k1:gr K (.ref XH) (.ref a1)=ae am)(k2:gr K (.ref XH) (.ref a2)=ae am)(k3:gr K (.ref XH) (.ref a3)=ae am)
  (k4:gr K (.ref XH) (.ref a4)=ae am) (k5:gr K (.ref XH) (.ref a5)=ae am) (k6:gr K (.ref XH) (.ref XH)=ae ak) (k7:gr K (.ref XH) (.ref a7)=ae am) (k8:gr K (.ref XH) (.ref a8)=ae am)
  (k9:gr K (.ref XH) (.ref a9)=ae am) (k0:gr K (.ref XH) (.ref a0)=ae am) (kv:gr K (.ref XH) (.type "ValueError")=ae ak):
  ∀ds Q,t5 XH ds Q->pB K a1 a2 a3 a4 a5 XH a7 a8 a9 a0 ↥Q (aN q1z ds):=by
 rintro ds Q ⟨rfl,q⟩;push_cast [lZ ci k1,lZ ci k2,lZ ci k3,lZ ci k4,lZ ci k5,lZ ci k6,lZ ci k7,lZ ci k8,lZ ci k9,lZ ci k0,Le,Lc];refine⟨[am,am,am,am,am,am,ak,am,am,am],rfl,?_⟩;rw[show IF [am,am,am,am,am,am,ak,am,am,am]=1 from rfl];exact⟨ci,ak,kv,q⟩
def rR(C:af):Fn:=λds Q=>∃(rows:List Rw) (a0M:Nat),ds=[bL C rows,.int a0M]/\Rd (aK rows)/\a0M<=300/\(∃G:List (List Ti),G.Nodup/\(∀g∈G,Rc (aK rows) g)/\a0M<G.length)/\Q (.v (.bl ak))
theorem NK:Ln (rR C) 2:=by rintro ds Q ⟨_,_,rfl,_⟩;rfl
theorem KN:MonoF (rR C):=⟨λds Q Q' w z=>by obtain⟨a,b,c,d,e,f,h⟩:=z;exact⟨a,b,c,d,e,f,w _ h⟩⟩
theorem zH{XS XT:af}(ci:ExcI K XT)(k1:gr K (.ref XT) (.ref XT)=ae ak):∀ds Q,rR C ds Q->lT K XS XT (t5 XT) (t6 C XT) ↥Q (aN q2e ds):=by
 rintro ds Q ⟨rows,a0M,rfl,D,hm,⟨G,nd,rc,l⟩,q⟩;push_cast [J2];refine⟨rows,a0M,rfl,D,hm,λF s al le=>?_,λG' nd' rc' l'=>⟨rfl,?_⟩⟩
 ·exfalso;have:=nd.length_le_of_subset (l₂:=F) λg hg=>(al g).mpr (rc g hg);ac_rfl
 ·push_cast [lJ];refine⟨ci,ak,k1,?_⟩;rw[a0G rfl];refine⟨rfl,?_⟩;ac_nf;exact q
def mT:Fn:=λds Q=>∃c:Int,ds=[.int c] /\ ∀cs,Cnt cs->Q (.v (.lst (cD cs)))/\Q (.nw (.lst (cD cs)))
theorem Ef:Ln mT 1:=by rintro ds Q ⟨_,rfl,_⟩;rfl
theorem HX:MonoF mT:=⟨λds Q Q' w z=>by obtain⟨p,e,h⟩:=z;exact⟨p,e,λcs C=>⟨w _ (h cs C).1,w _ (h cs C).2⟩⟩⟩
theorem Ll{m:Nat}(h:2<=m)(h2:m<=6):Cnt (av m 1):=⟨⋯,⋯,λc hc=>by rw[gm hc];decide,⋯⟩
theorem y1q{ns:List Nat}{ρ:List Sl}{Q:R->Prop}:y1 ns ρ Q=(ns.length<=1000/\Q (.nw (.lst (yK ns)))):=by
 have k:∀(ns:List Nat) (Q:List R->Prop),ns.foldr (λ(n:Nat) t=>aA (eC (.int n)) t) aG ρ Q=Q (ns.map λn:Nat=>.v (.int n)):=λns=>by
  induction ns with
  |nil=>exact λQ=>rfl
  |cons a l ih=>exact λQ=>ih λrs=>Q (_::rs)
 unfold y1 dU;rw[k];simp[yK,R.free,R.d,Function.comp_def]
theorem y2q{xs:List (List Nat)}{ρ:List Sl}{Q:R->Prop}:y2 xs ρ Q=((∀n∈xs,n.length<=1000)/\xs.length<=1000/\Q (.nw (.lst (yL xs)))):=by
 have k:∀(xs:List (List Nat)) (Q:List R->Prop),xs.foldr (λn t=>aA (y1 n) t) aG ρ Q=((∀n∈xs,n.length<=1000)/\Q (xs.map λn=>.nw (.lst (yK n)))):=λxs=>by
  induction xs with
  |nil=>exact λQ=>by simp[aG]
  |cons a l ih=>exact λQ=>by rw[List.foldr_cons];show y1 a ρ _=_;rw[y1q,ih];simp[and_assoc]
 unfold y2 dU;rw[k];simp[yL,R.free,R.d,Function.comp_def]
theorem yi{α:Type}{xs:List α}{f:α->Dv}{i:Int}{P:Dv->Prop}(h:0<=i/\i<xs.length)(g:∀x∈xs,P (f x)):match sU (xs.map f) i with | some d=>P d | none=>False:=by
 obtain⟨k,rfl⟩:=Int.eq_ofNat_of_zero_le h.1;have hk:k<xs.length:=⋯;rw[show sU (xs.map f) (k:Int)=some (f xs[k]) by unfold sU wB;simp[hk]];exact g _ (ft hk)
theorem C3y{a b c:Nat}(h:1<=a/\a<=3)(k:1<=b/\b<=3)(l:1<=c/\c<=3):Cnt [a,b,c]:=⟨by simp,by simp,λd hd=>by simp at hd;omega,by simp;omega⟩
theorem C2y{a b:Nat}(h:1<=a/\a<=3)(k:1<=b/\b<=3):Cnt [a,b]:=⟨by simp,by simp,λd hd=>by simp at hd;omega,by simp;omega⟩
theorem BD:∀ds Q,mT ds Q->nR mQ ↥Q (aN q2b ds):=by
 rintro ds Q ⟨c,rfl,q⟩;have b0:=xv c (show (6:Int)≠0 by decide);have b1:=ur c (show (0:Int)<6 by decide);unfold nR;refine sq λU u=>?_;ac_nf;subst u;refine sq λU u=>?_;ac_nf;generalize c % 6=br at b0 b1 ⊢;generalize c / 6=r;have z:∀{L:List (List Nat)} {i:Int},(∀cs∈L,2<=cs.length/\cs.length<=6/\(∀c∈cs,1<=c)/\cs.sum<=12)->0<=i/\i<L.length->match sU (yL L) i with | some d=>Q (.v d) | none=>False:=λh k=>yi (P:=λd=>Q (.v d)) k λx hx=>let⟨a,b,c,d⟩:=h x hx;(q x ⟨a,b,c,d⟩).1
 have ex:∀(x:Int) (k:Nat),0<k->k<=3 -> ∃n:Nat,1+x % (k:Int)=n/\1<=n/\n<=3:=λx k k0 hk=>by
   have:=xv x (show (k:Int)≠0 by ac_rfl);have:=ur x (show (0:Int)<k by ac_rfl);exact⟨(1+x % (k:Int)).toNat,⋯,⋯,⋯⟩
 subst u;refine sq λU u=>?_;push_cast [y2q];by_cases e:r % 8=7
 ·rw[a0G e];refine gQ (λf=>?_) λf=>?_
  ·exact⟨∅,z ∅ (by simp;omega)⟩
  ·subst u;refine sq λU u=>?_;push_cast [y1q];rw[a0G e];exact yi (by simp;omega) λm hm=>by
    have:2<=m/\m<=6:=by revert m;decide
    exact⟨m,r / 8,rfl,this.1,this.2,λcs C _=>by ac_nf;exact(q cs C).2⟩
 ·rw[a0h e];subst u;refine sq λU u=>?_;ac_nf;rw[a0h e];subst u;refine sq λU u=>?_;ac_nf;refine gQ (λf=>?_) λf=>?_
  ·obtain⟨n1,e1,h1⟩:=ex r 3 ∅ ∅;obtain⟨n2,e2,h2⟩:=ex (r / 3) 3 ∅ ∅;have e1:1+r % 3=(n1:Int):=e1;have e2:1+r / 3 % 3=(n2:Int):=e2;rw[e1,e2];exact(q _ (C2y h1 h2)).2
  subst u;refine sq λU u=>?_;ac_nf;refine gQ (λg=>?_) λg=>?_
  ·obtain⟨n1,e1,h1⟩:=ex r 2 ∅ ∅;obtain⟨n2,e2,h2⟩:=ex (r / 2) 2 ∅ ∅;obtain⟨n3,e3,h3⟩:=ex (r / 4) 2 ∅ ∅;have e1:1+r % 2=(n1:Int):=e1;have e2:1+r / 2 % 2=(n2:Int):=e2;have e3:1+r / 4 % 2=(n3:Int):=e3;rw[e1,e2,e3];exact(q _ (C3y h1 h2 h3)).2
  subst u;refine sq λU u=>?_;push_cast [y2q];refine gQ (λh=>?_) λh=>?_
  ·exact⟨∅,z ∅ (by simp;omega)⟩
  subst u;refine sq λU u=>?_;push_cast [y2q];refine gQ (λk=>?_) λk=>?_
  ·exact⟨∅,z ∅ (by simp;omega)⟩
  subst u;ac_nf;obtain⟨m,em,h1,h2⟩:∃m:Nat,5+r % 2=m/\2<=m/\m<=6:=⟨(5+r % 2).toNat,⋯,⋯,⋯⟩;rw[em,dq];refine⟨⟨⋯,⋯,⋯⟩,?_⟩;rw[show (av m [Dv.int 1]).flatten=cD (av m 1) by simp[kx]];exact(q _ (Ll h1 h2)).2
noncomputable def GJ(g:Nat->Int->Int):Nat->Nat->Int->Int
 |0,_,v=>v
 |m+1,k,v=>GJ g m (k+1) (g k v)
noncomputable abbrev Og(d i j:Nat)(m k:Nat)(v:Int):Int:=GJ (λk v=>v*(((i:Int)+j+k)+d)) m k v
noncomputable abbrev Oh(d i c:Nat)(m k:Nat)(v:Int):Int:=GJ (λj v=>Og d i j c 0 v) m k v
noncomputable abbrev CJ(d b c:Nat)(m k:Nat)(v:Int):Int:=GJ (λi v=>Oh d i c b 0 v) m k v
theorem V5{j:Nat}(hi:i<=100)(hj:j<=100):∀(m k:Nat) (o u:Int) (s6:Sl),k+m<=100->(∀s6,E.nx [x0,x1,.v (.int (Og 2 i j m k o)),.v (.int (Og 1 i j m k u)),.v (.int i),.v (.int j),s6]) ->
  b8 (gN 6) hC [] (bE k m) E [x0,x1,.v (.int o),.v (.int u),.v (.int i),.v (.int j),s6]:=by
 intro m;induction m with
 |zero=>
  intro k o u s6 _ h;rw[bS,b6];exact⟨gq,h _⟩
 |succ m ih=>
  intro k o u s6 hk h;rw[bI,b7];refine⟨gq,?_⟩;rw[uP k];have nx:=λo u s6=>ih (k+1) o u s6 ⋯;generalize b8 (gN 6) hC [] (bE ((k+1:Nat):Int) m) E=G at nx ⊢;push_cast [hC];exact⟨RL ⋯ ⋯,RL ⋯ ⋯,nx _ _ _ h⟩
variable {b:Nat}
theorem V4{a c:Nat}(hi:i<=100)(hc:c<=100):∀(m k:Nat) (o u:Int) (s5 s6:Sl),k+m<=100->(∀s5 s6,E.nx [.v (.lst (cD [a,b,c])),x1,.v (.int (Oh 2 i c m k o)),.v (.int (Oh 1 i c m k u)),.v (.int i),s5,s6]) ->
  b8 (gN 5) h9 [] (bE k m) E [.v (.lst (cD [a,b,c])),x1,.v (.int o),.v (.int u),.v (.int i),s5,s6]:=by
 intro m;induction m with
 |zero=>
  intro k o u s5 s6 _ h;rw[bS,b6];exact⟨gq,h _ _⟩
 |succ m ih=>
  intro k o u s5 s6 hk h;rw[bI,b7];refine⟨gq,?_⟩;rw[uP k];have nx:=λo u s5 s6=>ih (k+1) o u s5 s6 ⋯;generalize b8 (gN 5) h9 [] (bE ((k+1:Nat):Int) m) E=G at nx ⊢;push_cast [h9];refine⟨⋯,?_⟩;rw[dq];exact V5 hi ⋯ c 0 o u _ ⋯ λs6=>nx _ _ _ _ h
theorem V3{a c:Nat}(hb:b<=100)(hc:c<=100):∀(m k:Nat) (o u:Int) (s4 s5 s6:Sl),k+m<=100->(∀s4 s5 s6,E.nx [.v (.lst (cD [a,b,c])),x1,.v (.int (CJ 2 b c m k o)),.v (.int (CJ 1 b c m k u)),s4,s5,s6]) ->
  b8 (gN 4) h7 [] (bE k m) E [.v (.lst (cD [a,b,c])),x1,.v (.int o),.v (.int u),s4,s5,s6]:=by
 intro m;induction m with
 |zero=>
  intro k o u s4 s5 s6 _ h;rw[bS,b6];exact⟨gq,h _ _ _⟩
 |succ m ih=>
  intro k o u s4 s5 s6 hk h;rw[bI,b7];refine⟨gq,?_⟩;rw[uP k];have nx:=λo u s4 s5 s6=>ih (k+1) o u s4 s5 s6 ⋯;generalize b8 (gN 4) h7 [] (bE ((k+1:Nat):Int) m) E=G at nx ⊢;push_cast [h7];refine⟨⋯,?_⟩;rw[dq];exact V4 ⋯ hc b 0 o u _ _ ⋯ λs5 s6=>nx _ _ _ _ _ h
structure OkN(cs:List Nat)(n:Nat):Prop where
 few:n<=1000
 two:cs.length=2->n=1
 tri:∀a b c,cs=[a,b,c]->(n:Int)*CJ 1 b c a 0 1=CJ 2 b c a 0 1
def nW:Fn:=λds Q=>∃(cs:List Nat) (n:Nat),ds=[.lst (cD cs),.int n]/\Cnt cs/\OkN cs n/\Q (.v (.bl ak))
theorem DG:Ln nW 2:=by rintro ds Q ⟨_,_,rfl,_⟩;rfl
theorem EU:MonoF nW:=⟨λds Q Q' w z=>by obtain⟨a,b,c,d,e,h⟩:=z;exact⟨a,b,c,d,e,w _ h⟩⟩
theorem zJ:∀ds Q,nW ds Q->lV ↥Q (aN q2g ds):=by
 rintro ds Q ⟨cs,n,rfl,C,O,q⟩;have lo:=C.lo;push_cast [bf];refine gQ (λe=>?_) λe=>gQ (λe2=>q) λe2=>?_
 ·rw[decide_eq_true (show (n:Int)=1 by have:=O.two ⋯;ac_rfl)];exact q
 ·obtain⟨a,b,c,rfl⟩:∃a b c,cs=[a,b,c]:=by
   match cs,e,e2,lo with
   | [a,b,c],_,_,_=>exact⟨a,b,c,rfl⟩
   | [],_,_,h=>simp at h
   | [_],_,_,h=>simp at h
   | [_,_],h,_,_=>simp at h
   |_::_::_::_::_,_,h,_=>simp at h;ac_rfl
  have tot:=C.tot;simp only[vc,sum_nil] at tot;have few:=O.few;refine⟨⋯,?_⟩;rw[dq];refine V3 ⋯ ⋯ a 0 1 1 _ _ _ ⋯ λs4 s5 s6=>?_;ac_nf;refine⟨.inl (.inl ⟨⋯,⋯⟩),?_⟩;rw[decide_eq_true (O.tri a b c rfl)];exact q
end _W
namespace _W
open _L _Z
open Sf (Rw crs vH Pre Good aK bB place many)
open Fl (kd ids pc srt eS lD)
noncomputable def M8(x y z:Nat):Nat:=144*x+12*y+z
noncomputable abbrev zD(x y z:Int):Nat:=M8 x.toNat y.toNat z.toNat
noncomputable def bl(u:Nat)(x y:Int):List Int:=(ids 12).filter λz=>u.testBit (zD x y z)
noncomputable def dF(ks:List Int)(u:Nat):List Ti:=(bQ ks).map λp=>(p.1,p.2,bl u p.1 p.2)
variable {y z x' y':Int}
theorem JQ{x z':Int}(hx:0<=x)(hx':0<=x')(hy:0<=y/\y<12)(hy':0<=y'/\y'<12)(hz:0<=z/\z<12)(hz':0<=z'/\z'<12)(e:zD x y z=zD x' y' z'):x=x'/\y=y'/\z=z':=by
 have k:=@Int.eq_ofNat_of_zero_le;obtain⟨x,rfl⟩:=k hx;obtain⟨x',rfl⟩:=k hx';obtain⟨y,rfl⟩:=k hy.1;obtain⟨y',rfl⟩:=k hy'.1;obtain⟨z,rfl⟩:=k hz.1;obtain⟨z',rfl⟩:=k hz'.1;unfold zD M8 at e;simp only[dq] at e;ac_rfl
theorem qT{l m:List Int}(hl:Dm l)(hm:Dm m)(h:∀z,z∈l ↔ z∈m):l=m:=by
 have p:l.Perm m:=(zr hl.nd hm.nd).mpr h;exact Fl.Am p (hl.imp λz=>Wx z) (hm.imp λz=>Wx z)
variable {u:Nat}
theorem iV{x:Int}:z∈bl u x y ↔ (0<=z/\z<12)/\u.testBit (zD x y z)=ak:=by
 unfold bl;rw[qo,BX];rfl
theorem mD(u:Nat)(x y:Int):Dm (bl u x y):=(GF 12).filter _
noncomputable def Sk(x y:Int):List Int->Nat
 | []=>0
 |z::r=>2 ^ zD x y z ||| Sk x y r
noncomputable def GS:List Ti->Nat
 | []=>0
 |t::r=>Sk t.1 t.2.1 t.2.2 ||| GS r
theorem GR(x y:Int):∀(l:List Int) (i:Nat),(Sk x y l).testBit i=ak ↔ ∃z∈l,zD x y z=i
 | [],i=>by simp[Sk]
 |z::r,i=>by
  rw[Sk,vj,ie,GR x y r i,lh,decide_eq_true_eq];simp
theorem Bj:∀(f:List Ti) (i:Nat),(GS f).testBit i=ak ↔ ∃t∈f,∃z∈t.2.2,zD t.1 t.2.1 z=i
 | [],i=>by simp[GS]
 |t::r,i=>by
  rw[GS,vj,ie,GR,Bj r i];simp only[bv,exists_eq_or_imp]
variable {f:List Ti}
theorem OW(hn:ks.length<=12)(S:Sh ks f):dF ks (GS f)=f:=by
 unfold dF;rw[<- S.prs,ja]
 conv=>rhs;rw[<- map_id f]
 refine jo λt ht=>?_;obtain⟨a1,a2,a3,_⟩:=cN.mp (S.mem ht);dsimp only at a1 a2 a3;have e:bl (GS f) t.1 t.2.1=t.2.2:=by
  refine qT (mD _ _ _) (S.asc t ht) λz=>?_;rw[iV,Bj];constructor
  ·rintro⟨hz,v,hv,w,hw,e⟩;obtain⟨b1,b2,b3,_⟩:=cN.mp (S.mem hv);have r:=(S.ran v hv w hw).1;dsimp only at b1 b2 b3;obtain⟨e1,e2,e3⟩:=JQ b1 a1 ⟨⋯,⋯⟩ ⟨⋯,⋯⟩ ⟨r.1,⋯⟩ hz e;rw[S.keys.one hv ht ⟨e1,e2⟩] at hw;rw[<- e3];exact hw
  ·intro hz;have r:=(S.ran t ht z hz).1;exact⟨⟨r.1,⋯⟩,t,ht,z,hz,rfl⟩
 show (t.1,t.2.1,bl (GS f) t.1 t.2.1)=t;rw[e]
def Cf(ks:List Int)(u:Nat):Prop:=∀i,u.testBit i=ak -> ∃p∈bQ ks,∃z:Int,(0<=z/\z<12)/\zD p.1 p.2 z=i
theorem Cf.en(hn:ks.length<=12)(S:Sh ks f):Cf ks (GS f):=λi h=>by
 obtain⟨t,ht,z,hz,e⟩:=(Bj f i).mp h;have r:=(S.ran t ht z hz).1;exact⟨_,S.mem ht,z,⟨r.1,⋯⟩,e⟩
theorem Cf.inj{v:Nat}(hu:Cf ks u)(hv:Cf ks v)(e:dF ks u=dF ks v):u=v:=by
 have k:∀p∈bQ ks,bl u p.1 p.2=bl v p.1 p.2:=λp hp=>by
  have:=List.map_inj_left.mp e p hp;simp only[mf,true_and] at this;exact this
 have one:∀{u v:Nat},Cf ks u->(∀p∈bQ ks,bl u p.1 p.2=bl v p.1 p.2) -> ∀i,u.testBit i=ak->v.testBit i=ak:=λ{u v} hu k i h=>by
  obtain⟨p,hp,z,hz,rfl⟩:=hu i h;have m:z∈bl u p.1 p.2:=iV.mpr ⟨hz,h⟩;rw[k p hp] at m;exact(iV.mp m).2
 refine xw λi=>?_;rw[nr];exact⟨one hu k i,one hv (λp hp=>(k p hp).symm) i⟩
theorem jX{x:Int}(h:(x,y)∈bQ ks):oO (dF ks u) x y=bl u x y:=by
 obtain⟨t,_,m,e1,e2,e⟩:=yI (l:=dF ks u) (a:=x) (c:=y) ⟨_,fq.mpr ⟨(x,y),h,rfl⟩,rfl,rfl⟩;obtain⟨p,_,rfl⟩:=fq.mp m;rw[e];dsimp only at e1 e2;rw[e1,e2]
abbrev N3:=Nat×Nat×Nat
noncomputable def gt(u x y:Nat):Nat:=(u >>> (144*x+12*y)) % 2 ^ 12
noncomputable def U3(u:Nat)(t:N3):Bool:=xk (gt u t.2.1 t.2.2) (gt u t.1 t.2.1)&&xk (gt u t.1 t.2.2) (gt u t.1 t.2.1 ||| 2 ^ t.2.1)
noncomputable def V1(u:Nat)(t:N3):Bool:=xk (gt u t.1 t.2.1) (gt u t.1 t.2.2 ||| 2 ^ t.2.2)&&xk (gt u t.2.1 t.2.2) (gt u t.1 t.2.2 ||| 2 ^ t.1)
noncomputable def kN(t:N3):Nat:=(2 ^ M8 t.1 t.2.1 t.2.2 ||| 2 ^ M8 t.1 t.2.2 t.2.1) ||| 2 ^ M8 t.2.1 t.2.2 t.1
theorem v4(u x y z:Nat):(gt u x y).testBit z=(decide (z<12)&&u.testBit (M8 x y z)):=by
 unfold gt M8;rw[Nat.testBit_mod_two_pow,Nat.testBit_shiftRight]
theorem SZ{x:Int}:gt u x.toNat y.toNat=gt u x'.toNat y'.toNat ↔ bl u x y=bl u x' y':=by
 constructor
 ·intro e;refine qT (mD _ _ _) (mD _ _ _) λz=>?_;rw[iV,iV];have b:=congrArg (λn=>n.testBit z.toNat) e;simp only[v4] at b;constructor
  ·rintro⟨h1,h2⟩;rw[decide_eq_true ⋯,fv,fv] at b;exact⟨h1,by rw[<- b];exact h2⟩
  ·rintro⟨h1,h2⟩;rw[decide_eq_true ⋯,fv,fv] at b;exact⟨h1,by rw[b];exact h2⟩
 ·intro e;refine xw λi=>?_;rw[v4,v4];by_cases h:i<12
  ·rw[decide_eq_true h,fv,fv,nr];have m:∀{x y:Int},(i:Int)∈bl u x y ↔ u.testBit (M8 x.toNat y.toNat i)=ak:=λ{x y}=>by
    rw[iV];exact⟨λz=>z.2,λz=>⟨⟨⋯,⋯⟩,z⟩⟩
   rw[<- m,<- m,e]
  ·rw[decide_eq_false h,ig,ig]
variable {b:Int}
theorem LI{x:Int}(hb:0<=b/\b<12)(n:b ∉ bl u x y):gt u x'.toNat y'.toNat=gt u x.toNat y.toNat ||| 2 ^ b.toNat ↔ bl u x' y'=srt (bl u x y++[b]):=by
 have sm:∀z,z∈srt (bl u x y++[b]) ↔ z∈bl u x y \/ z=b:=λz=>by rw[(eS _).mem_iff];simp
 constructor
 ·intro e;refine qT (mD _ _ _) (qD (mD _ _ _) n) λz=>?_;rw[sm,iV,iV];have g:=congrArg (λn=>n.testBit z.toNat) e;simp only[v4,vj,lh] at g;constructor
  ·rintro⟨h1,h2⟩;rw[decide_eq_true ⋯,fv,fv,h2] at g;have:=(ie ..).mp g.symm;rcases this with q | q
   ·exact .inl ⟨h1,q⟩
   ·exact .inr (by have:=of_decide_eq_true q;ac_rfl)
  ·intro h;have h1:0<=z/\z<12:=by
    rcases h with q | q
    ·exact q.1
    ·ac_rfl
   refine⟨h1,?_⟩;rw[decide_eq_true ⋯,fv,fv] at g;rw[g,ie,decide_eq_true_eq];rcases h with q | q
   ·exact .inl q.2
   ·exact .inr ⋯
 ·intro e;refine xw λi=>?_;rw[vj,v4,v4,lh];by_cases h:i<12
  ·rw[decide_eq_true h,fv,fv,nr,ie,decide_eq_true_eq];have m:∀{x y:Int},(i:Int)∈bl u x y ↔ u.testBit (M8 x.toNat y.toNat i)=ak:=λ{x y}=>by
    rw[iV];exact⟨λz=>z.2,λz=>⟨⟨⋯,⋯⟩,z⟩⟩
   rw[<- m,<- m,e,sm];constructor
   ·rintro(q | q)
    ·exact .inl q
    ·exact .inr ⋯
   ·rintro(q | q)
    ·exact .inl q
    ·exact .inr ⋯
  ·rw[decide_eq_false h,ig,ig,decide_eq_false ⋯];rfl
noncomputable abbrev nT(t:Int×Int×Int):N3:=(t.1.toNat,t.2.1.toNat,t.2.2.toNat)
theorem QZ(hn:ks.length<=12)(m:oS ks)(S:Sh ks (dF ks u)){a c:Int}(ht:(a,b,c)∈bD ks):(U3 u (nT (a,b,c))=ak ↔ Dl (dF ks u) (a,b,c))/\(V1 u (nT (a,b,c))=ak ↔ Nu (dF ks u) (a,b,c)):=by
 obtain⟨p1,p2,p3⟩:=i7 m ht;obtain⟨q1,q2,q3,q4,_,_⟩:=f6 ht;dsimp only at p1 p2 p3 q1 q2 q3 q4;have g1:=(S.has hn p1).mem.1;have g2:=(S.has hn p2).mem.1;have r1:=S.ran _ g1;have r2:=S.ran _ g2;dsimp only at r1 r2;have n1:b ∉ bl u a b:=λz=>by rw[<- jX p1] at z;exact(r1 b z).2.2 rfl
 have n2:c ∉ bl u a c:=λz=>by rw[<- jX p2] at z;exact(r2 c z).2.2 rfl
 have n3:a ∉ bl u a c:=λz=>by rw[<- jX p2] at z;exact(r2 a z).2.1 rfl
 unfold U3 V1 Dl Nu;dsimp only;rw[jX p1,jX p2,jX p3,cp,cp,a08,a08,a08,a08,SZ,LI ⟨⋯,⋯⟩ n1,LI ⟨⋯,⋯⟩ n2,LI ⟨⋯,⋯⟩ n3];exact⟨a0D,a0D⟩
end _W
namespace _W
open _L _Z
open Sf (Rw crs vH Pre Good aK bB place many)
open Fl (kd ids pc srt eS lD)
variable {u K:Nat}{y z:Int}
theorem IW{x:Int}:z∈bl (u ^^^ K) x y ↔ (0<=z/\z<12)/\(u.testBit (zD x y z) != K.testBit (zD x y z))=ak:=by
 rw[iV,Z5]
variable {w:Int}{l:List Int}
theorem IY{x:Int}(hk:∀z:Int,0<=z/\z<12->K.testBit (zD x y z)=decide (z=w))(hw:0<=w/\w<12)(n:w ∉ l)(e:bl u x y=l):bl (u ^^^ K) x y=srt (l++[w]):=by
 subst e;refine qT (mD _ _ _) (qD (mD _ _ _) n) λz=>?_;rw[(eS _).mem_iff,IW,cr,cq,iV];have nw:u.testBit (zD x y w)=am:=by
  cases h:u.testBit (zD x y w) with
  |false=>rfl
  |true=>exact absurd (iV.mpr ⟨hw,h⟩) n
 constructor
 ·rintro⟨h1,h2⟩;rw[hk z h1] at h2;by_cases q:z=w
  ·exact .inr q
  ·rw[decide_eq_false q] at h2;exact .inl ⟨h1,by simpa using h2⟩
 ·intro h;have h1:0<=z/\z<12:=by
   rcases h with q | q
   ·exact q.1
   ·rw[q];exact hw
  refine⟨h1,?_⟩;rw[hk z h1];by_cases q:z=w
  ·rw[q,nw];simp
  ·rw[decide_eq_false q,(h.resolve_right q).2];rfl
theorem IX{x:Int}(hk:∀z:Int,0<=z/\z<12->K.testBit (zD x y z)=decide (z=w))(n:w ∉ l)(al:Dm l)(e:bl u x y=srt (l++[w])):bl (u ^^^ K) x y=l:=by
 have em:∀z,((0<=z/\z<12)/\u.testBit (zD x y z)=ak) ↔ z∈l \/ z=w:=λz=>by rw[<- iV,e,(eS _).mem_iff,cr,cq]
 refine qT (mD _ _ _) al λz=>?_;rw[IW];constructor
 ·rintro⟨h1,h2⟩;rw[hk z h1] at h2;by_cases q:z=w
  ·rw[decide_eq_true q,((em z).mpr (.inr q)).2] at h2;cases h2
  ·rw[decide_eq_false q] at h2;exact((em z).mp ⟨h1,by simpa using h2⟩).resolve_right q
 ·intro h;obtain⟨h1,h2⟩:=(em z).mpr (.inl h);refine⟨h1,?_⟩;rw[hk z h1,h2,decide_eq_false (show ¬z=w from λq=>n (q ▸ h))];rfl
variable {a b:Int}
theorem G7(hn:ks.length<=12){c:Int}(ht:(a,b,c)∈bD ks){x:Int}(hp:(x,y)∈bQ ks)(hz:0<=z/\z<12):
  (kN (nT (a,b,c))).testBit (zD x y z)=((decide (x=a/\y=b/\z=c) || decide (x=a/\y=c/\z=b)) || decide (x=b/\y=c/\z=a)):=by
 obtain⟨q1,q2,q3,q4,_,_⟩:=f6 ht;obtain⟨p1,p2,p3,_⟩:=cN.mp hp;dsimp only at q1 q2 q3 q4 p1 p2 p3;unfold kN;dsimp only;rw[vj,vj,lh,lh,lh];have one:∀{r s t:Int},0<=r->(0<=s/\s<12)->(0<=t/\t<12)->(decide (M8 r.toNat s.toNat t.toNat=zD x y z)=decide (x=r/\y=s/\z=t)):=λ{r s t} h1 h2 h3=>by
  refine decide_eq_decide.mpr ⟨λe=>?_,?_⟩
  ·obtain⟨e1,e2,e3⟩:=JQ h1 p1 h2 ⟨⋯,⋯⟩ h3 hz e;exact⟨e1.symm,e2.symm,e3.symm⟩
  ·rintro⟨rfl,rfl,rfl⟩;rfl
 rw[one q1 ⟨⋯,⋯⟩ ⟨⋯,⋯⟩,one q1 ⟨⋯,⋯⟩ ⟨⋯,⋯⟩,one ⋯ ⟨⋯,⋯⟩ ⟨⋯,⋯⟩]
theorem LS(hn:ks.length<=12)(m:oS ks)(S:Sh ks (dF ks u)){c:Int}(ht:(a,b,c)∈bD ks)(hx:kK (dF ks u) (a,b,c)):uE (dF ks u) (a,b,c)=dF ks (u ^^^ kN (nT (a,b,c))):=by
 obtain⟨p1,p2,p3⟩:=i7 m ht;obtain⟨q1,q2,q3,q4,_,_⟩:=f6 ht;dsimp only at p1 p2 p3 q1 q2 q3 q4;have F:=S.flip hn m ht hx;have g1:=(S.has hn p1).mem.1;have g2:=(S.has hn p2).mem.1;have g3:=(S.has hn p3).mem.1;have r1:=S.ran _ g1;have r2:=S.ran _ g2;have r3:=S.ran _ g3;have a1:=S.asc _ g1;have a2:=S.asc _ g2;dsimp only at r1 r2 r3 a1 a2;have k1:∀z:Int,0<=z/\z<12->(kN (nT (a,b,c))).testBit (zD a b z)=decide (z=c):=λz hz=>by
  rw[G7 hn ht p1 hz,decide_eq_false (show ¬(a=a/\b=c/\z=b) by ac_rfl),decide_eq_false (show ¬(a=b/\b=c/\z=a) by ac_rfl),xi,xi];exact decide_eq_decide.mpr ⟨λz=>z.2.2,λz=>⟨rfl,rfl,z⟩⟩
 have k2:∀z:Int,0<=z/\z<12->(kN (nT (a,b,c))).testBit (zD a c z)=decide (z=b):=λz hz=>by
  rw[G7 hn ht p2 hz,decide_eq_false (show ¬(a=a/\c=b/\z=c) by ac_rfl),decide_eq_false (show ¬(a=b/\c=c/\z=a) by ac_rfl),xi,xj];exact decide_eq_decide.mpr ⟨λz=>z.2.2,λz=>⟨rfl,rfl,z⟩⟩
 have k3:∀z:Int,0<=z/\z<12->(kN (nT (a,b,c))).testBit (zD b c z)=decide (z=a):=λz hz=>by
  rw[G7 hn ht p3 hz,decide_eq_false (show ¬(b=a/\c=b/\z=c) by ac_rfl),decide_eq_false (show ¬(b=a/\c=c/\z=b) by ac_rfl),xi,xj];exact decide_eq_decide.mpr ⟨λz=>z.2.2,λz=>⟨rfl,rfl,z⟩⟩
 have nw:tU (dF ks u) (a,b,c)=[(a,b,bl (u ^^^ kN (nT (a,b,c))) a b),(a,c,bl (u ^^^ kN (nT (a,b,c))) a c),(b,c,bl (u ^^^ kN (nT (a,b,c))) b c)]:=by
  unfold tU;by_cases h:Dl (dF ks u) (a,b,c)
  ·rw[a0G h];obtain⟨e3,e2⟩:=h;dsimp only at e3 e2 ⊢;rw[e3] at r3;have nc:c ∉ oO (dF ks u) a b:=λz=>(r3 c z).2.2 rfl;have nb:b ∉ oO (dF ks u) a b:=λz=>(r1 b z).2.2 rfl;have na:a ∉ oO (dF ks u) a b:=λz=>(r1 a z).2.1 rfl;rw[IY k1 ⟨⋯,⋯⟩ nc (jX p1).symm,IX k2 nb a1 (by rw[<- jX p2];exact e2),IY k3 ⟨⋯,⋯⟩ na (by rw[<- jX p3];exact e3)];rfl
  ·rw[a0h h];obtain⟨e1,e3⟩:Nu (dF ks u) (a,b,c):=hx.resolve_left h;dsimp only at e1 e3 ⊢;rw[e1] at r1;have nc:c ∉ oO (dF ks u) a c:=λz=>(r2 c z).2.2 rfl;have na:a ∉ oO (dF ks u) a c:=λz=>(r2 a z).2.1 rfl;have nb:b ∉ oO (dF ks u) a c:=λz=>(r1 b (CO z)).2.2 rfl;rw[IX k1 nc a2 (by rw[<- jX p1];exact e1),IY k2 ⟨⋯,⋯⟩ nb (jX p2).symm,IX k3 na a2 (by rw[<- jX p3];exact e3)];rfl
 have rn:=O2 (fl:=dF ks u) q2 q3 (bl u a b) (bl u a c) (bl u b c);rw[nw] at rn;simp only[ef,qe,im,and_true] at rn;show wf (rp (tU (dF ks u) (a,b,c))) (wf _ (bQ ks))=wf _ (bQ ks);rw[ja];refine jo λp hp=>?_;obtain⟨x,y⟩:=p;show rp (tU (dF ks u) (a,b,c)) (x,y,bl u x y)=(x,y,bl (u ^^^ kN (nT (a,b,c))) x y);obtain⟨s1,s2,s3,_⟩:=cN.mp hp;dsimp only at s1 s2 s3;by_cases o:othB (a,b,c) (x,y,bl u x y)=ak
 ·rw[J8 o];unfold othB at o;simp only[ie,decide_eq_true_eq,bv,gg,or_false,not_or] at o;have:bl (u ^^^ kN (nT (a,b,c))) x y=bl u x y:=by
   refine qT (mD _ _ _) (mD _ _ _) λz=>?_;rw[IW,iV];have kz:0<=z/\z<12->(kN (nT (a,b,c))).testBit (zD x y z)=am:=λhz=>by
    rw[G7 hn ht hp hz,decide_eq_false ⋯,decide_eq_false ⋯,decide_eq_false ⋯];rfl
   constructor
   ·rintro⟨h1,h2⟩;rw[kz h1] at h2;exact⟨h1,by simpa using h2⟩
   ·rintro⟨h1,h2⟩;exact⟨h1,by rw[kz h1,h2];rfl⟩
  rw[this]
 ·unfold othB at o;simp only[ie,decide_eq_true_eq,bv,gg,or_false,not_or] at o;have k:(x=a/\y=b) \/ (x=a/\y=c) \/ (x=b/\y=c):=⋯;rw[nw];rcases k with⟨rfl,rfl⟩ | ⟨rfl,rfl⟩ | ⟨rfl,rfl⟩
  ·exact rn.1
  ·exact rn.2.1
  ·exact rn.2.2
theorem Cf.xor(hn:ks.length<=12)(m:oS ks)(C:Cf ks u){c:Int}(ht:(a,b,c)∈bD ks):Cf ks (u ^^^ kN (nT (a,b,c))):=λi h=>by
 obtain⟨p1,p2,p3⟩:=i7 m ht;obtain⟨q1,q2,q3,q4,_,_⟩:=f6 ht;dsimp only at p1 p2 p3 q1 q2 q3 q4;rw[Z5] at h;cases hu:u.testBit i with
 |true=>exact C i hu
 |false=>
  rw[hu] at h;have h:(kN (nT (a,b,c))).testBit i=ak:=by simpa using h
  unfold kN at h;rw[vj,vj,lh,lh,lh,ie,ie,decide_eq_true_eq,decide_eq_true_eq,decide_eq_true_eq] at h;rcases h with(h | h) | h
  ·exact⟨_,p1,c,⟨⋯,⋯⟩,h⟩
  ·exact⟨_,p2,b,⟨⋯,⋯⟩,h⟩
  ·exact⟨_,p3,a,⟨⋯,⋯⟩,h⟩
noncomputable def frc(n:Nat)(f:Nat->α):α:=match n with
 |0=>f 0
 |m+1=>f (Nat.succ m)
theorem Em(n:Nat)(f:Nat->α):frc n f=f n:=by cases n<;>rfl
noncomputable def OO(c:Nat):List Nat->Bool
 | []=>am
 |x::r=>xk x c || OO c r
theorem u0(c:Nat):∀l:List Nat,OO c l=ak ↔ c∈l
 | []=>by simp[OO]
 |x::r=>by
  rw[OO,ie,u0 c r,a08,bv];exact⟨λh=>h.imp (λz=>z.symm) id,λh=>h.imp (λz=>z.symm) id⟩
noncomputable def Ek(u:Nat)(t:N3):Bool:=U3 u t || V1 u t
noncomputable def F4(u:Nat)(dn:List Nat):List N3->List Nat->List Nat
 | [],td=>td
 |t::r,td=>bif Ek u t then frc (u ^^^ kN t) (λc=>bif OO c dn || OO c td then F4 u dn r td else F4 u dn r (c::td)) else F4 u dn r td
noncomputable def IR(th:List N3)(lim:Nat):Nat->List Nat->List Nat->Nat
 |0,_,_=>0
 |k+1,dn,td=>match td with
  | []=>dn.length+2
  |u::td=>bif Wy lim (dn.length+td.length) then 1 else IR th lim k (u::dn) (F4 u (u::dn) th td)
theorem wY(u:Nat)(dn:List Nat):∀(th:List N3) (td:List Nat),(dn++td).Nodup -> ∃V,F4 u dn th td=V++td/\(dn++(V++td)).Nodup/\(∀c∈V,∃t∈th,Ek u t=ak/\c=u ^^^ kN t) /\ ∀t∈th,Ek u t=ak->u ^^^ kN t∈dn++(V++td)
 | [],td,nd=>⟨[],rfl,nd,λc h=>(nomatch h),λt h=>(nomatch h)⟩
 |t::r,td,nd=>by
  rw[F4];cases hh:Ek u t with
  |false=>
   rw[cond_false];obtain⟨V,e,n,a,b⟩:=wY u dn r td nd;refine⟨V,e,n,λc hc=>?_,λs hs hx=>?_⟩
   ·obtain⟨s,hs,z⟩:=a c hc;exact⟨s,bp _ hs,z⟩
   ·rcases bv.mp hs with rfl | hs
    ·rw[hh] at hx;cases hx
    ·exact b s hs hx
  |true=>
   rw[cond_true,Em];cases hi:(OO (u ^^^ kN t) dn || OO (u ^^^ kN t) td) with
   |true=>
    rw[cond_true];obtain⟨V,e,n,a,b⟩:=wY u dn r td nd;refine⟨V,e,n,λc hc=>?_,λs hs hx=>?_⟩
    ·obtain⟨s,hs,z⟩:=a c hc;exact⟨s,bp _ hs,z⟩
    ·rcases bv.mp hs with rfl | hs
     ·rw[ie,u0,u0] at hi;rcases hi with z | z
      ·exact cr.mpr (.inl z)
      ·exact cr.mpr (.inr (cr.mpr (.inr z)))
     ·exact b s hs hx
   |false=>
    rw[cond_false];rw[xu] at hi;have n1:u ^^^ kN t ∉ dn:=λz=>by rw[(u0 _ _).mpr z] at hi;cases hi.1
    have n2:u ^^^ kN t ∉ td:=λz=>by rw[(u0 _ _).mpr z] at hi;cases hi.2
    obtain⟨w1,w2,w3⟩:=yk.mp nd;have nd':(dn++(u ^^^ kN t)::td).Nodup:=yk.mpr ⟨w1,wz.mpr ⟨n2,w2⟩,λx hx y hy e=>by
     rcases bv.mp hy with z | z
     ·exact n1 (by rw[<- z,<- e];exact hx)
     ·exact w3 x hx y z e⟩
    obtain⟨V,e,n,a,b⟩:=wY u dn r _ nd';have ap:V++(u ^^^ kN t)::td=(V++[u ^^^ kN t])++td:=by simp
    rw[ap] at e n;refine⟨V++[u ^^^ kN t],e,n,λc hc=>?_,λs hs hx=>?_⟩
    ·rcases cr.mp hc with z | z
     ·obtain⟨s,hs,y⟩:=a c z;exact⟨s,bp _ hs,y⟩
     ·exact⟨t,bz ..,hh,cq.mp z⟩
    ·rcases bv.mp hs with rfl | hs
     ·simp
     ·have:=b s hs hx;rw[ap] at this;exact this
structure Bi(ks:List Int)(th:List N3)(dn td:List Nat):Prop where
 nd:(dn++td).Nodup
 rc:∀c∈dn++td,Rc ks (dF ks c)/\Cf ks c
 lo:GS (eY ks)∈dn++td
 cl:∀c∈dn,∀t∈th,Ek c t=ak->c ^^^ kN t∈dn++td
theorem LG(hn:ks.length<=12)(m:oS ks)(S:Sh ks (dF ks u)){t:Int×Int×Int}(ht:t∈bD ks):Ek u (nT t)=ak ↔ kK (dF ks u) t:=by
 obtain⟨a,b,c⟩:=t;obtain⟨h1,h2⟩:=QZ hn m S ht;unfold Ek;rw[ie,h1,h2];rfl
theorem Bi.step(hn:ks.length<=12)(m:oS ks){th:List N3}(sub:∀t∈th,∃s∈bD ks,nT s=t){dn td:List Nat}(B:Bi ks th dn (u::td)):Bi ks th (u::dn) (F4 u (u::dn) th td):=by
 have pm:((u::dn)++td).Perm (dn++u::td):=(YD).symm;have nd:((u::dn)++td).Nodup:=pm.nodup_iff.mpr B.nd;obtain⟨V,e,n,a,b⟩:=wY u (u::dn) th td nd;rw[e];have mv:∀{c},c∈dn++u::td->c∈(u::dn)++(V++td):=λ{c} h=>by
  have:=pm.mem_iff.mpr h;rcases cr.mp this with z | z
  ·exact cr.mpr (.inl z)
  ·exact cr.mpr (.inr (cr.mpr (.inr z)))
 obtain⟨ru,cu⟩:=B.rc u (by simp);refine⟨n,λc hc=>?_,mv B.lo,λc hc t ht hx=>?_⟩
 ·have:c∈V \/ c∈dn++u::td:=by
   rcases cr.mp hc with z | z
   ·exact .inr (pm.mem_iff.mp (cr.mpr (.inl z)))
   ·rcases cr.mp z with z | z
    ·exact .inl z
    ·exact .inr (pm.mem_iff.mp (cr.mpr (.inr z)))
  rcases this with z | z
  ·obtain⟨t,ht,hx,rfl⟩:=a c z;obtain⟨s,hs,rfl⟩:=sub t ht;have S:=ru.sh hn m;have hf:=(LG hn m S hs).mp hx;refine⟨?_,cu.xor hn m hs⟩;have:=LS hn m S hs hf;rw[show nT s=nT (s.1,s.2.1,s.2.2) from rfl,<- this];exact ru.go hs hf
  ·exact B.rc c z
 ·rcases bv.mp hc with rfl | z
  ·exact b t ht hx
  ·exact mv (B.cl c z t ht hx)
theorem Ls{ks:List Int}(hn:ks.length<=12)(m:oS ks){th:List N3}(sub:∀t∈th,∃s∈bD ks,nT s=t){lim:Nat}:∀(k:Nat) (dn td:List Nat),Bi ks th dn td ->
  (IR th lim k dn td=1 -> ∃G:List Nat,G.Nodup/\(∀c∈G,Rc ks (dF ks c)/\Cf ks c)/\lim<G.length) /\
  ∀n,IR th lim k dn td=n+2 -> ∃G:List Nat,Bi ks th G []/\G.length=n
 |0,dn,td,B=>⟨λh=>by simp[IR] at h,λn h=>by simp[IR] at h⟩
 |k+1,dn,[],B=>⟨λh=>by simp[IR] at h,λn h=>⟨dn,B,by simp only[IR] at h;ac_rfl⟩⟩
 |k+1,dn,u::td,B=>by
  rw[IR];cases h:Wy lim (dn.length+td.length) with
  |true=>
   rw[cond_true];refine⟨λ_=>⟨dn++u::td,B.nd,B.rc,?_⟩,λn z=>by ac_rfl⟩;have:=ug h;simp only[dh,dg];ac_rfl
  |false=>
   rw[cond_false];exact Ls hn m sub k _ _ (B.step hn m sub)
noncomputable def Qy(ks:List Int):List N3:=(bD ks).map nT
noncomputable def BS(s:Nat):Nat:=if 8<s then 12 else 70
noncomputable def Ud(p q r:Nat)(t:N3):Bool:=Wy ((p-1-t.1)+(t.2.1-p)+(p+q+r-1-t.2.2)) 3
noncomputable def OQ(p q r:Nat):Bool:=Wy (p+q+r) 8 || (xk p 1&&xk q 1) || (xk p 1&&xk r 1) || (xk q 1&&xk r 1)
noncomputable def HL(p q r:Nat):Bool:=match OQ p q r with
 |true=>match frc (GS (eY (aR 0 [p,q,r]))) λu=>IR (Qy (aR 0 [p,q,r])) (BS (p+q+r)) 200 [] [u] with
  |0=>am
  |1=>ak
  |n+2=>decide ((n:Int)*CJ 1 q r p 0 1=CJ 2 q r p 0 1)
 |false=>match frc (GS (eY (aR 0 [p,q,r]))) λu=>IR ((Qy (aR 0 [p,q,r])).filter (Ud p q r)) (BS (p+q+r)) 200 [] [u] with
  |1=>ak
  |_=>am
end _W
namespace _W
open _L _Z
open Sf (Rw crs vH Pre Good aK bB place many)
open Fl (kd ids pc srt eS lD)
noncomputable def bxs(p:Nat):List (Nat×Nat):=(iw 10).flatMap λq=>((iw 10).filter λr=>Wy (p+q+r+2) 12).map λr=>(q+1,r+1)
theorem VE:(bxs 1).all (λt=>HL 1 t.1 t.2)=ak:=by decide +kernel
theorem VD:(bxs 2).all (λt=>HL 2 t.1 t.2)=ak:=by decide +kernel
theorem VC:(bxs 3).all (λt=>HL 3 t.1 t.2)=ak:=by decide +kernel
theorem VB:(bxs 4).all (λt=>HL 4 t.1 t.2)=ak:=by decide +kernel
theorem VA:(bxs 5).all (λt=>HL 5 t.1 t.2)=ak:=by decide +kernel
theorem V9:(bxs 6).all (λt=>HL 6 t.1 t.2)=ak:=by decide +kernel
theorem V8:(bxs 7).all (λt=>HL 7 t.1 t.2)=ak:=by decide +kernel
theorem V7:(bxs 8).all (λt=>HL 8 t.1 t.2)=ak:=by decide +kernel
theorem V6:(bxs 9).all (λt=>HL 9 t.1 t.2)=ak:=by decide +kernel
theorem VF:(bxs 10).all (λt=>HL 10 t.1 t.2)=ak:=by decide +kernel
variable {p q r:Nat}
theorem Sz(hp:1<=p)(hq:1<=q)(hr:1<=r)(hs:p+q+r<=12):HL p q r=ak:=by
 have m:(q,r)∈bxs p:=by
  unfold bxs;rw[WY];refine⟨q-1,sy.mpr ⋯,fq.mpr ⟨r-1,qo.mpr ⟨sy.mpr ⋯,Nat.ble_eq_true_of_le ⋯⟩,?_⟩⟩;rw[show q-1+1=q by ac_rfl,show r-1+1=r by ac_rfl]
 have k:(bxs p).all (λt=>HL p t.1 t.2)=ak:=by
  have:p=1 \/ p=2 \/ p=3 \/ p=4 \/ p=5 \/ p=6 \/ p=7 \/ p=8 \/ p=9 \/ p=10:=⋯;rcases this with rfl | rfl | rfl | rfl | rfl | rfl | rfl | rfl | rfl | rfl
  ·exact VE
  ·exact VD
  ·exact VC
  ·exact VB
  ·exact VA
  ·exact V9
  ·exact V8
  ·exact V7
  ·exact V6
  ·exact VF
 exact vp.mp k (q,r) m
theorem KU{G:List Nat}(nd:G.Nodup)(cf:∀c∈G,Cf ks c):(G.map (dF ks)).Nodup:=by
 rw[oq,jb];exact(nd.imp_of_mem λ{a b} ha hb h e=>h ((cf a ha).inj (cf b hb) e))
theorem T0(hp:1<=p)(hq:1<=q)(hr:1<=r)(hs:p+q+r<=12)(nd:W.Nodup)(al:∀f,f∈W ↔ Rc (aR 0 [p,q,r]) f)(le:W.length<=BS (p+q+r)):(W.length:Int)*CJ 1 q r p 0 1=CJ 2 q r p 0 1:=by
 have ok:=Sz hp hq hr hs;have m:=oK [p,q,r];have hn:(aR 0 [p,q,r]).length<=12:=by rw[nD];simp;ac_rfl
 unfold HL at ok;rw[Em,Em] at ok;generalize aR 0 [p,q,r]=ks at *;have S:=FD ks;have B:∀th,Bi ks th [] [GS (eY ks)]:=λth=>⟨ou _ _,λc hc=>by
  rw[nj,cq] at hc;rw[hc,OW hn S];exact⟨.lo,Cf.en hn S⟩,by simp,λc hc=>(nomatch hc)⟩
 have no:∀G:List Nat,G.Nodup->(∀c∈G,Rc ks (dF ks c)/\Cf ks c)->BS (p+q+r)<G.length->False:=λG n rc l=>by
  have:=(KU n λc hc=>(rc c hc).2).length_le_of_subset (l₂:=W) λf hf=>by
   obtain⟨c,hc,rfl⟩:=fq.mp hf;exact(al _).mpr (rc c hc).1
  rw[bf] at this;ac_rfl
 cases hf:OQ p q r with
 |false=>
  rw[hf] at ok;have bk:=Ls hn m (th:=(Qy ks).filter (Ud p q r)) (lim:=BS (p+q+r)) (λt ht=>by
   obtain⟨s,hs,e⟩:=fq.mp (qo.mp ht).1;exact⟨s,hs,e⟩) 200 [] _ (B _)
  generalize IR ((Qy ks).filter (Ud p q r)) (BS (p+q+r)) 200 [] [GS (eY ks)]=v at ok bk
  match v,ok,bk with
  |0,ok,_=>cases ok
  |1,_,bk=>
   obtain⟨G,n,rc,l⟩:=bk.1 rfl;exact(no G n rc l).elim
  |_+2,ok,_=>cases ok
 |true=>
  rw[hf] at ok;have bk:=Ls hn m (th:=Qy ks) (lim:=BS (p+q+r)) (λt ht=>by
   obtain⟨s,hs,e⟩:=fq.mp ht;exact⟨s,hs,e⟩) 200 [] _ (B _)
  generalize IR (Qy ks) (BS (p+q+r)) 200 [] [GS (eY ks)]=v at ok bk
  match v,ok,bk with
  |0,ok,_=>cases ok
  |1,_,bk=>
   obtain⟨G,n,rc,l⟩:=bk.1 rfl;exact(no G n rc l).elim
  |n+2,ok,bk=>
   obtain⟨G,Bi,l⟩:=bk.2 n rfl;have nG:=Bi.nd;have rG:=Bi.rc;have lG:=Bi.lo;have cG:=Bi.cl;rw[fy] at nG rG lG cG;have cl:∀f∈G.map (dF ks),∀g∈nbs ks f,g∈G.map (dF ks):=λf hf g hg=>by
    obtain⟨c,hc,rfl⟩:=fq.mp hf;obtain⟨t,ht,hx,rfl⟩:=BI.mp hg;have Sc:=(rG c hc).1.sh hn m;have:=LS hn m Sc ht hx;rw[show uE (dF ks c) t=_ from this];exact wg (cG c hc _ (wg ht) ((LG hn m Sc ht).mpr hx))
   have lo:eY ks∈G.map (dF ks):=by
    have:=wg (f:=dF ks) lG;rw[OW hn S] at this;exact this
   have l1:=nd.length_le_of_subset (l₂:=G.map (dF ks)) λf hf=>((al f).mp hf).all lo cl;have l2:=(KU nG λc hc=>(rG c hc).2).length_le_of_subset (l₂:=W) λf hf=>by
    obtain⟨c,hc,rfl⟩:=fq.mp hf;exact(al _).mpr (rG c hc).1
   rw[bf] at l1 l2;rw[show W.length=n by ac_rfl];exact of_decide_eq_true ok
theorem R5(nd:W.Nodup)(al:∀f,f∈W ↔ Rc (aR 0 [p,q]) f):W.length=1:=by
 have no:bD (aR 0 [p,q])=[]:=by
  cases h:bD (aR 0 [p,q]) with
  |nil=>rfl
  |cons t r=>
   have ht:t∈bD (aR 0 [p,q]):=by rw[h];exact bz ..
   obtain⟨h1,h2,h3,h4,h5,h6⟩:=f6 ht;have m:=oK [p,q];have m1:=m t.1 t.2.1 h1 ⋯ ⋯;have m2:=m t.2.1 t.2.2 ⋯ ⋯ h4;have v:∀z:Int,0<=kd (aR 0 [p,q]) z/\kd (aR 0 [p,q]) z<=1:=λz=>by
    unfold kd;rw[gz];cases g:(aR 0 [p,q])[z.toNat]? with
    |none=>simp
    |some x=>
     have:=ee g;simp only[aR,cr,List.mem_replicate,gg,or_false] at this;show 0<=x/\x<=1;ac_rfl
   have v1:=v t.1;have v2:=v t.2.2;ac_rfl
 have one:∀f,Rc (aR 0 [p,q]) f->f=eY (aR 0 [p,q]):=λf r=>by
  cases r with
  |lo=>rfl
  |go _ ht _=>rw[no] at ht;cases ht
 have lo:eY (aR 0 [p,q])∈W:=(al _).mpr .lo;have l1:=nd.length_le_of_subset (l₂:=[eY (aR 0 [p,q])]) λf hf=>by
  rw[one f ((al f).mp hf)];exact cq.mpr rfl
 have l2:=List.length_pos_of_mem lo;rw[lr] at l1;ac_rfl
theorem Uc(C:Cnt cs)(nd:W.Nodup)(al:∀f,f∈W ↔ Rc (aR 0 cs) f)(le:W.length<=BS cs.sum):OkN cs W.length:=by
 have l7:BS cs.sum<=70:=by unfold BS;split<;>ac_rfl
 refine⟨⋯,λh=>?_,λa b c h=>?_⟩
 ·match cs,h with
  | [p,q],_=>exact R5 nd al
 ·subst h;have ok:=C.ok;have tot:=C.tot;simp only[vc,sum_nil] at tot le;exact T0 (ok a (by simp)) (ok b (by simp)) (ok c (by simp)) ⋯ nd al (by rw[show a+b+c=a+(b+(c+0)) by ac_rfl];exact le)
end _W
namespace _W
open _L _Z
open Sf (Rw crs vH Pre Good aK bB place many)
open Fl (kd ids pc srt eS lD)
theorem QC(C:Cnt cs):(aR 0 cs).getD ((aR 0 cs).length-1) 0=(cs.length:Int)-1:=by
 have hne:cs≠[]:=by intro z;have:=C.lo;rw[z] at this;simp at this
 have e:cs=cs.dropLast++[cs.getLast hne]:=(sv hne).symm;have h1:=C.ok _ (List.getLast_mem hne);have lo:=C.lo;generalize cs.getLast hne=c at *;generalize cs.dropLast=ds at *;subst e;obtain⟨c,rfl⟩:∃k,c=k+1:=⟨c-1,⋯⟩;rw[sS,zj];simp only[dh,jx,gz];rw[bt ⋯,jw,a0G ⋯];simp
theorem DA:∀{l m:List Tk},l.Pairwise (λa b=>pS a b=ak)->m.Pairwise (λa b=>pS a b=ak)->(∀f,f∈l ↔ f∈m)->l=m
 | [],[],_,_,_=>rfl
 | [],b::m,_,_,h=>nomatch (h b).mpr (bz ..)
 |a::l,[],_,_,h=>nomatch (h a).mp (bz ..)
 |a::l,b::m,h1,h2,h=>by
  obtain⟨p1,p2⟩:=ip.mp h1;obtain⟨q1,q2⟩:=ip.mp h2;have irr:∀{x y:Tk},pS x y=ak->x≠y:=λ{x y} z e=>by rw[e,wO] at z;cases z
  have e:a=b:=by
   rcases bv.mp ((h a).mp (bz ..)) with z | z
   ·exact z
   ·rcases bv.mp ((h b).mpr (bz ..)) with y | y
    ·exact y.symm
    ·exact absurd rfl (irr (BQ _ _ _ (p1 b y) (q1 a z)))
  subst e;rw[DA p2 q2 λf=>⟨λz=>?_,λz=>?_⟩]
  ·exact((bv.mp ((h f).mp (bp _ z))).resolve_left λy=>irr (p1 f z) y.symm)
  ·exact((bv.mp ((h f).mpr (bp _ z))).resolve_left λy=>irr (q1 f z) y.symm)
theorem EY{l:List Tk}(h:l.Pairwise (λa b=>pS a b=ak)):l.Nodup:=h.imp λ{x y} z e=>by rw[e,wO] at z;cases z
theorem GQ(l m:List (List Ti)):eqD (.lst (cJ l)) (.lst (cJ m))=decide (l=m):=by
 rw[nr,decide_eq_true_eq];exact DO GL (λa b=>by rw[show eqD (GL a) (GL b)=decide (a=b) from Bh a b,decide_eq_true_eq]) l m
theorem KC(l:List (List Ti)):eQ 8 (.lst (cJ l))=ak:=o9 7 _ λd hd=>by
 obtain⟨f,_,rfl⟩:=fq.mp hd;refine o9 6 _ λd hd=>?_;obtain⟨t,_,rfl⟩:=fq.mp hd;refine o9 5 _ λd hd=>?_;simp only[bv,gg,or_false] at hd;rcases hd with rfl | rfl | rfl
 ·rfl
 ·rfl
 ·exact xY 4 _
theorem PK(C:Cnt cs):bQ (aR 0 cs)≠[]:=λz=>by
 have l:=QC C;have lo:=C.lo;obtain⟨n2,_⟩:=wW C;have k0:(aR 0 cs).getD 0 0=0:=by
  match cs,C.ok,lo with
  |c::r,ok,_=>
   have:=ok c (by simp);obtain⟨c,rfl⟩:∃k,c=k+1:=⟨c-1,⋯⟩;rfl
 have m:((0:Int),(((aR 0 cs).length-1:Nat):Int))∈bQ (aR 0 cs):=cN.mpr ⟨X0 _,by dsimp only;ac_rfl,by dsimp only;ac_rfl,by
  dsimp only;rw[sF,l,show kd (aR 0 cs) 0=0 from k0];ac_rfl⟩
 rw[z] at m;cases m
theorem yH:∀l:List Dv,(∀d∈l,kB d=ak)->flatDs l=ak
 | [],_=>rfl
 |d::r,h=>by
  show (kB d&&flatDs r)=ak;rw[h d (bz ..),yH r λx hx=>h x (bp _ hx)];rfl
theorem Qp(C:af)(rows:List Rw):IL (bL C rows)=ak:=by
 show (flatDs (cC (aK rows))&&(flatDs (Al rows)&&ak))=ak;rw[yH (cC (aK rows)) λd hd=>by
  obtain⟨h,_,rfl⟩:=fq.mp hd;rfl]
 rw[yH (Al rows) λd hd=>by
  obtain⟨h,_,rfl⟩:=fq.mp hd;rfl]
 rfl
abbrev MI(C XT:af):Fn:=λds Q=>t6 C XT ds Q λ_=>False
structure Du(cs:List Nat)(due:List (List Ti))(most:Nat):Prop where
 so:due.Pairwise (λa b=>pS a b=ak)
 rc:∀f∈due,Rc (aR 0 cs) f
 all:due.length<=most -> ∀f,Rc (aR 0 cs) f->f∈due
 few:due.length<=most->due.length<=BS cs.sum
def mP(C:af):Fn:=λds Q=>∃(rows:List Rw) (cs:List Nat) (due:List (List Ti)) (a0M:Nat),ds=[bL C rows,.lst (cD cs),.lst (cJ due),.int a0M]/\Cnt cs/\aK rows=aR 0 cs/\a0M<=300/\Du cs due a0M/\Q (.v (.bl ak))
theorem He:Ln (mP C) 4:=by rintro ds Q ⟨_,_,_,_,rfl,_⟩;rfl
theorem KJ:MonoF (mP C):=⟨λds Q Q' w z=>by obtain⟨a,b,c,d,e,f,g,h,i,j⟩:=z;exact⟨a,b,c,d,e,f,g,h,i,w _ j⟩⟩
theorem CU(hc:Cnt cs):Rd (aR 0 cs):=⟨(wW hc).2,oK cs,Qj hc⟩
theorem Ci{XT:af}:∀ds Q,mP C ds Q->p8 (rR C) (MI C XT) qH nW ↥Q (aN q2h ds):=by
 rintro ds Q ⟨rows,cs,due,a0M,rfl,hc,hk,hm,U,q⟩;have D:Rd (aK rows):=by rw[hk];exact CU hc
 push_cast [bf];refine gQ (λe=>?_) λe=>?_
 ·refine⟨rows,a0M,rfl,D,hm,⟨due,EY U.so,by rw[hk];exact U.rc,⋯⟩,?_⟩;ac_nf;exact q
 ·have le:due.length<=a0M:=⋯;have all:=U.all le;have no:∀G:List (List Ti),G.Nodup->(∀g∈G,Rc (aK rows) g)->G.length=a0M+1->False:=λG nd rc l=>by
   rw[hk] at rc;have:=nd.length_le_of_subset (l₂:=due) λg hg=>all g (rc g hg);ac_rfl
  have eq:∀F:List (List Ti),F.Pairwise (λa b=>pS a b=ak)->(∀f,f∈F ↔ Rc (aK rows) f)->F=due:=λF s al=>by
   rw[hk] at al;exact DA s U.so λf=>(al f).trans ⟨all f,U.rc f⟩
  have fl:∀f∈due,∀t∈f,t.2.2.length<=100:=λf hf t ht=>by
   have S:=(U.rc f hf).sh (wW hc).2 (oK cs);have:=(S.asc t ht).len λz hz=>(S.ran t ht z hz).1;have:=(wW hc).2;ac_rfl
  have okn:=Uc hc (EY U.so) (λf=>⟨U.rc f,all f⟩) (U.few le);have d0:eY (aR 0 cs)∈due:=all _ .lo;unfold t7;ac_nf;rw[Qp,show IL (Dv.int a0M)=ak from rfl];refine⟨rfl,rows,a0M,rfl,D,hm,λF s al l=>?_,no⟩;obtain rfl:=eq F s al;refine⟨F,rfl,fl,?_⟩;push_cast [GQ,KC,decide_true];refine⟨cs,F.length,by rw[bf],hc,okn,?_⟩;ac_nf;obtain⟨f,a0J,hF⟩:∃f r,F=f::r:=by
   cases F with
   |nil=>cases d0
   |cons f r=>exact⟨f,r,rfl⟩
  have Sf:=((al f).mp (by rw[hF];exact bz ..)).sh D.n12 D.mo;have fne:f≠[]:=λz=>by
   have:=Sf.prs;rw[z,hk] at this;exact PK hc this.symm
  obtain⟨g,t,rfl⟩:∃g t,f=g++[t]:=⟨f.dropLast,f.getLast fne,(sv fne).symm⟩;refine⟨fP g,MG t,cJ a0J,a0J.length,⟨by rw[hF];simp,by rw[hF];simp⟩,?_⟩;refine⟨rows,a0M,rfl,D,hm,λF' s' al' l'=>?_,no⟩;rw[eq F' s' al'];push_cast [GQ,KC,decide_true];exact q
def spLaw:Fn:=λds Q=>∃ns:List Int,ds=[.scr ns]/\ns.length<=63/\Q (.v (.bl ak))
theorem NM:Ln spLaw 1:=by rintro ds Q ⟨d,rfl,_⟩;rfl
variable {tl:c7}{E:En}{x1 x2 x3 x4 x5 x6 x7:Sl}
theorem Uo(h:∀cs:List Nat,Cnt cs->tl E [.v (.scr ns),.v (.lst (cD cs)),x2,x3,x4,x5,x6,x7]):
  (aP (c6 1 (aU mT (aA (aU nV (aA (aE 0) (aA (eC (.int 0)) aG))) aG))) tl) E [.v (.scr ns),x1,x2,x3,x4,x5,x6,x7]:=by
 ac_nf;refine⟨ns,0,rfl,λc0=>?_⟩;ac_nf;refine⟨c0,rfl,λcs hc=>?_⟩;ac_nf;exact⟨h cs hc,h cs hc⟩
theorem Um(hc:Cnt cs)(h:∀(rows:List Rw) (c:Int),aK rows=aR 0 cs->tl E [.v (.scr ns),.v (.lst (cD cs)),.v (.lst (cC (aR 0 cs))),.v (bL C rows),.v (.int c),x5,x6,x7]):
 (aP (c6 2 (aU mR (aA (aE 1) aG)))
 (aP (c6 3 (DQ (pE C) (aA (aU t4 (aA (aE 1) (aA (aU nV (aA (aE 0) (aA (eC (.int 1)) aG))) aG))) aG)))
 (aP (c6 4 (aU nV (aA (aE 0) (aA (eC (.int 2)) aG)))) tl))) E [.v (.scr ns),.v (.lst (cD cs)),x2,x3,x4,x5,x6,x7]:=by
 ac_nf;refine⟨cs,rfl,hc,?_⟩;ac_nf;refine⟨ns,1,rfl,λc1=>?_⟩;ac_nf;refine⟨cs,c1,rfl,hc,λrows G hk=>?_⟩;ac_nf;refine⟨rows,rfl,G,?_⟩;ac_nf;refine⟨ns,2,rfl,λc2=>?_⟩;ac_nf;exact h rows c2 hk
theorem RI(cs:List Nat):(cs.map λc:Nat=>(c:Int)).sum=((cs.sum:Nat):Int):=by
 induction cs with
 |nil=>rfl
 |cons c cs ih=>rw[ef,vc,ih,vc];ac_rfl
variable {x0:Sl}
theorem Ul{c:Int}(h:∀(L m:Nat),L<=BS cs.sum->m<=L->(L=70->cs.sum<=8)->tl E [x0,.v (.lst (cD cs)),x2,x3,.v (.int c),.v (.int L),.v (.int m),x7]):
  (aP (c6 5 (eC (.int 40)))
 (aP (gM (aV (aQ EJ (gD EH (aA (aE 1) aG)) (eC (.int 8)))) (c6 5 (eC (.int 12))) bH)
 (aP (c6 6 (aQ gO (aE 4) (aQ dJ (aE 5) (eC (.int 1)))))
 (aP (gM (qZ (aV (aQ lB (aE 5) (eC (.int 40)))) (aV (aQ lB (aQ gO (aQ lX (aE 4) (eC (.int 41))) (eC (.int 8))) (eC (.int 3))))) (aP (c6 5 (eC (.int 70)))
 (c6 6 (aQ dJ (eC (.int 41)) (aQ gO (aQ lX (aE 4) (eC (.int 328))) (eC (.int 30)))))) bH) tl)))) E [x0,.v (.lst (cD cs)),x2,x3,.v (.int c),x5,x6,x7]:=by
 ac_nf;refine⟨cs.map λc:Nat=>(c:Int),by rw[ja];rfl,?_⟩;rw[RI];refine gQ (λe=>?_) λe=>?_
 ·have l:BS cs.sum=12:=by unfold BS;rw[a0G ⋯]
  obtain⟨m,em,hm⟩:∃m:Nat,c % 13=m/\m<=12:=⟨(c % 13).toNat,⋯,⋯⟩;rw[em];exact h 12 m ⋯ hm ⋯
 ·have l:BS cs.sum=70:=by unfold BS;rw[a0h ⋯]
  obtain⟨m,em,hm⟩:∃m:Nat,c % 41=m/\m<=40:=⟨(c % 41).toNat,⋯,⋯⟩;obtain⟨m2,em2,hm2⟩:∃m:Nat,41+c / 328 % 30=m/\m<=70:=⟨(41+c / 328 % 30).toNat,⋯,⋯⟩;rw[em,em2];refine gQ (λ_=>?_) λ_=>?_
  ·exact h 70 m2 ⋯ hm2 ⋯
  ·exact h 40 m ⋯ hm ⋯
variable {L:Nat}
theorem Uj(D:Rd ks)(hL:L<=70)(h:∀W:List (List Ti),W.Pairwise (λa b=>pS a b=ak)->(∀f∈W,Rc ks f)->W≠[]->W.length<=1000->(W.length<=L -> ∀f,Rc ks f->f∈W)->tl E [x0,x1,.v (.lst (cC ks)),x3,x4,.v (.int L),x6,.v (.lst (cJ W))]):
  (aP (c6 7 (aU kR (aA (aE 2) (aA (aU t0 (aA (aE 2) aG)) (aA (aE 5) aG))))) tl) E [x0,x1,.v (.lst (cC ks)),x3,x4,.v (.int L),x6,x7]:=by
 ac_nf;refine⟨ks,rfl,D.n12,D.mo,?_⟩;ac_nf;refine⟨ks,L,rfl,D,hL,λW so rc ne wl al=>?_⟩;ac_nf;exact h W so rc ne wl al
theorem Uk{c:Int}{m:Nat}(h1:L=70->W.length<=40 -> ∀m2:Nat,m2<=300->tl E [x0,x1,x2,x3,.v (.int c),.v (.int L),.v (.int m2),.v (.lst (cJ W))])(h2:tl E [x0,x1,x2,x3,.v (.int c),.v (.int L),.v (.int m),.v (.lst (cJ W))]):
  (aP (gM (qZ (aV (aQ lB (aE 5) (eC (.int 70)))) (aV (aQ Mr (gD fO (aA (aE 7) aG)) (eC (.int 40))))) (c6 6 (aQ dJ (eC (.int 41)) (aQ gO (aQ lX (aE 4) (eC (.int 328))) (eC (.int 260))))) bH) tl) E [x0,x1,x2,x3,.v (.int c),.v (.int L),.v (.int m),.v (.lst (cJ W))]:=by
 obtain⟨m2,em2,hm2⟩:∃m:Nat,41+c / 328 % 260=m/\m<=300:=⟨(41+c / 328 % 260).toNat,⋯,⋯⟩;push_cast [bf];rw[em2];exact gQ (λe=>gQ (λe2=>h1 ⋯ ⋯ m2 hm2) λ_=>h2) λ_=>h2
theorem Rq:∀ds Q,spLaw ds Q->Iu nV mT mR t4 t0 kR (mP C) (rR C) (pE C) ↥Q (aN q1g ds):=by
 rintro ds Q ⟨ns,rfl,hl,q⟩;refine Uo λcs hc=>Um hc λrows c hk=>Ul λL m lL mL l7=>?_;have D:=CU hc;have l70:BS cs.sum<=70:=by unfold BS;split<;>ac_rfl
 refine Uj D ⋯ λW so rc ne wl al=>?_;have wp:1<=W.length:=List.length_pos_iff.mpr ne;have Dk:Rd (aK rows):=by rw[hk];exact D
 have rck:∀f∈W,Rc (aK rows) f:=by rw[hk];exact rc
 have nd:=EY so;have a0J:∀(m:Nat),m<=300->Du cs W m->(aP (gM (lC (jM (aU (mP C) (aA (aE 3) (aA (aE 1) (aA (aE 7) (aA (aE 6) aG))))))) (c8 (eC (.bl am))) bH)
 (aP (gM (aV (aQ EJ (gD fO (aA (aE 7) aG)) (aE 5))) (c8 (aU (rR C) (aA (aE 3) (aA (aE 5) aG)))) bH)
 (c8 (oP (aU (mP C) (aA (aE 3) (aA (aE 1) (aA (aE 7) (aA (gD fO (aA (aE 7) aG)) aG))))) (aU (rR C) (aA (aE 3) (aA (aQ tN (gD fO (aA (aE 7) aG)) (eC (.int 1))) aG))))))) ↥Q [.v (.scr ns),.v (.lst (cD cs)),.v (.lst (cC (aR 0 cs))),.v (bL C rows),.v (.int c),.v (.int L),.v (.int m),.v (.lst (cJ W))]:=λm hm U=>by
  ac_nf;refine⟨rows,cs,W,m,rfl,hc,hk,hm,U,?_⟩;push_cast [bf];refine gQ (λe=>?_) λe=>?_
  ·refine⟨rows,L,rfl,Dk,⋯,⟨W,nd,rck,⋯⟩,?_⟩;ac_nf;exact q
  ·refine⟨rows,cs,W,W.length,rfl,hc,hk,⋯,⟨so,rc,λ_=>al ⋯,λ_=>by ac_rfl⟩,?_⟩;ac_nf;refine⟨rows,W.length-1,by rw[show ((W.length-1:Nat):Int)=(W.length:Int)-1 by ac_rfl],Dk,⋯,⟨W,nd,rck,⋯⟩,?_⟩;ac_nf;exact q
 refine Uk (λe1 e2 m2 hm2=>a0J m2 hm2 ⟨so,rc,λ_=>al ⋯,λ_=>by ac_rfl⟩) ?_;exact a0J m ⋯ ⟨so,rc,λh=>al ⋯,λh=>by ac_rfl⟩
end _W
namespace _W
open _L _Z
theorem law_start(hl:ns.length<=63)(hO:M4 H)(hS:g6 K H a (ns.map V.int)):low K spLaw [.ref a] H (λv _=>v=.bl ak) (λ_ _ _=>False):=
 Gc (λQ q=>⟨ns,rfl,hl,q⟩) hO (λP q z=>nomatch z.1) hS
theorem Vi(h:us.length=1):∃a0,us=[a0]:=by
 cases us with
 |nil=>cases h
 |cons a r=>obtain⟨rfl⟩:=List.length_eq_zero_iff.mp (Nat.succ.inj h);exact⟨a,rfl⟩
theorem Qq{fa:af}(F:FX K mg fa):∃fd:ko,(∀(s:aj) (v:ah),X6 s fd ⟨[v],[]⟩ [("_law_script",v)]) /\ ∀base:eh,K.In base->base.Ns jt mg->FnOk P w K mg base CF 10 fa fd q1h ((low K spLaw)):=by
 obtain@⟨C,hfa,od0,an0,sl0,oc0,kV0,dc0,pm0,cd0,ct0,f0,eL,iE,lP,iF,g5,jS,eZ,aS,jR,jP,jQ,aC,m1,m2,m3,m4,cl,mk,kc,kF,uY,m5,m6,m7,m8,m9,m10,m11,m12,m13,m14,m15,m16,m17,m18,m19,m20,m21,m22,m23,m24,m25,m26,m27,m28,m29,m30,m31,m32,m33,m34,m35,m36,m37,m38,m39,m40,m41,m42,m43,a0,l0,c0,k0,gJ,iH,nN,iI,nL,FB,A7,uG,Ak,oU,A6,aO,bZ,rL,b4,cX,A5,bU,A4,oF,v6,Bk,v7,sJ,yN,pX,gC,yM,yK,yL,rq_TooMany,x_TooMany_SlantError,ic1,ic2,ic7,ic8,ic3,ic4,ic5,ic6,kq_NoSides,kq_NoRow,kq_NoFloor,kq_NoThrees,kq_NoFlip,kq_NoHeights,kq_TooMany,kq_NoHold,kq_NoTurn,kq_NoText,kq_V⟩:=F
 have e:=hfa.symm.trans a0;cases e;have F0:=Bd (st:=(top 64)) l0 c0 k0;have uT:F7 K aS:=rq_TooMany;have ci:ExcI K aS:=⟨ic1,ic2,ic7,ic8,ic3,ic4,ic5,ic6⟩;refine⟨xy "law" "law" (kH (top 64)) (eK (top 64)) (aM (top 64)) .none kV0 dc0 pm0 an0 cd0 ct0,λs v=>.of_eq rfl,λbase _ _=>?_⟩;have mI:IAt K mg "Sides" C "Sides.__init__" (gB (top 47) 0) q0p:=m1.ini aC mk kc;have fV:=Bl P w mg base m5.at cX bU Kc vP;have nA:=IA P w mg base m6.at  Eg Jj;have Bv:=Lh P w mg base m9.at b4 Hj Mq;have jE:=yQ P w mg base m15.at fV KI Q7 zG;have gY:=vA P w mg base m16.at fV KI Q8 w6;have eE:=v9 P w mg base m17.at jE SB gY SC Q6 w5;have sP:=DT P w mg base m22.at aO A6 uG NN EE;have hX:=r6 P w mg base m23.at aO bU bZ A7 sP Pw Hf rW;have iT:=sM P w mg base m24.at FB iI G4 tL;have pY:=Bm P w mg base m25.at  G4 Ce;have pZ:=Bn P w mg base m26.at  Kf Cg;have iU:=sN P w mg base m27.at hX KL iT KO pY KO Kl tM;have i5:=r8 P w mg base m28.at aO rL bZ A5 A4 gJ iH nN iU NA pZ N5 NQ rX;have Bw:=Nm P w mg base mI oU bU cl kF uY i5 Py Hh Pf;have j9:=Nk P w mg base m2.at bZ cl kF Kd Pd;have eV:=Nl P w mg base m3.at cl kF Kg Pe;have dD:=wD P w mg base m8.at cl eV dG NR xT;have iS:=sL P w mg base m10.at cl eV dG Hl tK;have qB:=Bt P w mg base m11.at A4 bZ dD KP Eh Cn;have sQ:=DU P w mg base m13.at dD KP NO EF;have qN:=Lg P w mg base m4.at b4 cl j9 gA eV dG Hi Mp;have iR:=Hz P w mg base m7.at b4 cl qN n9 j9 gA eV dG EZ Ji;have l6:=wE P w mg base m12.at cl iR g9 Bv y9 iS KR qB HY j9 gA Kk xU;have sR:=DV P w mg base m14.at b4 bU cl l6 N9 sQ Px qN n9 j9 gA QB EG;have qC:=Bu P w mg base m18.at nA kM iR g9 eE OE Q9 Co;have vC:=Ew P w mg base m19.at cX iR g9 nA kM eE OE Kh Gx;have Li:=Qe P w mg base m20.at sR SE NL Rp;have jF:=yU P w mg base m21.at bU bZ cX gC uT Li ER qC SD vC N6 Km zK;have kI:=jF.calm;have kZ:=DS P w mg base m29.at bZ b4 Kj ED;have jN:=Bo P w mg base m30.at aO A6 uG Eb Ch;have sO:=DR P w mg base m31.at bZ b4 Ki EC;have q8:=Bq P w mg base m32.at bZ b4 Ec Cj;have vB:=Ev P w mg base m33.at bZ b4 bU Ke Gw;have qA:=Bs P w mg base m34.at aO nL sJ v7 Bk v6 yM gC pX yN yL yK Hk (Cm ci kq_NoThrees kq_NoFloor kq_NoRow kq_NoSides kq_NoHold kq_TooMany kq_NoHeights kq_NoFlip kq_NoText kq_NoTurn kq_V);have oG:=zS P w mg base m35.at b4 Ea BB;have oI:=zU P w mg base m36.at oG HR Ef BD;have i9:=Eu P w mg base m37.at cX bU Kc Gv;have q9:=Br P w mg base m38.at bZ b4 Ak cX i9 KI Ed Ck;have mB:=yS P w mg base m39.at bU bZ cX q9 HV DE zI;have eM:=yR P w mg base m40.at aO oF x_TooMany_SlantError gC jF G1 qA KQ NK (zH ci kq_TooMany);have oH:=zT P w mg base m41.at aO rL bU bZ A7 jN HS Ee BC;have mC:=yT P w mg base m42.at bZ b4 DG zJ;have lK:=Bp P w mg base m43.at bZ eM KN kI G1.calm oH HW mC EU He Ci;exact Qf P w mg base F0 A5 bZ kZ N8 oI HX q8 HU sO N7 vB N4 mB EQ lK KJ eM KN Bw KM NM Rq
theorem walk{l:PySem.W.OpenLaw}{q:bj}{loose:List bq}{XP:(bq->Option ah)->eh->Prop}{YP:df->eh->Prop}{d:DefRec}{K:ZY->aq}(hn:l.most=ae 63)(hdf:d.params.defaults=[])
  (hY:∀(w:df) (h:eh),YP w h->(K w.params).In h)
  (F:∀(w:df) (mg:bq->Option ah) (fa:af) (h:eh),(K w.params).In h->h.Ns jt mg->mg d.name=ae (.ref fa)->FX (K w.params) mg fa):
  PySem.W.WalkO q loose XP YP l.row.toRowW d [] (λf vs=>PySem.call f vs):=
 _L.MD (n:=63) (k:=10) (x:="_law_script") (CX:=λ_=>CF) (sp:=λw=>(low (K w.params) spLaw)) hn ∅ hdf ⟨rfl,by decide,by decide⟩ hY (λw mg fa h a b c=>Qq (F w mg fa h a b c)) (λ_ H a ns hl hO hS=>law_start hl hO hS) λ_ _ _ _ _ z=>z
end _W
theorem PySem.Challenge.cw_slantfloor_k65_whole_all_floors_holds : PySem.Challenge.rw_slantfloor_k65_whole_all_floors.Holds :=
 _W.early λhd hY F=>_W.walk (l:=oy) rfl hd hY F

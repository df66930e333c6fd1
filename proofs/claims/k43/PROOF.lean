import PyProof.Rows.All
import Lean
import Wide.FinOn
import OpenK.KOwn
import KE.KNest
import KE.RegKIsAll
import KE.RegKTryMore
import PyProof.EqAt
import PyProof.EqKinds
import PyProof.TupleCall
import PyProof.NeKinds
import PyProof.NeData
import PyProof.EqLayable
import PyProof.ZipIter
import PyProof.EnumMake
import KE.LcSums
import PyProof.CompFree
import PyProof.ListRange
import PyProof.Rows.Range3
import PyProof.TupleOfSeq
import KE.KSortTup
import PyProof.Rows.TupAdd
import PyProof.DictWalks
import PyProof.AutoListH
import PyProof.StrWalks
import PyProof.SliceStr2
import PyProof.StrBlock2
import PyProof.StrLaws
import PyProof.StrCalls
import PyProof.CallStr
import KE.KIntText
import KE.KDictSum
import PyProof.Rows.SetFrom
import PyProof.SetRoads
import PyProof.Rows.StrInSeq3
import PyProof.Rows.CountFlat
import PyProof.InstStoreFacts
import PyProof.ExcInit
import PyProof.ExcArgsOwn
import PyProof.Rows.FStr
import Open.Boot
import Open.Tree
import PySem.Challenge.RW_slantfloor_k43_whole_sets_of_threes
open Option renaming some->aa,none->ar,isSome_iff_exists->zh,map_eq_some_iff->Vz,isSome_some->WE,getD_some->YO,map_some->Zi
open PySem renaming wpAny_bind->ae,Addr->af,Value->ah,Shared->ai,wpAny_pure->ak,starEach->av,Program->ay,wpAny->bu,sizeLine->bv,Str->bw,World->bz,model->cf,Around->dj,Heap->dq,compareOp->fv,boot_len->fx,wpAny_field->fz,wpAny_call_entry->gf,wpAny_callSpecial?_slot->gm,eval->gn,wpAny_mono->gv,mem_of_lookup->ig,wpAny_newObj_type->ik,wpAny_truthy_bool->io,foldedSetIterable->iq,backTo->iu,swapsWith->ix,relabel->ja,wpAny_holding->jf,sysModules->jj,wpAny_isInstance->jm,mainGlobals->jq,Obj->jv,cLine->jx,FuncData->jy,sizeLine_eq->ke,Stmt->kh,binaryOp->ku,DictEntry->lj,Pos->lv,wpAny_attempt->lx,wpAny_typeNameOfWhole_keyiter->md,wpAny_rule->mf,wpAny_setField->nj,wpAny_Call_Name_kw->nr,bootBuiltins->oy,wpAny_seqItems->qh,codeAny_mono->qz,attributeBase->rq,rawInt->sh,Builtin->sr,wpAny_dictEntries->ss,pyNext->sv,isSubtype_stop->sw,keywordEach->sx,behindInMarks->uj,wpAny_passesOwn->uk,wpAny_specialOf->uq,slot_listiter_next->ur,tupleKind_room_in1->ut,IsRangeIter->uw,sliceBounds->ux,isSubtype_tuple_tuple->vq,wpAny_eqBool_int->wb,assignEach->we,closureFor->wf,NameKind->wp,wpAny_execs_nil->wr,letOwnedTupleGo->wt,isInstance->xq,wpAny_setField_rec->xr,wpAny_call->xx,backToKw->xz,wpAny_tupleItemsOf->yh,Thread->yw,Env->za,hashInt->zd,codeAny->zf,Keyword->zg,eqIsQuiet_byValue->zk,wpAny_newList->V0,noteFrame->V3,wpAny_pyHash_int->V4,tupleKind->V5,GenState->V6,wpAny_execs_cons->V7,getMethod->V8,wpAny_pyNext_list_item->Vl,wpAny_pyIter_rangeiter->Vp,wpAny_Assign_Subscript->Vt,reduceHash->Vu,Model->Vy,wpAny_dictEpoch->VB,size_of_entries->VC,codeAny_builtin->VD,importedModules->VE,wpAny_pyIter_listiter->VG,wpAny_isOneOf_keyiter->VH,wpAny_notOrdered_dict->VI,field->VQ,wpAny_loadName_local->VS,wpAny_Expr_any->VT,Operator->VU,carriedByValue->W0,wpAny_pyIter_keyiter->W3,codeAny_call_builtin->W4,inplaceOp->We,callerA->Wf,valueAt->Wg,entry_listiter_next->Wj,wpAny_loadName_cell->Wk,atKey->Wr,args_listiter_next->Wy,wpAny_pyIter_range->Wz,IsPart->WC,call_meets->WD,wpAny_setItem_heap->WF,Within->WK,wpAny_assign_Name->WN,standAt->WO,holding->WP,BindsTo->WS,getItem->WT,slot_list_getitem->WU,wpAny_pyIter_enum->WV,wpAny_pyIter_list->WW,Sem->X8,lastMarks->Xc,typeOf->Xi,wpAny_pyIter_zip->Xj,wpAny_Dict_empty->Xk,eqIsQuiet->Xl,checkBuiltinCall->Xr,treeTable->Xy,CmpOp->XC,subscripted->XE,leaving->Y0,intKind->Y1,OsState->Y2,wpAny_load->Y5,firstArgMember->Y6,IsPair->Y7,builtinsNs->Y8,wpAny_Name->Y9,assign->Yb,wpAny_loadPart->Yd,recursionLimit->Ye,callWith->Yg,bindL->Yh,bindC->Yi,typeIs_int->Yl,ReadsAll->Ym,wpAny_newTuple->Yo,wpAny_fieldsOf->Yr,setFlight->YD,seqItems?->YE,Drawn->YF,storeName->YG,cellsFrom->YI,Reads->YL,rule->YS,Result->YT,Params->YW,storedH->YY,PyData->Z0,setField->Z6,raiseNew->Z7,ZipApart->Z8,intItems->Z9,again->Ze,bindArgs->Zf,compPost->Zh,HeapKind->Zj,pyIter->Zr,denote->Zx,IsZip->Zy,Tok->ZD
open Bool renaming true->aj,false->ao,and_eq_true->dt,false_eq_true->eo,false_ne_true->jl,true_and->wn,eq_iff_iff->wy,false_and->xu,false_or->Ux,not_true->Uy,and_false->VZ,decide_or->Wc,not_eq_true'->X5,true_or->YX
open PySem.W renaming Frag->ap,findIn->jr,kia_one->ot,keepIn->qi,emptyDict->qx,kitOne->rg,instObj->wd,Looks->wl,callWith_K->xi,looks_findIn->xw,fnOf->zu,specialIn->VV,codeIn->VW,hideAll->Wd,plainGet_of->Wp,looks_mroIn->Wt,plainGet->WB,of_hideAll->WL,mroIn->WQ,exmOne->X3,makesIn->Xd,takesIn->Xf,cellsFrom_some->Xg,isClsIn->Xq,methodObj->XB,hasDictIn->XD,methodCall_KW->XM,lookIn->Yc,hideAll_get->YC,takerIn->YH,isFn->Zs,excIn->ZB
open PySem.Heap renaming get?_push_of_some->aq,lt_size->bg,get?_push_size->cm,get?_update_other->fc,get?_update_self->og,SameBut->oz,size_push->vd,ExtBut->wo,get?_update_ne->xc,size_update->Vc,MadeExcOf->Ys
open List renaming getElem?_eq_getElem->au,replicate->aw,length_map->bf,getElem?_append_left->bh,getElem?_append_right->bo,getElem?_eq_some_iff->cg,length_cons->cj,mem_iff_getElem->cp,pairwise_iff_getElem->da,map_cons->de,getD->df,mem_cons_of_mem->dg,getElem?_map->dh,mem_cons_self->dk,mem_cons->dm,append_assoc->dw,length_take->ef,length_append->eg,mem_append_right->eh,mem_singleton->fe,mem_of_getElem?->fh,size_toArray->fk,mem_append->fm,getElem_take->fq,getElem_mem->fw,getD_eq_getElem?_getD->fy,getElem?_set_ne->gc,eq_of_mem_replicate->gp,mem_append_left->gr,nil_append->gw,drop_eq_getElem_cons->gx,range->gy,append_nil->ic,getElem?_take_of_lt->ie,pairwise_map->ir,pairwise_cons->iz,mem_map->jh,getElem?_replicate->jt,map_map->ju,getElem?_set_self->jw,cons_append->kf,getElem?_eq_none->lf,Nodup->lr,mem_or_eq_of_mem_set->ma,length_replicate->nh,replicate_succ->ny,nodup_iff_pairwise_ne->oa,pairwise_append->ou,take_of_length_le->pf,reverse_perm->pq,take_succ_eq_append_getElem->pz,flatten_replicate_singleton->qa,getElem?_cons_zero->qj,mem_iff_getElem?->qk,perm_append_comm->qv,take_append_of_le_length->qy,ext_getElem?->rd,mem_singleton_self->re,dropLast_concat_getLast->ri,mem_of_mem_take->rm,take_length_add_append->su,not_mem_nil->tf,any_cons->tj,map_congr_left->tu,take_append_drop->uc,getElem?_drop->uv,drop_length->uy,getElem?_cons_succ->va,filter_cons_of_pos->vb,filter_cons_of_neg->vc,flatten_cons->ve,find?_cons_of_pos->vg,find?_cons_of_neg->vh,nodup_append->vj,mem_map_of_mem->vm,filter_eq_nil_iff->vo,pairwise_reverse->vw,getElem?_toArray->vx,length_filter_le->vy,singleton_append->wa,find?_cons->wg,filterMap_cons->wz,drop_sublist->xk,mem_range->xm,mem_filterMap->xv,nodup_cons->ya,length_nil->yg,map_append->yi,take_succ_cons->yr,perm_ext_iff_of_nodup->yt,mem_of_find?_eq_some->yz,any_eq_false->ze,take_sublist->zi,map_nil->zj,all_eq_true->zl,mem_of_mem_eraseIdx->V1,filter_append->V2,length_eq_zero_iff->Vb,length_eraseIdx_le->Vh,pairwise_mergeSort->Vi,sum_cons->Vj,forIn_cons->Vk,mem_filter->Vo,foldl->Vr,toArray->Vv,drop_of_length_le->Vw,eraseIdx_sublist->VL,pairwise_flatMap->VO,length_drop->VX,mem_of_mem_drop->W6,reverse_reverse->Wa,mergeSort_perm->Wm,filter_eq_self->Wn,flatMap_append->Wo,find?_eq_none->WH,map_take->X0,length_range->X1,zipWith->X2,flatMap_cons->X6,forIn_nil->Xa,getElem_inj->Xb,filter_cons->Xs,mem_flatMap->Xu,zipIdx_cons->Xz,lookup_cons->XG,nodup_range->XH,zipIdx_nil->XJ,foldl_cons->XQ,range_succ->XU,find?_some->XZ,of_mem_zip->Yj,take_left->Yv,nodup_nil->YK,drop_drop->YN,all_cons->Zk,map_drop->Zl,range'->Zp
open PyProof.Rows renaming wpS_bind->az,wpS_pure->bq,pendingOf->cr,wpS_forRange->gh,callWith_type1->ip,SortSt->iw,wpS_mono->lh,wpS_modify->lq,kindOf->mj,slot_tuple_getitem->qe,seqObj->qo,Keyed->qp,SortKind->rj,envOfC->sy,getElem?_mirror_all->ug,IntsAre->uo,arrOf->uz,failedOf->vi,wpS_get->vk,getElem?_bubble->ww,AllBare->xh,boot_tuple->yq,boot_sorted->zp,listUpdate_at->Uz,wpS_lift->Vg,subscriptTail_builtinR->Vq,boot_isinstance->VA,seqEpoch_at->W1,boot_list->Wh,subscriptTail->Wq,boot_range->WA,cnt->X9,callWith_builtin1->Xh,bubble->Xm,get?_update_seq->XV,list_sort_plain->XW,entry_list_sort->XY,wpS->Y3,slicePart_none->Yk,sortedHeap->Yn,slot_list_sort->Yp,args_list_sort->Yq,mirror->Yt,mergeAt'->Zm,gallopOf->Zn,setArr->Zv,Call_->Zz
open Int renaming toNat_natCast->br,lt_or_eq_of_le->qw,emod_lt_of_pos->vn,toNat_of_nonneg->xg,le_refl->zq,emod_nonneg->zt,le_of_lt->Vx,lt_or_gt_of_ne->WG,ofNat_lt->X7,mul_nonneg->Yw,mul_le_mul->Yx,natAbs_pow->Yz,sub_zero->Z2,le_trans->Z5,one_mul->Za,mul_one->Zd,lt_trans->Zo
open Nat renaming le_refl->bt,add_sub_cancel_left->di,lt_of_lt_of_le->fj,ne_of_lt->gq,le_trans->ly,mul_le_mul->my,le_of_not_lt->ng,add_assoc->ni,zero_le->oj,min_eq_left->pi,lt_irrefl->qg,zero_add->rn,lt_trichotomy->sd,lt_or_gt_of_ne->tw,le_of_ble_eq_true->vz,add_comm->ye,lt_of_le_of_lt->yf,add_zero->yp,add_mul_mod_self_right->yv,le_succ->zc,add_mul->zr,succ_mul->V9,le_add_right->Vs,add_mul_div_right->VN,ne_of_gt->VP,not_succ_lt_self->W2,lt_or_ge->W9,mul_le_mul_right->Wb,le_of_lt->WM,lt_succ_of_lt->WX,lt_of_succ_lt->WY,lt_succ_self->Xe,min_eq_right->Xo,div_eq_of_lt->Xv,mod_eq_of_lt->Xw,mul_assoc->Xx,mul_add->Y4,zero_mul->Yy,le_of_eq->YU,mul_comm->YV,lt_trans->YZ,le_total->Z3,mod_lt->Zw,ble->ZC
open PySem.PassesOwn renaming never->cq,leaving->zo
open PySem.Builtin.Range renaming rangeSize->fg,small->xa
open PySem.Value renaming none->gg,bool->Vn,isInt->VR,builtin->Ws,float->XA,isStrOf->YB,bytes->Zb,type->Zq
open False renaming elim->ii
open PySem.Str renaming ofString->im
open PySem.PyData renaming eqv->jb,eqvAll->jg,depthAll->mv,canLayAll0->ph,canLay0->qm
open Sum renaming inl->jc,inr->Vm
open Option.some renaming injEq->jd
open Array renaming getElem?_toList->je,getElem?_eq_some_iff->nq,getElem?_eq_getElem->uf,length_toList->ui,ext_getElem?->uu,getElem?_setIfInBounds_ne->vp,getD_eq_getD_getElem?->xj,perm_iff_toList_perm->yj,getD->yk,forIn_toList->WZ,toList_inj->Xn,toList->YR
open PySem.F renaming slot_dict_keyiterator_next->ji,slot_tuple_hash->vf,args_dict_keyiterator_next_1->wj,entry_dict_keyiterator_next->wq,slot_tuple_eq->wv,slot_tuple_iterator_next->xo,slot_range_iterator_next->xp,plainAttrs_list->Va,attr_ValueError->Ve,plain_list_iadd->Vf,slot_enumerate_next->VF,slot_dict_pop->VM,slot_dict_iter->Xp,slot_zip_next->XI,slot_int_rmul->XR
open Pure renaming pure->jo
open PySem.Builtin.Tuple renaming tupleHashOf->kg,tupleExact->qc,tupleItemsOf->yc
open True renaming intro->mh
open PySem.Challenge renaming pw_slantfloor_k43_whole_sets_of_threes->mw,rw_slantfloor_k43_whole_sets_of_threes->nc
open PySem.Builtin.SmallTypes renaming nextOf->om,ownedTupleIsFree->uh
open PySem.Builtin.Slice renaming slicePlaces->oo,sliceAdjust->ue,sliceApplied->yb,slicePartIndex->XO,sliceFields->YA
open Classical renaming byContradiction->oq,em->X4
open PySem.Obj renaming mapFields->qb,isFreed_of_fields->sk,data_mapFields->xn,mapSeq->yd,cls_mapFields->zb,data_mapDictKeys->W8
open PySem.Builtin.List renaming listTooLong->qd,listUpdate->Vd
open ForInStep renaming yield->rh
open List.cons renaming injEq->wu
open PySem.Builtin.Dict_items renaming ownsTuple->wx
open PySem.Heap.SameBut renaming update->xf
open PySem.Calls renaming Name_function_global->xt,call_function_entry->yx,evalArgs_plain->VY
open PyProof.Rows.SortSt renaming mk'->yo
open PySem.Builtin.Dict renaming dictSlotNone->yy,showsAll->VJ,takeOut->W7,keyAndDefault->Yu
open PyProof renaming noPylong_of_log2->zw
open PySem.Around renaming under_plainId->W5
open PySem.EntryCells renaming newEntry->Wi
open PySem.Builtin.Int renaming intBits->Wl
open Prod.mk renaming injEq->Wu
open PySem.W.Fast renaming te10156331382660048174->Wv,te11892475500146522536->Ww,te14364793385576792824->Wx,te6613529449190102663->WI,te4187177175401517315->WJ
open PySem.Code renaming isFrame->WR
open StateT renaming run_pure->XX
open LawfulBEq renaming eq_of_beq->YJ
open PySem.Expr renaming Name->YM
open And renaming intro->YQ
open PySem.SeqAt renaming shaped->Z1
open PySem.W.KF renaming slot_gs->Z4
open PySem.Data renaming fields->Zc
open PySem.SeqAt.Reads renaming unique->Zt
open PySem.W.Looks renaming ld->Zu
open ForIn renaming forIn->ZA
noncomputable abbrev Zg:=@if_neg
noncomputable abbrev ZE:=@if_pos
local macro_rules | `(tactic| right)=>`(tactic| first | lia | omega)
local macro_rules | `(term| ⋯)=>`(by  right)
local macro_rules | `(term| ∅)=>`(by  decide)
local macro_rules | `(term| ↥$q)=>`({ nx:=λ_=>$q (.v .non),rt:=$q })
open List (map_id)
open Nat (log2_lt)
open Option (getD_none isSome_map)
open PySem PySem.Spec PyProof.Rows
noncomputable section
set_option Elab.async false
set_option linter.all false
set_option bootstrap.genMatcherCode false
set_option compiler.extract_closed false
set_option genSizeOf false
set_option genSizeOfSpec false
set_option maxRecDepth 100000
set_option maxHeartbeats 1000000
theorem Fz(_:True:=by first | exact .inl rfl | exact .inr rfl | assumption):True:=trivial
theorem lS(_:True:=by decide):True:=trivial
theorem c8(_:True:=by rfl):True:=trivial
theorem G3(_:True:=by intro _;rfl):True:=trivial
theorem Q9(_:True:=by with_unfolding_all rfl):True:=trivial
theorem Db(_:True:=by decide +kernel):True:=trivial
theorem To(_:True:=by first | exact nomark _ | rfl):True:=trivial
theorem UP(_:True:=by intro _ _;rfl):True:=trivial
variable {base h:dq}{e tg:Expr}{i n:Nat}{A:dj}{a b f C:af}{α:Type}{u:ah}{P prog:ay}{w:bz}{N ps:List bw}{E:ah->ai->Prop}{s:ai}{pk:List (af×jv)}{K:ap}{es:List Expr}{p:lv}{mg:bw->Option ah}{outer:List za}{ZG:bw}{ZF:Scope}
namespace L2
structure Like(o oe:jv):Prop where
  cls:oe.cls=o.cls
  dict:oe.dict=o.dict
  fl:∃us vs,o.data=.fields us/\oe.data=.fields vs /\ ∀i,i≠1->vs[i]?=us[i]?
noncomputable def n6(o:jv):Prop:=∃us:Array ah,o.data=.fields us/\us[2]?=aa .none
variable {o oe:jv}
theorem Like.mild(k:Like o oe)(m:n6 o):n6 oe:=by
  obtain⟨us,d,q⟩:=m;obtain⟨us',vs,d',dv,i⟩:=k.fl;rw[d] at d';cases d';exact⟨vs,dv,(i 2 ∅).trans q⟩
theorem Like.rfl'{us:Array ah}(d:o.data=.fields us):Like o o:=⟨rfl,rfl,us,us,d,d,λ_ _=>rfl⟩
noncomputable def Tr(h base:dq)(e:af)(o:jv)(fl:ah):Prop:=
  ∃(oe:jv) (vs:Array ah) (T:af) (oT:jv) (ts:Array ah),h.get? e=aa oe/\Like o oe/\oe.data=.fields vs/\vs[1]?=aa (.ref T)/\base.get? T=ar/\T≠e/\h.get? T=aa oT/\oT.data=.fields ts/\ts[3]?=aa fl
structure Fly(base:dq)(l:List za)(e:af)(o:jv)(fl:ah)(h:dq):Prop where
  st:base.StaysIn h
  no:base.get? e=ar
  fr:h.FunFrames base l
  tr:Tr h base e o fl
theorem Fly.there{l:List za}{e:af}{fl:ah}(x:Fly base l e o fl h):∃oe,h.get? e=aa oe/\Like o oe:=by
  obtain⟨oe,_,_,_,_,g,k,_⟩:=x.tr;exact⟨oe,g,k⟩
theorem Fk{vs:Array ah}{v:ah}(d:o.data=.fields vs):(qb (·.setIfInBounds i v) o).data=.fields (vs.setIfInBounds i v):=xn d _
theorem Like.set{v:ah}(k:Like o oe):Like o (qb (·.setIfInBounds 1 v) oe):=by
  obtain⟨us,vs,d,dv,i⟩:=k.fl;refine⟨(zb ..).trans k.cls,?_,us,_,d,Fk dv,λj hj=>?_⟩
  . rw[<- k.dict];obtain⟨c0,d0,a0,s0⟩:=oe;cases dv;rfl
  . rw[vp (λz=>hj z.symm)];exact i j hj
variable {Q:Unit->ai->Prop}{M:Vy}{env:za}
section
variable {L e:af}
theorem yL{vs:Array ah}{head:ah}{had:Bool}(hfr:A.frames=aa (env::outer))(fr:s.heap.FunFrames base (env::outer))(hf:env.frame=aa L)(st:base.StaysIn s.heap)(no:base.get? e=ar)
    (g:s.heap.get? e=aa oe) (k:Like o oe) (d:oe.data=.fields vs) (hsz:1<vs.size) (q:∀h',Fly base (env::outer) e o (sh L) h'->s.heap.UpToSlots h'->Q () { s with heap:=h' }):
    bu M A (do let a <- frameOf env;let pl <- entryPlaceOf L had;let b <- Wi head a .none (sh L) .none pl;Z6 (.ref e) 1 b) Q E s:=by
  have nfr:e ∉ (env::outer).filterMap (·.frame):=λhm=>by
    obtain⟨_,o',g',nf⟩:=fr.mem hm;rw[g] at g';cases g';exact nf vs d
  refine ae (wpAny_frameOf_fun hfr fr hf λh1 ⟨_,same,slot⟩=>ae (wpAny_entryPlaceOf λpl hpl=>?_));unfold Wi newFields;refine ae (ik ?_ (hpl.sizeOk5 _ _ _ _ _));have h3:(([head,.ref L,.none,sh L,.none]++(if pl.isEmpty then aw 6 gg else pl)).toArray:Array ah)[3]?=aa (sh L):=by
    first | (simp;done) | (rcases hpl with rfl | ⟨_,_,_,_,_,_,_,rfl⟩<;>simp)
  generalize (([head,.ref L,.none,sh L,.none]++(if pl.isEmpty then aw 6 gg else pl)).toArray:Array ah)=ts at h3;generalize hob:({ cls:=.type "traceback",dict:=ar,data:=.fields ts }:jv)=ob;have g1:h1.get? e=aa oe:=(same e nfr).trans g;have gT:(h1.push ob).get? h1.objs.size=aa ob:=by
    subst hob;exact cm h1 rfl
  have ne:h1.objs.size≠e:=VP (bg g1);have st1:base.StaysIn h1:=λb u z=>(same b λhm=>by rw[(fr.mem hm).1] at z;cases z).trans (st b u z);have keep:∀b u,b≠e->h1.get? b=aa u->((h1.push ob).update e (qb (·.setIfInBounds 1 (.ref h1.objs.size)))).get? b=aa u:=λb u hb z=>
    (fc _ _ (Ne.symm hb)).trans (aq _ z)
  have rec':∀b u,s.heap.get? b=aa u->(∀us,u.data ≠ .fields us)->b≠e:=λb u z nf q=>by
    rw[q,g] at z;cases z;exact nf vs d
  refine nj (aq _ g1) d hsz (q _ ⟨λb u z=>keep b u (λq=>by rw[q,no] at z;cases z) (st1 b u z),no,fr.of_keeps λb u z nf=>?_,?_⟩ λb u z nf=>?_)
  . obtain⟨sl,z'⟩:=slot b u z;exact⟨_,keep b _ (rec' b u z nf) z',rfl⟩
  . refine⟨_,_,h1.objs.size,ob,ts,og _ (aq _ g1) (sk (Fk d)),k.set,Fk d,by simp[hsz],st1.fresh,ne,?_,by rw[<- hob],h3⟩;exact(fc _ _ (Ne.symm ne)).trans gT
  . obtain⟨sl,z'⟩:=slot b u z;exact⟨sl,keep b _ (rec' b u z nf) z'⟩
theorem Fc{us:Array ah}(hfr:A.frames=aa (env::outer))(fr:s.heap.FunFrames base (env::outer))(hf:env.frame=aa L)(st:base.StaysIn s.heap)(no:base.get? e=ar)
    (g:s.heap.get? e=aa o) (d:o.data=.fields us) (n1:us[1]?=aa .none) (q:∀h',Fly base (env::outer) e o (sh L) h'->s.heap.UpToSlots h'->Q () { s with heap:=h' }):bu M A (V3 (.ref e) env) Q E s:=by
  unfold V3;simp only[hf];refine ae (fz g d n1 ?_);rw[Zg ∅];exact yL hfr fr hf st no g (Like.rfl' d) d (nq.mp n1).1 q
theorem Bv(hfr:A.frames=aa (env::outer))(hf:env.frame=aa L)(x:Fly base (env::outer) e o .none s.heap)
    (q:∀h',Fly base (env::outer) e o (sh L) h'->s.heap.UpToSlots h'->Q () { s with heap:=h' }):bu M A (V3 (.ref e) env) Q E s:=by
  obtain⟨st,no,fr,oe,vs,T,oT,ts,g,k,d,n1,nT,ne,gT,dT,n3⟩:=x;unfold V3;simp only[hf];refine ae (fz g d n1 ?_);rw[ZE (show (Value.ref T != gg)=aj by simp)];refine ae (fz gT dT n3 ?_);rw[Zg (show ¬((gg==sh L)=aj) by simp[sh])];have oth:∀b,b≠T->(s.heap.update T (qb (·.setIfInBounds 3 gg))).get? b=s.heap.get? b:=λb hb=>fc _ _ (Ne.symm hb);have rec':∀b u,s.heap.get? b=aa u->(∀us,u.data ≠ .fields us)->b≠T:=λb u z nf q=>by
    rw[q,gT] at z;cases z;exact nf ts dT
  refine ae (nj gT dT (nq.mp n3).1 (yL hfr (fr.of_keeps λb u z nf=>⟨u,(oth b (rec' b u z nf)).trans z,rfl⟩) hf (λb u z=>(oth b λq=>by rw[q,nT] at z;cases z).trans (st b u z)) no ((oth e (Ne.symm ne)).trans g) k d (nq.mp n1).1 λh' x' u'=>q h' x' λb u z nf=>u' b u ((oth b (rec' b u z nf)).trans z) nf))
theorem pB{l:List za}{fl:ah}(x:Fly base l e o fl s.heap)(q:∀h',Fly base l e o .none h'->s.heap.UpToSlots h'->Q () { s with heap:=h' }):bu M A (YD (.ref e) ar) Q E s:=by
  obtain⟨st,no,fr,oe,vs,T,oT,ts,g,k,d,n1,nT,ne,gT,dT,n3⟩:=x;have z3:=(nq.mp n3).1;have oth:∀b,b≠T->(s.heap.update T (qb (·.setIfInBounds 3 ((ar:Option af).elim gg λf=>sh f)))).get? b=s.heap.get? b:=λb hb=>fc _ _ (Ne.symm hb);have rec':∀b u,s.heap.get? b=aa u->(∀us,u.data ≠ .fields us)->b≠T:=λb u z nf q=>by
    rw[q,gT] at z;cases z;exact nf ts dT
  unfold YD;refine ae (fz g d n1 ?_);rw[ZE (show (Value.ref T != gg)=aj by simp)];refine nj gT dT z3 (q _ ⟨λb u z=>(oth b λq=>by rw[q,nT] at z;cases z).trans (st b u z),no,fr.of_keeps λb u z nf=>⟨u,(oth b (rec' b u z nf)).trans z,rfl⟩,?_⟩ λb u z nf=>⟨u.slots,(oth b (rec' b u z nf)).trans z⟩);exact⟨oe,vs,T,_,_,(oth e (Ne.symm ne)).trans g,k,d,n1,nT,ne,og _ gT (sk (Fk dT)),Fk dT,by simp[z3]⟩
theorem IE{us:Array ah}(hfr:A.frames=aa (env::outer))(fr:s.heap.FunFrames base (env::outer))(hf:env.frame=aa L)(st:base.StaysIn s.heap)(no:base.get? e=ar)
    (g:s.heap.get? e=aa o) (d:o.data=.fields us) (n1:us[1]?=aa .none) (q:∀h',Fly base outer e o .none h'->s.heap.UpToSlots h'->Q () { s with heap:=h' }):bu M A (Y0 env (.ref e)) Q E s:=by
  unfold Y0;refine ae (Fc hfr fr hf st no g d n1 λh1 x1 u1=>pB x1 λh2 x2 u2=>q h2 ⟨x2.st,x2.no,?_,x2.tr⟩ (u1.trans u2));obtain⟨_,_,z⟩:=x2.fr;exact z
theorem N5(hfr:A.frames=aa (env::outer))(hf:env.frame=aa L)(x:Fly base (env::outer) e o .none s.heap)(q:∀h',Fly base outer e o .none h'->s.heap.UpToSlots h'->Q () { s with heap:=h' }):
    bu M A (Y0 env (.ref e)) Q E s:=by
  unfold Y0;refine ae (Bv hfr hf x λh1 x1 u1=>pB x1 λh2 x2 u2=>q h2 ⟨x2.st,x2.no,?_,x2.tr⟩ (u1.trans u2));obtain⟨_,_,z⟩:=x2.fr;exact z
end
noncomputable def Qu(A:dj)(h:dq):Prop:=A.handled=ar \/ ∃(a:af) (o:jv),A.handled=aa (.ref a)/\h.get? a=aa o/\n6 o
variable {h':dq}
theorem Qu.keeps(q:Qu A h)(k:∀b o,n6 o->h.get? b=aa o->h'.get? b=aa o):Qu A h':=by
  rcases q with q | ⟨a,o,e,g,m⟩
  . exact .inl q
  . exact .inr ⟨a,o,e,k a o m g,m⟩
theorem xC:entryFor table "proto.unchain" = aa sr.«proto.unchain» := entryFor_of_fast (by kernel_rfl)
variable {l it:af}{xs:Array ah}{lo:Int}
theorem yZ{e:ah}{Q:ah->ai->Prop}(g:s.heap.get? a=aa o)(m:n6 o)(q:Q .none s):bu (cf prog w) A (runValue (.builtin "proto.unchain" ⟨[e,.ref a,.ref a,.bool ao],[]⟩)) Q E s:=by
  obtain⟨us,d,n2⟩:=m;refine runValue_entry xC ?_;unfold sr.«proto.unchain»;dsimp only;refine ae (fz g d n2 ?_);rw[ZE ∅];exact ak ⟨_,rfl,q⟩
theorem Ep{us:Array ah}{Q:α->ai->Prop}(q:Qu A s.heap)(g:s.heap.get? a=aa o)(d:o.data=.fields us)(hz:2<us.size)(hm:∀v,A.handled=aa v->v ≠ .ref a)
    (h:∀h' o',(∀b u,b≠a->s.heap.get? b=aa u->h'.get? b=aa u)->h'.get? a=aa o'->o'.cls=o.cls->E (.ref a) { s with heap:=h' }):bu (cf prog w) A (Z7 (α:=α) (.ref a)) Q E s:=by
  simp only[Z7];refine ae (wpAny_handled ?_);rcases q with q | ⟨b,ob,q,gb,mb⟩
  . rw[q];exact ae (ak (wpAny_throw (h s.heap o (λ_ _ _ z=>z) g rfl)))
  . rw[q];have ne:b≠a:=λz=>hm _ q (by rw[z]);dsimp only;rw[ZE (show (Value.ref b != Value.ref a)=aj by simpa using ne)];refine ae (jf (yZ gb mb (ae ?_)));unfold updateField;refine ae (Y5 g ?_);rw[d];dsimp only;rw[ZE hz];refine wpAny_update g (wpAny_throw (h _ (qb (·.setIfInBounds 2 (.ref b)) o) (λc u hc z=>(fc _ _ (Ne.symm hc)).trans z) (og _ g (sk (Fk d))) (zb ..)))
theorem k7{Q:α->ai->Prop}(q:Qu A s.heap)(h:∀h' e,(∀b u,s.heap.get? b=aa u->h'.get? b=aa u)->(∃o,h'.get? e=aa o/\o.cls=.type "StopIteration")->E (.ref e) { s with heap:=h' }):
    bu (cf prog w) A (newExc (.type "StopIteration") [] >>= λe=>Z7 (α:=α) e) Q E s:=by
  refine ae ?_;simp only[newExc,newTuple];refine ae (ik (ae (m:=Y6 _ _) (wpAny_of_eq (a:=gg) (by first | rfl | (simp only[Y6];rfl)) (ik ?_ (by size_fits)))) (by size_fits));refine Ep (q.keeps λb u _ z=>aq _ (aq _ z)) (cm _ rfl) rfl (by simp;right) (λv e z=>?_) λh' o' k g c=>h h' _ (λb u z=>k b u ?_ (aq _ (aq _ z))) ⟨o',g,c⟩
  . subst z;rcases q with q | ⟨b,ob,q,gb,_⟩
    . rw[q] at e;cases e
    . rw[q] at e;cases e;exact qg _ (fj (bg gb) (by rw[vd];exact zc _))
  . intro e;subst e;exact qg _ (fj (bg z) (by rw[vd];exact zc _))
theorem Bz{Q:Option ah->ai->Prop}(q:Qu A s.heap)(t:s.heap.IsListIter it l i)(il:s.heap.IsList l xs)(n:xs[i]?=ar)(h:∀h',wo it s.heap h'->Q ar { s with heap:=h' }):
    bu (cf prog w) A (sv (.ref it)) Q E s:=by
  obtain⟨o,g,c,d⟩:=id t;obtain⟨ol,gl,_,nl,dl⟩:=il;unfold sv;refine ae (lx (gm (name:=im "__next__") t.typeIs ur (gf ur t.typeIs Wj ?_ (Wy _))));refine ae (m:=VQ (.ref it) 0) (fz g d (x:=.ref l) rfl ?_);rw[Zg (show ¬((Value.ref l==gg)=aj) from λz=>nomatch z)];refine ae (m:=VQ (.ref it) 1) (fz g d (x:=.int i 0) rfl (ae (m:=YE (.ref l)) (qh gl dl ?_)));simp only[br,n];have ne:∀b u,n6 u->s.heap.get? b=aa u->b≠it:=λb u m gb z=>by
    subst z;rw[g] at gb;cases gb;obtain⟨us,du,z2⟩:=m;rw[d] at du;cases du;simp at z2
  refine ae (mf (ae (nj g d (by simp) (k7 (q.keeps λb u m z=>(fc _ _ (Ne.symm (ne b u m z))).trans z) λh' e k ⟨oe,ge,ce⟩=>?_))));refine ae (jm (T:="StopIteration") (b:=aj) ⟨oe,ge,ce⟩ sw (ak (h _ λb u hb z=>k b u ((fc _ _ (Ne.symm hb)).trans z))))
theorem Ff{Q:Option ah->ai->Prop}(q:Qu A s.heap)(t:s.heap.IsTupleIter it l i)(il:s.heap.IsTuple l xs)(n:xs[i]?=ar)(h:∀h',wo it s.heap h'->Q ar { s with heap:=h' }):
    bu (cf prog w) A (sv (.ref it)) Q E s:=by
  obtain⟨o,g,c,d⟩:=id t;obtain⟨ol,gl,_,nl,dl⟩:=il;unfold sv;refine ae (lx (gm (name:=im "__next__") t.typeIs xo (gf xo t.typeIs F.entry_tuple_iterator_next ?_ (F.args_tuple_iterator_next_1 _))));refine ae (m:=VQ (.ref it) 0) (fz g d (x:=.ref l) rfl ?_);rw[Zg (show ¬((Value.ref l==gg)=aj) from λz=>nomatch z)];refine ae (m:=VQ (.ref it) 1) (fz g d (x:=.int i 0) rfl (ae (m:=YE (.ref l)) (qh gl dl ?_)));simp only[br,n];have ne:∀b u,n6 u->s.heap.get? b=aa u->b≠it:=λb u m gb z=>by
    subst z;rw[g] at gb;cases gb;obtain⟨us,du,z2⟩:=m;rw[d] at du;cases du;simp at z2
  refine ae (mf (ae (nj g d (by simp) (k7 (q.keeps λb u m z=>(fc _ _ (Ne.symm (ne b u m z))).trans z) λh' e k ⟨oe,ge,ce⟩=>?_))));refine ae (jm (T:="StopIteration") (b:=aj) ⟨oe,ge,ce⟩ sw (ak (h _ λb u hb z=>k b u ((fc _ _ (Ne.symm hb)).trans z))))
theorem yM{x left step:Int}{Q:Option ah->ai->Prop}(q:Qu A s.heap)(t:uw s.heap it x left step)(n:left<=0)(h:∀h',wo it s.heap h'->Q ar { s with heap:=h' }):
    bu (cf prog w) A (sv (.ref it)) Q E s:=by
  have ty:s.TypeIs (.ref it) "range_iterator" := ⟨_,t,rfl⟩;unfold sv;refine ae (lx (gm (name:=im "__next__") ty xp (gf xp ty F.entry_range_iterator_next ?_ (F.args_range_iterator_next_1 _))));refine ae (m:=VQ (.ref it) 0) (fz t rfl (x:=sh x) rfl (ae (m:=VQ (.ref it) 1) (fz t rfl (x:=sh left) rfl (ae (m:=VQ (.ref it) 2) (fz t rfl (x:=sh step) rfl ?_)))));refine(show bu _ _ (ite (left<=0) _ _) _ _ s from ?_);rw[ZE n];refine ae (mf (ae (k7 q λh' e k zz=>?_)));obtain⟨oe,ge,ce⟩:=zz;refine ae (jm (T:="StopIteration") (b:=aj) ⟨oe,ge,ce⟩ sw (ak (h _ λb u hb z=>k b u z)))
theorem qI{Q:ah->ai->Prop}(q:Qu A s.heap)(t:s.heap.IsListIter it l i)(il:s.heap.IsList l xs)(n:xs[i]?=ar)
    (h:∀h' e,wo it s.heap h'->(∃o,h'.get? e=aa o/\o.cls=.type "StopIteration")->E (.ref e) { s with heap:=h' }):bu (cf prog w) A (om (.ref it)) Q E s:=by
  obtain⟨o,g,c,d⟩:=id t;obtain⟨ol,gl,_,nl,dl⟩:=il;unfold om;refine ae (gm (name:=im "__next__") t.typeIs ur (gf ur t.typeIs Wj ?_ (Wy _)));refine ae (m:=VQ (.ref it) 0) (fz g d (x:=.ref l) rfl ?_);rw[Zg (show ¬((Value.ref l==gg)=aj) from λz=>nomatch z)];refine ae (m:=VQ (.ref it) 1) (fz g d (x:=.int i 0) rfl (ae (m:=YE (.ref l)) (qh gl dl ?_)));simp only[br,n];have ne:∀b u,n6 u->s.heap.get? b=aa u->b≠it:=λb u m gb z=>by
    subst z;rw[g] at gb;cases gb;obtain⟨us,du,z2⟩:=m;rw[d] at du;cases du;simp at z2
  exact ae (mf (ae (nj g d (by simp) (k7 (q.keeps λb u m z=>(fc _ _ (Ne.symm (ne b u m z))).trans z) λh' e k z=>h h' e (λb u hb z=>k b u ((fc _ _ (Ne.symm hb)).trans z)) z))))
theorem IH{e:af}{old:ah}{Q:Option ah->ai->Prop}(q:Qu A s.heap)(he:IsEnum s.heap e it i old)(t:s.heap.IsListIter it l i)(il:s.heap.IsList l xs)(n:xs[i]?=ar)
    (h:∀h',wo it s.heap h'->Q ar { s with heap:=h' }):bu (cf prog w) A (sv (.ref e)) Q E s:=by
  have ty:s.TypeIs (.ref e) "enumerate" := ⟨_,he,rfl⟩;unfold sv;refine ae (lx (gm (name:=im "__next__") ty VF (gf VF ty F.entry_enumerate_next ?_ (F.args_enumerate_next_1 _))));refine ae (m:=VQ (.ref e) 2) (fz he rfl (x:=.ref it) rfl (ae (qI q t il n λh' x k zz=>?_)));obtain⟨oe,ge,ce⟩:=zz;exact ae (jm (T:="StopIteration") (b:=aj) ⟨oe,ge,ce⟩ sw (ak (h _ k)))
theorem Kd{z TI TO i1 i2 l1 l2:af}{k1 k2:Nat}{ys:Array ah}{a b:ah}{Q:Option ah->ai->Prop}(q:Qu A s.heap)(D:Z8 z TI TO i1 i2 l1 l2)(hz:Zy s.heap z TI TO .none)(pI:Y7 s.heap TI (.ref i1) (.ref i2))(pO:Y7 s.heap TO a b)
    (t1:s.heap.IsListIter i1 l1 k1) (t2:s.heap.IsListIter i2 l2 k2) (il1:s.heap.IsList l1 xs) (il2:s.heap.IsList l2 ys) (n:xs[k1]?=ar \/ ys[k2]?=ar)
    (h:∀h',(∀c o,c≠z->c≠TO->c≠i1->c≠i2->s.heap.get? c=aa o->h'.get? c=aa o)->Q ar { s with heap:=h' }):bu (cf prog w) A (sv (.ref z)) Q E s:=by
  have ty:s.TypeIs (.ref z) "zip" := ⟨_,hz,rfl⟩;have fin:∀h' e,(∃o,h'.get? e=aa o/\o.cls=.type "StopIteration")->(∀c o,c≠z->c≠TO->c≠i1->c≠i2->s.heap.get? c=aa o->h'.get? c=aa o) ->
      bu (cf prog w) A (xq (.ref e) (.type "StopIteration") >>= λy=>if y=aj then jo ar else throw (.ref e)) Q E { s with heap:=h' }:=λh' e ⟨oe,ge,ce⟩ k=>
    ae (jm (T:="StopIteration") (b:=aj) ⟨oe,ge,ce⟩ sw (ak (h _ k)))
  have mz:∀f0,¬n6 { cls:=.type "zip",dict:=ar,data:=.fields #[f0,.bool ao,.bool ao,.ref TI,.ref TO],slots:=#[] }:=λf0 zq0=>by
    obtain⟨us,du,z2⟩:=zq0;cases du;simp at z2
  have mi:∀{h1:dq} {i l:af} {k:Nat},h1.IsListIter i l k -> ∀u,n6 u->h1.get? i≠aa u:=λ⟨o,g,_,d⟩ u ⟨us,du,z2⟩ gu=>by
    rw[g] at gu;cases gu;rw[d] at du;cases du;simp at z2
  have mp:∀{h1:dq} {p:af} {x y:ah},Y7 h1 p x y -> ∀u,n6 u->h1.get? p≠aa u:=λg u ⟨us,du,z2⟩ gu=>by
    rw[g] at gu;cases gu;cases du
  unfold sv;refine ae (lx (gm (name:=im "__next__") ty XI (gf XI ty F.entry_zip_next ?_ (F.args_zip_next_1 _))));refine ae (m:=VQ (.ref z) 2) (fz hz rfl (x:=.bool ao) rfl (ae (m:=VQ (.ref z) 3) (fz hz rfl (x:=.ref TI) rfl (ae (qh pI rfl ?_)))));refine ae (m:=uh (.ref z)) ?_;unfold uh;refine ae (fz hz rfl (x:=.none) rfl (ak ?_));simp only[if_true];refine ae (mf (ae (fz hz rfl (x:=.ref TO) rfl (ae (xr hz (by simp) λh1 hz1 s1=>ae ?_)))));replace hz1:Zy h1 z TI TO .ellipsis:=hz1;have q1:Qu A h1:=q.keeps λc u m g=>s1.extBut c u (λe=>by subst e;rw[hz] at g;cases g;exact mz _ m) g;simp only[Xz,XJ,Vk,Xa];refine ae (ae (wpAny_onRaise (ae (m:=om (.ref i1)) ?_)));have t1':=t1.extBut s1.extBut D.i1z;have il1':=il1.extBut s1.extBut D.l1z;cases hx:xs[k1]? with
  |none=>
    refine qI q1 t1' il1' hx λh2 e s2 zz=>?_;obtain⟨oe,ge,ce⟩:=zz;have hz2:Zy h2 z TI TO .ellipsis:=s2 _ _ D.i1z.symm hz1;have ne:e≠z:=λy=>by subst y;rw[hz2] at ge;cases ge;simp at ce
    exact xr hz2 (by simp) λh3 _ s3=>fin h3 e ⟨oe,s3.extBut _ _ ne ge,ce⟩ λc o c1 _ c3 _ g=>s3.extBut _ _ c1 (s2 _ _ c3 (s1.extBut _ _ c1 g))
  |some x=>
    have hy:ys[k2]?=ar:=n.elim (λy=>by rw[hx] at y;cases y) id;refine wpAny_nextOf_list_item t1' il1' hx λh2 t2' s2=>ak ?_;have pO2:Y7 h2 TO a b:=s2.extBut _ _ D.TOi1 (s1.extBut _ _ D.TOz pO);have q2:Qu A h2:=q1.keeps λc u m g=>s2.extBut c u (λe=>by subst e;exact mi t1' u m g) g;refine ae (qh pO2 rfl (ae (wpAny_updateSeq_pair pO2 λh3 pO3 s3=>ae (wpAny_letGo (ak ?_)))));have q3:Qu A h3:=q2.keeps λc u m g=>s3.extBut c u (λe=>by subst e;exact mp pO2 u m g) g;refine ae (ae (wpAny_onRaise (ae (m:=om (.ref i2)) ?_)));refine qI q3 (((t2.extBut s1.extBut D.i2z).extBut s2.extBut D.i12.symm).extBut s3.extBut D.TOi2.symm) (((il2.extBut s1.extBut D.l2z).extBut s2.extBut D.l2i1).extBut s3.extBut D.l2TO) hy λh4 e s4 zz=>?_;obtain⟨oe,ge,ce⟩:=zz;have hz4:Zy h4 z TI TO .ellipsis:=s4 _ _ D.i2z.symm (s3.extBut _ _ D.TOz.symm (s2.extBut _ _ D.i1z.symm hz1));have ne:e≠z:=λy=>by subst y;rw[hz4] at ge;cases ge;simp at ce
    exact xr hz4 (by simp) λh5 _ s5=>fin h5 e ⟨oe,s5.extBut _ _ ne ge,ce⟩ λc o c1 c2 c3 c4 g=>s5.extBut _ _ c1 (s4 _ _ c4 (s3.extBut _ _ c2 (s2.extBut _ _ c3 (s1.extBut _ _ c1 g))))
theorem EW(hh:A.handled=aa (.ref a))(m:n6 o)(I ax:af)(hne:ax≠I)(xs:Array ah):
    Walks prog w A I [I,ax,a] [I] xs.size (λi v=>xs[i]?=aa v) (λi h=>(h.IsListIter I ax i/\h.IsList ax xs)/\h.get? a=aa o) where
  sub:=λb hb=>by simp at hb;simp[hb]
  frame:=λ_ _ _ st k=>⟨⟨st.1.1.at λo e=>k I (by simp) o e,st.1.2.at λo e=>k ax (by simp) o e⟩,k a (by simp) _ st.2⟩
  item:=λi s Q E hi st h=>by
    have na:a≠I:=λe=>by
      subst e;obtain⟨o',g,_,d⟩:=st.1.1;obtain⟨us,du,z2⟩:=m;rw[st.2] at g;cases g;rw[d] at du;cases du;simp at z2
    exact Vl st.1.1 st.1.2 (x:=xs[i]) (by simp[hi]) λh' t sb=>h _ h' s.toks (by simp[hi]) ⟨⟨t,st.1.2.extBut sb.extBut hne⟩,sb.extBut _ _ na st.2⟩ λb o hb e=>sb.extBut b o (λz=>hb (by simp[z])) e
  done:=λs Q E st h=>Bz (.inr ⟨a,o,hh,st.2,m⟩) st.1.1 st.1.2 (by simp) λh' k=>h h' s.toks λb o hb e=>k b o (λz=>hb (by simp[z])) e
  self:=λ_ _ _ _ st q=>VG st.1.1 q
theorem Ny{xs:Array (Int×ZD)}{Q:ah->ai->Prop}(q:Qu A s.heap)(il:s.heap.IsList l (Z9 xs))
    (h:∀h' tk t',(∀b o,s.heap.get? b=aa o->h'.get? b=aa o)->Q (.int (preSum (numAt xs) xs.size) t') { s with heap:=h',toks:=tk }):bu (cf prog w) A (call (.builtin "sum") [.ref l]) Q E s:=by
  rcases q with q | ⟨a,o,q,g,m⟩
  . exact sum_intListG q il h
  . refine call_sum_walkG (iter_intList il λs2 e st fp ne=>?_);subst e;refine⟨_,_,_,_,_,_,numAt xs,rfl,EW (A:=A.in1) q m _ l ne (Z9 xs),⟨st,aq _ g⟩,λb hb=>?_,λ_ _=>intItems_at,λh' tk t' k=>?_⟩
    . rcases dm.mp hb with e | hb
      . exact fp b (by simp[e])
      . rcases dm.mp hb with e | hb
        . exact fp b (by simp[e])
        . have e:b=a:=by simpa using hb
          subst e;exact bg (aq _ g)
    . have:=h h' tk t' (old_kept k);simpa [Z9] using this
theorem w6{c:Int}{Q:Option ah->ai->Prop}(hi:i<n)(t:uw s.heap it (lo+(i:Nat)*c) ((n:Int)-(i:Nat)) c)
    (h:∀v h' tk,(∃t,v=.int (lo+i*c) t)->uw h' it (lo+((i+1:Nat):Int)*c) ((n:Int)-((i+1:Nat):Int)) c->(∀b o,b ∉ [it]->s.heap.get? b=aa o->h'.get? b=aa o)->Q (aa v) { s with heap:=h',toks:=tk }):
    bu (cf prog w) A (sv (.ref it)) Q E s:=by
  refine wpAny_pyNext_range_item t ⋯ λh' t' sb=>h _ h' _ ⟨_,rfl⟩ ?_ λb o hb e=>sb.extBut b o (λz=>hb (by simp[z])) e;rw[show ((i+1:Nat):Int)=(i:Int)+1 by simp,show lo+((i:Int)+1)*c=lo+i*c+c by rw[Int.add_mul,Za,Int.add_assoc],show (n:Int)-((i:Int)+1)=n-i-1 by right];exact t'
noncomputable abbrev cF:=Sum Int bw
noncomputable def yD:cF->ah->Bool
  | .inl k,v=>VR k v
  | .inr x,v=>YB x v
noncomputable def SU(w:bz):cF->Int
  | .inl k=>zd k
  | .inr x=>hashStr w x
theorem e9:∀{k:cF} {v:ah},yD k v=aj->(∃i t,k=jc i/\v=Value.int i t) \/ (∃x t,k=Vm x/\v=Value.str x t)
  | .inl i,v,h=>by
    obtain⟨t,e⟩:=Value.isInt_shape (k:=i) (v:=v) h;exact .inl ⟨i,t,rfl,e⟩
  | .inr x,v,h=>by
    obtain⟨t,e⟩:=Value.isStrOf_shape (x:=x) (v:=v) h;exact .inr ⟨x,t,rfl,e⟩
theorem FU(i:Int)(t:ZD):yD (.inl i) (.int i t)=aj:=by simp[yD,VR]
theorem FT(x:bw)(t:ZD):yD (.inr x) (.str x t)=aj:=by simp[yD,YB]
theorem Mv(a b:Int):decide ((jc a:cF)=jc b)=(a==b):=by
  by_cases e:a=b
  . subst e;simp
  . have h:¬(jc a:cF)=jc b:=λq=>e (jc.inj q);rw[decide_eq_false h];exact(beq_eq_false_iff_ne.mpr e).symm
theorem Ms(a b:bw):decide ((Vm a:cF)=Vm b)=decide (a=b):=by
  by_cases e:a=b
  . subst e;simp
  . have h:¬(Vm a:cF)=Vm b:=λq=>e (Vm.inj q);rw[decide_eq_false h,decide_eq_false e]
theorem Mu(a:Int)(b:bw):decide ((jc a:cF)=Vm b)=ao:=decide_eq_false (λq=>nomatch q)
theorem Mt(a:bw)(b:Int):decide ((Vm a:cF)=jc b)=ao:=decide_eq_false (λq=>nomatch q)
noncomputable def eT(prog:ay)(w:bz):PySem.KeyKind prog w cF where
  is:=yD
  hash:=SU w
  inj:=λv a b ha hb=>by
    rcases e9 ha with⟨i,t,rfl,rfl⟩ | ⟨x,t,rfl,rfl⟩
    . rcases e9 hb with⟨j,u,rfl,e⟩ | ⟨y,u,rfl,e⟩
      . injection e with e1 _;rw[e1]
      . exact nomatch e
    . rcases e9 hb with⟨j,u,rfl,e⟩ | ⟨y,u,rfl,e⟩
      . exact nomatch e
      . injection e with e1 _;rw[e1]
  byValue:=λk v h=>by
    rcases e9 h with⟨i,t,rfl,rfl⟩ | ⟨x,t,rfl,rfl⟩<;>rfl
  pyHash:=λhv h=>by
    rcases e9 hv with⟨i,t,rfl,rfl⟩ | ⟨x,t,rfl,rfl⟩
    . exact V4 h
    . exact wpAny_pyHash_str h
  eqBool:=λhu hv h=>by
    rcases e9 hu with⟨i,t,rfl,rfl⟩ | ⟨x,t,rfl,rfl⟩
    . rcases e9 hv with⟨j,u,rfl,rfl⟩ | ⟨y,u,rfl,rfl⟩
      . rw[Mv] at h;exact wb h
      . rw[Mu] at h;exact SeqAt.EqAt.int_str i t y u _ _ _ _ h
    . rcases e9 hv with⟨j,u,rfl,rfl⟩ | ⟨y,u,rfl,rfl⟩
      . rw[Mt] at h;exact SeqAt.EqAt.str_int x t j u _ _ _ _ h
      . rw[Ms] at h;exact wpAny_eqBool_str h
  «strs» := λk x t v h=>by
    rcases e9 h with⟨i,u,rfl,e⟩ | ⟨y,u,rfl,e⟩
    . exact nomatch e
    . injection e with e1 _;subst e1;cases v<;>rfl
theorem Bj(prog:ay)(w:bz)(i:Int)(t:ZD):(eT prog w).is (.inl i) (.int i t)=aj:=FU i t
theorem Bi(prog:ay)(w:bz)(x:bw)(t:ZD):(eT prog w).is (.inr x) (.str x t)=aj:=FT x t
inductive V where
  |non | bl (b:Bool) | int (i:Int) | str (x:bw) | byt (b:Array UInt8) | flt (b:UInt64) | ref (a:af) | ty (n:String)
  deriving DecidableEq
noncomputable def cR:V->ah->Prop
  | .non,u=>u=gg
  | .bl b,u=>u=Vn b
  | .int i,u=>∃t,u=Value.int i t
  | .str x,u=>∃t,u=Value.str x t
  | .byt b,u=>∃t,u=Zb b t
  | .flt b,u=>∃t,u=XA b t
  | .ref a,u=>u=Value.ref a
  | .ty n,u=>u=Zq n
noncomputable abbrev bU:List V->List ah->Prop:=Paired cR
theorem bU.length{xs:List V}{us:List ah}(r:bU xs us):xs.length=us.length:=Paired.length r
theorem bU.get:∀{xs:List V} {us:List ah} {i:Nat} {x:V},bU xs us->xs[i]?=aa x -> ∃u,us[i]?=aa u/\cR x u
  |_,_,_,_,.nil,e=>by simp at e
  |_,_,0,_,.cons r _,e=>by simp at e;subst e;exact⟨_,rfl,r⟩
  |_,_,i+1,x,.cons _ t,e=>by
    obtain⟨u,h1,h2⟩:=bU.get (i:=i) (x:=x) t (by simpa using e);exact⟨u,by simpa using h1,h2⟩
theorem bU.append:∀{xs ys:List V} {us ws:List ah},bU xs us->bU ys ws->bU (xs++ys) (us++ws)
  |_,_,_,_,.nil,s=>s
  |_,_,_,_,.cons r t,s=>.cons r (bU.append t s)
theorem bU.take:∀{xs:List V} {us:List ah} (n:Nat),bU xs us->bU (xs.take n) (us.take n)
  |_,_,0,_=>.nil
  |_,_,_+1,.nil=>.nil
  |_,_,n+1,.cons r t=>.cons r (bU.take n t)
theorem bU.drop:∀{xs:List V} {us:List ah} (n:Nat),bU xs us->bU (xs.drop n) (us.drop n)
  |_,_,0,r=>r
  |_,_,_+1,.nil=>.nil
  |_,_,n+1,.cons _ t=>bU.drop n t
noncomputable def pT:Option V->Option ah->Prop
  |some v,aa u=>cR v u
  |none,ar=>True
  |_,_=>False
variable {κ:Type}
noncomputable def KV:List (κ×V)->List (κ×ah)->Prop:=Paired λ(p:κ×V) (q:κ×ah)=>p.1=q.1/\cR p.2 q.2
noncomputable def kV:cF->V
  | .inl i=>.int i
  | .inr x=>.str x
inductive HO where
  /-- a list -/
  |lst (xs:List V)
  /-- a tuple (never changes) -/
  |tup (xs:List V)
  /-- a dict whose keys are ints and texts;one whose keys are tuples of ints and texts (the empty one is both) -/
  |dK (kvs:List (cF×V)) | dT (ep:Nat) (kvs:List (List cF×V))
  /-- a set of ints: its members,its size -/
  |set (S:Int->Bool) (n:Nat)
  /-- an instance of the class at C,its dict at dx,its attributes -/
  |ins (C dx:af) (fs:List (bw×V))
  /-- the dict of the instance at x -/
  |own (x:af)
  /-- the dict of an exception -/
  |xd (fs:List (bw×V))
  /-- a bound method,f of x -/
  |met (f x:af)
  /-- a range object lo,lo+1,.. below hi -/
  |rng (lo hi:Int)
  /-- a thing that is known to the object (the script;a dict while a loop walks it): read,never written while it is so -/
  |frz (o:jv) (u:HO)
  /-- a code object's table -/
  |tbl (ps:Array ah)
  /-- a code object's table whose lambdas are named q;such a lambda's code -/
  |lam (q:bw) | cod (q:bw)
  /-- any other thing,by what is aj of its one object (a def of one's own: SetO a S n:=HO.ext λh=>..) -/
  |ext (φ:dq->Prop)
noncomputable abbrev Hp:=af->Option HO
noncomputable def upd(H:Hp)(a:af)(o:HO):Hp:=λb=>if b=a then aa o else H b
variable {H:Hp}
theorem bS{o:HO}:upd H a o a=aa o:=by unfold upd;rw[ZE rfl]
theorem bB{o:HO}(h:b≠a):upd H a o b=H b:=by unfold upd;rw[Zg h]
theorem LB{o u:HO}(h:H a=aa o)(h':H b=aa u)(d:o≠u):a≠b:=by
  intro e;subst e;rw[h] at h';exact d (Option.some.inj h')
theorem bL{o:HO}(h:H a=aa o)(h':H b=ar):a≠b:=by
  intro e;subst e;rw[h] at h';cases h'
section
variable (P:ay)(w:bz)
noncomputable def cK(H:Hp)(h:dq)(a:af):HO->Prop
  | .lst xs=>xs.length<=bv /\ ∃(its:List ah) (n:Nat),bU xs its/\h.get? a=aa { cls:=.type "list",data:=.seq its.toArray n }
  | .tup xs=>xs.length<=bv /\ ∃its:List ah,bU xs its/\IsTup h a its.toArray
  | .dK kvs=>kvs.length<=bv/\(a==jj)=ao /\ ∃vs,KV kvs vs/\h.DictOf (eT P w) a vs
  | .dT ep kvs=>kvs.length<=bv/\(a==jj)=ao /\ ∃xs:List (List cF×af×ah),
      Paired (λ(p:List cF×V) (q:List cF×af×ah)=>p.1=q.1/\H q.2.1=aa (.tup (p.1.map kV))/\cR p.2 q.2.2) kvs xs /\
      ∃o es,h.get? a=aa o/\o.ExactDict/\o.data=.dict es ep/\es.toList=xs.map (entryOfKey (V5 (eT P w)))/\(xs.map (·.1)).Nodup
  | .set S n=>h.SetOf (Y1 P w) a S n
  | .ins C dx fs=>H dx=aa (.own a)/\fs.length<=1000/\dx≠a/\h.get? a=aa (wd C dx) /\
      ∃mA,h.Ns1 dx mA/\(∀f,pT (fs.lookup f) (mA f))/\WK mA (fs.map (·.1))
  | .own _=>∃o,h.get? a=aa o
  | .xd fs=>∃mA,h.Ns1 a mA /\ ∀f,pT (fs.lookup f) (mA f)
  | .rng lo hi=>∃t u v,h.get? a=aa { cls:=.type "range",data:=.fields #[.int lo t,.int hi u,.int 1 v] }
  | .frz o u=>h.get? a=aa o/\cK H h a u
  | .tbl ps=>h.get? a=aa { cls:=.none,data:=.fields ps }
  | .lam q=>∃ps:Array ah,h.get? a=aa (W.tabObj ps)/\TriplesOk ps.toList /\ ∀p:lv,codeAmong p ps.toList=ar \/ ∃c,codeAmong p ps.toList=aa (.ref c)/\H c=aa (.cod q)
  | .cod q=>h.CodeRec (.ref a) q
  | .met f x=>h.get? a=aa (XB (.ref f) (.ref x))
  | .ext φ=>φ h/\(∃o,h.get? a=aa o) /\ ∀h1 h2:dq,φ h1->(∀o,h1.get? a=aa o->h2.get? a=aa o)->φ h2
noncomputable def lR(H:Hp)(h:dq):Prop:=∀a o,H a=aa o->cK P w H h a o
end
variable {H':Hp}
section
variable {o:HO}
theorem cK.lt(x:cK P w H h a o):a<h.objs.size:=by
  cases o with
  |lst xs=>obtain⟨_,_,_,_,e⟩:=x;exact bg e
  |tup xs=>obtain⟨_,_,_,p⟩:=x;exact p.lt
  |dK kvs=>obtain⟨_,_,_,_,o,_,_,e,_⟩:=x;exact bg e
  |dT ep kvs=>obtain⟨_,_,_,_,o,_,e,_⟩:=x;exact bg e
  |set S n=>obtain⟨o,_,_,_,e,_⟩:=x;exact bg e
  |ins C dx fs=>obtain⟨_,_,_,e,_⟩:=x;exact bg e
  |own y=>obtain⟨_,e⟩:=x;exact bg e
  |xd fs=>obtain⟨_,⟨_,_,_,e,_⟩,_⟩:=x;exact bg e
  |rng lo hi=>obtain⟨_,_,_,e⟩:=x;exact bg e
  |frz ob u=>obtain⟨e,_⟩:=x;exact bg e
  |tbl ps=>exact bg (show h.get? a=aa _ from x)
  |lam q=>obtain⟨_,e,_⟩:=x;exact bg e
  |cod q=>obtain⟨_,_,_,_,e,e2,_⟩:=x;cases e;exact bg e2
  |met f y=>exact bg (show h.get? a=aa _ from x)
  |ext φ=>obtain⟨_,⟨_,e⟩,_⟩:=x;exact bg e
theorem Paired.mapP{α β:Type}{F G:α->β->Prop}:∀{l₁:List α} {l₂:List β},Paired F l₁ l₂->(∀a b,F a b->G a b)->Paired G l₁ l₂
  |_,_,.nil,_=>.nil
  |_,_,.cons r t,f=>.cons (f _ _ r) (Paired.mapP t f)
theorem cK.stay(x:cK P w H h a o)(k:∀b u,(b=a \/ H b=aa (.own a))->h.get? b=aa u->h'.get? b=aa u)
    (ho:∀b,H b=aa (.own a)->H' b=aa (.own a)) (ht:∀b xs,H b=aa (.tup xs)->H' b=aa (.tup xs)) (hc:∀b q,H b=aa (.cod q)->H' b=aa (.cod q)):cK P w H' h' a o:=by
  induction o with
  |lst xs=>obtain⟨z,its,n,r,e⟩:=x;exact⟨z,its,n,r,k _ _ (.inl rfl) e⟩
  |tup xs=>obtain⟨z,its,r,ob,e,c⟩:=x;exact⟨z,its,r,ob,k _ _ (.inl rfl) e,c⟩
  |dK kvs=>obtain⟨z,y,vs,r,ob,es,ep,e,c⟩:=x;exact⟨z,y,vs,r,ob,es,ep,k _ _ (.inl rfl) e,c⟩
  |dT ep kvs=>
    obtain⟨z,y,xs,r,ob,es,e,c⟩:=x;exact⟨z,y,xs,Paired.mapP r λp q z=>⟨z.1,ht _ _ z.2.1,z.2.2⟩,ob,es,k _ _ (.inl rfl) e,c⟩
  |set S n=>obtain⟨ob,es,ep,t,e,c⟩:=x;exact⟨ob,es,ep,t,k _ _ (.inl rfl) e,c⟩
  |ins C dx fs=>
    obtain⟨d,z,ne,e,mA,⟨od,es,ep,e2,c⟩,r⟩:=x;exact⟨ho _ d,z,ne,k _ _ (.inl rfl) e,mA,⟨od,es,ep,k _ _ (.inr d) e2,c⟩,r⟩
  |own y=>obtain⟨ob,e⟩:=x;exact⟨ob,k _ _ (.inl rfl) e⟩
  |xd fs=>obtain⟨mA,⟨od,es,ep,e,c⟩,r⟩:=x;exact⟨mA,⟨od,es,ep,k _ _ (.inl rfl) e,c⟩,r⟩
  |rng lo hi=>obtain⟨t,u,v,e⟩:=x;exact⟨t,u,v,k _ _ (.inl rfl) e⟩
  |frz ob u ih=>obtain⟨e,q⟩:=x;exact⟨k _ _ (.inl rfl) e,ih q⟩
  |tbl ps=>
    have e:h.get? a=aa { cls:=.none,data:=.fields ps }:=x;show h'.get? a=aa { cls:=.none,data:=.fields ps };exact k a _ (.inl rfl) e
  |lam q=>
    obtain⟨ps,e,t,f⟩:=x;exact⟨ps,k _ _ (.inl rfl) e,t,λp=>(f p).imp_right λzq1=>by obtain⟨c,e1,e2⟩:=zq1;exact⟨c,e1,hc _ _ e2⟩⟩
  |cod q=>
    obtain⟨_,o,vs,t,e,e2,e3⟩:=x;cases e;exact⟨a,o,vs,t,rfl,k _ _ (.inl rfl) e2,e3⟩
  |met f y=>
    have e:h.get? a=aa (XB (.ref f) (.ref y)):=x;show h'.get? a=aa (XB (.ref f) (.ref y));exact k a _ (.inl rfl) e
  |ext φ=>obtain⟨p,⟨o,e⟩,st⟩:=x;exact⟨st _ _ p λo q=>k _ _ (.inl rfl) q,⟨o,k _ _ (.inl rfl) e⟩,st⟩
theorem lR.lt(x:lR P w H h)(e:H a=aa o):a<h.objs.size:=(x a o e).lt
theorem lR.fresh(x:lR P w H h)(e:h.objs.size<=a):H a=ar:=by
  cases q:H a with
  |none=>rfl
  |some u=>exact absurd (fj (x.lt q) e) (qg _)
theorem lR.kept(x:lR P w H h)(k:∀b u,h.get? b=aa u->h'.get? b=aa u):lR P w H h':=λa o e=>
  (x a o e).stay (λb u _ q=>k b u q) (λ_ q=>q) (λ_ _ q=>q) λ_ _ q=>q
theorem lR.laid(x:lR P w H h)(k:∀b u,h.get? b=aa u->h'.get? b=aa u)(hp:h.objs.size<=a)(new:cK P w (upd H a o) h' a o):lR P w (upd H a o) h':=λb u e=>by
  have hn:=x.fresh hp;by_cases hb:b=a
  . subst hb;rw[bS] at e;cases e;exact new
  . rw[bB hb] at e;exact(x b u e).stay (λc v _ q=>k c v q) (λc q=>by rw[bB (bL q hn)];exact q) (λc xs q=>by rw[bB (bL q hn)];exact q) λc xs q=>by rw[bB (bL q hn)];exact q
end
noncomputable def Rd(H:Hp)(a:af)(u:HO):Prop:=H a=aa u \/ ∃o,H a=aa (.frz o u)
theorem Rd.ok{u:HO}(r:Rd H a u)(x:lR P w H h):cK P w H h a u:=by
  rcases r with r | ⟨o,r⟩
  . exact x a u r
  . obtain⟨_,q⟩:=x a _ r;exact q
noncomputable def Fx:Option HO->Prop
  |some (.lst _)=>True
  |some (.dK _)=>True
  |some (.dT _ _)=>True
  |some (.set _ _)=>True
  |some (.ins _ _ _)=>True
  |some (.ext _)=>True
  |_=>False
section
variable {x e:af}{o':HO}
theorem lR.write(ok:lR P w H h)(mu:Fx (H x))(he:e=x \/ H e=aa (.own x))(k:∀b u,b≠e->h.get? b=aa u->h'.get? b=aa u)(heo:∃u,h'.get? e=aa u)
    (new:cK P w (upd H x o') h' x o'):lR P w (upd H x o') h':=λb u q=>by
  have nown:∀c y,H c=aa (.own y)->c≠x:=λc y r z=>by subst z;rw[r] at mu;exact mu
  have ntup:∀c xs,H c=aa (.tup xs)->c≠x:=λc xs r z=>by subst z;rw[r] at mu;exact mu
  have ncod:∀c q,H c=aa (.cod q)->c≠x:=λc xs r z=>by subst z;rw[r] at mu;exact mu
  by_cases hb:b=x
  . subst hb;rw[bS] at q;cases q;exact new
  . rw[bB hb] at q;by_cases hbe:b=e
    . have q':H b=aa (.own x):=by
        rcases he with z | z
        . exact absurd (hbe.trans z) hb
        . rw[hbe];exact z
      rw[q] at q';cases q';obtain⟨v,hv⟩:=heo;exact⟨v,by rw[hbe];exact hv⟩
    . refine(ok b u q).stay (λc v hc r=>k c v ?_ r) (λc r=>by rw[bB (nown c b r)];exact r) (λc xs r=>by rw[bB (ntup c xs r)];exact r) λc xs r=>by rw[bB (ncod c xs r)];exact r
      rcases hc with rfl | hc
      . exact hbe
      . rintro rfl;rcases he with z | z
        . exact nown c b hc z
        . rw[hc] at z;cases z;exact hb rfl
end
structure Un(fs ex:List af)(H H':Hp)(h h':dq):Prop where
  keep:∀b o,h.get? b=aa o->H b=ar->b ∉ fs->b ∉ ex->h'.get? b=aa o
  slot:∀b o,h.get? b=aa o->H b=ar->b∈fs->b ∉ ex -> ∃sl,h'.get? b=aa { o with slots:=sl }
  free:∀b o,h.get? b=aa o->H b=ar->b ∉ ex->H' b=ar
  there:∀b o,h.get? b=aa o->b ∉ ex -> ∃o',h'.get? b=aa o'
  tups:∀b xs,H b=aa (.tup xs)->H' b=aa (.tup xs)
  frzs:∀b o u,H b=aa (.frz o u)->H' b=aa (.frz o u)
  tbls:∀b ps,H b=aa (.tbl ps) -> ∃more,H' b=aa (.tbl (ps++more))
section
variable {fs fs' ex ex':List af}{H1 H2:Hp}{h1 h2:dq}{x e:af}{o:HO}
theorem Un.any(u:Un fs ex H H1 h h1){ob:jv}(q:h.get? b=aa ob)(n:H b=ar)(hx:b ∉ ex):∃sl,h1.get? b=aa { ob with slots:=sl }:=by
  by_cases hb:b∈fs
  . exact u.slot b ob q n hb hx
  . exact⟨ob.slots,u.keep b ob q n hb hx⟩
theorem Un.kept(k:∀b u,h.get? b=aa u->h'.get? b=aa u):Un fs ex H H h h':=
  ⟨λb ob q _ _ _=>k b ob q,λb ob q _ _ _=>⟨ob.slots,k b ob q⟩,λ_ _ _ n _=>n,λb ob q _=>⟨ob,k b ob q⟩,λ_ _ q=>q,λ_ _ _ q=>q,λ_ ps q=>⟨#[],by rw[q];simp⟩⟩
theorem Un.refl:Un fs ex H H h h:=Un.kept λ_ _ q=>q
theorem Un.laid(k:∀b u,h.get? b=aa u->h'.get? b=aa u)(hp:h.objs.size<=a)(hn:H a=ar):Un fs ex H (upd H a o) h h' where
  keep:=λb u q _ _ _=>k b u q
  slot:=λb u q _ _ _=>⟨u.slots,k b u q⟩
  free:=λb u q n _=>by rw[bB (gq (fj (bg q) hp))];exact n
  there:=λb u q _=>⟨u,k b u q⟩
  tups:=λb xs q=>by rw[bB (bL q hn)];exact q
  frzs:=λb u xs q=>by rw[bB (bL q hn)];exact q
  tbls:=λb ps q=>⟨#[],by rw[bB (bL q hn),q];simp⟩
theorem Un.write(mu:Fx (H x))(he:e=x \/ H e=aa (.own x))(k:∀b u,b≠e->h.get? b=aa u->h'.get? b=aa u)(heo:∃u,h'.get? e=aa u):Un fs ex H (upd H x o) h h':=by
  have hx:∀b,H b=ar->b≠x:=λb n z=>by subst z;rw[n] at mu;exact mu
  have hb:∀b,H b=ar->b≠e:=λb n z=>by
    subst z;rcases he with r | r
    . exact hx b n r
    . rw[n] at r;cases r
  have hm:∀b u,H b=aa u -> ¬Fx (aa u)->b≠x:=λb u q nm z=>by subst z;rw[q] at mu;exact nm mu
  refine⟨λb u q n _ _=>k b u (hb b n) q,λb u q n _ _=>⟨u.slots,k b u (hb b n) q⟩,λb u q n _=>by rw[bB (hx b n)];exact n,λb u q _=>?_,
    λb xs q=>by rw[bB (hm b _ q λz=>z)];exact q,λb u xs q=>by rw[bB (hm b _ q λz=>z)];exact q,λb ps q=>⟨#[],by rw[bB (hm b _ q λz=>z),q];simp⟩⟩
  by_cases hbe:b=e
  . subst hbe;exact heo
  . exact⟨u,k b u hbe q⟩
end
noncomputable def trk(h:dq)(H:Hp):List af:=(gy h.objs.size).filter λa=>(H a).isSome
noncomputable def A9(h:dq)(H:Hp):dq:=Wd h (trk h H)
theorem Fa(h:dq)(H:Hp):(A9 h H).objs.size=h.objs.size:=W.hideAll_size _ _
theorem Hw(e:h.get? b=aa o)(n:H b=ar):(A9 h H).get? b=aa o:=
  YC _ e λhm=>by
    have q:(H b).isSome=aj:=(Vo.mp hm).2;rw[n] at q;simp at q
theorem Jj(e:(A9 h H).get? b=aa o):h.get? b=aa o/\H b=ar:=by
  have e':h.get? b=aa o:=WL (trk h H) e;refine⟨e',?_⟩;cases q:H b with
  |none=>rfl
  |some x=>
    have hm:b∈trk h H:=Vo.mpr ⟨xm.mpr (bg e'),by simp[q]⟩;have z:(A9 h H).get? b=ar:=W.hideAll_none (trk h H) hm;rw[z] at e;cases e
structure Mod(K:ap)(mg:bw->Option ah)(base:dq):Prop where
  kin:K.In base
  glob:base.Ns jq mg
  blt:∃mb,base.Ns Y8 mb /\ ∀x:bw,x ≠ "__name__" -> mb x=oy x
  nolimit:base.NoLimit
/-- the context: a def's ZS (or a comprehension's block) running. base: fixed through the ZZ law;s₀,HZ: the entry;outer: the frames whose slots others may change (a def's callers);stack: all frames that run;
   ex: iterators that were made ahead of the entry and are walked here (a comprehension's);fn: the names whose cells were made at the entry (a def: all;a comprehension's block: its own);calm: not within an except suite;pn: pk that every state bears;xe: what is wanted of an exception that leaves the code -/
structure Cx where
  prog:ay
  w:bz
  K:ap
  mg:bw->Option ah
  base:dq
  A:dj
  N:List bw
  s₀:ai
  HZ:Hp
  env:za
  outer:List za
  stack:List za
  ex:List af
  fn:bw->Bool
  calm:Bool
  pn:List (af×jv)
  xe:ah->ai->Prop
  hs:List af
noncomputable def frs(l:List za):List af:=l.filterMap (·.frame)
noncomputable abbrev Cx.fs(X:Cx):List af:=frs X.outer
noncomputable def Py(sc:Scope)(x:bw):Prop:=sc.names.lookup x=aa .local \/ sc.names.lookup x=aa .cell \/ sc.names.lookup x=aa .free
noncomputable def G1(sc:Scope)(x:bw):Prop:=sc.names.lookup x=aa .local \/ sc.names.lookup x=aa .cell
noncomputable def Te(env:za)(h:dq)(m:bw->Option ah)(x:bw)(u:ah):Prop:=
  (env.kindOf x=aa .local/\m x=aa u) \/ ((env.kindOf x=aa .cell \/ env.kindOf x=aa .free) /\ ∃c,env.cells.lookup x=aa c/\h.IsCell c (aa u))
structure Cx.Ok(X:Cx):Prop where
  mod:Mod X.K X.mg X.base
  kind:X.env.scope.kind=.function
  glob:X.env.globals=jq
  blt:X.env.builtins=Y8
  above:X.s₀.heap.objs.size<=X.env.locals
  inj:∀x y c,X.env.cells.lookup x=aa c->X.env.cells.lookup y=aa c->x=y
  has:∀x,(X.env.kindOf x=aa .cell \/ X.env.kindOf x=aa .free) -> ∃c,X.env.cells.lookup x=aa c
  cab:∀x c,X.fn x=aj->X.env.cells.lookup x=aa c->X.s₀.heap.objs.size<=c
  hd:X.calm=aj->X.A.handled=ar
  frames:X.A.frames=aa X.stack
  stk:X.stack=X.outer \/ (X.stack=X.env::X.outer/\X.env.frame=aa X.env.locals)
  exf:∀b∈X.ex,b≠X.env.locals /\ ∀x c,X.env.cells.lookup x=aa c->c≠b
  bs:∀b o,X.base.get? b=aa o->X.s₀.heap.get? b=aa o/\X.HZ b=ar
  bsz:X.base.objs.size<=X.s₀.heap.objs.size
  noex:∀b o,X.base.get? b=aa o->b ∉ X.ex
  exfs:∀b∈X.ex,b ∉ X.fs
  funs:X.s₀.heap.FunFrames X.base X.outer
  frf:∀b∈X.fs,X.HZ b=ar
  hq:X.A.handled=ar \/ ∃a,a∈X.hs/\X.A.handled=aa (.ref a)
structure Inv(X:Cx)(pk:List (af×jv))(σ:List (Option V))(H:Hp)(s:ai):Prop where
  ok:X.Ok
  os:s.os=X.s₀.os
  bare:xh s.gens
  base:Un X.fs X.ex X.HZ H X.s₀.heap s.heap
  loc:∃m,s.heap.Ns X.env.locals m /\ ∀(i:Nat) (x:bw) (v:V),X.N[i]?=aa x->σ[i]?=aa (aa v)->Py X.env.scope x -> ∃u,cR v u/\Te X.env s.heap m x u
  cell:∀x c,X.env.cells.lookup x=aa c -> ∃v,s.heap.IsCell c v
  free:H X.env.locals=ar
  freeC:∀x c,X.env.cells.lookup x=aa c->H c=ar
  pin:∀p∈X.pn++pk,s.heap.get? p.1=aa p.2/\H p.1=ar/\p.1≠X.env.locals/\p.1 ∉ X.fs /\ ∀v,p.2.data ≠ .cell v
  hok:lR X.prog X.w H s.heap
  len:σ.length=X.N.length
  mild:∀a∈X.hs,∃o u,H a=aa (.frz o u)/\n6 o
variable {v:V}{g':Array V6}{t' j:Nat}{d':YF}{ch:List af}{s':ai}{X:Cx}
section
variable {σ:List (Option V)}
theorem Cx.Ok.nofr(ok:X.Ok)(e:X.base.get? b=aa o):b ∉ X.fs:=λhb=>by
  have:=(ok.funs.mem hb).1;rw[e] at this;cases this
theorem Inv.bs(I:Inv X pk σ H s):∀b o,X.base.get? b=aa o->s.heap.get? b=aa o/\H b=ar:=λb o e=>
  ⟨I.base.keep b o (I.ok.bs b o e).1 (I.ok.bs b o e).2 (I.ok.nofr e) (I.ok.noex b o e),I.base.free b o (I.ok.bs b o e).1 (I.ok.bs b o e).2 (I.ok.noex b o e)⟩
theorem Inv.qu(I:Inv X pk σ H s):Qu X.A s.heap:=by
  rcases I.ok.hq with e | ⟨a,ha,e⟩
  . exact .inl e
  . obtain⟨o,u,g,m⟩:=I.mild a ha;obtain⟨ho,_⟩:=(show cK X.prog X.w H s.heap a (.frz o u) from I.hok a _ g);exact .inr ⟨a,o,e,ho,m⟩
theorem Inv.bk(I:Inv X pk σ H s):∀b o,X.base.get? b=aa o->s.heap.get? b=aa o:=λb o e=>(I.bs b o e).1
theorem Inv.mod(I:Inv X pk σ H s):Mod X.K X.mg X.base:=I.ok.mod
theorem Inv.kIn(I:Inv X pk σ H s):X.K.In s.heap:=I.ok.mod.kin.keeps I.bk
theorem Inv.lt(I:Inv X pk σ H s):X.env.locals<s.heap.objs.size:=let ⟨_,hn,_⟩:=I.loc;hn.lt
theorem Inv.sz(I:Inv X pk σ H s):X.s₀.heap.objs.size<=s.heap.objs.size:=ly I.ok.above (WM I.lt)
theorem Inv.nofs(I:Inv X pk σ H s)(h:s.heap.objs.size<=a):a ∉ X.fs:=λhb=>by
  obtain⟨_,o,ho,_⟩:=I.ok.funs.mem hb;exact absurd (fj (bg ho) (ly I.sz h)) (qg _)
theorem Inv.cne(I:Inv X pk σ H s):∀x c,X.env.cells.lookup x=aa c->c≠X.env.locals:=λx c e z=>by
  obtain⟨v,o,ho,hd⟩:=I.cell x c e;obtain⟨m,⟨o',es,ep,ho',hd',_⟩,_⟩:=I.loc;rw[z,ho'] at ho;cases ho;rw[hd'] at hd;cases hd
theorem Inv.funs(I:Inv X pk σ H s):s.heap.FunFrames X.base X.outer:=by
  have all:∀(l:List za),(∀b∈frs l,b∈X.fs)->X.s₀.heap.FunFrames X.base l->s.heap.FunFrames X.base l:=by
    intro l;induction l with
    |nil=>intro _ _;trivial
    |cons env r ih=>
      intro hs hl;obtain⟨hk,⟨L,o,hf,hn,ho,hd⟩,hr⟩:=hl;have hL:L∈X.fs:=hs L (by unfold frs;rw[wz,hf];exact dk);obtain⟨sl,e⟩:=I.base.slot L o ho (I.ok.frf L hL) hL λz=>I.ok.exfs L z hL;exact⟨hk,⟨L,_,hf,hn,e,hd⟩,ih (λb hb=>hs b (by unfold frs;rw[wz,hf];exact dg _ hb)) hr⟩
  exact all X.outer (λ_ hb=>hb) I.ok.funs
theorem Inv.stack(I:Inv X pk σ H s):s.heap.FunFrames X.base X.stack:=by
  rcases I.ok.stk with e | ⟨e,hf⟩
  . rw[e];exact I.funs
  . rw[e];obtain⟨m,hn,_⟩:=I.loc;refine .cons (by rw[I.ok.kind];decide) hf hn ?_ I.funs;exact Heap.get?_none_of_le (ly I.ok.bsz I.ok.above)
theorem Inv.stkSub(I:Inv X pk σ H s):∀b∈frs X.stack,b∈X.env.locals::X.fs:=λb hb=>by
  rcases I.ok.stk with e | ⟨e,hf⟩
  . rw[e] at hb;exact dg _ hb
  . rw[e] at hb;unfold frs at hb;rw[wz,hf] at hb;exact hb
theorem Inv.stkFree(I:Inv X pk σ H s):∀b∈frs X.stack,H b=ar:=λb hb=>by
  rcases dm.mp (I.stkSub b hb) with e | hb
  . rw[e];exact I.free
  . obtain⟨_,o,ho,_⟩:=I.ok.funs.mem hb;exact I.base.free b o ho (I.ok.frf b hb) λz=>I.ok.exfs b z hb
theorem Inv.step(I:Inv X pk σ H s)
    (hch:∀b∈ch,(b∈X.ex \/ X.s₀.heap.objs.size<=b)/\b≠X.env.locals/\(∀x c,X.env.cells.lookup x=aa c->c≠b) /\ ∀p∈X.pn++pk,p.1≠b)
    (keep:∀b o,b≠X.env.locals->b ∉ X.fs->b ∉ ch->s.heap.get? b=aa o->H b=ar->h'.get? b=aa o)
    (slot:∀b o,b≠X.env.locals->b∈X.fs->b ∉ ch->s.heap.get? b=aa o->H b=ar -> ∃sl,h'.get? b=aa { o with slots:=sl }) (free:∀b o,b ∉ ch->s.heap.get? b=aa o->H b=ar->H' b=ar)
    (there:∀b o,b ∉ ch->s.heap.get? b=aa o -> ∃o',h'.get? b=aa o')
    (tups:∀b xs,H b=aa (.tup xs)->H' b=aa (.tup xs)) (frzs:∀b o u,H b=aa (.frz o u)->H' b=aa (.frz o u)) (tbls:∀b ps,H b=aa (.tbl ps) -> ∃more,H' b=aa (.tbl (ps++more)))
    (ns:∀m,s.heap.Ns X.env.locals m->h'.Ns X.env.locals m) (hok:lR X.prog X.w H' h') (hg:xh g'):
    Inv X pk σ H' { s with heap:=h',gens:=g',drawn:=d',toks:=t' }:=by
  have neL:∀b o,X.s₀.heap.get? b=aa o->b≠X.env.locals:=λb o e=>gq (fj (bg e) I.ok.above);have neC:∀b o,X.s₀.heap.get? b=aa o->b ∉ X.ex->b ∉ ch:=λb o e hx hb=>by
    rcases(hch b hb).1 with z | z
    . exact hx z
    . exact absurd (fj (bg e) z) (qg _)
  have cellK:∀x c,X.env.cells.lookup x=aa c -> ∀v,s.heap.IsCell c v->h'.IsCell c v:=λx c e v zq2=>by
    obtain⟨o,ho,hd⟩:=zq2;have nch:c ∉ ch:=λz=>(hch c z).2.2.1 x c e rfl;by_cases hc:c∈X.fs
    . obtain⟨sl,q⟩:=slot c o (I.cne x c e) hc nch ho (I.freeC x c e);exact⟨_,q,hd⟩
    . exact⟨o,keep c o (I.cne x c e) hc nch ho (I.freeC x c e),hd⟩
  refine⟨I.ok,I.os,hg,⟨λb o e n hb hx=>?_,λb o e n hb hx=>?_,λb o e n hx=>?_,λb o e hx=>?_,λb xs e=>tups b xs (I.base.tups b xs e),λb o xs e=>frzs b o xs (I.base.frzs b o xs e),λb ps e=>?_⟩,?_,λx c e=>?_,?_,λx c e=>?_,λp hp=>?_,hok,I.len,λa ha=>let ⟨o,u,g,m⟩:=I.mild a ha;⟨o,u,frzs a o u g,m⟩⟩
  . exact keep b o (neL b o e) hb (neC b o e hx) (I.base.keep b o e n hb hx) (I.base.free b o e n hx)
  . obtain⟨sl,e1⟩:=I.base.slot b o e n hb hx;obtain⟨sl',e2⟩:=slot b _ (neL b o e) hb (neC b o e hx) e1 (I.base.free b o e n hx);exact⟨sl',e2⟩
  . obtain⟨o',e1⟩:=I.base.there b o e hx;exact free b o' (neC b o e hx) e1 (I.base.free b o e n hx)
  . obtain⟨o',e1⟩:=I.base.there b o e hx;exact there b o' (neC b o e hx) e1
  . obtain⟨m1,e1⟩:=I.base.tbls b ps e;obtain⟨m2,e2⟩:=tbls b _ e1;exact⟨m1++m2,by rw[e2,Array.append_assoc]⟩
  . obtain⟨m,hn,hl⟩:=I.loc;refine⟨m,ns m hn,λi x v e1 e2 e3=>?_⟩;obtain⟨u,r,l⟩:=hl i x v e1 e2 e3;refine⟨u,r,?_⟩;rcases l with l | ⟨k,c,e,z⟩
    . exact .inl l
    . exact .inr ⟨k,c,e,cellK x c e _ z⟩
  . obtain⟨v,z⟩:=I.cell x c e;exact⟨v,cellK x c e v z⟩
  . obtain⟨m,⟨o,_,_,ho,_⟩,_⟩:=I.loc;exact free _ o (λz=>(hch _ z).2.1 rfl) ho I.free
  . obtain⟨v,o,ho,hd⟩:=I.cell x c e;exact free c o (λz=>(hch c z).2.2.1 x c e rfl) ho (I.freeC x c e)
  . obtain⟨e,n,ne,nf,d⟩:=I.pin p hp;have nch:p.1 ∉ ch:=λz=>(hch p.1 z).2.2.2 p hp rfl;exact⟨keep p.1 p.2 ne nf nch e n,free p.1 p.2 nch e n,ne,nf,d⟩
theorem Inv.un(I:Inv X pk σ H s)(u:Un X.fs [] H H' s.heap h')(hok:lR X.prog X.w H' h'):Inv X pk σ H' { s with heap:=h',toks:=t' }:=by
  obtain⟨m,⟨o,es,ep,ho,r⟩,_⟩:=id I.loc;obtain⟨sl,hL⟩:=u.any ho I.free (by simp);exact I.step (g':=s.gens) (d':=s.drawn) (ch:=[]) (λ_ z=>nomatch z) (λb o _ hb _ e n=>u.keep b o e n hb (by simp)) (λb o _ hb _ e n=>u.slot b o e n hb (by simp)) (λb o _ e n=>u.free b o e n (by simp)) (λb o _ e=>u.there b o e (by simp)) u.tups u.frzs u.tbls (λm' hm=>by
    obtain⟨o',es',ep',ho',r'⟩:=hm;rw[ho] at ho';cases ho';exact⟨_,es',ep',hL,r'⟩) hok I.bare
theorem Inv.call(I:Inv X pk σ H s)(u:Un (frs X.stack) ch H H' s.heap h')(hok:lR X.prog X.w H' h')(hg:xh g')
    (hch:∀b∈ch,(b∈X.ex \/ X.s₀.heap.objs.size<=b)/\b≠X.env.locals/\(∀x c,X.env.cells.lookup x=aa c->c≠b) /\ ∀p∈X.pn++pk,p.1≠b):
    Inv X pk σ H' { s with heap:=h',gens:=g',drawn:=d',toks:=t' }:=by
  obtain⟨m,⟨o,es,ep,ho,r⟩,_⟩:=id I.loc;obtain⟨sl,hL⟩:=u.any ho I.free λz=>(hch _ z).2.1 rfl;exact I.step (ch:=ch) hch (λb o hL hb hc e n=>u.keep b o e n (λz=>(dm.mp (I.stkSub b z)).elim hL hb) hc) (λb o _ _ hc e n=>u.any e n hc) (λb o hc e n=>u.free b o e n hc) (λb o hc e=>u.there b o e hc) u.tups u.frzs u.tbls (λm' hm=>by
    obtain⟨o',es',ep',ho',r'⟩:=hm;rw[ho] at ho';cases ho';exact⟨_,es',ep',hL,r'⟩) hok hg
theorem Inv.turned(I:Inv X pk σ H s)(k:∀b o,b≠it->s.heap.get? b=aa o->h'.get? b=aa o)(hn:H it=ar)(hL:it≠X.env.locals)
    (h1:it∈X.ex \/ X.s₀.heap.objs.size<=it) (h2:∀x c,X.env.cells.lookup x=aa c->c≠it) (h3:∀p∈X.pn++pk,p.1≠it):Inv X pk σ H { s with heap:=h',toks:=t' }:=by
  have nit:∀b u,H b=aa u->b≠it:=λb u e z=>by rw[z,hn] at e;cases e
  refine I.step (g':=s.gens) (d':=s.drawn) (ch:=[it]) (λb hb=>?_) (λb o _ _ hc e _=>k b o (λz=>hc (by simp[z])) e) (λb o _ _ hc e _=>⟨o.slots,k b o (λz=>hc (by simp[z])) e⟩) (λ_ _ _ _ n=>n)
    (λb o hc e=>⟨o,k b o (λz=>hc (by simp[z])) e⟩) (λ_ _ e=>e) (λ_ _ _ e=>e) (λb ps e=>⟨#[],by rw[e];simp⟩) (λm hm=>?_) (λb u e=>?_) I.bare
  . have e:b=it:=by simpa using hb
    subst e;exact⟨h1,hL,h2,h3⟩
  . obtain⟨o,es,ep,ho,r⟩:=hm;exact⟨o,es,ep,k _ o (Ne.symm hL) ho,r⟩
  . refine(I.hok b u e).stay (λc v hc q=>k c v ?_ q) (λ_ q=>q) (λ_ _ q=>q) λ_ _ q=>q;rcases hc with z | z
    . rw[z];exact nit b u e
    . exact nit c _ z
theorem Inv.tok(I:Inv X pk σ H s)(t:Nat):Inv X pk σ H { s with toks:=t }:=I.un (h':=s.heap) (t':=t) Un.refl I.hok
theorem Inv.kept{t':Nat}(I:Inv X pk σ H s)(k:∀b u,s.heap.get? b=aa u->h'.get? b=aa u):Inv X pk σ H { s with heap:=h',toks:=t' }:=I.un (Un.kept k) (I.hok.kept k)
theorem Inv.laid{a:af}{o:HO}{t':Nat}(I:Inv X pk σ H s)(k:∀b u,s.heap.get? b=aa u->h'.get? b=aa u)(hp:s.heap.objs.size<=a)(new:cK X.prog X.w (upd H a o) h' a o):
    Inv X pk σ (upd H a o) { s with heap:=h',toks:=t' }:=I.un (Un.laid k hp (I.hok.fresh hp)) (I.hok.laid k hp new)
theorem Inv.write{x e:af}{o:HO}{t':Nat}(I:Inv X pk σ H s)(mu:Fx (H x))(he:e=x \/ H e=aa (.own x))(k:∀b u,b≠e->s.heap.get? b=aa u->h'.get? b=aa u)(heo:∃u,h'.get? e=aa u)
    (new:cK X.prog X.w (upd H x o) h' x o):Inv X pk σ (upd H x o) { s with heap:=h',toks:=t' }:=I.un (Un.write mu he k heo) (I.hok.write mu he k heo new)
theorem Inv.pins_of{pins':List (af×jv)}(I:Inv X pk σ H s)(h:∀p∈pins',s.heap.get? p.1=aa p.2/\H p.1=ar/\p.1≠X.env.locals/\p.1 ∉ X.fs /\ ∀v,p.2.data ≠ .cell v):Inv X pins' σ H s:=
  ⟨I.ok,I.os,I.bare,I.base,I.loc,I.cell,I.free,I.freeC,λp hp=>(fm.mp hp).elim (λz=>I.pin p (gr _ z)) (h p),I.hok,I.len,I.mild⟩
theorem vU(hN:N.Nodup){x:bw}(a:N[i]?=aa x)(b:N[j]?=aa x):i=j:=by
  obtain⟨h1,e1⟩:=cg.mp a;obtain⟨h2,e2⟩:=cg.mp b;exact(Xb hN).mp (e1.trans e2.symm)
theorem xS{x:bw}(I:Inv X pk σ H s)(hN:X.N.Nodup)(hi:X.N[i]?=aa x)(hx:G1 X.env.scope x)(r:cR v u)
    (h:∀s',Inv X pk (σ.set i (aa v)) H s'->(∃a,oz a s.heap s'.heap/\(a=X.env.locals \/ X.env.cells.lookup x=aa a))->Q () s') (hf:autoParam (X.fn x=aj \/ X.env.scope.names.lookup x=aa .local) Fz._auto_1):bu M A (YG X.env x u) Q E s:=by
  obtain⟨m,hn,hl⟩:=id I.loc;have hcls:(X.env.scope.kind == .class || (X.env.scope.kind == .module&&X.env.locals != X.env.globals))=ao:=by rw[I.ok.kind];rfl
  have hiσ:i<σ.length:=by rw[I.len];exact(cg.mp hi).1
  have cne:=I.cne;have tracked:∀{a:af} {h':dq},(∃o,s.heap.get? a=aa o/\H a=ar)->oz a s.heap h'->lR X.prog X.w H h':=λ{a h'} ha hs b ob e=>by
    obtain⟨_,_,hfree⟩:=ha;refine(I.hok b ob e).stay (λc w' hc q=>(hs.2 c ?_).trans q) (λ_ q=>q) (λ_ _ q=>q) λ_ _ q=>q;rintro rfl;rcases hc with rfl | hc
    . rw[hfree] at e;cases e
    . rw[hfree] at hc;cases hc
  rcases hx with hk | hk
  . refine wpAny_storeName_local hk hn (λh' hn' hs=>?_) hcls;obtain⟨oL,_,_,hoL,_⟩:=id hn;refine h _ ⟨I.ok,I.os,I.bare,⟨λb o e n hb hx=>?_,λb o e n hb hx=>?_,I.base.free,λb o e hx=>?_,I.base.tups,I.base.frzs,I.base.tbls⟩,⟨_,hn',λj y v' e1 e2 e3=>?_⟩,λy c e=>?_,I.free,I.freeC,λp hp=>?_,tracked ⟨oL,hoL,I.free⟩ hs,by simpa using I.len,I.mild⟩ ⟨_,hs,.inl rfl⟩
    . exact(hs.2 b (gq (fj (bg e) I.ok.above))).trans (I.base.keep b o e n hb hx)
    . obtain⟨sl,e1⟩:=I.base.slot b o e n hb hx;exact⟨sl,(hs.2 b (gq (fj (bg e) I.ok.above))).trans e1⟩
    . obtain⟨o',e1⟩:=I.base.there b o e hx;exact⟨o',(hs.2 b (gq (fj (bg e) I.ok.above))).trans e1⟩
    . by_cases hj:j=i
      . subst hj;rw[hi] at e1;cases e1;rw[jw hiσ] at e2;cases e2;exact⟨u,r,.inl ⟨hk,by simp⟩⟩
      . rw[gc (Ne.symm hj)] at e2;obtain⟨u',r',q⟩:=hl j y v' e1 e2 e3;refine⟨u',r',?_⟩;rcases q with⟨k,e⟩ | ⟨k,c,e,z⟩
        . refine .inl ⟨k,?_⟩;have:y≠x:=λe=>hj (vU hN e1 (e ▸ hi));simp[this,e]
        . exact .inr ⟨k,c,e,z.sameBut hs (cne y c e)⟩
    . obtain⟨w',z⟩:=I.cell y c e;exact⟨w',z.sameBut hs (cne y c e)⟩
    . obtain⟨e,n,ne,nf,d⟩:=I.pin p hp;exact⟨(hs.2 p.1 ne).trans e,n,ne,nf,d⟩
  . have hfn:X.fn x=aj:=by
      rcases hf with z | z
      . exact z
      . rw[z] at hk;cases hk
    obtain⟨c,hc⟩:=I.ok.has x (.inl hk);obtain⟨w',z⟩:=I.cell x c hc;refine wpAny_storeName_cell I.ok.kind hk hc z (λh' hc' hs=>?_);obtain⟨oc,hoc,hocd⟩:=id z;refine h { s with heap:=h' } ⟨I.ok,I.os,I.bare,⟨λb o e n hb hx=>?_,λb o e n hb hx=>?_,I.base.free,λb o e hx=>?_,I.base.tups,I.base.frzs,I.base.tbls⟩,⟨m,hn.sameBut hs (Ne.symm (cne x c hc)),λj y v' e1 e2 e3=>?_⟩,λy c' e=>?_,I.free,I.freeC,λp hp=>?_,tracked ⟨oc,hoc,I.freeC x c hc⟩ hs,by simpa using I.len,I.mild⟩ ⟨c,hs,.inr hc⟩
    . exact(hs.2 b (gq (fj (bg e) (I.ok.cab x c hfn hc)))).trans (I.base.keep b o e n hb hx)
    . obtain⟨sl,e1⟩:=I.base.slot b o e n hb hx;exact⟨sl,(hs.2 b (gq (fj (bg e) (I.ok.cab x c hfn hc)))).trans e1⟩
    . obtain⟨o',e1⟩:=I.base.there b o e hx;exact⟨o',(hs.2 b (gq (fj (bg e) (I.ok.cab x c hfn hc)))).trans e1⟩
    . by_cases hj:j=i
      . subst hj;rw[hi] at e1;cases e1;rw[jw hiσ] at e2;cases e2;exact⟨u,r,.inr ⟨.inl hk,c,hc,hc'⟩⟩
      . rw[gc (Ne.symm hj)] at e2;obtain⟨u',r',q⟩:=hl j y v' e1 e2 e3;refine⟨u',r',?_⟩;rcases q with q | ⟨k,c',e,z'⟩
        . exact .inl q
        . refine .inr ⟨k,c',e,z'.sameBut hs ?_⟩;rintro rfl;exact hj (vU hN e1 (I.ok.inj _ _ _ e hc ▸ hi))
    . by_cases hcc:c'=c
      . subst hcc;exact⟨_,hc'⟩
      . obtain⟨w2,z2⟩:=I.cell y c' e;exact⟨w2,z2.sameBut hs hcc⟩
    . obtain⟨e,n,ne,nf,d⟩:=I.pin p hp;refine⟨(hs.2 p.1 ?_).trans e,n,ne,nf,d⟩;intro q;rw[q,hoc] at e;have q':oc=p.2:=Option.some.inj e;exact d w' (by rw[<- q'];exact hocd)
theorem rM{x:bw}(I:Inv X pk σ H s)(hN:X.N.Nodup)(hi:X.N[i]?=aa x)(hx:G1 X.env.scope x)(r:cR v u)
    (h:∀s',Inv X pk (σ.set i (aa v)) H s'->Q () s') (hf:autoParam (X.fn x=aj \/ X.env.scope.names.lookup x=aa .local) Fz._auto_1):bu M A (YG X.env x u) Q E s:=
  xS I hN hi hx r (λs' I' _=>h s' I') hf
theorem Inv.call'(I:Inv X pk σ H s)(ho:s'.os=s.os)(u:Un (frs X.stack) ch H H' s.heap s'.heap)(hok:lR X.prog X.w H' s'.heap)(hg:xh s'.gens)
    (hch:∀b∈ch,(b∈X.ex \/ X.s₀.heap.objs.size<=b)/\b≠X.env.locals/\(∀x c,X.env.cells.lookup x=aa c->c≠b) /\ ∀p∈X.pn++pk,p.1≠b):Inv X pk σ H' s':=by
  obtain⟨h',g',d',t',o'⟩:=s';have e:o'=s.os:=ho;subst e;exact I.call (g':=g') (t':=t') (d':=d') u hok hg hch
end
noncomputable abbrev XK:=ah->Option af->Hp->Prop
noncomputable abbrev St:=List (Option V)
noncomputable abbrev VK:=V->Hp->Prop
noncomputable abbrev TE:=St->Hp->VK->Prop
noncomputable abbrev TT:=St->Hp->(Bool->Hp->Prop)->Prop
noncomputable abbrev TA:=St->Hp->(List V->Hp->Prop)->Prop
structure Ends where
  nx:St->Hp->Prop
  rt:VK
  bk:St->Hp->Prop:=λ_ _=>False
  ct:St->Hp->Prop:=λ_ _=>False
noncomputable abbrev TS:=Ends->St->Hp->Prop
inductive EP(X:Cx)(pk:List (af×jv))(σ:St)(Q:VK)(u:ah)(s':ai):Prop
  |mk (v:V) (H':Hp) (I:Inv X pk σ H' s') (r:cR v u) (q:Q v H')
inductive TP(X:Cx)(pk:List (af×jv))(σ:St)(Q:Bool->Hp->Prop)(b:Bool)(s':ai):Prop
  |mk (H':Hp) (I:Inv X pk σ H' s') (q:Q b H')
inductive AP(X:Cx)(pk:List (af×jv))(σ:St)(Q:List V->Hp->Prop)(us:List ah)(s':ai):Prop
  |mk (vs:List V) (H':Hp) (I:Inv X pk σ H' s') (r:bU vs us) (q:Q vs H')
inductive NP(X:Cx)(pk:List (af×jv))(P:St->Hp->Prop)(s':ai):Prop
  |mk (σ':St) (H':Hp) (I:Inv X pk σ' H' s') (q:P σ' H')
inductive RP(X:Cx)(pk:List (af×jv))(P:VK)(u:ah)(s':ai):Prop
  |mk (v:V) (σ':St) (H':Hp) (I:Inv X pk σ' H' s') (r:cR v u) (q:P v H')
noncomputable def SP(X:Cx)(pk:List (af×jv))(D:Ends)(f:Flow)(s':ai):Prop:=
  match f with
  | .next=>NP X pk D.nx s'
  | .brk=>NP X pk D.bk s'
  | .cont=>NP X pk D.ct s'
  | .ret u=>RP X pk D.rt u s'
noncomputable def PE(X:Cx)(e:Expr)(t:TE):Prop:=
  ∀(pk:List (af×jv)) (s:ai) (σ:St) (H:Hp) (Q:VK),Inv X pk σ H s->t σ H Q->bu (cf X.prog X.w) X.A (gn e X.env) (EP X pk σ Q) X.xe s
noncomputable def PT(X:Cx)(e:Expr)(t:TT):Prop:=
  ∀(pk:List (af×jv)) (s:ai) (σ:St) (H:Hp) (Q:Bool->Hp->Prop),Inv X pk σ H s->t σ H Q->bu (cf X.prog X.w) X.A (isTrue e X.env (gn e X.env)) (TP X pk σ Q) X.xe s
noncomputable def PW(X:Cx)(e:Expr)(t:TT):Prop:=
  ∀(ZZ:X8 ah) (pk:List (af×jv)) (s:ai) (σ:St) (H:Hp) (Q:Bool->Hp->Prop),Inv X pk σ H s->t σ H Q->bu (cf X.prog X.w) X.A (isTrue e X.env ZZ) (TP X pk σ Q) X.xe s
theorem PW.pt{t:TT}(h:PW X e t):PT X e t:=h _
noncomputable def PA(X:Cx)(es:List Expr)(t:TA):Prop:=
  ∀(pos:lv) (pk:List (af×jv)) (s:ai) (σ:St) (H:Hp) (Q:List V->Hp->Prop),Inv X pk σ H s->t σ H Q->bu (cf X.prog X.w) X.A (spliced (iu pos (av es X.env))) (AP X pk σ Q) X.xe s
noncomputable def PS(X:Cx)(st:kh)(t:TS):Prop:=
  ∀(pk:List (af×jv)) (s:ai) (σ:St) (H:Hp) (D:Ends),Inv X pk σ H s->t D σ H->bu (cf X.prog X.w) X.A (exec st X.env) (SP X pk D) X.xe s
noncomputable def uW(X:Cx)(st:List kh)(t:TS):Prop:=
  ∀(pk:List (af×jv)) (s:ai) (σ:St) (H:Hp) (D:Ends),Inv X pk σ H s->t D σ H->bu (cf X.prog X.w) X.A (execs st X.env) (SP X pk D) X.xe s
theorem thn{t:X8 α}{Q Q':α->ai->Prop}(h:bu M A t Q E s)(hQ:∀a s,Q a s->Q' a s):bu M A t Q' E s:=gv h hQ λ_ _ x=>x
variable {σ:St}{ta tb:TE}
section
noncomputable def zA(i:Nat):TE:=λσ H Q=>∃v,σ[i]?=aa (aa v)/\Q v H
noncomputable def tC(v:V):TE:=λ_ H Q=>Q v H
theorem MD{x:bw}{pos:lv}(hN:X.N[i]?=aa x)(hv:Py X.env.scope x)(hd:autoParam ((x==("__debug__" : bw))=ao) lS._auto_1)(hcd:autoParam ((x==("__classdict__" : bw))=ao) lS._auto_1):PE X (.Name x pos) (zA i):=by
  intro pk s σ H Q I h;obtain⟨v,e,h⟩:=h;obtain⟨m,hn,hl⟩:=I.loc;obtain⟨u,r,l⟩:=hl i x v hN e hv;have fin:EP X pk σ Q u s:=⟨v,H,I,r,h⟩;rcases l with⟨hk,hm⟩ | ⟨hk,c,hc,ZL⟩
  . exact Y9 (VS I.ok.kind hk hn hm fin) hd
  . rcases hk with hk | hk
    . exact Y9 (Wk I.ok.kind hk hc ZL fin) hd
    . exact Y9 (wpAny_loadName_free I.ok.kind hk hc ZL fin hcd) hd
theorem MK{i j pos}:PE X (.Constant (.int i) j pos) (tC (.int i)):=λ_ _ _ H _ I h=>wpAny_Constant_int ⟨.int i,H,I.tok _,⟨_,rfl⟩,h⟩
theorem Ob{b j pos}:PE X (.Constant (.bool b) j pos) (tC (.bl b)):=λ_ _ _ H _ I h=>Constant_bool ⟨.bl b,H,I,rfl,h⟩
theorem MG{x j pos}:PE X (.Constant (.str x) j pos) (tC (.str x)):=λ_ _ _ H _ I h=>Calls.Constant_str ⟨.str x,H,I.tok _,⟨_,rfl⟩,h⟩
noncomputable def Gl(X:Cx)(x:bw):Prop:=X.env.kindOf x=aa .globalImplicit
theorem mR{x:bw}{pos:lv}{Q:ah->ai->Prop}(I:Inv X pk σ H s)(hg:Gl X x)(hm:X.mg x=aa u)(h:Q u s)
    (hd:autoParam ((x==("__debug__" : bw))=ao) lS._auto_1):bu (cf X.prog X.w) X.A (gn (.Name x pos) X.env) Q E s:=
  xt I.ok.kind hg (Calls.loadGlobal_global (by rw[I.ok.glob];exact I.mod.glob.keeps I.bk) hm h) hd
theorem o9{x:bw}{pos:lv}{Q:ah->ai->Prop}(I:Inv X pk σ H s)(hg:Gl X x)(hm:X.mg x=ar)(hv:oy x=aa u)(h:Q u s)
    (hn:autoParam (x ≠ "__name__") lS._auto_1) (hd:autoParam ((x==("__debug__" : bw))=ao) lS._auto_1):bu (cf X.prog X.w) X.A (gn (.Name x pos) X.env) Q E s:=by
  obtain⟨mb,h1,h2⟩:=I.mod.blt;exact xt I.ok.kind hg (Calls.loadGlobal_builtin (by rw[I.ok.glob];exact I.mod.glob.keeps I.bk) hm (by rw[I.ok.blt];exact h1.keeps I.bk) ((h2 x hn).trans hv) h) hd
theorem Dt{x:bw}{pos:lv}(hg:Gl X x)(hm:X.mg x=aa u)(r:cR v u)(hd:autoParam ((x==("__debug__" : bw))=ao) lS._auto_1):PE X (.Name x pos) (tC v):=
  λ_ _ _ H _ I h=>mR I hg hm ⟨v,H,I,r,h⟩ hd
theorem p8{x:bw}{pos:lv}(hg:Gl X x)(hm:X.mg x=ar)(hv:oy x=aa u)(r:cR v u)(hn:autoParam (x ≠ "__name__") lS._auto_1)(hd:autoParam ((x==("__debug__" : bw))=ao) lS._auto_1):PE X (.Name x pos) (tC v):=
  λ_ _ _ H _ I h=>o9 I hg hm hv ⟨v,H,I,r,h⟩ hn hd
variable {a b:Expr}{pos:lv}
variable {tA tB':TT}{ZI:List Expr}
noncomputable def RR(t u:TT):TT:=λσ H Q=>t σ H λc H1=>if c=aj then u σ H1 Q else Q ao H1
noncomputable def UT(t u:TT):TT:=λσ H Q=>t σ H λc H1=>if c=aj then Q aj H1 else u σ H1 Q
noncomputable def RJ(t:TT):TT:=λσ H Q=>t σ H λc H1=>Q (!c) H1
theorem JI(ha:PT X a tA):PW X (.BoolOp .And [a] pos) tA:=by
  intro wh pk s σ H Q I h;refine isTrue_and (thn (ha pk s σ H Q I h) λc s1 e=>?_);cases c with
  |true=>exact isTrue_and_nil e
  |false=>exact e
theorem Lz(ha:PT X a tA):PW X (.BoolOp .Or [a] pos) tA:=by
  intro wh pk s σ H Q I h;refine isTrue_or (thn (ha pk s σ H Q I h) λc s1 e=>?_);cases c with
  |false=>exact isTrue_or_nil e
  |true=>exact e
theorem M0(ha:PT X a tA)(hb:PW X (.BoolOp .And (b::ZI) pos) tB'):PW X (.BoolOp .And (a::b::ZI) pos) (RR tA tB'):=by
  intro wh pk s σ H Q I h;refine isTrue_and (thn (ha pk s σ H _ I h) λc s1 zz=>?_);obtain⟨H1,I1,q1⟩:=zz;cases c with
  |true=>exact hb wh pk s1 σ H1 Q I1 q1
  |false=>exact⟨H1,I1,q1⟩
theorem OV(ha:PT X a tA)(hb:PW X (.BoolOp .Or (b::ZI) pos) tB'):PW X (.BoolOp .Or (a::b::ZI) pos) (UT tA tB'):=by
  intro wh pk s σ H Q I h;refine isTrue_or (thn (ha pk s σ H _ I h) λc s1 zz=>?_);obtain⟨H1,I1,q1⟩:=zz;cases c with
  |true=>exact⟨H1,I1,q1⟩
  |false=>exact hb wh pk s1 σ H1 Q I1 q1
theorem M4(ha:PT X a tA):PT X (.UnaryOp .Not a pos) (RJ tA):=by
  intro pk s σ H Q I h;exact isTrue_not (thn (ha pk s σ H (λc H1=>Q (!c) H1) I h) λc s' z=>by cases z;exact⟨_,by assumption,by assumption⟩)
noncomputable def Nw(ta tb:TE):TE:=λσ H Q=>ta σ H λx H1=>∃c,x=.bl c/\if c=aj then tb σ H1 Q else Q (.bl ao) H1
noncomputable def RI(ta tb:TE):TE:=λσ H Q=>ta σ H λx H1=>∃c,x=.bl c/\if c=aj then Q (.bl aj) H1 else tb σ H1 Q
noncomputable def No(ta:TE):TE:=λσ H Q=>ta σ H λx H1=>∃c,x=.bl c/\Q (.bl (!c)) H1
theorem MH{op}{t:TE}(h:PE X a t):PE X (.BoolOp op [a] pos) t:=λpk s σ H Q I hw=>BoolOp_one (h pk s σ H Q I hw)
theorem MN(ha:PE X a ta)(hb:PE X (.BoolOp .And (b::ZI) pos) tb):PE X (.BoolOp .And (a::b::ZI) pos) (Nw ta tb):=by
  intro pk s σ H Q I h;refine BoolOp_and (thn (ha pk s σ H _ I h) λv s1 zz=>?_);obtain⟨x,H1,I1,r1,q1⟩:=zz;obtain⟨c,rfl,q1⟩:=q1;cases r1;refine io ?_;cases c with
  |true=>exact hb pk s1 σ H1 Q I1 q1
  |false=>exact⟨.bl ao,H1,I1,rfl,q1⟩
theorem OY(ha:PE X a ta)(hb:PE X (.BoolOp .Or (b::ZI) pos) tb):PE X (.BoolOp .Or (a::b::ZI) pos) (RI ta tb):=by
  intro pk s σ H Q I h;refine BoolOp_or (thn (ha pk s σ H _ I h) λv s1 zz=>?_);obtain⟨x,H1,I1,r1,q1⟩:=zz;obtain⟨c,rfl,q1⟩:=q1;cases r1;refine io ?_;cases c with
  |false=>exact hb pk s1 σ H1 Q I1 q1
  |true=>exact⟨.bl aj,H1,I1,rfl,q1⟩
theorem MI(ha:PE X a ta):PE X (.UnaryOp .Not a pos) (No ta):=by
  intro pk s σ H Q I h;refine UnaryOp_ (thn (ha pk s σ H _ I h) λv s1 zz=>?_);obtain⟨x,H1,I1,r1,q1⟩:=zz;obtain⟨c,rfl,q1⟩:=q1;cases r1;exact not_of (io ⟨.bl (!c),H1,I1,rfl,q1⟩)
end
noncomputable def gK(K:ap)(H:Hp)(a:af)(xs:List V):Prop:=
  Rd H a (.lst xs) \/
    ∃(o:jv) (its:Array ah) (n:Nat),K.lookup a=aa o/\o.cls=.type "list" /\ o.dict=ar/\o.data=.seq its n/\its.size<=bv/\bU xs its.toList
noncomputable def pL(K:ap)(H:Hp)(a:af)(xs:List V):Prop:=
  Rd H a (.tup xs) \/
    ∃(o:jv) (its:Array ah) (n:Nat),K.lookup a=aa o/\o.cls=.type "tuple" /\ o.data=.seq its n/\its.size<=bv/\bU xs its.toList
noncomputable def TZ:ah->Option V
  | .none=>aa .non
  | .bool b=>aa (.bl b)
  | .int i _=>aa (.int i)
  | .str x _=>aa (.str x)
  | .bytes b _=>aa (.byt b)
  | .float b _=>aa (.flt b)
  | .ref a=>aa (.ref a)
  | .type n=>aa (.ty n)
  |_=>ar
theorem cR.abs{x:V}(r:cR x u):TZ u=aa x:=by
  cases x with
  |non=>cases r;rfl
  |bl _=>cases r;rfl
  |int _=>obtain⟨t,rfl⟩:=r;rfl
  |str _=>obtain⟨t,rfl⟩:=r;rfl
  |byt _=>obtain⟨t,rfl⟩:=r;rfl
  |flt _=>obtain⟨t,rfl⟩:=r;rfl
  |ref _=>cases r;rfl
  |ty _=>cases r;rfl
theorem cR.inj{x y:V}{u:ah}(r:cR x u)(q:cR y u):x=y:=Option.some.inj (r.abs.symm.trans q.abs)
theorem bU.inj:∀{xs ys:List V} {us:List ah},bU xs us->bU ys us->xs=ys
  |_,_,_,.nil,.nil=>rfl
  |_,_,_,.cons r t,.cons r' t'=>by rw[r.inj r',bU.inj t t']
section
variable {xs ys:List V}
theorem gK.of(h:H a=aa (.lst xs)):gK K H a xs:=.inl (.inl h)
theorem pL.of(h:H a=aa (.tup xs)):pL K H a xs:=.inl (.inl h)
theorem Inv.list(I:Inv X pk σ H s)(h:gK X.K H a xs):∃its:List ah,bU xs its/\PlainL s.heap a its.toArray/\xs.length<=bv:=by
  rcases h with h | ⟨o,its,n,hk,hc,hd,hs,hz,r⟩
  . obtain⟨z,its,n,r,e⟩:=h.ok I.hok;exact⟨its,r,⟨_,n,e,rfl,rfl,rfl⟩,z⟩
  . refine⟨its.toList,r,⟨o,n,I.kIn a o hk,hc,hd,by simpa using hs⟩,?_⟩;have e:=r.length;simp only[ui] at e;right
theorem Inv.tuple(I:Inv X pk σ H s)(h:pL X.K H a xs):∃its:List ah,bU xs its/\IsTup s.heap a its.toArray/\xs.length<=bv:=by
  rcases h with h | ⟨o,its,n,hk,hc,hs,hz,r⟩
  . obtain⟨z,its,r,p⟩:=h.ok I.hok;exact⟨its,r,p,z⟩
  . refine⟨its.toList,r,⟨o,I.kIn a o hk,hc,n,by simpa using hs⟩,?_⟩;have e:=r.length;simp only[ui] at e;right
theorem Inv.list_inj(I:Inv X pk σ H s)(h:gK X.K H a xs)(h':gK X.K H a ys):xs=ys:=by
  obtain⟨its,r,⟨o,n,e,_,_,d⟩,_⟩:=I.list h;obtain⟨its',r',⟨o',n',e',_,_,d'⟩,_⟩:=I.list h';rw[e] at e';cases e';rw[d] at d';injection d' with d1 _;have:its=its':=by simpa using congrArg YR d1
  subst this;exact r.inj r'
theorem Inv.tuple_inj(I:Inv X pk σ H s)(h:pL X.K H a xs)(h':pL X.K H a ys):xs=ys:=by
  obtain⟨its,r,⟨o,e,_,n,d⟩,_⟩:=I.tuple h;obtain⟨its',r',⟨o',e',_,n',d'⟩,_⟩:=I.tuple h';rw[e] at e';cases e';rw[d] at d';injection d' with d1 _;have:its=its':=by simpa using congrArg YR d1
  subst this;exact r.inj r'
end
noncomputable abbrev Cx.wish(X:Cx)(E:ah->ai->Prop):Cx:={ X with xe:=E }
noncomputable abbrev Cx.nox(X:Cx):Cx:=X.wish λ_ _=>False
theorem Cx.Ok.wish{X:Cx}(ok:X.Ok)(E:ah->ai->Prop):(X.wish E).Ok:=
  ⟨ok.mod,ok.kind,ok.glob,ok.blt,ok.above,ok.inj,ok.has,ok.cab,ok.hd,ok.frames,ok.stk,ok.exf,ok.bs,ok.bsz,ok.noex,ok.exfs,ok.funs,ok.frf,ok.hq⟩
theorem Cx.Ok.unwish(ok:(X.wish E).Ok):X.Ok:=
  ⟨ok.mod,ok.kind,ok.glob,ok.blt,ok.above,ok.inj,ok.has,ok.cab,ok.hd,ok.frames,ok.stk,ok.exf,ok.bs,ok.bsz,ok.noex,ok.exfs,ok.funs,ok.frf,ok.hq⟩
theorem Inv.wish(I:Inv X pk σ H s)(E:ah->ai->Prop):Inv (X.wish E) pk σ H s:=⟨I.ok.wish E,I.os,I.bare,I.base,I.loc,I.cell,I.free,I.freeC,I.pin,I.hok,I.len,I.mild⟩
theorem Inv.unwish(I:Inv (X.wish E) pk σ H s):Inv X pk σ H s:=⟨I.ok.unwish,I.os,I.bare,I.base,I.loc,I.cell,I.free,I.freeC,I.pin,I.hok,I.len,I.mild⟩
theorem SP.unwish{D:Ends}{f:Flow}{s':ai}(h:SP (X.wish E) pk D f s'):SP X pk D f s':=by
  cases f with
  |next=>obtain⟨σ',H',I,q⟩:=h;exact⟨σ',H',I.unwish,q⟩
  |brk=>obtain⟨σ',H',I,q⟩:=h;exact⟨σ',H',I.unwish,q⟩
  |cont=>obtain⟨σ',H',I,q⟩:=h;exact⟨σ',H',I.unwish,q⟩
  |ret u=>obtain⟨v,σ',H',I,r,q⟩:=h;exact⟨v,σ',H',I.unwish,r,q⟩
theorem uW.nox{st:List kh}{t:TS}(h:uW X.nox st t):uW X st t:=λpk s σ H D I hw=>
  gv (h pk s σ H D (I.wish _) hw) (λ_ _ q=>q.unwish) λ_ _ z=>ii z
variable {te:TE}
section
variable {st:kh}{ZI:List kh}{t u:TS}{pos:lv}
noncomputable def Nq:TS:=λD σ H=>D.nx σ H
noncomputable def RG(t u:TS):TS:=λD σ H=>t { D with nx:=u D } σ H
theorem JQ:uW X [] Nq:=λ_ _ σ H _ I h=>wr ⟨σ,H,I,h⟩
theorem BA(h1:PS X st t)(h2:uW X ZI u):uW X (st::ZI) (RG t u):=by
  intro pk s σ H D I h;refine V7 (thn (h1 pk s σ H { D with nx:=u D } I h) λf s1 q=>?_);cases f with
  |next=>
    obtain⟨σ',H',I',q⟩:=q;exact h2 pk s1 σ' H' D I' q
  |ret v=>exact q
  |brk=>exact q
  |cont=>exact q
theorem Dq(h1:PS X st t):uW X [st] t:=by
  intro pk s σ H D I h;refine V7 (thn (h1 pk s σ H D I h) λf s1 q=>?_);cases f with
  |next=>exact wr q
  |ret v=>exact q
  |brk=>exact q
  |cont=>exact q
noncomputable def Lf:TS:=λD σ H=>D.bk σ H
theorem Gd:PS X (.Break pos) Lf:=λ_ _ σ H _ I h=>wpAny_Break ⟨σ,H,I,h⟩
theorem Inv.quiet(I:Inv X pk σ H s):interactive X.env=ao:=by simp[interactive,I.ok.kind]
noncomputable def Nt(te:TE):TS:=λD σ H=>te σ H λ_ H1=>D.nx σ H1
theorem uJ(he:PE X e te)(hs:autoParam (ix e ar pos.line X.env=jo ao) c8._auto_1):PS X (.Expr e pos) (Nt te):=by
  intro pk s σ H D I h;exact VT (thn (he pk s σ H _ I h) λv s1 zq3=>by obtain⟨x,H1,I1,r1,q1⟩:=zq3;exact⟨σ,H1,I1,q1⟩) I.quiet hs
noncomputable def RH(te:TE):TS:=λD σ H=>te σ H D.rt
theorem M7(he:PE X e te):PS X (.Return (aa e) pos) (RH te):=by
  intro pk s σ H D I h;exact wpAny_Return_some (thn (he pk s σ H _ I h) λv s1 zq4=>by obtain⟨x,H1,I1,r1,q1⟩:=zq4;exact⟨x,σ,H1,I1,r1,q1⟩)
noncomputable def RL(c:TT)(t u:TS):TS:=λD σ H=>c σ H λb H1=>if b=aj then t D σ H1 else u D σ H1
theorem L5{c:Expr}{a b:List kh}{tc:TT}(hc:PT X c tc)(ha:uW X a t)(hb:uW X b u):PS X (.If c a b pos) (RL tc t u):=by
  intro pk s σ H D I h;refine wpAny_If (thn (hc pk s σ H _ I h) λd s1 zz=>?_);obtain⟨H1,I1,q1⟩:=zz;cases d with
  |true=>exact ha pk s1 σ H1 D I1 q1
  |false=>exact hb pk s1 σ H1 D I1 q1
noncomputable def Lc:TS:=λ_ _ _=>False
theorem GY:PS X st Lc:=λ_ _ _ _ _ _ h=>h.elim
end
noncomputable abbrev TG:=V->St->Hp->(St->Hp->Prop)->Prop
noncomputable abbrev LR:=List V->St->Hp->(St->Hp->Prop)->Prop
noncomputable def PG(X:Cx)(target:Expr)(t:TG):Prop:=
  ∀(pk:List (af×jv)) (s:ai) (σ:St) (H:Hp) (v:V) (u:ah) (Q:St->Hp->Prop),Inv X pk σ H s->cR v u->t v σ H Q ->
    bu (cf X.prog X.w) X.A (Yb target X.env u) (λ_ s'=>∃σ' H',Inv X pk σ' H' s'/\Q σ' H') X.xe s
noncomputable def Q4(X:Cx)(ts:List Expr)(t:LR):Prop:=
  ∀(pk:List (af×jv)) (s:ai) (σ:St) (H:Hp) (vs:List V) (us:List ah) (Q:St->Hp->Prop),Inv X pk σ H s->bU vs us->t vs σ H Q ->
    bu (cf X.prog X.w) X.A (assignInOrder ((we ts X.env).map (·.2)) us) (λ_ s'=>∃σ' H',Inv X pk σ' H' s'/\Q σ' H') X.xe s
noncomputable abbrev xM:=V->V->Hp->VK->Prop
noncomputable def Ut(X:Cx)(op:VU)(t:xM):Prop:=
  ∀(pk:List (af×jv)) (s:ai) (σ:St) (H:Hp) (x y:V) (v u:ah) (Q:VK),Inv X pk σ H s->cR x v->cR y u->t x y H Q ->
    bu (cf X.prog X.w) X.A (We op v u) (EP X pk σ Q) X.xe s
variable {ZT:lv}
section
variable {pos:lv}
noncomputable def Bu(i:Nat):TG:=λv σ H Q=>Q (σ.set i (aa v)) H
theorem dZ{x:bw}(hN:X.N.Nodup)(hi:X.N[i]?=aa x)(hx:G1 X.env.scope x)(hf:autoParam (X.fn x=aj \/ X.env.scope.names.lookup x=aa .local) Fz._auto_1):PG X (.Name x pos) (Bu i):=by
  intro pk s σ H v u Q I r h;exact WN (rM I hN hi hx r (λs' I'=>⟨_,H,I',h⟩) hf)
noncomputable def PU:LR:=λvs σ H Q=>vs=[]/\Q σ H
noncomputable def LF(t:TG)(u:LR):LR:=λvs σ H Q=>∃v r,vs=v::r/\t v σ H λσ' H'=>u r σ' H' Q
theorem mO:Q4 X [] PU:=by
  intro pk s σ H vs us Q I r h;obtain⟨e,h⟩:=h;subst e;cases r;exact assignInOrder_nil ⟨σ,H,I,h⟩
theorem dD{t:TG}{u:LR}(h1:PG X e t)(h2:Q4 X es u)
    (hs:autoParam ((we (e::es) X.env).map (·.2)=Yb e X.env::(we es X.env).map (·.2)) c8._auto_1):Q4 X (e::es) (LF t u):=by
  intro pk s σ H vs us Q I r h;obtain⟨v,vr,e1,h⟩:=h;subst e1;cases r with
  |cons r rr=>
    rw[hs];refine assignInOrder_cons (thn (h1 pk s σ H _ _ _ I r h) λ_ s1 zz=>?_);obtain⟨σ1,H1,I1,q1⟩:=zz;exact h2 pk s1 σ1 H1 _ _ Q I1 rr q1
noncomputable def Sx(K:ap)(n:Nat)(t:LR):TG:=λv σ H Q=>∃a xs,v=.ref a/\pL K H a xs/\xs.length=n/\t xs σ H Q
theorem MC{k:Nat}{t:LR}(hc:X.calm=aj)(h:Q4 X es t)
    (hn:autoParam ((we es X.env).length=n) c8._auto_1) (hst:autoParam ((we es X.env).findIdx? (·.1)=ar) c8._auto_1):PG X (.Tuple es k pos) (Sx X.K n t):=by
  intro pk s σ H v u Q I r hw;obtain⟨a,xs,e1,hq,hl,hw⟩:=hw;subst e1;cases r;obtain⟨its,rv,ht,hz⟩:=I.tuple hq;refine assign_Tuple_tuple (I.ok.hd hc) ht (by simp[hn,<- hl,rv.length]) hst λh' hx=>?_;have I1:Inv X pk σ H { s with heap:=h' }:=I.kept (t':=s.toks) λb o e=>hx b o (gq (bg e)) e;exact h pk _ σ H xs _ Q I1 (by simpa using rv) hw
noncomputable def Lg(te:TE)(g:TG):TS:=λD σ H=>te σ H λx H1=>g x σ H1 D.nx
theorem GW{x:bw}(hN:X.N.Nodup)(hi:X.N[i]?=aa x)(hx:G1 X.env.scope x)(he:PE X e te)(hs:autoParam (ix e (aa (.Name x ZT)) pos.line X.env=jo ao) c8._auto_1)(hf:autoParam (X.fn x=aj \/ X.env.scope.names.lookup x=aa .local) Fz._auto_1):
    PS X (.Assign [.Name x ZT] e pos) (Lg te (Bu i)):=by
  intro pk s σ H D I h;refine wpAny_Assign_Name (thn (he pk s σ H _ I h) λv s1 ⟨y,H1,I1,r1,q1⟩=>?_) hs;exact rM I1 hN hi hx r1 (λs2 I2=>⟨_,H1,I2,q1⟩) hf
noncomputable def RQ(i:Nat)(te:TE)(ti:xM):TS:=λD σ H=>∃x,σ[i]?=aa (aa x)/\te σ H λy H1=>ti x y H1 λz H2=>D.nx (σ.set i (aa z)) H2
theorem M9{x:bw}{op:VU}{ti:xM}(hN:X.N.Nodup)(hi:X.N[i]?=aa x)(hx:G1 X.env.scope x)(he:PE X e te)(ho:Ut X op ti)(hf:autoParam (X.fn x=aj \/ X.env.scope.names.lookup x=aa .local) Fz._auto_1):
    PS X (.AugAssign (.Name x ZT) op e pos) (RQ i te ti):=by
  intro pk s σ H D I h;obtain⟨v,e1,h⟩:=h;obtain⟨m,hn,hl⟩:=I.loc;have vis:Py X.env.scope x:=by rcases hx with k | k;exact .inl k;exact .inr (.inl k)
  obtain⟨u,r,l⟩:=hl i x v hi e1 vis;refine wpAny_AugAssign_Name ?_;have go:bu (cf X.prog X.w) X.A (gn e X.env) (λw s₂=>bu (cf X.prog X.w) X.A (We op u w) (λr s₃=>bu (cf X.prog X.w) X.A (YG X.env x r) (λ_=>SP X pk D .next) X.xe s₃) X.xe s₂) X.xe s:=by
    refine thn (he pk s σ H _ I h) λw s1 zz=>?_;obtain⟨y,H1,I1,r1,q1⟩:=zz;refine thn (ho pk s1 σ H1 v y u w _ I1 r r1 q1) λz s2 zz=>?_;obtain⟨zv,H2,I2,r2,q2⟩:=zz;exact rM I2 hN hi hx r2 (λs3 I3=>⟨_,H2,I3,q2⟩) hf
  rcases l with⟨hk,hm⟩ | ⟨hk,c,hc,ZL⟩
  . exact VS I.ok.kind hk hn hm go
  . rcases hk with hk | hk
    . exact Wk I.ok.kind hk hc ZL go
    . rcases hx with k | k
      . have:X.env.scope.names.lookup x=aa .free:=hk;rw[k] at this;cases this
      . have:X.env.scope.names.lookup x=aa .free:=hk;rw[k] at this;cases this
end
structure It where
  go:Nat->Hp->Prop
  yld:Nat->Hp->V->Hp->Prop
  stop:Nat->Hp->Prop
noncomputable def wT(X:Cx)(pk:List (af×jv))(H:Hp)(b:af):Prop:=
  H b=ar/\b≠X.env.locals/\b ∉ X.fs/\(b∈X.ex \/ X.s₀.heap.objs.size<=b)/\(∀x c,X.env.cells.lookup x=aa c->c≠b) /\ ∀p∈X.pn++pk,p.1≠b
theorem Inv.fpOk(I:Inv X pk σ H s)(hb:s.heap.objs.size<=b)(hn:H' b=ar):wT X pk H' b:=by
  refine⟨hn,VP (fj I.lt hb),I.nofs hb,.inr (ly I.sz hb),λx c e z=>?_,λp hp z=>?_⟩
  . obtain⟨v,q⟩:=I.cell x c e;exact absurd (fj q.lt (by rw[z];exact hb)) (qg _)
  . exact absurd (fj (bg (I.pin p hp).1) (by rw[z];exact hb)) (qg _)
structure Turn(P:ay)(w:bz)(K:ap)(tg:Expr)(J:It)(fp:List af)(it:af)(tn:Nat->dq->Prop):Prop where
  mem:it∈fp
  obj:∀i h,tn i h -> ∀b∈fp,∃o,h.get? b=aa o /\ ∀v,o.data ≠ .cell v
  keep:∀i h h',tn i h->(∀b∈fp,∀o,h.get? b=aa o->h'.get? b=aa o)->tn i h'
  item:∀(X:Cx),X.prog=P->X.w=w->X.K=K->X.N=X.N -> ∀(i:Nat) (pk:List (af×jv)) (s:ai) (σ:St) (H:Hp) (E:ah->ai->Prop),Inv X pk σ H s->(∀b∈fp,wT X pk H b)->tn i s.heap->J.go i H ->
    bu (cf P w) X.A (sv (.ref it)) (λr s1=>∃u,r=aa u /\
      bu (cf P w) X.A (wt tg (.ref it) u) (λ_ s2=>∃x H',Inv X pk σ H' s2/\cR x u/\J.yld i H x H'/\tn (i+1) s2.heap /\ ∀b∈fp,H' b=ar) E s1) E s
  done:∀(X:Cx),X.prog=P->X.w=w->X.K=K->X.N=X.N -> ∀(i:Nat) (pk:List (af×jv)) (s:ai) (σ:St) (H:Hp) (E:ah->ai->Prop),Inv X pk σ H s->(∀b∈fp,wT X pk H b)->tn i s.heap->J.stop i H ->
    bu (cf P w) X.A (sv (.ref it)) (λr s1=>r=ar/\Inv X pk σ H s1) E s
  self:∀(A:dj) (i:Nat) (s:ai) (Q:ah->ai->Prop) (E:ah->ai->Prop),tn i s.heap->Q (.ref it) s->bu (cf P w) A (Zr (.ref it)) Q E s
noncomputable abbrev TI:=St->Hp->(It->Hp->Prop)->Prop
noncomputable def UK(X:Cx)(pk:List (af×jv))(σ:St)(tg:Expr)(R:It->Hp->Prop)(itv:ah)(s2:ai):Prop:=
  ∃(it:af) (fp:List af) (tn:Nat->dq->Prop) (J:It) (H':Hp),itv=.ref it/\Inv X pk σ H' s2/\Turn X.prog X.w X.K tg J fp it tn/\tn 0 s2.heap/\(∀b∈fp,wT X pk H' b)/\R J H'
noncomputable def PI(X:Cx)(tg iter:Expr)(wi:TI):Prop:=
  ∀(pk:List (af×jv)) (s:ai) (σ:St) (H:Hp) (R:It->Hp->Prop),Inv X pk σ H s->wi σ H R ->
    bu (cf X.prog X.w) X.A (gn iter X.env) (λv s1=>bu (cf X.prog X.w) X.A (Zr v) (UK X pk σ tg R) X.xe s1) X.xe s
theorem Bs{n:String}{vs:Array ah}(ho:s.heap.get? it=aa o)(hc:o.cls=.type n)(hd:o.data=.fields vs)
    (hn:["enumerate", "zip", "dict_itemiterator", "dict_reverseitemiterator", "odict_iterator", "itertools.zip_longest", "itertools.pairwise"].contains n=ao) (hQ:Q () s):bu M A (wt tg (.ref it) u) Q E s:=by
  unfold wt;cases tg<;>first
    |exact ak hQ
    | (cases u<;>first
        |exact ak hQ
        | (refine ae (Y5 ho ?_)
           rw[hc,hd];show bu M A (if (["enumerate", "zip", "dict_itemiterator", "dict_reverseitemiterator", "odict_iterator", "itertools.zip_longest", "itertools.pairwise"].contains n&&vs[0]?==aa (sh _))=aj then _ else _) Q E s;rw[Zg (by intro h;rw[hn,xu] at h;cases h)];exact ak hQ))
noncomputable def Q6(K:ap)(a:af):It:=
  ⟨λi H=>∃xs x,gK K H a xs/\xs[i]?=aa x,λi H x H'=>H'=H /\ ∀xs,gK K H a xs->xs[i]?=aa x,λi H=>∃xs,gK K H a xs/\xs.length<=i⟩
noncomputable def Tf(K:ap)(a:af):It:=
  ⟨λi H=>∃xs x,pL K H a xs/\xs[i]?=aa x,λi H x H'=>H'=H /\ ∀xs,pL K H a xs->xs[i]?=aa x,λi H=>∃xs,pL K H a xs/\xs.length<=i⟩
noncomputable def Q5(lo:Int)(n:Nat):It:=⟨λi _=>i<n,λi H x H'=>H'=H/\x=.int (lo+i),λi _=>n<=i⟩
theorem EX(a it:af):Turn P w K tg (Q6 K a) [it] it (λi h=>h.IsListIter it a i) where
  mem:=by simp
  obj:=λi h st b hb=>by
    have e:b=it:=by simpa using hb
    subst e;obtain⟨o,e,c,d⟩:=st;exact⟨o,e,λv z=>by rw[d] at z;cases z⟩
  keep:=λi h h' st k=>st.at λo e=>k it (by simp) o e
  item:=by
    intro X hP hw hK hc i pk s σ H E I hf st hg;subst hP hw hK;obtain⟨xs,x,hq,hx⟩:=hg;obtain⟨its,rv,p,hz⟩:=I.list hq;obtain⟨u,hu,ru⟩:=rv.get hx;obtain⟨f0,f1,f2,f3,f4,f5⟩:=hf it (by simp);refine Vl st p.isList (x:=u) (by simpa using hu) λh' st' sb=>?_;have I1:Inv X pk σ H { s with heap:=h' }:=I.turned (t':=s.toks) (λb o hb e=>(sb.2 b hb).trans e) f0 f1 f3 f4 f5;obtain⟨o,e,c,d⟩:=id st';exact⟨u,rfl,Bs (s:={ s with heap:=h' }) e c d ∅ ⟨x,H,I1,ru,⟨rfl,λys hy=>by rw[I.list_inj hy hq];exact hx⟩,st',λb hb=>(hf b hb).1⟩⟩
  done:=by
    intro X hP hw hK hc i pk s σ H E I hf st hg;subst hP hw hK;obtain⟨xs,hq,hx⟩:=hg;obtain⟨its,rv,p,hz⟩:=I.list hq;obtain⟨f0,f1,f2,f3,f4,f5⟩:=hf it (by simp);have hl:=rv.length;exact Bz I.qu st p.isList (by simp;right) λh' eb=>⟨rfl,I.turned (t':=s.toks) (λb o hb e=>eb b o hb e) f0 f1 f3 f4 f5⟩
  self:=λ_ _ _ _ _ st h=>VG st h
theorem CU(a it:af):Turn P w K tg (Tf K a) [it] it (λi h=>h.IsTupleIter it a i) where
  mem:=by simp
  obj:=λi h st b hb=>by
    have e:b=it:=by simpa using hb
    subst e;obtain⟨o,e,c,d⟩:=st;exact⟨o,e,λv z=>by rw[d] at z;cases z⟩
  keep:=λi h h' st k=>st.at λo e=>k it (by simp) o e
  item:=by
    intro X hP hw hK hc i pk s σ H E I hf st hg;subst hP hw hK;obtain⟨xs,x,hq,hx⟩:=hg;obtain⟨its,rv,p,hz⟩:=I.tuple hq;obtain⟨u,hu,ru⟩:=rv.get hx;obtain⟨f0,f1,f2,f3,f4,f5⟩:=hf it (by simp);refine wpAny_pyNext_tuple_item st (show s.heap.IsTuple a its.toArray from p) (x:=u) (by simpa using hu) λh' st' sb=>?_;have I1:Inv X pk σ H { s with heap:=h' }:=I.turned (t':=s.toks) (λb o hb e=>(sb.2 b hb).trans e) f0 f1 f3 f4 f5;obtain⟨o,e,c,d⟩:=id st';exact⟨u,rfl,Bs (s:={ s with heap:=h' }) e c d ∅ ⟨x,H,I1,ru,⟨rfl,λys hy=>by rw[I.tuple_inj hy hq];exact hx⟩,st',λb hb=>(hf b hb).1⟩⟩
  done:=by
    intro X hP hw hK hc i pk s σ H E I hf st hg;subst hP hw hK;obtain⟨xs,hq,hx⟩:=hg;obtain⟨its,rv,p,hz⟩:=I.tuple hq;obtain⟨f0,f1,f2,f3,f4,f5⟩:=hf it (by simp);have hl:=rv.length;exact Ff I.qu st (show s.heap.IsTuple a its.toArray from p) (by simp;right) λh' eb=>⟨rfl,I.turned (t':=s.toks) (λb o hb e=>eb b o hb e) f0 f1 f3 f4 f5⟩
  self:=λ_ _ _ _ _ st h=>wpAny_pyIter_tupleiter st h
theorem CV(it:af)(lo:Int)(n:Nat):Turn P w K tg (Q5 lo n) [it] it (λi h=>uw h it (lo+(i:Nat)*1) ((n:Int)-(i:Nat)) 1) where
  mem:=by simp
  obj:=λi h st b hb=>by
    have e:b=it:=by simpa using hb
    subst e;exact⟨_,st,λv z=>by
      have z':Zc _=Data.cell v:=z;cases z'⟩
  keep:=λi h h' st k=>k it (by simp) _ st
  item:=by
    intro X hP hw hK hc i pk s σ H E I hf st hg;subst hP hw hK;obtain⟨f0,f1,f2,f3,f4,f5⟩:=hf it (by simp);refine w6 hg st λv h' tk hv st' kk=>?_;obtain⟨t,rfl⟩:=hv;have I1:Inv X pk σ H { s with heap:=h',toks:=tk }:=I.turned (λb o hb e=>kk b o (by simpa using hb) e) f0 f1 f3 f4 f5;refine⟨_,rfl,Bs (s:={ s with heap:=h',toks:=tk }) (n:="range_iterator") st' rfl rfl ∅ ⟨.int (lo+i),H,I1,⟨t,?_⟩,⟨rfl,rfl⟩,st',λb hb=>(hf b hb).1⟩⟩;rw[Zd]
  done:=by
    intro X hP hw hK hc i pk s σ H E I hf st hg;subst hP hw hK;obtain⟨f0,f1,f2,f3,f4,f5⟩:=hf it (by simp);exact yM I.qu st (by have:n<=i:=hg;right) λh' eb=>⟨rfl,I.turned (t':=s.toks) (λb o hb e=>eb b o hb e) f0 f1 f3 f4 f5⟩
  self:=λ_ _ _ _ _ st h=>Vp st h
variable {fp:List af}{ZS:List kh}
theorem B5{R:It->Hp->Prop}{hi:Int}{t u v:ZD}{tk:Nat}(I:Inv X pk σ H s)(h1:-(2 ^ 62)<=lo)(h2:lo<2 ^ 62)(h3:-(2 ^ 62)<=hi)(h4:hi<2 ^ 62)
    (q:R (Q5 lo (hi-lo).toNat) H):bu (cf X.prog X.w) X.A (Zr (.ref s.heap.objs.size)) (UK X pk σ tg R) E { s with heap:=s.heap.push { cls:=.type "range",data:=.fields #[.int lo t,.int hi u,.int 1 v] },toks:=tk }:=by
  refine Wz (IsRange.new ..) (small_one h1 h2 h3 h4) ?_;have I1:Inv X pk σ H { s with heap:=s.heap.push { cls:=.type "range",data:=.fields #[.int lo t,.int hi u,.int 1 v] },toks:=tk }:=I.kept λb o e=>aq _ e;refine⟨(s.heap.push { cls:=.type "range",data:=.fields #[.int lo t,.int hi u,.int 1 v] }).objs.size,[(s.heap.push { cls:=.type "range",data:=.fields #[.int lo t,.int hi u,.int 1 v] }).objs.size],_,_,H,rfl,
    I1.kept (t':=tk) λb o e=>aq _ e,CV _ lo (hi-lo).toNat,?_,λb hb=>?_,q⟩
  . have e1:lo+((0:Nat):Int)*1=lo:=by simp
    have e2:(((hi-lo).toNat:Nat):Int)-((0:Nat):Int)=fg lo hi 1:=by rw[rangeSize_one];split<;>right
    show uw _ _ (lo+((0:Nat):Int)*1) ((((hi-lo).toNat:Nat):Int)-((0:Nat):Int)) 1;rw[e1,e2];exact cm _ rfl
  . have e:b=(s.heap.push { cls:=.type "range",data:=.fields #[.int lo t,.int hi u,.int 1 v] }).objs.size:=by simpa using hb
    subst e;exact I1.fpOk (bt _) (I1.hok.fresh (bt _))
noncomputable def PP(ta:TA):TI:=λσ H R=>ta σ H λvs H1=>∃j:Int,vs=[.int j] /\ -(2 ^ 62)<=j/\j<2 ^ 62/\R (Q5 0 j.toNat) H1
noncomputable def PN(ta:TA):TI:=λσ H R=>ta σ H λvs H1=>∃i j:Int,vs=[.int i,.int j]/\(-(2 ^ 62)<=i/\i<2 ^ 62 /\ -(2 ^ 62)<=j/\j<2 ^ 62)/\R (Q5 i (j-i).toNat) H1
theorem Ew{a:Expr}{ta:TA}{pos:lv}(hg:Gl X "range")(hm:X.mg "range" = ar)(ha:PA X [a] ta)(hs:autoParam (av [a] X.env=[(ao,gn a X.env)]) c8._auto_1):PI X tg (.Call (.Name "range" p) [a] [] pos) (PP ta):=by
  intro pk s σ H R I h;refine Zz (o9 I hg hm WA (ip (thn (ha pos pk s σ H _ I h) λus s1 ⟨vs,H1,I1,r1,q1⟩=>?_) hs rfl));obtain⟨j,e,q1,q2,q⟩:=q1;subst e;cases r1 with
  |cons r rr=>
    cases rr;obtain⟨t,rfl⟩:=r;exact call_range_1 (B5 I1 ⋯ ⋯ q1 q2 (by simpa using q))
theorem Ev{a b:Expr}{ta:TA}{pos:lv}(hg:Gl X "range")(hm:X.mg "range" = ar)(ha:PA X [a,b] ta)(hs:autoParam (av [a,b] X.env=[(ao,gn a X.env),(ao,gn b X.env)]) c8._auto_1)(hs2:autoParam (av [b] X.env=[(ao,gn b X.env)]) c8._auto_1):
    PI X tg (.Call (.Name "range" p) [a,b] [] pos) (PN ta):=by
  intro pk s σ H R I h;refine Zz (o9 I hg hm WA (ip (thn (ha pos pk s σ H _ I h) λus s1 ⟨vs,H1,I1,r1,q1⟩=>?_) (by rw[hs,hs2]) (by rw[hs2];rfl)));obtain⟨i,j,e,⟨q1,q2,q3,q4⟩,q⟩:=q1;subst e;cases r1 with
  |cons r rr=>
    cases rr with
    |cons r' rr=>
      cases rr;obtain⟨t,rfl⟩:=r;obtain⟨t',rfl⟩:=r';exact call_range_2 (B5 I1 q1 q2 q3 q4 q)
noncomputable def RM(wi:TI)(g:TG)(tb:TS):TS:=λD σ H=>wi σ H λJ H1=>∃W:Nat->Nat->St->Hp->Prop,(∃m,W 0 m σ H1) /\ ∀i m σ H,W i m σ H ->
  (J.stop i H/\D.nx σ H) \/ (J.go i H /\ ∃N:St->Hp->Prop,(∀σ' H',N σ' H' -> ∃m',m'<m/\W (i+1) m' σ' H') /\ ∀x H',J.yld i H x H'->g x σ H' λσ2 H2=>tb { D with nx:=N,ct:=N,bk:=D.nx } σ2 H2)
noncomputable def vO(fp:List af)(h:dq):List (af×jv):=fp.filterMap λb=>(h.get? b).map λo=>(b,o)
theorem mQ(hb:b∈fp)(e:h.get? b=aa o):(b,o)∈vO fp h:=xv.mpr ⟨b,hb,by rw[e];rfl⟩
theorem F8{p:af×jv}(hp:p∈vO fp h):p.1∈fp/\h.get? p.1=aa p.2:=by
  obtain⟨b,hb,e⟩:=xv.mp hp;cases q:h.get? b with
  |none=>rw[q] at e;cases e
  |some o=>
    rw[q] at e;have e':(b,o)=p:=Option.some.inj e;subst e';exact⟨hb,q⟩
theorem Inv.pinned(I:Inv X pk σ H s)(hf:∀b∈fp,wT X pk H b)(ho:∀b∈fp,∃o,s.heap.get? b=aa o /\ ∀v,o.data ≠ .cell v):Inv X (pk++vO fp s.heap) σ H s:=
  I.pins_of λp hp=>(fm.mp hp).elim (λz=>I.pin p (eh _ z)) λz=>by
    obtain⟨hb,e⟩:=F8 z;obtain⟨f0,f1,f2,_⟩:=hf p.1 hb;obtain⟨o,e',d⟩:=ho p.1 hb;rw[e] at e';cases e';exact⟨e,f0,f1,f2,d⟩
theorem Inv.unpinned{pl:List (af×jv)}(I:Inv X (pk++pl) σ H s):Inv X pk σ H s:=I.pins_of λp hp=>I.pin p (eh _ (gr _ hp))
theorem GZ{iter:Expr}{wi:TI}{g:TG}{tb:TS}{pos:lv}(hp:PassesOwn (cf X.prog X.w) X.A X.env X.xe)(hc:X.N=X.N)(hi:PI X tg iter wi)(hg:PG X tg g)(hb:uW X ZS tb)
    (hs:autoParam (∀x,iq iter X.env x=jo x) G3._auto_1):PS X (.For tg iter ZS [] pos) (RM wi g tb):=by
  intro pk s σ H D I h;refine wpAny_For (thn (hi pk s σ H _ I h) λv s1 h1=>thn h1 λitv s2 h2=>?_) hs;obtain⟨it,fp,tn,J,H2,e,I2,T,st2,f2,W,⟨m0,w0⟩,turn⟩:=h2;subst e;have stat:∀{H':Hp},(∀b∈fp,H' b=ar) -> ∀b∈fp,wT X pk H' b:=λhn b hb=>⟨hn b hb,(f2 b hb).2⟩;refine codeAny_forLoop_any (λn s'=>∃i σ' H',Inv X pk σ' H' s'/\tn i s'.heap/\(∀b∈fp,H' b=ar)/\W i n σ' H') ?_ m0 ⟨0,σ,H2,I2,st2,λb hb=>(f2 b hb).1,w0⟩;rintro n s3 ⟨i,σ3,H3,I3,st3,fr3,w3⟩;rcases turn i n σ3 H3 w3 with⟨stop,qn⟩ | ⟨go,N,hN,step⟩
  . refine uk hp (thn (T.done X rfl rfl rfl hc i pk s3 σ3 H3 X.xe I3 (stat fr3) st3 stop) λr s4 zz=>?_);obtain⟨hr,I4⟩:=zz;subst hr;exact wr ⟨σ3,H3,I4,qn⟩
  . refine uk hp (thn (T.item X rfl rfl rfl hc i pk s3 σ3 H3 X.xe I3 (stat fr3) st3 go) λr s4 zz=>?_);obtain⟨u,hr,h4⟩:=zz;subst hr;refine uk hp (thn h4 λ_ s5 zz=>?_);obtain⟨x,H5,I5,r5,y5,st5,fr5⟩:=zz;have I5':=I5.pinned (stat fr5) (T.obj _ _ st5);refine uk hp (thn (hg _ s5 σ3 H5 x u _ I5' r5 (step x H5 y5)) λ_ s6 zz=>?_);obtain⟨σ6,H6,I6,q6⟩:=zz;refine uk hp (thn (hb _ s6 σ6 H6 _ I6 q6) λf s7 q7=>?_);have Ze:∀{σ7:St} {H7:Hp},Inv X (pk++vO fp s5.heap) σ7 H7 s7->N σ7 H7 -> ∃m,m<n /\ ∃i σ' H',Inv X pk σ' H' s7/\tn i s7.heap/\(∀b∈fp,H' b=ar)/\W i m σ' H':=λ{σ7 H7} I7 n7=>by
      obtain⟨m',hm,w7⟩:=hN σ7 H7 n7;refine⟨m',hm,i+1,σ7,H7,I7.unpinned,T.keep _ _ _ st5 λb hb o e=>(I7.pin (b,o) (eh _ (eh _ (mQ hb e)))).1,λb hb=>?_,w7⟩;obtain⟨o,e,d⟩:=T.obj _ _ st5 b hb;exact(I7.pin (b,o) (eh _ (eh _ (mQ hb e)))).2.1
    cases f with
    |next=>obtain⟨σ7,H7,I7,n7⟩:=q7;exact Ze I7 n7
    |cont=>obtain⟨σ7,H7,I7,n7⟩:=q7;exact Ze I7 n7
    |brk=>obtain⟨σ7,H7,I7,q7⟩:=q7;exact⟨σ7,H7,I7.unpinned,q7⟩
    |ret v=>obtain⟨x7,σ7,H7,I7,r7,q7⟩:=q7;exact⟨x7,σ7,H7,I7.unpinned,r7,q7⟩
noncomputable abbrev R2:=V->V->Hp->VK->Prop
noncomputable def lQ(X:Cx)(f:ah->ah->X8 ah)(r:R2):Prop:=
  ∀(pk:List (af×jv)) (s:ai) (σ:St) (H:Hp) (x y:V) (v u:ah) (Q:VK),Inv X pk σ H s->cR x v->cR y u->r x y H Q ->
    bu (cf X.prog X.w) X.A (f v u) (EP X pk σ Q) X.xe s
noncomputable def Ta(X:Cx)(f:ah->X8 ah)(r:V->Hp->VK->Prop):Prop:=
  ∀(pk:List (af×jv)) (s:ai) (σ:St) (H:Hp) (x:V) (v:ah) (Q:VK),Inv X pk σ H s->cR x v->r x H Q ->
    bu (cf X.prog X.w) X.A (f v) (EP X pk σ Q) X.xe s
noncomputable def fP(X:Cx)(f:ah)(r:List V->Hp->VK->Prop):Prop:=
  ∀(pk:List (af×jv)) (s:ai) (σ:St) (H:Hp) (xs:List V) (us:List ah) (Q:VK),Inv X pk σ H s->bU xs us->r xs H Q ->
    bu (cf X.prog X.w) X.A (call f us) (EP X pk σ Q) X.xe s
noncomputable def Tb(X:Cx)(r:V->Hp->(Bool->Hp->Prop)->Prop):Prop:=
  ∀(pk:List (af×jv)) (s:ai) (σ:St) (H:Hp) (x:V) (v:ah) (Q:Bool->Hp->Prop),Inv X pk σ H s->cR x v->r x H Q ->
    bu (cf X.prog X.w) X.A (truthy v) (TP X pk σ Q) X.xe s
noncomputable def Nn(r:R2)(ta tb:TE):TE:=λσ H Q=>ta σ H λx H1=>tb σ H1 λy H2=>r x y H2 Q
noncomputable def UR(r:V->Hp->VK->Prop)(ta:TE):TE:=λσ H Q=>ta σ H λx H1=>r x H1 Q
noncomputable def rI(C:Int->Int->Prop)(g:Int->Int->V):R2:=λx y H Q=>∃i j,x=.int i/\y=.int j/\C i j/\Q (g i j) H
noncomputable def Cr(g:Int->Int->V):R2:=λx y H Q=>∃i j,x=.int i/\y=.int j/\Q (g i j) H
noncomputable def rU(g:Int->V):V->Hp->VK->Prop:=λx H Q=>∃i,x=.int i/\Q (g i) H
variable {us:List ah}{op op':XC}{r r':R2}{y:V}
section
variable {a b c:Expr}{tc:TE}{pos:lv}
theorem NJ(ha:PE X a ta)(hb:PE X b tb){R:V->V->Hp->Prop}(I:Inv X pk σ H s)
    (h:ta σ H λx H1=>tb σ H1 λy H2=>R x y H2) {Q:ah->ai->Prop} {f:ah->ah->X8 ah}
    (hf:∀v u s2 x y H2,Inv X pk σ H2 s2->cR x v->cR y u->R x y H2->bu (cf X.prog X.w) X.A (f v u) Q X.xe s2):
    bu (cf X.prog X.w) X.A (gn a X.env) (λv s₁=>bu (cf X.prog X.w) X.A (gn b X.env) (λu s₂=>bu (cf X.prog X.w) X.A (f v u) Q X.xe s₂) X.xe s₁) X.xe s:=by
  refine thn (ha pk s σ H _ I h) λv s1 zz=>?_;obtain⟨x,H1,I1,r1,q1⟩:=zz;refine thn (hb pk s1 σ H1 _ I1 q1) λu s2 zz=>?_;obtain⟨y,H2,I2,r2,q2⟩:=zz;exact hf v u s2 x y H2 I2 r1 r2 q2
theorem OZ{op:VU}(ho:lQ X (ku op) r)(ha:PE X a ta)(hb:PE X b tb):PE X (.BinOp a op b pos) (Nn r ta tb):=by
  intro pk s σ H Q I h;exact wpAny_BinOp (NJ ha hb I h λv u s2 x y H2 I2 rx ry q=>ho pk s2 σ H2 x y v u Q I2 rx ry q)
theorem OX{op:UnaryOp}{r:V->Hp->VK->Prop}(ho:Ta X (unaryOp op) r)(ha:PE X a ta):PE X (.UnaryOp op a pos) (UR r ta):=by
  intro pk s σ H Q I h;exact UnaryOp_ (thn (ha pk s σ H _ I h) λv s1 zq5=>by obtain⟨x,H1,I1,r1,q1⟩:=zq5;exact ho pk s1 σ H1 x v Q I1 r1 q1)
theorem Ow{f:ah->ah->X8 ah}{C:Int->Int->Prop}{g:Int->Int->Int}
    (YS:∀(i j:Int) (t u:ZD) (s:ai) (Q:ah->ai->Prop) (E:ah->ai->Prop),C i j->Q (.int (g i j) s.toks) { s with toks:=s.toks+1 }->bu (cf X.prog X.w) X.A (f (.int i t) (.int j u)) Q E s):
    lQ X f (rI C λi j=>.int (g i j)):=by
  intro pk s σ H x y v u Q I rx ry h;obtain⟨i,j,rfl,rfl,hc,q⟩:=h;obtain⟨t,rfl⟩:=rx;obtain⟨t',rfl⟩:=ry;exact YS i j t t' s _ _ hc ⟨.int (g i j),H,I.tok _,⟨_,rfl⟩,q⟩
theorem Md{f:ah->ah->X8 ah}{g:Int->Int->Int}
    (YS:∀(i j:Int) (t u:ZD) (s:ai) (Q:ah->ai->Prop) (E:ah->ai->Prop),Q (.int (g i j) s.toks) { s with toks:=s.toks+1 }->bu (cf X.prog X.w) X.A (f (.int i t) (.int j u)) Q E s):
    lQ X f (Cr λi j=>.int (g i j)):=by
  intro pk s σ H x y v u Q I rx ry h;obtain⟨i,j,rfl,rfl,q⟩:=h;obtain⟨t,rfl⟩:=rx;obtain⟨t',rfl⟩:=ry;exact YS i j t t' s _ _ ⟨.int (g i j),H,I.tok _,⟨_,rfl⟩,q⟩
theorem Me{f:ah->ah->X8 ah}{g:Int->Int->Bool}
    (YS:∀(i j:Int) (t u:ZD) (s:ai) (Q:ah->ai->Prop) (E:ah->ai->Prop),Q (.bool (g i j)) s->bu (cf X.prog X.w) X.A (f (.int i t) (.int j u)) Q E s):
    lQ X f (Cr λi j=>.bl (g i j)):=by
  intro pk s σ H x y v u Q I rx ry h;obtain⟨i,j,rfl,rfl,q⟩:=h;obtain⟨t,rfl⟩:=rx;obtain⟨t',rfl⟩:=ry;exact YS i j t t' s _ _ ⟨.bl (g i j),H,I,rfl,q⟩
noncomputable def Ij(i j:Int):Prop:=0<=j/\j<=1000000/\i.natAbs<2 ^ 64
noncomputable def NV(i j:Int):Prop:=(-(2 ^ 64)<i/\i<2 ^ 64) \/ (-(2 ^ 64)<j/\j<2 ^ 64)
theorem NV.ok{i j:Int}(h:NV i j):IntMulOk i j:=by
  rcases h with⟨h1,h2⟩ | ⟨h1,h2⟩
  . exact .of_left (intBits_le_64 h1 h2)
  . exact .of_right (intBits_le_64 h1 h2)
theorem Mc:lQ X (ku .Add) (Cr λi j=>.int (i+j)):=Md λ_ _ _ _ _ _ _ q=>add_int q
theorem MS:lQ X (ku .Sub) (Cr λi j=>.int (i-j)):=Md λ_ _ _ _ _ _ _ q=>sub_int q
theorem MW:lQ X (ku .Mod) (rI (λ_ j=>0<j) λi j=>.int (i % j)):=Ow λi j _ _ _ _ _ hc q=>by
  have h1:(0:Int)<j:=hc;exact mod_int' ⋯ (by rw[Int.fmod_eq_emod_of_nonneg i ⋯];exact q)
theorem MT:lQ X (ku .LShift) (rI Ij λi j=>.int (i*2 ^ j.toNat)):=Ow λ_ _ _ _ _ _ _ hc q=>lshift_int_small hc.1 hc.2.1 hc.2.2 q
theorem KL:lQ X (We .Add) (Cr λi j=>.int (i+j)):=Md λ_ _ _ _ _ _ _ q=>iadd_int q
theorem UQ{f:ah->X8 ah}{g:Int->Int}
    (YS:∀(i:Int) (t:ZD) (s:ai) (Q:ah->ai->Prop) (E:ah->ai->Prop),Q (.int (g i) s.toks) { s with toks:=s.toks+1 }->bu (cf X.prog X.w) X.A (f (.int i t)) Q E s):
    Ta X f (rU λi=>.int (g i)):=by
  intro pk s σ H x v Q I rx h;obtain⟨i,rfl,q⟩:=h;obtain⟨t,rfl⟩:=rx;exact YS i t s _ _ ⟨.int (g i),H,I.tok _,⟨_,rfl⟩,q⟩
theorem LX:Ta X (unaryOp .USub) (rU λi=>.int (-i)):=UQ λ_ _ _ _ _ q=>neg_int q
theorem BS:lQ X (fv .Lt) (Cr λi j=>.bl (decide (i<j))):=Me λ_ _ _ _ _ _ _ q=>lt_int q
theorem Gz:lQ X (fv .LtE) (Cr λi j=>.bl (decide (i<=j))):=Me λ_ _ _ _ _ _ _ q=>le_int q
theorem Ov:lQ X (fv .Gt) (Cr λi j=>.bl (decide (j<i))):=Me λ_ _ _ _ _ _ _ q=>gt_int q
theorem lQ.or{f:ah->ah->X8 ah}(h:lQ X f r)(h':lQ X f r'):lQ X f (λx y H Q=>r x y H Q \/ r' x y H Q):=by
  intro pk s σ H x y v u Q I rx ry q;rcases q with q | q
  . exact h pk s σ H x y v u Q I rx ry q
  . exact h' pk s σ H x y v u Q I rx ry q
theorem nomark(b:Expr)(h:autoParam (op ≠ .In) lS._auto_1)(h2:autoParam (op ≠ .NotIn) lS._auto_1):uj op b=ao:=by
  have e1:(op==CmpOp.In)=ao:=by cases op<;>first | rfl | exact absurd rfl h
  have e2:(op==CmpOp.NotIn)=ao:=by cases op<;>first | rfl | exact absurd rfl h2
  cases b<;>simp[uj,e1,e2]
theorem JZ(ho:lQ X (fv op) r)(ha:PE X a ta)(hb:PE X b tb)(hm:uj op b=ao):PE X (.Compare a [op] [b] pos) (Nn r ta tb):=by
  intro pk s σ H Q I h;exact wpAny_Compare1 (NJ ha hb I h λv u s2 x y H2 I2 rx ry q=>ho pk s2 σ H2 x y v u Q I2 rx ry q) hm
noncomputable def Kw(t:TE):TT:=λσ H Q=>t σ H λx H'=>∃k,x=.bl k/\Q k H'
theorem JP(ho:lQ X (fv op) r)(ha:PE X a ta)(hb:PE X b tb)(hm:uj op b=ao):PT X (.Compare a [op] [b] pos) (Kw (Nn r ta tb)):=by
  intro pk s σ H Q I h;refine wpAny_isTrue_Compare1 (thn (ha pk s σ H _ I h) λv s1 ⟨x,H1,I1,r1,q1⟩=>thn (hb pk s1 σ H1 _ I1 q1) λu s2 ⟨y,H2,I2,r2,q2⟩=>
    thn (ho pk s2 σ H2 x y v u _ I2 r1 r2 q2) λc s3 ⟨z,H3,I3,r3,k,e,q3⟩=>?_) hm
  subst e;cases r3;exact io ⟨H3,I3,q3⟩
noncomputable def Cd(r r':R2)(ta tb tc:TE):TE:=λσ H Q=>ta σ H λx H1=>tb σ H1 λy H2=>r x y H2 λz H3=>∃k,z=.bl k /\
  (if k=aj then tc σ H3 λw' H4=>r' y w' H4 Q else Q (.bl ao) H3)
theorem Go(ho:lQ X (fv op) r)(ho':lQ X (fv op') r')(ha:PE X a ta)(hb:PE X b tb)(hc:PE X c tc)
    (hm:autoParam (Xc [op,op'] [b,c]=ao) Q9._auto_1):PE X (.Compare a [op,op'] [b,c] pos) (Cd r r' ta tb tc):=by
  intro pk s σ H Q I h;refine Compare_chain (thn (ha pk s σ H _ I h) λv s1 ⟨x,H1,I1,r1,q1⟩=>chain_link (thn (hb pk s1 σ H1 _ I1 q1) λu s2 ⟨y,H2,I2,r2,q2⟩=>
    thn (ho pk s2 σ H2 x y v u _ I2 r1 r2 q2) λd s3 ⟨z,H3,I3,r3,k,e,q3⟩=>?_)) hm
  subst e;cases r3;refine io ?_;cases k with
  |false=>exact ite_ff ⟨.bl ao,H3,I3,rfl,q3⟩
  |true=>exact ite_tt (chain_last (thn (hc pk s3 σ H3 _ I3 q3) λw' s4 ⟨z',H4,I4,r4,q4⟩=>ho' pk s4 σ H4 y z' u w' Q I4 r2 r4 q4))
theorem GV(ho:lQ X (fv op) r)(ho':lQ X (fv op') r')(ha:PE X a ta)(hb:PE X b tb)(hc:PE X c tc)
    (hm:autoParam (Xc [op,op'] [b,c]=ao) Q9._auto_1):PT X (.Compare a [op,op'] [b,c] pos) (Kw (Cd r r' ta tb tc)):=by
  intro pk s σ H Q I h;refine isTrue_chain (thn (ha pk s σ H _ I h) λv s1 ⟨x,H1,I1,r1,q1⟩=>test_link (thn (hb pk s1 σ H1 _ I1 q1) λu s2 ⟨y,H2,I2,r2,q2⟩=>
    thn (ho pk s2 σ H2 x y v u _ I2 r1 r2 q2) λd s3 ⟨z,H3,I3,r3,k,e,q3⟩=>?_)) hm
  subst e;cases r3;refine io ?_;cases k with
  |false=>
    obtain⟨k',e',q'⟩:=q3;cases e';exact ite_ff ⟨H3,I3,q'⟩
  |true=>
    refine ite_tt (test_last (thn (hc pk s3 σ H3 _ I3 q3) λw' s4 ⟨z',H4,I4,r4,q4⟩=>thn (ho' pk s4 σ H4 y z' u w' _ I4 r2 r4 q4) λd' s5 zz=>?_));obtain⟨z2,H5,I5,r5,k2,e2,q5⟩:=zz;subst e2;cases r5;exact io ⟨H5,I5,q5⟩
noncomputable def Pz(K:ap)(x:V)(H:Hp)(k:Bool):Prop:=
  match x with
  | .non=>k=ao
  | .bl b=>k=b
  | .int i=>k=(i != 0)
  | .str y=>y.length<=bv/\k=((y.length:Int) != 0)
  | .byt y=>y.size<=bv/\k=((y.size:Int) != 0)
  | .ref p=>(∃xs,gK K H p xs/\k = !xs.isEmpty) \/ (∃xs,pL K H p xs/\k = !xs.isEmpty) \/ ∃kvs,H p=aa (.dK kvs)/\k = !kvs.isEmpty
  |_=>False
theorem DN{kvs:List (κ×V)}{vs:List (κ×ah)}(r:KV kvs vs):(!vs.isEmpty) = !kvs.isEmpty:=by
  cases r<;>rfl
theorem wA{xs:List V}{its:List ah}(r:bU xs its):(!its.toArray.isEmpty) = !xs.isEmpty:=by
  cases r<;>simp
theorem tB:(bv:Nat)<2 ^ 63:=by rw[ke];decide
theorem LZ:Tb X (λx H Q=>∃k,Pz X.K x H k/\Q k H):=by
  intro pk s σ H x v Q I rx h;obtain⟨k,e,q⟩:=h;have hl:=tB;have hs:bv=16777216:=ke;cases x with
  |non=>
    cases rx;have e':k=ao:=e;subst e';exact truthy_none ⟨H,I,q⟩
  |bl b=>
    cases rx;have e':k=b:=e;subst e';exact io ⟨H,I,q⟩
  |int i=>
    obtain⟨t,rfl⟩:=rx;have e':k=(i != 0):=e;subst e';exact PySem.P.truthy_int ⟨H,I,q⟩
  |str y=>
    obtain⟨t,rfl⟩:=rx;obtain⟨hy,e'⟩:y.length<=bv/\k=((y.length:Int) != 0):=e;subst e';exact PySem.P.truthy_str ⋯ ⟨H,I.tok _,q⟩
  |byt y=>
    obtain⟨t,rfl⟩:=rx;obtain⟨hy,e'⟩:y.size<=bv/\k=((y.size:Int) != 0):=e;subst e';exact W.truthy_bytes ⋯ ⟨H,I.tok _,q⟩
  |ref p=>
    cases rx;have e':(∃xs,gK X.K H p xs/\k = !xs.isEmpty) \/ (∃xs,pL X.K H p xs/\k = !xs.isEmpty) \/ ∃kvs,H p=aa (.dK kvs)/\k = !kvs.isEmpty:=e;rcases e' with⟨xs,hx,e'⟩ | ⟨xs,hx,e'⟩ | ⟨kvs,hx,e'⟩
    . subst e';obtain⟨its,r,pl,hz⟩:=I.list hx;have hlen:=r.length;exact wpAny_truthy_list pl.isList (by simp only[fk];right) ⟨H,I.tok _,by rw[wA r];exact q⟩
    . subst e';obtain⟨its,r,pl,hz⟩:=I.tuple hx;have hlen:=r.length;exact truthy_tuple pl (by simp only[fk];right) ⟨H,I.tok _,by rw[wA r];exact q⟩
    . subst e';obtain⟨hz,hS,vs,r,m⟩:kvs.length<=bv/\(p==jj)=ao /\ ∃vs,KV kvs vs/\s.heap.DictOf (eT X.prog X.w) p vs:=I.hok p _ hx;have hlen:kvs.length=vs.length:=Paired.length r;exact wpAny_truthy_dict hS m ⋯ ⟨H,I.tok _,by rw[DN r];exact q⟩
  |_=>exact(show False from e).elim
theorem GU(ha:PE X a ta)(he:∀ZZ,isTrue a X.env ZZ=(do let v <- ZZ;WO a.pos;WP [v] (truthy v))):
    PT X a (λσ H Q=>ta σ H λx H'=>∃k,Pz X.K x H' k/\Q k H'):=by
  intro pk s σ H Q I h;exact isTrue_plain (thn (ha pk s σ H _ I h) λv s1 zq6=>by obtain⟨x,H1,I1,r1,q1⟩:=zq6;exact LZ pk s1 σ H1 x v Q I1 r1 q1) (he _)
theorem D7:lQ X (ku .Add) (λx y H Q=>∃i j,x=.str i/\y=.str j/\i.length+j.length<=bv/\Q (.str (i++j)) H):=by
  intro pk s σ H x y v u Q I rx ry h;obtain⟨i,j,rfl,rfl,hz,q⟩:=h;obtain⟨t,rfl⟩:=rx;obtain⟨t',rfl⟩:=ry;exact add_str (λt' tk=>⟨.str (i++j),H,I.tok _,⟨_,rfl⟩,q⟩) hz
theorem Bq:lQ X (We .Add) (λx y H Q=>∃i j,x=.str i/\y=.str j/\i.length+j.length<=bv/\Q (.str (i++j)) H):=by
  intro pk s σ H x y v u Q I rx ry h;obtain⟨i,j,rfl,rfl,hz,q⟩:=h;obtain⟨t,rfl⟩:=rx;obtain⟨t',rfl⟩:=ry;exact iadd_str (λt' tk=>⟨.str (i++j),H,I.tok _,⟨_,rfl⟩,q⟩) hz
theorem kK{x:V}(r:bU [x] us):∃u,us=[u]/\cR x u:=by
  cases r with
  |cons r1 r2=>cases r2;exact⟨_,rfl,r1⟩
theorem Aj{x:V}(r:bU [x,y] us):∃u w',us=[u,w']/\cR x u/\cR y w':=by
  cases r with
  |cons r1 r2=>
    cases r2 with
    |cons r3 r4=>cases r4;exact⟨_,_,rfl,r1,r3⟩
theorem IW:fP X (.builtin "abs") (λxs H Q=>∃i,xs=[.int i]/\Q (.int (if i<0 then -i else i)) H):=by
  intro pk s σ H xs us Q I r h;obtain⟨i,rfl,q⟩:=h;obtain⟨u,rfl,t,rfl⟩:=kK r;exact call_abs_int λu tk=>⟨.int (if i<0 then -i else i),H,I.tok _,⟨_,rfl⟩,q⟩
theorem Ft(hc:X.calm=aj):fP X (.builtin "min") (λxs H Q=>∃i j,xs=[.int i,.int j]/\Q (.int (if j<i then j else i)) H):=by
  intro pk s σ H xs us Q I r h;obtain⟨i,j,rfl,q⟩:=h;obtain⟨u,w',rfl,⟨t,rfl⟩,⟨t',rfl⟩⟩:=Aj r;refine min_two_ints (I.ok.hd hc) λh' tk k=>⟨_,H,I.kept k,?_,q⟩;by_cases hj:j<i
  . rw[ZE hj,ZE hj];exact⟨_,rfl⟩
  . rw[Zg hj,Zg hj];exact⟨_,rfl⟩
end
structure ObjM(h:dq)(x dx C:af)(mA:bw->Option ah):Prop where
  obj:h.get? x=aa (wd C dx)
  ns:h.Ns1 dx mA
  ne:dx≠x
variable {dx:af}{mA:bw->Option ah}
theorem FH(n:h.Ns1 dx mA):∃od,h.get? dx=aa od /\ ∀name,Yc name od=aa (mA name):=by
  obtain⟨o,es,ep,ho,hd,hk,_,hm⟩:=n;refine⟨o,ho,λname=>?_⟩;have e:=hm name;unfold nsFind findBy at e;rw[<- Array.find?_toList] at e;unfold Yc;rw[hd];dsimp only;split
  . rename_i y q;rw[q] at e;exact congrArg aa e
  . rename_i q;rw[q] at e;have a:es.toList.any (·.refKey)=ao:=by
      rw[ze];intro y hy;obtain⟨z,t,hkey⟩:=hk y (Array.mem_toList_iff.mp hy);simp[DictEntry.refKey,hkey]
    have a':¬es.toList.any (·.refKey)=aj:=by rw[a];exact jl
    rw[Zg a'];exact congrArg aa e
theorem ObjM.look{x:af}(I:ObjM h x dx C mA):∃od,W.InstAt h x (wd C dx) C (aa od) /\ ∀name,Yc name od=aa (mA name):=
  let ⟨od,ho,hl⟩:=FH I.ns
  ⟨od,⟨I.obj,rfl,rfl,ho⟩,hl⟩
variable {pl:X8 Bool}{kw:List (bw×ah)}{name:bw}
section
variable {x:af}{v:ah}
theorem KO{expr:Bool}{Q:ah->ai->Prop}(X:K.In s.heap)(I:ObjM s.heap x dx C mA)(hg:WB K C name=aj)(hh:XD K C=aj)
    (ha:jr K (.ref C) name=aa ar) (hv:mA name=aa v) (hv':W.handedIn v=aj) (h:Q v { s with toks:=s.toks+1 }):
    bu (cf prog w) A (getAttr (.ref x) name expr) Q E s:=by
  obtain⟨od,J,hl⟩:=I.look;exact W.get_value X J (Wp hg).1 (W.findObj_own hh ha rfl (by rw[hl,hv])) hv' h
theorem Hz{Q:ah×List ah->ai->Prop}(X:K.In s.heap)(I:ObjM s.heap x dx C mA)(hg:WB K C name=aj)
    (hf:jr K (.ref C) name=aa (aa (.ref f))) (ht:Zs K (.ref f)=aj) (hv:mA name=ar) (h:Q (.ref f,[.ref x]) s):
    bu (cf prog w) A (V8 (.ref x) name pl) Q E s:=by
  obtain⟨od,J,hl⟩:=I.look;exact W.method_fn X J (Wp hg).1 (Wp hg).2 hf (beq_iff_eq.mp ht) (by show (Yc name od).map (·.isSome)=aa ao;rw[hl,hv];rfl) h
theorem J7{ns:List bw}(X:K.In s.heap)(I:ObjM s.heap x dx C mA)
    (hs:jr K (.ref C) "__setattr__" = aa (aa (.builtin "object.__setattr__"))) (hp:W.plainOver K C=aj) (ht:YH K C name=aa ar) (hh:XD K C=aj)
    (hw:WK mA ns) (hsz:ns.length<=bv)
    (h:∀h',ObjM h' x dx C (λy=>if y=name then aa v else mA y)->oz dx s.heap h'->Q () { s with heap:=h',toks:=s.toks+2 }):
    bu (cf prog w) A (setAttr (.ref x) name v) Q E s:=by
  obtain⟨od,J,hl⟩:=I.look;refine W.set_plain X J hs (W.osa_open (s:={ s with toks:=s.toks+1 }) (r:=ar) X J hp ht λb=>?_);obtain⟨cd,hc,hd'⟩:=W.any_some hh;have hx:s.heap.get? x=aa ⟨.ref C,aa dx,.plain,#[]⟩:=I.obj;refine ae (ak (ae (ae (Yd hx (ae (wl.here (s:={ s with toks:=s.toks+1 }) (W.looks_clsIn X hc) ?_))))));rw[hd'];refine ak (a:=aa dx) (ae (ak (ae ?_)));refine wpAny_nsSet1 (s:={ s with toks:=s.toks+1 }) I.ns λh' hn2 hs2=>?_;obtain⟨oD,esD,epD,hoD,hdD,hcD⟩:=hn2.count (PySem.Within.cons name v hw);refine ae (wpAny_lookBehind hoD (by rw[hdD];exact pastItsLine_dict (ly hcD (by rw[cj];right))) ?_);exact ak (h _ ⟨(hs2.2 _ (Ne.symm I.ne)).trans I.obj,hn2,I.ne⟩ hs2)
theorem HS{R:YT->ai->Prop}{vs:List ah}(X:K.In s.heap)(hm:Xd K C=aj)
    (hi:jr K (.ref C) "__init__" = aa (aa (.ref f))) (hf:W.typeIn K (.ref f)=aa (.type "function"))
    (h:zf (cf prog w) (A.under (.builtin "type.__call__" ⟨.ref C::vs,kw⟩)) (.call (.ref f) ⟨.ref (s.heap.objs.size+1)::vs,kw⟩) (W.InitBack (s.heap.objs.size+1) R)
      { s with heap:=(s.heap.push qx).push (wd C s.heap.objs.size) }):
    zf (cf prog w) A (.call (.ref C) ⟨vs,kw⟩) R s:=by
  obtain⟨hh,g,d,t,os⟩:=s;exact W.make_core (W.makes_of X hm) (xw X hi) (λself=>W.bind_fn X self hf) (.inl rfl) h
end
noncomputable def mM(f:bw)(v:V):List (bw×V)->List (bw×V)
  | []=>[(f,v)]
  | (g,x)::r=>if g=f then (g,v)::r else (g,x)::mM f v r
theorem tR(f g:bw)(v:V):∀fs:List (bw×V),(mM f v fs).lookup g=if g=f then aa v else fs.lookup g
  | []=>by
    show List.lookup g [(f,v)]=_;by_cases h:g=f
    . have hb:(g==f)=aj:=beq_iff_eq.mpr h;simp only[List.lookup,hb,ZE h]
    . have hb:(g==f)=ao:=beq_eq_false_iff_ne.mpr h;simp only[List.lookup,hb,Zg h]
  | (k,x)::r=>by
    have ih:=tR f g v r;rw[show mM f v ((k,x)::r)=(if k=f then (k,v)::r else (k,x)::mM f v r) from rfl];by_cases hk:k=f
    . rw[ZE hk];by_cases h:g=k
      . have hb:(g==k)=aj:=beq_iff_eq.mpr h;simp only[List.lookup,hb,ZE (h.trans hk)]
      . have hb:(g==k)=ao:=beq_eq_false_iff_ne.mpr h;simp only[List.lookup,hb,Zg (λe:g=f=>h (e.trans hk.symm))]
    . rw[Zg hk];by_cases h:g=k
      . have hb:(g==k)=aj:=beq_iff_eq.mpr h;simp only[List.lookup,hb,Zg (λe:g=f=>hk (h.symm.trans e))]
      . have hb:(g==k)=ao:=beq_eq_false_iff_ne.mpr h;simp only[List.lookup,hb];exact ih
theorem tD(f:bw)(v:V):∀fs:List (bw×V),f∈(mM f v fs).map (·.1) /\ ∀g,g∈fs.map (·.1)->g∈(mM f v fs).map (·.1)
  | []=>⟨by simp[mM],λg h=>by simp at h⟩
  | (k,x)::r=>by
    obtain⟨i1,i2⟩:=tD f v r;rw[show mM f v ((k,x)::r)=(if k=f then (k,v)::r else (k,x)::mM f v r) from rfl];by_cases hk:k=f
    . rw[ZE hk];subst hk;exact⟨by simp,λg h=>by simpa using h⟩
    . rw[Zg hk];refine⟨?_,λg h=>?_⟩
      . rw[de];exact dg _ i1
      . rw[de] at h ⊢;rcases dm.mp h with e | e
        . exact dm.mpr (.inl e)
        . exact dg _ (i2 g e)
theorem tU(f:bw)(v:V):∀fs:List (bw×V),(mM f v fs).length<=fs.length+1
  | []=>by simp[mM]
  | (k,x)::r=>by
    have ih:=tU f v r;rw[show mM f v ((k,x)::r)=(if k=f then (k,v)::r else (k,x)::mM f v r) from rfl];by_cases hk:k=f
    . rw[ZE hk,cj,cj];right
    . rw[Zg hk,cj,cj];right
theorem pT.some_of{o:Option ah}(r:pT (aa v) o):∃u,o=aa u/\cR v u:=by
  cases o with
  |none=>exact(show False from r).elim
  |some u=>exact⟨u,rfl,r⟩
theorem pT.none_of{o:Option ah}(r:pT ar o):o=ar:=by
  cases o with
  |none=>rfl
  |some u=>exact(show False from r).elim
theorem Fb(r:cR v u):W.handedIn u=aj:=by
  cases v with
  |non=>cases (show u=gg from r);rfl
  |bl b=>cases (show u=Vn b from r);rfl
  |int i=>obtain⟨t,e⟩:=(show ∃t,u=Value.int i t from r);cases e;rfl
  |str x=>obtain⟨t,e⟩:=(show ∃t,u=Value.str x t from r);cases e;rfl
  |byt b=>obtain⟨t,e⟩:=(show ∃t,u=Zb b t from r);cases e;rfl
  |flt b=>obtain⟨t,e⟩:=(show ∃t,u=XA b t from r);cases e;rfl
  |ref a=>cases (show u=Value.ref a from r);rfl
  |ty n=>cases (show u=Zq n from r);rfl
section
variable {fs fs':List (bw×V)}
theorem uM(hok:lR P w H h)(e:H a=aa (.ins C dx fs)):∃mA,ObjM h a dx C mA/\(∀f,pT (fs.lookup f) (mA f))/\WK mA (fs.map (·.1))/\fs.length<=1000/\H dx=aa (.own a):=by
  obtain⟨d,z,ne,ob,mA,n,r,q⟩:=(show cK P w H h a (.ins C dx fs) from hok a _ e);exact⟨mA,⟨ob,n,ne⟩,r,q,z,d⟩
end
structure Cls(K:ap)(C:af):Prop where
  pg:WB K C Str.empty=aj
  hd:XD K C=aj
  po:W.plainOver K C=aj
  sa:jr K (.ref C) "__setattr__" = aa (aa (.builtin "object.__setattr__"))
theorem Cls.get(c:Cls K C)(f:bw):WB K C f=aj:=c.pg
noncomputable def jL(K:ap)(C:af)(f:bw):Prop:=jr K (.ref C) f=aa ar
theorem jL.taker{f:bw}(n:jL K C f):YH K C f=aa ar:=by
  unfold YH;rw[show jr K (.ref C) f=aa ar from n];rfl
structure Meth(K:ap)(C:af)(m:bw)(f:af):Prop where
  at_:jr K (.ref C) m=aa (aa (.ref f))
  fn:Zs K (.ref f)=aj
  kp:qi K (.ref f)=aj
variable {m:bw}
section
variable {fs:List (bw×V)}{f:bw}
theorem DQ{b:Bool}{Q:ah->ai->Prop}(I:Inv X pk σ H s)(e:H a=aa (.ins C dx fs))(c:Cls X.K C)(n:jL X.K C f)(l:fs.lookup f=aa v)
    (h:∀u s',Inv X pk σ H s'->cR v u->Q u s'):bu (cf X.prog X.w) A (getAttr (.ref a) f b) Q E s:=by
  obtain⟨mA,O,r,_,_,_⟩:=uM I.hok e;obtain⟨u,hu,ru⟩:=pT.some_of (v:=v) (o:=mA f) (by rw[<- l];exact r f);exact KO I.kIn O (c.get f) c.hd n hu (Fb ru) (h u _ (I.tok _) ru)
theorem wD{g:af}{Q:ah×List ah->ai->Prop}(I:Inv X pk σ H s)(e:H a=aa (.ins C dx fs))(c:Cls X.K C)(k:Meth X.K C m g)(l:fs.lookup m=ar)
    (h:Q (.ref g,[.ref a]) s):bu (cf X.prog X.w) A (V8 (.ref a) m pl) Q E s:=by
  obtain⟨mA,O,r,_,_,_⟩:=uM I.hok e;have hn:mA m=ar:=pT.none_of (by rw[<- l];exact r m);exact Hz I.kIn O (c.get m) k.at_ k.fn hn h
theorem Cj(I:Inv X pk σ H s)(e:H a=aa (.ins C dx fs))(c:Cls X.K C)(n:jL X.K C f)(hl:fs.length<1000)(ry:cR y u)
    (h:∀s',Inv X pk σ (upd H a (.ins C dx (mM f y fs))) s'->Q () s'):bu (cf X.prog X.w) A (setAttr (.ref a) f u) Q E s:=by
  obtain⟨mA,O,r,wi,_,ho⟩:=uM I.hok e;have hz:(fs.map (·.1)).length<=bv:=by rw[bf,ke];right
  refine J7 I.kIn O c.sa c.po n.taker c.hd wi hz λh' O' sb=>h _ ?_;have hd:∃o,h'.get? dx=aa o:=let ⟨o,_,_,e',_⟩:=O'.ns;⟨o,e'⟩;refine I.write (x:=a) (e:=dx) (by rw[e];exact mh) (.inr ho) (λb q hb z=>(sb.2 b hb).trans z) hd ?_;refine⟨by rw[bB O.ne];exact ho,?_,O.ne,O'.obj,_,O'.ns,λg=>?_,λg hg=>?_⟩
  . have:=tU f y fs;right
  . show pT ((mM f y fs).lookup g) (if g=f then aa u else mA g);rw[tR];by_cases q:g=f
    . rw[ZE q,ZE q];exact ry
    . rw[Zg q,Zg q];exact r g
  . by_cases q:g=f
    . rw[q];exact(tD f y fs).1
    . refine(tD f y fs).2 g (wi g λz=>hg ?_);show (if g=f then aa u else mA g)=ar;rw[Zg q];exact z
theorem Inv.made(I:Inv X pk σ H s):Inv X pk σ (upd (upd H s.heap.objs.size (.own (s.heap.objs.size+1))) (s.heap.objs.size+1) (.ins C s.heap.objs.size []))
    { s with heap:=(s.heap.push qx).push (wd C s.heap.objs.size) }:=by
  have e1:(s.heap.push qx).get? s.heap.objs.size=aa qx:=cm s.heap rfl;have e2:((s.heap.push qx).push (wd C s.heap.objs.size)).get? (s.heap.objs.size+1)=aa (wd C s.heap.objs.size):=by
    have:=cm (s.heap.push qx) (o:=wd C s.heap.objs.size) rfl;rwa[vd] at this
  have e3:(s.heap.push qx).Ns s.heap.objs.size (λ_=>ar):=⟨qx,#[],_,e1,rfl,(λe he=>absurd he (by simp)),λ_=>rfl⟩;have I1:=I.laid (a:=s.heap.objs.size) (o:=.own (s.heap.objs.size+1)) (h':=s.heap.push qx) (t':=s.toks) (λb u q=>aq _ q) (bt _) ⟨_,e1⟩;refine I1.laid (a:=s.heap.objs.size+1) (o:=.ins C s.heap.objs.size []) (t':=s.toks) (λb u q=>aq _ q) (YU (vd _ _)) ?_;have ne:s.heap.objs.size≠s.heap.objs.size+1:=gq (Xe _);refine⟨by rw[bB ne,bS],oj _,ne,e2,λ_=>ar,(Heap.Ns1.of_empty e3).at λo q=>aq _ q,λ_=>mh,λy hy=>absurd rfl hy⟩
theorem Kp{f:bw}{pos:lv}{Q:ah->ai->Prop}(hb:rq e f env (gn e env)=gn e env)
    (h:bu (cf prog w) A (gn e env) (λo s₁=>bu (cf prog w) A (getAttr o f aj) Q E s₁) E s):bu (cf prog w) A (gn (.Attribute e f pos) env) Q E s:=
  Attribute_any_ h (by rw[arm_eval_Attribute,hb])
end
noncomputable def RN(K:ap)(ta:TE)(f:bw):TE:=λσ H Q=>ta σ H λx H1=>∃a C dx fs v,x=.ref a/\H1 a=aa (.ins C dx fs)/\Cls K C/\jL K C f/\fs.lookup f=aa v/\Q v H1
noncomputable def RZ(K:ap)(ta tv:TE)(f:bw):TS:=λD σ H=>tv σ H λy H1=>ta σ H1 λx H2=>∃a C dx fs,x=.ref a/\H2 a=aa (.ins C dx fs)/\Cls K C/\jL K C f/\fs.length<1000 /\
  D.nx σ (upd H2 a (.ins C dx (mM f y fs)))
section
variable {o ZM:Expr}{f:bw}{pos tpos:lv}{tv:TE}
theorem ML(he:PE X e ta)(hb:rq e f X.env (gn e X.env)=gn e X.env):PE X (.Attribute e f pos) (RN X.K ta f):=by
  intro pk s σ H Q I h;refine Kp hb (thn (he pk s σ H _ I h) λu s1 zz=>?_);obtain⟨x,H1,I1,rx,a,C,dx,fs,v,ex,ea,c,n,l,q⟩:=zz;subst ex;obtain rfl:u=Value.ref a:=rx;exact DQ I1 ea c n l λu' s2 I2 ru=>⟨v,H1,I2,ru,q⟩
theorem M8(ha:PE X o ta)(hv:PE X ZM tv)(hs:ix ZM (aa (.Attribute o f ZT)) pos.line X.env=jo ao):PS X (.Assign [.Attribute o f ZT] ZM pos) (RZ X.K ta tv f):=by
  intro pk s σ H D I h;refine plainObj_wpAny_Assign_Attribute (thn (hv pk s σ H _ I h) λu s1 ⟨y,H1,I1,ry,q⟩=>thn (ha pk s1 σ H1 _ I1 q) λov s2 ⟨x,H2,I2,rx,a,C,dx,fs,ex,ea,c,n,l,q2⟩=>?_) hs;subst ex;obtain rfl:ov=Value.ref a:=rx;exact Cj I2 ea c n l ry λs3 I3=>⟨σ,_,I3,q2⟩
end
section
variable {Q:ah->ai->Prop}{c:ah}{b:Bool}
inductive TyOf(K:ap)(H:Hp):V->ah->Prop where
  |non:TyOf K H .non (.type "NoneType")
  |bl (x:Bool):TyOf K H (.bl x) (.type "bool")
  |int (i:Int):TyOf K H (.int i) (.type "int")
  |str (x:bw):TyOf K H (.str x) (.type "str")
  |flt (x:UInt64):TyOf K H (.flt x) (.type "float")
  |lst {a:af} {xs:List V} (e:H a=aa (.lst xs)):TyOf K H (.ref a) (.type "list")
  |frz {a:af} {o:jv} {xs:List V} (e:H a=aa (.frz o (.lst xs))):TyOf K H (.ref a) (.type "list")
  |tup {a:af} {xs:List V} (e:H a=aa (.tup xs)):TyOf K H (.ref a) (.type "tuple")
  |dK {a:af} {kvs:List (cF×V)} (e:H a=aa (.dK kvs)):TyOf K H (.ref a) (.type "dict")
  |dT {a:af} {ep:Nat} {kvs:List (List cF×V)} (e:H a=aa (.dT ep kvs)):TyOf K H (.ref a) (.type "dict")
  |ins {a C dx:af} {fs:List (bw×V)} (e:H a=aa (.ins C dx fs)) (cl:Cls K C) (ha:jr K (.ref C) "__class__" = aa (aa (.builtin "object.__class__")))
      (hn:VV K (.builtin "object.__class__") "__get__" = aa (aa (.builtin "getset_descriptor.__get__"))) (htk:Xf K (.builtin "object.__class__")=aa aj)
      (hm:WQ K C (.type "object")=aa aj):TyOf K H (.ref a) (.ref C)
theorem FW{x:V}{t:ah}(I:Inv X pk σ H s)(rx:cR x u)(ty:TyOf X.K H x t)(e:rg X.K t c=aa b)(h:∀tk,Q (.bool b) { s with toks:=tk }):
    bu (cf X.prog X.w) A (call (.builtin "isinstance") [u,c]) Q E s:=by
  cases ty with
  |non=>cases (show u=gg from rx);exact ot W.kitx_none I.kIn mh e (λz=>nomatch z) h
  |bl y=>cases (show u=Vn y from rx);exact ot W.kitx_bool I.kIn mh e (λz=>nomatch z) h
  |int i=>obtain⟨t,q⟩:=(show ∃t,u=Value.int i t from rx);cases q;exact ot W.kitx_int I.kIn mh e (λz=>nomatch z) h
  |str y=>obtain⟨t,q⟩:=(show ∃t,u=Value.str y t from rx);cases q;exact ot W.kitx_str I.kIn mh e (λz=>nomatch z) h
  |flt y=>obtain⟨t,q⟩:=(show ∃t,u=XA y t from rx);cases q;exact ot W.kitx_float I.kIn mh e (λz=>nomatch z) h
  | @lst a xs ea=>
    cases (show u=Value.ref a from rx);obtain⟨_,_,n,_,h1⟩:=(show cK X.prog X.w H s.heap a (.lst xs) from I.hok a _ ea);exact ot W.kitx_list I.kIn ⟨_,h1,rfl⟩ e (λz=>nomatch z) h
  | @frz a ob xs ea=>
    cases (show u=Value.ref a from rx);obtain⟨_,_,_,n,_,h1⟩:=(show cK X.prog X.w H s.heap a (.frz ob (.lst xs)) from I.hok a _ ea);exact ot W.kitx_list I.kIn ⟨_,h1,rfl⟩ e (λz=>nomatch z) h
  | @tup a xs ea=>
    cases (show u=Value.ref a from rx);obtain⟨_,_,_,p⟩:=(show cK X.prog X.w H s.heap a (.tup xs) from I.hok a _ ea);obtain⟨o,h1,h2,_⟩:=p;exact ot W.kitx_tuple I.kIn ⟨o,h1,h2⟩ e (λz=>nomatch z) h
  | @dK a kvs ea=>
    cases (show u=Value.ref a from rx);obtain⟨_,_,vs,_,p⟩:=(show cK X.prog X.w H s.heap a (.dK kvs) from I.hok a _ ea);obtain⟨o,es,ep,h1,h2,_⟩:=p;exact ot W.kitx_dict I.kIn ⟨o,h1,h2.1⟩ e (λz=>nomatch z) h
  | @dT a ep kvs ea=>
    cases (show u=Value.ref a from rx);obtain⟨_,_,xs,_,o,es,h1,h2,_⟩:=(show cK X.prog X.w H s.heap a (.dT ep kvs) from I.hok a _ ea);exact ot W.kitx_dict I.kIn ⟨o,h1,h2.1⟩ e (λz=>nomatch z) h
  | @ins a C dx fs ea cl ha hn htk hm=>
    cases (show u=Value.ref a from rx);obtain⟨mA,O,_⟩:=uM I.hok ea;obtain⟨od,J,_⟩:=O.look;exact ot (W.kitx_own (cl.get _) cl.hd ha hn htk hm) I.kIn J e (λz=>nomatch z) h
end
structure Room(k:Nat)(A:dj):Prop where
  hd:A.handled=ar
  dp:A.depth+3*k+5<Ye
  un:A.units+16*k+200<jx
theorem Room.mono{k:Nat}(r:Room k A)(h:j<=k):Room j A:=⟨r.hd,by have:=r.dp;right,by have:=r.un;right⟩
theorem Room.deeper{k:Nat}{A:dj}(r:Room (k+1) A)(env:za):Room k (A.deeper env):=
  ⟨r.hd,by have:=r.dp;show A.depth+1+3*k+5<_;right,by have:=r.un;show A.units+3+16*k+200<_;right⟩
theorem DE:(A.under (.builtin "type.__call__" ⟨.ref C::us,kw⟩)).depth=A.depth+1:=by
  first | rfl | simp[Around.under,Code.weight,Code.isCreation,Code.isGuard,Code.isCaller,Code.frames,WR,guardIds]
theorem DD:(A.under (.builtin "type.__call__" ⟨.ref C::us,kw⟩)).units=A.units+1:=by
  first | rfl | simp[Around.under,Code.cUnits,Code.frames,WR]
theorem Room.make{k:Nat}(r:Room (k+1) A)(C:af)(us:List ah)(kw:List (bw×ah)):Room k (A.under (.builtin "type.__call__" ⟨.ref C::us,kw⟩)):=
  ⟨r.hd,by have:=r.dp;rw[DE];right,by have:=r.un;rw[DD];right⟩
theorem Room.depth{k:Nat}{A:dj}(r:Room k A):A.depth<Ye:=by have:=r.dp;right
theorem Room.units{k:Nat}{A:dj}(r:Room k A):A.units+64<jx:=by have:=r.un;right
noncomputable def Np:TA:=λ_ H Q=>Q [] H
noncomputable def Nu(ta:TE)(tr:TA):TA:=λσ H Q=>ta σ H λx H1=>tr σ H1 λxs H2=>Q (x::xs) H2
section
variable {t:TA}{pos:lv}
theorem qE:PA X [] Np:=λ_ _ _ _ H Q I h=>Calls.spliced_nil ⟨[],H,I,.nil,h⟩
theorem iU(ha:PE X e te)(hr:PA X es t)(hs:autoParam (av (e::es) X.env=(ao,gn e X.env)::av es X.env) c8._auto_1):PA X (e::es) (Nu te t):=by
  intro pos pk s σ H Q I h;rw[hs];show bu _ _ (spliced ((ao,gn e X.env)::iu pos (av es X.env))) _ _ s;refine Calls.spliced_cons (thn (ha pk s σ H _ I h) λu s1 zz=>?_);obtain⟨x,H1,I1,r1,q1⟩:=zz;exact thn (hr pos pk s1 σ H1 _ I1 q1) λus s2 zq0=>by obtain⟨xs,H2,I2,r2,q2⟩:=zq0;exact⟨x::xs,H2,I2,.cons r1 r2,q2⟩
noncomputable def RF(t:TA):TE:=λσ H Q=>t σ H λxs H1=>xs.length<=bv /\ ∀p,H1 p=ar->Q (.ref p) (upd H1 p (.tup xs))
noncomputable def RK(t:TA):TE:=λσ H Q=>t σ H λxs H1=>xs.length<=bv /\ ∀p,H1 p=ar->Q (.ref p) (upd H1 p (.lst xs))
theorem ME{x1}(h:PA X es t):PE X (.Tuple es x1 pos) (RF t):=by
  intro pk s σ H Q I hq;refine wpAny_Tuple_spliced (thn (h pos pk s σ H _ I hq) λus s1 ⟨xs,H1,I1,r,z,q⟩=>⟨by rw[<- r.length];exact z,?_⟩);have hf:H1 s1.heap.objs.size=ar:=I1.hok.fresh (bt _);refine⟨.ref s1.heap.objs.size,upd H1 s1.heap.objs.size (.tup xs),I1.laid (t':=s1.toks) (λb u e=>aq _ e) (bt _) ?_,rfl,q _ hf⟩;exact⟨z,us,r,⟨_,cm _ rfl,rfl,_,rfl⟩⟩
theorem MJ(h:PA X es t):PE X (.List es pos) (RK t):=by
  intro pk s σ H Q I hq;refine wpAny_List_spliced (thn (h pos pk s σ H _ I hq) λus s1 ⟨xs,H1,I1,r,z,q⟩=>⟨by rw[<- r.length];exact z,?_⟩);have hf:H1 s1.heap.objs.size=ar:=I1.hok.fresh (bt _);refine⟨.ref s1.heap.objs.size,upd H1 s1.heap.objs.size (.lst xs),I1.laid (t':=s1.toks) (λb u e=>aq _ e) (bt _) ?_,rfl,q _ hf⟩;exact⟨z,us,0,r,cm _ rfl⟩
end
noncomputable abbrev Sp:=List V->Hp->VK->XK->Prop
noncomputable abbrev Fy:=List za->Hp->ai->XK->ah->ai->Prop
structure Env0(P:ay)(w:bz)(K:ap)(mg:bw->Option ah)(base:dq)(A:dj)(outer:List za)(s:ai)(H:Hp):Prop where
  frames:A.frames=aa outer
  mod:Mod K mg base
  bs:∀b o,base.get? b=aa o->s.heap.get? b=aa o/\H b=ar
  bsz:base.objs.size<=s.heap.objs.size
  funs:s.heap.FunFrames base outer
  frf:∀b∈frs outer,H b=ar
  hok:lR P w H s.heap
  bare:xh s.gens
noncomputable def CE(outer:List za)(P:ay)(w:bz)(H:Hp)(s:ai)(Q:VK)(u:ah)(s':ai):Prop:=
  ∃v H',s'.os=s.os/\xh s'.gens/\Un (frs outer) [] H H' s.heap s'.heap/\lR P w H' s'.heap/\cR v u/\Q v H'
noncomputable def CR(CX:Fy)(outer:List za)(P:ay)(w:bz)(H:Hp)(s:ai)(Q:VK)(E:XK)(r:YT)(s':ai):Prop:=
  match r with
  | .ok (.ret u)=>CE outer P w H s Q u s'
  | .ok _=>False
  | .error e=>CX outer H s E e s'
structure FnOk(P:ay)(w:bz)(K:ap)(mg:bw->Option ah)(base:dq)(CX:Fy)(k:Nat)(f:af)(fd:jy)(ps:List bw)(sp:Sp):Prop where
  len:∀vs H Q E,sp vs H Q E->vs.length=ps.length
  run:∀(A:dj) (outer:List za) (s:ai) (H:Hp) (args:Args) (us:List ah) (vs:List V) (Q:VK) (E:XK),Room k A->Env0 P w K mg base A outer s H->WS s fd args (ps.zip us)->bU vs us->sp vs H Q E ->
    zf (cf P w) A (.call (.ref f) args) (CR CX outer P w H s Q E) s
theorem Env0.make(e:Env0 P w K mg base A outer s H)(C:af)(us:List ah)(kw:List (bw×ah)):
    Env0 P w K mg base (A.under (.builtin "type.__call__" ⟨.ref C::us,kw⟩)) outer s H:=⟨by first | exact e.frames | (simpa [Around.under,Code.envs,WR,pushEnvs] using e.frames),e.mod,e.bs,e.bsz,e.funs,e.frf,e.hok,e.bare⟩
theorem Inv.env0(I:Inv X pk σ H s):Env0 X.prog X.w X.K X.mg X.base X.A X.stack s H:=
  ⟨I.ok.frames,I.ok.mod,I.bs,ly I.ok.bsz I.sz,I.stack,I.stkFree,I.hok,I.bare⟩
theorem Inv.after{Q:VK}(I:Inv X pk σ H s)(h:CE X.stack X.prog X.w H s Q u s'):EP X pk σ Q u s':=by
  obtain⟨v,H',os,bare,un,hok,r,q⟩:=h;obtain⟨hh,g,d,t,os'⟩:=s';obtain rfl:os'=s.os:=os;exact⟨v,H',I.call (h':=hh) (g':=g) (d':=d) (t':=t) (ch:=[]) un hok bare (λb z=>absurd z (by simp)),r,q⟩
noncomputable def Nv(sp:Sp)(dvs:List V)(E:XK)(t:TA):TE:=λσ H Q=>t σ H λvs H1=>sp (vs++dvs) H1 Q E
noncomputable def Kx(C:af)(m:bw)(sp:Sp)(dvs:List V)(E:XK)(ta:TE)(t:TA):TE:=λσ H Q=>ta σ H λx H1=>∃a dx fs,x=.ref a/\H1 a=aa (.ins C dx fs)/\fs.lookup m=ar /\
  t σ H1 λvs H2=>sp (x::(vs++dvs)) H2 Q E
noncomputable def Nr(C:af)(sp:Sp)(dvs:List V)(E:XK)(t:TA):TE:=λσ H Q=>t σ H λvs H1=>∀x dx,H1 x=ar->H1 dx=ar->dx≠x ->
  sp (.ref x::(vs++dvs)) (upd (upd H1 dx (.own x)) x (.ins C dx [])) (λv H2=>v=.non/\Q (.ref x) H2) E
noncomputable def iL(K:ap)(fd:jy)(ps:List bw)(ds:List ah):Prop:=
  ∀(s:ai) (us:List ah),K.In s.heap->(us++ds).length=ps.length->WS s fd ⟨us,[]⟩ (ps.zip (us++ds))
variable {fd:jy}
theorem iL.all(h:∀us:List ah,us.length=ps.length->Zf fd ⟨us,[]⟩=jo (ps.zip us)):iL K fd ps []:=λs us _ hl=>by
  rw[ic] at hl ⊢;exact .of_eq (h us hl)
noncomputable def rB(CX:Fy)(X:Cx)(E:XK):Prop:=∀(pk:List (af×jv)) (σ:St) (H:Hp) (s:ai) (e:ah) (s':ai),Inv X pk σ H s->CX X.stack H s E e s'->X.xe e s'
variable {vs:List V}{CX:Fy}{sp:Sp}{ZQ:lv}
section
variable {k:Nat}{dvs:List V}{ds:List ah}{E:XK}{x:bw}{pos:lv}{o:Expr}{t:TA}
theorem Cm{Q:VK}(F:FnOk X.prog X.w X.K X.mg X.base CX k f fd ps sp)(hr:Room k X.A)(hb:iL X.K fd ps ds)(hd:bU dvs ds)(hx:rB CX X E)
    (I:Inv X pk σ H s) (r:bU vs us) (h:sp (vs++dvs) H Q E):bu (cf X.prog X.w) X.A (call (.ref f) us) (EP X pk σ Q) X.xe s:=by
  have r2:bU (vs++dvs) (us++ds):=r.append hd;have hl:(us++ds).length=ps.length:=by rw[<- r2.length];exact F.len _ _ _ _ h
  refine xx (qz (F.run X.A X.stack s H ⟨us,[]⟩ (us++ds) (vs++dvs) Q E hr I.env0 (hb s us I.kIn hl) r2 h) λr s' hq=>?_);cases r with
  |error e=>exact hx pk σ H s e s' I hq
  |ok fl=>
    cases fl with
    |ret u=>exact I.after hq
    |next=>exact ii hq
    |brk=>exact ii hq
    |cont=>exact ii hq
theorem Ja(F:FnOk X.prog X.w X.K X.mg X.base CX k f fd ps sp)(hr:Room k X.A)(hg:Gl X x)(hm:X.mg x=aa (.ref f))(hk:qi X.K (.ref f)=aj)(hb:iL X.K fd ps ds)(hd:bU dvs ds)(hx:rB CX X E)
    (ha:PA X (e::es) t) (hdb:autoParam ((x==("__debug__" : bw))=ao) lS._auto_1) (he:autoParam (av (e::es) X.env=(ao,gn e X.env)::av es X.env) c8._auto_1) (hpl:autoParam ((iu pos (av es X.env)).any (·.1)=ao) c8._auto_1):
    PE X (.Call (.Name x p) (e::es) [] pos) (Nv sp dvs E t):=by
  intro pk s σ H Q I h;refine nr (mR I hg hm ?_ hdb);refine xi (h₀:=X.base) I.ok.mod.kin hk (thn (ha pos pk s σ H _ I h) λus s1 ⟨vs,H1,I1,r,q⟩=>⟨I1.kIn,?_⟩) he hpl;exact Cm F hr hb hd hx I1 r q
theorem JX(he:PE X o ta)(c:Cls X.K C)(hm:Meth X.K C m f)(F:FnOk X.prog X.w X.K X.mg X.base CX k f fd ps sp)(hr:Room k X.A)(hb:iL X.K fd ps ds)(hd:bU dvs ds)(hx:rB CX X E)(ha:PA X (e::es) t)
    (hst:autoParam (av (e::es) X.env=(ao,gn e X.env)::av es X.env) c8._auto_1) (hpl:autoParam ((iu pos (av es X.env)).any (·.1)=ao) c8._auto_1)
    (ht:autoParam (gn (.Call (.Attribute o m ZQ) (e::es) [] pos) X.env=(do
      let ov <- gn o X.env
      WO ZQ.atName
      let (f,first) <- WP [ov] (V8 ov m pl)
      Yg pos f first (iu pos (av (e::es) X.env)) (xz pos (sx [] X.env)))) c8._auto_1):
    PE X (.Call (.Attribute o m ZQ) (e::es) [] pos) (Kx C m sp dvs E ta t):=by
  intro pk s σ H Q I h;refine XM (pl:=pl) (thn (he pk s σ H _ I h) λu s1 ⟨x,H1,I1,rx,a,dx,fs,ex,ea,l,q⟩=>?_) ht;subst ex;obtain rfl:u=Value.ref a:=rx;refine wD I1 ea c hm l ?_;refine xi (first:=[.ref a]) (h₀:=X.base) I.ok.mod.kin hm.kp (thn (ha pos pk s1 σ H1 _ I1 q) λus s2 ⟨vs,H2,I2,r,q2⟩=>⟨I2.kIn,?_⟩) hst hpl;exact Cm (us:=.ref a::us) (vs:=.ref a::vs) F hr hb hd hx I2 (.cons rfl r) q2
theorem Gh(he:PE X o ta)(c:Cls X.K C)(hm:Meth X.K C m f)(F:FnOk X.prog X.w X.K X.mg X.base CX k f fd ps sp)(hr:Room k X.A)(hb:iL X.K fd ps ds)(hd:bU dvs ds)(hx:rB CX X E)
    (ht:autoParam (gn (.Call (.Attribute o m ZQ) [] [] pos) X.env=(do
      let ov <- gn o X.env
      WO ZQ.atName
      let (f,first) <- WP [ov] (V8 ov m pl)
      Yg pos f first (iu pos (av [] X.env)) (xz pos (sx [] X.env)))) c8._auto_1):
    PE X (.Call (.Attribute o m ZQ) [] [] pos) (Kx C m sp dvs E ta Np):=by
  intro pk s σ H Q I h;refine XM (pl:=pl) (thn (he pk s σ H _ I h) λu s1 ⟨x,H1,I1,rx,a,dx,fs,ex,ea,l,q⟩=>?_) ht;subst ex;obtain rfl:u=Value.ref a:=rx;refine wD I1 ea c hm l ?_;exact W.callWith_K0 (first:=[.ref a]) I1.kIn hm.kp (Cm (us:=[.ref a]) (vs:=[.ref a]) F hr hb hd hx I1 (.cons rfl .nil) q)
structure Mk(K:ap)(C f:af):Prop where
  makes:Xd K C=aj
  init:jr K (.ref C) "__init__" = aa (aa (.ref f))
  fn:Zs K (.ref f)=aj
  kp:qi K (.ref C)=aj
theorem GM{Q:VK}(M:Mk X.K C f)(F:FnOk X.prog X.w X.K X.mg X.base CX k f fd ps sp)(hr:Room (k+1) X.A)(hb:iL X.K fd ps ds)(hd:bU dvs ds)
    (hx:rB CX X E) (I:Inv X pk σ H s) (r:bU vs us)
    (h:∀x dx,H x=ar->H dx=ar->dx≠x->sp (.ref x::(vs++dvs)) (upd (upd H dx (.own x)) x (.ins C dx [])) (λv H2=>v=.non/\Q (.ref x) H2) E):
    bu (cf X.prog X.w) X.A (call (.ref C) us) (EP X pk σ Q) X.xe s:=by
  have hq:=h (s.heap.objs.size+1) s.heap.objs.size (I.hok.fresh (zc _)) (I.hok.fresh (bt _)) (gq (Xe _));have I2:=Inv.made (C:=C) I;have r2:bU (V.ref (s.heap.objs.size+1)::(vs++dvs)) (Value.ref (s.heap.objs.size+1)::(us++ds)):=.cons rfl (r.append hd);have hl:(Value.ref (s.heap.objs.size+1)::us++ds).length=ps.length:=by
    have e:=r2.length;rw[F.len _ _ _ _ hq] at e;exact e.symm
  refine xx (HS (f:=f) I.kIn M.makes M.init (beq_iff_eq.mp M.fn) (qz (F.run _ X.stack _ _ ⟨Value.ref (s.heap.objs.size+1)::us,[]⟩ (Value.ref (s.heap.objs.size+1)::(us++ds)) _ _ E (hr.make C us [])
    (I2.env0.make C us []) (hb _ (Value.ref (s.heap.objs.size+1)::us) I2.kIn hl) r2 hq) λr s' hq'=>?_))
  cases r with
  |error e=>exact hx pk σ _ _ e s' I2 hq'
  |ok fl=>
    cases fl with
    |ret u=>
      obtain⟨v,H',I3,rv,ev,q3⟩:=I2.after hq';subst ev;exact⟨rv,⟨V.ref (s.heap.objs.size+1),H',I3,rfl,q3⟩⟩
    |next=>exact ii hq'
    |brk=>exact ii hq'
    |cont=>exact ii hq'
theorem JY(M:Mk X.K C f)(F:FnOk X.prog X.w X.K X.mg X.base CX k f fd ps sp)(hr:Room (k+1) X.A)(hg:Gl X x)(hm:X.mg x=aa (.ref C))(hb:iL X.K fd ps ds)(hd:bU dvs ds)(hx:rB CX X E)
    (ha:PA X (e::es) t) (hdb:autoParam ((x==("__debug__" : bw))=ao) lS._auto_1) (he:autoParam (av (e::es) X.env=(ao,gn e X.env)::av es X.env) c8._auto_1) (hpl:autoParam ((iu pos (av es X.env)).any (·.1)=ao) c8._auto_1):
    PE X (.Call (.Name x p) (e::es) [] pos) (Nr C sp dvs E t):=by
  intro pk s σ H Q I h;refine nr (mR I hg hm ?_ hdb);refine xi (h₀:=X.base) I.ok.mod.kin M.kp (thn (ha pos pk s σ H _ I h) λus s1 ⟨vs,H1,I1,r,q⟩=>⟨I1.kIn,?_⟩) he hpl;exact GM M F hr hb hd hx I1 r q
end
section
variable {k:Nat}{ks:List bw}{E:XK}{x:bw}{pos kpos:lv}{o:Expr}{kws:List zg}{t tk:TA}{nm:Option bw}
variable {g:List ah->List ah->List ah}{gV:List V->List V->List V}
end
structure FnScope(N P:List bw)(sc:Scope):Prop where
  kind:sc.kind=.function
  co:sc.isCoroutine=ao
  gen:sc.isGenerator=ao
  nd:N.Nodup
  pre:N.take P.length=P
  par:∀x∈P,sc.names.lookup x=aa .local \/ sc.names.lookup x=aa .cell
  nofree:∀y∈sc.names,y.2 ≠ .free
theorem yO{mj:bw->Option wp}{x:bw}:∀{binds:List (bw×ah)} {m:bw->Option ah},(∀v,(x,v) ∉ binds)->Yh mj binds m x=m x
  | [],_,_=>rfl
  | (n,v)::r,m,h=>by
    unfold Yh;rw[yO λw hw=>h w (dg _ hw)];split
    . have:x≠n:=by rintro rfl;exact h v dk
      simp[this]
    . rfl
theorem yQ{mj:bw->Option wp}{x:bw}:∀{binds:List (bw×ah)} {m:bw->Option ah},(∀v,(x,v) ∉ binds)->Yi mj binds m x=m x
  | [],_,_=>rfl
  | (n,v)::r,m,h=>by
    unfold Yi;rw[yQ λw hw=>h w (dg _ hw)];split
    . rfl
    . have:x≠n:=by rintro rfl;exact h v dk
      simp[this]
theorem yP{mj:bw->Option wp}{x:bw}{v:ah}:∀{P:List bw} {vs:List ah} {i:Nat} {m:bw->Option ah},P.Nodup->P[i]?=aa x->vs[i]?=aa v->mj x=aa .local ->
    Yh mj (P.zip vs) m x=aa v
  | [],_,_,_,_,h,_,_=>by simp at h
  |_::_,[],_,_,_,_,h,_=>by simp at h
  |p::P,w::vs,0,m,nd,h1,h2,hk=>by
    simp at h1 h2;subst h1;subst h2;show Yh mj ((p,w)::P.zip vs) m p=_;unfold Yh;rw[yO λv hv=>(ya.mp nd).1 (Yj hv).1,ZE hk];simp
  |p::P,w::vs,i+1,m,nd,h1,h2,hk=>by
    show Yh mj ((p,w)::P.zip vs) m x=_;unfold Yh;exact yP (i:=i) (ya.mp nd).2 (by simpa using h1) (by simpa using h2) hk
theorem yR{mj:bw->Option wp}{x:bw}{v:ah}:∀{P:List bw} {vs:List ah} {i:Nat} {m:bw->Option ah},P.Nodup->P[i]?=aa x->vs[i]?=aa v->mj x≠aa .local ->
    Yi mj (P.zip vs) m x=aa v
  | [],_,_,_,_,h,_,_=>by simp at h
  |_::_,[],_,_,_,_,h,_=>by simp at h
  |p::P,w::vs,0,m,nd,h1,h2,hk=>by
    simp at h1 h2;subst h1;subst h2;show Yi mj ((p,w)::P.zip vs) m p=_;unfold Yi;rw[yQ λv hv=>(ya.mp nd).1 (Yj hv).1,Zg hk];simp
  |p::P,w::vs,i+1,m,nd,h1,h2,hk=>by
    show Yi mj ((p,w)::P.zip vs) m x=_;unfold Yi;exact yR (i:=i) (ya.mp nd).2 (by simpa using h1) (by simpa using h2) hk
noncomputable def start(N:List bw)(vs:List V):St:=vs.map aa++aw (N.length-vs.length) ar
noncomputable def KN(A:dj):List af:=match A.handled with
  |some (.ref a)=>[a]
  |_=>[]
theorem FZ(h:A.handled=ar):KN A=[]:=by
  unfold KN;rw[h]
noncomputable def cN(CX:Fy)(P:ay)(w:bz)(K:ap)(mg:bw->Option ah)(base:dq)(N:List bw)(ZG:bw)(ZF:Scope)(f:af)(cd:ah)(A:dj)(outer:List za)(s:ai)(H:Hp)(E:XK):Cx where
  prog:=P
  w:=w
  K:=K
  mg:=mg
  base:=base
  A:=A.deeper (sy ZG ZF s.heap.objs.size f cd)
  N:=N
  s₀:=s
  HZ:=H
  env:=sy ZG ZF s.heap.objs.size f cd
  outer:=outer
  stack:=sy ZG ZF s.heap.objs.size f cd::outer
  ex:=[]
  calm:=aj
  fn:=λ_=>aj
  pn:=[]
  hs:=KN A
  xe:=λe s'=>bu (cf P w) (A.deeper (sy ZG ZF s.heap.objs.size f cd)) (Y0 (sy ZG ZF s.heap.objs.size f cd) e) (λ_ s''=>CX outer H s E e s'') (λe' s''=>CX outer H s E e' s'') s'
theorem CF{sc:Scope}{x:bw}(h:sc.names.lookup x=aa .cell):∃c,(YI n sc.names []).lookup x=aa c:=by
  have q:=Xg sc.names n [] (.inl h);exact zh.mp q
theorem FX{cd:ah}{s1:ai}{E:XK}
    (S:FnScope N ps ZF) (hd:A.handled=ar) (e0:Env0 P w K mg base A outer s H) (hl:vs.length=ps.length) (r:bU vs us)
    (x:InCallC s s.heap.objs.size (Yh (sy ZG ZF s.heap.objs.size f cd).kindOf (ps.zip us) λ_=>ar) (YI (s.heap.objs.size+1) ZF.names []) (Yi (sy ZG ZF s.heap.objs.size f cd).kindOf (ps.zip us) λ_=>ar) s1):
    Inv (cN CX P w K mg base N ZG ZF f cd A outer s H E) [] (start N vs) H s1:=by
  have hpl:ps.length<=N.length:=by have:=congrArg List.length S.pre;rw[ef] at this;right
  obtain⟨h1,tk,rfl,hk⟩:=x.done;have noA:∀b:af,b ∉ (cN CX P w K mg base N ZG ZF f cd A outer s H E).ex:=λb z=>absurd (show b∈([]:List af) from z) (by simp);refine⟨⟨e0.mod,S.kind,rfl,rfl,bt _,λy z c h1 h2=>?_,λy hy=>?_,λy c _ h=>?_,λ_=>hd,Around.frames_deeper e0.frames,.inr ⟨rfl,rfl⟩,λb z=>absurd z (noA b),e0.bs,e0.bsz,λb _ _=>noA b,λb z=>absurd z (noA b),e0.funs,e0.frf,.inl hd⟩,
    rfl,e0.bare,Un.kept hk,⟨_,x.toInCall.ns,λi y v h1 h2 h3=>?_⟩,λy c h=>⟨_,x.cell y c h⟩,e0.hok.fresh (bt _),λy c h=>?_,λp hp=>absurd (show p∈([]:List (af×jv)) from hp) (by simp),e0.hok.kept hk,?_,λa ha=>absurd (show a∈KN A from ha) (by rw[FZ hd];simp)⟩
  . exact name_of_addr x.apart (ig h1) (ig h2)
  . have hy:ZF.names.lookup y=aa .cell \/ ZF.names.lookup y=aa .free:=hy;rcases hy with hy | hy
    . exact CF hy
    . exact absurd rfl (S.nofree _ (ig hy))
  . exact WM (x.above y c (ig h))
  . have hi:i<vs.length:=by
      unfold start at h2;by_cases hi:i<vs.length
      . exact hi
      . rw[bo (by simpa using hi)] at h2;rw[jt] at h2;split at h2<;>cases h2
    have ha:vs[i]?=aa v:=by
      unfold start at h2;rw[bh (by simpa using hi),dh] at h2;cases e:vs[i]? with
      |none=>rw[e] at h2;cases h2
      |some a=>rw[e] at h2;cases h2;rfl
    obtain⟨u,hu,rv⟩:=r.get ha;have hp:ps[i]?=aa y:=by
      rw[<- S.pre,ie ⋯];exact h1
    have ndP:ps.Nodup:=by rw[<- S.pre];exact S.nd.sublist (zi _ _)
    refine⟨u,rv,?_⟩;rcases S.par y (fh hp) with k | k
    . exact .inl ⟨k,yP ndP hp hu k⟩
    . obtain⟨c,e⟩:=CF (n:=s.heap.objs.size+1) k;refine .inr ⟨.inl k,c,e,?_⟩;have q:=x.cell y c e;rw[yR ndP hp hu (by show ZF.names.lookup y≠_;rw[k];decide)] at q;exact q
  . exact e0.hok.fresh (WM (x.above y c (ig h)))
  . unfold start;show _=N.length;rw[eg,bf,nh];right
theorem LG{k:Nat}{params:Arguments}{dV kV doc pm cdv ct oc:ah}{an od:Option af}
    {osl:Array (Option ah)}   (lk:K.lookup f=aa ⟨oc,od,.func (zu name ZG params ZS ZF dV kV doc pm an cdv ct),osl⟩) (hcd:VW K cdv ZG=aj) (S:FnScope N ps ZF)
    (len:∀vs H Q E,sp vs H Q E->vs.length=ps.length)
    (ZR:∀(A:dj) (outer:List za) (s:ai) (H:Hp) (vs:List V) (Q:VK) (E:XK),Room k (A.deeper (sy ZG ZF s.heap.objs.size f cdv))->sp vs H Q E ->
      ∃t,uW (cN CX P w K mg base N ZG ZF f cdv A outer s H E) ZS t/\t { nx:=λ_ H'=>Q .non H',rt:=Q } (start N vs) H):
    FnOk P w K mg base CX (k+1) f (zu name ZG params ZS ZF dV kV doc pm an cdv ct) ps sp:=by
  refine⟨len,λA outer s H args us vs Q E hr e0 hb r hsp=>?_⟩;have hl:=len _ _ _ _ hsp;have KX:K.In s.heap:=e0.mod.kin.keeps λb o e=>(e0.bs b o e).1;have lim:s.heap.NoLimit:=e0.mod.nolimit.keeps λb o e=>(e0.bs b o e).1;have ZP:∀y∈ps.zip us,ZF.names.lookup y.1=aa .local \/ (ZF.names.lookup y.1=aa .cell/\((YI (s.heap.objs.size+1) ZF.names []).lookup y.1).isSome=aj):=λ⟨n,v⟩ hy=>by
    rcases S.par n (Yj hy).1 with q | q
    . exact .inl q
    . exact .inr ⟨q,Xg _ _ _ (.inl q)⟩
  refine codeAny_call_function hr.depth (KX _ _ lk) rfl S.co S.gen rfl (W.codeRec_of KX hcd) (hb _ _ _ _ ?_);refine wpAny_newFunctionEnv_cells S.kind ZP λenv he s1 x=>?_;subst he;refine⟨lim.keeps x.toInCall.keep,codeAny_func ?_⟩;obtain⟨t,ht,hq⟩:=ZR A outer s H vs Q E (hr.deeper _) hsp;have I:Inv (cN CX P w K mg base N ZG ZF f cdv A outer s H E) [] (start N vs) H s1:=FX S hr.hd e0 hl r x;refine gv (ht [] s1 (start N vs) H _ I hq) (λfl s' hs=>?_) λe s' hs=>hs;have fin:∀{σ':St} {H':Hp} {v:V} {u:ah},Inv (cN CX P w K mg base N ZG ZF f cdv A outer s H E) [] σ' H' s'->cR v u->Q v H'->CE outer P w H s Q u s':=
    λ{σ' H' v u} J rv q=>⟨v,H',J.os,J.bare,J.base,J.hok,rv,q⟩
  cases fl with
  |ret u=>
    obtain⟨v,σ',H',J,rv,q⟩:=hs;exact fin J rv q
  |next=>
    obtain⟨σ',H',J,q⟩:=hs;exact fin (v:=V.non) (u:=gg) J rfl q
  |brk=>
    obtain⟨_,_,_,q⟩:=hs;exact ii q
  |cont=>
    obtain⟨_,_,_,q⟩:=hs;exact ii q
section
variable {x:bw}{pos:lv}{t:TA}{id T:String}{r:List V->Hp->VK->Prop}
noncomputable def RO(r:List V->Hp->VK->Prop)(t:TA):TE:=λσ H Q=>t σ H λvs H1=>r vs H1 Q
theorem rY(hc:fP X (.builtin id) r)(hg:Gl X x)(hm:X.mg x=ar)(hv:oy x=aa (.builtin id))(ha:PA X (e::es) t)(hn:autoParam (x ≠ "__name__") lS._auto_1)(hdb:autoParam ((x==("__debug__" : bw))=ao) lS._auto_1)
    (he:autoParam (av (e::es) X.env=(ao,gn e X.env)::av es X.env) c8._auto_1) (hpl:autoParam ((iu pos (av es X.env)).any (·.1)=ao) c8._auto_1):PE X (.Call (.Name x p) (e::es) [] pos) (RO r t):=by
  intro pk s σ H Q I h;refine nr (o9 I hg hm hv ?_ hn hdb);exact Xh (thn (ha pos pk s σ H _ I h) λus s1 zq1=>by obtain⟨vs,H1,I1,r1,q1⟩:=zq1;exact hc pk s1 σ H1 vs us Q I1 r1 q1) he hpl
theorem sZ(hc:fP X (.type T) r)(hg:Gl X x)(hm:X.mg x=ar)(hv:oy x=aa (.type T))(ha:PA X (e::es) t)(hn:autoParam (x ≠ "__name__") lS._auto_1)(hdb:autoParam ((x==("__debug__" : bw))=ao) lS._auto_1)
    (he:autoParam (av (e::es) X.env=(ao,gn e X.env)::av es X.env) c8._auto_1) (hpl:autoParam ((iu pos (av es X.env)).any (·.1)=ao) c8._auto_1):PE X (.Call (.Name x p) (e::es) [] pos) (RO r t):=by
  intro pk s σ H Q I h;refine nr (o9 I hg hm hv ?_ hn hdb);exact ip (thn (ha pos pk s σ H _ I h) λus s1 zq2=>by obtain⟨vs,H1,I1,r1,q1⟩:=zq2;exact hc pk s1 σ H1 vs us Q I1 r1 q1) he hpl
end
end L2
namespace HT
open PySem PyProof.Rows
section
open PySem.SeqAt
open PySem.AutoSeq1 (wpAny_loadPart')
open PySem.MeetsSeq PySem.MeetsSeq2 PySem.MeetsSeq3
end
variable {sl:af}{vl vu:ah}{lo hi:Option Int}
noncomputable def i5(n d:Nat):Option Int->Nat
  |none=>d
  |some v=>if v<0 then (v+(n:Int)).toNat else min v.toNat n
theorem Az(n d:Nat):i5 n d ar=d:=rfl
theorem Lq(n d:Nat)(hd:d<=n)(o:Option Int):i5 n d o<=n:=by
  cases o with
  |none=>exact hd
  |some v=>
    show (if v<0 then (v+(n:Int)).toNat else min v.toNat n)<=n;by_cases hv:v<0
    . rw[ZE hv];right
    . rw[Zg hv];exact Nat.min_le_right _ _
theorem EO(v:Int)(n d:Nat):(if v<0 then max (v+(n:Int)) 0 else min v (n:Int))=((i5 n d (aa v):Nat):Int):=by
  show (if v<0 then max (v+(n:Int)) 0 else min v (n:Int))=(((if v<0 then (v+(n:Int)).toNat else min v.toNat n):Nat):Int);by_cases hv:v<0
  . simp only[ZE hv];right
  . simp only[Zg hv];right
theorem DX(lo hi:Option Int)(n:Nat):ue lo hi 1 (n:Int)=(((i5 n 0 lo:Nat):Int),((i5 n n hi:Nat):Int)):=by
  have h1:¬((1:Int)<0):=⋯;unfold ue;simp only[h1,if_false];refine Prod.ext ?_ ?_
  . cases lo with
    |none=>rfl
    |some v=>exact EO v n 0
  . cases hi with
    |none=>rfl
    |some v=>exact EO v n n
theorem Cv(i j:Nat):oo (i:Int) (j:Int) 1=j-i:=by
  unfold oo;have h1:(1:Int) > 0:=⋯;simp only[h1,if_true,Int.ediv_one];split<;>right
theorem vD{v:ah}{o:Option Int}{Q:Option Int->ai->Prop}(p:WC v o)(h:Q o s):bu (cf prog w) A (XO v) Q E s:=by
  cases p with
  |none=>exact Yk h
  |int i t=>exact slicePart_int h
theorem sX{Q:Int×Int×Nat->ai->Prop}(hs:s.heap.IsSliceOf sl vl vu .none)(pl:WC vl lo)(pu:WC vu hi)
    (h:Q (((i5 n 0 lo:Nat):Int),1,i5 n n hi-i5 n 0 lo) s):bu (cf prog w) A (yb (.ref sl) (jo (n:Int))) Q E s:=by
  obtain⟨os,hos,hcs,hds⟩:=id hs;unfold yb YA;refine ae (ae (fz hos hds (x:=vl) rfl (ae (fz hos hds (x:=vu) rfl (ae (fz hos hds (x:=.none) rfl (ak ?_)))))));refine ae (Yk ?_);show bu _ _ (if ((1:Int)==0)=aj then _ else _) _ _ s;rw[Zg ∅];refine ae (vD pl (ae (vD pu (ae (ak ?_)))));show bu _ _ (match ue lo hi 1 (n:Int) with | (lo,hi)=>jo (lo,(1:Int),oo lo hi 1)) _ _ s;rw[DX lo hi n];show bu _ _ (jo (((i5 n 0 lo:Nat):Int),(1:Int),oo ((i5 n 0 lo:Nat):Int) ((i5 n n hi:Nat):Int) 1)) _ _ s;rw[Cv];exact ak h
theorem Gf(xs:Array ah)(i k:Nat):((gy k).filterMap λ(m:Nat)=>xs[((i:Int)+(m:Int)*1).toNat]?).toArray=((xs.toList.drop i).take k).toArray:=by
  have e:(λ(m:Nat)=>xs[((i:Int)+(m:Int)*1).toNat]?)=λm=>xs[i+m]?:=by
    funext m;have:((i:Int)+(m:Int)*1).toNat=i+m:=⋯;rw[this]
  rw[e];have:=pick_run xs i k;rw[List.filterMap_map] at this;have e2:((λx=>xs[x]?) ∘ λx=>i+x)=λm=>xs[i+m]?:=rfl;rw[e2] at this;rw[this]
theorem sJ{t:af}{ZJ:Array ah}{Q:ah->ai->Prop}(ht:IsTup s.heap t ZJ)(hs:s.heap.IsSliceOf sl vl vu .none)(pl:WC vl lo)(pu:WC vu hi)
    (hw:¬(i5 ZJ.size 0 lo=0/\i5 ZJ.size ZJ.size hi=ZJ.size))
    (h:Q (.ref s.heap.objs.size) { s with heap:=s.heap.push { cls:=.type "tuple",data:=.seq ((ZJ.toList.drop (i5 ZJ.size 0 lo)).take (i5 ZJ.size ZJ.size hi-i5 ZJ.size 0 lo)).toArray } })
    (hsz:ZJ.size<=bv):bu (cf prog w) A (WT (.ref t) (.ref sl)) Q E s:=by
  have htake:sizeOk (.seq ((ZJ.toList.drop (i5 ZJ.size 0 lo)).take (i5 ZJ.size ZJ.size hi-i5 ZJ.size 0 lo)).toArray):=by
    show ((ZJ.toList.drop (i5 ZJ.size 0 lo)).take (i5 ZJ.size ZJ.size hi-i5 ZJ.size 0 lo)).toArray.size<=bv;rw[fk,ef,VX,ui];right
  have hj:i5 ZJ.size ZJ.size hi<=ZJ.size:=Lq _ _ (bt _) hi;obtain⟨os,hos,hcs,hds⟩:=id hs;have hTs:s.TypeIs (.ref sl) "slice" := ⟨os,hos,hcs⟩;unfold WT
  try with_reducible refine jf ?_
  first | refine ae (ak ?_) | skip
  refine ae (wpAny_sequenceKey ht.typeIs ∅ ?_);refine ae (gm (name:=im "__getitem__") ht.typeIs qe
    (gf qe ht.typeIs entry_tuple_getitem ?_ (args_tuple_getitem _ _)))
  show bu _ _ (yc (.ref t) >>= _) _ _ s;refine ae (tupleItemsOf_ ht ?_);refine ae (wpAny_typeOf hTs ?_);rw[ZE ∅];refine ae (sX hs pl pu ?_);have hno:¬((((i5 ZJ.size 0 lo:Nat):Int)==0&&(1:Int)==1&&(i5 ZJ.size ZJ.size hi-i5 ZJ.size 0 lo)==ZJ.size)=aj):=by
    intro q;rw[dt,dt] at q;have q1:((i5 ZJ.size 0 lo:Nat):Int)=0:=YJ q.1.1;have q2:i5 ZJ.size ZJ.size hi-i5 ZJ.size 0 lo=ZJ.size:=YJ q.2;exact hw ⟨⋯,⋯⟩
  show bu _ _ (if (((i5 ZJ.size 0 lo:Nat):Int)==0&&(1:Int)==1&&(i5 ZJ.size ZJ.size hi-i5 ZJ.size 0 lo)==ZJ.size)=aj then _ else _) _ _ s;rw[Zg hno,Gf]
  first
    |exact ae (m:=qc _) (ik (ak ⟨_,rfl,ak h⟩) htake)
    |exact ae (m:=qc _) (ik (ae (ak (ak ⟨_,rfl,ak h⟩))) htake)
    |exact ae (ae (m:=qc _) (ik (ak (ak ⟨_,rfl,ak h⟩)) htake))
    |exact ae (ae (m:=qc _) (ik (ak ⟨_,rfl,ak h⟩) htake))
end HT
variable {H:L2.Hp}{X:L2.Cx}{σ:L2.St}{ns:List Int}{ZN:lv}
namespace L2
noncomputable abbrev TO:=St->Hp->(Option Int->Hp->Prop)->Prop
noncomputable def PO(X:Cx)(e:Option Expr)(t:TO):Prop:=
  ∀(pk:List (af×jv)) (s:ai) (σ:St) (H:Hp) (Q:Option Int->Hp->Prop),Inv X pk σ H s->t σ H Q ->
    bu (cf X.prog X.w) X.A (evalPart e X.env) (λu s'=>∃o H',Inv X pk σ H' s'/\WC u o/\Q o H') X.xe s
noncomputable def J2:TO:=λ_ H Q=>Q ar H
noncomputable def Nm(t:TE):TO:=λσ H Q=>t σ H λx H1=>∃i,x=.int i/\Q (aa i) H1
theorem qM:∀{us:List ah},bU (ns.map V.int) us->uo us ns:=by
  induction ns with
  |nil=>intro us r;rw[zj] at r;cases r;exact .nil
  |cons n ns ih=>
    intro us r;rw[de] at r;cases r with
    |cons r1 r2=>
      obtain⟨t,e⟩:=r1;subst e;exact .cons n t (ih r2)
variable {r:V->Option Int->Option Int->Hp->VK->Prop}
section
variable {te:TE}{lo hi:Option Expr}{tl th:TO}{pos p2:lv}
theorem JU:PO X ar J2:=by
  intro pk s σ H Q I h;rw[evalPart_none];exact ak ⟨ar,H,I,.none,h⟩
theorem JT(h:PE X e te):PO X (aa e) (Nm te):=by
  intro pk s σ H Q I hw;rw[evalPart_some];refine thn (h pk s σ H _ I hw) λu s1 zz=>?_;obtain⟨x,H1,I1,r1,q1⟩:=zz;obtain⟨i,rfl,q⟩:=q1;obtain⟨t,rfl⟩:=r1;exact⟨aa i,H1,I1,.int i t,q⟩
noncomputable def NR(X:Cx)(r:V->Option Int->Option Int->Hp->VK->Prop):Prop:=
  ∀(pk:List (af×jv)) (s:ai) (σ:St) (H:Hp) (x:V) (v vl vu:ah) (lo hi:Option Int) (sl:af) (Q:VK),Inv X pk σ H s->cR x v->s.heap.IsSliceOf sl vl vu .none->WC vl lo->WC vu hi->r x lo hi H Q ->
    ∃T id,typeLookup (.type T) "__getitem__" = jo (aa (.builtin id))/\s.TypeIs v T/\bu (cf X.prog X.w) X.A (WT v (.ref sl)) (EP X pk σ Q) X.xe s
theorem NR.or{r':V->Option Int->Option Int->Hp->VK->Prop}(h:NR X r)(h':NR X r'):NR X (λx lo hi H Q=>r x lo hi H Q \/ r' x lo hi H Q):=by
  intro pk s σ H x v vl vu lo hi sl Q I rx hs pl pu q;rcases q with q | q
  . exact h pk s σ H x v vl vu lo hi sl Q I rx hs pl pu q
  . exact h' pk s σ H x v vl vu lo hi sl Q I rx hs pl pu q
noncomputable def US(r:V->Option Int->Option Int->Hp->VK->Prop)(te:TE)(tl th:TO):TE:=λσ H Q=>te σ H λx H1=>tl σ H1 λl H2=>th σ H2 λu H3=>r x l u H3 Q
theorem Gg(hr:NR X r)(he:PE X e te)(hl:PO X lo tl)(hu:PO X hi th):PE X (.Subscript e (.Slice lo hi ar p2) pos) (US r te tl th):=by
  intro pk s σ H Q I h;refine Subscript_ (thn (he pk s σ H _ I h) λv s1 zz=>?_);obtain⟨x,H1,I1,r1,q1⟩:=zz;refine wpAny_Slice (thn (hl pk s1 σ H1 _ I1 q1) λvl s2 ⟨l,H2,I2,pl,q2⟩=>thn (hu pk s2 σ H2 _ I2 q2) λvu s3 zz=>?_);obtain⟨u,H3,I3,pu,q3⟩:=zz;rw[evalPart_none];refine ak ?_;have I4:Inv X pk σ H3 { s3 with heap:=s3.heap.push { cls:=.type "slice",data:=.fields #[vl,vu,.none] } }:=I3.kept (t':=s3.toks) λb ob q=>aq _ q;obtain⟨T,id,hT,ht,hg⟩:=hr pk { s3 with heap:=s3.heap.push { cls:=.type "slice",data:=.fields #[vl,vu,.none] } } σ H3 x v vl vu l u s3.heap.objs.size Q I4 r1 (Heap.IsSliceOf.new ..) pl pu q3;show bu (cf X.prog X.w) X.A (Wq e (.Slice lo hi ar p2) v (.ref s3.heap.objs.size)) (EP X pk σ Q) X.xe { s3 with heap:=s3.heap.push { cls:=.type "slice",data:=.fields #[vl,vu,.none] } };exact tail_any (ops:=[.ref s3.heap.objs.size,v]) ht hT hg (by with_unfolding_all rfl)
noncomputable def CC(xs:List V)(lo hi:Option Int):List V:=(xs.drop (HT.i5 xs.length 0 lo)).take (HT.i5 xs.length xs.length hi-HT.i5 xs.length 0 lo)
theorem tZ(xs:List V)(lo hi:Option Int):(CC xs lo hi).length<=xs.length:=by
  unfold CC;rw[ef,VX];right
noncomputable def Rg(K:ap):V->Option Int->Option Int->Hp->VK->Prop:=λx lo hi H Q=>∃a xs,x=.ref a/\pL K H a xs /\
  ¬(HT.i5 xs.length 0 lo=0/\HT.i5 xs.length xs.length hi=xs.length) /\ ∀p,H p=ar->Q (.ref p) (upd H p (.tup (CC xs lo hi)))
theorem Lm:NR X (Rg X.K):=by
  intro pk s σ H x v vl vu lo hi sl Q I rx hs pl pu h;obtain⟨a,xs,rfl,hx,hw,q⟩:=h;cases rx;obtain⟨its,r,ht,hz⟩:=I.tuple hx;have hlen:its.toArray.size=xs.length:=by rw[fk];exact r.length.symm
  refine⟨"tuple",_,qe.lookup,ht.typeIs,?_⟩;refine HT.sJ ht hs pl pu (by rw[hlen];exact hw) ?_ (by rw[hlen];exact hz);rw[hlen];refine⟨.ref s.heap.objs.size,_,I.laid (t':=s.toks) (o:=.tup (CC xs lo hi)) (λb ob q=>aq _ q) (bt _) ?_,rfl,q _ (I.hok.fresh (bt _))⟩;exact⟨ly (tZ xs lo hi) hz,_,(r.drop (HT.i5 xs.length 0 lo)).take (HT.i5 xs.length xs.length hi-HT.i5 xs.length 0 lo),IsTup.new _ _⟩
end
noncomputable def uL(n:Nat)(i:Int):Option Nat:=if 0<=i then (if i<n then aa i.toNat else ar) else if -(n:Int)<=i then aa (i+n).toNat else ar
noncomputable def rA(xs:List α)(i:Int):Option α:=(uL xs.length i).bind λj=>xs[j]?
variable {i:Int}
theorem KJ{j:Nat}(h:uL n i=aa j):seqIndex? i n=aa j/\j<n /\ -(n:Int)<=i/\i<n:=by
  unfold uL at h;by_cases h0:0<=i
  . rw[ZE h0] at h;by_cases h1:i<n
    . rw[ZE h1] at h;have e:i.toNat=j:=Option.some.inj h;exact⟨by rw[seqIndex_of h0 h1,e],⋯,⋯,h1⟩
    . rw[Zg h1] at h;cases h
  . rw[Zg h0] at h;by_cases h1:-(n:Int)<=i
    . rw[ZE h1] at h;have e:(i+n).toNat=j:=Option.some.inj h;exact⟨by rw[seqIndex_neg ⋯ h1,e],⋯,h1,⋯⟩
    . rw[Zg h1] at h;cases h
theorem Aa{xs:List α}{v:α}(h:rA xs i=aa v):∃j,seqIndex? i xs.length=aa j/\xs[j]?=aa v/\j<xs.length /\ -(xs.length:Int)<=i/\i<xs.length:=by
  unfold rA at h;cases e:uL xs.length i with
  |none=>rw[e] at h;cases h
  |some j=>
    rw[e] at h;obtain⟨h1,h2,h3,h4⟩:=KJ e;exact⟨j,h1,h,h2,h3,h4⟩
noncomputable def EU(b:Expr):Prop:=∀o i,XE b ao o i=operate [o,i] (WT o i)
noncomputable def Im(X:Cx)(r:R2):Prop:=
  ∀(ZM ZV:Expr) (pk:List (af×jv)) (s:ai) (σ:St) (H:Hp) (x y:V) (v u:ah) (Q:VK),Inv X pk σ H s->cR x v->cR y u->r x y H Q ->
    XE ZV ao v u=operate [v,u] (WT v u)->bu (cf X.prog X.w) X.A (Wq ZM ZV v u) (EP X pk σ Q) X.xe s
noncomputable def UL(X:Cx)(id:String)(r:V->List V->Hp->VK->Prop):Prop:=
  ∀(pk:List (af×jv)) (s:ai) (σ:St) (H:Hp) (x:V) (xs:List V) (v:ah) (us:List ah) (Q:VK),Inv X pk σ H s->cR x v->bU xs us->r x xs H Q ->
    bu (cf X.prog X.w) X.A (call (.builtin id) (v::us)) (EP X pk σ Q) X.xe s
variable {T:String}
section
variable {a b:Expr}{ta tb:TE}{pos:lv}
theorem Im.or{r r':R2}(h:Im X r)(h':Im X r'):Im X (λx y H Q=>r x y H Q \/ r' x y H Q):=by
  intro ZM ZV pk s σ H x y v u Q I rx ry q hs;rcases q with q | q
  . exact h ZM ZV pk s σ H x y v u Q I rx ry q hs
  . exact h' ZM ZV pk s σ H x y v u Q I rx ry q hs
theorem Oa{r:R2}(hr:Im X r)(ha:PE X a ta)(hb:PE X b tb)(hs:EU b):PE X (.Subscript a b pos) (Nn r ta tb):=by
  intro pk s σ H Q I h;exact Subscript_ (NJ ha hb I h λv u s2 x y H2 I2 rx ry q=>hr a b pk s2 σ H2 x y v u Q I2 rx ry q (hs _ _))
noncomputable def OL(K:ap):R2:=λx y H Q=>∃p xs i v,x=.ref p/\y=.int i/\gK K H p xs/\rA xs i=aa v/\Q v H
noncomputable def OI(K:ap):R2:=λx y H Q=>∃p xs i v,x=.ref p/\y=.int i/\pL K H p xs/\rA xs i=aa v/\Q v H
noncomputable def OJ:R2:=λx y H Q=>∃z i c,x=.str z/\y=.int i/\z.length<=bv/\rA z.cps.toList i=aa c/\Q (.str ⟨#[c]⟩) H
theorem KH:Im X (OL X.K):=by
  intro ZM ZV pk s σ H x y v u Q I rx ry h hs;obtain⟨p,xs,i,z,rfl,rfl,hq,he,q⟩:=h;cases rx;obtain⟨t,rfl⟩:=ry;obtain⟨its,r,pl,hz⟩:=I.list hq;obtain⟨j,h1,h2,h3,h4,h5⟩:=Aa he;obtain⟨w,ew,rw'⟩:=r.get h2;have hl:=r.length;have hn:=tB;have fin:EP X pk σ Q w s:=⟨z,H,I,rw',q⟩;by_cases h0:0<=i
  . have hj:i.toNat=j:=by
      rw[seqIndex_of h0 h5] at h1;exact Option.some.inj h1
    exact item_listR pl.isList h0 ⋯ (by rw[hj];simpa using ew) fin hs
  . have hj:(i+(its.toArray.size:Int)).toNat=j:=by
      rw[seqIndex_neg ⋯ h4] at h1;rw[fk,<- hl];exact Option.some.inj h1
    exact Vq (x:=w) pl.isList.typeIs WU.lookup
      (wpAny_getItem_list_neg (Q:=λr s'=>r=w/\EP X pk σ Q r s') pl.isList ⋯ (by rw[fk]<;>right) ⋯ (by rw[hj];simpa using ew) ⟨rfl,fin⟩) hs
theorem Mw:Im X (OI X.K):=by
  intro ZM ZV pk s σ H x y v u Q I rx ry h hs;obtain⟨p,xs,i,z,rfl,rfl,hq,he,q⟩:=h;cases rx;obtain⟨t,rfl⟩:=ry;obtain⟨its,r,pl,hz⟩:=I.tuple hq;obtain⟨j,h1,h2,h3,h4,h5⟩:=Aa he;obtain⟨w,ew,rw'⟩:=r.get h2;have hl:=r.length;have hn:=tB;have fin:EP X pk σ Q w s:=⟨z,H,I,rw',q⟩;exact Vq (x:=w) pl.typeIs slot_tuple_getitem.lookup
    (getItem_tuple (j:=j) (Q:=λr s'=>r=w/\EP X pk σ Q r s') pl ⋯ ⋯ (by rw[fk,<- hl];exact h1) (by simpa using ew) ⟨rfl,fin⟩) hs
theorem Mx:Im X OJ:=by
  intro ZM ZV pk s σ H x y v u Q I rx ry h hs;obtain⟨z,i,c,rfl,rfl,hz,he,q⟩:=h;obtain⟨t,rfl⟩:=rx;obtain⟨t',rfl⟩:=ry;obtain⟨j,h1,h2,h3,h4,h5⟩:=Aa he;have hl:z.cps.toList.length=z.length:=by simp[Str.length]
  rw[hl] at h1 h4 h5;have hn:=tB;exact tail_any (typeIs_str s z t) slot_str_getitem.lookup (getItem_str (c:=c) (by
    have e1:decide (i < -(2 ^ 63:Int))=ao:=decide_eq_false ⋯;have e2:decide (i >= 2 ^ 63)=ao:=decide_eq_false ⋯;rw[e1,e2,Bool.or_false]) (by rw[h1];simpa using h2) ⟨.str ⟨#[c]⟩,H,I.tok _,⟨_,rfl⟩,q⟩) hs
noncomputable def UV(K:ap):R2:=λx y H Q=>OL K x y H Q \/ OI K x y H Q \/ OJ x y H Q
theorem My:Im X (UV X.K):=KH.or (Mw.or Mx)
theorem zE(lo hi:Option Int)(n:Nat):(ux lo hi ar n).1=((HT.i5 n 0 lo:Nat):Int)/\(ux lo hi ar n).2.1=((HT.i5 n n hi:Nat):Int)/\(ux lo hi ar n).2.2=1:=by
  refine⟨?_,?_,rfl⟩
  . cases lo with
    |none=>simp[ux,HT.i5]
    |some i=>
      simp only[ux,HT.i5,getD_none,show (1:Int) > 0 by decide,if_true];by_cases h:i<0
      . simp only[h,if_true]<;>right
      . simp only[h,if_false]<;>right
  . cases hi with
    |none=>simp[ux,HT.i5]
    |some i=>
      simp only[ux,HT.i5,getD_none,show (1:Int) > 0 by decide,if_true];by_cases h:i<0
      . simp only[h,if_true]<;>right
      . simp only[h,if_false]<;>right
theorem wW(its:List ah)(lo hi:Option Int):slicePick its.toArray lo hi ar=((its.drop (HT.i5 its.length 0 lo)).take (HT.i5 its.length its.length hi-HT.i5 its.length 0 lo)).toArray:=by
  obtain⟨h1,h2,h3⟩:=zE lo hi its.toArray.size;unfold slicePick;rw[h1,h2,h3];simp only[sliceRange_one,pick_run,fk]<;>rfl
noncomputable def Rh(K:ap):V->Option Int->Option Int->Hp->VK->Prop:=λx lo hi H Q=>∃a xs,x=.ref a/\gK K H a xs /\ ∀p,H p=ar->Q (.ref p) (upd H p (.lst (CC xs lo hi)))
theorem J5:NR X (Rh X.K):=by
  intro pk s σ H x v vl vu lo hi sl Q I rx hs pl pu h;obtain⟨a,xs,rfl,hx,q⟩:=h;cases rx;obtain⟨its,r,ht,hz⟩:=I.list hx;have hlen:=r.length;refine⟨"list",_,WU.lookup,ht.isList.typeIs,?_⟩;refine wpAny_getItem_list_slice ht.isList hs pl pu .none (by simp) ?_ (by rw[fk]<;>right);rw[wW,<- hlen];refine⟨.ref s.heap.objs.size,_,I.laid (t':=s.toks) (o:=.lst (CC xs lo hi)) (λb ob q=>aq _ q) (bt _) ?_,rfl,q _ (I.hok.fresh (bt _))⟩;exact⟨ly (tZ xs lo hi) hz,_,0,(r.drop (HT.i5 xs.length 0 lo)).take (HT.i5 xs.length xs.length hi-HT.i5 xs.length 0 lo),cm _ rfl⟩
theorem AY:fP X (.builtin "len") (λxs H Q=>∃p ys,xs=[.ref p]/\(gK X.K H p ys \/ pL X.K H p ys)/\Q (.int ys.length) H):=by
  intro pk s σ H xs us Q I r h;obtain⟨p,ys,rfl,hq,q⟩:=h;obtain⟨u,rfl,rx⟩:=kK r;cases rx;have hn:=tB;rcases hq with hq | hq
  . obtain⟨its,r',pl,hz⟩:=I.list hq;have hlen:=r'.length;exact Calls.call_len_list pl.isList (by simp only[fk]<;>right) ⟨.int ys.length,H,I.tok _,⟨s.toks+1,by rw[fk,hlen]⟩,q⟩
  . obtain⟨its,r',pl,hz⟩:=I.tuple hq;have hlen:=r'.length;exact len_tuple pl (by simp only[fk]<;>right) ⟨.int ys.length,H,I.tok _,⟨s.toks+1,by rw[fk,hlen]⟩,q⟩
theorem AX:fP X (.builtin "len") (λxs H Q=>∃z,xs=[.str z]/\z.length<=bv/\Q (.int z.length) H):=by
  intro pk s σ H xs us Q I r h;obtain⟨z,rfl,hz,q⟩:=h;obtain⟨u,rfl,t,rfl⟩:=kK r;have hn:=tB;exact len_str ⋯ ⟨.int z.length,H,I.tok _,⟨_,rfl⟩,q⟩
theorem fP.or{f:ah}{r r':List V->Hp->VK->Prop}(h:fP X f r)(h':fP X f r'):fP X f (λxs H Q=>r xs H Q \/ r' xs H Q):=by
  intro pk s σ H xs us Q I rs q;rcases q with q | q
  . exact h pk s σ H xs us Q I rs q
  . exact h' pk s σ H xs us Q I rs q
theorem AW:fP X (.type "list") (λxs H Q=>∃p ys,xs=[.ref p]/\(gK X.K H p ys \/ pL X.K H p ys) /\ ∀l,H l=ar->Q (.ref l) (upd H l (.lst ys))):=by
  intro pk s σ H xs us Q I r h;obtain⟨p,ys,rfl,hq,q⟩:=h;obtain⟨u,rfl,rx⟩:=kK r;cases rx;have fin:∀(its:List ah),bU ys its->ys.length<=bv -> ∀(h':dq) (c':Nat),(∀b o',s.heap.get? b=aa o'->h'.get? b=aa o') ->
      h'.get? s.heap.objs.size=aa { cls:=.type "list",dict:=ar,data:=.seq its.toArray c',slots:=#[] }->EP X pk σ Q (.ref s.heap.objs.size) { s with heap:=h' }:=λits r' hz h' c' kp e=>
    ⟨.ref s.heap.objs.size,_,I.laid (t':=s.toks) kp (bt _) (show cK X.prog X.w _ h' _ (.lst ys) from⟨hz,its,c',r',e⟩),rfl,q _ (I.hok.fresh (bt _))⟩
  rcases hq with hq | hq
  . obtain⟨its,r',pl,hz⟩:=I.list hq;have hlen:=r'.length;obtain⟨o,ho,hc,n,hd⟩:=pl.isList;exact call_list_seq p (.inl rfl) ho hc hd (λh' c' kp e=>fin its r' hz h' c' kp e) (by simp only[fk]<;>right)
  . obtain⟨its,r',pl,hz⟩:=I.tuple hq;have hlen:=r'.length;obtain⟨o,ho,hc,n,hd⟩:=pl;exact call_list_seq p (.inr rfl) ho hc hd (λh' c' kp e=>fin its r' hz h' c' kp e) (by simp only[fk]<;>right)
theorem xJ:fP X (.type "tuple") (λxs H Q=>∃p ys,xs=[.ref p]/\((gK X.K H p ys /\ ∀l,H l=ar->Q (.ref l) (upd H l (.tup ys))) \/ (pL X.K H p ys/\Q (.ref p) H))):=by
  intro pk s σ H xs us Q I r h;obtain⟨p,ys,rfl,h⟩:=h;obtain⟨u,rfl,rx⟩:=kK r;cases rx;rcases h with⟨hq,q⟩ | ⟨hq,q⟩
  . obtain⟨its,r',pl,hz⟩:=I.list hq;have hlen:=r'.length;refine call_tuple_list pl.isList (λh' kp=>?_) (by simp only[fk]<;>right);have I1:Inv X pk σ H { s with heap:=h' }:=I.kept (t':=s.toks) kp;have I2:Inv X pk σ (upd H h'.objs.size (.tup ys)) { s with heap:=h'.push { cls:=.type "tuple",data:=.seq its.toArray } }:=
      I1.laid (t':=s.toks) (λb o e=>aq _ e) (bt _) (show cK X.prog X.w _ _ _ (.tup ys) from⟨hz,its,r',IsTup.new _ _⟩)
    exact⟨.ref h'.objs.size,_,I2,rfl,q _ (I1.hok.fresh (bt _))⟩
  . obtain⟨its,r',pl,hz⟩:=I.tuple hq;exact call_tuple_same pl ⟨.ref p,H,I,rfl,q⟩
noncomputable def Tp(K:ap)(T:String)(x:V)(H:Hp):Prop:=match x with
  | .str _=>T = "str"
  | .int _=>T = "int"
  | .ref p=>(T = "list" /\ ∃xs,gK K H p xs) \/ (T = "tuple" /\ ∃o,K.lookup p=aa o/\o.cls=.type "tuple" /\ o.dict=ar) \/
      (T = "dict" /\ ((∃kvs,H p=aa (.dK kvs)) \/ ∃ep kvs,H p=aa (.dT ep kvs))) \/ (T = "set" /\ ∃S n,H p=aa (.set S n))
  |_=>False
theorem LY{x:V}{v:ah}(I:Inv X pk σ H s)(r:cR x v)(ty:Tp X.K T x H):
    s.TypeIs v T /\ ∀a,v=.ref a -> ∃ob,s.heap.get? a=aa ob/\ob.dict=ar:=by
  cases x with
  |str z=>
    obtain⟨t,rfl⟩:=r;cases (show T = "str" from ty);exact⟨typeIs_str s z t,λ_ e=>nomatch e⟩
  |int i=>
    obtain⟨t,rfl⟩:=r;cases (show T = "int" from ty);exact⟨Yl s i t,λ_ e=>nomatch e⟩
  |ref p=>
    cases r;rcases ty with⟨rfl,xs,hq⟩ | ⟨rfl,o,hk,hc,hd⟩ | ⟨rfl,hk⟩ | ⟨rfl,S,n,hk⟩
    . obtain⟨its,_,pl,_⟩:=I.list hq;refine⟨pl.isList.typeIs,λa e=>?_⟩;cases e;obtain⟨o,n,e,c,hd,_⟩:=pl;exact⟨o,e,hd⟩
    . refine⟨⟨o,I.kIn p o hk,hc⟩,λa e=>?_⟩;cases e;exact⟨o,I.kIn _ o hk,hd⟩
    . have z:∃o,s.heap.get? p=aa o/\o.ExactDict:=by
        rcases hk with⟨kvs,hk⟩ | ⟨ep,kvs,hk⟩
        . obtain⟨_,_,_,_,o,_,_,e,ex,_⟩:=I.hok p _ hk;exact⟨o,e,ex⟩
        . obtain⟨_,_,_,_,o,_,e,ex,_⟩:=I.hok p _ hk;exact⟨o,e,ex⟩
      obtain⟨o,e,ex⟩:=z;refine⟨⟨o,e,ex.1⟩,λa e2=>?_⟩;cases e2;exact⟨o,e,ex.2.1⟩
    . obtain⟨o,_,_,_,e,ex,_⟩:=I.hok p _ hk;refine⟨⟨o,e,ex.1⟩,λa e2=>?_⟩;cases e2;exact⟨o,e,ex.2.1⟩
  |_=>exact ii ty
noncomputable def UU(K:ap)(T:String)(r:V->List V->Hp->VK->Prop)(to:TE)(t:TA):TE:=λσ H Q=>to σ H λx H1=>Tp K T x H1/\t σ H1 λxs H2=>r x xs H2 Q
variable {o:Expr}{to:TE}{t:TA}{name:bw}{ZQ:lv}{id:String}{r:V->List V->Hp->VK->Prop}
theorem Gp(pa:PlainAttrs T)(slot:Slot T name id)(hty:Xi (.builtin id)=jo (.type "method_descriptor"))(hm:UL X id r)(ho:PE X o to)(ha:PA X (e::es) t)
    (a00:autoParam (rq o name X.env (gn o X.env)=gn o X.env) c8._auto_1)
    (hfew:autoParam (((iu ZN (av (e::es) X.env)).all (λx=>!x.1)&&(xz ZN (sx [] X.env)).all (λx=>x.1.isSome)
      && decide ((e::es).length+([]:List zg).length+(if ([]:List zg).isEmpty then 0 else 1)<30))=aj) c8._auto_1)
    (a01:autoParam ((ZQ.endLine==ZN.line)=aj) c8._auto_1) (hs:autoParam (av (e::es) X.env=(ao,gn e X.env)::av es X.env) c8._auto_1) (ZW:autoParam ((iu ZN (av es X.env)).any (·.1)=ao) c8._auto_1):
    PE X (.Call (.Attribute o name ZQ) (e::es) [] ZN) (UU X.K T r to t):=by
  intro pk s σ H Q I h;refine wpAny_Call_method_late a00 hfew a01 rfl (thn (ho pk s σ H _ I h) λv s1 zz=>?_);obtain⟨x,H1,I1,r1,ty,q1⟩:=zz;obtain⟨h1,h2⟩:=LY I1 r1 ty;refine⟨T,id,pa,slot,hty,h1,h2,?_⟩;have hA:=ha ZN pk s1 σ H1 _ I1 q1;rw[hs] at hA ⊢;refine Calls.callWith_builtin (by show (ao || (iu ZN (av es X.env)).any (·.1))=ao;rw[ZW]<;>rfl) (VY ?_);exact thn hA λus s2 zq3=>by obtain⟨vs,H2,I2,r2,q2⟩:=zq3;exact hm pk s2 σ H2 x vs v us Q I2 r1 r2 q2
/- xs.append(e),list.index on a module's tuple .. are UL facts of 06m -/
end
noncomputable def Td(X:Cx)(id:String)(r:V->List V->Hp->VK->Prop):Prop:=
  ∀(pk:List (af×jv)) (s:ai) (σ:St) (H:Hp) (x:V) (xs:List V) (v:ah) (us:List ah) (Q:VK),Inv X pk σ H s->cR x v->bU xs us->r x xs H Q ->
    bu (cf X.prog X.w) X.A (call (.builtin id) (v::us)) (EP X pk σ Q) X.xe s
theorem bU.one:∀{x:V} {us:List ah},bU [x] us -> ∃u,us=[u]/\cR x u
  |_,_,.cons r .nil=>⟨_,rfl,r⟩
theorem bU.rep{xs:List V}{us:List ah}(h:bU xs us):∀k:Nat,bU (aw k xs).flatten (aw k us).flatten
  |0=>.nil
  |k+1=>by
    rw[ny,ny,ve,ve];exact bU.append h (bU.rep h k)
theorem yK(its:List ah):∀(k:Nat) (acc:List ah),
    Vr (λx1 x2=>x1++x2) acc.toArray (aw k its.toArray)=(acc++(aw k its).flatten).toArray
  |0,acc=>by simp
  |k+1,acc=>by
    have e:acc.toArray++its.toArray=(acc++its).toArray:=by simp
    have e2:(acc++its)++(aw k its).flatten=acc++(aw (k+1) its).flatten:=by
      rw[ny,ve,dw]
    rw[<- e2,<- yK its k (acc++its),<- e,ny,XQ]
variable {its:List ah}{t':Nat}
section
variable {l:af}{xs ys zs:List V}
theorem Inv.lset{its':List ah}{f:Array ah->Array ah}(I:Inv X pk σ H s)(hH:H l=aa (.lst xs))
    (e:s.heap.get? l=aa { cls:=.type "list",data:=.seq its.toArray n }) (hf:f its.toArray=its'.toArray) (hv:bU ys its') (hz:ys.length<=bv):
    Inv X pk σ (upd H l (.lst ys)) { s with heap:=s.heap.update l (yd f),toks:=t' }:=by
  have q:=PySem.IsL.update e f;rw[hf] at q;refine I.write (x:=l) (e:=l) (by rw[hH];exact trivial) (.inl rfl) (λb' u hb hu=>(fc s.heap (yd f) (Ne.symm hb)).trans hu) ⟨_,q⟩ ?_;exact⟨hz,its',_,hv,q⟩
theorem Inv.lnew(I:Inv X pk σ H s)(hv:bU ys its)(hz:ys.length<=bv):
    Inv X pk σ (upd H s.heap.objs.size (.lst ys)) { s with heap:=s.heap.push { cls:=.type "list",data:=.seq its.toArray },toks:=t' }:=
  I.laid (λ_ _ q=>aq _ q) (bt _) ⟨hz,its,0,hv,cm _ rfl⟩
theorem Inv.fresh(I:Inv X pk σ H s):H s.heap.objs.size=ar:=I.hok.fresh (bt _)
theorem Inv.lstM(I:Inv X pk σ H s)(hH:H l=aa (.lst xs)):xs.length<=bv /\ ∃(its:List ah) (n:Nat),bU xs its/\xs.length=its.length/\s.heap.get? l=aa { cls:=.type "list",data:=.seq its.toArray n }:=by
  obtain⟨z,its,n,r,e⟩:=I.hok l _ hH;exact⟨z,its,n,r,r.length,e⟩
theorem BV(h:n<=bv):qd n=ao:=by
  unfold qd;exact decide_eq_false ⋯
end
noncomputable def JC:V->List V->Hp->VK->Prop:=λx vs H Q=>∃l xs y,x=.ref l/\vs=[y]/\H l=aa (.lst xs)/\xs.length<bv/\Q .non (upd H l (.lst (xs++[y])))
theorem yA:Td X "list.append" JC:=by
  intro pk s σ H x vs v us Q I rx rv h;obtain⟨l,xs,y,rfl,rfl,hH,hz,q⟩:=h;cases rx;obtain⟨u,rfl,ru⟩:=rv.one;obtain⟨z,its,n,r,hl,e⟩:=I.lstM hH;refine WD F.slot_list_append ⟨_,e,rfl⟩ F.entry_list_append (F.args_list_append_2 _ _) (PySem.list_append l its.toArray n u (by rw[fk];right)) ⟨e,?_⟩;refine⟨.non,_,I.lset (its':=its++[u]) hH e (by simp) (r.append (.cons ru .nil)) ?_,rfl,q⟩;rw[eg,List.length_singleton];right
noncomputable def JB:V->List V->Hp->VK->Prop:=λx vs H Q=>∃l b xs zs,x=.ref l/\vs=[.ref b]/\H l=aa (.lst xs)/\H b=aa (.lst zs)/\xs.length+zs.length<=bv/\Q .non (upd H l (.lst (xs++zs)))
theorem FB:Td X "list.extend" JB:=by
  intro pk s σ H x vs v us Q I rx rv h;obtain⟨l,b,xs,zs,rfl,rfl,hH,hB,hz,q⟩:=h;cases rx;obtain⟨u,rfl,ru⟩:=rv.one;cases ru;obtain⟨z,its,n,r,hl,e⟩:=I.lstM hH;obtain⟨z2,its2,n2,r2,hl2,e2⟩:=I.lstM hB;have hsz:its.toArray.size+its2.toArray.size<=bv:=by rw[fk,fk];right
  have hlong:¬(!its.toArray.isEmpty&&qd (its.toArray.size+its2.toArray.size))=aj:=by
    rw[BV hsz,VZ];exact jl
  refine WD F.slot_list_extend ⟨_,e,rfl⟩ F.entry_list_extend (F.args_list_extend_2 _ _)
    (AutoSeq1.list_extend_list_list_0 l its.toArray n b its2.toArray n2 hlong (by rw[fk];right) ⋯) ⟨e,e2,?_⟩
  refine⟨.non,_,I.lset (its':=its++its2) hH e (by simp) (r.append r2) ?_,rfl,q⟩;rw[eg];right
noncomputable def Rp:R2:=λx y H Q=>∃l b xs zs,x=.ref l/\y=.ref b/\H l=aa (.lst xs)/\H b=aa (.lst zs)/\xs.length+zs.length<=bv /\ ∀p,H p=ar->Q (.ref p) (upd H p (.lst (xs++zs)))
theorem Mb:lQ X (ku .Add) Rp:=by
  intro pk s σ H x y v u Q I rx ry h;obtain⟨l,b,xs,zs,rfl,rfl,hH,hB,hz,q⟩:=h;cases rx;cases ry;obtain⟨z,its,n,r,hl,e⟩:=I.lstM hH;obtain⟨z2,its2,n2,r2,hl2,e2⟩:=I.lstM hB;refine PySem.P.add_list e e2 ?_ (by rw[fk,fk];right);have ea:its.toArray++its2.toArray=(its++its2).toArray:=by simp
  rw[ea];exact⟨.ref _,_,I.lnew (t':=s.toks) (r.append r2) (by rw[eg];right),rfl,q _ I.fresh⟩
noncomputable def Ri:R2:=λx y H Q=>∃l k xs,x=.ref l/\y=.int k/\H l=aa (.lst xs) /\ -(2 ^ 63)<=k/\k<2 ^ 63/\xs.length*k.toNat<=bv /\
  ∀p,H p=ar->Q (.ref p) (upd H p (.lst (aw k.toNat xs).flatten))
theorem Jw(xs:List α)(k:Nat):(aw k xs).flatten.length=k*xs.length:=by
  induction k with
  |zero=>simp
  |succ k ih=>rw[ny,ve,eg,ih,V9,ye]
theorem MU:lQ X (ku .Mult) Ri:=by
  intro pk s σ H x y v u Q I rx ry h;obtain⟨l,k,xs,rfl,rfl,hH,h1,h2,hz,q⟩:=h;cases rx;obtain⟨t,rfl⟩:=ry;obtain⟨z,its,n,r,hl,e⟩:=I.lstM hH;have hlen:its.toArray.size*k.toNat<=bv:=by rw[fk,<- hl];exact hz
  have hcap:¬its.toArray.size*k.toNat > (2 ^ 63-1) / 8:=by
    have:(bv:Nat)<=(2 ^ 63-1) / 8:=by decide
    right
  have hfit:¬(!Builtin.List.listFitsIndex k)=aj:=by
    rw[fitsIndex_both h1 h2];exact jl
  have hlong:¬qd (its.toArray.size*k.toNat)=aj:=by
    rw[BV hlen];exact jl
  have hnew:Vr (λx1 x2=>x1++x2) #[] (aw (if its.toArray.isEmpty=aj then 0 else k.toNat) its.toArray)=(aw k.toNat its).flatten.toArray:=by
    have f0:∀m:Nat,Vr (λx1 x2=>x1++x2) #[] (aw m its.toArray)=(aw m its).flatten.toArray:=λm=>by
      have:=yK its m [];rw[gw] at this;exact this
    rw[f0];cases its with
    |nil=>simp
    |cons a r'=>rw[Zg (by simp)]
  refine wpAny_binaryOp_repeat_ref (T:="list") (U:="int") ∅ ⟨_,e,rfl⟩ (λs'=>Yl s' k t) noFill_list_mul F.fills_int_mul XR repeat_list F.slot_int_index.lookup
    (WD XR (Yl s k t) F.entry_int_rmul (F.args_int_rmul_2 _ _) (int___rmul___int_list k t l its.toArray n)
      ⟨e,rfl,⟨_,e,rfl⟩,WD F.slot_list_mul ⟨_,e,rfl⟩ F.entry_list_mul (F.args_list_mul_2 _ _) (AutoListH.list___mul___list_int_3 l its.toArray n k t hfit hcap hlong) ⟨e,?_⟩⟩)
  rw[hnew];exact⟨.ref _,_,I.lnew (t':=s.toks) (r.rep k.toNat) (by rw[Jw,YV];exact hz),rfl,q _ I.fresh⟩
end L2
namespace Att
open PySem PySem.W PySem.Calls PyProof.Rows
variable {P:YW}
theorem uE:∀(ns:List Int) (vs:List ah),WellAll P h vs (ns.map WData.int)->uo vs ns:=by
  intro ns;induction ns with
  |nil=>
    intro vs w;rw[zj] at w;cases w;exact .nil
  |cons n ns ih=>
    intro vs w;rw[de] at w;cases w with
    |cons a b=>
      cases a;exact .cons _ _ (ih _ b)
variable {l:OpenLaw}
theorem Ek(hn:l.most=aa n){args:List WData}{vals:List ah}
    (hpre:l.row.toRowW.claim.pre args=aj) (hwl:WellAll P h vals args):
    ∃a vs ns,vals=[Value.ref a]/\args=[WData.list (ns.map WData.int)]/\h.get? a=aa { cls:=.type "list",data:=.seq vs.toArray }/\uo vs ns/\ns.length<=n:=by
  have hsh:WShape.hasAll [] args [.list .int]=aj:=(pre_splitW hpre).1;have hc:l.pre.holds [] { args:=args }=aj:=(pre_splitW hpre).2;obtain⟨d,r,rfl,h1,h2⟩:=hasAllW_cons hsh;obtain rfl:=hasAllW_nil h2;obtain⟨xs,rfl,h3⟩:=hasW_list h1;obtain⟨ns,rfl⟩:=items_int h3;have hlen:ns.length<=n:=by
    unfold OpenLaw.pre at hc;have h4:(WTm.not (.lt (.lit (.int (n:Int))) (.len (.arg 0)))).holds [] { args:=[.list (ns.map .int)] }=aj:=by
      have h4:=(holds_andW hc).1;rw[hn] at h4;exact h4
    have h5:=condW_of h4 (w_not (w_lt w_lit (w_len_list (w_arg rfl))));rw[bf] at h5;refine ng λq=>?_;have q':(n:Int)<((ns.length:Nat):Int):=⋯
    first
      | (rw[decide_eq_true q'] at h5;exact absurd h5 ∅)
      | (simp at h5;right)
  cases hwl with
  |cons w1 w2=>
    cases w2;cases w1 with
    |list ho hall=>exact⟨_,_,ns,rfl,rfl,ho,uE ns _ hall,hlen⟩
theorem Et(l:OpenLaw)(args:List WData):l.row.toRowW.claim.post args (.bool aj) args=aj:=
  postW_of (r:=l.row.toRowW) (X:=(aj==aj))
    (show WShape.has [] (.bool aj) .bool=aj by first | rfl | decide | simp[WShape.has,WShape.arms,WShape.armsAll])
    (show (WTm.eq .res (.lit (.bool aj))).value [] { args:=args,res:=aa (.bool aj),after:=args }=aa (.bool (aj==aj)) from w_eq_bool (w_res rfl) w_lit) rfl
theorem CI{q:ay}{loose:List bw}{XP:(bw->Option ah)->dq->Prop}{YP:bz->dq->Prop}{d:DefRec}
    (hn:l.most=aa n) (hdf:d.params.defaults=[])
    (call:∀(w:bz) (s₀ s₁:ai) (mg mb:bw->Option ah) (fa:af) (o:jv) (pm cd doc:ah) (a:af) (vs:List ah) (ns:List Int),
      Ground q loose [] XP w s₀ mg mb s₁.heap->YP w s₁.heap ->
      s₁.heap.get? fa=aa o->o.data=.func (docDef d.name d.params d.body d.scope pm cd doc)->s₁.heap.CodeRec cd d.name->mg d.name=aa (.ref fa) ->
      s₁.heap.get? a=aa { cls:=.type "list",data:=.seq vs.toArray }->uo vs ns->ns.length<=n->s₁.gens = #[] ->
      zf (cf l.prog w) Wf (.call (.ref fa) ⟨[.ref a],[]⟩) (λr s'=>r=.ok (.ret (.bool aj))/\OldK s₁.heap s'.heap/\s'.os=s₁.os/\xh s'.gens) s₁):
    WalkO q loose XP YP l.row.toRowW d [] (λf vs=>PySem.call f vs):=by
  intro w s₀ s₁ mg mb G Y fa o pm cd doc dV kV ho hd hcd hD hmg hg args vals as hpre hlay hrd hwl hlo;obtain rfl:dV=.none:=Dflts.none hD hdf;obtain rfl:kV=.none:=Dflts.noKw hD;obtain⟨a,vs,ns,rfl,rfl,hobj,hints,hlen⟩:=Ek hn hpre hwl;refine enter_call (qz (call w s₀ s₁ mg mb fa o pm cd doc a vs ns G Y ho (fd_plain hd) hcd hmg hobj hints hlen hg) λr s' hq=>?_);obtain⟨rfl,h2,h3,h4⟩:=hq;exact⟨.inl ⟨.bool aj,.bool aj,[],rfl,λ_=>rfl,.bool aj,Et l _,λ_=>⟨List.Pairwise.nil,λ_ hm=>(nomatch hm)⟩⟩,h2,h3,h4⟩
section
variable {K:Frag}
end
end Att
variable {H' H1:L2.Hp}
namespace L2
theorem xR:∀{vs:List ah} {ns:List Int},uo vs ns->bU (ns.map V.int) vs
  |_,_,.nil=>.nil
  |_,_,.cons n t h=>.cons ⟨t,rfl⟩ (xR h)
noncomputable def Ih(H:Hp):Prop:=∀b,H b=ar \/ ∃o xs,H b=aa (.frz o (.lst xs))
variable {fd:jy}{sp:Sp}
theorem Hi{mb:bw->Option ah}{CX:Fy}{k:Nat}{fa:af}{x:bw}{s₁:ai}{vs:List ah}
    (KX:K.In s₁.heap) (hns:s₁.heap.Ns jq mg) (hb:s₁.heap.Ns Y8 mb) (hbb:∀x:bw,x ≠ "__name__" -> mb x=oy x) (hlim:s₁.heap.NoLimit) (hg:s₁.gens = #[])
    (ha:s₁.heap.get? a=aa { cls:=.type "list",data:=.seq vs.toArray }) (hi:uo vs ns) (hl:ns.length<=bv) (hr:Room k Wf)
    (F:∀base:dq,K.In base->base.Ns jq mg->FnOk P w K mg base CX k fa fd [x] sp) (hbind:∀(s:ai) (u:ah),WS s fd ⟨[u],[]⟩ [(x,u)])
    (hsp:∀H:Hp,Ih H->gK K H a (ns.map V.int)->sp [.ref a] H (λv _=>v=.bl aj) λ_ _ _=>False)
    (hCX:∀H e s',CX [] H s₁ (λ_ _ _=>False) e s'->False):
    zf (cf P w) Wf (.call (.ref fa) ⟨[.ref a],[]⟩) (λr s'=>r=.ok (.ret (.bool aj))/\OldK s₁.heap s'.heap/\s'.os=s₁.os/\xh s'.gens) s₁:=by
  have rv:=xR hi;have lenV:=hi.length;have core:∀H:Hp,Ih H->gK K H a (ns.map V.int)->lR P w H s₁.heap->(∀b,H b≠ar->b=a)->(H a≠ar->K.lookup a=ar) ->
      zf (cf P w) Wf (.call (.ref fa) ⟨[.ref a],[]⟩) (λr s'=>r=.ok (.ret (.bool aj))/\OldK s₁.heap s'.heap/\s'.os=s₁.os/\xh s'.gens) s₁:=by
    intro H hO hS hok hA hK;have base_of:∀{b:af} {o:jv},s₁.heap.get? b=aa o->H b=ar->(A9 s₁.heap H).get? b=aa o:=λe n=>Hw e n;have noA:∀{b:af} {o:jv} {es:Array lj} {ep:Nat},s₁.heap.get? b=aa o->o.data=.dict es ep->H b=ar:=λ{b o es ep} e d=>by
      cases q:H b with
      |none=>rfl
      |some u=>
        have e':b=a:=hA b (by rw[q];simp);subst e';rw[ha] at e;cases e;have d':Data.seq vs.toArray _=Data.dict es ep:=d;cases d'
    have nsK:∀{b:af} {m:bw->Option ah},s₁.heap.Ns b m->(A9 s₁.heap H).Ns b m:=λ{b m} ⟨o,es,ep,e,d,r⟩=>⟨o,es,ep,base_of e (noA e d),d,r⟩;have hKb:K.In (A9 s₁.heap H):=λb o e=>base_of (KX b o e) (by
      cases q:H b with
      |none=>rfl
      |some u=>
        have e':b=a:=hA b (by rw[q];simp);subst e';rw[hK (by rw[q];simp)] at e;cases e)
    have hM:Mod K mg (A9 s₁.heap H):=⟨hKb,nsK hns,⟨mb,nsK hb,hbb⟩,let ⟨mc,h1,h2⟩:=hlim;⟨mc,nsK h1,h2⟩⟩;have e0:Env0 P w K mg (A9 s₁.heap H) Wf [] s₁ H:=⟨rfl,hM,λb o e=>Jj e,YU (Fa _ _),trivial,λb hb=>absurd (show b∈([]:List af) from hb) (by simp),hok,.of_eq hg⟩;refine qz ((F _ hKb (nsK hns)).run Wf [] s₁ H ⟨[.ref a],[]⟩ [.ref a] [.ref a] _ _ hr e0 (hbind s₁ (.ref a)) (.cons rfl .nil) (hsp H hO hS)) λr s' h=>?_;cases r with
    |error e=>exact(hCX H e s' h).elim
    |ok fl=>
      cases fl with
      |next=>exact ii h
      |brk=>exact ii h
      |cont=>exact ii h
      |ret u=>
        obtain⟨v,H',os,bare,un,hok',r',q⟩:=h;have q':v=.bl aj:=q;subst q';obtain rfl:u=Vn aj:=r';refine⟨rfl,OldK.of_keep λb o e=>?_,os,bare⟩;cases q:H b with
        |none=>exact un.keep b o e q (by intro z;exact absurd (show b∈([]:List af) from z) (by simp)) (by simp)
        |some u=>
          rcases hO b with z | ⟨ob,xs,z⟩
          . rw[q] at z;cases z
          . have z2:=un.frzs b ob _ z;obtain⟨e1,_⟩:=hok b _ z;obtain⟨e2,_⟩:=hok' b _ z2;rw[e] at e1;cases e1;exact e2
  cases hk:K.lookup a with
  |some o=>
    have e:=KX a o hk;rw[ha] at e;cases e;refine core (λ_=>ar) (λ_=>.inl rfl) (.inr ⟨_,vs.toArray,_,hk,rfl,rfl,rfl,by rw[fk,lenV];exact hl,by simpa using rv⟩) (λb u z=>by have z':(ar:Option HO)=aa u:=z;cases z') (λb z=>absurd rfl z) λz=>absurd rfl z
  |none=>
    refine core (λb=>if b=a then aa (.frz { cls:=.type "list",data:=.seq vs.toArray } (.lst (ns.map V.int))) else ar) (λb=>?_) (.inl (.inr ⟨{ cls:=.type "list",data:=.seq vs.toArray },ZE rfl⟩)) (λb u z=>?_) (λb z=>?_) λ_=>hk
    . by_cases hb:b=a
      . exact .inr ⟨_,_,ZE hb⟩
      . exact .inl (Zg hb)
    . by_cases hb:b=a
      . have z':=(ZE hb).symm.trans z;cases z';subst hb;exact⟨ha,by rw[bf];exact hl,vs,_,rv,ha⟩
      . have z':=(Zg hb).symm.trans z;cases z'
    . by_cases hb:b=a
      . exact hb
      . exact absurd (Zg hb) z
theorem Ir{l:W.OpenLaw}{k:Nat}{q:ay}{loose:List bw}{XP:(bw->Option ah)->dq->Prop}{YP:bz->dq->Prop}{d:DefRec}{K:YW->ap}{CX:bz->Fy}{sp:bz->Sp}{x:bw}
    (hn:l.most=aa n) (hn2:n<=bv) (hdf:d.params.defaults=[]) (hr:Room k Wf)
    (hY:∀(w:bz) (h:dq),YP w h->(K w.params).In h)
    (F:∀(w:bz) (mg:bw->Option ah) (fa:af) (h:dq),(K w.params).In h->h.Ns jq mg->mg d.name=aa (.ref fa) ->
      ∃fd:jy,(∀(s:ai) (u:ah),WS s fd ⟨[u],[]⟩ [(x,u)]) /\
        ∀base:dq,(K w.params).In base->base.Ns jq mg->FnOk l.prog w (K w.params) mg base (CX w) k fa fd [x] (sp w))
    (hsp:∀(w:bz) (H:Hp) (a:af) (ns:List Int),ns.length<=n->Ih H->gK (K w.params) H a (ns.map V.int)->sp w [.ref a] H (λv _=>v=.bl aj) λ_ _ _=>False)
    (hCX:∀(w:bz) (H:Hp) (s:ai) (e:ah) (s':ai),CX w [] H s (λ_ _ _=>False) e s'->False):
    W.WalkO q loose XP YP l.row.toRowW d [] (λf vs=>PySem.call f vs):=by
  refine Att.CI hn hdf λw s₀ s₁ mg mb fa o pm cd doc a vs ns G Y ho hd hcd hmg hobj hints hlen hg=>?_;have KX:=hY w _ Y;obtain⟨fd,hb,hF⟩:=F w mg fa _ KX G.T.g hmg;exact Hi KX G.T.g G.T.b G.T.builtins G.T.nolimit hg hobj hints (ly hlen hn2) hr hF hb (λH hO hS=>hsp w H a ns hlen hO hS) λH e s'=>hCX w H s₁ e s'
noncomputable def g9(s:kh)(j:Nat):kh:=match s with
  | .ClassDef _ _ _ ZS _ _ _ _ _ _ _=>ZS.getD j (.Pass ⟨0,0,0,0⟩)
  |_=>.Pass ⟨0,0,0,0⟩
noncomputable def jR(s:kh):Arguments:=match s with
  | .FunctionDef _ a _ _ _ _ _ _ _ _=>a
  |_=>{ posonlyargs:=[],args:=[],vararg:=ar,kwonlyargs:=[],kw_defaults:=[],kwarg:=ar,defaults:=[] }
noncomputable def eL(s:kh):List kh:=match s with
  | .FunctionDef _ _ b _ _ _ _ _ _ _=>b
  |_=>[]
noncomputable def aI(s:kh):Scope:=match s with
  | .FunctionDef _ _ _ _ _ _ sc _ _ _=>sc
  |_=>{ kind:=.function,names:=[],isGenerator:=ao,isCoroutine:=ao }
noncomputable abbrev DZ:Fy:=λ_ _ _ _ _ _=>False
noncomputable abbrev E0:XK:=λ_ _ _=>False
theorem Dw:rB DZ X E0:=λ_ _ _ _ _ _ _ h=>h.elim
structure Fun(K:ap)(x qual:bw)(st:kh)(f:af)(fd:jy):Prop where
  ex:∃(oc:ah) (od:Option af) (kV doc pm:ah) (an:Option af) (cdv ct:ah) (osl:Array (Option ah)),
    fd=zu x qual (jR st) (eL st) (aI st) .none kV doc pm an cdv ct/\K.lookup f=aa ⟨oc,od,.func fd,osl⟩/\VW K cdv qual=aj
  kp:qi K (.ref f)=aj
variable {st:kh}
theorem Fun.ok{x:bw}{k:Nat}(F:Fun K x ZG st f fd)(S:FnScope N ps (aI st))(len:∀vs H Q E,sp vs H Q E->vs.length=ps.length)
    (ZR:∀(cdv:ah) (A:dj) (outer:List za) (s:ai) (H:Hp) (vs:List V) (Q:VK) (E:XK),Room k (A.deeper (sy ZG (aI st) s.heap.objs.size f cdv))->sp vs H Q E ->
      ∃t,uW (cN DZ P w K mg base N ZG (aI st) f cdv A outer s H E).nox (eL st) t/\t { nx:=λ_ H'=>Q .non H',rt:=Q } (start N vs) H):FnOk P w K mg base DZ (k+1) f fd ps sp:=by
  obtain⟨oc,od,kV,doc,pm,an,cdv,ct,osl,rfl,lk,hcd⟩:=F.ex;refine LG lk hcd S len λA outer s H vs Q E hr hsp=>?_;obtain⟨t,h,q⟩:=ZR cdv A outer s H vs Q E hr hsp;exact⟨t,h.nox,q⟩
theorem Fun.binds{x:bw}(F:Fun K x ZG st f fd)
    (h:∀(kV doc pm:ah) (an:Option af) (cdv ct:ah) (us:List ah),us.length=ps.length->Zf (zu x ZG (jR st) (eL st) (aI st) .none kV doc pm an cdv ct) ⟨us,[]⟩=jo (ps.zip us)):iL K fd ps []:=by
  obtain⟨oc,od,kV,doc,pm,an,cdv,ct,osl,rfl,lk,hcd⟩:=F.ex;exact .all (h kV doc pm an cdv ct)
theorem AC{x:bw}{oc:ah}{od an:Option af}{osl:Array (Option ah)}{kV doc pm cdv ct:ah}(l:K.lookup f=aa ⟨oc,od,.func (zu x ZG (jR st) (eL st) (aI st) .none kV doc pm an cdv ct),osl⟩)
    (c:VW K cdv ZG=aj) (k:qi K (.ref f)=aj):Fun K x ZG st f (zu x ZG (jR st) (eL st) (aI st) .none kV doc pm an cdv ct):=⟨⟨oc,od,kV,doc,pm,an,cdv,ct,osl,rfl,l,c⟩,k⟩
theorem f9{k:Nat}(hr:Room k A):A.units+1<jx:=yf (Nat.add_le_add_left (by decide:1<=64) _) hr.units
theorem Ei(h:n<=1000):n<bv:=yf h ∅
theorem pv(i:Nat){x:bw}{pos:lv}(hN:autoParam (X.N[i]?=aa x) c8._auto_1)(hv:Py X.env.scope x:=by first | exact Or.inl rfl | exact Or.inr (.inl rfl) | exact Or.inr (.inr rfl))(hd:autoParam ((x==("__debug__" : bw))=ao) lS._auto_1)
    (hcd:autoParam ((x==("__classdict__" : bw))=ao) lS._auto_1):PE X (.Name x pos) (zA i):=MD hN hv hd hcd
variable {B:Prop}
theorem uD{A:Prop}(h:B):if ao=aj then A else B:=by
  rw[Zg jl];exact h
theorem uC{A:Prop}(h:A):if aj=aj then A else B:=by
  rw[ZE rfl];exact h
theorem oA{c A:Prop}[Decidable c](h1:c->A)(h2:¬c->B):if c then A else B:=by
  by_cases h:c
  . rw[ZE h];exact h1 h
  . rw[Zg h];exact h2 h
noncomputable def aO(H H':Hp):Prop:=∀b o,H b=aa o->H' b=aa o
theorem aO.refl(H:Hp):aO H H:=λ_ _ h=>h
theorem aO.trans{H2:Hp}(a:aO H H1)(b:aO H1 H2):aO H H2:=λc o h=>b c o (a c o h)
theorem aO.free(e:aO H H'){l:af}(h:H' l=ar):H l=ar:=by
  cases q:H l with
  |none=>rfl
  |some o=>
    rw[e l o q] at h;cases h
end L2
set_option maxHeartbeats 4000000
variable {ifs:List Expr}{kvs:List (List L2.cF×L2.V)}{ks:List Int}
namespace L2
noncomputable def Q7(i j:Int):Prop:=0<j/\j<2 ^ 200
theorem HA:lQ X (ku .FloorDiv) (rI Q7 λi j=>.int (i / j)):=Ow λi j _ _ _ _ _ hc q=>by
  have p1:(0:Int)<j:=hc.1;have p2:j<2 ^ 200:=hc.2;have p3:j.natAbs<2 ^ 200:=⋯;have p4:j.natAbs.log2<200:=(log2_lt ⋯).mpr p3;refine floordiv_int ⋯ ?_ (.inl (zw ⋯));rw[Int.fdiv_eq_ediv_of_nonneg i ⋯];exact q
theorem Gi{x:bw}{n:Int}{pos:lv}(hm:∃t,X.mg x=aa (.int n t))(hg:autoParam (Gl X x) c8._auto_1)(hd:autoParam ((x==("__debug__" : bw))=ao) lS._auto_1):PE X (.Name x pos) (tC (.int n)):=by
  obtain⟨t,h⟩:=hm;exact Dt hg h ⟨t,rfl⟩ hd
variable {t':Nat}{fp:List af}{ob:HO}{h':dq}
theorem Inv.turnedL(I:Inv X pk σ H s)(hf:∀b∈fp,wT X pk H b)(k:∀b o,b ∉ fp->s.heap.get? b=aa o->h'.get? b=aa o):Inv X pk σ H { s with heap:=h',toks:=t' }:=by
  have nf:∀b u,H b=aa u->b ∉ fp:=λb u e z=>by have:=(hf b z).1;rw[e] at this;cases this
  refine I.step (g':=s.gens) (d':=s.drawn) (ch:=fp) (λb hb=>?_) (λb o _ _ hc e _=>k b o hc e) (λb o _ _ hc e _=>⟨o.slots,k b o hc e⟩) (λ_ _ _ _ n=>n) (λb o hc e=>⟨o,k b o hc e⟩) (λ_ _ e=>e) (λ_ _ _ e=>e)
    (λb ps e=>⟨#[],by rw[e];simp⟩) (λm hm=>?_) (λb u e=>?_) I.bare
  . obtain⟨_,f1,_,f3,f4,f5⟩:=hf b hb;exact⟨f3,f1,f4,f5⟩
  . obtain⟨o,es,ep,ho,r⟩:=hm;exact⟨o,es,ep,k _ o (λz=>(hf _ z).2.1 rfl) ho,r⟩
  . refine(I.hok b u e).stay (λc v hc q=>k c v ?_ q) (λ_ q=>q) (λ_ _ q=>q) λ_ _ q=>q;rcases hc with z | z
    . rw[z];exact nf b u e
    . exact nf c _ z
theorem Inv.turnedN{T:af}(I:Inv X pk σ H s)(hf:∀b∈fp,wT X pk H b)(k:∀b o,b ∉ fp->s.heap.get? b=aa o->h'.get? b=aa o)(hT:s.heap.objs.size<=T)
    (new:cK X.prog X.w (upd H T ob) h' T ob):Inv X pk σ (upd H T ob) { s with heap:=h',toks:=t' }:=by
  have hn:H T=ar:=I.hok.fresh hT;have nf:∀b u,H b=aa u->b ∉ fp:=λb u e z=>by have:=(hf b z).1;rw[e] at this;cases this
  have nT:∀b o,s.heap.get? b=aa o->b≠T:=λb o e=>gq (fj (bg e) hT);refine I.step (g':=s.gens) (d':=s.drawn) (ch:=fp) (λb hb=>?_) (λb o _ _ hc e _=>k b o hc e) (λb o _ _ hc e _=>⟨o.slots,k b o hc e⟩) (λb o _ e n=>by rw[bB (nT b o e)];exact n) (λb o hc e=>⟨o,k b o hc e⟩)
    (λb xs e=>by rw[bB (bL e hn)];exact e) (λb _ _ e=>by rw[bB (bL e hn)];exact e)
    (λb ps e=>⟨#[],by rw[bB (bL e hn),e];simp⟩) (λm hm=>?_) (λb u e=>?_) I.bare
  . obtain⟨_,f1,_,f3,f4,f5⟩:=hf b hb;exact⟨f3,f1,f4,f5⟩
  . obtain⟨o,es,ep,ho,r⟩:=hm;exact⟨o,es,ep,k _ o (λz=>(hf _ z).2.1 rfl) ho,r⟩
  . by_cases hb:b=T
    . subst hb;rw[bS] at e;cases e;exact new
    . rw[bB hb] at e;refine(I.hok b u e).stay (λc v hc q=>k c v ?_ q) (λc q=>by rw[bB (bL q hn)];exact q) (λc xs q=>by rw[bB (bL q hn)];exact q) λc xs q=>by rw[bB (bL q hn)];exact q
      rcases hc with z | z
      . rw[z];exact nf b u e
      . exact nf c _ z
noncomputable def R5(K:ap)(a:af):It:=
  ⟨λi H=>∃xs x,gK K H a xs/\xs[i]?=aa x,λi H v H'=>∃T x,H T=ar/\v=.ref T/\H'=upd H T (.tup [.int i,x]) /\ ∀xs,gK K H a xs->xs[i]?=aa x,λi H=>∃xs,gK K H a xs/\xs.length<=i⟩
variable {elts:List Expr}{x1:Nat}
theorem EZ{pos:lv}(a e it:af)(hne:e≠it):
    Turn P w K (.Tuple elts x1 pos) (R5 K a) [e,it] e (λi h=>(∃old,IsEnum h e it (i:Nat) old)/\h.IsListIter it a i) where
  mem:=by simp
  obj:=λi h st b hb=>by
    obtain⟨⟨old,he⟩,o,ho,c,d⟩:=st;rcases dm.mp hb with rfl | hb
    . exact⟨_,he,λv z=>by cases z⟩
    . rw[fe.mp hb];exact⟨o,ho,λv z=>by rw[d] at z;cases z⟩
  keep:=λi h h' st k=>⟨let ⟨old,he⟩:=st.1;⟨old,k e (by simp) _ he⟩,st.2.at λo q=>k it (by simp) o q⟩
  item:=by
    intro X hP hw hK hc i pk s σ H E I hf st hg;subst hP hw hK;obtain⟨xs,x,hq,hx⟩:=hg;obtain⟨its,rv,p,hz⟩:=I.list hq;obtain⟨u,hu,ru⟩:=rv.get hx;obtain⟨⟨old,he⟩,hit⟩:=st;refine wpAny_pyNext_enum_item he hit p.isList (x:=u) (by simpa using hu) hne λh1 heo hit1 ht hsz hk=>⟨_,rfl,?_⟩;refine wpAny_letOwnedTupleGo_enum heo λh2 he2 hs2=>?_;have heL:e<s.heap.objs.size:=bg he;have hn:H s.heap.objs.size=ar:=I.hok.fresh (bt _);have k2:∀b o,b ∉ [e,it]->s.heap.get? b=aa o->h2.get? b=aa o:=λb o hb q=>by
      have b1:b≠e:=λz=>hb (by simp[z]);have b2:b≠it:=λz=>hb (by simp[z]);exact(hs2.2 b b1).trans (hk b o b1 b2 q)
    have tt:h2.get? s.heap.objs.size=aa { cls:=.type "tuple",data:=.seq #[.int i s.toks,u] }:=(hs2.2 _ (VP heL)).trans ht;refine⟨.ref s.heap.objs.size,_,I.turnedN (ob:=.tup [.int i,x]) (T:=s.heap.objs.size) (t':=s.toks+1) hf k2 (bt _) ?_,rfl,⟨_,x,hn,rfl,rfl,λys hy=>by rw[I.list_inj hy hq];exact hx⟩,⟨⟨u,?_⟩,hit1.extBut hs2.extBut (Ne.symm hne)⟩,λb hb=>?_⟩
    . exact⟨(by decide:2<=bv),[.int i s.toks,u],.cons ⟨_,rfl⟩ (.cons ru .nil),_,tt,rfl,_,rfl⟩
    . have:((i+1:Nat):Int)=(i:Int)+1:=⋯;rw[this];exact he2
    . have hb1:=(hf b hb).1;rw[bB ?_]
      . exact hb1
      . rintro rfl;obtain⟨o,ho,_⟩:=id hit;rcases dm.mp hb with z | z
        . exact absurd heL (by rw[<- z];exact qg _)
        . have:=bg ho;rw[<- fe.mp z] at this;exact qg _ this
  done:=by
    intro X hP hw hK hc i pk s σ H E I hf st hg;subst hP hw hK;obtain⟨xs,hq,hx⟩:=hg;obtain⟨its,rv,p,hz⟩:=I.list hq;obtain⟨⟨old,he⟩,hit⟩:=st;have hl:=rv.length;exact IH I.qu he hit p.isList (by simp;right) λh1 eb=>⟨rfl,I.turnedL (t':=s.toks) hf λb o hb q=>eb b o (λz=>hb (by simp[z])) q⟩
  self:=λ_ _ _ _ _ st h=>by
    obtain⟨⟨old,he⟩,_⟩:=st;exact WV he h
variable {tp:lv}{ta:TA}
noncomputable def PR(K:ap)(ta:TA):TI:=λσ H R=>ta σ H λvs H1=>∃a,vs=[.ref a]/\(∃xs,gK K H1 a xs)/\R (R5 K a) H1
theorem JW{a:Expr}{pos:lv}(hg:Gl X "enumerate")(hm:X.mg "enumerate" = ar)(ha:PA X [a] ta)(hs:autoParam (av [a] X.env=[(ao,gn a X.env)]) c8._auto_1):
    PI X (.Tuple elts x1 tp) (.Call (.Name "enumerate" p) [a] [] pos) (PR X.K ta):=by
  intro pk s σ H R I h;refine Zz (o9 I hg hm boot_enumerate (ip (thn (ha pos pk s σ H _ I h) λus s1 ⟨vs,H1,I1,r1,q1⟩=>?_) hs rfl));obtain⟨l,e,⟨xs,hq⟩,q⟩:=q1;subst e;obtain⟨u,rfl,ru⟩:=kK r1;cases ru;obtain⟨its,rv,pl,hz⟩:=I1.list hq;refine call_enumerate_list pl.isList λh1 he hit hsz hk=>WV he ?_;have I2:Inv X pk σ H1 { s1 with heap:=h1 }:=I1.kept (t':=s1.toks) hk;refine⟨s1.heap.objs.size+1,[s1.heap.objs.size+1,s1.heap.objs.size],_,_,H1,rfl,I2,EZ l _ _ (Nat.succ_ne_self _),⟨⟨_,he⟩,hit⟩,λb hb=>?_,q⟩;refine I1.fpOk ?_ (I1.hok.fresh ?_)
  all_goals
    rcases dm.mp hb with z | z
    . rw[z];exact zc _
    . rw[fe.mp z];exact bt _
noncomputable def Th(a b:af):It:=
  ⟨λi H=>∃xs ys x y,H a=aa (.lst xs)/\H b=aa (.lst ys)/\xs[i]?=aa x/\ys[i]?=aa y,
   λi H v H'=>∃T x y,H T=ar/\v=.ref T/\H'=upd H T (.tup [x,y])/\(∀xs,H a=aa (.lst xs)->xs[i]?=aa x) /\ ∀ys,H b=aa (.lst ys)->ys[i]?=aa y,
   λi H=>∃xs ys,H a=aa (.lst xs)/\H b=aa (.lst ys)/\(xs.length<=i \/ ys.length<=i)⟩
structure ZApart(z TI TO i1 i2:af):Prop where
  a:TI≠z
  b:TO≠z
  c:i1≠z
  d:i2≠z
  e:TI≠TO
  f:TI≠i1
  g:TI≠i2
  h:TO≠i1
  i:TO≠i2
  j:i1≠i2
theorem G8{pos:lv}(a b z TI TO i1 i2:af)(Z:ZApart z TI TO i1 i2):
    Turn P w K (.Tuple elts x1 pos) (Th a b) [z,TI,TO,i1,i2] z (λi h=>Zy h z TI TO .none/\Y7 h TI (.ref i1) (.ref i2)/\(∃p q,Y7 h TO p q)/\h.IsListIter i1 a i/\h.IsListIter i2 b i) where
  mem:=by simp
  obj:=λi h st c hc=>by
    obtain⟨hz,hI,⟨p,q,hO⟩,⟨o1,h1,_,d1⟩,⟨o2,h2,_,d2⟩⟩:=st;simp only[dm,tf,or_false] at hc;rcases hc with rfl | rfl | rfl | rfl | rfl
    . exact⟨_,hz,λv y=>by cases y⟩
    . exact⟨_,hI,λv y=>by cases y⟩
    . exact⟨_,hO,λv y=>by cases y⟩
    . exact⟨_,h1,λv y=>by rw[d1] at y;cases y⟩
    . exact⟨_,h2,λv y=>by rw[d2] at y;cases y⟩
  keep:=λi h h' st k=>by
    obtain⟨hz,hI,⟨p,q,hO⟩,h1,h2⟩:=st;exact⟨k z (by simp) _ hz,k TI (by simp) _ hI,⟨p,q,k TO (by simp) _ hO⟩,h1.at λo y=>k i1 (by simp) o y,h2.at λo y=>k i2 (by simp) o y⟩
  item:=by
    intro X hP hw hK hc i pk s σ H E I hf st hg;subst hP hw hK;obtain⟨xs,ys,x,y,ha,hb,hx,hy⟩:=hg;obtain⟨its,rv,pl,hz1⟩:=I.list (gK.of ha);obtain⟨its2,rv2,pl2,hz2⟩:=I.list (gK.of hb);obtain⟨u,hu,ru⟩:=rv.get hx;obtain⟨u2,hu2,ru2⟩:=rv2.get hy;obtain⟨hz,hI,⟨p,q,hO⟩,h1,h2⟩:=st;have na:∀c∈[z,TI,TO,i1,i2],a≠c:=λc hc=>bL ha (hf c hc).1;have nb:∀c∈[z,TI,TO,i1,i2],b≠c:=λc hc=>bL hb (hf c hc).1;have D:Z8 z TI TO i1 i2 a b:=⟨Z.a,Z.b,Z.c,Z.d,Z.e,Z.f,Z.g,Z.h,Z.i,Z.j,na z (by simp),na TO (by simp),na i1 (by simp),na i2 (by simp),nb z (by simp),nb TO (by simp),nb i1 (by simp),nb i2 (by simp)⟩;refine wpAny_pyNext_zip_item D hz hI hO h1 h2 pl.isList pl2.isList (x:=u) (y:=u2) (by simpa using hu) (by simpa using hu2) λg a1 a2 a3 a4 a5 a6 hk=>⟨_,rfl,?_⟩;refine wpAny_letOwnedTupleGo_zip a1 λg2 hz2 hs2=>?_;have hn:H s.heap.objs.size=ar:=I.hok.fresh (bt _);have zL:z<s.heap.objs.size:=bg hz;have lt:∀{c:af} {o:jv},s.heap.get? c=aa o->c≠s.heap.objs.size:=λe=>gq (bg e);have k2:∀c o,c ∉ [z,TI,TO,i1,i2]->s.heap.get? c=aa o->g2.get? c=aa o:=λc o hc e=>by
      simp only[dm,tf,or_false,not_or] at hc;exact(hs2.2 c hc.1).trans (hk c o hc.1 hc.2.2.1 hc.2.2.2.1 hc.2.2.2.2 e)
    have tt:g2.get? s.heap.objs.size=aa { cls:=.type "tuple",data:=.seq #[u,u2] }:=(hs2.2 _ (VP zL)).trans a5;refine⟨.ref s.heap.objs.size,_,I.turnedN (ob:=.tup [x,y]) (T:=s.heap.objs.size) (t':=s.toks) hf k2 (bt _) ?_,rfl,
      ⟨_,x,y,hn,rfl,rfl,λzs hzs=>by rw[ha] at hzs;cases hzs;exact hx,λzs hzs=>by rw[hb] at hzs;cases hzs;exact hy⟩,
      ⟨hz2,hs2.extBut _ _ Z.a (hk _ _ Z.a Z.e Z.f Z.g hI),⟨_,_,hs2.extBut _ _ Z.b a2⟩,a3.extBut hs2.extBut Z.c,a4.extBut hs2.extBut Z.d⟩,λc hc=>?_⟩
    . exact⟨(by decide:2<=bv),[u,u2],.cons ru (.cons ru2 .nil),_,tt,rfl,_,rfl⟩
    . have hc1:=(hf c hc).1;have:c≠s.heap.objs.size:=by
        simp only[dm,tf,or_false] at hc;rcases hc with rfl | rfl | rfl | rfl | rfl
        . exact lt hz
        . exact lt hI
        . exact lt hO
        . obtain⟨o,e,_⟩:=h1;exact lt e
        . obtain⟨o,e,_⟩:=h2;exact lt e
      rw[bB this];exact hc1
  done:=by
    intro X hP hw hK hc i pk s σ H E I hf st hg;subst hP hw hK;obtain⟨xs,ys,ha,hb,hor⟩:=hg;obtain⟨its,rv,pl,hz1⟩:=I.list (gK.of ha);obtain⟨its2,rv2,pl2,hz2⟩:=I.list (gK.of hb);obtain⟨hz,hI,⟨p,q,hO⟩,h1,h2⟩:=st;have na:∀c∈[z,TI,TO,i1,i2],a≠c:=λc hc=>bL ha (hf c hc).1;have nb:∀c∈[z,TI,TO,i1,i2],b≠c:=λc hc=>bL hb (hf c hc).1;have D:Z8 z TI TO i1 i2 a b:=⟨Z.a,Z.b,Z.c,Z.d,Z.e,Z.f,Z.g,Z.h,Z.i,Z.j,na z (by simp),na TO (by simp),na i1 (by simp),na i2 (by simp),nb z (by simp),nb TO (by simp),nb i1 (by simp),nb i2 (by simp)⟩;have l1:=rv.length;have l2:=rv2.length;refine Kd I.qu D hz hI hO h1 h2 pl.isList pl2.isList ?_ λg hk=>⟨rfl,I.turnedL (t':=s.toks) hf λc o hc e=>?_⟩
    . rcases hor with h | h
      . exact .inl (by simp;right)
      . exact .inr (by simp;right)
    . simp only[dm,tf,or_false,not_or] at hc;exact hk c o hc.1 hc.2.2.1 hc.2.2.2.1 hc.2.2.2.2 e
  self:=λ_ _ _ _ _ st h=>Xj st.1 h
theorem zapart(n:Nat):ZApart (n+4) (n+2) (n+3) n (n+1):=
  ⟨λe=>by have e':(n+2:Nat)=n+4:=e;right,λe=>by have e':(n+3:Nat)=n+4:=e;right,λe=>by have e':(n:Nat)=n+4:=e;right,λe=>by have e':(n+1:Nat)=n+4:=e;right,
   λe=>by have e':(n+2:Nat)=n+3:=e;right,λe=>by have e':(n+2:Nat)=n:=e;right,λe=>by have e':(n+2:Nat)=n+1:=e;right,λe=>by have e':(n+3:Nat)=n:=e;right,
   λe=>by have e':(n+3:Nat)=n+1:=e;right,λe=>by have e':(n:Nat)=n+1:=e;right⟩
noncomputable def Su(ta:TA):TI:=λσ H R=>ta σ H λvs H1=>∃a b,vs=[.ref a,.ref b]/\(∃xs,H1 a=aa (.lst xs))/\(∃ys,H1 b=aa (.lst ys))/\R (Th a b) H1
theorem MA{a b:Expr}{pos:lv}(hg:Gl X "zip")(hm:X.mg "zip" = ar)(ha:PA X [a,b] ta)
    (hs:autoParam (av [a,b] X.env=[(ao,gn a X.env),(ao,gn b X.env)]) c8._auto_1) (hs2:autoParam (av [b] X.env=[(ao,gn b X.env)]) c8._auto_1):
    PI X (.Tuple elts x1 tp) (.Call (.Name "zip" p) [a,b] [] pos) (Su ta):=by
  intro pk s σ H R I h;refine Zz (o9 I hg hm boot_zip (ip (thn (ha pos pk s σ H _ I h) λus s1 ⟨vs,H1,I1,r1,q1⟩=>?_) (by rw[hs,hs2]) (by rw[hs2];rfl)));obtain⟨l,l2,e,⟨xs,hl⟩,⟨ys,hl2⟩,q⟩:=q1;subst e;obtain⟨u,u2,rfl,ru,ru2⟩:=Aj r1;cases ru;cases ru2;obtain⟨its,rv,pl,hz⟩:=I1.list (gK.of hl);obtain⟨its2,rv2,pl2,hz2⟩:=I1.list (gK.of hl2);refine call_zip_2 pl.isList pl2.isList λh1 hz hI hO i1 i2 hsz hk=>Xj hz ?_;have I2:Inv X pk σ H1 { s1 with heap:=h1 }:=I1.kept (t':=s1.toks) hk;refine⟨s1.heap.objs.size+4,[s1.heap.objs.size+4,s1.heap.objs.size+2,s1.heap.objs.size+3,s1.heap.objs.size,s1.heap.objs.size+1],_,_,H1,rfl,I2,
    G8 l l2 _ _ _ _ _ (zapart s1.heap.objs.size),⟨hz,hI,⟨_,_,hO⟩,i1,i2⟩,λb hb=>?_,q⟩
  have hle:s1.heap.objs.size<=b:=by
    simp only[dm,tf,or_false] at hb;rcases hb with rfl | rfl | rfl | rfl | rfl
    . exact Vs _ _
    . exact Vs _ _
    . exact Vs _ _
    . exact bt _
    . exact Vs _ _
  exact I1.fpOk hle (I1.hok.fresh hle)
noncomputable def Rl(K:ap):List V->Hp->VK->Prop:=λxs H Q=>∃x T t b,xs=[x,.ty T]/\TyOf K H x t/\rg K t (.type T)=aa b/\Q (.bl b) H
theorem IV:fP X (.builtin "isinstance") (Rl X.K):=by
  intro pk s σ H xs us Q I r h;obtain⟨x,T,t,b,rfl,ty,k,q⟩:=h;obtain⟨u,u2,rfl,ru,ru2⟩:=Aj r;cases ru2;exact FW I ru ty k λtk=>⟨.bl b,H,I.tok tk,rfl,q⟩
theorem uZ:∀{bs:List Bool} {us:List ah},bU (bs.map V.bl) us->LSm.BoolsAre us bs
  | [],_,.nil=>.nil
  |_::_,_,.cons r t=>by cases r;exact .cons _ (uZ t)
theorem uY:∀{ns:List Int} {us:List ah},bU (ns.map V.int) us->uo us ns
  | [],_,.nil=>.nil
  |_::_,_,.cons r t=>by obtain⟨t',rfl⟩:=r;exact .cons _ _ (uY t)
noncomputable def Rq(K:ap):List V->Hp->VK->Prop:=λxs H Q=>∃(a:af) (bs:List Bool),xs=[.ref a]/\gK K H a (bs.map V.bl)/\Q (.bl (bs.all id)) H
theorem Fw(hc:X.calm=aj):fP X (.builtin "all") (Rq X.K):=by
  intro pk s σ H xs us Q I r h;obtain⟨a,bs,rfl,hq,q⟩:=h;obtain⟨u,rfl,ru⟩:=kK r;cases ru;obtain⟨its,rv,pl,hz⟩:=I.list hq;have ba:=uZ rv;have lt:a<s.heap.objs.size:=by obtain⟨_,e,_⟩:=pl.isList;exact bg e
  refine call_all_walk (WW pl.isList ⟨s.heap.objs.size,[s.heap.objs.size,a],[s.heap.objs.size],its.toArray.size,_,_,λi=>(bs[i]?).getD aj,rfl,
    Walks.list (A:=X.A.in1) (I.ok.hd hc) _ a (gq lt) its.toArray,⟨⟨_,cm _ rfl,rfl,rfl⟩,pl.isList.push _⟩,λi v s' Q' E' hP hQ=>?_,λh' tk hk=>?_⟩)
  . obtain⟨b,e,rfl⟩:=ba.get i v (by simpa using hP);have hQ':Q' ((bs[i]?).getD aj) s':=hQ;rw[e] at hQ';exact io hQ'
  . have e:((gy its.toArray.size).all λi=>(bs[i]?).getD aj)=bs.all id:=by
      have:=LSm.range_all bs;rw[<- ba.length] at this;simpa using this
    rw[e];exact⟨.bl _,H,I.kept (LSm.kept_iter hk),rfl,q⟩
noncomputable def Rf(K:ap):List V->Hp->VK->Prop:=λxs H Q=>∃(a:af) (ns:List Int),xs=[.ref a]/\gK K H a (ns.map V.int)/\Q (.int ns.sum) H
theorem Fq(hc:X.N=X.N):fP X (.builtin "sum") (Rf X.K):=by
  intro pk s σ H xs us Q I r h;obtain⟨a,ns,rfl,hq,q⟩:=h;obtain⟨u,rfl,ru⟩:=kK r;cases ru;obtain⟨its,rv,pl,hz⟩:=I.list hq;have ia:=uY rv;obtain⟨ys,hy⟩:=ia.allInts.items;have e1:=nums_intItems ys;rw[<- hy,show numsOf its.toArray.toList=ns from ia.numsOf] at e1;refine Ny I.qu (hy ▸ pl.isList) λh' tk t' hk=>⟨.int ns.sum,H,I.kept hk,⟨t',?_⟩,q⟩;rw[preSum_eq,e1,pf (by simp)]
noncomputable def pick(js:List Nat)(σ:St):St:=js.map λj=>(σ[j]?).join
noncomputable def qY(X:Cx)(ZF:Scope)(cl:List (bw×af))(fp:List af)(N:List bw)(s:ai)(H:Hp):Cx where
  prog:=X.prog
  w:=X.w
  K:=X.K
  mg:=X.mg
  base:=X.base
  A:=X.A
  N:=N
  s₀:=s
  HZ:=H
  env:=compEnvC ZF cl s.heap.objs.size X.env
  outer:=X.stack
  stack:=X.stack
  ex:=fp
  fn:=λ_=>ao
  calm:=X.calm
  pn:=[]
  xe:=λ_ _=>False
  hs:=X.hs
noncomputable def NS(X:Cx)(ifs:List Expr)(t:TT):Prop:=
  ∀(pk:List (af×jv)) (s:ai) (σ:St) (H:Hp) (Q:Bool->Hp->Prop),Inv X pk σ H s->t σ H Q ->
    bu (cf X.prog X.w) X.A (ZA ifs aj λc r=>if r=aj then do let ok <- isTrue c X.env (gn c X.env);jo (rh ok) else jo (rh r)) (TP X pk σ Q) X.xe s
theorem JO:NS X [] (λ_ H Q=>Q aj H):=λpk s σ H Q I h=>wpAny_tests_nil ⟨H,I,h⟩
theorem JN{c:Expr}{t:TT}(h:PT X c t):NS X [c] t:=λpk s σ H Q I q=>wpAny_tests_one (h pk s σ H Q I q)
noncomputable def zB(wi:TI)(k:Nat)(js:List Nat)(g:TG)(tt:TT)(te:TE):TE:=λσ H Q=>wi σ H λJ H1=>∀D,H1 D=ar -> ∃W:Nat->Nat->List V->Hp->Prop,(∃m,W 0 m [] (upd H1 D (.lst []))) /\ ∀i m acc H2,W i m acc H2->H2 D=aa (.lst acc) ->
  (J.stop i H2/\Q (.ref D) H2) \/ (J.go i H2 /\ ∀y H3,J.yld i H2 y H3 -> ∀old:St,old.length=k->g y (old++pick js σ) H3 λσ4 H4=>(∃new:St,new.length=k/\σ4=new++pick js σ)/\tt σ4 H4 λb H5=>
    if b=aj then te σ4 H5 λv H6=>H6 D=aa (.lst acc)/\acc.length<bv /\ ∃m',m'<m/\W (i+1) m' (acc++[v]) (upd H6 D (.lst (acc++[v])))
    else H5 D=aa (.lst acc) /\ ∃m',m'<m/\W (i+1) m' acc H5)
variable {elt tgt iter:Expr}
theorem xI{R:YT->ai->Prop}{pos:lv}{it acc:ah}{env:za}(J:Nat->ai->Prop)
    (turn:∀n s,J n s->bu (cf prog w) A (sv it) (λr s1=>match r with
      |none=>R (.ok .next) s1
      |some v=>bu (cf prog w) A (wt tgt it v) (λ_ s2=>bu (cf prog w) A (Yb tgt env v) (λ_ s3=>
          bu (cf prog w) A (ZA ifs aj λc r=>if r=aj then do let ok <- isTrue c env (gn c env);jo (rh ok) else jo (rh r)) (λb s3'=>
          if b=aj then bu (cf prog w) A (gn elt env) (λy s4=>bu (cf prog w) A (call (.builtin "list.append") [acc,y]) (λ_ s5=>∃m,m<n/\J m s5) (λ_ _=>False) s4) (λ_ _=>False) s3'
          else ∃m,m<n/\J m s3') (λ_ _=>False) s3) (λ_ _=>False) s2) (λ_ _=>False) s1) (λ_ _=>False) s)
    (n:Nat) (h:J n s):zf (cf prog w) A (.compLoop (.ListComp elt [⟨tgt,iter,ifs,0⟩] ZF pos) 0 it acc env) R s:=by
  refine codeAny_loop rfl J (λn' s' hJ=>?_) n h;show bu _ _ ((compTurn (.ListComp elt [⟨tgt,iter,ifs,0⟩] ZF pos) 0 it acc env).onRaise (λz=>do V3 z env;theTreesLotGoes z)) _ _ s';refine wpAny_noted ?_;rw[compTurn_list];have nope:∀{α:Type} {t:X8 α} {Q:α->ai->Prop} {E:ah->ai->Prop} {q:ai},bu (cf prog w) A t Q (λ_ _=>False) q->bu (cf prog w) A t Q E q:=λh=>gv h (λ_ _ z=>z) λ_ _ z=>z.elim;refine ae (wpAny_standAt (ae (gv (nope (turn n' s' hJ)) (λr s1 h1=>?_) λ_ _ z=>z)));cases r with
  |none=>exact ak h1
  |some v=>
    refine ae (gv (nope h1) (λ_ s2 h2=>?_) λ_ _ z=>z);refine ae (gv (nope h2) (λ_ s3 h3=>?_) λ_ _ z=>z);refine ae (gv (nope h3) (λb s4 h4=>?_) λ_ _ z=>z);cases b with
    |true=>
      have h4':=(show bu _ _ _ _ _ s4 by simpa using h4);simp only[if_true];refine ae (ae (gv (nope h4') (λy s5 h5=>?_) λ_ _ z=>z));refine ae (gv (nope h5) (λ_ s6 h6=>?_) λ_ _ z=>z);exact ak (ak ⟨rfl,h6⟩)
    |false=>
      have h4':∃m,m<n'/\J m s4:=by simpa using h4
      simp only[eo,if_false];exact ae (ak (ak ⟨rfl,h4'⟩))
variable {js:List Nat}{v:V}{cl:List (bw×af)}{tgs ns:List bw}{wi:TI}{tt:TT}{te:TE}
theorem Ge(h:(pick js σ)[i]?=aa (aa v)):∃j,js[i]?=aa j/\σ[j]?=aa (aa v):=by
  unfold pick at h;rw[dh] at h;cases e:js[i]? with
  |none=>rw[e] at h;cases h
  |some j=>
    rw[e] at h;have h':(σ[j]?).join=aa v:=Option.some.inj h;refine⟨j,rfl,?_⟩;cases q:σ[j]? with
    |none=>rw[q] at h';cases h'
    |some o=>rw[q] at h';exact congrArg aa h'
theorem yN{pos:lv}{g:TG}(hc:X.N=X.N)
    (hi:PI X tgt iter wi) (hg:∀(fp:List af) (s:ai) (H:Hp),PG (qY X ZF cl fp (tgs++ns) s H) tgt g) (ht:∀(fp:List af) (s:ai) (H:Hp),NS (qY X ZF cl fp (tgs++ns) s H) ifs tt)
    (he:∀(fp:List af) (s:ai) (H:Hp),PE (qY X ZF cl fp (tgs++ns) s H) elt te)
    (ZX:wf ZF X.env=jo cl) (ZU:∀x c,cl.lookup x=aa c->X.env.cells.lookup x=aa c)
    (a04:∀x,((ja ZF X.env).names.lookup x=aa .cell \/ (ja ZF X.env).names.lookup x=aa .free) -> ∃c,cl.lookup x=aa c)
    (hjs:js.map (λj=>X.N[j]?)=ns.map aa) (hin:∀y∈ns,(ja ZF X.env).names.lookup y=aa .cell \/ (ja ZF X.env).names.lookup y=aa .free)
    (ZY:∀y∈ns,X.env.kindOf y=aa .cell \/ X.env.kindOf y=aa .free)
    (ZL:autoParam (∀y∈ZF.names,y.2 ≠ .cell) Db._auto_1) (ZP:autoParam (ZF.kind=.function) c8._auto_1)
    (ZO:autoParam (∀y∈ZF.names,y.2=.local->ZF.names.lookup y.1=aa .local) Db._auto_1)
    (hs:autoParam (∀z,iq iter X.env z=jo z) G3._auto_1):
    ∀(pos0:lv) (pk:List (af×jv)) (s:ai) (σ:St) (H:Hp) (Q:VK) (I:Inv X pk σ H s) (h:zB wi tgs.length js g tt te σ H Q) (use:Option (ah->X8 Unit)) (R:ah->ai->Prop)
      (hfin:∀(D C:af) (H':Hp) (s':ai),Q (.ref D) H'->wT X pk H' C->(∃m,s'.heap.Ns C m)->(∀h',oz C s'.heap h'->Inv X pk σ H' { s' with heap:=h' })->Zh (cf X.prog X.w) X.A X.xe use R (.ref D) C (.ok .next) s'),
      bu (cf X.prog X.w) X.A (comprehension (.ListComp elt [⟨tgt,iter,ifs,0⟩] ZF pos) ZF X.env pos0 (newList []) ao (gn iter X.env) use) R X.xe s:=by
  intro pos0 pk s σ H Q I h use R hfin;refine wpAny_comprehension_free (use:=use) rfl hs ZX ZP ZO (thn (hi pk s σ H _ I h) λv s1 h1=>thn h1 λitv s2 h2=>?_);obtain⟨it,fp,tn,J,H2,rfl,I2,T,st2,f2,ZS⟩:=h2;have hD:H2 s2.heap.objs.size=ar:=I2.hok.fresh (bt _);obtain⟨W,⟨m0,w0⟩,step⟩:=ZS _ hD;refine ik (wpAny_newFunctionEnv ZL (by intro y hy;simp at hy) (λg1 hns hsb=>?_) ZP) (by size_fits);dsimp only at hns hsb ⊢;have I3:Inv X pk σ (upd H2 s2.heap.objs.size (.lst [])) { s2 with heap:=s2.heap.push { cls:=.type "list",dict:=ar,data:=.seq ([]:List ah).toArray } }:=I2.lnew (t':=s2.toks) .nil (by simp);generalize hD':s2.heap.objs.size=D at *;generalize hH3:upd H2 D (.lst [])=H3 at *;generalize hS3:s2.heap.push { cls:=.type "list",dict:=ar,data:=.seq ([]:List ah).toArray }=g3 at *;have zs:g3.objs.size=D+1:=by rw[<- hS3,vd,hD']
  have f3:∀b∈fp,wT X pk H3 b:=λb hb=>by
    obtain⟨o,ho,_⟩:=T.obj _ _ st2 b hb;have lt:=bg ho;refine⟨?_,(f2 b hb).2⟩;rw[<- hH3,bB (gq (hD' ▸ lt))];exact(f2 b hb).1
  have ltf:∀b∈fp,b<g3.objs.size:=λb hb=>by
    obtain⟨o,ho,_⟩:=T.obj _ _ st2 b hb;rw[zs];exact WX (hD' ▸ bg ho)
  have kept:∀b o,g3.get? b=aa o->g1.get? b=aa o:=λb o e=>hsb.extBut b o (gq (bg e)) (aq _ e);have cne:∀x c,cl.lookup x=aa c->c≠g3.objs.size:=λx c e=>by
    obtain⟨v,q⟩:=I3.cell x c (ZU x c e);exact gq q.lt
  have ok:(qY X ZF cl fp (tgs++ns) { s2 with heap:=g3 } H3).Ok:=by
    refine⟨I.ok.mod,ZP,I.ok.glob,I.ok.blt,bt _,λy z c e1 e2=>I.ok.inj y z c (ZU y c e1) (ZU z c e2),λy hy=>a04 y hy,λy c e=>(nomatch e),I.ok.hd,I.ok.frames,.inl rfl,
      λb hb=>⟨gq (ltf b hb),λy c e=>(f3 b hb).2.2.2.2.1 y c (ZU y c e)⟩,I3.bs,ly I.ok.bsz I3.sz,λb o e hb=>?_,λb hb=>?_,I3.stack,I3.stkFree,I.ok.hq⟩
    . rcases(f3 b hb).2.2.2.1 with q | q
      . exact I.ok.noex b o e q
      . exact absurd (fj (bg (I.ok.bs b o e).1) q) (qg _)
    . intro z;rcases dm.mp (I3.stkSub b z) with q | q
      . exact(f3 b hb).2.1 q
      . exact(f3 b hb).2.2.1 q
  have cells1:∀x c,cl.lookup x=aa c -> ∃v,g1.IsCell c v:=λx c e=>by
    obtain⟨v,o,ho,hd⟩:=I3.cell x c (ZU x c e);exact⟨v,o,kept _ _ ho,hd⟩
  have J4:Inv (qY X ZF cl fp (tgs++ns) { s2 with heap:=g3 } H3) [] (aw tgs.length ar++pick js σ) H3 { s2 with heap:=g1,toks:=s2.toks+([]:List (bw×ah)).length }:=by
    refine⟨ok,rfl,I3.bare,Un.kept kept,⟨_,hns,λi y v e1 e2 e3=>?_⟩,λy c e=>cells1 y c e,I3.hok.fresh (bt _),λy c e=>I3.freeC y c (ZU y c e),λp hp=>absurd (show p∈([]:List (af×jv)) from hp) (by simp),I3.hok.kept kept,?_,I3.mild⟩
    . have hi2:tgs.length<=i:=by
        by_cases hlt:i<tgs.length
        . rw[bh (by simpa using hlt),jt,ZE hlt] at e2;cases e2
        . right
      rw[bo (by simpa using hi2),nh] at e2;have e1':(tgs++ns)[i]?=aa y:=e1;rw[bo hi2] at e1';obtain⟨j,hj,hσ⟩:=Ge e2;have hNj:X.N[j]?=aa y:=by
        have:=congrArg (λl=>l[i-tgs.length]?) hjs;simp only[dh,hj,e1',Zi] at this;exact Option.some.inj this
      have ym:y∈ns:=fh e1';obtain⟨m,hm,hl⟩:=I3.loc;have vis:Py X.env.scope y:=by
        rcases ZY y ym with q | q
        . exact .inr (.inl q)
        . exact .inr (.inr q)
      obtain⟨u,ru,lk⟩:=hl j y v hNj hσ vis;refine⟨u,ru,?_⟩;rcases lk with⟨q,_⟩ | ⟨_,c,hc1,hc2⟩
      . rcases ZY y ym with z | z
        . rw[z] at q;cases q
        . rw[z] at q;cases q
      . obtain⟨c',hc'⟩:=a04 y (hin y ym);have:=ZU y c' hc';rw[hc1] at this;cases this;obtain⟨o,ho,hd⟩:=hc2;exact .inr ⟨hin y ym,c,hc',o,kept _ _ ho,hd⟩
    . show _=(tgs++ns).length;have:=congrArg List.length hjs;simp only[bf] at this;simp[pick,this]
  have st4:tn 0 g1:=T.keep 0 _ _ st2 λb hb o e=>kept b o (by rw[<- hS3];exact aq _ e);have fin:∀(H':Hp) (σ':St) (s':ai),Inv (qY X ZF cl fp (tgs++ns) { s2 with heap:=g3 } H3) [] σ' H' s'->Q (.ref D) H'->Zh (cf X.prog X.w) X.A X.xe use R (.ref D) g3.objs.size (.ok .next) s':=by
    intro H' σ' s' K q;obtain⟨m,hm,_⟩:=K.loc;refine hfin D g3.objs.size H' s' q (I3.fpOk (bt _) K.free) ⟨m,hm⟩ λh' hsb'=>?_;have ne:∀b o,g3.get? b=aa o->b≠g3.objs.size:=λb o e=>gq (bg e);have B:Un (frs X.stack) fp H3 H' g3 s'.heap:=K.base;refine I3.call' (s':={ s' with heap:=h' }) (ch:=fp) K.os ⟨λb o e n hb hx=>(hsb'.2 b (ne b o e)).trans (B.keep b o e n hb hx),λb o e n hb hx=>?_,B.free,λb o e hx=>?_,B.tups,B.frzs,B.tbls⟩ (λb u e=>?_) K.bare (λb hb=>?_)
    . obtain⟨sl,e1⟩:=B.slot b o e n hb hx;exact⟨sl,(hsb'.2 b (ne b o e)).trans e1⟩
    . obtain⟨o',e1⟩:=B.there b o e hx;exact⟨o',(hsb'.2 b (ne b o e)).trans e1⟩
    . have nC:∀c v,H' c=aa v->c≠g3.objs.size:=λc v e z=>by
        have:H' g3.objs.size=ar:=K.free;rw[z,this] at e;cases e
      refine(K.hok b u e).stay (λc v hc q=>(hsb'.2 c ?_).trans q) (λ_ q=>q) (λ_ _ q=>q) λ_ _ q=>q;rcases hc with z | z
      . rw[z];exact nC b u e
      . exact nC c _ z
    . obtain⟨_,q1,_,q3,q4,q5⟩:=f3 b hb;exact⟨q3,q1,q4,q5⟩
  have loop:zf (cf X.prog X.w) X.A (.compLoop (.ListComp elt [⟨tgt,iter,ifs,0⟩] ZF pos) 0 (.ref it) (.ref D) (compEnvC ZF cl g3.objs.size X.env))
      (Zh (cf X.prog X.w) X.A X.xe use R (.ref D) g3.objs.size) { s2 with heap:=g1,toks:=s2.toks+([]:List (bw×ah)).length }:=by
    refine xI (λn s'=>∃i acc old H',Inv (qY X ZF cl fp (tgs++ns) { s2 with heap:=g3 } H3) [] (old++pick js σ) H' s'/\old.length=tgs.length/\tn i s'.heap/\(∀b∈fp,H' b=ar)/\H' D=aa (.lst acc)/\W i n acc H') ?_ m0
      ⟨0,[],aw tgs.length ar,H3,J4,by simp,st4,λb hb=>(f3 b hb).1,by rw[<- hH3];exact bS,w0⟩
    rintro n s' ⟨i,acc,old,H',K,lo,st,fr,hDl,w⟩;have fpk:∀{H'':Hp},(∀b∈fp,H'' b=ar) -> ∀b∈fp,wT (qY X ZF cl fp (tgs++ns) { s2 with heap:=g3 } H3) [] H'' b:=λhn b hb=>
      ⟨hn b hb,gq (ltf b hb),λz=>ok.exfs b hb z,.inl hb,λy c e=>(f3 b hb).2.2.2.2.1 y c (ZU y c e),λp hp=>absurd (show p∈([]:List (af×jv)) from hp) (by simp)⟩
    rcases step i n acc H' w hDl with⟨stop,q⟩ | ⟨go,next⟩
    . refine thn (T.done (qY X ZF cl fp (tgs++ns) { s2 with heap:=g3 } H3) rfl rfl rfl rfl i [] s' _ H' _ K (fpk fr) st stop) λr s1 zz=>?_;obtain⟨hr,K1⟩:=zz;subst hr;exact fin H' _ s1 K1 q
    . refine thn (T.item (qY X ZF cl fp (tgs++ns) { s2 with heap:=g3 } H3) rfl rfl rfl rfl i [] s' _ H' _ K (fpk fr) st go) λr s1 zz=>?_;obtain⟨u,hr,h4⟩:=zz;subst hr;refine thn h4 λ_ s5 zz=>?_;obtain⟨y,H5,K5,r5,y5,st5,fr5⟩:=zz;have K5':=K5.pinned (fpk fr5) (T.obj _ _ st5);refine thn (hg fp { s2 with heap:=g3 } H3 _ s5 _ H5 y u _ K5' r5 (next y H5 y5 old lo)) λ_ s6 ⟨σ6,H6,K6,⟨new,hnew,e6⟩,q6⟩=>?_;subst e6;refine thn (ht fp { s2 with heap:=g3 } H3 _ s6 _ H6 _ K6 q6) λb s6' zz=>?_;obtain⟨H6',K6',q6'⟩:=zz;have Ze:∀{s8:ai} {H8:Hp} {ZK:List V} {m':Nat},Inv (qY X ZF cl fp (tgs++ns) { s2 with heap:=g3 } H3) ([]++vO fp s5.heap) (new++pick js σ) H8 s8->H8 D=aa (.lst ZK)->m'<n->W (i+1) m' ZK H8 ->
          ∃m,m<n /\ ∃i acc old H',Inv (qY X ZF cl fp (tgs++ns) { s2 with heap:=g3 } H3) [] (old++pick js σ) H' s8/\old.length=tgs.length/\tn i s8.heap/\(∀b∈fp,H' b=ar)/\H' D=aa (.lst acc)/\W i m acc H':=by
        intro s8 H8 ZK m' K8 h8 hm' w8;refine⟨m',hm',i+1,ZK,new,H8,K8.unpinned,hnew,T.keep _ _ _ st5 λb hb o e=>(K8.pin (b,o) (eh _ (eh _ (mQ hb e)))).1,λb hb=>?_,h8,w8⟩;obtain⟨o,e,d⟩:=T.obj _ _ st5 b hb;exact(K8.pin (b,o) (eh _ (eh _ (mQ hb e)))).2.1
      cases b with
      |true=>
        refine uC ?_;rw[ZE rfl] at q6';refine thn (he fp { s2 with heap:=g3 } H3 _ s6' _ H6' _ K6' q6') λvv s7 zz=>?_;obtain⟨v,H7,K7,r7,hD7,hlen,m',hm',w7⟩:=zz;refine thn (yA (X:=qY X ZF cl fp (tgs++ns) { s2 with heap:=g3 } H3) _ s7 _ H7 (.ref D) [v] (.ref D) [vv] (λ_ H8=>H8=upd H7 D (.lst (acc++[v]))) K7 rfl (.cons r7 .nil) ⟨D,acc,v,rfl,rfl,hD7,hlen,rfl⟩) λ_ s8 zz=>?_;obtain⟨_,H8,K8,_,e8⟩:=zz;subst e8;exact Ze K8 bS hm' w7
      |false=>
        refine uD ?_;have q6f:H6' D=aa (.lst acc) /\ ∃m',m'<n/\W (i+1) m' acc H6':=by simpa using q6'
        obtain⟨hD7,m',hm',w7⟩:=q6f;exact Ze K6' hD7 hm' w7
  exact codeAny_compStart_list loop (T.self _ 0 _ _ _ st4 loop)
theorem Gm{pos:lv}{g:TG}(hc:X.N=X.N)
    (hi:PI X tgt iter wi) (hg:∀(fp:List af) (s:ai) (H:Hp),PG (qY X ZF cl fp (tgs++ns) s H) tgt g) (ht:∀(fp:List af) (s:ai) (H:Hp),NS (qY X ZF cl fp (tgs++ns) s H) ifs tt)
    (he:∀(fp:List af) (s:ai) (H:Hp),PE (qY X ZF cl fp (tgs++ns) s H) elt te)
    (ZX:wf ZF X.env=jo cl) (ZU:∀x c,cl.lookup x=aa c->X.env.cells.lookup x=aa c)
    (a04:∀x,((ja ZF X.env).names.lookup x=aa .cell \/ (ja ZF X.env).names.lookup x=aa .free) -> ∃c,cl.lookup x=aa c)
    (hjs:js.map (λj=>X.N[j]?)=ns.map aa) (hin:∀y∈ns,(ja ZF X.env).names.lookup y=aa .cell \/ (ja ZF X.env).names.lookup y=aa .free)
    (ZY:∀y∈ns,X.env.kindOf y=aa .cell \/ X.env.kindOf y=aa .free)
    (ZL:autoParam (∀y∈ZF.names,y.2 ≠ .cell) Db._auto_1) (ZP:autoParam (ZF.kind=.function) c8._auto_1)
    (ZO:autoParam (∀y∈ZF.names,y.2=.local->ZF.names.lookup y.1=aa .local) Db._auto_1)
    (hs:autoParam (∀z,iq iter X.env z=jo z) G3._auto_1):
    PE X (.ListComp elt [⟨tgt,iter,ifs,0⟩] ZF pos) (zB wi tgs.length js g tt te):=by
  intro pk s σ H Q I h;rw[eval_ListComp];refine yN hc hi hg ht he ZX ZU a04 hjs hin ZY ZL ZP ZO hs _ pk s σ H Q I h ar _ ?_;intro D C H' s' q fp hm inv;obtain⟨m,hm⟩:=hm;exact⟨m,hm,λh' hs'=>⟨.ref D,H',inv h' hs',rfl,q⟩⟩
theorem Gb{y:bw}{py spos:lv}{iy:Nat}{pos:lv}{g:TG}(hN:X.N.Nodup)(hi2:X.N[iy]?=aa y)(hx2:G1 X.env.scope y)(hc:X.N=X.N)
    (hi:PI X tgt iter wi) (hg:∀(fp:List af) (s:ai) (H:Hp),PG (qY X ZF cl fp (tgs++ns) s H) tgt g) (ht:∀(fp:List af) (s:ai) (H:Hp),NS (qY X ZF cl fp (tgs++ns) s H) ifs tt)
    (he:∀(fp:List af) (s:ai) (H:Hp),PE (qY X ZF cl fp (tgs++ns) s H) elt te)
    (ZX:wf ZF X.env=jo cl) (ZU:∀x c,cl.lookup x=aa c->X.env.cells.lookup x=aa c)
    (a04:∀x,((ja ZF X.env).names.lookup x=aa .cell \/ (ja ZF X.env).names.lookup x=aa .free) -> ∃c,cl.lookup x=aa c)
    (hjs:js.map (λj=>X.N[j]?)=ns.map aa) (hin:∀y∈ns,(ja ZF X.env).names.lookup y=aa .cell \/ (ja ZF X.env).names.lookup y=aa .free)
    (ZY:∀y∈ns,X.env.kindOf y=aa .cell \/ X.env.kindOf y=aa .free)
    (ZL:autoParam (∀y∈ZF.names,y.2 ≠ .cell) Db._auto_1) (ZP:autoParam (ZF.kind=.function) c8._auto_1)
    (ZO:autoParam (∀y∈ZF.names,y.2=.local->ZF.names.lookup y.1=aa .local) Db._auto_1)
    (hs:autoParam (∀z,iq iter X.env z=jo z) G3._auto_1)
    (hsw:autoParam (ix (.ListComp elt [⟨tgt,iter,ifs,0⟩] ZF pos) (aa (.Name y py)) spos.line X.env=jo aj) c8._auto_1) (hf:autoParam (X.fn y=aj \/ X.env.scope.names.lookup y=aa .local) Fz._auto_1):
    PS X (.Assign [.Name y py] (.ListComp elt [⟨tgt,iter,ifs,0⟩] ZF pos) spos) (Lg (zB wi tgs.length js g tt te) (Bu iy)):=by
  intro pk s σ H D I h;rw[exec_Assign_Name_used _ _ _ _ hsw];refine ae (wpAny_standAt (ae ?_));show bu _ X.A (do let _ <- comprehension (.ListComp elt [⟨tgt,iter,ifs,0⟩] ZF pos) ZF X.env _ (newList []) ao (gn iter X.env) (aa (Yb (.Name y py) X.env))) _ _ s;refine ae (gv (yN hc hi hg ht he ZX ZU a04 hjs hin ZY ZL ZP ZO hs _ pk s σ H _ I h (aa (Yb (.Name y py) X.env)) (λ_ s'=>SP X pk D .next s') ?_) (λ_ s' hq=>ak (ak hq)) λ_ _ e=>e);intro E C H' s' q fp ⟨m,hm⟩ inv;have I1:Inv X pk σ H' s':=inv s'.heap ⟨rfl,λ_ _=>rfl⟩;show bu _ X.A (Yb (.Name y py) X.env (.ref E)) _ _ _;refine WN (xS I1 hN hi2 hx2 (v:=.ref E) rfl (λs2 I2 hsb=>?_) hf);obtain⟨a,hsb,ha⟩:=hsb;have aC:a≠C:=by
    rcases ha with ha | ha
    . rw[ha];exact Ne.symm fp.2.1
    . exact fp.2.2.2.2.1 _ _ ha
  refine⟨m,hm.sameBut hsb (Ne.symm aC),λh' hs'=>⟨_,H',?_,q⟩⟩;refine I2.call' (s':={ s2 with heap:=h' }) (ch:=[C]) rfl ⟨λb o e n hb hx=>?_,λb o e n hb hx=>?_,λb o e n hx=>n,λb o e hx=>?_,λ_ _ e=>e,λ_ _ _ e=>e,λb ps e=>⟨#[],by simpa using e⟩⟩ ?_ I2.bare ?_
  . exact hs'.extBut b o (by simpa using hx) e
  . exact⟨o.slots,hs'.extBut b o (by simpa using hx) e⟩
  . exact⟨o,hs'.extBut b o (by simpa using hx) e⟩
  . have nC:∀c v,H' c=aa v->c≠C:=λc v e z=>by
      rw[z,fp.1] at e;cases e
    intro b u e;refine(I2.hok b u e).stay (λc v hc q=>(hs'.2 c ?_).trans q) (λ_ q=>q) (λ_ _ q=>q) λ_ _ q=>q;rcases hc with z | z
    . rw[z];exact nC b u e
    . exact nC c _ z
  . intro b hb;obtain rfl:b=C:=by simpa using hb
    exact⟨fp.2.2.2.1,fp.2.1,fp.2.2.2.2.1,fp.2.2.2.2.2⟩
variable {y:V}{o:Option V}{κ:Type}
section
variable [DecidableEq κ]
noncomputable def nG(kvs:List (κ×V))(k:κ):Option V:=(kvs.find? λkv=>decide (kv.1=k)).map (·.2)
noncomputable def rX(kvs:List (κ×V))(k:κ)(v:V):List (κ×V):=
  if (kvs.any λkv=>decide (kv.1=k))=aj then kvs.map (λkv=>if kv.1=k then (kv.1,v) else kv) else kvs++[(k,v)]
theorem rC{p:κ×V}{r:List (κ×V)}{k:κ}(e:p.1=k):nG (p::r) k=aa p.2:=by simp[nG,wg,e]
theorem rE{p:κ×V}{r:List (κ×V)}{k:κ}(e:¬p.1=k):nG (p::r) k=nG r k:=by simp[nG,wg,e]
theorem Ak(k:κ):∀kvs:List (κ×V),(kvs.any λkv=>decide (kv.1=k))=(nG kvs k).isSome
  | []=>rfl
  |p::r=>by
    rw[tj];by_cases e:p.1=k
    . simp only[rC e,decide_eq_true e,YX,WE]
    . rw[rE e,decide_eq_false e,Ux];exact Ak k r
theorem tT(kvs:List (κ×V))(k:κ)(v:V):(rX kvs k v).length<=kvs.length+1:=by
  unfold rX;split
  . rw[bf];right
  . rw[eg,cj,yg];right
theorem pT.isSome_eq{u:Option ah}(r:pT o u):o.isSome=u.isSome:=by
  cases o with
  |none=>cases u with
    |none=>rfl
    |some _=>exact(show False from r).elim
  |some _=>cases u with
    |none=>exact(show False from r).elim
    |some _=>rfl
theorem KV.val{kvs:List (κ×V)}{vs:List (κ×ah)}(r:KV kvs vs)(k:κ):pT (nG kvs k) (Wg vs k):=by
  unfold KV at r;induction r with
  |nil=>exact mh
  | @cons p q ps qs h t ih=>
    obtain⟨h1,h2⟩:=h;by_cases e:p.1=k
    . have e':q.1=k:=h1.symm.trans e;have b:Wg (q::qs) k=aa q.2:=by simp[Wg,wg,e']
      rw[rC e,b];exact h2
    . have e':¬q.1=k:=λz=>e (h1.trans z);have b:Wg (q::qs) k=Wg qs k:=by simp[Wg,wg,e']
      rw[rE e,b];exact ih
theorem KV.any{kvs:List (κ×V)}{vs:List (κ×ah)}(r:KV kvs vs)(k:κ):(kvs.any λkv=>decide (kv.1=k))=vs.any λkv=>decide (kv.1=k):=by
  unfold KV at r;induction r with
  |nil=>rfl
  |cons h t ih=>rw[tj,tj,ih,h.1]
theorem KV.repl{kvs:List (κ×V)}{vs:List (κ×ah)}(r:KV kvs vs)(k:κ)(ry:cR y u):
    KV (kvs.map λkv=>if kv.1=k then (kv.1,y) else kv) (vs.map λkv=>if kv.1=k then (kv.1,u) else kv):=by
  unfold KV at r ⊢;induction r with
  |nil=>exact .nil
  | @cons p q ps qs h t ih=>
    rw[de,de];refine .cons ?_ ih;obtain⟨h1,h2⟩:=h;by_cases e:p.1=k
    . rw[ZE e,ZE (h1.symm.trans e)];exact⟨h1,ry⟩
    . rw[Zg e,Zg (λz=>e (h1.trans z))];exact⟨h1,h2⟩
theorem KV.put{kvs:List (κ×V)}{vs:List (κ×ah)}(r:KV kvs vs)(k:κ)(ry:cR y u):KV (rX kvs k y) (stored vs k u):=by
  unfold rX stored;rw[r.any k];by_cases e:(vs.any λkv=>decide (kv.1=k))=aj
  . rw[ZE e,ZE e];exact r.repl k ry
  . rw[Zg e,Zg e];exact Paired.snoc r ⟨rfl,ry⟩
theorem KV.length{kvs:List (κ×V)}{vs:List (κ×ah)}(r:KV kvs vs):kvs.length=vs.length:=Paired.length r
end
theorem E9{k:cF}(r:cR (kV k) u):(eT P w).is k u=aj:=by
  cases k with
  |inl i=>obtain⟨t,e⟩:=(show ∃t,u=Value.int i t from r);subst e;exact Bj P w i t
  |inr x=>obtain⟨t,e⟩:=(show ∃t,u=Value.str x t from r);subst e;exact Bi P w x t
theorem yG{P:ay}{w:bz}:∀{ks:List cF} {us:List ah},bU (ks.map kV) us->ItemsAre (eT P w) ks us
  | [],_,r=>by rw[zj] at r;cases r;exact .nil
  |k::ks,_,r=>by
    rw[de] at r;cases r with
    |cons h t=>exact .cons (E9 h) (yG t)
noncomputable abbrev KT(H:Hp):List (List cF×V)->List (List cF×af×ah)->Prop:=Paired λp q=>p.1=q.1/\H q.2.1=aa (.tup (p.1.map kV))/\cR p.2 q.2.2
variable {xs:List (List cF×af×ah)}
theorem KT.val(r:KT H kvs xs)(k:List cF):pT (nG kvs k) ((Wr xs k).map (·.2)):=by
  induction r with
  |nil=>exact mh
  | @cons p q ps qs h t ih=>
    obtain⟨h1,_,h2⟩:=h;by_cases e:p.1=k
    . have e':q.1=k:=h1.symm.trans e;have b:Wr (q::qs) k=aa q.2:=by simp[Wr,wg,e']
      rw[rC e,b];exact h2
    . have e':¬q.1=k:=λz=>e (h1.trans z);have b:Wr (q::qs) k=Wr qs k:=by simp[Wr,wg,e']
      rw[rE e,b];exact ih
theorem KT.repl(r:KT H kvs xs)(k:List cF)(ry:cR y u):
    KT H (kvs.map λkv=>if kv.1=k then (kv.1,y) else kv) (xs.map (putAt k u)):=by
  induction r with
  |nil=>exact .nil
  | @cons p q ps qs h t ih=>
    rw[de,de];refine .cons ?_ ih;obtain⟨h1,h2,h3⟩:=h;unfold putAt;by_cases e:p.1=k
    . rw[ZE e,ZE (h1.symm.trans e)];exact⟨h1,h2,ry⟩
    . rw[Zg e,Zg (λz=>e (h1.trans z))];exact⟨h1,h2,h3⟩
theorem KT.put(r:KT H kvs xs)(k:List cF)(hb:H b=aa (.tup (k.map kV)))(ry:cR y u):
    KT H (rX kvs k y) (YY xs k b u):=by
  have e:(kvs.any λkv=>decide (kv.1=k))=(Wr xs k).isSome:=by
    rw[Ak,(r.val k).isSome_eq,isSome_map]
  unfold rX YY;rw[e];by_cases q:(Wr xs k).isSome=aj
  . rw[ZE q,ZE q];exact r.repl k ry
  . rw[Zg q,Zg q];exact Paired.snoc r ⟨rfl,hb,ry⟩
theorem KT.keeps(r:KT H kvs xs)(ht:∀b ys,H b=aa (.tup ys)->H' b=aa (.tup ys)):KT H' kvs xs:=
  Paired.mapP r λ_ _ z=>⟨z.1,ht _ _ z.2.1,z.2.2⟩
variable {ep:Nat}
theorem L1{u:HO}(ok:lR P w H h)(e:Rd H a u):cK P w H h a u:=e.ok ok
theorem C9{kvs:List (cF×V)}(ok:lR P w H h)(e:Rd H a (.dK kvs)):kvs.length<=bv/\(a==jj)=ao /\ ∃vs,KV kvs vs/\h.DictOf (eT P w) a vs:=
  show cK P w H h a (.dK kvs) from L1 ok e
theorem Pf{kvs:List (cF×V)}(ok:lR P w H h)(e:H a=aa (.dK kvs)):kvs.length<=bv/\(a==jj)=ao /\ ∃vs,KV kvs vs/\h.DictOf (eT P w) a vs:=C9 ok (.inl e)
theorem w4{ks:List cF}(ok:lR P w H h)(e:H a=aa (.tup (ks.map kV))):(V5 (eT P w)).is h ks a:=by
  obtain⟨_,its,r,o,h1,h2,n,h3⟩:=(show cK P w H h a (.tup (ks.map kV)) from ok a _ e);exact⟨o,its.toArray,n,h1,h2,h3,by simpa using yG r⟩
theorem EN(ok:lR P w H h)(e:Rd H a (.dT ep kvs)):kvs.length<=bv/\(a==jj)=ao /\
    ∃xs,KT H kvs xs/\h.DictOfH (V5 (eT P w)) a xs:=by
  obtain⟨z,y,xs,r,o,es,h1,h2,h3,h4,h5⟩:=(show cK P w H h a (.dT ep kvs) from L1 ok e);refine⟨z,y,xs,r,o,es,ep,h1,h2,h3,h4,λx hx=>?_,h5⟩;have all:∀{l:List (List cF×V)} {m:List (List cF×af×ah)},KT H l m -> ∀x∈m,(V5 (eT P w)).is h x.1 x.2.1:=by
    intro l m q;induction q with
    |nil=>intro x hx;exact nomatch hx
    | @cons p q ps qs hq t ih=>
      intro x hx;rcases dm.mp hx with e | hx
      . subst e;exact w4 ok (by rw[<- hq.1];exact hq.2.1)
      . exact ih x hx
  exact all r x hx
theorem LL(ok:lR P w H h)(e:H a=aa (.dT ep kvs)):kvs.length<=bv/\(a==jj)=ao /\
    ∃xs,KT H kvs xs/\h.DictOfH (V5 (eT P w)) a xs:=EN ok (.inl e)
noncomputable def wU(H:Hp)(a:af)(y:V)(r:Option V):Prop:=
  (∃kvs k,Rd H a (.dK kvs)/\y=kV k/\r=nG kvs k) \/ ∃ep kvs k b,Rd H a (.dT ep kvs)/\y=.ref b/\H b=aa (.tup (k.map kV))/\r=nG kvs k
noncomputable def Ii(H:Hp)(a:af)(y v:V)(R:Hp->Prop):Prop:=
  (∃kvs k,H a=aa (.dK kvs)/\y=kV k/\kvs.length<bv/\R (upd H a (.dK (rX kvs k v)))) \/
  ∃ep kvs k b,H a=aa (.dT ep kvs)/\y=.ref b/\H b=aa (.tup (k.map kV))/\kvs.length<bv /\ ∀ep',R (upd H a (.dT ep' (rX kvs k v)))
theorem wU.k{H:Hp}{a:af}{kvs:List (cF×V)}{k:cF}(e:H a=aa (.dK kvs)):wU H a (kV k) (nG kvs k):=.inl ⟨kvs,k,.inl e,rfl,rfl⟩
theorem wU.t{k:List cF}(e:H a=aa (.dT ep kvs))(eb:H b=aa (.tup (k.map kV))):wU H a (.ref b) (nG kvs k):=.inr ⟨ep,kvs,k,b,.inl e,rfl,eb,rfl⟩
theorem Ii.t{k:List cF}{R:Hp->Prop}(e:H a=aa (.dT ep kvs))(eb:H b=aa (.tup (k.map kV)))(hl:kvs.length<bv)(r:∀ep',R (upd H a (.dT ep' (rX kvs k v)))):Ii H a (.ref b) v R:=.inr ⟨ep,kvs,k,b,e,rfl,eb,hl,r⟩
variable {Q:ah->ai->Prop}{r:ah}
theorem Inv.big(I:Inv X pk σ H s):jj<s.heap.objs.size:=by
  have h:jq<s.heap.objs.size:=(I.mod.glob.keeps I.bk).lt;exact YZ ∅ h
theorem Fo(hu:A.units+1<jx)(I:Inv X pk σ H s)(g:wU H a y (aa v))(ry:cR y u)(h:∀w' s',Inv X pk σ H s'->cR v w'->Q w' s'):
    bu (cf X.prog X.w) A (WT (.ref a) u) Q E s:=by
  rcases g with⟨kvs,k,e,ey,l⟩ | ⟨_,kvs,k,b,e,ey,eb,l⟩
  . subst ey;obtain⟨z,hd,vs,rel,dd⟩:=C9 I.hok e;obtain⟨w',hw,rw'⟩:=pT.some_of (v:=v) (o:=Wg vs k) (by rw[l];exact rel.val k);exact wpAny_getItem_of (E9 ry) dd.mapOf hw (h w' _ (I.tok _) rw')
  . subst ey;cases (show u=Value.ref b from ry);obtain⟨z,hd,xs,rel,dd⟩:=EN I.hok e;obtain⟨w',hw,rw'⟩:=pT.some_of (v:=v) (o:=(Wr xs k).map (·.2)) (by rw[l];exact rel.val k);obtain⟨p,hp,hp2⟩:=Vz.mp hw;refine wpAny_getItem_heap (ut hu) (w4 I.hok eb) dd hp ?_;rw[hp2];exact h w' _ (I.tok _) rw'
theorem TV(hu:A.units+1<jx)(I:Inv X pk σ H s)(g:wU H a y o)(ry:cR y u)(h:∀s',Inv X pk σ H s'->Q (.bool o.isSome) s'):
    bu (cf X.prog X.w) A (fv .In u (.ref a)) Q E s:=by
  rcases g with⟨kvs,k,e,ey,l⟩ | ⟨_,kvs,k,b,e,ey,eb,l⟩
  . subst ey;obtain⟨z,hd,vs,rel,dd⟩:=C9 I.hok e;refine wpAny_in_of (E9 ry) hd dd.mapOf ?_;rw[<- (rel.val k).isSome_eq,<- l];exact h _ (I.tok _)
  . subst ey;cases (show u=Value.ref b from ry);obtain⟨z,hd,xs,rel,dd⟩:=EN I.hok e;refine wpAny_in_heap (ut hu) (w4 I.hok eb) hd dd ?_;have q:=(rel.val k).isSome_eq;rw[isSome_map] at q;rw[<- q,<- l];exact h _ (I.tok _)
theorem uT(I:Inv X pk σ H s)(mu:Fx (H a))(hs:oz a s.heap h')(he:∃q,h'.get? a=aa q)(new:cK X.prog X.w (upd H a ob) h' a ob):
    Inv X pk σ (upd H a ob) { s with heap:=h',toks:=t' }:=
  I.write (x:=a) (e:=a) mu (.inl rfl) (λb q hb z=>(hs.2 b hb).trans z) he new
theorem NC{kvs:List (cF×V)}{vs:List (cF×ah)}(z:kvs.length<=bv)(hd:(a==jj)=ao)(rel:KV kvs vs)(dd:h'.DictOf (eT P w) a vs):
    cK P w H' h' a (.dK kvs):=⟨z,hd,vs,rel,dd⟩
theorem Fm{R:Hp->Prop}{Q:Unit->ai->Prop}(hu:A.units+1<jx)(I:Inv X pk σ H s)(g:Ii H a y v R)(ry:cR y u)(rv:cR v r)(h:∀H' s',R H'->Inv X pk σ H' s'->Q () s'):
    bu (cf X.prog X.w) A (setItem (.ref a) u r) Q E s:=by
  rcases g with⟨kvs,k,e,ey,l,eH⟩ | ⟨ep0,kvs,k,b,e,ey,eb,l,eH⟩
  . subst ey;obtain⟨z,hd,vs,rel,dd⟩:=Pf I.hok e;have hz:vs.length<=bv:=by rw[<- rel.length];exact z
    have hl:(rX kvs k v).length<=bv:=by have:=tT kvs k v;right
    refine wpAny_setItem_pairs (hsz:=hz) (E9 ry) dd λh' dd' hs=>h _ _ eH ?_;have he:∃q,h'.get? a=aa q:=let ⟨q,_,_,hq,_⟩:=dd';⟨q,hq⟩;exact uT I (by rw[e];exact mh) hs he (NC hl hd (rel.put k rv) dd')
  . subst ey;cases (show u=Value.ref b from ry);obtain⟨z,hd,xs,rel,dd⟩:=LL I.hok e;have hz:xs.length<=bv:=by rw[<- Paired.length rel];exact z
    have hl:(rX kvs k v).length<=bv:=by have:=tT kvs k v;right
    refine WF (hsz:=hz) (ut hu) (w4 I.hok eb) dd λh' dd' hs=>?_;obtain⟨q,es,ep,hq,h2,h3,h4,_,h5⟩:=dd';refine h _ _ (eH ep) ?_;refine uT I (by rw[e];exact mh) hs ⟨q,hq⟩ ⟨hl,hd,_,(rel.put k eb rv).keeps λc ys ec=>?_,q,es,hq,h2,h3,h4,h5⟩;rw[bB (LB ec e (λz=>nomatch z))];exact ec
section
variable {kvs:List (cF×V)}{k:cF}
theorem Pg(I:Inv X pk σ H s)(e:Rd H a (.dK kvs))(h:∀t s',Inv X pk σ H s'->Q (.int kvs.length t) s'):bu (cf X.prog X.w) A (call (.builtin "len") [.ref a]) Q E s:=by
  obtain⟨z,hd,vs,rel,dd⟩:=C9 I.hok e;refine call_len_dict hd dd (by rw[<- rel.length];rw[ke] at z;right) ?_;rw[<- rel.length];exact h _ _ (I.tok _)
end
theorem CA(I:Inv X pk σ H s)(g:wU H a y o):s.TypeIs (.ref a) "dict" := by
  rcases g with⟨kvs,k,e,_,_⟩ | ⟨_,kvs,k,b,e,_,_,_⟩
  . obtain⟨_,_,vs,_,dd⟩:=C9 I.hok e;exact dd.typeIs
  . obtain⟨_,_,xs,_,dd⟩:=EN I.hok e;exact dd.typeIs
noncomputable def O6(td ty tv:TE):TS:=λD σ H=>tv σ H λv H1=>td σ H1 λx H2=>ty σ H2 λy H3=>∃a,x=.ref a/\Ii H3 a y v (D.nx σ)
variable {ZM:Expr}{ZT:lv}{td tv:TE}
section
variable {o i:Expr}{pos tpos:lv}{ty:TE}
theorem JR(hu:X.A.units+1<jx)(ho:PE X o td)(hi:PE X i ty)(hv:PE X ZM tv)(hs:ix ZM (aa (.Subscript o i ZT)) pos.line X.env=jo ao):
    PS X (.Assign [.Subscript o i ZT] ZM pos) (O6 td ty tv):=by
  intro pk s σ H D I h;refine Vt (thn (hv pk s σ H _ I h) λr s1 ⟨v,H1,I1,rv,q1⟩=>thn (ho pk s1 σ H1 _ I1 q1) λu s2 ⟨x,H2,I2,rx,q2⟩=>thn (hi pk s2 σ H2 _ I2 q2) λiv s3 ⟨y,H3,I3,ry,a,ex,g⟩=>?_) hs;subst ex;obtain rfl:u=Value.ref a:=rx;exact Fm hu I3 g ry rv λH4 s4 q3 I4=>⟨σ,H4,I4,q3⟩
end
theorem IM(h:dq)(hb:jj<h.objs.size):cK P w H (h.push { cls:=.type "dict",data:=.dict #[] }) h.objs.size (.dT 0 []):=
  ⟨oj _,beq_eq_false_iff_ne.mpr (Ne.symm (gq hb)),[],.nil,_,#[],cm _ rfl,⟨rfl,rfl,rfl⟩,rfl,rfl,YK⟩
noncomputable def Ld:TE:=λ_ H Q=>∀p,H p=ar->Q (.ref p) (upd H p (.dT 0 []))
section
variable {pos:lv}
theorem Gj:PE X (.Dict [] [] pos) Ld:=λpk s σ H Q I h=>
  Xk ⟨.ref s.heap.objs.size,_,I.laid (a:=s.heap.objs.size) (o:=.dT 0 []) (t':=s.toks) (λ_ _ q=>aq _ q) (bt _) (IM s.heap I.big),rfl,h _ (I.hok.fresh (bt _))⟩
end
section
variable {d:V}
end
section
variable {o f:Expr}{ZQ:lv}{ty tx:TE}
end
section
variable {kvs:List (cF×V)}
end
theorem Ng:fP X (.builtin "len") (λxs H Q=>∃a kvs,xs=[V.ref a]/\H a=aa (.dK kvs)/\Q (.int kvs.length) H):=by
  intro pk s σ H xs us Q I r h;obtain⟨a,kvs,rfl,ha,q⟩:=h;obtain⟨u,rfl,ru⟩:=kK r;cases ru;exact Pg I (.inl ha) λt s' I'=>⟨.int kvs.length,H,I',⟨t,rfl⟩,q⟩
section
variable [DecidableEq κ]
end
noncomputable abbrev Tk:=Int×Int×List Int
noncomputable def gJ(prog:ay)(w:bz)(h:dq)(k:Tk)(a:af):Prop:=
  ∃(o:jv) (t u:ZD) (c:af) (n:Nat),h.get? a=aa o/\o.cls=.type "tuple" /\ o.data=.seq #[.int k.1 t,.int k.2.1 u,.ref c] n/\IsTupleKey (Y1 prog w) h k.2.2 c
theorem gJ.ty{k:Tk}(x:gJ prog w s.heap k a):s.TypeIs (.ref a) "tuple" := let ⟨o,_,_,_,_,g,c,_⟩:=x;⟨o,g,c⟩
noncomputable def rJ(k:Tk):Int:=Vu (kg [zd k.1,zd k.2.1,Vu (kg (k.2.2.map zd))])
theorem Ea{k:Tk}{Q:Int->ai->Prop}(hu:A.units+1<jx)(x:gJ prog w s.heap k a)(h:Q (rJ k) { s with toks:=s.toks+(k.2.2.length+4) }):bu (cf prog w) A (pyHash (.ref a)) Q E s:=by
  have ty:=x.ty;obtain⟨o,t,u,c,n,g,_,d,i⟩:=x;unfold pyHash
  first | unfold pyHashByItsType | skip
  first | refine ae (wpAny_cRoomFor_or (.inr (WY hu)) ?_) | skip
  refine ae (uq ty vf.lookup ?_);refine(show bu _ _ (ite ((aa (Ws "tuple.__hash__")==aa gg)=aj) _ _) Q E s from ?_);rw[Zg (by rw[beq_builtin_none];exact jl)];refine ae (uq ty vf.lookup (ae (m:=callSpecialIfBoundUnlessNone? (.ref a) "__hash__" _) (wpAny_callSpecialIfBoundUnlessNone?_slot ty vf (gf vf ty F.entry_tuple_hash ?_ (F.args_tuple_hash_1 _)))));refine ae (m:=yc (.ref a)) (yh g d (ae ?_));rw[<- WZ];simp only[Vk,Xa];refine ae (ae (V4 (ak ?_)));refine ae (ae (V4 (ak ?_)));refine ae (ae (wpAny_pyHash_tuple (knd:=Y1 prog w) hu i (ak (ak ?_))));refine(show bu _ _ (retInt (kg [zd k.1,zd k.2.1,Vu (kg (k.2.2.map zd))])) _ _ _ from ?_);unfold rJ Vu at h;unfold Vu;generalize hZ:kg [zd k.1,zd k.2.1,_]=z at h ⊢;refine wpAny_ret_mkInt ?_;refine(show bu _ _ (ite ((decide (-(2:Int) ^ 63<=z)&&decide (z<2 ^ 63))=aj) _ _) Q E _ from ?_);have et:s.toks+1+1+(k.2.2.length+1)+1=s.toks+(k.2.2.length+4):=⋯;by_cases c1:(decide (-(2:Int) ^ 63<=z)&&decide (z<2 ^ 63))=aj
  . rw[ZE c1] at h ⊢;exact ak (by simpa [et] using h)
  . rw[Zg c1] at h ⊢;exact ae (mf (ak (by simpa [et] using h)))
theorem z7{x y:Tk}{P:Fin->ai->Prop}(hu:A.units<jx)(hx:gJ prog w s.heap x a)(hy:gJ prog w s.heap y b)(h:P (.done (.ret (.bool (decide (x=y))))) s):
    bu (cf prog w) A (sr.«tuple.__eq__» ⟨[.ref a,.ref b],[]⟩) P E s:=by
  have ty:=hy.ty;obtain⟨o,t,u,c,n,g,_,d,i⟩:=hx;obtain⟨o2,t2,u2,c2,n2,g2,_,d2,i2⟩:=hy;refine ae (m:=xq (.ref b) (.type "tuple")) (jm ty vq ?_);simp only[Uy,eo,if_false];refine ae (yh g d (ae (yh g2 d2 (ae ?_))));simp only[List.zip_cons_cons,List.zip_nil_right,Vk,Xa];have no:x≠y->P (.done (.ret (.bool ao))) s:=λe=>by rw[decide_eq_false e] at h;exact h
  refine ae (ae (wb ?_));by_cases e1:x.1=y.1
  . rw[beq_iff_eq.mpr e1];refine ak (ae (ae (wb ?_)));by_cases e2:x.2.1=y.2.1
    . rw[beq_iff_eq.mpr e2];refine ak (ae (ae (wpAny_eqBool_tuple hu i i2 ?_)));by_cases e3:x.2.2=y.2.2
      . rw[decide_eq_true e3];rw[decide_eq_true (Prod.ext e1 (Prod.ext e2 e3))] at h;exact ak (ak (ak h))
      . rw[decide_eq_false e3];exact ae (ak (ak (ak (ak (no λz=>e3 (by rw[z]))))))
    . rw[beq_eq_false_iff_ne.mpr e2];exact ae (ak (ak (ak (ak (no λz=>e2 (by rw[z]))))))
  . rw[beq_eq_false_iff_ne.mpr e1];exact ae (ak (ak (ak (ak (no λz=>e1 (by rw[z]))))))
theorem gJ.inj{h:dq}{a:af}{x y:Tk}(hx:gJ prog w h x a)(hy:gJ prog w h y a):x=y:=by
  obtain⟨o,t,u,c,n,g,_,d,i⟩:=hx;obtain⟨o2,t2,u2,c2,n2,g2,_,d2,i2⟩:=hy;rw[g] at g2;cases g2;rw[d] at d2;simp only[Data.seq.injEq,Array.mk.injEq,wu,Value.int.injEq,Value.ref.injEq] at d2;obtain⟨⟨⟨e1,_⟩,⟨e2,_⟩,e3,_⟩,_⟩:=d2;subst e3;exact Prod.ext e1 (Prod.ext e2 (i.inj i2))
theorem Ix{x y:Tk}{Q:Bool->ai->Prop}(hu:A.units+1<jx)(hx:gJ prog w s.heap x a)(hy:gJ prog w s.heap y b)(h:Q (decide (x=y)) s):bu (cf prog w) A (eqBool (.ref a) (.ref b)) Q E s:=by
  unfold eqBool
  try with_reducible refine jf ?_
  refine(show bu _ _ (ite ((Value.ref a==Value.ref b)=aj) _ _) Q E s from ?_);by_cases ab:(Value.ref a==Value.ref b)=aj
  . rw[ZE ab];have e:a=b:=by have:=YJ ab;injection this
    subst e;obtain rfl:=hx.inj hy;exact ae (mf (ak (by simpa using h)))
  . rw[Zg ab];exact ae (wpAny_richCompare_same_room (op:=.Eq) hx.ty hy.ty wv (gf wv hx.ty F.entry_tuple_eq (z7 hu hx hy ⟨_,rfl,(λe=>nomatch e),io h⟩) (F.args_tuple_eq_2 _ _)) (WY hu))
theorem gJ.keeps{h h':dq}{k:Tk}{a d:af}{o:jv}{es:Array lj}{ep:Nat}(x:gJ prog w h k a)(ho:h.get? d=aa o)(hd:o.data=.dict es ep)(hs:oz d h h'):gJ prog w h' k a:=by
  obtain⟨o2,t,u,c,n,g,cl,d2,i⟩:=x;have ne:a≠d:=by
    rintro rfl;rw[g] at ho;cases ho;rw[hd] at d2;cases d2
  exact⟨o2,t,u,c,n,(hs.2 a ne).trans g,cl,d2,i.keeps ho hd hs⟩
theorem Br{Q:Bool->ai->Prop}(hk:IsTupleKey (Y1 prog w) s.heap ks a)(h:Q aj s):bu (cf prog w) A (Xl 7 (.ref a)) Q E s:=by
  have ty:=hk.typeIs;obtain⟨o,its,n,g,_,d,i⟩:=hk;unfold Xl;refine ae (uq ty wv.lookup (ae (m:=xq (.ref a) (.type "tuple")) (jm ty vq ?_)));simp only[Uy,eo,if_false];refine ae (qh g d (ae ?_));refine(show bu _ _ (ZA its _ _) _ _ s from ?_);rw[<- WZ];refine wpAny_forIn_list _ (λZI r s'=>r.1=ar/\s'=s /\ ∀v∈ZI,W0 v=aj) _ (λv ZI r s' z=>?_) (λr s' z=>?_) _ _ ⟨rfl,rfl,i.byValue⟩
  . obtain⟨_,rfl,al⟩:=z;rw[zk _ (al v dk)];refine ae (ak ?_);simp only[Uy,eo,if_false];exact ak ⟨rfl,rfl,λy hy=>al y (dg _ hy)⟩
  . obtain⟨r1,r2⟩:=r;obtain⟨hr,rfl,_⟩:=z;cases hr;exact ak h
theorem CZ{k:Tk}{Q:Bool->ai->Prop}(hk:gJ prog w s.heap k a)(h:Q aj s):bu (cf prog w) A (Xl 8 (.ref a)) Q E s:=by
  have ty:=hk.ty;obtain⟨o,t,u,c,n,g,_,d,i⟩:=hk;unfold Xl;refine ae (uq ty wv.lookup (ae (m:=xq (.ref a) (.type "tuple")) (jm ty vq ?_)));simp only[Uy,eo,if_false];refine ae (qh g d (ae ?_));refine(show bu _ _ (ZA (#[Value.int k.1 t,Value.int k.2.1 u,Value.ref c]:Array ah) _ _) _ _ s from ?_);rw[<- WZ];simp only[Vk,Xa];rw[zk _ (show W0 (Value.int k.1 t)=aj from rfl),zk _ (show W0 (Value.int k.2.1 u)=aj from rfl)];refine ae (ae (ak (ak ?_)));refine ae (ae (ak (ak ?_)));exact ae (ae (Br i (ak (ak (ak h)))))
noncomputable def v4(prog:ay)(w:bz):Zj prog w Tk where
  is:=gJ prog w
  hash:=rJ
  draws:=λk=>k.2.2.length+4
  room:=λA=>A.units+1<jx
  inj:=λhx hy=>hx.inj hy
  keeps:=λx ho hd hs=>x.keeps ho hd hs
  pyHash:=λhu hk h=>Ea hu hk h
  eqBool:=λhu hx hy h=>Ix hu hx hy h
  quiet:=λhk h=>CZ hk h
noncomputable abbrev T7(x:Tk×af):lj:=⟨rJ x.1,.ref x.2,.bool aj⟩
noncomputable def ndict(a:af)(xs:List (Tk×af)):dq->Prop:=λh=>xs.length<=bv/\(a==jj)=ao /\ ∃o es ep,h.get? a=aa o/\o.ExactDict/\o.data=.dict es ep/\es.toList=xs.map T7/\(xs.map (·.1)).Nodup
noncomputable abbrev HO.dN(a:af)(xs:List (Tk×af)):HO:=.ext (ndict a xs)
noncomputable def TileAt(H:Hp)(k:Tk)(b:af):Prop:=∃c,H b=aa (.tup [.int k.1,.int k.2.1,.ref c])/\H c=aa (.tup (k.2.2.map V.int))
theorem TileAt.is{k:Tk}(ok:lR P w H h)(t:TileAt H k b):gJ P w h k b:=by
  obtain⟨c,e1,e2⟩:=t;obtain⟨_,its,r,o,g,cl,n,d⟩:=(show cK P w H h b (.tup _) from ok b _ e1);obtain⟨_,its2,r2,o2,g2,cl2,n2,d2⟩:=(show cK P w H h c (.tup _) from ok c _ e2);cases r with
  |cons r1 r=>
    cases r with
    |cons r2' r=>
      cases r with
      |cons r3 r=>
        cases r;obtain⟨t1,rfl⟩:=r1;obtain⟨t2,rfl⟩:=r2';cases r3;refine⟨o,t1,t2,c,n,g,cl,d,o2,its2.toArray,n2,g2,cl2,d2,?_⟩;have all:∀{ns:List Int} {us:List ah},bU (ns.map V.int) us->ItemsAre (Y1 P w) ns us:=by
          intro ns;induction ns with
          |nil=>intro us r;cases r;exact .nil
          |cons n ns ih=>
            intro us r;cases r with
            |cons r1 r=>
              obtain⟨t,rfl⟩:=r1;exact .cons (show VR n (.int n t)=aj from by simp[VR]) (ih r)
        simpa using all r2
theorem BW{xs:List (Tk×af)}:∀h1 h2:dq,ndict a xs h1->(∀o,h1.get? a=aa o->h2.get? a=aa o)->ndict a xs h2:=λh1 h2 ⟨z,y,o,es,ep,g,r⟩ k=>⟨z,y,o,es,ep,k o g,r⟩
theorem BX{xs:List (Tk×af)}(x:ndict a xs h):cK P w H h a (.dN a xs):=by
  refine⟨x,?_,BW⟩;obtain⟨_,_,o,_,_,g,_⟩:=x;exact⟨o,g⟩
theorem BY{xs:List (Tk×af)}(ok:lR P w H h)(e:H a=aa (.dN a xs))(t:∀x∈xs,TileAt H x.1 x.2):xs.length<=bv/\(a==jj)=ao/\h.DictOfH (v4 P w) a (xs.map λx=>(x.1,x.2,.bool aj)):=by
  obtain⟨⟨z,y,o,es,ep,g,ex,d,l,nd⟩,_⟩:=(show cK P w H h a (.dN a xs) from ok a _ e);refine⟨z,y,o,es,ep,g,ex,d,?_,λx hx=>?_,?_⟩
  . rw[l,ju];rfl
  . obtain⟨p,hp,rfl⟩:=jh.mp hx;exact(t p hp).is ok
  . rw[ju];exact nd
noncomputable def hasN(xs:List (Tk×af))(k:Tk):Bool:=xs.any λx=>decide (x.1=k)
noncomputable def wY(xs:List (Tk×af))(k:Tk)(b:af):List (Tk×af):=if hasN xs k then xs else xs++[(k,b)]
noncomputable abbrev CW(x:Tk×af):Tk×af×ah:=(x.1,x.2,.bool aj)
theorem yT(xs:List (Tk×af))(k:Tk):(Wr (xs.map CW) k).isSome=hasN xs k:=by
  induction xs with
  |nil=>rfl
  |cons x r ih=>
    unfold Wr hasN at *;rw[de,wg,tj];by_cases e:x.1=k
    . simp[e]
    . simp only[decide_eq_false e,Ux];exact ih
theorem Ce(xs:List (Tk×af))(k:Tk)(b:af):YY (xs.map CW) k b (.bool aj)=(wY xs k b).map CW:=by
  unfold YY wY;rw[yT];by_cases e:hasN xs k=aj
  . rw[ZE e,ZE e,ju];refine tu λx _=>?_;unfold putAt;simp only[Function.comp_apply];split<;>rfl
  . rw[Zg e,Zg e,yi];rfl
theorem JM(xs:List (Tk×af))(k:Tk)(b:af):(wY xs k b).length<=xs.length+1:=by
  unfold wY;split
  . exact zc _
  . rw[eg];exact bt _
section
variable {xs:List (Tk×af)}{k:Tk}
theorem FA{Q:Unit->ai->Prop}(hu:A.units+2<jx)(I:Inv X pk σ H s)(e:H a=aa (.dN a xs))(t:∀x∈xs,TileAt H x.1 x.2)(tb:TileAt H k b)(hl:xs.length<bv)
    (h:∀s',Inv X pk σ (upd H a (.dN a (wY xs k b))) s'->Q () s'):bu (cf X.prog X.w) A (setItem (.ref a) (.ref b) (.bool aj)) Q E s:=by
  obtain⟨z,hd,dd⟩:=BY I.hok e t;refine WF (knd:=v4 X.prog X.w) (hsz:=by rw[bf];exact z) hu (tb.is I.hok) dd λh' dd' hs=>h _ ?_;rw[Ce] at dd';obtain⟨q,es,ep,hq,h2,h3,h4,_,h5⟩:=dd';refine uT I (by rw[e];exact mh) hs ⟨q,hq⟩ (BX ⟨ly (JM xs k b) hl,hd,q,es,ep,hq,h2,h3,?_,?_⟩)
  . rw[h4,ju];rfl
  . rw[ju] at h5;exact h5
theorem SI(hu:A.units+2<jx)(I:Inv X pk σ H s)(e:H a=aa (.dN a xs))(t:∀x∈xs,TileAt H x.1 x.2)(tb:TileAt H k b)(h:∀s',Inv X pk σ H s'->Q (.bool (hasN xs k)) s'):
    bu (cf X.prog X.w) A (fv .In (.ref b) (.ref a)) Q E s:=by
  obtain⟨z,hd,dd⟩:=BY I.hok e t;refine wpAny_in_heap (knd:=v4 X.prog X.w) hu (tb.is I.hok) hd dd ?_;rw[yT];exact h _ (I.tok _)
end
section
variable {pos:lv}{o i:Expr}{ty:TE}
noncomputable def Le:TE:=λ_ H Q=>∀p,H p=ar->Q (.ref p) (upd H p (.dN p []))
theorem Gk:PE X (.Dict [] [] pos) Le:=λpk s σ H Q I h=>
  Xk ⟨.ref s.heap.objs.size,_,I.laid (a:=s.heap.objs.size) (o:=.dN s.heap.objs.size []) (t':=s.toks) (λ_ _ q=>aq _ q) (bt _)
    (BX ⟨oj _,beq_eq_false_iff_ne.mpr (Ne.symm (gq I.big)),_,#[],0,cm _ rfl,⟨rfl,rfl,rfl⟩,rfl,rfl,YK⟩),rfl,h _ (I.hok.fresh (bt _))⟩
noncomputable def Lr(td ty tv:TE):TS:=λD σ H=>tv σ H λv H1=>v=.bl aj/\td σ H1 λx H2=>ty σ H2 λy H3=>∃a b xs k,x=.ref a/\y=.ref b/\H3 a=aa (.dN a xs)/\(∀x∈xs,TileAt H3 x.1 x.2)/\TileAt H3 k b/\xs.length<bv/\D.nx σ (upd H3 a (.dN a (wY xs k b)))
theorem Ga(hu:X.A.units+2<jx)(ho:PE X o td)(hi:PE X i ty)(hv:PE X ZM tv)(hs:ix ZM (aa (.Subscript o i ZT)) pos.line X.env=jo ao):
    PS X (.Assign [.Subscript o i ZT] ZM pos) (Lr td ty tv):=by
  intro pk s σ H D I h;refine Vt (thn (hv pk s σ H _ I h) λr s1 ⟨v,H1,I1,rv,ev,q1⟩=>thn (ho pk s1 σ H1 _ I1 q1) λu s2 ⟨x,H2,I2,rx,q2⟩=>thn (hi pk s2 σ H2 _ I2 q2) λiv s3 ⟨y,H3,I3,ry,a,b,xs,k,ex,ey,e,t,tb,hl,q3⟩=>?_) hs;subst ev ex ey;obtain rfl:u=Value.ref a:=rx;obtain rfl:iv=Value.ref b:=ry;obtain rfl:r=Vn aj:=rv;exact FA hu I3 e t tb hl λs4 I4=>⟨σ,_,I4,q3⟩
noncomputable def Rn(neg:Bool):R2:=λx y H Q=>∃a b xs k,x=.ref b/\y=.ref a/\H a=aa (.dN a xs)/\(∀x∈xs,TileAt H x.1 x.2)/\TileAt H k b/\Q (.bl (if neg then !hasN xs k else hasN xs k)) H
theorem MZ(hu:X.A.units+2<jx):lQ X (fv .In) (Rn ao):=by
  intro pk s σ H x y v u Q I rx ry h;obtain⟨a,b,xs,k,rfl,rfl,e,t,tb,q⟩:=h;cases rx;cases ry;exact SI hu I e t tb λs' I'=>⟨.bl (hasN xs k),H,I',rfl,q⟩
end
end L2
variable {xs:List (List L2.cF×L2.V)}{M F:af->Prop}{HZ:L2.Hp}
namespace Z
open L2
noncomputable abbrev St:=L2.St
inductive Dv where
 |non
 |bl (b:Bool)
 |int (i:Int)
 |str (x:bw)
 |tup (xs:List Dv)
 |lst (xs:List Dv)
 |dit (kvs:List (List cF×Dv))
 |obj (C:af) (fs:List (bw×Dv))
 |scr (ns:List Int)
 /-- an exception that was caught,of the class at C -/
 |exc (C:af) (p:Option Int)
 /-- a dict by tiles whose values are True -/
 |dns (ks:List Tk)
noncomputable def lJ:Dv->Bool
 | .lst _=>ao
 | .dit _=>ao
 | .obj _ _=>ao
 | .dns _=>ao
 | .tup xs=>flatDs xs
 |_=>aj
where flatDs:List Dv->Bool
 | []=>aj
 |d::r=>lJ d&&flatDs r
noncomputable abbrev flatDs:=lJ.flatDs
noncomputable def Kr(K:ap)(H:Hp)(a:af)(ns:List Int):Prop:=
 (∃o,H a=aa (.frz o (.lst (ns.map V.int)))) \/
  ∃(o:jv) (its:Array ah) (n:Nat),K.lookup a=aa o/\o.cls=.type "list" /\ o.dict=ar/\o.data=.seq its n/\its.size<=bv/\bU (ns.map V.int) its.toList
theorem Kr.sq(h:Kr K H a ns):gK K H a (ns.map V.int):=by
 rcases h with⟨o,h⟩ | h
 ·exact .inl (.inr ⟨o,h⟩)
 ·exact .inr h
noncomputable def u0(H:Hp):Option Int->Option af->Prop
 |none,ar=>True
 |some n,aa d=>∃od,H d=aa (.frz od (.xd [("step",.int n)]))
 |_,_=>False
theorem u0.gen(h:∀a o u,H a=aa (.frz o u)->H' a=aa (.frz o u)):∀{p:Option Int} {d:Option af},u0 H p d->u0 H' p d
 |none,ar,z=>z
 |some _,aa _,⟨od,z⟩=>⟨od,h _ _ _ z⟩
 |none,aa _,z=>z.elim
 |some _,ar,z=>z.elim
noncomputable def LU(H:Hp)(a C:af)(p:Option Int):Prop:=∃o u,H a=aa (.frz o u)/\o.cls=.ref C/\u0 H p o.dict/\n6 o
noncomputable def Tc(H:Hp)(a:af)(ks:List Tk):Prop:=∃xs,H a=aa (.dN a xs)/\ks=xs.map (·.1) /\ ∀x∈xs,TileAt H x.1 x.2
mutual
inductive Rep(K:ap)(M:af->Prop)(H:Hp):V->Dv->Prop
 |non:Rep K M H .non .non
 |bl (b:Bool):Rep K M H (.bl b) (.bl b)
 |int (i:Int):Rep K M H (.int i) (.int i)
 |str (x:bw):Rep K M H (.str x) (.str x)
 |tup {a:af} {xs:List V} {ds:List Dv}:H a=aa (.tup xs)->Reps K M H xs ds->Rep K M H (.ref a) (.tup ds)
 |lst {a:af} {xs:List V} {ds:List Dv}:H a=aa (.lst xs) -> ¬M a->Reps K M H xs ds->Rep K M H (.ref a) (.lst ds)
 |dit {a:af} {ep:Nat} {kvs:List (List cF×V)} {ds:List (List cF×Dv)}:H a=aa (.dT ep kvs) -> ¬M a->RepT K M H kvs ds->Rep K M H (.ref a) (.dit ds)
 |obj {a C dx:af} {fs:List (bw×V)} {ds:List (bw×Dv)}:H a=aa (.ins C dx fs) -> ¬M a->RepF K M H fs ds->Rep K M H (.ref a) (.obj C ds)
 |scr {a:af} {ns:List Int}:Kr K H a ns->Rep K M H (.ref a) (.scr ns)
 |exc {a C:af} {p:Option Int}:LU H a C p->Rep K M H (.ref a) (.exc C p)
 |dns {a:af} {ks:List Tk}:Tc H a ks -> ¬M a->Rep K M H (.ref a) (.dns ks)
inductive Reps(K:ap)(M:af->Prop)(H:Hp):List V->List Dv->Prop
 |nil:Reps K M H [] []
 |cons {x:V} {d:Dv} {xs:List V} {ds:List Dv}:Rep K M H x d->Reps K M H xs ds->Reps K M H (x::xs) (d::ds)
inductive RepT(K:ap)(M:af->Prop)(H:Hp):List (List cF×V)->List (List cF×Dv)->Prop
 |nil:RepT K M H [] []
 |cons {k:List cF} {x:V} {d:Dv} {xs:List (List cF×V)} {ds:List (List cF×Dv)}:Rep K M H x d->RepT K M H xs ds->RepT K M H ((k,x)::xs) ((k,d)::ds)
inductive RepF(K:ap)(M:af->Prop)(H:Hp):List (bw×V)->List (bw×Dv)->Prop
 |nil:RepF K M H [] []
 |cons {k:bw} {x:V} {d:Dv} {xs:List (bw×V)} {ds:List (bw×Dv)}:Rep K M H x d->RepF K M H xs ds->RepF K M H ((k,x)::xs) ((k,d)::ds)
end
structure Gen(K:ap)(M M':af->Prop)(H H':Hp):Prop where
 l:∀a o,H a=aa o->Fx (aa o) -> ¬M a->H' a=aa o /\ ¬M' a
 t:∀a xs,H a=aa (.tup xs)->H' a=aa (.tup xs)
 s:∀a ns,Kr K H a ns->Kr K H' a ns
 x:∀a o u,H a=aa (.frz o u)->H' a=aa (.frz o u)
variable {ds:List Dv}{o:HO}{M':af->Prop}{H'':Hp}
section
variable {M'':af->Prop}
theorem Reps.ind{P:List V->List Dv->Prop}(h0:P [] [])(h1:∀(x:V) (d:Dv) (xs:List V) (ds:List Dv),Rep K M H x d->Reps K M H xs ds->P xs ds->P (x::xs) (d::ds)){xs:List V}(r:Reps K M H xs ds):P xs ds:=
 Reps.rec (motive_1:=λ_ _ _=>True) (motive_2:=λxs ds _=>P xs ds) (motive_3:=λ_ _ _=>True) (motive_4:=λ_ _ _=>True) trivial (λ_=>trivial) (λ_=>trivial) (λ_=>trivial) (λ_ _ _=>trivial) (λ_ _ _ _=>trivial) (λ_ _ _ _=>trivial) (λ_ _ _ _=>trivial) (λ_=>trivial) (λ_=>trivial) (λ_ _=>trivial) h0 (λa r _ ih=>h1 _ _ _ _ a r ih) trivial (λ_ _ _ _=>trivial) trivial (λ_ _ _ _=>trivial) r
theorem RepT.ind{P:List (List cF×V)->List (List cF×Dv)->Prop}(h0:P [] [])(h1:∀(k:List cF) (x:V) (d:Dv) (xs:List (List cF×V)) (ds:List (List cF×Dv)),Rep K M H x d->RepT K M H xs ds->P xs ds->P ((k,x)::xs) ((k,d)::ds)){ds:List (List cF×Dv)}(r:RepT K M H xs ds):P xs ds:=
 RepT.rec (motive_1:=λ_ _ _=>True) (motive_2:=λ_ _ _=>True) (motive_3:=λxs ds _=>P xs ds) (motive_4:=λ_ _ _=>True) trivial (λ_=>trivial) (λ_=>trivial) (λ_=>trivial) (λ_ _ _=>trivial) (λ_ _ _ _=>trivial) (λ_ _ _ _=>trivial) (λ_ _ _ _=>trivial) (λ_=>trivial) (λ_=>trivial) (λ_ _=>trivial) trivial (λ_ _ _ _=>trivial) h0 (λa r _ ih=>h1 _ _ _ _ _ a r ih) trivial (λ_ _ _ _=>trivial) r
theorem RepF.ind{P:List (bw×V)->List (bw×Dv)->Prop}(h0:P [] [])(h1:∀(k:bw) (x:V) (d:Dv) (xs:List (bw×V)) (ds:List (bw×Dv)),Rep K M H x d->RepF K M H xs ds->P xs ds->P ((k,x)::xs) ((k,d)::ds)){xs:List (bw×V)}{ds:List (bw×Dv)}(r:RepF K M H xs ds):P xs ds:=
 RepF.rec (motive_1:=λ_ _ _=>True) (motive_2:=λ_ _ _=>True) (motive_3:=λ_ _ _=>True) (motive_4:=λxs ds _=>P xs ds) trivial (λ_=>trivial) (λ_=>trivial) (λ_=>trivial) (λ_ _ _=>trivial) (λ_ _ _ _=>trivial) (λ_ _ _ _=>trivial) (λ_ _ _ _=>trivial) (λ_=>trivial) (λ_=>trivial) (λ_ _=>trivial) trivial (λ_ _ _ _=>trivial) trivial (λ_ _ _ _=>trivial) h0 (λa r _ ih=>h1 _ _ _ _ _ a r ih) r
theorem _root_.L2.TileAt.gen{k:Tk}(t:TileAt H k b)(ht:∀a xs,H a=aa (.tup xs)->H' a=aa (.tup xs)):TileAt H' k b:=let ⟨c,e1,e2⟩:=t;⟨c,ht _ _ e1,ht _ _ e2⟩
theorem Rep.gen(G:Gen K M M' H H'){x:V}{d:Dv}(r:Rep K M H x d):Rep K M' H' x d:=
 Rep.rec (motive_1:=λx d _=>Rep K M' H' x d) (motive_2:=λxs ds _=>Reps K M' H' xs ds) (motive_3:=λxs ds _=>RepT K M' H' xs ds) (motive_4:=λxs ds _=>RepF K M' H' xs ds)
  .non .bl .int .str (λh _ r=>.tup (G.t _ _ h) r) (λh m _ r=>.lst (G.l _ _ h trivial m).1 (G.l _ _ h trivial m).2 r) (λh m _ r=>.dit (G.l _ _ h trivial m).1 (G.l _ _ h trivial m).2 r) (λh m _ r=>.obj (G.l _ _ h trivial m).1 (G.l _ _ h trivial m).2 r) (λh=>.scr (G.s _ _ h)) (λzq4=>by obtain⟨o,u,h,z,y,m⟩:=zq4;exact .exc ⟨o,u,G.x _ _ _ h,z,y.gen G.x,m⟩) (λ⟨xs,h,e,t⟩ m=>.dns ⟨xs,(G.l _ _ h trivial m).1,e,λx hx=>(t x hx).gen G.t⟩ (G.l _ _ h trivial m).2) .nil (λ_ _ a r=>.cons a r) .nil (λ_ _ a r=>.cons a r) .nil (λ_ _ a r=>.cons a r) r
theorem Reps.gen(G:Gen K M M' H H'){xs:List V}{ds:List Dv}(r:Reps K M H xs ds):Reps K M' H' xs ds:=r.ind .nil λ_ _ _ _ a _ ih=>.cons (a.gen G) ih
theorem RepT.gen(G:Gen K M M' H H'){xs:List (List cF×V)}{ds:List (List cF×Dv)}(r:RepT K M H xs ds):RepT K M' H' xs ds:=r.ind .nil λ_ _ _ _ _ a _ ih=>.cons (a.gen G) ih
theorem RepF.gen(G:Gen K M M' H H'){xs:List (bw×V)}{ds:List (bw×Dv)}(r:RepF K M H xs ds):RepF K M' H' xs ds:=r.ind .nil λ_ _ _ _ _ a _ ih=>.cons (a.gen G) ih
theorem aO.scr(S:aO H H')(h:Kr K H a ns):Kr K H' a ns:=by
 rcases h with⟨o,h⟩ | h
 ·exact .inl ⟨o,S _ _ h⟩
 ·exact .inr h
theorem Gen.mono(S:aO H H'):Gen K M M H H':=⟨λa o h _ m=>⟨S _ _ h,m⟩,λ_ _ h=>S _ _ h,λ_ _ h=>aO.scr S h,λ_ _ _ h=>S _ _ h⟩
theorem Gen.weak(h:∀a,M' a->M a):Gen K M M' H H:=⟨λa o e _ m=>⟨e,λz=>m (h a z)⟩,λ_ _ h=>h,λ_ _ h=>h,λ_ _ _ h=>h⟩
theorem Gen.fresh{p:af}(hp:H p=ar):Gen K M (λb=>M b \/ b=p) H H:=
 ⟨λa o e _ m=>⟨e,λz=>z.elim m λz=>by rw[z,hp] at e;cases e⟩,λ_ _ h=>h,λ_ _ h=>h,λ_ _ _ h=>h⟩
theorem Gen.trans(a:Gen K M M' H H')(b:Gen K M' M'' H' H''):Gen K M M'' H H'':=
 ⟨λc o e mu m=>b.l c o (a.l c o e mu m).1 mu (a.l c o e mu m).2,λc xs h=>b.t c xs (a.t c xs h),λc ns h=>b.s c ns (a.s c ns h),λc o u h=>b.x c o u (a.x c o u h)⟩
theorem D8{p:af}{u:HO}(mu:Fx (H p))(e:H a=aa u)(n:¬Fx (aa u)):a≠p:=λz=>by
 subst z;rw[e] at mu;exact n mu
theorem Gen.write{p:af}(hM:M p)(mu:Fx (H p)):Gen K M M H (upd H p o):=by
 refine⟨λa u e _ m=>⟨?_,m⟩,λa xs h=>?_,λa ns h=>?_,λa o u h=>by rw[bB (D8 mu h λz=>z)];exact h⟩
 ·rw[bB λz=>m (by rw[z];exact hM)];exact e
 ·rw[bB (D8 mu h λz=>z)];exact h
 ·rcases h with⟨u,h⟩ | h
  ·exact .inl ⟨u,by rw[bB (D8 mu h λz=>z)];exact h⟩
  ·exact .inr h
end
theorem Rep.mono{x:V}{d:Dv}(S:aO H H')(h:Rep K M H x d):Rep K M H' x d:=h.gen (.mono S)
theorem Rep.weak{x:V}{d:Dv}(w:∀a,M' a->M a)(h:Rep K M H x d):Rep K M' H x d:=h.gen (.weak w)
theorem Reps.mono{xs:List V}{ds:List Dv}(S:aO H H')(h:Reps K M H xs ds):Reps K M H' xs ds:=h.gen (.mono S)
theorem Reps.weak{xs:List V}{ds:List Dv}(w:∀a,M' a->M a)(h:Reps K M H xs ds):Reps K M' H xs ds:=h.gen (.weak w)
theorem hV{d:Dv}(f:flatDs (d::ds)=aj):lJ d=aj/\flatDs ds=aj:=by
 have f':(lJ d&&flatDs ds)=aj:=f;rwa[dt] at f'
theorem Rep.flat{x:V}{d:Dv}(f:lJ d=aj)(r:Rep K M H x d):Rep K M' H x d:=
 Rep.rec (motive_1:=λx d _=>lJ d=aj->Rep K M' H x d) (motive_2:=λxs ds _=>flatDs ds=aj->Reps K M' H xs ds) (motive_3:=λ_ _ _=>True) (motive_4:=λ_ _ _=>True)
  (λ_=>.non) (λb _=>.bl b) (λi _=>.int i) (λx _=>.str x) (λh _ ih f=>.tup h (ih (by rw[lJ] at f;exact f))) (λ_ _ _ _ f=>by simp[lJ] at f) (λ_ _ _ _ f=>by simp[lJ] at f)
  (λ_ _ _ _ f=>by simp[lJ] at f) (λh _=>.scr h) (λh _=>.exc h) (λ_ _ f=>by simp[lJ] at f) (λ_=>.nil) (λ_ _ a r f=>.cons (a (hV f).1) (r (hV f).2)) trivial (λ_ _ _ _=>trivial) trivial (λ_ _ _ _=>trivial) r f
theorem Reps.flat{xs:List V}{ds:List Dv}(f:flatDs ds=aj)(r:Reps K M H xs ds):Reps K M' H xs ds:=
 r.ind (P:=λxs ds=>flatDs ds=aj->Reps K M' H xs ds) (λ_=>.nil) (λ_ _ _ _ a _ ih f=>.cons (a.flat (hV f).1) (ih (hV f).2)) f
theorem RepF.flat{xs:List (bw×V)}{ds:List (bw×Dv)}(f:flatDs (ds.map (·.2))=aj)(r:RepF K M H xs ds):RepF K M' H xs ds:=
 r.ind (P:=λxs ds=>flatDs (ds.map (·.2))=aj->RepF K M' H xs ds) (λ_=>.nil) (λ_ _ _ _ _ a _ ih f=>.cons (a.flat (hV f).1) (ih (hV f).2)) f
theorem RepT.flat{xs:List (List cF×V)}{ds:List (List cF×Dv)}(f:flatDs (ds.map (·.2))=aj)(r:RepT K M H xs ds):RepT K M' H xs ds:=
 r.ind (P:=λxs ds=>flatDs (ds.map (·.2))=aj->RepT K M' H xs ds) (λ_=>.nil) (λ_ _ _ _ _ a _ ih f=>.cons (a.flat (hV f).1) (ih (hV f).2)) f
theorem Reps.length{xs:List V}{ds:List Dv}(r:Reps K M H xs ds):xs.length=ds.length:=r.ind (P:=λxs ds=>xs.length=ds.length) rfl λ_ _ _ _ _ _ ih=>congrArg (· + 1) ih
theorem Reps.append{xs ys:List V}{es:List Dv}(r:Reps K M H xs ds)(s:Reps K M H ys es):Reps K M H (xs++ys) (ds++es):=r.ind (P:=λxs ds=>Reps K M H (xs++ys) (ds++es)) s λ_ _ _ _ a _ ih=>.cons a ih
theorem Reps.get{xs:List V}{d:Dv}(r:Reps K M H xs ds)(e:ds[i]?=aa d):∃x,xs[i]?=aa x/\Rep K M H x d:=
 r.ind (P:=λxs ds=>∀i,ds[i]?=aa d -> ∃x,xs[i]?=aa x/\Rep K M H x d) (λi e=>by rw[List.getElem?_nil] at e;cases e) (λx y xs ys a _ ih i e=>by
  cases i with
  |zero=>rw[qj] at e;cases e;exact⟨x,rfl,a⟩
  |succ i=>exact ih i e) i e
theorem Reps.take{xs:List V}{ds:List Dv}(n:Nat)(r:Reps K M H xs ds):Reps K M H (xs.take n) (ds.take n):=
 r.ind (P:=λxs ds=>∀n,Reps K M H (xs.take n) (ds.take n)) (λn=>by cases n<;>exact .nil) (λ_ _ _ _ a r ih n=>by cases n with
  |zero=>exact .nil
  |succ n=>exact .cons a (ih n)) n
theorem Reps.drop{xs:List V}{ds:List Dv}(n:Nat)(r:Reps K M H xs ds):Reps K M H (xs.drop n) (ds.drop n):=
 r.ind (P:=λxs ds=>∀n,Reps K M H (xs.drop n) (ds.drop n)) (λn=>by cases n<;>exact .nil) (λ_ _ _ _ a r ih n=>by cases n with
  |zero=>exact .cons a r
  |succ n=>exact ih n) n
theorem Reps.repl{xs:List V}{ds:List Dv}(h:Reps K M H xs ds):∀n:Nat,Reps K M H (aw n xs).flatten (aw n ds).flatten
 |0=>.nil
 |n+1=>by
  rw[ny,ny,ve,ve];exact h.append (Reps.repl h n)
theorem Reps.ints:∀ns:List Int,Reps K M H (ns.map V.int) (ns.map Dv.int)
 | []=>.nil
 |n::r=>.cons (.int n) (Reps.ints r)
noncomputable def fE(K:ap)(M:af->Prop)(H:Hp)(a:af):Dv->Prop
 | .lst ds=>∃xs,H a=aa (.lst xs)/\Reps K M H xs ds
 | .dit ds=>∃ep kvs,H a=aa (.dT ep kvs)/\RepT K M H kvs ds
 | .obj C ds=>∃dx fs,H a=aa (.ins C dx fs)/\RepF K M H fs ds
 | .dns ks=>Tc H a ks
 |_=>False
noncomputable def IF:Dv->Bool
 | .lst ds=>flatDs ds
 | .dit ds=>flatDs (ds.map (·.2))
 | .obj _ ds=>flatDs (ds.map (·.2))
 | .dns _=>aj
 |_=>ao
theorem fE.gen{d:Dv}(G:Gen K M M' H H')(ha:∀o,H a=aa o->H' a=aa o)(h:fE K M H a d):fE K M' H' a d:=by
 cases d with
 |lst ds=>obtain⟨xs,e,r⟩:=h;exact⟨xs,ha _ e,r.gen G⟩
 |dit ds=>obtain⟨ep,xs,e,r⟩:=h;exact⟨ep,xs,ha _ e,r.gen G⟩
 |obj C ds=>obtain⟨dx,fs,e,r⟩:=h;exact⟨dx,fs,ha _ e,r.gen G⟩
 |dns ks=>obtain⟨xs,e,k,t⟩:=h;exact⟨xs,ha _ e,k,λx hx=>(t x hx).gen G.t⟩
 |_=>exact h.elim
theorem fE.mono{d:Dv}(S:aO H H')(h:fE K M H a d):fE K M H' a d:=h.gen (.mono S) λo e=>S _ _ e
theorem fE.weak{d:Dv}(w:∀a,M' a->M a)(h:fE K M H a d):fE K M' H a d:=h.gen (.weak w) λ_ e=>e
theorem fE.flat{d:Dv}(f:IF d=aj)(h:fE K M H a d):fE K M' H a d:=by
 cases d with
 |lst ds=>obtain⟨xs,e,r⟩:=h;exact⟨xs,e,r.flat f⟩
 |dit ds=>obtain⟨ep,xs,e,r⟩:=h;exact⟨ep,xs,e,r.flat f⟩
 |obj C ds=>obtain⟨dx,fs,e,r⟩:=h;exact⟨dx,fs,e,r.flat f⟩
 |dns ks=>exact h
 |_=>exact h.elim
theorem fE.mut{d:Dv}(h:fE K M H a d):∃o,H a=aa o/\Fx (aa o):=by
 cases d with
 |lst ds=>obtain⟨xs,e,r⟩:=h;exact⟨_,e,trivial⟩
 |dit ds=>obtain⟨ep,xs,e,r⟩:=h;exact⟨_,e,trivial⟩
 |obj C ds=>obtain⟨dx,fs,e,r⟩:=h;exact⟨_,e,trivial⟩
 |dns ks=>obtain⟨xs,e,_⟩:=h;exact⟨_,e,trivial⟩
 |_=>exact h.elim
theorem fE.rep{d:Dv}(h:fE K M H a d)(m:¬M a):Rep K M H (.ref a) d:=by
 cases d with
 |lst ds=>obtain⟨xs,e,r⟩:=h;exact .lst e m r
 |dit ds=>obtain⟨ep,xs,e,r⟩:=h;exact .dit e m r
 |obj C ds=>obtain⟨dx,fs,e,r⟩:=h;exact .obj e m r
 |dns ks=>exact .dns h m
 |_=>exact h.elim
inductive Sl where
 |un
 |v (d:Dv)
 |own (a:af) (d:Dv)
noncomputable def MM(F:af->Prop)(ρ:List Sl):af->Prop:=λa=>F a \/ ∃d,Sl.own a d∈ρ
noncomputable def xN(K:ap)(M:af->Prop)(H:Hp)(o:Option (Option V)):Sl->Prop
 | .un=>True
 | .v d=>∃x,o=aa (aa x)/\Rep K M H x d
 | .own a d=>o=aa (aa (.ref a))/\fE K M H a d
noncomputable abbrev PD:Bool:=ao
noncomputable def NT(K:ap)(P:af)(q:bw):Prop:=PD=aj /\ ∃(C f:af) (o:ah) (od:Option af) (fd:jy) (sl:Array (Option ah)) (c:af) (oc:ah) (odc:Option af) (vs:Array ah) (slc:Array (Option ah)),
 W.nsIn K jq "Sides" = aa (aa (.ref C))/\jr K (.ref C) "last" = aa (aa (.ref f))/\K.lookup f=aa ⟨o,od,.func fd,sl⟩/\fd.code=.ref c/\K.lookup c=aa ⟨oc,odc,.fields vs,slc⟩/\vs[11]?=aa (.ref P) /\
 q = "Sides.last" ++ ".<locals>." ++ "<lambda>"
noncomputable def yU(K:ap)(H:Hp):Prop:=∀P q,NT K P q->H P=aa (.lam q)
structure OldF(K:ap)(F:af->Prop)(HZ:Hp):Prop where
 f:∀a,F a->HZ a≠ar
 t:yU K HZ
theorem yU.mono(t:yU K H)(S:aO H H'):yU K H':=λP q z=>S _ _ (t P q z)
structure Fr(K:ap)(HZ:Hp)(F:af->Prop)(σ:St)(H:Hp)(ρ:List Sl):Prop where
 len:σ.length=ρ.length
 sl:∀(i:Nat) (s:Sl),ρ[i]?=aa s->xN K (MM F ρ) H σ[i]? s
 nd:∀(i j:Nat) (a:af) (d d':Dv),ρ[i]?=aa (.own a d)->ρ[j]?=aa (.own a d')->i=j
 new:∀(a:af) (d:Dv),Sl.own a d∈ρ->HZ a=ar
 same:aO HZ H
 old:OldF K F HZ
variable {σ:St}{ρ:List Sl}
theorem xN.mono{o:Option (Option V)}{s:Sl}(S:aO H H')(h:xN K M H o s):xN K M H' o s:=by
 cases s with
 |un=>trivial
 |v d=>obtain⟨x,e,r⟩:=h;exact⟨x,e,r.mono S⟩
 |own a d=>exact⟨h.1,h.2.mono S⟩
theorem xN.weak{o:Option (Option V)}{s:Sl}(w:∀a,M' a->M a)(h:xN K M H o s):xN K M' H o s:=by
 cases s with
 |un=>trivial
 |v d=>obtain⟨x,e,r⟩:=h;exact⟨x,e,r.weak w⟩
 |own a d=>exact⟨h.1,h.2.weak w⟩
theorem Fr.tab(fr:Fr K HZ F σ H ρ):yU K H:=fr.old.t.mono fr.same
theorem Fr.mono(fr:Fr K HZ F σ H ρ)(S:aO H H'):Fr K HZ F σ H' ρ:=⟨fr.len,λi s e=>(fr.sl i s e).mono S,fr.nd,fr.new,fr.same.trans S,fr.old⟩
theorem Fr.at_own(fr:Fr K HZ F σ H ρ){d:Dv}(h:Sl.own a d∈ρ):∃i:Nat,ρ[i]?=aa (.own a d)/\σ[i]?=aa (aa (.ref a))/\fE K (MM F ρ) H a d:=by
 obtain⟨i,e⟩:=qk.mp h;have:=fr.sl i _ e;exact⟨i,e,this.1,this.2⟩
theorem Fr.dom(fr:Fr K HZ F σ H ρ)(m:MM F ρ a):H a≠ar:=by
 rcases m with m | ⟨d,m⟩
 ·intro e;exact fr.old.f a m (fr.same.free e)
 ·obtain⟨_,_,_,o⟩:=fr.at_own m;obtain⟨u,e,_⟩:=o.mut;rw[e];simp
theorem Fr.fresh(fr:Fr K HZ F σ H ρ)(e:H a=ar):¬MM F ρ a:=λm=>fr.dom m e
inductive R where
 |v (d:Dv)
 |ow (a:af) (d:Dv)
 |nw (d:Dv)
noncomputable def R.d:R->Dv
 | .v d=>d
 | .ow _ d=>d
 | .nw d=>d
noncomputable def R.free:R->Bool
 | .ow _ _=>ao
 |_=>aj
noncomputable def Ae(ρ:List Sl):af->Dv->Prop:=λa d=>Sl.own a d∈ρ
noncomputable def yV:af->Dv->Prop:=λ_ _=>False
noncomputable def eI(K:ap)(M:af->Prop)(O:af->Dv->Prop)(H:Hp)(x:V)(r:R)(H':Hp):Prop:=match r with
 | .v d=>Rep K M H' x d
 | .ow a d=>x=.ref a/\O a d/\fE K M H' a d
 | .nw d=>∃a,x=.ref a/\H a=ar/\fE K (λb=>M b \/ b=a) H' a d
noncomputable def eD(K:ap)(M:af->Prop)(H:Hp)(x:V)(d:Dv):Prop:=Rep K M H x d \/ ∃a,x=.ref a/\fE K M H a d
section
variable {K:ap}{M M':af->Prop}{O:af->Dv->Prop}{H H' H'':Hp}{x:V}{r:R}
theorem eI.mono(h:eI K M O H x r H')(S:aO H' H''):eI K M O H x r H'':=by
 cases r with
 |v d=>exact Rep.mono S h
 |ow a d=>exact⟨h.1,h.2.1,h.2.2.mono S⟩
 |nw d=>obtain⟨a,e,n,o⟩:=h;exact⟨a,e,n,o.mono S⟩
theorem eI.ahead(h:eI K M O H1 x r H')(S:aO H H1):eI K M O H x r H':=by
 cases r with
 |v d=>exact h
 |ow a d=>exact h
 |nw d=>obtain⟨a,e,n,o⟩:=h;exact⟨a,e,S.free n,o⟩
theorem eI.c(h:eI K M O H x r H'):eD K M H' x r.d:=by
 cases r with
 |v d=>exact .inl h
 |ow a d=>exact .inr ⟨a,h.1,h.2.2⟩
 |nw d=>obtain⟨a,e,n,o⟩:=h;exact .inr ⟨a,e,o.weak λb z=>.inl z⟩
theorem eI.rep(h:eI K M O H x r H')(hM:∀a,M a->H a≠ar)(f:r.free=aj):Rep K M H' x r.d:=by
 cases r with
 |v d=>exact h
 |ow a d=>simp[R.free] at f
 |nw d=>
  obtain⟨a,e,n,o⟩:=h;subst e;exact(o.weak λb z=>.inl z).rep λz=>hM a z n
theorem eD.lst{ds:List Dv}(h:eD K M H x (.lst ds)):∃a xs,x=.ref a/\H a=aa (.lst xs)/\Reps K M H xs ds:=by
 rcases h with h | ⟨a,e,xs,h1,h2⟩
 ·cases h with
  |lst h1 _ h2=>exact⟨_,_,rfl,h1,h2⟩
 ·exact⟨a,xs,e,h1,h2⟩
theorem eD.tup{ds:List Dv}(h:eD K M H x (.tup ds)):∃a xs,x=.ref a/\H a=aa (.tup xs)/\Reps K M H xs ds:=by
 rcases h with h | ⟨a,e,o⟩
 ·cases h with
  |tup h1 h2=>exact⟨_,_,rfl,h1,h2⟩
 ·exact o.elim
theorem eD.int{i:Int}(h:eD K M H x (.int i)):x=.int i:=by
 rcases h with h | ⟨a,e,o⟩
 ·cases h;rfl
 ·exact o.elim
theorem eD.bl{b:Bool}(h:eD K M H x (.bl b)):x=.bl b:=by
 rcases h with h | ⟨a,e,o⟩
 ·cases h;rfl
 ·exact o.elim
theorem eD.non(h:eD K M H x .non):x=.non:=by
 rcases h with h | ⟨a,e,o⟩
 ·cases h;rfl
 ·exact o.elim
theorem eD.str{s:bw}(h:eD K M H x (.str s)):x=.str s:=by
 rcases h with h | ⟨a,e,o⟩
 ·cases h;rfl
 ·exact o.elim
theorem eD.scr{ns:List Int}(h:eD K M H x (.scr ns)):∃a,x=.ref a/\Kr K H a ns:=by
 rcases h with h | ⟨a,e,o⟩
 ·cases h with
  |scr h=>exact⟨_,rfl,h⟩
 ·exact o.elim
theorem eD.dns{ks:List Tk}(h:eD K M H x (.dns ks)):∃a,x=.ref a/\Tc H a ks:=by
 rcases h with h | ⟨a,e,o⟩
 ·cases h with
  |dns h _=>exact⟨_,rfl,h⟩
 ·exact⟨a,e,o⟩
theorem eD.exc{C:af}{p:Option Int}(h:eD K M H x (.exc C p)):∃a,x=.ref a/\LU H a C p:=by
 rcases h with h | ⟨a,e,o⟩
 ·cases h with
  |exc h=>exact⟨_,rfl,h⟩
 ·exact o.elim
theorem eD.dit{ds:List (List cF×Dv)}(h:eD K M H x (.dit ds)):∃a ep kvs,x=.ref a/\H a=aa (.dT ep kvs)/\RepT K M H kvs ds:=by
 rcases h with h | ⟨a,e,ep0,xs,h1,h2⟩
 ·cases h with
  |dit h1 _ h2=>exact⟨_,_,_,rfl,h1,h2⟩
 ·exact⟨a,ep0,xs,e,h1,h2⟩
theorem eD.obj{C:af}{ds:List (bw×Dv)}(h:eD K M H x (.obj C ds)):∃a dx fs,x=.ref a/\H a=aa (.ins C dx fs)/\RepF K M H fs ds:=by
 rcases h with h | ⟨a,e,dx,fs,h1,h2⟩
 ·cases h with
  |obj h1 _ h2=>exact⟨_,_,_,rfl,h1,h2⟩
 ·exact⟨a,dx,fs,e,h1,h2⟩
end
noncomputable abbrev dE:=List Sl->(R->Prop)->Prop
noncomputable abbrev lU:=List Sl->(List R->Prop)->Prop
noncomputable abbrev nB:=List Sl->(Bool->Prop)->Prop
noncomputable def kH(K:ap)(M:af->Prop)(O:af->Dv->Prop)(H:Hp)(xs:List V)(rs:List R)(H':Hp):Prop:=Paired (λx r=>eI K M O H x r H') xs rs
noncomputable def yY(K:ap)(M:af->Prop)(H:Hp):List V->List Dv->Prop:=Paired (eD K M H)
variable {O:af->Dv->Prop}
theorem kH.ahead{xs:List V}{rs:List R}(h:kH K M O H1 xs rs H')(S:aO H H1):kH K M O H xs rs H':=Paired.mapP h λ_ _ q=>q.ahead S
theorem kH.c:∀{xs:List V} {rs:List R},kH K M O H xs rs H'->yY K M H' xs (rs.map R.d)
 |_,_,.nil=>.nil
 |_,_,.cons a t=>.cons a.c (kH.c t)
theorem kH.reps(hM:∀a,M a->H a≠ar):∀{xs:List V} {rs:List R},kH K M O H xs rs H'->rs.all R.free=aj->Reps K M H' xs (rs.map R.d)
 |_,_,.nil,_=>.nil
 |_,_,.cons a t,f=>by
  rw[Zk,dt] at f;exact .cons (a.rep hM f.1) (kH.reps hM t f.2)
inductive lift(K:ap)(HZ:Hp)(F:af->Prop)(t:dE)(σ:St)(H:Hp)(Q:VK):Prop
 |mk (ρ:List Sl) (fr:Fr K HZ F σ H ρ) (h:t ρ λr=>∀x H',aO H H'->eI K (MM F ρ) (Ae ρ) H x r H'->Q x H')
inductive liftA(K:ap)(HZ:Hp)(F:af->Prop)(t:lU)(σ:St)(H:Hp)(Q:List V->Hp->Prop):Prop
 |mk (ρ:List Sl) (fr:Fr K HZ F σ H ρ) (h:t ρ λrs=>∀xs H',aO H H'->kH K (MM F ρ) (Ae ρ) H xs rs H'->Q xs H')
inductive liftT(K:ap)(HZ:Hp)(F:af->Prop)(t:nB)(σ:St)(H:Hp)(Q:Bool->Hp->Prop):Prop
 |mk (ρ:List Sl) (fr:Fr K HZ F σ H ρ) (h:t ρ λb=>∀H',aO H H'->Q b H')
structure QE(X:Cx)(e:Expr)(t:dE):Prop where
 mono:∀(ρ:List Sl) (Q Q':R->Prop),(∀r,Q r->Q' r)->t ρ Q->t ρ Q'
 run:∀(HZ:Hp) (F:af->Prop),PE X e (lift X.K HZ F t)
structure QA(X:Cx)(es:List Expr)(t:lU):Prop where
 mono:∀(ρ:List Sl) (Q Q':List R->Prop),(∀r,Q r->Q' r)->t ρ Q->t ρ Q'
 run:∀(HZ:Hp) (F:af->Prop),PA X es (liftA X.K HZ F t)
structure QT(X:Cx)(e:Expr)(t:nB):Prop where
 mono:∀(ρ:List Sl) (Q Q':Bool->Prop),(∀r,Q r->Q' r)->t ρ Q->t ρ Q'
 run:∀(HZ:Hp) (F:af->Prop),PT X e (liftT X.K HZ F t)
structure QW(X:Cx)(e:Expr)(t:nB):Prop where
 mono:∀(ρ:List Sl) (Q Q':Bool->Prop),(∀r,Q r->Q' r)->t ρ Q->t ρ Q'
 run:∀(HZ:Hp) (F:af->Prop),PW X e (liftT X.K HZ F t)
variable {t':TT}{op:XC}{ZI:List Expr}{ta te:dE}{ts:lU}
section
variable {a b c:Expr}{tb tc:dE}{pos:lv}
theorem cY{t t':TE}(h:PE X e t)(w:∀σ H Q,t' σ H Q->t σ H Q):PE X e t':=λpk s σ H Q I q=>h pk s σ H Q I (w σ H Q q)
theorem Ig{t t':TA}(h:PA X es t)(w:∀σ H Q,t' σ H Q->t σ H Q):PA X es t':=λpos pk s σ H Q I q=>h pos pk s σ H Q I (w σ H Q q)
theorem Ad{t:TT}(h:PT X e t)(w:∀σ H Q,t' σ H Q->t σ H Q):PT X e t':=λpk s σ H Q I q=>h pk s σ H Q I (w σ H Q q)
theorem Ic{t:TT}(h:PW X e t)(w:∀σ H Q,t' σ H Q->t σ H Q):PW X e t':=λwh pk s σ H Q I q=>h wh pk s σ H Q I (w σ H Q q)
theorem QW.qt{t:nB}(h:QW X e t):QT X e t:=⟨h.mono,λHZ F=>(h.run HZ F).pt⟩
theorem QE.step{Q:R->Prop}{Q':VK}(h:QE X e te)(fr:Fr X.K HZ F σ H ρ)(q:te ρ Q)
  (k:∀r x H',Q r->aO H H'->eI X.K (MM F ρ) (Ae ρ) H x r H'->Q' x H'):lift X.K HZ F te σ H Q':=⟨ρ,fr,h.mono _ _ _ (λr qr x H' S rx=>k r x H' qr S rx) q⟩
theorem QA.step{Q:List R->Prop}{Q':List V->Hp->Prop}(h:QA X es ts)(fr:Fr X.K HZ F σ H ρ)(q:ts ρ Q)
  (k:∀rs xs H',Q rs->aO H H'->kH X.K (MM F ρ) (Ae ρ) H xs rs H'->Q' xs H'):liftA X.K HZ F ts σ H Q':=⟨ρ,fr,h.mono _ _ _ (λr qr x H' S rx=>k r x H' qr S rx) q⟩
theorem QT.step{t:nB}{Q:Bool->Prop}{Q':Bool->Hp->Prop}(h:QT X e t)(fr:Fr X.K HZ F σ H ρ)(q:t ρ Q)
  (k:∀b H',Q b->aO H H'->Q' b H'):liftT X.K HZ F t σ H Q':=⟨ρ,fr,h.mono _ _ _ (λr qr H' S=>k r H' qr S) q⟩
noncomputable def a8(i:Nat):dE:=λρ Q=>match ρ[i]? with
 |some (.v d)=>Q (.v d)
 |some (.own a d)=>Q (.ow a d)
 |_=>False
theorem a7(i:Nat){x:bw}(h:PE X (.Name x pos) (zA i)):QE X (.Name x pos) (a8 i):=by
 refine⟨λρ Q Q' w h=>?_,λHZ F=>cY h λσ H Q ⟨ρ,fr,q⟩=>?_⟩
 ·unfold a8 at *;split at h
  ·exact w _ h
  ·exact w _ h
  ·exact h
 ·unfold a8 at q;split at q
  ·rename_i d e;obtain⟨x,hx,r⟩:=fr.sl i _ e;exact⟨x,hx,q x H (aO.refl _) r⟩
  ·rename_i a d e;obtain⟨hx,r⟩:=fr.sl i _ e;exact⟨.ref a,hx,q _ H (aO.refl _) ⟨rfl,fh e,r⟩⟩
  ·exact q.elim
noncomputable def eC(d:Dv):dE:=λ_ Q=>Q (.v d)
theorem QP{v:V}{d:Dv}(h:PE X e (tC v))(r:∀M H,Rep X.K M H v d):QE X e (eC d):=
 ⟨λ_ _ _ w q=>w _ q,λHZ F=>cY h λσ H Q zq5=>by obtain⟨ρ,fr,q⟩:=zq5;exact q v H (aO.refl _) (r _ _)⟩
theorem aN{i j pos}:QE X (.Constant (.int i) j pos) (eC (.int i)):=QP MK λ_ _=>.int i
theorem n9{b j pos}:QE X (.Constant (.bool b) j pos) (eC (.bl b)):=QP Ob λ_ _=>.bl b
theorem L3{x j pos}:QE X (.Constant (.str x) j pos) (eC (.str x)):=QP MG λ_ _=>.str x
theorem rV{x:bw}{n:Int}(hm:∃t,X.mg x=aa (.int n t))(hg:autoParam (Gl X x) c8._auto_1)(hd:autoParam ((x==("__debug__" : bw))=ao) lS._auto_1):QE X (.Name x pos) (eC (.int n)):=QP (Gi hm hg hd) λ_ _=>.int n
noncomputable def aF:lU:=λ_ Q=>Q []
noncomputable def a9(te:dE)(ts:lU):lU:=λρ Q=>te ρ λr=>ts ρ λrs=>Q (r::rs)
theorem aE:QA X [] aF:=⟨λ_ _ _ w q=>w _ q,λHZ F=>Ig qE λσ H Q zq6=>by obtain⟨ρ,fr,q⟩:=zq6;exact q [] H (aO.refl _) .nil⟩
theorem aD(ha:QE X e te)(hr:QA X es ts)(hs:autoParam (av (e::es) X.env=(ao,gn e X.env)::av es X.env) c8._auto_1):QA X (e::es) (a9 te ts):=by
 refine⟨λρ Q Q' w h=>ha.mono _ _ _ (λr q=>hr.mono _ _ _ (λrs q=>w _ q) q) h,λHZ F=>Ig (iU (ha.run HZ F) (hr.run HZ F) hs) λσ H Q zz=>?_⟩;obtain⟨ρ,fr,q⟩:=zz;refine ha.step fr q λr x H1 q1 S1 r1=>?_;refine hr.step (fr.mono S1) q1 λrs xs H2 q2 S2 r2=>?_;exact q2 _ H2 (S1.trans S2) (.cons (r1.mono S2) (r2.ahead S1))
noncomputable def xO(X:Cx)(f:ah->ah->X8 ah)(p:Dv->Dv->(R->Prop)->Prop):Prop:=
 (∀dx dy (Q Q':R->Prop),(∀r,Q r->Q' r)->p dx dy Q->p dx dy Q') /\ ∃r:R2,lQ X f r /\ ∀(M:af->Prop) (O:af->Dv->Prop) (H:Hp) (x y:V) (dx dy:Dv) (Q:VK),eD X.K M H x dx->eD X.K M H y dy ->
  p dx dy (λrr=>∀z H',aO H H'->eI X.K M O H z rr H'->Q z H')->r x y H Q
noncomputable def aR(p:Dv->Dv->(R->Prop)->Prop)(ta tb:dE):dE:=λρ Q=>ta ρ λx=>tb ρ λy=>p x.d y.d Q
theorem uS{p:Dv->Dv->(R->Prop)->Prop}{r:R2}(ha:QE X a ta)(hb:QE X b tb) (hr:∀(M:af->Prop) (O:af->Dv->Prop) (H:Hp) (x y:V) (dx dy:Dv) (Q:VK),eD X.K M H x dx->eD X.K M H y dy ->
  p dx dy (λrr=>∀z H',aO H H'->eI X.K M O H z rr H'->Q z H')->r x y H Q) (mo:∀dx dy (Q Q':R->Prop),(∀r,Q r->Q' r)->p dx dy Q->p dx dy Q') (HZ:Hp) (F:af->Prop) (σ:St) (H:Hp) (Q:VK)
  (h:lift X.K HZ F (aR p ta tb) σ H Q):Nn r (lift X.K HZ F ta) (lift X.K HZ F tb) σ H Q:=by
 obtain⟨ρ,fr,q⟩:=h;refine ha.step fr q λrx x H1 q1 S1 r1=>?_;refine hb.step (fr.mono S1) q1 λry y H2 q2 S2 r2=>?_;refine hr (MM F ρ) (Ae ρ) H2 x y _ _ Q (r1.mono S2).c r2.c (mo _ _ _ _ (λrr k z H' S rz=>?_) q2);exact k z H' ((S1.trans S2).trans S) (rz.ahead (S1.trans S2))
theorem sK{p:Dv->Dv->(R->Prop)->Prop}(ha:QE X a ta)(hb:QE X b tb)(mo:∀dx dy (Q Q':R->Prop),(∀r,Q r->Q' r)->p dx dy Q->p dx dy Q')(ρ:List Sl)(Q Q':R->Prop)(w:∀r,Q r->Q' r)(h:aR p ta tb ρ Q):aR p ta tb ρ Q':=
 ha.mono _ _ _ (λrx h=>hb.mono _ _ _ (λry h=>mo _ _ _ _ w h) h) h
theorem bO{op:VU}{p:Dv->Dv->(R->Prop)->Prop}(ho:xO X (ku op) p)(ha:QE X a ta)(hb:QE X b tb):QE X (.BinOp a op b pos) (aR p ta tb):=by
 obtain⟨mo,r,hR,hr⟩:=ho;exact⟨sK ha hb mo,λHZ F=>cY (OZ hR (ha.run HZ F) (hb.run HZ F)) (uS ha hb hr mo HZ F)⟩
theorem lC{p:Dv->Dv->(R->Prop)->Prop}(ho:xO X (fv op) p)(ha:QE X a ta)(hb:QE X b tb)(hm:autoParam (uj op b=ao) To._auto_1):QE X (.Compare a [op] [b] pos) (aR p ta tb):=by
 obtain⟨mo,r,hR,hr⟩:=ho;exact⟨sK ha hb mo,λHZ F=>cY (JZ hR (ha.run HZ F) (hb.run HZ F) hm) (uS ha hb hr mo HZ F)⟩
noncomputable def bI(te:dE):nB:=λρ Q=>te ρ λr=>match r.d with
 | .bl c=>Q c
 |_=>False
theorem wH(mo:∀(ρ:List Sl) (Q Q':R->Prop),(∀r,Q r->Q' r)->te ρ Q->te ρ Q')(ρ:List Sl)(Q Q':Bool->Prop)(w:∀r,Q r->Q' r)(h:bI te ρ Q):bI te ρ Q':=by
 refine mo _ _ _ (λr q=>?_) h;split at q
 ·exact w _ q
 ·exact q.elim
theorem II{Q:Bool->Hp->Prop}(mo:∀(ρ:List Sl) (Q Q':R->Prop),(∀r,Q r->Q' r)->te ρ Q->te ρ Q')(h:liftT X.K HZ F (bI te) σ H Q):lift X.K HZ F te σ H λx H'=>∃k,x=.bl k/\Q k H':=by
 obtain⟨ρ,fr,q⟩:=h;refine⟨ρ,fr,mo _ _ _ (λr q x H' S rx=>?_) q⟩;split at q
 ·rename_i c e;have:=rx.c;rw[e] at this;exact⟨c,this.bl,q H' S⟩
 ·exact q.elim
theorem c6{p:Dv->Dv->(R->Prop)->Prop}(ho:xO X (fv op) p)(ha:QE X a ta)(hb:QE X b tb)(hm:autoParam (uj op b=ao) To._auto_1):QT X (.Compare a [op] [b] pos) (bI (aR p ta tb)):=by
 obtain⟨mo,r,hR,hr⟩:=ho;have m1:=sK ha hb mo;exact⟨wH m1,λHZ F=>Ad (JP hR (ha.run HZ F) (hb.run HZ F) hm) λσ H Q h=>uS ha hb hr mo HZ F σ H _ (II m1 h)⟩
noncomputable def xD(t u:nB):nB:=λρ Q=>t ρ λc=>if c=aj then u ρ Q else Q ao
noncomputable def Ke(t u:nB):nB:=λρ Q=>t ρ λc=>if c=aj then Q aj else u ρ Q
noncomputable def oC(t:nB):nB:=λρ Q=>t ρ λc=>Q (!c)
theorem uI{t:nB}(h:QT X a t):QW X (.BoolOp .And [a] pos) t:=⟨h.mono,λHZ F=>JI (h.run HZ F)⟩
theorem zI{t:nB}(h:QT X a t):QW X (.BoolOp .Or [a] pos) t:=⟨h.mono,λHZ F=>Lz (h.run HZ F)⟩
theorem vK{t u:nB}(h:QT X a t)(k:QW X (.BoolOp .And (b::ZI) pos) u):QW X (.BoolOp .And (a::b::ZI) pos) (xD t u):=by
 refine⟨λρ Q Q' w q=>h.mono _ _ _ (λc q=>?_) q,λHZ F=>Ic (M0 (h.run HZ F) (k.run HZ F)) λσ H Q ⟨ρ,fr,q⟩=>?_⟩
 ·split at q
  ·rw[ZE ‹_›];exact k.mono _ _ _ w q
  ·rw[Zg ‹_›];exact w _ q
 ·refine h.step fr q λc H1 q1 S1=>?_;cases c with
  |true=>
   simp only[if_true] at q1;exact uC ⟨ρ,fr.mono S1,k.mono _ _ _ (λb q H' S=>q H' (S1.trans S)) q1⟩
  |false=>
   simp only[eo,if_false] at q1;exact uD (q1 H1 S1)
theorem Dl{t u:nB}(h:QT X a t)(k:QW X (.BoolOp .Or (b::ZI) pos) u):QW X (.BoolOp .Or (a::b::ZI) pos) (Ke t u):=by
 refine⟨λρ Q Q' w q=>h.mono _ _ _ (λc q=>?_) q,λHZ F=>Ic (OV (h.run HZ F) (k.run HZ F)) λσ H Q ⟨ρ,fr,q⟩=>?_⟩
 ·split at q
  ·rw[ZE ‹_›];exact w _ q
  ·rw[Zg ‹_›];exact k.mono _ _ _ w q
 ·refine h.step fr q λc H1 q1 S1=>?_;cases c with
  |true=>
   simp only[if_true] at q1;exact uC (q1 H1 S1)
  |false=>
   simp only[eo,if_false] at q1;exact uD ⟨ρ,fr.mono S1,k.mono _ _ _ (λb q H' S=>q H' (S1.trans S)) q1⟩
theorem k8{t:nB}(h:QT X a t):QT X (.UnaryOp .Not a pos) (oC t):=
 ⟨λρ Q Q' w q=>h.mono _ _ _ (λc q=>w _ q) q,λHZ F=>Ad (M4 (h.run HZ F)) λσ H Q zq0=>by obtain⟨ρ,fr,q⟩:=zq0;exact h.step fr q λc H1 q1 S1=>q1 H1 S1⟩
noncomputable def sL(ta tb:dE):dE:=λρ Q=>ta ρ λr=>match r.d with
 | .bl c=>if c=aj then tb ρ Q else Q (.v (.bl ao))
 |_=>False
noncomputable def IJ(ta tb:dE):dE:=λρ Q=>ta ρ λr=>match r.d with
 | .bl c=>if c=aj then Q (.v (.bl aj)) else tb ρ Q
 |_=>False
noncomputable def wI(ta:dE):dE:=λρ Q=>ta ρ λr=>match r.d with
 | .bl c=>Q (.v (.bl (!c)))
 |_=>False
theorem vL{op}(h:QE X a ta):QE X (.BoolOp op [a] pos) ta:=⟨h.mono,λHZ F=>MH (h.run HZ F)⟩
theorem xW(h:QE X a ta)(k:QE X (.BoolOp .And (b::ZI) pos) tb):QE X (.BoolOp .And (a::b::ZI) pos) (sL ta tb):=by
 refine⟨λρ Q Q' w q=>h.mono _ _ _ (λc q=>?_) q,λHZ F=>cY (MN (h.run HZ F) (k.run HZ F)) λσ H Q ⟨ρ,fr,q⟩=>?_⟩
 ·split at q
  ·split at q
   ·rw[ZE ‹_›];exact k.mono _ _ _ w q
   ·rw[Zg ‹_›];exact w _ q
  ·exact q
 ·refine h.step fr q λr x H1 q1 S1 r1=>?_;split at q1
  ·rename_i c e;have rc:=r1.c;rw[e] at rc;refine⟨c,rc.bl,?_⟩;cases c with
   |true=>
    simp only[if_true] at q1;exact uC ⟨ρ,fr.mono S1,k.mono _ _ _ (λb q z H' S rz=>q z H' (S1.trans S) (rz.ahead S1)) q1⟩
   |false=>
    simp only[eo,if_false] at q1;exact uD (q1 _ H1 S1 (Rep.bl ao))
  ·exact q1.elim
theorem OQ(h:QE X a ta)(k:QE X (.BoolOp .Or (b::ZI) pos) tb):QE X (.BoolOp .Or (a::b::ZI) pos) (IJ ta tb):=by
 refine⟨λρ Q Q' w q=>h.mono _ _ _ (λc q=>?_) q,λHZ F=>cY (OY (h.run HZ F) (k.run HZ F)) λσ H Q ⟨ρ,fr,q⟩=>?_⟩
 ·split at q
  ·split at q
   ·rw[ZE ‹_›];exact w _ q
   ·rw[Zg ‹_›];exact k.mono _ _ _ w q
  ·exact q
 ·refine h.step fr q λr x H1 q1 S1 r1=>?_;split at q1
  ·rename_i c e;have rc:=r1.c;rw[e] at rc;refine⟨c,rc.bl,?_⟩;cases c with
   |true=>
    simp only[if_true] at q1;exact uC (q1 _ H1 S1 (Rep.bl aj))
   |false=>
    simp only[eo,if_false] at q1;exact uD ⟨ρ,fr.mono S1,k.mono _ _ _ (λb q z H' S rz=>q z H' (S1.trans S) (rz.ahead S1)) q1⟩
  ·exact q1.elim
theorem Dm(h:QE X a ta):QE X (.UnaryOp .Not a pos) (wI ta):=by
 refine⟨λρ Q Q' w q=>h.mono _ _ _ (λc q=>?_) q,λHZ F=>cY (MI (h.run HZ F)) λσ H Q ⟨ρ,fr,q⟩=>?_⟩
 ·split at q
  ·exact w _ q
  ·exact q
 ·refine h.step fr q λr x H1 q1 S1 r1=>?_;split at q1
  ·rename_i c e;have rc:=r1.c;rw[e] at rc;exact⟨c,rc.bl,q1 _ H1 S1 (Rep.bl _)⟩
  ·exact q1.elim
noncomputable def UC(t:nB)(ta tb:dE):dE:=λρ Q=>t ρ λc=>if c=aj then ta ρ Q else tb ρ Q
noncomputable def gI(ts:lU):dE:=λρ Q=>ts ρ λrs=>rs.all R.free=aj/\rs.length<=1000/\Q (.v (.tup (rs.map R.d)))
noncomputable def jQ(ts:lU):dE:=λρ Q=>ts ρ λrs=>rs.all R.free=aj/\rs.length<=1000/\Q (.nw (.lst (rs.map R.d)))
theorem tP(h:n<=1000):n<=bv:=WM (Ei h)
theorem aO.new'{l:af}(hl:H l=ar):aO H (upd H l o):=λb q e=>by rw[bB (bL e hl)];exact e
theorem hG{x1}(h:QA X es ts):QE X (.Tuple es x1 pos) (gI ts):=by
 refine⟨λρ Q Q' w q=>h.mono _ _ _ (λrs q=>⟨q.1,q.2.1,w _ q.2.2⟩) q,λHZ F=>cY (ME (h.run HZ F)) λσ H Q zz=>?_⟩;obtain⟨ρ,fr,q⟩:=zz;refine h.step fr q λrs xs H1 ⟨q1,q2,q3⟩ S1 r1=>?_;have hl:xs.length=rs.length:=Paired.length r1;refine⟨tP ⋯,λp hp=>q3 _ _ (S1.trans (aO.new' hp)) ?_⟩;exact .tup bS ((r1.reps (λa m=>fr.dom m) q1).mono (aO.new' hp))
theorem iK(h:QA X es ts):QE X (.List es pos) (jQ ts):=by
 refine⟨λρ Q Q' w q=>h.mono _ _ _ (λrs q=>⟨q.1,q.2.1,w _ q.2.2⟩) q,λHZ F=>cY (MJ (h.run HZ F)) λσ H Q zz=>?_⟩;obtain⟨ρ,fr,q⟩:=zz;refine h.step fr q λrs xs H1 ⟨q1,q2,q3⟩ S1 r1=>?_;have hl:xs.length=rs.length:=Paired.length r1;refine⟨tP ⋯,λp hp=>q3 _ _ (S1.trans (aO.new' hp)) ?_⟩;exact⟨p,rfl,S1.free hp,xs,bS,((r1.reps (λa m=>fr.dom m) q1).gen (.fresh hp)).mono (aO.new' hp)⟩
end
noncomputable abbrev CN:Nat:=1000000
theorem jB(h:n<=CN):n<=bv:=ly h (by rw[ke];decide)
theorem kB{p:af}{xs:List V}(hp:H p=ar)(r:Reps K M H xs ds):eI K M O H (.ref p) (.nw (.lst ds)) (upd H p (.lst xs)):=⟨p,rfl,hp,xs,bS,(r.gen (.fresh hp)).mono (aO.new' hp)⟩
theorem Kt{p:af}{xs:List V}(hp:H p=ar)(r:Reps K M H xs ds):eI K M O H (.ref p) (.v (.tup ds)) (upd H p (.tup xs)):=Rep.tup bS (r.mono (aO.new' hp))
noncomputable def dG:Dv->Dv->(R->Prop)->Prop
 | .int i,.int j,Q=>Q (.v (.int (i+j)))
 | .lst xs,.lst ys,Q=>xs.length+ys.length<=CN/\Q (.nw (.lst (xs++ys)))
 | .str x,.str y,Q=>x.length+y.length<=CN/\Q (.v (.str (x++y)))
 |_,_,_=>False
noncomputable def lF:Dv->Dv->(R->Prop)->Prop
 | .int i,.int j,Q=>Q (.v (.int (i-j)))
 |_,_,_=>False
noncomputable def u7(i j:Int):Prop:=NV i j \/ (i.natAbs<2 ^ 4000/\j.natAbs<2 ^ 4000)
noncomputable def gL:Dv->Dv->(R->Prop)->Prop
 | .int i,.int j,Q=>u7 i j/\Q (.v (.int (i*j)))
 | .lst xs,.int k,Q=>(-(2 ^ 63)<=k/\k<2 ^ 63/\xs.length*k.toNat<=CN)/\Q (.nw (.lst (aw k.toNat xs).flatten))
 |_,_,_=>False
noncomputable def nA:Dv->Dv->(R->Prop)->Prop
 | .int i,.int j,Q=>(0<j/\j<2 ^ 200)/\Q (.v (.int (i / j)))
 |_,_,_=>False
noncomputable def sD:Dv->Dv->(R->Prop)->Prop
 | .int i,.int j,Q=>(j≠0/\j.natAbs<2 ^ 4000)/\Q (.v (.int (i.fdiv j)))
 |_,_,_=>False
noncomputable def i6:Dv->Dv->(R->Prop)->Prop
 | .int i,.int j,Q=>0<j/\Q (.v (.int (i % j)))
 |_,_,_=>False
noncomputable def Rs:Dv->Dv->(R->Prop)->Prop
 | .int i,.int j,Q=>Ij i j/\Q (.v (.int (i ^ j.toNat)))
 |_,_,_=>False
variable {f:Int->Int->Bool}
theorem F4:∀dx dy (Q Q':R->Prop),(∀r,Q r->Q' r)->dG dx dy Q->dG dx dy Q':=by
 intro dx dy Q Q' w h;unfold dG at h;split at h
 ·exact w _ h
 ·exact⟨h.1,w _ h.2⟩
 ·exact⟨h.1,w _ h.2⟩
 ·exact h.elim
theorem bT:xO X (ku .Add) dG:=by
 refine⟨F4,_,Mc.or (Mb.or D7),λM O H x y dx dy Q cx cy h=>?_⟩;unfold dG at h;split at h
 ·obtain rfl:=cx.int;obtain rfl:=cy.int;exact .inl ⟨_,_,rfl,rfl,h _ H (aO.refl _) (Rep.int _)⟩
 ·obtain⟨a,xs,rfl,ea,ra⟩:=cx.lst;obtain⟨b,ys,rfl,eb,rb⟩:=cy.lst;have l1:=ra.length;have l2:=rb.length;exact .inr (.inl ⟨a,b,xs,ys,rfl,rfl,ea,eb,jB ⋯,λp hp=>h.2 _ _ (aO.new' hp) (kB hp (ra.append rb))⟩)
 ·obtain rfl:=cx.str;obtain rfl:=cy.str;exact .inr (.inr ⟨_,_,rfl,rfl,jB h.1,h.2 _ H (aO.refl _) (Rep.str _)⟩)
 ·exact h.elim
theorem Ey:∀dx dy (Q Q':R->Prop),(∀r,Q r->Q' r)->lF dx dy Q->lF dx dy Q':=by
 intro dx dy Q Q' w h;unfold lF at h;split at h
 ·exact w _ h
 ·exact h.elim
theorem kN:xO X (ku .Sub) lF:=by
 refine⟨Ey,_,MS,λM O H x y dx dy Q cx cy h=>?_⟩;unfold lF at h;split at h
 ·obtain rfl:=cx.int;obtain rfl:=cy.int;exact⟨_,_,rfl,rfl,h _ H (aO.refl _) (Rep.int _)⟩
 ·exact h.elim
theorem u7.ok{i j:Int}(h:u7 i j):IntMulOk i j:=by
 rcases h with h | ⟨h1,h2⟩
 ·exact h.ok
 ·have key:∀{z:Int},z.natAbs<2 ^ 4000->Wl z<=2 ^ 20:=λ{z} hz=>by
   have hl:z.natAbs≠0->z.natAbs.log2<4000:=λh0=>(log2_lt h0).mpr hz;clear hz h1 h2;unfold Wl;by_cases h0:z=0
   ·simp[h0]
   ·have:=hl ⋯;simp[h0];right
  exact IntMulOk.of_bits (key h1) (key h2)
theorem Jh:lQ X (ku .Mult) (rI u7 λi j=>.int (i*j)):=Ow λ_ _ _ _ _ _ _ hc q=>mul_int q hc.ok
theorem Ez:∀dx dy (Q Q':R->Prop),(∀r,Q r->Q' r)->gL dx dy Q->gL dx dy Q':=by
 intro dx dy Q Q' w h;unfold gL at h;split at h
 ·exact⟨h.1,w _ h.2⟩
 ·exact⟨h.1,w _ h.2⟩
 ·exact h.elim
theorem dQ:xO X (ku .Mult) gL:=by
 refine⟨Ez,_,Jh.or MU,λM O H x y dx dy Q cx cy h=>?_⟩;unfold gL at h;split at h
 ·obtain rfl:=cx.int;obtain rfl:=cy.int;exact .inl ⟨_,_,rfl,rfl,h.1,h.2 _ H (aO.refl _) (Rep.int _)⟩
 ·obtain⟨a,xs,rfl,ea,ra⟩:=cx.lst;obtain rfl:=cy.int;have l1:=ra.length;exact .inr ⟨a,_,xs,rfl,rfl,ea,h.1.1,h.1.2.1,jB (by rw[l1];exact h.1.2.2),λp hp=>h.2 _ _ (aO.new' hp) (kB hp (ra.repl _))⟩
 ·exact h.elim
theorem F3:∀dx dy (Q Q':R->Prop),(∀r,Q r->Q' r)->nA dx dy Q->nA dx dy Q':=by
 intro dx dy Q Q' w h;unfold nA at h;split at h
 ·exact⟨h.1,w _ h.2⟩
 ·exact h.elim
theorem kO:xO X (ku .FloorDiv) nA:=by
 refine⟨F3,_,HA,λM O H x y dx dy Q cx cy h=>?_⟩;unfold nA at h;split at h
 ·obtain rfl:=cx.int;obtain rfl:=cy.int;exact⟨_,_,rfl,rfl,h.1,h.2 _ H (aO.refl _) (Rep.int _)⟩
 ·exact h.elim
theorem H9:lQ X (ku .FloorDiv) (rI (λ_ j=>j≠0/\j.natAbs<2 ^ 4000) λi j=>.int (i.fdiv j)):=Ow λi j _ _ _ _ _ hc q=>by
 refine floordiv_int hc.1 q (.inl (zw ?_));have h0:j.natAbs≠0:=λz=>hc.1 (Int.natAbs_eq_zero.mp z);have:=(log2_lt h0).mpr hc.2;clear hc;right
theorem D5:∀dx dy (Q Q':R->Prop),(∀r,Q r->Q' r)->sD dx dy Q->sD dx dy Q':=by
 intro dx dy Q Q' w h;unfold sD at h;split at h
 ·exact⟨h.1,w _ h.2⟩
 ·exact h.elim
theorem BR:xO X (ku .FloorDiv) sD:=by
 refine⟨D5,_,H9,λM O H x y dx dy Q cx cy h=>?_⟩;unfold sD at h;split at h
 ·obtain rfl:=cx.int;obtain rfl:=cy.int;exact⟨_,_,rfl,rfl,h.1,h.2 _ H (aO.refl _) (Rep.int _)⟩
 ·exact h.elim
theorem F1:∀dx dy (Q Q':R->Prop),(∀r,Q r->Q' r)->i6 dx dy Q->i6 dx dy Q':=by
 intro dx dy Q Q' w h;unfold i6 at h;split at h
 ·exact⟨h.1,w _ h.2⟩
 ·exact h.elim
theorem e7:xO X (ku .Mod) i6:=by
 refine⟨F1,_,MW,λM O H x y dx dy Q cx cy h=>?_⟩;unfold i6 at h;split at h
 ·obtain rfl:=cx.int;obtain rfl:=cy.int;exact⟨_,_,rfl,rfl,h.1,h.2 _ H (aO.refl _) (Rep.int _)⟩
 ·exact h.elim
noncomputable def Kf(ta:dE):dE:=λρ Q=>ta ρ λr=>match r.d with
 | .int i=>Q (.v (.int (-i)))
 |_=>False
theorem OR{a:Expr}{pos:lv}(h:QE X a ta):QE X (.UnaryOp .USub a pos) (Kf ta):=by
 refine⟨λρ Q Q' w q=>h.mono _ _ _ (λc q=>?_) q,λHZ F=>cY (OX LX (h.run HZ F)) λσ H Q ⟨ρ,fr,q⟩=>?_⟩
 ·split at q
  ·exact w _ q
  ·exact q
 ·refine h.step fr q λr x H1 q1 S1 r1=>?_;split at q1
  ·rename_i i e;have rc:=r1.c;rw[e] at rc;exact⟨i,rc.int,q1 _ H1 S1 (Rep.int _)⟩
  ·exact q1.elim
noncomputable def zS(f:Int->Int->Bool):Dv->Dv->(R->Prop)->Prop
 | .int i,.int j,Q=>Q (.v (.bl (f i j)))
 |_,_,_=>False
theorem vS:∀dx dy (Q Q':R->Prop),(∀r,Q r->Q' r)->zS f dx dy Q->zS f dx dy Q':=by
 intro dx dy Q Q' w h;unfold zS at h;split at h
 ·exact w _ h
 ·exact h.elim
theorem D6{g:ah->ah->X8 ah}(h:lQ X g (Cr λi j=>.bl (f i j))):xO X g (zS f):=by
 refine⟨vS,_,h,λM O H x y dx dy Q cx cy h=>?_⟩;unfold zS at h;split at h
 ·obtain rfl:=cx.int;obtain rfl:=cy.int;exact⟨_,_,rfl,rfl,h _ H (aO.refl _) (Rep.bl _)⟩
 ·exact h.elim
noncomputable abbrev zR:=zS λi j=>decide (i<j)
noncomputable abbrev Om:=zS λi j=>decide (i<=j)
noncomputable abbrev Dy:=zS λi j=>decide (j<i)
theorem nZ:xO X (fv .Lt) zR:=D6 BS
theorem Gy:xO X (fv .LtE) Om:=D6 Gz
theorem kZ:xO X (fv .Gt) Dy:=D6 Ov
noncomputable def mU(p p':Dv->Dv->(R->Prop)->Prop)(ta tb tc:dE):dE:=λρ Q=>ta ρ λx=>tb ρ λy=>p x.d y.d λz=>match z.d with
 | .bl k=>if k=aj then tc ρ λw=>p' y.d w.d Q else Q (.v (.bl ao))
 |_=>False
noncomputable def isN:Dv->Bool
 | .non=>aj
 |_=>ao
noncomputable def S9:Dv->Dv->(R->Prop)->Prop
 |d,.non,Q=>Q (.v (.bl (isN d)))
 |_,_,_=>False
noncomputable def Og:Dv->Dv->(R->Prop)->Prop
 |d,.non,Q=>Q (.v (.bl (!isN d)))
 |_,_,_=>False
noncomputable def gR:Dv->Z0
 | .non=>.none
 | .bl b=>.bool b
 | .int i=>.int i
 | .str x=>.str x
 | .tup xs=>.tuple (pyDs xs)
 | .lst xs=>.list (pyDs xs)
 | .scr ns=>.list (ns.map .int)
 |_=>.dict []
where pyDs:List Dv->List Z0
 | []=>[]
 |d::r=>gR d::pyDs r
noncomputable abbrev pyDs:=gR.pyDs
noncomputable def eJ:Nat->Dv->Bool
 |_,.non=>aj
 |_,.bl _=>aj
 |_,.int _=>aj
 |_,.str x=>PyData.strOk x
 |n+1,.tup xs=>okDs n xs
 |n+1,.lst xs=>okDs n xs
 |_+1,.scr _=>aj
 |_,_=>ao
where okDs:Nat->List Dv->Bool
 |_,[]=>aj
 |n,d::r=>eJ n d&&okDs n r
noncomputable abbrev okDs:=eJ.okDs
noncomputable def eqD(a b:Dv):Bool:=jb (gR a) (gR b)
theorem CH(ns:List Int):ph (ns.map .int)=aj:=by
 induction ns with
 |nil=>rfl
 |cons n r ih=>rw[de,ph,ih];rfl
theorem DT(ns:List Int):mv (ns.map .int)=0:=by
 induction ns with
 |nil=>rfl
 |cons n r ih=>rw[de,mv,ih];rfl
mutual
theorem sG:∀(n:Nat) (d:Dv),eJ n d=aj->(gR d).canLay0=aj/\(gR d).depth<=n
 |_,.non,_=>⟨by simp[gR,qm],by simp[gR,PyData.depth]⟩
 |_,.bl _,_=>⟨by simp[gR,qm],by simp[gR,PyData.depth]⟩
 |_,.int _,_=>⟨by simp[gR,qm],by simp[gR,PyData.depth]⟩
 |_,.str x,h=>⟨by rw[gR,qm];cases ‹Nat›<;>simpa [eJ] using h,by simp[gR,PyData.depth]⟩
 |0,.tup _,h=>by simp[eJ] at h
 |0,.lst _,h=>by simp[eJ] at h
 |0,.scr _,h=>by simp[eJ] at h
 |n+1,.tup xs,h=>by
  have:=vT n xs (by rw[eJ] at h;exact h);exact⟨by rw[gR,qm];exact this.1,by rw[gR,PyData.depth];have h2:mv (gR.pyDs xs)<=n:=this.2;right⟩
 |n+1,.lst xs,h=>by
  have:=vT n xs (by rw[eJ] at h;exact h);exact⟨by rw[gR,qm];exact this.1,by rw[gR,PyData.depth];have h2:mv (gR.pyDs xs)<=n:=this.2;right⟩
 |n+1,.scr ns,_=>⟨by rw[gR,qm];exact CH ns,by rw[gR,PyData.depth,DT];right⟩
 |0,.dit _,h=>by simp[eJ] at h
 |0,.obj _ _,h=>by simp[eJ] at h
 |0,.exc _ _,h=>by simp[eJ] at h
 |_+1,.exc _ _,h=>by simp[eJ] at h
 |0,.dns _,h=>by simp[eJ] at h
 |_+1,.dns _,h=>by simp[eJ] at h
 |_+1,.dit _,h=>by simp[eJ] at h
 |_+1,.obj _ _,h=>by simp[eJ] at h
theorem vT:∀(n:Nat) (ds:List Dv),okDs n ds=aj->ph (pyDs ds)=aj/\mv (pyDs ds)<=n
 |_,[],_=>⟨by simp[gR.pyDs,ph],by simp[gR.pyDs,mv]⟩
 |n,d::r,h=>by
  have h':(eJ n d&&okDs n r)=aj:=h;rw[dt] at h';have h1:=sG n d h'.1;have h2:=vT n r h'.2;refine⟨by show ph (gR d::pyDs r)=aj;rw[ph,h1.1,h2.1];rfl,?_⟩;show mv (gR d::pyDs r)<=n;rw[mv];right
end
theorem mP{d:Dv}(h:eJ n d=aj)(hn:n<=64):Z1 (gR d)=aj:=by
 obtain⟨h1,h2⟩:=sG n d h;unfold Z1;rw[h1,decide_eq_true ⋯];rfl
theorem wB{h:dq}:∀{ns:List Int} {us:List ah},bU (ns.map V.int) us -> ∃as,Ym h us (ns.map PyData.int) as
 | [],_,.nil=>⟨_,.nil⟩
 |n::r,_,.cons a t=>by
  obtain⟨tk,rfl⟩:=a;obtain⟨as,q⟩:=wB (h:=h) t;exact⟨_,.cons (.int n tk) q⟩
theorem uK{d:Dv}(f:okDs n (d::ds)=aj):eJ n d=aj/\okDs n ds=aj:=by
 have f':(eJ n d&&okDs n ds)=aj:=f;rwa[dt] at f'
theorem Rep.reads(I:Inv X pk σ H s){x:V}{d:Dv}(q:Rep X.K M H x d)(ok:eJ n d=aj)(r:cR x u):∃as,YL s.heap u (gR d) as:=by
 refine Rep.rec (motive_1:=λx d _=>∀n u,eJ n d=aj->cR x u -> ∃as,YL s.heap u (gR d) as) (motive_2:=λxs ds _=>∀n us,okDs n ds=aj->bU xs us -> ∃as,Ym s.heap us (pyDs ds) as) (motive_3:=λ_ _ _=>True) (motive_4:=λ_ _ _=>True)
  (λn u _ r=>by cases r;exact⟨_,.none⟩) (λb n u _ r=>by cases r;exact⟨_,.bool b⟩) (λi n u _ r=>by obtain⟨t,rfl⟩:=r;exact⟨_,.int i t⟩) (λy n u _ r=>by obtain⟨t,rfl⟩:=r;exact⟨_,.str y t⟩) ?tup ?lst ?dit ?obj ?scr ?exc ?dns ?nil ?cons
  trivial (λ_ _ _ _=>trivial) trivial (λ_ _ _ _=>trivial) q n u ok r
 case tup=>
  intro a xs ds e _ ih n u ok r;cases n with
  |zero=>simp[eJ] at ok
  |succ n=>
   cases r;obtain⟨_,its,rv,o,ho,hc,m,hd⟩:=I.hok _ _ e;obtain⟨as,ra⟩:=ih n its (by rw[eJ] at ok;exact ok) rv;exact⟨_,.tuple ho hc hd ra⟩
 case lst=>
  intro a xs ds e _ _ ih n u ok r;cases n with
  |zero=>simp[eJ] at ok
  |succ n=>
   cases r;obtain⟨_,its,m,rv,ho⟩:=I.hok _ _ e;obtain⟨as,ra⟩:=ih n its (by rw[eJ] at ok;exact ok) rv;exact⟨_,.list ho rfl rfl ra⟩
 case dit=>intro a ep xs ds _ _ _ _ n u ok;cases n<;>simp[eJ] at ok
 case obj=>intro a C dx xs ds _ _ _ _ n u ok;cases n<;>simp[eJ] at ok
 case scr=>
  intro a ns e n u _ r;cases r;obtain⟨its,rv,pl,_⟩:=I.list e.sq;obtain⟨o,ho,hc,m,hd⟩:=pl.isList;obtain⟨as,ra⟩:=wB (h:=s.heap) rv;exact⟨_,.list ho hc hd (by simpa using ra)⟩
 case exc=>intro a C p _ n u ok;cases n<;>simp[eJ] at ok
 case dns=>intro a ks _ _ n u ok;cases n<;>simp[eJ] at ok
 case nil=>intro n us _ r;cases r;exact⟨_,.nil⟩
 case cons=>
  intro x d xs ds _ _ i1 i2 n us ok r;cases r with
  |cons r1 r2=>
   obtain⟨as,ra⟩:=i1 n _ (uK ok).1 r1;obtain⟨bs,rb⟩:=i2 n _ (uK ok).2 r2;exact⟨_,.cons ra rb⟩
theorem Reps.reads(I:Inv X pk σ H s){n:Nat}{xs:List V}{ds:List Dv}{us:List ah}(q:Reps X.K M H xs ds)(ok:okDs n ds=aj)(r:bU xs us):∃as,Ym s.heap us (pyDs ds) as:=
 q.ind (P:=λxs ds=>∀us,okDs n ds=aj->bU xs us -> ∃as,Ym s.heap us (pyDs ds) as) (λus _ r=>by cases r;exact⟨_,.nil⟩) (λx d xs ds a _ ih us ok r=>by
  cases r with
  |cons r1 r2=>
   obtain⟨as,ra⟩:=a.reads I (uK ok).1 r1;obtain⟨bs,rb⟩:=ih _ (uK ok).2 r2;exact⟨_,.cons ra rb⟩) us ok r
theorem eD.reads(I:Inv X pk σ H s){n:Nat}{x:V}{d:Dv}{u:ah}(c:eD X.K M H x d)(ok:eJ n d=aj)(r:cR x u):∃as,YL s.heap u (gR d) as:=by
 rcases c with c | ⟨a,rfl,o⟩
 ·exact c.reads I ok r
 ·cases d with
  |lst ds=>
   obtain⟨xs,e,q⟩:=o;cases r;cases n with
   |zero=>simp[eJ] at ok
   |succ n=>
    obtain⟨_,its,m,rv,ho⟩:=I.hok _ _ e;obtain⟨as,ra⟩:=Reps.reads I q (by rw[eJ] at ok;exact ok) rv;exact⟨_,.list ho rfl rfl ra⟩
  |dit _=>cases n<;>simp[eJ] at ok
  |obj _ _=>cases n<;>simp[eJ] at ok
  |dns _=>cases n<;>simp[eJ] at ok
  |_=>exact o.elim
noncomputable def sP:Dv->Dv->(R->Prop)->Prop
 | .int i,.int j,Q=>Q (.v (.bl (decide (i=j))))
 |dx,dy,Q=>(eJ 8 dx=aj/\eJ 8 dy=aj)/\Q (.v (.bl (eqD dx dy)))
noncomputable def y8:Dv->Dv->(R->Prop)->Prop
 | .int i,.int j,Q=>Q (.v (.bl (!decide (i=j))))
 |dx,dy,Q=>(eJ 8 dx=aj/\eJ 8 dy=aj)/\Q (.v (.bl (!eqD dx dy)))
noncomputable def Ro(K:ap):R2:=λx y H Q=>∃M dx dy,eD K M H x dx/\eD K M H y dy/\eJ 8 dx=aj/\eJ 8 dy=aj/\Q (.bl (eqD dx dy)) H
noncomputable def Rj(K:ap):R2:=λx y H Q=>∃M dx dy,eD K M H x dx/\eD K M H y dy/\eJ 8 dx=aj/\eJ 8 dy=aj/\Q (.bl (!eqD dx dy)) H
theorem Ma(hu:X.A.units+64<jx):lQ X (fv .Eq) (Ro X.K):=by
 intro pk s σ H x y v u Q I rx ry h;obtain⟨M,dx,dy,r1,r2,o1,o2,q⟩:=h;obtain⟨as,ra⟩:=r1.reads I o1 rx;obtain⟨bs,rb⟩:=r2.reads I o2 ry;exact SeqAt.compareEq_shaped ra rb (mP o1 ∅) (mP o2 ∅) hu ⟨.bl _,H,I,rfl,q⟩
theorem MV(hu:X.A.units+64<jx):lQ X (fv .NotEq) (Rj X.K):=by
 intro pk s σ H x y v u Q I rx ry h;obtain⟨M,dx,dy,r1,r2,o1,o2,q⟩:=h;obtain⟨as,ra⟩:=r1.reads I o1 rx;obtain⟨bs,rb⟩:=r2.reads I o2 ry;exact SeqAt.compareNe_shaped ra rb (mP o1 ∅) (mP o2 ∅) hu ⟨.bl _,H,I,rfl,q⟩
theorem AF(i j:Int):eqD (.int i) (.int j)=decide (i=j):=by
 show jb (.int i) (.int j)=_;rw[jb];exact Bool.beq_eq_decide_eq i j
theorem gH(hu:X.A.units+64<jx):xO X (fv .Eq) sP:=by
 refine⟨λdx dy Q Q' w h=>?_,_,Ma hu,λM O H x y dx dy Q cx cy h=>?_⟩
 ·unfold sP at *;split at h
  ·exact w _ h
  ·exact⟨h.1,w _ h.2⟩
 ·unfold sP at h;split at h
  ·refine⟨M,_,_,cx,cy,by simp[eJ],by simp[eJ],?_⟩;rw[AF];exact h _ H (aO.refl _) (Rep.bl _)
  ·exact⟨M,_,_,cx,cy,h.1.1,h.1.2,h.2 _ H (aO.refl _) (Rep.bl _)⟩
theorem qH(hu:X.A.units+64<jx):xO X (fv .NotEq) y8:=by
 refine⟨λdx dy Q Q' w h=>?_,_,MV hu,λM O H x y dx dy Q cx cy h=>?_⟩
 ·unfold y8 at *;split at h
  ·exact w _ h
  ·exact⟨h.1,w _ h.2⟩
 ·unfold y8 at h;split at h
  ·refine⟨M,_,_,cx,cy,by simp[eJ],by simp[eJ],?_⟩;rw[AF];exact h _ H (aO.refl _) (Rep.bl _)
  ·exact⟨M,_,_,cx,cy,h.1.1,h.1.2,h.2 _ H (aO.refl _) (Rep.bl _)⟩
structure En where
 nx:List Sl->Prop
 rt:R->Prop
 bk:List Sl->Prop:=λ_=>False
 ct:List Sl->Prop:=λ_=>False
noncomputable abbrev cD:=En->List Sl->Prop
structure EnLe(E E':En):Prop where
 nx:∀ρ,E.nx ρ->E'.nx ρ
 rt:∀r,E.rt r->E'.rt r
 bk:∀ρ,E.bk ρ->E'.bk ρ
 ct:∀ρ,E.ct ρ->E'.ct ρ
structure Ent(K:ap)(HZ:Hp)(F:af->Prop)(E:En)(D:Ends):Prop where
 nx:∀ρ σ H,Fr K HZ F σ H ρ->E.nx ρ->D.nx σ H
 bk:∀ρ σ H,Fr K HZ F σ H ρ->E.bk ρ->D.bk σ H
 ct:∀ρ σ H,Fr K HZ F σ H ρ->E.ct ρ->D.ct σ H
 rt:∀r x H,aO HZ H->eI K F yV HZ x r H->E.rt r->D.rt x H
inductive liftS(K:ap)(HZ:Hp)(F:af->Prop)(t:cD)(D:Ends)(σ:St)(H:Hp):Prop
 |mk (ρ:List Sl) (E:En) (fr:Fr K HZ F σ H ρ) (h:t E ρ) (en:Ent K HZ F E D)
structure QS(X:Cx)(st:kh)(t:cD):Prop where
 mono:∀E E' ρ,EnLe E E'->t E ρ->t E' ρ
 run:∀(HZ:Hp) (F:af->Prop),PS X st (liftS X.K HZ F t)
structure QSs(X:Cx)(sts:List kh)(t:cD):Prop where
 mono:∀E E' ρ,EnLe E E'->t E ρ->t E' ρ
 run:∀(HZ:Hp) (F:af->Prop),uW X sts (liftS X.K HZ F t)
variable {E:En}{sts:List kh}
section
variable {st:kh}{t u:cD}{c:Expr}{pos:lv}
theorem dW{t t':TS}(h:PS X st t)(w:∀D σ H,t' D σ H->t D σ H):PS X st t':=λpk s σ H D I q=>h pk s σ H D I (w D σ H q)
theorem uV{t t':TS}(h:uW X sts t)(w:∀D σ H,t' D σ H->t D σ H):uW X sts t':=λpk s σ H D I q=>h pk s σ H D I (w D σ H q)
noncomputable def cA:cD:=λE ρ=>E.nx ρ
noncomputable def aU(t u:cD):cD:=λE ρ=>t { E with nx:=u E } ρ
theorem bW:QSs X [] cA:=⟨λE E' ρ w h=>w.nx _ h,λHZ F=>uV JQ λD σ H zq1=>by obtain⟨ρ,E,fr,h,en⟩:=zq1;exact en.nx _ _ _ fr h⟩
theorem EnLe.with_nx{E':En}{a b:List Sl->Prop}(w:EnLe E E')(h:∀ρ,a ρ->b ρ):EnLe { E with nx:=a } { E' with nx:=b }:=⟨h,w.rt,w.bk,w.ct⟩
theorem aG(h1:QS X st t)(h2:QSs X sts u):QSs X (st::sts) (aU t u):=by
 refine⟨λE E' ρ w h=>h1.mono _ _ _ (w.with_nx λρ h=>h2.mono _ _ _ w h) h,λHZ F=>uV (BA (h1.run HZ F) (h2.run HZ F)) λD σ H zz=>?_⟩;obtain⟨ρ,E,fr,h,en⟩:=zz;exact⟨ρ,_,fr,h,λρ' σ' H' fr' h'=>⟨ρ',E,fr',h',en⟩,en.bk,en.ct,en.rt⟩
theorem aH(h1:QS X st t):QSs X [st] t:=⟨h1.mono,λHZ F=>Dq (h1.run HZ F)⟩
noncomputable def zH:cD:=λE ρ=>E.bk ρ
noncomputable def L0:cD:=λE ρ=>E.ct ρ
theorem JH:QS X (.Break pos) zH:=⟨λE E' ρ w h=>w.bk _ h,λHZ F=>dW Gd λD σ H zq2=>by obtain⟨ρ,E,fr,h,en⟩:=zq2;exact en.bk _ _ _ fr h⟩
noncomputable def k6:cD:=λ_ _=>False
theorem kM:QS X st k6:=⟨λ_ _ _ _ h=>h,λHZ F=>dW GY λD σ H zq3=>by obtain⟨ρ,E,fr,h,en⟩:=zq3;exact h⟩
noncomputable def B2(te:dE):cD:=λE ρ=>te ρ λ_=>E.nx ρ
theorem GQ(he:QE X e te)(hs:autoParam (ix e ar pos.line X.env=jo ao) c8._auto_1):QS X (.Expr e pos) (B2 te):=
 ⟨λE E' ρ w h=>he.mono _ _ _ (λ_ q=>w.nx _ q) h,λHZ F=>dW (uJ (he.run HZ F) hs) λD σ H zq4=>by obtain⟨ρ,E,fr,h,en⟩:=zq4;exact he.step fr h λr x H1 q S1 _=>en.nx _ _ _ (fr.mono S1) q⟩
noncomputable def R.out:R->R
 | .ow _ d=>.nw d
 |r=>r
theorem eI.out{K:ap}{HZ H H':Hp}{F:af->Prop}{σ:St}{ρ:List Sl}{x:V}{r:R}(fr:Fr K HZ F σ H ρ)(h:eI K (MM F ρ) (Ae ρ) H x r H'):eI K F yV HZ x r.out H':=by
 cases r with
 |v d=>exact Rep.weak (λa z=>.inl z) h
 |nw d=>
  obtain⟨a,e,n,o⟩:=h;exact⟨a,e,fr.same.free n,o.weak λb z=>z.elim (λz=>.inl (.inl z)) .inr⟩
 |ow a d=>
  obtain⟨e,m,o⟩:=h;refine⟨a,e,fr.new a d m,o.weak λb z=>?_⟩;rcases z with z | z
  ·exact .inl z
  ·rw[z];exact .inr ⟨d,m⟩
noncomputable def cP(te:dE):cD:=λE ρ=>te ρ λr=>E.rt r.out
noncomputable def Kz:cD:=λE _=>E.rt (.v .non)
theorem bV(he:QE X e te):QS X (.Return (aa e) pos) (cP te):=
 ⟨λE E' ρ w h=>he.mono _ _ _ (λ_ q=>w.rt _ q) h,λHZ F=>dW (M7 (he.run HZ F)) λD σ H zq5=>by obtain⟨ρ,E,fr,h,en⟩:=zq5;exact he.step fr h λr x H1 q S1 r1=>en.rt _ _ _ (fr.same.trans S1) (eI.out fr r1) q⟩
noncomputable def jN(c:nB)(t u:cD):cD:=λE ρ=>c ρ λb=>if b=aj then t E ρ else u E ρ
theorem fQ{a b:List kh}{tc:nB}(hc:QT X c tc)(ha:QSs X a t)(hb:QSs X b u):QS X (.If c a b pos) (jN tc t u):=by
 refine⟨λE E' ρ w h=>hc.mono _ _ _ (λk q=>?_) h,λHZ F=>dW (L5 (hc.run HZ F) (ha.run HZ F) (hb.run HZ F)) λD σ H ⟨ρ,E,fr,h,en⟩=>?_⟩
 ·split at q
  ·rw[ZE ‹_›];exact ha.mono _ _ _ w q
  ·rw[Zg ‹_›];exact hb.mono _ _ _ w q
 ·refine hc.step fr h λk H1 q S1=>?_;cases k with
  |true=>exact uC ⟨ρ,E,fr.mono S1,by simpa using q,en⟩
  |false=>exact uD ⟨ρ,E,fr.mono S1,by simpa using q,en⟩
end
theorem dR{l:List α}{j:Nat}{a b:α}(h:(l.set i a)[j]?=aa b):(i=j/\i<l.length/\b=a) \/ (i≠j/\l[j]?=aa b):=by
 by_cases e:i=j
 ·subst e;by_cases hl:i<l.length
  ·rw[jw hl] at h;exact .inl ⟨rfl,hl,(Option.some.inj h).symm⟩
  ·rw[lf (by simp;right)] at h;cases h
 ·rw[gc e] at h;exact .inr ⟨e,h⟩
theorem MM.set{i:Nat}{s:Sl}(a:af)(h:MM F (ρ.set i s) a):MM F ρ a \/ ∃d,s=.own a d:=by
 rcases h with h | ⟨d,h⟩
 ·exact .inl (.inl h)
 ·rcases ma h with h | h
  ·exact .inl (.inr ⟨d,h⟩)
  ·exact .inr ⟨d,h.symm⟩
theorem Fr.setv(fr:Fr K HZ F σ H ρ){x:V}{d:Dv}(r:Rep K (MM F ρ) H x d):Fr K HZ F (σ.set i (aa x)) H (ρ.set i (.v d)):=by
 have wk:∀a,MM F (ρ.set i (.v d)) a->MM F ρ a:=λa h=>by
  rcases MM.set a h with h | ⟨_,h⟩
  ·exact h
  ·cases h
 refine⟨by simp[fr.len],λj s e=>?_,λj k a d1 d2 e1 e2=>?_,λa d1 h=>?_,fr.same,fr.old⟩
 ·rcases dR e with⟨rfl,hl,rfl⟩ | ⟨ne,e⟩
  ·exact⟨x,by rw[jw (by rw[fr.len];exact hl)],r.weak wk⟩
  ·rw[gc ne];exact(fr.sl j s e).weak wk
 ·rcases dR e1 with⟨_,_,z⟩ | ⟨_,e1⟩
  ·cases z
  ·rcases dR e2 with⟨_,_,z⟩ | ⟨_,e2⟩
   ·cases z
   ·exact fr.nd j k a d1 d2 e1 e2
 ·rcases ma h with h | h
  ·exact fr.new a d1 h
  ·cases h
theorem Fr.setu(fr:Fr K HZ F σ H ρ){o:Option V}:Fr K HZ F (σ.set i o) H (ρ.set i .un):=by
 have wk:∀a,MM F (ρ.set i .un) a->MM F ρ a:=λa h=>by
  rcases MM.set a h with h | ⟨_,h⟩
  ·exact h
  ·cases h
 refine⟨by simp[fr.len],λj s e=>?_,λj k a d1 d2 e1 e2=>?_,λa d1 h=>?_,fr.same,fr.old⟩
 ·rcases dR e with⟨rfl,hl,rfl⟩ | ⟨ne,e⟩
  ·trivial
  ·rw[gc ne];exact(fr.sl j s e).weak wk
 ·rcases dR e1 with⟨_,_,z⟩ | ⟨_,e1⟩
  ·cases z
  ·rcases dR e2 with⟨_,_,z⟩ | ⟨_,e2⟩
   ·cases z
   ·exact fr.nd j k a d1 d2 e1 e2
 ·rcases ma h with h | h
  ·exact fr.new a d1 h
  ·cases h
theorem xN.gen{M M':af->Prop}{o:Option (Option V)}{s:Sl}(G:Gen K M M' H H')(hs:∀a d,s=.own a d -> ∀u,H a=aa u->H' a=aa u)(h:xN K M H o s):xN K M' H' o s:=by
 cases s with
 |un=>trivial
 |v d=>obtain⟨x,e,r⟩:=h;exact⟨x,e,r.gen G⟩
 |own a d=>exact⟨h.1,h.2.gen G (hs a d rfl)⟩
theorem Fr.seto(fr:Fr K HZ F σ H ρ)(S:aO H H'){d:Dv}(ha:H a=ar)(o:fE K (λb=>MM F ρ b \/ b=a) H' a d):Fr K HZ F (σ.set i (aa (.ref a))) H' (ρ.set i (.own a d)):=by
 have wk:∀b,MM F (ρ.set i (.own a d)) b->MM F ρ b \/ b=a:=λb h=>by
  rcases MM.set b h with h | ⟨_,h⟩
  ·exact .inl h
  ·cases h;exact .inr rfl
 have G:Gen K (MM F ρ) (MM F (ρ.set i (.own a d))) H H':=((Gen.fresh ha).trans (.mono S)).trans (.weak wk);have ne:∀(j:Nat) (b:af) (d':Dv),ρ[j]?=aa (Sl.own b d')->b≠a:=λj b d' e z=>by
  have:=(fr.sl j _ e).2.mut;obtain⟨u,hu,_⟩:=this;rw[z,ha] at hu;cases hu
 refine⟨by simp[fr.len],λj s e=>?_,λj k b d1 d2 e1 e2=>?_,λb d1 h=>?_,fr.same.trans S,fr.old⟩
 ·rcases dR e with⟨rfl,hl,rfl⟩ | ⟨hne,e⟩
  ·exact⟨by rw[jw (by rw[fr.len];exact hl)],o.weak wk⟩
  ·rw[gc hne];exact(fr.sl j s e).gen G λb d' _ u hu=>S _ _ hu
 ·rcases dR e1 with⟨h1,_,z⟩ | ⟨_,e1⟩
  ·rcases dR e2 with⟨h2,_,z'⟩ | ⟨_,e2⟩
   ·right
   ·cases z;exact absurd rfl (ne k _ _ e2)
  ·rcases dR e2 with⟨h2,_,z'⟩ | ⟨_,e2⟩
   ·cases z';exact absurd rfl (ne j _ _ e1)
   ·exact fr.nd j k b d1 d2 e1 e2
 ·rcases ma h with h | h
  ·exact fr.new b d1 h
  ·cases h;exact fr.same.free ha
theorem Fr.write(fr:Fr K HZ F σ H ρ){i:Nat}{a:af}{d d':Dv}{o:HO}(hi:ρ[i]?=aa (.own a d))(n:fE K (MM F ρ) (upd H a o) a d'):Fr K HZ F σ (upd H a o) (ρ.set i (.own a d')):=by
 have mem:Sl.own a d∈ρ:=fh hi;have wk:∀b,MM F (ρ.set i (.own a d')) b->MM F ρ b:=λb h=>by
  rcases MM.set b h with h | ⟨_,h⟩
  ·exact h
  ·cases h;exact .inr ⟨d,mem⟩
 obtain⟨hs,ow⟩:=fr.sl i _ hi;obtain⟨u,hu,mu⟩:=ow.mut;have mu':Fx (H a):=by rw[hu];exact mu
 have G:Gen K (MM F ρ) (MM F (ρ.set i (.own a d'))) H (upd H a o):=(Gen.write (.inr ⟨d,mem⟩) mu').trans (.weak wk);refine⟨by simp[fr.len],λj s e=>?_,λj k b d1 d2 e1 e2=>?_,λb d1 h=>?_,λb q e=>?_,fr.old⟩
 ·rcases dR e with⟨rfl,hl,rfl⟩ | ⟨hne,ej⟩
  ·exact⟨hs,n.weak wk⟩
  ·refine(fr.sl j s ej).gen G λb d2 es u hu=>?_;subst es;rw[bB λz=>hne ?_]
   ·exact hu
   ·subst z;exact fr.nd i j _ d d2 hi ej
 ·rcases dR e1 with⟨h1,_,z⟩ | ⟨_,e1⟩
  ·cases z;rcases dR e2 with⟨h2,_,z'⟩ | ⟨_,e2⟩
   ·right
   ·rw[<- h1];exact fr.nd i k _ d d2 hi e2
  ·rcases dR e2 with⟨h2,_,z'⟩ | ⟨_,e2⟩
   ·cases z';rw[<- h2];exact fr.nd j i _ d1 d e1 hi
   ·exact fr.nd j k b d1 d2 e1 e2
 ·rcases ma h with h | h
  ·exact fr.new b d1 h
  ·cases h;exact fr.new _ d mem
 ·rw[bB ?_]
  ·exact fr.same b q e
  ·intro z;subst z;rw[fr.new _ d mem] at e;cases e
noncomputable def freeze(i:Nat)(ρ:List Sl):List Sl:=match ρ[i]? with
 |some (.own _ d)=>ρ.set i (.v d)
 |_=>ρ
theorem Fr.freeze(fr:Fr K HZ F σ H ρ)(i:Nat):Fr K HZ F σ H (freeze i ρ):=by
 unfold Z.freeze;split
 ·rename_i a d hi;have mem:Sl.own a d∈ρ:=fh hi;obtain⟨hs,ow⟩:=fr.sl i _ hi;have nF:¬F a:=λz=>fr.old.f a z (fr.new a d mem);have wk:∀b,MM F (ρ.set i (.v d)) b->MM F ρ b:=λb h=>by
   rcases MM.set b h with h | ⟨_,h⟩
   ·exact h
   ·cases h
  have nM:¬MM F (ρ.set i (.v d)) a:=by
   rintro(h | ⟨d',h⟩)
   ·exact nF h
   ·obtain⟨j,e⟩:=qk.mp h;rcases dR e with⟨_,_,z⟩ | ⟨ne,e⟩
    ·cases z
    ·exact ne (fr.nd i j a d d' hi e)
  refine⟨by simp[fr.len],λj s e=>?_,λj k b d1 d2 e1 e2=>?_,λb d1 h=>?_,fr.same,fr.old⟩
  ·rcases dR e with⟨rfl,hl,rfl⟩ | ⟨hne,e⟩
   ·exact⟨_,hs,(ow.weak wk).rep nM⟩
   ·exact(fr.sl j s e).weak wk
  ·rcases dR e1 with⟨_,_,z⟩ | ⟨_,e1⟩
   ·cases z
   ·rcases dR e2 with⟨_,_,z⟩ | ⟨_,e2⟩
    ·cases z
    ·exact fr.nd j k b d1 d2 e1 e2
  ·rcases ma h with h | h
   ·exact fr.new b d1 h
   ·cases h
 ·exact fr
section
variable {pos ZT:lv}{t:cD}
noncomputable def c9(i:Nat)(te:dE):cD:=λE ρ=>te ρ λr=>match r with
 | .v d=>E.nx (ρ.set i (.v d))
 | .nw d=>E.nx (ρ.set i (.v d))
 | .ow _ _=>False
noncomputable def jA(i:Nat)(te:dE):cD:=λE ρ=>te ρ λr=>match r with
 | .v d=>E.nx (ρ.set i (.v d))
 | .nw d=>∀a,E.nx (ρ.set i (.own a d))
 | .ow _ _=>False
noncomputable def J8(i:Nat)(t:cD):cD:=λE ρ=>t E (freeze i ρ)
theorem OS(i:Nat)(h:QSs X sts t):QSs X sts (J8 i t):=
 ⟨λE E' ρ w q=>h.mono _ _ _ w q,λHZ F=>uV (h.run HZ F) λD σ H zq6=>by obtain⟨ρ,E,fr,q,en⟩:=zq6;exact⟨_,E,fr.freeze i,q,en⟩⟩
theorem cO{x:bw}(hN:X.N.Nodup)(hi:X.N[i]?=aa x)(hx:G1 X.env.scope x)(he:QE X e te)(hs:autoParam (ix e (aa (.Name x ZT)) pos.line X.env=jo ao) c8._auto_1)(hf:autoParam (X.fn x=aj \/ X.env.scope.names.lookup x=aa .local) Fz._auto_1):
  QS X (.Assign [.Name x ZT] e pos) (c9 i te):=by
 refine⟨λE E' ρ w h=>he.mono _ _ _ (λr q=>?_) h,λHZ F=>dW (GW hN hi hx (he.run HZ F) hs hf) λD σ H ⟨ρ,E,fr,h,en⟩=>?_⟩
 ·cases r with
  |v d=>exact w.nx _ q
  |nw d=>exact w.nx _ q
  |ow a d=>exact q
 ·refine he.step fr h λr x H1 q S1 r1=>?_;cases r with
  |v d=>exact en.nx _ _ _ ((fr.mono S1).setv r1) q
  |nw d=>exact en.nx _ _ _ ((fr.mono S1).setv (r1.rep (λa m=>fr.dom m) rfl)) q
  |ow a d=>exact q.elim
theorem iF{x:bw}(hN:X.N.Nodup)(hi:X.N[i]?=aa x)(hx:G1 X.env.scope x)(he:QE X e te)(hs:autoParam (ix e (aa (.Name x ZT)) pos.line X.env=jo ao) c8._auto_1)(hf:autoParam (X.fn x=aj \/ X.env.scope.names.lookup x=aa .local) Fz._auto_1):
  QS X (.Assign [.Name x ZT] e pos) (jA i te):=by
 refine⟨λE E' ρ w h=>he.mono _ _ _ (λr q=>?_) h,λHZ F=>dW (GW hN hi hx (he.run HZ F) hs hf) λD σ H ⟨ρ,E,fr,h,en⟩=>?_⟩
 ·cases r with
  |v d=>exact w.nx _ q
  |nw d=>exact λa=>w.nx _ (q a)
  |ow a d=>exact q
 ·refine he.step fr h λr x H1 q S1 r1=>?_;cases r with
  |v d=>exact en.nx _ _ _ ((fr.mono S1).setv r1) q
  |nw d=>
   obtain⟨a,rfl,ha,o⟩:=r1;exact en.nx _ _ _ (fr.seto S1 ha o) (q a)
  |ow a d=>exact q.elim
noncomputable def Em(i:Nat)(p:Dv->Dv->(R->Prop)->Prop)(te:dE):cD:=λE ρ=>match ρ[i]? with
 |some (.v d)=>te ρ λr=>p d r.d λz=>match z with
  | .v d'=>E.nx (ρ.set i (.v d'))
  |_=>False
 |_=>False
noncomputable def UM(X:Cx)(op:VU)(p:Dv->Dv->(R->Prop)->Prop):Prop:=xO X (We op) p
theorem OU{x:bw}{op:VU}{p:Dv->Dv->(R->Prop)->Prop}(ho:UM X op p)(hN:X.N.Nodup)(hi:X.N[i]?=aa x)(hx:G1 X.env.scope x)(he:QE X e te)(hf:autoParam (X.fn x=aj \/ X.env.scope.names.lookup x=aa .local) Fz._auto_1):
  QS X (.AugAssign (.Name x ZT) op e pos) (Em i p te):=by
 obtain⟨mo,r2,hR,hr⟩:=ho;refine⟨λE E' ρ w h=>?_,λHZ F=>dW (M9 hN hi hx (he.run HZ F) (λpk s σ H x y v u Q I rx ry h=>hR pk s σ H x y v u Q I rx ry h) hf) λD σ H ⟨ρ,E,fr,h,en⟩=>?_⟩
 ·unfold Em at *;split at h
  ·refine he.mono _ _ _ (λr q=>mo _ _ _ _ (λz q=>?_) q) h;split at q
   ·exact w.nx _ q
   ·exact q
  ·exact h
 ·unfold Em at h;split at h
  ·rename_i d ed;obtain⟨x,ex,rx⟩:=fr.sl i _ ed;refine⟨x,ex,he.step fr h λr y H1 q S1 r1=>?_⟩;refine hr (MM F ρ) (Ae ρ) H1 x y _ _ _ (.inl (rx.mono S1)) r1.c (mo _ _ _ _ (λz q z' H' S' rz=>?_) q);split at q
   ·exact en.nx _ _ _ (((fr.mono S1).mono S').setv rz) q
   ·exact q.elim
  ·exact h.elim
noncomputable def nW(i:Nat)(te:dE):cD:=λE ρ=>match ρ[i]? with
 |some (.own a (.lst xs))=>te ρ λr=>(r.free=aj/\xs.length<CN)/\E.nx (ρ.set i (.own a (.lst (xs++[r.d]))))
 |_=>False
theorem vY(h:n<CN):n<bv:=fj h (jB (bt _))
theorem rW{x:bw}{p1 p2 p3:lv}(hv:PE X (.Name x p1) (zA i))(he:QE X e te)(hs:autoParam (ix (.Call (.Attribute (.Name x p1) "append" p2) [e] [] p3) ar pos.line X.env=jo ao) c8._auto_1)
  (a00:autoParam (rq (.Name x p1) "append" X.env (gn (.Name x p1) X.env)=gn (.Name x p1) X.env) c8._auto_1)
  (hfew:autoParam (((iu p3 (av [e] X.env)).all (λx=>!x.1)&&(xz p3 (sx [] X.env)).all (λx=>x.1.isSome)
   && decide ([e].length+([]:List zg).length+(if ([]:List zg).isEmpty then 0 else 1)<30))=aj) c8._auto_1)
  (a01:autoParam ((p2.endLine==p3.line)=aj) c8._auto_1) (hst:autoParam (av [e] X.env=(ao,gn e X.env)::av [] X.env) c8._auto_1) (ZW:autoParam ((iu p3 (av [] X.env)).any (·.1)=ao) c8._auto_1):
  QS X (.Expr (.Call (.Attribute (.Name x p1) "append" p2) [e] [] p3) pos) (nW i te):=by
 refine⟨λE E' ρ w h=>?_,λHZ F=>dW (uJ (Gp Va PySem.F.slot_list_append PySem.F.type_list_append yA hv (iU (he.run HZ F) qE hst) a00 hfew a01 hst ZW) hs) λD σ H ⟨ρ,E,fr,h,en⟩=>?_⟩
 ·unfold nW at *;split at h
  ·exact he.mono _ _ _ (λr q=>⟨q.1,w.nx _ q.2⟩) h
  ·exact h
 ·unfold nW at h;split at h
  ·rename_i a xs hx;obtain⟨hs1,vs,hv1,rv1⟩:=fr.sl i _ hx;refine⟨_,hs1,.inl ⟨rfl,_,gK.of hv1⟩,he.step fr h λr y H1 q S1 r1=>?_⟩;obtain⟨⟨qf,ql⟩,q2⟩:=q;have rep:=r1.rep (λa m=>fr.dom m) qf;have hv2:=S1 _ _ hv1;refine⟨a,vs,y,rfl,rfl,hv2,by rw[rv1.length];exact vY ql,?_⟩;refine en.nx _ _ _ ((fr.mono S1).write (d':=.lst (xs++[r.d])) hx ⟨_,bS,?_⟩) q2;have G:Gen X.K (MM F ρ) (MM F ρ) H1 (upd H1 a (.lst (vs++[y]))):=Gen.write (.inr ⟨_,fh hx⟩) (by rw[hv2];trivial);exact((rv1.mono S1).append (.cons rep .nil)).gen G
  ·exact h.elim
end
open Classical in
noncomputable def prot(H:Hp)(ρ:List Sl):Hp:=λb=>if ∃d,Sl.own b d∈ρ then ar else H b
section
variable {σ':St}{ρ':List Sl}
theorem vM{d:Dv}(h:Sl.own b d∈ρ):prot H ρ b=ar:=by unfold prot;rw[ZE ⟨d,h⟩]
theorem cL(h:¬ ∃d,Sl.own b d∈ρ):prot H ρ b=H b:=by unfold prot;rw[Zg h]
theorem p6(h:prot H ρ b=aa o):H b=aa o:=by
 by_cases c:∃d,Sl.own b d∈ρ
 ·obtain⟨d,c⟩:=c;rw[vM c] at h;cases h
 ·rw[cL c] at h;exact h
theorem Es(h:prot H ρ b=ar):(∃d,Sl.own b d∈ρ) \/ H b=ar:=by
 by_cases c:∃d,Sl.own b d∈ρ
 ·exact .inl c
 ·rw[cL c] at h;exact .inr h
theorem Fr.prot(fr:Fr K HZ F σ H ρ):Fr K (prot H ρ) F σ H ρ:=by
 refine⟨fr.len,fr.sl,fr.nd,λa d h=>vM h,λb o h=>p6 h,λa h=>?_,λP q z=>?_⟩
 ·rw[cL ?_]
  ·exact fr.dom (.inl h)
  ·rintro⟨d,c⟩;exact fr.old.f a h (fr.new a d c)
 ·have e:=fr.old.t P q z;rw[cL ?_]
  ·exact fr.same _ _ e
  ·rintro⟨d,c⟩;rw[fr.new P d c] at e;cases e
theorem Fr.free_of(fr:Fr K HZ F σ H ρ)(h:Z.prot H ρ b=ar):HZ b=ar:=by
 rcases Es h with⟨d,c⟩ | h
 ·exact fr.new b d c
 ·exact fr.same.free h
theorem Fr.same_of(fr:Fr K HZ F σ H ρ)(S:aO (Z.prot H ρ) H'):aO HZ H':=λb o e=>by
 refine S b o ?_;rw[cL ?_]
 ·exact fr.same b o e
 ·rintro⟨d,c⟩;rw[fr.new b d c] at e;cases e
theorem Fr.unprot(fr:Fr K HZ F σ H ρ)(g:Fr K (Z.prot H ρ) F σ' H' ρ'):Fr K HZ F σ' H' ρ':=
 ⟨g.len,g.sl,g.nd,λa d h=>fr.free_of (g.new a d h),fr.same_of g.same,fr.old⟩
theorem Fr.gen(fr:Fr K HZ F σ H ρ)(g:Fr K (Z.prot H ρ) F σ' H' ρ'):Gen K (MM F ρ) (MM F ρ') H H':=by
 have no:∀a o,H a=aa o -> ¬MM F ρ a->Z.prot H ρ a=aa o:=λa o e m=>by
  rw[cL λc=>m (.inr c)];exact e
 have no2:∀a o,H a=aa o -> ¬Fx (aa o)->Z.prot H ρ a=aa o:=λa o e m=>by
  rw[cL ?_]
  ·exact e
  ·rintro⟨d,c⟩;obtain⟨_,_,_,ow⟩:=fr.at_own c;obtain⟨u,hu,mu⟩:=ow.mut;rw[e] at hu;cases hu;exact m mu
 refine⟨λa o e mu m=>⟨g.same _ _ (no a o e m),?_⟩,λa xs e=>g.same _ _ (no2 a _ e λz=>z),λa ns e=>?_,λa o u e=>g.same _ _ (no2 a _ e λz=>z)⟩
 ·rintro(h | ⟨d,h⟩)
  ·exact m (.inl h)
  ·have:=g.new a d h;rw[no a o e m] at this;cases this
 ·rcases e with⟨o,e⟩ | e
  ·exact .inl ⟨o,g.same _ _ (no2 a _ e λz=>z)⟩
  ·exact .inr e
theorem Ent.prot{E:En}{D:Ends}(fr:Fr K HZ F σ H ρ)(en:Ent K HZ F E D):Ent K (Z.prot H ρ) F E D:=by
 refine⟨λρ' σ' H' g h=>en.nx _ _ _ (fr.unprot g) h,λρ' σ' H' g h=>en.bk _ _ _ (fr.unprot g) h,λρ' σ' H' g h=>en.ct _ _ _ (fr.unprot g) h,λr x H' S rr h=>en.rt r x H' (fr.same_of S) ?_ h⟩;cases r with
 |v d=>exact rr
 |ow a d=>exact rr
 |nw d=>obtain⟨a,e,n,o⟩:=rr;exact⟨a,e,fr.free_of n,o⟩
end
noncomputable abbrev xM:=List Sl->(List Dv->List (af×List Dv)->Prop)->Prop
noncomputable def guard(ogs:List (af×List Dv))(ρ:List Sl):Prop:=∀p∈ogs,Sl.own p.1 (.lst p.2)∈ρ
noncomputable def wS(K:ap)(P:Hp)(M:af->Prop)(H1:Hp)(J:It)(ds:List Dv)(ogs:List (af×List Dv)):Prop:=
 ∀(i:Nat) (H':Hp) (M':af->Prop),aO P H'->Gen K M M' H1 H'->(∀p∈ogs,fE K M' H' p.1 (.lst p.2)) ->
  (∀d,ds[i]?=aa d->J.go i H' /\ ∀y H'',J.yld i H' y H''->aO H' H''/\Rep K M' H'' y d)/\(ds.length<=i->J.stop i H')
structure QI(X:Cx)(tg iter:Expr)(ti:xM):Prop where
 mono:∀(ρ:List Sl) (Q Q':List Dv->List (af×List Dv)->Prop),(∀ds g,Q ds g->Q' ds g)->ti ρ Q->ti ρ Q'
 run:∀(HZ:Hp) (F:af->Prop),∃wi,PI X tg iter wi /\ ∀(σ:St) (H:Hp) (ρ:List Sl) (R:It->Hp->Prop),Fr X.K HZ F σ H ρ ->
  ti ρ (λds ogs=>∀J H1,aO H H1->guard ogs ρ->wS X.K (prot H1 ρ) (MM F ρ) H1 J ds ogs->R J H1)->wi σ H R
variable {P:Hp}{l:Expr}{lo:Int}
section
variable {tl:dE}
noncomputable def PL(K:ap)(tl:TE):TI:=λσ H R=>tl σ H λx H1=>∃a,x=.ref a/\(((∃xs,gK K H1 a xs)/\R (Q6 K a) H1) \/ ((∃xs,pL K H1 a xs)/\R (Tf K a) H1))
theorem MB{tl:TE}(hl:PE X l tl):PI X tg l (PL X.K tl):=by
 intro pk s σ H R I h;refine thn (hl pk s σ H _ I h) λv s1 zz=>?_;obtain⟨x,H1,I1,r1,q1⟩:=zz;obtain⟨a,e,q1⟩:=q1;subst e;cases r1;rcases q1 with⟨⟨xs,hq⟩,q⟩ | ⟨⟨xs,hq⟩,q⟩
 ·obtain⟨its,rv,p,hz⟩:=I1.list hq;refine WW p.isList ?_;refine⟨s1.heap.objs.size,[s1.heap.objs.size],_,_,H1,rfl,I1.kept (t':=s1.toks) λb o e=>aq _ e,EX a _,⟨_,cm _ rfl,rfl,rfl⟩,λb hb=>?_,q⟩;have e:b=s1.heap.objs.size:=by simpa using hb
  subst e;exact I1.fpOk (bt _) (I1.hok.fresh (bt _))
 ·obtain⟨its,rv,p,hz⟩:=I1.tuple hq;refine wpAny_pyIter_tuple (show s1.heap.IsTuple a its.toArray from p) ?_;refine⟨s1.heap.objs.size,[s1.heap.objs.size],_,_,H1,rfl,I1.kept (t':=s1.toks) λb o e=>aq _ e,CU a _,⟨_,cm _ rfl,rfl,rfl⟩,λb hb=>?_,q⟩;have e:b=s1.heap.objs.size:=by simpa using hb
  subst e;exact I1.fpOk (bt _) (I1.hok.fresh (bt _))
noncomputable def kI(tl:dE):xM:=λρ Q=>tl ρ λr=>match r with
 | .v (.lst ds)=>Q ds []
 | .nw (.lst ds)=>Q ds []
 | .ow a (.lst ds)=>Q ds [(a,ds)]
 | .v (.tup ds)=>Q ds []
 | .v (.scr ns)=>Q (ns.map .int) []
 |_=>False
theorem yE{xs:List V}(hP:P a=aa (.lst xs))(r:Reps K M H1 xs ds):wS K P M H1 (Q6 K a) ds []:=by
 intro i H' M' S G _;have h':=S _ _ hP;refine⟨λd e=>?_,λh=>⟨xs,gK.of h',by rw[r.length];exact h⟩⟩;obtain⟨x,hx,rx⟩:=r.get e;refine⟨⟨xs,x,gK.of h',hx⟩,λy H'' zz=>?_⟩;obtain⟨e1,e2⟩:=zz;subst e1;have:=e2 xs (gK.of h');rw[hx] at this;cases this;exact⟨aO.refl _,rx.gen G⟩
theorem Hr:wS K P M H1 (Q6 K a) ds [(a,ds)]:=by
 intro i H' M' S G ow;obtain⟨xs,h',r⟩:=ow (a,ds) (by simp);refine⟨λd e=>?_,λh=>⟨xs,gK.of h',by rw[r.length];exact h⟩⟩;obtain⟨x,hx,rx⟩:=r.get e;refine⟨⟨xs,x,gK.of h',hx⟩,λy H'' zz=>?_⟩;obtain⟨e1,e2⟩:=zz;subst e1;have:=e2 xs (gK.of h');rw[hx] at this;cases this;exact⟨aO.refl _,rx⟩
theorem Ho{xs:List V}(hP:P a=aa (.tup xs))(r:Reps K M H1 xs ds):wS K P M H1 (Tf K a) ds []:=by
 intro i H' M' S G _;have h':=S _ _ hP;refine⟨λd e=>?_,λh=>⟨xs,pL.of h',by rw[r.length];exact h⟩⟩;obtain⟨x,hx,rx⟩:=r.get e;refine⟨⟨xs,x,pL.of h',hx⟩,λy H'' zz=>?_⟩;obtain⟨e1,e2⟩:=zz;subst e1;have:=e2 xs (pL.of h');rw[hx] at this;cases this;exact⟨aO.refl _,rx.gen G⟩
theorem Hq(hP:Kr K P a ns):wS K P M H1 (Q6 K a) (ns.map .int) []:=by
 intro i H' M' S G _;have h':=(aO.scr S hP).sq;refine⟨λd e=>?_,λh=>⟨_,h',by simpa using h⟩⟩;have r:Reps K M' H' (ns.map V.int) (ns.map .int):=Reps.ints ns;obtain⟨x,hx,rx⟩:=r.get e;refine⟨⟨_,x,h',hx⟩,λy H'' zz=>?_⟩;obtain⟨e1,e2⟩:=zz;subst e1;have:=e2 _ h';rw[hx] at this;cases this;exact⟨aO.refl _,rx⟩
theorem Dz(fr:Fr K HZ F σ H ρ)(e:H a=aa o)(m:¬Fx (aa o)):¬ ∃d,Sl.own a d∈ρ:=by
 rintro⟨d,c⟩;obtain⟨_,_,_,ow⟩:=fr.at_own c;obtain⟨u,hu,mu⟩:=ow.mut;rw[e] at hu;cases hu;exact m mu
theorem gG(h:QE X l tl):QI X tg l (kI tl):=by
 refine⟨λρ Q Q' w q=>h.mono _ _ _ (λr q=>?_) q,λHZ F=>⟨_,MB (h.run HZ F),λσ H ρ R fr q=>?_⟩⟩
 ·unfold kI at *;split at q<;>first | exact w _ _ q | exact q
 ·refine h.step fr q λr x H1 q S1 r1=>?_;have fr1:=fr.mono S1;split at q
  ·rename_i ds;cases r1 with
   |lst e m rs=>
    exact⟨_,rfl,.inl ⟨⟨_,gK.of e⟩,q _ H1 S1 (by intro p hp;simp at hp) (yE (by rw[cL λc=>m (.inr c)];exact e) rs)⟩⟩
  ·rename_i ds;obtain⟨a,rfl,n,xs,e,rs⟩:=r1;exact⟨_,rfl,.inl ⟨⟨_,gK.of e⟩,q _ H1 S1 (by intro p hp;simp at hp) (yE (by rw[cL λc=>fr.fresh n (.inr c)];exact e) (rs.weak λb z=>.inl z))⟩⟩
  ·rename_i a ds;obtain⟨rfl,m,xs,e,rs⟩:=r1;exact⟨_,rfl,.inl ⟨⟨_,gK.of e⟩,q _ H1 S1 (by intro p hp;simp at hp;subst hp;exact m) Hr⟩⟩
  ·rename_i ds;cases r1 with
   |tup e rs=>exact⟨_,rfl,.inr ⟨⟨_,pL.of e⟩,q _ H1 S1 (by intro p hp;simp at hp) (Ho (by rw[cL (Dz fr1 e λz=>z)];exact e) rs)⟩⟩
  ·rename_i ns;cases r1 with
   |scr e=>
    refine⟨_,rfl,.inl ⟨⟨_,e.sq⟩,q _ H1 S1 (by intro p hp;simp at hp) (Hq ?_)⟩⟩;rcases e with⟨o,e⟩ | e
    ·exact .inl ⟨o,by rw[cL (Dz fr1 e λz=>z)];exact e⟩
    ·exact .inr e
  ·exact q.elim
noncomputable def aV(lo:Int)(n:Nat):List Dv:=(gy n).map λ(k:Nat)=>Dv.int (lo+(k:Int))
theorem Cp{d:Dv}(h:(aV lo n)[i]?=aa d):i<n/\d=.int (lo+i):=by
 unfold aV at h;rw[dh] at h;cases e:(gy n)[i]? with
 |none=>rw[e] at h;cases h
 |some k=>
  rw[e] at h;obtain⟨h1,h2⟩:=cg.mp e;simp at h1 h2;subst h2;exact⟨h1,(Option.some.inj h).symm⟩
theorem w5:wS K P M H1 (Q5 lo n) (aV lo n) []:=by
 intro i H' M' S G _;refine⟨λd e=>?_,λh=>(show n<=i by simpa [aV] using h)⟩;obtain⟨h1,h2⟩:=Cp e;subst h2;refine⟨h1,λy H'' zz=>?_⟩;obtain⟨e1,e2⟩:=zz;subst e1 e2;exact⟨aO.refl _,.int _⟩
noncomputable def dH(ts:lU):xM:=λρ Q=>ts ρ λrs=>match rs.map R.d with
 | [.int j]=>(-(2 ^ 62)<=j/\j<2 ^ 62)/\Q (aV 0 j.toNat) []
 |_=>False
noncomputable def gU(ts:lU):xM:=λρ Q=>ts ρ λrs=>match rs.map R.d with
 | [.int i,.int j]=>(-(2 ^ 62)<=i/\i<2 ^ 62 /\ -(2 ^ 62)<=j/\j<2 ^ 62)/\Q (aV i (j-i).toNat) []
 |_=>False
theorem fG{xs:List V}{d:Dv}(h:yY K M H xs [d]):∃x,xs=[x]/\eD K M H x d:=by
 cases h with
 |cons a t=>cases t;exact⟨_,rfl,a⟩
theorem DV{xs:List V}{d d':Dv}(h:yY K M H xs [d,d']):∃x y,xs=[x,y]/\eD K M H x d/\eD K M H y d':=by
 cases h with
 |cons a t=>
  obtain⟨y,rfl,b⟩:=fG t;exact⟨_,_,rfl,a,b⟩
theorem cW{a:Expr}{pos:lv}(hg:Gl X "range")(hm:X.mg "range" = ar)(ha:QA X [a] ts)(hs:autoParam (av [a] X.env=[(ao,gn a X.env)]) c8._auto_1):QI X tg (.Call (.Name "range" p) [a] [] pos) (dH ts):=by
 refine⟨λρ Q Q' w q=>ha.mono _ _ _ (λr q=>?_) q,λHZ F=>⟨_,Ew hg hm (ha.run HZ F) hs,λσ H ρ R fr q=>?_⟩⟩
 ·split at q
  ·exact⟨q.1,w _ _ q.2⟩
  ·exact q
 ·refine ha.step fr q λrs xs H1 q S1 r1=>?_;split at q
  ·rename_i j e;have c:=r1.c;rw[e] at c;obtain⟨x,rfl,cx⟩:=fG c;obtain rfl:=cx.int;exact⟨j,rfl,q.1.1,q.1.2,q.2 _ H1 S1 (by intro p hp;simp at hp) w5⟩
  ·exact q.elim
theorem g7{a b:Expr}{pos:lv}(hg:Gl X "range")(hm:X.mg "range" = ar)(ha:QA X [a,b] ts)(hs:autoParam (av [a,b] X.env=[(ao,gn a X.env),(ao,gn b X.env)]) c8._auto_1)(hs2:autoParam (av [b] X.env=[(ao,gn b X.env)]) c8._auto_1):
  QI X tg (.Call (.Name "range" p) [a,b] [] pos) (gU ts):=by
 refine⟨λρ Q Q' w q=>ha.mono _ _ _ (λr q=>?_) q,λHZ F=>⟨_,Ev hg hm (ha.run HZ F) hs hs2,λσ H ρ R fr q=>?_⟩⟩
 ·split at q
  ·exact⟨q.1,w _ _ q.2⟩
  ·exact q
 ·refine ha.step fr q λrs xs H1 q S1 r1=>?_;split at q
  ·rename_i i j e;have c:=r1.c;rw[e] at c;obtain⟨x,y,rfl,cx,cy⟩:=DV c;obtain rfl:=cx.int;obtain rfl:=cy.int;exact⟨i,j,rfl,q.1,q.2 _ H1 S1 (by intro p hp;simp at hp) w5⟩
  ·exact q.elim
end
noncomputable abbrev Ac:=Dv->List Sl->(List Sl->Prop)->Prop
structure QG(X:Cx)(tg:Expr)(k:Nat)(g:Ac):Prop where
 mono:∀d ρ (Q Q':List Sl->Prop),(∀ρ,Q ρ->Q' ρ)->g d ρ Q->g d ρ Q'
 agree:∀d ρ (Q:List Sl->Prop),g d ρ Q->g d ρ λρ1=>Q ρ1/\ρ1.length=ρ.length /\ ∀j,k<=j->ρ1[j]?=ρ[j]?
 run:∃t,PG X tg t /\ ∀(HZ:Hp) (F:af->Prop) (v:V) (d:Dv) (σ:St) (H:Hp) (ρ:List Sl) (Q:St->Hp->Prop),Fr X.K HZ F σ H ρ->Rep X.K (MM F ρ) H v d ->
  g d ρ (λρ1=>∀σ1,Fr X.K HZ F σ1 H ρ1->(∀j,k<=j->σ1[j]?=σ[j]?)->Q σ1 H)->t v σ H Q
noncomputable def gN(i:Nat):Ac:=λd ρ Q=>Q (ρ.set i (.v d))
noncomputable def nV:List Nat->List Dv->List Sl->List Sl
 |i::is,d::ds,ρ=>nV is ds (ρ.set i (.v d))
 |_,_,ρ=>ρ
noncomputable def gT(is:List Nat):Ac:=λd ρ Q=>match d with
 | .tup ds=>ds.length=is.length/\Q (nV is ds ρ)
 |_=>False
noncomputable def Sw:List Nat->LR
 | []=>PU
 |i::is=>LF (Bu i) (Sw is)
theorem vE:∀(is:List Nat) (ds:List Dv) (ρ:List Sl),(nV is ds ρ).length=ρ.length
 | [],_,_=>rfl
 |_::_,[],_=>rfl
 |i::is,d::ds,ρ=>by rw[nV,vE is ds];simp
theorem vF{k:Nat}:∀(is:List Nat) (ds:List Dv) (ρ:List Sl),(∀i∈is,i<k) -> ∀j,k<=j->(nV is ds ρ)[j]?=ρ[j]?
 | [],_,_,_,_,_=>rfl
 |_::_,[],_,_,_,_=>rfl
 |i::is,d::ds,ρ,h,j,hj=>by
  have:=h i (by simp);rw[nV,vF is ds _ (λi hi=>h i (by simp[hi])) j hj,gc ⋯]
section
variable {pos:lv}
theorem f6{k:Nat}{x:bw}(hN:X.N.Nodup)(hi:X.N[i]?=aa x)(hx:G1 X.env.scope x)(hk:autoParam (i<k) lS._auto_1)(hf:autoParam (X.fn x=aj \/ X.env.scope.names.lookup x=aa .local) Fz._auto_1):QG X (.Name x pos) k (gN i):=by
 refine⟨λd ρ Q Q' w q=>w _ q,λd ρ Q q=>⟨q,by simp,λj hj=>by rw[gc ⋯]⟩,_,dZ hN hi hx hf,λHZ F v d σ H ρ Q fr r q=>?_⟩;exact q _ (fr.setv r) λj hj=>by rw[gc ⋯]
theorem EG{K:ap}{HZ:Hp}{F:af->Prop}{H:Hp}{k:Nat}:∀(is:List Nat) (ds:List Dv) (vs:List V) (σ:St) (ρ:List Sl) (Q:St->Hp->Prop),(∀i∈is,i<k)->ds.length=is.length->Fr K HZ F σ H ρ->Reps K (MM F ρ) H vs ds ->
  (∀σ1,Fr K HZ F σ1 H (nV is ds ρ)->(∀j,k<=j->σ1[j]?=σ[j]?)->Q σ1 H)->Sw is vs σ H Q
 | [],[],_,σ,ρ,Q,_,_,fr,.nil,q=>⟨rfl,q σ fr λ_ _=>rfl⟩
 |i::is,d::ds,_,σ,ρ,Q,hk,hl,fr,.cons (x:=x) a r,q=>by
  refine⟨x,_,rfl,?_⟩;have wk:∀b,MM F (ρ.set i (.v d)) b->MM F ρ b:=λb h=>by
   rcases MM.set b h with h | ⟨_,h⟩
   ·exact h
   ·cases h
  refine EG is ds _ _ (ρ.set i (.v d)) Q (λi hi=>hk i (by simp[hi])) (by simpa using hl) (fr.setv a) (r.weak wk) λσ1 f1 e1=>q σ1 f1 λj hj=>?_;have:=hk i (by simp);rw[e1 j hj,gc ⋯]
theorem Cu{x1 k:Nat}{is:List Nat}(hc:X.calm=aj)(h:Q4 X es (Sw is))(hk:autoParam (∀i∈is,i<k) lS._auto_1)(hl:autoParam (is.length=n) c8._auto_1)
  (hn:autoParam ((we es X.env).length=n) c8._auto_1) (hst:autoParam ((we es X.env).findIdx? (·.1)=ar) c8._auto_1):QG X (.Tuple es x1 pos) k (gT is):=by
 refine⟨λd ρ Q Q' w q=>?_,λd ρ Q q=>?_,_,MC hc h hn hst,λHZ F v d σ H ρ Q fr r q=>?_⟩
 ·unfold gT at *;split at q
  ·exact⟨q.1,w _ q.2⟩
  ·exact q
 ·unfold gT at *;split at q
  ·exact⟨q.1,q.2,vE _ _ _,vF _ _ _ hk⟩
  ·exact q
 ·unfold gT at q;split at q
  ·cases r with
   |tup e rs=>exact⟨_,_,rfl,pL.of e,by rw[rs.length,q.1,hl],EG is _ _ σ ρ Q hk q.1 fr rs q.2⟩
  ·exact q.elim
end
noncomputable def aX(g:Ac)(tb:cD)(ogs:List (af×List Dv)):List Dv->cD
 | []=>λE ρ=>guard ogs ρ/\E.nx ρ
 |d::r=>λE ρ=>guard ogs ρ/\g d ρ λρ1=>tb { E with nx:=aX g tb ogs r E,ct:=aX g tb ogs r E,bk:=E.nx } ρ1
noncomputable def eZ(ti:xM)(g:Ac)(tb:cD):cD:=λE ρ=>ti ρ λds ogs=>aX g tb ogs ds E ρ
section
variable {iter c:Expr}{ti:xM}{g:Ac}{tb:cD}{ZS:List kh}{pos:lv}{k:Nat}
theorem mS(mg:∀d ρ (Q Q':List Sl->Prop),(∀ρ,Q ρ->Q' ρ)->g d ρ Q->g d ρ Q')(mb:∀E E' ρ,EnLe E E'->tb E ρ->tb E' ρ)(ogs:List (af×List Dv)):∀(ds:List Dv) (E E':En) (ρ:List Sl),EnLe E E'->aX g tb ogs ds E ρ->aX g tb ogs ds E' ρ
 | [],E,E',ρ,w,h=>⟨h.1,w.nx _ h.2⟩
 |d::r,E,E',ρ,w,h=>by
  have w2:EnLe { E with nx:=aX g tb ogs r E,ct:=aX g tb ogs r E,bk:=E.nx } { E' with nx:=aX g tb ogs r E',ct:=aX g tb ogs r E',bk:=E'.nx }:=
   ⟨λρ h=>mS mg mb ogs r E E' ρ w h,w.rt,w.nx,λρ h=>mS mg mb ogs r E E' ρ w h⟩
  exact⟨h.1,mg _ _ _ _ (λρ1 h=>mb _ _ _ w2 h) h.2⟩
theorem b6(ogs:List (af×List Dv))(E:En)(ρ:List Sl):aX g tb ogs [] E ρ=(guard ogs ρ/\E.nx ρ):=rfl
theorem b8(ogs:List (af×List Dv))(d:Dv)(r:List Dv)(E:En)(ρ:List Sl):aX g tb ogs (d::r) E ρ=(guard ogs ρ/\g d ρ λρ1=>tb { E with nx:=aX g tb ogs r E,ct:=aX g tb ogs r E,bk:=E.nx } ρ1):=rfl
theorem tX{ogs:List (af×List Dv)}:∀{ds:List Dv},aX g tb ogs ds E ρ->guard ogs ρ
 | [],h=>by rw[b6] at h;exact h.1
 |_::_,h=>by rw[b8] at h;exact h.1
theorem dI(hp:PassesOwn (cf X.prog X.w) X.A X.env X.xe)(hc:X.N=X.N)(hi:QI X tg iter ti)(hg:QG X tg k g)(hb:QSs X ZS tb)(hs:autoParam (∀x,iq iter X.env x=jo x) G3._auto_1):QS X (.For tg iter ZS [] pos) (eZ ti g tb):=by
 refine⟨λE E' ρ w h=>hi.mono _ _ _ (λds ogs h=>mS hg.mono hb.mono ogs ds E E' ρ w h) h,λHZ F=>?_⟩;obtain⟨wi,hwi,wiq⟩:=hi.run HZ F;obtain⟨tt,htt,ttq⟩:=hg.run;have hb':uW X ZS (λD σ H=>∃P,liftS X.K P F tb D σ H):=λpk s σ H D I zq0=>by obtain⟨P,q⟩:=zq0;exact hb.run P F pk s σ H D I q
 refine dW (GZ hp hc hwi htt hb' hs) λD σ H zz=>?_;obtain⟨ρ,E,fr,h,en⟩:=zz;refine wiq σ H ρ _ fr (hi.mono _ _ _ (λds ogs q J H2 S2 _ ok=>?_) h);have fr2:=fr.mono S2;have en2:Ent X.K (prot H2 ρ) F E D:=en.prot fr2;refine⟨λi m σ' H'=>m=ds.length-i/\i<=ds.length /\ ∃ρ',Fr X.K (prot H2 ρ) F σ' H' ρ'/\aX g tb ogs (ds.drop i) E ρ',⟨ds.length,by simp,oj _,ρ,fr2.prot,by simpa using q⟩,?_⟩;rintro i m σ' H' ⟨rfl,hil,ρ',fr',q'⟩;have gd:guard ogs ρ':=tX q';have Gn:=fr2.gen fr';have oks:=ok i H' (MM F ρ') fr'.same Gn λp hp=>let ⟨_,_,_,h⟩:=fr'.at_own (gd p hp);h;by_cases hlt:i<ds.length
 ·have hd:ds[i]?=aa ds[i]:=by simp[hlt]
  have hdr:ds.drop i=ds[i]::ds.drop (i+1):=gx hlt;rw[hdr,b8] at q';obtain⟨go,yld⟩:=oks.1 _ hd;refine .inr ⟨go,λσ2 H2'=>∃ρ2,Fr X.K (prot H2 ρ) F σ2 H2' ρ2/\aX g tb ogs (ds.drop (i+1)) E ρ2,λσ2 H2' zq1=>by obtain⟨ρ2,f2',q2⟩:=zq1;exact⟨ds.length-(i+1),⋯,rfl,hlt,ρ2,f2',q2⟩,λy H3 hy=>?_⟩;obtain⟨S3,ry⟩:=yld y H3 hy;refine ttq _ F y _ σ' H3 ρ' _ (fr'.mono S3) ry (hg.mono _ _ _ _ (λρ1 q1 σ1 f1 _=>?_) q'.2);exact⟨_,ρ1,_,f1,q1,λρ3 σ3 H3' f3 q3=>⟨ρ3,f3,q3⟩,en2.nx,λρ3 σ3 H3' f3 q3=>⟨ρ3,f3,q3⟩,en2.rt⟩
 ·have e:i=ds.length:=⋯;subst e;rw[uy,b6] at q';exact .inl ⟨oks.2 (bt _),en2.nx _ _ _ fr' q'.2⟩
end
end Z
variable {Q:Z.R->Prop}{te:Z.dE}{ds:List Z.Dv}{ρ:List Z.Sl}{ts:Z.lU}
namespace Z
open L2
variable {js:List Nat}{σ:St}{j:Nat}{elt iter:Expr}{ti:xM}
section
variable {c:Expr}{g:Ac}{tb:cD}{ZS:List kh}{pos:lv}{k:Nat}{tc:nB}
noncomputable def f7(js:List Nat)(ρ:List Sl):List Sl:=js.map λj=>(ρ[j]?).getD .un
noncomputable def eF(ρ0:List Sl)(g:Ac)(tt:nB)(te:dE):List Dv->List Dv->(R->Prop)->Prop
 | [],acc,Q=>Q (.nw (.lst acc))
 |d::r,acc,Q=>g d ρ0 λρ1=>tt ρ1 λb=>if b=aj then te ρ1 λv=>(v.free=aj/\acc.length<CN)/\eF ρ0 g tt te r (acc++[v.d]) Q else eF ρ0 g tt te r acc Q
noncomputable def gE(k:Nat)(js:List Nat)(ti:xM)(g:Ac)(tt:nB)(te:dE):dE:=λρ Q=>ti ρ λds _=>eF (aw k .un++f7 js ρ) g tt te ds [] Q
structure QTs(X:Cx)(ifs:List Expr)(t:nB):Prop where
 mono:∀(ρ:List Sl) (Q Q':Bool->Prop),(∀r,Q r->Q' r)->t ρ Q->t ρ Q'
 run:∀(HZ:Hp) (F:af->Prop),NS X ifs (liftT X.K HZ F t)
noncomputable def jM:nB:=λ_ Q=>Q aj
theorem oZ:QTs X [] jM:=⟨λ_ _ _ w q=>w _ q,λHZ F pk s σ H Q I zq2=>by obtain⟨ρ,fr,q⟩:=zq2;exact JO pk s σ H Q I (q H (aO.refl _))⟩
theorem rT{t:nB}(h:QT X c t):QTs X [c] t:=⟨h.mono,λHZ F=>JN (h.run HZ F)⟩
theorem lD{s:Sl}(h:(f7 js ρ)[i]?=aa s)(hs:s ≠ .un):∃j,js[i]?=aa j/\ρ[j]?=aa s:=by
 unfold f7 at h;rw[dh] at h;cases e:js[i]? with
 |none=>rw[e] at h;cases h
 |some j=>
  rw[e] at h;refine⟨j,rfl,?_⟩;have h':(ρ[j]?).getD .un=s:=Option.some.inj h;cases q:ρ[j]? with
  |none=>rw[q] at h';exact absurd h'.symm hs
  |some o=>rw[q] at h';exact congrArg aa h'
theorem Dr{x:V}(hj:js[i]?=aa j)(h:σ[j]?=aa (aa x)):(pick js σ)[i]?=aa (aa x):=by
 unfold pick;rw[dh,hj,Zi,h];rfl
theorem kS{ρ0:List Sl}{tt:nB}(mg:∀d ρ (Q Q':List Sl->Prop),(∀ρ,Q ρ->Q' ρ)->g d ρ Q->g d ρ Q')(mt:∀(ρ:List Sl) (Q Q':Bool->Prop),(∀r,Q r->Q' r)->tt ρ Q->tt ρ Q')(me:∀(ρ:List Sl) (Q Q':R->Prop),(∀r,Q r->Q' r)->te ρ Q->te ρ Q'):
  ∀(ds acc:List Dv) (Q Q':R->Prop),(∀r,Q r->Q' r)->eF ρ0 g tt te ds acc Q->eF ρ0 g tt te ds acc Q'
 | [],acc,Q,Q',w,h=>w _ h
 |d::r,acc,Q,Q',w,h=>by
  refine mg _ _ _ _ (λρ1 h=>mt _ _ _ (λb h=>?_) h) h;split at h
  ·rw[ZE ‹_›];exact me _ _ _ (λv h=>⟨h.1,kS mg mt me r _ Q Q' w h.2⟩) h
  ·rw[Zg ‹_›];exact kS mg mt me r _ Q Q' w h
theorem F9{l:List Nat}(hN:l.Nodup){x:Nat}(a:l[i]?=aa x)(b:l[j]?=aa x):i=j:=by
 obtain⟨h1,e1⟩:=cg.mp a;obtain⟨h2,e2⟩:=cg.mp b;have P:=da.mp hN;rcases sd i j with h | h | h
 ·exact absurd (e1.trans e2.symm) (P i j h1 h2 h)
 ·exact h
 ·exact absurd (e2.trans e1.symm) (P j i h2 h1 h)
theorem Fr.block{H2:Hp}{k:Nat}{D:af}{old:St}(fr:Fr K HZ F σ H ρ)(S:aO H H2)(hD:H D=ar)(hD2:H2 D≠ar)(nd:js.Nodup)(lo:old.length=k):
  ∃(P:Hp) (F':af->Prop),Fr K P F' (old++pick js σ) H2 (aw k .un++f7 js ρ)/\(∀a,MM F' (aw k .un++f7 js ρ) a ↔ MM F ρ a \/ a=D)/\(∀a,F' a ↔ (MM F ρ a \/ a=D) /\ ¬ ∃d,Sl.own a d∈f7 js ρ):=by
 have mem:∀{a:af} {d:Dv},Sl.own a d∈aw k Sl.un++f7 js ρ->Sl.own a d∈f7 js ρ:=λh=>by
  rcases fm.mp h with h | h
  ·cases gp h
  ·exact h
 have sub:∀{a:af} {d:Dv},Sl.own a d∈f7 js ρ->Sl.own a d∈ρ:=λh=>by
  obtain⟨i,e⟩:=qk.mp h;obtain⟨j,_,e2⟩:=lD e (by intro z;cases z);exact fh e2
 refine⟨Z.prot H2 (f7 js ρ),λa=>(MM F ρ a \/ a=D) /\ ¬ ∃d,Sl.own a d∈f7 js ρ,?_,λa=>⟨λh=>?_,λh=>?_⟩,λa=>Iff.rfl⟩
 ·have iff:∀a,MM (λa=>(MM F ρ a \/ a=D) /\ ¬ ∃d,Sl.own a d∈f7 js ρ) (aw k .un++f7 js ρ) a->MM F ρ a \/ a=D:=λa h=>by
   rcases h with h | ⟨d,h⟩
   ·exact h.1
   ·exact .inl (.inr ⟨d,sub (mem h)⟩)
  have G:Gen K (MM F ρ) (MM (λa=>(MM F ρ a \/ a=D) /\ ¬ ∃d,Sl.own a d∈f7 js ρ) (aw k .un++f7 js ρ)) H H2:=((Gen.fresh hD).trans (.mono S)).trans (.weak iff);refine⟨by simp[pick,f7,lo],λi s e=>?_,λi j a d d' e1 e2=>?_,λa d h=>vM (mem h),λb o h=>p6 h,λa h=>?_,λPt q z=>?_⟩
  ·by_cases hi:i<k
   ·rw[bh (by simpa using hi),jt,ZE hi] at e;cases e;trivial
   ·rw[bo (by simpa using ng hi),nh] at e;rw[bo (by rw[lo];exact ng hi),lo];cases s with
    |un=>trivial
    |v d=>
     obtain⟨j,hj,e2⟩:=lD e (by intro z;cases z);obtain⟨x,hx,r⟩:=fr.sl j _ e2;exact⟨x,Dr hj hx,r.gen G⟩
    |own a d=>
     obtain⟨j,hj,e2⟩:=lD e (by intro z;cases z);obtain⟨hx,r⟩:=fr.sl j _ e2;exact⟨Dr hj hx,r.gen G λo e=>S _ _ e⟩
  ·have ge:∀{i:Nat} {d:Dv},(aw k Sl.un++f7 js ρ)[i]?=aa (.own a d)->k<=i/\(f7 js ρ)[i-k]?=aa (.own a d):=λ{i d} e=>by
    by_cases hi:i<k
    ·rw[bh (by simpa using hi),jt,ZE hi] at e;cases e
    ·rw[bo (by simpa using ng hi),nh] at e;exact⟨ng hi,e⟩
   obtain⟨k1,e1⟩:=ge e1;obtain⟨k2,e2⟩:=ge e2;obtain⟨j1,hj1,e1⟩:=lD e1 (by intro z;cases z);obtain⟨j2,hj2,e2⟩:=lD e2 (by intro z;cases z);have:=fr.nd j1 j2 a d d' e1 e2;subst this;have:=F9 nd hj1 hj2;right
  ·rw[cL h.2];rcases h.1 with m | m
   ·intro z;exact fr.dom m (S.free z)
   ·rw[m];exact hD2
  ·have e:=fr.old.t Pt q z;rw[cL ?_]
   ·exact S _ _ (fr.same _ _ e)
   ·rintro⟨d,c⟩;rw[fr.new Pt d (sub c)] at e;cases e
 ·rcases h with h | ⟨d,h⟩
  ·exact h.1
  ·exact .inl (.inr ⟨d,sub (mem h)⟩)
 ·by_cases c:∃d,Sl.own a d∈f7 js ρ
  ·obtain⟨d,c⟩:=c;exact .inr ⟨d,eh _ c⟩
  ·exact .inl ⟨h,c⟩
end
inductive liftG(K:ap)(k:Nat)(g:Ac)(v:V)(σ:St)(H:Hp)(Q:St->Hp->Prop):Prop
 |mk (d:Dv) (HZ:Hp) (F:af->Prop) (ρ:List Sl) (fr:Fr K HZ F σ H ρ) (r:Rep K (MM F ρ) H v d) (h:g d ρ (λρ1=>∀σ1,Fr K HZ F σ1 H ρ1->(∀j,k<=j->σ1[j]?=σ[j]?)->Q σ1 H))
theorem QG.pg{k:Nat}{g:Ac}(h:QG X tg k g):PG X tg (liftG X.K k g):=by
 obtain⟨t,ht,tq⟩:=h.run;intro pk s σ H v u Q I r ⟨d,HZ,F,ρ,fr,rv,q⟩;exact ht pk s σ H v u Q I r (tq HZ F v d σ H ρ Q fr rv q)
theorem QE.pe(h:QE X e te):PE X e (λσ H Q=>∃HZ F,lift X.K HZ F te σ H Q):=λpk s σ H Q I zq3=>by obtain⟨HZ,F,q⟩:=zq3;exact h.run HZ F pk s σ H Q I q
variable {tt:nB}
theorem QTs.pt(h:QTs X ifs tt):NS X ifs (λσ H Q=>∃HZ F,liftT X.K HZ F tt σ H Q):=λpk s σ H Q I zq4=>by obtain⟨HZ,F,q⟩:=zq4;exact h.run HZ F pk s σ H Q I q
theorem Au{l a b:List α}{k:Nat}(ha:a.length=k)(hl:l.length=k+b.length)(h:∀j,k<=j->l[j]?=(a++b)[j]?):l=l.take k++b:=by
 refine rd λj=>?_;by_cases hj:j<k
 ·rw[bh (by rw[ef];right),ie hj]
 ·rw[h j ⋯,bo ⋯,bo (by rw[ef];right),ha,ef,pi ⋯]
section
variable {pos:lv}
theorem Ly{tgt:Expr}{cl:List (bw×af)}{tgs ns:List bw}{k:Nat}{g:Ac}(hc:X.N=X.N)(hk:tgs.length=k)
  (hi:QI X tgt iter ti) (hg:∀(fp:List af) (s:ai) (H:Hp),QG (qY X ZF cl fp (tgs++ns) s H) tgt k g) (ht:∀(fp:List af) (s:ai) (H:Hp),QTs (qY X ZF cl fp (tgs++ns) s H) ifs tt)
  (he:∀(fp:List af) (s:ai) (H:Hp),QE (qY X ZF cl fp (tgs++ns) s H) elt te)
  (ZX:wf ZF X.env=jo cl) (ZU:∀x c,cl.lookup x=aa c->X.env.cells.lookup x=aa c)
  (a04:∀x,((ja ZF X.env).names.lookup x=aa .cell \/ (ja ZF X.env).names.lookup x=aa .free) -> ∃c,cl.lookup x=aa c)
  (hjs:js.map (λj=>X.N[j]?)=ns.map aa) (hin:∀y∈ns,(ja ZF X.env).names.lookup y=aa .cell \/ (ja ZF X.env).names.lookup y=aa .free)
  (ZY:∀y∈ns,X.env.kindOf y=aa .cell \/ X.env.kindOf y=aa .free) (nd:js.Nodup)
  (ZL:autoParam (∀y∈ZF.names,y.2 ≠ .cell) Db._auto_1) (ZP:autoParam (ZF.kind=.function) c8._auto_1)
  (ZO:autoParam (∀y∈ZF.names,y.2=.local->ZF.names.lookup y.1=aa .local) Db._auto_1)
  (hs:autoParam (∀z,iq iter X.env z=jo z) G3._auto_1):
  QE X (.ListComp elt [⟨tgt,iter,ifs,0⟩] ZF pos) (gE k js ti g tt te):=by
 have mg:=(hg [] X.s₀ λ_=>ar).mono;have ag:=(hg [] X.s₀ λ_=>ar).agree;have mt:=(ht [] X.s₀ λ_=>ar).mono;have me:=(he [] X.s₀ λ_=>ar).mono;refine⟨λρ Q Q' w h=>hi.mono _ _ _ (λds ogs h=>kS mg mt me ds [] Q Q' w h) h,λHZ F=>?_⟩;obtain⟨wi,hwi,wiq⟩:=hi.run HZ F;refine cY (Gm (tgs:=tgs) (ns:=ns) (js:=js) (g:=liftG X.K k g) (tt:=λσ H Q=>∃HZ F,liftT X.K HZ F tt σ H Q) (te:=λσ H Q=>∃HZ F,lift X.K HZ F te σ H Q) hc hwi (λfp s H=>(hg fp s H).pg) (λfp s H=>(ht fp s H).pt) (λfp s H=>(he fp s H).pe) ZX ZU a04 hjs hin ZY ZL ZP ZO hs) λσ H Q zz=>?_;obtain⟨ρ,fr,h⟩:=zz;subst hk;refine wiq σ H ρ _ fr (hi.mono _ _ _ (λds ogs q J H1 S1 gd ok=>?_) h);intro D hD;have fr1:=fr.mono S1;refine⟨λi m acc H2=>m=ds.length-i/\i<=ds.length/\aO H1 H2 /\ ∃accD,Reps X.K (λa=>MM F ρ a \/ a=D) H2 acc accD /\
  eF (aw tgs.length .un++f7 js ρ) g tt te (ds.drop i) accD (λr=>∀x H',aO H H'->eI X.K (MM F ρ) (Ae ρ) H x r H'->Q x H'),
  ⟨ds.length,by simp,oj _,aO.new' hD,[],.nil,by simpa using q⟩,?_⟩
 rintro i m acc H2 ⟨rfl,hil,S2,accD,ra,q⟩ hDl;have G2:Gen X.K (MM F ρ) (λa=>MM F ρ a \/ a=D) H1 H2:=(Gen.fresh hD).trans (.mono S2);have oks:=ok i H2 (λa=>MM F ρ a \/ a=D) (λb o e=>S2 _ _ (p6 e)) G2 λp hp=>by
  obtain⟨_,_,_,ow⟩:=fr1.at_own (gd p hp);exact ow.gen G2 λo e=>S2 _ _ e
 by_cases hlt:i<ds.length
 ·have hd:ds[i]?=aa ds[i]:=by simp[hlt]
  rw[gx hlt] at q;obtain⟨go,yld⟩:=oks.1 _ hd;refine .inr ⟨go,λy H3 hy old lo=>?_⟩;obtain⟨S3,ry⟩:=yld y H3 hy;have hD3:=S3 _ _ hDl;obtain⟨P,F',fr',iff,iffF⟩:=fr1.block (js:=js) (old:=old) (S2.trans S3) hD (by rw[hD3];simp) nd lo;refine⟨_,P,F',_,fr',ry.weak λa z=>(iff a).mp z,mg _ _ _ _ (λρ1 q1 σ1 f1 a1=>?_) (ag _ _ _ q)⟩;obtain⟨q1,l1,b1⟩:=q1;have up:∀a,MM F ρ a \/ a=D->MM F' ρ1 a:=λa z=>by
   rcases(iff a).mpr z with z | ⟨d,z⟩
   ·exact .inl z
   ·refine .inr ⟨d,?_⟩;obtain⟨j,e⟩:=qk.mp z;have hj:tgs.length<=j:=by
     by_cases hj:j<tgs.length
     ·rw[bh (by simpa using hj),jt,ZE hj] at e;cases e
     ·right
    rw[<- b1 j hj] at e;exact fh e
  have hlen:σ1.length=tgs.length+(pick js σ).length:=by
   have:=f1.len;rw[l1] at this;simp[pick,f7] at this ⊢;right
  refine⟨⟨σ1.take tgs.length,by rw[ef];right,Au lo hlen a1⟩,P,F',ρ1,f1,mt _ _ _ (λb q5 H5 S5=>?_) q1⟩;have S25:=(S2.trans S3).trans S5;cases b with
  |true=>
   simp only[if_true] at q5;refine uC ⟨P,F',ρ1,f1.mono S5,me _ _ _ (λr q6 x H6 S6 rx=>?_) q5⟩;have hD6:=S6 _ _ (S5 _ _ hD3);obtain⟨⟨rf,rl⟩,q6⟩:=q6;have rep:=(rx.rep (λa z=>(f1.mono S5).dom z) rf).weak up;refine⟨hD6,by rw[ra.length];exact vY rl,ds.length-(i+1),⋯,rfl,hlt,λb o e=>?_,_,?_,q6⟩
   ·rw[bB (bL e hD)];exact S6 _ _ (S25 _ _ e)
   ·have G6:Gen X.K (λa=>MM F ρ a \/ a=D) (λa=>MM F ρ a \/ a=D) H6 (upd H6 D (.lst (acc++[x]))):=Gen.write (.inr rfl) (by rw[hD6];trivial);exact((ra.mono ((S3.trans S5).trans S6)).append (.cons rep .nil)).gen G6
  |false=>
   simp only[eo,if_false] at q5;exact uD ⟨S5 _ _ hD3,ds.length-(i+1),⋯,rfl,hlt,S25,accD,ra.mono (S3.trans S5),q5⟩
 ·have e:i=ds.length:=⋯;subst e;rw[uy] at q;exact .inl ⟨oks.2 (bt _),q (.ref D) H2 (S1.trans S2) ⟨D,rfl,S1.free hD,acc,hDl,ra⟩⟩
end
noncomputable def oU(X:Cx)(f:ah)(p:List Dv->(R->Prop)->Prop):Prop:=
 (∀ds (Q Q':R->Prop),(∀r,Q r->Q' r)->p ds Q->p ds Q') /\ ∃r:List V->Hp->VK->Prop,fP X f r /\ ∀(M:af->Prop) (O:af->Dv->Prop) (H:Hp) (xs:List V) (ds:List Dv) (Q:VK),yY X.K M H xs ds ->
  p ds (λrr=>∀z H',aO H H'->eI X.K M O H z rr H'->Q z H')->r xs H Q
noncomputable def fF(p:List Dv->(R->Prop)->Prop)(ts:lU):dE:=λρ Q=>ts ρ λrs=>p (rs.map R.d) Q
variable {T:String}{p2:lv}
section
variable {pos:lv}{x:bw}{id:String}{pp:List Dv->(R->Prop)->Prop}
theorem EM{r:List V->Hp->VK->Prop}(ha:QA X es ts)(mo:∀ds (Q Q':R->Prop),(∀r,Q r->Q' r)->pp ds Q->pp ds Q')
  (hr:∀(M:af->Prop) (O:af->Dv->Prop) (H:Hp) (xs:List V) (ds:List Dv) (Q:VK),yY X.K M H xs ds->pp ds (λrr=>∀z H',aO H H'->eI X.K M O H z rr H'->Q z H')->r xs H Q)
  (HZ:Hp) (F:af->Prop) (σ:St) (H:Hp) (Q:VK) (h:lift X.K HZ F (fF pp ts) σ H Q):RO r (liftA X.K HZ F ts) σ H Q:=by
 obtain⟨ρ,fr,h⟩:=h;refine ha.step fr h λrs xs H1 q S1 r1=>?_;exact hr (MM F ρ) (Ae ρ) H1 xs _ Q r1.c (mo _ _ _ (λrr k z H' S rz=>k z H' (S1.trans S) (rz.ahead S1)) q)
theorem aW(hc:oU X (.builtin id) pp)(hg:Gl X x)(hm:X.mg x=ar)(hv:oy x=aa (.builtin id))(ha:QA X (e::es) ts)(hn:autoParam (x ≠ "__name__") lS._auto_1)(hdb:autoParam ((x==("__debug__" : bw))=ao) lS._auto_1)
  (he:autoParam (av (e::es) X.env=(ao,gn e X.env)::av es X.env) c8._auto_1) (hpl:autoParam ((iu pos (av es X.env)).any (·.1)=ao) c8._auto_1):QE X (.Call (.Name x p) (e::es) [] pos) (fF pp ts):=by
 obtain⟨mo,r,hR,hr⟩:=hc;exact⟨λρ Q Q' w q=>ha.mono _ _ _ (λrs q=>mo _ _ _ w q) q,λHZ F=>cY (rY hR hg hm hv (ha.run HZ F) hn hdb he hpl) (EM ha mo hr HZ F)⟩
theorem k9(hc:oU X (.type T) pp)(hg:Gl X x)(hm:X.mg x=ar)(hv:oy x=aa (.type T))(ha:QA X (e::es) ts)(hn:autoParam (x ≠ "__name__") lS._auto_1)(hdb:autoParam ((x==("__debug__" : bw))=ao) lS._auto_1)
  (he:autoParam (av (e::es) X.env=(ao,gn e X.env)::av es X.env) c8._auto_1) (hpl:autoParam ((iu pos (av es X.env)).any (·.1)=ao) c8._auto_1):QE X (.Call (.Name x p) (e::es) [] pos) (fF pp ts):=by
 obtain⟨mo,r,hR,hr⟩:=hc;exact⟨λρ Q Q' w q=>ha.mono _ _ _ (λrs q=>mo _ _ _ w q) q,λHZ F=>cY (sZ hR hg hm hv (ha.run HZ F) hn hdb he hpl) (EM ha mo hr HZ F)⟩
noncomputable def d8:List Dv->(R->Prop)->Prop
 | [.lst xs],Q=>Q (.v (.int xs.length))
 | [.tup xs],Q=>Q (.v (.int xs.length))
 | [.scr ns],Q=>Q (.v (.int ns.length))
 | [.str y],Q=>y.length<=CN/\Q (.v (.int y.length))
 |_,_=>False
theorem bX:oU X (.builtin "len") d8:=by
 refine⟨λds Q Q' w h=>?_,_,AY.or AX,λM O H xs ds Q c h=>?_⟩
 ·unfold d8 at *;split at h<;>first | exact w _ h | exact⟨h.1,w _ h.2⟩ | exact h
 ·unfold d8 at h;split at h
  ·obtain⟨x,rfl,cx⟩:=fG c;obtain⟨a,ys,rfl,ea,ra⟩:=cx.lst;refine .inl ⟨a,ys,rfl,.inl (gK.of ea),?_⟩;rw[ra.length];exact h _ H (aO.refl _) (Rep.int _)
  ·obtain⟨x,rfl,cx⟩:=fG c;obtain⟨a,ys,rfl,ea,ra⟩:=cx.tup;refine .inl ⟨a,ys,rfl,.inr (pL.of ea),?_⟩;rw[ra.length];exact h _ H (aO.refl _) (Rep.int _)
  ·obtain⟨x,rfl,cx⟩:=fG c;obtain⟨a,rfl,ea⟩:=cx.scr;refine .inl ⟨a,_,rfl,.inl ea.sq,?_⟩;rw[bf];exact h _ H (aO.refl _) (Rep.int _)
  ·obtain⟨x,rfl,cx⟩:=fG c;obtain rfl:=cx.str;exact .inr ⟨_,rfl,jB h.1,h.2 _ H (aO.refl _) (Rep.int _)⟩
  ·exact h.elim
noncomputable def F5:List Dv->(R->Prop)->Prop
 | [.int i],Q=>Q (.v (.int (if i<0 then -i else i)))
 |_,_=>False
theorem IU:oU X (.builtin "abs") F5:=by
 refine⟨λds Q Q' w h=>?_,_,IW,λM O H xs ds Q c h=>?_⟩
 ·unfold F5 at *;split at h<;>first | exact w _ h | exact h
 ·unfold F5 at h;split at h
  ·obtain⟨x,rfl,cx⟩:=fG c;obtain rfl:=cx.int;exact⟨_,rfl,h _ H (aO.refl _) (Rep.int _)⟩
  ·exact h.elim
noncomputable def vR:List Dv->(R->Prop)->Prop
 | [.int i,.int j],Q=>Q (.v (.int (if j<i then j else i)))
 |_,_=>False
noncomputable def Ol:List Dv->(R->Prop)->Prop
 | [.int i,.int j],Q=>Q (.v (.int (if j > i then j else i)))
 |_,_=>False
theorem EQ(hc:X.calm=aj):oU X (.builtin "min") vR:=by
 refine⟨λds Q Q' w h=>?_,_,Ft hc,λM O H xs ds Q c h=>?_⟩
 ·unfold vR at *;split at h<;>first | exact w _ h | exact h
 ·unfold vR at h;split at h
  ·obtain⟨x,y,rfl,cx,cy⟩:=DV c;obtain rfl:=cx.int;obtain rfl:=cy.int;exact⟨_,_,rfl,h _ H (aO.refl _) (Rep.int _)⟩
  ·exact h.elim
noncomputable def Gs:List Dv->(R->Prop)->Prop
 | [.lst ds],Q=>∃ns:List Int,ds=ns.map .int/\Q (.v (.int ns.sum))
 |_,_=>False
noncomputable def Gx:List Dv->(R->Prop)->Prop
 | [.lst ds],Q=>∃bs:List Bool,ds=bs.map .bl/\Q (.v (.bl (bs.all _root_.id)))
 |_,_=>False
theorem Reps.of_ints{K:ap}{M:af->Prop}{H:Hp}:∀{xs:List V} {ns:List Int},Reps K M H xs (ns.map .int)->xs=ns.map V.int
 |_,[],.nil=>rfl
 |_,n::r,.cons a t=>by cases a;rw[Reps.of_ints t];rfl
theorem Reps.of_bls{K:ap}{M:af->Prop}{H:Hp}:∀{xs:List V} {ns:List Bool},Reps K M H xs (ns.map .bl)->xs=ns.map V.bl
 |_,[],.nil=>rfl
 |_,n::r,.cons a t=>by cases a;rw[Reps.of_bls t];rfl
theorem NG(hc:X.N=X.N):oU X (.builtin "sum") Gs:=by
 refine⟨λds Q Q' w h=>?_,_,Fq hc,λM O H xs ds Q c h=>?_⟩
 ·unfold Gs at *;split at h
  ·obtain⟨ns,e,h⟩:=h;exact⟨ns,e,w _ h⟩
  ·exact h
 ·unfold Gs at h;split at h
  ·obtain⟨ns,rfl,h⟩:=h;obtain⟨x,rfl,cx⟩:=fG c;obtain⟨a,ys,rfl,ea,ra⟩:=cx.lst;obtain rfl:=ra.of_ints;exact⟨a,ns,rfl,gK.of ea,h _ H (aO.refl _) (Rep.int _)⟩
  ·exact h.elim
theorem NH(hc:X.calm=aj):oU X (.builtin "all") Gx:=by
 refine⟨λds Q Q' w h=>?_,_,Fw hc,λM O H xs ds Q c h=>?_⟩
 ·unfold Gx at *;split at h
  ·obtain⟨ns,e,h⟩:=h;exact⟨ns,e,w _ h⟩
  ·exact h
 ·unfold Gx at h;split at h
  ·obtain⟨ns,rfl,h⟩:=h;obtain⟨x,rfl,cx⟩:=fG c;obtain⟨a,ys,rfl,ea,ra⟩:=cx.lst;obtain rfl:=ra.of_bls;exact⟨a,ns,rfl,gK.of ea,h _ H (aO.refl _) (Rep.bl _)⟩
  ·exact h.elim
noncomputable def sC:List Dv->(R->Prop)->Prop
 | [.lst ds],Q=>Q (.nw (.lst ds))
 | [.tup ds],Q=>Q (.nw (.lst ds))
 | [.scr ns],Q=>Q (.nw (.lst (ns.map .int)))
 |_,_=>False
theorem ER:oU X (.type "list") sC:=by
 refine⟨λds Q Q' w h=>?_,_,AW,λM O H xs ds Q c h=>?_⟩
 ·unfold sC at *;split at h<;>first | exact w _ h | exact h
 ·unfold sC at h;split at h
  ·obtain⟨x,rfl,cx⟩:=fG c;obtain⟨a,ys,rfl,ea,ra⟩:=cx.lst;exact⟨a,ys,rfl,.inl (gK.of ea),λl hl=>h _ _ (aO.new' hl) (kB hl ra)⟩
  ·obtain⟨x,rfl,cx⟩:=fG c;obtain⟨a,ys,rfl,ea,ra⟩:=cx.tup;exact⟨a,ys,rfl,.inr (pL.of ea),λl hl=>h _ _ (aO.new' hl) (kB hl ra)⟩
  ·obtain⟨x,rfl,cx⟩:=fG c;obtain⟨a,rfl,ea⟩:=cx.scr;exact⟨a,_,rfl,.inl ea.sq,λl hl=>h _ _ (aO.new' hl) (kB hl (Reps.ints _))⟩
  ·exact h.elim
noncomputable def kA:List Dv->(R->Prop)->Prop
 | [.lst ds],Q=>Q (.v (.tup ds))
 | [.tup ds],Q=>Q (.v (.tup ds))
 |_,_=>False
theorem oM:oU X (.type "tuple") kA:=by
 refine⟨λds Q Q' w h=>?_,_,xJ,λM O H xs ds Q c h=>?_⟩
 ·unfold kA at *;split at h<;>first | exact w _ h | exact h
 ·unfold kA at h;split at h
  ·obtain⟨x,rfl,cx⟩:=fG c;obtain⟨a,ys,rfl,ea,ra⟩:=cx.lst;exact⟨a,ys,rfl,.inl ⟨gK.of ea,λl hl=>h _ _ (aO.new' hl) (Kt hl ra)⟩⟩
  ·obtain⟨x,rfl,cx⟩:=fG c;obtain⟨a,ys,rfl,ea,ra⟩:=cx.tup;exact⟨a,ys,rfl,.inr ⟨pL.of ea,h _ H (aO.refl _) (Rep.tup ea ra)⟩⟩
  ·exact h.elim
noncomputable def QB:Dv->String
 | .non=>"NoneType"
 | .bl _=>"bool"
 | .int _=>"int"
 | .str _=>"str"
 | .tup _=>"tuple"
 | .lst _=>"list"
 | .scr _=>"list"
 | .dit _=>"dict"
 | .obj _ _=>""
 | .exc _ _=>""
 | .dns _=>""
noncomputable def Hs(T:String)(d:Dv):Bool:=QB d==T || (T == "int" && QB d == "bool")
noncomputable def Am:Dv->Bool
 | .obj _ _=>ao
 | .exc _ _=>ao
 | .dns _=>ao
 | .scr _=>ao
 |_=>aj
noncomputable def AG(T:String)(te:dE):dE:=λρ Q=>te ρ λr=>Am r.d=aj/\Q (.v (.bl (Hs T r.d)))
theorem KG(hT:T = "int" \/ T = "bool" \/ T = "tuple" \/ T = "list" \/ T = "str")(d:Dv)(ho:Am d=aj):rg K (.type (QB d)) (.type T)=aa (Hs T d):=by
 rcases hT with rfl | rfl | rfl | rfl | rfl<;>cases d<;>first | (simp[Am] at ho;done) | with_unfolding_all rfl
theorem eD.ty{x:V}{d:Dv}(c:eD K M H x d)(ho:Am d=aj):TyOf K H x (.type (QB d)):=by
 cases d with
 |non=>obtain rfl:=c.non;exact .non
 |bl b=>obtain rfl:=c.bl;exact .bl b
 |int i=>obtain rfl:=c.int;exact .int i
 |str y=>obtain rfl:=c.str;exact .str y
 |tup ds=>obtain⟨a,xs,rfl,e,_⟩:=c.tup;exact .tup e
 |lst ds=>obtain⟨a,xs,rfl,e,_⟩:=c.lst;exact .lst e
 |dit ds=>obtain⟨a,ep,xs,rfl,e,_⟩:=c.dit;exact .dT e
 |obj C fs=>simp[Am] at ho
 |scr ns=>simp[Am] at ho
 |exc C p=>simp[Am] at ho
 |dns ks=>simp[Am] at ho
theorem B8(hT:T = "int" \/ T = "bool" \/ T = "tuple" \/ T = "list" \/ T = "str")(hg:Gl X "isinstance")(hm:X.mg "isinstance" = ar)(ha:QE X e te)(hty:PE X (.Name x p2) (tC (.ty T)))
  (he:autoParam (av [e,.Name x p2] X.env=(ao,gn e X.env)::av [.Name x p2] X.env) c8._auto_1) (he2:autoParam (av [YM x p2] X.env=(ao,gn (.Name x p2) X.env)::av [] X.env) c8._auto_1) (hpl:autoParam ((iu pos (av [.Name x p2] X.env)).any (·.1)=ao) c8._auto_1):
  QE X (.Call (.Name "isinstance" p) [e,.Name x p2] [] pos) (AG T te):=by
 refine⟨λρ Q Q' w q=>ha.mono _ _ _ (λr q=>⟨q.1,w _ q.2⟩) q,λHZ F=>cY (rY IV hg hm VA (iU (ha.run HZ F) (iU hty qE he2) he) ∅ ∅ he hpl) λσ H Q zz=>?_⟩;obtain⟨ρ,fr,h⟩:=zz;refine ha.step fr h λr x H1 q S1 r1=>?_;exact⟨x,T,_,_,rfl,r1.c.ty q.1,KG hT _ q.1,q.2 _ H1 S1 (Rep.bl _)⟩
end
noncomputable def kD:cF->Dv
 | .inl i=>.int i
 | .inr x=>.str x
noncomputable def cV:Dv->Dv->(R->Prop)->Prop
 | .lst xs,.int i,Q=>match rA xs i with
  |some d=>Q (.v d)
  |none=>False
 | .tup xs,.int i,Q=>match rA xs i with
  |some d=>Q (.v d)
  |none=>False
 | .scr ns,.int i,Q=>match rA ns i with
  |some n=>Q (.v (.int n))
  |none=>False
 | .str z,.int i,Q=>z.length<=CN/\match rA z.cps.toList i with
  |some c=>Q (.v (.str ⟨#[c]⟩))
  |none=>False
 | .dit kvs,.tup ds,Q=>∃k:List cF,ds=k.map kD/\match kvs.find? (λkv=>decide (kv.1=k)) with
  |some kv=>Q (.v kv.2)
  |none=>False
 |_,_,_=>False
variable {tb ta:dE}{a b:Expr}
section
variable {pos:lv}
theorem Reps.at{K:ap}{M:af->Prop}{H:Hp}{xs:List V}{ds:List Dv}{i:Int}{d:Dv}(r:Reps K M H xs ds)(h:rA ds i=aa d):∃x,rA xs i=aa x/\Rep K M H x d:=by
 unfold rA at *;rw[r.length];cases e:uL ds.length i with
 |none=>rw[e] at h;cases h
 |some j=>
  rw[e] at h;obtain⟨x,hx,rx⟩:=r.get (i:=j) h;exact⟨x,hx,rx⟩
theorem Kq{β:Type}{f:α->β}{l:List α}{i:Int}:rA (l.map f) i=(rA l i).map f:=by
 unfold rA;rw[bf];cases uL l.length i with
 |none=>rfl
 |some j=>simp
theorem RepT.val{k:List cF}{ds:List (List cF×Dv)}(r:RepT K M H xs ds):(∀kv,ds.find? (λkv=>decide (kv.1=k))=aa kv -> ∃x,nG xs k=aa x/\Rep K M H x kv.2)/\(ds.find? (λkv=>decide (kv.1=k))=ar->nG xs k=ar):=
 r.ind (P:=λxs ds=>(∀kv,ds.find? (λkv=>decide (kv.1=k))=aa kv -> ∃x,nG xs k=aa x/\Rep K M H x kv.2)/\(ds.find? (λkv=>decide (kv.1=k))=ar->nG xs k=ar)) ⟨λ_ h=>(by cases h),λ_=>rfl⟩ λk' x d xs ds a _ ih=>by
  by_cases e:k'=k
  ·rw[vg (by simpa using e),rC e];exact⟨λkv h=>by cases h;exact⟨x,rfl,a⟩,λh=>by cases h⟩
  ·rw[vh (by simpa using e),rE e];exact ih
theorem Reps.keys{K:ap}{M:af->Prop}{H:Hp}:∀{xs:List V} {k:List cF},Reps K M H xs (k.map kD)->xs=k.map kV
 |_,[],.nil=>rfl
 |_,.inl i::r,.cons a t=>by cases a;rw[Reps.keys t];rfl
 |_,.inr x::r,.cons a t=>by cases a;rw[Reps.keys t];rfl
noncomputable def Rk:R2:=λx y H Q=>∃a v,x=.ref a/\wU H a y (aa v)/\Q v H
theorem KI(hu:X.A.units+1<jx):Im X Rk:=by
 intro ZM ZV pk s σ H x y v u Q I rx ry h hs;obtain⟨a,z,rfl,g,q⟩:=h;cases rx;have hT:=CA I g;unfold Wq;refine ae ?_;rw[getitemInPython_of_ne hT.not_modules];refine ae (uq hT PySem.F.slot_dict_getitem.lookup ?_);have fin:bu (cf X.prog X.w) X.A (XE ZV ao (.ref a) u) (λr s₃=>bu (cf X.prog X.w) X.A (letTemporaryGo ZM (.ref a) r >>= λ_=>jo r) (EP X pk σ Q) X.xe s₃) X.xe s:=by
  rw[hs];exact wpAny_operating (gv (Fo hu I g ry λw' s' I' rw'=>show EP X pk σ Q w' s' from⟨z,H,I',rw',q⟩) (λr s₃ h₃=>ae (wpAny_letTemporaryGo (ak h₃))) λ_ _ x=>x)
 first
  |exact ak (ae fin)
  |exact ae (ak (ae fin))
  |exact ae fin
theorem BO:∀dx dy (Q Q':R->Prop),(∀r,Q r->Q' r)->cV dx dy Q->cV dx dy Q':=by
 intro dx dy Q Q' w h;unfold cV at *;split at h
 ·split at h
  ·exact w _ h
  ·exact h
 ·split at h
  ·exact w _ h
  ·exact h
 ·split at h
  ·exact w _ h
  ·exact h
 ·refine⟨h.1,?_⟩;have h2:=h.2;split at h2
  ·exact w _ h2
  ·exact h2
 ·obtain⟨k,e,h⟩:=h;refine⟨k,e,?_⟩;split at h
  ·exact w _ h
  ·exact h
 ·exact h
theorem c7(hu:X.A.units+1<jx)(ha:QE X a ta)(hb:QE X b tb)(hs:autoParam (EU b) UP._auto_1):QE X (.Subscript a b pos) (aR cV ta tb):=by
 refine⟨sK ha hb BO,λHZ F=>cY (Oa (My.or (KI hu)) (ha.run HZ F) (hb.run HZ F) hs) (uS ha hb (λM O H x y dx dy Q cx cy h=>?_) BO HZ F)⟩;unfold cV at h;split at h
 ·rename_i xs i;split at h
  ·rename_i d hd;obtain⟨p,vs,rfl,ea,ra⟩:=cx.lst;obtain rfl:=cy.int;obtain⟨z,hz,rz⟩:=ra.at hd;exact .inl (.inl ⟨p,vs,i,z,rfl,rfl,gK.of ea,hz,h _ H (aO.refl _) rz⟩)
  ·exact h.elim
 ·rename_i xs i;split at h
  ·rename_i d hd;obtain⟨p,vs,rfl,ea,ra⟩:=cx.tup;obtain rfl:=cy.int;obtain⟨z,hz,rz⟩:=ra.at hd;exact .inl (.inr (.inl ⟨p,vs,i,z,rfl,rfl,pL.of ea,hz,h _ H (aO.refl _) rz⟩))
  ·exact h.elim
 ·rename_i ns i;split at h
  ·rename_i n hn;obtain⟨p,rfl,ea⟩:=cx.scr;obtain rfl:=cy.int;refine .inl (.inl ⟨p,_,i,.int n,rfl,rfl,ea.sq,?_,h _ H (aO.refl _) (Rep.int _)⟩);rw[Kq,hn];rfl
  ·exact h.elim
 ·rename_i z i;obtain⟨hl,h⟩:=h;split at h
  ·rename_i c hc;obtain rfl:=cx.str;obtain rfl:=cy.int;exact .inl (.inr (.inr ⟨z,i,c,rfl,rfl,jB hl,hc,h _ H (aO.refl _) (Rep.str _)⟩))
  ·exact h.elim
 ·obtain⟨k,rfl,h⟩:=h;split at h
  ·rename_i kv hk;obtain⟨p,ep,kvs,rfl,ea,ra⟩:=cx.dit;obtain⟨b,ys,rfl,eb,rb⟩:=cy.tup;obtain rfl:=rb.keys;obtain⟨z,hz,rz⟩:=ra.val.1 kv hk;exact .inr ⟨p,z,rfl,by rw[<- hz];exact wU.t ea eb,h _ H (aO.refl _) rz⟩
  ·exact h.elim
 ·exact h.elim
noncomputable abbrev Q3:=List Sl->(Option Int->Prop)->Prop
structure QO(X:Cx)(e:Option Expr)(t:Q3):Prop where
 mono:∀(ρ:List Sl) (Q Q':Option Int->Prop),(∀r,Q r->Q' r)->t ρ Q->t ρ Q'
 run:∀(HZ:Hp) (F:af->Prop),PO X e (λσ H Q=>∃ρ,Fr X.K HZ F σ H ρ/\t ρ λo=>∀H',aO H H'->Q o H')
noncomputable def gA:Q3:=λ_ Q=>Q ar
noncomputable def lL(te:dE):Q3:=λρ Q=>te ρ λr=>match r.d with
 | .int i=>Q (aa i)
 |_=>False
theorem Ie{e:Option Expr}{t t':TO}(h:PO X e t)(w:∀σ H Q,t' σ H Q->t σ H Q):PO X e t':=λpk s σ H Q I q=>h pk s σ H Q I (w σ H Q q)
theorem mH:QO X ar gA:=⟨λ_ _ _ w q=>w _ q,λHZ F=>Ie JU λσ H Q zq5=>by obtain⟨ρ,fr,q⟩:=zq5;exact q H (aO.refl _)⟩
theorem mG(h:QE X e te):QO X (aa e) (lL te):=by
 refine⟨λρ Q Q' w q=>h.mono _ _ _ (λr q=>?_) q,λHZ F=>Ie (JT (h.run HZ F)) λσ H Q ⟨ρ,fr,q⟩=>?_⟩
 ·split at q
  ·exact w _ q
  ·exact q
 ·refine h.step fr q λr x H1 q S1 r1=>?_;split at q
  ·rename_i i e;have c:=r1.c;rw[e] at c;exact⟨i,c.int,q H1 S1⟩
  ·exact q.elim
noncomputable def cut(xs:List α)(lo hi:Option Int):List α:=(xs.drop (HT.i5 xs.length 0 lo)).take (HT.i5 xs.length xs.length hi-HT.i5 xs.length 0 lo)
noncomputable def L8:Dv->Option Int->Option Int->(R->Prop)->Prop
 | .lst xs,lo,hi,Q=>Q (.nw (.lst (cut xs lo hi)))
 | .scr ns,lo,hi,Q=>Q (.nw (.lst ((cut ns lo hi).map .int)))
 | .tup xs,lo,hi,Q=>¬(HT.i5 xs.length 0 lo=0/\HT.i5 xs.length xs.length hi=xs.length)/\Q (.v (.tup (cut xs lo hi)))
 |_,_,_,_=>False
noncomputable def Fg(te:dE)(tl th:Q3):dE:=λρ Q=>te ρ λr=>tl ρ λlo=>th ρ λhi=>L8 r.d lo hi Q
theorem Gu:∀d lo hi (Q Q':R->Prop),(∀r,Q r->Q' r)->L8 d lo hi Q->L8 d lo hi Q':=by
 intro d lo hi Q Q' w h;unfold L8 at *;split at h<;>first | exact w _ h | exact⟨h.1,w _ h.2⟩ | exact h
theorem Reps.cut{K:ap}{M:af->Prop}{H:Hp}{xs:List V}{ds:List Dv}(r:Reps K M H xs ds)(lo hi:Option Int):Reps K M H (CC xs lo hi) (Z.cut ds lo hi):=by
 unfold CC Z.cut;rw[r.length];exact(r.drop _).take _
theorem mJ{lo hi:Option Expr}{tl th:Q3}(he:QE X e te)(hl:QO X lo tl)(hh:QO X hi th):QE X (.Subscript e (.Slice lo hi ar p2) pos) (Fg te tl th):=by
 refine⟨λρ Q Q' w q=>he.mono _ _ _ (λr q=>hl.mono _ _ _ (λl q=>hh.mono _ _ _ (λu q=>Gu _ _ _ _ _ w q) q) q) q,λHZ F=>cY (Gg (J5.or Lm) (he.run HZ F) (hl.run HZ F) (hh.run HZ F)) λσ H Q zz=>?_⟩;obtain⟨ρ,fr,q⟩:=zz;refine he.step fr q λr x H1 q S1 r1=>?_;refine⟨ρ,fr.mono S1,hl.mono _ _ _ (λl q H2 S2=>?_) q⟩;refine⟨ρ,(fr.mono S1).mono S2,hh.mono _ _ _ (λu q H3 S3=>?_) q⟩;have S13:=(S1.trans S2).trans S3;have c:=(r1.mono (S2.trans S3)).c;generalize r.d=d at q c;unfold L8 at q;split at q
 ·obtain⟨a,xs,rfl,ea,ra⟩:=c.lst;exact .inl ⟨a,xs,rfl,gK.of ea,λp hp=>q _ _ (S13.trans (aO.new' hp)) ((kB hp (ra.cut _ _)).ahead S13)⟩
 ·obtain⟨a,rfl,ea⟩:=c.scr;refine .inl ⟨a,_,rfl,ea.sq,λp hp=>q _ _ (S13.trans (aO.new' hp)) (eI.ahead (kB hp ?_) S13)⟩;have:∀(ns:List Int) l u,(Z.cut ns l u).map Dv.int=Z.cut (ns.map Dv.int) l u:=λns l u=>by
   unfold Z.cut;simp[X0,Zl]
  rw[this];exact(Reps.ints _).cut _ _
 ·obtain⟨a,xs,rfl,ea,ra⟩:=c.tup;exact .inr ⟨a,xs,rfl,pL.of ea,by rw[ra.length];exact q.1,λp hp=>q.2 _ _ (S13.trans (aO.new' hp)) (eI.ahead (Kt hp (ra.cut _ _)) S13)⟩
 ·exact q.elim
end
section
variable {c:Expr}{tc:dE}{pos:lv}
theorem Dp{op op':XC}{f f':Int->Int->Bool}(ho:lQ X (fv op) (Cr λi j=>.bl (f i j)))(ho':lQ X (fv op') (Cr λi j=>.bl (f' i j)))(ha:QE X a ta)(hb:QE X b tb)(hc:QE X c tc)
  (hm:autoParam (Xc [op,op'] [b,c]=ao) Q9._auto_1):QE X (.Compare a [op,op'] [b,c] pos) (mU (zS f) (zS f') ta tb tc):=by
 refine⟨λρ Q Q' w q=>ha.mono _ _ _ (λrx q=>hb.mono _ _ _ (λry q=>vS _ _ _ _ (λz q=>?_) q) q) q,λHZ F=>cY (Go ho ho' (ha.run HZ F) (hb.run HZ F) (hc.run HZ F) hm) λσ H Q ⟨ρ,fr,q⟩=>?_⟩
 ·split at q
  ·split at q
   ·rw[ZE ‹_›];exact hc.mono _ _ _ (λw' q=>vS _ _ _ _ w q) q
   ·rw[Zg ‹_›];exact w _ q
  ·exact q
 ·refine ha.step fr q λrx x H1 q1 S1 r1=>?_;refine hb.step (fr.mono S1) q1 λry y H2 q2 S2 r2=>?_;have cx:=(r1.mono S2).c;have cy:=r2.c;generalize rx.d=dx at q2 cx;generalize ry.d=dy at q2 cy;unfold zS at q2;split at q2
  ·rename_i Q2 i j;obtain rfl:=cx.int;obtain rfl:=cy.int;refine⟨_,_,rfl,rfl,f i j,rfl,?_⟩;have S12:=S1.trans S2;replace q2:=(show (if f i j=aj then tc ρ (λw=>zS f' (.int j) w.d (λr=>∀x H',aO H H'->eI X.K (MM F ρ) (Z.Ae ρ) H x r H'->Q x H')) else (∀x H',aO H H'->eI X.K (MM F ρ) (Z.Ae ρ) H x (.v (.bl ao)) H'->Q x H')) from q2);cases h:f i j with
   |true=>
    rw[h] at q2;simp only[if_true] at q2;refine uC (hc.step ((fr.mono S1).mono S2) q2 λrw' z H3 q3 S3 r3=>?_);have cz:=r3.c;generalize rw'.d=dz at q3 cz;cases dz with
    |int l=>
     obtain rfl:=cz.int;exact⟨_,_,rfl,rfl,q3 _ H3 (S12.trans S3) (Rep.bl _)⟩
    |_=>exact(show False from q3).elim
   |false=>
    rw[h] at q2;simp only[eo,if_false] at q2;exact uD (q2 _ H2 S12 (Rep.bl _))
  ·exact q2.elim
noncomputable def rF:Dv->Option Bool
 | .non=>aa ao
 | .bl b=>aa b
 | .int i=>aa (i != 0)
 | .lst xs=>aa (!xs.isEmpty)
 | .tup xs=>aa (!xs.isEmpty)
 | .scr xs=>aa (!xs.isEmpty)
 |_=>ar
noncomputable def kJ(te:dE):nB:=λρ Q=>te ρ λr=>match rF r.d with
 |some k=>Q k
 |none=>False
theorem Reps.empty{xs:List V}(r:Reps K M H xs ds):xs.isEmpty=ds.isEmpty:=by cases r<;>rfl
theorem iE(h:QE X e te)(he:autoParam (∀ZZ,isTrue e X.env ZZ=(do let v <- ZZ;WO e.pos;WP [v] (truthy v))) G3._auto_1):QT X e (kJ te):=by
 refine⟨λρ Q Q' w q=>h.mono _ _ _ (λr q=>?_) q,λHZ F=>Ad (GU (h.run HZ F) he) λσ H Q ⟨ρ,fr,q⟩=>?_⟩
 ·split at q
  ·exact w _ q
  ·exact q
 ·refine h.step fr q λr x H1 q S1 r1=>?_;have cx:=r1.c;generalize r.d=d at q cx;split at q
  ·rename_i k hk;refine⟨k,?_,q H1 S1⟩;cases d with
   |non=>obtain rfl:=cx.non;simp only[rF,jd] at hk;subst hk;rfl
   |bl b=>obtain rfl:=cx.bl;simp only[rF,jd] at hk;exact hk.symm
   |int i=>obtain rfl:=cx.int;simp only[rF,jd] at hk;exact hk.symm
   |lst ds=>
    obtain⟨a,xs,rfl,ea,ra⟩:=cx.lst;simp only[rF,jd] at hk;exact .inl ⟨xs,gK.of ea,by rw[ra.empty];exact hk.symm⟩
   |tup ds=>
    obtain⟨a,xs,rfl,ea,ra⟩:=cx.tup;simp only[rF,jd] at hk;exact .inr (.inl ⟨xs,pL.of ea,by rw[ra.empty];exact hk.symm⟩)
   |scr ns=>
    obtain⟨a,rfl,ea⟩:=cx.scr;simp only[rF,jd] at hk;exact .inl ⟨_,ea.sq,by rw[<- hk];cases ns<;>rfl⟩
   |_=>simp[rF] at hk
  ·exact q.elim
end
noncomputable abbrev Fn:=List Dv->(R->Prop)->Prop
inductive low(K:ap)(sp:Fn)(vs:List V)(H:Hp)(Q:VK)(E:XK):Prop
 |mk (F:af->Prop) (ds:List Dv) (hF:OldF K F H) (r:Reps K F H vs ds) (q:sp ds (λr=>∀x H',aO H H'->eI K F yV H x r H'->Q x H'))
structure MonoF(sp:Fn):Prop where
 mo:∀ds (Q Q':R->Prop),(∀r,Q r->Q' r)->sp ds Q->sp ds Q'
structure Def(P:ay)(w:bz)(K:ap)(mg:bw->Option ah)(base:dq)(k:Nat)(x:bw)(ps:List bw)(sp:Sp):Prop where
 ex:∃f fd,mg x=aa (.ref f)/\qi K (.ref f)=aj/\iL K fd ps []/\FnOk P w K mg base DZ k f fd ps sp
structure At(K:ap)(mg:bw->Option ah)(x nm:bw)(st:kh)(ps:List bw):Prop where
 ex:∃f fd,mg x=aa (.ref f)/\Fun K nm nm st f fd/\iL K fd ps []
structure MDef(P:ay)(w:bz)(K:ap)(mg:bw->Option ah)(base:dq)(k:Nat)(C:af)(m:bw)(ps:List bw)(sp:Sp):Prop where
 ex:∃f fd,Meth K C m f/\iL K fd ps []/\FnOk P w K mg base DZ k f fd ps sp
structure MAt(K:ap)(C:af)(m qual:bw)(st:kh)(ps:List bw):Prop where
 ex:∃f fd,Meth K C m f/\Fun K m qual st f fd/\iL K fd ps []
theorem At.ok{P:ay}{w:bz}{K:ap}{mg:bw->Option ah}{base:dq}{k:Nat}{x nm:bw}{st:kh}{ps N:List bw}{sp:Sp}(a:At K mg x nm st ps)(S:FnScope N ps (aI st))(len:∀vs H Q E,sp vs H Q E->vs.length=ps.length)
  (ZR:∀(f:af) (cdv:ah) (A:dj) (outer:List za) (s:ai) (H:Hp) (vs:List V) (Q:VK) (E:XK),Room k (A.deeper (sy nm (aI st) s.heap.objs.size f cdv))->sp vs H Q E ->
   ∃t,uW (cN DZ P w K mg base N nm (aI st) f cdv A outer s H E).nox (eL st) t/\t { nx:=λ_ H'=>Q .non H',rt:=Q } (start N vs) H):Def P w K mg base (k+1) x ps sp:=by
 obtain⟨f,fd,hm,F,hb⟩:=a.ex;exact⟨f,fd,hm,F.kp,hb,F.ok S len (ZR f)⟩
theorem MAt.ok{P:ay}{w:bz}{K:ap}{mg:bw->Option ah}{base:dq}{k:Nat}{C:af}{m ZG:bw}{st:kh}{ps N:List bw}{sp:Sp}(a:MAt K C m ZG st ps)(S:FnScope N ps (aI st))(len:∀vs H Q E,sp vs H Q E->vs.length=ps.length)
  (ZR:∀(f:af) (cdv:ah) (A:dj) (outer:List za) (s:ai) (H:Hp) (vs:List V) (Q:VK) (E:XK),Room k (A.deeper (sy ZG (aI st) s.heap.objs.size f cdv))->sp vs H Q E ->
   ∃t,uW (cN DZ P w K mg base N ZG (aI st) f cdv A outer s H E).nox (eL st) t/\t { nx:=λ_ H'=>Q .non H',rt:=Q } (start N vs) H):MDef P w K mg base (k+1) C m ps sp:=by
 obtain⟨f,fd,hm,F,hb⟩:=a.ex;exact⟨f,fd,hm,hb,F.ok S len (ZR f)⟩
noncomputable def aM(N:List bw)(ds:List Dv):List Sl:=ds.map .v++aw (N.length-ds.length) .un
variable {vs:List V}
theorem As(hF:OldF K F H)(r:Reps K F H vs ds):Fr K H F (start N vs) H (aM N ds):=by
 have no:∀{a:af} {d:Dv},Sl.own a d∈aM N ds->False:=λ{a d} h=>by
  rcases fm.mp h with h | h
  ·obtain⟨z,_,e⟩:=jh.mp h;cases e
  ·cases gp h
 have wk:∀a,MM F (aM N ds) a->F a:=λa h=>by
  rcases h with h | ⟨d,h⟩
  ·exact h
  ·exact(no h).elim
 have hl:=r.length;refine⟨by simp[L2.start,aM,hl],λi s e=>?_,λi j a d d' e _=>(no (fh e)).elim,λa d h=>(no h).elim,aO.refl _,hF⟩;unfold aM at e;by_cases hi:i<ds.length
 ·rw[bh (by simpa using hi),dh] at e;cases q:ds[i]? with
  |none=>rw[q] at e;cases e
  |some d=>
   rw[q] at e;cases e;obtain⟨x,hx,rx⟩:=r.get q;refine⟨x,?_,rx.weak wk⟩;unfold L2.start;rw[bh (by simpa using(cg.mp hx).1),dh,hx];rfl
 ·rw[bo (by simpa using ng hi)] at e;have:=fh e;cases gp this;trivial
variable {E:XK}{sp:Fn}
theorem AZ{sts:List kh}{t:cD}{Q:VK}(h:QSs X sts t)(hsp:∀ds Q,sp ds Q->t ↥Q (aM N ds))(q:low X.K sp vs H Q E):
  ∃t',uW X sts t'/\t' { nx:=λ_ H'=>Q .non H',rt:=Q } (start N vs) H:=by
 obtain⟨F,ds,hF,r,q⟩:=q;exact⟨_,h.run H F,aM N ds,_,As hF r,hsp ds _ q,λρ σ H' fr q=>q .non H' fr.same Rep.non,λ_ _ _ _ z=>z.elim,λ_ _ _ _ z=>z.elim,λrr x H' S rx q=>q x H' S rx⟩
theorem A5(h:∀ds Q,sp ds Q->ds.length=n):∀vs H Q E,low K sp vs H Q E->vs.length=n:=λvs H Q E zq6=>by obtain⟨F,ds,_,r,q⟩:=zq6;(rw[r.length];exact h _ _ q)
variable {st:kh}
theorem At.okP{k:Nat}{x nm:bw}{t:cD}(a:At K mg x nm st ps)(S:FnScope N ps (aI st))
  (hq:∀(f:af) (cdv:ah) (A:dj) (outer:List za) (s:ai) (H:Hp) (E:XK),Room k (A.deeper (sy nm (aI st) s.heap.objs.size f cdv))->QSs (cN DZ P w K mg base N nm (aI st) f cdv A outer s H E).nox (eL st) t)
  (len:∀ds Q,sp ds Q->ds.length=ps.length) (hsp:∀ds Q,sp ds Q->t ↥Q (aM N ds)):Def P w K mg base (k+1) x ps (low K sp):=
 a.ok S (A5 len) λf cdv A outer s H vs Q E hr q=>AZ (hq f cdv A outer s H E hr) hsp q
variable {m:bw}
theorem MAt.okP{k:Nat}{t:cD}(a:MAt K C m ZG st ps)(S:FnScope N ps (aI st))
  (hq:∀(f:af) (cdv:ah) (A:dj) (outer:List za) (s:ai) (H:Hp) (E:XK),Room k (A.deeper (sy ZG (aI st) s.heap.objs.size f cdv))->QSs (cN DZ P w K mg base N ZG (aI st) f cdv A outer s H E).nox (eL st) t)
  (len:∀ds Q,sp ds Q->ds.length=ps.length) (hsp:∀ds Q,sp ds Q->t ↥Q (aM N ds)):MDef P w K mg base (k+1) C m ps (low K sp):=
 a.ok S (A5 len) λf cdv A outer s H vs Q E hr q=>AZ (hq f cdv A outer s H E hr) hsp q
noncomputable def R.flat:R->Bool
 | .v d=>lJ d
 | .nw d=>IF d
 | .ow _ _=>ao
noncomputable def back(rs:List R)(Q:R->Prop):R->Prop:=λr=>(rs.all R.free=aj \/ r.flat=aj)/\Q r
noncomputable def b9(sp:Fn)(ts:lU):dE:=λρ Q=>ts ρ λrs=>sp (rs.map R.d) (back rs Q)
variable {rs:List R}
noncomputable def lent(M:af->Prop)(rs:List R):af->Prop:=λa=>M a /\ ∀d,R.ow a d ∉ rs
theorem lI(fr:Fr K HZ F σ H ρ){all:List R}:∀{xs:List V} {rs:List R},(∀r∈rs,r∈all)->Paired (λx r=>eI K (MM F ρ) (Z.Ae ρ) H x r H1) xs rs->Reps K (lent (MM F ρ) all) H1 xs (rs.map R.d)
 |_,_,_,.nil=>.nil
 |_,r::_,hs,.cons a t=>by
  refine .cons ?_ (lI fr (λr hr=>hs r (by simp[hr])) t);have wk:∀a,lent (MM F ρ) all a->MM F ρ a:=λa z=>z.1;cases r with
  |v d=>exact Rep.weak wk a
  |nw d=>exact(eI.rep a (λa m=>fr.dom m) rfl).weak wk
  |ow b d=>
   obtain⟨rfl,_,o⟩:=a;exact(o.weak wk).rep λz=>z.2 d (hs _ (by simp))
theorem Ib(h:rs.all R.free=aj)(a:af)(d:Dv):R.ow a d ∉ rs:=λz=>by
 have:=zl.mp h _ z;simp[R.free] at this
theorem yC{x:V}{r:R}{O:af->Dv->Prop}(fr:Fr K HZ F σ H ρ)(S1:aO H H1)(h:eI K (lent (MM F ρ) rs) yV H1 x r H')(f:rs.all R.free=aj \/ r.flat=aj):eI K (MM F ρ) O H x r H':=by
 rcases f with f | f
 ·have wk:∀a,MM F ρ a->lent (MM F ρ) rs a:=λa z=>⟨z,λd=>Ib f a d⟩;cases r with
  |v d=>exact Rep.weak wk h
  |ow a d=>exact h.2.1.elim
  |nw d=>
   obtain⟨a,e,n,o⟩:=h;exact⟨a,e,S1.free n,o.weak λb z=>z.elim (λz=>.inl (wk b z)) .inr⟩
 ·cases r with
  |v d=>exact Rep.flat f h
  |ow a d=>exact h.2.1.elim
  |nw d=>
   obtain⟨a,e,n,o⟩:=h;exact⟨a,e,S1.free n,o.flat f⟩
variable {Q':R->Prop}{pl:X8 Bool}
section
variable {k:Nat}{x:bw}{o:Expr}{to:dE}{pos ZQ:lv}
theorem wN{xs:List V}{Q:VK}(mo:MonoF sp)(fr:Fr X.K HZ F σ H ρ)(S1:aO H H1)(r1:kH X.K (MM F ρ) (Z.Ae ρ) H xs rs H1)(q:sp (rs.map R.d) (back rs Q'))
  (w:∀r,Q' r -> ∀x H',aO H H'->eI X.K (MM F ρ) (Z.Ae ρ) H x r H'->Q x H'):low X.K sp xs H1 Q E:=by
 refine⟨lent (MM F ρ) rs,_,⟨λa z=>(fr.mono S1).dom z.1,(fr.mono S1).tab⟩,lI fr (λ_ h=>h) r1,mo.mo _ _ _ (λr q x H' S rx=>?_) q⟩;exact w r q.2 x H' (S1.trans S) (yC fr S1 rx q.1)
theorem pG(w:∀r,Q r->Q' r):∀r,back rs Q r->back rs Q' r:=λr h=>⟨h.1,w r h.2⟩
theorem bH(d:Def X.prog X.w X.K X.mg X.base k x ps (low X.K sp))(mo:MonoF sp)(hr:Room k X.A)(ha:QA X (e::es) ts)(hg:autoParam (Gl X x) c8._auto_1)
  (hdb:autoParam ((x==("__debug__" : bw))=ao) lS._auto_1) (he:autoParam (av (e::es) X.env=(ao,gn e X.env)::av es X.env) c8._auto_1) (hpl:autoParam ((iu pos (av es X.env)).any (·.1)=ao) c8._auto_1):
  QE X (.Call (.Name x p) (e::es) [] pos) (b9 sp ts):=by
 obtain⟨f,fd,hm,hk,hb,FO⟩:=d.ex;refine⟨λρ Q Q' w q=>ha.mono _ _ _ (λrs q=>mo.mo _ _ _ (pG w) q) q,λHZ F=>cY (Ja FO hr hg hm hk hb .nil Dw (ha.run HZ F) hdb he hpl) λσ H Q zz=>?_⟩;obtain⟨ρ,fr,h⟩:=zz;refine ha.step fr h λrs xs H1 q S1 r1=>?_;rw[ic];exact wN mo fr S1 r1 q λr z=>z
noncomputable def fU(C:af)(m:bw)(sp:Fn)(to:dE)(ts:lU):dE:=λρ Q=>to ρ λro=>match ro.d with
 | .obj C' fs=>(C'=C/\fs.lookup m=ar)/\ts ρ λrs=>sp (ro.d::rs.map R.d) (back (ro::rs) Q)
 |_=>False
theorem RepF.lookup{K:ap}{M:af->Prop}{H:Hp}{f:bw}{xs:List (bw×V)}{ds:List (bw×Dv)}(r:RepF K M H xs ds):(ds.lookup f=ar->xs.lookup f=ar) /\ ∀d,ds.lookup f=aa d -> ∃x,xs.lookup f=aa x/\Rep K M H x d:=
 r.ind (P:=λxs ds=>(ds.lookup f=ar->xs.lookup f=ar) /\ ∀d,ds.lookup f=aa d -> ∃x,xs.lookup f=aa x/\Rep K M H x d) ⟨λ_=>rfl,λd h=>by cases h⟩ λk x d xs ds a _ ih=>by
  rw[XG,XG];cases h:f==k with
  |true=>
   refine⟨λz=>?_,λd' z=>?_⟩
   ·cases z
   ·cases z;exact⟨x,rfl,a⟩
  |false=>exact ih
theorem jJ(c:Cls X.K C)(d:MDef X.prog X.w X.K X.mg X.base k C m ps (low X.K sp))(mo:MonoF sp)(hr:Room k X.A)(ho:QE X o to)(ha:QA X (e::es) ts)
  (hst:autoParam (av (e::es) X.env=(ao,gn e X.env)::av es X.env) c8._auto_1) (hpl:autoParam ((iu pos (av es X.env)).any (·.1)=ao) c8._auto_1)
  (ht:autoParam (gn (.Call (.Attribute o m ZQ) (e::es) [] pos) X.env=(do
   let ov <- gn o X.env
   WO ZQ.atName
   let (f,first) <- WP [ov] (V8 ov m pl)
   Yg pos f first (iu pos (av (e::es) X.env)) (xz pos (sx [] X.env)))) c8._auto_1):
  QE X (.Call (.Attribute o m ZQ) (e::es) [] pos) (fU C m sp to ts):=by
 obtain⟨f,fd,hm,hb,FO⟩:=d.ex;refine⟨λρ Q Q' w q=>ho.mono _ _ _ (λro q=>?_) q,λHZ F=>cY (JX (pl:=pl) (ho.run HZ F) c hm FO hr hb .nil Dw (ha.run HZ F) hst hpl ht) λσ H Q ⟨ρ,fr,h⟩=>?_⟩
 ·split at q
  ·exact⟨q.1,ha.mono _ _ _ (λrs q=>mo.mo _ _ _ (pG w) q) q.2⟩
  ·exact q
 ·refine ho.step fr h λro x H1 q S1 r1=>?_;split at q
  ·rename_i C' fs e;obtain⟨⟨rfl,hl⟩,q⟩:=q;have cx:=r1.c;rw[e] at cx;obtain⟨a,dx,fs',rfl,ea,ra⟩:=cx.obj;refine⟨a,dx,fs',rfl,ea,ra.lookup.1 hl,ha.step (fr.mono S1) q λrs xs H2 q S2 r2=>?_⟩;rw[ic];exact wN (rs:=ro::rs) (xs:=.ref a::xs) mo fr (S1.trans S2) (.cons (r1.mono S2) (r2.ahead S1)) q λr z=>z
  ·exact q.elim
theorem mK(c:Cls X.K C)(d:MDef X.prog X.w X.K X.mg X.base k C m ps (low X.K sp))(mo:MonoF sp)(hr:Room k X.A)(ho:QE X o to)
  (ht:autoParam (gn (.Call (.Attribute o m ZQ) [] [] pos) X.env=(do
   let ov <- gn o X.env
   WO ZQ.atName
   let (f,first) <- WP [ov] (V8 ov m pl)
   Yg pos f first (iu pos (av [] X.env)) (xz pos (sx [] X.env)))) c8._auto_1):
  QE X (.Call (.Attribute o m ZQ) [] [] pos) (fU C m sp to aF):=by
 obtain⟨f,fd,hm,hb,FO⟩:=d.ex;refine⟨λρ Q Q' w q=>ho.mono _ _ _ (λro q=>?_) q,λHZ F=>cY (Gh (pl:=pl) (ho.run HZ F) c hm FO hr hb .nil Dw ht) λσ H Q ⟨ρ,fr,h⟩=>?_⟩
 ·split at q
  ·exact⟨q.1,mo.mo _ _ _ (pG w) q.2⟩
  ·exact q
 ·refine ho.step fr h λro x H1 q S1 r1=>?_;split at q
  ·rename_i C' fs e;obtain⟨⟨rfl,hl⟩,q⟩:=q;have cx:=r1.c;rw[e] at cx;obtain⟨a,dx,fs',rfl,ea,ra⟩:=cx.obj;refine⟨a,dx,fs',rfl,ea,ra.lookup.1 hl,?_⟩;exact wN (rs:=[ro]) (xs:=[.ref a]) (E:=E0) mo fr S1 (.cons r1 .nil) q λr z=>z
  ·exact q.elim
noncomputable def IL(C:af)(f:bw)(to:dE):dE:=λρ Q=>to ρ λro=>match ro.d with
 | .obj C' fs=>C'=C/\match fs.lookup f with
  |some d=>Q (.v d)
  |none=>False
 |_=>False
theorem L4{f:bw}(c:Cls X.K C)(n:jL X.K C f)(ho:QE X o to)(hb:autoParam (rq o f X.env (gn o X.env)=gn o X.env) c8._auto_1):QE X (.Attribute o f pos) (IL C f to):=by
 refine⟨λρ Q Q' w q=>ho.mono _ _ _ (λro q=>?_) q,λHZ F=>cY (ML (ho.run HZ F) hb) λσ H Q ⟨ρ,fr,h⟩=>?_⟩
 ·split at q
  ·refine⟨q.1,?_⟩;have q2:=q.2;split at q2
   ·exact w _ q2
   ·exact q2
  ·exact q
 ·refine ho.step fr h λro x H1 q S1 r1=>?_;split at q
  ·rename_i C' fs e;obtain⟨rfl,q⟩:=q;have cx:=r1.c;rw[e] at cx;obtain⟨a,dx,fs',rfl,ea,ra⟩:=cx.obj;split at q
   ·rename_i d hd;obtain⟨z,hz,rz⟩:=ra.lookup.2 d hd;exact⟨a,_,dx,fs',z,rfl,ea,c,n,hz,q _ H1 S1 rz⟩
   ·exact q.elim
  ·exact q.elim
end
end Z
namespace L2
noncomputable def NU(lo c:Int)(n:Nat):It:=⟨λi _=>i<n,λi H x H'=>H'=H/\x=.int (lo+i*c),λi _=>n<=i⟩
theorem An(it:af)(lo c:Int)(n:Nat):Turn P w K tg (NU lo c n) [it] it (λi h=>uw h it (lo+(i:Nat)*c) ((n:Int)-(i:Nat)) c) where
 mem:=by simp
 obj:=λi h st b hb=>by
  have e:b=it:=by simpa using hb
  subst e;exact⟨_,st,λv z=>by
   have z':Zc _=Data.cell v:=z;cases z'⟩
 keep:=λi h h' st k=>k it (by simp) _ st
 item:=by
  intro X hP hw hK hc i pk s σ H E I hf st hg;subst hP hw hK;obtain⟨f0,f1,f2,f3,f4,f5⟩:=hf it (by simp);refine w6 hg st λv h' tk hv st' kk=>?_;obtain⟨t,rfl⟩:=hv;have I1:Inv X pk σ H { s with heap:=h',toks:=tk }:=I.turned (λb o hb e=>kk b o (by simpa using hb) e) f0 f1 f3 f4 f5;exact⟨_,rfl,Bs (s:={ s with heap:=h',toks:=tk }) (n:="range_iterator") st' rfl rfl ∅ ⟨.int (lo+i*c),H,I1,⟨t,rfl⟩,⟨rfl,rfl⟩,st',λb hb=>(hf b hb).1⟩⟩
 done:=by
  intro X hP hw hK hc i pk s σ H E I hf st hg;subst hP hw hK;obtain⟨f0,f1,f2,f3,f4,f5⟩:=hf it (by simp);exact yM I.qu st (by have:n<=i:=hg;right) λh' eb=>⟨rfl,I.turned (t':=s.toks) (λb o hb e=>eb b o hb e) f0 f1 f3 f4 f5⟩
 self:=λ_ _ _ _ _ st h=>Vp st h
noncomputable def PM(ta:TA):TI:=λσ H R=>ta σ H λvs H1=>∃i j c:Int,vs=[.int i,.int j,.int c]/\c≠0/\c.natAbs<1000/\xa i j c=aj/\0<=fg i j c/\R (NU i c (fg i j c).toNat) H1
theorem Eu{a b c:Expr}{ta:TA}{pos:lv}(hg:Gl X "range")(hm:X.mg "range" = ar)(ha:PA X [a,b,c] ta)(hs:autoParam (av [a,b,c] X.env=[(ao,gn a X.env),(ao,gn b X.env),(ao,gn c X.env)]) c8._auto_1)
  (hs2:autoParam (av [b,c] X.env=[(ao,gn b X.env),(ao,gn c X.env)]) c8._auto_1):PI X tg (.Call (.Name "range" p) [a,b,c] [] pos) (PM ta):=by
 intro pk s σ H R I h;refine Zz (o9 I hg hm WA (ip (thn (ha pos pk s σ H _ I h) λus s1 ⟨vs,H1,I1,r1,q1⟩=>?_) (by rw[hs,hs2]) (by rw[hs2];rfl)));obtain⟨i,j,c,e,q0,qs,q1,q2,q⟩:=q1;subst e;cases r1 with
 |cons r rr=>
  cases rr with
  |cons r' rr=>
   cases rr with
   |cons r'' rr=>
    cases rr;obtain⟨t,rfl⟩:=r;obtain⟨t',rfl⟩:=r';obtain⟨t'',rfl⟩:=r'';refine call_range_3 q0 ?_ (.inl (PyProof.noPylong_small ⋯));refine Wz (IsRange.new ..) q1 ?_;have I2:Inv X pk σ H1 { s1 with heap:=s1.heap.push { cls:=.type "range",data:=.fields #[.int i t,.int j t',.int c t''] },toks:=s1.toks }:=I1.kept λb o e=>aq _ e;refine⟨_,[_],_,_,H1,rfl,I2.kept (t':=s1.toks) λb o e=>aq _ e,An _ i c (fg i j c).toNat,?_,λb hb=>?_,q⟩
    ·show uw _ _ (i+((0:Nat):Int)*c) ((((fg i j c).toNat:Nat):Int)-((0:Nat):Int)) c;have e1:i+((0:Nat):Int)*c=i:=by simp
     have e2:(((fg i j c).toNat:Nat):Int)-((0:Nat):Int)=fg i j c:=⋯;rw[e1,e2];exact cm _ rfl
    ·have e:b=_:=fe.mp hb;subst e;exact I2.fpOk (bt _) (I2.hok.fresh (bt _))
noncomputable def tW(lo:Int)(n:Nat):List V:=(gy n).map λ(k:Nat)=>V.int (lo+(k:Int))
theorem Fs:fP X (.type "range") (λxs H Q=>∃j:Int,xs=[.int j] /\ ∀p,H p=ar->Q (.ref p) (upd H p (.rng 0 j))):=by
 intro pk s σ H xs us Q I r h;obtain⟨j,rfl,q⟩:=h;obtain⟨u,rfl,ru⟩:=kK r;obtain⟨t,rfl⟩:=ru;exact call_range_1 ⟨.ref s.heap.objs.size,_,I.laid (o:=.rng 0 j) (λb o e=>aq _ e) (bt _) ⟨_,_,_,cm _ rfl⟩,rfl,q _ (I.hok.fresh (bt _))⟩
theorem xL(hc:X.calm=aj):fP X (.type "list") (λxs H Q=>∃p lo hi,xs=[.ref p]/\H p=aa (.rng lo hi)/\(-(2 ^ 62)<=lo/\lo<2 ^ 62 /\ -(2 ^ 62)<=hi/\hi<2 ^ 62)/\(hi-lo).toNat<=1000000 /\ ∀l,H l=ar->Q (.ref l) (upd H l (.lst (tW lo (hi-lo).toNat)))):=by
 intro pk s σ H xs us Q I r h;obtain⟨p,lo,hi,rfl,hp,⟨b1,b2,b3,b4⟩,hn,q⟩:=h;obtain⟨u,rfl,ru⟩:=kK r;cases ru;obtain⟨t,t2,t3,e⟩:=I.hok _ _ hp;refine call_list_range (n:=(hi-lo).toNat) (I.ok.hd hc) e (small_one b1 b2 b3 b4) (by rw[rangeSize_one];split<;>right) ⋯ λh' tk acc c' hk hS hacc=>?_;refine⟨.ref s.heap.objs.size,_,I.laid (o:=.lst (tW lo (hi-lo).toNat)) hk (bt _) ?_,rfl,q _ (I.hok.fresh (bt _))⟩;have hl:acc.size=(hi-lo).toNat:=hacc.1;refine⟨by simp only[tW,bf,X1];rw[ke];right,acc.toList,c',?_,by simpa using hS⟩;have key:∀(n:Nat) (l:List ah),l.length=n->(∀(i:Nat) (v:ah),l[i]?=aa v -> ∃t,v=Value.int (lo+(i:Int)*1) t)->bU (tW lo n) l:=by
  intro n;induction n with
  |zero=>intro l hl _;rw[Vb.mp hl];exact .nil
  |succ n ih=>
   intro l hl hi;have hne:l≠[]:=by intro z;rw[z] at hl;cases hl
   have e1:l=l.dropLast++[l.getLast hne]:=(ri hne).symm;rw[e1];unfold tW;rw[XU,yi];have l1:l.dropLast.length=n:=by simp[hl]
   refine bU.append (ih l.dropLast l1 λi v hv=>hi i v ?_) (.cons ?_ .nil)
   ·have hlt:i<l.dropLast.length:=(cg.mp hv).1;rw[e1,bh hlt];exact hv
   ·obtain⟨t,ht⟩:=hi n (l.getLast hne) (by simp[List.getLast_eq_getElem,hl]);rw[ht,Zd];exact⟨t,rfl⟩
 refine key _ _ (by simpa using hl) λi v hv=>?_;exact hacc.2 i v (by simpa using hv)
end L2
namespace Z
open L2
variable {lo:Int}{P:Hp}{σ:St}{elts:List Expr}{x1:Nat}{tp:lv}
section
variable {a b c:Expr}{ta tb:dE}{pos p2:lv}
noncomputable def qD(lo c:Int)(n:Nat):List Dv:=(gy n).map λ(k:Nat)=>Dv.int (lo+(k:Int)*c)
noncomputable def uN(ts:lU):xM:=λρ Q=>ts ρ λrs=>match rs.map R.d with
 | [.int i,.int j,.int c]=>(c≠0/\c.natAbs<1000/\xa i j c=aj/\0<=fg i j c)/\Q (qD i c (fg i j c).toNat) []
 |_=>False
theorem Cq{c:Int}{d:Dv}(h:(qD lo c n)[i]?=aa d):i<n/\d=.int (lo+i*c):=by
 unfold qD at h;rw[dh] at h;cases e:(gy n)[i]? with
 |none=>rw[e] at h;cases h
 |some k=>
  rw[e] at h;obtain⟨h1,h2⟩:=cg.mp e;simp at h1 h2;subst h2;exact⟨h1,(Option.some.inj h).symm⟩
theorem Bo{c:Int}:wS K P M H1 (NU lo c n) (qD lo c n) []:=by
 intro i H' M' S G _;refine⟨λd e=>?_,λh=>(show n<=i by simpa [qD] using h)⟩;obtain⟨h1,h2⟩:=Cq e;subst h2;refine⟨h1,λy H'' zz=>?_⟩;obtain⟨e1,e2⟩:=zz;subst e1 e2;exact⟨aO.refl _,.int _⟩
theorem ND{xs:List V}{d d' d'':Dv}(h:yY K M H xs [d,d',d'']):∃x y z,xs=[x,y,z]/\eD K M H x d/\eD K M H y d'/\eD K M H z d'':=by
 cases h with
 |cons a t=>
  obtain⟨y,z,rfl,b,c⟩:=DV t;exact⟨_,_,_,rfl,a,b,c⟩
theorem Er(hg:Gl X "range")(hm:X.mg "range" = ar)(ha:QA X [a,b,c] ts)(hs:autoParam (av [a,b,c] X.env=[(ao,gn a X.env),(ao,gn b X.env),(ao,gn c X.env)]) c8._auto_1)
  (hs2:autoParam (av [b,c] X.env=[(ao,gn b X.env),(ao,gn c X.env)]) c8._auto_1):QI X tg (.Call (.Name "range" p) [a,b,c] [] pos) (uN ts):=by
 refine⟨λρ Q Q' w q=>ha.mono _ _ _ (λr q=>?_) q,λHZ F=>⟨_,Eu hg hm (ha.run HZ F) hs hs2,λσ H ρ R fr q=>?_⟩⟩
 ·split at q
  ·exact⟨q.1,w _ _ q.2⟩
  ·exact q
 ·refine ha.step fr q λrs xs H1 q S1 r1=>?_;split at q
  ·rename_i i j c e;have cc:=r1.c;rw[e] at cc;obtain⟨x,y,z,rfl,cx,cy,cz⟩:=ND cc;obtain rfl:=cx.int;obtain rfl:=cy.int;obtain rfl:=cz.int;exact⟨i,j,c,rfl,q.1.1,q.1.2.1,q.1.2.2.1,q.1.2.2.2,q.2 _ H1 S1 (by intro p hp;simp at hp) Bo⟩
  ·exact q.elim
noncomputable def Fh(ts:lU):dE:=λρ Q=>ts ρ λrs=>match rs.map R.d with
 | [.int j]=>(-(2 ^ 62)<=j/\j<2 ^ 62/\j.toNat<=1000000)/\Q (.nw (.lst (aV 0 j.toNat)))
 |_=>False
noncomputable def Pb(ts:lU):dE:=λρ Q=>ts ρ λrs=>match rs.map R.d with
 | [.int i,.int j]=>((-(2 ^ 62)<=i/\i<2 ^ 62 /\ -(2 ^ 62)<=j/\j<2 ^ 62)/\(j-i).toNat<=1000000)/\Q (.nw (.lst (aV i (j-i).toNat)))
 |_=>False
theorem Co(lo:Int)(n:Nat):Reps K M H (tW lo n) (aV lo n):=by
 unfold tW aV;induction (gy n) with
 |nil=>exact .nil
 |cons k r ih=>exact .cons (.int _) ih
theorem mL{pos2:lv}(hc:X.calm=aj)(hg:Gl X "list")(hm:X.mg "list" = ar)(hg2:Gl X "range")(hm2:X.mg "range" = ar)(ha:QA X [a] ts)
  (h1:autoParam (av [.Call (.Name "range" p2) [a] [] pos2] X.env=(ao,gn (.Call (.Name "range" p2) [a] [] pos2) X.env)::av [] X.env) c8._auto_1) (h2:autoParam ((iu pos (av [] X.env)).any (·.1)=ao) c8._auto_1)
  (h3:autoParam (av [a] X.env=(ao,gn a X.env)::av [] X.env) c8._auto_1) (h4:autoParam ((iu pos2 (av [] X.env)).any (·.1)=ao) c8._auto_1):
  QE X (.Call (.Name "list" p) [.Call (.Name "range" p2) [a] [] pos2] [] pos) (Fh ts):=by
 refine⟨λρ Q Q' w q=>ha.mono _ _ _ (λr q=>?_) q,λHZ F=>cY (sZ (xL hc) hg hm Wh (iU (sZ Fs hg2 hm2 WA (ha.run HZ F) ∅ ∅ h3 h4) qE h1) ∅ ∅ h1 h2) λσ H Q ⟨ρ,fr,q⟩=>?_⟩
 ·split at q
  ·exact⟨q.1,w _ q.2⟩
  ·exact q
 ·refine ha.step fr q λrs xs H1 q S1 r1=>?_;split at q
  ·rename_i j e;have cc:=r1.c;rw[e] at cc;obtain⟨x,rfl,cx⟩:=fG cc;obtain rfl:=cx.int;obtain⟨⟨b1,b2,b3⟩,q⟩:=q;refine⟨j,rfl,λr hr=>⟨r,0,j,rfl,bS,⟨⋯,⋯,b1,b2⟩,by rw[Z2];exact b3,λl hl=>?_⟩⟩;have S2:aO H (upd (upd H1 r (.rng 0 j)) l (.lst (tW 0 (j-0).toNat))):=(S1.trans (aO.new' hr)).trans (aO.new' hl);rw[Z2] at S2 ⊢;exact q _ _ S2 (eI.ahead (kB hl (Co 0 _)) (S1.trans (aO.new' hr)))
  ·exact q.elim
noncomputable def tY(ds:List Dv):List Dv:=(ds.zipIdx).map λq=>.tup [.int (q.2:Int),q.1]
theorem Fd{d:Dv}(h:(tY ds)[i]?=aa d):∃d0,ds[i]?=aa d0/\d=.tup [.int i,d0]:=by
 unfold tY at h;rw[dh,List.getElem?_zipIdx] at h;cases e:ds[i]? with
 |none=>rw[e] at h;cases h
 |some d0=>
  rw[e] at h;refine⟨d0,rfl,?_⟩;simp at h;exact h.symm
noncomputable def A8(ts:lU):xM:=λρ Q=>ts ρ λrs=>match rs with
 | [.v (.lst ds)]=>Q (tY ds) []
 | [.nw (.lst ds)]=>Q (tY ds) []
 | [.ow a (.lst ds)]=>Q (tY ds) [(a,ds)]
 |_=>False
structure Walked(K:ap)(P:Hp)(M:af->Prop)(H1:Hp)(a:af)(ds:List Dv)(ogs:List (af×List Dv)):Prop where
 at_:∀(H':Hp) (M':af->Prop),aO P H'->Gen K M M' H1 H'->(∀p∈ogs,fE K M' H' p.1 (.lst p.2)) -> ∃xs,H' a=aa (.lst xs)/\Reps K M' H' xs ds
noncomputable def pU:R->List (af×List Dv)
 | .ow a (.lst ds)=>[(a,ds)]
 |_=>[]
theorem walked{x:V}{r:R}(fr:Fr K HZ F σ H ρ)(S1:aO H H1)(r1:eI K (MM F ρ) (Z.Ae ρ) H x r H1)(hd:r.d=.lst ds):
  ∃a xs,x=.ref a/\H1 a=aa (.lst xs)/\guard (pU r) ρ/\Walked K (prot H1 ρ) (MM F ρ) H1 a ds (pU r):=by
 cases r with
 |v d=>
  have e:d=.lst ds:=hd;subst e;cases r1 with
  |lst e m rs=>
   refine⟨_,_,rfl,e,by intro p hp;simp[pU] at hp,⟨λH' M' S G _=>⟨_,S _ _ (by rw[cL λc=>m (.inr c)];exact e),rs.gen G⟩⟩⟩
 |nw d=>
  have e:d=.lst ds:=hd;subst e;obtain⟨a,rfl,n,xs,e,rs⟩:=r1;exact⟨_,_,rfl,e,by intro p hp;simp[pU] at hp,⟨λH' M' S G _=>⟨_,S _ _ (by rw[cL λc=>fr.fresh n (.inr c)];exact e),(rs.weak λb z=>.inl z).gen G⟩⟩⟩
 |ow a d=>
  have e:d=.lst ds:=hd;subst e;obtain⟨rfl,m,xs,e,rs⟩:=r1;refine⟨_,_,rfl,e,by intro p hp;simp[pU] at hp;subst hp;exact m,⟨λH' M' S G ow=>?_⟩⟩;exact ow (a,ds) (by simp[pU])
theorem FV{a:af}{ogs:List (af×List Dv)}(w:Walked K P M H1 a ds ogs):wS K P M H1 (R5 K a) (tY ds) ogs:=by
 intro i H' M' S G ow;obtain⟨xs,h',r⟩:=w.at_ H' M' S G ow;refine⟨λd e=>?_,λh=>⟨xs,gK.of h',by rw[r.length];simpa [tY] using h⟩⟩;obtain⟨d0,e0,rfl⟩:=Fd e;obtain⟨x,hx,rx⟩:=r.get e0;refine⟨⟨xs,x,gK.of h',hx⟩,λy H'' zz=>?_⟩;obtain⟨T,z,hT,e1,e2,hz⟩:=zz;subst e1 e2;have:=hz xs (gK.of h');rw[hx] at this;cases this;exact⟨aO.new' hT,.tup bS (.cons (.int _) (.cons (rx.mono (aO.new' hT)) .nil))⟩
theorem JE(hg:Gl X "enumerate")(hm:X.mg "enumerate" = ar)(ha:QA X [a] ts)(hs:autoParam (av [a] X.env=[(ao,gn a X.env)]) c8._auto_1):QI X (.Tuple elts x1 tp) (.Call (.Name "enumerate" p) [a] [] pos) (A8 ts):=by
 refine⟨λρ Q Q' w q=>ha.mono _ _ _ (λr q=>?_) q,λHZ F=>⟨_,JW hg hm (ha.run HZ F) hs,λσ H ρ R fr q=>?_⟩⟩
 ·split at q<;>first | exact w _ _ q | exact q
 ·refine ha.step fr q λrs xs H1 q S1 r1=>?_;have one:∀{r:Z.R} {ds:List Dv},rs=[r]->r.d=.lst ds->(∀J H1',aO H H1'->guard (pU r) ρ->wS X.K (prot H1' ρ) (MM F ρ) H1' J (tY ds) (pU r)->R J H1') -> ∃a,xs=[V.ref a]/\(∃xs,gK X.K H1 a xs)/\R (R5 X.K a) H1:=by
   intro r ds e hd k;subst e;cases r1 with
   |cons a1 t1=>
    cases t1;obtain⟨a,ys,rfl,ea,gd,wk⟩:=walked fr S1 a1 hd;exact⟨a,rfl,⟨ys,gK.of ea⟩,k _ H1 S1 gd (FV wk)⟩
  split at q
  ·exact one rfl rfl q
  ·exact one rfl rfl q
  ·exact one rfl rfl q
  ·exact q.elim
noncomputable def Ag(xs ys:List Dv):List Dv:=X2 (λx y=>.tup [x,y]) xs ys
noncomputable def yJ(ts:lU):xM:=λρ Q=>ts ρ λrs=>match rs with
 | [r,r']=>match r.d,r'.d with
  | .lst xs,.lst ys=>Q (Ag xs ys) (pU r++pU r')
  |_,_=>False
 |_=>False
theorem Hn{a b:af}{es:List Dv}{o1 o2:List (af×List Dv)}(w1:Walked K P M H1 a ds o1)(w2:Walked K P M H1 b es o2):wS K P M H1 (Th a b) (Ag ds es) (o1++o2):=by
 intro i H' M' S G ow;obtain⟨xs,h1,r1⟩:=w1.at_ H' M' S G λp hp=>ow p (gr _ hp);obtain⟨ys,h2,r2⟩:=w2.at_ H' M' S G λp hp=>ow p (eh _ hp);refine⟨λd e=>?_,λh=>⟨xs,ys,h1,h2,?_⟩⟩
 ·unfold Ag at e;rw[List.getElem?_zipWith] at e;cases e1:ds[i]? with
  |none=>rw[e1] at e;cases e
  |some d1=>
   cases e2:es[i]? with
   |none=>rw[e1,e2] at e;cases e
   |some d2=>
    rw[e1,e2] at e;cases e;obtain⟨x,hx,rx⟩:=r1.get e1;obtain⟨y,hy,ry⟩:=r2.get e2;refine⟨⟨xs,ys,x,y,h1,h2,hx,hy⟩,λz H'' zz=>?_⟩;obtain⟨T,z1,z2,hT,e3,e4,k1,k2⟩:=zz;subst e3 e4;have q1:=k1 xs h1;have q2:=k2 ys h2;rw[hx] at q1;rw[hy] at q2;cases q1;cases q2;exact⟨aO.new' hT,.tup bS (.cons (rx.mono (aO.new' hT)) (.cons (ry.mono (aO.new' hT)) .nil))⟩
 ·rw[r1.length,r2.length];simp only[Ag,List.length_zipWith] at h;right
theorem GP(hg:Gl X "zip")(hm:X.mg "zip" = ar)(ha:QA X [a,b] ts)(hs:autoParam (av [a,b] X.env=[(ao,gn a X.env),(ao,gn b X.env)]) c8._auto_1)(hs2:autoParam (av [b] X.env=[(ao,gn b X.env)]) c8._auto_1):
  QI X (.Tuple elts x1 tp) (.Call (.Name "zip" p) [a,b] [] pos) (yJ ts):=by
 refine⟨λρ Q Q' w q=>ha.mono _ _ _ (λr q=>?_) q,λHZ F=>⟨_,MA hg hm (ha.run HZ F) hs hs2,λσ H ρ R fr q=>?_⟩⟩
 ·split at q
  ·split at q
   ·exact w _ _ q
   ·exact q
  ·exact q
 ·refine ha.step fr q λrs xs H1 q S1 r1=>?_;split at q
  ·rename_i r r';split at q
   ·rename_i ds es h1 h2;cases r1 with
    |cons a1 t1=>
     cases t1 with
     |cons a2 t2=>
      cases t2;obtain⟨a,ys,rfl,ea,gd,wk⟩:=walked fr S1 a1 h1;obtain⟨b,zs,rfl,eb,gd2,wk2⟩:=walked fr S1 a2 h2;refine⟨a,b,rfl,⟨ys,ea⟩,⟨zs,eb⟩,q _ H1 S1 (λp hp=>?_) (Hn wk wk2)⟩;rcases fm.mp hp with h | h
      ·exact gd p h
      ·exact gd2 p h
   ·exact q.elim
  ·exact q.elim
end
noncomputable def fH(env:za):List (bw×wp)->List (bw×af)->List (bw×af)
 | [],acc=>acc
 | (n,k)::r,acc=>if (k == .free)=aj then (match env.cells.lookup n with | some c=>fH env r ((n,c)::acc) | none=>fH env r acc) else fH env r acc
variable {env:za}
theorem pV(h:(ZF.names.all λy=>!(y.2 == .free) || (env.cells.lookup y.1).isSome)=aj):wf ZF env=jo (fH env ZF.names []):=by
 unfold wf;have key:∀(l:List (bw×wp)) (acc:List (bw×af)),(l.all λy=>!(y.2 == .free) || (env.cells.lookup y.1).isSome)=aj ->
   (ZA (m:=X8) l acc λx r=>(match x with | (name,kind)=>if (kind==NameKind.free)=aj then (do let c <- cellOf env name;jo (rh ((name,c)::r))) else jo (rh r)))=jo (fH env l acc):=by
  intro l;induction l with
  |nil=>intro acc _;rfl
  |cons y r ih=>
   intro acc hl;obtain⟨n,k⟩:=y;rw[Zk,dt] at hl;rw[Vk];unfold fH;by_cases hk:(k==NameKind.free)=aj
   ·rw[ZE hk];have h1:(env.cells.lookup n).isSome=aj:=by
     have:=hl.1;simpa [hk] using this
    obtain⟨c,hc⟩:=zh.mp h1;have e:cellOf env n=jo c:=by unfold cellOf;rw[hc]
    simp only[hk,if_true,e,hc];exact ih _ hl.2
   ·rw[Zg hk];simp only[hk];exact ih _ hl.2
 dsimp only;have h2:=key ZF.names [] h;refine Eq.trans (congrArg (λt:X8 (List (bw×af))=>t >>= λr=>jo r) h2) ?_;rfl
theorem lN{env:za}:∀(l:List (bw×wp)) (acc:List (bw×af)),(∀q∈acc,env.cells.lookup q.1=aa q.2) -> ∀q∈fH env l acc,env.cells.lookup q.1=aa q.2
 | [],acc,h,q,hq=>h q hq
 | (n,k)::r,acc,h,q,hq=>by
  unfold fH at hq;split at hq
  ·split at hq
   ·rename_i c hc;refine lN r _ (λq' hq'=>?_) q hq;rcases dm.mp hq' with e | e
    ·rw[e];exact hc
    ·exact h q' e
   ·exact lN r acc h q hq
  ·exact lN r acc h q hq
theorem mX{env:za}:∀(l:List (bw×wp)) (acc:List (bw×af)),∀q∈acc,q∈fH env l acc
 | [],acc,q,hq=>hq
 | (n,k)::r,acc,q,hq=>by
  unfold fH;split
  ·split
   ·exact mX r _ q (dg _ hq)
   ·exact mX r acc q hq
  ·exact mX r acc q hq
theorem kC{env:za}{x:bw}:∀(l:List (bw×wp)) (acc:List (bw×af)),(l.all λy=>!(y.2 == .free) || (env.cells.lookup y.1).isSome)=aj->(x,NameKind.free)∈l -> ∃c,(x,c)∈fH env l acc
 | [],_,_,h=>by simp at h
 | (n,k)::r,acc,hl,h=>by
  rw[Zk,dt] at hl;unfold fH;rcases dm.mp h with e | e
  ·cases e;rw[ZE (by rfl)];have h1:(env.cells.lookup x).isSome=aj:=by simpa using hl.1
   obtain⟨c,hc⟩:=zh.mp h1;rw[hc];exact⟨c,mX r _ _ (by simp)⟩
  ·split
   ·split
    ·exact kC r _ hl.2 e
    ·exact kC r _ hl.2 e
   ·exact kC r _ hl.2 e
theorem l7{α:Type}{x:bw}{c:α}:∀{l:List (bw×α)},(x,c)∈l -> ∃c',l.lookup x=aa c'
 | (n,d)::r,h=>by
  rw[XG];cases e:x==n with
  |true=>exact⟨d,rfl⟩
  |false=>
   rcases dm.mp h with z | z
   ·cases z;simp at e
   ·exact l7 z
theorem rS{x:bw}(ZL:∀y∈ZF.names,y.2 ≠ .cell)(h:(ja ZF env).names.lookup x=aa .cell \/ (ja ZF env).names.lookup x=aa .free):(x,NameKind.free)∈ZF.names:=by
 have:(x,NameKind.cell)∈(ja ZF env).names \/ (x,NameKind.free)∈(ja ZF env).names:=h.imp ig ig;rcases this with h | h
 ·obtain⟨⟨n,k⟩,hm,e⟩:=jh.mp h;dsimp only at e;split at e
  ·rename_i hc;rw[dt,dt,beq_iff_eq] at hc;cases e;rw[hc.1.1] at hm;exact hm
  ·cases e;exact absurd rfl (ZL _ hm)
 ·obtain⟨⟨n,k⟩,hm,e⟩:=jh.mp h;dsimp only at e;split at e
  ·cases e
  ·cases e;exact hm
section
variable {pos:lv}
theorem Ct{elt iter tgt:Expr}(tgs ns:List bw)(js:List Nat){k:Nat}{ti:xM}{g:Ac}{tt:nB}(hc:X.N=X.N)(hi:QI X tgt iter ti)
  (hg:∀(fp:List af) (s:ai) (H:Hp),QG (qY X ZF (fH X.env ZF.names []) fp (tgs++ns) s H) tgt k g) (ht:∀(fp:List af) (s:ai) (H:Hp),QTs (qY X ZF (fH X.env ZF.names []) fp (tgs++ns) s H) ifs tt)
  (he:∀(fp:List af) (s:ai) (H:Hp),QE (qY X ZF (fH X.env ZF.names []) fp (tgs++ns) s H) elt te) (hk:autoParam (tgs.length=k) c8._auto_1)
  (hall:autoParam ((ZF.names.all λy=>!(y.2 == .free) || (X.env.cells.lookup y.1).isSome)=aj) c8._auto_1) (hjs:autoParam (js.map (λj=>X.N[j]?)=ns.map aa) c8._auto_1)
  (hin:autoParam ((ns.all λy=>(ja ZF X.env).names.lookup y==aa .cell || (ja ZF X.env).names.lookup y==aa .free)=aj) c8._auto_1) (ZY:autoParam ((ns.all λy=>X.env.kindOf y==aa .cell || X.env.kindOf y==aa .free)=aj) c8._auto_1)
  (nd:autoParam (js.Nodup) lS._auto_1) (ZL:autoParam (∀y∈ZF.names,y.2 ≠ .cell) Db._auto_1) (ZP:autoParam (ZF.kind=.function) c8._auto_1)
  (ZO:autoParam (∀y∈ZF.names,y.2=.local->ZF.names.lookup y.1=aa .local) Db._auto_1) (hs:autoParam (∀z,iq iter X.env z=jo z) G3._auto_1):
  QE X (.ListComp elt [⟨tgt,iter,ifs,0⟩] ZF pos) (gE k js ti g tt te):=by
 refine Ly hc hk hi hg ht he (pV hall) (λx c e=>lN ZF.names [] (by simp) (x,c) (ig e)) (λx h=>?_) hjs (λy hy=>?_) (λy hy=>?_) nd ZL ZP ZO hs
 ·obtain⟨c,hc⟩:=kC ZF.names [] hall (rS ZL h);exact l7 hc
 ·have:=zl.mp hin y hy;simpa using this
 ·have:=zl.mp ZY y hy;simpa using this
end
open Classical in
noncomputable def pQ(h:dq)(db:Z0)(u:ah):Bool:=if q:∃d as,YL h u d as then jb (choose q) db else ao
theorem EI{db d:Z0}{as:List af}(ok:d.canLay0=aj)(r:YL h u d as):pQ h db u=jb d db:=by
 unfold pQ;have q:∃d as,YL h u d as:=⟨d,as,r⟩;rw[dif_pos q];obtain⟨as',r'⟩:=Classical.choose_spec q;rw[Zt d _ u as as' ok r r']
theorem oR(I:Inv X pk σ H s){db:Z0}{dx:Dv}(hb:db=gR dx):∀{xs:List V} {ds:List Dv} {us:List ah},Reps X.K M H xs ds->okDs 8 ds=aj->bU xs us->us.any (pQ s.heap db)=ds.any λd=>eqD d dx
 |_,_,_,.nil,_,r=>by cases r;rfl
 |_,_,_,.cons a q,ok,r=>by
  have ok':(eJ 8 _&&okDs 8 _)=aj:=ok;rw[dt] at ok';cases r with
  |cons r1 r2=>
   obtain⟨as,ra⟩:=Rep.reads I a ok'.1 r1;rw[tj,tj,oR I hb q ok'.2 r2,EI (sG 8 _ ok'.1).1 ra,hb];rfl
theorem o7(I:Inv X pk σ H s){A:dj}{v:ah}{dx:Dv}{bs:List af}(rb:YL s.heap v (gR dx) bs)(ob:eJ 8 dx=aj)(hu:A.units+64<jx):∀{xs:List V} {ds:List Dv} {us:List ah},Reps X.K M H xs ds->okDs 8 ds=aj->bU xs us -> ∀u∈us,SeqAt.EqAt A s u v (pQ s.heap (gR dx) u)
 |_,_,_,.nil,_,r,u,hm=>by cases r;simp at hm
 |_,_,_,.cons a q,ok,r,u,hm=>by
  have ok':(eJ 8 _&&okDs 8 _)=aj:=ok;rw[dt] at ok';cases r with
  |cons r1 r2=>
   rcases dm.mp hm with e | hm
   ·subst e;obtain⟨as,ra⟩:=Rep.reads I a ok'.1 r1;obtain⟨l1,l2⟩:=sG 8 _ ok'.1;obtain⟨m1,m2⟩:=sG 8 _ ob;rw[EI l1 ra];exact SeqAt.eqAt_reads _ _ A s u v as bs ra rb l1 m1 ⋯
   ·exact o7 I rb ob hu q ok'.2 r2 u hm
noncomputable def OO(K:ap)(neg:Bool):R2:=λx y H Q=>∃M dx ds p xs,eD K M H x dx/\y=.ref p/\(gK K H p xs \/ pL K H p xs)/\Reps K M H xs ds/\eJ 8 dx=aj/\okDs 8 ds=aj /\
 Q (.bl (if neg then !(ds.any λd=>eqD d dx) else ds.any λd=>eqD d dx)) H
theorem pA(h:A.units+65<jx):A.in1.units+64<jx:=by
 have:A.in1.units<=A.units+1:=by unfold Around.in1;simp[Around.units]
 right
theorem MX(hu:X.A.units+65<jx):lQ X (fv .In) (OO X.K ao):=by
 intro pk s σ H x y v u Q I rx ry h;obtain⟨M,dx,ds,p,xs,cx,rfl,hq,rs,o1,o2,q⟩:=h;cases ry;obtain⟨bs,rb⟩:=cx.reads I o1 rx;rcases hq with hq | hq
 ·obtain⟨its,r,pl,hz⟩:=I.list hq;refine SeqAt.in_listAt (pQ s.heap (gR dx)) pl.isList (λw hw=>o7 I rb o1 (pA hu) rs o2 r w (by simpa using hw)) ⟨.bl _,H,I,rfl,?_⟩;rw[show its.toArray.any (pQ s.heap (gR dx))=its.any (pQ s.heap (gR dx)) by simp,oR I rfl rs o2 r];exact q
 ·obtain⟨its,r,pl,hz⟩:=I.tuple hq;refine SeqAt.in_tupleAt (pQ s.heap (gR dx)) pl (λw hw=>o7 I rb o1 (pA hu) rs o2 r w (by simpa using hw)) ⟨.bl _,H,I,rfl,?_⟩;rw[show its.toArray.any (pQ s.heap (gR dx))=its.any (pQ s.heap (gR dx)) by simp,oR I rfl rs o2 r];exact q
theorem F7(hu:X.A.units+65<jx):lQ X (fv .NotIn) (OO X.K aj):=by
 intro pk s σ H x y v u Q I rx ry h;obtain⟨M,dx,ds,p,xs,cx,rfl,hq,rs,o1,o2,q⟩:=h;cases ry;obtain⟨bs,rb⟩:=cx.reads I o1 rx;rcases hq with hq | hq
 ·obtain⟨its,r,pl,hz⟩:=I.list hq;refine SeqAt.notIn_listAt (pQ s.heap (gR dx)) pl.isList (λw hw=>o7 I rb o1 (pA hu) rs o2 r w (by simpa using hw)) ⟨.bl _,H,I,rfl,?_⟩;rw[show its.toArray.any (pQ s.heap (gR dx))=its.any (pQ s.heap (gR dx)) by simp,oR I rfl rs o2 r];exact q
 ·obtain⟨its,r,pl,hz⟩:=I.tuple hq;refine SeqAt.notIn_tupleAt (pQ s.heap (gR dx)) pl (λw hw=>o7 I rb o1 (pA hu) rs o2 r w (by simpa using hw)) ⟨.bl _,H,I,rfl,?_⟩;rw[show its.toArray.any (pQ s.heap (gR dx))=its.any (pQ s.heap (gR dx)) by simp,oR I rfl rs o2 r];exact q
end Z
variable {sp:Z.Fn}
namespace Z
open L2
theorem De{k:Nat}(r:Room k A):A.units+65<jx:=by have:=r.un;right
noncomputable def Oj:Dv->Dv->(R->Prop)->Prop
 | .int i,.int j,Q=>j≠0/\Q (.v (.int (i.fmod j)))
 |_,_,_=>False
noncomputable def isB(b:Bool):Dv->Bool
 | .bl c=>c==b
 |_=>ao
noncomputable def SB:Dv->Dv->(R->Prop)->Prop
 |d,.bl b,Q=>Q (.v (.bl (isB b d)))
 |_,_,_=>False
noncomputable def Oh:Dv->Dv->(R->Prop)->Prop
 |d,.bl b,Q=>Q (.v (.bl (!isB b d)))
 |_,_,_=>False
noncomputable def Ky(i:Nat)(tk tv:dE):cD:=λE ρ=>match ρ[i]? with
 |some (.own a (.lst xs))=>tv ρ λr=>tk ρ λk=>match k.d with
  | .int n=>match uL xs.length n with
   |some j=>r.free=aj/\E.nx (ρ.set i (.own a (.lst (xs.set j r.d))))
   |none=>False
  |_=>False
 |_=>False
noncomputable def inD(d:Dv)(ds:List Dv):Bool:=ds.any λe=>eqD e d
noncomputable def NW:Dv->Dv->(R->Prop)->Prop
 |d,.lst ds,Q=>(eJ 8 d=aj/\okDs 8 ds=aj)/\Q (.v (.bl (inD d ds)))
 |d,.tup ds,Q=>(eJ 8 d=aj/\okDs 8 ds=aj)/\Q (.v (.bl (inD d ds)))
 |_,_,_=>False
noncomputable def vQ:Dv->Dv->(R->Prop)->Prop
 |d,.lst ds,Q=>(eJ 8 d=aj/\okDs 8 ds=aj)/\Q (.v (.bl (!inD d ds)))
 |d,.tup ds,Q=>(eJ 8 d=aj/\okDs 8 ds=aj)/\Q (.v (.bl (!inD d ds)))
 |_,_,_=>False
theorem MR(hu:X.A.units+65<jx)(_hu1:X.A.units+1<jx):xO X (fv .In) NW:=by
 refine⟨λdx dy Q Q' w h=>?_,_,MX hu,λM O H x y dx dy Q cx cy h=>?_⟩
 ·unfold NW at h;split at h
  ·exact⟨h.1,w _ h.2⟩
  ·exact⟨h.1,w _ h.2⟩
  ·exact h.elim
 ·unfold NW at h;split at h
  ·obtain⟨a,xs,rfl,ea,ra⟩:=cy.lst;exact⟨M,_,_,a,xs,cx,rfl,.inl (gK.of ea),ra,h.1.1,h.1.2,h.2 _ H (aO.refl _) (Rep.bl _)⟩
  ·obtain⟨a,xs,rfl,ea,ra⟩:=cy.tup;exact⟨M,_,_,a,xs,cx,rfl,.inr (pL.of ea),ra,h.1.1,h.1.2,h.2 _ H (aO.refl _) (Rep.bl _)⟩
  ·exact h.elim
theorem F6(hu:X.A.units+65<jx)(_hu1:X.A.units+1<jx):xO X (fv .NotIn) vQ:=by
 refine⟨λdx dy Q Q' w h=>?_,_,F7 hu,λM O H x y dx dy Q cx cy h=>?_⟩
 ·unfold vQ at h;split at h
  ·exact⟨h.1,w _ h.2⟩
  ·exact⟨h.1,w _ h.2⟩
  ·exact h.elim
 ·unfold vQ at h;split at h
  ·obtain⟨a,xs,rfl,ea,ra⟩:=cy.lst;exact⟨M,_,_,a,xs,cx,rfl,.inl (gK.of ea),ra,h.1.1,h.1.2,h.2 _ H (aO.refl _) (Rep.bl _)⟩
  ·obtain⟨a,xs,rfl,ea,ra⟩:=cy.tup;exact⟨M,_,_,a,xs,cx,rfl,.inr (pL.of ea),ra,h.1.1,h.1.2,h.2 _ H (aO.refl _) (Rep.bl _)⟩
  ·exact h.elim
structure QX(X:Cx)(st:kh)(i:Nat)(te:dE):Prop where
 mono:∀(ρ:List Sl) (Q Q':R->Prop),(∀r,Q r->Q' r)->te ρ Q->te ρ Q'
 run:∀(HZ:Hp) (F:af->Prop),PS X st (Lg (lift X.K HZ F te) (Bu i))
variable {σ:St}{st:kh}
section
variable {pos:lv}
theorem QX.step{Q':VK}(h:QX X st i te)(fr:Fr X.K HZ F σ H ρ)(q:te ρ Q)
  (k:∀r x H',Q r->aO H H'->eI X.K (MM F ρ) (Ae ρ) H x r H'->Q' x H'):lift X.K HZ F te σ H Q':=⟨ρ,fr,h.mono _ _ _ (λr qr x H' S rx=>k r x H' qr S rx) q⟩
theorem zJ(he:QX X st i te):QS X st (c9 i te):=by
 refine⟨λE E' ρ w h=>he.mono _ _ _ (λr q=>?_) h,λHZ F=>dW (he.run HZ F) λD σ H ⟨ρ,E,fr,h,en⟩=>?_⟩
 ·cases r with
  |v d=>exact w.nx _ q
  |nw d=>exact w.nx _ q
  |ow a d=>exact q
 ·refine he.step fr h λr x H1 q S1 r1=>?_;cases r with
  |v d=>exact en.nx _ _ _ ((fr.mono S1).setv r1) q
  |nw d=>exact en.nx _ _ _ ((fr.mono S1).setv (r1.rep (λa m=>fr.dom m) rfl)) q
  |ow a d=>exact q.elim
end
variable {y:bw}{py spos:lv}{iy:Nat}{elt iter tgt:Expr}{ti:xM}{tt:nB}
section
variable {pos:lv}
theorem JG{cl:List (bw×af)}{tgs ns:List bw}{js:List Nat}{k:Nat}{g:Ac}(hN:X.N.Nodup)(hi2:X.N[iy]?=aa y)(hx2:G1 X.env.scope y)(hc:X.N=X.N)(hk:tgs.length=k)
  (hi:QI X tgt iter ti) (hg:∀(fp:List af) (s:ai) (H:Hp),QG (qY X ZF cl fp (tgs++ns) s H) tgt k g) (ht:∀(fp:List af) (s:ai) (H:Hp),QTs (qY X ZF cl fp (tgs++ns) s H) ifs tt)
  (he:∀(fp:List af) (s:ai) (H:Hp),QE (qY X ZF cl fp (tgs++ns) s H) elt te)
  (ZX:wf ZF X.env=jo cl) (ZU:∀x c,cl.lookup x=aa c->X.env.cells.lookup x=aa c)
  (a04:∀x,((ja ZF X.env).names.lookup x=aa .cell \/ (ja ZF X.env).names.lookup x=aa .free) -> ∃c,cl.lookup x=aa c)
  (hjs:js.map (λj=>X.N[j]?)=ns.map aa) (hin:∀y∈ns,(ja ZF X.env).names.lookup y=aa .cell \/ (ja ZF X.env).names.lookup y=aa .free)
  (ZY:∀y∈ns,X.env.kindOf y=aa .cell \/ X.env.kindOf y=aa .free) (nd:js.Nodup)
  (ZL:autoParam (∀y∈ZF.names,y.2 ≠ .cell) Db._auto_1) (ZP:autoParam (ZF.kind=.function) c8._auto_1)
  (ZO:autoParam (∀y∈ZF.names,y.2=.local->ZF.names.lookup y.1=aa .local) Db._auto_1)
  (hs:autoParam (∀z,iq iter X.env z=jo z) G3._auto_1)
  (hsw:autoParam (ix (.ListComp elt [⟨tgt,iter,ifs,0⟩] ZF pos) (aa (.Name y py)) spos.line X.env=jo aj) c8._auto_1) (hf:autoParam (X.fn y=aj \/ X.env.scope.names.lookup y=aa .local) Fz._auto_1):
  QX X (.Assign [.Name y py] (.ListComp elt [⟨tgt,iter,ifs,0⟩] ZF pos) spos) iy (gE k js ti g tt te):=by
 have mg:=(hg [] X.s₀ λ_=>ar).mono;have ag:=(hg [] X.s₀ λ_=>ar).agree;have mt:=(ht [] X.s₀ λ_=>ar).mono;have me:=(he [] X.s₀ λ_=>ar).mono;refine⟨λρ Q Q' w h=>hi.mono _ _ _ (λds ogs h=>kS mg mt me ds [] Q Q' w h) h,λHZ F=>?_⟩;obtain⟨wi,hwi,wiq⟩:=hi.run HZ F
 suffices key:∀σ H Q,lift X.K HZ F (gE k js ti g tt te) σ H Q->zB wi tgs.length js (liftG X.K k g) (λσ H Q=>∃HZ F,liftT X.K HZ F tt σ H Q) (λσ H Q=>∃HZ F,lift X.K HZ F te σ H Q) σ H Q from
  dW (Gb (tgs:=tgs) (ns:=ns) (js:=js) (g:=liftG X.K k g) (tt:=λσ H Q=>∃HZ F,liftT X.K HZ F tt σ H Q) (te:=λσ H Q=>∃HZ F,lift X.K HZ F te σ H Q) hN hi2 hx2 hc hwi (λfp s H=>(hg fp s H).pg) (λfp s H=>(ht fp s H).pt) (λfp s H=>(he fp s H).pe) ZX ZU a04 hjs hin ZY ZL ZP ZO hs hsw hf) λD σ H h=>key σ H _ h
 intro σ H Q ⟨ρ,fr,h⟩;subst hk;refine wiq σ H ρ _ fr (hi.mono _ _ _ (λds ogs q J H1 S1 gd ok=>?_) h);intro D hD;have fr1:=fr.mono S1;refine⟨λi m acc H2=>m=ds.length-i/\i<=ds.length/\aO H1 H2 /\ ∃accD,Reps X.K (λa=>MM F ρ a \/ a=D) H2 acc accD /\
  eF (aw tgs.length .un++f7 js ρ) g tt te (ds.drop i) accD (λr=>∀x H',aO H H'->eI X.K (MM F ρ) (Ae ρ) H x r H'->Q x H'),
  ⟨ds.length,by simp,oj _,aO.new' hD,[],.nil,by simpa using q⟩,?_⟩
 rintro i m acc H2 ⟨rfl,hil,S2,accD,ra,q⟩ hDl;have G2:Gen X.K (MM F ρ) (λa=>MM F ρ a \/ a=D) H1 H2:=(Gen.fresh hD).trans (.mono S2);have oks:=ok i H2 (λa=>MM F ρ a \/ a=D) (λb o e=>S2 _ _ (p6 e)) G2 λp hp=>by
  obtain⟨_,_,_,ow⟩:=fr1.at_own (gd p hp);exact ow.gen G2 λo e=>S2 _ _ e
 by_cases hlt:i<ds.length
 ·have hd:ds[i]?=aa ds[i]:=by simp[hlt]
  rw[gx hlt] at q;obtain⟨go,yld⟩:=oks.1 _ hd;refine .inr ⟨go,λy H3 hy old lo=>?_⟩;obtain⟨S3,ry⟩:=yld y H3 hy;have hD3:=S3 _ _ hDl;obtain⟨P,F',fr',iff,iffF⟩:=fr1.block (js:=js) (old:=old) (S2.trans S3) hD (by rw[hD3];simp) nd lo;refine⟨_,P,F',_,fr',ry.weak λa z=>(iff a).mp z,mg _ _ _ _ (λρ1 q1 σ1 f1 a1=>?_) (ag _ _ _ q)⟩;obtain⟨q1,l1,b1⟩:=q1;have up:∀a,MM F ρ a \/ a=D->MM F' ρ1 a:=λa z=>by
   rcases(iff a).mpr z with z | ⟨d,z⟩
   ·exact .inl z
   ·refine .inr ⟨d,?_⟩;obtain⟨j,e⟩:=qk.mp z;have hj:tgs.length<=j:=by
     by_cases hj:j<tgs.length
     ·rw[bh (by simpa using hj),jt,ZE hj] at e;cases e
     ·right
    rw[<- b1 j hj] at e;exact fh e
  have hlen:σ1.length=tgs.length+(pick js σ).length:=by
   have:=f1.len;rw[l1] at this;simp[pick,f7] at this ⊢;right
  refine⟨⟨σ1.take tgs.length,by rw[ef];right,Au lo hlen a1⟩,P,F',ρ1,f1,mt _ _ _ (λb q5 H5 S5=>?_) q1⟩;have S25:=(S2.trans S3).trans S5;cases b with
  |true=>
   simp only[if_true] at q5;refine uC ⟨P,F',ρ1,f1.mono S5,me _ _ _ (λr q6 x H6 S6 rx=>?_) q5⟩;have hD6:=S6 _ _ (S5 _ _ hD3);obtain⟨⟨rf,rl⟩,q6⟩:=q6;have rep:=(rx.rep (λa z=>(f1.mono S5).dom z) rf).weak up;refine⟨hD6,by rw[ra.length];exact vY rl,ds.length-(i+1),⋯,rfl,hlt,λb o e=>?_,_,?_,q6⟩
   ·rw[bB (bL e hD)];exact S6 _ _ (S25 _ _ e)
   ·have G6:Gen X.K (λa=>MM F ρ a \/ a=D) (λa=>MM F ρ a \/ a=D) H6 (upd H6 D (.lst (acc++[x]))):=Gen.write (.inr rfl) (by rw[hD6];trivial);exact((ra.mono ((S3.trans S5).trans S6)).append (.cons rep .nil)).gen G6
  |false=>
   simp only[eo,if_false] at q5;exact uD ⟨S5 _ _ hD3,ds.length-(i+1),⋯,rfl,hlt,S25,accD,ra.mono (S3.trans S5),q5⟩
 ·have e:i=ds.length:=⋯;subst e;rw[uy] at q;exact .inl ⟨oks.2 (bt _),q (.ref D) H2 (S1.trans S2) ⟨D,rfl,S1.free hD,acc,hDl,ra⟩⟩
theorem Do(tgs ns:List bw)(js:List Nat){k:Nat}{g:Ac}(hN:X.N.Nodup)(hi2:X.N[iy]?=aa y)(hx2:G1 X.env.scope y)(hc:X.N=X.N)(hi:QI X tgt iter ti)
  (hg:∀(fp:List af) (s:ai) (H:Hp),QG (qY X ZF (fH X.env ZF.names []) fp (tgs++ns) s H) tgt k g) (ht:∀(fp:List af) (s:ai) (H:Hp),QTs (qY X ZF (fH X.env ZF.names []) fp (tgs++ns) s H) ifs tt)
  (he:∀(fp:List af) (s:ai) (H:Hp),QE (qY X ZF (fH X.env ZF.names []) fp (tgs++ns) s H) elt te) (hk:autoParam (tgs.length=k) c8._auto_1)
  (hall:autoParam ((ZF.names.all λy=>!(y.2 == .free) || (X.env.cells.lookup y.1).isSome)=aj) c8._auto_1) (hjs:autoParam (js.map (λj=>X.N[j]?)=ns.map aa) c8._auto_1)
  (hin:autoParam ((ns.all λy=>(ja ZF X.env).names.lookup y==aa .cell || (ja ZF X.env).names.lookup y==aa .free)=aj) c8._auto_1) (ZY:autoParam ((ns.all λy=>X.env.kindOf y==aa .cell || X.env.kindOf y==aa .free)=aj) c8._auto_1)
  (nd:autoParam (js.Nodup) lS._auto_1) (ZL:autoParam (∀y∈ZF.names,y.2 ≠ .cell) Db._auto_1) (ZP:autoParam (ZF.kind=.function) c8._auto_1)
  (ZO:autoParam (∀y∈ZF.names,y.2=.local->ZF.names.lookup y.1=aa .local) Db._auto_1) (hs:autoParam (∀z,iq iter X.env z=jo z) G3._auto_1)
  (hsw:autoParam (ix (.ListComp elt [⟨tgt,iter,ifs,0⟩] ZF pos) (aa (.Name y py)) spos.line X.env=jo aj) c8._auto_1) (hf:autoParam (X.fn y=aj \/ X.env.scope.names.lookup y=aa .local) Fz._auto_1):
  QX X (.Assign [.Name y py] (.ListComp elt [⟨tgt,iter,ifs,0⟩] ZF pos) spos) iy (gE k js ti g tt te):=by
 refine JG hN hi2 hx2 hc hk hi hg ht he (pV hall) (λx c e=>lN ZF.names [] (by simp) (x,c) (ig e)) (λx h=>?_) hjs (λy hy=>?_) (λy hy=>?_) nd ZL ZP ZO hs hsw hf
 ·obtain⟨c,hc⟩:=kC ZF.names [] hall (rS ZL h);exact l7 hc
 ·have:=zl.mp hin y hy;simpa using this
 ·have:=zl.mp ZY y hy;simpa using this
end
noncomputable def BP:Dv->Dv->(R->Prop)->Prop
 | .int i,.int j,Q=>Q (.v (.int (i+j)))
 | .str x,.str y,Q=>x.length+y.length<=CN/\Q (.v (.str (x++y)))
 |_,_,_=>False
noncomputable def Oo:Dv->Dv->(R->Prop)->Prop
 | .int i,.int j,Q=>Q (.v (.int (i-j)))
 |_,_,_=>False
noncomputable def Oq:Dv->Dv->(R->Prop)->Prop
 | .int i,.int j,Q=>u7 i j/\Q (.v (.int (i*j)))
 |_,_,_=>False
theorem Ht:UM X .Add BP:=by
 refine⟨λdx dy Q Q' w h=>?_,_,KL.or Bq,λM O H x y dx dy Q cx cy h=>?_⟩
 ·unfold BP at h;split at h
  ·exact w _ h
  ·exact⟨h.1,w _ h.2⟩
  ·exact h.elim
 ·unfold BP at h;split at h
  ·obtain rfl:=cx.int;obtain rfl:=cy.int;exact .inl ⟨_,_,rfl,rfl,h _ H (aO.refl _) (Rep.int _)⟩
  ·obtain rfl:=cx.str;obtain rfl:=cy.str;exact .inr ⟨_,_,rfl,rfl,jB h.1,h.2 _ H (aO.refl _) (Rep.str _)⟩
  ·exact h.elim
noncomputable def O9(te:dE)(g:Ac):cD:=λE ρ=>te ρ λr=>r.free=aj/\g r.d ρ E.nx
theorem B6{a b c:Expr}{ta tb tc:dE}{pos:lv}{op op':XC}{f f':Int->Int->Bool}(ho:lQ X (fv op) (Cr λi j=>.bl (f i j)))(ho':lQ X (fv op') (Cr λi j=>.bl (f' i j)))(ha:QE X a ta)(hb:QE X b tb)(hc:QE X c tc)
  (hm:autoParam (Xc [op,op'] [b,c]=ao) Q9._auto_1):QT X (.Compare a [op,op'] [b,c] pos) (bI (mU (zS f) (zS f') ta tb tc)):=by
 have Q0:=Dp (pos:=pos) ho ho' ha hb hc hm;have low:∀(HZ:Hp) (F:af->Prop) (σ:St) (H:Hp) (Q:VK),lift X.K HZ F (mU (zS f) (zS f') ta tb tc) σ H Q->Cd (Cr λi j=>.bl (f i j)) (Cr λi j=>.bl (f' i j)) (lift X.K HZ F ta) (lift X.K HZ F tb) (lift X.K HZ F tc) σ H Q:=by
  rintro HZ F σ H Q ⟨ρ,fr,q⟩;refine ha.step fr q λrx x H1 q1 S1 r1=>?_;refine hb.step (fr.mono S1) q1 λry y H2 q2 S2 r2=>?_;have cx:=(r1.mono S2).c;have cy:=r2.c;generalize rx.d=dx at q2 cx;generalize ry.d=dy at q2 cy;unfold zS at q2;split at q2
  ·rename_i Q2 i j;obtain rfl:=cx.int;obtain rfl:=cy.int;refine⟨_,_,rfl,rfl,f i j,rfl,?_⟩;have S12:=S1.trans S2;replace q2:=(show (if f i j=aj then tc ρ (λw=>zS f' (.int j) w.d (λr=>∀x H',aO H H'->eI X.K (MM F ρ) (Z.Ae ρ) H x r H'->Q x H')) else (∀x H',aO H H'->eI X.K (MM F ρ) (Z.Ae ρ) H x (.v (.bl ao)) H'->Q x H')) from q2);cases h:f i j with
   |true=>
    rw[h] at q2;simp only[if_true] at q2;refine uC (hc.step ((fr.mono S1).mono S2) q2 λrw' z H3 q3 S3 r3=>?_);have cz:=r3.c;generalize rw'.d=dz at q3 cz;cases dz with
    |int l=>
     obtain rfl:=cz.int;exact⟨_,_,rfl,rfl,q3 _ H3 (S12.trans S3) (Rep.bl _)⟩
    |_=>exact(show False from q3).elim
   |false=>
    rw[h] at q2;simp only[eo,if_false] at q2;exact uD (q2 _ H2 S12 (Rep.bl _))
  ·exact q2.elim
 refine⟨λρ Q Q' w q=>wH Q0.mono ρ Q Q' w q,λHZ F=>Ad (GV ho ho' (ha.run HZ F) (hb.run HZ F) (hc.run HZ F) hm) λσ H Q zz=>?_⟩;obtain⟨ρ,fr,q⟩:=zz;refine low HZ F σ H _ (Q0.step fr q λr x H1 q S1 r1=>?_);have cx:=r1.c;generalize r.d=d at q cx;split at q
 ·obtain rfl:=cx.bl;exact⟨_,rfl,q H1 S1⟩
 ·exact q.elim
variable {f:bw}{p1 p2:lv}
section
variable {pos:lv}
noncomputable def El(i:Nat)(te:dE):cD:=λE ρ=>match ρ[i]? with
 |some (.own a (.lst xs))=>te ρ λr=>match r.d with
  | .lst ys=>xs.length+ys.length<=CN/\E.nx (ρ.set i (.own a (.lst (xs++ys))))
  |_=>False
 |_=>False
theorem OT{x:bw}{p3:lv}(hv:PE X (.Name x p1) (zA i))(he:QE X e te)(hs:autoParam (ix (.Call (.Attribute (.Name x p1) "extend" p2) [e] [] p3) ar pos.line X.env=jo ao) c8._auto_1)
  (a00:autoParam (rq (.Name x p1) "extend" X.env (gn (.Name x p1) X.env)=gn (.Name x p1) X.env) c8._auto_1)
  (hfew:autoParam (((iu p3 (av [e] X.env)).all (λx=>!x.1)&&(xz p3 (sx [] X.env)).all (λx=>x.1.isSome)
   && decide ([e].length+([]:List zg).length+(if ([]:List zg).isEmpty then 0 else 1)<30))=aj) c8._auto_1)
  (a01:autoParam ((p2.endLine==p3.line)=aj) c8._auto_1) (hst:autoParam (av [e] X.env=(ao,gn e X.env)::av [] X.env) c8._auto_1) (ZW:autoParam ((iu p3 (av [] X.env)).any (·.1)=ao) c8._auto_1):
  QS X (.Expr (.Call (.Attribute (.Name x p1) "extend" p2) [e] [] p3) pos) (El i te):=by
 refine⟨λE E' ρ w h=>?_,λHZ F=>dW (uJ (Gp Va PySem.F.slot_list_extend PySem.F.type_list_extend FB hv (iU (he.run HZ F) qE hst) a00 hfew a01 hst ZW) hs) λD σ H ⟨ρ,E,fr,h,en⟩=>?_⟩
 ·unfold El at *;split at h
  ·refine he.mono _ _ _ (λr q=>?_) h;split at q
   ·exact⟨q.1,w.nx _ q.2⟩
   ·exact q
  ·exact h
 ·unfold El at h;split at h
  ·rename_i a xs hx;obtain⟨hs1,vs,hv1,rv1⟩:=fr.sl i _ hx;refine⟨_,hs1,.inl ⟨rfl,_,gK.of hv1⟩,he.step fr h λr y H1 q S1 r1=>?_⟩;have cy:=r1.c;generalize r.d=d at q cy;split at q
   ·rename_i ys;obtain⟨b,zs,rfl,eb,rb⟩:=cy.lst;obtain⟨ql,q2⟩:=q;have hv2:=S1 _ _ hv1;refine⟨a,b,vs,zs,rfl,rfl,hv2,eb,jB (by rw[rv1.length,rb.length];exact ql),?_⟩;refine en.nx _ _ _ ((fr.mono S1).write (d':=.lst (xs++ys)) hx ⟨_,bS,?_⟩) q2;have G:Gen X.K (MM F ρ) (MM F ρ) H1 (upd H1 a (.lst (vs++zs))):=Gen.write (.inr ⟨_,fh hx⟩) (by rw[hv2];trivial);exact((rv1.mono S1).append rb).gen G
   ·exact q.elim
  ·exact h.elim
noncomputable def GT(f:bw)(d:Dv):List (bw×Dv)->List (bw×Dv)
 | []=>[(f,d)]
 | (g,x)::r=>if g=f then (g,d)::r else (g,x)::GT f d r
theorem RepF.put{x:V}{d:Dv}(a:Rep K M H x d){xs:List (bw×V)}{ds:List (bw×Dv)}(r:RepF K M H xs ds):RepF K M H (mM f x xs) (GT f d ds):=
 r.ind (P:=λxs ds=>RepF K M H (mM f x xs) (GT f d ds)) (.cons a .nil) λk _ _ _ _ b r ih=>by
  show RepF K M H (if k=f then _ else _) (if k=f then _ else _);split
  ·exact .cons a r
  ·exact .cons b ih
theorem RepF.length{K:ap}{M:af->Prop}{H:Hp}{xs:List (bw×V)}{ds:List (bw×Dv)}(r:RepF K M H xs ds):xs.length=ds.length:=r.ind (P:=λxs ds=>xs.length=ds.length) rfl λ_ _ _ _ _ _ _ ih=>congrArg (· + 1) ih
noncomputable def vG(C:af)(i:Nat)(f:bw)(te:dE):cD:=λE ρ=>match ρ[i]? with
 |some (.own a (.obj C' fs))=>te ρ λr=>(C'=C/\r.free=aj/\fs.length<1000)/\E.nx (ρ.set i (.own a (.obj C' (GT f r.d fs))))
 |_=>False
theorem GR{x:bw}(c:Cls X.K C)(n:jL X.K C f)(hv:PE X (.Name x p1) (zA i))(he:QE X e te)
  (hs:autoParam (ix e (aa (.Attribute (.Name x p1) f p2)) pos.line X.env=jo ao) c8._auto_1):QS X (.Assign [.Attribute (.Name x p1) f p2] e pos) (vG C i f te):=by
 refine⟨λE E' ρ w h=>?_,λHZ F=>dW (M8 hv he.pe hs) λD σ H ⟨ρ,E,fr,h,en⟩=>?_⟩
 ·unfold vG at *;split at h
  ·exact he.mono _ _ _ (λr q=>⟨q.1,w.nx _ q.2⟩) h
  ·exact h
 ·unfold vG at h;split at h
  ·rename_i a C' fs hx;refine⟨HZ,F,he.step fr h λr y H1 q S1 r1=>?_⟩;obtain⟨⟨rfl,qf,ql⟩,q2⟩:=q;have fr1:=fr.mono S1;obtain⟨hs1,dx,fs1,hv1,rv1⟩:=fr1.sl i _ hx;have rep:=r1.rep (λa m=>fr.dom m) qf;refine⟨_,hs1,a,C',dx,fs1,rfl,hv1,c,n,by rw[rv1.length];exact ql,?_⟩;refine en.nx _ _ _ (fr1.write (d':=.obj C' (GT f r.d fs)) hx ⟨dx,_,bS,?_⟩) q2;have G:Gen X.K (MM F ρ) (MM F ρ) H1 (upd H1 a (.ins C' dx (mM f y fs1))):=Gen.write (.inr ⟨_,fh hx⟩) (by rw[hv1];trivial);exact(RepF.put rep rv1).gen G
  ·exact h.elim
end
noncomputable def SN(K:ap)(C:af)(sp:Fn):Sp:=λvs H Q _=>∃(x dx:af) (vs':List V) (H0:Hp) (F:af->Prop) (ds:List Dv),vs=.ref x::vs'/\H=upd (upd H0 dx (.own x)) x (.ins C dx [])/\H0 x=ar/\H0 dx=ar/\dx≠x/\OldF K F H0/\Reps K F H0 vs' ds /\
 sp ds (λr=>∀H',aO H0 H'->eI K F yV H0 (.ref x) r H'->Q .non H')
structure IDef(P:ay)(w:bz)(K:ap)(mg:bw->Option ah)(base:dq)(k:Nat)(x:bw)(C:af)(ps:List bw)(sp:Fn):Prop where
 ex:∃f fd,Mk K C f/\mg x=aa (.ref C)/\iL K fd ps []/\FnOk P w K mg base DZ k f fd ps (SN K C sp)
structure IAt(K:ap)(mg:bw->Option ah)(x:bw)(C:af)(qual:bw)(st:kh)(ps:List bw):Prop where
 ex:∃f fd,Mk K C f/\mg x=aa (.ref C)/\Fun K "__init__" qual st f fd/\iL K fd ps []
noncomputable def jI(C a:af)(N:List bw)(ds:List Dv):List Sl:=.own a (.obj C [])::(ds.map .v++aw (N.length-(ds.length+1)) .un)
variable {H0:Hp}{dx:af}
theorem GK{x:af}{o o':HO}(hx:H0 x=ar)(hd:H0 dx=ar):aO H0 (upd (upd H0 dx o) x o'):=λb q e=>by
 rw[bB (bL e hx),bB (bL e hd)];exact e
theorem Ef{x:af}{vs:List V}(hx:H0 x=ar)(hd:H0 dx=ar)(hF:OldF K F H0)(r:Reps K F H0 vs ds):
  Fr K H0 F (start N (.ref x::vs)) (upd (upd H0 dx (.own x)) x (.ins C dx [])) (jI C x N ds):=by
 have S:aO H0 (upd (upd H0 dx (.own x)) x (.ins C dx [])):=GK hx hd;have only:∀{a:af} {d:Dv},Sl.own a d∈jI C x N ds->a=x:=λ{a d} h=>by
  rcases dm.mp h with h | h
  ·cases h;rfl
  ·rcases fm.mp h with h | h
   ·obtain⟨z,_,e⟩:=jh.mp h;cases e
   ·cases gp h
 have wk:∀a,MM F (jI C x N ds) a->F a \/ a=x:=λa h=>by
  rcases h with h | ⟨d,h⟩
  ·exact .inl h
  ·exact .inr (only h)
 have G:Gen K F (MM F (jI C x N ds)) H0 (upd (upd H0 dx (.own x)) x (.ins C dx [])):=((Gen.fresh hx).trans (.mono S)).trans (.weak wk);have hl:=r.length;have r':=r.gen G;have zero:∀(i:Nat) (a:af) (d:Dv),(jI C x N ds)[i]?=aa (.own a d)->i=0:=λi a d e=>by
  cases i with
  |zero=>rfl
  |succ i=>
   have e':(ds.map Sl.v++aw (N.length-(ds.length+1)) Sl.un)[i]?=aa (.own a d):=e;have:=fh e';rcases fm.mp this with h | h
   ·obtain⟨z,_,e⟩:=jh.mp h;cases e
   ·cases gp h
 refine⟨by simp[L2.start,jI,hl],λi s e=>?_,λi j a d d' e1 e2=>?_,λa d h=>by rw[only h];exact hx,S,hF⟩
 ·cases i with
  |zero=>
   cases e;exact⟨rfl,dx,[],bS,.nil⟩
  |succ i=>
   have e':(ds.map Sl.v++aw (N.length-(ds.length+1)) Sl.un)[i]?=aa s:=e;have es:(start N (.ref x::vs))[i+1]?=(vs.map aa++aw (N.length-(vs.length+1)) ar)[i]?:=by simp[L2.start]
   rw[es];by_cases hi:i<ds.length
   ·rw[bh (by simpa using hi),dh] at e';cases q:ds[i]? with
    |none=>rw[q] at e';cases e'
    |some d=>
     rw[q] at e';cases e';obtain⟨y,hy,ry⟩:=r'.get q;refine⟨y,?_,ry⟩;rw[bh (by simpa using(cg.mp hy).1),dh,hy];rfl
   ·rw[bo (by simpa using ng hi)] at e';have:=fh e';cases gp this;trivial
 ·rw[zero i a d e1,zero j a d' e2]
theorem IAt.okP{k:Nat}{x:bw}{t:cD}(m:IAt K mg x C ZG st ps)(S:FnScope N ps (aI st))
  (hq:∀(f:af) (cdv:ah) (A:dj) (outer:List za) (s:ai) (H:Hp) (E:XK),Room k (A.deeper (sy ZG (aI st) s.heap.objs.size f cdv))->QSs (cN DZ P w K mg base N ZG (aI st) f cdv A outer s H E).nox (eL st) t)
  (len:∀ds Q,sp ds Q->ds.length+1=ps.length) (hsp:∀ds Q,sp ds Q -> ∀a,t { nx:=λρ=>∃d,ρ[0]?=aa (.own a d)/\Q (.nw d),rt:=λ_=>False } (jI C a N ds)):IDef P w K mg base (k+1) x C ps sp:=by
 obtain⟨f,fd,M,hm,FF,hb⟩:=m.ex;refine⟨f,fd,M,hm,hb,FF.ok S (λvs H Q E zz=>?_) λcdv A outer s H vs Q E hr q=>?_⟩
 ·obtain⟨a,dx,vs',H0,F,ds,e,_,_,_,_,_,r,q⟩:=zz;rw[e,cj,r.length];exact len _ _ q
 ·obtain⟨a,dx,vs',H0,F,ds,rfl,rfl,hx,hd,hn,hF,r,q⟩:=q;refine⟨_,(hq f cdv A outer s _ E hr).run H0 F,jI C a N ds,_,Ef hx hd hF r,hsp ds _ q a,?_,λ_ _ _ _ z=>z.elim,λ_ _ _ _ z=>z.elim,λ_ _ _ _ _ z=>z.elim⟩;rintro ρ σ H' fr ⟨d,hd',q⟩;have mem:Sl.own a d∈ρ:=fh hd';exact q H' fr.same ⟨a,rfl,hx,(fr.sl 0 _ hd').2.weak λb z=>z.elim .inl λz=>.inr ⟨d,by rw[z];exact mem⟩⟩
noncomputable def EK(sp:Fn)(ts:lU):dE:=λρ Q=>ts ρ λrs=>sp (rs.map R.d) (back rs Q)
section
variable {k:Nat}{x:bw}{pos:lv}
theorem Lv(d:IDef X.prog X.w X.K X.mg X.base k x C ps sp)(mo:MonoF sp)(hr:Room (k+1) X.A)(ha:QA X (e::es) ts)(hg:autoParam (Gl X x) c8._auto_1)
  (hdb:autoParam ((x==("__debug__" : bw))=ao) lS._auto_1) (he:autoParam (av (e::es) X.env=(ao,gn e X.env)::av es X.env) c8._auto_1) (hpl:autoParam ((iu pos (av es X.env)).any (·.1)=ao) c8._auto_1):
  QE X (.Call (.Name x p) (e::es) [] pos) (EK sp ts):=by
 obtain⟨f,fd,M,hm,hb,FO⟩:=d.ex;refine⟨λρ Q Q' w q=>ha.mono _ _ _ (λrs q=>mo.mo _ _ _ (pG w) q) q,λHZ F=>cY (JY M FO hr hg hm hb .nil Dw (ha.run HZ F) hdb he hpl) λσ H Q zz=>?_⟩;obtain⟨ρ,fr,h⟩:=zz;refine ha.step fr h λrs xs H1 q S1 r1=>?_;intro a dx hx hd hn;rw[ic];refine⟨a,dx,xs,H1,lent (MM F ρ) rs,rs.map R.d,rfl,rfl,hx,hd,hn,⟨λb z=>(fr.mono S1).dom z.1,(fr.mono S1).tab⟩,lI fr (λ_ h=>h) r1,mo.mo _ _ _ (λr q H' S rx=>?_) q⟩;exact⟨rfl,q.2 _ H' (S1.trans S) (yC fr S1 rx q.1)⟩
end
noncomputable def Lh(a:af)(N:List bw):List Dv->List Sl
 | []=>[]
 |d::ds=>.own a d::(ds.map .v++aw (N.length-(ds.length+1)) .un)
noncomputable def O5(i:Nat)(sp:Fn)(ts:lU):cD:=λE ρ=>ts ρ λrs=>match rs with
 | .ow a d::ZI=>ρ[i]?=aa (.own a d)/\ZI.all R.free=aj/\sp (d::ZI.map R.d) (λr=>match r with | .nw d'=>∀b,E.nx (ρ.set i (.own b d')) | _=>False)
 |_=>False
section
variable {k:Nat}{x:bw}{pos pos2:lv}
end
noncomputable def Gv:Dv->Dv->(R->Prop)->Prop
 | .int i,.int j,Q=>Ij i j/\Q (.v (.int (i*2 ^ j.toNat)))
 |_,_,_=>False
theorem Jf:xO X (ku .LShift) Gv:=by
 refine⟨λdx dy Q Q' w h=>?_,_,MT,λM O H x y dx dy Q cx cy h=>?_⟩
 ·unfold Gv at h;split at h
  ·exact⟨h.1,w _ h.2⟩
  ·exact h.elim
 ·unfold Gv at h;split at h
  ·obtain rfl:=cx.int;obtain rfl:=cy.int;exact⟨_,_,rfl,rfl,h.1,h.2 _ H (aO.refl _) (Rep.int _)⟩
  ·exact h.elim
end Z
namespace L2
open AutoSeq1
section
variable {r:af}{a b c:Int}{t u v:ZD}
end
end L2
namespace L2
end L2
namespace Z
open L2
section
variable {a:Expr}{p2 pos:lv}
noncomputable def Pa(ts:lU):dE:=λρ Q=>ts ρ λrs=>match rs.map R.d with
 | [.int j]=>(-(2 ^ 62)<=j/\j<2 ^ 62/\j.toNat<=1000000)/\Q (.v (.tup (aV 0 j.toNat)))
 |_=>False
end
end Z
namespace Tim
open PySem PySem.W PyProof.Rows
noncomputable def ask(lt:Nat->Nat->Bool)(N:Nat){α:Type}:KasT α->(α->Prop)->Prop
 | .ret a,Q=>Q a
 | .ask i j k,Q=>(i<N/\j<N/\i≠j)/\ask lt N (k (lt i j)) Q
theorem lP{lt:Nat->Nat->Bool}{N:Nat}{α β:Type}{f:α->KasT β}{Q:β->Prop}:∀(t:KasT α),ask lt N t (λa=>ask lt N (f a) Q)->ask lt N (t.bind f) Q
 | .ret _,h=>h
 | .ask i j k,h=>⟨h.1,lP (k (lt i j)) h.2⟩
theorem Ia{lt:Nat->Nat->Bool}{N:Nat}{α:Type}{cmp:Nat->Nat->(Bool->ai->Prop)->ai->Prop}{s:ai}(hc:∀i j C,i<N->j<N->i≠j->C (lt i j) s->cmp i j C s){Q:α->ai->Prop}:
  ∀(t:KasT α),ask lt N t (λa=>Q a s)->t.kasWp cmp Q s
 | .ret _,h=>h
 | .ask i j k,h=>hc i j _ h.1.1 h.1.2.1 h.1.2.2 (Ia hc (k (lt i j)) h.2)
structure Weak(lt:Nat->Nat->Bool):Prop where
 irr:∀a,lt a a=ao
 tr:∀a b c,lt a b=aj->lt b c=aj->lt a c=aj
 nt:∀a b c,lt a c=aj->lt a b=aj \/ lt b c=aj
noncomputable def dA(p:Array Nat)(k:Nat):Nat:=p.getD k 0
variable {p:Array Nat}{j:Nat}
theorem CJ{q:Array Nat}(h:p[i]?=q[j]?):dA p i=dA q j:=by
 unfold dA;rw[xj,xj,h]
theorem lA(hj:j<=p.size)(k:Nat):dA (kas_rev p i j) k=if i<=k/\k<j then dA p (i+j-1-k) else dA p k:=by
 have e:=ug (i:=i) hj k;split
 ·rename_i h;rw[ZE h] at e;exact CJ e
 ·rename_i h;rw[Zg h] at e;exact CJ e
theorem NO{k d:Nat}(hs:k<p.size)(hd:d<=k)(u:Nat):dA (Xm p k d) u=if u=k-d then dA p k else if k-d<u/\u<=k then dA p (u-1) else dA p u:=by
 have e:=ww hs d hd u;by_cases h1:u=k-d
 ·rw[ZE h1] at e ⊢;exact CJ e
 ·rw[Zg h1] at e ⊢;by_cases h2:k-d<u/\u<=k
  ·rw[ZE h2] at e ⊢;exact CJ e
  ·rw[Zg h2] at e ⊢;exact CJ e
noncomputable def Pm(N:Nat)(p:Array Nat):Prop:=p.Perm (Vv (gy N))
variable {q a b:Nat}{Q:Nat×Array Nat->Prop}
section
variable {lt:Nat->Nat->Bool}{N:Nat}
theorem Pm.size(h:Pm N p):p.size=N:=by
 have:=Array.Perm.size_eq h;simpa using this
theorem Pm.list(h:Pm N p):p.toList.Perm (gy N):=by
 have:=yj.mp h;simpa using this
theorem r9{k:Nat}(hk:k<p.size):dA p k=p.toList[k]'(by simpa using hk):=by
 unfold dA;simp[yk,hk]
theorem Pm.ltN(h:Pm N p){k:Nat}(hk:k<N):dA p k<N:=by
 have hs:k<p.size:=by rw[h.size];exact hk
 rw[r9 hs];exact xm.mp (h.list.mem_iff.mp (fw _))
theorem Pm.ne(h:Pm N p)(hi:i<N)(hj:j<N)(n:i≠j):dA p i≠dA p j:=by
 have nd:p.toList.Nodup:=h.list.nodup_iff.mpr XH;rw[r9 (by rw[h.size];exact hi),r9 (by rw[h.size];exact hj)];intro e;rcases tw n with z | z
 ·exact da.mp nd i j _ _ z e
 ·exact da.mp nd j i _ _ z e.symm
theorem Pm.rev(h:Pm N p)(i j:Nat):Pm N (kas_rev p i j):=Array.Perm.trans (mirror_perm _ _ _ _) h
theorem Pm.bub(h:Pm N p)(i j:Nat):Pm N (Xm p i j):=Array.Perm.trans (bubble_perm _ _ _) h
noncomputable def Tl(N:Nat)(p:Array Nat)(k:Nat):Prop:=∀i,k<=i->i<N->dA p i=i
theorem Tl.up{k m:Nat}(h:Tl N p k)(hm:k<=m):Tl N p m:=λi hi hn=>h i (ly hm hi) hn
theorem Tl.below{k:Nat}(h:Tl N p k)(P:Pm N p)(hk:i<k)(hn:i<N):dA p i<k:=by
 have:=P.ltN hn;apply Nat.lt_of_not_le;intro z;have e:=h _ z this;exact P.ne hn this ⋯ e.symm
theorem Tl.rev{k:Nat}(h:Tl N p k)(P:Pm N p)(hj:j<=k)(hN:j<=N):Tl N (kas_rev p i j) k:=λu hu hn=>by
 rw[lA (by rw[P.size];exact hN),Zg ⋯];exact h u hu hn
noncomputable def EV(lt:Nat->Nat->Bool)(a b:Nat):Prop:=lt b a=ao/\(lt a b=aj \/ a<b)
theorem EV.trans(W:Weak lt){c:Nat}(h:EV lt a b)(k:EV lt b c):EV lt a c:=by
 have n1:lt c a=ao:=by
  cases e:lt c a with
  |false=>rfl
  |true=>
   rcases W.nt c b a e with z | z
   ·rw[k.1] at z;cases z
   ·rw[h.1] at z;cases z
 refine⟨n1,?_⟩;rcases h.2 with x | x
 ·rcases W.nt a c b x with z | z
  ·exact .inl z
  ·rw[k.1] at z;cases z
 ·rcases k.2 with y | y
  ·rcases W.nt b a c y with z | z
   ·rw[h.1] at z;cases z
   ·exact .inl z
  ·exact .inr (YZ x y)
theorem Weak.asym(W:Weak lt)(h:lt a b=aj):lt b a=ao:=by
 cases e:lt b a with
 |false=>rfl
 |true=>have:=W.tr _ _ _ h e;rw[W.irr] at this;cases this
theorem EV.of(W:Weak lt)(h:lt a b=aj):EV lt a b:=⟨W.asym h,.inl h⟩
noncomputable def Up(lt:Nat->Nat->Bool)(p:Array Nat)(k:Nat):Prop:=∀u v,u<v->v<k->EV lt (dA p u) (dA p v)
noncomputable def Dn(lt:Nat->Nat->Bool)(p:Array Nat)(k:Nat):Prop:=∀u v,u<v->v<k->EV lt (dA p v) (dA p u)
theorem Up.rev{k:Nat}(h:Up lt p k)(hk:k<=p.size):Dn lt (kas_rev p 0 k) k:=λu v huv hv=>by
 rw[lA hk,lA hk,ZE (by omega),ZE (by omega)];exact h _ _ (by omega) (by omega)
theorem Dn.rev{k:Nat}(h:Dn lt p k)(hk:k<=p.size):Up lt (kas_rev p 0 k) k:=λu v huv hv=>by
 rw[lA hk,lA hk,ZE ⋯,ZE ⋯];exact h _ _ ⋯ ⋯
theorem Up.snoc(W:Weak lt){k:Nat}(h:Up lt p k)(t:Tl N p k)(P:Pm N p)(h1:1<=k)(hk:k<N)(n:lt (dA p k) (dA p (k-1))=ao):Up lt p (k+1):=λu v huv hv=>by
 by_cases e:v=k
 ·subst e;have one:EV lt (dA p (v-1)) (dA p v):=⟨n,.inr (by rw[t v (bt _) hk];exact t.below P ⋯ ⋯)⟩;by_cases e2:u=v-1
  ·rw[e2];exact one
  ·exact(h u (v-1) ⋯ ⋯).trans W one
 ·exact h u v huv ⋯
theorem Ab(W:Weak lt)(P:Pm N p){Q:Nat->Prop}:∀(f n:Nat),1<=n->n+f<=N->Up lt p n->Tl N p n ->
  (∀m,n<=m->m<=n+f->Up lt p m->(m=n+f \/ m<N/\lt (dA p m) (dA p (m-1))=aj)->Q m)->ask lt N (kas_asc p f n) Q
 |0,n,_,hn,u,t,k=>k n (bt _) (bt _) u (.inl rfl)
 |f+1,n,h1,hn,u,t,k=>by
  refine⟨⟨P.ltN ⋯,P.ltN ⋯,P.ne ⋯ ⋯ ⋯⟩,?_⟩;show ask lt N (if lt (dA p n) (dA p (n-1))=aj then KasT.ret n else kas_asc p f (n+1)) Q;cases e:lt (dA p n) (dA p (n-1)) with
  |true=>
   rw[ZE rfl];exact k n (bt _) ⋯ u (.inr ⟨⋯,e⟩)
  |false=>
   rw[Zg (by simp)];exact Ab W P f (n+1) ⋯ ⋯ (u.snoc W t P h1 ⋯ e) (t.up ⋯) λm a b c d=>k m ⋯ ⋯ c (d.elim (λz=>.inl ⋯) .inr)
structure Run(lt:Nat->Nat->Bool)(N:Nat)(p:Array Nat)(n q:Nat):Prop where
 pm:Pm N p
 tl:Tl N p n
 le:q+1<=n
 hi:n<=N
 dn:Dn lt p (n-(q+1))
 same:∀u v,n-(q+1)<=u->u<v->v<n->lt (dA p u) (dA p v)=ao/\lt (dA p v) (dA p u)=ao/\dA p u<dA p v
 less:∀u v,u<n-(q+1)->n-(q+1)<=v->v<n->lt (dA p v) (dA p u)=aj
theorem Run.turn(W:Weak lt)(h:Run lt N p n q):Dn lt (kas_rev p (n-(q+1)) n) n:=λu v huv hv=>by
 have hs:n<=p.size:=by rw[h.pm.size];exact h.hi
 have hl:=h.le;rw[lA hs,lA hs];by_cases c:n-(q+1)<=v
 ·rw[ZE ⟨c,hv⟩];by_cases d:n-(q+1)<=u
  ·rw[ZE ⟨d,by omega⟩];obtain⟨a,b,e⟩:=h.same (n-(q+1)+n-1-v) (n-(q+1)+n-1-u) (by omega) (by omega) (by omega);exact⟨b,.inr e⟩
  ·rw[Zg (by omega)];exact EV.of W (h.less u _ (by omega) (by omega) (by omega))
 ·rw[Zg (by omega),Zg (by omega)];exact h.dn u v huv (by omega)
theorem Run.flat(W:Weak lt)(h:Run lt N p n 0):Dn lt p n:=λu v huv hv=>by
 by_cases c:n-1<=v
 ·exact EV.of W (h.less u v ⋯ ⋯ hv)
 ·exact h.dn u v huv ⋯
theorem Run.done(W:Weak lt)(h:Run lt N p n q):∃p',(if q > 0 then kas_rev p (n-(q+1)) n else p)=p'/\Pm N p'/\Tl N p' n/\Dn lt p' n /\ ∀u,u<n -> ∃w,w<n/\dA p' u=dA p w:=by
 by_cases c:q > 0
 ·refine⟨_,ZE c,h.pm.rev _ _,h.tl.rev h.pm (bt _) h.hi,h.turn W,λu hu=>?_⟩;have hl:=h.le;rw[lA (by rw[h.pm.size];exact h.hi)];split
  ·exact⟨_,⋯,rfl⟩
  ·exact⟨u,hu,rfl⟩
 ·have:q=0:=⋯;subst this;exact⟨_,Zg c,h.pm,h.tl,h.flat W,λu hu=>⟨u,hu,rfl⟩⟩
theorem Run.next(W:Weak lt)(h:Run lt N p n q)(hn:n<N)(e:lt (dA p n) (dA p (n-1))=aj):Run lt N (if q > 0 then kas_rev p (n-(q+1)) n else p) (n+1) 0:=by
 have hl:=h.le;have all:∀w,w<n->lt (dA p n) (dA p w)=aj:=λw hw=>by
  by_cases c:w=n-1
  ·rw[c];exact e
  ·by_cases d:w<n-(q+1)
   ·exact W.tr _ _ _ e (h.less w (n-1) d ⋯ ⋯)
   ·rcases W.nt _ (dA p w) _ e with z | z
    ·exact z
    ·rw[(h.same w (n-1) ⋯ ⋯ ⋯).1] at z;cases z
 obtain⟨p',ep,P,T,D,A⟩:=h.done W;rw[ep];have en:dA p' n=dA p n:=by rw[T n (bt _) hn,h.tl n (bt _) hn]
 refine⟨P,T.up ⋯,⋯,hn,by simpa using D,λu v a b c=>by right,λu v a b c=>?_⟩;have:v=n:=⋯;subst this;obtain⟨w,hw,ew⟩:=A u ⋯;rw[en,ew];exact all w hw
theorem Run.more(W:Weak lt)(h:Run lt N p n q)(hn:n<N)(e:lt (dA p n) (dA p (n-1))=ao)(d:lt (dA p (n-1)) (dA p n)=ao):Run lt N p (n+1) (q+1):=by
 have hl:=h.le;have en:=h.tl n (bt _) hn;have sz:n+1-(q+1+1)=n-(q+1):=⋯;refine⟨h.pm,h.tl.up ⋯,⋯,hn,by rw[sz];exact h.dn,λu v a b c=>?_,λu v a b c=>?_⟩
 ·rw[sz] at a;by_cases z:v=n
  ·subst z;have lw:dA p u<dA p v:=by rw[en];exact h.tl.below h.pm b ⋯
   by_cases y:u=v-1
   ·subst y;exact⟨d,e,lw⟩
   ·obtain⟨s1,s2,_⟩:=h.same u (v-1) a ⋯ ⋯;refine⟨?_,?_,lw⟩
    ·cases q1:lt (dA p u) (dA p v) with
     |false=>rfl
     |true=>
      rcases W.nt _ (dA p (v-1)) _ q1 with x | x
      ·rw[s1] at x;cases x
      ·rw[d] at x;cases x
    ·cases q1:lt (dA p v) (dA p u) with
     |false=>rfl
     |true=>
      rcases W.nt _ (dA p (v-1)) _ q1 with x | x
      ·rw[e] at x;cases x
      ·rw[s2] at x;cases x
  ·exact h.same u v a b ⋯
 ·rw[sz] at a b;by_cases z:v=n
  ·subst z;rcases W.nt _ (dA p v) _ (h.less u (v-1) a ⋯ ⋯) with x | x
   ·rw[d] at x;cases x
   ·exact x
  ·exact h.less u v a b ⋯
theorem sN(W:Weak lt){Q:Array Nat×Nat×Nat->Prop}:∀(f:Nat) (p:Array Nat) (n q:Nat),n+f<=N->Run lt N p n q->(∀p' n' q',n<=n'->n'<=n+f->Run lt N p' n' q'->Q (p',n',q'))->ask lt N (kas_desc f p n q) Q
 |0,p,n,q,hn,r,k=>k p n q (bt _) (bt _) r
 |f+1,p,n,q,hn,r,k=>by
  have hl:=r.le;refine⟨⟨r.pm.ltN ⋯,r.pm.ltN ⋯,r.pm.ne ⋯ ⋯ ⋯⟩,?_⟩;show ask lt N (if lt (dA p n) (dA p (n-1))=aj then (if q > 0 then kas_desc f (kas_rev p (n-(q+1)) n) (n+1) 0 else kas_desc f p (n+1) 0)
   else .ask (p.getD (n-1) 0) (p.getD n 0) λd=>if d=aj then .ret (p,n,q) else kas_desc f p (n+1) (q+1)) Q
  cases e:lt (dA p n) (dA p (n-1)) with
  |true=>
   rw[ZE rfl];have r':=r.next W ⋯ e;by_cases c:q > 0
   ·rw[ZE c] at r' ⊢;exact sN W f _ (n+1) 0 ⋯ r' λp' n' q' a b c=>k p' n' q' ⋯ ⋯ c
   ·rw[Zg c] at r' ⊢;exact sN W f _ (n+1) 0 ⋯ r' λp' n' q' a b c=>k p' n' q' ⋯ ⋯ c
  |false=>
   rw[Zg (by simp)];refine⟨⟨r.pm.ltN ⋯,r.pm.ltN ⋯,r.pm.ne ⋯ ⋯ ⋯⟩,?_⟩;show ask lt N (if lt (dA p (n-1)) (dA p n)=aj then .ret (p,n,q) else kas_desc f p (n+1) (q+1)) Q;cases d:lt (dA p (n-1)) (dA p n) with
   |true=>
    rw[ZE rfl];exact k p n q (bt _) ⋯ r
   |false=>
    rw[Zg (by simp)];exact sN W f _ (n+1) (q+1) ⋯ (r.more W ⋯ e d) λp' n' q' a b c=>k p' n' q' ⋯ ⋯ c
noncomputable def Tj(lt:Nat->Nat->Bool)(N:Nat)(r:Nat×Array Nat):Prop:=1<=r.1/\r.1<=N/\Pm N r.2/\Up lt r.2 r.1/\Tl N r.2 r.1
theorem Aq(W:Weak lt)(P:Pm N p)(h1:1<=n)(hn:n<=N)(D:Dn lt p n)(T:Tl N p n)(k:∀r,Tj lt N r->Q r):ask lt N (kas_tail3 n N p) Q:=by
 unfold kas_tail3;have P':=P.rev 0 n;have T':Tl N (kas_rev p 0 n) n:=T.rev P (bt _) hn;refine lP _ (Ab W P' (N-n) n h1 ⋯ (D.rev (by rw[P.size];exact hn)) T' λm a b c d=>?_);exact k _ ⟨by show 1<=m;right,by show m<=N;right,P',c,T'.up a⟩
theorem BD(W:Weak lt)(P:Pm N p)(h1:1<=n)(hn:n<N)(D:Dn lt p n)(T:Tl N p n)(e:∀w,w<n->lt (dA p n) (dA p w)=aj)(k:∀r,Tj lt N r->Q r):ask lt N (kas_descPart n N p) Q:=by
 unfold kas_descPart;have r0:Run lt N p (n+1) 0:=⟨P,T.up ⋯,⋯,hn,by simpa using D,λu v a b c=>by right,λu v a b c=>by
  have:v=n:=⋯;subst this;exact e u ⋯⟩
 refine lP _ (sN W _ p (n+1) 0 ⋯ r0 λp' n' q' a b r=>?_);obtain⟨p2,ep,P2,T2,D2,_⟩:=r.done W;show ask lt N (if q' > 0 then kas_tail3 n' N (kas_rev p' (n'-(q'+1)) n') else kas_tail3 n' N p') Q;by_cases c:q' > 0
 ·rw[ZE c] at ep ⊢;rw[ep];exact Aq W P2 ⋯ ⋯ D2 T2 k
 ·rw[Zg c] at ep ⊢;rw[ep];exact Aq W P2 ⋯ ⋯ D2 T2 k
theorem Fp(W:Weak lt)(P:Pm N p)(h1:1<=N)(T:Tl N p 0)(k:∀r,Tj lt N r->Q r):ask lt N (kas_count N p) Q:=by
 unfold kas_count;refine lP _ (Ab W P (N-1) 1 (bt _) ⋯ (λu v a b=>by right) (T.up ⋯) λm a b c d=>?_);by_cases z:m=N
 ·rw[ZE (by simpa using z)];exact k _ ⟨a,by show m<=N;right,P,c,T.up ⋯⟩
 ·rw[Zg (by simpa using z)];have hm:m<N/\lt (dA p m) (dA p (m-1))=aj:=d.resolve_left ⋯;by_cases y:m > 1
  ·rw[ZE y];refine⟨⟨P.ltN ⋯,P.ltN ⋯,P.ne ⋯ ⋯ ⋯⟩,?_⟩;show ask lt N (if lt (dA p 0) (dA p (m-1))=aj then .ret (m,p) else kas_descPart m N (kas_rev p 0 m)) Q;cases e:lt (dA p 0) (dA p (m-1)) with
   |true=>
    rw[ZE rfl];exact k _ ⟨a,by show m<=N;right,P,c,T.up ⋯⟩
   |false=>
    rw[Zg (by simp)];have hs:m<=p.size:=by rw[P.size];right
    refine BD W (P.rev _ _) a hm.1 (c.rev hs) ((T.up (oj m)).rev P (bt _) ⋯) (λw hw=>?_) k;rw[lA hs,lA hs,Zg ⋯,ZE ⋯];have m0:lt (dA p m) (dA p 0)=aj:=by
     rcases W.nt _ (dA p 0) _ hm.2 with x | x
     ·exact x
     ·rw[e] at x;cases x
    by_cases w0:0+m-1-w=0
    ·rw[w0];exact m0
    ·rcases W.nt _ (dA p (0+m-1-w)) _ m0 with x | x
     ·exact x
     ·rw[(c 0 (0+m-1-w) ⋯ ⋯).1] at x;cases x
  ·rw[Zg y];have:m=1:=⋯;subst this;refine BD W P a hm.1 (λu v a b=>by right) (T.up ⋯) (λw hw=>?_) k;have:w=0:=⋯;subst this;exact hm.2
theorem sY(W:Weak lt)(P:Pm N p){k:Nat}(hk:k<N)(U:Up lt p k){Q:Nat->Prop}:∀(f l r:Nat),l<=r->r<=k->r-l<=f->(∀u,u<l->lt (dA p k) (dA p u)=ao)->(∀u,r<=u->u<k->lt (dA p k) (dA p u)=aj) ->
  (∀l',l'<=k->(∀u,u<l'->lt (dA p k) (dA p u)=ao)->(∀u,l'<=u->u<k->lt (dA p k) (dA p u)=aj)->Q l')->ask lt N (kas_place p k f l r) Q
 |0,l,r,hl,hr,hf,a,b,g=>by
  have:r=l:=⋯;subst this;exact g r hr a b
 |f+1,l,r,hl,hr,hf,a,b,g=>by
  unfold kas_place;by_cases c:l >= r
  ·rw[ZE c];have:r=l:=⋯;subst this;exact g r hr a b
  ·rw[Zg c];have hm:(l+r) / 2<r:=⋯;have hm2:l<=(l+r) / 2:=⋯;generalize (l+r) / 2=mid at *;refine⟨⟨P.ltN hk,P.ltN ⋯,P.ne hk ⋯ ⋯⟩,?_⟩;show ask lt N (if lt (dA p k) (dA p mid)=aj then kas_place p k f l mid else kas_place p k f (mid+1) r) Q;cases e:lt (dA p k) (dA p mid) with
   |true=>
    rw[ZE rfl];refine sY W P hk U f l mid hm2 ⋯ ⋯ a (λu h1 h2=>?_) g;by_cases z:u=mid
    ·rw[z];exact e
    ·rcases W.nt _ (dA p u) _ e with x | x
     ·exact x
     ·rw[(U mid u ⋯ h2).1] at x;cases x
   |false=>
    rw[Zg (by simp)];refine sY W P hk U f (mid+1) r ⋯ hr ⋯ (λu hu=>?_) b g;by_cases z:u=mid
    ·rw[z];exact e
    ·cases q:lt (dA p k) (dA p u) with
     |false=>rfl
     |true=>
      rcases W.nt _ (dA p mid) _ q with x | x
      ·rw[e] at x;cases x
      ·rw[(U u mid ⋯ ⋯).1] at x;cases x
theorem ES(W:Weak lt){Q:Array Nat->Prop}:∀(f:Nat) (p:Array Nat) (k:Nat),k+f=N->Pm N p->Up lt p k->Tl N p k->(∀p',Pm N p'->Up lt p' N->Q p')->ask lt N (kas_bin f p k) Q
 |0,p,k,hk,P,U,T,g=>by
  have:k=N:=⋯;subst this;exact g p P U
 |f+1,p,k,hk,P,U,T,g=>by
  refine lP _ (sY W P ⋯ U k 0 k (oj _) (bt _) ⋯ (λu h=>by right) (λu h1 h2=>by right) λl hl a b=>?_);have hs:k<p.size:=by rw[P.size];right
  have e:∀u,dA (Xm p k (k-l)) u=if u=l then dA p k else if l<u/\u<=k then dA p (u-1) else dA p u:=λu=>by
   rw[NO hs ⋯ u,show k-(k-l)=l by right]
  refine ES W f _ (k+1) ⋯ (P.bub _ _) (λu v huv hv=>?_) (λi hi hn=>?_) g
  ·have tk:=T k (bt _) ⋯;rw[e u,e v];by_cases u1:u=l
   ·rw[ZE u1,Zg ⋯,ZE ⋯];exact EV.of W (b (v-1) ⋯ ⋯)
   ·rw[Zg u1];by_cases v1:v=l
    ·rw[ZE v1,Zg ⋯];exact⟨a u ⋯,.inr (by rw[tk];exact T.below P ⋯ ⋯)⟩
    ·rw[Zg v1];by_cases u2:l<u
     ·rw[ZE ⋯,ZE ⋯];exact U _ _ ⋯ ⋯
     ·rw[Zg ⋯];by_cases v2:l<v
      ·rw[ZE ⋯];exact U _ _ ⋯ ⋯
      ·rw[Zg ⋯];exact U _ _ ⋯ ⋯
  ·rw[e i,Zg ⋯,Zg ⋯];exact T i ⋯ hn
theorem GI(W:Weak lt)(h1:1<=N){Q:Array Nat->Prop}(k:∀p',Pm N p'->Up lt p' N->Q p'):ask lt N (kas_sort N) Q:=by
 unfold kas_sort;refine lP _ (Fp W (Array.Perm.refl _) h1 (λi _ hi=>by simp[dA,yk,hi]) λr g=>?_);obtain⟨a,b,c,d,e⟩:=g;by_cases z:r.1<N
 ·rw[ZE z];have:max r.1 1=r.1:=⋯;rw[this];exact ES W _ r.2 r.1 ⋯ c d e k
 ·rw[Zg z];have:r.1=N:=⋯;rw[this] at d;exact k _ c d
end
end Tim
namespace L2
open PySem PySem.Spec PySem.W PyProof.Rows Tim
noncomputable abbrev picked(vs:List ah)(p:Array Nat):List ah:=p.toList.map λi=>vs.getD i gg
structure Cmp(prog:ay)(w:bz)(s:ai)(a:af)(vs:List ah)(lt:Nat->Nat->Bool)(κ:rj):Prop where
 wk:Weak lt
 kind:∀(A:dj) (h:dq) (Q:rj->ai->Prop),(∀b o,b≠a->s.heap.get? b=aa o->h.get? b=aa o)->Q κ { s with heap:=h }->bu (cf prog w) A (keyKind' vs.toArray) Q (λ_ _=>False) { s with heap:=h }
 less:∀(A:dj) (h:dq) (i j:Nat) (C:Bool->ai->Prop),(∀b o,b≠a->s.heap.get? b=aa o->h.get? b=aa o)->i<vs.length->j<vs.length->i≠j->C (lt i j) { s with heap:=h } ->
  bu (cf prog w) A (keyLt' κ (vs.getD i gg) (vs.getD j gg)) C (λ_ _=>False) { s with heap:=h }
variable {vs:List ah}{κ:rj}
theorem xY(vs:List ah):picked vs (Vv (gy vs.length))=vs:=by
 apply rd;intro i;by_cases h:i<vs.length
 ·simp[picked,h]
 ·simp[picked,h]
theorem Eh{lt:Nat->Nat->Bool}{P:Fin->ai->Prop}(ho:s.heap.get? a=aa (qo "list" vs.toArray n))(h64:vs.length<64)(c:2<=vs.length->Cmp prog w s a vs lt κ)
  (k:∀p,Pm vs.length p->Up lt p vs.length->P (.done (.ret .none)) { s with heap:=Yn s.heap a vs (picked vs p).toArray }):bu (cf prog w) A (sr.«list.sort» ⟨[.ref a],[]⟩) P E s:=by
 have la:a<s.heap.objs.size:=bg ho
 let h1:=s.heap.update a (yd λ_=>#[])
 let h2:=h1.push (qo "tuple" vs.toArray 0)
 let h3:=h2.push (qo "list" #[] 0)
 obtain⟨m,g1⟩:∃m,h1.get? a=aa (qo "list" #[] m):=⟨_,XV ho λ_=>#[]⟩;have sz1:h1.objs.size=s.heap.objs.size:=Vc ..;have keep:∀b o,b≠a->s.heap.get? b=aa o->h3.get? b=aa o:=λb o hb e=>
  aq _ (aq _ ((xc _ _ _ _ hb).trans e))
 have g3:h3.get? a=aa (qo "list" #[] m):=aq _ (aq _ g1);have line:vs.length<=bv:=by rw[ke];right
 have fin:∀p,Pm vs.length p->Up lt p vs.length->bu (cf prog w) A (do
   let touched:=(<- seqEpoch a) != m
   Vd (.ref a) λ_=>(picked vs p).toArray
   if touched then YS "list.sort.modified";raiseError "ValueError" "list modified during sort"
   ret .none) P E { s with heap:=h3 }:=λp pm up=>by
  have sz:(picked vs p).toArray.size=vs.length:=by simp[picked,pm.size]
  refine ae (W1 g3 rfl (ae (Uz g3 rfl ?_ (oj _) (by rw[sz];right))));rw[show (m != m)=ao by simp];exact ak (k p pm up)
 rw[XW];refine ae (listItems_at ho rfl (ae (Uz ho rfl ?_ (by simpa using line) (oj _))));refine ae (W1 g1 rfl (ae (Yo (ae (V0 (jf ?_) (oj _))) (by simpa using line))));show bu (cf prog w) A _ P E { s with heap:=h3 };dsimp only;by_cases two:2<=vs.length
 ·have big:¬vs.toArray.size<2:=by simpa using two
  rw[Zg big,Zg big];have cc:=c two;refine ae (gv (cc.kind A h3 (λx s'=>x=κ/\s'={ s with heap:=h3 }) keep ⟨rfl,rfl⟩) (λx s' e=>?_) λ_ _ z=>z.elim);obtain⟨rfl,rfl⟩:=e;have tree:(kas_sort vs.length).kasWp (kas_ask prog w A x vs) (λp s'=>(Pm vs.length p/\Up lt p vs.length)/\s'={ s with heap:=h3 }) { s with heap:=h3 }:=
   Ia (lt:=lt) (N:=vs.length) (λi j C hi hj hn q=>cc.less A h3 i j C keep hi hj hn q) _ (GI cc.wk ⋯ λp a b=>⟨⟨a,b⟩,rfl⟩)
  refine ae (gv (kat_run (E:=E) (Q:=λst' s'=>∃p,(Pm vs.length p/\Up lt p vs.length)/\uz st'=p.map (kas_item (vs.toArray.zip vs.toArray))/\vi st'=ar/\s'={ s with heap:=h3 })
   rfl two h64 (λp st' s' _ a b q=>⟨p,q.1,a,b,q.2⟩) tree) (λr s' q=>?_) λ_ _ z=>z)
  obtain⟨⟨⟩,st'⟩:=r;obtain⟨p,⟨pm,up⟩,e1,e2,rfl⟩:=q;dsimp only at e1 e2 ⊢;rw[kat_snds rfl e1,e2];exact fin p pm up
 ·have few:vs.toArray.size<2:=by simp;right
  rw[ZE few,ZE few];refine ae (ak ?_);rw[XX];refine ae (ak ?_);dsimp only;have e:((uz (yo general' (vs.toArray.zip vs.toArray) #[] 7 ar)).map λx=>x.2)=(picked vs (Vv (gy vs.length))).toArray:=by
   rw[xY];apply Xn.mp;show ((vs.toArray.zip vs.toArray).map λx=>x.2).toList=_;simp;apply rd;intro i;by_cases hi:i<vs.length
   ·simp[hi]
   ·simp[hi]
  rw[e];exact fin _ (Array.Perm.refl _) λu v h1 h2=>by right
theorem Eg{l:af}{lt:Nat->Nat->Bool}{Q:ah->ai->Prop}(hl:s.heap.IsList l vs.toArray)(h64:vs.length<64)(c:2<=vs.length->Cmp prog w s s.heap.objs.size vs lt κ)
  (k:∀p,Pm vs.length p->Up lt p vs.length->Q (.ref (s.heap.objs.size+1)) { s with heap:=sortedAll s.heap vs (picked vs p).toArray }):bu (cf prog w) A (call (.builtin "sorted") [.ref l]) Q E s:=by
 have line:vs.length<=bv:=by rw[ke];right
 let h1:=(s.heap.push (qo "list" #[] 0)).update s.heap.objs.size (yd (· ++ vs.toArray))
 let h2:=h1.push (qo "list" vs.toArray 0)
 have sz:h1.objs.size=s.heap.objs.size+1:=(Vc ..).trans (size_push' _ _);have old:∀b o,s.heap.get? b=aa o->h2.get? b=aa o:=λb o e=>
  aq _ ((xc _ _ _ _ (gq (bg e))).trans (aq _ e))
 have mine:h2.get? (s.heap.objs.size+1)=aa (qo "list" vs.toArray 0):=sz ▸ cm h1 rfl;refine yx kind_sorted plain_sorted entry_sorted (args_sorted1 _) ?_;unfold sr.«sorted»;refine ae (m:=checkCount "sorted" 1 1 _) (ak (ae (collect_list hl (ae (V0 ?_ line)) line)));show bu _ _ _ _ _ { s with heap:=h2 };rw[show ((s.heap.push (qo "list" #[] 0)).update s.heap.objs.size (yd (· ++ vs.toArray))).objs.size=s.heap.objs.size+1 from sz];refine ae (jf (gf Yp ⟨_,mine,rfl⟩ XY ?_ (Yq _)));refine Eh (s:={ s with heap:=h2 }) (lt:=lt) (κ:=κ) mine h64 (λtwo=>?_) λp a b=>⟨_,rfl,ak ⟨_,rfl,k p a b⟩⟩
 ·have cc:=c two;exact⟨cc.wk,λA h Q hk q=>cc.kind A h Q (λb o hb e=>hk b o (λz=>by have y:=bg e;rw[z] at y;exact W2 y) (old b o e)) q,
   λA h i j C hk hi hj hn q=>cc.less A h i j C (λb o hb e=>hk b o (λz=>by have y:=bg e;rw[z] at y;exact W2 y) (old b o e)) hi hj hn q⟩
noncomputable def gZ:List Int->List Int->Bool
 | [],[]=>ao
 | [],_::_=>aj
 |_::_,[]=>ao
 |a::r,b::t=>if a=b then gZ r t else decide (a<b)
theorem Bn:∀a,gZ a a=ao
 | []=>rfl
 |a::r=>by rw[gZ,ZE rfl];exact Bn r
theorem A6:∀a b c,gZ a b=aj->gZ b c=aj->gZ a c=aj
 | [],[],_,h,_=>by cases h
 | [],_::_,[],_,k=>by cases k
 | [],_::_,_::_,_,_=>rfl
 |_::_,[],_,h,_=>by cases h
 |_::_,_::_,[],_,k=>by cases k
 |a::r,b::t,c::u,h,k=>by
  unfold gZ at h k ⊢;by_cases e:a=b
  ·rw[ZE e] at h;subst e;by_cases e2:a=c
   ·rw[ZE e2] at k ⊢;exact A6 r t u h k
   ·rw[Zg e2] at k ⊢;exact k
  ·rw[Zg e] at h;have h1:=of_decide_eq_true h;by_cases e2:b=c
   ·subst e2;rw[Zg e];exact h
   ·rw[Zg e2] at k;have h2:=of_decide_eq_true k;rw[Zg ⋯];exact decide_eq_true ⋯
theorem o8:∀a b,a≠b->gZ a b=aj \/ gZ b a=aj
 | [],[],h=>absurd rfl h
 | [],_::_,_=>.inl rfl
 |_::_,[],_=>.inr rfl
 |a::r,b::t,h=>by
  unfold gZ;by_cases e:a=b
  ·subst e;rw[ZE rfl,ZE rfl];exact o8 r t λz=>h (by rw[z])
  ·rw[Zg e,Zg (Ne.symm e)];rcases WG e with z | z
   ·exact .inl (decide_eq_true z)
   ·exact .inr (decide_eq_true z)
theorem yB(f:Nat->List Int):Weak λi j=>gZ (f i) (f j):=by
 refine⟨λa=>Bn _,λa b c=>A6 _ _ _,λa b c h=>?_⟩;by_cases e:f a=f b
 ·exact .inr (by rw[<- e];exact h)
 ·rcases o8 _ _ e with z | z
  ·exact .inl z
  ·exact .inr (A6 _ _ _ z h)
section
variable {C:Bool->ai->Prop}{fin:Bool}
theorem vZ:∀(ns ms:List Int) (us vs ru rv:List ah) (i:Nat),uo us ns->uo vs ms->ns.length=ms.length->ns≠ms->C (gZ ns ms) s->KatLex prog w A aj fin C ((us++ru).zip (vs++rv)) i s
 | [],[],_,_,_,_,_,_,_,_,n,_=>absurd rfl n
 | [],_::_,_,_,_,_,_,_,_,l,_,_=>by cases l
 |_::_,[],_,_,_,_,_,_,_,l,_,_=>by cases l
 |a::r,b::t,_,_,ru,rv,i,.cons _ x hu,.cons _ y hv,l,n,q=>by
  unfold gZ at q;refine kat_cons (wb (kat_go (λe=>kat_yes ?_) λe=>kat_no ?_))
  ·have e':a=b:=by simpa using e
   rw[ZE e'] at q;exact vZ r t _ _ ru rv (i+1) hu hv (by simpa using l) (λz=>n (by rw[e',z])) q
  ·have e':¬a=b:=by simpa using e
   rw[Zg e'] at q;by_cases z:i=0
   ·rw[show (aj&&i==0)=aj by simp[z]];exact oneLt_int q
   ·rw[show (aj&&i==0)=ao by simp[z]];exact kat_one _ _ (lt_int q)
end
variable {N:Nat}{p:Array Nat}
noncomputable abbrev Il:=af×List Int×List V
theorem Ds(P:Pm N p)(xs:List α)(hl:xs.length=N)(d:α):(p.toList.map λi=>xs.getD i d).Perm xs:=by
 have e:(gy N).map (λi=>xs.getD i d)=xs:=by
  apply rd;intro i;by_cases h:i<N
  ·simp[h,hl]
  ·simp[h,hl]
 have:=P.list.map λi=>xs.getD i d;rwa[e] at this
theorem tN{lt:Nat->Nat->Bool}(P:Pm N p)(U:Up lt p N)(xs:List α)(d:α)(Rel:α->α->Prop)(hR:∀i j,i<N->j<N->EV lt i j->Rel (xs.getD i d) (xs.getD j d)):
  (p.toList.map λi=>xs.getD i d).Pairwise Rel:=by
 rw[ir];rw[da];intro i j hi hj hij;have si:i<p.size:=by simpa using hi
 have sj:j<p.size:=by simpa using hj
 have b:=U i j hij (by rw[<- P.size];exact sj);rw[r9 si,r9 sj] at b;have:=P.ltN (k:=i) (by rw[<- P.size];exact si);have:=P.ltN (k:=j) (by rw[<- P.size];exact sj);rw[r9 si] at *;rw[r9 sj] at *;exact hR _ _ (by assumption) (by assumption) b
theorem AU:fP X (.builtin "sorted") (λxs H Q=>∃(p:af) (its:List Il) (k:Nat),xs=[.ref p]/\gK X.K H p (its.map λt=>V.ref t.1)/\its.length<64/\(∀t∈its,pL X.K H t.1 (t.2.1.map V.int++t.2.2)/\t.2.1.length=k+1) /\
  its.Pairwise (λt u=>t.2.1≠u.2.1) /\ ∀its':List Il,its'.Perm its->its'.Pairwise (λt u=>gZ t.2.1 u.2.1=aj) -> ∀l,H l=ar->Q (.ref l) (upd H l (.lst (its'.map λt=>V.ref t.1)))):=by
 intro pk s σ H xs us Q I r h;obtain⟨p,its,k,rfl,hl,h64,a02,hd,q⟩:=h;obtain⟨u,rfl,ru⟩:=kK r;cases ru;obtain⟨vs,rv,pl,hz⟩:=I.list hl;have ev:vs=its.map λt=>Value.ref t.1:=by
  clear hl hz h64 a02 hd q pl;induction its generalizing vs with
  |nil=>cases rv;rfl
  |cons t r ih=>
   cases rv with
   |cons a b=>rw[de,<- ih _ b];cases a;rfl
 subst ev;have len:(its.map λt=>Value.ref t.1).length=its.length:=by simp
 let num:Nat->List Int:=λi=>(its.getD i (0,[],[])).2.1
 have get:∀i,i<its.length->(its.map λt=>Value.ref t.1).getD i gg=Value.ref (its.getD i (0,[],[])).1:=λi hi=>by simp[hi]
 have mem:∀i,i<its.length->its.getD i (0,[],[])∈its:=λi hi=>by
  rw[fy,au hi];exact fw hi
 have ne:∀i j,i<its.length->j<its.length->i≠j->num i≠num j:=λi j hi hj n=>by
  have e:∀i,i<its.length->num i=(its[i]!).2.1:=λi hi=>by simp[num,hi]
  have pw:=da.mp hd;have ei:its.getD i (0,[],[])=its[i]:=by simp[hi]
  have ej:its.getD j (0,[],[])=its[j]:=by simp[hj]
  show (its.getD i (0,[],[])).2.1≠(its.getD j (0,[],[])).2.1;rw[ei,ej];rcases tw n with z | z
  ·exact pw i j hi hj z
  ·exact(pw j i hj hi z).symm
 have tup:∀t∈its,∃(o:jv) (a b:List ah) (n:Nat),s.heap.get? t.1=aa o/\o.cls=.type "tuple" /\ o.data=.seq (a++b).toArray n/\uo a t.2.1:=λt ht=>by
  obtain⟨z,r',⟨o,ho,hc,n,hd'⟩,_⟩:=I.tuple (a02 t ht).1;obtain⟨a,b,rfl,ra,rb⟩:∃a b,z=a++b/\bU (t.2.1.map V.int) a/\bU t.2.2 b:=by
   clear hd' ho hc;generalize t.2.1.map V.int=m at r';induction m generalizing z with
   |nil=>exact⟨[],z,rfl,.nil,r'⟩
   |cons x y ih=>
    cases r' with
    |cons x1 x2=>
     obtain⟨a,b,rfl,ra,rb⟩:=ih _ x2;exact⟨_::a,b,rfl,.cons x1 ra,rb⟩
  exact⟨o,a,b,n,ho,hc,hd',qM ra⟩
 have cmp:2<=(its.map λt=>Value.ref t.1).length->Cmp X.prog X.w s s.heap.objs.size (its.map λt=>Value.ref t.1) (λi j=>gZ (num i) (num j)) (tuples' aj):=λtwo=>by
  have far:∀{b o},s.heap.get? b=aa o->b≠s.heap.objs.size:=λe=>gq (bg e);refine⟨yB num,λA h Q' hk q'=>?_,λA h i j C hk hi hj hn q'=>?_⟩
  ·have go:∀l:List Il,(∀t∈l,t∈its) -> ∃fs:List ah,KatTups h (l.map λt=>Value.ref t.1) fs/\fs.length=l.length /\ ∀v∈fs,∃x y,v=Value.int x y:=by
    intro l;induction l with
    |nil=>intro _;exact⟨[],.nil,rfl,λv hv=>by cases hv⟩
    |cons t r ih=>
     intro hm;obtain⟨fs,kt,e,al⟩:=ih λu hu=>hm u (dg _ hu);have ht:=hm t (dk ..);obtain⟨o,a,b,n,ho,hc,hd',ia⟩:=tup t ht;obtain⟨x,ZI,ex⟩:∃x ZI,t.2.1=x::ZI:=by
      have:=(a02 t ht).2;cases e':t.2.1 with
      |nil=>rw[e'] at this;cases this
      |cons x ZI=>exact⟨x,ZI,rfl⟩
     rw[ex] at ia;cases ia with
     |cons _ y ia'=>
      refine⟨Value.int x y::fs,KatTups.cons (hk _ _ (far ho) ho) hc hd' (by simp) kt,by simp[e],λv hv=>?_⟩;rcases dm.mp hv with rfl | hv
      ·exact⟨x,y,rfl⟩
      ·exact al v hv
   obtain⟨fs,kt,e,al⟩:=go its λ_ h=>h;refine kat_kind (s:={ s with heap:=h }) (T:=.type "int") kt (by rw[e];simp at two;right) (λv hv=>?_) ∅ q';obtain⟨x,y,rfl⟩:=al v hv;exact Looks.of_pure rfl
  ·rw[len] at hi hj;rw[get i hi,get j hj];obtain⟨o,a,b,n,ho,hc,hd',ia⟩:=tup _ (mem i hi);obtain⟨o2,a2,b2,n2,ho2,hc2,hd2,ia2⟩:=tup _ (mem j hj);refine kat_lt (s:={ s with heap:=h }) (hk _ _ (far ho) ho) hd' (hk _ _ (far ho2) ho2) hd2 ?_;exact vZ _ _ a a2 b b2 0 ia ia2 (by rw[(a02 _ (mem i hi)).2,(a02 _ (mem j hj)).2]) (ne i j hi hj hn) q'
 refine Eg (lt:=λi j=>gZ (num i) (num j)) (κ:=tuples' aj) pl.isList (by rw[len];exact h64) cmp λp' pm up=>?_;rw[len] at pm up
 let its':=p'.toList.map λi=>its.getD i (0,[],[])
 have perm:its'.Perm its:=Ds pm its rfl _;have pw:its'.Pairwise (λt u=>gZ t.2.1 u.2.1=aj):=tN pm up its _ _ λi j hi hj b=>by
  rcases b.2 with z | z
  ·exact z
  ·rcases o8 _ _ (ne i j hi hj (gq z)) with y | y
   ·exact y
   ·have b1:gZ (num j) (num i)=ao:=b.1;rw[b1] at y;cases y
 have ep:picked (its.map λt=>Value.ref t.1) p'=its'.map λt=>Value.ref t.1:=by
  unfold picked;rw[ju];apply tu;intro i hi;exact get i (xm.mp (pm.list.mem_iff.mp hi))
 rw[ep];obtain⟨c,at1⟩:=sortedAll_at s.heap (its.map λt=>Value.ref t.1) (its'.map λt=>Value.ref t.1).toArray;have rel:∀l:List Il,bU (l.map λt=>V.ref t.1) (l.map λt=>Value.ref t.1):=λl=>by
  induction l with
  |nil=>exact .nil
  |cons t r ih=>exact .cons rfl ih
 have hle:(its'.map λt=>V.ref t.1).length<=bv:=by rw[ke,bf,perm.length_eq];right
 exact⟨.ref (s.heap.objs.size+1),_,I.laid (t':=s.toks) (λb o e=>sortedAll_old e) (zc _) (show cK X.prog X.w _ _ _ (.lst _) from⟨hle,_,c,rel its',at1⟩),rfl,q its' perm pw _ (I.hok.fresh (zc _))⟩
theorem AV:fP X (.builtin "sorted") (λxs H Q=>∃(p:af) (ns:List Int),xs=[.ref p]/\gK X.K H p (ns.map V.int)/\ns.length<64 /\ ∀ms:List Int,ms.Perm ns->ms.Pairwise (· <= ·) -> ∀l,H l=ar->Q (.ref l) (upd H l (.lst (ms.map V.int)))):=by
 intro pk s σ H xs us Q I r h;obtain⟨p,ns,rfl,hl,h64,q⟩:=h;obtain⟨u,rfl,ru⟩:=kK r;cases ru;obtain⟨vs,rv,pl,hz⟩:=I.list hl;have ia:=qM rv;refine sorted_ints pl.isList ia (by rw[ia.length];exact h64) λout ms hi hp hs=>?_;obtain⟨c,at1⟩:=sortedAll_at s.heap vs out;have back:∀{us:List ah} {ns:List Int},uo us ns->bU (ns.map V.int) us:=λh=>by
  induction h with
  |nil=>exact .nil
  |cons a t _ ih=>exact .cons ⟨t,rfl⟩ ih
 have ea:out.toList.toArray=out:=by cases out;rfl
 have hle:(ms.map V.int).length<=bv:=by rw[ke,bf,hp.length_eq];right
 exact⟨.ref (s.heap.objs.size+1),_,I.laid (t':=s.toks) (λb o e=>sortedAll_old e) (zc _) (show cK X.prog X.w _ _ _ (.lst _) from⟨hle,out.toList,c,back hi,by rw[ea];exact at1⟩),rfl,q ms hp hs _ (I.hok.fresh (zc _))⟩
end L2
namespace Z
open L2
section
variable {pos:lv}
noncomputable def Nf:dE:=λ_ Q=>Q (.nw (.dit []))
theorem zK:QE X (.Dict [] [] pos) Nf:=
 ⟨λρ Q Q' w q=>w _ q,λHZ F=>cY Gj λσ H Q ⟨ρ,fr,q⟩ p hp=>q _ _ (aO.new' hp) ⟨p,rfl,hp,0,[],bS,.nil⟩⟩
noncomputable def B9(kvs:List (List cF×Dv))(k:List cF)(d:Dv):List (List cF×Dv):=
 if kvs.any (λkv=>decide (kv.1=k)) then kvs.map (λkv=>if kv.1=k then (kv.1,d) else kv) else kvs++[(k,d)]
theorem RepT.any{K:ap}{M:af->Prop}{H:Hp}{k:List cF}{xs:List (List cF×V)}{ds:List (List cF×Dv)}(r:RepT K M H xs ds):xs.any (λkv=>decide (kv.1=k))=ds.any (λkv=>decide (kv.1=k)):=
 r.ind (P:=λxs ds=>xs.any (λkv=>decide (kv.1=k))=ds.any (λkv=>decide (kv.1=k))) rfl λ_ _ _ _ _ _ _ ih=>by rw[tj,tj,ih]
theorem RepT.len{ds:List (List cF×Dv)}(r:RepT K M H xs ds):xs.length=ds.length:=r.ind (P:=λxs ds=>xs.length=ds.length) rfl λ_ _ _ _ _ _ _ ih=>congrArg (· + 1) ih
theorem RepT.snoc{k:List cF}{x:V}{d:Dv}(a:Rep K M H x d){ds:List (List cF×Dv)}(r:RepT K M H xs ds):RepT K M H (xs++[(k,x)]) (ds++[(k,d)]):=
 r.ind (P:=λxs ds=>RepT K M H (xs++[(k,x)]) (ds++[(k,d)])) (.cons a .nil) λ_ _ _ _ _ b _ ih=>.cons b ih
theorem RepT.repl{k:List cF}{x:V}{d:Dv}(a:Rep K M H x d){ds:List (List cF×Dv)}(r:RepT K M H xs ds):
  RepT K M H (xs.map λkv=>if kv.1=k then (kv.1,x) else kv) (ds.map λkv=>if kv.1=k then (kv.1,d) else kv):=
 r.ind (P:=λxs ds=>RepT K M H (xs.map λkv=>if kv.1=k then (kv.1,x) else kv) (ds.map λkv=>if kv.1=k then (kv.1,d) else kv)) .nil λk' _ _ _ _ b _ ih=>by
  rw[de,de];by_cases e:k'=k
  ·rw[ZE e,ZE e];exact .cons a ih
  ·rw[Zg e,Zg e];exact .cons b ih
theorem RepT.put{k:List cF}{x:V}{d:Dv}{ds:List (List cF×Dv)}(r:RepT K M H xs ds)(a:Rep K M H x d):RepT K M H (rX xs k x) (B9 ds k d):=by
 unfold rX B9;rw[r.any (k:=k)];split
 ·exact r.repl a
 ·exact r.snoc a
noncomputable def wX(i:Nat)(tk tv:dE):cD:=λE ρ=>match ρ[i]? with
 |some (.own a (.dit kvs))=>tv ρ λr=>tk ρ λkk=>∃k:List cF,kk.d=.tup (k.map kD)/\(r.free=aj/\kvs.length<CN)/\E.nx (ρ.set i (.own a (.dit (B9 kvs k r.d))))
 |_=>False
theorem B7{x:bw}{p1 p2:lv}{k:Expr}{tk:dE}(hu:X.A.units+1<jx)(hv:PE X (.Name x p1) (zA i))(hk:QE X k tk)(he:QE X e te)
  (hs:autoParam (ix e (aa (.Subscript (.Name x p1) k p2)) pos.line X.env=jo ao) c8._auto_1):QS X (.Assign [.Subscript (.Name x p1) k p2] e pos) (wX i tk te):=by
 refine⟨λE E' ρ w h=>?_,λHZ F=>dW (JR hu hv (hk.run HZ F) (he.run HZ F) hs) λD σ H ⟨ρ,E,fr,h,en⟩=>?_⟩
 ·unfold wX at *;split at h
  ·exact he.mono _ _ _ (λr q=>hk.mono _ _ _ (λkk zq0=>by obtain⟨k,a,b,c⟩:=zq0;exact⟨k,a,b,w.nx _ c⟩) q) h
  ·exact h
 ·unfold wX at h;split at h
  ·rename_i a kvs hx;refine he.step fr h λr y H1 q S1 r1=>?_;have fr1:=fr.mono S1;obtain⟨hs1,ep,vs,hv1,rv1⟩:=fr1.sl i _ hx;refine⟨_,hs1,hk.step fr1 q λkk z H2 q S2 rk=>?_⟩;obtain⟨ks,ek,⟨qf,ql⟩,q2⟩:=q;have ck:=rk.c;rw[ek] at ck;obtain⟨b,zs,rfl,eb,rb⟩:=ck.tup;have ez:zs=ks.map kV:=rb.keys;have rep:=(r1.rep (λa m=>fr.dom m) qf).mono S2;have hv2:=S2 _ _ hv1;refine⟨a,rfl,Ii.t hv2 (ez ▸ eb) (by rw[rv1.len];exact vY ql) λep2=>?_⟩;refine en.nx _ _ _ ((fr1.mono S2).write (d':=.dit (B9 kvs ks r.d)) hx ⟨_,_,bS,?_⟩) q2;have G:Gen X.K (MM F ρ) (MM F ρ) H2 (upd H2 a (.dT ep2 (rX vs ks y))):=Gen.write (.inr ⟨_,fh hx⟩) (by rw[hv2];trivial);exact((rv1.gen (.mono S2)).put rep).gen G
  ·exact h.elim
noncomputable def GL(i:Nat):cD:=λE ρ=>match ρ[i]? with
 |some (.own a (.lst _))=>E.nx (ρ.set i (.own a (.lst [])))
 |_=>False
noncomputable def Aw(i:Nat):cD:=λE ρ=>match ρ[i]? with
 |some (.own a (.lst xs))=>E.nx (ρ.set i (.own a (.lst xs.reverse)))
 |_=>False
noncomputable abbrev tI(t:List Int×List Dv):Dv:=.tup (t.1.map .int++t.2)
noncomputable def iV:List Dv->(R->Prop)->Prop
 | [.lst xs],Q=>(∃ns:List Int,xs=ns.map .int/\ns.length<64 /\ ∀ms:List Int,ms.Perm ns->ms.Pairwise (· <= ·)->Q (.nw (.lst (ms.map .int)))) \/
  ∃(ts:List (List Int×List Dv)) (k:Nat),xs=ts.map tI/\ts.length<64/\(∀t∈ts,t.1.length=k+1)/\ts.Pairwise (λt u=>t.1≠u.1) /\ ∀ts':List (List Int×List Dv),ts'.Perm ts->ts'.Pairwise (λt u=>gZ t.1 u.1=aj)->Q (.nw (.lst (ts'.map tI)))
 |_,_=>False
theorem Reps.fore{K:ap}{M:af->Prop}{H:Hp}:∀{ns:List Int} {xs:List V} {ds:List Dv},Reps K M H xs (ns.map .int++ds) -> ∃ys,xs=ns.map V.int++ys/\Reps K M H ys ds
 | [],xs,ds,r=>⟨xs,rfl,r⟩
 |n::ns,_,ds,.cons a r=>by
  obtain⟨ys,e,r'⟩:=Reps.fore (ns:=ns) r;cases a;exact⟨ys,by rw[e];rfl,r'⟩
theorem p7{β:Type}{f:α->β}{zs ws:List β}(hp:zs.Perm ws):∀{its:List α},its.map f=ws -> ∃jts:List α,jts.Perm its/\zs=jts.map f:=by
 induction hp with
 |nil=>intro its hz;exact⟨its,.refl _,hz.symm⟩
 |cons x p ih=>
  intro its hz;cases its with
  |nil=>cases hz
  |cons t r=>
   rw[de] at hz;injection hz with h1 h2;obtain⟨j,hj,e⟩:=ih h2;exact⟨t::j,hj.cons t,by rw[de,h1,e]⟩
 |swap x y l=>
  intro its hz
  match its,hz with
  |t::u::r,hz=>
   simp only[de,wu] at hz;obtain⟨h1,h2,h3⟩:=hz;exact⟨u::t::r,.swap _ _ _,by simp only[de,h1,h2,h3]⟩
 |trans p1 p2 ih1 ih2=>
  intro its hz;obtain⟨j,hj,e⟩:=ih2 hz;obtain⟨j2,hj2,e2⟩:=ih1 e.symm;exact⟨j2,hj2.trans hj,e2⟩
theorem pD:oU X (.builtin "sorted") iV:=by
 refine⟨λds Q Q' w h=>?_,_,AV.or AU,λM O H xs ds Q c h=>?_⟩
 ·unfold iV at *;split at h
  ·rcases h with⟨ns,a,b,q⟩ | ⟨ts,k,a,b,c,d,q⟩
   ·exact .inl ⟨ns,a,b,λms x y=>w _ (q ms x y)⟩
   ·exact .inr ⟨ts,k,a,b,c,d,λts' x y=>w _ (q ts' x y)⟩
  ·exact h
 ·unfold iV at h;split at h
  ·obtain⟨x,rfl,cx⟩:=fG c;obtain⟨a,ys,rfl,ea,ra⟩:=cx.lst;rcases h with⟨ns,rfl,hl,q⟩ | ⟨ts,k,rfl,hl,hk,hd,q⟩
   ·have ey:ys=ns.map V.int:=by
     have ra':Reps X.K M H ys (ns.map .int++[]):=by simpa using ra
     obtain⟨zs,e,r'⟩:=ra'.fore;cases r';simpa using e
    subst ey;exact .inl ⟨a,ns,rfl,gK.of ea,hl,λms hp hs l hl=>q ms hp hs _ _ (aO.new' hl) (kB hl (Reps.ints _))⟩
   ·-- what each item is,by its place
    have go:∀{ys:List V} {ts:List (List Int×List Dv)},Reps X.K M H ys (ts.map tI) -> ∃its:List (Il×List Dv),ys=its.map (λt=>V.ref t.1.1)/\ts=its.map (λt=>(t.1.2.1,t.2)) /\
      ∀t∈its,H t.1.1=aa (.tup (t.1.2.1.map V.int++t.1.2.2))/\Reps X.K M H t.1.2.2 t.2:=by
     intro ys ts r;induction ts generalizing ys with
     |nil=>cases r;exact⟨[],rfl,rfl,λt ht=>by cases ht⟩
     |cons t ts ih=>
      cases r with
      |cons u r=>
       obtain⟨its,e1,e2,e3⟩:=ih r;cases u with
       |tup hb rb=>
        obtain⟨zs,e,rz⟩:=rb.fore;subst e;refine⟨((_,t.1,zs),t.2)::its,by rw[e1];rfl,by rw[e2];rfl,λy hy=>?_⟩;rcases dm.mp hy with rfl | hy
        ·exact⟨hb,rz⟩
        ·exact e3 y hy
    obtain⟨its,rfl,rfl,al⟩:=go ra;refine .inr ⟨a,its.map (·.1),k,rfl,by rw[ju];exact gK.of ea,by simpa using hl,λt ht=>?_,?_,λits' hp hs l hl=>?_⟩
    ·obtain⟨u,hu,rfl⟩:=jh.mp ht;exact⟨pL.of (al u hu).1,hk _ (jh.mpr ⟨u,hu,rfl⟩)⟩
    ·rw[ir] at hd ⊢;exact hd
    ·-- bring the plain parts along
     obtain⟨jts,hj,rfl⟩:=p7 hp rfl;have rr:∀jts:List (Il×List Dv),(∀t∈jts,t∈its)->Reps X.K M H (jts.map λt=>V.ref t.1.1) ((jts.map λt=>(t.1.2.1,t.2)).map tI):=by
      intro jts;induction jts with
      |nil=>intro _;exact .nil
      |cons t r ih=>
       intro hm;have ht:=al t (hm t (dk ..));have one:Reps X.K M H (t.1.2.1.map V.int++t.1.2.2) (t.1.2.1.map .int++t.2):=(Reps.ints _).append ht.2;exact .cons (.tup ht.1 one) (ih λu hu=>hm u (dg _ hu))
     rw[ju];show Q _ (upd H l (.lst (jts.map λt=>V.ref t.1.1)));refine q (jts.map λt=>(t.1.2.1,t.2)) (hj.map _) ?_ _ _ (aO.new' hl) (kB hl (rr jts λt ht=>hj.mem_iff.mp ht));rw[ir] at hs ⊢;exact hs
  ·exact h.elim
end
variable {j:Int}
theorem Qr{i:Int}:(dG (.int i) (.int j) Q)=(Q (.v (.int (i+j)))):=rfl
theorem QR{i:Int}:(lF (.int i) (.int j) Q)=(Q (.v (.int (i-j)))):=rfl
theorem Qg{i:Int}:(gL (.int i) (.int j) Q)=(u7 i j/\Q (.v (.int (i*j)))):=rfl
theorem Qo{i:Int}:(nA (.int i) (.int j) Q)=((0<j/\j<2 ^ 200)/\Q (.v (.int (i / j)))):=rfl
theorem Ot{i:Int}:(sD (.int i) (.int j) Q)=((j≠0/\j.natAbs<2 ^ 4000)/\Q (.v (.int (i.fdiv j)))):=rfl
theorem Qh{i:Int}:(i6 (.int i) (.int j) Q)=(0<j/\Q (.v (.int (i % j)))):=rfl
theorem Oi{i:Int}:(Oj (.int i) (.int j) Q)=(j≠0/\Q (.v (.int (i.fmod j)))):=rfl
theorem QY{i:Int}:(Rs (.int i) (.int j) Q)=(Ij i j/\Q (.v (.int (i ^ j.toNat)))):=rfl
theorem Qq{xs ys:List Dv}:(dG (.lst xs) (.lst ys) Q)=((xs.length+ys.length<=CN/\Q (.nw (.lst (xs++ys))))):=rfl
theorem Qp{x y:bw}:(dG (.str x) (.str y) Q)=((x.length+y.length<=CN/\Q (.v (.str (x++y))))):=rfl
theorem Qf{xs:List Dv}{k:Int}:(gL (.lst xs) (.int k) Q)=(((-(2 ^ 63)<=k/\k<2 ^ 63/\xs.length*k.toNat<=CN)/\Q (.nw (.lst (aw k.toNat xs).flatten)))):=rfl
theorem SC{f:Int->Int->Bool}{i:Int}:(zS f (.int i) (.int j) Q)=(Q (.v (.bl (f i j)))):=rfl
theorem S8{d:Dv}:(S9 d .non Q)=(Q (.v (.bl (isN d)))):=rfl
theorem QZ{d:Dv}:(Og d .non Q)=(Q (.v (.bl (!isN d)))):=rfl
variable {b:Bool}
theorem SA{d:Dv}:(SB d (.bl b) Q)=(Q (.v (.bl (isB b d)))):=rfl
theorem Qa{d:Dv}:(Oh d (.bl b) Q)=(Q (.v (.bl (!isB b d)))):=rfl
theorem SD{i:Int}:(sP (.int i) (.int j) Q)=(Q (.v (.bl (decide (i=j))))):=rfl
theorem Rt{i:Int}:(y8 (.int i) (.int j) Q)=(Q (.v (.bl (!decide (i=j))))):=rfl
theorem SE{x:Bool}{d:Dv}:(sP (.bl x) d Q)=(((eJ 8 (.bl x)=aj/\eJ 8 d=aj)/\Q (.v (.bl (eqD (.bl x) d))))):=rfl
theorem Ru{x:Bool}{d:Dv}:(y8 (.bl x) d Q)=(((eJ 8 (.bl x)=aj/\eJ 8 d=aj)/\Q (.v (.bl (!eqD (.bl x) d))))):=rfl
theorem Qk{x:List Dv}{d:Dv}:(sP (.tup x) d Q)=(((eJ 8 (.tup x)=aj/\eJ 8 d=aj)/\Q (.v (.bl (eqD (.tup x) d))))):=rfl
theorem Qb{x:List Dv}{d:Dv}:(y8 (.tup x) d Q)=(((eJ 8 (.tup x)=aj/\eJ 8 d=aj)/\Q (.v (.bl (!eqD (.tup x) d))))):=rfl
theorem Qn{x:List Dv}{d:Dv}:(sP (.lst x) d Q)=(((eJ 8 (.lst x)=aj/\eJ 8 d=aj)/\Q (.v (.bl (eqD (.lst x) d))))):=rfl
theorem Qe{x:List Dv}{d:Dv}:(y8 (.lst x) d Q)=(((eJ 8 (.lst x)=aj/\eJ 8 d=aj)/\Q (.v (.bl (!eqD (.lst x) d))))):=rfl
theorem Ql{x:bw}{d:Dv}:(sP (.str x) d Q)=(((eJ 8 (.str x)=aj/\eJ 8 d=aj)/\Q (.v (.bl (eqD (.str x) d))))):=rfl
theorem Qc{x:bw}{d:Dv}:(y8 (.str x) d Q)=(((eJ 8 (.str x)=aj/\eJ 8 d=aj)/\Q (.v (.bl (!eqD (.str x) d))))):=rfl
theorem Qm{x:List Int}{d:Dv}:(sP (.scr x) d Q)=(((eJ 8 (.scr x)=aj/\eJ 8 d=aj)/\Q (.v (.bl (eqD (.scr x) d))))):=rfl
theorem Qd{x:List Int}{d:Dv}:(y8 (.scr x) d Q)=(((eJ 8 (.scr x)=aj/\eJ 8 d=aj)/\Q (.v (.bl (!eqD (.scr x) d))))):=rfl
theorem Tz{xs:List Dv}{i:Int}:(cV (.lst xs) (.int i) Q)=((match rA xs i with | some d=>Q (.v d) | none=>False)):=rfl
theorem Tw{xs:List Dv}{i:Int}:(cV (.tup xs) (.int i) Q)=((match rA xs i with | some d=>Q (.v d) | none=>False)):=rfl
theorem Tx{i:Int}:(cV (.scr ns) (.int i) Q)=((match rA ns i with | some n=>Q (.v (.int n)) | none=>False)):=rfl
variable {lo hi:Option Int}
theorem Tv{xs:List Dv}:(L8 (.lst xs) lo hi Q)=(Q (.nw (.lst (cut xs lo hi)))):=rfl
theorem Tu:(L8 (.scr ns) lo hi Q)=(Q (.nw (.lst ((cut ns lo hi).map .int)))):=rfl
theorem Tt{xs:List Dv}:(L8 (.tup xs) lo hi Q)=((¬(HT.i5 xs.length 0 lo=0/\HT.i5 xs.length xs.length hi=xs.length)/\Q (.v (.tup (cut xs lo hi))))):=rfl
theorem S0{xs:List Dv}:(d8 [(.lst xs)] Q)=(Q (.v (.int xs.length))):=rfl
theorem Ry{xs:List Dv}:(d8 [(.tup xs)] Q)=(Q (.v (.int xs.length))):=rfl
theorem Rz:(d8 [.scr ns] Q)=(Q (.v (.int ns.length))):=rfl
theorem SG{i:Int}:(F5 [.int i] Q)=(Q (.v (.int (if i<0 then -i else i)))):=rfl
theorem Rv{i:Int}:(vR [.int i,.int j] Q)=(Q (.v (.int (if j<i then j else i)))):=rfl
theorem Rx{i:Int}:(Ol [.int i,.int j] Q)=(Q (.v (.int (if j > i then j else i)))):=rfl
theorem Of{xs:List Dv}:(kA [.lst xs] Q)=(Q (.v (.tup xs))):=rfl
theorem Oe{xs:List Dv}:(kA [.tup xs] Q)=(Q (.v (.tup xs))):=rfl
theorem Qj{xs:List Dv}:(sC [.lst xs] Q)=(Q (.nw (.lst xs))):=rfl
theorem Qi{xs:List Dv}:(sC [.tup xs] Q)=(Q (.nw (.lst xs))):=rfl
theorem SF:(Gx [.lst ds] Q)=((∃bs:List Bool,ds=bs.map .bl/\Q (.v (.bl (bs.all _root_.id))))):=rfl
theorem Rr:(Gs [.lst ds] Q)=((∃ns:List Int,ds=ns.map .int/\Q (.v (.int ns.sum)))):=rfl
theorem Uq{d:Dv}:(R.d (.v d))=(d):=rfl
theorem Us{d:Dv}:(R.d (.nw d))=(d):=rfl
theorem Ur{d:Dv}:(R.d (.ow a d))=(d):=rfl
theorem Uf{d:Dv}:(R.out (.v d))=(.v d):=rfl
theorem Uh{d:Dv}:(R.out (.nw d))=(.nw d):=rfl
theorem Ug{d:Dv}:(R.out (.ow a d))=(.nw d):=rfl
theorem Ul{d:Dv}:(R.free (.v d))=(aj):=rfl
theorem Uo{d:Dv}:(R.free (.nw d))=(aj):=rfl
theorem Um{d:Dv}:(R.free (.ow a d))=(ao):=rfl
theorem Ui{d:Dv}:(R.flat (.v d))=(lJ d):=rfl
theorem Uk{d:Dv}:(R.flat (.nw d))=(IF d):=rfl
theorem Uj{d:Dv}:(R.flat (.ow a d))=(ao):=rfl
theorem T6{a:Bool}:(eqD (.bl a) (.bl b))=((a==b)):=by cases a<;>cases b<;>simp[eqD,gR,jb]
variable {ρ0:List Sl}{tt:nB}{acc:List Dv}
theorem iQ{g:Ac}:(eF ρ0 g tt te [] acc Q)=(Q (.nw (.lst acc))):=rfl
theorem LM{g:Ac}{d:Dv}{r:List Dv}:(eF ρ0 g tt te (d::r) acc Q)=((g d ρ0 λρ1=>tt ρ1 λb=>if b=aj then te ρ1 λv=>(v.free=aj/\acc.length<CN)/\eF ρ0 g tt te r (acc++[v.d]) Q else eF ρ0 g tt te r acc Q)):=rfl
theorem kU{xs:List α}{i:Int}(h0:0<=i)(h1:i<xs.length):rA xs i=xs[i.toNat]?:=by
 unfold rA uL;rw[ZE h0,ZE h1];rfl
theorem UJ{x:α}{r:List α}:rA (x::r) 0=aa x:=by rw[kU ∅ (by simp<;>right)];rfl
theorem UI{x y:α}{r:List α}:rA (x::y::r) 1=aa y:=by rw[kU ∅ (by simp<;>right)];rfl
theorem UH{x y z:α}{r:List α}:rA (x::y::z::r) 2=aa z:=by rw[kU ∅ (by simp<;>right)];rfl
theorem UG{x y z w:α}{r:List α}:rA (x::y::z::w::r) 3=aa w:=by rw[kU ∅ (by simp<;>right)];rfl
theorem UF{x y z w v:α}{r:List α}:rA (x::y::z::w::v::r) 4=aa v:=by rw[kU ∅ (by simp<;>right)];rfl
theorem Sn{c:Bool}:isB b (.bl c)=(c==b):=rfl
theorem Qs{i:Int}:isB b (.int i)=ao:=rfl
theorem U3:isN .non=aj:=rfl
theorem U6:isN (.bl b)=ao:=rfl
theorem U5{i:Int}:isN (.int i)=ao:=rfl
theorem U1{i:bw}:isN (.str i)=ao:=rfl
theorem U0{i:List Dv}:isN (.tup i)=ao:=rfl
theorem U4{i:List Dv}:isN (.lst i)=ao:=rfl
theorem U2{i:List (bw×Dv)}:isN (.obj C i)=ao:=rfl
theorem RD:rF (.bl b)=aa b:=rfl
theorem RA:rF .non=aa ao:=rfl
theorem RC{i:Int}:rF (.int i)=aa (i != 0):=rfl
theorem RB{xs:List Dv}:rF (.lst xs)=aa (!xs.isEmpty):=rfl
theorem R8{xs:List Dv}:rF (.tup xs)=aa (!xs.isEmpty):=rfl
theorem R9{xs:List Int}:rF (.scr xs)=aa (!xs.isEmpty):=rfl
theorem Sm:uL 1 0=aa 0:=rfl
theorem Sk:uL 2 0=aa 0:=rfl
theorem Sj:uL 2 1=aa 1:=rfl
theorem Si:uL 3 0=aa 0:=rfl
theorem Sh:uL 3 1=aa 1:=rfl
theorem Se:uL 3 2=aa 2:=rfl
theorem Sd:uL 4 0=aa 0:=rfl
theorem Sc:uL 4 1=aa 1:=rfl
theorem Sb:uL 4 2=aa 2:=rfl
theorem Sa:uL 4 3=aa 3:=rfl
theorem SZ:uL 5 0=aa 0:=rfl
theorem SY:uL 5 1=aa 1:=rfl
theorem SX:uL 5 2=aa 2:=rfl
theorem SW:uL 5 3=aa 3:=rfl
theorem SV:uL 5 4=aa 4:=rfl
theorem bK{lo:Int}:aV lo 0=[]:=rfl
theorem b7{lo:Int}:aV lo (n+1)=.int lo::aV (lo+1) n:=by
 unfold aV;rw[List.range_succ_eq_map,de,ju];congr 1
 ·simp
 ·apply tu;intro k _;show Dv.int _=Dv.int _;congr 1;show lo+((k+1:Nat):Int)=lo+1+k;right
theorem Os{i:Int}:(BP (.int i) (.int j) Q)=(Q (.v (.int (i+j)))):=rfl
theorem On{i:Int}:(Oo (.int i) (.int j) Q)=(Q (.v (.int (i-j)))):=rfl
theorem Op{i:Int}:(Oq (.int i) (.int j) Q)=(u7 i j/\Q (.v (.int (i*j)))):=rfl
theorem CB{xs:List α}{k:Int}(h0:0<=k):cut xs (aa k) ar=xs.drop k.toNat:=by
 unfold cut;have e:HT.i5 xs.length 0 (aa k)=min k.toNat xs.length:=by show (if k<0 then _ else _)=_;rw[Zg ⋯]
 rw[e,HT.Az];rcases Z3 k.toNat xs.length with h | h
 ·rw[pi h];exact pf (by rw[VX];exact bt _)
 ·rw[Xo h,Vw (bt _),Vw h,List.take_nil]
theorem DU{xs:List α}{k:Int}(h0:0<=k):cut xs ar (aa k)=xs.take k.toNat:=by
 unfold cut;have e:HT.i5 xs.length xs.length (aa k)=min k.toNat xs.length:=by show (if k<0 then _ else _)=_;rw[Zg ⋯]
 rw[e,HT.Az,List.drop_zero,Nat.sub_zero];rcases Z3 k.toNat xs.length with h | h
 ·rw[pi h]
 ·rw[Xo h,pf (bt _),pf h]
theorem O0{d:Dv}:Lh a N (d::ds)=.own a d::(ds.map .v++aw (N.length-(ds.length+1)) .un):=rfl
theorem QU{i:Int}:(Gv (.int i) (.int j) Q)=(Ij i j/\Q (.v (.int (i*2 ^ j.toNat)))):=rfl
theorem y7(h:ns.length<64)(q:∀ms:List Int,ms.Perm ns->ms.Pairwise (· <= ·)->Q (.nw (.lst (ms.map .int)))):iV [.lst (ns.map .int)] Q:=.inl ⟨ns,rfl,h,q⟩
theorem y6{ts:List (List Int×List Dv)}{k:Nat}(h:ts.length<64)(hk:∀t∈ts,t.1.length=k+1)(hd:ts.Pairwise (λt u=>t.1≠u.1))
  (q:∀ts':List (List Int×List Dv),ts'.Perm ts->ts'.Pairwise (λt u=>gZ t.1 u.1=aj)->Q (.nw (.lst (ts'.map tI)))):iV [.lst (ts.map tI)] Q:=.inr ⟨ts,k,rfl,h,hk,hd,q⟩
theorem Hm:∀{a b:List cF},a.map kD=b.map kD->a=b
 | [],[],_=>rfl
 | [],_::_,h=>by cases h
 |_::_,[],h=>by cases h
 |a::r,b::t,h=>by
  rw[de,de] at h;injection h with h1 h2;have e:a=b:=by cases a<;>cases b<;>first | (injection h1 with h1;rw[h1]) | cases h1
  rw[e,Hm h2]
theorem S7{kvs:List (List cF×Dv)}{a b:Int}:(cV (.dit kvs) (.tup [.int a,.int b]) Q)=(match kvs.find? (λkv=>decide (kv.1=[jc a,jc b])) with | some kv=>Q (.v kv.2) | none=>False):=by
 apply propext;constructor
 ·rintro⟨k,e,h⟩;have:k=[jc a,jc b]:=Hm (e.symm.trans rfl);subst this;exact h
 ·exact λh=>⟨[jc a,jc b],rfl,h⟩
end Z
namespace Sf
structure Rw where
 x:Int
 y:Int
 m:Int
noncomputable def Rw.up(r:Rw):Prop:=0<r.y \/ (r.y=0/\0<r.x)
noncomputable def crs(a b:Rw):Int:=a.x*b.y-b.x*a.y
noncomputable def place(v:Rw)(rows:List Rw):Nat:=rows.countP λr=>decide (0<crs r v)
noncomputable def uU(rows:List Rw):Prop:=rows.Pairwise λa b=>0<crs a b
structure Pre(s:Int)(rows:List Rw):Prop where
 srt:uU rows
 ok:∀r∈rows,r.up /\ -s<=r.x/\r.x<=s/\r.y<=s/\1<=r.m
noncomputable def many(rows:List Rw):Int:=(rows.map (·.m)).sum
structure Good(rows:List Rw):Prop where
 lo:2<=rows.length
 hi:rows.length<=6
 srt:uU rows
 ok:∀r∈rows,r.up /\ -999999999999<=r.x/\r.x<=999999999999/\r.y<=999999999999/\1<=r.m
 tot:many rows<=12
noncomputable def bG:Nat->List Rw->List Int
 |_,[]=>[]
 |k,r::rs=>aw r.m.toNat (k:Int)++bG (k+1) rs
noncomputable abbrev aJ(rows:List Rw):List Int:=bG 0 rows
end Sf
namespace L2
section
variable {D:Ends}{Q:VK}{t u:TS}{te ta tb tc:TE}{g:TG}
end
end L2
namespace Z
open L2
theorem Ee(h:∀Q:R->Prop,Q (.v (.bl aj))->sp [.scr ns] Q)(hO:Ih H)(hT:yU K H)(hS:gK K H a (ns.map V.int)):low K sp [.ref a] H (λv _=>v=.bl aj) (λ_ _ _=>False):=by
 refine⟨λ_=>False,[.scr ns],⟨λ_ z=>z.elim,hT⟩,.cons (.scr ?_) .nil,h _ λx H' S r=>?_⟩
 ·rcases hS with(h | h) | h
  ·rcases hO a with z | ⟨o,xs,z⟩
   ·rw[z] at h;cases h
   ·rw[z] at h;cases h
  ·exact .inl h
  ·exact .inr h
 ·have r':Rep K (λ_=>False) H' x (.bl aj):=r;cases r';rfl
end Z
namespace L2
end L2
namespace Z
open L2
end Z
namespace L2
variable {it:af}{ep:Nat}{es:Array lj}{Q:Option ah->ai->Prop}
structure Ent(h:dq)(d:af)(es:Array lj)(ep:Nat):Prop where
 at_:∃o,h.get? d=aa o/\o.ExactDict/\o.data=.dict es ep
theorem E7{d:af}{en:lj}(k:s.heap.IsKeyIter it d i n ep)(g:Ent s.heap d es ep)(hn:es.size=n)(he:es[i]?=aa en)
  (q:∀h',h'.IsKeyIter it d (i+1) n ep->oz it s.heap h'->Q (aa en.key) { s with heap:=h' }):bu (cf prog w) A (sv (.ref it)) Q E s:=by
 obtain⟨⟨od,gd,_,dd⟩⟩:=g;obtain⟨oi,gi,ci,fi⟩:=id k;have up:(s.heap.update it (qb (·.setIfInBounds 1 (sh ((i:Int)+1))))).IsKeyIter it d (i+1) n ep:=
  ⟨_,og _ gi (sk (xn fi _)),(zb ..).trans ci,by rw[xn fi];simp[sh]⟩
 have fin:=q _ up (xf ..);unfold sv;refine ae (lx (gm (name:=im "__next__") k.typeIs ji (gf ji k.typeIs wq (ae (ak (ae (ae ?a)))) (wj _))));refine ae (md k.typeIs (ak (ae (Yr gi fi ?b))));rw[show (if wx "dict_keyiterator" = aj then 2 else 0)=0 by decide];show bu _ _ (ite ((Value.ref d==gg)=aj) _ _) _ _ s;rw[Zg (by exact λz=>nomatch z)];refine ae (ak (ae (ss gd dd ?c)));rw[Zg (by rw[hn];simp)];refine ae (ak (ae (VB gd dd ?d)));rw[Zg (by simp)];refine ak ?e;simp only[show ¬((i:Int)<0) by right,ite_false,br,he];refine ae (ae (md k.typeIs (ak (ae (VH k.typeIs ?f)))));show bu _ _ (Z6 (.ref it) 1 (sh ((i:Int)+1)) >>= _) _ _ s;refine ae (nj gi fi (by simp) (ae (jf (ae (VH (s:={ s with heap:=s.heap.update it (qb (·.setIfInBounds 1 (sh ((i:Int)+1)))) }) up.typeIs ?g)))));show bu _ _ (jo en.key) _ _ _;exact ak (ak ⟨_,rfl,ak fin⟩)
theorem Hj{d:af}(qu:Qu A s.heap)(k:s.heap.IsKeyIter it d i n ep)(g:Ent s.heap d es ep)(hn:es.size=n)(hi:n<=i)
  (q:∀h',wo it s.heap h'->Q ar { s with heap:=h' }):bu (cf prog w) A (sv (.ref it)) Q E s:=by
 obtain⟨⟨od,gd,_,dd⟩⟩:=g;obtain⟨oi,gi,ci,fi⟩:=id k;have he:es[i]?=ar:=Array.getElem?_eq_none ⋯;unfold sv;refine ae (lx (gm (name:=im "__next__") k.typeIs ji (gf ji k.typeIs wq (ae (ak (ae (ae ?a)))) (wj _))));refine ae (md k.typeIs (ak (ae (Yr gi fi ?b))));rw[show (if wx "dict_keyiterator" = aj then 2 else 0)=0 by decide];show bu _ _ (ite ((Value.ref d==gg)=aj) _ _) _ _ s;rw[Zg (by exact λz=>nomatch z)];refine ae (ak (ae (ss gd dd ?c)));rw[Zg (by rw[hn];simp)];refine ae (ak (ae (VB gd dd ?d)));rw[Zg (by simp)];refine ak ?e;simp only[show ¬((i:Int)<0) by right,ite_false,br,he];refine ae (ae (md k.typeIs (ak ?f)));show bu _ _ (Z6 (.ref it) 0 .none >>= _) _ _ s;have ne:∀b u,n6 u->s.heap.get? b=aa u->b≠it:=λb u m gb z=>by
  subst z;rw[gi] at gb;cases gb;obtain⟨us,du,z2⟩:=m;rw[fi] at du;cases du;simp at z2
 refine ae (nj gi fi (by simp) (k7 (qu.keeps λb u m z=>(fc _ _ (Ne.symm (ne b u m z))).trans z) λh' e kk ⟨oe,ge,ce⟩=>?_));exact ae (jm (T:="StopIteration") (b:=aj) ⟨oe,ge,ce⟩ sw (ak (q _ λb u hb z=>kk b u ((fc _ _ (Ne.symm hb)).trans z))))
theorem E8{d:af}{Q:ah->ai->Prop}(hd:(d==jj)=ao)(g:Ent s.heap d es ep)
  (q:Q (.ref s.heap.objs.size) { s with heap:=s.heap.push { cls:=.type "dict_keyiterator",data:=.fields #[.ref d,.int 0 0,.int es.size 0,.int ep 0] } }):bu (cf prog w) A (Zr (.ref d)) Q E s:=by
 obtain⟨⟨od,gd,ex,dd⟩⟩:=g;have ty:s.TypeIs (.ref d) "dict" := ⟨od,gd,ex.1⟩;refine wpAny_pyIter_slot ty Xp (gf Xp ty F.entry_dict_iter (ae (show bu _ _ (yy _ _) _ _ s from ?a)) (F.args_dict_iter_1 _));unfold yy;refine ae (VI ty (show bu _ _ (jo (Value.ref d)) _ _ s from ak (show bu _ _ (VJ d >>= _) _ _ s from ae ?b)));unfold VJ;rw[Zg (by rw[hd];exact jl)];refine ak (ae (ss gd dd (ae (VB gd dd (ae (ik (ak ⟨_,rfl, "dict_keyiterator",_,⟨_,cm _ rfl,rfl⟩,ji.lookup,?c⟩)))))));simpa [sh] using q
noncomputable def Tg(a:af)(ep n:Nat):It:=
 ⟨λi H=>∃kvs,H a=aa (.dT ep kvs)/\kvs.length=n/\i<n,λi H x H'=>H'=H /\ ∀kvs,H a=aa (.dT ep kvs) -> ∃p b,kvs[i]?=aa p/\x=.ref b/\H b=aa (.tup (p.1.map kV)),λi H=>∃kvs,H a=aa (.dT ep kvs)/\kvs.length=n/\n<=i⟩
theorem Dx{α β:Type}{F:α->β->Prop}:∀{l:List α} {m:List β},Paired F l m -> ∀{i:Nat} {p:α},l[i]?=aa p -> ∃q,m[i]?=aa q/\F p q
 |_,_,.nil,i,p,h=>by simp at h
 |_,_,.cons r t,0,p,h=>by
  simp only[qj,jd] at h;subst h;exact⟨_,rfl,r⟩
 |_,_,.cons r t,i+1,p,h=>Dx t (i:=i) (by simpa using h)
theorem BE{α β:Type}{F:α->β->Prop}:∀{l:List α} {m:List β},Paired F l m->l.length=m.length
 |_,_,.nil=>rfl
 |_,_,.cons _ t=>congrArg (· + 1) (BE t)
theorem DR(ok:cK P w H h a (.dT ep kvs)):
  ∃es:Array lj,Ent h a es ep/\es.size=kvs.length/\(a==jj)=ao /\ ∀(i:Nat) (p:List cF×V),kvs[i]?=aa p -> ∃(en:lj) (b:af),es[i]?=aa en/\en.key=.ref b/\H b=aa (.tup (p.1.map kV)):=by
 obtain⟨_,hd,xs,r,o,es,g,ex,dd,he,_⟩:=ok;refine⟨es,⟨⟨o,g,ex,dd⟩⟩,?_,hd,λi p hp=>?_⟩
 ·rw[VC he];exact(BE r).symm
 ·obtain⟨q,hq,h1,h2,_⟩:=Dx r hp;exact⟨_,q.2.1,by rw[entry_at he,hq];rfl,rfl,h2⟩
theorem EY(a it:af)(ep n:Nat):Turn P w K tg (Tg a ep n) [it] it (λi h=>h.IsKeyIter it a i n ep) where
 mem:=re _
 obj:=λi h st b hb=>by
  obtain rfl:=fe.mp hb;obtain⟨o,e,c,d⟩:=st;exact⟨o,e,λv z=>by rw[d] at z;cases z⟩
 keep:=λi h h' st k=>st.at λo e=>k it (re _) o e
 item:=by
  rintro X rfl rfl rfl hc i pk s σ H E I hf st ⟨kvs,e,hl,hi⟩;obtain⟨es,g,hz,hd,at_⟩:=DR (I.hok a _ e);obtain⟨p,hp⟩:∃p,kvs[i]?=aa p:=⟨kvs[i]'⋯,au _⟩;obtain⟨en,b,h1,h2,h3⟩:=at_ i p hp;obtain⟨f0,f1,f2,f3,f4,f5⟩:=hf it (re _);refine E7 st g (hz.trans hl) h1 λh' st' sb=>?_;have I1:Inv X pk σ H { s with heap:=h' }:=I.turned (t':=s.toks) (λc o hb e=>(sb.2 c hb).trans e) f0 f1 f3 f4 f5;obtain⟨o,e1,c,d⟩:=id st';exact⟨_,rfl,Bs (s:={ s with heap:=h' }) e1 c d ∅ ⟨.ref b,H,I1,h2,⟨rfl,λkvs' e'=>⟨p,b,by rw[e] at e';cases e';exact hp,rfl,h3⟩⟩,st',λb hb=>(hf b hb).1⟩⟩
 done:=by
  rintro X rfl rfl rfl hc i pk s σ H E I hf st ⟨kvs,e,hl,hi⟩;obtain⟨es,g,hz,hd,at_⟩:=DR (I.hok a _ e);obtain⟨f0,f1,f2,f3,f4,f5⟩:=hf it (re _);exact Hj I.qu st g (hz.trans hl) hi λh' eb=>⟨rfl,I.turned (t':=s.toks) (λb o hb e=>eb b o hb e) f0 f1 f3 f4 f5⟩
 self:=λ_ _ _ _ _ st h=>W3 st h
noncomputable def N3(tl:TE):TI:=λσ H R=>tl σ H λx H1=>∃a ep kvs,x=.ref a/\H1 a=aa (.dT ep kvs)/\R (Tg a ep kvs.length) H1
theorem JV{l:Expr}{tl:TE}(hl:PE X l tl):PI X tg l (N3 tl):=by
 intro pk s σ H R I h;refine thn (hl pk s σ H _ I h) λv s1 zz=>?_;obtain⟨x,H1,I1,r1,a,ep,kvs,e,ea,q⟩:=zz;subst e;cases r1;obtain⟨es,g,hz,hd,_⟩:=DR (I1.hok a _ ea);refine E8 hd g ?_;refine⟨s1.heap.objs.size,[s1.heap.objs.size],_,_,H1,rfl,I1.kept (t':=s1.toks) λb o e=>aq _ e,EY a _ ep kvs.length,⟨_,cm _ rfl,rfl,by rw[hz];rfl⟩,λb hb=>?_,q⟩;obtain rfl:=fe.mp hb;exact I1.fpOk (bt _) (I1.hok.fresh (bt _))
end L2
namespace Z
open L2
theorem Reps.ofKeys{K:ap}{M:af->Prop}{H:Hp}:∀k:List cF,Reps K M H (k.map kV) (k.map kD)
 | []=>.nil
 | .inl i::r=>.cons (.int i) (Reps.ofKeys r)
 | .inr x::r=>.cons (.str x) (Reps.ofKeys r)
noncomputable abbrev Hk(kv:List cF×Dv):Dv:=.tup (kv.1.map kD)
variable {ds:List (List cF×Dv)}
theorem RepT.key(r:RepT K M H xs ds):xs.map (·.1)=ds.map (·.1):=
 r.ind (P:=λxs ds=>xs.map (·.1)=ds.map (·.1)) rfl λ_ _ _ _ _ _ _ ih=>by rw[de,de,ih]
theorem yF{P:Hp}{ep:Nat}(hP:P a=aa (.dT ep xs))(r:RepT K M H1 xs ds):
  wS K P M H1 (Tg a ep xs.length) (ds.map Hk) []:=by
 intro i H' M' S G _;have h':=S _ _ hP;have hl:=r.len;refine⟨λd e=>?_,λh=>⟨xs,h',rfl,by rw[bf] at h;right⟩⟩;rw[dh] at e;cases ed:ds[i]? with
 |none=>rw[ed] at e;cases e
 |some q=>
  rw[ed] at e;cases e;have hi:=(cg.mp ed).1;refine⟨⟨xs,h',rfl,⋯⟩,λy H'' zz=>?_⟩;obtain⟨e1,e2⟩:=zz;subst e1;obtain⟨p,b,hp,rfl,hb⟩:=e2 xs h';have k1:(xs.map (·.1))[i]?=aa p.1:=by rw[dh,hp];rfl
  rw[r.key,dh,ed] at k1;have k2:q.1=p.1:=Option.some.inj k1;rw[Hk,k2];exact⟨aO.refl _,.tup hb (Reps.ofKeys _)⟩
noncomputable def EE(tl:dE):xM:=λρ Q=>tl ρ λr=>match r with
 | .v (.dit kvs)=>Q (kvs.map Hk) []
 | .nw (.dit kvs)=>Q (kvs.map Hk) []
 |_=>False
section
variable {l:Expr}{tl:dE}
theorem JD(h:QE X l tl):QI X tg l (EE tl):=by
 refine⟨λρ Q Q' w q=>h.mono _ _ _ (λr q=>?_) q,λHZ F=>⟨_,JV (h.run HZ F),λσ H ρ R fr q=>?_⟩⟩
 ·unfold EE at *;split at q<;>first | exact w _ _ q | exact q
 ·refine h.step fr q λr x H1 q S1 r1=>?_;have fr1:=fr.mono S1;split at q
  ·rename_i ds;cases r1 with
   |dit e m rs=>exact⟨_,_,_,rfl,e,q _ H1 S1 (by intro p hp;simp at hp) (yF (by rw[cL λc=>m (.inr c)];exact e) rs)⟩
  ·rename_i ds;obtain⟨a,rfl,n,ep,xs,e,rs⟩:=r1;exact⟨_,_,_,rfl,e,q _ H1 S1 (by intro p hp;simp at hp) (yF (by rw[cL λc=>fr.fresh n (.inr c)];exact e) (rs.gen (.weak λb z=>.inl z)))⟩
  ·exact q.elim
noncomputable def Hy(kvs:List (List cF×Dv))(k:List cF):Bool:=kvs.any λkv=>decide (kv.1=k)
noncomputable def Rm(neg:Bool):R2:=λx y H Q=>∃a o,y=.ref a/\wU H a x o/\Q (.bl (if neg then !o.isSome else o.isSome)) H
theorem MY(hu:X.A.units+1<jx):lQ X (fv .In) (Rm ao):=by
 intro pk s σ H x y v u Q I rx ry h;obtain⟨a,o,rfl,g,q⟩:=h;cases ry;exact TV hu I g rx λs' I'=>⟨.bl o.isSome,H,I',rfl,q⟩
noncomputable def F2:Dv->Dv->(R->Prop)->Prop
 | .tup ds,.dit kvs,Q=>∃k:List cF,ds=k.map kD/\Q (.v (.bl (Hy kvs k)))
 |_,_,_=>False
theorem RepT.has{k:List cF}(r:RepT K M H xs ds):(nG xs k).isSome=Hy ds k:=by
 have h:=r.val (k:=k);unfold Hy;cases e:ds.find? (λkv=>decide (kv.1=k)) with
 |none=>
  rw[h.2 e];have:=WH.mp e;symm;rw[Option.isSome_none,ze];exact this
 |some kv=>
  obtain⟨x,hx,_⟩:=h.1 kv e;rw[hx];symm;rw[WE,List.any_eq_true];exact⟨kv,yz e,by have:=XZ (p:=λkv:List cF×Dv=>decide (kv.1=k)) e;exact this⟩
theorem zT(hu:X.A.units+1<jx):xO X (fv .In) F2:=by
 refine⟨λdx dy Q Q' w h=>?_,_,MY hu,λM O H x y dx dy Q cx cy h=>?_⟩
 ·unfold F2 at *;split at h
  ·exact⟨h.choose,h.choose_spec.1,w _ h.choose_spec.2⟩
  ·exact h
 ·unfold F2 at h;split at h
  ·obtain⟨k,rfl,q⟩:=h;obtain⟨b,ys,rfl,eb,rb⟩:=cx.tup;obtain rfl:=rb.keys;obtain⟨a,ep,kvs,rfl,ea,ra⟩:=cy.dit;refine⟨a,_,rfl,wU.t ea eb,?_⟩;rw[Zg ∅,ra.has];exact q _ H (aO.refl _) (Rep.bl _)
  ·exact h.elim
end
end Z
namespace HT
open PySem PyProof.Rows
section
open PySem.SeqAt
open PySem.AutoSeq1 (wpAny_loadPart')
open PySem.MeetsSeq PySem.MeetsSeq2 PySem.MeetsSeq3
end
end HT
namespace L2
end L2
namespace Z
open L2
section
variable {o:Expr}{to:dE}{ZQ:lv}
end
end Z
namespace L2
end L2
namespace Z
open L2
section
variable {o:Expr}{to tg tp:dE}{ZQ:lv}
end
end Z
namespace L2
variable {h':dq}
theorem cK.at{o:HO}(x:cK P w H h a o):∃ob,h.get? a=aa ob:=by
 cases o with
 |lst xs=>obtain⟨_,_,_,_,e⟩:=x;exact⟨_,e⟩
 |tup xs=>obtain⟨_,_,_,_,e,_⟩:=x;exact⟨_,e⟩
 |dK kvs=>obtain⟨_,_,_,_,o,_,_,e,_⟩:=x;exact⟨_,e⟩
 |dT ep kvs=>obtain⟨_,_,_,_,o,_,e,_⟩:=x;exact⟨_,e⟩
 |set S n=>obtain⟨o,_,_,_,e,_⟩:=x;exact⟨_,e⟩
 |ins C dx fs=>obtain⟨_,_,_,e,_⟩:=x;exact⟨_,e⟩
 |own y=>exact x
 |xd fs=>obtain⟨_,⟨_,_,_,e,_⟩,_⟩:=x;exact⟨_,e⟩
 |lam q=>obtain⟨_,e,_⟩:=x;exact⟨_,e⟩
 |cod q=>obtain⟨_,_,_,_,e,e2,_⟩:=x;cases e;exact⟨_,e2⟩
 |rng lo hi=>obtain⟨_,_,_,e⟩:=x;exact⟨_,e⟩
 |frz ob u=>obtain⟨e,_⟩:=x;exact⟨_,e⟩
 |tbl ps=>exact⟨_,(show h.get? a=aa _ from x)⟩
 |met f y=>exact⟨_,(show h.get? a=aa _ from x)⟩
 |ext φ=>obtain⟨_,e,_⟩:=x;exact e
theorem lR.out(x:lR P w H h)(e:h.get? a=ar):H a=ar:=by
 cases q:H a with
 |none=>rfl
 |some u=>
  obtain⟨o,z⟩:=(x a u q).at;rw[e] at z;cases z
noncomputable abbrev LK:List ah:=[.type "ValueError",.type "Exception",.type "BaseException",.type "object"]
noncomputable def DY(K:ap)(C:af):Prop:=ZB K C LK "ValueError.__new__" = aj
theorem DY.cls(X:K.In h)(q:DY K C):∃bm N nm qn bs hd sn sub ab col dd k0 k1 k2 k3 k5 mN,
  h.get? C=aa (excClassObj nm qn C N bs bm hd sn sub ab col dd k0 k1 k2 k3 k5 "ValueError.__new__")/\h.Ns N mN/\mN "__init__" = ar/\OwnTail h LK bm:=by
 unfold DY ZB at q;split at q
 ·rename_i dd cd sl ho;split at q
  ·rename_i C1 bm a0 a1 a2 a3 n a5 hm hs;rw[dt,dt,dt,dt,dt] at q;obtain⟨⟨⟨⟨⟨e1,e2⟩,e3⟩,e4⟩,e5⟩,e6⟩:=q;cases beq_iff_eq.mp e1;cases beq_iff_eq.mp e2;cases cd with
   |mk nm bs mro ns qn hd sn sub ab col del=>
    dsimp only at hm e3 e5 e6;cases hm;have dz:del=ao:=by cases del<;>simp_all
    cases dz;cases sl with
    |mk l=>
     dsimp only at hs;cases hs;exact⟨bm,ns,nm,qn,bs,hd,sn,sub,ab,col,dd,a0,a1,a2,a3,a5,_,X _ _ ho,.of_isNs (W.isNs_of_in X e5),W.nsMap_none_of_in X e5 (beq_iff_eq.mp e6),W.tail_of_in X e4⟩
  ·cases q
 ·cases q
noncomputable def iT(P:ay)(w:bz):Fy:=λouter H s E e s'=>∃(a:af) (o:jv) (C:af) (H':Hp) (B:dq),e=.ref a/\s'.os=s.os/\xh s'.gens/\Un (frs outer) [] H H' s.heap s'.heap/\lR P w H' s'.heap /\
 Fly B outer a o .none s'.heap/\(∀b o,s'.heap.get? b=aa o->b ∉ frs outer->(H' b≠ar \/ ∃u,s.heap.get? b=aa u)->B.get? b=aa o)/\s.heap.get? a=ar/\H' a=ar/\E (.ref C) o.dict H'/\o.cls=.ref C/\n6 o
section
variable {fs:List af}{h0 h1 h2 B:dq}
theorem Un.fly(u:Un fs [] H H' h0 h1)(k:∀b o,h1.get? b=aa o->b ∉ fs->(H' b≠ar \/ ∃u,h0.get? b=aa u)->B.get? b=aa o)(hB:B.StaysIn h2)
  (sl:∀b∈fs,∀o,h1.get? b=aa o -> ∃z,h2.get? b=aa { o with slots:=z }):Un fs [] H H' h0 h2 where
 keep:=λb o e n hb hx=>hB b o (k b o (u.keep b o e n hb hx) hb (.inr ⟨_,e⟩))
 slot:=λb o e n hb hx=>by
  obtain⟨z,q⟩:=u.slot b o e n hb hx;obtain⟨z',q'⟩:=sl b hb _ q;exact⟨z',q'⟩
 free:=u.free
 there:=λb o e hx=>by
  obtain⟨o',q⟩:=u.there b o e hx;by_cases hb:b∈fs
  ·obtain⟨z,q'⟩:=sl b hb _ q;exact⟨_,q'⟩
  ·exact⟨_,hB b o' (k b o' q hb (.inr ⟨_,e⟩))⟩
 tups:=u.tups
 frzs:=u.frzs
 tbls:=u.tbls
theorem lR.fly(x:lR P w H' h1)(nf:∀b∈fs,H' b=ar)(k:∀b o,h1.get? b=aa o->b ∉ fs->(H' b≠ar \/ ∃u,h0.get? b=aa u)->B.get? b=aa o)(hB:B.StaysIn h2):lR P w H' h2:=λb o e=>
 (x b o e).stay (λc v hc q=>by
  have hn:H' c≠ar:=by
   rcases hc with z | z
   ·rw[z,e];simp
   ·rw[z];simp
  exact hB c v (k c v q (λm=>hn (nf c m)) (.inl hn))) (λ_ q=>q) (λ_ _ q=>q) λ_ _ q=>q
end
section
variable {cd:ah}{s0:ai}{H0:Hp}{E:XK}
theorem Io{us:List ah}(I:Inv (cN (iT P w) P w K mg base N ZG ZF f cd A outer s0 H0 E) pk σ H s)(m:Ys s.heap h' a (.ref C) us)
  (hE:E (.ref C) ar H):(cN (iT P w) P w K mg base N ZG ZF f cd A outer s0 H0 E).xe (.ref a) { s with heap:=h' }:=by
 have hin:∀env∈(cN (iT P w) P w K mg base N ZG ZF f cd A outer s0 H0 E).stack,∀b,env.frame=aa b->b∈frs (cN (iT P w) P w K mg base N ZG ZF f cd A outer s0 H0 E).stack:=λenv he b hb=>xv.mpr ⟨env,he,hb⟩;obtain⟨t,ge,_,_⟩:=m.there;have nb:(Wd s.heap (frs (cN (iT P w) P w K mg base N ZG ZF f cd A outer s0 H0 E).stack)).get? a=ar:=by
  cases q:(Wd s.heap (frs (cN (iT P w) P w K mg base N ZG ZF f cd A outer s0 H0 E).stack)).get? a with
  |none=>rfl
  |some o'=>
   have:=WL _ q;rw[m.new] at this;cases this
 refine IE (base:=Wd s.heap (frs (cN (iT P w) P w K mg base N ZG ZF f cd A outer s0 H0 E).stack)) I.ok.frames ((W.funFrames_hide I.stack hin).of_keeps λb o hb _=>⟨o,m.keeps b o hb,rfl⟩) rfl (λb o q=>m.keeps b o (WL _ q)) nb ge rfl rfl λh2 x1 x4=>?_;have fs:∀b,b∈frs (cN (iT P w) P w K mg base N ZG ZF f cd A outer s0 H0 E).stack->b=(sy ZG ZF s0.heap.objs.size f cd).locals \/ b∈frs outer:=λb hb=>dm.mp (I.stkSub b hb);have k1:∀b o,s.heap.get? b=aa o->b ∉ frs outer->(H b≠ar \/ ∃u,s0.heap.get? b=aa u)->(Wd s.heap (frs (cN (iT P w) P w K mg base N ZG ZF f cd A outer s0 H0 E).stack)).get? b=aa o:=λb o e nb hc=>by
  refine YC _ e λhm=>?_;rcases fs b hm with z | z
  ·rcases hc with hc | ⟨u,hu⟩
   ·exact hc (I.stkFree b hm)
   ·have:b<s0.heap.objs.size:=bg hu;have h2:s0.heap.objs.size<=b:=by rw[z];exact I.ok.above
    exact absurd (fj this h2) (qg _)
  ·exact nb z
 have sl:∀b∈frs outer,∀o,s.heap.get? b=aa o -> ∃z,h2.get? b=aa { o with slots:=z }:=λb hb o e=>by
  obtain⟨_,o',q,nf⟩:=I.funs.mem hb;rw[e] at q;cases q;exact x4 b o (m.keeps b o e) nf
 refine⟨a,_,C,H,_,rfl,I.os,I.bare,Un.fly I.base k1 x1.st sl,lR.fly (fs:=frs outer) I.hok (λb hb=>?_) k1 x1.st,x1,λb o e nb hc=>?_,?_,I.hok.out m.new,hE,rfl,⟨_,rfl,rfl⟩⟩
 ·obtain⟨_,o,q,_⟩:=I.ok.funs.mem hb;exact I.base.free b o q (I.ok.frf b hb) (λz=>nomatch z)
 ·have:∃o',s.heap.get? b=aa o':=by
   rcases hc with hc | ⟨u,hu⟩
   ·cases q:H b with
    |none=>exact(hc q).elim
    |some v=>exact(I.hok b v q).at
   ·exact I.base.there b u hu (λz=>nomatch z)
  obtain⟨o',q⟩:=this;have q1:=k1 b o' q nb hc;have q2:=x1.st b o' q1;rw[e] at q2;cases q2;exact q1
 ·cases q:s0.heap.get? a with
  |none=>rfl
  |some o=>
   obtain⟨o',q'⟩:=I.base.there a o q (λz=>nomatch z);rw[m.new] at q';cases q'
end
variable {np:lv}
section
variable {x:bw}{t:TA}{pos:lv}
theorem GX{Ψ:Hp->Prop}(hh:X.A.handled=ar)(hm:X.mg x=aa (.ref C))(hg:Gl X x)(q:DY X.K C)(ha:PA X (e::es) t)
  (hx:∀(pk:List (af×jv)) (σ:St) (H:Hp) (s:ai) (h':dq) (a:af) (us:List ah),Inv X pk σ H s->Ys s.heap h' a (.ref C) us->Ψ H->X.xe (.ref a) { s with heap:=h' })
  (hdb:autoParam ((x==("__debug__" : bw))=ao) lS._auto_1) (he:autoParam (av (e::es) X.env=(ao,gn e X.env)::av es X.env) c8._auto_1) (hpl:autoParam ((iu ZN (av es X.env)).any (·.1)=ao) c8._auto_1):
  PS X (.Raise (aa (.Call (.Name x np) (e::es) [] ZN)) ar pos) (λ_ σ H=>t σ H λvs H1=>vs.length<=bv/\Ψ H1):=by
 intro pk s σ H D I h;obtain⟨bm,N,nm,qn,bs,hd,sn,sub,ab,col,dd,a0,a1,a2,a3,a5,mN,c1,c2,c3,c4⟩:=q.cls I.ok.mod.kin;refine wpAny_Raise_call_subT (N:=N) (bm:=bm) (C:=C) (q:=qn) (nm:=nm) (bs:=bs) (sn:=sn) (hdct:=hd) (sub:=sub) (col:=col) (ab:=ab) (dd:=dd) (k5:=a5) (k0:=a0) (k1:=a1) (k2:=a2) (k3:=a3) PySem.F.excBase_ValueError (mN:=mN) (c4.hasType rfl) hh ?_ c3 (mR I hg hm ⟨rfl,?_⟩ hdb)
 ·rw[he];show (ao || (iu ZN (av es X.env)).any (·.1))=ao;rw[hpl];rfl
 ·have h1:=ha ZN pk s σ H _ I h;rw[he] at h1 ⊢;refine VY (gv h1 (λus s1 z=>?_) λ_ _ z=>z);obtain⟨vs,H1,I1,r,l,p⟩:=z;exact⟨rfl,by rw[<- r.length];exact l,I1.bk _ _ c1,c2.keeps I1.bk,c4.keeps I1.bk,λh' a m=>hx pk σ H1 s1 h' a us I1 m p⟩
end
noncomputable abbrev Cx.inx(X:Cx)(a:af):Cx:={ X with A:=X.A.mark (aa (.ref a)),calm:=ao,xe:=λ_ _=>False,hs:=a::X.hs }
variable {M:Vy}{Q:Unit->ai->Prop}{n:bw}
theorem Cx.Ok.inx(ok:X.Ok)(a:af):(X.inx a).Ok:=
 ⟨ok.mod,ok.kind,ok.glob,ok.blt,ok.above,ok.inj,ok.has,ok.cab,(λz=>nomatch z),ok.frames,ok.stk,ok.exf,ok.bs,ok.bsz,ok.noex,ok.exfs,ok.funs,ok.frf,.inr ⟨a,dk,rfl⟩⟩
theorem Inv.inx(I:Inv X pk σ H s)(a:af)(m:∃o u,H a=aa (.frz o u)/\n6 o):Inv (X.inx a) pk σ H s:=⟨I.ok.inx a,I.os,I.bare,I.base,I.loc,I.cell,I.free,I.freeC,I.pin,I.hok,I.len,λb hb=>(dm.mp hb).elim (λe=>e ▸ m) (I.mild b)⟩
theorem Inv.outx(ok:X.Ok)(I:Inv (X.inx a) pk σ H s):Inv X pk σ H s:=⟨ok,I.os,I.bare,I.base,I.loc,I.cell,I.free,I.freeC,I.pin,I.hok,I.len,λb hb=>I.mild b (dg _ hb)⟩
theorem Inv.goes{pos:lv}(I:Inv X pk σ H s)(hN:X.N.Nodup)(hi:X.N[i]?=aa n)(hk:X.env.scope.names.lookup n=aa .local)
  (h:∀s',Inv X pk (σ.set i ar) H s'->Q () s'):bu M A (do bindName X.env n .none;unbindBehindTheSuite X.env n pos) Q E s:=by
 obtain⟨m,hn,hl⟩:=id I.loc;have hcls:(X.env.scope.kind == .class || (X.env.scope.kind == .module&&X.env.locals != X.env.globals))=ao:=by rw[I.ok.kind];rfl
 refine wpAny_nameGoes_keeps hk hn hcls λh' v hn' hs=>h _ ?_;have old:∀b o,X.s₀.heap.get? b=aa o->h'.get? b=s.heap.get? b:=λb o e=>hs.2 b (gq (fj (bg e) I.ok.above));refine⟨I.ok,I.os,I.bare,⟨λb o e n hb hx=>?_,λb o e n hb hx=>?_,I.base.free,λb o e hx=>?_,I.base.tups,I.base.frzs,I.base.tbls⟩,⟨_,hn',λj y v' e1 e2 e3=>?_⟩,λy c e=>?_,I.free,I.freeC,λp hp=>?_,λb ob e=>?_,by simpa using I.len,I.mild⟩
 ·exact(old b o e).trans (I.base.keep b o e n hb hx)
 ·obtain⟨sl,q⟩:=I.base.slot b o e n hb hx;exact⟨sl,(old b o e).trans q⟩
 ·obtain⟨o',q⟩:=I.base.there b o e hx;exact⟨o',(old b o e).trans q⟩
 ·have ne:i≠j:=λz=>by
   subst z;by_cases hl2:i<σ.length
   ·rw[jw hl2] at e2;cases e2
   ·rw[lf (by simpa using ng hl2)] at e2;cases e2
  rw[gc ne] at e2;obtain⟨u,r,q⟩:=hl j y v' e1 e2 e3;have yn:y≠n:=λz=>ne (vU hN hi (z ▸ e1));refine⟨u,r,?_⟩;rcases q with⟨k,q⟩ | ⟨k,c,q,z⟩
  ·exact .inl ⟨k,by simp[yn,q]⟩
  ·exact .inr ⟨k,c,q,z.sameBut hs (I.cne y c q)⟩
 ·obtain⟨w',z⟩:=I.cell y c e;exact⟨w',z.sameBut hs (I.cne y c e)⟩
 ·obtain⟨e,q,ne,nf,d⟩:=I.pin p hp;exact⟨(hs.2 p.1 ne).trans e,q,ne,nf,d⟩
 ·refine(I.hok b ob e).stay (λc w' hc q=>(hs.2 c ?_).trans q) (λ_ q=>q) (λ_ _ q=>q) λ_ _ q=>q;rintro rfl;rcases hc with rfl | hc
  ·rw[I.free] at e;cases e
  ·rw[I.free] at hc;cases hc
variable {b0:kh}{hb:List kh}{a05:lv}{th:TS}{C0 C1:af}
section
variable {s1 s2:ai}{E:XK}{e:ah}{D:Ends}
noncomputable abbrev Ends.goes(D:Ends)(i:Nat):Ends:={ nx:=λσ H=>D.nx (σ.set i ar) H,rt:=D.rt,bk:=λσ H=>D.bk (σ.set i ar) H,ct:=λσ H=>D.ct (σ.set i ar) H }
theorem caught{c:bw}{ZI:List ExceptHandler}(I1:Inv X pk σ H1 s1)(cx:iT X.prog X.w X.stack H1 s1 E e s2)
  (hN:X.N.Nodup) (hi:X.N[i]?=aa n) (hk:X.env.scope.names.lookup n=aa .local) (hst:X.stack=X.env::X.outer) (hfr:X.env.frame=aa X.env.locals) (hg:Gl X c) (hm:X.mg c=aa (.ref C1))
  (hx:X3 X.K (.ref C0) (.ref C1)=aa aj)
  (hE:∀C dd H',E (.ref C) dd H'->C=C0 /\ ∀a o,H' a=ar->o.cls=.ref C0->o.dict=dd->n6 o->th (D.goes i) (σ.set i (aa (.ref a))) (upd H' a (.frz o (.own a))))
  (ZR:∀a,uW (X.inx a) (b0::hb) th) (hdb:autoParam ((c==("__debug__" : bw))=ao) lS._auto_1):
  bu (cf X.prog X.w) X.A (V3 e X.env) (λ_ s3=>bu (cf X.prog X.w) X.A (YD e ar) (λ_ s4=>
   bu (cf X.prog X.w) X.A (handleBy e X.env (.ExceptHandler (aa (.Name c np)) (aa n) (b0::hb) a05::ZI)) (SP X pk D) X.xe s4) X.xe s3) X.xe s2:=by
 obtain⟨a,o0,C,H',B,rfl,os,bare,un,hok,fl,k,na,nH,hE',hc0,hm0⟩:=cx;obtain⟨rfl,go⟩:=hE C _ H' hE';have ff:X.A.frames=aa (X.env::X.outer):=by rw[<- hst];exact I1.ok.frames
 have nfr:∀b∈frs X.stack,H' b=ar:=λb hb=>by
  obtain⟨_,o,q,_⟩:=I1.stack.mem hb;exact un.free b o q (I1.stkFree b hb) (λz=>nomatch z)
 have sl:∀{h:dq},s2.heap.UpToSlots h -> ∀b∈frs X.stack,∀o,s2.heap.get? b=aa o -> ∃z,h.get? b=aa { o with slots:=z }:=λ{h} u b hb o e=>by
  obtain⟨_,o1,q,nf⟩:=I1.stack.mem hb;obtain⟨z,q2⟩:=un.slot b o1 q (I1.stkFree b hb) hb (λz=>nomatch z);rw[e] at q2;cases q2;exact u b _ e nf
 have inv:∀h,B.StaysIn h->s2.heap.UpToSlots h->Inv X pk σ H' { s2 with heap:=h }:=λh hB u=>
  I1.call' os (un.fly k hB (sl u)) (lR.fly hok nfr k hB) bare (λ_ z=>nomatch z)
 rw[hst] at fl;refine Bv ff hfr fl λh4 hl4 u4=>?_;refine pB hl4 λh5 hl5 u5=>?_;have I5:=inv h5 hl5.st (u4.trans u5);obtain⟨o5,he5,lk5⟩:=hl5.there;have hc5:o5.cls=.ref C:=lk5.cls.trans hc0;have nu:∀b u,H' b=aa u->b≠a:=λb u e z=>by rw[z,nH] at e;cases e
 have invx:∀h oh,B.StaysIn h->s2.heap.UpToSlots h->h.get? a=aa oh->Inv X pk σ (upd H' a (.frz oh (.own a))) { s2 with heap:=h }:=λh oh hB u g=>by
  have un6:=un.fly k hB (sl u);refine I1.call' os (ch:=[]) ⟨un6.keep,un6.slot,λb o e n hx=>?_,un6.there,λb xs e=>?_,λb o u e=>?_,λb ps e=>?_⟩ (λb u' e=>?_) bare (λ_ z=>nomatch z)
  ·rw[bB (λz=>by rw[z,na] at e;cases e)];exact un6.free b o e n hx
  ·rw[bB (nu b _ (un6.tups b xs e))];exact un6.tups b xs e
  ·rw[bB (nu b _ (un6.frzs b o u e))];exact un6.frzs b o u e
  ·obtain⟨m,q⟩:=un6.tbls b ps e;exact⟨m,by rw[bB (nu b _ q)];exact q⟩
  ·by_cases hb:b=a
   ·subst hb;rw[bS] at e;cases e;exact⟨g,_,g⟩
   ·rw[bB hb] at e;exact((inv h hB u).hok b u' e).stay (λ_ _ _ q=>q) (λc q=>by rw[bB (nu c _ q)];exact q) (λc xs q=>by rw[bB (nu c _ q)];exact q) λc xs q=>by rw[bB (nu c _ q)];exact q
 have I5x:=(invx h5 o5 hl5.st (u4.trans u5) he5).inx a ⟨o5,_,bS,lk5.mild hm0⟩;refine wpAny_handleBy_cons (codeAny_handlers_test (mR (X:=X.inx a) I5x hg hm ?_ hdb)) (λz=>nomatch z);have LT:wl (cf X.prog X.w) h5 (Xi (.ref a)) (.ref C):=hc5 ▸ (Zu he5).andThen .now;refine(W.exm_one I5.kIn LT hx).here (codeAny_handlers_suite_as ?_);refine pB hl5 λh6 hl6 u6=>?_;obtain⟨o6,he6,lk6⟩:=hl6.there;have hc6:o6.cls=.ref C:=lk6.cls.trans hc0;have I7:=invx h6 o6 hl6.st ((u4.trans u5).trans u6) he6;refine rM (X:=X.inx a) (v:=.ref a) (I7.inx a ⟨o6,_,bS,lk6.mild hm0⟩) hN hi (.inl hk) rfl (λs7 I8=>?_) (.inr hk);refine gv (ZR a pk s7 _ _ (D.goes i) I8 (go a o6 nH hc6 lk6.dict (lk6.mild hm0))) (λf s8 q=>?_) λ_ _ z=>z.elim;cases f with
 |next=>
  obtain⟨σ',H'',I9,q⟩:=q;exact(I9.outx I1.ok).goes hN hi hk λs9 I10=>⟨_,_,I10,q⟩
 |brk=>
  obtain⟨σ',H'',I9,q⟩:=q;exact(I9.outx I1.ok).goes hN hi hk λs9 I10=>⟨_,_,I10,q⟩
 |cont=>
  obtain⟨σ',H'',I9,q⟩:=q;exact(I9.outx I1.ok).goes hN hi hk λs9 I10=>⟨_,_,I10,q⟩
 |ret u=>
  obtain⟨v,σ',H'',I9,r,q⟩:=q;exact(I9.outx I1.ok).goes hN hi hk λs9 I10=>⟨v,_,_,I10,r,q⟩
end
variable {fd:jy}{sp:Sp}
section
variable {k:Nat}{x:bw}{epos pos:lv}{t:TA}
theorem M5{c:bw}{a03:List kh}{to:TS}(hno:∀e s,¬X.xe e s)(F:FnOk X.prog X.w X.K X.mg X.base (iT X.prog X.w) k f fd ps sp)(hr:Room k X.A)(hg:Gl X x)
  (hm:X.mg x=aa (.ref f)) (hkp:qi X.K (.ref f)=aj) (hbd:iL X.K fd ps []) (ha:PA X (e::es) t)
  (hN:X.N.Nodup) (hi:X.N[i]?=aa n) (hk:X.env.scope.names.lookup n=aa .local) (hst:X.stack=X.env::X.outer) (hfr:X.env.frame=aa X.env.locals) (hgc:Gl X c) (hmc:X.mg c=aa (.ref C1))
  (hx:X3 X.K (.ref C0) (.ref C1)=aa aj) (ZR:∀a,uW (X.inx a) (b0::hb) th) (hel:uW X a03 to)
  (hdb:autoParam ((x==("__debug__" : bw))=ao) lS._auto_1) (hdc:autoParam ((c==("__debug__" : bw))=ao) lS._auto_1) (he:autoParam (av (e::es) X.env=(ao,gn e X.env)::av es X.env) c8._auto_1) (hpl:autoParam ((iu ZN (av es X.env)).any (·.1)=ao) c8._auto_1)
  (hs:autoParam (ix (.Call (.Name x p) (e::es) [] ZN) ar epos.line X.env=jo ao) c8._auto_1):
  PS X (.Try [.Expr (.Call (.Name x p) (e::es) [] ZN) epos] [.ExceptHandler (aa (.Name c np)) (aa n) (b0::hb) a05] a03 [] pos)
   (λD σ H=>t σ H λvs H1=>sp vs H1 (λ_ H2=>to D σ H2) (λcv dd H2=>∀C,cv=.ref C->C=C0 /\ ∀a o,H2 a=ar->o.cls=.ref C0->o.dict=dd->n6 o->th (D.goes i) (σ.set i (aa (.ref a))) (upd H2 a (.frz o (.own a))))):=by
 intro pk s σ H D I h;refine wpAny_Try_except (V7 (VT (nr (mR I hg hm ?_ hdb)) I.quiet hs));refine xi (h₀:=X.base) I.ok.mod.kin hkp (gv (ha ZN pk s σ H _ I h) (λus s1 z=>?_) λe s z=>(hno e s z).elim) he hpl;obtain⟨vs,H1,I1,r,q⟩:=z;refine⟨I1.kIn,?_⟩;have hl:us.length=ps.length:=by rw[<- r.length];exact F.len _ _ _ _ q
 have hb1:=hbd s1 us I1.kIn (by rw[ic];exact hl);rw[ic] at hb1;refine xx (qz (F.run X.A X.stack s1 H1 ⟨us,[]⟩ us vs _ _ hr I1.env0 hb1 r q) λr s2 hq=>?_);cases r with
 |error e=>
  dsimp only[CR] at hq;exact caught I1 hq hN hi hk hst hfr hgc hmc hx (λC dd H' z=>z C rfl) ZR hdc
 |ok fl=>
  cases fl with
  |ret u=>
   obtain⟨v,H2,I2,_,q2⟩:=I1.after hq;exact wr (hel pk s2 σ H2 D I2 q2)
  |next=>exact ii hq
  |brk=>exact ii hq
  |cont=>exact ii hq
end
structure ExcI(K:ap)(C:af):Prop where
 cls:Xq K C=aj
 ga:jr K (.ref C) "__getattribute__" = aa (aa (.builtin "BaseException.__getattribute__"))
 gt:jr K (.ref C) "__getattr__" = aa ar
 be:WQ K C (.type "BaseException")=aa aj
 ca:jr K (.ref C) "__class__" = aa (aa (.builtin "object.__class__"))
 sp:VV K (.builtin "object.__class__") "__get__" = aa (aa (.builtin "getset_descriptor.__get__"))
 tk:Xf K (.builtin "object.__class__")=aa aj
 ob:WQ K C (.type "object")=aa aj
noncomputable def wR(x C:af)(h:dq):Prop:=∃o,h.get? x=aa o/\o.cls=.ref C
section
open PySem.Calls PySem.Builtin PySem.Builtin.ObjectAttr PySem.Builtin.Getset_descriptor
variable {x:af}
theorem wR.ty(o:wR x C h):wl M h (Xi (.ref x)) (.ref C):=by
 obtain⟨ox,e,c⟩:=o;rw[<- c];exact(Zu e).andThen .now
theorem Bl{a g:ah}(X:K.In h)(ha:jr K (.ref C) n=aa (aa a))(hg:VV K a "__get__" = aa (aa g))(ht:Xf K a=aa aj):
  wl M h (find (.ref x) (.ref C) n) (.bind g a):=by
 have l1:=xw (M:=M) X ha;have l2:wl M h (getOf (aa a)) (aa g):=W.looks_specialIn X hg;have l3:wl M h (dataDescriptor? (aa a) (aa g)) (aa (g,a)):=(W.looks_takesIn (M:=M) X ht).andThen .now;exact l1.andThen (l2.andThen (l3.andThen (wl.tag .now)))
theorem AT{R:YT->ai->Prop}{tp:ah}(X:K.In s.heap)(o:wR x C s.heap)(hm:WQ K C (.type "object")=aa aj)(hR:R (.ok (.ret (.ref C))) s):
  zf (cf prog w) A (.call (.builtin "getset_descriptor.__get__") ⟨[.builtin "object.__class__",.ref x,tp],[]⟩) R s:=by
 obtain⟨hp,ge,dr,tk,os⟩:=s;have l0:wl (cf prog w) hp (Xi (.ref x)) (.ref C):=o.ty;have l1:=Wt (M:=cf prog w) X hm;refine W4 Z4.plain W.KF.entry_gs (Z4.check _ _ _ _ _ _ _ _ W.KF.type_class (W.KF.args_gs _ _ _) ?_);unfold sr.«getset_descriptor.__get__»;unfold descrGet;rw[W.dga_obj];refine ae (ak ?_);unfold descrGetter;unfold descrCheckInstance;unfold descrNameAndClass;unfold xq;simp only[W.KF.owner_class]
 repeat lk
 refine⟨Code.quiet_builtin _ (by decide +kernel),VD W.KF.entry_class ?_⟩;unfold sr.«object.__class__»;unfold shownTypeOf
 repeat lk
 exact hR
theorem IB{R:Fin->ai->Prop}{tk:ZD}(X:K.In s.heap)(o:wR x C s.heap)(c:ExcI K C)(hR:R (.done (.ret (.ref C))) s):bu (cf prog w) A (sr.«object.__getattribute__» ⟨[.ref x,.str "__class__" tk],[]⟩) R E s:=by
 obtain⟨hp,g,d,t,os⟩:=s;have l0:wl (cf prog w) hp (Xi (.ref x)) (.ref C):=o.ty;have l3:=Bl (M:=cf prog w) (x:=x) X c.ca c.sp c.tk;unfold sr.«object.__getattribute__»;refine ae (ak (ae (ak (ae (l0.at (ae (l3.at ?_)))))));show bu _ _ (bindTo _ _ _ _) _ _ _;unfold bindTo;refine ae (jf (xx (AT X o c.ob ?_)));exact ak hR
theorem IC{nv:ah}(X:K.In s.heap)(o:wR x C s.heap)(c:ExcI K C)(hQ:Q () s):bu (cf prog w) A (Xr "BaseException.__getattribute__" ⟨[.ref x,nv],[]⟩) Q E s:=by
 obtain⟨hp,g,d,t,os⟩:=s;have l0:wl (cf prog w) hp (Xi (.ref x)) (.ref C):=o.ty;have l4:=Wt (M:=cf prog w) X c.be;have k1:builtinKind "BaseException.__getattribute__" = aa .slot:=by decide +kernel
 have k2:splitId "BaseException.__getattribute__" = aa ("BaseException", "__getattribute__"):=by decide +kernel
 have k3:=PySem.F.args_bexc_ga (.ref x) nv;simp only[Xr,k1,k2];refine ae ?_;unfold xq;refine ae (l0.at (l4.at ?_))
 repeat (any_goals (first | assumption | wp_step))
theorem wQ{Q:Option ah->ai->Prop}(X:K.In s.heap)(o:wR x C s.heap)(c:ExcI K C)(hQ:Q (aa (.ref C)) { s with toks:=s.toks+1 }):bu (cf prog w) A (getAttr? (.ref x) "__class__") Q E s:=by
 obtain⟨hp,g,d,t,os⟩:=s;have l0:wl (cf prog w) hp (Xi (.ref x)) (.ref C):=o.ty;have l1:=xw (M:=cf prog w) X c.ga;have l2:=xw (M:=cf prog w) X c.gt;have l4:=Wt (M:=cf prog w) X c.be;have ne:(Ws "BaseException.__getattribute__" == Ws "object.__getattribute__")=ao:=by decide +kernel
 unfold getAttr?;unfold getAttrBy?;unfold getAttrBy;refine ae (wpAny_mkText (ae (lx (jf (ae (l0.at (ae (l1.at ?_))))))));dsimp only;rw[ne,VZ,Zg jl];unfold getAttrByItsOwn;unfold hookBefore;rw[ZE (show onTheHeap (Value.ref C)=aj from rfl)];refine ae (l2.at ?_);refine ae (lx (jf ?_));unfold callGetattribute;rw[Zg (by simp)];unfold boundAndCalled;refine ae (wpAny_of_eq (Ve.ga.bind (.ref x)) ?_);refine xx (W4 Ve.ga.plain PySem.F.entry_bexc_ga ?_);refine IC X o c (IB X o c ?_);exact W.handed_on rfl (ak hQ)
theorem E6(c:ExcI K C):W.KitX K (.ref x) (.ref C) (wR x C) where
 ty:=λ_ _ _ o=>o.ty
 it:=λ_ _ X _=>by
  have cl:=c.cls;unfold Xq W.clsIn at cl;split at cl
  ·rename_i ho;intro A1 Q1 E1 s1 kp z;unfold isType loadHead;exact ae (Yd (kp _ _ (X _ _ ho)) (ak z))
  ·cases cl
 ne:=λh tp dd its m sl X htp=>by
  have cl:=c.cls;refine Bool.eq_false_iff.mpr λz=>?_;have e:C=tp:=Value.ref.inj (beq_iff_eq.mp z);subst e;unfold Xq W.clsIn at cl;split at cl
  ·rename_i ho;cases (X _ _ ho).symm.trans htp
  ·cases cl
 ca:=λX o k=>wQ X o c k
end
noncomputable def ON(K:ap):List V->Hp->VK->Prop:=λxs H Q=>∃(a C C':af) (o:jv) (u:HO) (b:Bool),xs=[.ref a,.ref C']/\H a=aa (.frz o u)/\o.cls=.ref C/\ExcI K C/\rg K (.ref C) (.ref C')=aa b/\Q (.bl b) H
theorem Fv:fP X (.builtin "isinstance") (ON X.K):=by
 intro pk s σ H xs us Q I r h;obtain⟨a,C,C',o,u,b,rfl,ha,hc,ci,kb,q⟩:=h;obtain⟨u1,u2,rfl,r1,r2⟩:=Aj r;cases r1;cases r2;obtain⟨ho,_⟩:=(show cK X.prog X.w H s.heap a (.frz o u) from I.hok a _ ha);exact ot (E6 ci) I.kIn ⟨o,ho,hc⟩ kb (λz=>nomatch z) λtk=>⟨.bl b,H,I.tok tk,rfl,q⟩
section
variable {k:Nat}{E:XK}{x:bw}{pos:lv}{t:TA}
end
end L2
namespace Z
open L2
noncomputable abbrev yX:=af×Option Int
noncomputable abbrev yW:=List Dv->(R->Prop)->(yX->Prop)->Prop
inductive lowX(K:ap)(sp:yW)(vs:List V)(H:Hp)(Q:VK)(E:XK):Prop
 |mk (F:af->Prop) (ds:List Dv) (Ψ:yX->Prop) (hF:OldF K F H) (r:Reps K F H vs ds) (q:sp ds (λr=>∀x H',aO H H'->eI K F yV H x r H'->Q x H') Ψ) (hE:∀C p dd H',Ψ (C,p)->aO H H'->u0 H' p dd->E (.ref C) dd H')
structure MonoX(sp:yW):Prop where
 mo:∀ds (Q Q':R->Prop) (Ψ Ψ':yX->Prop),(∀r,Q r->Q' r)->(∀C,Ψ C->Ψ' C)->sp ds Q Ψ->sp ds Q' Ψ'
structure DefX(P:ay)(w:bz)(K:ap)(mg:bw->Option ah)(base:dq)(k:Nat)(x:bw)(ps:List bw)(sp:Sp):Prop where
 ex:∃f fd,mg x=aa (.ref f)/\qi K (.ref f)=aj/\iL K fd ps []/\FnOk P w K mg base (iT P w) k f fd ps sp
structure QxS(X:Cx)(HZ:Hp)(F:af->Prop)(st:kh)(t:cD):Prop where
 mono:∀E E' ρ,EnLe E E'->t E ρ->t E' ρ
 run:PS X st (liftS X.K HZ F t)
structure QxB(X:Cx)(HZ:Hp)(F:af->Prop)(sts:List kh)(t:cD):Prop where
 mono:∀E E' ρ,EnLe E E'->t E ρ->t E' ρ
 run:uW X sts (liftS X.K HZ F t)
variable {st:kh}
section
variable {sts a b:List kh}{t u:cD}{c:Expr}{tc:nB}{pos:lv}
theorem QS.x(h:QS X st t):QxS X HZ F st t:=⟨h.mono,h.run HZ F⟩
theorem QSs.x(h:QSs X sts t):QxB X HZ F sts t:=⟨h.mono,h.run HZ F⟩
theorem Ai(h:QxS X HZ F st t):QxB X HZ F [st] t:=⟨h.mono,Dq h.run⟩
theorem uX(h1:QxS X HZ F st t)(h2:QxB X HZ F sts u):QxB X HZ F (st::sts) (aU t u):=by
 refine⟨λE E' ρ w h=>h1.mono _ _ _ (w.with_nx λρ h=>h2.mono _ _ _ w h) h,uV (BA h1.run h2.run) λD σ H z=>?_⟩;obtain⟨ρ,E,fr,h,en⟩:=z;exact⟨ρ,_,fr,h,λρ' σ' H' fr' h'=>⟨ρ',E,fr',h',en⟩,en.bk,en.ct,en.rt⟩
theorem Nj(hc:QT X c tc)(ha:QxB X HZ F a t)(hb:QxB X HZ F b u):QxS X HZ F (.If c a b pos) (jN tc t u):=by
 refine⟨λE E' ρ w h=>hc.mono _ _ _ (λk q=>?_) h,dW (L5 (hc.run HZ F) ha.run hb.run) λD σ H z=>?_⟩
 ·cases k with
  |true=>exact uC (ha.mono _ _ _ w (by simpa using q))
  |false=>exact uD (hb.mono _ _ _ w (by simpa using q))
 ·obtain⟨ρ,E,fr,h,en⟩:=z;refine hc.step fr h λk H1 q S1=>?_;cases k with
  |true=>exact uC ⟨ρ,E,fr.mono S1,by simpa using q,en⟩
  |false=>exact uD ⟨ρ,E,fr.mono S1,by simpa using q,en⟩
end
noncomputable def zG(Ψ:yX->Prop)(C:af)(ts:lU):cD:=λ_ ρ=>ts ρ λrs=>rs.length<=1000/\Ψ (C,ar)
theorem kH.len{K:ap}{M:af->Prop}{O:af->Dv->Prop}{H H':Hp}:∀{xs:List V} {rs:List R},kH K M O H xs rs H'->xs.length=rs.length
 |_,_,.nil=>rfl
 |_,_,.cons _ t=>by rw[cj,cj,kH.len t]
section
variable {cd:ah}{s0:ai}{H0:Hp}{E:XK}
end
theorem At.okX{k:Nat}{x nm:bw}{sp:yW}{t:(yX->Prop)->cD}(a:At K mg x nm st ps)(S:FnScope N ps (aI st))
  (hq:∀(f:af) (cdv:ah) (A:dj) (outer:List za) (s:ai) (H:Hp) (E:XK) (F:af->Prop) (Ψ:yX->Prop),Room k (A.deeper (sy nm (aI st) s.heap.objs.size f cdv))->(∀C p dd H',Ψ (C,p)->aO H H'->u0 H' p dd->E (.ref C) dd H') ->
   QxB (cN (iT P w) P w K mg base N nm (aI st) f cdv A outer s H E) H F (eL st) (t Ψ))
  (len:∀ds Q Ψ,sp ds Q Ψ->ds.length=ps.length) (hsp:∀ds Q Ψ,sp ds Q Ψ->t Ψ ↥Q (aM N ds)):DefX P w K mg base (k+1) x ps (lowX K sp):=by
 obtain⟨f,fd,hm,F,hb⟩:=a.ex;obtain⟨oc,od,kV,doc,pm,an,cdv,ct,osl,rfl,lk,hcd⟩:=F.ex;refine⟨f,_,hm,F.kp,hb,LG lk hcd S (λvs H Q E z=>?_) λA outer s H vs Q E hr z=>?_⟩
 ·obtain⟨F,ds,Ψ,hF,r,q,hE⟩:=z;rw[r.length];exact len _ _ _ q
 ·obtain⟨F,ds,Ψ,hF,r,q,hE⟩:=z;exact⟨_,(hq f cdv A outer s H E F Ψ hr hE).run,aM N ds,_,As hF r,hsp ds _ Ψ q,λρ σ H' fr q=>q .non H' fr.same Rep.non,λ_ _ _ _ z=>z.elim,λ_ _ _ _ z=>z.elim,λrr x H' S rx q=>q x H' S rx⟩
noncomputable abbrev En.goes(E:En)(i:Nat):En:={ nx:=λρ=>E.nx (ρ.set i .un),rt:=E.rt,bk:=λρ=>E.bk (ρ.set i .un),ct:=λρ=>E.ct (ρ.set i .un) }
noncomputable def Lo(C0:af)(i:Nat)(sp:yW)(ts:lU)(th to:cD):cD:=λE ρ=>ts ρ λrs=>sp (rs.map R.d) (λ_=>to E ρ) (λx=>x.1=C0/\th (E.goes i) (ρ.set i (.v (.exc C0 x.2))))
theorem EnLe.goes{E E':En}(w:EnLe E E')(i:Nat):EnLe (E.goes i) (E'.goes i):=⟨λ_ h=>w.nx _ h,w.rt,λ_ h=>w.bk _ h,λ_ h=>w.ct _ h⟩
theorem Ent.goes{K:ap}{HZ:Hp}{F:af->Prop}{E:En}{D:Ends}(en:Ent K HZ F E D)(i:Nat):Ent K HZ F (E.goes i) (D.goes i):=
 ⟨λ_ _ _ fr h=>en.nx _ _ _ fr.setu h,λ_ _ _ fr h=>en.bk _ _ _ fr.setu h,λ_ _ _ fr h=>en.ct _ _ _ fr.setu h,en.rt⟩
section
variable {k:Nat}{sp:yW}{x:bw}{epos pos:lv}
theorem OP{c n:bw}{b0:kh}{hb a03:List kh}{a05 np:lv}{th to:cD}{C0 C1:af}(hno:∀e s,¬X.xe e s)(d:DefX X.prog X.w X.K X.mg X.base k x ps (lowX X.K sp))(mo:MonoX sp)(hr:Room k X.A)(ha:QA X (e::es) ts)
  (hN:X.N.Nodup) (hmc:X.mg c=aa (.ref C1)) (hx:X3 X.K (.ref C0) (.ref C1)=aa aj) (ZR:∀a,QSs (X.inx a) (b0::hb) th) (hel:QSs X a03 to)
  (hi:autoParam (X.N[i]?=aa n) c8._auto_1) (hk:autoParam (X.env.scope.names.lookup n=aa .local) c8._auto_1) (hst:autoParam (X.stack=X.env::X.outer) c8._auto_1) (hfr:autoParam (X.env.frame=aa X.env.locals) c8._auto_1) (hg:autoParam (Gl X x) c8._auto_1) (hgc:autoParam (Gl X c) c8._auto_1)
  (hdb:autoParam ((x==("__debug__" : bw))=ao) lS._auto_1) (hdc:autoParam ((c==("__debug__" : bw))=ao) lS._auto_1) (he:autoParam (av (e::es) X.env=(ao,gn e X.env)::av es X.env) c8._auto_1) (hpl:autoParam ((iu ZN (av es X.env)).any (·.1)=ao) c8._auto_1)
  (hs:autoParam (ix (.Call (.Name x p) (e::es) [] ZN) ar epos.line X.env=jo ao) c8._auto_1):
  QS X (.Try [.Expr (.Call (.Name x p) (e::es) [] ZN) epos] [.ExceptHandler (aa (.Name c np)) (aa n) (b0::hb) a05] a03 [] pos) (Lo C0 i sp ts th to):=by
 obtain⟨f,fd,hm,hkp,hbd,FO⟩:=d.ex;refine⟨λE E' ρ w h=>ha.mono _ _ _ (λrs q=>mo.mo _ _ _ _ _ (λ_ q=>hel.mono _ _ _ w q) (λC q=>⟨q.1,(ZR 0).mono _ _ _ (w.goes i) q.2⟩) q) h,λHZ F=>dW (M5 (th:=liftS X.K HZ F th) (to:=liftS X.K HZ F to) hno FO hr hg hm hkp hbd (ha.run HZ F) hN hi hk hst hfr hgc hmc hx (λa=>(ZR a).run HZ F) (hel.run HZ F) hdb hdc he hpl hs) λD σ H z=>?_⟩;obtain⟨ρ,E,fr,h,en⟩:=z;refine ha.step fr h λrs xs H1 q S1 r1=>?_;have fr1:=fr.mono S1;refine⟨lent (MM F ρ) rs,_,λx=>x.1=C0/\th (E.goes i) (ρ.set i (.v (.exc C0 x.2))),⟨λa z=>fr1.dom z.1,fr1.tab⟩,lI fr (λ_ h=>h) r1,mo.mo _ _ _ _ _ (λr q x H' S rx=>?_) (λC q=>q) q,λC p dd H2 q S2 py=>?_⟩
 ·exact⟨ρ,E,fr1.mono S,q,en⟩
 ·intro C' ec;cases ec;refine⟨q.1,λa o hn hc hd hm=>?_⟩;have S3:aO H2 (upd H2 a (.frz o (.own a))):=aO.new' hn;exact⟨_,_,((fr1.mono S2).mono S3).setv (.exc ⟨o,_,bS,hc,by rw[hd];exact py.gen λb o u e=>S3 b _ e,hm⟩),q.2,en.goes i⟩
end
section
variable {k:Nat}{x:bw}{pos:lv}
noncomputable def EL(K:ap)(C':af)(te:dE):dE:=λρ Q=>te ρ λr=>match r.d with
 | .exc C _=>ExcI K C /\ ∃b,rg K (.ref C) (.ref C')=aa b/\Q (.v (.bl b))
 |_=>False
theorem GO{y:bw}{C':af}{p2:lv}(hg:Gl X "isinstance")(hm:X.mg "isinstance" = ar)(ha:QE X e te)(hmy:X.mg y=aa (.ref C'))(hgy:autoParam (Gl X y) c8._auto_1)(hdy:autoParam ((y==("__debug__" : bw))=ao) lS._auto_1)
  (he:autoParam (av [e,.Name y p2] X.env=(ao,gn e X.env)::av [.Name y p2] X.env) c8._auto_1) (he2:autoParam (av [YM y p2] X.env=(ao,gn (.Name y p2) X.env)::av [] X.env) c8._auto_1) (hpl:autoParam ((iu pos (av [.Name y p2] X.env)).any (·.1)=ao) c8._auto_1):
  QE X (.Call (.Name "isinstance" p) [e,.Name y p2] [] pos) (EL X.K C' te):=by
 refine⟨λρ Q Q' w q=>ha.mono _ _ _ (λr q=>?_) q,λHZ F=>cY (rY Fv hg hm VA (iU (ha.run HZ F) (iU (Dt (v:=.ref C') hgy hmy rfl hdy) qE he2) he) ∅ ∅ he hpl) λσ H Q z=>?_⟩
 ·generalize r.d=d at q ⊢;cases d with
  |exc C p=>
   obtain⟨ci,b,kb,q⟩:=q;exact⟨ci,b,kb,w _ q⟩
  |_=>exact q.elim
 ·obtain⟨ρ,fr,h⟩:=z;refine ha.step fr h λr x H1 q S1 r1=>?_;have cx:=r1.c;generalize r.d=d at q cx;cases d with
  |exc C p=>
   obtain⟨ci,b,kb,q⟩:=q;obtain⟨a,rfl,o,u,ea,hc,_⟩:=cx.exc;exact⟨a,C,C',o,u,b,rfl,ea,hc,ci,kb,q _ H1 S1 (Rep.bl _)⟩
  |_=>exact q.elim
end
end Z
namespace L2
end L2
namespace Z
open L2
section
variable {l o:Expr}{tl to:dE}{pos ZQ:lv}
end
end Z
namespace L2
open PySem PySem.Spec PySem.W PyProof.Rows Tim
variable {es:Array lj}{ep:Nat}
theorem Kj{its:List Il}{k:Nat}(two:2<=(its.map λt=>Value.ref t.1).length)(a02:∀t∈its,t.2.1.length=k+1)(hd:its.Pairwise (λt u=>t.2.1≠u.2.1))
  (tup:∀t∈its,∃(o:jv) (a b:List ah) (n:Nat),s.heap.get? t.1=aa o/\o.cls=.type "tuple" /\ o.data=.seq (a++b).toArray n/\uo a t.2.1) (far:∀t∈its,t.1≠a):
  Cmp prog w s a (its.map λt=>Value.ref t.1) (λi j=>gZ (its.getD i (0,[],[])).2.1 (its.getD j (0,[],[])).2.1) (tuples' aj):=by
 have len:(its.map λt=>Value.ref t.1).length=its.length:=by simp
 let num:Nat->List Int:=λi=>(its.getD i (0,[],[])).2.1
 have get:∀i,i<its.length->(its.map λt=>Value.ref t.1).getD i gg=Value.ref (its.getD i (0,[],[])).1:=λi hi=>by simp[hi]
 have mem:∀i,i<its.length->its.getD i (0,[],[])∈its:=λi hi=>by
  rw[fy,au hi];exact fw hi
 have ne:∀i j,i<its.length->j<its.length->i≠j->num i≠num j:=λi j hi hj n=>by
  have e:∀i,i<its.length->num i=(its[i]!).2.1:=λi hi=>by simp[num,hi]
  have pw:=da.mp hd;have ei:its.getD i (0,[],[])=its[i]:=by simp[hi]
  have ej:its.getD j (0,[],[])=its[j]:=by simp[hj]
  show (its.getD i (0,[],[])).2.1≠(its.getD j (0,[],[])).2.1;rw[ei,ej];rcases tw n with z | z
  ·exact pw i j hi hj z
  ·exact(pw j i hj hi z).symm
 refine⟨yB num,λA h Q' hk q'=>?_,λA h i j C hk hi hj hn q'=>?_⟩
 ·have go:∀l:List Il,(∀t∈l,t∈its) -> ∃fs:List ah,KatTups h (l.map λt=>Value.ref t.1) fs/\fs.length=l.length /\ ∀v∈fs,∃x y,v=Value.int x y:=by
   intro l;induction l with
   |nil=>intro _;exact⟨[],.nil,rfl,λv hv=>by cases hv⟩
   |cons t r ih=>
    intro hm;obtain⟨fs,kt,e,al⟩:=ih λu hu=>hm u (dg _ hu);have ht:=hm t (dk ..);obtain⟨o,a,b,n,ho,hc,hd',ia⟩:=tup t ht;obtain⟨x,ZI,ex⟩:∃x ZI,t.2.1=x::ZI:=by
     have:=a02 t ht;cases e':t.2.1 with
     |nil=>rw[e'] at this;cases this
     |cons x ZI=>exact⟨x,ZI,rfl⟩
    rw[ex] at ia;cases ia with
    |cons _ y ia'=>
     refine⟨Value.int x y::fs,KatTups.cons (hk _ _ (far t ht) ho) hc hd' (by simp) kt,by simp[e],λv hv=>?_⟩;rcases dm.mp hv with rfl | hv
     ·exact⟨x,y,rfl⟩
     ·exact al v hv
  obtain⟨fs,kt,e,al⟩:=go its λ_ h=>h;refine kat_kind (s:={ s with heap:=h }) (T:=.type "int") kt (by rw[e];simp at two;right) (λv hv=>?_) ∅ q';obtain⟨x,y,rfl⟩:=al v hv;exact Looks.of_pure rfl
 ·rw[len] at hi hj;rw[get i hi,get j hj];obtain⟨o,a,b,n,ho,hc,hd',ia⟩:=tup _ (mem i hi);obtain⟨o2,a2,b2,n2,ho2,hc2,hd2,ia2⟩:=tup _ (mem j hj);refine kat_lt (s:={ s with heap:=h }) (hk _ _ (far _ (mem i hi)) ho) hd' (hk _ _ (far _ (mem j hj)) ho2) hd2 ?_;exact vZ _ _ a a2 b b2 0 ia ia2 (by rw[a02 _ (mem i hi),a02 _ (mem j hj)]) (ne i j hi hj hn) q'
theorem Ent.keep{h':dq}{d:af}(x:Ent h d es ep)(k:∀o,h.get? d=aa o->h'.get? d=aa o):Ent h' d es ep:=by
 obtain⟨⟨o,g,r⟩⟩:=x;exact⟨⟨o,k o g,r⟩⟩
theorem Ent.lt{d:af}(x:Ent h d es ep):d<h.objs.size:=by
 obtain⟨⟨o,g,r⟩⟩:=x;exact bg g
theorem Fe(hh:A.handled=ar)(I d:af)(hne:d≠I)(es:Array lj)(ep:Nat):
  Walks prog w A I [I,d] [I] es.size (λi v=>∃en,es[i]?=aa en/\v=en.key) (λi h=>h.IsKeyIter I d i es.size ep/\Ent h d es ep) where
 sub:=λb hb=>by rw[fe.mp hb];exact dk ..
 frame:=λi h h' st k=>⟨st.1.at λo e=>k I (by simp) o e,st.2.keep λo e=>k d (by simp) o e⟩
 item:=λi s Q E hi st q=>by
  have hx:es[i]?=aa es[i]:=uf hi;exact E7 st.1 st.2 rfl hx λh' st' sb=>q _ h' s.toks ⟨_,hx,rfl⟩ ⟨st',st.2.keep λo e=>(sb.2 d hne).trans e⟩ λb o hb e=>(sb.2 b (by simpa using hb)).trans e
 done:=λs Q E st q=>Hj (.inl hh) st.1 st.2 rfl (bt _) λh' eb=>q h' s.toks λb o hb e=>eb b o (by simpa using hb) e
 self:=λi s Q E st q=>W3 st.1 q
theorem Kc{d:af}(lo:(d==jj)=ao):W.KdlSrc prog w "dict" d d es.size (λi v=>∃en,es[i]?=aa en/\v=en.key) (λh=>Ent h d es ep) where
 type:=λs x=>by
  obtain⟨⟨o,g,ex,_⟩⟩:=x;exact⟨o,g,ex.1⟩
 there:=λh x=>⟨x.lt,x.lt⟩
 keep:=λh h' x k=>x.keep λo e=>k d (.inl rfl) o e
 notList:=by decide
 notTuple:=by decide
 hint:=λA E s Q x q=>W.kdl_hint_dict (by obtain⟨⟨o,g,ex,_⟩⟩:=x;exact⟨o,g,ex.1⟩) q
 iter:=λA s hh x=>⟨_,_,λE Q q=>E8 lo x q,Fe hh _ d (gq x.lt) es ep,⟨_,cm _ rfl,rfl,rfl⟩,x.keep λo e=>aq _ e⟩
theorem IS{T:String}{r d:af}{P:Nat->ah->Prop}{OK:dq->Prop}{R:List ah->ai->Prop}(K:W.KdlSrc prog w T r d n P OK)(hq:A.handled=ar)(ok:OK s.heap)(le:n<=bv)
  (fin:∀(h1:dq) (tk:Nat) (acc:Array ah),(∀b o,s.heap.get? b=aa o->h1.get? b=aa o)->s.heap.objs.size<h1.objs.size->ItemsOf P acc n->R acc.toList { s with heap:=h1,toks:=tk }):bu (cf prog w) A (collect (.ref r)) R E s:=by
 obtain⟨l1,l2⟩:=K.there _ ok
 let N:=s.heap.objs.size
 let hN:=s.heap.push { cls:=.type "list",data:=.seq ([]:List ah).toArray }
 have oN:hN.get? N=aa { cls:=.type "list",data:=.seq #[] }:=cm _ rfl;have up:∀b o,s.heap.get? b=aa o->hN.get? b=aa o:=λb o e=>aq _ e
 let G:YT->ai->Prop:=λq s2=>∃(h1:dq) (tk:Nat) (acc:Array ah) (c:Nat),q=.ok (.ret (.ref N))/\s2={ s with heap:=h1,toks:=tk }/\(∀b o,s.heap.get? b=aa o->h1.get? b=aa o)/\h1.get? N=aa { cls:=.type "list",dict:=ar,data:=.seq acc c,slots:=#[] }/\ItemsOf P acc n
 have gone:=W.kdl_extend (A:=A) (s:={ s with heap:=hN }) (R:=G) K hq (K.keep _ _ ok λb _ o e=>up b o e) N (VP l1) (VP l2) (.ref N) 0 oN
  (λh1 tk acc c k g it=>⟨h1,tk,acc,c,rfl,rfl,λb o e=>k b o (gq (bg e)) (up b o e),g,it⟩) le
 have last:∀(h1:dq) (tk:Nat) (acc:Array ah) (c:Nat),(∀b o,s.heap.get? b=aa o->h1.get? b=aa o)->h1.get? N=aa { cls:=.type "list",dict:=ar,data:=.seq acc c,slots:=#[] }->ItemsOf P acc n ->
   bu (cf prog w) A (do let o <- load N;match o.data with | .seq xs _=>jo xs.toList | _=>unsupported "internal:collect") R E { s with heap:=h1,toks:=tk }:=λh1 tk acc c k g it=>
  ae (Y5 g (ak (fin h1 tk acc k (bg g) it)))
 unfold collect;refine ae (wpAny_runValue (VD PySem.F.entry_proto_collect ?_));rw[W5 PySem.F.plain_proto_collect _];refine ae (m:=newList []) (ik (ak ⟨plainId_quiet Vf _,VD PySem.F.entry_list_iadd ?_⟩));rw[W5 Vf _];refine gv gone (λfin2 s2 z=>?_) λe s2 z=>?_
 ·cases fin2 with
  |done f=>obtain⟨h1,tk,acc,c,e,rfl,k,g,it⟩:=z;cases e;exact last h1 tk acc c k g it
  |again c1=>exact⟨z.1,qz z.2 λq s3 y=>by obtain⟨h1,tk,acc,c,rfl,rfl,k,g,it⟩:=y;exact last h1 tk acc c k g it⟩
 ·obtain⟨_,_,_,_,z,_⟩:=z;cases z
theorem Mz{xs:List (List cF×af×ah)}(r:KT H kvs xs){kns:List (List Int)}(hk:kvs.map (·.1)=kns.map λl=>l.map jc):
  ∃its:List Il,its.map (·.2.1)=kns/\xs.map (λq=>Value.ref q.2.1)=its.map (λt=>Value.ref t.1)/\(∀t∈its,H t.1=aa (.tup (t.2.1.map V.int))/\t.2.2=[])/\xs.map (·.1)=kns.map λl=>l.map jc:=by
 induction r generalizing kns with
 |nil=>
  cases kns with
  |nil=>exact⟨[],rfl,rfl,λt ht=>(tf ht).elim,rfl⟩
  |cons _ _=>cases hk
 | @cons p q ps qs h t ih=>
  cases kns with
  |nil=>cases hk
  |cons l kns=>
   rw[de,de] at hk;injection hk with h1 h2;obtain⟨its,e1,e2,e3,e4⟩:=ih h2;refine⟨(q.2.1,l,[])::its,by rw[de,e1],by rw[de,de,e2],λt ht=>?_,by rw[de,de,e4,<- h.1,h1]⟩;rcases dm.mp ht with rfl | ht
   ·refine⟨?_,rfl⟩;have:=h.2.1;rw[h1,ju] at this;exact this
   ·exact e3 t ht
end L2
namespace L2
end L2
namespace Z
open L2
section
variable {a b c d:Expr}{ta tb tc td:dE}{pos:lv}
end
end Z
namespace L2
end L2
namespace Z
open L2
section
variable {a b c d:Expr}{ta tb tc td:dE}{pos:lv}
theorem RepT.keys{ds:List (List cF×Dv)}(r:RepT K M H xs ds):xs.map (·.1)=ds.map (·.1):=
 r.ind (P:=λxs ds=>xs.map (·.1)=ds.map (·.1)) rfl λ_ _ _ _ _ _ _ ih=>by rw[de,de,ih]
end
section
variable {pos:lv}
end
end Z
namespace L2
section
variable {r:ah}
end
end L2
namespace L2
open PySem.MeetsSeq PySem.SeqAt
end L2
namespace Z
open L2
end Z
namespace L2
variable {s2 s0:ai}{cd:ah}{H0:Hp}{E:XK}
section
variable {E':XK}
theorem Ni{e:ah}(I:Inv (cN (iT P w) P w K mg base N ZG ZF f cd A outer s0 H0 E) pk σ H s)
  (cx:iT P w (cN (iT P w) P w K mg base N ZG ZF f cd A outer s0 H0 E).stack H s E' e s2) (hE:∀C dd H',E' (.ref C) dd H'->E (.ref C) dd H'):(cN (iT P w) P w K mg base N ZG ZF f cd A outer s0 H0 E).xe e s2:=by
 obtain⟨a,o0,C,H',B,rfl,os,bare,un,hok,fl,k,na,nH,hE',hc0,hm0⟩:=cx;have nfr:∀b∈frs (cN (iT P w) P w K mg base N ZG ZF f cd A outer s0 H0 E).stack,H' b=ar:=λb hb=>by
  obtain⟨_,o,q,_⟩:=I.stack.mem hb;exact un.free b o q (I.stkFree b hb) (λz=>nomatch z)
 have I2:Inv (cN (iT P w) P w K mg base N ZG ZF f cd A outer s0 H0 E) pk σ H' s2:=I.call' os un hok bare (λ_ z=>nomatch z);have mem:∀b,b∈frs (cN (iT P w) P w K mg base N ZG ZF f cd A outer s0 H0 E).stack->b=(sy ZG ZF s0.heap.objs.size f cd).locals \/ b∈frs outer:=λb hb=>dm.mp (I.stkSub b hb);have k1:∀b o,s2.heap.get? b=aa o->b ∉ frs outer->(H' b≠ar \/ ∃u,s0.heap.get? b=aa u)->B.get? b=aa o:=λb o q nb hc=>by
  refine k b o q (λhm=>?_) ?_
  ·rcases mem b hm with z | z
   ·rcases hc with hc | ⟨u,hu⟩
    ·exact hc (nfr b hm)
    ·have h1:b<s0.heap.objs.size:=bg hu;have h2:s0.heap.objs.size<=b:=by rw[z];exact I.ok.above
     exact absurd (fj h1 h2) (qg _)
   ·exact nb z
  ·rcases hc with hc | ⟨u,hu⟩
   ·exact .inl hc
   ·exact .inr (I.base.there b u hu (λz=>nomatch z))
 refine N5 I.ok.frames rfl fl λh' fl' u'=>?_;have sl:∀b∈frs outer,∀o,s2.heap.get? b=aa o -> ∃z,h'.get? b=aa { o with slots:=z }:=λb hb o q=>by
  obtain⟨_,o',q',nf⟩:=I2.funs.mem hb;rw[q] at q';cases q';exact u' b o q nf
 refine⟨a,o0,C,H',B,rfl,os.trans I.os,bare,Un.fly I2.base k1 fl'.st sl,lR.fly (fs:=frs outer) I2.hok (λb hb=>?_) k1 fl'.st,fl',λb o q nb hc=>?_,?_,nH,hE C _ H' hE',hc0,hm0⟩
 ·obtain⟨_,o,q,_⟩:=I.ok.funs.mem hb;exact I2.base.free b o q (I.ok.frf b hb) (λz=>nomatch z)
 ·have:∃o',s2.heap.get? b=aa o':=by
   rcases hc with hc | ⟨u,hu⟩
   ·cases q:H' b with
    |none=>exact(hc q).elim
    |some v=>exact(I2.hok b v q).at
   ·exact I2.base.there b u hu (λz=>nomatch z)
  obtain⟨o',q2⟩:=this;have q3:=k1 b o' q2 nb hc;have q4:=fl'.st b o' q3;rw[q] at q4;cases q4;exact q3
 ·cases q:s0.heap.get? a with
  |none=>rfl
  |some o=>
   obtain⟨o',q'⟩:=I.base.there a o q (λz=>nomatch z);rw[na] at q';cases q'
end
section
variable {s1:ai}{e:ah}{D:Ends}
end
variable {fd:jy}{sp:Sp}
section
variable {k:Nat}{x:bw}{epos pos:lv}{t:TA}
end
section
variable {fa:af}{E0:XK}
variable {k:Nat}{x:bw}{pos:lv}{t:TA}
end
end L2
namespace Z
open L2
variable {tb:cD}{ZS:List kh}
section
variable {cd:ah}{s0:ai}{H0:Hp}{E:XK}{Ψ:yX->Prop}
theorem Ah{x:bw}{np pos:lv}(hS:∀H',aO HZ H'->aO H0 H')(hh:(A.deeper (sy ZG ZF s0.heap.objs.size f cd)).handled=ar)(hE:∀C p dd H',Ψ (C,p)->aO H0 H'->u0 H' p dd->E (.ref C) dd H')
  (hm:mg x=aa (.ref C)) (q:DY K C) (hg:Gl (cN (iT P w) P w K mg base N ZG ZF f cd A outer s0 H0 E) x) (ha:QA (cN (iT P w) P w K mg base N ZG ZF f cd A outer s0 H0 E) (e::es) ts)
  (hdb:autoParam ((x==("__debug__" : bw))=ao) lS._auto_1) (he:autoParam (av (e::es) (cN (iT P w) P w K mg base N ZG ZF f cd A outer s0 H0 E).env=(ao,gn e (cN (iT P w) P w K mg base N ZG ZF f cd A outer s0 H0 E).env)::av es (cN (iT P w) P w K mg base N ZG ZF f cd A outer s0 H0 E).env) c8._auto_1)
  (hpl:autoParam ((iu ZN (av es (cN (iT P w) P w K mg base N ZG ZF f cd A outer s0 H0 E).env)).any (·.1)=ao) c8._auto_1):
  QxS (cN (iT P w) P w K mg base N ZG ZF f cd A outer s0 H0 E) HZ F (.Raise (aa (.Call (.Name x np) (e::es) [] ZN)) ar pos) (zG Ψ C ts):=by
 refine⟨λE E' ρ w h=>h,dW (GX (X:=cN (iT P w) P w K mg base N ZG ZF f cd A outer s0 H0 E) (Ψ:=λH1=>E (.ref C) ar H1) hh hm hg q (ha.run HZ F) (λpk σ H s h' a us I m p=>Io I m p) hdb he hpl) λD σ H z=>?_⟩;obtain⟨ρ,E',fr,h,en⟩:=z;refine ha.step fr h λrs xs H1 q1 S1 r1=>⟨?_,hE C ar ar H1 q1.2 (hS _ (fr.same.trans S1)) trivial⟩;rw[r1.len];exact ly q1.1 ∅
theorem Ks{iter:Expr}{ti:xM}{g:Ac}{pos:lv}{k:Nat}(hS:∀H',aO HZ H'->aO H0 H')(hi:QI (cN (iT P w) P w K mg base N ZG ZF f cd A outer s0 H0 E) tg iter ti)(hg:QG (cN (iT P w) P w K mg base N ZG ZF f cd A outer s0 H0 E) tg k g)
  (hb:∀H₁:Hp,(∀H',aO H₁ H'->aO H0 H')->QxB (cN (iT P w) P w K mg base N ZG ZF f cd A outer s0 H0 E) H₁ F ZS tb) (hs:autoParam (∀x,iq iter (cN (iT P w) P w K mg base N ZG ZF f cd A outer s0 H0 E).env x=jo x) G3._auto_1):
  QxS (cN (iT P w) P w K mg base N ZG ZF f cd A outer s0 H0 E) HZ F (.For tg iter ZS [] pos) (eZ ti g tb):=by
 have mb:=(hb HZ hS).mono;refine⟨λE E' ρ w h=>hi.mono _ _ _ (λds ogs h=>mS hg.mono mb ogs ds E E' ρ w h) h,?_⟩;obtain⟨wi,hwi,wiq⟩:=hi.run HZ F;obtain⟨tt,htt,ttq⟩:=hg.run;have hb':uW (cN (iT P w) P w K mg base N ZG ZF f cd A outer s0 H0 E) ZS (λD σ H=>∃P',(∀H',aO P' H'->aO H0 H')/\liftS K P' F tb D σ H):=λpk s σ H D I zq1=>by obtain⟨P',h1,q⟩:=zq1;exact(hb P' h1).run pk s σ H D I q
 refine dW (GZ zo rfl hwi htt hb' hs) λD σ H z=>?_;obtain⟨ρ,E',fr,h,en⟩:=z;refine wiq σ H ρ _ fr (hi.mono _ _ _ (λds ogs q J H2 S2 _ ok=>?_) h);have fr2:=fr.mono S2;have en2:Ent K (prot H2 ρ) F E' D:=en.prot fr2;refine⟨λi m σ' H'=>m=ds.length-i/\i<=ds.length /\ ∃ρ',Fr K (prot H2 ρ) F σ' H' ρ'/\aX g tb ogs (ds.drop i) E' ρ',⟨ds.length,by simp,oj _,ρ,fr2.prot,by simpa using q⟩,?_⟩;rintro i m σ' H' ⟨rfl,hil,ρ',fr',q'⟩;have gd:guard ogs ρ':=tX q';have Gn:=fr2.gen fr';have oks:=ok i H' (MM F ρ') fr'.same Gn λp hp=>let ⟨_,_,_,h⟩:=fr'.at_own (gd p hp);h;by_cases hlt:i<ds.length
 ·have hd:ds[i]?=aa ds[i]:=by simp[hlt]
  have hdr:ds.drop i=ds[i]::ds.drop (i+1):=gx hlt;rw[hdr,b8] at q';obtain⟨go,yld⟩:=oks.1 _ hd;refine .inr ⟨go,λσ2 H2'=>∃ρ2,Fr K (prot H2 ρ) F σ2 H2' ρ2/\aX g tb ogs (ds.drop (i+1)) E' ρ2,λσ2 H2' zq2=>by obtain⟨ρ2,f2',q2⟩:=zq2;exact⟨ds.length-(i+1),⋯,rfl,hlt,ρ2,f2',q2⟩,λy H3 hy=>?_⟩;obtain⟨S3,ry⟩:=yld y H3 hy;refine ttq _ F y _ σ' H3 ρ' _ (fr'.mono S3) ry (hg.mono _ _ _ _ (λρ1 q1 σ1 f1 _=>?_) q'.2);exact⟨prot H2 ρ,λH' S=>hS _ (fr2.same_of S),ρ1,_,f1,q1,λρ3 σ3 H3' f3 q3=>⟨ρ3,f3,q3⟩,en2.nx,λρ3 σ3 H3' f3 q3=>⟨ρ3,f3,q3⟩,en2.rt⟩
 ·have e:i=ds.length:=⋯;subst e;rw[uy,b6] at q';exact .inl ⟨oks.2 (bt _),en2.nx _ _ _ fr' q'.2⟩
end
section
variable {k:Nat}{sp:yW}{x:bw}{epos pos:lv}
end
section
variable {M':af->Prop}
end
section
variable {k:Nat}{y f:bw}{e1 e2 z c:Expr}{tt:nB}{tr:cD}{te2:dE}{ZI:List kh}{ZT ZQ ipos q1 q2 q3 q4 q5 r1 r3 r4 r5:lv}
end
theorem DefX.calm{k:Nat}{x:bw}{sp:yW}(d:DefX P w K mg base k x ps (lowX K sp)):Def P w K mg base k x ps (low K λds Q=>sp ds Q λ_=>False):=by
 obtain⟨f,fd,hm,hk,hb,FO⟩:=d.ex;refine⟨f,fd,hm,hk,hb,λvs H Q E q=>?_,λA outer s H args us vs Q E hr he hbd hv q=>?_⟩
 ·obtain⟨F,ds,hF,r,q⟩:=q;exact FO.len vs H Q (λ_ _ _=>False) ⟨F,ds,λ_=>False,hF,r,q,λ_ _ _ _ z=>z.elim⟩
 ·obtain⟨F,ds,hF,r,q⟩:=q;refine qz (FO.run A outer s H args us vs Q (λ_ _ _=>False) hr he hbd hv ⟨F,ds,λ_=>False,hF,r,q,λ_ _ _ _ z=>z.elim⟩) λrr s' hq=>?_;cases rr with
  |ok o=>cases o<;>exact hq
  |error e=>
   obtain⟨_,_,_,_,_,_,_,_,_,_,_,_,_,_,z,_⟩:=hq;exact z.elim
theorem MonoX.calm{sp:yW}(m:MonoX sp):MonoF λds Q=>sp ds Q λ_=>False:=⟨λds Q Q' w h=>m.mo ds Q Q' _ _ w (λ_ z=>z) h⟩
end Z
namespace L2
noncomputable def OM(K:ap):List V->Hp->VK->Prop:=λxs H Q=>∃(a C:af) (o:jv) (u:HO) (b:Bool),xs=[.ref a,.ty "ValueError"]/\H a=aa (.frz o u)/\o.cls=.ref C/\ExcI K C/\rg K (.ref C) (.type "ValueError")=aa b/\Q (.bl b) H
theorem Fu:fP X (.builtin "isinstance") (OM X.K):=by
 intro pk s σ H xs us Q I r h;obtain⟨a,C,o,u,b,rfl,ha,hc,ci,kb,q⟩:=h;obtain⟨u1,u2,rfl,r1,r2⟩:=Aj r;cases r1;cases r2;obtain⟨ho,_⟩:=(show cK X.prog X.w H s.heap a (.frz o u) from I.hok a _ ha);exact ot (E6 ci) I.kIn ⟨o,ho,hc⟩ kb (λz=>nomatch z) λtk=>⟨.bl b,H,I.tok tk,rfl,q⟩
section
variable {fa:af}{cd:ah}{s0:ai}{H0:Hp}{E0:XK}
variable {k:Nat}{fd:jy}{sp:Sp}{x:bw}{pos:lv}{t:TA}
theorem Gc(F:FnOk P w K mg base (iT P w) k f fd ps sp)(hr:Room k (cN (iT P w) P w K mg base N ZG ZF fa cd A outer s0 H0 E0).A)(hg:Gl (cN (iT P w) P w K mg base N ZG ZF fa cd A outer s0 H0 E0) x)
  (hm:mg x=aa (.ref f)) (hkp:qi K (.ref f)=aj) (hbd:iL K fd ps []) (ha:PA (cN (iT P w) P w K mg base N ZG ZF fa cd A outer s0 H0 E0) (e::es) t)
  (hdb:autoParam ((x==("__debug__" : bw))=ao) lS._auto_1) (he:autoParam (av (e::es) (cN (iT P w) P w K mg base N ZG ZF fa cd A outer s0 H0 E0).env=(ao,gn e (cN (iT P w) P w K mg base N ZG ZF fa cd A outer s0 H0 E0).env)::av es (cN (iT P w) P w K mg base N ZG ZF fa cd A outer s0 H0 E0).env) c8._auto_1) (hpl:autoParam ((iu ZN (av es (cN (iT P w) P w K mg base N ZG ZF fa cd A outer s0 H0 E0).env)).any (·.1)=ao) c8._auto_1)
  (hs:autoParam (ix (.Call (.Name x p) (e::es) [] ZN) ar pos.line (cN (iT P w) P w K mg base N ZG ZF fa cd A outer s0 H0 E0).env=jo ao) c8._auto_1):
  PS (cN (iT P w) P w K mg base N ZG ZF fa cd A outer s0 H0 E0) (.Expr (.Call (.Name x p) (e::es) [] ZN) pos)
   (λD σ H=>t σ H λvs H1=>sp vs H1 (λv H2=>D.nx σ H2) (λcv dd H2=>∀C,cv=.ref C->E0 (.ref C) dd H2)):=by
 intro pk s σ H D I h;refine VT (nr (mR I hg hm ?_ hdb)) I.quiet hs;refine xi (h₀:=base) I.ok.mod.kin hkp (gv (ha ZN pk s σ H _ I h) (λus s1 z=>?_) λe s z=>z) he hpl;obtain⟨vs,H1,I1,r,q⟩:=z;refine⟨I1.kIn,?_⟩;have hl:us.length=ps.length:=by rw[<- r.length];exact F.len _ _ _ _ q
 have hb1:=hbd s1 us I1.kIn (by rw[ic];exact hl);rw[ic] at hb1;refine xx (qz (F.run (cN (iT P w) P w K mg base N ZG ZF fa cd A outer s0 H0 E0).A (cN (iT P w) P w K mg base N ZG ZF fa cd A outer s0 H0 E0).stack s1 H1 ⟨us,[]⟩ us vs _ _ hr I1.env0 hb1 r q) λr s2 hq=>?_);cases r with
 |error e=>
  dsimp only[CR] at hq;exact Ni I1 hq λC dd H' z=>z C rfl
 |ok fl=>
  cases fl with
  |ret u=>
   obtain⟨v,H2,I2,r2,q2⟩:=I1.after hq;exact⟨σ,H2,I2,q2⟩
  |next=>exact ii hq
  |brk=>exact ii hq
  |cont=>exact ii hq
end
end L2
namespace Z
open L2
section
variable {o:Expr}{to:dE}{pos ZQ:lv}
noncomputable def IK(K:ap)(te:dE):dE:=λρ Q=>te ρ λr=>match r.d with
 | .exc C _=>ExcI K C /\ ∃b,rg K (.ref C) (.type "ValueError")=aa b/\Q (.v (.bl b))
 |_=>False
theorem Lx{p2:lv}(hg:Gl X "isinstance")(hm:X.mg "isinstance" = ar)(ha:QE X e te)(hmv:X.mg "ValueError" = ar)(hgv:autoParam (Gl X "ValueError") c8._auto_1)(hbv:autoParam (oy "ValueError" = aa (.type "ValueError")) c8._auto_1)
  (he:autoParam (av [e,.Name "ValueError" p2] X.env=(ao,gn e X.env)::av [.Name "ValueError" p2] X.env) c8._auto_1) (he2:autoParam (av [YM "ValueError" p2] X.env=(ao,gn (.Name "ValueError" p2) X.env)::av [] X.env) c8._auto_1) (hpl:autoParam ((iu pos (av [.Name "ValueError" p2] X.env)).any (·.1)=ao) c8._auto_1):
  QE X (.Call (.Name "isinstance" p) [e,.Name "ValueError" p2] [] pos) (IK X.K te):=by
 refine⟨λρ Q Q' w q=>ha.mono _ _ _ (λr q=>?_) q,λHZ F=>cY (rY Fu hg hm VA (iU (ha.run HZ F) (iU (p8 (v:=.ty "ValueError") hgv hmv hbv rfl) qE he2) he) ∅ ∅ he hpl) λσ H Q z=>?_⟩
 ·generalize r.d=d at q ⊢;cases d with
  |exc C p=>
   obtain⟨ci,b,kb,q⟩:=q;exact⟨ci,b,kb,w _ q⟩
  |_=>exact q.elim
 ·obtain⟨ρ,fr,h⟩:=z;refine ha.step fr h λr x H1 q S1 r1=>?_;have cx:=r1.c;generalize r.d=d at q cx;cases d with
  |exc C p=>
   obtain⟨ci,b,kb,q⟩:=q;obtain⟨a,rfl,o,u,ea,hc,_⟩:=cx.exc;exact⟨a,C,o,u,b,rfl,ea,hc,ci,kb,q _ H1 S1 (Rep.bl _)⟩
  |_=>exact q.elim
end
section
variable {cd:ah}{s0:ai}{H0:Hp}{E:XK}{Ψ:yX->Prop}
noncomputable def Ck(sp:yW)(ts:lU)(Ψ:yX->Prop):cD:=λE ρ=>ts ρ λrs=>sp (rs.map R.d) (λ_=>E.nx ρ) Ψ
theorem Ip{k:Nat}{sp:yW}{x:bw}{pos:lv}{HB:Hp}(hS:∀H',aO HZ H'->aO HB H')(hE:∀C p dd H',Ψ (C,p)->aO HB H'->u0 H' p dd->E (.ref C) dd H')
  (d:DefX P w K mg base k x ps (lowX K sp)) (mo:MonoX sp) (hr:Room k (cN (iT P w) P w K mg base N ZG ZF f cd A outer s0 H0 E).A) (ha:QA (cN (iT P w) P w K mg base N ZG ZF f cd A outer s0 H0 E) (e::es) ts)
  (hg:autoParam (Gl (cN (iT P w) P w K mg base N ZG ZF f cd A outer s0 H0 E) x) c8._auto_1)
  (hdb:autoParam ((x==("__debug__" : bw))=ao) lS._auto_1) (he:autoParam (av (e::es) (cN (iT P w) P w K mg base N ZG ZF f cd A outer s0 H0 E).env=(ao,gn e (cN (iT P w) P w K mg base N ZG ZF f cd A outer s0 H0 E).env)::av es (cN (iT P w) P w K mg base N ZG ZF f cd A outer s0 H0 E).env) c8._auto_1) (hpl:autoParam ((iu ZN (av es (cN (iT P w) P w K mg base N ZG ZF f cd A outer s0 H0 E).env)).any (·.1)=ao) c8._auto_1)
  (hs:autoParam (ix (.Call (.Name x p) (e::es) [] ZN) ar pos.line (cN (iT P w) P w K mg base N ZG ZF f cd A outer s0 H0 E).env=jo ao) c8._auto_1):
  QxS (cN (iT P w) P w K mg base N ZG ZF f cd A outer s0 H0 E) HZ F (.Expr (.Call (.Name x p) (e::es) [] ZN) pos) (Ck sp ts Ψ):=by
 obtain⟨fa,fd,hm,hkp,hbd,FO⟩:=d.ex;refine⟨λE1 E2 ρ w1 h=>ha.mono _ _ _ (λrs q=>mo.mo _ _ _ _ _ (λr q=>w1.nx _ q) (λC q=>q) q) h,dW (Gc FO hr hg hm hkp hbd (ha.run HZ F) hdb he hpl hs) λD σ H z=>?_⟩;obtain⟨ρ,E',fr,h,en⟩:=z;refine ha.step fr h λrs xs H1 q S1 r1=>?_;have fr1:=fr.mono S1;refine⟨lent (MM F ρ) rs,_,Ψ,⟨λa z=>fr1.dom z.1,fr1.tab⟩,lI fr (λ_ h=>h) r1,mo.mo _ _ _ _ _ (λr q x H' S rx=>?_) (λC q=>q) q,λC p dd H2 q S2 py C' ec=>?_⟩
 ·exact en.nx _ _ _ (fr1.mono S) q
 ·cases ec;exact hE C p dd H2 q (hS _ ((fr.same.trans S1).trans S2)) py
end
end Z
namespace L2
variable {K:Frag}{S N:af}{os:Y2}{nm q:bw}{sn:List bw}{sub:List ah}{ab:Bool}{col:Option Bool}{dd:Option af}{k0 k1 k2 k3 k5:Option ah}
section
open PySem.Builtin PySem.Builtin.ObjectAttr PySem.W
variable {x:af}{ox:jv}{us:Array ah}{cd:ClassData}{name:bw}{v:ah}
open PySem.Builtin PySem.W
variable {g:Array V6}{d:YF}{t:Nat}
variable {fI:af}{bs:List ah}
open PySem.Builtin PySem.W
variable {g:Array V6}{d:YF}{t:Nat}
variable {e t0:af}{bs:List ah}{dct:Option af}
end
end L2
namespace L2
variable {S fI:af}
variable {te:TE}
section
variable {CX:Fy}{k:Nat}{fd:jy}
end
section
variable {cd:ah}{s0:ai}{H0:Hp}{E:XK}
end
section
open PySem.Calls PySem.Builtin PySem.Builtin.ObjectAttr
variable {x d:af}{o:jv}{mA:bw->Option ah}{v:ah}
end
section
variable {pos:lv}
end
end L2
namespace Z
open L2
section
variable {a b:Expr}{pos:lv}{x:bw}{id T:String}{pp:List Dv->(R->Prop)->Prop}
end
section
variable {cd:ah}{s0:ai}{H0:Hp}{E:XK}{Ψ:yX->Prop}
end
noncomputable abbrev RE(k:Tk):Dv:=.tup [.int k.1,.int k.2.1,.tup (k.2.2.map Dv.int)]
noncomputable def xX(ks:List Tk)(k:Tk):List Tk:=if ks.any (λx=>decide (x=k)) then ks else ks++[k]
noncomputable def wC(ks:List Tk)(k:Tk):Bool:=ks.any λx=>decide (x=k)
theorem EF(xs:List (Tk×af))(k:Tk):hasN xs k=wC (xs.map (·.1)) k:=by
 unfold hasN wC;rw[List.any_map];rfl
theorem JK(xs:List (Tk×af))(k:Tk)(b:af):(wY xs k b).map (·.1)=xX (xs.map (·.1)) k:=by
 unfold wY xX;rw[EF];unfold wC;split
 ·rfl
 ·rw[yi];rfl
theorem Ap{x:V}{k:Tk}(c:eD K M H x (RE k)):∃b,x=.ref b/\TileAt H k b:=by
 obtain⟨b,vs,rfl,e,r⟩:=c.tup;cases r with
 |cons r1 r=>
  cases r with
  |cons r2 r=>
   cases r with
   |cons r3 r=>
    cases r;cases r1;cases r2;cases r3 with
    |tup e3 r3=>
     refine⟨b,rfl,_,e,?_⟩;have ey:∀{ns:List Int} {ys:List V},Reps K M H ys (ns.map .int)->ys=ns.map V.int:=by
      intro ns;induction ns with
      |nil=>intro ys r;cases r;rfl
      |cons n ns ih=>
       intro ys r;cases r with
       |cons r1 r=>cases r1;rw[ih r];rfl
     rw[<- ey r3];exact e3
theorem N4{k:Nat}(r:Room k A):A.units+2<jx:=by have:=r.un;right
section
variable {pos:lv}
noncomputable def TR:dE:=λ_ Q=>Q (.nw (.dns []))
theorem JF:QE X (.Dict [] [] pos) TR:=
 ⟨λρ Q Q' w q=>w _ q,λHZ F=>cY Gk λσ H Q ⟨ρ,fr,q⟩ p hp=>q _ _ (aO.new' hp) ⟨p,rfl,hp,[],bS,rfl,λ_ z=>nomatch z⟩⟩
noncomputable def Ax(i:Nat)(tk tv:dE):cD:=λE ρ=>match ρ[i]? with
 |some (.own a (.dns ks))=>tv ρ λr=>r=.v (.bl aj)/\tk ρ λkk=>∃k:Tk,kk.d=RE k/\ks.length<CN/\E.nx (ρ.set i (.own a (.dns (xX ks k))))
 |_=>False
theorem Ls{x:bw}{p1 p2:lv}{k:Expr}{tk:dE}(hu:X.A.units+2<jx)(hv:PE X (.Name x p1) (zA i))(hk:QE X k tk)(he:QE X e te)
  (hs:autoParam (ix e (aa (.Subscript (.Name x p1) k p2)) pos.line X.env=jo ao) c8._auto_1):QS X (.Assign [.Subscript (.Name x p1) k p2] e pos) (Ax i tk te):=by
 refine⟨λE E' ρ w h=>?_,λHZ F=>dW (Ga hu hv (hk.run HZ F) (he.run HZ F) hs) λD σ H ⟨ρ,E,fr,h,en⟩=>?_⟩
 ·unfold Ax at *;split at h
  ·exact he.mono _ _ _ (λr q=>⟨q.1,hk.mono _ _ _ (λkk zq3=>by obtain⟨k,a,b,c⟩:=zq3;exact⟨k,a,b,w.nx _ c⟩) q.2⟩) h
  ·exact h
 ·unfold Ax at h;split at h
  ·rename_i a ks hx;refine he.step fr h λr y H1 q S1 r1=>?_;obtain⟨rfl,q⟩:=q;have fr1:=fr.mono S1;obtain⟨hs1,xs,hv1,ek,t1⟩:=fr1.sl i _ hx;refine⟨by cases r1;rfl,_,hs1,hk.step fr1 q λkk z H2 q S2 rk=>?_⟩;obtain⟨k,ed,ql,q2⟩:=q;have ck:=rk.c;rw[ed] at ck;obtain⟨b,rfl,tb⟩:=Ap ck;have hv2:=S2 _ _ hv1;have t2:∀x∈xs,TileAt H2 x.1 x.2:=λx hx=>(t1 x hx).gen λ_ _ e=>S2 _ _ e;refine⟨a,b,xs,k,rfl,rfl,hv2,t2,tb,vY (by rw[ek,bf] at ql;exact ql),?_⟩;have G:Gen X.K (MM F ρ) (MM F ρ) H2 (upd H2 a (.dN a (wY xs k b))):=Gen.write (.inr ⟨_,fh hx⟩) (by rw[hv2];trivial);refine en.nx _ _ _ ((fr1.mono S2).write (d':=.dns (xX ks k)) hx ⟨_,bS,by rw[JK,ek],λy hy=>?_⟩) q2;unfold wY at hy;split at hy
   ·exact(t2 y hy).gen G.t
   ·rcases fm.mp hy with z | z
    ·exact(t2 y z).gen G.t
    ·rw[fe.mp z];exact tb.gen G.t
  ·exact h.elim
noncomputable def Gw:Dv->Dv->(R->Prop)->Prop
 | .tup ds,.dns ks,Q=>∃k:Tk,Dv.tup ds=RE k/\Q (.v (.bl (wC ks k)))
 |_,_,_=>False
theorem Jg(hu:X.A.units+2<jx):xO X (fv .In) Gw:=by
 refine⟨λdx dy Q Q' w h=>?_,_,MZ hu,λM O H x y dx dy Q cx cy h=>?_⟩
 ·unfold Gw at *;split at h
  ·exact⟨h.choose,h.choose_spec.1,w _ h.choose_spec.2⟩
  ·exact h
 ·unfold Gw at h;split at h
  ·obtain⟨k,ed,q⟩:=h;rw[ed] at cx;obtain⟨b,rfl,tb⟩:=Ap cx;obtain⟨a,rfl,xs,e1,ek,t⟩:=cy.dns;subst ek;refine⟨a,b,xs,k,rfl,rfl,e1,t,tb,?_⟩;simp only[eo,if_false];rw[EF];exact q _ H (aO.refl _) (Rep.bl _)
  ·exact h.elim
end
end Z
namespace L2
open PySem.W
noncomputable def gal:Bool->qp->Array qp->Nat->Nat->Nat->StateT iw X8 (Option Nat):=sortPriv% PySem.Builtin.gallop
noncomputable def Oz:Array qp->Array qp->StateT iw X8 (Array qp):=sortPriv% PySem.Builtin.mergeLo
noncomputable def P6:Array qp->Array qp->StateT iw X8 (Array qp):=sortPriv% PySem.Builtin.mergeHi
variable {arr:Array qp}{st:iw}{Q:Option Nat->iw->Prop}{N:Nat}{it:Nat->qp}{κ:rj}{left:Bool}{M:Vy}
structure Tm(M:Vy)(A:dj)(E:ah->ai->Prop)(s:ai)(N:Nat)(lt:Nat->Nat->Bool)(it:Nat->qp)(κ:rj):Prop where
 cmp:∀i j,i<N->j<N->i≠j -> ∀(st:iw) (Q:Option Bool->iw->Prop),mj st=κ->Q (aa (lt i j)) st->Y3 M A E s (lt' (it i) (it j)) Q st
 tot:∀i j,i<N->j<N->i≠j->lt i j = !lt j i
 tr:∀i j k,i<N->j<N->k<N->lt i j=aj->lt j k=aj->lt i k=aj
theorem dP{x:qp}{Q:qp->iw->Prop}(h:arr[i]?=aa x)(q:Q x st):Y3 M A E s (elem' arr i) Q st:=by
 rw[elem'_eq,h];exact bq q
theorem AB{lt:Nat->Nat->Bool}(T:Tm M A E s N lt it κ){x:Nat}{base hint:Nat}{f:Nat->Nat}(hk:mj st=κ)(hx:x<N)
  (ha:∀i,i<n->arr[base+i]?=aa (it (f i))) (hf:∀i,i<n->f i<N/\f i≠x) (up:∀i j,i<j->j<n->lt (f i) (f j)=aj) (hh:hint<n)
  (q:∀k,k<=n->(∀i,i<k->lt (f i) x=aj)->(∀i,k<=i->i<n->lt x (f i)=aj)->Q (aa k) st):Y3 M A E s (gal left (it x) arr base n hint) Q st:=by
 have b1:∀i (Q:Option Bool->iw->Prop),i<n->Q (aa (lt (f i) x)) st->Y3 M A E s (do
   let y <- elem' arr (base+i)
   if left=aj then lt' y (it x) else do
    let r <- lt' (it x) y
    jo (r.map λb=>!b)) Q st:=λi Q hi q=>by
  obtain⟨h1,h2⟩:=hf i hi;refine az (dP (ha i hi) ?_);cases left with
  |true=>exact T.cmp _ _ h1 hx h2 st Q hk q
  |false=>
   refine az (T.cmp _ _ hx h1 (Ne.symm h2) st _ hk (bq ?_));rw[T.tot _ _ hx h1 (Ne.symm h2)];simpa using q
 have mon:∀i j,i<=j->j<n->lt (f j) x=aj->lt (f i) x=aj:=λi j hij hj z=>by
  by_cases e:i=j
  ·rw[e];exact z
  ·exact T.tr _ _ _ (hf i (by omega)).1 (hf j hj).1 hx (up i j (by omega) hj) z
 show Y3 M A E s (gal left (it x) arr base n hint) Q st;unfold gal;refine az (b1 hint _ hh ?_);dsimp only;cases y0:lt (f hint) x with
 |true=>
  rw[ZE rfl];refine az (lh (gh (I:=λi c st'=>st=st' /\ ∃l o,c=(ar,l,o)/\l<o/\i+1<=o/\hint+l<n/\lt (f (hint+l)) x=aj)
   (Q:=λc st'=>st=st' /\ ∃l o,c=(ar,l,o)/\l<o/\hint+l<n/\lt (f (hint+l)) x=aj/\(hint+o<n->lt (f (hint+o)) x=ao)) ?_ ?_ ?_) ?_)
  ·rintro i c st' _ hi ⟨rfl,l,o,rfl,l1,l2,l3,l4⟩;dsimp only;by_cases z:o >= n-hint
   ·rw[ZE z];exact bq ⟨rfl,l,o,rfl,l1,l3,l4,λh=>by omega⟩
   ·rw[Zg z];refine az (b1 (hint+o) _ (by omega) ?_);cases y:lt (f (hint+o)) x with
    |true=>
     dsimp only;rw[Zg ∅];exact bq ⟨rfl,_,_,rfl,by omega,by omega,by omega,y⟩
    |false=>
     dsimp only;rw[ZE ∅];exact bq ⟨rfl,l,o,rfl,l1,l3,l4,λ_=>y⟩
  ·rintro c st' ⟨rfl,l,o,rfl,l1,l2,l3,l4⟩;exact⟨rfl,l,o,rfl,l1,l3,l4,λh=>by omega⟩
  ·exact⟨rfl,0,1,rfl,by omega,by omega,by omega,y0⟩
  rintro c st' ⟨rfl,l,o,rfl,l1,l3,l4,l5⟩;dsimp only;refine az (lh (gh (I:=λi c st'=>st=st' /\ ∃lo hi,c=(ar,lo,hi)/\lo<=hi/\hi<=n/\hi-lo+i<=n/\(∀i,i<lo->lt (f i) x=aj)/\(∀i,hi<=i->i<n->lt (f i) x=ao))
   (Q:=λc st'=>st=st' /\ ∃k,c=(ar,k,k)/\k<=n/\(∀i,i<k->lt (f i) x=aj)/\(∀i,k<=i->i<n->lt (f i) x=ao)) ?_ ?_ ?_) ?_)
  ·rintro i c st' _ hi ⟨rfl,lo,h,rfl,l1,l2,l3,l4,l5⟩;dsimp only;by_cases z:lo >= h
   ·rw[ZE z];have e:lo=h:=by omega
    subst e;exact bq ⟨rfl,lo,rfl,l2,l4,l5⟩
   ·rw[Zg z];refine az (b1 (lo+(h-lo) / 2) _ (by omega) ?_);cases y:lt (f (lo+(h-lo) / 2)) x with
    |true=>
     dsimp only;rw[ZE rfl];exact bq ⟨rfl,_,_,rfl,by omega,by omega,by omega,λj hj=>mon j _ (by omega) (by omega) y,l5⟩
    |false=>
     dsimp only;rw[Zg ∅];refine bq ⟨rfl,_,_,rfl,by omega,by omega,by omega,l4,λj hj hn=>?_⟩;cases y2:lt (f j) x with
     |false=>rfl
     |true=>rw[mon _ j hj hn y2] at y;cases y
  ·rintro c st' ⟨rfl,lo,h,rfl,l1,l2,l3,l4,l5⟩;have e:lo=h:=by omega
   subst e;exact⟨rfl,lo,rfl,l2,l4,l5⟩
  ·exact⟨rfl,_,_,rfl,by omega,by omega,by omega,λj hj=>mon j _ (by omega) l3 l4,λj hj hn=>by
    cases y2:lt (f j) x with
    |false=>rfl
    |true=>have z:=mon (hint+o) j (by omega) hn y2;rw[l5 (by omega)] at z;cases z⟩
  ·rintro c st' ⟨rfl,k,rfl,l2,l4,l5⟩;exact bq (q k l2 l4 λi hi hn=>by rw[T.tot _ _ hx (hf i hn).1 (Ne.symm (hf i hn).2),l5 i hi hn];rfl)
 |false=>
  rw[Zg ∅];refine az (lh (gh (I:=λi c st'=>st=st' /\ ∃l o,c=(ar,l,o)/\l<o/\i+1<=o/\l<=hint/\lt (f (hint-l)) x=ao)
   (Q:=λc st'=>st=st' /\ ∃l o,c=(ar,l,o)/\l<o/\l<=hint/\lt (f (hint-l)) x=ao/\(o<=hint->lt (f (hint-o)) x=aj)) ?_ ?_ ?_) ?_)
  ·rintro i c st' _ hi ⟨rfl,l,o,rfl,l1,l2,l3,l4⟩;dsimp only;by_cases z:o >= hint+1
   ·rw[ZE z];exact bq ⟨rfl,l,o,rfl,l1,l3,l4,λh=>by omega⟩
   ·rw[Zg z];refine az (b1 (hint-o) _ (by omega) ?_);cases y:lt (f (hint-o)) x with
    |true=>
     dsimp only;rw[ZE rfl];exact bq ⟨rfl,l,o,rfl,l1,l3,l4,λ_=>y⟩
    |false=>
     dsimp only;rw[Zg ∅];exact bq ⟨rfl,_,_,rfl,by omega,by omega,by omega,y⟩
  ·rintro c st' ⟨rfl,l,o,rfl,l1,l2,l3,l4⟩;exact⟨rfl,l,o,rfl,l1,l3,l4,λh=>by omega⟩
  ·exact⟨rfl,0,1,rfl,by omega,by omega,by omega,y0⟩
  rintro c st' ⟨rfl,l,o,rfl,l1,l3,l4,l5⟩;dsimp only;refine az (lh (gh (I:=λi c st'=>st=st' /\ ∃lo hi,c=(ar,lo,hi)/\lo<=hi/\hi<=n/\hi-lo+i<=n/\(∀i,i<lo->lt (f i) x=aj)/\(∀i,hi<=i->i<n->lt (f i) x=ao))
   (Q:=λc st'=>st=st' /\ ∃k,c=(ar,k,k)/\k<=n/\(∀i,i<k->lt (f i) x=aj)/\(∀i,k<=i->i<n->lt (f i) x=ao)) ?_ ?_ ?_) ?_)
  ·rintro i c st' _ hi ⟨rfl,lo,h,rfl,l1,l2,l3,l4,l5⟩;dsimp only;by_cases z:lo >= h
   ·rw[ZE z];have e:lo=h:=by omega
    subst e;exact bq ⟨rfl,lo,rfl,l2,l4,l5⟩
   ·rw[Zg z];refine az (b1 (lo+(h-lo) / 2) _ (by omega) ?_);cases y:lt (f (lo+(h-lo) / 2)) x with
    |true=>
     dsimp only;rw[ZE rfl];exact bq ⟨rfl,_,_,rfl,by omega,by omega,by omega,λj hj=>mon j _ (by omega) (by omega) y,l5⟩
    |false=>
     dsimp only;rw[Zg ∅];refine bq ⟨rfl,_,_,rfl,by omega,by omega,by omega,l4,λj hj hn=>?_⟩;cases y2:lt (f j) x with
     |false=>rfl
     |true=>rw[mon _ j hj hn y2] at y;cases y
  ·rintro c st' ⟨rfl,lo,h,rfl,l1,l2,l3,l4,l5⟩;have e:lo=h:=by omega
   subst e;exact⟨rfl,lo,rfl,l2,l4,l5⟩
  ·exact⟨rfl,_,_,rfl,by omega,by omega,by omega,λj hj=>mon j (hint-o) (by omega) (by omega) (l5 (by omega)),λj hj hn=>by
    cases y2:lt (f j) x with
    |false=>rfl
    |true=>have z:=mon (hint-l) j (by omega) hn y2;rw[l4] at z;cases z⟩
  ·rintro c st' ⟨rfl,k,rfl,l2,l4,l5⟩;exact bq (q k l2 l4 λi hi hn=>by rw[T.tot _ _ hx (hf i hn).1 (Ne.symm (hf i hn).2),l5 i hi hn];rfl)
structure Mg(lt:Nat->Nat->Bool)(la lb lo:List Nat)(ia ib:Nat):Prop where
 pm:(lo++(la.drop ia++lb.drop ib)).Perm (la++lb)
 up:lo.Pairwise λx y=>lt x y=aj
 lo:∀o∈lo,∀r∈la.drop ia++lb.drop ib,lt o r=aj
structure Two(N:Nat)(lt:Nat->Nat->Bool)(la lb:List Nat):Prop where
 ua:la.Pairwise λx y=>lt x y=aj
 ub:lb.Pairwise λx y=>lt x y=aj
 nd:(la++lb).Nodup
 bd:∀x∈la++lb,x<N
variable {l la lb:List Nat}{ia ib:Nat}
section
variable {lt:Nat->Nat->Bool}{lo:List Nat}
theorem Two.symm(T:Two N lt la lb):Two N lt lb la:=⟨T.ub,T.ua,(qv.nodup_iff).mp T.nd,λx hx=>T.bd x (qv.mem_iff.mp hx)⟩
theorem Mg.symm(m:Mg lt la lb lo ia ib):Mg lt lb la lo ib ia:=
 ⟨((qv (l₁:=lb.drop ib) (l₂:=la.drop ia)).append_left lo).trans (m.pm.trans qv),m.up,λo ho r hr=>m.lo o ho r (qv.mem_iff.mp hr)⟩
theorem Mg.takeA(T:Two N lt la lb)(m:Mg lt la lb lo ia ib)(k:Nat)(h:∀x∈(la.drop ia).take k,∀r∈lb.drop ib,lt x r=aj):Mg lt la lb (lo++(la.drop ia).take k) (ia+k) ib:=by
 have e:(la.drop ia).take k++la.drop (ia+k)=la.drop ia:=by rw[<- YN,uc]
 have ud:(la.drop ia).Pairwise λx y=>lt x y=aj:=T.ua.sublist (xk _ _);rw[<- e] at ud;have ud2:=ou.mp ud;refine⟨?_,ou.mpr ⟨m.up,ud2.1,λo ho x hx=>m.lo o ho x ?_⟩,λo ho r hr=>?_⟩
 ·have:=m.pm;rw[<- e] at this;simpa [dw] using this
 ·exact gr _ (rm hx)
 ·rcases fm.mp ho with ho | ho
  ·refine m.lo o ho r ?_;rcases fm.mp hr with hr | hr
   ·exact gr _ (by rw[<- e];exact eh _ hr)
   ·exact eh _ hr
  ·rcases fm.mp hr with hr | hr
   ·exact ud2.2.2 o ho r hr
   ·exact h o ho r hr
theorem Mg.takeB(T:Two N lt la lb)(m:Mg lt la lb lo ia ib)(k:Nat)(h:∀x∈(lb.drop ib).take k,∀r∈la.drop ia,lt x r=aj):Mg lt la lb (lo++(lb.drop ib).take k) ia (ib+k):=
 (m.symm.takeA T.symm k h).symm
noncomputable def Af(lt:Nat->Nat->Bool)(la lb l:List Nat):Prop:=l.Perm (la++lb)/\l.Pairwise λx y=>lt x y=aj
theorem Mg.endA(T:Two N lt la lb)(m:Mg lt la lb lo ia ib)(h:∀x∈la.drop ia,∀r∈lb.drop ib,lt x r=aj):Af lt la lb (lo++la.drop ia++lb.drop ib):=by
 refine⟨by rw[dw];exact m.pm,?_⟩;rw[dw];refine ou.mpr ⟨m.up,ou.mpr ⟨T.ua.sublist (xk _ _),T.ub.sublist (xk _ _),h⟩,m.lo⟩
theorem Mg.endB(T:Two N lt la lb)(m:Mg lt la lb lo ia ib)(h:∀x∈lb.drop ib,∀r∈la.drop ia,lt x r=aj):Af lt la lb (lo++lb.drop ib++la.drop ia):=by
 have:=m.symm.endA T.symm h;exact⟨this.1.trans qv,this.2⟩
theorem sM(h:i<l.length):l.drop i=l.getD i 0::l.drop (i+1):=by
 rw[gx h];simp[df,h]
theorem Two.headA(T:Two N lt la lb)(tr:∀i j k,i<N->j<N->k<N->lt i j=aj->lt j k=aj->lt i k=aj){x:Nat}(hx:x<N)(hi:ia<la.length)(h:lt x (la.getD ia 0)=aj):∀r∈la.drop ia,lt x r=aj:=λr hr=>by
 rw[sM hi] at hr;rcases dm.mp hr with e | hr
 ·rw[e];exact h
 ·have ud:(la.drop ia).Pairwise λx y=>lt x y=aj:=T.ua.sublist (xk _ _);rw[sM hi] at ud;have b1:la.getD ia 0<N:=T.bd _ (gr _ (by rw[fy,au hi];exact fw hi));have b2:r<N:=T.bd r (gr _ (W6 hr));exact tr _ _ _ hx b1 b2 h ((iz.mp ud).1 r hr)
end
variable {j:Nat}{G:Prop}{σ:Type}
section
variable {lt:Nat->Nat->Bool}
structure SEq(st st':iw):Prop where
 k:mj st'=mj st
 a:uz st'=uz st
 p:cr st'=cr st
 f:vi st'=vi st
theorem SEq.refl(st:iw):SEq st st:=⟨rfl,rfl,rfl,rfl⟩
noncomputable abbrev dS(it:Nat->qp)(l:List Nat):Array qp:=(l.map it).toArray
theorem cE(h:i<l.length):(dS it l)[i]?=aa (it (l.getD i 0)):=by
 simp[df,h]
theorem aY{x:Nat}:(dS it l).push (it x)=dS it (l++[x]):=by simp[dS]
theorem b5{m:List Nat}:dS it l++dS it m=dS it (l++m):=by simp[dS]
theorem oQ:(dS it l).size=l.length:=by simp[dS]
theorem aZ:(dS it l).extract i j=dS it ((l.drop i).take (j-i)):=by
 simp[dS,X0,Zl]
theorem cI:(dS it l).extract i l.length=dS it (l.drop i):=by
 rw[aZ,pf (by simp)]
theorem Two.neAB(W:Two N lt la lb)(hi:i<la.length)(hj:j<lb.length):la.getD i 0≠lb.getD j 0:=by
 have e1:la.getD i 0=la[i]:=by simp[df,hi]
 have e2:lb.getD j 0=lb[j]:=by simp[df,hj]
 rw[e1,e2];exact(vj.mp W.nd).2.2 _ (fw hi) _ (fw hj)
theorem Two.ltA(W:Two N lt la lb)(hi:i<la.length):la.getD i 0<N:=W.bd _ (gr _ (by rw[fy,au hi];exact fw hi))
theorem Two.upA(W:Two N lt la lb)(hij:i<j)(hj:j<la.length):lt (la.getD i 0) (la.getD j 0)=aj:=by
 have e1:la.getD i 0=la[i]'⋯:=by simp[df,show i<la.length by right]
 have e2:la.getD j 0=la[j]:=by simp[df,hj]
 rw[e1,e2];exact da.mp W.ua i j ⋯ hj hij
variable {lo:List Nat}
structure Trn(N:Nat)(lt:Nat->Nat->Bool):Prop where
 tr:∀i j k,i<N->j<N->k<N->lt i j=aj->lt j k=aj->lt i k=aj
theorem _root_.L2.Tm.trn(T:Tm M A E s N lt it κ):Trn N lt:=⟨T.tr⟩
theorem Mg.stepB(T:Trn N lt)(W:Two N lt la lb)(m:Mg lt la lb lo ia ib)(hi:ia<la.length)(hj:ib<lb.length)(h:lt (lb.getD ib 0) (la.getD ia 0)=aj):Mg lt la lb (lo++[lb.getD ib 0]) ia (ib+1):=by
 have e:(lb.drop ib).take 1=[lb.getD ib 0]:=by rw[sM hj];rfl
 have:=m.takeB W 1 (by
  rw[e];intro x hx;rw[fe.mp hx];exact W.headA T.tr (W.symm.ltA hj) hi h)
 rwa[e] at this
theorem Mg.stepA(T:Trn N lt)(W:Two N lt la lb)(m:Mg lt la lb lo ia ib)(hi:ia<la.length)(hj:ib<lb.length)(h:lt (la.getD ia 0) (lb.getD ib 0)=aj):Mg lt la lb (lo++[la.getD ia 0]) (ia+1) ib:=(m.symm.stepB T W.symm hj hi h).symm
theorem Mg.galA(T:Trn N lt)(W:Two N lt la lb)(m:Mg lt la lb lo ia ib){k:Nat}(hj:ib<lb.length)(hk:k<=la.length-ia)(h:∀i,i<k->lt (la.getD (ia+i) 0) (lb.getD ib 0)=aj):Mg lt la lb (lo++(la.drop ia).take k) (ia+k) ib:=
 m.takeA W k λx hx r hr=>by
  obtain⟨i,hi,e⟩:=cp.mp hx;simp at hi;have e2:x=la.getD (ia+i) 0:=by
   rw[<- e];simp[df,show ia+i<la.length by right]
  subst e2;exact W.symm.headA T.tr (W.ltA ⋯) hj (h i ⋯) r hr
theorem Mg.galB(T:Trn N lt)(W:Two N lt la lb)(m:Mg lt la lb lo ia ib){k:Nat}(hi:ia<la.length)(hk:k<=lb.length-ib)(h:∀i,i<k->lt (lb.getD (ib+i) 0) (la.getD ia 0)=aj):Mg lt la lb (lo++(lb.drop ib).take k) ia (ib+k):=
 (m.symm.galA T W.symm hi hk h).symm
theorem Mg.doneA(W:Two N lt la lb)(m:Mg lt la lb lo ia ib)(h:ia=la.length \/ ib=lb.length):Af lt la lb (lo++la.drop ia++lb.drop ib):=m.endA W λx hx r hr=>by
 rcases h with h | h
 ·rw[h,uy] at hx;cases hx
 ·rw[h,uy] at hr;cases hr
theorem Mg.lastA(W:Two N lt la lb)(m:Mg lt la lb lo ia ib)(hz:∀r∈lb,lt r (la.getD (la.length-1) 0)=aj)(h:ia+1=la.length):Af lt la lb (lo++lb.drop ib++la.drop ia):=m.endB W λx hx r hr=>by
 rw[sM ⋯,h,uy] at hr;rw[fe.mp hr,show ia=la.length-1 by right];exact hz x (W6 hx)
theorem I0(T:Tm M A E s N lt it κ)(W:Two N lt la lb)(hk:mj st=κ)(hi:ia<la.length)(hj:ib<lb.length)
  (q:∀k,k<=la.length-ia->(∀i,i<k->lt (la.getD (ia+i) 0) (lb.getD ib 0)=aj)->(∀i,k<=i->i<la.length-ia->lt (lb.getD ib 0) (la.getD (ia+i) 0)=aj)->Q (aa k) st):
  Y3 M A E s (gal left (it (lb.getD ib 0)) (dS it la) ia (la.length-ia) 0) Q st:=
 AB T (f:=λi=>la.getD (ia+i) 0) hk (W.symm.ltA hj) (λi h=>cE ⋯) (λi h=>⟨W.ltA ⋯,W.neAB ⋯ hj⟩) (λi j h h2=>W.upA ⋯ ⋯) ⋯ q
theorem G9{c1 c2:Prop}[Decidable c1][Decidable c2]{p1 p2:Array qp}{k:iw->StateT iw X8 (Array qp)}{Q:Array qp->iw->Prop}(h1:c1->Q p1 st)(h2:¬c1->c2->Q p2 st)(h3:¬c1 -> ¬c2->Y3 M A E s (k st) Q st):
  Y3 M A E s (if c1 then jo p1 else if c2 then jo p2 else bind get k) Q st:=by
 by_cases z1:c1
 ·rw[ZE z1];exact bq (h1 z1)
 ·rw[Zg z1];by_cases z2:c2
  ·rw[ZE z2];exact bq (h2 z1 z2)
  ·rw[Zg z2];exact az (vk (h3 z1 z2))
theorem LC{P:Nat->Prop}(main:(∀g,P g)->G)(key:∀g,P g):G:=main key
theorem EA{P F:List Nat->Nat->Prop}(main:(∀lo ia,F lo ia->P lo ia)->G)(key:∀lo ia,F lo ia->P lo ia):G:=main key
theorem gP{c:Prop}[hc:Decidable c]{a b:StateT σ X8 α}{Q:α->σ->Prop}{st:σ}(h:c)(H:Y3 M A E s a Q st):Y3 M A E s (if c then a else b) Q st:=by rw[ZE h];exact H
theorem gQ{c:Prop}[hc:Decidable c]{a b:StateT σ X8 α}{Q:α->σ->Prop}{st:σ}(h:¬c)(H:Y3 M A E s b Q st):Y3 M A E s (if c then a else b) Q st:=by rw[Zg h];exact H
theorem Js(T:Tm M A E s N lt it κ)(W:Two N lt la lb){Q:Array qp->iw->Prop}(hk:mj st=κ)(ha:0<la.length)(hb:0<lb.length)(h0:lt (lb.getD 0 0) (la.getD 0 0)=aj)(hz:∀r∈lb,lt r (la.getD (la.length-1) 0)=aj)
  (q:∀l st',Af lt la lb l->SEq st st'->Q (dS it l) st'):Y3 M A E s (Oz (dS it la) (dS it lb)) Q st:=by
 have m0:Mg lt la lb [] 0 0:=⟨by simp,.nil,λo ho=>by cases ho⟩;have m1:=m0.stepB T.trn W ha hb h0;have sa:(dS it la).size=la.length:=oQ;have sb:(dS it lb).size=lb.length:=oQ;unfold Oz;refine az (Vg (mf ⟨rfl,?_⟩));refine az (dP (cE hb) ?_);refine G9 (λc1=>?_) (λc1 c2=>?_) λc1 c2=>?_
 ·simp only[sa,sb,cI,beq_iff_eq] at c1 ⊢;rw[show #[it (lb.getD 0 0)]=dS it ([]++[lb.getD 0 0]) from rfl];simp only[b5];exact q _ _ (by have:=m1.doneA W (.inr c1);simpa using this) (.refl st)
 ·simp only[sa,sb,cI,beq_iff_eq] at c2 ⊢;rw[show #[it (lb.getD 0 0)]=dS it ([]++[lb.getD 0 0]) from rfl];simp only[b5];exact q _ _ (by have:=m1.lastA W hz c2;simpa using this) (.refl st)
 simp only[sa,sb,beq_iff_eq] at c1 c2;refine az (lh (gh
  (I:=λx c st'=>SEq st st' /\ ∃X lo ia ib g,c=(ar,X,ia,ib,g)/\X=dS it lo/\Mg lt la lb lo ia ib/\ia+1<la.length/\ib<lb.length/\x+1<=ia+ib)
  (Q:=λc st'=>SEq st st' /\ ∃X l c',c=(aa X,c')/\X=dS it l/\Af lt la lb l) ?step ?fin ?init) ?post)
 case fin=>
  rintro c st' ⟨_,_,lo,ia,ib,g,rfl,rfl,m,h1,h2,h3⟩;right
 case init=>exact⟨.refl st,_,_,_,_,_,rfl,by first | rfl | ((try simp only[cI]);simp only[aY,b5,aZ,di]),m1,⋯,⋯,⋯⟩
 case post=>
  rintro c st' ⟨e,_,l,c',rfl,rfl,d⟩;exact bq (q l st' d e)
 case step=>
  rintro x c st' _ hx ⟨e,_,lo,ia,ib,g,rfl,rfl,m,h1,h2,h3⟩;dsimp only;generalize (dS it la).size=na at sa hx ⊢;generalize (dS it lb).size=nb at sb hx ⊢;subst sa sb;refine az (lh (gh
   (I:=λy c st'=>SEq st st' /\ ∃X lo ia' ib' ac bc,c=(ar,X,ia',ib',ac,bc)/\X=dS it lo/\Mg lt la lb lo ia' ib'/\ia'+1<la.length/\ib'<lb.length/\ia+ib+y<=ia'+ib')
   (Q:=λc st'=>SEq st st'/\((∃X l c',c=(aa X,c')/\X=dS it l/\Af lt la lb l) \/ ∃X lo ia' ib' ac bc,c=(ar,X,ia',ib',ac,bc)/\X=dS it lo/\Mg lt la lb lo ia' ib'/\ia'+1<la.length/\ib'<lb.length/\ia+ib+1<=ia'+ib')) ?s1 ?f1 ?i1) ?p1)
  case i1=>exact⟨e,_,_,_,_,_,_,rfl,by first | rfl | ((try simp only[cI]);simp only[aY,b5,aZ,di]),m,h1,h2,bt _⟩
  case f1=>
   rintro c st2 ⟨e2,_,lo2,ia2,ib2,ac,bc,rfl,rfl,m2,a1,a2,a3⟩;exact⟨e2,.inr ⟨_,_,_,_,_,_,rfl,by first | rfl | ((try simp only[cI]);simp only[aY,b5,aZ,di]),m2,a1,a2,⋯⟩⟩
  case s1=>
   rintro y c st2 _ hy ⟨e2,_,lo2,ia2,ib2,ac,bc,rfl,rfl,m2,a1,a2,a3⟩;dsimp only;refine az (dP (cE a2) (az (dP (cE ⋯) (az (T.cmp _ _ (W.symm.ltA a2) (W.ltA ⋯) (Ne.symm (W.neAB ⋯ a2)) _ _ (e2.k.trans hk) ?_)))));cases y0:lt (lb.getD ib2 0) (la.getD ia2 0) with
   |true=>
    dsimp only;refine gP rfl ?_;refine az (dP (cE a2) ?_);have m3:=m2.stepB T.trn W ⋯ a2 y0;by_cases z:ib2+1=lb.length
    ·refine gP (beq_iff_eq.mpr z) ?_;exact bq ⟨e2,.inl ⟨_,_,_,rfl,by first | rfl | ((try simp only[cI]);simp only[aY,b5,aZ,di]),m3.doneA W (.inr z)⟩⟩
    ·refine gQ (λh=>z (beq_iff_eq.mp h)) ?_;split
     ·exact bq ⟨e2,.inr ⟨_,_,_,_,_,_,rfl,by first | rfl | ((try simp only[cI]);simp only[aY,b5,aZ,di]),m3,a1,⋯,⋯⟩⟩
     ·exact bq ⟨e2,_,_,_,_,_,_,rfl,by first | rfl | ((try simp only[cI]);simp only[aY,b5,aZ,di]),m3,a1,⋯,⋯⟩
   |false=>
    dsimp only;refine gQ ∅ ?_;refine az (dP (cE ⋯) ?_);have y1:lt (la.getD ia2 0) (lb.getD ib2 0)=aj:=by rw[T.tot _ _ (W.ltA ⋯) (W.symm.ltA a2) (W.neAB ⋯ a2),y0];rfl
    have m3:=m2.stepA T.trn W ⋯ a2 y1;by_cases z:ia2+1+1=la.length
    ·refine gP (beq_iff_eq.mpr z) ?_;exact bq ⟨e2,.inl ⟨_,_,_,rfl,by first | rfl | ((try simp only[cI]);simp only[aY,b5,aZ,di]),m3.lastA W hz z⟩⟩
    ·refine gQ (λh=>z (beq_iff_eq.mp h)) ?_;split
     ·exact bq ⟨e2,.inr ⟨_,_,_,_,_,_,rfl,by first | rfl | ((try simp only[cI]);simp only[aY,b5,aZ,di]),m3,⋯,a2,⋯⟩⟩
     ·exact bq ⟨e2,_,_,_,_,_,_,rfl,by first | rfl | ((try simp only[cI]);simp only[aY,b5,aZ,di]),m3,⋯,a2,⋯⟩
  case p1=>
   rintro c st2 ⟨e2,⟨_,l,c',rfl,rfl,d⟩ | ⟨_,lo2,ia2,ib2,ac,bc,rfl,rfl,m2,a1,a2,a3⟩⟩
   ·exact bq ⟨e2,_,l,_,rfl,rfl,d⟩
   dsimp only;refine az (Vg (mf ⟨rfl,?_⟩));refine az (lh (gh
    (I:=λy c st'=>SEq st st' /\ ∃X lo ia' ib' g' ac bc,c=(ar,X,ia',ib',g',ac,bc)/\X=dS it lo/\Mg lt la lb lo ia' ib'/\ia'+1<la.length/\ib'<lb.length/\ia2+ib2+y<=ia'+ib')
    (Q:=λc st'=>SEq st st'/\((∃X l c',c=(aa X,c')/\X=dS it l/\Af lt la lb l) \/ ∃X lo ia' ib' g' ac bc,c=(ar,X,ia',ib',g',ac,bc)/\X=dS it lo/\Mg lt la lb lo ia' ib'/\ia'+1<la.length/\ib'<lb.length/\ia2+ib2<=ia'+ib')) ?s2 ?f2 ?i2) ?p2)
   case i2=>exact⟨e2,_,_,_,_,_,_,_,rfl,by first | rfl | ((try simp only[cI]);simp only[aY,b5,aZ,di]),m2,a1,a2,bt _⟩
   case f2=>
    rintro c st3 ⟨e3,_,lo3,ia3,ib3,g3,ac3,bc3,rfl,rfl,m3,b1,b2,b3⟩;exact⟨e3,.inr ⟨_,_,_,_,_,_,_,rfl,by first | rfl | ((try simp only[cI]);simp only[aY,b5,aZ,di]),m3,b1,b2,⋯⟩⟩
   case p2=>
    rintro c st3 ⟨e3,⟨_,l,c',rfl,rfl,d⟩ | ⟨_,lo3,ia3,ib3,g3,ac3,bc3,rfl,rfl,m3,b1,b2,b3⟩⟩
    ·exact bq ⟨e3,_,l,_,rfl,rfl,d⟩
    dsimp only;refine az (lq ?_);exact bq ⟨⟨e3.k,e3.a,e3.p,e3.f⟩,_,_,_,_,_,rfl,by first | rfl | ((try simp only[cI]);simp only[aY,b5,aZ,di]),m3,b1,b2,⋯⟩
   case s2=>
    rintro y c st3 _ hy ⟨e3,_,lo3,ia3,ib3,g3,ac3,bc3,rfl,rfl,m3,b1,b2,b3⟩;dsimp only;refine' LC (λkey=>?mn1) ?ky1
    case mn1=>
     by_cases hg:g3 > 1
     ·refine gP hg ?_;generalize g3-1=g;exact key g
     ·refine gQ hg ?_;exact key g3
    case ky1=>
     intro g;refine az (lq ?_);refine az (dP (cE b2) ?_);refine az (I0 (left:=ao) (ia:=ia3) (ib:=ib3) T W (e3.k.trans hk) ⋯ b2 λk k1 k2 k3=>?_);dsimp only;refine' EA (F:=λlo ia=>Mg lt la lb lo ia ib3/\ia+1<la.length/\ia3<=ia/\lt (lb.getD ib3 0) (la.getD ia 0)=aj) (λkey=>?mn2) ?ky2
     case mn2=>
      by_cases kz:k > 0
      ·refine gP kz ?_;have m4:=m3.galA T.trn W b2 k1 k2;by_cases z1:ia3+k+1=la.length
       ·refine gP (beq_iff_eq.mpr z1) ?_;exact bq ⟨⟨e3.k,e3.a,e3.p,e3.f⟩,.inl ⟨_,_,_,rfl,by first | rfl | ((try simp only[cI]);simp only[aY,b5,aZ,di]),m4.lastA W hz z1⟩⟩
       refine gQ (λh=>z1 (beq_iff_eq.mp h)) ?_;by_cases z2:ia3+k=la.length
       ·refine gP (beq_iff_eq.mpr z2) ?_;exact bq ⟨⟨e3.k,e3.a,e3.p,e3.f⟩,.inl ⟨_,_,_,rfl,by first | rfl | ((try simp only[cI]);simp only[aY,b5,aZ,di]),m4.doneA W (.inl z2)⟩⟩
       refine gQ (λh=>z2 (beq_iff_eq.mp h)) ?_;have hl:=k3 k (bt _) ⋯;have c1:ia3+k+1<la.length:=⋯;have c2:ia3<=ia3+k:=⋯;rw[show dS it lo3++(dS it la).extract ia3 (ia3+k)=dS it (lo3++(la.drop ia3).take k) by rw[aZ,b5,di]];generalize lo3++(la.drop ia3).take k=lo at m4 ⊢;generalize ia3+k=ia at m4 hl c1 c2 ⊢;exact key lo ia ⟨m4,c1,c2,hl⟩
      ·refine gQ kz ?_;have hl:=k3 0 ⋯ ⋯;rw[yp] at hl;exact key lo3 ia3 ⟨m3,b1,bt _,hl⟩
     case ky2=>
      rintro lo ia ⟨m4,c1,c2,hl⟩;refine az (dP (cE b2) ?_);have m5:=m4.stepB T.trn W ⋯ b2 hl;by_cases z1:ib3+1=lb.length
      ·refine gP (beq_iff_eq.mpr z1) ?_;exact bq ⟨⟨e3.k,e3.a,e3.p,e3.f⟩,.inl ⟨_,_,_,rfl,by first | rfl | ((try simp only[cI]);simp only[aY,b5,aZ,di]),m5.doneA W (.inr z1)⟩⟩
      refine gQ (λh=>z1 (beq_iff_eq.mp h)) ?_;refine az (dP (cE ⋯) ?_);refine az (I0 (left:=aj) (ia:=ib3+1) (ib:=ia) T W.symm (e3.k.trans hk) ⋯ ⋯ λj j1 j2 j3=>?_);dsimp only;rw[aY];generalize lo++[lb.getD ib3 0]=lo' at m5 ⊢;refine' EA (F:=λlo ib=>Mg lt la lb lo ia ib/\ib<lb.length/\ib3+1<=ib/\lt (la.getD ia 0) (lb.getD ib 0)=aj) (λkey=>?mn3) ?ky3
      case mn3=>
       by_cases jz:j > 0
       ·refine gP jz ?_;have m6:=m5.galB T.trn W ⋯ j1 j2;by_cases z4:ib3+1+j=lb.length
        ·refine gP (beq_iff_eq.mpr z4) ?_;exact bq ⟨⟨e3.k,e3.a,e3.p,e3.f⟩,.inl ⟨_,_,_,rfl,by first | rfl | ((try simp only[cI]);simp only[aY,b5,aZ,di]),m6.doneA W (.inr z4)⟩⟩
        refine gQ (λh=>z4 (beq_iff_eq.mp h)) ?_;have hl2:=j3 j (bt _) ⋯;have d1:ib3+1+j<lb.length:=⋯;have d2:ib3+1<=ib3+1+j:=⋯;rw[show dS it lo'++(dS it lb).extract (ib3+1) (ib3+1+j)=dS it (lo'++(lb.drop (ib3+1)).take j) by rw[aZ,b5,di]];generalize lo'++(lb.drop (ib3+1)).take j=lo at m6 ⊢;generalize ib3+1+j=ib at m6 hl2 d1 d2 ⊢;exact key lo ib ⟨m6,d1,d2,hl2⟩
       ·refine gQ jz ?_;have hl2:=j3 0 ⋯ ⋯;rw[yp] at hl2;exact key lo' (ib3+1) ⟨m5,⋯,bt _,hl2⟩
      case ky3=>
       rintro lo ib ⟨m6,d1,d2,hl2⟩;have m7:=m6.stepA T.trn W ⋯ d1 hl2;refine az (dP (cE ⋯) ?_);by_cases z3:ia+1+1=la.length
       ·refine gP (beq_iff_eq.mpr z3) ?_;exact bq ⟨⟨e3.k,e3.a,e3.p,e3.f⟩,.inl ⟨_,_,_,rfl,by first | rfl | ((try simp only[cI]);simp only[aY,b5,aZ,di]),m7.lastA W hz z3⟩⟩
       refine gQ (λh=>z3 (beq_iff_eq.mp h)) ?_;by_cases z5:(decide (k<7)&&decide (j<7))=aj
       ·refine gP z5 ?_;exact bq ⟨⟨e3.k,e3.a,e3.p,e3.f⟩,.inr ⟨_,_,_,_,_,_,_,rfl,by first | rfl | ((try simp only[cI]);simp only[aY,b5,aZ,di]),m7,⋯,d1,⋯⟩⟩
       ·refine gQ z5 ?_;exact bq ⟨⟨e3.k,e3.a,e3.p,e3.f⟩,_,_,_,_,_,_,_,rfl,by first | rfl | ((try simp only[cI]);simp only[aY,b5,aZ,di]),m7,⋯,d1,⋯⟩
end
noncomputable abbrev fl(lt:Nat->Nat->Bool):Nat->Nat->Bool:=λx y=>lt y x
variable {na nb:Nat}
section
variable {lt:Nat->Nat->Bool}{lo:List Nat}
theorem Trn.fl(T:Trn N lt):Trn N (fl lt):=⟨λi j k a b c h1 h2=>T.tr k j i c b a h2 h1⟩
theorem Two.fl(W:Two N lt la lb):Two N (fl lt) la.reverse lb.reverse where
 ua:=vw.mpr W.ua
 ub:=vw.mpr W.ub
 nd:=by
  have:=W.nd;refine(List.Perm.nodup_iff ?_).mp this;exact(pq la).symm.append (pq lb).symm
 bd:=λx hx=>W.bd x (by simpa using hx)
structure Hg(lt:Nat->Nat->Bool)(la lb lo:List Nat)(na nb:Nat):Prop where
 m:Mg (fl lt) la.reverse lb.reverse lo (la.length-na) (lb.length-nb)
 a:na<=la.length
 b:nb<=lb.length
theorem rR(h0:0<n)(h:n<=l.length):l.reverse.getD (l.length-n) 0=l.getD (n-1) 0:=by
 simp only[fy];rw[List.getElem?_reverse ⋯];congr 2;right
theorem nX(h:n<=l.length):l.reverse.drop (l.length-n)=(l.take n).reverse:=by
 rw[List.drop_reverse];congr 2;right
theorem J9{t:Nat}(h1:t<=n)(h:n<=l.length):(l.reverse.drop (l.length-n)).take (n-t)=((l.drop t).take (n-t)).reverse:=by
 rw[nX h,List.take_reverse,ef,pi h];congr 1;rw[show n-(n-t)=t by right,List.drop_take]
theorem Hg.symm(h:Hg lt la lb lo na nb):Hg lt lb la lo nb na:=⟨h.m.symm,h.b,h.a⟩
theorem Hg.stepA(T:Trn N lt)(W:Two N lt la lb)(h:Hg lt la lb lo na nb)(h1:0<na)(h2:0<nb)(z:lt (lb.getD (nb-1) 0) (la.getD (na-1) 0)=aj):Hg lt la lb (lo++[la.getD (na-1) 0]) (na-1) nb:=by
 have a:=h.a;have b:=h.b;have:=h.m.stepA T.fl W.fl (by simp;right) (by simp;right) (by rw[rR h1 h.a,rR h2 h.b];exact z);rw[rR h1 h.a,show la.length-na+1=la.length-(na-1) by right] at this;exact⟨this,⋯,h.b⟩
theorem Hg.stepB(T:Trn N lt)(W:Two N lt la lb)(h:Hg lt la lb lo na nb)(h1:0<na)(h2:0<nb)(z:lt (la.getD (na-1) 0) (lb.getD (nb-1) 0)=aj):Hg lt la lb (lo++[lb.getD (nb-1) 0]) na (nb-1):=(h.symm.stepA T W.symm h2 h1 z).symm
theorem Hg.galA(T:Trn N lt)(W:Two N lt la lb)(h:Hg lt la lb lo na nb){t:Nat}(h2:0<nb)(ht:t<=na)(z:∀i,t<=i->i<na->lt (lb.getD (nb-1) 0) (la.getD i 0)=aj):Hg lt la lb (lo++((la.drop t).take (na-t)).reverse) t nb:=by
 have a:=h.a;have b:=h.b;have:=h.m.galA T.fl W.fl (k:=na-t) (by simp;right) (by simp;right) (λi hi=>by
  rw[rR h2 h.b,show la.length-na+i=la.length-(na-i) by right,rR ⋯ ⋯];exact z (na-i-1) ⋯ ⋯)
 rw[J9 ht h.a,show la.length-na+(na-t)=la.length-t by right] at this;exact⟨this,⋯,h.b⟩
theorem Hg.galB(T:Trn N lt)(W:Two N lt la lb)(h:Hg lt la lb lo na nb){t:Nat}(h1:0<na)(ht:t<=nb)(z:∀i,t<=i->i<nb->lt (la.getD (na-1) 0) (lb.getD i 0)=aj):Hg lt la lb (lo++((lb.drop t).take (nb-t)).reverse) na t:=(h.symm.galA T W.symm h1 ht z).symm
theorem Af.rev(d:Af (fl lt) la.reverse lb.reverse l):Af lt la lb l.reverse:=
 ⟨(pq l).trans (d.1.trans ((pq la).append (pq lb))),vw.mpr d.2⟩
theorem Hg.first(W:Two N lt la lb)(h:Hg lt la lb lo na nb)(z:∀x∈la.take na,∀r∈lb.take nb,lt r x=aj):Af lt la lb (lb.take nb++la.take na++lo.reverse):=by
 have:=(h.m.endA W.fl (by rw[nX h.a,nX h.b];intro x hx r hr;exact z x (by simpa using hx) r (by simpa using hr))).rev;rw[nX h.a,nX h.b] at this;simpa using this
theorem Hg.done(W:Two N lt la lb)(h:Hg lt la lb lo na nb)(z:na=0 \/ nb=0):Af lt la lb (la.take na++lb.take nb++lo.reverse):=by
 have:=h.first W (λx hx r hr=>by rcases z with z | z<;>subst z<;>first | (simp at hx;done) | (simp at hr;done));rcases z with z | z
 ·subst z;simpa using this
 ·subst z;simpa using this
theorem cU:(dS it l).reverse=dS it l.reverse:=by simp[dS]
theorem cM:(dS it l).extract 0 n=dS it (l.take n):=by rw[aZ];simp
theorem IA(T:Tm M A E s N lt it κ)(W:Two N lt la lb)(hk:mj st=κ)(h1:0<na)(ha:na<=la.length)(h2:0<nb)(hb:nb<=lb.length)
  (q:∀t,t<=na->(∀i,i<t->lt (la.getD i 0) (lb.getD (nb-1) 0)=aj)->(∀i,t<=i->i<na->lt (lb.getD (nb-1) 0) (la.getD i 0)=aj)->Q (aa t) st):
  Y3 M A E s (gal left (it (lb.getD (nb-1) 0)) (dS it la) 0 na (na-1)) Q st:=
 AB T (f:=λi=>la.getD i 0) hk (W.symm.ltA ⋯) (λi h=>by rw[rn];exact cE ⋯) (λi h=>⟨W.ltA ⋯,W.neAB ⋯ ⋯⟩) (λi j h h2=>W.upA h ⋯) ⋯ q
theorem Jt(T:Tm M A E s N lt it κ)(W:Two N lt la lb){Q:Array qp->iw->Prop}(hk:mj st=κ)(ha:0<la.length)(hb:0<lb.length)(h0:∀x∈la,lt (lb.getD 0 0) x=aj)(hz:lt (lb.getD (lb.length-1) 0) (la.getD (la.length-1) 0)=aj)
  (q:∀l st',Af lt la lb l->SEq st st'->Q (dS it l) st'):Y3 M A E s (P6 (dS it la) (dS it lb)) Q st:=by
 have m0:Hg lt la lb [] la.length lb.length:=⟨⟨by simpa using(pq la).append (pq lb) |>.trans (List.Perm.refl _) |>.symm.symm.trans ((pq la).append (pq lb)).symm,.nil,λo ho=>by cases ho⟩,bt _,bt _⟩;have m1:=m0.stepA T.trn W ha hb hz;have fst:∀{lo na nb},Hg lt la lb lo na nb->nb=1->Af lt la lb (lb.take nb++la.take na++lo.reverse):=λ{lo na nb} m e=>m.first W λx hx r hr=>by
  subst e;have er:r=lb.getD 0 0:=by
   cases lb with
   |nil=>simp at hb
   |cons b l=>simpa using hr
  rw[er];exact h0 x (rm hx)
 have sa:(dS it la).size=la.length:=oQ;have sb:(dS it lb).size=lb.length:=oQ;unfold P6;refine az (Vg (mf ⟨rfl,?_⟩));refine az (dP (x:=it (la.getD (la.length-1) 0)) (by rw[sa];exact cE ⋯) ?_);refine G9 (λc1=>?_) (λc1 c2=>?_) λc1 c2=>?_
 ·simp only[sa,sb,cM,beq_iff_eq] at c1 ⊢;rw[show #[it (la.getD (la.length-1) 0)]=dS it ([]++[la.getD (la.length-1) 0]) from rfl];simp only[cU,b5];exact q _ _ (m1.done W (.inl c1)) (.refl st)
 ·simp only[sa,sb,cM,beq_iff_eq] at c2 ⊢;rw[show #[it (la.getD (la.length-1) 0)]=dS it ([]++[la.getD (la.length-1) 0]) from rfl];simp only[cU,b5];exact q _ _ (fst m1 c2) (.refl st)
 simp only[sa,sb,beq_iff_eq] at c1 c2;refine az (lh (gh
  (I:=λx c st'=>SEq st st' /\ ∃X lo na nb g,c=(ar,na,nb,X,g)/\X=dS it lo/\Hg lt la lb lo na nb/\0<na/\1<nb/\na+nb+x+1<=la.length+lb.length)
  (Q:=λc st'=>SEq st st' /\ ∃X l c',c=(aa X,c')/\X=dS it l/\Af lt la lb l) ?step ?fin ?init) ?post)
 case fin=>
  rintro c st' ⟨_,_,lo,na,nb,g,rfl,rfl,m,h1,h2,h3⟩;right
 case init=>exact⟨.refl st,_,[]++[la.getD (la.length-1) 0],_,_,_,rfl,rfl,by rw[sa,sb];exact m1,⋯,⋯,⋯⟩
 case post=>
  rintro c st' ⟨e,_,l,c',rfl,rfl,d⟩;exact bq (q l st' d e)
 case step=>
  rintro x c st' _ hx ⟨e,_,lo,na,nb,g,rfl,rfl,m,h1,h2,h3⟩;dsimp only;generalize (dS it la).size=sza at sa hx ⊢;generalize (dS it lb).size=szb at sb hx ⊢;subst sa sb;refine az (lh (gh
   (I:=λy c st'=>SEq st st' /\ ∃X lo na' nb' ac bc,c=(ar,na',nb',X,ac,bc)/\X=dS it lo/\Hg lt la lb lo na' nb'/\0<na'/\1<nb'/\na'+nb'+y<=na+nb)
   (Q:=λc st'=>SEq st st'/\((∃X l c',c=(aa X,c')/\X=dS it l/\Af lt la lb l) \/ ∃X lo na' nb' ac bc,c=(ar,na',nb',X,ac,bc)/\X=dS it lo/\Hg lt la lb lo na' nb'/\0<na'/\1<nb'/\na'+nb'+1<=na+nb)) ?s1 ?f1 ?i1) ?p1)
  case i1=>exact⟨e,_,_,_,_,_,_,rfl,by first | rfl | ((try simp only[cM]);simp only[aY,b5,aZ,cU]),m,h1,h2,bt _⟩
  case f1=>
   rintro c st2 ⟨e2,_,lo2,na2,nb2,ac,bc,rfl,rfl,m2,a1,a2,a3⟩;exact⟨e2,.inr ⟨_,_,_,_,_,_,rfl,by first | rfl | ((try simp only[cM]);simp only[aY,b5,aZ,cU]),m2,a1,a2,⋯⟩⟩
  case s1=>
   rintro y c st2 _ hy ⟨e2,_,lo2,na2,nb2,ac,bc,rfl,rfl,m2,a1,a2,a3⟩;have pa:=m2.a;have pb:=m2.b;dsimp only;refine az (dP (cE ⋯) (az (dP (cE ⋯) (az (T.cmp _ _ (W.symm.ltA ⋯) (W.ltA ⋯) (Ne.symm (W.neAB ⋯ ⋯)) _ _ (e2.k.trans hk) ?_)))));cases y0:lt (lb.getD (nb2-1) 0) (la.getD (na2-1) 0) with
   |true=>
    dsimp only;rw[ZE rfl];refine az (dP (cE ⋯) ?_);have m3:=m2.stepA T.trn W a1 ⋯ y0;by_cases z:na2-1=0
    ·rw[ZE (beq_iff_eq.mpr z)];exact bq ⟨e2,.inl ⟨_,_,_,rfl,by first | rfl | ((try simp only[cM]);simp only[aY,b5,aZ,cU]),m3.done W (.inl z)⟩⟩
    ·rw[Zg (λh=>z (beq_iff_eq.mp h))];split
     ·exact bq ⟨e2,.inr ⟨_,_,_,_,_,_,rfl,by first | rfl | ((try simp only[cM]);simp only[aY,b5,aZ,cU]),m3,⋯,a2,⋯⟩⟩
     ·exact bq ⟨e2,_,_,_,_,_,_,rfl,by first | rfl | ((try simp only[cM]);simp only[aY,b5,aZ,cU]),m3,⋯,a2,⋯⟩
   |false=>
    dsimp only;rw[Zg ∅];refine az (dP (cE ⋯) ?_);have y1:lt (la.getD (na2-1) 0) (lb.getD (nb2-1) 0)=aj:=by rw[T.tot _ _ (W.ltA ⋯) (W.symm.ltA ⋯) (W.neAB ⋯ ⋯),y0];rfl
    have m3:=m2.stepB T.trn W a1 ⋯ y1;by_cases z:nb2-1=1
    ·rw[ZE (beq_iff_eq.mpr z)];exact bq ⟨e2,.inl ⟨_,_,_,rfl,by first | rfl | ((try simp only[cM]);simp only[aY,b5,aZ,cU]),fst m3 z⟩⟩
    ·rw[Zg (λh=>z (beq_iff_eq.mp h))];split
     ·exact bq ⟨e2,.inr ⟨_,_,_,_,_,_,rfl,by first | rfl | ((try simp only[cM]);simp only[aY,b5,aZ,cU]),m3,a1,⋯,⋯⟩⟩
     ·exact bq ⟨e2,_,_,_,_,_,_,rfl,by first | rfl | ((try simp only[cM]);simp only[aY,b5,aZ,cU]),m3,a1,⋯,⋯⟩
  case p1=>
   rintro c st2 ⟨e2,⟨_,l,c',rfl,rfl,d⟩ | ⟨_,lo2,na2,nb2,ac,bc,rfl,rfl,m2,a1,a2,a3⟩⟩
   ·exact bq ⟨e2,_,l,_,rfl,rfl,d⟩
   dsimp only;refine az (Vg (mf ⟨rfl,?_⟩));refine az (lh (gh
    (I:=λy c st'=>SEq st st' /\ ∃X lo na' nb' g' ac bc,c=(ar,na',nb',X,g',ac,bc)/\X=dS it lo/\Hg lt la lb lo na' nb'/\0<na'/\1<nb'/\na'+nb'+y<=na2+nb2)
    (Q:=λc st'=>SEq st st'/\((∃X l c',c=(aa X,c')/\X=dS it l/\Af lt la lb l) \/ ∃X lo na' nb' g' ac bc,c=(ar,na',nb',X,g',ac,bc)/\X=dS it lo/\Hg lt la lb lo na' nb'/\0<na'/\1<nb'/\na'+nb'<=na2+nb2)) ?s2 ?f2 ?i2) ?p2)
   case i2=>exact⟨e2,_,_,_,_,_,_,_,rfl,by first | rfl | ((try simp only[cM]);simp only[aY,b5,aZ,cU]),m2,a1,a2,bt _⟩
   case f2=>
    rintro c st3 ⟨e3,_,lo3,na3,nb3,g3,ac3,bc3,rfl,rfl,m3,b1,b2,b3⟩;exact⟨e3,.inr ⟨_,_,_,_,_,_,_,rfl,by first | rfl | ((try simp only[cM]);simp only[aY,b5,aZ,cU]),m3,b1,b2,⋯⟩⟩
   case p2=>
    rintro c st3 ⟨e3,⟨_,l,c',rfl,rfl,d⟩ | ⟨_,lo3,na3,nb3,g3,ac3,bc3,rfl,rfl,m3,b1,b2,b3⟩⟩
    ·exact bq ⟨e3,_,l,_,rfl,rfl,d⟩
    dsimp only;refine az (lq ?_);exact bq ⟨⟨e3.k,e3.a,e3.p,e3.f⟩,_,_,_,_,_,rfl,by first | rfl | ((try simp only[cM]);simp only[aY,b5,aZ,cU]),m3,b1,b2,⋯⟩
   case s2=>
    rintro y c st3 _ hy ⟨e3,_,lo3,na3,nb3,g3,ac3,bc3,rfl,rfl,m3,b1,b2,b3⟩;have pa:=m3.a;have pb:=m3.b;dsimp only;refine' LC (λkey=>?mn1) ?ky1
    case mn1=>
     by_cases hg:g3 > 1
     ·rw[ZE hg];generalize g3-1=g;exact key g
     ·rw[Zg hg];exact key g3
    case ky1=>
     intro g;refine az (lq ?_);refine az (dP (cE ⋯) ?_);refine az (IA (left:=ao) (na:=na3) (nb:=nb3) T W (e3.k.trans hk) b1 pa ⋯ pb λt k1 k2 k3=>?_);dsimp only;refine' EA (F:=λlo na=>Hg lt la lb lo na nb3/\0<na/\na<=na3/\lt (la.getD (na-1) 0) (lb.getD (nb3-1) 0)=aj) (λkey=>?mn2) ?ky2
     case mn2=>
      by_cases kz:na3-t > 0
      ·rw[ZE kz];have m4:=m3.galA T.trn W ⋯ k1 k3;by_cases z0:t=0
       ·rw[ZE (beq_iff_eq.mpr z0)];exact bq ⟨⟨e3.k,e3.a,e3.p,e3.f⟩,.inl ⟨_,_,_,rfl,by first | rfl | ((try simp only[cM]);simp only[aY,b5,aZ,cU]),m4.done W (.inl z0)⟩⟩
       rw[Zg (λh=>z0 (beq_iff_eq.mp h))];have hl:=k2 (t-1) ⋯;have c1:0<t:=⋯;have k1':=k1;obtain⟨t',ht'⟩:∃t',t'=t:=⟨t,rfl⟩;rw[<- ht'] at m4 hl c1 k1' ⊢;rw[show dS it lo3++((dS it la).extract t' na3).reverse=dS it (lo3++((la.drop t').take (na3-t')).reverse) by rw[aZ,cU,b5]];generalize lo3++((la.drop t').take (na3-t')).reverse=lo at m4 ⊢;exact key lo t' ⟨m4,c1,k1',hl⟩
      ·rw[Zg kz];have et:t=na3:=⋯;have hl:=k2 (na3-1) ⋯;subst et;exact key lo3 _ ⟨m3,b1,bt _,hl⟩
     case ky2=>
      rintro lo na ⟨m4,c1,c2,hl⟩;refine az (dP (cE ⋯) ?_);have m5:=m4.stepB T.trn W c1 ⋯ hl;by_cases z1:nb3-1=1
      ·rw[ZE (beq_iff_eq.mpr z1)];exact bq ⟨⟨e3.k,e3.a,e3.p,e3.f⟩,.inl ⟨_,_,_,rfl,by first | rfl | ((try simp only[cM]);simp only[aY,b5,aZ,cU]),fst m5 z1⟩⟩
      rw[Zg (λh=>z1 (beq_iff_eq.mp h))];refine az (dP (cE ⋯) ?_);refine az (IA (left:=aj) (na:=nb3-1) (nb:=na) T W.symm (e3.k.trans hk) ⋯ ⋯ ⋯ ⋯ λu j1 j2 j3=>?_);dsimp only;rw[aY];generalize lo++[lb.getD (nb3-1) 0]=lo' at m5 ⊢;refine' EA (F:=λlo nb=>Hg lt la lb lo na nb/\1<nb/\nb<=nb3-1/\lt (lb.getD (nb-1) 0) (la.getD (na-1) 0)=aj) (λkey=>?mn3) ?ky3
      case mn3=>
       by_cases jz:nb3-1-u > 0
       ·rw[ZE jz];have m6:=m5.galB T.trn W c1 j1 j3;by_cases z4:u=1
        ·rw[ZE (beq_iff_eq.mpr z4)];exact bq ⟨⟨e3.k,e3.a,e3.p,e3.f⟩,.inl ⟨_,_,_,rfl,by first | rfl | ((try simp only[cM]);simp only[aY,b5,aZ,cU]),fst m6 z4⟩⟩
        rw[Zg (λh=>z4 (beq_iff_eq.mp h))];by_cases z6:u=0
        ·rw[ZE (beq_iff_eq.mpr z6)];exact bq ⟨⟨e3.k,e3.a,e3.p,e3.f⟩,.inl ⟨_,_,_,rfl,by first | rfl | ((try simp only[cM]);simp only[aY,b5,aZ,cU]),m6.done W (.inr z6)⟩⟩
        rw[Zg (λh=>z6 (beq_iff_eq.mp h))];have hl2:=j2 (u-1) ⋯;have d1:1<u:=⋯;have j1':=j1;obtain⟨u',hu'⟩:∃u',u'=u:=⟨u,rfl⟩;rw[<- hu'] at m6 hl2 d1 j1' ⊢;rw[show dS it lo'++((dS it lb).extract u' (nb3-1)).reverse=dS it (lo'++((lb.drop u').take (nb3-1-u')).reverse) by rw[aZ,cU,b5]];generalize lo'++((lb.drop u').take (nb3-1-u')).reverse=lo2 at m6 ⊢;exact key lo2 u' ⟨m6,d1,j1',hl2⟩
       ·rw[Zg jz];have eu:u=nb3-1:=⋯;have hl2:=j2 (nb3-1-1) ⋯;subst eu;exact key lo' _ ⟨m5,⋯,bt _,hl2⟩
      case ky3=>
       rintro lo nb ⟨m6,d1,d2,hl2⟩;have m7:=m6.stepA T.trn W c1 ⋯ hl2;refine az (dP (cE ⋯) ?_);by_cases z3:na-1=0
       ·rw[ZE (beq_iff_eq.mpr z3)];exact bq ⟨⟨e3.k,e3.a,e3.p,e3.f⟩,.inl ⟨_,_,_,rfl,by first | rfl | ((try simp only[cM]);simp only[aY,b5,aZ,cU]),m7.done W (.inl z3)⟩⟩
       rw[Zg (λh=>z3 (beq_iff_eq.mp h))];by_cases z5:(decide (na3-na<7)&&decide (nb3-1-nb<7))=aj
       ·rw[ZE z5];exact bq ⟨⟨e3.k,e3.a,e3.p,e3.f⟩,.inr ⟨_,_,_,_,_,_,_,rfl,by first | rfl | ((try simp only[cM]);simp only[aY,b5,aZ,cU]),m7,⋯,d1,⋯⟩⟩
       ·rw[Zg z5];exact bq ⟨⟨e3.k,e3.a,e3.p,e3.f⟩,_,_,_,_,_,_,_,rfl,by first | rfl | ((try simp only[cM]);simp only[aY,b5,aZ,cU]),m7,⋯,d1,⋯⟩
end
variable {u v lo:Nat}{p p':List Nat}
section
variable {lt:Nat->Nat->Bool}
noncomputable abbrev g(p:List Nat)(u:Nat):Nat:=p.getD u 0
structure Sp1(it:Nat->qp)(κ:rj)(st:iw)(p:List Nat):Prop where
 k:mj st=κ
 a:uz st=dS it p
 f:vi st=ar
noncomputable abbrev tM(N:Nat)(p:List Nat):Prop:=p.Perm (gy N)
theorem nY(h:tM N p):p.length=N:=by rw[h.length_eq,X1]
theorem d7(h:tM N p)(hu:u<N):g p u<N:=by
 have hl:=nY h;have e:g p u=p[u]'⋯:=by simp[g,df,show u<p.length by right]
 rw[e];exact xm.mp (h.mem_iff.mp (fw _))
theorem vN(h:tM N p)(hu:u<N)(hv:v<N)(n:u≠v):g p u≠g p v:=by
 have hl:=nY h;have nd:p.Nodup:=h.nodup_iff.mpr XH;have e1:g p u=p[u]'⋯:=by simp[g,df,show u<p.length by right]
 have e2:g p v=p[v]'⋯:=by simp[g,df,show v<p.length by right]
 rw[e1,e2];rcases tw n with z | z
 ·exact da.mp nd u v ⋯ ⋯ z
 ·exact Ne.symm (da.mp nd v u ⋯ ⋯ z)
noncomputable def Sg(lt:Nat->Nat->Bool)(p:List Nat)(lo hi:Nat):Prop:=∀u v,lo<=u->u<v->v<hi->lt (g p u) (g p v)=aj
noncomputable def Ou(p p':List Nat)(lo hi:Nat):Prop:=∀u,(u<lo \/ hi<=u)->g p' u=g p u
theorem sQ(T:Tm M A E s N lt it κ){Q:Option Bool->iw->Prop}(S:Sp1 it κ st p)(P:tM N p)(hi:i<N)(hj:j<N)(hn:i≠j)(q:Q (aa (lt (g p i) (g p j))) st):Y3 M A E s (ltAt' i j) Q st:=by
 have hl:=nY P;unfold ltAt';refine az (vk ?_);refine az (dP (x:=it (g p i)) (by rw[show (sortPriv% PySem.Builtin.SortState.a) st=dS it p from S.a];exact cE ⋯) (az (dP (x:=it (g p j)) (by rw[show (sortPriv% PySem.Builtin.SortState.a) st=dS it p from S.a];exact cE ⋯) ?_)));exact T.cmp _ _ (d7 P hi) (d7 P hj) (vN P hi hj hn) st Q S.k q
theorem oB{q:Array Nat}(h:q[u]?=p[v]?):g q.toList u=g p v:=by
 unfold g;rw[fy,fy,je,h]
theorem JA(hj:j<=p.length):∃p',Yt (dS it p) i j ((j-i) / 2)=dS it p'/\p'.Perm p /\ ∀u,g p' u=if i<=u/\u<j then g p (i+j-1-u) else g p u:=by
 refine⟨(Yt p.toArray i j ((j-i) / 2)).toList,?_,?_,λu=>?_⟩
 ·apply uu;intro u;rw[ug (by simpa using hj)];simp only[dS,vx,dh,je];rw[ug (by simpa using hj)];split<;>simp
 ·have:=mirror_perm p.toArray i j ((j-i) / 2);simpa using this.toList
 ·have e:=ug (xs:=p.toArray) (i:=i) (j:=j) (by simpa using hj) u;split
  ·rename_i h;rw[ZE h] at e;exact oB (by rw[e];simp)
  ·rename_i h;rw[Zg h] at e;exact oB (by rw[e];simp)
theorem Kl{src d:Nat}(hs:src<p.length)(hd:d<=src):∃p',Xm (dS it p) src d=dS it p'/\p'.Perm p /\ ∀u,g p' u=if u=src-d then g p src else if src-d<u/\u<=src then g p (u-1) else g p u:=by
 refine⟨(Xm p.toArray src d).toList,?_,?_,λu=>?_⟩
 ·apply uu;intro u;rw[ww (by simpa using hs) d hd];simp only[dS,vx,dh,je];rw[ww (by simpa using hs) d hd]
  repeat' split
  all_goals simp
 ·have:=bubble_perm p.toArray src d;simpa using this.toList
 ·have e:=ww (xs:=p.toArray) (src:=src) (by simpa using hs) d hd u;by_cases h1:u=src-d
  ·rw[ZE h1] at e ⊢;exact oB (by rw[e];simp)
  ·rw[Zg h1] at e ⊢;by_cases h2:src-d<u/\u<=src
   ·rw[ZE h2] at e ⊢;exact oB (by rw[e];simp)
   ·rw[Zg h2] at e ⊢;exact oB (by rw[e];simp)
theorem IR(T:Tm M A E s N lt it κ)(S:Sp1 it κ st p)(P:tM N p)(h1:0<n)(hn:lo+n<=N)
  (q:∀m st' p',1<=m->m<=n->Sp1 it κ st' p'->cr st'=cr st->tM N p'->Sg lt p' lo (lo+m)->Ou p p' lo (lo+m)->Q (aa m) st'):Y3 M A E s (countRun' lo n) Q st:=by
 have grow:∀{p:List Nat} {m:Nat},tM N p->1<=m->lo+m<N->Sg lt p lo (lo+m)->lt (g p (lo+m)) (g p (lo+m-1))=ao->Sg lt p lo (lo+(m+1)):=λ{p m} P hm hN sg z u v hu huv hv=>by
  have last:lt (g p (lo+m-1)) (g p (lo+m))=aj:=by rw[T.tot _ _ (d7 P ⋯) (d7 P ⋯) (vN P ⋯ ⋯ ⋯),z];rfl
  by_cases e:v=lo+m
  ·subst e;by_cases e2:u=lo+m-1
   ·rw[e2];exact last
   ·exact T.tr _ _ _ (d7 P ⋯) (d7 P ⋯) (d7 P ⋯) (sg u (lo+m-1) hu ⋯ ⋯) last
  ·exact sg u v hu huv ⋯
 unfold countRun';refine az (lh (gh
  (I:=λx c st'=>st=st'/\c=(ar,x)/\Sg lt p lo (lo+x))
  (Q:=λc st'=>st=st' /\ ∃m,c=(ar,m)/\1<=m/\m<=n/\Sg lt p lo (lo+m)/\(m<n->lt (g p (lo+m)) (g p (lo+m-1))=aj)) ?s1 ?f1 ?i1) ?p1)
 case i1=>exact⟨rfl,rfl,λu v a b c=>by right⟩
 case f1=>
  rintro c st' ⟨rfl,rfl,sg⟩;exact⟨rfl,_,rfl,⋯,⋯,by rw[show max 1 n=n by right] at sg ⊢;exact sg,λh=>by right⟩
 case s1=>
  rintro x c st' hx1 hx ⟨rfl,rfl,sg⟩;dsimp only;refine az (sQ T S P ⋯ ⋯ ⋯ ?_);cases y:lt (g p (lo+x)) (g p (lo+x-1)) with
  |true=>
   dsimp only;rw[ZE rfl];exact bq ⟨rfl,x,rfl,hx1,⋯,sg,λ_=>y⟩
  |false=>
   dsimp only;rw[Zg ∅];exact bq ⟨rfl,rfl,grow P hx1 ⋯ sg y⟩
 case p1=>
  rintro c st' ⟨rfl,m,rfl,m1,m2,sg,fall⟩;dsimp only;by_cases z:m=n
  ·rw[ZE (by simpa using z)];exact bq (q m st p m1 m2 S rfl P sg λu h=>rfl)
  rw[Zg (by simpa using z)];have fa:=fall ⋯;by_cases z2:m > 1
  ·rw[ZE z2];refine az (sQ T S P ⋯ ⋯ ⋯ ?_);rw[sg lo (lo+m-1) (bt _) ⋯ ⋯];dsimp only;rw[ZE rfl];exact bq (q m st p m1 m2 S rfl P sg λu h=>rfl)
  rw[Zg z2];obtain rfl:m=1:=⋯;refine az (Vg (mf ⟨rfl,?_⟩));refine az (lh (gh
   (I:=λx c st'=>st=st'/\c=(ar,x,0) /\ ∀u v,lo<=u->u<v->v<lo+x->lt (g p v) (g p u)=aj)
   (Q:=λc st'=>st=st' /\ ∃k,c=(ar,k,0)/\2<=k/\k<=n /\ ∀u v,lo<=u->u<v->v<lo+k->lt (g p v) (g p u)=aj) ?s2 ?f2 ?i2) ?p2)
  case i2=>
   refine⟨rfl,rfl,λu v a b c=>?_⟩;rw[show u=lo by right,show v=lo+1 by right];exact fa
  case f2=>
   rintro c st' ⟨rfl,rfl,d⟩;exact⟨rfl,_,rfl,⋯,⋯,d⟩
  case s2=>
   rintro x c st' hx1 hx ⟨rfl,rfl,d⟩;dsimp only;refine az (sQ T S P ⋯ ⋯ ⋯ ?_);cases y:lt (g p (lo+x)) (g p (lo+x-1)) with
   |true=>
    dsimp only;rw[ZE rfl,Zg ∅];refine bq ⟨rfl,rfl,λu v hu huv hv=>?_⟩;by_cases e:v=lo+x
    ·subst e;by_cases e2:u=lo+x-1
     ·rw[e2];exact y
     ·exact T.tr _ _ _ (d7 P ⋯) (d7 P ⋯) (d7 P ⋯) y (d u (lo+x-1) hu ⋯ ⋯)
    ·exact d u v hu huv ⋯
   |false=>
    dsimp only;rw[Zg ∅];refine az (sQ T S P ⋯ ⋯ ⋯ ?_);rw[show lt (g p (lo+x-1)) (g p (lo+x))=aj by rw[T.tot _ _ (d7 P ⋯) (d7 P ⋯) (vN P ⋯ ⋯ ⋯),y];rfl];dsimp only;rw[ZE rfl];exact bq ⟨rfl,x,rfl,hx1,⋯,d⟩
  case p2=>
   rintro c st' ⟨rfl,k,rfl,k1,k2,d⟩;dsimp only;rw[Zg ∅];have hl:=nY P;obtain⟨p2,e2,pp2,gp2⟩:=JA (it:=it) (p:=p) (i:=lo) (j:=lo+k) ⋯;have S2:Sp1 it κ (Zv st (Yt (uz st) lo (lo+k) ((lo+k-lo) / 2))) p2:=⟨S.k,by show Yt (uz st) lo (lo+k) ((lo+k-lo) / 2)=_;rw[S.a];exact e2,S.f⟩;have P2:tM N p2:=pp2.trans P;have sg2:Sg lt p2 lo (lo+k):=λu v hu huv hv=>by
    rw[gp2 u,gp2 v,ZE ⋯,ZE ⋯];exact d _ _ ⋯ ⋯ ⋯
   refine az (lq ?_);show Y3 M A E s _ Q (Zv st (Yt (uz st) lo (lo+k) ((lo+k-lo) / 2)));generalize hst:Zv st (Yt (uz st) lo (lo+k) ((lo+k-lo) / 2))=st2 at S2 ⊢;have pe:cr st2=cr st:=by rw[<- hst]
   refine az (lh (gh
    (I:=λx c st'=>st2=st'/\c=(ar,x)/\Sg lt p2 lo (lo+x))
    (Q:=λc st'=>st2=st' /\ ∃m,c=(ar,m)/\k<=m/\m<=n/\Sg lt p2 lo (lo+m)) ?s3 ?f3 ?i3) ?p3)
   case i3=>exact⟨rfl,rfl,sg2⟩
   case f3=>
    rintro c st' ⟨rfl,rfl,sg3⟩;exact⟨rfl,_,rfl,⋯,⋯,sg3⟩
   case s3=>
    rintro x c st' hx1 hx ⟨rfl,rfl,sg3⟩;dsimp only;refine az (sQ T S2 P2 ⋯ ⋯ ⋯ ?_);cases y:lt (g p2 (lo+x)) (g p2 (lo+x-1)) with
    |true=>
     dsimp only;rw[ZE rfl];exact bq ⟨rfl,x,rfl,hx1,⋯,sg3⟩
    |false=>
     dsimp only;rw[Zg ∅];exact bq ⟨rfl,rfl,grow P2 ⋯ ⋯ sg3 y⟩
   case p3=>
    rintro c st' ⟨rfl,m,rfl,m1,m2,sg3⟩;exact bq (q m st2 p2 ⋯ m2 S2 pe P2 sg3 λu h=>by rw[gp2 u,Zg ⋯])
theorem NI(T:Tm M A E s N lt it κ){ok:Nat}{Q:Bool->iw->Prop}(S:Sp1 it κ st p)(P:tM N p)(h1:1<=ok)(ho:ok<=n)(hn:lo+n<=N)(sg:Sg lt p lo (lo+ok))
  (q:∀st' p',Sp1 it κ st' p'->cr st'=cr st->tM N p'->Sg lt p' lo (lo+n)->Ou p p' lo (lo+n)->Q aj st'):Y3 M A E s (binarySort' lo n ok) Q st:=by
 unfold binarySort';refine az (lh (gh
  (I:=λk c st'=>c=(ar,()) /\ ∃p',Sp1 it κ st' p'/\cr st'=cr st/\tM N p'/\Sg lt p' lo (lo+k)/\Ou p p' lo (lo+n))
  (Q:=λc st'=>c=(ar,()) /\ ∃p',Sp1 it κ st' p'/\cr st'=cr st/\tM N p'/\Sg lt p' lo (lo+n)/\Ou p p' lo (lo+n)) ?s1 ?f1 ?i1) ?p1)
 case i1=>exact⟨rfl,p,S,rfl,P,by rw[show max ok 1=ok by right];exact sg,λu h=>rfl⟩
 case f1=>
  rintro c st' ⟨rfl,p',S',e,P',sg',o⟩;exact⟨rfl,p',S',e,P',by rw[show max (max ok 1) n=n by right] at sg';exact sg',o⟩
 case p1=>
  rintro c st' ⟨rfl,p',S',e,P',sg',o⟩;exact bq (q st' p' S' e P' sg' o)
 case s1=>
  rintro k c st' hk1 hk ⟨rfl,p',S',e,P',sg',o⟩;dsimp only;refine az (lh (gh
   (I:=λx c st2=>st'=st2 /\ ∃l r,c=(ar,l,r)/\l<=r/\r<=k/\r-l+x<=k/\(∀u,u<l->lt (g p' (lo+u)) (g p' (lo+k))=aj) /\ ∀u,r<=u->u<k->lt (g p' (lo+k)) (g p' (lo+u))=aj)
   (Q:=λc st2=>st'=st2 /\ ∃l,c=(ar,l,l)/\l<=k/\(∀u,u<l->lt (g p' (lo+u)) (g p' (lo+k))=aj) /\ ∀u,l<=u->u<k->lt (g p' (lo+k)) (g p' (lo+u))=aj) ?s2 ?f2 ?i2) ?p2)
  case i2=>exact⟨rfl,0,k,rfl,⋯,⋯,⋯,λu h=>by right,λu h h2=>by right⟩
  case f2=>
   rintro c st2 ⟨rfl,l,r,rfl,l1,l2,l3,l4,l5⟩;obtain rfl:l=r:=⋯;exact⟨rfl,l,rfl,l2,l4,l5⟩
  case s2=>
   rintro x c st2 _ hx ⟨rfl,l,r,rfl,l1,l2,l3,l4,l5⟩;dsimp only;by_cases z:l >= r
   ·rw[ZE z];obtain rfl:l=r:=⋯;exact bq ⟨rfl,l,rfl,l2,l4,l5⟩
   rw[Zg z];refine az (sQ T S' P' ⋯ ⋯ ⋯ ?_);cases y:lt (g p' (lo+k)) (g p' (lo+(l+r) / 2)) with
   |true=>
    dsimp only;rw[ZE rfl];refine bq ⟨rfl,_,_,rfl,⋯,⋯,⋯,l4,λu hu hk2=>?_⟩;by_cases e2:u=(l+r) / 2
    ·rw[e2];exact y
    ·exact T.tr _ _ _ (d7 P' ⋯) (d7 P' ⋯) (d7 P' ⋯) y (sg' _ _ ⋯ ⋯ ⋯)
   |false=>
    dsimp only;rw[Zg ∅];have y1:lt (g p' (lo+(l+r) / 2)) (g p' (lo+k))=aj:=by rw[T.tot _ _ (d7 P' ⋯) (d7 P' ⋯) (vN P' ⋯ ⋯ ⋯),y];rfl
    refine bq ⟨rfl,_,_,rfl,⋯,⋯,⋯,λu hu=>?_,l5⟩;by_cases e2:u=(l+r) / 2
    ·rw[e2];exact y1
    ·exact T.tr _ _ _ (d7 P' ⋯) (d7 P' ⋯) (d7 P' ⋯) (sg' _ _ ⋯ ⋯ ⋯) y1
  case p2=>
   rintro c st2 ⟨rfl,l,rfl,l2,l4,l5⟩;dsimp only;have hl:=nY P';obtain⟨p2,e2,pp2,gp2⟩:=Kl (it:=it) (p:=p') (src:=lo+k) (d:=lo+k-(lo+l)) ⋯ ⋯;have S2:Sp1 it κ (Zv st' (Xm (uz st') (lo+k) (lo+k-(lo+l)))) p2:=⟨S'.k,by show Xm (uz st') (lo+k) (lo+k-(lo+l))=_;rw[S'.a];exact e2,S'.f⟩;refine az (lq ?_);refine bq ⟨rfl,p2,S2,e,pp2.trans P',λu v hu huv hv=>?_,λu h=>?_⟩
   ·rw[gp2 u,gp2 v];by_cases c1:u=lo+k-(lo+k-(lo+l))
    ·rw[ZE c1,Zg ⋯,ZE ⋯];have:=l5 (v-1-lo) ⋯ ⋯;rw[show lo+(v-1-lo)=v-1 by right] at this;exact this
    ·rw[Zg c1];by_cases c2:v=lo+k-(lo+k-(lo+l))
     ·rw[ZE c2,Zg ⋯];have:=l4 (u-lo) ⋯;rw[show lo+(u-lo)=u by right] at this;exact this
     ·rw[Zg c2];split
      ·split
       ·exact sg' _ _ ⋯ ⋯ ⋯
       ·right
      ·split
       ·exact sg' _ _ ⋯ ⋯ ⋯
       ·exact sg' _ _ ⋯ ⋯ ⋯
   ·rw[gp2 u,Zg ⋯,Zg ⋯];exact o u h
end
variable {b:Nat}
theorem ID:∀(l:List α) (j0:Nat) (xs:Array α),b+j0+l.length<=xs.size -> ∀u,((l.zipIdx j0).foldl (λa (q:α×Nat)=>a.setIfInBounds (b+q.2) q.1) xs)[u]?=if b+j0<=u/\u<b+j0+l.length then l[u-(b+j0)]? else xs[u]?:=by
 intro l;induction l with
 |nil=>
  intro j0 xs h u;rw[Zg (by simp only[yg];right)];rfl
 |cons x l ih=>
  intro j0 xs h u;simp only[cj] at h ⊢;rw[Xz,XQ,ih (j0+1) _ (by simp;right) u];by_cases c:u=b+j0
  ·subst c;rw[Zg ⋯,ZE ⋯];simp[show b+j0<xs.size by right]
  ·by_cases c2:b+(j0+1)<=u/\u<b+(j0+1)+l.length
   ·rw[ZE c2,ZE ⋯,show u-(b+j0)=u-(b+(j0+1))+1 by right];rfl
   ·rw[Zg c2,Zg ⋯,vp ⋯]
section
variable {lt:Nat->Nat->Bool}
theorem JL(h:b+l.length<=p.length):((dS it l).toList.zipIdx.foldl (λa (q:qp×Nat)=>a.setIfInBounds (b+q.2) q.1) (dS it p))=dS it (p.take b++l++p.drop (b+l.length)):=by
 apply uu;intro u;have:=ID (b:=b) (dS it l).toList 0 (dS it p) (by simpa [dS] using h) u;rw[this];simp only[dS,List.toList_toArray,bf,yp,vx,dh];by_cases c:b<=u/\u<b+l.length
 ·rw[ZE c,dw,bo (by simp;right),bh (by simp;right)];simp[ef,pi (show b<=p.length by right)]
 ·rw[Zg c];by_cases c2:u<b
  ·rw[dw,bh (by simp;right),ie c2]
  ·rw[bo (by simp;right)];simp only[eg,ef,uv];congr 2;right
theorem AA(h:b+l.length<=p.length):g (p.take b++l++p.drop (b+l.length)) u=if u<b then g p u else if u<b+l.length then g l (u-b) else g p u:=by
 unfold g;simp only[fy];by_cases c2:u<b
 ·rw[ZE c2,dw,bh (by simp;right),ie c2]
 ·rw[Zg c2];by_cases c:u<b+l.length
  ·rw[ZE c,dw,bo (by simp;right),bh (by simp;right)];simp[ef,pi (show b<=p.length by right)]
  ·rw[Zg c,bo (by simp;right)];simp only[eg,ef,uv];congr 2;right
theorem uH{x:Nat}(h:b+n<=p.length)(hx:x∈(p.drop b).take n):∃u,b<=u/\u<b+n/\x=g p u:=by
 obtain⟨i,hi,e⟩:=cp.mp hx;simp at hi;refine⟨b+i,⋯,⋯,?_⟩;rw[<- e];simp[g,df,show b+i<p.length by right]
theorem zF(hi:i<n)(h:b+n<=p.length):((p.drop b).take n).getD i 0=g p (b+i):=by
 unfold g;simp only[fy];rw[ie hi,uv]
theorem GJ(h:b+n<=p.length)(sg:Sg lt p b (b+n)):((p.drop b).take n).Pairwise λx y=>lt x y=aj:=by
 rw[da];intro i j hi hj hij;simp at hi hj;have e1:((p.drop b).take n)[i]'(by simp;right)=g p (b+i):=by simp[g,df,show b+i<p.length by right]
 have e2:((p.drop b).take n)[j]'(by simp;right)=g p (b+j):=by simp[g,df,show b+j<p.length by right]
 rw[e1,e2];exact sg _ _ ⋯ ⋯ ⋯
theorem Ej{a m:Nat}:(p.drop a).take m++(p.drop (a+m)).take b=(p.drop a).take (m+b):=by
 rw[List.take_add,YN]
theorem GS(h:b+n<=p.length)(d:l.Perm ((p.drop b).take n)):(p.take b++l++p.drop (b+l.length)).Perm p:=by
 have el:l.length=n:=by rw[d.length_eq];simp;right
 rw[el];have e:p.take b++(p.drop b).take n++p.drop (b+n)=p:=by
  rw[dw,<- YN,uc,uc]
 refine List.Perm.trans ?_ (List.Perm.of_eq e);exact(d.append_left _).append_right _
theorem Iq{a:σ}{Q:PUnit->σ->Prop}{st:σ}(h:Q ⟨⟩ a):Y3 M A E s (set a:StateT σ X8 PUnit) Q st:=by
 unfold Y3;rw[StateT.run_set];exact ak ⟨rfl,h⟩
theorem Pw(T:Tm M A E s N lt it κ){sa sb pw x:Nat}{Q:Bool->iw->Prop}(S:Sp1 it κ st p)(P:tM N p)(e1:(cr st)[i]?=aa (sa,na,pw))(e2:(cr st)[i+1]?=aa (sb,nb,x))(hs:sb=sa+na)(ha:0<na)(hb:0<nb)(hN:sb+nb<=N)
  (ga:Sg lt p sa (sa+na)) (gb:Sg lt p sb (sb+nb))
  (q:∀st' p',Sp1 it κ st' p'->cr st'=((cr st).setIfInBounds i (sa,na+nb,pw)).eraseIdxIfInBounds (i+1)->tM N p'->Sg lt p' sa (sa+(na+nb))->Ou p p' sa (sa+(na+nb))->Q aj st'):Y3 M A E s (Zm i) Q st:=by
 have hl:=nY P;subst hs;unfold Zm;refine az (vk ?_);have e1':((sortPriv% PySem.Builtin.SortState.pending) st)[i]?=aa (sa,na,pw):=e1;have e2':((sortPriv% PySem.Builtin.SortState.pending) st)[i+1]?=aa (sa+na,nb,x):=e2;have ea:(sortPriv% PySem.Builtin.SortState.a) st=dS it p:=S.a;dsimp only;rw[e1',e2'];dsimp only;refine az (Iq ?_);have S1:Sp1 it κ (yo (mj st) (uz st) (((cr st).setIfInBounds i (sa,na+nb,pw)).eraseIdxIfInBounds (i+1)) (Zn st) (vi st)) p:=⟨S.k,S.a,S.f⟩;show Y3 M A E s _ Q (yo (mj st) (uz st) (((cr st).setIfInBounds i (sa,na+nb,pw)).eraseIdxIfInBounds (i+1)) (Zn st) (vi st));generalize hst:yo (mj st) (uz st) (((cr st).setIfInBounds i (sa,na+nb,pw)).eraseIdxIfInBounds (i+1)) (Zn st) (vi st)=st1 at S1 ⊢;have hp1:cr st1=((cr st).setIfInBounds i (sa,na+nb,pw)).eraseIdxIfInBounds (i+1):=by rw[<- hst]
 rw[ea];refine az (dP (cE ⋯) ?_);refine az (AB T (left:=ao) (f:=λi=>g p (sa+i)) S1.k (d7 P ⋯) (λi h=>cE ⋯) (λi h=>⟨d7 P ⋯,vN P ⋯ ⋯ ⋯⟩) (λi j h h2=>ga _ _ ⋯ ⋯ ⋯) ⋯ λk k1 k2 k3=>?_);have bAll:∀v,sa+na<=v->v<sa+na+nb -> ∀y,y<N->lt y (g p (sa+na))=aj->lt y (g p v)=aj:=λv h1 h2 y hy z=>by
  by_cases c:v=sa+na
  ·rw[c];exact z
  ·exact T.tr _ _ _ hy (d7 P ⋯) (d7 P ⋯) z (gb _ _ ⋯ ⋯ ⋯)
 dsimp only;by_cases z:na-k=0
 ·rw[ZE (by simpa using z)];refine bq (q st1 p S1 hp1 P (λu v hu huv hv=>?_) λu h=>rfl);by_cases c:v<sa+na
  ·exact ga u v hu huv c
  ·by_cases c2:sa+na<=u
   ·exact gb u v c2 huv ⋯
   ·refine bAll v ⋯ ⋯ _ (d7 P ⋯) ?_;have:=k2 (u-sa) ⋯;rw[show sa+(u-sa)=u by right] at this;exact this
 rw[Zg (by simpa using z),show sa+k+(na-k)-1=sa+na-1 by right];refine az (dP (cE ⋯) ?_);refine az (AB T (left:=aj) (f:=λi=>g p (sa+na+i)) S1.k (d7 P ⋯) (λi h=>cE ⋯) (λi h=>⟨d7 P ⋯,vN P ⋯ ⋯ ⋯⟩) (λi j h h2=>gb _ _ ⋯ ⋯ ⋯) ⋯ λm j1 j2 j3=>?_);dsimp only;have z2:m≠0:=λc=>by
  have y1:=j3 0 ⋯ ⋯;have y2:=k3 (na-1) ⋯ ⋯;rw[show sa+(na-1)=sa+na-1 by right] at y2;have y3:lt (g p (sa+na)) (g p (sa+na-1))=aj:=y2;have y4:lt (g p (sa+na-1)) (g p (sa+na))=aj:=y1;rw[T.tot _ _ (d7 P ⋯) (d7 P ⋯) (vN P ⋯ ⋯ ⋯),y3] at y4;cases y4
 rw[Zg (by simpa using z2),aZ,aZ,show sa+na-(sa+k)=na-k by right,show sa+na+m-(sa+na)=m by right];have wh:(p.drop (sa+k)).take (na-k)++(p.drop (sa+na)).take m=(p.drop (sa+k)).take (na-k+m):=by
  have:=Ej (p:=p) (a:=sa+k) (m:=na-k) (b:=m);rw[show sa+k+(na-k)=sa+na by right] at this;exact this
 have nd:p.Nodup:=P.nodup_iff.mpr XH;have W:Two N lt ((p.drop (sa+k)).take (na-k)) ((p.drop (sa+na)).take m):=by
  refine⟨GJ ⋯ λu v a b c=>ga u v ⋯ b ⋯,GJ ⋯ λu v a b c=>gb u v ⋯ b ⋯,?_,λy hy=>?_⟩
  ·rw[wh];exact nd.sublist ((zi _ _).trans (xk _ _))
  ·rw[wh] at hy;obtain⟨u,h1,h2,rfl⟩:=uH ⋯ hy;exact d7 P ⋯
 have la0:0<((p.drop (sa+k)).take (na-k)).length:=by simp;right
 have lb0:0<((p.drop (sa+na)).take m).length:=by simp;right
 have ll:((p.drop (sa+k)).take (na-k)).length=na-k:=by simp;right
 have lm:((p.drop (sa+na)).take m).length=m:=by simp;right
 have fin:∀l,Af lt ((p.drop (sa+k)).take (na-k)) ((p.drop (sa+na)).take m) l -> ∃p2,(dS it l).toList.zipIdx.foldl (λa (q:qp×Nat)=>a.setIfInBounds (sa+k+q.2) q.1) (dS it p)=dS it p2/\tM N p2/\Sg lt p2 sa (sa+(na+nb))/\Ou p p2 sa (sa+(na+nb)):=λl d=>by
  have d1:=d.1;rw[wh] at d1;have el:l.length=na-k+m:=by rw[d1.length_eq];simp;right
  have mem:∀y∈l,∃u,sa+k<=u/\u<sa+na+m/\y=g p u:=λy hy=>by
   obtain⟨u,h1,h2,h3⟩:=uH ⋯ (d1.mem_iff.mp hy);exact⟨u,h1,⋯,h3⟩
  have lg:∀u,u<l.length->g l u∈l:=λu hu=>by
   have e:g l u=l[u]:=by simp[g,df,hu]
   rw[e];exact fw hu
  refine⟨_,JL ⋯,(GS (n:=na-k+m) ⋯ d1).trans P,λu v hu huv hv=>?_,λu h=>?_⟩
  ·have A1:∀u,sa<=u->u<sa+k->lt (g p u) (g p (sa+na))=aj:=λu h1 h2=>by
    have:=k2 (u-sa) ⋯;rw[show sa+(u-sa)=u by right] at this;exact this
   have B1:∀w,sa+na+m<=w->w<sa+na+nb->lt (g p (sa+na-1)) (g p w)=aj:=λw h1 h2=>by
    have:=j3 (w-(sa+na)) ⋯ ⋯;rw[show sa+na+(w-(sa+na))=w by right] at this;exact this
   rw[AA ⋯,AA ⋯];by_cases cu:u<sa+k
   ·rw[ZE cu];by_cases cv:v<sa+k
    ·rw[ZE cv];exact ga u v hu huv ⋯
    ·rw[Zg cv];by_cases cv2:v<sa+k+l.length
     ·rw[ZE cv2];obtain⟨w,w1,w2,w3⟩:=mem _ (lg (v-(sa+k)) ⋯);rw[w3];by_cases cw:w<sa+na
      ·exact ga u w hu ⋯ cw
      ·exact bAll w ⋯ ⋯ _ (d7 P ⋯) (A1 u hu cu)
     ·rw[Zg cv2];exact bAll v ⋯ ⋯ _ (d7 P ⋯) (A1 u hu cu)
   ·rw[Zg cu,Zg (by right:¬v<sa+k)];by_cases cu2:u<sa+k+l.length
    ·rw[ZE cu2];by_cases cv2:v<sa+k+l.length
     ·rw[ZE cv2];have e1:g l (u-(sa+k))=l[u-(sa+k)]'⋯:=by simp[g,df,show u-(sa+k)<l.length by right]
      have e2:g l (v-(sa+k))=l[v-(sa+k)]'⋯:=by simp[g,df,show v-(sa+k)<l.length by right]
      rw[e1,e2];exact da.mp d.2 _ _ ⋯ ⋯ ⋯
     ·rw[Zg cv2];obtain⟨w,w1,w2,w3⟩:=mem _ (lg (u-(sa+k)) ⋯);rw[w3];by_cases cw:w<sa+na
      ·by_cases c3:w=sa+na-1
       ·rw[c3];exact B1 v ⋯ ⋯
       ·exact T.tr _ _ _ (d7 P ⋯) (d7 P ⋯) (d7 P ⋯) (ga w (sa+na-1) ⋯ ⋯ ⋯) (B1 v ⋯ ⋯)
      ·exact gb w v ⋯ ⋯ ⋯
    ·rw[Zg cu2,Zg ⋯];exact gb u v ⋯ huv ⋯
  ·rw[AA ⋯];by_cases cu:u<sa+k
   ·rw[ZE cu]
   ·rw[Zg cu,Zg ⋯]
 have xl:∀y∈(p.drop (sa+k)).take (na-k),lt (g p (sa+na)) y=aj:=λy hy=>by
  obtain⟨u,h1,h2,rfl⟩:=uH ⋯ hy;have:=k3 (u-sa) ⋯ ⋯;rw[show sa+(u-sa)=u by right] at this;exact this
 have yl:∀y∈(p.drop (sa+na)).take m,lt y (g p (sa+na-1))=aj:=λy hy=>by
  obtain⟨u,h1,h2,rfl⟩:=uH ⋯ hy;have:=j2 (u-(sa+na)) ⋯;rw[show sa+na+(u-(sa+na))=u by right] at this;exact this
 have b0:((p.drop (sa+na)).take m).getD 0 0=g p (sa+na):=zF ⋯ ⋯;have a0:((p.drop (sa+k)).take (na-k)).getD 0 0=g p (sa+k):=zF ⋯ ⋯;have aL:((p.drop (sa+k)).take (na-k)).getD (((p.drop (sa+k)).take (na-k)).length-1) 0=g p (sa+na-1):=by
  rw[ll,zF ⋯ ⋯];congr 1;right
 split
 ·refine az (Js T W S1.k la0 lb0 (by rw[b0];exact xl _ (by rw[a0,<- a0,fy,au la0];exact fw la0)) (by rw[aL];exact yl) λl st' d se=>?_);obtain⟨p2,f1,f2,f3,f4⟩:=fin l d;refine az (lq (az (vk ?_)));have hf:(vi st').isNone=aj:=by rw[se.f,S1.f];rfl
  have S2:uz st'=dS it p:=by rw[se.a,S1.a]
  refine bq ?_;refine(congrArg (λb=>Q b _) hf).mpr (q _ p2 ⟨se.k.trans S1.k,?_,se.f.trans S1.f⟩ (se.p.trans hp1) f2 f3 f4);show Vr _ (uz st') _=_;rw[S2];exact f1
 ·refine az (Jt T W S1.k la0 lb0 (by rw[b0];exact xl) (by rw[aL];exact yl _ (by rw[fy,au ⋯];exact fw _)) λl st' d se=>?_);obtain⟨p2,f1,f2,f3,f4⟩:=fin l d;refine az (lq (az (vk ?_)));have hf:(vi st').isNone=aj:=by rw[se.f,S1.f];rfl
  have S2:uz st'=dS it p:=by rw[se.a,S1.a]
  refine bq ?_;refine(congrArg (λb=>Q b _) hf).mpr (q _ p2 ⟨se.k.trans S1.k,?_,se.f.trans S1.f⟩ (se.p.trans hp1) f2 f3 f4);show Vr _ (uz st') _=_;rw[S2];exact f1
noncomputable def oS(lt:Nat->Nat->Bool)(p:List Nat):Nat->List (Nat×Nat×Nat)->Nat->Prop
 |b,[],e=>b=e
 |b,(a,n,_)::r,e=>a=b/\0<n/\Sg lt p b (b+n)/\oS lt p (b+n) r e
theorem oS.le:∀{r:List (Nat×Nat×Nat)} {b e:Nat},oS lt p b r e->b+r.length<=e
 | [],b,e,h=>by have:b=e:=h;simp;right
 | (a,n,w)::r,b,e,h=>by
  have:=h.2.2.2.le;have:=h.2.1;simp;right
theorem oS.split:∀{xs ys:List (Nat×Nat×Nat)} {b e:Nat},oS lt p b (xs++ys) e -> ∃m,oS lt p b xs m/\oS lt p m ys e
 | [],ys,b,e,h=>⟨b,rfl,h⟩
 | (a,n,w)::xs,ys,b,e,h=>by
  obtain⟨m,h1,h2⟩:=oS.split (xs:=xs) h.2.2.2;exact⟨m,⟨h.1,h.2.1,h.2.2.1,h1⟩,h2⟩
theorem oS.join:∀{xs ys:List (Nat×Nat×Nat)} {b m e:Nat},oS lt p b xs m->oS lt p m ys e->oS lt p b (xs++ys) e
 | [],ys,b,m,e,h1,h2=>by have z:b=m:=h1;subst z;exact h2
 | (a,n,w)::xs,ys,b,m,e,h1,h2=>⟨h1.1,h1.2.1,h1.2.2.1,h1.2.2.2.join h2⟩
theorem oS.same:∀{xs:List (Nat×Nat×Nat)} {b e:Nat},oS lt p b xs e->(∀u,b<=u->u<e->g p' u=g p u)->oS lt p' b xs e
 | [],b,e,h,_=>h
 | (a,n,w)::xs,b,e,h,z=>by
  have l:=h.2.2.2.le;refine⟨h.1,h.2.1,λu v hu huv hv=>?_,h.2.2.2.same λu h1 h2=>z u ⋯ h2⟩;rw[z u hu ⋯,z v ⋯ ⋯];exact h.2.2.1 u v hu huv hv
theorem HU{l:List α}(h:i+1<l.length):∃xs x y ys,l=xs++x::y::ys/\xs.length=i:=
 ⟨l.take i,l[i]'⋯,l[i+1],l.drop (i+2),by
  rw[<- gx h,<- gx (by right:i<l.length),uc],by simp;right⟩
theorem D9(T:Tm M A E s N lt it κ){Q:Bool->iw->Prop}(S:Sp1 it κ st p)(P:tM N p)(hi:i+1<(cr st).size)(hN:lo<=N)(c:oS lt p 0 (cr st).toList lo)
  (q:∀st' p',Sp1 it κ st' p'->tM N p'->oS lt p' 0 (cr st').toList lo->(cr st').size+1=(cr st).size->Ou p p' 0 lo->Q aj st'):Y3 M A E s (Zm i) Q st:=by
 obtain⟨xs,⟨a,n,w⟩,⟨b,m,x⟩,ys,e,el⟩:=HU (l:=(cr st).toList) (i:=i) (by simpa using hi);rw[e] at c;obtain⟨k,c1,c2⟩:=c.split;obtain⟨rfl,n0,sg,rfl,m0,sg2,c3⟩:=c2;have l1:=c1.le;have l3:=c3.le;have e1:(cr st)[i]?=aa (a,n,w):=by rw[<- je,e,bo ⋯,el];simp
 have e2:(cr st)[i+1]?=aa (a+n,m,x):=by rw[<- je,e,bo ⋯,el];simp
 refine Pw T S P e1 e2 rfl n0 m0 ⋯ sg sg2 λst' p' S' hp P' sg' o=>?_;have ep:(cr st').toList=xs++(a,n+m,w)::ys:=by
  rw[hp];simp only[Array.toList_eraseIdxIfInBounds,Array.toList_setIfInBounds,e];rw[List.set_append_right _ _ ⋯,el,Nat.sub_self,List.set_cons_zero,List.eraseIdx_append_of_length_le ⋯,el];simp
 refine q st' p' S' P' ?_ ?_ λu h=>o u ⋯
 ·rw[ep];exact(c1.same λu h1 h2=>o u (.inl h2)).join ⟨rfl,⋯,sg',by
   rw[<- ni];exact c3.same λu h1 h2=>o u (.inr ⋯)⟩
 ·rw[<- ui,ep,<- ui,e];simp;right
theorem oS.power{pd:Array (Nat×Nat×Nat)}{e w:Nat}(c:oS lt p b pd.toList e):oS lt p b (pd.modify i λx=>(x.1,x.2.1,w)).toList e:=by
 rw[Array.toList_modify];generalize pd.toList=l at c;induction l generalizing i b with
 |nil=>cases i<;>exact c
 |cons x l ih=>
  obtain⟨a,n,v⟩:=x;cases i with
  |zero=>exact c
  |succ i=>exact⟨c.1,c.2.1,c.2.2.1,ih c.2.2.2⟩
theorem oS.push{pd:Array (Nat×Nat×Nat)}{lo n:Nat}(c:oS lt p 0 pd.toList lo)(h:0<n)(sg:Sg lt p lo (lo+n)):oS lt p 0 (pd.push (lo,n,0)).toList (lo+n):=by
 rw[Array.toList_push];exact c.join ⟨rfl,h,sg,rfl⟩
theorem Lb(T:Tm M A E s N lt it κ){Q:Unit->iw->Prop}(S:Sp1 it κ st p)(P:tM N p)(hp:cr st = #[])
  (q:∀st' p',Sp1 it κ st' p'->tM N p'->Sg lt p' 0 N->Q () st'):Y3 M A E s sortRuns' Q st:=by
 have hl:=nY P;rw[sortRuns'_eq];refine az (vk ?_);dsimp only;have hsz:(uz st).size=N:=by rw[S.a,oQ,hl]
 simp only[hsz];generalize minRun' N N 0=mr;refine az (lh (gh
  (I:=λx c st'=>∃lo p',c=(ar,lo)/\Sp1 it κ st' p'/\tM N p'/\oS lt p' 0 (cr st').toList lo/\lo<=N/\x<=lo)
  (Q:=λc st'=>∃p',c=(ar,N)/\Sp1 it κ st' p'/\tM N p'/\oS lt p' 0 (cr st').toList N) ?step ?fin ?init) ?post)
 case init=>exact⟨0,p,rfl,S,P,by rw[hp];rfl,⋯,⋯⟩
 case fin=>
  rintro c st' ⟨lo,p',rfl,S',P',c',h1,h2⟩;obtain rfl:lo=N:=⋯;exact⟨p',rfl,S',P',c'⟩
 case post=>
  rintro c st' ⟨p',rfl,S',P',c'⟩;dsimp only;have cl:=c'.le;refine az (lh (gh
   (I:=λx c st2=>c=(ar,()) /\ ∃p2,Sp1 it κ st2 p2/\tM N p2/\oS lt p2 0 (cr st2).toList N/\(cr st2).size+x<=N)
   (Q:=λc st2=>c=(ar,()) /\ ∃p2,Sp1 it κ st2 p2/\tM N p2/\oS lt p2 0 (cr st2).toList N/\(cr st2).size<=1) ?s2 ?f2 ?i2) ?p2)
  case i2=>exact⟨rfl,p',S',P',c',by rw[<- ui];right⟩
  case f2=>
   rintro c st2 ⟨rfl,p2,S2,P2,c2,h⟩;exact⟨rfl,p2,S2,P2,c2,⋯⟩
  case s2=>
   rintro x c st2 _ hx ⟨rfl,p2,S2,P2,c2,h⟩;refine az (vk ?_);by_cases z:(cr st2).size<=1
   ·rw[ZE z];exact bq ⟨rfl,p2,S2,P2,c2,z⟩
   rw[Zg z];refine az (D9 T S2 P2 ?hj (bt _) c2 λst3 p3 S3 P3 c3 h3 _=>?_)
   case hj=>
    repeat' split
    all_goals right
   rw[Zg ∅];exact bq ⟨rfl,p3,S3,P3,c3,⋯⟩
  case p2=>
   rintro c st2 ⟨rfl,p2,S2,P2,c2,h⟩;refine bq (q st2 p2 S2 P2 ?_);have:(cr st2).toList.length=(cr st2).size:=by simp
   match hl2:(cr st2).toList,c2 with
   | [],c2=>
    have z:0=N:=c2;intro u v a b c;right
   | [(a,n,w)],c2=>
    obtain⟨rfl,n0,sg,z⟩:=c2;have z':0+n=N:=z;rw[<- z'];exact sg
   |_::_::_,_=>
    rw[hl2] at this;simp at this;right
 case step=>
  rintro x c st' _ hx ⟨lo,p',rfl,S',P',c',h1,h2⟩;dsimp only;by_cases z:lo >= N
  ·rw[ZE z];obtain rfl:lo=N:=⋯;exact bq ⟨p',rfl,S',P',c'⟩
  rw[Zg z];refine az (IR T S' P' ⋯ ⋯ λm st2 p2 m1 m2 S2 e2 P2 sg2 o2=>?_);have c2:oS lt p2 0 (cr st2).toList lo:=by rw[e2];exact c'.same λu a b=>o2 u (.inl b)
  dsimp only;by_cases zm:m<mr
  ·rw[ZE zm];refine az (Vg (mf ⟨rfl,?_⟩));have hf:min (N-lo) mr<=N-lo:=Nat.min_le_left _ _;have hf2:m<=min (N-lo) mr:=⋯;refine az (NI T S2 P2 m1 hf2 ⋯ sg2 λst3 p3 S3 e3 P3 sg3 o3=>?_);have c3:oS lt p3 0 (cr st3).toList lo:=by rw[e3];exact c2.same λu a b=>o3 u (.inl b)
   generalize min (N-lo) mr=fo at *;rw[Zg ∅];refine az (vk ?_);cases hb:(cr st3).back? with
   |none=>
    dsimp only;exact az (lq (bq ⟨lo+fo,p3,rfl,⟨S3.k,S3.a,S3.f⟩,P3,c3.push ⋯ sg3,⋯,⋯⟩))
   |some t=>
    obtain⟨s1,n1,w1⟩:=t;dsimp only;refine az (lh (gh
     (I:=λy c st4=>c=(ar,()) /\ ∃p4,Sp1 it κ st4 p4/\tM N p4/\oS lt p4 0 (cr st4).toList lo/\Sg lt p4 lo (lo+fo))
     (Q:=λc st4=>c=(ar,()) /\ ∃p4,Sp1 it κ st4 p4/\tM N p4/\oS lt p4 0 (cr st4).toList lo/\Sg lt p4 lo (lo+fo)) ?_ (λ_ _ h=>h) ⟨rfl,p3,S3,P3,c3,sg3⟩) ?_)
    ·rintro y c st4 _ hy ⟨rfl,p4,S4,P4,c4,sg4⟩;refine az (vk ?_);by_cases zz:(cr st4).size > 1
     ·rw[ZE zz];cases ho:(cr st4)[(cr st4).size-2]? with
      |none=>exact bq ⟨rfl,p4,S4,P4,c4,sg4⟩
      |some t=>
       obtain⟨t1,t2,older⟩:=t;dsimp only;split
       ·exact bq ⟨rfl,p4,S4,P4,c4,sg4⟩
       ·refine az (D9 T S4 P4 ⋯ ⋯ c4 λst5 p5 S5 P5 c5 h5 o5=>?_);rw[Zg ∅];exact bq ⟨rfl,p5,S5,P5,c5,λu v hu huv hv=>by rw[o5 u (.inr hu),o5 v (.inr ⋯)];exact sg4 u v hu huv hv⟩
     ·rw[Zg zz];exact bq ⟨rfl,p4,S4,P4,c4,sg4⟩
    ·rintro c st4 ⟨rfl,p4,S4,P4,c4,sg4⟩;dsimp only;exact az (lq (az (lq (bq ⟨lo+fo,p4,rfl,⟨S4.k,S4.a,S4.f⟩,P4,(oS.power c4).push ⋯ sg4,⋯,⋯⟩))))
  ·rw[Zg zm];refine az (vk ?_);cases hb:(cr st2).back? with
   |none=>
    dsimp only;exact az (lq (bq ⟨lo+m,p2,rfl,⟨S2.k,S2.a,S2.f⟩,P2,c2.push ⋯ sg2,⋯,⋯⟩))
   |some t=>
    obtain⟨s1,n1,w1⟩:=t;dsimp only;refine az (lh (gh
     (I:=λy c st4=>c=(ar,()) /\ ∃p4,Sp1 it κ st4 p4/\tM N p4/\oS lt p4 0 (cr st4).toList lo/\Sg lt p4 lo (lo+m))
     (Q:=λc st4=>c=(ar,()) /\ ∃p4,Sp1 it κ st4 p4/\tM N p4/\oS lt p4 0 (cr st4).toList lo/\Sg lt p4 lo (lo+m)) ?_ (λ_ _ h=>h) ⟨rfl,p2,S2,P2,c2,sg2⟩) ?_)
    ·rintro y c st4 _ hy ⟨rfl,p4,S4,P4,c4,sg4⟩;refine az (vk ?_);by_cases zz:(cr st4).size > 1
     ·rw[ZE zz];cases ho:(cr st4)[(cr st4).size-2]? with
      |none=>exact bq ⟨rfl,p4,S4,P4,c4,sg4⟩
      |some t=>
       obtain⟨t1,t2,older⟩:=t;dsimp only;split
       ·exact bq ⟨rfl,p4,S4,P4,c4,sg4⟩
       ·refine az (D9 T S4 P4 ⋯ ⋯ c4 λst5 p5 S5 P5 c5 h5 o5=>?_);rw[Zg ∅];exact bq ⟨rfl,p5,S5,P5,c5,λu v hu huv hv=>by rw[o5 u (.inr hu),o5 v (.inr ⋯)];exact sg4 u v hu huv hv⟩
     ·rw[Zg zz];exact bq ⟨rfl,p4,S4,P4,c4,sg4⟩
    ·rintro c st4 ⟨rfl,p4,S4,P4,c4,sg4⟩;dsimp only;exact az (lq (az (lq (bq ⟨lo+m,p4,rfl,⟨S4.k,S4.a,S4.f⟩,P4,(oS.power c4).push ⋯ sg4,⋯,⋯⟩))))
end
end L2
namespace L2
open PySem PySem.Spec PySem.W PyProof.Rows Tim
variable {vs:List ah}{κ:rj}
theorem Ci{lt:Nat->Nat->Bool}{P:Fin->ai->Prop}(ho:s.heap.get? a=aa (qo "list" vs.toArray n))(h64:vs.length<=1000)(ht:∀i j,i<vs.length->j<vs.length->i≠j->lt i j=aj \/ lt j i=aj)(c:2<=vs.length->Cmp prog w s a vs lt κ)
  (k:∀p,Pm vs.length p->Up lt p vs.length->P (.done (.ret .none)) { s with heap:=Yn s.heap a vs (picked vs p).toArray }):bu (cf prog w) A (sr.«list.sort» ⟨[.ref a],[]⟩) P E s:=by
 have la:a<s.heap.objs.size:=bg ho
 let h1:=s.heap.update a (yd λ_=>#[])
 let h2:=h1.push (qo "tuple" vs.toArray 0)
 let h3:=h2.push (qo "list" #[] 0)
 obtain⟨m,g1⟩:∃m,h1.get? a=aa (qo "list" #[] m):=⟨_,XV ho λ_=>#[]⟩;have sz1:h1.objs.size=s.heap.objs.size:=Vc ..;have keep:∀b o,b≠a->s.heap.get? b=aa o->h3.get? b=aa o:=λb o hb e=>
  aq _ (aq _ ((xc _ _ _ _ hb).trans e))
 have g3:h3.get? a=aa (qo "list" #[] m):=aq _ (aq _ g1);have line:vs.length<=bv:=by rw[ke];right
 have fin:∀p,Pm vs.length p->Up lt p vs.length->bu (cf prog w) A (do
   let touched:=(<- seqEpoch a) != m
   Vd (.ref a) λ_=>(picked vs p).toArray
   if touched then YS "list.sort.modified";raiseError "ValueError" "list modified during sort"
   ret .none) P E { s with heap:=h3 }:=λp pm up=>by
  have sz:(picked vs p).toArray.size=vs.length:=by simp[picked,pm.size]
  refine ae (W1 g3 rfl (ae (Uz g3 rfl ?_ (oj _) (by rw[sz];right))));rw[show (m != m)=ao by simp];exact ak (k p pm up)
 rw[XW];refine ae (listItems_at ho rfl (ae (Uz ho rfl ?_ (by simpa using line) (oj _))));refine ae (W1 g1 rfl (ae (Yo (ae (V0 (jf ?_) (oj _))) (by simpa using line))));show bu (cf prog w) A _ P E { s with heap:=h3 };dsimp only;by_cases two:2<=vs.length
 ·have big:¬vs.toArray.size<2:=by simpa using two
  rw[Zg big,Zg big];have cc:=c two;refine ae (gv (cc.kind A h3 (λx s'=>x=κ/\s'={ s with heap:=h3 }) keep ⟨rfl,rfl⟩) (λx s' e=>?_) λ_ _ z=>z.elim);obtain⟨rfl,rfl⟩:=e;have W:=cc.wk;have T:Tm (cf prog w) A E { s with heap:=h3 } vs.length lt (kas_item (vs.toArray.zip vs.toArray)) x:=by
   have tot:∀i j,i<vs.length->j<vs.length->i≠j->lt i j = !lt j i:=λi j hi hj n=>by
    rcases ht i j hi hj n with z | z
    ·rw[z,W.asym z];rfl
    ·rw[z,W.asym z];rfl
   refine⟨λi j hi hj hn st Q hk q=>?_,tot,λi j k _ _ _=>W.tr i j k⟩;have it1:∀i,i<vs.length->(kas_item (vs.toArray.zip vs.toArray) i).1=vs.getD i gg:=λi hi=>by simp[kas_item,yk,hi]
   rw[lt'_eq];refine az (vk ?_);refine az (Vg (lx (gv (?_:bu (cf prog w) A _ (λb s'=>s'={ s with heap:=h3 }/\b=lt i j) (λ_ _=>False) _) (λb s' z=>?_) λ_ _ z=>z.elim)))
   ·rw[hk,it1 i hi,it1 j hj];exact cc.less A h3 i j _ keep hi hj hn ⟨rfl,rfl⟩
   ·obtain⟨rfl,rfl⟩:=z;exact⟨rfl,bq q⟩
  have est:vs.toArray.zip vs.toArray=dS (kas_item (vs.toArray.zip vs.toArray)) (gy vs.length):=by
   apply uu;intro u;by_cases hu:u<vs.length
   ·simp[dS,kas_item,yk,hu]
   ·simp[dS,hu]
  have run:=Lb T (st:=yo x (vs.toArray.zip vs.toArray) #[] 7 ar) (p:=gy vs.length) (Q:=λ_ st'=>∃p,(Pm vs.length p/\Up lt p vs.length)/\uz st'=p.map (kas_item (vs.toArray.zip vs.toArray))/\vi st'=ar) ⟨rfl,est,rfl⟩ (List.Perm.refl _) rfl λst' p' S P sg=>by
   have hlp:=nY P;have ag:∀u,dA p'.toArray u=g p' u:=λu=>by
    by_cases hu:u<p'.length
    ·simp[dA,g,df,yk,hu]
    ·simp[dA,g,df,yk,hu]
   refine⟨p'.toArray,⟨?_,λu v huv hv=>?_⟩,by rw[S.a];simp[dS],S.f⟩
   ·exact yj.mpr (by simpa using P)
   ·rw[ag,ag];exact EV.of W (sg u v (oj _) huv hv)
  refine ae (gv run (λr s' q=>?_) λ_ _ z=>z);obtain⟨⟨⟩,st'⟩:=r;obtain⟨rfl,p,⟨pm,up⟩,e1,e2⟩:=q;dsimp only at e1 e2 ⊢;rw[kat_snds rfl e1,e2];exact fin p pm up
 ·have few:vs.toArray.size<2:=by simp;right
  rw[ZE few,ZE few];refine ae (ak ?_);rw[XX];refine ae (ak ?_);dsimp only;have e:((uz (yo general' (vs.toArray.zip vs.toArray) #[] 7 ar)).map λx=>x.2)=(picked vs (Vv (gy vs.length))).toArray:=by
   rw[xY];apply Xn.mp;show ((vs.toArray.zip vs.toArray).map λx=>x.2).toList=_;simp;apply rd;intro i;by_cases hi:i<vs.length
   ·simp[hi]
   ·simp[hi]
  rw[e];exact fin _ (Array.Perm.refl _) λu v h1 h2=>by right
theorem Av{d:af}{es:Array lj}{ep:Nat}{lt:Nat->Nat->Bool}{Q:ah->ai->Prop}(hh:A.handled=ar)(lo:(d==jj)=ao)(x:Ent s.heap d es ep)(hv:es.toList.map (·.key)=vs)(h64:vs.length<=1000)(ht:∀i j,i<vs.length->j<vs.length->i≠j->lt i j=aj \/ lt j i=aj)
  (c:∀(h1:dq) (tk:Nat),(∀b o,s.heap.get? b=aa o->h1.get? b=aa o)->2<=vs.length->Cmp prog w { s with heap:=h1.push (qo "list" vs.toArray 0),toks:=tk } h1.objs.size vs lt κ)
  (k:∀(h1:dq) (tk:Nat) p,(∀b o,s.heap.get? b=aa o->h1.get? b=aa o)->s.heap.objs.size<h1.objs.size->Pm vs.length p->Up lt p vs.length->Q (.ref h1.objs.size) { s with heap:=Yn (h1.push (qo "list" vs.toArray 0)) h1.objs.size vs (picked vs p).toArray,toks:=tk }):
  bu (cf prog w) A (call (.builtin "sorted") [.ref d]) Q E s:=by
 have line:vs.length<=bv:=by rw[ke];right
 have hn:es.size=vs.length:=by rw[<- hv];simp
 refine yx kind_sorted plain_sorted entry_sorted (args_sorted1 _) ?_;unfold sr.«sorted»;refine ae (m:=checkCount "sorted" 1 1 _) (ak (ae (IS (Kc lo) hh x (by rw[hn];exact line) λh1 tk acc old big it=>?_)));have ea:acc.toList=vs:=by
  apply rd;intro i;rw[<- hv];by_cases hi:i<acc.size
  ·obtain⟨en,e1,e2⟩:=it.2 i acc[i] (uf hi);rw[je,uf hi,dh,je,e1,e2];rfl
  ·have:es.size<=i:=by rw[<- it.1];right
   rw[lf (by simpa using hi),lf (by simpa using this)]
 rw[ea];refine ae (V0 ?_ line);have mine:(h1.push (qo "list" vs.toArray 0)).get? h1.objs.size=aa (qo "list" vs.toArray 0):=cm h1 rfl;refine ae (jf (gf Yp ⟨_,mine,rfl⟩ XY ?_ (Yq _)));refine Ci (s:={ s with heap:=h1.push (qo "list" vs.toArray 0),toks:=tk }) (lt:=lt) (κ:=κ) mine h64 ht (λtwo=>c h1 tk old two) λp a b=>⟨_,rfl,ak ⟨_,rfl,k h1 tk p old big a b⟩⟩
theorem xK(hc:X.calm=aj):fP X (.builtin "sorted") (λxs H Q=>∃(p:af) (ep:Nat) (kvs:List (List cF×V)) (kns:List (List Int)) (k:Nat),xs=[.ref p]/\H p=aa (.dT ep kvs)/\kvs.map (·.1)=kns.map (λl=>l.map jc)/\kvs.length<=1000/\(∀l∈kns,l.length=k+1) /\
  ∀its':List (af×List Int),(its'.map (·.2)).Perm kns->its'.Pairwise (λt u=>gZ t.2 u.2=aj)->(∀t∈its',H t.1=aa (.tup (t.2.map V.int))) -> ∀l,H l=ar->Q (.ref l) (upd H l (.lst (its'.map λt=>V.ref t.1)))):=by
 intro pk s σ H xs us Q I r h;obtain⟨p,ep,kvs,kns,k,rfl,hp,hk,h64,hlen,q⟩:=h;obtain⟨u,rfl,ru⟩:=kK r;cases ru;obtain⟨hz,hsys,xs,rx,o,es,g,ex,dd,he,nd⟩:=(show cK X.prog X.w H s.heap p (.dT ep kvs) from I.hok p _ hp);obtain⟨its,e1,e2,e3,e4⟩:=Mz rx hk;have ln:its.length=kvs.length:=by
  have a:=congrArg List.length e1;have b:=congrArg List.length hk;simp at a b;right
 have pw0:its.Pairwise (λt u=>t.2.1≠u.2.1):=by
  rw[e4] at nd;have nd2:kns.Nodup:=by
   rw[oa] at nd ⊢;rw[ir] at nd;exact nd.imp λh z=>h (by rw[z])
  rw[<- e1,oa,ir] at nd2;exact nd2
 have a02:∀t∈its,t.2.1.length=k+1:=λt ht=>hlen _ (by rw[<- e1];exact vm ht);have tup:∀t∈its,∃(o:jv) (a b:List ah) (n:Nat),s.heap.get? t.1=aa o/\o.cls=.type "tuple" /\ o.data=.seq (a++b).toArray n/\uo a t.2.1:=λt ht=>by
  obtain⟨z,r',⟨o,ho,hc,n,hd'⟩,_⟩:=I.tuple (pL.of (e3 t ht).1);exact⟨o,z,[],n,ho,hc,by rw[ic];exact hd',qM r'⟩
 have hv:es.toList.map (·.key)=its.map (λt=>Value.ref t.1):=by
  rw[he,ju,<- e2];rfl
 have hl:(its.map λt=>Value.ref t.1).length=its.length:=bf ..;have neX:∀i j,i<its.length->j<its.length->i≠j->(its.getD i (0,[],[])).2.1≠(its.getD j (0,[],[])).2.1:=λi j hi hj n=>by
  have pw:=da.mp pw0;have ei:its.getD i (0,[],[])=its[i]:=by simp[hi]
  have ej:its.getD j (0,[],[])=its[j]:=by simp[hj]
  rw[ei,ej];rcases tw n with z | z
  ·exact pw i j hi hj z
  ·exact(pw j i hj hi z).symm
 refine Av (I.ok.hd hc) hsys ⟨⟨o,g,ex,dd⟩⟩ hv (by rw[hl,ln];right) (λi j hi hj n=>by rw[hl] at hi hj;exact o8 _ _ (neX i j hi hj n)) (λh1 tk old two=>Kj (k:=k) two a02 pw0 (λt ht=>?_) (λt ht=>?_)) λh1 tk p' old big pm up=>?_
 ·obtain⟨o,a,b,n,ho,r⟩:=tup t ht;exact⟨o,a,b,n,aq _ (old _ _ ho),r⟩
 ·obtain⟨o,a,b,n,ho,r⟩:=tup t ht;exact gq (bg (old _ _ ho))
 ·rw[hl] at pm up
  let its':=p'.toList.map λi=>its.getD i (0,[],[])
  have perm:its'.Perm its:=Ds pm its rfl _;have ne:∀i j,i<its.length->j<its.length->i≠j->(its.getD i (0,[],[])).2.1≠(its.getD j (0,[],[])).2.1:=λi j hi hj n=>by
   have pw:=da.mp pw0;have ei:its.getD i (0,[],[])=its[i]:=by simp[hi]
   have ej:its.getD j (0,[],[])=its[j]:=by simp[hj]
   rw[ei,ej];rcases tw n with z | z
   ·exact pw i j hi hj z
   ·exact(pw j i hj hi z).symm
  have pw:its'.Pairwise (λt u=>gZ t.2.1 u.2.1=aj):=tN pm up its _ _ λi j hi hj b=>by
   rcases b.2 with z | z
   ·exact z
   ·rcases o8 _ _ (ne i j hi hj (gq z)) with y | y
    ·exact y
    ·have b1:gZ (its.getD j (0,[],[])).2.1 (its.getD i (0,[],[])).2.1=ao:=b.1;rw[b1] at y;cases y
  have ep:picked (its.map λt=>Value.ref t.1) p'=its'.map λt=>Value.ref t.1:=by
   unfold picked;rw[ju];apply tu;intro i hi;have hi':i<its.length:=xm.mp (pm.list.mem_iff.mp hi);simp[hi']
  rw[ep];have mine:(h1.push (qo "list" (its.map λt=>Value.ref t.1).toArray 0)).get? h1.objs.size=aa (qo "list" (its.map λt=>Value.ref t.1).toArray 0):=cm h1 rfl;have rel:∀l:List Il,bU (l.map λt=>V.ref t.1) (l.map λt=>Value.ref t.1):=λl=>by
   induction l with
   |nil=>exact .nil
   |cons t r ih=>exact .cons rfl ih
  have hle:(its'.map λt=>V.ref t.1).length<=bv:=by rw[ke,bf,perm.length_eq];right
  have q':=q (its'.map λt=>(t.1,t.2.1)) (by rw[ju,<- e1];exact perm.map _) (by rw[ir];exact pw) (λt ht=>by
   obtain⟨u,hu,rfl⟩:=jh.mp ht;exact(e3 u (perm.mem_iff.mp hu)).1)
  rw[ju] at q';obtain⟨c,at1⟩:=sortedHeap_at (out:=(its'.map λt=>Value.ref t.1).toArray) mine;have low:∀b o,s.heap.get? b=aa o->b<h1.objs.size:=λb o e=>bg (old b o e);have le:s.heap.objs.size<=h1.objs.size:=WM big;exact⟨.ref h1.objs.size,_,I.laid (λb o e=>(sortedHeap_old (gq (low b o e)) (by rw[size_push'];exact WX (low b o e))).trans (aq _ (old b o e))) le (show cK X.prog X.w _ _ _ (.lst _) from⟨hle,_,c,rel its',at1⟩),rfl,q' _ (I.hok.fresh le)⟩
end L2
namespace Z
open L2
noncomputable def iO:List Dv->(R->Prop)->Prop
 | [.dit kvs],Q=>∃(kns:List (List Int)) (k:Nat),kvs.map (·.1)=kns.map (λl=>l.map jc)/\kvs.length<=1000/\(∀l∈kns,l.length=k+1) /\ ∀ls:List (List Int),ls.Perm kns->ls.Pairwise (λt u=>gZ t u=aj)->Q (.nw (.lst (ls.map λl=>.tup (l.map .int))))
 |_,_=>False
theorem CG(hc:X.calm=aj):oU X (.builtin "sorted") iO:=by
 refine⟨λds Q Q' w h=>?_,_,xK hc,λM O H xs ds Q c h=>?_⟩
 ·unfold iO at *;split at h
  ·obtain⟨kns,k,a,b,c,q⟩:=h;exact⟨kns,k,a,b,c,λls x y=>w _ (q ls x y)⟩
  ·exact h
 ·unfold iO at h;split at h
  ·obtain⟨x,rfl,cx⟩:=fG c;obtain⟨a,ep,kvs',rfl,ea,ra⟩:=cx.dit;obtain⟨kns,k,e1,e2,e3,q⟩:=h;refine⟨a,ep,kvs',kns,k,rfl,ea,by rw[ra.keys];exact e1,by rw[ra.len];exact e2,e3,λits' p1 p2 p3 l hl=>?_⟩;refine q (its'.map (·.2)) p1 (by rw[ir];exact p2) _ _ (aO.new' hl) (kB hl ?_);clear q p1 p2;induction its' with
   |nil=>exact .nil
   |cons t r ih=>
    refine .cons (.tup (p3 t (dk ..)) (Reps.ints _)) (ih λu hu=>p3 u (dg _ hu))
  ·exact h.elim
theorem BN{kvs:List (List cF×Dv)}:(iO [.dit kvs] Q)=(∃(kns:List (List Int)) (k:Nat),kvs.map (·.1)=kns.map (λl=>l.map jc)/\kvs.length<=1000/\(∀l∈kns,l.length=k+1) /\ ∀ls:List (List Int),ls.Perm kns->ls.Pairwise (λt u=>gZ t u=aj)->Q (.nw (.lst (ls.map λl=>.tup (l.map .int))))):=rfl
end Z
namespace L2
theorem uR{α β:Type}(f:α->β):∀(l:List α) (j:Nat),(l.map f).eraseIdx j=(l.eraseIdx j).map f
 | [],_=>rfl
 |_::_,0=>rfl
 |a::l,j+1=>by simp[uR f l j]
variable {j:Nat}
section
variable {K:Type}[DecidableEq K]{knd:Zj prog w K}
theorem GF{d:af}{xs:List (K×af×ah)}{k:K}{p:af×ah}{Q:Option lj->ai->Prop}(hu:knd.room A)(hkey:knd.is s.heap k a)(hm:s.heap.DictOfH knd d xs)(hj:xs[j]?=aa (k,p))
  (h:∀e h',e.val=p.2->h'.DictOfH knd d (xs.eraseIdx j)->oz d s.heap h'->Q (aa e) { s with heap:=h',toks:=s.toks+knd.draws k }) (hsz:xs.length<=bv):
  bu (cf prog w) A (W7 d (.ref a)) Q E s:=by
 obtain⟨o,es,ep,ho,hc,hd,he,his,hn⟩:=hm;unfold W7
 try with_reducible refine jf ?_
 refine ae (knd.pyHash hu hkey ?_);refine ae (wpAny_dictFind_heap (s:={ s with toks:=s.toks+knd.draws k }) hu hkey ho hd he his hn ?_ ?_)
 ·exact λno=>absurd hj (no j p)
 ·intro j' p' hj';have lt':j'<(xs.map (·.1)).length:=by rw[bf];exact(cg.mp hj').1
  have:j'=j:=(List.getElem?_inj lt' hn).mp (by rw[dh,dh,hj,hj'];rfl);subst this;rw[hj] at hj';injection hj' with hj';injection hj' with _ hj';subst hj';refine ae (ss (s:={ s with toks:=s.toks+knd.draws k }) ho hd ?_);rw[entry_at he j',hj];refine ae (wpAny_updateDictKeys (hz:=by have e:=VC he;right) (s:={ s with toks:=s.toks+knd.draws k }) ho hd (ak (h _ _ rfl ⟨_,_,ep+1,og _ ho (Obj.isFreed_of_dict (W8 hd _)),
   hc.mapDictKeys _,W8 hd _,?_,?_,?_⟩ (xf ..))))
  ·have:(es.eraseIdxIfInBounds j').toList=es.toList.eraseIdx j':=by obtain⟨l⟩:=es;simp
   rw[this,he,uR]
  ·intro x hx;exact knd.keeps (his x (V1 hx)) ho hd (xf ..)
  ·rw[show (xs.eraseIdx j').map (·.1)=(xs.map (·.1)).eraseIdx j' from(uR _ _ _).symm];exact hn.sublist (VL ..)
theorem DC(knd:Zj prog w K)(d a:af):
  MeetsIn prog w (sr.«dict.pop» ⟨[.ref d,.ref a],[]⟩) (λA R s=>knd.room A.in1 /\ ∃k xs j p,knd.is s.heap k a/\s.heap.DictOfH knd d xs/\xs.length<=bv/\xs[j]?=aa (k,p) /\
   ∀h',h'.DictOfH knd d (xs.eraseIdx j)->oz d s.heap h'->R (.ok (.ret p.2)) { s with heap:=h',toks:=s.toks+knd.draws k }):=
 .of_wp λA R s zq4=>by
  obtain⟨hu,k,xs,j,p,hkey,hm,hsz,hj,h⟩:=zq4;obtain⟨o,es,ep,ho,hc,hd,he,his,hn⟩:=id hm;unfold sr.«dict.pop»;refine ae ?_;unfold Yu;refine ae (VI hm.typeIs ?_);show bu _ _ (jo (d,Value.ref a,ar)) _ _ s;refine ak ?_;have kp:(keyPart (Value.ref a)).isSome=ao:=rfl;simp only[kp,eo,if_false];refine ae (ss ho hd ?_);refine ae (ak ?_);have ne:es.isEmpty=ao:=by
   have e1:=VC he;have:=(cg.mp hj).1;have h0:es.size≠0:=⋯;simp only[Array.isEmpty,decide_eq_false h0]
  simp only[ne,eo,if_false];refine ae (GF (hsz:=hsz) hu hkey hm hj λe h' he hm' hs'=>?_);simp only[Option.isNone_some,eo,if_false];exact ae (wpAny_letGo (ak ⟨e.val,rfl,by rw[he];exact h h' hm' hs'⟩))
end
theorem BB{α β:Type}{F:α->β->Prop}:∀{l:List α} {m:List β} (j:Nat),Paired F l m->Paired F (l.eraseIdx j) (m.eraseIdx j)
 |_,_,_,.nil=>by simpa using Paired.nil
 |_,_,0,.cons _ r=>r
 |_,_,n+1,.cons b r=>.cons b (BB n r)
theorem L6{α β:Type}{F:α->β->Prop}:∀{l:List α} {m:List β} {j:Nat} {x:α},Paired F l m->l[j]?=aa x -> ∃y,m[j]?=aa y/\F x y
 |_,_,j,_,.nil,h=>by simp at h
 |_,_,0,x,.cons b r,h=>by simp at h;subst h;exact⟨_,rfl,b⟩
 |_,_,n+1,x,.cons b r,h=>by
  simp only[va] at h ⊢;exact L6 r h
section
variable {ep:Nat}{k:List cF}{v:V}
theorem NA{Q:ah->ai->Prop}(hu:A.units+1<jx)(I:Inv X pk σ H s)(e:H a=aa (.dT ep kvs))(eb:H b=aa (.tup (k.map kV)))(l:kvs[j]?=aa (k,v))
  (h:∀ep' w' s',Inv X pk σ (upd H a (.dT ep' (kvs.eraseIdx j))) s'->cR v w'->Q w' s'):bu (cf X.prog X.w) A (call (.builtin "dict.pop") [.ref a,.ref b]) Q E s:=by
 obtain⟨z,hd,xs,rel,dd⟩:=LL I.hok e;have hz:xs.length<=bv:=by rw[<- Paired.length rel];exact z
 obtain⟨⟨k',c,w'⟩,hx,q1,q2,q3⟩:=L6 rel l;simp only at q1 q2 q3;subst q1;refine call_meetsIn VM dd.typeIs PySem.F.entry_dict_pop (PySem.F.args_dict_pop_2 _ _) (DC (V5 (eT X.prog X.w)) a b)
  ⟨ut hu,k,xs,j,(c,w'),w4 I.hok eb,dd,hz,hx,λh' dd' hs=>?_⟩
 obtain⟨q,es,ep',hq,h2,h3,h4,_,h5⟩:=dd';refine h ep' _ _ ?_ q3;have hl:(kvs.eraseIdx j).length<=bv:=ly (Vh ..) z;have rel':KT H (kvs.eraseIdx j) (xs.eraseIdx j):=BB j rel;refine uT I (by rw[e];exact mh) hs ⟨q,hq⟩ ⟨hl,hd,_,KT.keeps rel' λc ys ec=>?_,q,es,hq,h2,h3,h4,h5⟩;rw[bB (LB ec e (λz=>nomatch z))];exact ec
end
end L2
namespace Z
open L2
theorem RepT.erase{K:ap}{H:Hp}:∀{xs:List (List cF×V)} {ds:List (List cF×Dv)} (n:Nat),RepT K M H xs ds->RepT K M H (xs.eraseIdx n) (ds.eraseIdx n)
 |_,_,_,.nil=>by simpa using RepT.nil
 |_,_,0,.cons _ r=>r
 |_,_,n+1,.cons b r=>.cons b (RepT.erase n r)
theorem RepT.at{K:ap}{H:Hp}:∀{xs:List (List cF×V)} {ds:List (List cF×Dv)} {n:Nat} {k:List cF} {d:Dv},RepT K M H xs ds->ds[n]?=aa (k,d) -> ∃x,xs[n]?=aa (k,x)
 |_,_,_,_,_,.nil,h=>by simp at h
 |_,_,0,_,_,.cons b r,h=>by simp at h;obtain⟨rfl,rfl⟩:=h;exact⟨_,rfl⟩
 |_,_,n+1,_,_,.cons b r,h=>by
  simp only[va] at h ⊢;exact RepT.at r h
theorem Jl(hu:X.A.units+1<jx):Td X "dict.pop" (λx vs H Q=>∃(a b:af) (ep:Nat) (kvs:List (List cF×V)) (k:List cF) (v:V) (j:Nat),x=.ref a/\vs=[.ref b]/\H a=aa (.dT ep kvs)/\H b=aa (.tup (k.map kV))/\kvs[j]?=aa (k,v) /\
  ∀ep',Q v (upd H a (.dT ep' (kvs.eraseIdx j)))):=by
 intro pk s σ H x vs v us Q I rx rv h;obtain⟨a,b,ep,kvs,k,v',j,rfl,rfl,e,eb,l,q⟩:=h;cases rx;obtain⟨u,rfl,ru⟩:=rv.one;cases ru;exact NA hu I e eb l λep' w' s' I' r'=>⟨_,_,I',r',q ep'⟩
noncomputable def Ay(i:Nat)(te:dE):cD:=λE ρ=>match ρ[i]? with
 |some (.own a (.dit kvs))=>te ρ λkk=>∃(k:List cF) (j:Nat) (d:Dv),kk.d=.tup (k.map kD)/\kvs[j]?=aa (k,d)/\E.nx (ρ.set i (.own a (.dit (kvs.eraseIdx j))))
 |_=>False
theorem Lu{x:bw}{p1 p2 p3 pos:lv}(hu:X.A.units+1<jx)(hv:PE X (.Name x p1) (zA i))(he:QE X e te)
  (hs:autoParam (ix (.Call (.Attribute (.Name x p1) "pop" p2) [e] [] p3) ar pos.line X.env=jo ao) c8._auto_1)
  (a00:autoParam (rq (.Name x p1) "pop" X.env (gn (.Name x p1) X.env)=gn (.Name x p1) X.env) c8._auto_1)
  (hfew:autoParam (((iu p3 (av (e::[]) X.env)).all (λx=>!x.1)&&(xz p3 (sx [] X.env)).all (λx=>x.1.isSome)
   && decide ((e::[]).length+([]:List zg).length+(if ([]:List zg).isEmpty then 0 else 1)<30))=aj) c8._auto_1)
  (a01:autoParam ((p2.endLine==p3.line)=aj) c8._auto_1) (hst:autoParam (av (e::[]) X.env=(ao,gn e X.env)::av [] X.env) c8._auto_1) (ZW:autoParam ((iu p3 (av [] X.env)).any (·.1)=ao) c8._auto_1):
  QS X (.Expr (.Call (.Attribute (.Name x p1) "pop" p2) [e] [] p3) pos) (Ay i te):=by
 have hA:QA X [e] (a9 te aF):=aD he aE hst;refine⟨λE E' ρ w h=>?_,λHZ F=>dW (uJ (Gp PySem.F.plainAttrs_dict VM PySem.F.type_dict_pop (Jl hu) hv (hA.run HZ F) a00 hfew a01 hst ZW) hs) λD σ H ⟨ρ,E,fr,h,en⟩=>?_⟩
 ·unfold Ay at *;split at h
  ·exact he.mono _ _ _ (λv zq5=>by obtain⟨k,j,d,a,b,q⟩:=zq5;exact⟨k,j,d,a,b,w.nx _ q⟩) h
  ·exact h
 ·unfold Ay at h;split at h
  ·rename_i a kvs hx;obtain⟨hs1,ep,vs,hv1,rv1⟩:=fr.sl i _ hx;refine⟨_,hs1,.inr (.inr (.inl ⟨rfl,.inr ⟨_,_,hv1⟩⟩)),?_⟩;have h':a9 te aF ρ λrs=>∃kk,rs=[kk] /\ ∃(k:List cF) (j:Nat) (d:Dv),kk.d=.tup (k.map kD)/\kvs[j]?=aa (k,d)/\E.nx (ρ.set i (.own a (.dit (kvs.eraseIdx j)))):=
    he.mono _ _ _ (λv z=>⟨v,rfl,z⟩) h
   refine hA.step fr h' λrs xs' H2 ⟨kk,erv,ks,j,d,ek,hj,q⟩ S2 r2=>?_;subst erv;have cc:=r2.c;obtain⟨y,rfl,cy⟩:=fG cc;have ck:=cy;rw[ek] at ck;obtain⟨b,zs,rfl,eb,rb⟩:=ck.tup;have ez:zs=ks.map kV:=rb.keys;have hv2:=S2 _ _ hv1;have rv2:=RepT.gen (.mono S2) rv1;obtain⟨v,hjv⟩:=RepT.at rv1 hj;refine⟨a,b,ep,vs,ks,v,j,rfl,rfl,hv2,ez ▸ eb,hjv,λep'=>?_⟩;have G:Gen X.K (MM F ρ) (MM F ρ) H2 (upd H2 a (.dT ep' (vs.eraseIdx j))):=Gen.write (.inr ⟨_,fh hx⟩) (by rw[hv2];trivial);exact en.nx _ _ _ ((fr.mono S2).write (d':=.dit (kvs.eraseIdx j)) hx ⟨_,_,bS,(rv2.erase j).gen G⟩) q
  ·exact h.elim
inductive DF(K:ap)(mg:bw->Option ah)(x nm:bw)(st:kh):Prop
 |mk {f:af} {od an:Option af} {sl:Array (Option ah)} {oc kV dc pm cd ct:ah} (a:mg x=aa (.ref f))
  (l:K.lookup f=aa ⟨oc,od,.func (zu nm nm (jR st) (eL st) (aI st) .none kV dc pm an cd ct),sl⟩) (c:VW K cd nm=aj) (k:qi K (.ref f)=aj)
inductive MF(K:ap)(C:af)(m qual:bw)(st:kh):Prop
 |mk {f:af} {od an:Option af} {sl:Array (Option ah)} {oc kV dc pm cd ct:ah} (a:jr K (.ref C) m=aa (aa (.ref f))) (i:Zs K (.ref f)=aj)
  (l:K.lookup f=aa ⟨oc,od,.func (zu m qual (jR st) (eL st) (aI st) .none kV dc pm an cd ct),sl⟩) (c:VW K cd qual=aj) (k:qi K (.ref f)=aj)
noncomputable abbrev Da(x ZG:bw)(st:kh)(ps:List bw):Prop:=∀(kV doc pm:ah) (an:Option af) (cdv ct:ah) (us:List ah),us.length=ps.length->Zf (zu x ZG (jR st) (eL st) (aI st) .none kV doc pm an cdv ct) ⟨us,[]⟩=jo (ps.zip us)
variable {p:List ah->Prop}
theorem TX(h:∀(a:ah) (us:List ah),us.length=n->p (a::us)):∀us:List ah,us.length=n+1->p us
 | [],e=>by cases e
 |a::us,e=>h a us (Nat.succ.inj e)
theorem TY(h:p []):∀us:List ah,us.length=0->p us
 | [],_=>h
 |_::_,e=>by cases e
variable {st:kh}
theorem DF.at{x nm:bw}(d:DF K mg x nm st)(h:Da nm nm st ps:=by intro _ _ _ _ _ _;(repeat refine Z.TX λ_=>?_);exact Z.TY rfl):At K mg x nm st ps:=by
 obtain⟨a,l,c,k⟩:=d;have F:=AC l c k;exact⟨_,_,a,F,F.binds h⟩
theorem MF.at{m:bw}(d:MF K C m ZG st)(h:Da m ZG st ps:=by intro _ _ _ _ _ _;(repeat refine Z.TX λ_=>?_);exact Z.TY rfl):MAt K C m ZG st ps:=by
 obtain⟨a,i,l,c,k⟩:=d;have F:=AC l c k;exact⟨_,_,⟨a,i,k⟩,F,F.binds h⟩
theorem MF.ini{x:bw}(d:MF K C "__init__" ZG st)(e:mg x=aa (.ref C))(mk:Xd K C=aj)(kc:qi K (.ref C)=aj)
  (h:Da "__init__" ZG st ps:=by intro _ _ _ _ _ _;(repeat refine Z.TX λ_=>?_);exact Z.TY rfl):IAt K mg x C ZG st ps:=by
 obtain⟨a,i,l,c,k⟩:=d;have F:=AC l c k;exact⟨_,_,⟨mk,a,i,kc⟩,e,F,F.binds h⟩
theorem Uc{x:bw}{n:Int}{t:ZD}(h:mg x=aa (.int n t)):∃t,mg x=aa (.int n t):=⟨_,h⟩
end Z
namespace Z
theorem UD:type_of% @Nf.eq_1:=@Nf.eq_1
theorem RV:type_of% @wX.eq_1:=@wX.eq_1
theorem O7:type_of% @GL.eq_1:=@GL.eq_1
theorem Lp:type_of% @Aw.eq_1:=@Aw.eq_1
theorem TC:type_of% @Pa.eq_1:=@Pa.eq_1
theorem Ra:type_of% @El.eq_1:=@El.eq_1
theorem QN:type_of% @vG.eq_1:=@vG.eq_1
theorem Qz:type_of% @EK.eq_1:=@EK.eq_1
theorem RW:type_of% @O5.eq_1:=@O5.eq_1
theorem Qy:type_of% @fU.eq_1:=@fU.eq_1
theorem TQ:type_of% @IL.eq_1:=@IL.eq_1
theorem O1:type_of% @jI.eq_1:=@jI.eq_1
theorem Rc:type_of% @O9.eq_1:=@O9.eq_1
theorem Na:type_of% @uN.eq_1:=@uN.eq_1
theorem PQ:type_of% @A8.eq_1:=@A8.eq_1
theorem Qt:type_of% @yJ.eq_1:=@yJ.eq_1
theorem TM:type_of% @Fh.eq_1:=@Fh.eq_1
theorem TL:type_of% @Pb.eq_1:=@Pb.eq_1
theorem RT:type_of% @aU.eq_1:=@aU.eq_1
theorem QK:type_of% @cA.eq_1:=@cA.eq_1
theorem O8:type_of% @zH.eq_1:=@zH.eq_1
theorem QM:type_of% @L0.eq_1:=@L0.eq_1
theorem O4:type_of% @k6.eq_1:=@k6.eq_1
theorem QL:type_of% @B2.eq_1:=@B2.eq_1
theorem RU:type_of% @cP.eq_1:=@cP.eq_1
theorem QJ:type_of% @Kz.eq_1:=@Kz.eq_1
theorem Ts:type_of% @jN.eq_1:=@jN.eq_1
theorem RS:type_of% @c9.eq_1:=@c9.eq_1
theorem QF:type_of% @jA.eq_1:=@jA.eq_1
theorem RX:type_of% @J8.eq_1:=@J8.eq_1
theorem PV:type_of% @freeze.eq_1:=@freeze.eq_1
theorem Rb:type_of% @Em.eq_1:=@Em.eq_1
theorem Re:type_of% @nW.eq_1:=@nW.eq_1
theorem QH:type_of% @Ky.eq_1:=@Ky.eq_1
theorem RY:type_of% @eZ.eq_1:=@eZ.eq_1
theorem T8:type_of% @a8.eq_1:=@a8.eq_1
theorem Ud:type_of% @eC.eq_1:=@eC.eq_1
theorem R0:type_of% @a9.eq_1:=@a9.eq_1
theorem TH:type_of% @aF.eq_1:=@aF.eq_1
theorem UA:type_of% @aR.eq_1:=@aR.eq_1
theorem Qv:type_of% @bI.eq_1:=@bI.eq_1
theorem TU:type_of% @xD.eq_1:=@xD.eq_1
theorem U9:type_of% @Ke.eq_1:=@Ke.eq_1
theorem TF:type_of% @oC.eq_1:=@oC.eq_1
theorem R4:type_of% @sL.eq_1:=@sL.eq_1
theorem TD:type_of% @IJ.eq_1:=@IJ.eq_1
theorem Qx:type_of% @wI.eq_1:=@wI.eq_1
theorem UB:type_of% @UC.eq_1:=@UC.eq_1
theorem T9:type_of% @gI.eq_1:=@gI.eq_1
theorem TK:type_of% @jQ.eq_1:=@jQ.eq_1
theorem TJ:type_of% @Kf.eq_1:=@Kf.eq_1
theorem TB:type_of% @kJ.eq_1:=@kJ.eq_1
theorem R3:type_of% @b9.eq_1:=@b9.eq_1
theorem TW:type_of% @back.eq_1:=@back.eq_1
theorem UE:type_of% @fF.eq_1:=@fF.eq_1
theorem TN:type_of% @AG.eq_1:=@AG.eq_1
theorem R1:type_of% @gE.eq_1:=@gE.eq_1
theorem QC:type_of% @jM.eq_1:=@jM.eq_1
theorem U8:type_of% @Fg.eq_1:=@Fg.eq_1
theorem Qw:type_of% @lL.eq_1:=@lL.eq_1
theorem Nd:type_of% @gA.eq_1:=@gA.eq_1
theorem Sv:type_of% @kI.eq_1:=@kI.eq_1
theorem Nc:type_of% @dH.eq_1:=@dH.eq_1
theorem Nb:type_of% @gU.eq_1:=@gU.eq_1
theorem UY:type_of% @gN.eq_1:=@gN.eq_1
theorem UX:type_of% @gT.eq_1:=@gT.eq_1
theorem Nz:type_of% @aM.eq_1:=@aM.eq_1
theorem Pd:type_of% @mU.eq_1:=@mU.eq_1
theorem QQ:type_of% @f7.eq_1:=@f7.eq_1
end Z
local macro_rules | `(tactic| push_cast [$xs,*])=>do
  let a:Array (Lean.TSyntax `Lean.Parser.Tactic.simpLemma) <- (("UD RV O7 Lp S7 TC QU Ra QN Qz RW Qy TQ O1 O0 Rc Os On Op Na PQ Qt TM TL RT QK O8 QM O4 QL RU QJ Ts RS QF RX PV Rb Re QH RY T8 Ud R0 TH UA Qv TU U9 TF R4 TD Qx UB T9 TK TJ TB R3 TW UE TN R1 QC U8 Qw Nd Sv Nc Nb UY UX Nz Pd Qr QR Qg Qo Ot Qh Oi QY Qq Qp Qf SC S8 QZ SA Qa SD Rt SE Ru Qk Qb Qn Qe Ql Qc Qm Qd Tz Tw Tx Tv Tu Tt S0 Ry Rz SG Rv Rx Of Oe Qj Qi SF Rr iQ LM QQ reduceIte".splitOn " ").toArray.mapM λn=>`(Lean.Parser.Tactic.simpLemma| ↓ $(Lean.mkIdent n.toName):term))
  let b:Array (Lean.TSyntax `Lean.Parser.Tactic.simpLemma) <- (("Uq Us Ur Uf Uh Ug Ul Uo Um Ui Uk Uj T6 b6 b8 Sn Qs U3 U6 U5 U1 U0 U4 U2 RD RA RC RB R8 R9 UJ UI UH UG UF Sm Sk Sj Si Sh Se Sd Sc Sb Sa SZ SY SX SW SV beq_self_eq_true List.getElem?_cons_zero List.getElem?_cons_succ List.set_cons_zero List.set_cons_succ List.map_cons List.map_nil List.cons_append List.nil_append List.append_nil List.length_cons List.length_nil List.replicate_succ List.replicate_zero List.all_cons List.all_nil Option.getD_some Bool.and_true Bool.true_and if_true Bool.false_eq_true if_false true_and and_true true_or decide_eq_true_eq decide_true decide_false Bool.not_true Bool.not_false List.not_mem_nil false_imp_iff implies_true nV Nat.reduceSub Nat.reduceAdd Int.reduceEq Int.reduceMul Int.reduceAdd Int.reduceSub Int.reduceNeg Z.guard Int.reduceLT Int.reduceLE Int.reduceToNat Int.reducePow Nat.reduceLT Nat.reduceLeDiff Nat.reducePow CN".splitOn " ").toArray.mapM λn=>`(Lean.Parser.Tactic.simpLemma| $(Lean.mkIdent n.toName):term))
  `(tactic| simp only[$a,*,$b,*,$xs,*])
local macro_rules | `(tactic| ac_nf)=>`(tactic| push_cast [Z.nV])
namespace Lw
open L2 Z
noncomputable def top(i:Nat):kh:=mw.main.body.getD i (.Pass ⟨0,0,0,0⟩)
noncomputable abbrev tL:cD:=
 (nW 1 (gI (a9 (a8 2) (a9 (a8 3) (a9 (a8 4) (a9 (a8 5) aF))))))
noncomputable abbrev pK:cD:=
 (eZ (gU (a9 (aR dG (a8 4) (eC (.int 1))) (a9 (a8 0) aF))) (gN 5) tL)
noncomputable abbrev pJ:cD:=
 (eZ (gU (a9 (aR dG (a8 3) (eC (.int 1))) (a9 (a8 0) aF))) (gN 4) pK)
noncomputable abbrev pH:cD:=
 (eZ (gU (a9 (aR dG (a8 2) (eC (.int 1))) (a9 (a8 0) aF))) (gN 3) pJ)
noncomputable abbrev z9:cD:=
 (aU (jA 1 (jQ aF))
 (aU (eZ (dH (a9 (a8 0) aF)) (gN 2) pH)
 (cP (a8 1))))
variable {bM bE bJ d5 bD aK bC cH:Fn}{aT:af}
section
local macro_rules | `(tactic| norm_cast)=>`(tactic| exact⟨rfl,rfl,rfl,by decide +kernel,rfl,by decide +kernel,by decide +kernel⟩)
theorem IP(P:ay)(w:bz)(mg:bw->Option ah)(base:dq)(m:At K mg "fours" "fours" (top 9) ["many"])(aS:mg "range" = ar)(len:∀ds Q,sp ds Q->ds.length=1)(hsp:∀ds Q,sp ds Q->z9  ↥Q (aM ["many", "told", "i", "j", "k", "l"] ds)):Def P w K mg base 1 "fours" ["many"] (low K sp):=by
 have sc:FnScope ["many", "told", "i", "j", "k", "l"] ["many"] (aI (top 9)):=by norm_cast
 refine m.okP (k:=0) (t:=z9 ) sc (λf cdv A outer s H E hr=>?_) len hsp
 ·
  exact(aG (iF (i:=1) sc.nd rfl (.inl rfl) (iK aE))
 (aG (dI cq rfl (cW rfl aS (aD (a7 0 (pv 0)) aE)) (f6 (i:=2) (k:=6) sc.nd rfl (.inl rfl)) (aH (dI cq rfl (g7 rfl aS (aD (bO bT (a7 2 (pv 2)) aN) (aD (a7 0 (pv 0)) aE))) (f6 (i:=3) (k:=6) sc.nd rfl (.inl rfl)) (aH (dI cq rfl (g7 rfl aS (aD (bO bT (a7 3 (pv 3)) aN) (aD (a7 0 (pv 0)) aE))) (f6 (i:=4) (k:=6) sc.nd rfl (.inl rfl)) (aH (dI cq rfl (g7 rfl aS (aD (bO bT (a7 4 (pv 4)) aN) (aD (a7 0 (pv 0)) aE))) (f6 (i:=5) (k:=6) sc.nd rfl (.inl rfl)) (aH (rW (i:=1) (pv 1) (hG (aD (a7 2 (pv 2)) (aD (a7 3 (pv 3)) (aD (a7 4 (pv 4)) (aD (a7 5 (pv 5)) aE))))))))))))))
 (aH (bV (a7 1 (pv 1))))))
noncomputable abbrev q9:cD:=
 (cP (sL (AG "int" (a8 0)) (wI (AG "bool" (a8 0)))))
theorem C7(P:ay)(w:bz)(mg:bw->Option ah)(base:dq)(m:At K mg "is_whole" "is_whole" (top 16) ["thing"])(bF:mg "isinstance" = ar)(G5:mg "int" = ar)(CS:mg "bool" = ar)(len:∀ds Q,sp ds Q->ds.length=1)(hsp:∀ds Q,sp ds Q->q9  ↥Q (aM ["thing"] ds)):Def P w K mg base 1 "is_whole" ["thing"] (low K sp):=by
 have sc:FnScope ["thing"] ["thing"] (aI (top 16)):=by norm_cast
 refine m.okP (k:=0) (t:=q9 ) sc (λf cdv A outer s H E hr=>?_) len hsp
 ·
  exact(aH (bV (xW (B8 (.inl rfl) rfl bF (a7 0 (pv 0)) (p8 (v:=.ty "int") rfl G5 boot_int rfl)) (vL (Dm (B8 (.inr (.inl rfl)) rfl bF (a7 0 (pv 0)) (p8 (v:=.ty "bool") rfl CS boot_bool rfl)))))))
noncomputable abbrev gX(iS:Fn):cD:=
 (aU (jN (Ke (oC (kJ (AG "tuple" (a8 0)))) (bI (aR y8 (fF d8 (a9 (a8 0) aF)) (eC (.int 3))))) (cP (eC (.bl ao))) cA)
 (cP (fF Gx (a9 (gE 1 [] (kI (a8 0)) (gN 0) jM (b9 iS (a9 (a8 0) aF))) aF))))
theorem pR(P:ay)(w:bz)(mg:bw->Option ah)(base:dq){iS:Fn}(m:At K mg "has_three_wholes" "has_three_wholes" (top 22) ["direction"])(bF:mg "isinstance" = ar)(eK:mg "tuple" = ar)(bA:mg "len" = ar)(G7:mg "all" = ar)(qV:Def P w K mg base 1 "is_whole" ["thing"] (low K iS))(Be:MonoF iS)(len:∀ds Q,sp ds Q->ds.length=1)(hsp:∀ds Q,sp ds Q->gX iS ↥Q (aM ["direction"] ds)):Def P w K mg base 2 "has_three_wholes" ["direction"] (low K sp):=by
 have sc:FnScope ["direction"] ["direction"] (aI (top 22)):=by norm_cast
 refine m.okP (k:=1) (t:=gX iS) sc (λf cdv A outer s H E hr=>?_) len hsp
 ·
  have hu:=hr.units;exact(aG (fQ (QW.qt (Dl (k8 (iE (B8 (.inr (.inr (.inl rfl))) rfl bF (a7 0 (pv 0)) (p8 (v:=.ty "tuple") rfl eK yq rfl)))) (zI (c6 (qH hu) (aW bX rfl bA fx (aD (a7 0 (pv 0)) aE)) aN)))) (aH (bV n9)) bW)
 (aH (bV (aW (NH rfl) rfl G7 boot_all (aD (Ct ["part"] [] [] rfl (gG (a7 0 (pv 0))) (λfp s H=>(f6 (i:=0) (k:=1) (show lr (["part"]:List bw) by decide +kernel) rfl (.inl rfl))) (λfp s H=>oZ) (λfp s H=>(bH qV Be (hr.mono ∅) (aD (a7 0 (pv 0)) aE)))) aE)))))
noncomputable abbrev iC:cD:=
 (cP (sL (aR Om (fF F5 (a9 (aR cV (a8 0) (eC (.int 0))) aF)) (eC (.int 999999999999))) (aR Om (fF F5 (a9 (aR cV (a8 0) (eC (.int 1))) aF)) (eC (.int 999999999999)))))
theorem qO(P:ay)(w:bz)(mg:bw->Option ah)(base:dq)(m:At K mg "has_few_figures" "has_few_figures" (top 23) ["direction"])(Dc:mg "abs" = ar)(i8:∃t,mg "LARGEST_PART" = aa (.int 999999999999 t))(len:∀ds Q,sp ds Q->ds.length=1)(hsp:∀ds Q,sp ds Q->iC  ↥Q (aM ["direction"] ds)):Def P w K mg base 1 "has_few_figures" ["direction"] (low K sp):=by
 have sc:FnScope ["direction"] ["direction"] (aI (top 23)):=by norm_cast
 refine m.okP (k:=0) (t:=iC ) sc (λf cdv A outer s H E hr=>?_) len hsp
 ·
  have hu1:=f9 hr;exact(aH (bV (xW (lC Gy (aW IU rfl Dc boot_abs (aD (c7 hu1 (a7 0 (pv 0)) aN) aE)) (rV i8)) (vL (lC Gy (aW IU rfl Dc boot_abs (aD (c7 hu1 (a7 0 (pv 0)) aN) aE)) (rV i8))))))
noncomputable abbrev nI:cD:=
 (cP (IJ (aR Dy (aR cV (a8 0) (eC (.int 1))) (eC (.int 0))) (sL (aR sP (aR cV (a8 0) (eC (.int 1))) (eC (.int 0))) (aR Dy (aR cV (a8 0) (eC (.int 0))) (eC (.int 0))))))
theorem AH(P:ay)(w:bz)(mg:bw->Option ah)(base:dq)(m:At K mg "points_up" "points_up" (top 24) ["direction"])(len:∀ds Q,sp ds Q->ds.length=1)(hsp:∀ds Q,sp ds Q->nI  ↥Q (aM ["direction"] ds)):Def P w K mg base 1 "points_up" ["direction"] (low K sp):=by
 have sc:FnScope ["direction"] ["direction"] (aI (top 24)):=by norm_cast
 refine m.okP (k:=0) (t:=nI ) sc (λf cdv A outer s H E hr=>?_) len hsp
 ·
  have hu:=hr.units;have hu1:=f9 hr;exact(aH (bV (OQ (lC kZ (c7 hu1 (a7 0 (pv 0)) aN) aN) (vL (xW (lC (gH hu) (c7 hu1 (a7 0 (pv 0)) aN) aN) (vL (lC kZ (c7 hu1 (a7 0 (pv 0)) aN) aN)))))))
noncomputable abbrev nJ:cD:=
 (cP (aR Dy (aR lF (aR gL (aR cV (a8 1) (eC (.int 0))) (aR cV (a8 0) (eC (.int 1)))) (aR gL (aR cV (a8 0) (eC (.int 0))) (aR cV (a8 1) (eC (.int 1))))) (eC (.int 0))))
theorem AI(P:ay)(w:bz)(mg:bw->Option ah)(base:dq)(m:At K mg "lies_left" "lies_left" (top 25) ["direction", "ahead"])(len:∀ds Q,sp ds Q->ds.length=2)(hsp:∀ds Q,sp ds Q->nJ  ↥Q (aM ["direction", "ahead"] ds)):Def P w K mg base 1 "lies_left" ["direction", "ahead"] (low K sp):=by
 have sc:FnScope ["direction", "ahead"] ["direction", "ahead"] (aI (top 25)):=by norm_cast
 refine m.okP (k:=0) (t:=nJ ) sc (λf cdv A outer s H E hr=>?_) len hsp
 ·
  have hu1:=f9 hr;exact(aH (bV (lC kZ (bO kN (bO dQ (c7 hu1 (a7 1 (pv 1)) aN) (c7 hu1 (a7 0 (pv 0)) aN)) (bO dQ (c7 hu1 (a7 0 (pv 0)) aN) (c7 hu1 (a7 1 (pv 1)) aN))) aN)))
noncomputable abbrev iD(cX dC hW:Fn):cD:=
 (aU (jN (oC (kJ (b9 cX (a9 (a8 0) aF)))) k6 cA)
 (aU (jN (oC (kJ (b9 dC (a9 (a8 0) aF)))) k6 cA)
 (aU (jN (oC (kJ (b9 hW (a9 (a8 0) aF)))) k6 cA)
 (jN (bI (aR zR (aR cV (a8 0) (eC (.int 2))) (eC (.int 1)))) k6 cA))))
theorem qP(P:ay)(w:bz)(mg:bw->Option ah)(base:dq){cX dC hW:Fn}(m:At K mg "check_direction" "check_direction" (top 26) ["direction"])(h9:Def P w K mg base 2 "has_three_wholes" ["direction"] (low K cX))(pN:MonoF cX)(iH:Def P w K mg base 1 "has_few_figures" ["direction"] (low K dC))(qK:MonoF dC)(oE:Def P w K mg base 1 "points_up" ["direction"] (low K hW))(zU:MonoF hW)(len:∀ds Q,sp ds Q->ds.length=1)(hsp:∀ds Q,sp ds Q->iD cX dC hW ↥Q (aM ["direction"] ds)):Def P w K mg base 3 "check_direction" ["direction"] (low K sp):=by
 have sc:FnScope ["direction"] ["direction"] (aI (top 26)):=by norm_cast
 refine m.okP (k:=2) (t:=iD cX dC hW) sc (λf cdv A outer s H E hr=>?_) len hsp
 ·
  have hu1:=f9 hr;exact(aG (fQ (k8 (iE (bH h9 pN (hr.mono ∅) (aD (a7 0 (pv 0)) aE)))) (aH kM) bW)
 (aG (fQ (k8 (iE (bH iH qK (hr.mono ∅) (aD (a7 0 (pv 0)) aE)))) (aH kM) bW)
 (aG (fQ (k8 (iE (bH oE zU (hr.mono ∅) (aD (a7 0 (pv 0)) aE)))) (aH kM) bW)
 (aH (fQ (c6 nZ (c7 hu1 (a7 0 (pv 0)) aN) aN) (aH kM) bW)))))
noncomputable abbrev jD(bR dL:Fn):cD:=
 (B2 (b9 bR (a9 (a8 1) aF)))
noncomputable abbrev g5(bR dL:Fn):cD:=
 (jN (oC (kJ (b9 dL (a9 (a8 1) (a9 (a8 2) aF))))) k6 cA)
noncomputable abbrev gY(bR dL:Fn):cD:=
 (aU (jN (oC (kJ (AG "list" (a8 0)))) k6 cA)
 (aU (jN (oC (bI (mU Om Om (eC (.int 2)) (fF d8 (a9 (a8 0) aF)) (eC (.int 6))))) k6 cA)
 (aU (eZ (kI (a8 0)) (gN 1) (jD bR dL))
 (aU (jN (bI (aR Dy (fF Gs (a9 (gE 1 [] (kI (a8 0)) (gN 0) jM (aR cV (a8 0) (eC (.int 2)))) aF)) (eC (.int 12)))) k6 cA)
 (eZ (yJ (a9 (a8 0) (a9 (Fg (a8 0) (lL (eC (.int 1))) gA) aF))) (gT [2,1]) (g5 bR dL))))))
theorem pS(P:ay)(w:bz)(mg:bw->Option ah)(base:dq){bR dL:Fn}(m:At K mg "check_directions" "check_directions" (top 27) ["directions"])(bF:mg "isinstance" = ar)(fS:mg "list" = ar)(bA:mg "len" = ar)(G4:mg "sum" = ar)(xP:mg "zip" = ar)(gF:∃t,mg "FEWEST_DIRECTIONS" = aa (.int 2 t))(i7:∃t,mg "MOST_DIRECTIONS" = aa (.int 6 t))(lW:∃t,mg "MOST_BANDS" = aa (.int 12 t))(iI:Def P w K mg base 3 "check_direction" ["direction"] (low K bR))(qL:MonoF bR)(oF:Def P w K mg base 1 "lies_left" ["direction", "ahead"] (low K dL))(zV:MonoF dL)(len:∀ds Q,sp ds Q->ds.length=1)(hsp:∀ds Q,sp ds Q->gY bR dL ↥Q (aM ["directions", "direction", "ahead"] ds)):Def P w K mg base 4 "check_directions" ["directions"] (low K sp):=by
 have sc:FnScope ["directions", "direction", "ahead"] ["directions"] (aI (top 27)):=by norm_cast
 refine m.okP (k:=3) (t:=gY bR dL) sc (λf cdv A outer s H E hr=>?_) len hsp
 ·
  have hu1:=f9 hr;exact(aG (fQ (k8 (iE (B8 (.inr (.inr (.inr (.inl rfl)))) rfl bF (a7 0 (pv 0)) (p8 (v:=.ty "list") rfl fS Wh rfl)))) (aH kM) bW)
 (aG (fQ (k8 (B6 Gz Gz (rV gF) (aW bX rfl bA fx (aD (a7 0 (pv 0)) aE)) (rV i7))) (aH kM) bW)
 (aG (dI cq rfl (gG (a7 0 (pv 0))) (f6 (i:=1) (k:=3) sc.nd rfl (.inl rfl)) (aH (GQ (bH iI qL (hr.mono ∅) (aD (a7 1 (pv 1)) aE)))))
 (aG (fQ (c6 kZ (aW (NG rfl) rfl G4 boot_sum (aD (Ct ["direction"] [] [] rfl (gG (a7 0 (pv 0))) (λfp s H=>(f6 (i:=0) (k:=1) (show lr (["direction"]:List bw) by decide +kernel) rfl (.inl rfl))) (λfp s H=>oZ) (λfp s H=>(c7 hu1 (a7 0 (pv 0)) aN))) aE)) (rV lW)) (aH kM) bW)
 (aH (dI cq rfl (GP rfl xP (aD (a7 0 (pv 0)) (aD (mJ (a7 0 (pv 0)) (mG aN) mH) aE))) (Cu (k:=3) (is:=[2,1]) rfl (dD (dZ (i:=2) sc.nd rfl (.inl rfl)) (dD (dZ (i:=1) sc.nd rfl (.inl rfl)) mO))) (aH (fQ (k8 (iE (bH oF zV (hr.mono ∅) (aD (a7 1 (pv 1)) (aD (a7 2 (pv 2)) aE))))) (aH kM) bW))))))))
noncomputable abbrev sO(C:af)(cB:Fn):cD:=
 (El 2 (aR gL (jQ (a9 (a8 3) aF)) (aR cV (a8 4) (eC (.int 2)))))
noncomputable abbrev Cc(C:af)(cB:Fn):cD:=
 (aU (B2 (b9 cB (a9 (a8 1) aF)))
 (aU (jA 2 (jQ aF))
 (aU (eZ (A8 (a9 (a8 1) aF)) (gT [3,4]) (sO C cB))
 (aU (vG C 0 "kinds" (fF kA (a9 (a8 2) aF)))
 (vG C 0 "vectors" (fF kA (a9 (gE 1 [] (kI (a8 1)) (gN 0) jM (gI (a9 (aR cV (a8 0) (eC (.int 0))) (a9 (aR cV (a8 0) (eC (.int 1))) aF)))) aF)))))))
theorem Ki(P:ay)(w:bz)(mg:bw->Option ah)(base:dq){cB:Fn}(m:IAt K mg "Sides" C "Sides.__init__" (g9 (top 28) 0) ["self", "directions"])(nE:mg "enumerate" = ar)(eK:mg "tuple" = ar)(cl:Cls K C)(jP:jL K C "kinds")(t4:jL K C "vectors")(hC:Def P w K mg base 4 "check_directions" ["directions"] (low K cB))(pP:MonoF cB)(len:∀ds Q,sp ds Q->ds.length+1=2)(hsp:∀ds Q,sp ds Q -> ∀a,Cc C cB { nx:=λρ=>∃d,ρ[0]?=aa (.own a d)/\Q (.nw d),rt:=λ_=>False } (jI C a ["self", "directions", "kinds", "number", "direction"] ds)):IDef P w K mg base 5 "Sides" C ["self", "directions"] sp:=by
 have sc:FnScope ["self", "directions", "kinds", "number", "direction"] ["self", "directions"] (aI (g9 (top 28) 0)):=by norm_cast
 refine m.okP (k:=4) (t:=Cc C cB) sc (λf cdv A outer s H E hr=>?_) len hsp
 ·
  have hu1:=f9 hr;exact(aG (GQ (bH hC pP (hr.mono ∅) (aD (a7 1 (pv 1)) aE)))
 (aG (iF (i:=2) sc.nd rfl (.inl rfl) (iK aE))
 (aG (dI cq rfl (JE rfl nE (aD (a7 1 (pv 1)) aE)) (Cu (k:=5) (is:=[3,4]) rfl (dD (dZ (i:=3) sc.nd rfl (.inl rfl)) (dD (dZ (i:=4) sc.nd rfl (.inl rfl)) mO))) (aH (OT (i:=2) (pv 2) (bO dQ (iK (aD (a7 3 (pv 3)) aE)) (c7 hu1 (a7 4 (pv 4)) aN)))))
 (aG (GR (i:=0) cl jP (pv 0) (k9 oM rfl eK yq (aD (a7 2 (pv 2)) aE)))
 (aH (GR (i:=0) cl t4 (pv 0) (k9 oM rfl eK yq (aD (Ct ["direction"] [] [] rfl (gG (a7 1 (pv 1))) (λfp s H=>(f6 (i:=0) (k:=1) (show lr (["direction"]:List bw) by decide +kernel) rfl (.inl rfl))) (λfp s H=>oZ) (λfp s H=>(hG (aD (c7 hu1 (a7 0 (pv 0)) aN) (aD (c7 hu1 (a7 0 (pv 0)) aN) aE))))) aE))))))))
noncomputable abbrev Ca(C:af):cD:=
 (cP (fF d8 (a9 (IL C "kinds" (a8 0)) aF)))
theorem Kg(P:ay)(w:bz)(mg:bw->Option ah)(base:dq)(m:MAt K C "many" "Sides.many" (g9 (top 28) 1) ["self"])(bA:mg "len" = ar)(cl:Cls K C)(jP:jL K C "kinds")(len:∀ds Q,sp ds Q->ds.length=1)(hsp:∀ds Q,sp ds Q->Ca C  ↥Q (aM ["self"] ds)):MDef P w K mg base 1 C "many" ["self"] (low K sp):=by
 have sc:FnScope ["self"] ["self"] (aI (g9 (top 28) 1)):=by norm_cast
 refine m.okP (k:=0) (t:=Ca C ) sc (λf cdv A outer s H E hr=>?_) len hsp
 ·
  exact(aH (bV (aW bX rfl bA fx (aD (L4 cl jP (a7 0 (pv 0))) aE))))
noncomputable abbrev Cb(C:af):cD:=
 (cP (aR cV (IL C "kinds" (a8 0)) (a8 1)))
theorem Kh(P:ay)(w:bz)(mg:bw->Option ah)(base:dq)(m:MAt K C "kind" "Sides.kind" (g9 (top 28) 2) ["self", "band"])(cl:Cls K C)(jP:jL K C "kinds")(len:∀ds Q,sp ds Q->ds.length=2)(hsp:∀ds Q,sp ds Q->Cb C  ↥Q (aM ["self", "band"] ds)):MDef P w K mg base 1 C "kind" ["self", "band"] (low K sp):=by
 have sc:FnScope ["self", "band"] ["self", "band"] (aI (g9 (top 28) 2)):=by norm_cast
 refine m.okP (k:=0) (t:=Cb C ) sc (λf cdv A outer s H E hr=>?_) len hsp
 ·
  have hu1:=f9 hr;exact(aH (bV (c7 hu1 (L4 cl jP (a7 0 (pv 0))) (a7 1 (pv 1)))))
noncomputable abbrev jV(C:af)(bM:Fn):cD:=
 (aU (jN (bI (aR sP (fU C "kind" bM (a8 0) (a9 (aR cV (a8 2) (eC (.int 0))) aF)) (fU C "kind" bM (a8 0) (a9 (aR cV (a8 2) (eC (.int 1))) aF)))) (cP (eC (.bl ao))) cA)
 (aU (jN (bI (aR sP (fU C "kind" bM (a8 0) (a9 (aR cV (a8 2) (eC (.int 1))) aF)) (fU C "kind" bM (a8 0) (a9 (aR cV (a8 2) (eC (.int 2))) aF)))) (cP (eC (.bl aj))) cA)
 (cP (aR F2 (a8 2) (a8 1)))))
theorem uF(P:ay)(w:bz)(mg:bw->Option ah)(base:dq)(m:At K mg "counts_as_up" "counts_as_up" (top 8) ["sides", "ups", "three"])(cl:Cls K C)(eO:MDef P w K mg base 1 C "kind" ["self", "band"] (low K bM))(dB:MonoF bM)(len:∀ds Q,sp ds Q->ds.length=3)(hsp:∀ds Q,sp ds Q->jV C bM ↥Q (aM ["sides", "ups", "three"] ds)):Def P w K mg base 2 "counts_as_up" ["sides", "ups", "three"] (low K sp):=by
 have sc:FnScope ["sides", "ups", "three"] ["sides", "ups", "three"] (aI (top 8)):=by norm_cast
 refine m.okP (k:=1) (t:=jV C bM) sc (λf cdv A outer s H E hr=>?_) len hsp
 ·
  have hu:=hr.units;have hu1:=f9 hr;exact(aG (fQ (c6 (gH hu) (jJ cl eO dB (hr.mono ∅) (a7 0 (pv 0)) (aD (c7 hu1 (a7 2 (pv 2)) aN) aE)) (jJ cl eO dB (hr.mono ∅) (a7 0 (pv 0)) (aD (c7 hu1 (a7 2 (pv 2)) aN) aE))) (aH (bV n9)) bW)
 (aG (fQ (c6 (gH hu) (jJ cl eO dB (hr.mono ∅) (a7 0 (pv 0)) (aD (c7 hu1 (a7 2 (pv 2)) aN) aE)) (jJ cl eO dB (hr.mono ∅) (a7 0 (pv 0)) (aD (c7 hu1 (a7 2 (pv 2)) aN) aE))) (aH (bV n9)) bW)
 (aH (bV (lC (zT hu1) (a7 2 (pv 2)) (a7 1 (pv 1)))))))
noncomputable abbrev iB(C:af)(bM:Fn):cD:=
 (cP (IJ (aR sP (fU C "kind" bM (a8 0) (a9 (aR cV (a8 1) (eC (.int 0))) aF)) (fU C "kind" bM (a8 0) (a9 (aR cV (a8 1) (eC (.int 2))) aF))) (aR sP (fU C "kind" bM (a8 0) (a9 (aR cV (a8 1) (eC (.int 1))) aF)) (fU C "kind" bM (a8 0) (a9 (aR cV (a8 1) (eC (.int 3))) aF)))))
theorem qN(P:ay)(w:bz)(mg:bw->Option ah)(base:dq)(m:At K mg "has_three_alike" "has_three_alike" (top 10) ["sides", "four"])(cl:Cls K C)(eO:MDef P w K mg base 1 C "kind" ["self", "band"] (low K bM))(dB:MonoF bM)(len:∀ds Q,sp ds Q->ds.length=2)(hsp:∀ds Q,sp ds Q->iB C bM ↥Q (aM ["sides", "four"] ds)):Def P w K mg base 2 "has_three_alike" ["sides", "four"] (low K sp):=by
 have sc:FnScope ["sides", "four"] ["sides", "four"] (aI (top 10)):=by norm_cast
 refine m.okP (k:=1) (t:=iB C bM) sc (λf cdv A outer s H E hr=>?_) len hsp
 ·
  have hu:=hr.units;have hu1:=f9 hr;exact(aH (bV (OQ (lC (gH hu) (jJ cl eO dB (hr.mono ∅) (a7 0 (pv 0)) (aD (c7 hu1 (a7 1 (pv 1)) aN) aE)) (jJ cl eO dB (hr.mono ∅) (a7 0 (pv 0)) (aD (c7 hu1 (a7 1 (pv 1)) aN) aE))) (vL (lC (gH hu) (jJ cl eO dB (hr.mono ∅) (a7 0 (pv 0)) (aD (c7 hu1 (a7 1 (pv 1)) aN) aE)) (jJ cl eO dB (hr.mono ∅) (a7 0 (pv 0)) (aD (c7 hu1 (a7 1 (pv 1)) aN) aE)))))))
noncomputable abbrev nP(bE:Fn):cD:=
 (aU (c9 3 (jQ (a9 (gI (a9 (aR cV (a8 2) (eC (.int 0))) (a9 (aR cV (a8 2) (eC (.int 1))) (a9 (aR cV (a8 2) (eC (.int 2))) aF)))) (a9 (gI (a9 (aR cV (a8 2) (eC (.int 0))) (a9 (aR cV (a8 2) (eC (.int 1))) (a9 (aR cV (a8 2) (eC (.int 3))) aF)))) (a9 (gI (a9 (aR cV (a8 2) (eC (.int 0))) (a9 (aR cV (a8 2) (eC (.int 2))) (a9 (aR cV (a8 2) (eC (.int 3))) aF)))) (a9 (Fg (a8 2) (lL (eC (.int 1))) gA) aF))))))
 (aU (c9 4 (gE 1 [0,1] (kI (a8 3)) (gN 0) jM (b9 bE (a9 (a8 1) (a9 (a8 2) (a9 (a8 0) aF))))))
 (aU (c9 5 (gE 2 [] (yJ (a9 (a8 4) (a9 (Fg (a8 4) (lL (eC (.int 1))) gA) aF))) (gT [0,1]) (bI (aR y8 (a8 0) (a8 1))) (eC (.int 1))))
 (cP (aR Dy (fF d8 (a9 (a8 5) aF)) (eC (.int 1)))))))
theorem AN(P:ay)(w:bz)(mg:bw->Option ah)(base:dq)(m:At K mg "is_barred" "is_barred" (top 11) ["sides", "ups", "four"])(xP:mg "zip" = ar)(bA:mg "len" = ar)(d9:Def P w K mg base 2 "counts_as_up" ["sides", "ups", "three"] (low K bE))(f8:MonoF bE)(len:∀ds Q,sp ds Q->ds.length=3)(hsp:∀ds Q,sp ds Q->nP bE ↥Q (aM ["sides", "ups", "four", "within", "stand", "changes"] ds)):Def P w K mg base 3 "is_barred" ["sides", "ups", "four"] (low K sp):=by
 have sc:FnScope ["sides", "ups", "four", "within", "stand", "changes"] ["sides", "ups", "four"] (aI (top 11)):=by norm_cast
 refine m.okP (k:=2) (t:=nP bE) sc (λf cdv A outer s H E hr=>?_) len hsp
 ·
  have hu:=hr.units;have hu1:=f9 hr;exact(aG (cO (i:=3) sc.nd rfl (.inl rfl) (iK (aD (hG (aD (c7 hu1 (a7 2 (pv 2)) aN) (aD (c7 hu1 (a7 2 (pv 2)) aN) (aD (c7 hu1 (a7 2 (pv 2)) aN) aE)))) (aD (hG (aD (c7 hu1 (a7 2 (pv 2)) aN) (aD (c7 hu1 (a7 2 (pv 2)) aN) (aD (c7 hu1 (a7 2 (pv 2)) aN) aE)))) (aD (hG (aD (c7 hu1 (a7 2 (pv 2)) aN) (aD (c7 hu1 (a7 2 (pv 2)) aN) (aD (c7 hu1 (a7 2 (pv 2)) aN) aE)))) (aD (mJ (a7 2 (pv 2)) (mG aN) mH) aE))))))
 (aG (zJ (Do (iy:=4) ["three"] ["sides", "ups"] [0,1] sc.nd rfl (.inl rfl) rfl (gG (a7 3 (pv 3))) (λfp s H=>(f6 (i:=0) (k:=1) (show lr (["three", "sides", "ups"]:List bw) by decide +kernel) rfl (.inl rfl))) (λfp s H=>oZ) (λfp s H=>(bH d9 f8 (hr.mono ∅) (aD (a7 1 (pv 1)) (aD (a7 2 (pv 2)) (aD (a7 0 (pv 0)) aE)))))))
 (aG (zJ (Do (iy:=5) ["one", "other"] [] [] sc.nd rfl (.inl rfl) rfl (GP rfl xP (aD (a7 4 (pv 4)) (aD (mJ (a7 4 (pv 4)) (mG aN) mH) aE))) (λfp s H=>(Cu (k:=2) (is:=[0,1]) rfl (dD (dZ (i:=0) (show lr (["one", "other"]:List bw) by decide +kernel) rfl (.inl rfl)) (dD (dZ (i:=1) (show lr (["one", "other"]:List bw) by decide +kernel) rfl (.inl rfl)) mO)))) (λfp s H=>(rT (c6 (qH hu) (a7 0 (pv 0)) (a7 1 (pv 1))))) (λfp s H=>aN)))
 (aH (bV (lC kZ (aW bX rfl bA fx (aD (a7 5 (pv 5)) aE)) aN))))))
noncomputable abbrev qA(bE:Fn):cD:=
 (aU (jN (bI (aR zR (a8 2) (a8 3))) (cP (wI (b9 bE (a9 (a8 0) (a9 (a8 1) (a9 (gI (a9 (a8 2) (a9 (a8 3) (a9 (a8 4) aF)))) aF)))))) cA)
 (aU (jN (bI (aR Dy (a8 2) (a8 4))) (cP (wI (b9 bE (a9 (a8 0) (a9 (a8 1) (a9 (gI (a9 (a8 3) (a9 (a8 4) (a9 (a8 2) aF)))) aF)))))) cA)
 (cP (sL (mU zR zR (a8 3) (a8 2) (a8 4)) (b9 bE (a9 (a8 0) (a9 (a8 1) (a9 (gI (a9 (a8 3) (a9 (a8 2) (a9 (a8 4) aF)))) aF))))))))
theorem C8(P:ay)(w:bz)(mg:bw->Option ah)(base:dq)(m:At K mg "is_below" "is_below" (top 13) ["sides", "ups", "z", "x", "y"])(d9:Def P w K mg base 2 "counts_as_up" ["sides", "ups", "three"] (low K bE))(f8:MonoF bE)(len:∀ds Q,sp ds Q->ds.length=5)(hsp:∀ds Q,sp ds Q->qA bE ↥Q (aM ["sides", "ups", "z", "x", "y"] ds)):Def P w K mg base 3 "is_below" ["sides", "ups", "z", "x", "y"] (low K sp):=by
 have sc:FnScope ["sides", "ups", "z", "x", "y"] ["sides", "ups", "z", "x", "y"] (aI (top 13)):=by norm_cast
 refine m.okP (k:=2) (t:=qA bE) sc (λf cdv A outer s H E hr=>?_) len hsp
 ·
  exact(aG (fQ (c6 nZ (a7 2 (pv 2)) (a7 3 (pv 3))) (aH (bV (Dm (bH d9 f8 (hr.mono ∅) (aD (a7 0 (pv 0)) (aD (a7 1 (pv 1)) (aD (hG (aD (a7 2 (pv 2)) (aD (a7 3 (pv 3)) (aD (a7 4 (pv 4)) aE)))) aE))))))) bW)
 (aG (fQ (c6 kZ (a7 2 (pv 2)) (a7 4 (pv 4))) (aH (bV (Dm (bH d9 f8 (hr.mono ∅) (aD (a7 0 (pv 0)) (aD (a7 1 (pv 1)) (aD (hG (aD (a7 3 (pv 3)) (aD (a7 4 (pv 4)) (aD (a7 2 (pv 2)) aE)))) aE))))))) bW)
 (aH (bV (xW (Dp BS BS (a7 3 (pv 3)) (a7 2 (pv 2)) (a7 4 (pv 4))) (vL (bH d9 f8 (hr.mono ∅) (aD (a7 0 (pv 0)) (aD (a7 1 (pv 1)) (aD (hG (aD (a7 3 (pv 3)) (aD (a7 2 (pv 2)) (aD (a7 4 (pv 4)) aE)))) aE))))))))))
noncomputable abbrev yS(C:af)(bJ bM:Fn):cD:=
 (jN (bI (aR y8 (fU C "kind" bM (a8 0) (a9 (a8 2) aF)) (fU C "kind" bM (a8 0) (a9 (a8 3) aF)))) (nW 1 (gI (a9 (a8 2) (a9 (a8 3) aF)))) cA)
noncomputable abbrev lO(C:af)(bJ bM:Fn):cD:=
 (eZ (gU (a9 (aR dG (a8 2) (eC (.int 1))) (a9 (fU C "many" bJ (a8 0) aF) aF))) (gN 3) (yS C bJ bM))
noncomputable abbrev z8(C:af)(bJ bM:Fn):cD:=
 (aU (jA 1 (jQ aF))
 (aU (eZ (dH (a9 (fU C "many" bJ (a8 0) aF) aF)) (gN 2) (lO C bJ bM))
 (cP (a8 1))))
theorem IN(P:ay)(w:bz)(mg:bw->Option ah)(base:dq)(m:MAt K C "pairs" "Sides.pairs" (g9 (top 28) 4) ["self"])(aS:mg "range" = ar)(cl:Cls K C)(iP:MDef P w K mg base 1 C "many" ["self"] (low K bJ))(g8:MonoF bJ)(eO:MDef P w K mg base 1 C "kind" ["self", "band"] (low K bM))(dB:MonoF bM)(len:∀ds Q,sp ds Q->ds.length=1)(hsp:∀ds Q,sp ds Q->z8 C bJ bM ↥Q (aM ["self", "found", "a", "b"] ds)):MDef P w K mg base 2 C "pairs" ["self"] (low K sp):=by
 have sc:FnScope ["self", "found", "a", "b"] ["self"] (aI (g9 (top 28) 4)):=by norm_cast
 refine m.okP (k:=1) (t:=z8 C bJ bM) sc (λf cdv A outer s H E hr=>?_) len hsp
 ·
  have hu:=hr.units;exact(aG (iF (i:=1) sc.nd rfl (.inl rfl) (iK aE))
 (aG (dI cq rfl (cW rfl aS (aD (mK cl iP g8 (hr.mono ∅) (a7 0 (pv 0))) aE)) (f6 (i:=2) (k:=4) sc.nd rfl (.inl rfl)) (aH (dI cq rfl (g7 rfl aS (aD (bO bT (a7 2 (pv 2)) aN) (aD (mK cl iP g8 (hr.mono ∅) (a7 0 (pv 0))) aE))) (f6 (i:=3) (k:=4) sc.nd rfl (.inl rfl)) (aH (fQ (c6 (qH hu) (jJ cl eO dB (hr.mono ∅) (a7 0 (pv 0)) (aD (a7 2 (pv 2)) aE)) (jJ cl eO dB (hr.mono ∅) (a7 0 (pv 0)) (aD (a7 3 (pv 3)) aE))) (aH (rW (i:=1) (pv 1) (hG (aD (a7 2 (pv 2)) (aD (a7 3 (pv 3)) aE))))) bW)))))
 (aH (bV (a7 1 (pv 1))))))
noncomputable abbrev wP(C:af)(d5 bJ bM:Fn):cD:=
 (jN (bI (aR y8 (fU C "kind" bM (a8 0) (a9 (a8 4) aF)) (fU C "kind" bM (a8 0) (a9 (a8 3) aF)))) (nW 1 (gI (a9 (a8 2) (a9 (a8 3) (a9 (a8 4) aF))))) cA)
noncomputable abbrev kE(C:af)(d5 bJ bM:Fn):cD:=
 (eZ (gU (a9 (aR dG (a8 3) (eC (.int 1))) (a9 (fU C "many" bJ (a8 0) aF) aF))) (gN 4) (wP C d5 bJ bM))
noncomputable abbrev v8(C:af)(d5 bJ bM:Fn):cD:=
 (aU (jA 1 (jQ aF))
 (aU (eZ (kI (fU C "pairs" d5 (a8 0) aF)) (gT [2,3]) (kE C d5 bJ bM))
 (cP (a8 1))))
theorem Fi(P:ay)(w:bz)(mg:bw->Option ah)(base:dq)(m:At K mg "threes" "threes" (top 7) ["sides"])(aS:mg "range" = ar)(cl:Cls K C)(pC:MDef P w K mg base 2 C "pairs" ["self"] (low K d5))(lH:MonoF d5)(iP:MDef P w K mg base 1 C "many" ["self"] (low K bJ))(g8:MonoF bJ)(eO:MDef P w K mg base 1 C "kind" ["self", "band"] (low K bM))(dB:MonoF bM)(len:∀ds Q,sp ds Q->ds.length=1)(hsp:∀ds Q,sp ds Q->v8 C d5 bJ bM ↥Q (aM ["sides", "told", "a", "b", "c"] ds)):Def P w K mg base 3 "threes" ["sides"] (low K sp):=by
 have sc:FnScope ["sides", "told", "a", "b", "c"] ["sides"] (aI (top 7)):=by norm_cast
 refine m.okP (k:=2) (t:=v8 C d5 bJ bM) sc (λf cdv A outer s H E hr=>?_) len hsp
 ·
  have hu:=hr.units;exact(aG (iF (i:=1) sc.nd rfl (.inl rfl) (iK aE))
 (aG (dI cq rfl (gG (mK cl pC lH (hr.mono ∅) (a7 0 (pv 0)))) (Cu (k:=5) (is:=[2,3]) rfl (dD (dZ (i:=2) sc.nd rfl (.inl rfl)) (dD (dZ (i:=3) sc.nd rfl (.inl rfl)) mO))) (aH (dI cq rfl (g7 rfl aS (aD (bO bT (a7 3 (pv 3)) aN) (aD (mK cl iP g8 (hr.mono ∅) (a7 0 (pv 0))) aE))) (f6 (i:=4) (k:=5) sc.nd rfl (.inl rfl)) (aH (fQ (c6 (qH hu) (jJ cl eO dB (hr.mono ∅) (a7 0 (pv 0)) (aD (a7 4 (pv 4)) aE)) (jJ cl eO dB (hr.mono ∅) (a7 0 (pv 0)) (aD (a7 3 (pv 3)) aE))) (aH (rW (i:=1) (pv 1) (hG (aD (a7 2 (pv 2)) (aD (a7 3 (pv 3)) (aD (a7 4 (pv 4)) aE)))))) bW)))))
 (aH (bV (a7 1 (pv 1))))))
noncomputable abbrev iJ(aT:af)(Ψ:yX->Prop)(C:af)(gM iX bQ dO bJ:Fn):cD:=
 (jN (bI (aR vQ (a8 3) (a8 2))) (zG Ψ aT (a9 (eC (.str "there is something that is no three of these sides")) aF)) cA)
noncomputable abbrev fO(aT:af)(Ψ:yX->Prop)(C:af)(gM iX bQ dO bJ:Fn):cD:=
 (jN (xD (oC (kJ (b9 bQ (a9 (a8 0) (a9 (a8 4) aF))))) (kJ (b9 dO (a9 (a8 0) (a9 (a8 1) (a9 (a8 4) aF)))))) (zG Ψ aT (a9 (eC (.str "four bands bar these threes")) aF)) cA)
noncomputable abbrev jH(aT:af)(Ψ:yX->Prop)(C:af)(gM iX bQ dO bJ:Fn):cD:=
 (aU (c9 2 (b9 gM (a9 (a8 0) aF)))
 (aU (eZ (EE (a8 1)) (gN 3) (iJ aT Ψ C gM iX bQ dO bJ))
 (eZ (kI (b9 iX (a9 (fU C "many" bJ (a8 0) aF) aF))) (gN 4) (fO aT Ψ C gM iX bQ dO bJ))))
theorem tJ(P:ay)(w:bz)(mg:bw->Option ah)(base:dq){gM iX bQ dO:Fn}{sp:yW}(m:At K mg "check_threes" "check_threes" (top 12) ["sides", "ups"])(cl:Cls K C)(h7:mg "NoThrees" = aa (.ref aT))(mF:DY K aT)(wL:Def P w K mg base 3 "threes" ["sides"] (low K gM))(t5:MonoF gM)(AQ:Def P w K mg base 1 "fours" ["many"] (low K iX))(vW:MonoF iX)(iG:Def P w K mg base 2 "has_three_alike" ["sides", "four"] (low K bQ))(qJ:MonoF bQ)(oK:Def P w K mg base 3 "is_barred" ["sides", "ups", "four"] (low K dO))(A0:MonoF dO)(iP:MDef P w K mg base 1 C "many" ["self"] (low K bJ))(g8:MonoF bJ)(len:∀ds Q Ψ,sp ds Q Ψ->ds.length=2)(hsp:∀ds Q Ψ,sp ds Q Ψ->jH aT Ψ C gM iX bQ dO bJ ↥Q (aM ["sides", "ups", "known", "three", "four"] ds)):DefX P w K mg base 4 "check_threes" ["sides", "ups"] (lowX K sp):=by
 have sc:FnScope ["sides", "ups", "known", "three", "four"] ["sides", "ups"] (aI (top 12)):=by norm_cast
 refine m.okX (k:=3) (t:=λΨ=>jH aT Ψ C gM iX bQ dO bJ) sc (λf cdv A outer s H E F Ψ hr hE=>?_) len hsp
 ·
  have hS:∀H2,aO H H2->aO H H2:=λ_ z=>z;have hu1:=f9 hr;have hu65:=De hr;exact(uX (QS.x (cO (i:=2) sc.nd rfl (.inl rfl) (bH wL t5 (hr.mono ∅) (aD (a7 0 (pv 0)) aE))))
 (uX (Ks hS (JD (a7 1 (pv 1))) (f6 (i:=3) (k:=5) sc.nd rfl (.inl rfl)) (λP hS=>(Ai (Nj (c6 (F6 hu65 hu1) (a7 3 (pv 3)) (a7 2 (pv 2))) (Ai (Ah hS hr.hd hE h7 mF rfl (aD L3 aE))) (QSs.x bW)))))
 (Ai (Ks hS (gG (bH AQ vW (hr.mono ∅) (aD (mK cl iP g8 (hr.mono ∅) (a7 0 (pv 0))) aE))) (f6 (i:=4) (k:=5) sc.nd rfl (.inl rfl)) (λP hS=>(Ai (Nj (QW.qt (vK (k8 (iE (bH iG qJ (hr.mono ∅) (aD (a7 0 (pv 0)) (aD (a7 4 (pv 4)) aE))))) (uI (iE (bH oK A0 (hr.mono ∅) (aD (a7 0 (pv 0)) (aD (a7 1 (pv 1)) (aD (a7 4 (pv 4)) aE)))))))) (Ai (Ah hS hr.hd hE h7 mF rfl (aD L3 aE))) (QSs.x bW))))))))
noncomputable abbrev l9(Ψ:yX->Prop)(C:af)(eG d5 bJ:Fn)(cC:yW):cD:=
 (wX 2 (a8 3) (eC (.bl aj)))
noncomputable abbrev j7(Ψ:yX->Prop)(C:af)(eG d5 bJ:Fn)(cC:yW):cD:=
 (aU (c9 7 (gE 1 [0,2,5,6] (dH (a9 (fU C "many" bJ (a8 0) aF) aF)) (gN 0) (kJ (b9 eG (a9 (a8 1) (a9 (a8 2) (a9 (a8 0) (a9 (a8 3) (a9 (a8 4) aF))))))) (a8 0)))
 (nW 4 (gI (a9 (a8 5) (a9 (a8 6) (a9 (fF kA (a9 (a8 7) aF)) aF))))))
noncomputable abbrev nQ(Ψ:yX->Prop)(C:af)(eG d5 bJ:Fn)(cC:yW):cD:=
 (aU (jA 2 Nf)
 (aU (eZ (kI (a8 1)) (gN 3) (l9 Ψ C eG d5 bJ cC))
 (aU (Ck cC (a9 (a8 0) (a9 (a8 2) aF)) Ψ)
 (J8 2 (aU (jA 4 (jQ aF))
 (aU (eZ (kI (fU C "pairs" d5 (a8 0) aF)) (gT [5,6]) (j7 Ψ C eG d5 bJ cC))
 (cP (a8 4))))))))
theorem AO(P:ay)(w:bz)(mg:bw->Option ah)(base:dq){eG:Fn}{cC:yW}{sp:yW}(m:At K mg "floor_by" "floor_by" (top 14) ["sides", "some"])(aS:mg "range" = ar)(eK:mg "tuple" = ar)(cl:Cls K C)(gW:DefX P w K mg base 4 "check_threes" ["sides", "ups"] (lowX K cC))(t8:MonoX cC)(qW:Def P w K mg base 3 "is_below" ["sides", "ups", "z", "x", "y"] (low K eG))(Bg:MonoF eG)(pC:MDef P w K mg base 2 C "pairs" ["self"] (low K d5))(lH:MonoF d5)(iP:MDef P w K mg base 1 C "many" ["self"] (low K bJ))(g8:MonoF bJ)(len:∀ds Q Ψ,sp ds Q Ψ->ds.length=2)(hsp:∀ds Q Ψ,sp ds Q Ψ->nQ Ψ C eG d5 bJ cC ↥Q (aM ["sides", "some", "ups", "three", "told", "x", "y", "below"] ds)):DefX P w K mg base 5 "floor_by" ["sides", "some"] (lowX K sp):=by
 have sc:FnScope ["sides", "some", "ups", "three", "told", "x", "y", "below"] ["sides", "some"] (aI (top 14)):=by norm_cast
 refine m.okX (k:=4) (t:=λΨ=>nQ Ψ C eG d5 bJ cC) sc (λf cdv A outer s H E F Ψ hr hE=>?_) len hsp
 ·
  have hS:∀H2,aO H H2->aO H H2:=λ_ z=>z;have hu1:=f9 hr;exact(uX (QS.x (iF (i:=2) sc.nd rfl (.inr rfl) zK))
 (uX (QS.x (dI zo rfl (gG (a7 1 (pv 1))) (f6 (i:=3) (k:=8) sc.nd rfl (.inl rfl)) (aH (B7 hu1 (i:=2) (pv 2) (a7 3 (pv 3)) n9))))
 (uX (Ip hS hE gW t8 (hr.mono ∅) (aD (a7 0 (pv 0)) (aD (a7 2 (pv 2)) aE)))
 (QSs.x (OS 2 (aG (iF (i:=4) sc.nd rfl (.inl rfl) (iK aE))
 (aG (dI zo rfl (gG (mK cl pC lH (hr.mono ∅) (a7 0 (pv 0)))) (Cu (k:=8) (is:=[5,6]) rfl (dD (dZ (i:=5) sc.nd rfl (.inr rfl)) (dD (dZ (i:=6) sc.nd rfl (.inr rfl)) mO))) (aG (zJ (Do (iy:=7) ["z"] ["sides", "ups", "x", "y"] [0,2,5,6] sc.nd rfl (.inl rfl) rfl (cW rfl aS (aD (mK cl iP g8 (hr.mono ∅) (a7 0 (pv 0))) aE)) (λfp s H=>(f6 (i:=0) (k:=1) (show lr (["z", "sides", "ups", "x", "y"]:List bw) by decide +kernel) rfl (.inl rfl))) (λfp s H=>(rT (iE (bH qW Bg (hr.mono ∅) (aD (a7 1 (pv 1)) (aD (a7 2 (pv 2)) (aD (a7 0 (pv 0)) (aD (a7 3 (pv 3)) (aD (a7 4 (pv 4)) aE))))))))) (λfp s H=>(a7 0 (pv 0)))))
 (aH (rW (i:=4) (pv 4) (hG (aD (a7 5 (pv 5)) (aD (a7 6 (pv 6)) (aD (k9 oM rfl eK yq (aD (a7 7 (pv 7)) aE)) aE))))))))
 (aH (bV (a7 4 (pv 4)))))))))))
noncomputable abbrev kX:cD:=
 (aU (jN (bI (aR zR (a8 1) (fF d8 (a9 (a8 0) aF)))) (cP (aR cV (a8 0) (a8 1))) cA)
 (cP (eC (.int 5))))
theorem wK(P:ay)(w:bz)(mg:bw->Option ah)(base:dq)(m:At K mg "_law_cell_at" "_law_cell_at" (top 30) ["_law_script", "_law_k"])(bA:mg "len" = ar)(len:∀ds Q,sp ds Q->ds.length=2)(hsp:∀ds Q,sp ds Q->kX  ↥Q (aM ["_law_script", "_law_k"] ds)):Def P w K mg base 1 "_law_cell_at" ["_law_script", "_law_k"] (low K sp):=by
 have sc:FnScope ["_law_script", "_law_k"] ["_law_script", "_law_k"] (aI (top 30)):=by norm_cast
 refine m.okP (k:=0) (t:=kX ) sc (λf cdv A outer s H E hr=>?_) len hsp
 ·
  have hu1:=f9 hr;exact(aG (fQ (c6 nZ (a7 1 (pv 1)) (aW bX rfl bA fx (aD (a7 0 (pv 0)) aE))) (aH (bV (c7 hu1 (a7 0 (pv 0)) (a7 1 (pv 1))))) bW)
 (aH (bV aN)))
noncomputable abbrev pY(bD:Fn):cD:=
 (aU (jN (xD (bI (aR sP (a8 1) (eC (.int 0)))) (bI (aR sP (aR i6 (aR i6 (aR gL (b9 bD (a9 (a8 0) (a9 (eC (.int 0)) aF))) (eC (.int 48271))) (eC (.int 2147483647))) (eC (.int 4))) (eC (.int 1))))) (cP (eC (.int 12))) cA)
 (cP (a8 2)))
theorem C4(P:ay)(w:bz)(mg:bw->Option ah)(base:dq)(m:At K mg "_law_most" "_law_most" (top 33) ["_law_script", "_law_k", "_law_usual"])(dJ:Def P w K mg base 1 "_law_cell_at" ["_law_script", "_law_k"] (low K bD))(fT:MonoF bD)(len:∀ds Q,sp ds Q->ds.length=3)(hsp:∀ds Q,sp ds Q->pY bD ↥Q (aM ["_law_script", "_law_k", "_law_usual"] ds)):Def P w K mg base 2 "_law_most" ["_law_script", "_law_k", "_law_usual"] (low K sp):=by
 have sc:FnScope ["_law_script", "_law_k", "_law_usual"] ["_law_script", "_law_k", "_law_usual"] (aI (top 33)):=by norm_cast
 refine m.okP (k:=1) (t:=pY bD) sc (λf cdv A outer s H E hr=>?_) len hsp
 ·
  have hu:=hr.units;exact(aG (fQ (QW.qt (vK (c6 (gH hu) (a7 1 (pv 1)) aN) (uI (c6 (gH hu) (bO e7 (bO e7 (bO dQ (bH dJ fT (hr.mono ∅) (aD (a7 0 (pv 0)) (aD aN aE))) aN) aN) aN) aN)))) (aH (bV aN)) bW)
 (aH (bV (a7 2 (pv 2)))))
noncomputable abbrev j6:cD:=
 (aU (c9 6 (aR lF (aR lF (a8 1) (fF d8 (a9 (a8 4) aF))) (aR lF (aR lF (a8 2) (a8 5)) (eC (.int 1)))))
 (aU (c9 7 (aR dG (eC (.int 1)) (aR i6 (aR i6 (aR gL (aR i6 (aR gL (aR dG (a8 0) (aR gL (eC (.int 31)) (a8 5))) (eC (.int 48271))) (eC (.int 2147483647))) (aR dG (aR gL (a8 5) (a8 5)) (eC (.int 17)))) (eC (.int 99991))) (fF vR (a9 (a8 6) (a9 (eC (.int 3)) aF))))))
 (aU (jN (bI (aR Dy (a8 3) (eC (.int 1)))) (aU (c9 7 (aR dG (eC (.int 1)) (aR i6 (a8 3) (a8 6))))
 (c9 3 (aR nA (a8 3) (a8 6)))) cA)
 (c9 4 (aR dG (a8 4) (aR gL (jQ (a9 (a8 5) aF)) (a8 7)))))))
noncomputable abbrev nO:cD:=
 (aU (c9 2 (aR dG (eC (.int 2)) (aR i6 (a8 0) (eC (.int 5)))))
 (aU (c9 3 (aR nA (a8 0) (eC (.int 5))))
 (aU (c9 4 (jQ aF))
 (aU (eZ (dH (a9 (a8 2) aF)) (gN 5) j6)
 (cP (a8 4))))))
theorem AM(P:ay)(w:bz)(mg:bw->Option ah)(base:dq)(m:At K mg "_law_bands" "_law_bands" (top 34) ["_law_cell", "_law_most_here"])(aS:mg "range" = ar)(bA:mg "len" = ar)(xQ:mg "min" = ar)(len:∀ds Q,sp ds Q->ds.length=2)(hsp:∀ds Q,sp ds Q->nO  ↥Q (aM ["_law_cell", "_law_most_here", "_law_kinds", "_law_rest", "_law_bands_here", "_law_k", "_law_spare", "_law_count"] ds)):Def P w K mg base 1 "_law_bands" ["_law_cell", "_law_most_here"] (low K sp):=by
 have sc:FnScope ["_law_cell", "_law_most_here", "_law_kinds", "_law_rest", "_law_bands_here", "_law_k", "_law_spare", "_law_count"] ["_law_cell", "_law_most_here"] (aI (top 34)):=by norm_cast
 refine m.okP (k:=0) (t:=nO ) sc (λf cdv A outer s H E hr=>?_) len hsp
 ·
  exact(aG (cO (i:=2) sc.nd rfl (.inl rfl) (bO bT aN (bO e7 (a7 0 (pv 0)) aN)))
 (aG (cO (i:=3) sc.nd rfl (.inl rfl) (bO kO (a7 0 (pv 0)) aN))
 (aG (cO (i:=4) sc.nd rfl (.inl rfl) (iK aE))
 (aG (dI cq rfl (cW rfl aS (aD (a7 2 (pv 2)) aE)) (f6 (i:=5) (k:=8) sc.nd rfl (.inl rfl)) (aG (cO (i:=6) sc.nd rfl (.inl rfl) (bO kN (bO kN (a7 1 (pv 1)) (aW bX rfl bA fx (aD (a7 4 (pv 4)) aE))) (bO kN (bO kN (a7 2 (pv 2)) (a7 5 (pv 5))) aN)))
 (aG (cO (i:=7) sc.nd rfl (.inl rfl) (bO bT aN (bO e7 (bO e7 (bO dQ (bO e7 (bO dQ (bO bT (a7 0 (pv 0)) (bO dQ aN (a7 5 (pv 5)))) aN) aN) (bO bT (bO dQ (a7 5 (pv 5)) (a7 5 (pv 5))) aN)) aN) (aW (EQ rfl) rfl xQ boot_min (aD (a7 6 (pv 6)) (aD aN aE))))))
 (aG (fQ (c6 kZ (a7 3 (pv 3)) aN) (aG (cO (i:=7) sc.nd rfl (.inl rfl) (bO bT aN (bO e7 (a7 3 (pv 3)) (a7 6 (pv 6)))))
 (aH (cO (i:=3) sc.nd rfl (.inl rfl) (bO kO (a7 3 (pv 3)) (a7 6 (pv 6)))))) bW)
 (aH (cO (i:=4) sc.nd rfl (.inl rfl) (bO bT (a7 4 (pv 4)) (bO dQ (iK (aD (a7 5 (pv 5)) aE)) (a7 7 (pv 7))))))))))
 (aH (bV (a7 4 (pv 4))))))))
noncomputable abbrev pX:cD:=
 (cP (aR i6 (aR i6 (aR gL (aR i6 (aR gL (aR dG (a8 0) (aR gL (eC (.int 31)) (a8 1))) (eC (.int 48271))) (eC (.int 2147483647))) (aR dG (aR gL (a8 1) (a8 1)) (eC (.int 17)))) (eC (.int 99991))) (a8 2)))
theorem C3(P:ay)(w:bz)(mg:bw->Option ah)(base:dq)(m:At K mg "_law_pick" "_law_pick" (top 35) ["_law_cell", "_law_step", "_law_many_here"])(len:∀ds Q,sp ds Q->ds.length=3)(hsp:∀ds Q,sp ds Q->pX  ↥Q (aM ["_law_cell", "_law_step", "_law_many_here"] ds)):Def P w K mg base 1 "_law_pick" ["_law_cell", "_law_step", "_law_many_here"] (low K sp):=by
 have sc:FnScope ["_law_cell", "_law_step", "_law_many_here"] ["_law_cell", "_law_step", "_law_many_here"] (aI (top 35)):=by norm_cast
 refine m.okP (k:=0) (t:=pX ) sc (λf cdv A outer s H E hr=>?_) len hsp
 ·
  exact(aH (bV (bO e7 (bO e7 (bO dQ (bO e7 (bO dQ (bO bT (a7 0 (pv 0)) (bO dQ aN (a7 1 (pv 1)))) aN) aN) (bO bT (bO dQ (a7 1 (pv 1)) (a7 1 (pv 1))) aN)) aN) (a7 2 (pv 2)))))
noncomputable abbrev jG:cD:=
 (cP (aR dG (aR dG (Fg (a8 0) gA (lL (a8 1))) (jQ (a9 (aR cV (a8 0) (aR dG (a8 1) (eC (.int 1)))) (a9 (aR cV (a8 0) (a8 1)) aF)))) (Fg (a8 0) (lL (aR dG (a8 1) (eC (.int 2)))) gA)))
theorem tH(P:ay)(w:bz)(mg:bw->Option ah)(base:dq)(m:At K mg "_law_exchanged" "_law_exchanged" (top 36) ["_law_path", "_law_p"])(len:∀ds Q,sp ds Q->ds.length=2)(hsp:∀ds Q,sp ds Q->jG  ↥Q (aM ["_law_path", "_law_p"] ds)):Def P w K mg base 1 "_law_exchanged" ["_law_path", "_law_p"] (low K sp):=by
 have sc:FnScope ["_law_path", "_law_p"] ["_law_path", "_law_p"] (aI (top 36)):=by norm_cast
 refine m.okP (k:=0) (t:=jG ) sc (λf cdv A outer s H E hr=>?_) len hsp
 ·
  have hu1:=f9 hr;exact(aH (bV (bO bT (bO bT (mJ (a7 0 (pv 0)) mH (mG (a7 1 (pv 1)))) (iK (aD (c7 hu1 (a7 0 (pv 0)) (bO bT (a7 1 (pv 1)) aN)) (aD (c7 hu1 (a7 0 (pv 0)) (a7 1 (pv 1))) aE)))) (mJ (a7 0 (pv 0)) (mG (bO bT (a7 1 (pv 1)) aN)) mH))))
noncomputable abbrev kT(fW aK:Fn):cD:=
 (aU (c9 6 (aR lF (fF d8 (a9 (a8 2) aF)) (eC (.int 1))))
 (aU (c9 7 (gE 1 [0,2] (dH (a9 (a8 6) aF)) (gN 0) (bI (aR zR (aR cV (a8 1) (aR cV (a8 2) (a8 0))) (aR cV (a8 1) (aR cV (a8 2) (aR dG (a8 0) (eC (.int 1))))))) (a8 0)))
 (aU (jN (bI (aR sP (a8 7) (jQ aF))) (cP (a8 3)) cA)
 (aU (c9 8 (b9 fW (a9 (a8 1) (a9 (a8 5) (a9 (fF d8 (a9 (a8 7) aF)) aF)))))
 (aU (jN (bI (aR Dy (a8 4) (eC (.int 1)))) (aU (c9 8 (aR i6 (a8 4) (fF d8 (a9 (a8 7) aF))))
 (c9 4 (aR nA (a8 4) (fF d8 (a9 (a8 7) aF))))) cA)
 (aU (nW 3 (aR cV (a8 7) (a8 8)))
 (c9 2 (b9 aK (a9 (a8 2) (a9 (aR cV (a8 7) (a8 8)) aF))))))))))
noncomputable abbrev sR(fW aK:Fn):cD:=
 (aU (c9 2 (Fh (a9 (fF d8 (a9 (a8 0) aF)) aF)))
 (aU (jA 3 (jQ aF))
 (aU (c9 4 (a8 1))
 (aU (eZ (dH (a9 (aR gL (fF d8 (a9 (a8 0) aF)) (fF d8 (a9 (a8 0) aF))) aF)) (gN 5) (kT fW aK))
 (cP (a8 3))))))
theorem DS(P:ay)(w:bz)(mg:bw->Option ah)(base:dq){fW:Fn}(m:At K mg "_law_row" "_law_row" (top 37) ["_law_bands_here", "_law_cell"])(bA:mg "len" = ar)(fS:mg "list" = ar)(aS:mg "range" = ar)(qR:Def P w K mg base 1 "_law_pick" ["_law_cell", "_law_step", "_law_many_here"] (low K fW))(Ba:MonoF fW)(cJ:Def P w K mg base 1 "_law_exchanged" ["_law_path", "_law_p"] (low K aK))(eN:MonoF aK)(len:∀ds Q,sp ds Q->ds.length=2)(hsp:∀ds Q,sp ds Q->sR fW aK ↥Q (aM ["_law_bands_here", "_law_cell", "_law_path", "_law_row_here", "_law_rest", "_law_step", "_law_last", "_law_spots", "_law_pick_here"] ds)):Def P w K mg base 2 "_law_row" ["_law_bands_here", "_law_cell"] (low K sp):=by
 have sc:FnScope ["_law_bands_here", "_law_cell", "_law_path", "_law_row_here", "_law_rest", "_law_step", "_law_last", "_law_spots", "_law_pick_here"] ["_law_bands_here", "_law_cell"] (aI (top 37)):=by norm_cast
 refine m.okP (k:=1) (t:=sR fW aK) sc (λf cdv A outer s H E hr=>?_) len hsp
 ·
  have hu:=hr.units;have hu1:=f9 hr;exact(aG (cO (i:=2) sc.nd rfl (.inr rfl) (mL rfl rfl fS rfl aS (aD (aW bX rfl bA fx (aD (a7 0 (pv 0)) aE)) aE)))
 (aG (iF (i:=3) sc.nd rfl (.inl rfl) (iK aE))
 (aG (cO (i:=4) sc.nd rfl (.inl rfl) (a7 1 (pv 1)))
 (aG (dI cq rfl (cW rfl aS (aD (bO dQ (aW bX rfl bA fx (aD (a7 0 (pv 0)) aE)) (aW bX rfl bA fx (aD (a7 0 (pv 0)) aE))) aE)) (f6 (i:=5) (k:=9) sc.nd rfl (.inl rfl)) (aG (cO (i:=6) sc.nd rfl (.inl rfl) (bO kN (aW bX rfl bA fx (aD (a7 2 (pv 2)) aE)) aN))
 (aG (zJ (Do (iy:=7) ["_law_p"] ["_law_bands_here", "_law_path"] [0,2] sc.nd rfl (.inl rfl) rfl (cW rfl aS (aD (a7 6 (pv 6)) aE)) (λfp s H=>(f6 (i:=0) (k:=1) (show lr (["_law_p", "_law_bands_here", "_law_path"]:List bw) by decide +kernel) rfl (.inl rfl))) (λfp s H=>(rT (c6 nZ (c7 hu1 (a7 1 (pv 1)) (c7 hu1 (a7 2 (pv 2)) (a7 0 (pv 0)))) (c7 hu1 (a7 1 (pv 1)) (c7 hu1 (a7 2 (pv 2)) (bO bT (a7 0 (pv 0)) aN)))))) (λfp s H=>(a7 0 (pv 0)))))
 (aG (fQ (c6 (gH hu) (a7 7 (pv 7)) (iK aE)) (aH (bV (a7 3 (pv 3)))) bW)
 (aG (cO (i:=8) sc.nd rfl (.inl rfl) (bH qR Ba (hr.mono ∅) (aD (a7 1 (pv 1)) (aD (a7 5 (pv 5)) (aD (aW bX rfl bA fx (aD (a7 7 (pv 7)) aE)) aE)))))
 (aG (fQ (c6 kZ (a7 4 (pv 4)) aN) (aG (cO (i:=8) sc.nd rfl (.inl rfl) (bO e7 (a7 4 (pv 4)) (aW bX rfl bA fx (aD (a7 7 (pv 7)) aE))))
 (aH (cO (i:=4) sc.nd rfl (.inl rfl) (bO kO (a7 4 (pv 4)) (aW bX rfl bA fx (aD (a7 7 (pv 7)) aE)))))) bW)
 (aG (rW (i:=3) (pv 3) (c7 hu1 (a7 7 (pv 7)) (a7 8 (pv 8))))
 (aH (cO (i:=2) sc.nd rfl (.inr rfl) (bH cJ eN (hr.mono ∅) (aD (a7 2 (pv 2)) (aD (c7 hu1 (a7 7 (pv 7)) (a7 8 (pv 8))) aE))))))))))))
 (aH (bV (a7 3 (pv 3))))))))
noncomputable abbrev j5(aK:Fn):cD:=
 (aU (nW 3 (gI (a9 (aR cV (a8 2) (a8 4)) (a9 (aR cV (a8 2) (aR dG (a8 4) (eC (.int 1)))) (a9 (fF kA (a9 (fF iV (a9 (Fg (a8 2) gA (lL (a8 4))) aF)) aF)) aF)))))
 (c9 2 (b9 aK (a9 (a8 2) (a9 (a8 4) aF)))))
noncomputable abbrev nN(aK:Fn):cD:=
 (aU (c9 2 (Fh (a9 (fF d8 (a9 (a8 0) aF)) aF)))
 (aU (jA 3 (jQ aF))
 (aU (eZ (kI (a8 1)) (gN 4) (j5 aK))
 (cP (fF iV (a9 (a8 3) aF))))))
theorem AL(P:ay)(w:bz)(mg:bw->Option ah)(base:dq)(m:At K mg "_law_floor" "_law_floor" (top 38) ["_law_bands_here", "_law_row_here"])(bA:mg "len" = ar)(fS:mg "list" = ar)(aS:mg "range" = ar)(fR:mg "sorted" = ar)(eK:mg "tuple" = ar)(cJ:Def P w K mg base 1 "_law_exchanged" ["_law_path", "_law_p"] (low K aK))(eN:MonoF aK)(len:∀ds Q,sp ds Q->ds.length=2)(hsp:∀ds Q,sp ds Q->nN aK ↥Q (aM ["_law_bands_here", "_law_row_here", "_law_path", "_law_tiles", "_law_p"] ds)):Def P w K mg base 2 "_law_floor" ["_law_bands_here", "_law_row_here"] (low K sp):=by
 have sc:FnScope ["_law_bands_here", "_law_row_here", "_law_path", "_law_tiles", "_law_p"] ["_law_bands_here", "_law_row_here"] (aI (top 38)):=by norm_cast
 refine m.okP (k:=1) (t:=nN aK) sc (λf cdv A outer s H E hr=>?_) len hsp
 ·
  have hu1:=f9 hr;exact(aG (cO (i:=2) sc.nd rfl (.inl rfl) (mL rfl rfl fS rfl aS (aD (aW bX rfl bA fx (aD (a7 0 (pv 0)) aE)) aE)))
 (aG (iF (i:=3) sc.nd rfl (.inl rfl) (iK aE))
 (aG (dI cq rfl (gG (a7 1 (pv 1))) (f6 (i:=4) (k:=5) sc.nd rfl (.inl rfl)) (aG (rW (i:=3) (pv 3) (hG (aD (c7 hu1 (a7 2 (pv 2)) (a7 4 (pv 4))) (aD (c7 hu1 (a7 2 (pv 2)) (bO bT (a7 4 (pv 4)) aN)) (aD (k9 oM rfl eK yq (aD (aW pD rfl fR zp (aD (mJ (a7 2 (pv 2)) mH (mG (a7 4 (pv 4)))) aE)) aE)) aE)))))
 (aH (cO (i:=2) sc.nd rfl (.inl rfl) (bH cJ eN (hr.mono ∅) (aD (a7 2 (pv 2)) (aD (a7 4 (pv 4)) aE)))))))
 (aH (bV (aW pD rfl fR zp (aD (a7 3 (pv 3)) aE)))))))
noncomputable abbrev pZ:cD:=
 (cP (fF d8 (a9 (gE 1 [1] (kI (a8 0)) (gN 0) (bI (aR sP (a8 0) (a8 1))) (a8 0)) aF)))
theorem C5(P:ay)(w:bz)(mg:bw->Option ah)(base:dq)(m:At K mg "_law_many" "_law_many" (top 39) ["_law_bands_here", "_law_kind"])(bA:mg "len" = ar)(len:∀ds Q,sp ds Q->ds.length=2)(hsp:∀ds Q,sp ds Q->pZ  ↥Q (aM ["_law_bands_here", "_law_kind"] ds)):Def P w K mg base 1 "_law_many" ["_law_bands_here", "_law_kind"] (low K sp):=by
 have sc:FnScope ["_law_bands_here", "_law_kind"] ["_law_bands_here", "_law_kind"] (aI (top 39)):=by norm_cast
 refine m.okP (k:=0) (t:=pZ ) sc (λf cdv A outer s H E hr=>?_) len hsp
 ·
  have hu:=hr.units;exact(aH (bV (aW bX rfl bA fx (aD (Ct ["_law_band"] ["_law_kind"] [1] rfl (gG (a7 0 (pv 0))) (λfp s H=>(f6 (i:=0) (k:=1) (show lr (["_law_band", "_law_kind"]:List bw) by decide +kernel) rfl (.inl rfl))) (λfp s H=>(rT (c6 (gH hu) (a7 0 (pv 0)) (a7 1 (pv 1))))) (λfp s H=>(a7 0 (pv 0)))) aE))))
noncomputable abbrev nK(iR pE:Fn):cD:=
 (cP (EK pE (a9 (gE 1 [0] (dH (a9 (aR dG (aR cV (a8 0) (Kf (eC (.int 1)))) (eC (.int 1))) aF)) (gN 0) jM (gI (a9 (aR lF (eC (.int 6)) (aR gL (eC (.int 2)) (a8 0))) (a9 (eC (.int 1)) (a9 (b9 iR (a9 (a8 1) (a9 (a8 0) aF))) aF))))) aF)))
theorem AJ(P:ay)(w:bz)(mg:bw->Option ah)(base:dq){iR pE:Fn}(m:At K mg "_law_sides" "_law_sides" (top 40) ["_law_bands_here"])(aS:mg "range" = ar)(qT:Def P w K mg base 1 "_law_many" ["_law_bands_here", "_law_kind"] (low K iR))(Bc:MonoF iR)(AR:IDef P w K mg base 5 "Sides" C ["self", "directions"] pE)(HR:MonoF pE)(len:∀ds Q,sp ds Q->ds.length=1)(hsp:∀ds Q,sp ds Q->nK iR pE ↥Q (aM ["_law_bands_here"] ds)):Def P w K mg base 7 "_law_sides" ["_law_bands_here"] (low K sp):=by
 have sc:FnScope ["_law_bands_here"] ["_law_bands_here"] (aI (top 40)):=by norm_cast
 refine m.okP (k:=6) (t:=nK iR pE) sc (λf cdv A outer s H E hr=>?_) len hsp
 ·
  have hu1:=f9 hr;exact(aH (bV (Lv AR HR (hr.mono ∅) (aD (Ct ["_law_k"] ["_law_bands_here"] [0] rfl (cW rfl aS (aD (bO bT (c7 hu1 (a7 0 (pv 0)) (OR aN)) aN) aE)) (λfp s H=>(f6 (i:=0) (k:=1) (show lr (["_law_k", "_law_bands_here"]:List bw) by decide +kernel) rfl (.inl rfl))) (λfp s H=>oZ) (λfp s H=>(hG (aD (bO kN aN (bO dQ aN (a7 0 (pv 0)))) (aD aN (aD (bH qT Bc (hr.mono ∅) (aD (a7 1 (pv 1)) (aD (a7 0 (pv 0)) aE))) aE)))))) aE))))
noncomputable abbrev oP:cD:=
 (aU (c9 3 (aR nA (a8 2) (aR gL (fF d8 (a9 (a8 0) aF)) (fF d8 (a9 (a8 0) aF)))))
 (aU (c9 4 (aR i6 (aR nA (a8 2) (fF d8 (a9 (a8 0) aF))) (fF d8 (a9 (a8 0) aF))))
 (aU (c9 5 (aR i6 (a8 2) (fF d8 (a9 (a8 0) aF))))
 (jN (xD (bI (mU zR zR (a8 3) (a8 4) (a8 5))) (xD (bI (aR zR (aR cV (a8 0) (a8 3)) (aR cV (a8 0) (a8 4)))) (bI (aR zR (aR cV (a8 0) (a8 4)) (aR cV (a8 0) (a8 5)))))) (nW 1 (gI (a9 (a8 3) (a9 (a8 4) (a9 (a8 5) aF))))) cA))))
noncomputable abbrev lY:cD:=
 (aU (jA 1 (jQ aF))
 (aU (eZ (dH (a9 (aR gL (aR gL (fF d8 (a9 (a8 0) aF)) (fF d8 (a9 (a8 0) aF))) (fF d8 (a9 (a8 0) aF))) aF)) (gN 2) oP)
 (cP (a8 1))))
theorem xE(P:ay)(w:bz)(mg:bw->Option ah)(base:dq)(m:At K mg "_law_threes" "_law_threes" (top 41) ["_law_bands_here"])(bA:mg "len" = ar)(aS:mg "range" = ar)(len:∀ds Q,sp ds Q->ds.length=1)(hsp:∀ds Q,sp ds Q->lY  ↥Q (aM ["_law_bands_here", "_law_found", "_law_k", "_law_a", "_law_b", "_law_c"] ds)):Def P w K mg base 1 "_law_threes" ["_law_bands_here"] (low K sp):=by
 have sc:FnScope ["_law_bands_here", "_law_found", "_law_k", "_law_a", "_law_b", "_law_c"] ["_law_bands_here"] (aI (top 41)):=by norm_cast
 refine m.okP (k:=0) (t:=lY ) sc (λf cdv A outer s H E hr=>?_) len hsp
 ·
  have hu1:=f9 hr;exact(aG (iF (i:=1) sc.nd rfl (.inl rfl) (iK aE))
 (aG (dI cq rfl (cW rfl aS (aD (bO dQ (bO dQ (aW bX rfl bA fx (aD (a7 0 (pv 0)) aE)) (aW bX rfl bA fx (aD (a7 0 (pv 0)) aE))) (aW bX rfl bA fx (aD (a7 0 (pv 0)) aE))) aE)) (f6 (i:=2) (k:=6) sc.nd rfl (.inl rfl)) (aG (cO (i:=3) sc.nd rfl (.inl rfl) (bO kO (a7 2 (pv 2)) (bO dQ (aW bX rfl bA fx (aD (a7 0 (pv 0)) aE)) (aW bX rfl bA fx (aD (a7 0 (pv 0)) aE)))))
 (aG (cO (i:=4) sc.nd rfl (.inl rfl) (bO e7 (bO kO (a7 2 (pv 2)) (aW bX rfl bA fx (aD (a7 0 (pv 0)) aE))) (aW bX rfl bA fx (aD (a7 0 (pv 0)) aE))))
 (aG (cO (i:=5) sc.nd rfl (.inl rfl) (bO e7 (a7 2 (pv 2)) (aW bX rfl bA fx (aD (a7 0 (pv 0)) aE))))
 (aH (fQ (QW.qt (vK (B6 BS BS (a7 3 (pv 3)) (a7 4 (pv 4)) (a7 5 (pv 5))) (vK (c6 nZ (c7 hu1 (a7 0 (pv 0)) (a7 3 (pv 3))) (c7 hu1 (a7 0 (pv 0)) (a7 4 (pv 4)))) (uI (c6 nZ (c7 hu1 (a7 0 (pv 0)) (a7 4 (pv 4))) (c7 hu1 (a7 0 (pv 0)) (a7 5 (pv 5)))))))) (aH (rW (i:=1) (pv 1) (hG (aD (a7 3 (pv 3)) (aD (a7 4 (pv 4)) (aD (a7 5 (pv 5)) aE)))))) bW))))))
 (aH (bV (a7 1 (pv 1))))))
noncomputable abbrev kF:cD:=
 (wX 1 (gI (a9 (a8 2) (a9 (a8 3) aF))) (a8 4))
noncomputable abbrev mB:cD:=
 (aU (jA 1 Nf)
 (aU (eZ (kI (a8 0)) (gT [2,3,4]) kF)
 (cP (a8 1))))
theorem xG(P:ay)(w:bz)(mg:bw->Option ah)(base:dq)(m:At K mg "_law_belows" "_law_belows" (top 42) ["_law_tiles"])(len:∀ds Q,sp ds Q->ds.length=1)(hsp:∀ds Q,sp ds Q->mB  ↥Q (aM ["_law_tiles", "_law_belows_here", "_law_a", "_law_b", "_law_below"] ds)):Def P w K mg base 1 "_law_belows" ["_law_tiles"] (low K sp):=by
 have sc:FnScope ["_law_tiles", "_law_belows_here", "_law_a", "_law_b", "_law_below"] ["_law_tiles"] (aI (top 42)):=by norm_cast
 refine m.okP (k:=0) (t:=mB ) sc (λf cdv A outer s H E hr=>?_) len hsp
 ·
  have hu1:=f9 hr;exact(aG (iF (i:=1) sc.nd rfl (.inl rfl) zK)
 (aG (dI cq rfl (gG (a7 0 (pv 0))) (Cu (k:=5) (is:=[2,3,4]) rfl (dD (dZ (i:=2) sc.nd rfl (.inl rfl)) (dD (dZ (i:=3) sc.nd rfl (.inl rfl)) (dD (dZ (i:=4) sc.nd rfl (.inl rfl)) mO)))) (aH (B7 hu1 (i:=1) (pv 1) (hG (aD (a7 2 (pv 2)) (aD (a7 3 (pv 3)) aE))) (a7 4 (pv 4)))))
 (aH (bV (a7 1 (pv 1))))))
noncomputable abbrev v9(gD bC:Fn):cD:=
 (aU (c9 2 (b9 gD (a9 (a8 1) aF)))
 (cP (gE 1 [2] (kI (b9 bC (a9 (a8 0) aF))) (gN 0) (bI (aR NW (aR cV (a8 0) (eC (.int 1))) (aR cV (a8 1) (gI (a9 (aR cV (a8 0) (eC (.int 0))) (a9 (aR cV (a8 0) (eC (.int 2))) aF)))))) (a8 0))))
theorem Fj(P:ay)(w:bz)(mg:bw->Option ah)(base:dq){gD:Fn}(m:At K mg "_law_up" "_law_up" (top 43) ["_law_bands_here", "_law_tiles"])(mV:Def P w K mg base 1 "_law_belows" ["_law_tiles"] (low K gD))(xA:MonoF gD)(gB:Def P w K mg base 1 "_law_threes" ["_law_bands_here"] (low K bC))(l6:MonoF bC)(len:∀ds Q,sp ds Q->ds.length=2)(hsp:∀ds Q,sp ds Q->v9 gD bC ↥Q (aM ["_law_bands_here", "_law_tiles", "_law_belows_here"] ds)):Def P w K mg base 2 "_law_up" ["_law_bands_here", "_law_tiles"] (low K sp):=by
 have sc:FnScope ["_law_bands_here", "_law_tiles", "_law_belows_here"] ["_law_bands_here", "_law_tiles"] (aI (top 43)):=by norm_cast
 refine m.okP (k:=1) (t:=v9 gD bC) sc (λf cdv A outer s H E hr=>?_) len hsp
 ·
  have hu1:=f9 hr;have hu65:=De hr;exact(aG (cO (i:=2) sc.nd rfl (.inr rfl) (bH mV xA (hr.mono ∅) (aD (a7 1 (pv 1)) aE)))
 (aH (bV (Ct ["_law_three"] ["_law_belows_here"] [2] rfl (gG (bH gB l6 (hr.mono ∅) (aD (a7 0 (pv 0)) aE))) (λfp s H=>(f6 (i:=0) (k:=1) (show lr (["_law_three", "_law_belows_here"]:List bw) by decide +kernel) rfl (.inl rfl))) (λfp s H=>(rT (c6 (MR hu65 hu1) (c7 hu1 (a7 0 (pv 0)) aN) (c7 hu1 (a7 1 (pv 1)) (hG (aD (c7 hu1 (a7 0 (pv 0)) aN) (aD (c7 hu1 (a7 0 (pv 0)) aN) aE))))))) (λfp s H=>(a7 0 (pv 0)))))))
noncomputable abbrev n4(bC dX cT cH:Fn):cD:=
 (jN (bI (aR sP (aR i6 (aR sD (aR sD (a8 1) (eC (.int 3))) (aR Gv (eC (.int 1)) (a8 5))) (eC (.int 2))) (eC (.int 1)))) (wX 4 (aR cV (a8 3) (a8 5)) (eC (.bl aj))) cA)
noncomputable abbrev mZ(bC dX cT cH:Fn):cD:=
 (wX 4 (a8 6) (eC (.bl aj)))
noncomputable abbrev mY(bC dX cT cH:Fn):cD:=
 (jN (bI (aR Dy (fF d8 (a9 (a8 3) aF)) (eC (.int 0)))) (aU (c9 6 (aR cV (a8 3) (aR i6 (a8 7) (fF d8 (a9 (a8 3) aF)))))
 (aU (jN (bI (aR F2 (a8 6) (a8 4))) (Ay 4 (a8 6)) (wX 4 (a8 6) (eC (.bl aj))))
 (c9 7 (aR nA (a8 7) (fF d8 (a9 (a8 3) aF)))))) cA)
noncomputable abbrev pW(bC dX cT cH:Fn):cD:=
 (aU (c9 3 (b9 bC (a9 (a8 0) aF)))
 (aU (jA 4 Nf)
 (aU (jN (bI (aR sP (aR i6 (a8 1) (eC (.int 3))) (eC (.int 0)))) (aU (eZ (dH (a9 (fF d8 (a9 (a8 3) aF)) aF)) (gN 5) (n4 bC dX cT cH))
 (cP (a8 4))) cA)
 (aU (eZ (kI (b9 cH (a9 (a8 0) (a9 (b9 cT (a9 (a8 0) (a9 (b9 dX (a9 (a8 0) (a9 (aR nA (a8 1) (eC (.int 3))) aF))) aF))) aF)))) (gN 6) (mZ bC dX cT cH))
 (aU (c9 7 (aR nA (a8 2) (eC (.int 4))))
 (aU (eZ (dH (a9 (aR i6 (a8 2) (eC (.int 4))) aF)) (gN 5) (mY bC dX cT cH))
 (cP (a8 4))))))))
theorem C2(P:ay)(w:bz)(mg:bw->Option ah)(base:dq){dX cT:Fn}(m:At K mg "_law_some" "_law_some" (top 44) ["_law_bands_here", "_law_cell", "_law_others"])(bA:mg "len" = ar)(aS:mg "range" = ar)(gB:Def P w K mg base 1 "_law_threes" ["_law_bands_here"] (low K bC))(l6:MonoF bC)(tK:Def P w K mg base 2 "_law_row" ["_law_bands_here", "_law_cell"] (low K dX))(DA:MonoF dX)(oI:Def P w K mg base 2 "_law_floor" ["_law_bands_here", "_law_row_here"] (low K cT))(zY:MonoF cT)(lM:Def P w K mg base 2 "_law_up" ["_law_bands_here", "_law_tiles"] (low K cH))(t6:MonoF cH)(len:∀ds Q,sp ds Q->ds.length=3)(hsp:∀ds Q,sp ds Q->pW bC dX cT cH ↥Q (aM ["_law_bands_here", "_law_cell", "_law_others", "_law_every", "_law_marks", "_law_k", "_law_three", "_law_rest"] ds)):Def P w K mg base 3 "_law_some" ["_law_bands_here", "_law_cell", "_law_others"] (low K sp):=by
 have sc:FnScope ["_law_bands_here", "_law_cell", "_law_others", "_law_every", "_law_marks", "_law_k", "_law_three", "_law_rest"] ["_law_bands_here", "_law_cell", "_law_others"] (aI (top 44)):=by norm_cast
 refine m.okP (k:=2) (t:=pW bC dX cT cH) sc (λf cdv A outer s H E hr=>?_) len hsp
 ·
  have hu:=hr.units;have hu1:=f9 hr;exact(aG (cO (i:=3) sc.nd rfl (.inl rfl) (bH gB l6 (hr.mono ∅) (aD (a7 0 (pv 0)) aE)))
 (aG (iF (i:=4) sc.nd rfl (.inl rfl) zK)
 (aG (fQ (c6 (gH hu) (bO e7 (a7 1 (pv 1)) aN) aN) (aG (dI cq rfl (cW rfl aS (aD (aW bX rfl bA fx (aD (a7 3 (pv 3)) aE)) aE)) (f6 (i:=5) (k:=8) sc.nd rfl (.inl rfl)) (aH (fQ (c6 (gH hu) (bO e7 (bO BR (bO BR (a7 1 (pv 1)) aN) (bO Jf aN (a7 5 (pv 5)))) aN) aN) (aH (B7 hu1 (i:=4) (pv 4) (c7 hu1 (a7 3 (pv 3)) (a7 5 (pv 5))) n9)) bW)))
 (aH (bV (a7 4 (pv 4))))) bW)
 (aG (dI cq rfl (gG (bH lM t6 (hr.mono ∅) (aD (a7 0 (pv 0)) (aD (bH oI zY (hr.mono ∅) (aD (a7 0 (pv 0)) (aD (bH tK DA (hr.mono ∅) (aD (a7 0 (pv 0)) (aD (bO kO (a7 1 (pv 1)) aN) aE))) aE))) aE)))) (f6 (i:=6) (k:=8) sc.nd rfl (.inl rfl)) (aH (B7 hu1 (i:=4) (pv 4) (a7 6 (pv 6)) n9)))
 (aG (cO (i:=7) sc.nd rfl (.inl rfl) (bO kO (a7 2 (pv 2)) aN))
 (aG (dI cq rfl (cW rfl aS (aD (bO e7 (a7 2 (pv 2)) aN) aE)) (f6 (i:=5) (k:=8) sc.nd rfl (.inl rfl)) (aH (fQ (c6 kZ (aW bX rfl bA fx (aD (a7 3 (pv 3)) aE)) aN) (aG (cO (i:=6) sc.nd rfl (.inl rfl) (c7 hu1 (a7 3 (pv 3)) (bO e7 (a7 7 (pv 7)) (aW bX rfl bA fx (aD (a7 3 (pv 3)) aE)))))
 (aG (fQ (c6 (zT hu1) (a7 6 (pv 6)) (a7 4 (pv 4))) (aH (Lu (i:=4) hu1 (pv 4) (a7 6 (pv 6)))) (aH (B7 hu1 (i:=4) (pv 4) (a7 6 (pv 6)) n9)))
 (aH (cO (i:=7) sc.nd rfl (.inl rfl) (bO kO (a7 7 (pv 7)) (aW bX rfl bA fx (aD (a7 3 (pv 3)) aE))))))) bW)))
 (aH (bV (a7 4 (pv 4))))))))))
noncomputable abbrev lZ:cD:=
 (aU (jN (bI (aR sP (aR cV (a8 0) (a8 2)) (aR cV (a8 0) (a8 3)))) (cP (eC (.bl ao))) cA)
 (aU (jN (bI (aR sP (aR cV (a8 0) (a8 3)) (aR cV (a8 0) (a8 4)))) (cP (eC (.bl aj))) cA)
 (cP (aR F2 (gI (a9 (a8 2) (a9 (a8 3) (a9 (a8 4) aF)))) (a8 1)))))
theorem xF(P:ay)(w:bz)(mg:bw->Option ah)(base:dq)(m:At K mg "_law_counts" "_law_counts" (top 45) ["_law_bands_here", "_law_marks", "_law_a", "_law_b", "_law_c"])(len:∀ds Q,sp ds Q->ds.length=5)(hsp:∀ds Q,sp ds Q->lZ  ↥Q (aM ["_law_bands_here", "_law_marks", "_law_a", "_law_b", "_law_c"] ds)):Def P w K mg base 1 "_law_counts" ["_law_bands_here", "_law_marks", "_law_a", "_law_b", "_law_c"] (low K sp):=by
 have sc:FnScope ["_law_bands_here", "_law_marks", "_law_a", "_law_b", "_law_c"] ["_law_bands_here", "_law_marks", "_law_a", "_law_b", "_law_c"] (aI (top 45)):=by norm_cast
 refine m.okP (k:=0) (t:=lZ ) sc (λf cdv A outer s H E hr=>?_) len hsp
 ·
  have hu:=hr.units;have hu1:=f9 hr;exact(aG (fQ (c6 (gH hu) (c7 hu1 (a7 0 (pv 0)) (a7 2 (pv 2))) (c7 hu1 (a7 0 (pv 0)) (a7 3 (pv 3)))) (aH (bV n9)) bW)
 (aG (fQ (c6 (gH hu) (c7 hu1 (a7 0 (pv 0)) (a7 3 (pv 3))) (c7 hu1 (a7 0 (pv 0)) (a7 4 (pv 4)))) (aH (bV n9)) bW)
 (aH (bV (lC (zT hu1) (hG (aD (a7 2 (pv 2)) (aD (a7 3 (pv 3)) (aD (a7 4 (pv 4)) aE)))) (a7 1 (pv 1)))))))
noncomputable abbrev kG(cQ:Fn):cD:=
 (jN (bI (aR y8 (aR cV (a8 6) (a8 8)) (aR cV (a8 6) (aR dG (a8 8) (eC (.int 1)))))) (Em 7 BP (eC (.int 1))) cA)
noncomputable abbrev mC(cQ:Fn):cD:=
 (aU (jN (Ke (bI (aR sP (aR cV (a8 0) (a8 2)) (aR cV (a8 0) (a8 4)))) (bI (aR sP (aR cV (a8 0) (a8 3)) (aR cV (a8 0) (a8 5))))) (cP (eC (.bl ao))) cA)
 (aU (c9 6 (jQ (a9 (b9 cQ (a9 (a8 0) (a9 (a8 1) (a9 (a8 2) (a9 (a8 3) (a9 (a8 4) aF)))))) (a9 (b9 cQ (a9 (a8 0) (a9 (a8 1) (a9 (a8 2) (a9 (a8 3) (a9 (a8 5) aF)))))) aF))))
 (aU (c9 6 (aR dG (a8 6) (jQ (a9 (b9 cQ (a9 (a8 0) (a9 (a8 1) (a9 (a8 2) (a9 (a8 4) (a9 (a8 5) aF)))))) (a9 (b9 cQ (a9 (a8 0) (a9 (a8 1) (a9 (a8 3) (a9 (a8 4) (a9 (a8 5) aF)))))) aF)))))
 (aU (c9 7 (eC (.int 0)))
 (aU (eZ (dH (a9 (eC (.int 3)) aF)) (gN 8) (kG cQ))
 (cP (aR Dy (a8 7) (eC (.int 1)))))))))
theorem xH(P:ay)(w:bz)(mg:bw->Option ah)(base:dq){cQ:Fn}(m:At K mg "_law_barred" "_law_barred" (top 46) ["_law_bands_here", "_law_marks", "_law_a", "_law_b", "_law_c", "_law_d"])(aS:mg "range" = ar)(gC:Def P w K mg base 1 "_law_counts" ["_law_bands_here", "_law_marks", "_law_a", "_law_b", "_law_c"] (low K cQ))(iW:MonoF cQ)(len:∀ds Q,sp ds Q->ds.length=6)(hsp:∀ds Q,sp ds Q->mC cQ ↥Q (aM ["_law_bands_here", "_law_marks", "_law_a", "_law_b", "_law_c", "_law_d", "_law_row_here", "_law_changes", "_law_k"] ds)):Def P w K mg base 2 "_law_barred" ["_law_bands_here", "_law_marks", "_law_a", "_law_b", "_law_c", "_law_d"] (low K sp):=by
 have sc:FnScope ["_law_bands_here", "_law_marks", "_law_a", "_law_b", "_law_c", "_law_d", "_law_row_here", "_law_changes", "_law_k"] ["_law_bands_here", "_law_marks", "_law_a", "_law_b", "_law_c", "_law_d"] (aI (top 46)):=by norm_cast
 refine m.okP (k:=1) (t:=mC cQ) sc (λf cdv A outer s H E hr=>?_) len hsp
 ·
  have hu:=hr.units;have hu1:=f9 hr;exact(aG (fQ (QW.qt (Dl (c6 (gH hu) (c7 hu1 (a7 0 (pv 0)) (a7 2 (pv 2))) (c7 hu1 (a7 0 (pv 0)) (a7 4 (pv 4)))) (zI (c6 (gH hu) (c7 hu1 (a7 0 (pv 0)) (a7 3 (pv 3))) (c7 hu1 (a7 0 (pv 0)) (a7 5 (pv 5))))))) (aH (bV n9)) bW)
 (aG (cO (i:=6) sc.nd rfl (.inl rfl) (iK (aD (bH gC iW (hr.mono ∅) (aD (a7 0 (pv 0)) (aD (a7 1 (pv 1)) (aD (a7 2 (pv 2)) (aD (a7 3 (pv 3)) (aD (a7 4 (pv 4)) aE)))))) (aD (bH gC iW (hr.mono ∅) (aD (a7 0 (pv 0)) (aD (a7 1 (pv 1)) (aD (a7 2 (pv 2)) (aD (a7 3 (pv 3)) (aD (a7 5 (pv 5)) aE)))))) aE))))
 (aG (cO (i:=6) sc.nd rfl (.inl rfl) (bO bT (a7 6 (pv 6)) (iK (aD (bH gC iW (hr.mono ∅) (aD (a7 0 (pv 0)) (aD (a7 1 (pv 1)) (aD (a7 2 (pv 2)) (aD (a7 4 (pv 4)) (aD (a7 5 (pv 5)) aE)))))) (aD (bH gC iW (hr.mono ∅) (aD (a7 0 (pv 0)) (aD (a7 1 (pv 1)) (aD (a7 3 (pv 3)) (aD (a7 4 (pv 4)) (aD (a7 5 (pv 5)) aE)))))) aE)))))
 (aG (cO (i:=7) sc.nd rfl (.inl rfl) aN)
 (aG (dI cq rfl (cW rfl aS (aD aN aE)) (f6 (i:=8) (k:=9) sc.nd rfl (.inl rfl)) (aH (fQ (c6 (qH hu) (c7 hu1 (a7 6 (pv 6)) (a7 8 (pv 8))) (c7 hu1 (a7 6 (pv 6)) (bO bT (a7 8 (pv 8)) aN))) (aH (OU (i:=7) Ht sc.nd rfl (.inl rfl) aN)) bW)))
 (aH (bV (lC kZ (a7 7 (pv 7)) aN))))))))
noncomputable abbrev fN(bY:Fn):cD:=
 (jN (kJ (b9 bY (a9 (a8 0) (a9 (a8 1) (a9 (a8 2) (a9 (a8 3) (a9 (a8 4) (a9 (a8 5) aF)))))))) (cP (eC (.bl aj))) cA)
noncomputable abbrev fM(bY:Fn):cD:=
 (eZ (gU (a9 (aR dG (a8 4) (eC (.int 1))) (a9 (fF d8 (a9 (a8 0) aF)) aF))) (gN 5) (fN bY))
noncomputable abbrev fK(bY:Fn):cD:=
 (eZ (gU (a9 (aR dG (a8 3) (eC (.int 1))) (a9 (fF d8 (a9 (a8 0) aF)) aF))) (gN 4) (fM bY))
noncomputable abbrev fJ(bY:Fn):cD:=
 (eZ (gU (a9 (aR dG (a8 2) (eC (.int 1))) (a9 (fF d8 (a9 (a8 0) aF)) aF))) (gN 3) (fK bY))
noncomputable abbrev jF(bY:Fn):cD:=
 (aU (eZ (dH (a9 (fF d8 (a9 (a8 0) aF)) aF)) (gN 2) (fJ bY))
 (cP (eC (.bl ao))))
theorem tG(P:ay)(w:bz)(mg:bw->Option ah)(base:dq){bY:Fn}(m:At K mg "_law_is_barred" "_law_is_barred" (top 47) ["_law_bands_here", "_law_marks"])(bA:mg "len" = ar)(aS:mg "range" = ar)(mW:Def P w K mg base 2 "_law_barred" ["_law_bands_here", "_law_marks", "_law_a", "_law_b", "_law_c", "_law_d"] (low K bY))(xB:MonoF bY)(len:∀ds Q,sp ds Q->ds.length=2)(hsp:∀ds Q,sp ds Q->jF bY ↥Q (aM ["_law_bands_here", "_law_marks", "_law_a", "_law_b", "_law_c", "_law_d"] ds)):Def P w K mg base 3 "_law_is_barred" ["_law_bands_here", "_law_marks"] (low K sp):=by
 have sc:FnScope ["_law_bands_here", "_law_marks", "_law_a", "_law_b", "_law_c", "_law_d"] ["_law_bands_here", "_law_marks"] (aI (top 47)):=by norm_cast
 refine m.okP (k:=2) (t:=jF bY) sc (λf cdv A outer s H E hr=>?_) len hsp
 ·
  exact(aG (dI cq rfl (cW rfl aS (aD (aW bX rfl bA fx (aD (a7 0 (pv 0)) aE)) aE)) (f6 (i:=2) (k:=6) sc.nd rfl (.inl rfl)) (aH (dI cq rfl (g7 rfl aS (aD (bO bT (a7 2 (pv 2)) aN) (aD (aW bX rfl bA fx (aD (a7 0 (pv 0)) aE)) aE))) (f6 (i:=3) (k:=6) sc.nd rfl (.inl rfl)) (aH (dI cq rfl (g7 rfl aS (aD (bO bT (a7 3 (pv 3)) aN) (aD (aW bX rfl bA fx (aD (a7 0 (pv 0)) aE)) aE))) (f6 (i:=4) (k:=6) sc.nd rfl (.inl rfl)) (aH (dI cq rfl (g7 rfl aS (aD (bO bT (a7 4 (pv 4)) aN) (aD (aW bX rfl bA fx (aD (a7 0 (pv 0)) aE)) aE))) (f6 (i:=5) (k:=6) sc.nd rfl (.inl rfl)) (aH (fQ (iE (bH mW xB (hr.mono ∅) (aD (a7 0 (pv 0)) (aD (a7 1 (pv 1)) (aD (a7 2 (pv 2)) (aD (a7 3 (pv 3)) (aD (a7 4 (pv 4)) (aD (a7 5 (pv 5)) aE)))))))) (aH (bV n9)) bW)))))))))
 (aH (bV n9)))
noncomputable abbrev n5(aK:Fn):cD:=
 (Ax 2 (a8 3) (eC (.bl aj)))
noncomputable abbrev jT(aK:Fn):cD:=
 (aU (c9 3 (gI (a9 (aR cV (a8 4) (a8 7)) (a9 (aR cV (a8 4) (aR dG (a8 7) (eC (.int 1)))) (a9 (fF kA (a9 (fF iV (a9 (Fg (a8 4) gA (lL (a8 7))) aF)) aF)) aF)))))
 (jN (xD (bI (aR zR (aR cV (a8 0) (aR cV (a8 4) (a8 7))) (aR cV (a8 0) (aR cV (a8 4) (aR dG (a8 7) (eC (.int 1))))))) (bI (aR Gw (a8 3) (a8 2)))) (aU (nW 5 (a8 3))
 (aU (c9 4 (b9 aK (a9 (a8 4) (a9 (a8 7) aF))))
 zH)) cA))
noncomputable abbrev jS(aK:Fn):cD:=
 (eZ (dH (a9 (aR lF (fF d8 (a9 (a8 4) aF)) (eC (.int 1))) aF)) (gN 7) (jT aK))
noncomputable abbrev q8(aK:Fn):cD:=
 (aU (jA 2 TR)
 (aU (eZ (kI (a8 1)) (gN 3) (n5 aK))
 (aU (c9 4 (Fh (a9 (fF d8 (a9 (a8 0) aF)) aF)))
 (aU (jA 5 (jQ aF))
 (aU (eZ (dH (a9 (fF d8 (a9 (a8 1) aF)) aF)) (gN 6) (jS aK))
 (cP (aR sP (fF iV (a9 (a8 5) aF)) (a8 1))))))))
theorem C6(P:ay)(w:bz)(mg:bw->Option ah)(base:dq)(m:At K mg "_law_laid" "_law_laid" (top 48) ["_law_bands_here", "_law_tiles"])(bA:mg "len" = ar)(fS:mg "list" = ar)(aS:mg "range" = ar)(fR:mg "sorted" = ar)(eK:mg "tuple" = ar)(cJ:Def P w K mg base 1 "_law_exchanged" ["_law_path", "_law_p"] (low K aK))(eN:MonoF aK)(len:∀ds Q,sp ds Q->ds.length=2)(hsp:∀ds Q,sp ds Q->q8 aK ↥Q (aM ["_law_bands_here", "_law_tiles", "_law_marks", "_law_tile", "_law_path", "_law_met", "_law_step", "_law_p"] ds)):Def P w K mg base 2 "_law_laid" ["_law_bands_here", "_law_tiles"] (low K sp):=by
 have sc:FnScope ["_law_bands_here", "_law_tiles", "_law_marks", "_law_tile", "_law_path", "_law_met", "_law_step", "_law_p"] ["_law_bands_here", "_law_tiles"] (aI (top 48)):=by norm_cast
 refine m.okP (k:=1) (t:=q8 aK) sc (λf cdv A outer s H E hr=>?_) len hsp
 ·
  have hu:=hr.units;have hu1:=f9 hr;have hu2:=N4 hr;exact(aG (iF (i:=2) sc.nd rfl (.inl rfl) JF)
 (aG (dI cq rfl (gG (a7 1 (pv 1))) (f6 (i:=3) (k:=8) sc.nd rfl (.inl rfl)) (aH (Ls hu2 (i:=2) (pv 2) (a7 3 (pv 3)) n9)))
 (aG (cO (i:=4) sc.nd rfl (.inl rfl) (mL rfl rfl fS rfl aS (aD (aW bX rfl bA fx (aD (a7 0 (pv 0)) aE)) aE)))
 (aG (iF (i:=5) sc.nd rfl (.inl rfl) (iK aE))
 (aG (dI cq rfl (cW rfl aS (aD (aW bX rfl bA fx (aD (a7 1 (pv 1)) aE)) aE)) (f6 (i:=6) (k:=8) sc.nd rfl (.inl rfl)) (aH (dI cq rfl (cW rfl aS (aD (bO kN (aW bX rfl bA fx (aD (a7 4 (pv 4)) aE)) aN) aE)) (f6 (i:=7) (k:=8) sc.nd rfl (.inl rfl)) (aG (cO (i:=3) sc.nd rfl (.inl rfl) (hG (aD (c7 hu1 (a7 4 (pv 4)) (a7 7 (pv 7))) (aD (c7 hu1 (a7 4 (pv 4)) (bO bT (a7 7 (pv 7)) aN)) (aD (k9 oM rfl eK yq (aD (aW pD rfl fR zp (aD (mJ (a7 4 (pv 4)) mH (mG (a7 7 (pv 7)))) aE)) aE)) aE)))))
 (aH (fQ (QW.qt (vK (c6 nZ (c7 hu1 (a7 0 (pv 0)) (c7 hu1 (a7 4 (pv 4)) (a7 7 (pv 7)))) (c7 hu1 (a7 0 (pv 0)) (c7 hu1 (a7 4 (pv 4)) (bO bT (a7 7 (pv 7)) aN)))) (uI (c6 (Jg hu2) (a7 3 (pv 3)) (a7 2 (pv 2)))))) (aG (rW (i:=5) (pv 5) (a7 3 (pv 3)))
 (aG (cO (i:=4) sc.nd rfl (.inl rfl) (bH cJ eN (hr.mono ∅) (aD (a7 4 (pv 4)) (aD (a7 7 (pv 7)) aE))))
 (aH JH))) bW))))))
 (aH (bV (lC (gH hu) (aW pD rfl fR zp (aD (a7 5 (pv 5)) aE)) (a7 1 (pv 1))))))))))
noncomputable abbrev kW(K:ap)(eA aT i0:af)(hX:yW):cD:=
 (aU (c9 2 (eC (.bl ao)))
 (aU (Lo aT 3 hX (a9 (a8 0) (a9 (a8 1) aF)) (c9 2 (sL (EL K aT (a8 3)) (sL (IK K (a8 3)) (wI (EL K i0 (a8 3)))))) cA)
 (cP (a8 2))))
theorem wJ(P:ay)(w:bz)(mg:bw->Option ah)(base:dq){hX:yW}{eA i0:af}(m:At K mg "_law_refused" "_law_refused" (top 49) ["_law_sides_here", "_law_some_here"])(bF:mg "isinstance" = ar)(lV:mg "ValueError" = ar)(mT:mg "SlantError" = aa (.ref eA))(x_NoThrees_SlantError:X3 K (.ref aT) (.ref eA)=aa aj)(h7:mg "NoThrees" = aa (.ref aT))(tF:mg "NoFloor" = aa (.ref i0))(kR:DefX P w K mg base 5 "floor_by" ["sides", "some"] (lowX K hX))(A2:MonoX hX)(len:∀ds Q,sp ds Q->ds.length=2)(hsp:∀ds Q,sp ds Q->kW K eA aT i0 hX ↥Q (aM ["_law_sides_here", "_law_some_here", "_law_refused_here", "e"] ds)):Def P w K mg base 6 "_law_refused" ["_law_sides_here", "_law_some_here"] (low K sp):=by
 have sc:FnScope ["_law_sides_here", "_law_some_here", "_law_refused_here", "e"] ["_law_sides_here", "_law_some_here"] (aI (top 49)):=by norm_cast
 refine m.okP (k:=5) (t:=kW K eA aT i0 hX) sc (λf cdv A outer s H E hr=>?_) len hsp
 ·
  exact(aG (cO (i:=2) sc.nd rfl (.inl rfl) n9)
 (aG (OP (i:=3) (λ_ _ z=>z) kR A2 (hr.mono ∅) (aD (a7 0 (pv 0)) (aD (a7 1 (pv 1)) aE)) sc.nd mT x_NoThrees_SlantError (λa=>(aH (cO (i:=2) sc.nd rfl (.inl rfl) (xW (GO rfl bF (a7 3 (pv 3)) h7) (xW (Lx rfl bF (a7 3 (pv 3)) lV) (vL (Dm (GO rfl bF (a7 3 (pv 3)) tF)))))))) bW)
 (aH (bV (a7 2 (pv 2))))))
noncomputable abbrev iZ:cD:=
 (jN (bI (aR zR (aR cV (a8 0) (a8 2)) (aR cV (a8 0) (a8 3)))) (nW 1 (gI (a9 (a8 2) (a9 (a8 3) aF)))) cA)
noncomputable abbrev iY:cD:=
 (eZ (gU (a9 (aR dG (a8 2) (eC (.int 1))) (a9 (fF d8 (a9 (a8 0) aF)) aF))) (gN 3) iZ)
noncomputable abbrev nL:cD:=
 (aU (jA 1 (jQ aF))
 (aU (eZ (dH (a9 (fF d8 (a9 (a8 0) aF)) aF)) (gN 2) iY)
 (cP (a8 1))))
theorem AK(P:ay)(w:bz)(mg:bw->Option ah)(base:dq)(m:At K mg "_law_pairs" "_law_pairs" (top 50) ["_law_bands_here"])(bA:mg "len" = ar)(aS:mg "range" = ar)(len:∀ds Q,sp ds Q->ds.length=1)(hsp:∀ds Q,sp ds Q->nL  ↥Q (aM ["_law_bands_here", "_law_found", "_law_a", "_law_b"] ds)):Def P w K mg base 1 "_law_pairs" ["_law_bands_here"] (low K sp):=by
 have sc:FnScope ["_law_bands_here", "_law_found", "_law_a", "_law_b"] ["_law_bands_here"] (aI (top 50)):=by norm_cast
 refine m.okP (k:=0) (t:=nL ) sc (λf cdv A outer s H E hr=>?_) len hsp
 ·
  have hu1:=f9 hr;exact(aG (iF (i:=1) sc.nd rfl (.inl rfl) (iK aE))
 (aG (dI cq rfl (cW rfl aS (aD (aW bX rfl bA fx (aD (a7 0 (pv 0)) aE)) aE)) (f6 (i:=2) (k:=4) sc.nd rfl (.inl rfl)) (aH (dI cq rfl (g7 rfl aS (aD (bO bT (a7 2 (pv 2)) aN) (aD (aW bX rfl bA fx (aD (a7 0 (pv 0)) aE)) aE))) (f6 (i:=3) (k:=4) sc.nd rfl (.inl rfl)) (aH (fQ (c6 nZ (c7 hu1 (a7 0 (pv 0)) (a7 2 (pv 2))) (c7 hu1 (a7 0 (pv 0)) (a7 3 (pv 3)))) (aH (rW (i:=1) (pv 1) (hG (aD (a7 2 (pv 2)) (aD (a7 3 (pv 3)) aE))))) bW)))))
 (aH (bV (a7 1 (pv 1))))))
noncomputable abbrev ET(fX bD eR eP fV cS dM fZ eQ cH fY:Fn):cD:=
 (aU (c9 2 (b9 eR (a9 (b9 bD (a9 (a8 0) (a9 (a8 1) aF))) (a9 (b9 fX (a9 (a8 0) (a9 (a8 1) (a9 (eC (.int 8)) aF)))) aF))))
 (aU (c9 3 (b9 eP (a9 (a8 2) aF)))
 (aU (c9 4 (b9 fV (a9 (a8 2) (a9 (b9 bD (a9 (a8 0) (a9 (aR dG (a8 1) (eC (.int 1))) aF))) (a9 (b9 bD (a9 (a8 0) (a9 (aR dG (a8 1) (eC (.int 2))) aF))) aF)))))
 (aU (c9 5 (fF iO (a9 (a8 4) aF)))
 (jN (kJ (b9 cS (a9 (a8 2) (a9 (a8 4) aF)))) (jN (oC (kJ (b9 dM (a9 (a8 3) (a9 (fF sC (a9 (a8 5) aF)) aF))))) (cP (eC (.bl ao))) cA) (aU (c9 6 (b9 fZ (a9 (a8 3) (a9 (fF sC (a9 (a8 5) aF)) aF))))
 (aU (jN (Ke (oC (kJ (AG "list" (a8 6)))) (bI (aR y8 (gE 3 [] (kI (a8 6)) (gT [0,1,2]) jM (gI (a9 (a8 0) (a9 (a8 1) aF)))) (b9 eQ (a9 (a8 2) aF))))) (cP (eC (.bl ao))) cA)
 (jN (Ke (bI (aR y8 (b9 cH (a9 (a8 2) (a9 (a8 6) aF))) (a8 5))) (oC (kJ (b9 fY (a9 (a8 2) (a9 (a8 6) aF)))))) (cP (eC (.bl ao))) cA))))))))
noncomputable abbrev GG(fX bD eR eP fV cS dM fZ eQ cH fY:Fn):cD:=
 (aU (eZ (uN (a9 (eC (.int 0)) (a9 (aR dG (fF vR (a9 (eC (.int 21)) (a9 (fF d8 (a9 (a8 0) aF)) aF))) (eC (.int 1))) (a9 (eC (.int 3)) aF)))) (gN 1) (ET fX bD eR eP fV cS dM fZ eQ cH fY))
 (cP (eC (.bl aj))))
theorem NB(P:ay)(w:bz)(mg:bw->Option ah)(base:dq){fX eR eP fV cS dM fZ eQ fY:Fn}{fL:af}{fdL:jy}(F:Fun K "law" "law" (top 51) fL fdL)(bA:mg "len" = ar)(xQ:mg "min" = ar)(aS:mg "range" = ar)(fR:mg "sorted" = ar)(fS:mg "list" = ar)(bF:mg "isinstance" = ar)(qS:Def P w K mg base 2 "_law_most" ["_law_script", "_law_k", "_law_usual"] (low K fX))(Bb:MonoF fX)(dJ:Def P w K mg base 1 "_law_cell_at" ["_law_script", "_law_k"] (low K bD))(fT:MonoF bD)(oJ:Def P w K mg base 1 "_law_bands" ["_law_cell", "_law_most_here"] (low K eR))(zZ:MonoF eR)(oG:Def P w K mg base 7 "_law_sides" ["_law_bands_here"] (low K eP))(zW:MonoF eP)(qQ:Def P w K mg base 3 "_law_some" ["_law_bands_here", "_law_cell", "_law_others"] (low K fV))(BZ:MonoF fV)(jK:Def P w K mg base 3 "_law_is_barred" ["_law_bands_here", "_law_marks"] (low K cS))(t7:MonoF cS)(l8:Def P w K mg base 6 "_law_refused" ["_law_sides_here", "_law_some_here"] (low K dM))(vV:MonoF dM)(qX:Def P w K mg base 5 "floor_by" ["sides", "some"] (low K fZ))(Bh:MonoF fZ)(oH:Def P w K mg base 1 "_law_pairs" ["_law_bands_here"] (low K eQ))(zX:MonoF eQ)(lM:Def P w K mg base 2 "_law_up" ["_law_bands_here", "_law_tiles"] (low K cH))(t6:MonoF cH)(qU:Def P w K mg base 2 "_law_laid" ["_law_bands_here", "_law_tiles"] (low K fY))(Bd:MonoF fY)(len:∀ds Q,sp ds Q->ds.length=1)(hsp:∀ds Q,sp ds Q->GG fX bD eR eP fV cS dM fZ eQ cH fY ↥Q (aM ["_law_script", "_law_k", "_law_bands_here", "_law_sides_here", "_law_marks", "_law_some_here", "_law_tiles"] ds)):FnOk P w K mg base DZ 8 fL fdL ["_law_script"] (low K sp):=by
 have sc:FnScope ["_law_script", "_law_k", "_law_bands_here", "_law_sides_here", "_law_marks", "_law_some_here", "_law_tiles"] ["_law_script"] (aI (top 51)):=by norm_cast
 refine F.ok (k:=7) sc (A5 len) λcdv A outer s H vs Q E hr qq=>AZ (N:=["_law_script", "_law_k", "_law_bands_here", "_law_sides_here", "_law_marks", "_law_some_here", "_law_tiles"]) (t:=GG fX bD eR eP fV cS dM fZ eQ cH fY) ?_ hsp qq
 ·
  have hu:=hr.units;exact(aG (dI cq rfl (Er rfl aS (aD aN (aD (bO bT (aW (EQ rfl) rfl xQ boot_min (aD aN (aD (aW bX rfl bA fx (aD (a7 0 (pv 0)) aE)) aE))) aN) (aD aN aE)))) (f6 (i:=1) (k:=7) sc.nd rfl (.inl rfl)) (aG (cO (i:=2) sc.nd rfl (.inl rfl) (bH oJ zZ (hr.mono ∅) (aD (bH dJ fT (hr.mono ∅) (aD (a7 0 (pv 0)) (aD (a7 1 (pv 1)) aE))) (aD (bH qS Bb (hr.mono ∅) (aD (a7 0 (pv 0)) (aD (a7 1 (pv 1)) (aD aN aE)))) aE))))
 (aG (cO (i:=3) sc.nd rfl (.inl rfl) (bH oG zW (hr.mono ∅) (aD (a7 2 (pv 2)) aE)))
 (aG (cO (i:=4) sc.nd rfl (.inl rfl) (bH qQ BZ (hr.mono ∅) (aD (a7 2 (pv 2)) (aD (bH dJ fT (hr.mono ∅) (aD (a7 0 (pv 0)) (aD (bO bT (a7 1 (pv 1)) aN) aE))) (aD (bH dJ fT (hr.mono ∅) (aD (a7 0 (pv 0)) (aD (bO bT (a7 1 (pv 1)) aN) aE))) aE)))))
 (aG (cO (i:=5) sc.nd rfl (.inl rfl) (aW (CG rfl) rfl fR zp (aD (a7 4 (pv 4)) aE)))
 (aH (fQ (iE (bH jK t7 (hr.mono ∅) (aD (a7 2 (pv 2)) (aD (a7 4 (pv 4)) aE)))) (aH (fQ (k8 (iE (bH l8 vV (hr.mono ∅) (aD (a7 3 (pv 3)) (aD (k9 ER rfl fS Wh (aD (a7 5 (pv 5)) aE)) aE))))) (aH (bV n9)) bW)) (aG (cO (i:=6) sc.nd rfl (.inl rfl) (bH qX Bh (hr.mono ∅) (aD (a7 3 (pv 3)) (aD (k9 ER rfl fS Wh (aD (a7 5 (pv 5)) aE)) aE))))
 (aG (fQ (QW.qt (Dl (k8 (iE (B8 (.inr (.inr (.inr (.inl rfl)))) rfl bF (a7 6 (pv 6)) (p8 (v:=.ty "list") rfl fS Wh rfl)))) (zI (c6 (qH hu) (Ct ["_law_a", "_law_b", "_law_below"] [] [] rfl (gG (a7 6 (pv 6))) (λfp s H=>(Cu (k:=3) (is:=[0,1,2]) rfl (dD (dZ (i:=0) (show lr (["_law_a", "_law_b", "_law_below"]:List bw) by decide +kernel) rfl (.inl rfl)) (dD (dZ (i:=1) (show lr (["_law_a", "_law_b", "_law_below"]:List bw) by decide +kernel) rfl (.inl rfl)) (dD (dZ (i:=2) (show lr (["_law_a", "_law_b", "_law_below"]:List bw) by decide +kernel) rfl (.inl rfl)) mO))))) (λfp s H=>oZ) (λfp s H=>(hG (aD (a7 0 (pv 0)) (aD (a7 1 (pv 1)) aE))))) (bH oH zX (hr.mono ∅) (aD (a7 2 (pv 2)) aE)))))) (aH (bV n9)) bW)
 (aH (fQ (QW.qt (Dl (c6 (qH hu) (bH lM t6 (hr.mono ∅) (aD (a7 2 (pv 2)) (aD (a7 6 (pv 6)) aE))) (a7 5 (pv 5))) (zI (k8 (iE (bH qU Bd (hr.mono ∅) (aD (a7 2 (pv 2)) (aD (a7 6 (pv 6)) aE)))))))) (aH (bV n9)) bW)))))))))))
 (aH (bV n9)))
end
end Lw
variable {l:List Int}
namespace Fl
noncomputable def aP(l:List Int)(p:Nat):List Int:=l.take p++[l.getD (p+1) 0,l.getD p 0]++l.drop (p+2)
variable {p:Nat}
theorem eX(hp:p+1<l.length):(aP l p).length=l.length:=by unfold aP;simp;right
theorem cG{k:Nat}(hp:p+1<l.length)(hk:k<l.length):(aP l p).getD k 0=if k=p+1 then l.getD p 0 else if k=p then l.getD (p+1) 0 else l.getD k 0:=by
 unfold aP;simp only[df,dw];by_cases h1:k<p
 ·rw[bh (by simp;right),ie h1,Zg ⋯,Zg ⋯]
 ·rw[bo (by simp;right),ef,pi ⋯];by_cases h2:k=p
  ·subst h2;rw[Zg ⋯,ZE rfl];simp
  ·by_cases h3:k=p+1
   ·subst h3;rw[ZE rfl,show p+1-p=1 by right];simp
   ·rw[Zg h3,Zg h2,bo (by simp;right)];simp only[cj,yg,uv];rw[show p+2+(k-p-(0+1+1))=k by right]
noncomputable def sg(p i:Nat):Nat:=if i=p then p+1 else if i=p+1 then p else i
theorem Dk(p i:Nat):sg p (sg p i)=i:=by unfold sg;split<;>split<;>first | right | (split<;>right)
theorem rP(hp:p+1<n)(hi:i<n):sg p i<n:=by unfold sg;split<;>first | right | (split<;>right)
theorem rL(hp:p+1<l.length)(hi:i<l.length):(aP l p).getD (sg p i) 0=l.getD i 0:=by
 rw[cG hp (rP hp hi)];unfold sg;by_cases h:i=p
 ·rw[ZE h,ZE rfl,h]
 ·rw[Zg h];by_cases h2:i=p+1
  ·rw[ZE h2,Zg ⋯,ZE rfl,h2]
  ·rw[Zg h2,Zg h2,Zg h]
structure Pt(n:Nat)(l:List Int):Prop where
 len:l.length=n
 bd:∀i,i<n->0<=l.getD i 0/\l.getD i 0<n
 inj:∀i j,i<n->j<n->l.getD i 0=l.getD j 0->i=j
 sur:∀x:Int,0<=x->x<n -> ∃i,i<n/\l.getD i 0=x
noncomputable abbrev ids(n:Nat):List Int:=(gy n).map λ(k:Nat)=>(k:Int)
theorem kQ(h:i<n):(ids n).getD i 0=i:=by simp[ids,df,h]
theorem Pt.ids(n:Nat):Pt n (ids n):=by
 refine⟨by simp[Fl.ids],λi hi=>by rw[kQ hi];right,λi j hi hj e=>by rw[kQ hi,kQ hj] at e;right,λx h0 h1=>⟨x.toNat,⋯,by rw[kQ ⋯];right⟩⟩
theorem Pt.swap(h:Pt n l)(hp:p+1<n):Pt n (aP l p):=by
 have hl:=h.len;have g:∀i,i<n->(aP l p).getD i 0=l.getD (sg p i) 0:=λi hi=>by
  have:=rL (l:=l) (p:=p) (i:=sg p i) ⋯ (by rw[hl];exact rP hp hi);rwa[Dk] at this
 refine⟨by rw[eX ⋯];exact hl,λi hi=>by rw[g i hi];exact h.bd _ (rP hp hi),λi j hi hj e=>?_,λx h0 h1=>?_⟩
 ·rw[g i hi,g j hj] at e;have:=h.inj _ _ (rP hp hi) (rP hp hj) e;have:=congrArg (sg p) this;rwa[Dk,Dk] at this
 ·obtain⟨i,hi,e⟩:=h.sur x h0 h1;exact⟨sg p i,rP hp hi,by rw[rL ⋯ ⋯];exact e⟩
noncomputable def Bf(l:List Int)(x y:Int):Prop:=∃i j,i<j/\j<l.length/\l.getD i 0=x/\l.getD j 0=y
variable {y:Int}
section
variable {x:Int}
theorem Bf.anti(P:Pt n l)(h:Bf l x y)(k:Bf l y x):False:=by
 obtain⟨i,j,a,b,c,d⟩:=h;obtain⟨i',j',a',b',c',d'⟩:=k;have hl:=P.len;have:=P.inj i j' ⋯ ⋯ (c.trans d'.symm);have:=P.inj j i' ⋯ ⋯ (d.trans c'.symm);right
theorem Bf.tot(P:Pt n l)(hx:0<=x)(hx':x<n)(hy:0<=y)(hy':y<n)(ne:x≠y):Bf l x y \/ Bf l y x:=by
 obtain⟨i,hi,ei⟩:=P.sur x hx hx';obtain⟨j,hj,ej⟩:=P.sur y hy hy';have hl:=P.len;rcases sd i j with h | h | h
 ·exact .inl ⟨i,j,h,⋯,ei,ej⟩
 ·subst h;exact absurd (ei.symm.trans ej) ne
 ·exact .inr ⟨j,i,h,⋯,ej,ei⟩
theorem Bf.swap(P:Pt n l)(hp:p+1<n)(h:Bf l x y)(ne:¬(x=l.getD p 0/\y=l.getD (p+1) 0)):Bf (aP l p) x y:=by
 obtain⟨i,j,a,b,c,d⟩:=h;have hl:=P.len;refine⟨sg p i,sg p j,?_,by rw[eX ⋯,hl];exact rP hp ⋯,by rw[rL ⋯ ⋯];exact c,by rw[rL ⋯ ⋯];exact d⟩;by_cases z:i=p/\j=p+1
 ·exact absurd ⟨by rw[<- c,z.1],by rw[<- d,z.2]⟩ ne
 ·unfold sg;split<;>split<;>first | right | (split<;>first | right | (split<;>right))
theorem Bf.new(hp:p+1<l.length):Bf (aP l p) (l.getD (p+1) 0) (l.getD p 0):=
 ⟨p,p+1,⋯,by rw[eX hp];exact hp,by rw[cG hp ⋯,Zg ⋯,ZE rfl],by rw[cG hp hp,ZE rfl]⟩
theorem Bf.back(P:Pt n l)(hp:p+1<n)(h:Bf (aP l p) x y):Bf l x y \/ (x=l.getD (p+1) 0/\y=l.getD p 0):=by
 have hl:=P.len;by_cases z:x=l.getD (p+1) 0/\y=l.getD p 0
 ·exact .inr z
 ·have P':=P.swap hp;obtain⟨i,j,a,b,c,d⟩:=h;rw[eX ⋯] at b;have g:∀i,i<n->(aP l p).getD i 0=l.getD (sg p i) 0:=λi hi=>by
   have:=rL (l:=l) (p:=p) (i:=sg p i) ⋯ (by rw[hl];exact rP hp hi);rwa[Dk] at this
  rw[g i ⋯] at c;rw[g j ⋯] at d;refine .inl ⟨sg p i,sg p j,?_,by rw[hl];exact rP hp ⋯,c,d⟩;by_cases w:i=p/\j=p+1
  ·exfalso;apply z;obtain⟨rfl,rfl⟩:=w;refine⟨?_,?_⟩
   ·rw[<- c];unfold sg;rw[ZE rfl]
   ·rw[<- d];unfold sg;rw[Zg ⋯,ZE rfl]
  ·unfold sg;split<;>split<;>first | right | (split<;>first | right | (split<;>right))
theorem Bf.near(hp:p+1<l.length):Bf l (l.getD p 0) (l.getD (p+1) 0):=⟨p,p+1,⋯,hp,rfl,rfl⟩
theorem tE{x:Int}(h0:0<=x)(h:x<y)(h1:y<n):Bf (ids n) x y:=
 ⟨x.toNat,y.toNat,⋯,by simp[ids];right,by rw[kQ ⋯];right,by rw[kQ ⋯];right⟩
end
noncomputable abbrev kd(ks:List Int)(x:Int):Int:=ks.getD x.toNat 0
inductive Walk(ks:List Int):List Int->List Int->List Int->Prop
 |nil (l:List Int):Walk ks l [] l
 |cons {l e r:List Int} {p:Nat}:p+1<ks.length->kd ks (l.getD p 0)<kd ks (l.getD (p+1) 0)->Walk ks (aP l p) r e->Walk ks l ((p:Int)::r) e
noncomputable def tls:List Int->List Int->List (Int×Int×List Int)
 |_,[]=>[]
 |l,p::r=>(l.getD p.toNat 0,l.getD (p.toNat+1) 0,l.take p.toNat)::tls (aP l p.toNat) r
theorem i9:∀(r l:List Int),(tls l r).length=r.length
 | [],_=>rfl
 |p::r,l=>by rw[tls,cj,cj,i9 r]
variable {m r e:List Int}
section
variable {x:Int}
theorem Walk.snoc(w:Walk ks l r e)(hp:p+1<ks.length)(h:kd ks (e.getD p 0)<kd ks (e.getD (p+1) 0)):Walk ks l (r++[(p:Int)]) (aP e p):=by
 induction w with
 |nil l=>exact .cons hp h (.nil _)
 |cons a b _ ih=>exact .cons a b (ih h)
theorem Walk.pt(w:Walk ks l r e)(P:Pt ks.length l):Pt ks.length e:=by
 induction w with
 |nil l=>exact P
 |cons a b _ ih=>exact ih (P.swap a)
theorem Walk.append{e2 r2:List Int}(w:Walk ks l r m)(w2:Walk ks m r2 e2):Walk ks l (r++r2) e2:=by
 induction w with
 |nil l=>exact w2
 |cons a b _ ih=>exact .cons a b (ih w2)
theorem Walk.stay(w:Walk ks l r e)(P:Pt ks.length l)(k:kd ks x<=kd ks y)(h:Bf l y x):Bf e y x:=by
 induction w with
 |nil l=>exact h
 |cons a b w ih=>
  refine ih (P.swap a) (h.swap P a λz=>?_);rw[z.1,z.2] at k;right
theorem Walk.key(w:Walk ks l r e)(P:Pt ks.length l){t:Int×Int×List Int}(h:t∈tls l r):Bf l t.1 t.2.1/\kd ks t.1<kd ks t.2.1/\Bf e t.2.1 t.1:=by
 induction w with
 |nil l=>cases h
 | @cons l e r p a b w ih=>
  have hl:=P.len;rw[tls,br] at h;rcases dm.mp h with rfl | h
  ·exact⟨Bf.near ⋯,b,w.stay (P.swap a) (Vx b) (Bf.new ⋯)⟩
  ·obtain⟨h1,h2,h3⟩:=ih (P.swap a) h;refine⟨?_,h2,h3⟩;rcases h1.back P a with z | z
   ·exact z
   ·rw[z.1,z.2] at h2;right
theorem Walk.nodup(w:Walk ks l r e)(P:Pt ks.length l):((tls l r).map λt=>(t.1,t.2.1)).Nodup:=by
 induction w with
 |nil l=>exact YK
 | @cons l e r p a b w ih=>
  have hl:=P.len;rw[tls,br,de];refine ya.mpr ⟨λh=>?_,ih (P.swap a)⟩;obtain⟨t,ht,et⟩:=jh.mp h;obtain⟨h1,_,_⟩:=w.key (P.swap a) ht;simp only[Wu] at et;rw[et.1,et.2] at h1;exact h1.anti (P.swap a) (Bf.new ⋯)
theorem Walk.or(w:Walk ks l r e)(P:Pt ks.length l)(h:Bf l x y):(∃t∈tls l r,t.1=x/\t.2.1=y) \/ Bf e x y:=by
 induction w with
 |nil l=>exact .inr h
 | @cons l e r p a b w ih=>
  have hl:=P.len;rw[tls,br];by_cases z:x=l.getD p 0/\y=l.getD (p+1) 0
  ·exact .inl ⟨_,dk ..,z.1.symm,z.2.symm⟩
  ·rcases ih (P.swap a) (h.swap P a z) with⟨t,ht,et⟩ | q
   ·exact .inl ⟨t,dg _ ht,et⟩
   ·exact .inr q
noncomputable def eV(ks e:List Int):Prop:=∀p,p+1<ks.length->kd ks (e.getD (p+1) 0)<=kd ks (e.getD p 0)
theorem eV.le(d:eV ks e)(P:Pt ks.length e):∀(k i:Nat),i+k<ks.length->kd ks (e.getD (i+k) 0)<=kd ks (e.getD i 0)
 |0,i,_=>zq _
 |k+1,i,h=>Z5 (d (i+k) ⋯) (d.le P k i ⋯)
theorem Walk.all(w:Walk ks l r e)(P:Pt ks.length l)(d:eV ks e)(k:kd ks x<kd ks y)(h:Bf l x y):∃t∈tls l r,t.1=x/\t.2.1=y:=by
 rcases w.or P h with q | ⟨i,j,a,b,c,f⟩
 ·exact q
 ·have P':=w.pt P;have hl:=P'.len;have:=d.le P' (j-i) i ⋯;rw[show i+(j-i)=j by right,c,f] at this;right
end
noncomputable def pc:List Int->Nat
 | []=>0
 |x::r=>(r.filter λy=>decide (x<y)).length+pc r
theorem Du{a b:Int}(h:a<b)(v:List Int):∀u:List Int,pc (u++a::b::v)=pc (u++b::a::v)+1
 | []=>by
  have h':¬b<a:=⋯;simp only[gw,pc,Xs,h,h',decide_true,decide_false,if_true,eo,if_false,cj];right
 |x::u=>by
  have e:((u++a::b::v).filter λy=>decide (x<y)).length=((u++b::a::v).filter λy=>decide (x<y)).length:=by
   simp only[V2,Xs,eg];split<;>split<;>simp
  rw[kf,kf,pc,pc,Du h v u,e];right
theorem L7:∀l:List Int,pc l<=l.length*l.length
 | []=>bt _
 |x::r=>by
  have h1:=L7 r;have h2:=vy (λy=>decide (x<y)) r;rw[pc,cj,zr,Y4];right
theorem Oc(h:1<=l.length):pc l<l.length*l.length:=by
 cases l with
 |nil=>simp at h
 |cons x r=>
  have h1:=L7 r;have h2:=vy (λy=>decide (x<y)) r;rw[pc,cj,zr,Y4];right
theorem vA(hp:p+1<l.length):l=l.take p++l.getD p 0::l.getD (p+1) 0::l.drop (p+2):=by
 have e1:l.drop p=l.getD p 0::l.drop (p+1):=by
  rw[gx (show p<l.length by right)];simp[df,show p<l.length by right]
 have e2:l.drop (p+1)=l.getD (p+1) 0::l.drop (p+2):=by
  rw[gx hp];simp[df,hp]
 rw[<- e2,<- e1,uc]
theorem Walk.count(w:Walk ks l r e)(hl:l.length=ks.length):pc (l.map (kd ks))=r.length+pc (e.map (kd ks)):=by
 induction w with
 |nil l=>simp
 | @cons l e r p a b w ih=>
  have h1:=ih (by rw[eX ⋯];exact hl);have h2:pc (l.map (kd ks))=pc ((aP l p).map (kd ks))+1:=by
   have e1:=congrArg (List.map (kd ks)) (vA (l:=l) (p:=p) ⋯);rw[yi,de,de] at e1;rw[e1,Du b];congr 2;unfold aP;simp
  rw[h2,h1,cj];right
theorem Hv(ks:List Int):(ids ks.length).map (kd ks)=ks:=by
 apply rd;intro i;by_cases h:i<ks.length
 ·simp[ids,kd,h]
 ·simp[ids,h]
theorem j8:∀(r l:List Int) (k:Nat),(tls l r).take k=tls l (r.take k)
 | [],l,k=>by simp[tls]
 |p::r,l,0=>rfl
 |p::r,l,k+1=>by rw[tls,yr,yr,tls,j8 r]
theorem Walk.at(w:Walk ks l r e):∀{k:Nat} {t:Int×Int×List Int},(tls l r)[k]?=aa t -> ∃(m:List Int) (p:Nat),Walk ks l (r.take k) m/\p+1<ks.length/\t=(m.getD p 0,m.getD (p+1) 0,m.take p):=by
 induction w with
 |nil l=>intro k t h;simp[tls] at h
 | @cons l e r p a b w ih=>
  intro k t h;rw[tls,br] at h;cases k with
  |zero=>
   simp only[qj,jd] at h;exact⟨l,p,.nil _,a,h.symm⟩
  |succ k=>
   rw[va] at h;obtain⟨m,q,w1,hq,et⟩:=ih h;exact⟨m,q,.cons a b w1,hq,et⟩
theorem Km{b:Int}(P:Pt n m)(hp:p+1<n):b∈m.take p ↔ Bf m b (m.getD p 0):=by
 have hl:=P.len;constructor
 ·intro h;obtain⟨i,hi,e⟩:=cp.mp h;rw[ef] at hi;refine⟨i,p,⋯,⋯,?_,rfl⟩;rw[fq] at e;simp[df,show i<m.length by right,e]
 ·rintro⟨i,j,a,b',c,d⟩;have:=P.inj j p ⋯ ⋯ d;subst this;refine cp.mpr ⟨i,by rw[ef];right,?_⟩;rw[fq];simpa [df,show i<m.length by right] using c
end Fl
set_option maxHeartbeats 8000000
namespace Fl
variable {y v a b:Int}{m r e:List Int}
noncomputable def tm(ks r:List Int)(x y:Int):Nat:=(tls (ids ks.length) r).findIdx λt=>decide (t.1=x/\t.2.1=y)
noncomputable def gO(ks:List Int):Prop:=∀a b:Int,0<=a->a<=b->b<ks.length->kd ks a<=kd ks b
theorem Nk(x y:Int):tm ks r x y<=r.length:=by
 have:=List.findIdx_le_length (p:=λt:Int×Int×List Int=>decide (t.1=x/\t.2.1=y)) (xs:=tls (ids ks.length) r);rwa[i9] at this
theorem Ao{x:Int}(h:tm ks r x y<r.length):∃t,(tls (ids ks.length) r)[tm ks r x y]?=aa t/\t.1=x/\t.2.1=y:=by
 have hl:tm ks r x y<(tls (ids ks.length) r).length:=by rw[i9];exact h
 have:=List.findIdx_getElem (w:=hl);exact⟨_,au hl,(of_decide_eq_true this).1,(of_decide_eq_true this).2⟩
theorem La{x:Int}{t:Int×Int×List Int}(h:t∈tls (ids ks.length) r)(e1:t.1=x)(e2:t.2.1=y):tm ks r x y<r.length:=by
 have:=List.findIdx_lt_length_of_exists (p:=λt:Int×Int×List Int=>decide (t.1=x/\t.2.1=y)) ⟨t,h,decide_eq_true ⟨e1,e2⟩⟩;rwa[i9] at this
theorem Walk.sw_iff(w:Walk ks (ids ks.length) r e){k:Nat}(w1:Walk ks (ids ks.length) (r.take k) m)(hk:k<=r.length){u:Int}(h0:0<=u)(huv:u<v)(hv:v<ks.length):Bf m v u ↔ tm ks r u v<k:=by
 have P:=Pt.ids ks.length;have P1:=w1.pt P;constructor
 ·intro h;rcases w1.or P (tE h0 huv hv) with⟨t,ht,e1,e2⟩ | q
  ·rw[<- j8] at ht;obtain⟨i,hi,gi⟩:=cp.mp ht;rw[ef] at hi;have hi2:i<(tls (ids ks.length) r).length:=⋯;rw[fq] at gi;apply yf _ (show i<k by right);apply ng;intro z;have:=List.not_of_lt_findIdx z;rw[gi] at this;rw[decide_eq_true (show t.1=u/\t.2.1=v from⟨e1,e2⟩)] at this;cases this
  ·exact(q.anti P1 h).elim
 ·intro h;obtain⟨t,ht,e1,e2⟩:=Ao (ks:=ks) (r:=r) (x:=u) (y:=v) ⋯;have hm:t∈tls (ids ks.length) (r.take k):=by
   rw[<- j8];obtain⟨lz,gz⟩:=cg.mp ht;exact cp.mpr ⟨tm ks r u v,by rw[ef];right,by rw[fq];exact gz⟩
  have:=(w1.key P hm).2.2;rwa[e1,e2] at this
theorem Walk.tm_lt(w:Walk ks (ids ks.length) r e)(d:eV ks e){x:Int}(h0:0<=x)(hxy:x<y)(hy:y<ks.length)(hk:kd ks x<kd ks y):tm ks r x y<r.length:=by
 obtain⟨t,ht,e1,e2⟩:=w.all (Pt.ids _) d hk (tE h0 hxy hy);exact La ht e1 e2
theorem Walk.tm_alike(w:Walk ks (ids ks.length) r e){x:Int}(hk:¬kd ks x<kd ks y):tm ks r x y=r.length:=by
 apply Nat.le_antisymm (Nk x y);apply ng;intro z;obtain⟨t,ht,e1,e2⟩:=Ao z;have:=(w.key (Pt.ids _) (fh ht)).2.1;rw[e1,e2] at this;exact hk this
theorem Df{x u:Int}(h:tm ks r x y<r.length)(e:tm ks r x y=tm ks r u v):x=u/\y=v:=by
 obtain⟨t,ht,e1,e2⟩:=Ao h;obtain⟨t',ht',e1',e2'⟩:=Ao (ks:=ks) (r:=r) (x:=u) (y:=v) ⋯;rw[e,ht'] at ht;cases ht;exact⟨e1.symm.trans e1',e2.symm.trans e2'⟩
theorem Walk.tile(w:Walk ks (ids ks.length) r e){x:Int}(h:tm ks r x y<r.length):∃(m:List Int) (p:Nat),Walk ks (ids ks.length) (r.take (tm ks r x y)) m/\Pt ks.length m/\p+1<ks.length/\m.getD p 0=x/\m.getD (p+1) 0=y/\(tls (ids ks.length) r)[tm ks r x y]?=aa (x,y,m.take p):=by
 obtain⟨t,ht,e1,e2⟩:=Ao h;obtain⟨m,p,w1,hp,et⟩:=w.at ht;subst et;dsimp only at e1 e2;exact⟨m,p,w1,w1.pt (Pt.ids _),hp,e1,e2,by rw[ht,e1,e2]⟩
theorem Walk.tri(w:Walk ks (ids ks.length) r e)(d:eV ks e)(mo:gO ks){c:Int}(h0:0<=a)(hab:a<b)(hbc:b<c)(hc:c<ks.length)(hk:kd ks a≠kd ks c):
  (tm ks r a b<tm ks r a c/\tm ks r a c<tm ks r b c) \/ (tm ks r b c<tm ks r a c/\tm ks r a c<tm ks r a b):=by
 have m1:=mo a c h0 ⋯ hc;have hl:=w.tm_lt d h0 (show a<c by right) hc ⋯;obtain⟨m,p,w1,P1,hp,ea,ec,_⟩:=w.tile hl;have lm:=P1.len;have near:Bf m a c:=by rw[<- ea,<- ec];exact Bf.near ⋯
 have n1:tm ks r a b≠tm ks r a c:=λz=>by have:=Df hl z.symm;right
 have n2:tm ks r b c≠tm ks r a c:=λz=>by have:=Df hl z.symm;right
 rcases Bf.tot P1 (x:=b) (y:=a) ⋯ ⋯ h0 ⋯ ⋯ with h | h
 ·have i1:=(w.sw_iff w1 ⋯ h0 hab ⋯).mp h;have bc:Bf m b c:=by
   obtain⟨x1,x2,q1,q2,q3,q4⟩:=h;obtain⟨y1,y2,p1,p2,p3,p4⟩:=near;have:=P1.inj x2 y1 ⋯ ⋯ (q4.trans p3.symm);exact⟨x1,y2,⋯,p2,q3,p4⟩
  have i2:¬tm ks r b c<tm ks r a c:=λz=>bc.anti P1 ((w.sw_iff w1 ⋯ ⋯ hbc hc).mpr z);exact .inl ⟨i1,⋯⟩
 ·have cb:Bf m c b:=by
   obtain⟨x1,x2,q1,q2,q3,q4⟩:=h;have z1:=P1.inj x1 p ⋯ ⋯ (q3.trans ea.symm);have z2:x2≠p+1:=λz=>by rw[z,ec] at q4;right
   exact⟨p+1,x2,⋯,q2,ec,q4⟩
  have i1:=(w.sw_iff w1 ⋯ ⋯ hbc hc).mp cb;have i2:¬tm ks r a b<tm ks r a c:=λz=>h.anti P1 ((w.sw_iff w1 ⋯ h0 hab ⋯).mpr z);exact .inr ⟨i1,⋯⟩
theorem Walk.under(w:Walk ks (ids ks.length) r e){x:Int}(h0:0<=x)(hxy:x<y)(hy:y<ks.length)(h:tm ks r x y<r.length):∃pre:List Int,(tls (ids ks.length) r)[tm ks r x y]?=aa (x,y,pre)/\pre.Nodup /\
  ∀z:Int,z∈pre ↔ 0<=z/\z<ks.length/\z≠x/\z≠y/\((z<x/\tm ks r x y<tm ks r z x) \/ (x<z/\tm ks r x z<tm ks r x y)):=by
 obtain⟨m,p,w1,P1,hp,ea,ec,g⟩:=w.tile h;have lm:=P1.len;have nd:m.Nodup:=da.mpr λi j hi hj hij z=>by
  have:=P1.inj i j ⋯ ⋯ (by simp only[df,au hi,au hj,YO];exact z);right
 refine⟨m.take p,g,nd.sublist (zi _ _),λz=>?_⟩;rw[Km P1 hp,ea];constructor
 ·intro hb;obtain⟨i,j,q1,q2,q3,q4⟩:=id hb;have hi:=P1.bd i ⋯;rw[q3] at hi;have zx:z≠x:=λe=>by
   have:=P1.inj i j ⋯ ⋯ (by rw[q3,q4];exact e);right
  have jp:=P1.inj j p ⋯ ⋯ (by rw[q4,ea]);have zy:z≠y:=λe=>by
   have:=P1.inj i (p+1) ⋯ ⋯ (by rw[q3,ec];exact e);right
  refine⟨hi.1,⋯,zx,zy,?_⟩;rcases WG zx with q | q
  ·refine .inl ⟨q,?_⟩;have n1:¬tm ks r z x<tm ks r x y:=λc=>hb.anti P1 ((w.sw_iff w1 ⋯ hi.1 q ⋯).mpr c);have n2:tm ks r z x≠tm ks r x y:=λc=>by have:=Df h c.symm;right
   right
  ·exact .inr ⟨q,(w.sw_iff w1 ⋯ h0 q ⋯).mp hb⟩
 ·rintro⟨z0,zn,zx,zy,q | q⟩
  ·rcases Bf.tot P1 (x:=z) (y:=x) z0 ⋯ h0 ⋯ zx with c | c
   ·exact c
   ·have:=(w.sw_iff w1 ⋯ z0 q.1 ⋯).mp c;right
  ·exact(w.sw_iff w1 ⋯ h0 q.1 ⋯).mpr q.2
structure Tms(n:Nat)(kk:Int->Int)(T:Int->Int->Nat)(L:Nat):Prop where
 mono:∀a b:Int,0<=a->a<=b->b<n->kk a<=kk b
 lt:∀a b:Int,0<=a->a<b->b<n->kk a<kk b->T a b<L
 al:∀a b:Int,¬kk a<kk b->T a b=L
 ne:∀a b c d:Int,T a b<L->T a b=T c d->a=c/\b=d
 tri:∀a b c:Int,0<=a->a<b->b<c->c<n->kk a≠kk c->(T a b<T a c/\T a c<T b c) \/ (T b c<T a c/\T a c<T a b)
theorem Walk.tms(w:Walk ks (ids ks.length) r e)(d:eV ks e)(mo:gO ks):Tms ks.length (kd ks) (tm ks r) r.length:=
 ⟨mo,λa b h0 h1 h2 h3=>w.tm_lt d h0 h1 h2 h3,λa b h=>w.tm_alike h,λa b c d h e=>Df h e,λa b c h0 h1 h2 h3 h4=>w.tri d mo h0 h1 h2 h3 h4⟩
section
variable {L:Nat}{kk:Int->Int}{T:Int->Int->Nat}
end
noncomputable def srt(l:List Int):List Int:=l.mergeSort λa b=>decide (a<=b)
theorem j9(l:List Int):(srt l).Perm l:=Wm l _
theorem GH(l:List Int):(srt l).Pairwise (· <= ·):=by
 have:=Vi (le:=λa b:Int=>decide (a<=b)) (λa b c h1 h2=>by simp at *;right) (λa b=>by simp;right) l;exact this.imp λh=>of_decide_eq_true h
theorem Dd:∀{l m:List Int},l.Perm m->l.Pairwise (· <= ·)->m.Pairwise (· <= ·)->l=m
 | [],m,p,_,_=>(List.nil_perm.mp p).symm
 |x::l,[],p,_,_=>by have:=p.length_eq;simp at this
 |x::l,y::m,p,h1,h2=>by
  obtain⟨a1,a2⟩:=iz.mp h1;obtain⟨b1,b2⟩:=iz.mp h2;have e:x=y:=by
   have i1:x∈y::m:=p.mem_iff.mp (dk ..);have i2:y∈x::l:=p.mem_iff.mpr (dk ..);rcases dm.mp i1 with z | z
   ·exact z
   ·rcases dm.mp i2 with q | q
    ·exact q.symm
    ·have:=b1 x z;have:=a1 y q;right
  subst e;rw[Dd (List.perm_cons _ |>.mp p) a2 b2]
theorem jW(p:m.Perm l)(h:m.Pairwise (· <= ·)):m=srt l:=Dd (p.trans (j9 l).symm) h (GH l)
theorem Cf(p:l.Perm m):srt l=srt m:=jW ((j9 l).trans p) (GH l)
theorem Di(l:List Int):(srt l).length=l.length:=(j9 l).length_eq
variable {p:Nat}{z:Int}
section
variable {R S cur:List Int}
theorem Bf.mem{x:Int}(h:Bf l x y)(hy:p<l.length)(ey:l.getD p 0=y)(P:Pt n l):x∈l.take p:=by
 obtain⟨i,j,a,b,c,d⟩:=h;have hl:=P.len;have:=P.inj j p ⋯ ⋯ (d.trans ey.symm);subst this;rw[cp];refine⟨i,by rw[ef];right,?_⟩;rw[fq,<- c];simp[df,show i<l.length by right]
theorem vX{x:Int}(hp:p<l.length)(h:x∈l.take p):Bf l x (l.getD p 0):=by
 obtain⟨i,hi,e⟩:=cp.mp h;rw[ef] at hi;rw[fq] at e;exact⟨i,p,⋯,hp,by rw[<- e];simp[df,show i<l.length by right],rfl⟩
theorem Bf.tr{x:Int}(P:Pt n l)(h:Bf l x y)(k:Bf l y z):Bf l x z:=by
 obtain⟨i,j,a,b,c,d⟩:=h;obtain⟨i',j',a',b',c',d'⟩:=k;have hl:=P.len;have:=P.inj j i' ⋯ ⋯ (d.trans c'.symm);exact⟨i,j',⋯,b',c,d'⟩
theorem Bf.ne{x:Int}(P:Pt n l)(h:Bf l x y):x≠y:=λz=>by
 obtain⟨i,j,a,b,c,d⟩:=h;have hl:=P.len;have:=P.inj i j ⋯ ⋯ (c.trans (z.trans d.symm));right
theorem Bf.bd{l:List Int}{x y:Int}{n:Nat}(P:Pt n l)(h:Bf l x y):(0<=x/\x<n)/\0<=y/\y<n:=by
 obtain⟨i,j,a,b,rfl,rfl⟩:=h;have hl:=P.len;exact⟨P.bd i ⋯,P.bd j ⋯⟩
theorem Iv{k:Nat}{t:Int×Int×List Int}(h:t∈tls l (R.take k)):t∈tls l R:=by
 rw[<- j8] at h;exact rm h
theorem Walk.ahead(v:Walk ks (ids ks.length) S cur)(h:Bf (ids ks.length) a b)(no:¬ ∃t∈tls (ids ks.length) S,t.1=a/\t.2.1=b){t:Int×Int×List Int}(ht:(tls (ids ks.length) S)[i]?=aa t):
  ∃(c:List Int) (q:Nat),Pt ks.length c/\q+1<ks.length/\t=(c.getD q 0,c.getD (q+1) 0,c.take q)/\Bf c a b:=by
 obtain⟨c,q,wc,hq,e⟩:=v.at ht;refine⟨c,q,wc.pt (Pt.ids _),hq,e,?_⟩;rcases wc.or (Pt.ids _) h with⟨u,hu,z⟩ | z
 ·exact(no ⟨u,Iv hu,z⟩).elim
 ·exact z
theorem Walk.behind(w:Walk ks (ids ks.length) R e){k j:Nat}{u t:Int×Int×List Int}(hu:(tls (ids ks.length) R)[k]?=aa u)(ht:(tls (ids ks.length) R)[j]?=aa t)(kj:k<j):
  ∃(c:List Int) (q:Nat),Pt ks.length c/\q+1<ks.length/\t=(c.getD q 0,c.getD (q+1) 0,c.take q)/\Bf c u.2.1 u.1:=by
 obtain⟨c,q,wc,hq,ee⟩:=w.at ht;refine⟨c,q,wc.pt (Pt.ids _),hq,ee,?_⟩;refine(wc.key (Pt.ids _) (t:=u) ?_).2.2;rw[<- j8];obtain⟨hk,e2⟩:=cg.mp hu;rw[cp];exact⟨k,by rw[ef];right,by rw[fq];exact e2⟩
theorem greedy(w:Walk ks (ids ks.length) R e)(d:eV ks e)(v:Walk ks (ids ks.length) S cur)(sub:∀t∈tls (ids ks.length) S,∃u∈tls (ids ks.length) R,u.1=t.1/\u.2.1=t.2.1/\u.2.2.Perm t.2.2)(nd:¬eV ks cur):
  ∃i,i+1<ks.length /\ ∃u∈tls (ids ks.length) R,u.1=cur.getD i 0/\u.2.1=cur.getD (i+1) 0/\u.2.2.Perm (cur.take i):=by
 have Pc:=v.pt (Pt.ids _);have lc:=Pc.len;have ex:∃k:Nat,∃u:Int×Int×List Int,(tls (ids ks.length) R)[k]?=aa u /\ ¬ ∃t∈tls (ids ks.length) S,t.1=u.1/\t.2.1=u.2.1:=by
  have:∃p,p+1<ks.length/\kd ks (cur.getD p 0)<kd ks (cur.getD (p+1) 0):=by
   apply oq;intro z;exact nd λp hp=>Int.not_lt.mp λq=>z ⟨p,hp,q⟩
  obtain⟨p,hp,hk⟩:=this;have near:Bf cur (cur.getD p 0) (cur.getD (p+1) 0):=Bf.near ⋯;have b1:=Pc.bd p ⋯;have b2:=Pc.bd (p+1) ⋯;have bi:Bf (ids ks.length) (cur.getD p 0) (cur.getD (p+1) 0):=by
   rcases Bf.tot (Pt.ids ks.length) b1.1 b1.2 b2.1 b2.2 (near.ne Pc) with z | z
   ·exact z
   ·exact(near.anti Pc (v.stay (Pt.ids _) (Vx hk) z)).elim
  obtain⟨u,hu,e1,e2⟩:=w.all (Pt.ids _) d hk bi;obtain⟨k,hk',ek⟩:=cp.mp hu;refine⟨k,u,by rw[au hk',ek],λ⟨t,ht,f1,f2⟩=>?_⟩;have:=(v.key (Pt.ids _) ht).2.2;rw[f1,f2,e1,e2] at this;exact near.anti Pc this
 obtain⟨k,⟨u,hu,no⟩,least⟩:∃k:Nat,(∃u:Int×Int×List Int,(tls (ids ks.length) R)[k]?=aa u /\ ¬ ∃t∈tls (ids ks.length) S,t.1=u.1/\t.2.1=u.2.1) /\ ∀j:Nat,j<k -> ¬ ∃u:Int×Int×List Int,(tls (ids ks.length) R)[j]?=aa u /\ ¬ ∃t∈tls (ids ks.length) S,t.1=u.1/\t.2.1=u.2.1:=by
  obtain⟨k,hk⟩:=ex;induction k using Nat.strongRecOn with
  |ind k ih=>
   by_cases z:∃j:Nat,j<k /\ ∃u:Int×Int×List Int,(tls (ids ks.length) R)[j]?=aa u /\ ¬ ∃t∈tls (ids ks.length) S,t.1=u.1/\t.2.1=u.2.1
   ·obtain⟨j,hj,hh⟩:=z;exact ih j hj hh
   ·exact⟨k,hk,λj hj hh=>z ⟨j,hj,hh⟩⟩
 obtain⟨m,p,wm,hp,eu⟩:=w.at hu;have Pm:=wm.pt (Pt.ids _);have lm:=Pm.len;have um:u∈tls (ids ks.length) R:=fh hu;obtain⟨bab,kab,_⟩:=w.key (Pt.ids _) um;have early:∀t∈tls (ids ks.length) (R.take k),∃s∈tls (ids ks.length) S,s.1=t.1/\s.2.1=t.2.1:=by
  intro t ht;rw[<- j8] at ht;obtain⟨j,hj,ej⟩:=cp.mp ht;rw[ef] at hj;rw[fq] at ej;apply oq;intro z;exact least j ⋯ ⟨t,by rw[au ⋯,ej],z⟩
 have ea:u.1=m.getD p 0:=by rw[eu]
 have eb:u.2.1=m.getD (p+1) 0:=by rw[eu]
 have eB:u.2.2=m.take p:=by rw[eu]
 have mab:Bf m u.1 u.2.1:=by rw[ea,eb];exact Bf.near ⋯
 have cab:Bf cur u.1 u.2.1:=by
  rcases v.or (Pt.ids _) bab with z | z
  ·exact(no z).elim
  ·exact z
 have low:∀z,Bf m z u.1->Bf cur z u.1:=by
  intro z hz;obtain⟨z0,a0⟩:=hz.bd Pm;rcases Bf.tot (Pt.ids ks.length) z0.1 z0.2 a0.1 a0.2 (hz.ne Pm) with q | q
  ·rcases v.or (Pt.ids _) q with⟨t,ht,t1,t2⟩ | q'
   ·exfalso;obtain⟨r,hr,r1,r2,rp⟩:=sub t ht;obtain⟨j,hj,ej⟩:=cp.mp hr;have hrj:(tls (ids ks.length) R)[j]?=aa r:=by rw[au hj,ej]
    obtain⟨i,hi,ei⟩:=cp.mp ht;have hti:(tls (ids ks.length) S)[i]?=aa t:=by rw[au hi,ei]
    have kj:k<j:=by
     rcases sd j k with h | h | h
     ·exfalso;have:r∈tls (ids ks.length) (R.take k):=by
       rw[<- j8,cp];exact⟨j,by rw[ef];right,by rw[fq];exact ej⟩
      have:=(wm.key (Pt.ids _) this).2.2;rw[r1,r2,t1,t2] at this;exact this.anti Pm hz
     ·exfalso;subst h;rw[hrj] at hu;cases hu;exact hz.ne Pm (t1.symm.trans r1.symm)
     ·exact h
    obtain⟨c,q,P1,hq,e1,b1⟩:=w.behind hu hrj kj;obtain⟨c',q',P2,hq',e2,b2⟩:=v.ahead bab no hti;have l1:=P1.len;have l2:=P2.len;have ra:c.getD (q+1) 0=u.1:=by have:=r2.trans t2;rw[e1] at this;exact this
    have ta:c'.getD (q'+1) 0=u.1:=by have:=t2;rw[e2] at this;exact this
    have rz:c.getD q 0=z:=by have:=r1.trans t1;rw[e1] at this;exact this
    have tz:c'.getD q' 0=z:=by have:=t1;rw[e2] at this;exact this
    have m1:u.2.1∈c.take (q+1):=b1.mem ⋯ ra P1;have nz:u.2.1≠z:=λy=>by
     have:Bf m u.2.1 u.1:=by rw[y];exact hz
     exact this.anti Pm mab
    have m2:u.2.1∈c.take q:=by
     obtain⟨x,hx,ex⟩:=cp.mp m1;rw[ef] at hx;rw[fq] at ex;have:x≠q:=λy=>by
      subst y;refine nz ?_;rw[<- ex,<- rz];simp[df,show x<c.length by right]
     rw[cp];exact⟨x,by rw[ef];right,by rw[fq];exact ex⟩
    have m3:u.2.1∈c'.take q':=by
     have:r.2.2=c.take q:=by rw[e1]
     rw[<- this] at m2;have:=rp.mem_iff.mp m2;rw[e2] at this;exact this
    have b3:Bf c' u.2.1 u.1:=by
     have:=vX (l:=c') ⋯ m3;rw[tz] at this;refine this.tr P2 ?_;rw[<- tz,<- ta];exact Bf.near ⋯
    exact b3.anti P2 b2
   ·exact q'
  ·rcases wm.or (Pt.ids _) q with⟨t,ht,t1,t2⟩ | q'
   ·obtain⟨s,hs,s1,s2⟩:=early t ht;have:=(v.key (Pt.ids _) hs).2.2;rw[s1,s2,t1,t2] at this;exact this
   ·exact(q'.anti Pm hz).elim
 have high:∀z,Bf m u.2.1 z->Bf cur u.2.1 z:=by
  intro z hz;obtain⟨a0,z0⟩:=hz.bd Pm;rcases Bf.tot (Pt.ids ks.length) a0.1 a0.2 z0.1 z0.2 (hz.ne Pm) with q | q
  ·rcases v.or (Pt.ids _) q with⟨t,ht,t1,t2⟩ | q'
   ·exfalso;obtain⟨r,hr,r1,r2,rp⟩:=sub t ht;obtain⟨j,hj,ej⟩:=cp.mp hr;have hrj:(tls (ids ks.length) R)[j]?=aa r:=by rw[au hj,ej]
    obtain⟨i,hi,ei⟩:=cp.mp ht;have hti:(tls (ids ks.length) S)[i]?=aa t:=by rw[au hi,ei]
    have kj:k<j:=by
     rcases sd j k with h | h | h
     ·exfalso;have:r∈tls (ids ks.length) (R.take k):=by
       rw[<- j8,cp];exact⟨j,by rw[ef];right,by rw[fq];exact ej⟩
      have:=(wm.key (Pt.ids _) this).2.2;rw[r1,r2,t1,t2] at this;exact this.anti Pm hz
     ·exfalso;subst h;rw[hrj] at hu;cases hu;exact mab.ne Pm (r1.trans t1)
     ·exact h
    obtain⟨c,q,P1,hq,e1,b1⟩:=w.behind hu hrj kj;obtain⟨c',q',P2,hq',e2,b2⟩:=v.ahead bab no hti;have l1:=P1.len;have l2:=P2.len;have rb:c.getD q 0=u.2.1:=by have:=r1.trans t1;rw[e1] at this;exact this
    have tb:c'.getD q' 0=u.2.1:=by have:=t1;rw[e2] at this;exact this
    have m3:u.1∈c'.take q':=b2.mem ⋯ tb P2;have m2:u.1∈c.take q:=by
     have e3:r.2.2=c.take q:=by rw[e1]
     rw[<- e3];refine rp.mem_iff.mpr ?_;rw[e2];exact m3
    have b3:=vX (l:=c) ⋯ m2;rw[rb] at b3;exact b3.anti P1 b1
   ·exact q'
  ·rcases wm.or (Pt.ids _) q with⟨t,ht,t1,t2⟩ | q'
   ·obtain⟨s,hs,s1,s2⟩:=early t ht;have:=(v.key (Pt.ids _) hs).2.2;rw[s1,s2,t1,t2] at this;exact this
   ·exact(q'.anti Pm hz).elim
 obtain⟨i,j,ij,hj,ei,ejb⟩:=cab;have cab:Bf cur u.1 u.2.1:=⟨i,j,ij,hj,ei,ejb⟩;have side:∀z:Int,0<=z->z<ks.length->z≠u.1->z≠u.2.1->Bf m z u.1 \/ Bf m u.2.1 z:=by
  intro z h0 h1 n1 n2;obtain⟨x,hx,ex⟩:=Pm.sur z h0 h1;rcases W9 x p with q | q
  ·exact .inl ⟨x,p,q,⋯,ex,ea.symm⟩
  ·have x1:x≠p:=λy=>n1 (by rw[<- ex,y,ea]);have x2:x≠p+1:=λy=>n2 (by rw[<- ex,y,eb]);exact .inr ⟨p+1,x,⋯,⋯,eb.symm,ex⟩
 have jn:j=i+1:=by
  apply oq;intro ne;have bd:=Pc.bd (i+1) ⋯;have n1:cur.getD (i+1) 0≠u.1:=λy=>by have:=Pc.inj (i+1) i ⋯ ⋯ (y.trans ei.symm);right
  have n2:cur.getD (i+1) 0≠u.2.1:=λy=>by have:=Pc.inj (i+1) j ⋯ ⋯ (y.trans ejb.symm);right
  rcases side _ bd.1 bd.2 n1 n2 with q | q
  ·exact(low _ q).anti Pc ⟨i,i+1,⋯,⋯,ei,rfl⟩
  ·exact(high _ q).anti Pc ⟨i+1,j,⋯,⋯,rfl,ejb⟩
 subst jn;refine⟨i,⋯,u,um,ei.symm,ejb.symm,?_⟩;have nd1:∀{l:List Int},Pt ks.length l -> ∀p,(l.take p).Nodup:=λ{l} P p=>by
  have hl:=P.len;rw[oa,da];intro x y hx hy xy z;rw[ef] at hx hy;rw[fq,fq] at z;have:=P.inj x y ⋯ ⋯ (by simp only[df];rw[au ⋯,au ⋯,z]);right
 rw[eB];refine(yt (nd1 Pm p) (nd1 Pc i)).mpr λz=>⟨λh=>?_,λh=>?_⟩
 ·have:=vX (l:=m) ⋯ h;rw[<- ea] at this;exact(low z this).mem ⋯ ei Pc
 ·have hz:=vX (l:=cur) ⋯ h;rw[ei] at hz;obtain⟨z0,_⟩:=hz.bd Pc;have n2:z≠u.2.1:=λy=>by rw[y] at hz;exact hz.anti Pc cab
  rcases side z z0.1 z0.2 (hz.ne Pc) n2 with q | q
  ·exact q.mem ⋯ ea.symm Pm
  ·exact((cab.tr Pc (high z q)).anti Pc hz).elim
end
noncomputable abbrev Ti:=Int×Int×List Int
noncomputable def tS(t:Ti):Ti:=(t.1,t.2.1,srt t.2.2)
noncomputable def g6(l row:List Int):List Ti:=(tls l row).map tS
noncomputable abbrev pos(t:Ti):Int:=t.2.2.length
theorem JS(w:Walk ks l r e)(P:Pt ks.length l):(g6 l r).map pos=r:=by
 induction w with
 |nil l=>rfl
 | @cons l e r p a b w ih=>
  have hl:=P.len;unfold g6 at ih ⊢;rw[tls,de,de,br,ih (P.swap a)];show ((srt (l.take p)).length:Int)::r=_;rw[Di,ef,pi ⋯]
theorem Bm(h:l.length=m.length)(k:∀i,i<l.length->l.getD i 0=m.getD i 0):l=m:=by
 apply List.ext_getElem h;intro i h1 h2;have:=k i h1;simpa [df,h1,h2] using this
theorem uQ(hp:p+1<l.length)(hi:i<l.length)(h1:i≠p)(h2:i≠p+1):(aP l p).getD i 0=l.getD i 0:=by
 rw[Fl.cG hp hi,Zg h2,Zg h1]
variable {q:Nat}
theorem Bx(hp:p+1<l.length)(hq:q+1<l.length)(h:p+2<=q \/ q+2<=p):aP (aP l p) q=aP (aP l q) p:=by
 have e1:=Fl.eX hp;have e2:=Fl.eX hq;have e3:=Fl.eX (l:=aP l p) (p:=q) ⋯;have e4:=Fl.eX (l:=aP l q) (p:=p) ⋯;refine Bm ⋯ λi hi=>?_;rw[Fl.cG ⋯ ⋯,Fl.cG (l:=aP l q) ⋯ ⋯,Fl.cG hp ⋯,Fl.cG hp ⋯,Fl.cG hp ⋯,Fl.cG hq ⋯,Fl.cG hq ⋯,Fl.cG hq ⋯]
 (repeat' split)<;>first | rfl | right
theorem Ed(hp:p+1<l.length):(aP l p).Perm l:=by
 have e:=Fl.vA hp;have q:(l.take p++(l.getD (p+1) 0::l.getD p 0::l.drop (p+2))).Perm (l.take p++(l.getD p 0::l.getD (p+1) 0::l.drop (p+2))):=(List.Perm.swap _ _ _).append_left _;rw[<- e] at q;unfold aP;simpa using q
theorem Bw(hp:p+1<l.length)(hq:q+1<l.length)(h:p+2<=q \/ q+2<=p):srt ((aP l p).take q)=srt (l.take q):=by
 rcases h with h | h
 ·have:(aP l p).take q=aP (l.take q) p:=by
   have e1:=Fl.eX hp;have e2:(l.take q).length=q:=by simp;right
   have e3:=Fl.eX (l:=l.take q) (p:=p) ⋯;have gt:∀(m:List Int) i,i<q->(m.take q).getD i 0=m.getD i 0:=λm i hi=>by simp[df,ie hi]
   refine Bm (by simp;right) λi hi=>?_;have hi':i<q:=by simp at hi;right
   rw[gt _ _ hi',Fl.cG hp ⋯,Fl.cG ⋯ ⋯,gt _ _ ⋯,gt _ _ ⋯,gt _ _ hi']
  rw[this];exact Cf (Ed (by simp;right))
 ·have:(aP l p).take q=l.take q:=by
   unfold aP;rw[dw,qy (by simp;right),List.take_take,pi ⋯]
  rw[this]
theorem Pk{p q:Int}(w:Walk ks l (p::q::r) e)(P:Pt ks.length l)(h:p+2<=q \/ q+2<=p):
  Walk ks l (q::p::r) e /\ ∃t u B,g6 l (p::q::r)=t::u::B/\g6 l (q::p::r)=u::t::B:=by
 have hl:=P.len;cases w with
 | @cons _ _ _ p a b w=>
  cases w with
  | @cons _ _ _ q a' b' w=>
   have f:p+2<=q \/ q+2<=p:=⋯;have f':q+2<=p \/ p+2<=q:=⋯;have g1:=uQ (l:=l) (p:=p) (i:=q) ⋯ ⋯ ⋯ ⋯;have g2:=uQ (l:=l) (p:=p) (i:=q+1) ⋯ ⋯ ⋯ ⋯;have g3:=uQ (l:=l) (p:=q) (i:=p) ⋯ ⋯ ⋯ ⋯;have g4:=uQ (l:=l) (p:=q) (i:=p+1) ⋯ ⋯ ⋯ ⋯;rw[Bx ⋯ ⋯ f] at w;rw[g1,g2] at b';refine⟨.cons a' b' (.cons a (by rw[g3,g4];exact b) w),tS (l.getD p 0,l.getD (p+1) 0,l.take p),tS (l.getD q 0,l.getD (q+1) 0,l.take q),g6 (aP (aP l q) p) r,?_,?_⟩
   ·unfold g6;simp only[tls,br,de,g1,g2,tS,Bw (l:=l) (p:=p) (q:=q) ⋯ ⋯ f,Bx (l:=l) (p:=p) (q:=q) ⋯ ⋯ f]
   ·unfold g6;simp only[tls,br,de,g3,g4,tS,Bw (l:=l) (p:=q) (q:=p) ⋯ ⋯ f']
theorem Pj:∀(A:List Ti) {u t:Ti} {B:List Ti} {l r e:List Int},Walk ks l r e->Pt ks.length l->g6 l r=A++u::t::B->(pos u+2<=pos t \/ pos t+2<=pos u) -> ∃r',Walk ks l r' e/\g6 l r'=A++t::u::B:=by
 intro A;induction A with
 |nil=>
  intro u t B l r e w P h f;have pr:=JS w P;rw[h] at pr;simp only[gw,de] at pr h;rw[<- pr] at w h;obtain⟨w',x,y,B',e1,e2⟩:=Pk w P f;rw[h] at e1;injection e1 with e3 e4;injection e4 with e4 e5;subst e3 e4 e5;exact⟨_,w',e2⟩
 |cons a A ih=>
  intro u t B l r e w P h f;cases w with
  |nil l=>simp[g6,tls] at h
  | @cons l e r p a1 b1 w=>
   unfold g6 at h;rw[tls,de,kf] at h;injection h with h1 h2;rw[br] at h2;obtain⟨r',w',e'⟩:=ih w (P.swap a1) h2 f;refine⟨(p:Int)::r',.cons a1 b1 w',?_⟩;unfold g6 at e' ⊢;rw[tls,de,br,e',<- h1,br];rfl
theorem sH{x:Int}:x∈srt l ↔ x∈l:=(j9 l).mem_iff
theorem Ar(X:List Int)(a b:Int)(Y:List Int):aP (X++a::b::Y) X.length=X++b::a::Y:=by
 unfold aP;simp[df]
theorem uP(X:List Int)(a:Int)(Y:List Int):(X++a::Y).getD X.length 0=a:=by simp[df]
theorem Bt(X:List Int)(a b:Int)(Y:List Int):(X++a::b::Y).getD (X.length+1) 0=b:=by simp[df]
theorem Ph:∀(A:List Ti) {B:List Ti} {l r e:List Int},Walk ks l r e->Pt ks.length l->g6 l r=A++B -> ∃m r1 r2,Walk ks l r1 m/\Walk ks m r2 e/\Pt ks.length m/\g6 l r1=A/\g6 m r2=B:=by
 intro A;induction A with
 |nil=>exact λ{B l r e} w P h=>⟨l,[],r,.nil _,w,P,rfl,h⟩
 |cons a A ih=>
  intro B l r e w P h;cases w with
  |nil l=>simp[g6,tls] at h
  | @cons l e r p a1 b1 w=>
   unfold g6 at h;rw[tls,de,kf] at h;injection h with h1 h2;rw[br] at h2;obtain⟨m,r1,r2,w1,w2,Pm,e1,e2⟩:=ih w (P.swap a1) h2;refine⟨m,(p:Int)::r1,r2,.cons a1 b1 w1,w2,Pm,?_,e2⟩;unfold g6 at e1 ⊢;rw[tls,de,h1,br,e1]
theorem CY{r1:List Int}(w:Walk ks l r1 m)(r2:List Int):g6 l (r1++r2)=g6 l r1++g6 m r2:=by
 induction w with
 |nil l=>rfl
 | @cons l e r p a b w ih=>
  unfold g6 at ih ⊢;rw[kf,tls,tls,de,de,br,ih,kf]
variable {u:Ti}
theorem U7{Y:List Ti}(w:Walk ks l r e)(P:Pt ks.length l)(h:g6 l r=u::Y):∃(p:Nat) (r':List Int),r=(p:Int)::r'/\p+1<ks.length/\kd ks u.1<kd ks u.2.1/\l.getD p 0=u.1/\l.getD (p+1) 0=u.2.1/\srt (l.take p)=u.2.2/\p=u.2.2.length/\Walk ks (aP l p) r' e/\Pt ks.length (aP l p)/\g6 (aP l p) r'=Y:=by
 have hl:=P.len;cases w with
 |nil l=>simp[g6,tls] at h
 | @cons l e r p a b w=>
  unfold g6 at h;rw[tls,de,br] at h;injection h with h1 h2;subst h1;refine⟨p,r,rfl,a,b,rfl,rfl,rfl,?_,w,P.swap a,h2⟩;show p=(srt (l.take p)).length;rw[Di,ef];right
theorem v7(hp:p<l.length):l.take (p+1)=l.take p++[l.getD p 0]:=by
 rw[pz hp];simp[df,hp]
noncomputable def bar(p q r s:Bool):Prop:=(p≠q/\q≠r) \/ (p≠q/\r≠s) \/ (q≠r/\r≠s)
structure Cs(ks:List Int)(c:Int->Int->Int->Bool):Prop where
 fst:∀a b d:Int,0<=a->a<b->b<d->d<ks.length->kd ks a=kd ks b->c a b d=ao
 lst:∀a b d:Int,0<=a->a<b->b<d->d<ks.length->kd ks a≠kd ks b->kd ks b=kd ks d->c a b d=aj
 four:∀i j k l:Int,0<=i->i<j->j<k->k<l->l<ks.length->kd ks i≠kd ks k->kd ks j≠kd ks l -> ¬bar (c i j k) (c i j l) (c i k l) (c j k l)
noncomputable def isb(c:Int->Int->Int->Bool)(z x y:Int):Bool:=if z<x then !c z x y else if y<z then !c x y z else decide (x<z)&&decide (z<y)&&c x z y
noncomputable def LS(n:Nat)(c:Int->Int->Int->Bool)(t:Ti):Prop:=∀z:Int,0<=z->z<n->(z∈t.2.2 ↔ isb c z t.1 t.2.1=aj)
theorem gO.lt(mo:gO ks){x:Int}(h:kd ks x<kd ks y)(hy:0<=y)(hx:x<ks.length):x<y:=by
 rcases Int.lt_or_le x y with q | q
 ·exact q
 ·have:=mo y x hy q hx;right
variable {κ:Int}
theorem eE{x:Int}(h0:0<=x)(h1:x<ks.length):kd (ks++[κ]) x=kd ks x:=by
 unfold kd;have:x.toNat<ks.length:=⋯;simp[df,bh this,this]
theorem Hl:kd (ks++[κ]) (ks.length:Int)=κ:=by
 unfold kd;simp[df]
theorem N7{c:Int->Int->Int->Bool}(mo:gO (ks++[κ]))(C:Cs (ks++[κ]) c){A B:List Ti}{t:Ti}(w:Walk ks l r e)(P:Pt ks.length l)(h:g6 l r=A++t::u::B)(ft:LS ks.length c t)(fu:LS ks.length c u)(nt:c t.1 t.2.1 ks.length=ao)(yu:c u.1 u.2.1 ks.length=aj):pos t+2<=pos u \/ pos u+2<=pos t:=by
 obtain⟨m0,r0,q0,w0,v0,P0,e0,f0⟩:=Ph A w P h;obtain⟨p,q1,rfl,hp,k1,ga,gb,gS,sl,v1,P1,f1⟩:=U7 v0 P0 f0;obtain⟨q,q2,rfl,hq,k2,ga2,gb2,gS2,sl2,v2,P2,f2⟩:=U7 v1 P1 f1;obtain⟨a,b,S⟩:=t;obtain⟨a',b',S'⟩:=u;simp only at k1 ga gb gS sl k2 ga2 gb2 gS2 sl2 nt yu;have l0:=P0.len;have ba:=P0.bd p ⋯;have bb:=P0.bd (p+1) hp;rw[ga] at ba;rw[gb] at bb;have lab:(ks++[κ]).length=ks.length+1:=by simp
 have kn:kd (ks++[κ]) (ks.length:Int)=κ:=Hl;have ka:kd (ks++[κ]) a=kd ks a:=eE ba.1 ba.2;have kb:kd (ks++[κ]) b=kd ks b:=eE bb.1 bb.2;have ab:a<b:=mo.lt ⋯ bb.1 ⋯;have mb:=mo b ks.length bb.1 ⋯ ⋯;show (S.length:Int)+2<=S'.length \/ (S'.length:Int)+2<=S.length;rw[<- sl,<- sl2];rcases X4 (p+2<=q \/ q+2<=p) with z | z
 ·right
 exfalso;rcases(show q=p \/ q=p+1 \/ p=q+1 by right) with rfl | rfl | rfl
 ·rw[cG ⋯ ⋯,Zg ⋯,ZE rfl,gb] at ga2;rw[cG ⋯ ⋯,ZE rfl,ga] at gb2;rw[<- ga2,<- gb2] at k2;right
 ·have hb:b∈S':=by
   rw[<- gS2,sH,v7 (by rw[eX ⋯];right)];refine eh _ ?_;rw[cG ⋯ ⋯,Zg ⋯,ZE rfl,gb];exact fe.mpr rfl
  rw[cG ⋯ ⋯,ZE rfl,ga] at ga2;rw[cG ⋯ ⋯,Zg ⋯,Zg ⋯] at gb2;subst ga2;have bd:=P0.bd (p+1+1) ⋯;have nbd:b≠b':=λz=>by
   have:=P0.inj (p+1) (p+1+1) ⋯ ⋯ (by rw[gb,gb2];exact z);right
  rw[gb2] at bd;have kb':kd (ks++[κ]) b'=kd ks b':=eE bd.1 bd.2;have ab':a<b':=mo.lt ⋯ bd.1 ⋯;have i1:=(fu b bb.1 bb.2).mp hb;have mb':=mo b' ks.length bd.1 ⋯ ⋯;simp only[isb] at i1;rw[Zg ⋯] at i1;have nk:kd (ks++[κ]) b≠kd (ks++[κ]) ks.length:=λz=>by
   have:=C.lst a b ks.length ba.1 ab bb.2 ⋯ ⋯ z;rw[nt] at this;exact nomatch this
  by_cases z:b'<b
  ·rw[ZE z] at i1;have m2:=mo b' b bd.1 ⋯ ⋯;have f:=C.four a b' b ks.length ba.1 ab' z bb.2 ⋯ ⋯ ⋯;rw[nt,yu] at f;simp only[X5] at i1;rw[i1] at f;exact f (.inl ⟨by decide,by decide⟩)
  ·rw[Zg z] at i1;simp only[dt,decide_eq_true_eq] at i1;have f:=C.four a b b' ks.length ba.1 ab ⋯ bd.2 ⋯ ⋯ nk;rw[nt,yu,i1.2] at f;exact f (.inl ⟨by decide,by decide⟩)
 ·rw[cG ⋯ ⋯,Zg ⋯,Zg ⋯] at ga2;rw[cG ⋯ ⋯,Zg ⋯,ZE rfl,gb] at gb2;subst gb2;have hx:a'∈S:=by
   rw[<- gS,sH,v7 ⋯];refine eh _ ?_;rw[ga2];exact fe.mpr rfl
  have bx:=P0.bd q ⋯;rw[ga2] at bx;have nax:a'≠a:=λz=>by
   have:=P0.inj q (q+1) ⋯ ⋯ (by rw[ga,ga2];exact z);right
  have kx:kd (ks++[κ]) a'=kd ks a':=eE bx.1 bx.2;have xb:a'<b:=mo.lt ⋯ bb.1 ⋯;have i1:=(ft a' bx.1 bx.2).mp hx;simp only[isb] at i1;by_cases z:a'<a
  ·rw[ZE z] at i1;simp only[X5] at i1;have f:=C.four a' a b ks.length bx.1 z ab bb.2 ⋯ ⋯ ⋯;rw[nt,yu,i1] at f;revert f;cases c a' a ks.length<;>simp[bar]
  ·rw[Zg z,Zg ⋯] at i1;simp only[dt,decide_eq_true_eq] at i1;have f:=C.four a a' b ks.length ba.1 ⋯ xb bb.2 ⋯ ⋯ ⋯;rw[nt,yu,i1.2] at f;revert f;cases c a a' ks.length<;>simp[bar]
section
variable {c:Int->Int->Int->Bool}
theorem OW(mo:gO (ks++[κ]))(C:Cs (ks++[κ]) c)(P:Pt ks.length l)(yu:c u.1 u.2.1 ks.length=aj):∀(D:List Ti) {A X:List Ti} {r:List Int},Walk ks l r e->g6 l r=A++(D++u::X)->(∀t∈g6 l r,LS ks.length c t)->(∀t∈D,c t.1 t.2.1 ks.length=ao) -> ∃r',Walk ks l r' e/\g6 l r'=A++u::(D++X):=by
 intro D;induction D with
 |nil=>exact λ{A X r} w h _ _=>⟨r,w,h⟩
 |cons t D ih=>
  intro A X r w h f n;obtain⟨r1,w1,h1⟩:=ih (A:=A++[t]) (X:=X) w (by rw[h];simp) f λx hx=>n x (dg _ hx);have f':∀x,x=t \/ x=u->LS ks.length c x:=λx hx=>f x (by rw[h];rcases hx with rfl | rfl<;>simp);have h1':g6 l r1=A++t::u::(D++X):=by rw[h1];simp
  obtain⟨r2,w2,h2⟩:=Pj A w1 P (u:=t) (t:=u) (B:=D++X) h1' (N7 mo C w1 P h1' (f' t (.inl rfl)) (f' u (.inr rfl)) (n t (dk ..)) yu);exact⟨r2,w2,h2⟩
theorem O3(mo:gO (ks++[κ]))(C:Cs (ks++[κ]) c)(P:Pt ks.length l):∀(D A B:List Ti) {r:List Int},Walk ks l r e->g6 l r=A++(B++D)->(∀t∈g6 l r,LS ks.length c t)->(∀t∈A,c t.1 t.2.1 ks.length=aj)->(∀t∈B,c t.1 t.2.1 ks.length=ao) -> ∃r' A' B',Walk ks l r' e/\g6 l r'=A'++B'/\(∀t∈g6 l r',LS ks.length c t)/\(∀t∈A',c t.1 t.2.1 ks.length=aj)/\(∀t∈B',c t.1 t.2.1 ks.length=ao):=by
 intro D;induction D with
 |nil=>exact λA B r w h f a b=>⟨r,A,B,w,by rw[h];simp,f,a,b⟩
 |cons u D ih=>
  intro A B r w h f a b;cases q:c u.1 u.2.1 ks.length with
  |true=>
   obtain⟨r1,w1,h1⟩:=OW mo C P q B w h f b;refine ih (A++[u]) B w1 (by rw[h1];simp) (λt ht=>f t ?_) (λt ht=>?_) b
   ·rw[h1] at ht;rw[h];simp only[fm,dm] at ht ⊢;rcases ht with ht | ht | ht | ht
    ·exact .inl ht
    ·exact .inr (.inr (.inl ht))
    ·exact .inr (.inl ht)
    ·exact .inr (.inr (.inr ht))
   ·rcases fm.mp ht with ht | ht
    ·exact a t ht
    ·rw[fe.mp ht];exact q
  |false=>
   refine ih A (B++[u]) w (by rw[h];simp) f a λt ht=>?_;rcases fm.mp ht with ht | ht
   ·exact b t ht
   ·rw[fe.mp ht];exact q
theorem vB(X M:List Int)(p:Nat):aP (X++M) (X.length+p)=X++aP M p:=by
 unfold aP;rw[su,show X.length+p+2=X.length+(p+2) by right,List.drop_length_add_append];simp[df,bo,ni]
theorem jC(X M:List Int)(p:Nat):(X++M).getD (X.length+p) 0=M.getD p 0:=by
 simp[df,bo]
theorem Walk.ext(z:Int)(w:Walk ks l r e):Pt ks.length l->Walk (ks++[κ]) (l++[z]) r (e++[z])/\g6 (l++[z]) r=g6 l r:=by
 induction w with
 |nil l=>exact λ_=>⟨.nil _,rfl⟩
 | @cons l e r p a b w ih=>
  intro P;have hl:=P.len;obtain⟨w1,h1⟩:=ih (P.swap a);have g1:(l++[z]).getD p 0=l.getD p 0:=by simp[df,bh (show p<l.length by right)]
  have g2:(l++[z]).getD (p+1) 0=l.getD (p+1) 0:=by simp[df,bh (show p+1<l.length by right)]
  have s:aP (l++[z]) p=aP l p++[z]:=by
   unfold aP;rw[g1,g2,qy ⋯,List.drop_append_of_le_length ⋯];simp
  have b1:=P.bd p ⋯;have b2:=P.bd (p+1) a;refine⟨.cons (by simp;right) (by rw[g1,g2,eE b1.1 b1.2,eE b2.1 b2.2];exact b) (by rw[s];exact w1),?_⟩;unfold g6 at h1 ⊢;rw[tls,tls,de,de,br,g1,g2,s,h1,qy ⋯]
noncomputable def PH(z:Int)(t:Ti):Ti:=(t.1,t.2.1,srt (z::t.2.2))
theorem Walk.shift{L:List Int}(z:Int)(w:Walk ks l r e):Pt ks.length l -> ∀M,l=L++M->(∀x∈L,∀y:Int,0<=y->y<ks.length->kd ks y<=kd ks x) -> ∃M' r',e=L++M'/\Walk (ks++[κ]) (L++z::M) r' (L++z::M')/\g6 (L++z::M) r'=(g6 l r).map (PH z):=by
 induction w with
 |nil l=>exact λ_ M h _=>⟨M,[],h,.nil _,rfl⟩
 | @cons l e r p a b w ih=>
  rintro P M rfl mx;have hl:=P.len;have b1:=P.bd p ⋯;have b2:=P.bd (p+1) a;rcases W9 p L.length with q | q
  ·have:=mx (L.getD p 0) (by simp[df,q]) _ b2.1 b2.2;have e1:(L++M).getD p 0=L.getD p 0:=by simp[df,bh q]
   rw[e1] at b;right
  ·obtain⟨k,rfl⟩:=Nat.exists_eq_add_of_le q;obtain⟨M',r',e1,w1,h1⟩:=ih (P.swap a) (aP M k) (vB L M k) mx;have g1:(L++z::M).getD (L.length+k+1) 0=(L++M).getD (L.length+k) 0:=by
    rw[ni,jC,jC];rfl
   have g2:(L++z::M).getD (L.length+k+1+1) 0=(L++M).getD (L.length+k+1) 0:=by
    rw[ni,ni,ni,jC,jC];rfl
   have s:aP (L++z::M) (L.length+k+1)=L++z::aP M k:=by
    rw[ni,vB];rfl
   refine⟨M',((L.length+k+1:Nat):Int)::r',e1,.cons (by simp;right) (by rw[g1,g2,eE b1.1 b1.2,eE b2.1 b2.2];exact b) (by rw[s];exact w1),?_⟩;unfold g6 at h1 ⊢;rw[tls,tls,de,de,de,br,br,g1,g2,s,h1];congr 1;unfold tS PH;simp only;congr 2;rw[ni,su,su,yr];exact Cf (List.perm_middle.trans ((j9 _).symm.cons z))
theorem sweep{K X:List Int}:∀(N Y:List Int),(∀i∈N,kd K i<kd K z)->X.length+N.length+Y.length+1=K.length -> ∃r,Walk K (X++(N.reverse++z::Y)) r (X++z::(N.reverse++Y)) /\ ∀t∈g6 (X++(N.reverse++z::Y)) r,∃M1 i M2,N.reverse=M1++i::M2/\t=(i,z,srt (X++M1)):=by
 intro N;induction N with
 |nil=>exact λY _ _=>⟨[],.nil _,λt ht=>nomatch ht⟩
 |cons i N ih=>
  intro Y h hl;rw[cj] at hl;obtain⟨r,w,ht⟩:=ih (i::Y) (λx hx=>h x (dg _ hx)) (by rw[cj];right);have e1:X++((i::N).reverse++z::Y)=(X++N.reverse)++i::z::Y:=by simp
  have e2:X++(N.reverse++z::i::Y)=(X++N.reverse)++z::i::Y:=by simp
  have e3:X++z::((i::N).reverse++Y)=X++z::(N.reverse++i::Y):=by simp
  rw[e2] at w ht;rw[e1,e3];refine⟨((X++N.reverse).length:Int)::r,.cons (by simp;right) (by rw[uP,Bt];exact h i (dk ..)) (by rw[Ar];exact w),?_⟩;intro t h1;unfold g6 at h1 ht;rw[tls,de,br,Ar,uP,Bt,Yv] at h1;rcases dm.mp h1 with rfl | h1
  ·exact⟨N.reverse,i,[],by simp,rfl⟩
  ·obtain⟨M1,j,M2,q,rfl⟩:=ht t h1;exact⟨M1,j,M2++[i],by simp[q],rfl⟩
theorem Li{p:Int->Prop}:∀l:List Int,(∀i j,i<j->j<l.length->p (l.getD j 0)->p (l.getD i 0)) -> ∃L M,l=L++M/\(∀x∈L,p x) /\ ∀x∈M,¬p x:=by
 intro l;induction l with
 |nil=>exact λ_=>⟨[],[],rfl,(λ_ h=>nomatch h),(λ_ h=>nomatch h)⟩
 |cons a l ih=>
  intro h;rcases X4 (p a) with q | q
  ·obtain⟨L,M,e,h1,h2⟩:=ih λi j a b c=>h (i+1) (j+1) ⋯ (by simpa using b) c;refine⟨a::L,M,by rw[e];rfl,λx hx=>?_,h2⟩;rcases dm.mp hx with rfl | hx
   ·exact q
   ·exact h1 x hx
  ·refine⟨[],a::l,rfl,(λ_ h=>nomatch h),λx hx px=>?_⟩;rcases dm.mp hx with rfl | hx
   ·exact q px
   ·obtain⟨j,hj,rfl⟩:=cp.mp hx;refine q (h 0 (j+1) ⋯ (by simpa using hj) ?_);simpa [df,hj] using px
theorem Iw(w:Walk ks l r e):Pt ks.length l -> ∀t∈g6 l r,(0<=t.1/\t.1<ks.length)/\(0<=t.2.1/\t.2.1<ks.length)/\kd ks t.1<kd ks t.2.1 /\ ∀x∈t.2.2,0<=x/\x<ks.length:=by
 induction w with
 |nil l=>exact λ_ t ht=>nomatch ht
 | @cons l e r p a b w ih=>
  intro P t ht;have hl:=P.len;unfold g6 at ht ih;rw[tls,de,br] at ht;rcases dm.mp ht with rfl | ht
  ·refine⟨P.bd p ⋯,P.bd (p+1) a,b,λx hx=>?_⟩;have hx:=rm (sH.mp hx);obtain⟨j,hj,rfl⟩:=cp.mp hx;have:=P.bd j ⋯;simpa [df,hj] using this
  ·exact ih (P.swap a) t ht
theorem Hu(n:Nat):ids (n+1)=ids n++[(n:Int)]:=by simp[ids,XU]
theorem gO.old(mo:gO (ks++[κ])):gO ks:=λa b h0 h1 h2=>by
 have:=mo a b h0 h1 (by simp;right);rwa[eE h0 ⋯,eE ⋯ h2] at this
theorem Cs.old(C:Cs (ks++[κ]) c):Cs ks c:=by
 refine⟨λa b d h0 h1 h2 h3 h4=>C.fst a b d h0 h1 h2 (by simp;right) ?_,λa b d h0 h1 h2 h3 h4 h5=>C.lst a b d h0 h1 h2 (by simp;right) ?_ ?_,λi j k l h0 h1 h2 h3 h4 h5 h6=>C.four i j k l h0 h1 h2 h3 (by simp;right) ?_ ?_⟩
 ·rw[eE ⋯ ⋯,eE ⋯ ⋯];exact h4
 ·rw[eE ⋯ ⋯,eE ⋯ ⋯];exact h4
 ·rw[eE ⋯ ⋯,eE ⋯ ⋯];exact h5
 ·rw[eE ⋯ ⋯,eE ⋯ ⋯];exact h5
 ·rw[eE ⋯ ⋯,eE ⋯ ⋯];exact h6
theorem EB{n x:Int}(h1:x<y)(h2:y<n):isb c n x y = !c x y n:=by
 unfold isb;rw[Zg ⋯,ZE h2]
theorem exfit(c:Int->Int->Int->Bool):∀(n:Nat) (ks:List Int),ks.length=n->gO ks->Cs ks c -> ∃r e,Walk ks (ids ks.length) r e/\eV ks e /\ ∀t∈g6 (ids ks.length) r,LS ks.length c t:=by
 intro n;induction n with
 |zero=>
  intro ks hl _ _;refine⟨[],ids ks.length,.nil _,λp hp=>by right,λt ht=>nomatch ht⟩
 |succ n ih=>
  intro K hK mo C;have hne:K≠[]:=λz=>by rw[z] at hK;exact nomatch hK
  obtain⟨ks,κ,rfl⟩:∃ks κ,K=ks++[κ]:=⟨K.dropLast,K.getLast hne,(ri hne).symm⟩;have hn:ks.length=n:=by simpa using hK
  obtain⟨r,e,w,d,f⟩:=ih ks hn mo.old C.old;have P:=Pt.ids ks.length;obtain⟨r',A,B,w',h',f',fA,fB⟩:=O3 mo C P (g6 _ r) [] [] w rfl f (λt h=>nomatch h) (λt h=>nomatch h);obtain⟨m,r1,r2,w1,w2,Pm,e1,e2⟩:=Ph A w' P h';have lK:(ks++[κ]).length=ks.length+1:=by simp
  have ko:∀{x:Int},0<=x->x<ks.length->kd (ks++[κ]) x=kd ks x:=λh0 h1=>eE h0 h1;have kn:kd (ks++[κ]) (ks.length:Int)=κ:=Hl;have kmax:∀x:Int,0<=x->x<ks.length->kd ks x<=κ:=λx h0 h1=>by
   have:=mo x ks.length h0 ⋯ ⋯;rwa[ko h0 h1,kn] at this
  have ex:∀x y:Int,0<=x->x<y->y<ks.length->kd ks x<kd ks y->(c x y ks.length=aj->Bf m y x)/\(c x y ks.length=ao->Bf m x y):=by
   intro x y h0 hxy hy k;have b0:=tE h0 hxy hy;constructor
   ·intro q;obtain⟨t,ht,rfl,rfl⟩:=w'.all P d k b0;have i1:tS t∈A++B:=h' ▸ vm ht;rcases fm.mp i1 with i1 | i1
    ·rw[<- e1] at i1;obtain⟨u,hu,eu⟩:=jh.mp i1;have:=(w1.key P hu).2.2;have q1:(tS u).1=(tS t).1:=congrArg (λx=>x.1) eu;rw[show (tS u).1=u.1 from rfl,show (tS t).1=t.1 from rfl] at q1;have q2:u.2.1=t.2.1:=congrArg (λx=>x.2.1) eu;rwa[q1,q2] at this
    ·have:=fB _ i1;rw[show c (tS t).1 (tS t).2.1 ks.length=c t.1 t.2.1 ks.length from rfl,q] at this;exact nomatch this
   ·intro q;rcases w1.or P b0 with⟨t,ht,rfl,rfl⟩ | h
    ·have:=fA (tS t) (e1 ▸ vm ht);rw[show c (tS t).1 (tS t).2.1 ks.length=c t.1 t.2.1 ks.length from rfl,q] at this;exact nomatch this
    ·exact h
  have al:∀x y:Int,0<=x->x<y->y<ks.length->kd ks x=kd ks y->Bf m x y:=λx y h0 hxy hy k=>w1.stay P ⋯ (tE h0 hxy hy);have lm:=Pm.len;obtain⟨L,M,rfl,hL,hM⟩:=Li (p:=λx=>kd ks x=κ) m λi j hij hj pj=>by
   have bi:=Pm.bd i ⋯;have bj:=Pm.bd j ⋯;have ki:=kmax _ bi.1 bi.2;rcases qw ki with q | q
   ·have lt:=mo.lt (x:=m.getD i 0) (y:=m.getD j 0) (by rw[ko bi.1 bi.2,ko bj.1 bj.2,pj];exact q) bj.1 ⋯;have:=(ex _ _ bi.1 lt bj.2 (by rw[pj];exact q)).1 (C.lst _ _ _ bi.1 lt bj.2 ⋯ (by rw[ko bi.1 bi.2,ko bj.1 bj.2];right) (by rw[ko bj.1 bj.2,kn];exact pj));exact(this.anti Pm ⟨i,j,hij,hj,rfl,rfl⟩).elim
   ·exact q
  rw[eg] at lm;have mem_bd:∀x∈L++M,0<=x/\x<ks.length:=λx hx=>by
   obtain⟨j,hj,rfl⟩:=cp.mp hx;have:=Pm.bd j (by rw[eg] at hj;right);rwa[show (L++M).getD j 0=(L++M)[j] by simp only[df,au hj,YO]] at this
  obtain⟨w1',h1'⟩:=w1.ext (κ:=κ) (ks.length:Int) P;obtain⟨rs,ws,hs⟩:=sweep (K:=ks++[κ]) (X:=L) (z:=(ks.length:Int)) M.reverse [] (λi hi=>by
   have hi:=List.mem_reverse.mp hi;have b:=mem_bd i (eh _ hi);have k1:=kmax i b.1 b.2;have k2:=hM i hi;rw[ko b.1 b.2,kn];right) (by simp;right)
  rw[Wa,ic] at ws;rw[Wa] at hs;obtain⟨M',r3,ee,w3,h3⟩:=w2.shift (κ:=κ) (ks.length:Int) Pm M rfl λx hx y y0 y1=>by
   rw[hL x hx];exact kmax y y0 y1
  subst ee;have ei:ids (ks++[κ]).length=ids ks.length++[(ks.length:Int)]:=by rw[lK];exact Hu _
  rw[show L++M++[(ks.length:Int)]=L++(M++[(ks.length:Int)]) by simp] at w1';have wall:=w1'.append (ws.append w3);have PK:=Pt.ids (ks++[κ]).length;rw[ei] at PK;have Pe:=wall.pt PK;have Pe0:=w2.pt Pm;have le0:=Pe0.len;rw[eg] at le0;rw[ei];refine⟨_,_,wall,λp hp=>?_,λt ht=>?_⟩
  ·rw[lK] at hp;have bp:=Pe.bd (p+1) ⋯;have mx:kd (ks++[κ]) ((L++(ks.length:Int)::M').getD (p+1) 0)<=κ:=by
    have:=mo _ ks.length bp.1 ⋯ ⋯;rwa[kn] at this
   rcases sd p L.length with q | q | q
   ·have e1:(L++(ks.length:Int)::M').getD p 0=L.getD p 0:=by simp[df,bh q]
    have i1:L.getD p 0∈L:=by simp[df,q]
    have b:=mem_bd _ (gr _ i1);rw[e1,ko b.1 b.2,hL _ i1];exact mx
   ·rw[q,uP,kn,<- q];exact mx
   ·obtain⟨k,rfl⟩:=Nat.exists_eq_add_of_lt q;have g1:(L++(ks.length:Int)::M').getD (L.length+k+1) 0=(L++M').getD (L.length+k) 0:=by
     rw[ni,jC,jC];rfl
    have g2:(L++(ks.length:Int)::M').getD (L.length+k+1+1) 0=(L++M').getD (L.length+k+1) 0:=by
     rw[ni,ni,ni,jC,jC];rfl
    have b1:=Pe0.bd (L.length+k) ⋯;have b2:=Pe0.bd (L.length+k+1) ⋯;rw[g1,g2,ko b1.1 b1.2,ko b2.1 b2.2];exact d _ ⋯
  ·rw[CY w1',CY ws,h1',h3,e1,e2] at ht;have fit:∀t∈A++B,LS ks.length c t:=λt ht=>f' t (by rw[h'];exact ht);have tin:∀t∈A++B,_:=λt ht=>Iw w' P t (by rw[h'];exact ht);have spl:∀{z:Int},z<((ks++[κ]).length:Nat)->z<ks.length \/ z=ks.length:=λh=>by right
   rcases fm.mp ht with ht | ht
   ·obtain⟨i1,i2,i3,i4⟩:=tin t (gr _ ht);have lt:=mo.old.lt i3 i2.1 i1.2;intro z z0 z1;rcases spl z1 with z1 | rfl
    ·exact fit t (gr _ ht) z z0 z1
    ·rw[EB lt i2.2,fA t ht];refine⟨λq=>?_,λq=>nomatch q⟩;have:=i4 _ q;right
   rcases fm.mp ht with ht | ht
   ·obtain⟨M1,i,M2,eM,rfl⟩:=hs t ht;have hi:i∈L++M:=by rw[eM];simp
    have bi:=mem_bd i hi;have gi:(L++M).getD (L++M1).length 0=i:=by
     rw[eM,<- dw];exact uP _ _ _
    have li:(L++M1).length<(L++M).length:=by rw[eM];simp
    have tk:(L++M).take (L++M1).length=L++M1:=by
     rw[eM,<- dw,Yv]
    have iff:∀z,z∈L++M1 ↔ Bf (L++M) z i:=λz=>by
     refine⟨λh=>?_,λh=>?_⟩
     ·have:=vX li (x:=z) (by rw[tk];exact h);rwa[gi] at this
     ·have:=h.mem li gi Pm;rwa[tk] at this
    have ne:∀z,Bf (L++M) z z->False:=λz h=>h.anti Pm h;have kin:kd ks i≠κ:=hM i (by rw[eM];simp);intro z z0 z1;simp only;rw[sH,iff];rcases spl z1 with z1 | rfl
    ·rcases Int.lt_trichotomy z i with q | q | q
     ·unfold isb;rw[ZE q];have km:=mo.old z i z0 ⋯ bi.2;rcases qw km with k | k
      ·have E:=ex z i z0 q bi.2 k;cases v:c z i ks.length with
       |true=>exact⟨λh=>(h.anti Pm (E.1 v)).elim,λh=>nomatch h⟩
       |false=>exact⟨λ_=>rfl,λ_=>E.2 v⟩
      ·rw[C.fst z i ks.length z0 q bi.2 ⋯ (by rw[ko z0 z1,ko bi.1 bi.2];exact k)];exact⟨λ_=>rfl,λ_=>al z i z0 q bi.2 k⟩
     ·subst q;unfold isb;rw[Zg ⋯,Zg ⋯];refine⟨λh=>(ne _ h).elim,λh=>?_⟩;simp at h
     ·unfold isb;rw[Zg ⋯,Zg ⋯,decide_eq_true q,decide_eq_true z1];have km:=mo.old i z bi.1 ⋯ z1;rcases qw km with k | k
      ·have E:=ex i z bi.1 q z1 k;cases v:c i z ks.length with
       |true=>exact⟨λ_=>rfl,λ_=>E.1 v⟩
       |false=>exact⟨λh=>(h.anti Pm (E.2 v)).elim,λh=>nomatch h⟩
      ·rw[C.fst i z ks.length bi.1 q z1 ⋯ (by rw[ko z0 z1,ko bi.1 bi.2];exact k)];exact⟨λh=>(h.anti Pm (al i z bi.1 q z1 k)).elim,λh=>nomatch h⟩
    ·unfold isb;rw[Zg ⋯,Zg ⋯];refine⟨λh=>?_,λh=>?_⟩
     ·have:=mem_bd _ (rm (h.mem li gi Pm));right
     ·simp at h
   ·obtain⟨t,hB,rfl⟩:=jh.mp ht;obtain⟨i1,i2,i3,i4⟩:=tin t (eh _ hB);have lt:=mo.old.lt i3 i2.1 i1.2;intro z z0 z1;show z∈srt (_::t.2.2) ↔ isb c z t.1 t.2.1=aj;rw[sH,dm];rcases spl z1 with z1 | rfl
    ·rw[<- fit t (eh _ hB) z z0 z1];exact⟨λh=>h.resolve_left ⋯,.inr⟩
    ·rw[EB lt i2.2,fB t hB];exact⟨λ_=>rfl,λ_=>.inl rfl⟩
end
end Fl
variable {rows:List Sf.Rw}
namespace Lw
open L2 Z
open Sf (Rw crs uU Pre Good aJ bG)
noncomputable abbrev rD(r:Rw):Dv:=.tup [.int r.x,.int r.y,.int r.m]
noncomputable abbrev CP(rows:List Rw):List Dv:=rows.map rD
noncomputable abbrev bN(r:List Int):List Dv:=r.map Dv.int
noncomputable abbrev CT(rows:List Rw):List Dv:=rows.map λr=>.tup [.int r.x,.int r.y]
noncomputable abbrev bZ(C:af)(rows:List Rw):Dv:=.obj C [("kinds",.tup (bN (aJ rows))),("vectors",.tup (CT rows))]
noncomputable abbrev Uw:Int:=999999999999
noncomputable def NX(r:Rw):Prop:=r.up /\ -999999999999<=r.x/\r.x<=999999999999/\r.y<=999999999999/\1<=r.m
noncomputable def zD:Fn:=λds Q=>∃n:Int,ds=[.int n]/\Q (.v (.bl aj))
noncomputable def rN:Fn:=λds Q=>∃r:Rw,ds=[rD r]/\Q (.v (.bl aj))
noncomputable def sV:Fn:=λds Q=>∃r:Rw,ds=[rD r]/\NX r/\Q (.v (.bl aj))
noncomputable def mD:Fn:=λds Q=>∃r a:Rw,ds=[rD r,rD a]/\NX r/\NX a/\0<crs a r/\Q (.v (.bl aj))
noncomputable def mE:Fn:=λds Q=>∃r:Rw,ds=[rD r]/\NX r/\Q (.v .non)
noncomputable def sW:Fn:=λds Q=>∃rows:List Rw,ds=[.lst (CP rows)]/\Good rows/\Q (.v .non)
noncomputable def rO(C:af):Fn:=λds Q=>∃rows:List Rw,ds=[.lst (CP rows)]/\Good rows/\Q (.nw (bZ C rows))
theorem K4:∀ds Q,zD ds Q->ds.length=1:=by rintro ds Q ⟨_,rfl,_⟩;rfl
theorem FI:∀ds Q,rN ds Q->ds.length=1:=by rintro ds Q ⟨_,rfl,_⟩;rfl
theorem E5:∀ds Q,sV ds Q->ds.length=1:=by rintro ds Q ⟨_,rfl,_⟩;rfl
theorem Ha:∀ds Q,mD ds Q->ds.length=2:=by rintro ds Q ⟨_,_,rfl,_⟩;rfl
theorem Hf:∀ds Q,mE ds Q->ds.length=1:=by rintro ds Q ⟨_,rfl,_⟩;rfl
theorem KB:∀ds Q,sW ds Q->ds.length=1:=by rintro ds Q ⟨_,rfl,_⟩;rfl
theorem FJ:∀ds Q,rO C ds Q->ds.length+1=2:=by rintro ds Q ⟨_,rfl,_⟩;rfl
theorem Mm:MonoF zD:=⟨λds Q Q' w z=>by obtain⟨r,e,h⟩:=z;exact⟨r,e,w _ h⟩⟩
theorem HE:MonoF rN:=⟨λds Q Q' w z=>by obtain⟨r,e,h⟩:=z;exact⟨r,e,w _ h⟩⟩
theorem HK:MonoF sV:=⟨λds Q Q' w z=>by obtain⟨r,e,a,h⟩:=z;exact⟨r,e,a,w _ h⟩⟩
theorem Jp:MonoF mD:=⟨λds Q Q' w z=>by obtain⟨r,e,a,b,c,d,h⟩:=z;exact⟨r,e,a,b,c,d,w _ h⟩⟩
theorem Jr:MonoF mE:=⟨λds Q Q' w z=>by obtain⟨r,e,a,h⟩:=z;exact⟨r,e,a,w _ h⟩⟩
theorem Mo:MonoF sW:=⟨λds Q Q' w z=>by obtain⟨r,e,a,h⟩:=z;exact⟨r,e,a,w _ h⟩⟩
theorem HF:MonoF (rO C):=⟨λds Q Q' w z=>by obtain⟨r,e,a,h⟩:=z;exact⟨r,e,a,w _ h⟩⟩
theorem D3:∀ds Q,zD ds Q->q9 ↥Q (aM ["thing"] ds):=by
 rintro ds Q ⟨n,rfl,q⟩;ac_nf;exact⟨rfl,rfl,q⟩
theorem qF:∀ds Q,rN ds Q->gX zD ↥Q (aM ["direction"] ds):=by
 rintro ds Q ⟨r,rfl,q⟩;ac_nf;refine⟨rfl,?_⟩;rw[show Hs "tuple" (rD r)=aj from rfl];ac_nf;rw[show (!decide (((0+1+1+1:Nat):Int)=3))=ao from rfl];ac_nf;refine⟨_,rfl,?_⟩;ac_nf;refine⟨_,rfl,?_⟩;ac_nf;refine⟨_,rfl,?_⟩;ac_nf;exact⟨[aj,aj,aj],rfl,q⟩
theorem sA:∀ds Q,sV ds Q->iC ↥Q (aM ["direction"] ds):=by
 rintro ds Q ⟨r,rfl,⟨hu,h1,h2,h3,_⟩,q⟩;have hy:0<=r.y:=by rcases hu with h | h<;>right
 ac_nf;rw[ZE (show (if r.x<0 then -r.x else r.x)<=999999999999 by split<;>right),decide_eq_true (show (if r.y<0 then -r.y else r.y)<=999999999999 by split<;>right)];exact q
theorem BF:∀ds Q,sV ds Q->nI ↥Q (aM ["direction"] ds):=by
 rintro ds Q ⟨r,rfl,⟨hu,h1,h2,h3,_⟩,q⟩;ac_nf;rcases hu with h | ⟨h,h'⟩
 ·rw[ZE h];exact q
 ·rw[Zg ⋯,ZE h,decide_eq_true h'];exact q
theorem BG:∀ds Q,mD ds Q->nJ ↥Q (aM ["direction", "ahead"] ds):=by
 rintro ds Q ⟨r,a,rfl,⟨hu,h1,h2,h3,_⟩,⟨gu,g1,g2,g3,_⟩,hc,q⟩;ac_nf;refine⟨.inl (.inl ⟨⋯,⋯⟩),.inl (.inl ⟨⋯,⋯⟩),?_⟩;rw[decide_eq_true (show 0<a.x*r.y-r.x*a.y from hc)];exact q
theorem sB:∀ds Q,mE ds Q->iD rN sV sV ↥Q (aM ["direction"] ds):=by
 rintro ds Q ⟨r,rfl,ok,q⟩;ac_nf;refine⟨r,rfl,?_⟩;ac_nf;refine⟨r,rfl,ok,?_⟩;ac_nf;refine⟨r,rfl,ok,?_⟩;ac_nf;rw[Zg (by have:=ok.2.2.2.2;right)];exact q
variable {E:En}
theorem Po{x:Sl}:∀(rows:List Rw) (s t:Sl),(∀r∈rows,NX r)->(∀s,E.nx [x,s,t])->aX (gN 1) (jD mE mD) [] (CP rows) E [x,s,t]:=by
 intro rows;induction rows with
 |nil=>
  intro s t _ h;ac_nf;exact h s
 |cons r rs ih=>
  intro s t ok h;ac_nf;refine⟨r,rfl,ok r (by simp),?_⟩;ac_nf;exact ih _ _ (λr hr=>ok r (by simp[hr])) h
theorem Pl:∀(rows:List Rw) (acc:List Int),acc.length+rows.length<=100->Q (.nw (.lst (bN (acc++rows.map (·.m)))))->eF [.un] (gN 0) jM (aR cV (a8 0) (eC (.int 2))) (CP rows) (bN acc) Q:=by
 intro rows;induction rows with
 |nil=>
  intro acc _ h;ac_nf;simpa using h
 |cons r rs ih=>
  intro acc hl h;simp only[cj] at hl;push_cast [bf];refine⟨⋯,?_⟩;rw[show bN acc++[Dv.int r.m]=bN (acc++[r.m]) by simp];exact ih _ (by simp;right) (by simpa using h)
theorem Pn{x:Sl}:∀(rows:List Rw) (s t:Sl),uU rows->(∀r∈rows,NX r)->(∀s t,E.nx [x,s,t])->aX (gT [2,1]) (g5 mE mD) [] (Ag (CP rows) (CP (rows.drop 1))) E [x,s,t]:=by
 intro rows;induction rows with
 |nil=>
  intro s t _ _ h;push_cast [Ag,List.zipWith_nil_left];exact h s t
 |cons a rs ih=>
  intro s t srt ok h;cases rs with
  |nil=>
   push_cast [Ag,List.drop,X2];exact h s t
  |cons b rs=>
   push_cast [Ag,List.drop,X2];refine⟨b,a,rfl,ok b (by simp),ok a (by simp),?_,?_⟩
   ·exact(iz.mp srt).1 b (by simp)
   ·ac_nf;exact ih _ _ (iz.mp srt).2 (λr hr=>ok r (by simp at hr ⊢;exact .inr hr)) h
theorem qG:∀ds Q,sW ds Q->gY mE mD ↥Q (aM ["directions", "direction", "ahead"] ds):=by
 rintro ds Q ⟨rows,rfl,G,q⟩;have lo:=G.lo;have hi:=G.hi;push_cast [bf];refine⟨rfl,?_⟩;rw[show Hs "list" (.lst (CP rows))=aj from rfl];ac_nf;rw[ZE ⋯,decide_eq_true (show (rows.length:Int)<=6 by right)];ac_nf;refine Po rows _ _ G.ok λs=>?_;ac_nf;refine Pl rows [] (by simp;right) ?_;refine⟨rows.map (·.m),by simp,?_⟩;ac_nf;rw[Zg (by have:=G.tot;unfold Sf.many at this;right)];show aX (gT [2,1]) (g5 mE mD) [] _ _ _;rw[CB ∅,show (CP rows).drop (Int.toNat 1)=CP (rows.drop 1) by simp[CP]];exact Pn rows _ _ G.srt G.ok λs t=>q
theorem FG(h:∀r∈rows,1<=r.m):∀k,Sf.many (rows.take k)<=Sf.many rows:=by
 induction rows with
 |nil=>intro k;simp
 |cons r rs ih=>
  intro k;cases k with
  |zero=>
   have:=ih (λr hr=>h r (by simp[hr])) 0;have hm:=h r (by simp);simp only[Sf.many,List.take_zero,zj,List.sum_nil,de,Vj] at *;right
  |succ k=>
   have:=ih (λr hr=>h r (by simp[hr])) k;simp only[Sf.many,yr,de,Vj] at *;right
theorem N1{x y:Sl}:∀(rs:List Rw) (k:Nat) (ks:List Int) (s t:Sl),(∀r∈rs,1<=r.m)->(ks.length:Int)+Sf.many rs<=12->(∀s t,E.nx [x,y,.own a (.lst (bN (ks++bG k rs))),s,t]) ->
  aX (gT [3,4]) (sO C sW) [] (((CP rs).zipIdx k).map λq=>.tup [.int (q.2:Int),q.1]) E [x,y,.own a (.lst (bN ks)),s,t]:=by
 intro rs;induction rs with
 |nil=>
  intro k ks s t _ _ h;push_cast [XJ];simpa [bG] using h s t
 |cons r rs ih=>
  intro k ks s t ok hb h;have hm:=ok r (by simp);have hp:0<=Sf.many rs:=by
   have:=FG (λr hr=>ok r (by simp[hr])) (rows:=rs) 0;simpa [Sf.many] using this
  have hb':(ks.length:Int)+(r.m+Sf.many rs)<=12:=by simpa [Sf.many] using hb
  push_cast [Xz,sO,bf];refine⟨⟨⋯,⋯,⋯⟩,?_⟩;have e:(aw r.m.toNat [Dv.int (k:Int)]).flatten=bN (aw r.m.toNat (k:Int)):=by
   rw[qa];simp
  rw[e];refine⟨by simp;right,?_⟩;rw[show bN ks++bN (aw r.m.toNat (k:Int))=bN (ks++aw r.m.toNat (k:Int)) by simp];refine ih (k+1) _ _ _ (λr hr=>ok r (by simp[hr])) (by simp;right) λs t=>?_;rw[dw];exact h s t
theorem N0:∀(rows:List Rw) (acc:List Rw),acc.length+rows.length<=100->Q (.nw (.lst (CT (acc++rows))))->eF [.un] (gN 0) jM (gI (a9 (aR cV (a8 0) (eC (.int 0))) (a9 (aR cV (a8 0) (eC (.int 1))) aF))) (CP rows) (CT acc) Q:=by
 intro rows;induction rows with
 |nil=>
  intro acc _ h;ac_nf;simpa using h
 |cons r rs ih=>
  intro acc hl h;simp only[cj] at hl;push_cast [bf];refine⟨⋯,?_⟩;rw[show CT acc++[Dv.tup [Dv.int r.x,Dv.int r.y]]=CT (acc++[r]) by simp];exact ih _ (by simp;right) (by simpa using h)
theorem MQ:∀ds Q,rO C ds Q -> ∀a,Cc C sW { nx:=λρ=>∃d,ρ[0]?=aa (.own a d)/\Q (.nw d),rt:=λ_=>False } (jI C a ["self", "directions", "kinds", "number", "direction"] ds):=by
 rintro ds Q ⟨rows,rfl,G,q⟩ a;have hi:=G.hi;ac_nf;refine⟨rows,rfl,G,?_⟩;ac_nf;intro b;show aX (gT [3,4]) (sO C sW) [] (((CP rows).zipIdx 0).map λq=>.tup [.int (q.2:Int),q.1]) _ [_,_,.own b (.lst (bN [])),_,_];refine N1 rows 0 [] _ _ (λr hr=>(G.ok r hr).2.2.2.2) (by simpa using G.tot) λs t=>?_;ac_nf;refine N0 rows [] (by simp;right) ?_;ac_nf;exact⟨(by decide:1<1000),_,rfl,q⟩
end Lw
namespace Lw
open L2 Z
open Sf (Rw crs uU Pre Good aJ bG place many)
open Fl (kd ids)
variable {r:List Int}
theorem eU{k:Nat}(h:k<r.length):rA (bN r) (k:Int)=aa (.int (r.getD k 0)):=by
 rw[kU ⋯ (by simp;right)];simp[df,h]
theorem fD{i:Int}(h0:0<=i)(h:i<r.length):rA (bN r) i=aa (.int (r.getD i.toNat 0)):=by
 obtain⟨k,rfl⟩:∃k:Nat,i=k:=⟨i.toNat,⋯⟩;rw[eU ⋯,br]
theorem vJ(n:Nat):aV 0 n=bN (ids n):=by unfold aV;simp
noncomputable def dY(C:af):Fn:=λds Q=>∃(rows:List Rw) (b:Nat),ds=[bZ C rows,.int b]/\b<(aJ rows).length/\Q (.v (.int ((aJ rows).getD b 0)))
theorem Hc:∀ds Q,dY C ds Q->ds.length=2:=by rintro ds Q ⟨_,_,rfl,_⟩;rfl
theorem dB:MonoF (dY C):=⟨λds Q Q' w z=>by obtain⟨r,b,e,a,h⟩:=z;exact⟨r,b,e,a,w _ h⟩⟩
theorem MP:∀ds Q,dY C ds Q->Cb C ↥Q (aM ["self", "band"] ds):=by
 rintro ds Q ⟨rows,b,rfl,hb,h⟩;ac_nf;rw[show List.lookup (im "kinds") [(im "kinds",Dv.tup (bN (aJ rows))),(im "vectors",Dv.tup (CT rows))]=aa (Dv.tup (bN (aJ rows))) from rfl];ac_nf;rw[eU hb];exact h
noncomputable def cZ(C:af):Fn:=λds Q=>∃rows:List Rw,ds=[bZ C rows]/\Q (.v (.int (aJ rows).length))
theorem HY:∀ds Q,cZ C ds Q->ds.length=1:=by rintro ds Q ⟨_,rfl,_⟩;rfl
theorem g8:MonoF (cZ C):=⟨λds Q Q' w z=>by obtain⟨r,e,h⟩:=z;exact⟨r,e,w _ h⟩⟩
theorem MO:∀ds Q,cZ C ds Q->Ca C ↥Q (aM ["self"] ds):=by
 rintro ds Q ⟨rows,rfl,h⟩;ac_nf;rw[show List.lookup (im "kinds") [(im "kinds",Dv.tup (bN (aJ rows))),(im "vectors",Dv.tup (CT rows))]=aa (Dv.tup (bN (aJ rows))) from rfl];push_cast [bf];exact h
noncomputable abbrev pM(l:List (Int×Int)):List Dv:=l.map λt=>.tup [.int t.1,.int t.2]
noncomputable abbrev iA(l:List (Int×Int×Int)):List Dv:=l.map λt=>.tup [.int t.1,.int t.2.1,.int t.2.2]
noncomputable def yI(ks:List Int)(a:Int):Nat->Nat->List (Int×Int)
 |0,_=>[]
 |i+1,b=>(if kd ks a=kd ks b then [] else [(a,(b:Int))])++yI ks a i (b+1)
noncomputable def lG(ks:List Int):Nat->Nat->List (Int×Int)
 |0,_=>[]
 |i+1,a=>yI ks a (ks.length-(a+1)) (a+1)++lG ks i (a+1)
noncomputable def eS(ks:List Int):List (Int×Int):=lG ks ks.length 0
noncomputable def yH(ks:List Int)(a b:Int):Nat->Nat->List (Int×Int×Int)
 |0,_=>[]
 |i+1,c=>(if kd ks c=kd ks b then [] else [(a,b,(c:Int))])++yH ks a b i (c+1)
noncomputable def eW(ks:List Int)(l:List (Int×Int)):List (Int×Int×Int):=l.flatMap λt=>yH ks t.1 t.2 (ks.length-(t.2.toNat+1)) (t.2.toNat+1)
noncomputable def bP(ks:List Int):List (Int×Int×Int):=eW ks (eS ks)
theorem sI(ks:List Int)(a:Int):∀i b,(yI ks a i b).length<=i
 |0,_=>bt _
 |i+1,b=>by rw[yI,eg];have:=sI ks a i (b+1);split<;>simp<;>right
theorem sF(ks:List Int):∀i a,(lG ks i a).length<=i*ks.length
 |0,_=>oj _
 |i+1,a=>by rw[lG,eg,zr];have:=sF ks i (a+1);have:=sI ks a (ks.length-(a+1)) (a+1);right
theorem A7(ks:List Int)(a b:Int):∀i c,(yH ks a b i c).length<=i
 |0,_=>bt _
 |i+1,c=>by rw[yH,eg];have:=A7 ks a b i (c+1);split<;>simp<;>right
theorem lX(ks:List Int):∀l,(eW ks l).length<=l.length*ks.length
 | []=>oj _
 |t::l=>by
  have h1:=lX ks l;have h2:=A7 ks t.1 t.2 (ks.length-(t.2.toNat+1)) (t.2.toNat+1);unfold eW at h1 ⊢;rw[X6,eg,cj,zr];right
theorem ED(ks:List Int)(a:Int):∀(i b:Nat) (t:Int×Int),t∈yI ks a i b ↔ t.1=a/\(b:Int)<=t.2/\t.2<(b+i:Nat)/\kd ks a≠kd ks t.2
 |0,b,t=>by simp[yI];intro _ h1 h2;right
 |i+1,b,t=>by
  rw[yI,fm,ED ks a i (b+1) t];obtain⟨x,y⟩:=t;by_cases e:kd ks a=kd ks (b:Int)
  ·rw[ZE e];constructor
   ·rintro(h | ⟨h1,h2,h3,h4⟩)
    ·cases h
    ·exact⟨h1,⋯,⋯,h4⟩
   ·rintro⟨h1,h2,h3,h4⟩;have:y≠(b:Int):=λz=>h4 (by rw[z];exact e);exact .inr ⟨h1,by dsimp only at *;right,by dsimp only at *;right,h4⟩
  ·rw[Zg e];constructor
   ·rintro(h | ⟨h1,h2,h3,h4⟩)
    ·rw[fe] at h;cases h;exact⟨rfl,zq _,by dsimp only;right,e⟩
    ·exact⟨h1,⋯,⋯,h4⟩
   ·rintro⟨h1,h2,h3,h4⟩;by_cases z:y=(b:Int)
    ·exact .inl (by rw[fe,z];dsimp only at h1;rw[h1])
    ·exact .inr ⟨h1,by dsimp only at *;right,by dsimp only at *;right,h4⟩
theorem BQ(ks:List Int):∀(i a:Nat) (t:Int×Int),a+i=ks.length->(t∈lG ks i a ↔ (a:Int)<=t.1/\t.1<t.2/\t.2<ks.length/\kd ks t.1≠kd ks t.2)
 |0,a,t,h=>by simp[lG];intro h1 h2 h3;right
 |i+1,a,t,h=>by
  rw[lG,fm,ED,BQ ks i (a+1) t ⋯];constructor
  ·rintro(⟨h1,h2,h3,h4⟩ | ⟨h1,h2,h3,h4⟩)
   ·exact⟨⋯,⋯,⋯,by rw[h1];exact h4⟩
   ·exact⟨⋯,h2,h3,h4⟩
  ·rintro⟨h1,h2,h3,h4⟩;by_cases z:t.1=(a:Int)
   ·exact .inl ⟨z,⋯,⋯,by rw[<- z];exact h4⟩
   ·exact .inr ⟨⋯,h2,h3,h4⟩
theorem lE{t:Int×Int}:t∈eS ks ↔ 0<=t.1/\t.1<t.2/\t.2<ks.length/\kd ks t.1≠kd ks t.2:=BQ ks ks.length 0 t ⋯
theorem kP(ks:List Int)(a b:Int):∀(i c:Nat) (t:Int×Int×Int),t∈yH ks a b i c->t.1=a/\t.2.1=b/\(c:Int)<=t.2.2/\t.2.2<(c+i:Nat)/\kd ks t.2.2≠kd ks b
 |0,c,t,h=>by cases h
 |i+1,c,t,h=>by
  rw[yH,fm] at h;rcases h with h | h
  ·split at h
   ·cases h
   ·rename_i e;rw[fe] at h;cases h;exact⟨rfl,rfl,zq _,by dsimp only;right,e⟩
  ·obtain⟨h1,h2,h3,h4,h5⟩:=kP ks a b i (c+1) t h;exact⟨h1,h2,⋯,⋯,h5⟩
theorem v5{t:Int×Int×Int}(h:t∈bP ks):0<=t.1/\t.1<t.2.1/\t.2.1<t.2.2/\t.2.2<ks.length/\kd ks t.1≠kd ks t.2.1/\kd ks t.2.1≠kd ks t.2.2:=by
 obtain⟨u,hu,ht⟩:=Xu.mp h;obtain⟨a1,a2,a3,a4⟩:=lE.mp hu;obtain⟨h1,h2,h3,h4,h5⟩:=kP ks u.1 u.2 _ _ t ht;exact⟨⋯,⋯,⋯,⋯,by rw[h1,h2];exact a4,by rw[h2];exact λz=>h5 z.symm⟩
noncomputable def eY(C:af):Fn:=λds Q=>∃rows:List Rw,ds=[bZ C rows]/\(aJ rows).length<=12/\Q (.nw (.lst (pM (eS (aJ rows)))))
theorem FK:∀ds Q,eY C ds Q->ds.length=1:=by rintro ds Q ⟨_,rfl,_⟩;rfl
theorem lH:MonoF (eY C):=⟨λds Q Q' w z=>by obtain⟨r,e,a,h⟩:=z;exact⟨r,e,a,w _ h⟩⟩
variable {l:af}{E:En}
theorem Jc{a:Nat}(ha:a<(aJ rows).length):∀(i b:Nat) (acc:List (Int×Int)) (s:Sl),b+i=(aJ rows).length->acc.length+i<=1000 ->
  (∀s,E.nx [.v (bZ C rows),.own l (.lst (pM (acc++yI (aJ rows) a i b))),.v (.int a),s]) ->
  aX (gN 3) (yS C (cZ C) (dY C)) [] (aV b i) E [.v (bZ C rows),.own l (.lst (pM acc)),.v (.int a),s]:=by
 intro i;induction i with
 |zero=>
  intro b acc s _ _ h;rw[bK,b6];exact⟨λp hp=>by simp at hp,by simpa [yI] using h s⟩
 |succ i ih=>
  intro b acc s hb hl h;push_cast [b7,bf];refine⟨rfl,rows,a,rfl,ha,?_⟩;ac_nf;refine⟨rfl,rows,b,rfl,⋯,?_⟩;ac_nf;rw[show ((b:Int)+1)=((b+1:Nat):Int) by right];by_cases e:(aJ rows).getD a 0=(aJ rows).getD b 0
  ·rw[decide_eq_true e];ac_nf;refine ih (b+1) acc _ ⋯ ⋯ λs=>?_;have:=h s;rw[yI,ZE (by simpa [kd] using e)] at this;exact this
  ·rw[decide_eq_false e];ac_nf;refine⟨⋯,?_⟩;rw[show pM acc++[Dv.tup [Dv.int a,Dv.int b]]=pM (acc++[((a:Int),(b:Int))]) by simp];refine ih (b+1) _ _ ⋯ (by simp;right) λs=>?_;have:=h s;rw[yI,Zg (by simpa [kd] using e)] at this;simpa using this
theorem Jb(hn:(aJ rows).length<=12):∀(i a:Nat) (acc:List (Int×Int)) (s t:Sl),a+i=(aJ rows).length->acc.length+i*12<=500 ->
  (∀s t,E.nx [.v (bZ C rows),.own l (.lst (pM (acc++lG (aJ rows) i a))),s,t]) ->
  aX (gN 2) (lO C (cZ C) (dY C)) [] (aV a i) E [.v (bZ C rows),.own l (.lst (pM acc)),s,t]:=by
 intro i;induction i with
 |zero=>
  intro a acc s t _ _ h;rw[bK,b6];exact⟨λp hp=>by simp at hp,by simpa [lG] using h s t⟩
 |succ i ih=>
  intro a acc s t ha hl h;rw[b7,b8];refine⟨λp hp=>by simp at hp,?_⟩;have nx:∀s t,aX (gN 2) (lO C (cZ C) (dY C)) [] (aV ((a:Int)+1) i) E [.v (bZ C rows),.own l (.lst (pM (acc++yI (aJ rows) a ((aJ rows).length-(a+1)) (a+1)))),s,t]:=λs t=>by
   have il:=sI (aJ rows) a ((aJ rows).length-(a+1)) (a+1);refine ih (a+1) _ s t ⋯ (by simp;right) λs t=>?_;have:=h s t;rw[lG] at this;simpa using this
  generalize aX (gN 2) (lO C (cZ C) (dY C)) [] (aV ((a:Int)+1) i) E=G at nx ⊢;push_cast [lO];refine⟨rfl,rows,rfl,?_⟩;ac_nf;refine⟨⟨⋯,⋯,⋯⟩,?_⟩;rw[show ((aJ rows).length-((a:Int)+1)).toNat=(aJ rows).length-(a+1) by right,show ((a:Int)+1)=((a+1:Nat):Int) by right];exact Jc ⋯ _ (a+1) acc _ ⋯ ⋯ λs=>nx _ s
theorem Jd:∀ds Q,eY C ds Q->z8 C (cZ C) (dY C) ↥Q (aM ["self", "found", "a", "b"] ds):=by
 rintro ds Q ⟨rows,rfl,hn,h⟩;ac_nf;intro l;refine⟨rfl,rows,rfl,?_⟩;ac_nf;refine⟨⋯,?_⟩;rw[show ((aJ rows).length:Int).toNat=(aJ rows).length by right];refine Jb hn _ 0 [] _ _ ⋯ (by simp;right) λs t=>?_;ac_nf;exact h
end Lw
namespace Lw
open L2 Z
open Sf (Rw crs uU Pre Good aJ bG place many)
open Fl (kd ids)
noncomputable def iM(C:af):Fn:=λds Q=>∃rows:List Rw,ds=[bZ C rows]/\(aJ rows).length<=12/\Q (.nw (.lst (iA (bP (aJ rows)))))
theorem DG:∀ds Q,iM C ds Q->ds.length=1:=by rintro ds Q ⟨_,rfl,_⟩;rfl
theorem t5:MonoF (iM C):=⟨λds Q Q' w z=>by obtain⟨r,e,a,h⟩:=z;exact⟨r,e,a,w _ h⟩⟩
variable {l:af}{E:En}
theorem GC{a b:Int}(hb:0<=b/\b<(aJ rows).length):∀(i c:Nat) (acc:List (Int×Int×Int)) (s:Sl),c+i=(aJ rows).length->acc.length+i<=10000 ->
  (∀s,E.nx [.v (bZ C rows),.own l (.lst (iA (acc++yH (aJ rows) a b i c))),.v (.int a),.v (.int b),s]) ->
  aX (gN 4) (wP C (eY C) (cZ C) (dY C)) [] (aV c i) E [.v (bZ C rows),.own l (.lst (iA acc)),.v (.int a),.v (.int b),s]:=by
 intro i;induction i with
 |zero=>
  intro c acc s _ _ h;rw[bK,b6];exact⟨λp hp=>by simp at hp,by simpa [yH] using h s⟩
 |succ i ih=>
  intro c acc s hc hl h;push_cast [b7,bf];refine⟨rfl,rows,c,rfl,⋯,?_⟩;ac_nf;refine⟨rfl,rows,b.toNat,by rw[xg hb.1],⋯,?_⟩;ac_nf;rw[show ((c:Int)+1)=((c+1:Nat):Int) by right];by_cases e:(aJ rows).getD c 0=(aJ rows).getD b.toNat 0
  ·rw[decide_eq_true e];ac_nf;refine ih (c+1) acc _ ⋯ ⋯ λs=>?_;have:=h s;rw[yH,ZE (by simpa [kd] using e)] at this;exact this
  ·rw[decide_eq_false e];ac_nf;refine⟨⋯,?_⟩;rw[show iA acc++[Dv.tup [Dv.int a,Dv.int b,Dv.int c]]=iA (acc++[(a,b,(c:Int))]) by simp];refine ih (c+1) _ _ ⋯ (by simp;right) λs=>?_;have:=h s;rw[yH,Zg (by simpa [kd] using e)] at this;simpa using this
theorem GB(hn:(aJ rows).length<=12):∀(ps:List (Int×Int)) (acc:List (Int×Int×Int)) (s t u:Sl),(∀t∈ps,0<=t.2/\t.2<(aJ rows).length)->acc.length+ps.length*12<=5000 ->
  (∀s t u,E.nx [.v (bZ C rows),.own l (.lst (iA (acc++eW (aJ rows) ps))),s,t,u]) ->
  aX (gT [2,3]) (kE C (eY C) (cZ C) (dY C)) [] (pM ps) E [.v (bZ C rows),.own l (.lst (iA acc)),s,t,u]:=by
 intro ps;induction ps with
 |nil=>
  intro acc s t u _ _ h;rw[show pM []=[] from rfl,b6];exact⟨λp hp=>by simp at hp,by simpa [eW] using h s t u⟩
 |cons p ps ih=>
  intro acc s t u hp hl h;have h0:=hp p (by simp);rw[show pM (p::ps)=.tup [.int p.1,.int p.2]::pM ps from rfl,b8];refine⟨λp hp=>by simp at hp,?_⟩;have il:=A7 (aJ rows) p.1 p.2 ((aJ rows).length-(p.2.toNat+1)) (p.2.toNat+1);have nx:∀s t u,aX (gT [2,3]) (kE C (eY C) (cZ C) (dY C)) [] (pM ps) E [.v (bZ C rows),.own l (.lst (iA (acc++yH (aJ rows) p.1 p.2 ((aJ rows).length-(p.2.toNat+1)) (p.2.toNat+1)))),s,t,u]:=λs t u=>by
   simp only[cj] at hl;refine ih _ s t u (λt ht=>hp t (dg _ ht)) (by simp;right) λs t u=>?_;have:=h s t u;unfold eW at this ⊢;rw[X6] at this;simpa using this
  generalize aX (gT [2,3]) (kE C (eY C) (cZ C) (dY C)) [] (pM ps) E=G at nx ⊢;push_cast [kE];refine⟨rfl,rows,rfl,?_⟩;ac_nf;refine⟨⟨⋯,⋯,⋯⟩,?_⟩;rw[show ((aJ rows).length-(p.2+1)).toNat=(aJ rows).length-(p.2.toNat+1) by right,show (p.2+1)=((p.2.toNat+1:Nat):Int) by right];simp only[cj] at hl;exact GC h0 _ (p.2.toNat+1) acc _ ⋯ ⋯ λs=>nx _ _ s
theorem Gq:∀ds Q,iM C ds Q->v8 C (eY C) (cZ C) (dY C) ↥Q (aM ["sides", "told", "a", "b", "c"] ds):=by
 rintro ds Q ⟨rows,rfl,hn,h⟩;have pl:=sF (aJ rows) (aJ rows).length 0;have sq:(aJ rows).length*(aJ rows).length<=12*12:=my hn hn;ac_nf;intro l;refine⟨rfl,rows,rfl,hn,?_⟩;ac_nf;refine GB hn (eS (aJ rows)) [] _ _ _ (λt ht=>?_) (by unfold eS;simp;right) λs t u=>?_
 ·obtain⟨a1,a2,a3,a4⟩:=lE.mp ht;exact⟨⋯,a3⟩
 ac_nf;exact h
noncomputable abbrev Ti:=Int×Int×List Int
noncomputable abbrev Iy(t:Ti):Dv:=.tup [.int t.1,.int t.2.1,.tup (bN t.2.2)]
noncomputable abbrev lT(l:List Ti):List Dv:=l.map Iy
noncomputable abbrev DM(t:Ti):List cF:=[jc t.1,jc t.2.1]
noncomputable abbrev Ik(l:List Ti):List (List cF×Dv):=l.map λt=>(DM t,.tup (bN t.2.2))
noncomputable def CO(l:List Ti):Prop:=l.Pairwise λt u=>¬(t.1=u.1/\t.2.1=u.2.1)
noncomputable def oY:Fn:=λds Q=>∃fl:List Ti,ds=[.lst (lT fl)]/\fl.length<=1000/\CO fl/\Q (.nw (.dit (Ik fl)))
theorem DI:∀ds Q,oY ds Q->ds.length=1:=by rintro ds Q ⟨_,rfl,_⟩;rfl
theorem FD:MonoF oY:=⟨λds Q Q' w z=>by obtain⟨r,e,a,b,h⟩:=z;exact⟨r,e,a,b,w _ h⟩⟩
theorem JJ{l:List Ti}{t:Ti}(h:∀u∈l,¬(u.1=t.1/\u.2.1=t.2.1)):B9 (Ik l) (DM t) (.tup (bN t.2.2))=Ik (l++[t]):=by
 unfold B9;have e:(Ik l).any (λkv=>decide (kv.1=DM t))=ao:=by
  rw[ze];intro kv hkv;obtain⟨u,hu,rfl⟩:=jh.mp hkv;have:=h u hu;simp only[decide_eq_true_eq];intro z;apply this;simp only[DM,wu,jc.injEq,and_true] at z;exact z
 rw[e];simp
theorem IX{x:Sl}:∀(fl acc:List Ti) (s t u:Sl),CO (acc++fl)->acc.length+fl.length<=1000->(∀s t u,E.nx [x,.own a (.dit (Ik (acc++fl))),s,t,u]) ->
  aX (gT [2,3,4]) kF [] (lT fl) E [x,.own a (.dit (Ik acc)),s,t,u]:=by
 intro fl;induction fl with
 |nil=>
  intro acc s t u _ _ h;rw[show lT []=[] from rfl,b6];exact⟨λp hp=>by simp at hp,by simpa using h s t u⟩
 |cons p fl ih=>
  intro acc s t u hk hl h;simp only[cj] at hl;rw[show lT (p::fl)=.tup [.int p.1,.int p.2.1,.tup (bN p.2.2)]::lT fl from rfl];push_cast [kF,bf];refine⟨DM p,rfl,⋯,?_⟩;rw[JJ λu hu=>(ou.mp hk).2.2 u hu p (by simp)];exact ih _ _ _ _ (by simpa using hk) (by simp;right) (by simpa using h)
theorem zP:∀ds Q,oY ds Q->mB ↥Q (aM ["_law_tiles", "_law_belows_here", "_law_a", "_law_b", "_law_below"] ds):=by
 rintro ds Q ⟨fl,rfl,hl,hk,h⟩;ac_nf;intro a;refine IX fl [] _ _ _ (by simpa using hk) (by simp;right) λs t u=>?_;ac_nf;exact h
noncomputable def G0(l:List Ti)(a c:Int):List Int:=((l.find? λt=>decide (t.1=a/\t.2.1=c)).map λt=>t.2.2).getD []
noncomputable def Tn(ks:List Int)(l:List Ti):Prop:=∀a c:Int,0<=a->a<c->c<ks.length->kd ks a≠kd ks c -> ∃t∈l,t.1=a/\t.2.1=c
theorem KW(l:List Ti)(a c:Int):(Ik l).find? (λkv=>decide (kv.1=[jc a,jc c]))=(l.find? λt=>decide (t.1=a/\t.2.1=c)).map λt=>(DM t,.tup (bN t.2.2)):=by
 induction l with
 |nil=>rfl
 |cons t l ih=>
  rw[show Ik (t::l)=(DM t,.tup (bN t.2.2))::Ik l from rfl];by_cases e:t.1=a/\t.2.1=c
  ·rw[vg (by simpa using e),vg (by simpa using e)];rfl
  ·rw[vh (by simpa using e),vh (by simpa using e)];exact ih
theorem wE{l:List Ti}{a c:Int}(h:∃t∈l,t.1=a/\t.2.1=c):∃t,(l.find? λt=>decide (t.1=a/\t.2.1=c))=aa t/\t∈l/\t.1=a/\t.2.1=c/\G0 l a c=t.2.2:=by
 obtain⟨t,ht,e⟩:=h;cases q:l.find? λt=>decide (t.1=a/\t.2.1=c) with
 |none=>exact absurd (decide_eq_true e) (WH.mp q t ht)
 |some u=>
  have:=XZ q;refine⟨u,rfl,yz q,(of_decide_eq_true this).1,(of_decide_eq_true this).2,?_⟩;unfold G0;rw[q];rfl
noncomputable def gO(ks:List Int):Prop:=∀a b:Int,0<=a->a<=b->b<ks.length->kd ks a<=kd ks b
theorem SH(n:Nat)(i:Int):eJ n (.int i)=aj:=by cases n<;>rfl
theorem tQ(n:Nat):∀l:List Int,okDs n (bN l)=aj
 | []=>rfl
 |i::r=>by
  show (eJ n (.int i)&&okDs n (bN r))=aj;rw[tQ n r];cases n<;>rfl
theorem tO(hn:ks.length<=12):(bP ks).length<=1728:=by
 have h1:=sF ks ks.length 0;have h2:=lX ks (eS ks);have sq:ks.length*ks.length<=12*12:=my hn hn;have h3:(eS ks).length*ks.length<=144*12:=my (by unfold eS;right) hn;unfold bP;right
end Lw
namespace Lw
open L2 Z
open Sf (Rw crs uU Pre Good aJ bG place many)
open Fl (kd ids Walk eV tls pc aP Pt)
theorem u8{u k:Int}(h0:-1000000<k)(hk:k<1000000):u7 u k:=.inl (.inr ⟨⋯,⋯⟩)
noncomputable def jO:Fn:=λds Q=>∃(ns:List Int) (k:Int),ds=[.scr ns,.int k]/\0<=k /\ ∀c:Int,Q (.v (.int c))
theorem Hh:∀ds Q,jO ds Q->ds.length=2:=by rintro ds Q ⟨_,_,rfl,_⟩;rfl
theorem E3:MonoF jO:=⟨λds Q Q' w z=>by obtain⟨r,e,a,b,h⟩:=z;exact⟨r,e,a,b,λc=>w _ (h c)⟩⟩
theorem x9:∀ds Q,jO ds Q->kX ↥Q (aM ["_law_script", "_law_k"] ds):=by
 rintro ds Q ⟨ns,k,rfl,h0,h⟩;ac_nf;by_cases hk:k<(ns.length:Int)
 ·rw[ZE hk,kU h0 hk,au ⋯];exact h _
 ·rw[Zg hk];exact h 5
noncomputable def oW:Fn:=λds Q=>∃(ns:List Int) (k:Int),ds=[.scr ns,.int k,.int 8] /\ ∀m:Int,6<=m->m<=12->Q (.v (.int m))
theorem HX:∀ds Q,oW ds Q->ds.length=3:=by rintro ds Q ⟨_,_,rfl,_⟩;rfl
theorem Jo:MonoF oW:=⟨λds Q Q' w z=>by obtain⟨r,e,a,h⟩:=z;exact⟨r,e,a,λm x y=>w _ (h m x y)⟩⟩
theorem Cz:∀ds Q,oW ds Q->pY jO ↥Q (aM ["_law_script", "_law_k", "_law_usual"] ds):=by
 rintro ds Q ⟨ns,k,rfl,h⟩;ac_nf;by_cases hk:k=0
 ·rw[ZE hk];refine⟨ns,0,rfl,⋯,λc=>?_⟩;ac_nf;refine⟨u8 ∅ ∅,?_⟩;split
  ·exact h 12 ⋯ ⋯
  ·exact h 8 ⋯ ⋯
 ·rw[Zg hk];exact h 8 ⋯ ⋯
noncomputable def kL:Fn:=λds Q=>∃(c step m:Int),ds=[.int c,.int step,.int m]/\0<=step/\step<=500/\0<m /\ ∀q:Int,0<=q->q<m->Q (.v (.int q))
theorem HW:∀ds Q,kL ds Q->ds.length=3:=by rintro ds Q ⟨_,_,_,rfl,_⟩;rfl
theorem Jn:MonoF kL:=⟨λds Q Q' w z=>by obtain⟨r,e,a,b,c,d,f,h⟩:=z;exact⟨r,e,a,b,c,d,f,λm x y=>w _ (h m x y)⟩⟩
theorem Cy:∀ds Q,kL ds Q->pX ↥Q (aM ["_law_cell", "_law_step", "_law_many_here"] ds):=by
 rintro ds Q ⟨c,k,m,rfl,h0,h1,hm,h⟩;have hkk:0<=k*k/\k*k<=500*500:=⟨Yw h0 h0,Yx h1 h1 h0 ⋯⟩;ac_nf;refine⟨.inl (.inl ⟨by decide,by decide⟩),u8 ∅ ∅,u8 ⋯ ⋯,u8 ⋯ ⋯,hm,?_⟩;exact h _ (zt _ ⋯) (vn _ hm)
theorem Nx{p:Nat}:bN (l.take p)++[.int (l.getD (p+1) 0),.int (l.getD p 0)]++bN (l.drop (p+2))=bN (aP l p):=by unfold aP;simp
noncomputable def dF:Fn:=λds Q=>∃(ZH:List Int) (p:Nat),ds=[.lst (bN ZH),.int p]/\ZH.length<=100/\p+1<ZH.length/\Q (.nw (.lst (bN (aP ZH p))))
theorem He:∀ds Q,dF ds Q->ds.length=2:=by rintro ds Q ⟨_,_,rfl,_⟩;rfl
theorem A3:MonoF dF:=⟨λds Q Q' w z=>by obtain⟨a,b,c,d,e,h⟩:=z;exact⟨a,b,c,d,e,w _ h⟩⟩
theorem uA:∀ds Q,dF ds Q->jG ↥Q (aM ["_law_path", "_law_p"] ds):=by
 rintro ds Q ⟨ZH,p,rfl,hn,hp,h⟩;have e1:((p:Int)+1)=((p+1:Nat):Int):=⋯;have e2:((p:Int)+2)=((p+2:Nat):Int):=⋯;ac_nf;rw[e1,e2,eU ⋯,eU ⋯,DU ⋯,CB ⋯];simp only[br,<- X0,<- Zl];push_cast [bf,ef,VX,eg];refine⟨⋯,⋯,?_⟩;have:=Nx (l:=ZH) (p:=p);simp only[dw,kf,gw] at this ⊢;rw[this];exact h
noncomputable def aQ:Nat->List Nat->List Int
 |_,[]=>[]
 |k,c::cs=>aw c (k:Int)++aQ (k+1) cs
theorem r6:∀(k:Nat) (cs:List Nat) (c:Nat),aQ k (cs++[c])=aQ k cs++aw c ((k+cs.length:Nat):Int)
 |_,[],_=>by simp[aQ]
 |k,a::rs,c=>by
  simp only[kf,aQ,r6 (k+1) rs c,dw,cj];congr 3;right
theorem pF:∀(k:Nat) (cs:List Nat),(aQ k cs).length=cs.sum
 |_,[]=>rfl
 |k,c::cs=>by simp[aQ,pF (k+1) cs]
structure Cnt(cs:List Nat):Prop where
 lo:2<=cs.length
 hi:cs.length<=6
 ok:∀c∈cs,1<=c
 tot:cs.sum<=12
variable {M ZI:Int}{E:En}{x6 x7:Sl}
theorem Pv{c:Int}{k:Nat}{tl:cD}(hk:k<=10)(sp:Int)(hs:M-(l.length:Int)-((n:Int)-(k:Int)-1)=sp)(h1:1<=sp)(h2:sp<=12)
  (h:∀X9:Int,1<=X9->X9<=sp->tl E [.v (.int c),.v (.int M),.v (.int n),.v (.int ZI),.v (.lst (bN l)),.v (.int k),.v (.int sp),.v (.int X9)]):
  aU (c9 6 (aR lF (aR lF (a8 1) (fF d8 (a9 (a8 4) aF))) (aR lF (aR lF (a8 2) (a8 5)) (eC (.int 1)))))
 (aU (c9 7 (aR dG (eC (.int 1)) (aR i6 (aR i6 (aR gL (aR i6 (aR gL (aR dG (a8 0) (aR gL (eC (.int 31)) (a8 5))) (eC (.int 48271))) (eC (.int 2147483647))) (aR dG (aR gL (a8 5) (a8 5)) (eC (.int 17)))) (eC (.int 99991))) (fF vR (a9 (a8 6) (a9 (eC (.int 3)) aF)))))) tl) E [.v (.int c),.v (.int M),.v (.int n),.v (.int ZI),.v (.lst (bN l)),.v (.int k),x6,x7]:=by
 push_cast [bf,hs];generalize hm:(if 3<sp then 3 else sp)=mn;have hmn:1<=mn/\mn<=sp:=by rw[<- hm];split<;>right
 have kk:(k:Int)*k<=10*10:=Yx ⋯ ⋯ ⋯ ⋯;have kk0:0<=(k:Int)*k:=Yw ⋯ ⋯;refine⟨.inl (.inl ⟨by decide,by decide⟩),u8 ∅ ∅,u8 ⋯ ⋯,u8 ⋯ ⋯,⋯,?_⟩;generalize (c+31*(k:Int))*48271 % 2147483647*((k:Int)*k+17) % 99991=q;have a1:=zt q (show mn≠0 by right);have a2:=vn q (show 0<mn by right);exact h _ ⋯ ⋯
variable {x0 x1 x2:Sl}
theorem Pu{sp X9 k:Int}(h1:1<=sp)(h2:sp<=12)(c1:1<=X9)(c2:X9<=sp)(ll:l.length<=100)
  (h:∀ZI X9:Int,1<=X9->X9<=sp->E.nx [x0,x1,x2,.v (.int ZI),.v (.lst (bN l++(aw X9.toNat [Dv.int k]).flatten)),.v (.int k),.v (.int sp),.v (.int X9)]):
  aU (jN (bI (aR Dy (a8 3) (eC (.int 1)))) (aU (c9 7 (aR dG (eC (.int 1)) (aR i6 (a8 3) (a8 6))))
 (c9 3 (aR nA (a8 3) (a8 6)))) cA)
 (c9 4 (aR dG (a8 4) (aR gL (jQ (a9 (a8 5) aF)) (a8 7)))) E [x0,x1,x2,.v (.int ZI),.v (.lst (bN l)),.v (.int k),.v (.int sp),.v (.int X9)]:=by
 have fl:∀m:Nat,(aw m [Dv.int k]).flatten.length=m:=λm=>by rw[qa];simp
 push_cast [bf,fl];split
 ·have a1:=zt ZI (show sp≠0 by right);have a2:=vn ZI (show 0<sp by right);exact⟨⋯,⋯,⋯,⋯,h _ _ ⋯ ⋯⟩
 ·exact⟨⋯,⋯,h _ _ c1 c2⟩
theorem Sy{d:Dv}{x3 x4 x5:Sl}{Q:List Sl->Prop}(h:Q [x0,x1,x2,x3,x4,.v d,x6,x7]):gN 5 d [x0,x1,x2,x3,x4,x5,x6,x7] Q:=by
 ac_nf;exact h
theorem Ko{c:Int}(hn:n<=6)(hM:M<=12):∀(i k:Nat) (ZI:Int) (cs:List Nat) (s5 s6 s7:Sl),k+i=n->cs.length=k->(∀x∈cs,1<=x)->(cs.sum:Int)+i<=M ->
  (∀(ZI:Int) (cs:List Nat) (s5 s6 s7:Sl),cs.length=n->(∀x∈cs,1<=x)->(cs.sum:Int)<=M->E.nx [.v (.int c),.v (.int M),.v (.int n),.v (.int ZI),.v (.lst (bN (aQ 0 cs))),s5,s6,s7]) ->
  aX (gN 5) j6 [] (aV k i) E [.v (.int c),.v (.int M),.v (.int n),.v (.int ZI),.v (.lst (bN (aQ 0 cs))),s5,s6,s7]:=by
 intro i;induction i with
 |zero=>
  intro k ZI cs s5 s6 s7 hk hl ok ht h;rw[bK,b6];exact⟨λp hp=>by simp at hp,h _ _ _ _ _ ⋯ ok ⋯⟩
 |succ i ih=>
  intro k ZI cs s5 s6 s7 hk hl ok ht h;rw[b7,b8];refine⟨λp hp=>by simp at hp,?_⟩;have next:∀(ZI X9:Int) (s5 s6 s7:Sl),1<=X9->X9+cs.sum+i<=M->aX (gN 5) j6 [] (aV ((k:Int)+1) i) E [.v (.int c),.v (.int M),.v (.int n),.v (.int ZI),.v (.lst (bN (aQ 0 cs)++(aw X9.toNat [Dv.int (k:Int)]).flatten)),s5,s6,s7]:=λZI X9 s5 s6 s7 c1 c2=>by
   have e2:(aw X9.toNat [Dv.int (k:Int)]).flatten=bN (aw X9.toNat (k:Int)):=by
    rw[qa];simp
   have e3:bN (aQ 0 cs)++bN (aw X9.toNat (k:Int))=bN (aQ 0 (cs++[X9.toNat])):=by
    rw[r6,hl,rn];simp
   rw[e2,e3];exact ih (k+1) ZI (cs++[X9.toNat]) s5 s6 s7 ⋯ (by simp;right) (λx hx=>by
    rcases fm.mp hx with hx | hx
    ·exact ok x hx
    ·rw[fe.mp hx];right) (by simp;right) h
  generalize aX (gN 5) j6 [] (aV ((k:Int)+1) i) E=nx at *;have bl:=pF 0 cs;exact Sy (Pv ⋯ _ rfl ⋯ ⋯ λX9 c1 c2=>Pu ⋯ ⋯ c1 c2 ⋯ λZI X9 d1 d2=>next ZI X9 _ _ _ d1 ⋯)
noncomputable def lB:Fn:=λds Q=>∃c M:Int,ds=[.int c,.int M]/\6<=M/\M<=12 /\ ∀cs,Cnt cs->Q (.v (.lst (bN (aQ 0 cs))))
theorem FQ:∀ds Q,lB ds Q->ds.length=2:=by rintro ds Q ⟨_,_,rfl,_⟩;rfl
theorem HP:MonoF lB:=⟨λds Q Q' w z=>by obtain⟨c,M,e,a,b,h⟩:=z;exact⟨c,M,e,a,b,λr g=>w _ (h r g)⟩⟩
theorem BK:∀ds Q,lB ds Q->nO ↥Q (aM ["_law_cell", "_law_most_here", "_law_kinds", "_law_rest", "_law_bands_here", "_law_k", "_law_spare", "_law_count"] ds):=by
 rintro ds Q ⟨c,M,rfl,M6,M12,h⟩;ac_nf;obtain⟨n,hn,h2,h6⟩:∃n:Nat,2+c % 5=(n:Int)/\2<=n/\n<=6:=⟨(2+c % 5).toNat,⋯,⋯,⋯⟩;rw[hn];refine⟨⋯,?_⟩;rw[br];refine Ko h6 M12 n 0 _ [] _ _ _ ⋯ rfl (λx hx=>by simp at hx) (by simp;right) λZI cs s5 s6 s7 l ok t=>?_;ac_nf;exact h cs ⟨⋯,⋯,ok,⋯⟩
theorem r8(k:Nat)(cs:List Nat):(aQ k cs).Pairwise (· <= ·) /\ ∀x∈aQ k cs,(k:Int)<=x:=by
 induction cs generalizing k with
 |nil=>exact⟨List.Pairwise.nil,λx hx=>by cases hx⟩
 |cons c cs ih=>
  obtain⟨i1,i2⟩:=ih (k+1);rw[aQ];refine⟨ou.mpr ⟨?_,i1,λa ha b hb=>?_⟩,λx hx=>?_⟩
  ·rw[da];intro i j hi hj _;simp
  ·rw[gp ha];have:=i2 b hb;right
  ·rcases fm.mp hx with hx | hx
   ·rw[gp hx];exact zq _
   ·have:=i2 x hx;right
theorem wO(cs:List Nat):gO (aQ 0 cs):=λa b h0 hab hb=>by
 have pw:=da.mp (r8 0 cs).1;show (aQ 0 cs).getD a.toNat 0<=(aQ 0 cs).getD b.toNat 0;have e1:(aQ 0 cs).getD a.toNat 0=(aQ 0 cs)[a.toNat]'⋯:=by simp[df,show a.toNat<(aQ 0 cs).length by right]
 have e2:(aQ 0 cs).getD b.toNat 0=(aQ 0 cs)[b.toNat]'⋯:=by simp[df,show b.toNat<(aQ 0 cs).length by right]
 rw[e1,e2];rcases W9 a.toNat b.toNat with h | h
 ·exact pw _ _ _ _ h
 ·have:a.toNat=b.toNat:=⋯;simp[this]
noncomputable def wM:List Nat->Nat
 | []=>0
 |c::cs=>c*cs.sum+wM cs
noncomputable def O2:List Nat->Nat
 | []=>0
 |c::cs=>c*c+O2 cs
theorem BC:∀(k:Nat) (cs:List Nat),pc (aQ k cs)=wM cs
 |_,[]=>rfl
 |k,c::cs=>by
  rw[aQ,wM,<- BC (k+1) cs,<- pF (k+1) cs];have hi:=(r8 (k+1) cs).2;generalize aQ (k+1) cs=B at hi;induction c with
  |zero=>simp
  |succ c ih=>
   rw[ny,kf,pc,ih,V2];have e1:(aw c (k:Int)).filter (λy=>decide ((k:Int)<y))=[]:=vo.mpr λx hx=>by rw[gp hx];simp
   have e2:B.filter (λy=>decide ((k:Int)<y))=B:=Wn.mpr λx hx=>by have:=hi x hx;simp;right
   rw[e1,e2,zr];simp;right
theorem CD:∀cs:List Nat,2*wM cs+O2 cs=cs.sum*cs.sum
 | []=>rfl
 |c::cs=>by
  have ih:=CD cs;rw[wM,O2,Vj,zr,Y4 c,Y4 cs.sum,<- ih,YV cs.sum c];right
theorem Dj:∀cs:List Nat,4*cs.sum<=O2 cs+4*cs.length
 | []=>bt _
 |c::cs=>by
  have ih:=Dj cs;have h:4*c<=c*c+4:=by
   rcases W9 c 4 with z | z
   ·have:c=0 \/ c=1 \/ c=2 \/ c=3:=⋯;rcases this with rfl | rfl | rfl | rfl<;>decide
   ·have:=Wb c z;right
  rw[O2,Vj,cj];right
variable {cs:List Nat}
theorem IT(C:Cnt cs):pc (aQ 0 cs)<=60:=by
 rw[BC];have h1:=CD cs;have h2:=Dj cs;have h3:=C.tot;have h4:=C.hi;generalize cs.sum=S at *;have h5:S*S<=12*S:=Wb S h3;right
theorem AS(C:Cnt cs):2<=(aQ 0 cs).length/\(aQ 0 cs).length<=12:=by
 rw[pF];have h:∀cs:List Nat,(∀c∈cs,1<=c)->cs.length<=cs.sum:=by
  intro cs;induction cs with
  |nil=>intro _;simp
  |cons c cs ih=>
   intro h;have h1:=h c (by simp);have h2:=ih λx hx=>h x (by simp[hx]);simp only[cj,Vj];right
 have:=h cs C.ok;have:=C.lo;have:=C.tot;right
end Lw
variable {row:List Int}
namespace Lw
open L2 Z
open Sf (Rw crs uU Pre Good aJ bG place many)
open Fl (kd ids Walk eV tls pc aP Pt)
noncomputable def ascs(ks ZH:List Int):Nat->Nat->List Int
 |0,_=>[]
 |m+1,j=>(if kd ks (ZH.getD j 0)<kd ks (ZH.getD (j+1) 0) then [(j:Int)] else [])++ascs ks ZH m (j+1)
theorem CL(ks ZH:List Int):∀(m j:Nat) (x:Int),x∈ascs ks ZH m j -> ∃p:Nat,x=p/\p<j+m/\kd ks (ZH.getD p 0)<kd ks (ZH.getD (p+1) 0)
 |0,_,_,h=>by cases h
 |m+1,j,x,h=>by
  rw[ascs,fm] at h;rcases h with h | h
  ·split at h
   ·rw[fe] at h;exact⟨j,h,⋯,by assumption⟩
   ·cases h
  ·obtain⟨p,e,l,k⟩:=CL ks ZH m (j+1) x h;exact⟨p,e,⋯,k⟩
theorem CK(ks ZH:List Int):∀(m j:Nat),ascs ks ZH m j=[] -> ∀p,j<=p->p<j+m->kd ks (ZH.getD (p+1) 0)<=kd ks (ZH.getD p 0)
 |0,_,_,p,h1,h2=>by right
 |m+1,j,h,p,h1,h2=>by
  rw[ascs,List.append_eq_nil_iff] at h;by_cases e:p=j
  ·subst e;have:=h.1;split at this
   ·cases this
   ·right
  ·exact CK ks ZH m (j+1) h.2 p ⋯ ⋯
theorem CM(ks ZH:List Int):∀(m j:Nat),(ascs ks ZH m j).length<=m
 |0,_=>bt _
 |m+1,j=>by rw[ascs,eg];have:=CM ks ZH m (j+1);split<;>simp<;>right
variable {ZH:List Int}
theorem OA(hn:ks.length<=12)(P:Pt ks.length ZH):∀(m j:Nat) (acc:List Int),j+m+1=ks.length->acc.length+m<=100->Q (.nw (.lst (bN (acc++ascs ks ZH m j)))) ->
  eF [.un,.v (.lst (bN ks)),.v (.lst (bN ZH))] (gN 0) (bI (aR zR (aR cV (a8 1) (aR cV (a8 2) (a8 0))) (aR cV (a8 1) (aR cV (a8 2) (aR dG (a8 0) (eC (.int 1))))))) (a8 0) (aV j m) (bN acc) Q:=by
 have hl:=P.len;intro m;induction m with
 |zero=>
  intro j acc _ ha h;push_cast [bK];simpa [ascs] using h
 |succ m ih=>
  intro j acc hj ha h;have b1:=P.bd j ⋯;have b2:=P.bd (j+1) ⋯;push_cast [b7,eU (show j<ZH.length by right),show ((j:Int)+1)=((j+1:Nat):Int) by right,eU (show j+1<ZH.length by right),fD b1.1 (show ZH.getD j 0<ks.length by right),fD b2.1 (show ZH.getD (j+1) 0<ks.length by right),bf];rw[ascs] at h;by_cases e:kd ks (ZH.getD j 0)<kd ks (ZH.getD (j+1) 0)
  ·rw[ZE e];rw[ZE e] at h;refine⟨⋯,?_⟩;rw[show bN acc++[Dv.int (j:Int)]=bN (acc++[(j:Int)]) by simp];exact ih (j+1) _ ⋯ (by simp;right) (by simpa using h)
  ·rw[Zg e];rw[Zg e] at h;exact ih (j+1) _ ⋯ ⋯ (by simpa using h)
theorem N8:∀l:List Int,eqD (.lst (bN l)) (.lst [])=l.isEmpty
 | []=>by simp[eqD,gR,gR.pyDs,jb,jg]
 |i::l=>by simp[eqD,gR,gR.pyDs,jb,jg]
theorem UW(l:List Int):eJ 8 (.lst (bN l))=aj:=tQ 7 l
noncomputable def qB:Fn:=λds Q=>∃(ks:List Int) (c:Int),ds=[.lst (bN ks),.int c]/\2<=ks.length/\ks.length<=12/\pc ks<=60 /\ ∀row e,Walk ks (ids ks.length) row e->eV ks e->row.length<=60->Q (.nw (.lst (bN row)))
theorem Jv:∀ds Q,qB ds Q->ds.length=2:=by rintro ds Q ⟨_,_,rfl,_⟩;rfl
theorem Mh:MonoF qB:=⟨λds Q Q' w z=>by obtain⟨a,b,c,d,e,f,h⟩:=z;exact⟨a,b,c,d,e,f,λr x y z u=>w _ (h r x y z u)⟩⟩
variable {tl:cD}{E:En}{x0 x1 x3 x4 x5 x6 x7 x8:Sl}
theorem OG(hl:ZH.length=ks.length)(h:tl E [x0,x1,.v (.lst (bN ZH)),x3,x4,x5,.v (.int ((ks.length:Int)-1)),x7,x8]):
  aU (c9 6 (aR lF (fF d8 (a9 (a8 2) aF)) (eC (.int 1)))) tl E [x0,x1,.v (.lst (bN ZH)),x3,x4,x5,x6,x7,x8]:=by
 push_cast [bf,hl];exact h
theorem OF(h2:2<=ks.length)(hn:ks.length<=12)(P:Pt ks.length ZH)(h:tl E [.v (.lst (bN ks)),x1,.v (.lst (bN ZH)),x3,x4,x5,.v (.int ((ks.length:Int)-1)),.v (.lst (bN (ascs ks ZH (ks.length-1) 0))),x8]):
  aU (c9 7 (gE 1 [0,2] (dH (a9 (a8 6) aF)) (gN 0) (bI (aR zR (aR cV (a8 1) (aR cV (a8 2) (a8 0))) (aR cV (a8 1) (aR cV (a8 2) (aR dG (a8 0) (eC (.int 1))))))) (a8 0))) tl E [.v (.lst (bN ks)),x1,.v (.lst (bN ZH)),x3,x4,x5,.v (.int ((ks.length:Int)-1)),x7,x8]:=by
 ac_nf;refine⟨⋯,?_⟩;rw[show ((ks.length:Int)-1).toNat=ks.length-1 by right];exact OA hn P (ks.length-1) 0 [] ⋯ (by simp;right) h
variable {x2:Sl}
theorem OE(h0:l=[]->E.rt (.nw (.lst (bN row))))(h1:l≠[]->tl E [x0,x1,x2,.own a (.lst (bN row)),x4,x5,x6,.v (.lst (bN l)),x8]):
  aU (jN (bI (aR sP (a8 7) (jQ aF))) (cP (a8 3)) cA) tl E [x0,x1,x2,.own a (.lst (bN row)),x4,x5,x6,.v (.lst (bN l)),x8]:=by
 push_cast [N8,UW];refine⟨rfl,?_⟩;cases l with
 |nil=>exact h0 rfl
 |cons i l=>exact h1 (by simp)
theorem OD{c k:Int}(hl:l≠[])(hk:0<=k/\k<=500)(h:∀q:Int,0<=q->q<l.length->tl E [x0,.v (.int c),x2,x3,x4,.v (.int k),x6,.v (.lst (bN l)),.v (.int q)]):
  aU (c9 8 (b9 kL (a9 (a8 1) (a9 (a8 5) (a9 (fF d8 (a9 (a8 7) aF)) aF))))) tl E [x0,.v (.int c),x2,x3,x4,.v (.int k),x6,.v (.lst (bN l)),x8]:=by
 have a05:(0:Int)<l.length:=by cases l with | nil=>exact absurd rfl hl | cons=>simp<;>right
 push_cast [bf];refine⟨c,k,l.length,rfl,hk.1,hk.2,a05,λq q0 q1=>?_⟩;ac_nf;exact h q q0 q1
variable {q:Int}
theorem OC{ZI:Int}(hl:l≠[])(ll:l.length<=100)(q0:0<=q)(q1:q<l.length)(h:∀ZI q:Int,0<=q->q<l.length->tl E [x0,x1,x2,x3,.v (.int ZI),x5,x6,.v (.lst (bN l)),.v (.int q)]):
  aU (jN (bI (aR Dy (a8 4) (eC (.int 1)))) (aU (c9 8 (aR i6 (a8 4) (fF d8 (a9 (a8 7) aF)))) (c9 4 (aR nA (a8 4) (fF d8 (a9 (a8 7) aF))))) cA) tl E [x0,x1,x2,x3,.v (.int ZI),x5,x6,.v (.lst (bN l)),.v (.int q)]:=by
 have a05:(0:Int)<l.length:=by cases l with | nil=>exact absurd rfl hl | cons=>simp<;>right
 push_cast [bf];split
 ·exact⟨a05,⟨a05,⋯⟩,h _ _ (zt ZI ⋯) (vn ZI a05)⟩
 ·exact h _ _ q0 q1
theorem OB{p:Nat}(q0:0<=q)(q1:q<l.length)(ep:l.getD q.toNat 0=p)(hp:p+1<ZH.length)(pl:ZH.length<=100)(rl:row.length<=200)(h:E.nx [x0,x1,.v (.lst (bN (aP ZH p))),.own a (.lst (bN row++[Dv.int (p:Int)])),x4,x5,x6,.v (.lst (bN l)),.v (.int q)]):
  aU (nW 3 (aR cV (a8 7) (a8 8))) (c9 2 (b9 dF (a9 (a8 2) (a9 (aR cV (a8 7) (a8 8)) aF)))) E [x0,x1,.v (.lst (bN ZH)),.own a (.lst (bN row)),x4,x5,x6,.v (.lst (bN l)),.v (.int q)]:=by
 push_cast [fD q0 q1,ep,bf];refine⟨⋯,ZH,p,rfl,pl,hp,?_⟩;ac_nf;exact h
theorem UZ{d:Dv}{Q:List Sl->Prop}(h:Q [x0,x1,x2,x3,x4,.v d,x6,x7,x8]):gN 5 d [x0,x1,x2,x3,x4,x5,x6,x7,x8] Q:=by
 ac_nf;exact h
theorem OH{c:Int}(h2:2<=ks.length)(hn:ks.length<=12)(hp:pc ks<=60)(hQ:∀row e,Walk ks (ids ks.length) row e->eV ks e->row.length<=60->Q (.nw (.lst (bN row))))(hE:E.rt=Q):
  ∀(i k:Nat) (ZI:Int) (ZH row:List Int) (s5 s6 s7 s8:Sl),k+i=ks.length*ks.length->row.length=k->Walk ks (ids ks.length) row ZH ->
  aX (gN 5) (kT kL dF) [] (aV k i) E [.v (.lst (bN ks)),.v (.int c),.v (.lst (bN ZH)),.own a (.lst (bN row)),.v (.int ZI),s5,s6,s7,s8]:=by
 have sq:ks.length*ks.length<=12*12:=my hn hn;have pl:=Fl.Oc (l:=ks) ⋯;have X9:∀{row ZH},Walk ks (ids ks.length) row ZH->row.length<=pc ks:=λw=>by
  have:=w.count (by simp);rw[Fl.Hv] at this;right
 intro i;induction i with
 |zero=>
  intro k ZI ZH row s5 s6 s7 s8 hk rl w;have:=X9 w;right
 |succ i ih=>
  intro k ZI ZH row s5 s6 s7 s8 hk rl w;rw[b7,b8];refine⟨λp hp=>by simp at hp,?_⟩;have P:=w.pt (Pt.ids _);have hl:=P.len;have rw60:=X9 w;have next:∀(ZI:Int) (p:Nat) (s5 s6 s7 s8:Sl),p+1<ks.length->kd ks (ZH.getD p 0)<kd ks (ZH.getD (p+1) 0) ->
    aX (gN 5) (kT kL dF) [] (aV ((k:Int)+1) i) E [.v (.lst (bN ks)),.v (.int c),.v (.lst (bN (aP ZH p))),.own a (.lst (bN row++[Dv.int (p:Int)])),.v (.int ZI),s5,s6,s7,s8]:=λZI p s5 s6 s7 s8 hp hk'=>by
   have:=ih (k+1) ZI (aP ZH p) (row++[(p:Int)]) s5 s6 s7 s8 ⋯ (by simp[rl]) (w.snoc hp hk');rw[show (((k+1:Nat)):Int)=(k:Int)+1 by right] at this;simpa using this
  generalize aX (gN 5) (kT kL dF) [] (aV ((k:Int)+1) i) E=G at next ⊢;have am:=CL ks ZH (ks.length-1) 0;have an:=CK ks ZH (ks.length-1) 0;have al:=CM ks ZH (ks.length-1) 0;refine UZ (OG hl (OF h2 hn P ?_));generalize ascs ks ZH (ks.length-1) 0=l at am an al;refine OE (λle=>?_) λle=>OD le ⋯ λq q0 q1=>OC le ⋯ q0 q1 λZI q q0 q1=>?_
  ·show E.rt _;rw[hE];exact hQ row ZH w (λp hp=>an le p ⋯ ⋯) ⋯
  ·have hin:l.getD q.toNat 0∈l:=by
    have hk:q.toNat<l.length:=⋯;simp only[df,au hk,YO];exact fw hk
   obtain⟨p,ep,lp,kp⟩:=am _ hin;exact OB q0 q1 ep ⋯ ⋯ ⋯ (next ZI p _ _ _ _ ⋯ kp)
theorem Ex:∀ds Q,qB ds Q->sR kL dF ↥Q (aM ["_law_bands_here", "_law_cell", "_law_path", "_law_row_here", "_law_rest", "_law_step", "_law_last", "_law_spots", "_law_pick_here"] ds):=by
 rintro ds Q ⟨ks,c,rfl,h2,hn,hp,h⟩;have sq:ks.length*ks.length<=12*12:=my hn hn;push_cast [bf];refine⟨⋯,?_⟩;intro a;rw[show ((ks.length:Nat):Int).toNat=ks.length by right,vJ ks.length];have e:(ks.length:Int)*(ks.length:Int)=((ks.length*ks.length:Nat):Int):=by simp
 refine⟨u8 ⋯ ⋯,by rw[e];right,?_⟩;rw[e,br];exact OH (Q:=Q) h2 hn hp h rfl (ks.length*ks.length) 0 c _ [] _ _ _ _ ⋯ rfl (.nil _)
end Lw
namespace Lw
open L2 Z
open Sf (Rw crs uU Pre Good aJ bG place many)
open Fl (kd ids Walk eV tls pc aP Pt)
noncomputable def Al(ts us:List Ti):Prop:=ts.length=us.length /\ ∀(i:Nat) (t u:Ti),ts[i]?=aa t->us[i]?=aa u->t.1=u.1/\t.2.1=u.2.1/\t.2.2=Fl.srt u.2.2
theorem Al.nil:Al [] []:=⟨rfl,λi t u h=>by simp at h⟩
variable {ts:List Ti}
theorem Al.snoc{us:List Ti}{t u:Ti}(h:Al ts us)(e1:t.1=u.1)(e2:t.2.1=u.2.1)(e3:t.2.2=Fl.srt u.2.2):Al (ts++[t]) (us++[u]):=by
 refine⟨by simp[h.1],λi x y hx hy=>?_⟩;by_cases hi:i<ts.length
 ·rw[bh hi] at hx;rw[bh (by rw[<- h.1];exact hi)] at hy;exact h.2 i x y hx hy
 ·rw[bo ⋯] at hx;rw[bo (by rw[<- h.1];right)] at hy;have:i-ts.length=0:=by
   have:=(cg.mp hx).1;simp at this;right
  rw[this] at hx;rw[<- h.1,this] at hy;simp only[qj,jd] at hx hy;subst hx hy;exact⟨e1,e2,e3⟩
noncomputable def jE(ks row:List Int)(fl:List Ti):Prop:=∃ts,fl.Perm ts/\Al ts (tls (ids ks.length) row)
variable {e:List Int}
theorem Al.keys(w:Walk ks (ids ks.length) row e)(h:Al ts (tls (ids ks.length) row)):CO ts:=by
 have nd:=w.nodup (Pt.ids _);rw[oa,ir] at nd;have pw:=da.mp nd;refine da.mpr λi j hi hj hij z=>?_;have hi':i<(tls (ids ks.length) row).length:=by rw[<- h.1];exact hi
 have hj':j<(tls (ids ks.length) row).length:=by rw[<- h.1];exact hj
 obtain⟨a1,a2,_⟩:=h.2 i _ _ (au hi) (au hi');obtain⟨b1,b2,_⟩:=h.2 j _ _ (au hj) (au hj');exact pw i j hi' hj' hij (by rw[<- a1,<- a2,<- b1,<- b2,z.1,z.2])
theorem CO.perm{a b:List Ti}(h:CO a)(p:a.Perm b):CO b:=(p.pairwise_iff (λ{x y} h z=>h ⟨z.1.symm,z.2.symm⟩)).mp h
theorem jE.keys{ks row e:List Int}{fl:List Ti}(w:Walk ks (ids ks.length) row e)(h:jE ks row fl):CO fl:=by
 obtain⟨ts,p,a⟩:=h;exact(a.keys w).perm p.symm
theorem jE.len{fl:List Ti}(h:jE ks row fl):fl.length=row.length:=by
 obtain⟨ts,p,a⟩:=h;rw[p.length_eq,a.1,Fl.i9]
theorem jE.cov{fl:List Ti}(w:Walk ks (ids ks.length) row e)(d:eV ks e)(m:gO ks)(h:jE ks row fl):Tn ks fl:=by
 obtain⟨ts,p,al⟩:=h;intro a c h0 hac hc hk;have:=m a c h0 ⋯ hc;obtain⟨t,ht,e1,e2⟩:=w.all (Pt.ids _) d (x:=a) (y:=c) ⋯ (Fl.tE h0 hac hc);obtain⟨i,hi,gi⟩:=cp.mp ht;have hi':i<ts.length:=by rw[al.1];exact hi
 obtain⟨a1,a2,_⟩:=al.2 i _ _ (au hi') (au hi);exact⟨ts[i],p.mem_iff.mpr (fw hi'),by rw[a1,gi,e1],by rw[a2,gi,e2]⟩
theorem jE.below{fl:List Ti}(w:Walk ks (ids ks.length) row e)(h:jE ks row fl){k:Nat}{v:Ti}(hk:(tls (ids ks.length) row)[k]?=aa v):G0 fl v.1 v.2.1=Fl.srt v.2.2:=by
 have ky:=h.keys w;obtain⟨ts,p,al⟩:=h;obtain⟨hk',gk⟩:=cg.mp hk;have hi':k<ts.length:=by rw[al.1];exact hk'
 obtain⟨a1,a2,a3⟩:=al.2 k _ _ (au hi') hk;have hm:ts[k]∈fl:=p.mem_iff.mpr (fw hi');obtain⟨u,hu,mu,u1,u2,eu⟩:=wE (l:=fl) (a:=v.1) (c:=v.2.1) ⟨ts[k],hm,a1,a2⟩;have:u=ts[k]:=by
  obtain⟨i,hi,gi⟩:=cp.mp mu;obtain⟨j,hj,gj⟩:=cp.mp hm;have pw:=da.mp ky;rcases sd i j with z | z | z
  ·exact(pw i j hi hj z ⟨by rw[gi,gj,u1,a1],by rw[gi,gj,u2,a2]⟩).elim
  ·subst z;rw[<- gi,gj]
  ·exact(pw j i hj hi z ⟨by rw[gi,gj,u1,a1],by rw[gi,gj,u2,a2]⟩).elim
 rw[eu,this];exact a3
theorem GA{r:List Int}(w:Walk ks l r e)(p:Nat):tls l (r++[(p:Int)])=tls l r++[(e.getD p 0,e.getD (p+1) 0,e.take p)]:=by
 induction w with
 |nil l=>simp[tls]
 | @cons l e r q a b w ih=>rw[kf,tls,tls,br,ih,kf]
noncomputable def Ue(fl:List Ti):Prop:=fl.Pairwise λt u=>gZ [t.1,t.2.1] [u.1,u.2.1]=aj
noncomputable def jY:Fn:=λds Q=>∃(ks row e:List Int),ds=[.lst (bN ks),.lst (bN row)]/\ks.length<=12/\Walk ks (ids ks.length) row e/\row.length<=60 /\ ∀fl,jE ks row fl->Ue fl->Q (.nw (.lst (lT fl)))
theorem FN:∀ds Q,jY ds Q->ds.length=2:=by rintro ds Q ⟨_,_,_,rfl,_⟩;rfl
theorem HJ:MonoF jY:=⟨λds Q Q' w z=>by obtain⟨a,b,c,d,e,f,g,h⟩:=z;exact⟨a,b,c,d,e,f,g,λr x y=>w _ (h r x y)⟩⟩
variable {ZH:List Int}{p:Nat}{E:En}{x0 x1:Sl}
theorem PY{ms:List Int}{l:List Dv}{tl:cD}(hp:p+1<ZH.length)(pl:ZH.length<=20)(ll:l.length<=200)(h:∀ms:List Int,ms=Fl.srt (ZH.take p)->tl E [x0,x1,.v (.lst (bN ZH)),.own a (.lst (l++[Dv.tup [Dv.int (ZH.getD p 0),Dv.int (ZH.getD (p+1) 0),Dv.tup (bN ms)]])),.v (.int p)]):
  aU (nW 3 (gI (a9 (aR cV (a8 2) (a8 4)) (a9 (aR cV (a8 2) (aR dG (a8 4) (eC (.int 1)))) (a9 (fF kA (a9 (fF iV (a9 (Fg (a8 2) gA (lL (a8 4))) aF)) aF)) aF))))) tl E [x0,x1,.v (.lst (bN ZH)),.own a (.lst l),.v (.int p)]:=by
 push_cast [eU (show p<ZH.length by right),show ((p:Int)+1)=((p+1:Nat):Int) by right,eU hp,DU (show (0:Int)<=p by right),br,<- X0];refine y7 (by rw[ef];right) λms hm hs=>?_;ac_nf;exact⟨⋯,h ms (Fl.jW hm hs)⟩
variable {x3:Sl}
theorem PX(hp:p+1<ZH.length)(pl:ZH.length<=20)(h:E.nx [x0,x1,.v (.lst (bN (aP ZH p))),x3,.v (.int p)]):c9 2 (b9 dF (a9 (a8 2) (a9 (a8 4) aF))) E [x0,x1,.v (.lst (bN ZH)),x3,.v (.int p)]:=by
 ac_nf;refine⟨ZH,p,rfl,⋯,hp,?_⟩;ac_nf;exact h
theorem Ua{d:Dv}{x2 x4:Sl}{Q:List Sl->Prop}(h:Q [x0,x1,x2,x3,.v d]):gN 4 d [x0,x1,x2,x3,x4] Q:=by
 ac_nf;exact h
theorem KU{x y:Sl}(hn:ks.length<=12):∀(r done ZH e:List Int) (ts:List Ti) (s:Sl),Walk ks (ids ks.length) done ZH->Walk ks ZH r e->Al ts (tls (ids ks.length) done)->ts.length+r.length<=100 ->
  (∀ZH ts s,Al ts (tls (ids ks.length) (done++r))->E.nx [x,y,.v (.lst (bN ZH)),.own a (.lst (lT ts)),s]) ->
  aX (gN 4) (j5 dF) [] (bN r) E [x,y,.v (.lst (bN ZH)),.own a (.lst (lT ts)),s]:=by
 intro r;induction r with
 |nil=>
  intro done ZH e ts s w1 w2 al hl h;rw[show bN []=[] from rfl,b6];exact⟨λp hp=>by simp at hp,h ZH ts s (by simpa using al)⟩
 |cons p r ih=>
  intro done ZH e ts s w1 w2 al hl h;obtain⟨p,rfl,hp,hk,w2'⟩:∃q:Nat,p=q/\q+1<ks.length/\kd ks (ZH.getD q 0)<kd ks (ZH.getD (q+1) 0)/\Walk ks (aP ZH q) r e:=by
   cases w2 with
   |cons a b w=>exact⟨_,rfl,a,b,w⟩
  have P:=w1.pt (Pt.ids _);have pl:=P.len;simp only[cj] at hl;rw[show bN ((p:Int)::r)=.int p::bN r from rfl,b8];refine⟨λp hp=>by simp at hp,?_⟩;have next:∀ms:List Int,ms=Fl.srt (ZH.take p)->aX (gN 4) (j5 dF) [] (bN r) E [x,y,.v (.lst (bN (aP ZH p))),.own a (.lst (lT ts++[Dv.tup [Dv.int (ZH.getD p 0),Dv.int (ZH.getD (p+1) 0),Dv.tup (bN ms)]])),.v (.int p)]:=λms hm=>by
   have al':Al (ts++[(ZH.getD p 0,ZH.getD (p+1) 0,ms)]) (tls (ids ks.length) (done++[(p:Int)])):=by
    rw[GA w1];exact al.snoc rfl rfl hm
   have:=ih (done++[(p:Int)]) (aP ZH p) e (ts++[(ZH.getD p 0,ZH.getD (p+1) 0,ms)]) (.v (.int p)) (w1.snoc hp hk) w2' al' (by simp;right) (by simpa using h);simpa using this
  generalize aX (gN 4) (j5 dF) [] (bN r) E=G at next ⊢;exact Ua (PY (ms:=[]) ⋯ ⋯ (by simp;right) λms hm=>PX ⋯ ⋯ (next ms hm))
theorem BJ:∀ds Q,jY ds Q->nN dF ↥Q (aM ["_law_bands_here", "_law_row_here", "_law_path", "_law_tiles", "_law_p"] ds):=by
 rintro ds Q ⟨ks,row,e,rfl,hn,w,rl,h⟩;push_cast [bf];refine⟨⋯,?_⟩;intro a;rw[show ((ks.length:Nat):Int).toNat=ks.length by right,vJ ks.length];refine KU hn row [] (ids ks.length) e [] _ (.nil _) w Al.nil (by simp;right) λZH ts s al=>?_;ac_nf;rw[gw] at al;have tl:ts.length=row.length:=by rw[al.1,Fl.i9]
 rw[show lT ts=(ts.map λt=>([t.1,t.2.1],[Dv.tup (bN t.2.2)])).map tI by rw[ju];rfl];refine y6 (k:=1) (by simp;right) (λt ht=>?_) ?_ λts' hp hs=>?_
 ·obtain⟨u,_,rfl⟩:=jh.mp ht;rfl
 ·rw[ir];exact(al.keys w).imp λ{t u} z q=>z (by simpa using q)
 ·obtain⟨fl,hf,rfl⟩:=p7 hp rfl;rw[ju];rw[ir] at hs;ac_nf;exact h fl ⟨ts,hf,al⟩ hs
noncomputable def nS:Fn:=λds Q=>∃(l:List Int) (k:Int),ds=[.lst (bN l),.int k]/\l.length<=100/\Q (.v (.int ((l.filter λb=>decide (b=k)).length)))
theorem FL:∀ds Q,nS ds Q->ds.length=2:=by rintro ds Q ⟨_,_,rfl,_⟩;rfl
theorem HI:MonoF nS:=⟨λds Q Q' w z=>by obtain⟨a,b,c,d,h⟩:=z;exact⟨a,b,c,d,w _ h⟩⟩
theorem N6{k:Int}:∀(l acc:List Int),acc.length+l.length<=100->Q (.nw (.lst (bN (acc++l.filter λb=>decide (b=k))))) ->
  eF [.un,.v (.int k)] (gN 0) (bI (aR sP (a8 0) (a8 1))) (a8 0) (bN l) (bN acc) Q:=by
 intro l;induction l with
 |nil=>
  intro acc _ h;ac_nf;simpa using h
 |cons b l ih=>
  intro acc hl h;simp only[cj] at hl;push_cast [bf];by_cases e:b=k
  ·rw[ZE e];refine⟨⋯,?_⟩;rw[show bN acc++[Dv.int b]=bN (acc++[b]) by simp];refine ih _ (by simp;right) ?_;rw[vb (by simpa using e)] at h;simpa using h
  ·rw[Zg e];refine ih _ ⋯ ?_;rw[vc (by simpa using e)] at h;exact h
theorem D0:∀ds Q,nS ds Q->pZ ↥Q (aM ["_law_bands_here", "_law_kind"] ds):=by
 rintro ds Q ⟨l,k,rfl,hl,h⟩;ac_nf;refine N6 l [] (by simp;right) ?_;push_cast [bf];exact h
theorem wF:∀(j:Nat) (cs:List Nat) (i:Nat),((aQ j cs).filter λb=>decide (b=((j+i:Nat):Int))).length=cs.getD i 0
 |_,[],i=>by simp[aQ]
 |j,c::cs,0=>by
  have key:∀(k:Nat) (cs:List Nat),j<k->(aQ k cs).filter (λb=>decide (b=((j+0:Nat):Int)))=[]:=by
   intro k cs hk;apply vo.mpr;intro x hx;have:=(r8 k cs).2 x hx;simp;right
  rw[aQ,V2,key (j+1) cs ⋯,ic,Wn.mpr (λx hx=>by rw[gp hx];simp)];simp
 |j,c::cs,i+1=>by
  have e:=wF (j+1) cs i;rw[aQ,V2,eg];have z:(aw c (j:Int)).filter (λb=>decide (b=((j+(i+1):Nat):Int)))=[]:=by
   apply vo.mpr;intro x hx;rw[gp hx];simp;right
  rw[z,show j+(i+1)=j+1+i by right,e];simp
variable {cs:List Nat}
theorem DW(C:Cnt cs):rA (bN (aQ 0 cs)) (-1)=aa (.int ((cs.length:Int)-1)):=by
 have hne:cs≠[]:=by intro z;have:=C.lo;rw[z] at this;simp at this
 have e:cs=cs.dropLast++[cs.getLast hne]:=(ri hne).symm;have h1:=C.ok _ (List.getLast_mem hne);have lo:=C.lo;generalize cs.getLast hne=c at *;generalize cs.dropLast=ds at *;subst e;obtain⟨c,rfl⟩:∃k,c=k+1:=⟨c-1,⋯⟩;rw[r6,rn];unfold rA uL;rw[Zg ∅,ZE (by simp;right)];simp only[bf,eg,nh,Option.bind_some];rw[show (-1+(((aQ 0 ds).length+(c+1):Nat):Int)).toNat=(aQ 0 ds).length+c by right];simp
noncomputable def GN(k:Nat)(c:Nat):Rw:=⟨6-2*(k:Int),1,(c:Int)⟩
noncomputable def d6:Nat->List Nat->List Rw
 |_,[]=>[]
 |k,c::cs=>GN k c::d6 (k+1) cs
theorem rQ:∀(k:Nat) (cs:List Nat),(d6 k cs).length=cs.length
 |_,[]=>rfl
 |k,c::cs=>by rw[d6,cj,cj,rQ]
theorem vI:∀(k:Nat) (cs:List Nat),bG k (d6 k cs)=aQ k cs
 |_,[]=>rfl
 |k,c::cs=>by
  rw[d6,bG,aQ,vI (k+1) cs];rfl
theorem vH:∀(k:Nat) (cs:List Nat) (r:Rw),r∈d6 k cs -> ∃(j c:Nat),r=GN j c/\k<=j/\j<k+cs.length/\c∈cs
 |_,[],r,h=>by cases h
 |k,c::cs,r,h=>by
  rcases dm.mp h with rfl | h
  ·exact⟨k,c,rfl,bt _,by simp,by simp⟩
  ·obtain⟨j,d,e,h1,h2,h3⟩:=vH (k+1) cs r h;exact⟨j,d,e,⋯,by simp;right,by simp[h3]⟩
theorem B4:∀(k:Nat) (cs:List Nat),uU (d6 k cs)
 |_,[]=>List.Pairwise.nil
 |k,c::cs=>by
  refine iz.mpr ⟨λr hr=>?_,B4 (k+1) cs⟩;obtain⟨j,d,rfl,h1,_,_⟩:=vH (k+1) cs r hr;show 0<(6-2*(k:Int))*1-(6-2*(j:Int))*1;right
theorem xV:∀(k:Nat) (cs:List Nat),many (d6 k cs)=(cs.sum:Int)
 |_,[]=>rfl
 |k,c::cs=>by
  have:=xV (k+1) cs;unfold many at this ⊢;rw[d6,de,Vj,this,Vj];show (c:Int)+_=_;right
theorem Eo(C:Cnt cs):Good (d6 0 cs):=by
 have lo:=C.lo;have hi:=C.hi;have tt:=C.tot;refine⟨by rw[rQ];right,by rw[rQ];right,B4 0 cs,λr hr=>?_,by rw[xV];right⟩;obtain⟨j,c,rfl,_,h2,h3⟩:=vH 0 cs r hr;have:=C.ok c h3;refine⟨.inl (by show (0:Int)<1;decide),?_,?_,?_,?_⟩
 ·show -999999999999<=6-2*(j:Int);right
 ·show 6-2*(j:Int)<=999999999999;right
 ·show (1:Int)<=999999999999;decide
 ·show (1:Int)<=(c:Int);right
noncomputable def jU(C:af):Fn:=λds Q=>∃cs:List Nat,ds=[.lst (bN (aQ 0 cs))]/\Cnt cs/\Q (.nw (bZ C (d6 0 cs)))
theorem DH:∀ds Q,jU C ds Q->ds.length=1:=by rintro ds Q ⟨_,rfl,_⟩;rfl
theorem FC:MonoF (jU C):=⟨λds Q Q' w z=>by obtain⟨a,b,c,h⟩:=z;exact⟨a,b,c,w _ h⟩⟩
theorem xU:∀(k:Nat) (cs:List Nat) (c:Nat),d6 k (cs++[c])=d6 k cs++[GN (k+cs.length) c]
 |_,[],_=>by simp[d6]
 |k,a::cs,c=>by
  rw[kf,d6,d6,xU (k+1) cs c,kf,cj,show k+1+cs.length=k+(cs.length+1) by right]
theorem J6(C:Cnt cs):∀(m k:Nat),k+m=cs.length->Q (.nw (.lst (CP (d6 0 cs)))) ->
  eF [.un,.v (.lst (bN (aQ 0 cs)))] (gN 0) jM (gI (a9 (aR lF (eC (.int 6)) (aR gL (eC (.int 2)) (a8 0))) (a9 (eC (.int 1)) (a9 (b9 nS (a9 (a8 1) (a9 (a8 0) aF))) aF)))) (aV k m) (CP (d6 0 (cs.take k))) Q:=by
 intro m;have hi:=C.hi;have bl:=(AS C).2;induction m with
 |zero=>
  intro k hk h;rw[bK,iQ,pf ⋯];exact h
 |succ m ih=>
  intro k hk h;have hlt:k<cs.length:=⋯;have rl:=rQ 0 (cs.take k);rw[ef] at rl;push_cast [b7];refine⟨u8 ⋯ ⋯,aQ 0 cs,k,rfl,⋯,?_⟩;have fb:=wF 0 cs k;rw[rn] at fb;push_cast [fb,bf];refine⟨⋯,?_⟩;have:=ih (k+1) ⋯ h;rw[List.take_add_one,au hlt] at this;simp only[Option.toList_some] at this;rw[xU,rn,ef,pi ⋯,show (((k+1:Nat)):Int)=(k:Int)+1 by right] at this;unfold CP at this ⊢;rw[yi] at this;have ec:cs.getD k 0=cs[k]:=by simp[df,hlt]
  rw[ec];exact this
theorem BH:∀ds Q,jU C ds Q->nK nS (rO C) ↥Q (aM ["_law_bands_here"] ds):=by
 rintro ds Q ⟨cs,rfl,C',h⟩;have hi:=C'.hi;have lo:=C'.lo;push_cast [DW C'];refine⟨⋯,?_⟩;rw[show ((cs.length:Int)-1+1).toNat=cs.length by right];refine J6 C' cs.length 0 ⋯ ?_;refine⟨d6 0 cs,rfl,Eo C',?_⟩;ac_nf;exact h
theorem DL(cs:List Nat):aJ (d6 0 cs)=aQ 0 cs:=vI 0 cs
end Lw
namespace Lw
open L2 Z
open Sf (Rw crs uU Pre Good aJ bG place many)
open Fl (kd ids Walk eV tls pc aP Pt srt jW)
noncomputable def aC(ks:List Int)(a b:Int):Nat->Nat->List (Int×Int×Int)
 |0,_=>[]
 |i+1,c=>(if kd ks a<kd ks b/\kd ks b<kd ks c then [(a,b,(c:Int))] else [])++aC ks a b i (c+1)
noncomputable def aB(ks:List Int)(a:Int):Nat->Nat->List (Int×Int×Int)
 |0,_=>[]
 |i+1,b=>aC ks a b (ks.length-(b+1)) (b+1)++aB ks a i (b+1)
noncomputable def aA(ks:List Int):Nat->Nat->List (Int×Int×Int)
 |0,_=>[]
 |i+1,a=>aB ks a (ks.length-(a+1)) (a+1)++aA ks i (a+1)
theorem LO{ks:List Int}(m:gO ks){a b:Int}(h0:0<=a)(hab:a<b)(hb:b<ks.length):∀(i c:Nat),b<c->c+i<=ks.length->aC ks a b i c=if kd ks a=kd ks b then [] else yH ks a b i c
 |0,c,_,_=>by simp[aC,yH]
 |i+1,c,h1,h2=>by
  have m1:=m a b h0 ⋯ ⋯;have m2:=m b c ⋯ ⋯ ⋯;rw[aC,LO m h0 hab hb i (c+1) ⋯ ⋯];by_cases e:kd ks a=kd ks b
  ·rw[ZE e,ZE e,Zg ⋯];rfl
  ·rw[Zg e,Zg e,yH];by_cases e2:kd ks (c:Int)=kd ks b
   ·rw[ZE e2,Zg ⋯]
   ·rw[Zg e2,ZE ⋯]
theorem LP{ks:List Int}(m:gO ks){a:Nat}:∀(i b:Nat),a<b->b+i=ks.length->aB ks a i b=eW ks (yI ks a i b)
 |0,b,_,_=>rfl
 |i+1,b,h1,h2=>by
  rw[aB,LO m ⋯ ⋯ ⋯ _ _ ⋯ ⋯,LP m i (b+1) ⋯ ⋯,yI];unfold eW;rw[Wo];by_cases e:kd ks (a:Int)=kd ks (b:Int)
  ·rw[ZE e,ZE e];rfl
  ·rw[Zg e,Zg e];simp
theorem LQ{ks:List Int}(m:gO ks):∀(i a:Nat),a+i=ks.length->aA ks i a=eW ks (lG ks i a)
 |0,a,_=>rfl
 |i+1,a,h=>by
  rw[aA,LP m _ _ ⋯ ⋯,LQ m i (a+1) ⋯,lG];unfold eW;rw[Wo]
noncomputable def wV(ks:List Int):Nat->Nat->List (Int×Int×Int)
 |0,_=>[]
 |i+1,k=>(if k / (ks.length*ks.length)<k / ks.length % ks.length/\k / ks.length % ks.length<k % ks.length/\kd ks (k / (ks.length*ks.length):Nat)<kd ks (k / ks.length % ks.length:Nat)/\kd ks (k / ks.length % ks.length:Nat)<kd ks (k % ks.length:Nat) then [(((k / (ks.length*ks.length):Nat):Int),((k / ks.length % ks.length:Nat):Int),((k % ks.length:Nat):Int))] else [])++wV ks i (k+1)
theorem J0(ks:List Int):∀i k,(wV ks i k).length<=i
 |0,_=>bt _
 |i+1,k=>by rw[wV,eg];have:=J0 ks i (k+1);split<;>simp<;>right
theorem rK(ks:List Int):∀i j k,wV ks (i+j) k=wV ks i k++wV ks j (k+i)
 |0,j,k=>by rw[rn,yp];rfl
 |i+1,j,k=>by
  rw[show i+1+j=(i+j)+1 by right,wV,rK ks i j (k+1),wV,dw,show k+1+i=k+(i+1) by right]
noncomputable def fC(ks:List Int)(a b:Nat):Nat->Nat->List (Int×Int×Int)
 |0,_=>[]
 |i+1,c=>(if a<b/\b<c/\kd ks (a:Nat)<kd ks (b:Nat)/\kd ks (b:Nat)<kd ks (c:Nat) then [((a:Int),(b:Int),(c:Int))] else [])++fC ks a b i (c+1)
variable {a b:Nat}
theorem digits{c:Nat}(hb:b<n)(hc:c<n):((a*n+b)*n+c) / (n*n)=a/\((a*n+b)*n+c) / n % n=b/\((a*n+b)*n+c) % n=c:=by
 have hn:0<n:=⋯;have e1:((a*n+b)*n+c) / n=a*n+b:=by
  rw[ye,VN _ _ hn,Xv hc,rn]
 refine⟨?_,?_,?_⟩
 ·rw[<- Nat.div_div_eq_div_mul,e1,ye,VN _ _ hn,Xv hb,rn]
 ·rw[e1,ye,yv,Xw hb]
 ·rw[ye,yv,Xw hc]
theorem Ku{ks:List Int}{a b:Nat}(hb:b<ks.length):∀(i c:Nat),c+i<=ks.length->wV ks i ((a*ks.length+b)*ks.length+c)=fC ks a b i c
 |0,_,_=>rfl
 |i+1,c,h=>by
  obtain⟨d1,d2,d3⟩:=digits (a:=a) hb (show c<ks.length by right);rw[wV,fC,d1,d2,d3,ni,Ku hb i (c+1) ⋯]
theorem LI{ks:List Int}{a b:Nat}:∀(i c:Nat),c+i<=b+1->fC ks a b i c=[]
 |0,_,_=>rfl
 |i+1,c,h=>by
  rw[fC,Zg ⋯,LI i (c+1) ⋯];rfl
theorem IG(ks:List Int)(a b:Nat):∀i j c,fC ks a b (i+j) c=fC ks a b i c++fC ks a b j (c+i)
 |0,j,c=>by rw[rn,yp];rfl
 |i+1,j,c=>by
  rw[show i+1+j=(i+j)+1 by right,fC,IG ks a b i j (c+1),fC,dw,show c+1+i=c+(i+1) by right]
theorem LJ{ks:List Int}{a b:Nat}(hab:a<b):∀(i c:Nat),b<c->fC ks a b i c=aC ks a b i c
 |0,_,_=>rfl
 |i+1,c,h=>by
  rw[fC,aC,LJ hab i (c+1) ⋯];congr 1;by_cases e:kd ks (a:Nat)<kd ks (b:Nat)/\kd ks (b:Nat)<kd ks (c:Nat)
  ·rw[ZE e,ZE ⟨hab,h,e⟩]
  ·rw[Zg e,Zg λz=>e z.2.2]
theorem LH{ks:List Int}{a b:Nat}(hab:¬a<b):∀(i c:Nat),fC ks a b i c=[]
 |0,_=>rfl
 |i+1,c=>by
  rw[fC,Zg λz=>hab z.1,LH hab i (c+1)];rfl
theorem Dg(hb:b<ks.length):wV ks ks.length ((a*ks.length+b)*ks.length)=if a<b then aC ks a b (ks.length-(b+1)) (b+1) else []:=by
 have h:=Ku (ks:=ks) (a:=a) hb ks.length 0 ⋯;rw[yp] at h;rw[h];by_cases hab:a<b
 ·rw[ZE hab,show ks.length=(b+1)+(ks.length-(b+1)) by right,IG,LI _ _ ⋯,gw,rn,show b+1+(ks.length-(b+1))-(b+1)=ks.length-(b+1) by right,LJ hab _ _ ⋯]
 ·rw[Zg hab,LH hab]
theorem GD{ks:List Int}{a:Nat}:∀(j b:Nat),b+j<=a+1->b+j<=ks.length->wV ks (j*ks.length) ((a*ks.length+b)*ks.length)=[]
 |0,b,_,_=>by rw[Yy];rfl
 |j+1,b,h,h2=>by
  rw[V9,ye,rK,Dg ⋯,Zg ⋯,gw,show (a*ks.length+b)*ks.length+ks.length=(a*ks.length+(b+1))*ks.length by rw[<- V9];rfl];exact GD j (b+1) ⋯ ⋯
theorem GE{ks:List Int}{a:Nat}:∀(j b:Nat),a<b->b+j<=ks.length->wV ks (j*ks.length) ((a*ks.length+b)*ks.length)=aB ks a j b
 |0,b,_,_=>by rw[Yy];rfl
 |j+1,b,h,h2=>by
  rw[V9,ye,rK,Dg ⋯,ZE h,show (a*ks.length+b)*ks.length+ks.length=(a*ks.length+(b+1))*ks.length by rw[<- V9];rfl,GE j (b+1) ⋯ ⋯];rfl
theorem Iz(ha:a<ks.length):wV ks (ks.length*ks.length) (a*(ks.length*ks.length))=aB ks a (ks.length-(a+1)) (a+1):=by
 have l:=GD (ks:=ks) (a:=a) (a+1) 0 ⋯ ⋯;have h:=GE (ks:=ks) (a:=a) (ks.length-(a+1)) (a+1) ⋯ ⋯;rw[show (a*ks.length+0)*ks.length=a*(ks.length*ks.length) by rw[yp,Xx]] at l;have e:ks.length*ks.length=(a+1)*ks.length+(ks.length-(a+1))*ks.length:=by
  rw[<- zr,show a+1+(ks.length-(a+1))=ks.length by right]
 rw[show wV ks (ks.length*ks.length) (a*(ks.length*ks.length))=wV ks ((a+1)*ks.length+(ks.length-(a+1))*ks.length) (a*(ks.length*ks.length)) by rw[<- e],rK,l,gw,<- h];congr 1;rw[zr (a*ks.length),Xx]
theorem Kv{ks:List Int}:∀(j a:Nat),a+j=ks.length->wV ks (j*(ks.length*ks.length)) (a*(ks.length*ks.length))=aA ks j a
 |0,a,_=>by rw[Yy];rfl
 |j+1,a,h=>by
  rw[V9,ye,rK,Iz ⋯,<- V9,Kv j (a+1) ⋯];rfl
theorem J1(m:gO ks):wV ks (ks.length*ks.length*ks.length) 0=bP ks:=by
 have h:=Kv (ks:=ks) ks.length 0 ⋯;rw[Yy,<- Xx] at h;rw[h,LQ m _ _ ⋯];rfl
noncomputable def nR:Fn:=λds Q=>∃ks:List Int,ds=[.lst (bN ks)]/\1<=ks.length/\ks.length<=12/\gO ks/\Q (.nw (.lst (iA (bP ks))))
theorem Jz:∀ds Q,nR ds Q->ds.length=1:=by rintro ds Q ⟨_,rfl,_⟩;rfl
theorem HH:MonoF nR:=⟨λds Q Q' w z=>by obtain⟨a,b,c,d,e,h⟩:=z;exact⟨a,b,c,d,e,w _ h⟩⟩
variable {E:En}{x1 x3 x4 x5:Sl}
theorem SK{k:Nat}(h1:1<=ks.length)(hn:ks.length<=12){tl:cD}
  (h:tl E [.v (.lst (bN ks)),x1,.v (.int k),.v (.int (k / (ks.length*ks.length):Nat)),.v (.int (k / ks.length % ks.length:Nat)),.v (.int (k % ks.length:Nat))]):
  aU (c9 3 (aR nA (a8 2) (aR gL (fF d8 (a9 (a8 0) aF)) (fF d8 (a9 (a8 0) aF))))) (aU (c9 4 (aR i6 (aR nA (a8 2) (fF d8 (a9 (a8 0) aF))) (fF d8 (a9 (a8 0) aF)))) (aU (c9 5 (aR i6 (a8 2) (fF d8 (a9 (a8 0) aF)))) tl)) E [.v (.lst (bN ks)),x1,.v (.int k),x3,x4,x5]:=by
 have sq:ks.length*ks.length<=12*12:=my hn hn;have sq1:1*1<=ks.length*ks.length:=my h1 h1;have nn:(ks.length:Int)*(ks.length:Int)=((ks.length*ks.length:Nat):Int):=by norm_cast
 have ea:(k:Int) / ((ks.length*ks.length:Nat):Int)=((k / (ks.length*ks.length):Nat):Int):=by norm_cast
 have eb:(k:Int) / (ks.length:Int) % (ks.length:Int)=((k / ks.length % ks.length:Nat):Int):=by norm_cast
 have ec:(k:Int) % (ks.length:Int)=((k % ks.length:Nat):Int):=by norm_cast
 push_cast [bf,nn,ea,eb,ec];exact⟨u8 ⋯ ⋯,⟨⋯,⋯⟩,⟨⋯,⋯⟩,⋯,⋯,h⟩
variable {l:af}{x2:Sl}
theorem SJ{c:Nat}(ha:a<ks.length)(hb:b<ks.length)(hc:c<ks.length){acc:List (Int×Int×Int)}(hl:acc.length<=10000)
  (h:E.nx [.v (.lst (bN ks)),.own l (.lst (iA (acc++(if a<b/\b<c/\kd ks (a:Nat)<kd ks (b:Nat)/\kd ks (b:Nat)<kd ks (c:Nat) then [((a:Int),(b:Int),(c:Int))] else [])))),x2,.v (.int a),.v (.int b),.v (.int c)]):
  jN (xD (bI (mU zR zR (a8 3) (a8 4) (a8 5))) (xD (bI (aR zR (aR cV (a8 0) (a8 3)) (aR cV (a8 0) (a8 4)))) (bI (aR zR (aR cV (a8 0) (a8 4)) (aR cV (a8 0) (a8 5)))))) (nW 1 (gI (a9 (a8 3) (a9 (a8 4) (a9 (a8 5) aF))))) cA E [.v (.lst (bN ks)),.own l (.lst (iA acc)),x2,.v (.int a),.v (.int b),.v (.int c)]:=by
 have no:¬(a<b/\b<c/\kd ks (a:Nat)<kd ks (b:Nat)/\kd ks (b:Nat)<kd ks (c:Nat))->E.nx [.v (.lst (bN ks)),.own l (.lst (iA acc)),x2,.v (.int a),.v (.int b),.v (.int c)]:=λz=>by
  rw[Zg z,ic] at h;exact h
 have ka:kd ks (a:Nat)=ks.getD a 0:=by unfold kd;rw[br]
 have kb:kd ks (b:Nat)=ks.getD b 0:=by unfold kd;rw[br]
 have kc:kd ks (c:Nat)=ks.getD c 0:=by unfold kd;rw[br]
 rw[ka,kb,kc] at no h;push_cast [bf,eU ha,eU hb,eU hc];refine oA (λe1=>oA (λe2=>oA (λe3=>oA (λe4=>?_) λe4=>no λz=>e4 z.2.2.2) λe3=>no λz=>e3 z.2.2.1) λe2=>no λz=>e2 (X7.mpr z.2.1)) λe1=>no λz=>e1 (X7.mpr z.1);refine⟨⋯,?_⟩;rw[ZE ⟨X7.mp e1,X7.mp e2,e3,e4⟩,show iA (acc++[((a:Int),(b:Int),(c:Int))])=iA acc++[Dv.tup [Dv.int a,Dv.int b,Dv.int c]] from yi] at h;exact h
theorem Sz{d:Dv}{x0:Sl}{Q:List Sl->Prop}(h:Q [x0,x1,.v d,x3,x4,x5]):gN 2 d [x0,x1,x2,x3,x4,x5] Q:=by
 ac_nf;exact h
theorem P7(h1:1<=ks.length)(hn:ks.length<=12):∀(i k:Nat) (acc:List (Int×Int×Int)) (s t u v:Sl),k+i=ks.length*ks.length*ks.length->acc.length+i<=10000 ->
  (∀s t u v,E.nx [.v (.lst (bN ks)),.own l (.lst (iA (acc++wV ks i k))),s,t,u,v]) ->
  aX (gN 2) oP [] (aV k i) E [.v (.lst (bN ks)),.own l (.lst (iA acc)),s,t,u,v]:=by
 intro i;induction i with
 |zero=>
  intro k acc s t u v _ _ h;rw[bK,b6];exact⟨λp hp=>by simp at hp,by simpa [wV] using h s t u v⟩
 |succ i ih=>
  intro k acc s t u v hk hl h;have sq1:1*1<=ks.length*ks.length:=my h1 h1;have ha:k / (ks.length*ks.length)<ks.length:=by rw[Nat.div_lt_iff_lt_mul ⋯,<- Xx];right
  rw[b7,b8];refine⟨λp hp=>by simp at hp,?_⟩;rw[show ((k:Int)+1)=((k+1:Nat):Int) by right];refine Sz (SK h1 hn (SJ ha (Zw _ ⋯) (Zw _ ⋯) ⋯ ?_));refine ih (k+1) _ _ _ _ _ ⋯ (by rw[eg];split<;>simp<;>right) λs t u v=>?_;have:=h s t u v;rw[wV,<- dw] at this;exact this
theorem zN:∀ds Q,nR ds Q->lY ↥Q (aM ["_law_bands_here", "_law_found", "_law_k", "_law_a", "_law_b", "_law_c"] ds):=by
 rintro ds Q ⟨ks,rfl,h1,hn,m,h⟩;have sq:ks.length*ks.length<=12*12:=my hn hn;have cb:ks.length*ks.length*ks.length<=144*12:=my sq hn;have nn:(ks.length:Int)*(ks.length:Int)=((ks.length*ks.length:Nat):Int):=by norm_cast
 have nnn:((ks.length*ks.length:Nat):Int)*(ks.length:Int)=((ks.length*ks.length*ks.length:Nat):Int):=by norm_cast
 push_cast [bf,nn,nnn];intro l;refine⟨u8 ⋯ ⋯,u8 ⋯ ⋯,⋯,?_⟩;rw[br];refine P7 h1 hn _ 0 [] _ _ _ _ ⋯ (by simp;right) λs t u v=>?_;ac_nf;rw[J1 m];exact h
end Lw
namespace Fl
section
variable {L:Nat}{kk:Int->Int}{T:Int->Int->Nat}
noncomputable def nD(T:Int->Int->Nat)(a b c:Int):Prop:=T a b<T a c
noncomputable instance (T:Int->Int->Nat) (a b c:Int):Decidable (nD T a b c):=by unfold nD;exact inferInstance
theorem Tms.four(h:Tms n kk T L){i j k l:Int}(h0:0<=i)(ij:i<j)(jk:j<k)(kl:k<l)(ln:l<n)(k1:kk i≠kk k)(k2:kk j≠kk l):
  (nD T i j k ↔ nD T i j l)/\(nD T i j l ↔ nD T i k l) \/ (nD T i j k ↔ nD T i j l)/\(nD T i k l ↔ nD T j k l) \/ (nD T i j l ↔ nD T i k l)/\(nD T i k l ↔ nD T j k l):=by
 have m1:=h.mono i j h0 ⋯ ⋯;have m2:=h.mono j k ⋯ ⋯ ⋯;have m3:=h.mono k l ⋯ ⋯ ⋯;have a:=h.tri i j k h0 ij jk ⋯ k1;have b:=h.tri i j l h0 ij ⋯ ln ⋯;have c:=h.tri i k l h0 ⋯ kl ln ⋯;have d:=h.tri j k l ⋯ jk kl ln k2;unfold nD;right
theorem Tms.counts(h:Tms n kk T L){a b c:Int}{u:Prop}[Decidable u](h0:0<=a)(ab:a<b)(bc:b<c)(cn:c<n)(k:kk a≠kk c)(hu:kk a≠kk b->kk b≠kk c->(u ↔ nD T a b c)):
  (if kk a=kk b then ao else if kk b=kk c then aj else decide u)=decide (nD T a b c):=by
 have m1:=h.mono a b h0 ⋯ ⋯;have m2:=h.mono b c ⋯ ⋯ cn;have t:=h.tri a b c h0 ab bc cn k;have l:=h.lt a c h0 ⋯ cn ⋯;unfold nD at *;by_cases e:kk a=kk b
 ·rw[ZE e];have:=h.al a b ⋯;exact(decide_eq_false ⋯).symm
 ·rw[Zg e];by_cases e2:kk b=kk c
  ·rw[ZE e2];have:=h.al b c ⋯;exact(decide_eq_true ⋯).symm
  ·rw[Zg e2];exact decide_eq_decide.mpr (hu e e2)
theorem Tms.isb(h:Tms n kk T L){x y z:Int}(h0:0<=x)(xy:x<y)(yn:y<n)(k:kk x≠kk y)(z0:0<=z)(zn:z<n):
  (if z<x then ¬nD T z x y else if y<z then ¬nD T x y z else x<z/\z<y/\nD T x z y) ↔ z≠x/\z≠y/\((z<x/\T x y<T z x) \/ (x<z/\T x z<T x y)):=by
 have m1:=h.mono x y h0 ⋯ yn;unfold nD;by_cases e:z<x
 ·rw[ZE e];have m2:=h.mono z x z0 ⋯ ⋯;have t:=h.tri z x y z0 e xy yn ⋯;right
 ·rw[Zg e];by_cases e2:y<z
  ·rw[ZE e2];have m2:=h.mono y z ⋯ ⋯ ⋯;have t:=h.tri x y z h0 xy e2 zn ⋯;right
  ·rw[Zg e2];right
end
end Fl
namespace Lw
open L2 Z
open Sf (Rw crs uU Pre Good aJ bG place many)
open Fl (kd ids Walk eV tls pc aP Pt tm nD)
noncomputable abbrev T3:=Int×Int×Int
noncomputable abbrev DK(t:T3):List cF:=[jc t.1,jc t.2.1,jc t.2.2]
noncomputable abbrev dU(U:List T3):List (List cF×Dv):=U.map λt=>(DK t,.bl aj)
theorem uO(U:List T3)(t:T3):Hy (dU U) (DK t)=decide (t∈U):=by
 induction U with
 |nil=>rfl
 |cons u U ih=>
  unfold Hy at ih ⊢;rw[show dU (u::U)=(DK u,.bl aj)::dU U from rfl,tj,ih];have e:(DK u=DK t) ↔ t=u:=by
   constructor
   ·intro z;injection z with z1 z2;injection z2 with z2 z3;injection z3 with z3 _;injection z1 with z1;injection z2 with z2;injection z3 with z3;exact Prod.ext z1.symm (Prod.ext z2.symm z3.symm)
   ·rintro rfl;rfl
  rw[decide_eq_decide.mpr e,<- Wc];exact decide_eq_decide.mpr dm.symm
noncomputable def cau(ks:List Int)(U:List T3)(a b c:Int):Bool:=if kd ks a=kd ks b then ao else if kd ks b=kd ks c then aj else decide ((a,b,c)∈U)
noncomputable def Nh(n:Nat)(a b c:Int):Prop:=(0<=a/\a<n)/\(0<=b/\b<n)/\(0<=c/\c<n)
noncomputable def qC(C:af):Fn:=λds Q=>∃(rows:List Rw) (U:List T3) (a b c:Int),ds=[bZ C rows,.dit (dU U),.tup [.int a,.int b,.int c]]/\(aJ rows).length<=12/\Nh (aJ rows).length a b c/\Q (.v (.bl (cau (aJ rows) U a b c)))
theorem KC:∀ds Q,qC C ds Q->ds.length=3:=by rintro ds Q ⟨_,_,_,_,_,rfl,_⟩;rfl
theorem HN:MonoF (qC C):=⟨λds Q Q' w z=>by obtain⟨a,b,c,d,e,f,g,i,h⟩:=z;exact⟨a,b,c,d,e,f,g,i,w _ h⟩⟩
theorem vP:∀ds Q,qC C ds Q->jV C (dY C) ↥Q (aM ["sides", "ups", "three"] ds):=by
 rintro ds Q ⟨rows,U,a,b,c,rfl,hn,⟨ha,hb,hc⟩,q⟩;have kn:∀{x:Int} {Q:R->Prop},0<=x/\x<(aJ rows).length->Q (.v (.int (kd (aJ rows) x)))->dY C [bZ C rows,.int x] Q:=λ{x Q} hx q=>⟨rows,x.toNat,by rw[xg hx.1],⋯,q⟩;unfold cau at q;ac_nf;refine⟨rfl,kn ha ?_⟩;ac_nf;refine⟨rfl,kn hb ?_⟩;ac_nf;refine oA (λe=>by rw[ZE e] at q;exact q) λe=>?_;rw[Zg e] at q;refine⟨rfl,kn hb ?_⟩;ac_nf;refine⟨rfl,kn hc ?_⟩;ac_nf;refine oA (λe2=>by rw[ZE e2] at q;exact q) λe2=>?_;rw[Zg e2] at q;refine⟨DK (a,b,c),rfl,?_⟩;rw[uO];exact q
noncomputable abbrev T4:=Int×Int×Int×Int
noncomputable abbrev d4(t:T4):Dv:=.tup [.int t.1,.int t.2.1,.int t.2.2.1,.int t.2.2.2]
structure In4(n:Nat)(t:T4):Prop where
 lo:0<=t.1
 ij:t.1<t.2.1
 jk:t.2.1<t.2.2.1
 kl:t.2.2.1<t.2.2.2
 hi:t.2.2.2<n
noncomputable def alike(ks:List Int)(t:T4):Bool:=decide (kd ks t.1=kd ks t.2.2.1) || decide (kd ks t.2.1=kd ks t.2.2.2)
noncomputable def k4(C:af):Fn:=λds Q=>∃(rows:List Rw) (t:T4),ds=[bZ C rows,d4 t]/\In4 (aJ rows).length t/\Q (.v (.bl (alike (aJ rows) t)))
theorem FR:∀ds Q,k4 C ds Q->ds.length=2:=by rintro ds Q ⟨_,_,rfl,_⟩;rfl
theorem HQ:MonoF (k4 C):=⟨λds Q Q' w z=>by obtain⟨a,b,c,d,h⟩:=z;exact⟨a,b,c,d,w _ h⟩⟩
theorem rZ:∀ds Q,k4 C ds Q->iB C (dY C) ↥Q (aM ["sides", "four"] ds):=by
 rintro ds Q ⟨rows,t,rfl,i4,q⟩;obtain⟨h0,ij,jk,kl,hi⟩:=i4;have kn:∀{x:Int} {Q:R->Prop},0<=x/\x<(aJ rows).length->Q (.v (.int (kd (aJ rows) x)))->dY C [bZ C rows,.int x] Q:=λ{x Q} hx q=>⟨rows,x.toNat,by rw[xg hx.1],⋯,q⟩;unfold alike at q;ac_nf;refine⟨rfl,kn ⟨⋯,⋯⟩ ?_⟩;ac_nf;refine⟨rfl,kn ⟨⋯,⋯⟩ ?_⟩;ac_nf;refine oA (λe=>by rw[decide_eq_true e] at q;exact q) λe=>?_;rw[decide_eq_false e,Ux] at q;refine⟨rfl,kn ⟨⋯,⋯⟩ ?_⟩;ac_nf;refine⟨rfl,kn ⟨⋯,⋯⟩ ?_⟩;ac_nf;exact q
noncomputable def w9(ks:List Int)(U:List T3)(z x y:Int):Bool:=if z<x then !cau ks U z x y else if y<z then !cau ks U x y z else (decide (x<z)&&decide (z<y))&&cau ks U x z y
noncomputable def nU(C:af):Fn:=λds Q=>∃(rows:List Rw) (U:List T3) (z x y:Int),ds=[bZ C rows,.dit (dU U),.int z,.int x,.int y]/\(aJ rows).length<=12/\Nh (aJ rows).length z x y/\Q (.v (.bl (w9 (aJ rows) U z x y)))
theorem K9:∀ds Q,nU C ds Q->ds.length=5:=by rintro ds Q ⟨_,_,_,_,_,rfl,_⟩;rfl
theorem Mn:MonoF (nU C):=⟨λds Q Q' w z=>by obtain⟨a,b,c,d,e,f,g,i,h⟩:=z;exact⟨a,b,c,d,e,f,g,i,w _ h⟩⟩
theorem D4:∀ds Q,nU C ds Q->qA (qC C) ↥Q (aM ["sides", "ups", "z", "x", "y"] ds):=by
 rintro ds Q ⟨rows,U,z,x,y,rfl,hn,⟨hz,hx,hy⟩,q⟩;unfold w9 at q;ac_nf;refine oA (λe=>?_) λe=>oA (λe2=>?_) λe2=>oA (λe3=>oA (λe4=>?_) λe4=>?_) λe3=>?_
 ·rw[ZE e] at q;refine⟨rows,U,z,x,y,rfl,hn,⟨hz,hx,hy⟩,?_⟩;ac_nf;exact q
 ·rw[Zg e,ZE e2] at q;refine⟨rows,U,x,y,z,rfl,hn,⟨hx,hy,hz⟩,?_⟩;ac_nf;exact q
 ·rw[Zg e,Zg e2,decide_eq_true e3,wn,decide_eq_true e4,wn] at q;refine⟨rows,U,x,z,y,rfl,hn,⟨hx,hz,hy⟩,?_⟩;ac_nf;exact q
 ·rw[Zg e,Zg e2,decide_eq_false e4,VZ,xu] at q;exact q
 ·rw[Zg e,Zg e2,decide_eq_false e3,xu,xu] at q;exact q
noncomputable def chg(a b:Bool):Nat:=if a=b then 0 else 1
noncomputable def barred(ks:List Int)(U:List T3)(t:T4):Bool:=
 decide (1<chg (cau ks U t.1 t.2.1 t.2.2.1) (cau ks U t.1 t.2.1 t.2.2.2)+chg (cau ks U t.1 t.2.1 t.2.2.2) (cau ks U t.1 t.2.2.1 t.2.2.2)+chg (cau ks U t.1 t.2.2.1 t.2.2.2) (cau ks U t.2.1 t.2.2.1 t.2.2.2))
noncomputable def iN(C:af):Fn:=λds Q=>∃(rows:List Rw) (U:List T3) (t:T4),ds=[bZ C rows,.dit (dU U),d4 t]/\(aJ rows).length<=12/\In4 (aJ rows).length t/\Q (.v (.bl (barred (aJ rows) U t)))
theorem DJ:∀ds Q,iN C ds Q->ds.length=3:=by rintro ds Q ⟨_,_,_,rfl,_⟩;rfl
theorem FE:MonoF (iN C):=⟨λds Q Q' w z=>by obtain⟨a,b,c,d,e,f,h⟩:=z;exact⟨a,b,c,d,e,f,w _ h⟩⟩
noncomputable def chgs:List (Bool×Bool)->Nat
 | []=>0
 |p::r=>chg p.1 p.2+chgs r
theorem Kk:∀l:List (Bool×Bool),chgs l<=l.length
 | []=>bt _
 |p::r=>by have:=Kk r;rw[chgs,chg,cj];split<;>right
theorem IZ:∀(l:List (Bool×Bool)) (k:Nat),k+l.length<=100->Q (.nw (.lst (aw (k+chgs l) (.int 1)))) ->
  eF [.un,.un] (gT [0,1]) (bI (aR y8 (a8 0) (a8 1))) (eC (.int 1)) (l.map λp=>.tup [.bl p.1,.bl p.2]) (aw k (.int 1)) Q:=by
 intro l;induction l with
 |nil=>
  intro k _ h;rw[zj,iQ];exact h
 |cons p l ih=>
  intro k hk h;rw[cj] at hk;rw[chgs,chg] at h;push_cast [de,nh];refine⟨⟨rfl,rfl⟩,?_⟩;by_cases e:p.1=p.2
  ·rw[ZE e,rn] at h;rw[Zg (by simp[e])];exact ih k ⋯ h
  ·rw[Zg e] at h;rw[ZE (by simp[e]),<- List.replicate_succ'];exact⟨⋯,ih (k+1) ⋯ (by rw[show k+1+chgs l=k+(1+chgs l) by right];exact h)⟩
noncomputable abbrev QD(t:T3):Dv:=.tup [.int t.1,.int t.2.1,.int t.2.2]
variable {x3 x4 x5:Sl}{tl:cD}{E:En}
theorem Ps{y0 y1:Sl}{t:T4}(h:tl E [y0,y1,.v (d4 t),.v (.lst ([(t.1,t.2.1,t.2.2.1),(t.1,t.2.1,t.2.2.2),(t.1,t.2.2.1,t.2.2.2),t.2].map QD)),x4,x5]):
  aU (c9 3 (jQ (a9 (gI (a9 (aR cV (a8 2) (eC (.int 0))) (a9 (aR cV (a8 2) (eC (.int 1))) (a9 (aR cV (a8 2) (eC (.int 2))) aF)))) (a9 (gI (a9 (aR cV (a8 2) (eC (.int 0))) (a9 (aR cV (a8 2) (eC (.int 1))) (a9 (aR cV (a8 2) (eC (.int 3))) aF)))) (a9 (gI (a9 (aR cV (a8 2) (eC (.int 0))) (a9 (aR cV (a8 2) (eC (.int 2))) (a9 (aR cV (a8 2) (eC (.int 3))) aF)))) (a9 (Fg (a8 2) (lL (eC (.int 1))) gA) aF)))))) tl E
   [y0,y1,.v (d4 t),x3,x4,x5]:=by
 ac_nf;exact⟨by decide,h⟩
variable {U:List T3}
theorem Pp(hn:(aJ rows).length<=12):∀(l:List T3) (acc:List Dv),(∀t∈l,Nh (aJ rows).length t.1 t.2.1 t.2.2)->acc.length+l.length<=100 ->
  Q (.nw (.lst (acc++l.map λt=>.bl (cau (aJ rows) U t.1 t.2.1 t.2.2))))->eF [.un,.v (bZ C rows),.v (.dit (dU U))] (gN 0) jM (b9 (qC C) (a9 (a8 1) (a9 (a8 2) (a9 (a8 0) aF)))) (l.map QD) acc Q:=by
 intro l;induction l with
 |nil=>
  intro acc _ _ h;rw[zj,ic] at h;rw[zj,iQ];exact h
 |cons t l ih=>
  intro acc hi hk h;rw[cj] at hk;push_cast [de];refine⟨rows,U,_,_,_,rfl,hn,hi t dk,?_⟩;refine⟨.inl rfl,⟨rfl,⋯⟩,ih _ (λu hu=>hi u (dg _ hu)) ?_ ?_⟩
  ·rw[eg,cj,yg];right
  ·rw[dw];exact h
variable {x2:Sl}
theorem Pr{l:List T3}(hn:(aJ rows).length<=12)(hi:∀t∈l,Nh (aJ rows).length t.1 t.2.1 t.2.2)(hl:l.length<=100)
  (h:tl E [.v (bZ C rows),.v (.dit (dU U)),x2,.v (.lst (l.map QD)),.v (.lst (l.map λt=>.bl (cau (aJ rows) U t.1 t.2.1 t.2.2))),x5]):
  aU (c9 4 (gE 1 [0,1] (kI (a8 3)) (gN 0) jM (b9 (qC C) (a9 (a8 1) (a9 (a8 2) (a9 (a8 0) aF)))))) tl E
   [.v (bZ C rows),.v (.dit (dU U)),x2,.v (.lst (l.map QD)),x4,x5]:=by
 ac_nf;exact Pp hn l [] hi (by rw[yg,rn];exact hl) h
theorem Pq{x0 x1:Sl}{u1 u2 u3 u4:Bool}(h:tl E [x0,x1,x2,x3,.v (.lst [.bl u1,.bl u2,.bl u3,.bl u4]),.v (.lst (aw (chgs [(u1,u2),(u2,u3),(u3,u4)]) (.int 1)))]):
  aU (c9 5 (gE 2 [] (yJ (a9 (a8 4) (a9 (Fg (a8 4) (lL (eC (.int 1))) gA) aF))) (gT [0,1]) (bI (aR y8 (a8 0) (a8 1))) (eC (.int 1)))) tl E
   [x0,x1,x2,x3,.v (.lst [.bl u1,.bl u2,.bl u3,.bl u4]),x5]:=by
 ac_nf;refine IZ [(u1,u2),(u2,u3),(u3,u4)] 0 (vz rfl) ?_;rw[rn];exact h
theorem BL:∀ds Q,iN C ds Q->nP (qC C) ↥Q (aM ["sides", "ups", "four", "within", "stand", "changes"] ds):=by
 rintro ds Q ⟨rows,U,t,rfl,hn,⟨h0,ij,jk,kl,hi⟩,q⟩;have i2:∀{a b c:Int},0<=a->a<b->b<c->c<(aJ rows).length->Nh (aJ rows).length a b c:=λ{a b c} h1 h2 h3 h4=>⟨⟨h1,⋯⟩,⟨⋯,⋯⟩,⋯,h4⟩;refine Ps (Pr hn (λu hu=>?_) (vz rfl) (Pq ?_))
 ·simp only[dm,tf,or_false] at hu;rcases hu with rfl | rfl | rfl | rfl
  ·exact i2 h0 ij jk (Zo kl hi)
  ·exact i2 h0 ij (Zo jk kl) hi
  ·exact i2 h0 (Zo ij jk) kl hi
  ·exact i2 (Z5 h0 (Vx ij)) jk kl hi
 ·unfold barred at q;rw[show ∀{a b c d:Bool},chg a b+chg b c+chg c d=chgs [(a,b),(b,c),(c,d)] from λ{a b c d}=>by simp only[chgs,ni,yp]] at q;generalize chgs _=m at q ⊢;push_cast [nh];rw[show decide ((1:Int)<(m:Int))=decide (1<m) from decide_eq_decide.mpr ⋯];exact q
end Lw
namespace Lw
open L2 Z
open Sf (Rw crs uU Pre Good aJ bG place many)
open Fl (kd ids Walk eV tls pc aP Pt tm nD)
noncomputable def Q8(n:Nat)(l:List T4):Prop:=∀t∈l,In4 n t
noncomputable def A4(n:Nat)(P:T4->Prop)(l:List T4):Prop:=Q8 n l /\ ∀t,In4 n t->P t->t∈l
variable {l:List T4}
theorem A4.imp{P P':T4->Prop}(h:A4 n P l)(w:∀t,In4 n t->P' t->P t):A4 n P' l:=⟨h.1,λt i q=>h.2 t i (w t i q)⟩
noncomputable def NM(i:Nat)(t:T4):Prop:=t.1<i
noncomputable def NL(i j:Nat)(t:T4):Prop:=t.1<i \/ (t.1=i/\t.2.1<j)
noncomputable def NK(i j k:Nat)(t:T4):Prop:=t.1<i \/ (t.1=i/\(t.2.1<j \/ (t.2.1=j/\t.2.2.1<k)))
noncomputable def Kn(i j k l:Nat)(t:T4):Prop:=t.1<i \/ (t.1=i/\(t.2.1<j \/ (t.2.1=j/\(t.2.2.1<k \/ (t.2.2.1=k/\t.2.2.2<l)))))
variable {j:Nat}
theorem A4.snoc{k m:Nat}(h:A4 n (Kn i j k m) l)(q:In4 n ((i:Int),(j:Int),(k:Int),(m:Int))):A4 n (Kn i j k (m+1)) (l++[((i:Int),(j:Int),(k:Int),(m:Int))]):=by
 refine⟨λu hu=>?_,λt i4 b=>?_⟩
 ·rcases fm.mp hu with z | z
  ·exact h.1 u z
  ·rw[fe.mp z];exact q
 ·rcases X4 (Kn i j k m t) with z | z
  ·exact gr _ (h.2 t i4 z)
  ·refine eh _ (fe.mpr ?_);obtain⟨x,y,u,v⟩:=t;unfold Kn at b z;simp only at b z;rw[show x=i by right,show y=j by right,show u=k by right,show v=m by right]
noncomputable abbrev CQ(l:List T4):List Dv:=l.map d4
variable {E:En}
theorem KS{k:Nat}(ij:i<j)(jk:j<k):∀(m l:Nat) (acc:List T4) (s:Sl),k<l->l+m=n->A4 n (Kn i j k l) acc->acc.length+m<=100000 ->
  (∀ZK s,A4 n (Kn i j k n) ZK->ZK.length<=acc.length+m->E.nx [.v (.int n),.own b (.lst (CQ ZK)),.v (.int i),.v (.int j),.v (.int k),s]) ->
  aX (gN 5) tL [] (aV l m) E [.v (.int n),.own b (.lst (CQ acc)),.v (.int i),.v (.int j),.v (.int k),s]:=by
 intro m;induction m with
 |zero=>
  intro l acc s _ ln A _ h;rw[bK,b6];exact⟨λp hp=>by simp at hp,h acc s (A.imp λt i4 q=>by obtain⟨_,_,_,_,_⟩:=i4;unfold Kn at *;right) (bt _)⟩
 |succ m ih=>
  intro l acc s kl hl A ha h;rw[b7,b8];refine⟨λp hp=>by simp at hp,?_⟩;push_cast [tL,bf];refine⟨⋯,?_⟩;rw[show CQ acc++[Dv.tup [Dv.int i,.int j,.int k,.int l]]=CQ (acc++[((i:Int),(j:Int),(k:Int),(l:Int))]) by simp,show ((l:Int)+1)=((l+1:Nat):Int) by right];exact ih (l+1) _ _ ⋯ ⋯ (A.snoc ⟨show (0:Int)<=i by right,show (i:Int)<j by right,show (j:Int)<k by right,show (k:Int)<l by right,show (l:Int)<n by right⟩) (by simp;right) λZK s A' hl'=>h ZK s A' (by simp at hl';right)
theorem KR(hn:n<=12)(ij:i<j):∀(m k:Nat) (acc:List T4) (s t:Sl),j<k->k+m=n->A4 n (NK i j k) acc->acc.length+m*12<=90000 ->
  (∀ZK s t,A4 n (NK i j n) ZK->ZK.length<=acc.length+m*12->E.nx [.v (.int n),.own b (.lst (CQ ZK)),.v (.int i),.v (.int j),s,t]) ->
  aX (gN 4) pK [] (aV k m) E [.v (.int n),.own b (.lst (CQ acc)),.v (.int i),.v (.int j),s,t]:=by
 intro m;induction m with
 |zero=>
  intro k acc s t _ ln A _ h;rw[bK,b6];exact⟨λp hp=>by simp at hp,h acc s t (A.imp λt i4 q=>by obtain⟨_,_,_,_,_⟩:=i4;unfold NK at *;right) (bt _)⟩
 |succ m ih=>
  intro k acc s t jk hl A ha h;rw[b7,b8];refine⟨λp hp=>by simp at hp,?_⟩;have nx:=λZK s t A' (hl':ZK.length<=acc.length+12)=>ih (k+1) ZK s t ⋯ ⋯ A' ⋯ λa s t A hl=>h a s t A ⋯;rw[show ((k:Int)+1)=((k+1:Nat):Int) by right];generalize aX (gN 4) pK [] (aV ((k+1:Nat):Int) m) E=G at nx ⊢;push_cast [pK];refine⟨⋯,?_⟩;rw[show ((n:Int)-((k:Int)+1)).toNat=n-(k+1) by right,show ((k:Int)+1)=((k+1:Nat):Int) by right];exact KS ij jk (n-(k+1)) (k+1) acc t ⋯ ⋯ (A.imp λt i4 q=>by obtain⟨_,_,_,_,_⟩:=i4;unfold NK Kn at *;right) ⋯ λZK s A' hl'=>nx ZK _ s (A'.imp λt i4 q=>by obtain⟨_,_,_,_,_⟩:=i4;unfold NK Kn at *;right) ⋯
theorem KQ(hn:n<=12):∀(m j:Nat) (acc:List T4) (s t u:Sl),i<j->j+m=n->A4 n (NL i j) acc->acc.length+m*144<=80000 ->
  (∀ZK s t u,A4 n (NL i n) ZK->ZK.length<=acc.length+m*144->E.nx [.v (.int n),.own b (.lst (CQ ZK)),.v (.int i),s,t,u]) ->
  aX (gN 3) pJ [] (aV j m) E [.v (.int n),.own b (.lst (CQ acc)),.v (.int i),s,t,u]:=by
 intro m;induction m with
 |zero=>
  intro j acc s t u _ ln A _ h;rw[bK,b6];exact⟨λp hp=>by simp at hp,h acc s t u (A.imp λt i4 q=>by obtain⟨_,_,_,_,_⟩:=i4;unfold NL at *;right) (bt _)⟩
 |succ m ih=>
  intro j acc s t u ij hl A ha h;rw[b7,b8];refine⟨λp hp=>by simp at hp,?_⟩;have nx:=λZK s t u A' (hl':ZK.length<=acc.length+144)=>ih (j+1) ZK s t u ⋯ ⋯ A' ⋯ λa s t u A hl=>h a s t u A ⋯;rw[show ((j:Int)+1)=((j+1:Nat):Int) by right];generalize aX (gN 3) pJ [] (aV ((j+1:Nat):Int) m) E=G at nx ⊢;push_cast [pJ];refine⟨⋯,?_⟩;rw[show ((n:Int)-((j:Int)+1)).toNat=n-(j+1) by right,show ((j:Int)+1)=((j+1:Nat):Int) by right];exact KR hn ij (n-(j+1)) (j+1) acc t u ⋯ ⋯ (A.imp λt i4 q=>by obtain⟨_,_,_,_,_⟩:=i4;unfold NL NK at *;right) ⋯ λZK s t A' hl'=>nx ZK _ s t (A'.imp λt i4 q=>by obtain⟨_,_,_,_,_⟩:=i4;unfold NL NK at *;right) ⋯
theorem KP(hn:n<=12):∀(m i:Nat) (acc:List T4) (s t u v:Sl),i+m=n->A4 n (NM i) acc->acc.length+m*1728<=50000 ->
  (∀ZK s t u v,A4 n (NM n) ZK->ZK.length<=acc.length+m*1728->E.nx [.v (.int n),.own b (.lst (CQ ZK)),s,t,u,v]) ->
  aX (gN 2) pH [] (aV i m) E [.v (.int n),.own b (.lst (CQ acc)),s,t,u,v]:=by
 intro m;induction m with
 |zero=>
  intro i acc s t u v ln A _ h;rw[bK,b6];exact⟨λp hp=>by simp at hp,h acc s t u v (A.imp λt i4 q=>by obtain⟨_,_,_,_,_⟩:=i4;unfold NM at *;right) (bt _)⟩
 |succ m ih=>
  intro i acc s t u v hl A ha h;rw[b7,b8];refine⟨λp hp=>by simp at hp,?_⟩;have nx:=λZK s t u v A' (hl':ZK.length<=acc.length+1728)=>ih (i+1) ZK s t u v ⋯ A' ⋯ λa s t u v A hl=>h a s t u v A ⋯;rw[show ((i:Int)+1)=((i+1:Nat):Int) by right];generalize aX (gN 2) pH [] (aV ((i+1:Nat):Int) m) E=G at nx ⊢;push_cast [pH];refine⟨⋯,?_⟩;rw[show ((n:Int)-((i:Int)+1)).toNat=n-(i+1) by right,show ((i:Int)+1)=((i+1:Nat):Int) by right];exact KQ hn (n-(i+1)) (i+1) acc t u v ⋯ ⋯ (A.imp λt i4 q=>by obtain⟨_,_,_,_,_⟩:=i4;unfold NM NL at *;right) ⋯ λZK s t u A' hl'=>nx ZK _ s t u (A'.imp λt i4 q=>by obtain⟨_,_,_,_,_⟩:=i4;unfold NM NL at *;right) ⋯
noncomputable def jX:Fn:=λds Q=>∃n:Nat,ds=[.int n]/\n<=12 /\ ∀l:List T4,(∀t,t∈l ↔ In4 n t)->Q (.nw (.lst (CQ l)))
theorem FM:∀ds Q,jX ds Q->ds.length=1:=by rintro ds Q ⟨_,rfl,_⟩;rfl
theorem vW:MonoF jX:=⟨λds Q Q' w z=>by obtain⟨a,b,c,h⟩:=z;exact⟨a,b,c,λl z=>w _ (h l z)⟩⟩
theorem Je:∀ds Q,jX ds Q->z9 ↥Q (aM ["many", "told", "i", "j", "k", "l"] ds):=by
 rintro ds Q ⟨n,rfl,hn,q⟩;ac_nf;intro b;refine⟨⋯,?_⟩;rw[br];refine KP hn n 0 [] _ _ _ _ ⋯ ⟨λt ht=>(nomatch ht),λt i4 q=>by obtain⟨_,_,_,_,_⟩:=i4;unfold NM at q;right⟩ (by simp;right) λZK s t u v A' _=>?_;ac_nf;exact q ZK λt=>⟨A'.1 t,λi4=>A'.2 t i4 (by obtain⟨_,_,_,_,_⟩:=i4;unfold NM;right)⟩
end Lw
namespace Lw
open L2 Z
open Sf (Rw crs uU Pre Good aJ bG place many)
open Fl (kd ids Walk eV tls pc aP Pt srt jW)
theorem LD(i:Int):∀l:List Int,inD (.int i) (bN l)=decide (i∈l)
 | []=>rfl
 |j::l=>by
  have ih:=LD i l;unfold inD at ih ⊢;rw[show bN (j::l)=.int j::bN l from rfl,tj,ih];by_cases e:i=j
  ·subst e;simp[eqD,gR,jb]
  ·have:eqD (.int i) (.int j)=ao:=by simp[eqD,gR,jb,e]
   have:eqD (.int j) (.int i)=ao:=by simp[eqD,gR,jb,Ne.symm e]
   simp[*]
theorem AD{α:Type}(f:α->Dv)(hf:∀a b,eqD (f a) (f b)=aj ↔ a=b):∀l m:List α,jg (pyDs (l.map f)) (pyDs (m.map f))=aj ↔ l=m
 | [],[]=>by simp[gR.pyDs,jg]
 | [],_::_=>by simp[gR.pyDs,jg]
 |_::_,[]=>by simp[gR.pyDs,jg]
 |a::l,b::m=>by
  show jg (gR (f a)::pyDs (l.map f)) (gR (f b)::pyDs (m.map f))=aj ↔ _;have h:=hf a b;unfold eqD at h;rw[jg,dt,AD f hf l m,h,wu]
theorem wG(f:α->Dv)(hf:∀a b,eqD (f a) (f b)=aj ↔ a=b)(l m:List α):eqD (.lst (l.map f)) (.lst (m.map f))=aj ↔ l=m:=by
 unfold eqD;show jb (.list (pyDs _)) (.list (pyDs _))=aj ↔ _;rw[jb];exact AD f hf l m
theorem By(f:α->Dv)(hf:∀a b,eqD (f a) (f b)=aj ↔ a=b)(l m:List α):eqD (.tup (l.map f)) (.tup (m.map f))=aj ↔ l=m:=by
 unfold eqD;show jb (.tuple (pyDs _)) (.tuple (pyDs _))=aj ↔ _;rw[jb];exact AD f hf l m
theorem EJ(a b:Int):eqD (.int a) (.int b)=aj ↔ a=b:=by rw[Z.AF,decide_eq_true_eq]
theorem AE(l m:List Int):eqD (.tup (bN l)) (.tup (bN m))=decide (l=m):=by
 rw[wy,decide_eq_true_eq];exact By _ EJ l m
theorem N9(t u:Ti):eqD (Iy t) (Iy u)=aj ↔ t=u:=by
 have h1:=EJ t.1 u.1;have h2:=EJ t.2.1 u.2.1;have h3:=By Dv.int EJ t.2.2 u.2.2;unfold eqD at h1 h2 h3 ⊢;show jb (.tuple [gR (.int t.1),gR (.int t.2.1),gR (.tup (bN t.2.2))]) (.tuple [gR (.int u.1),gR (.int u.2.1),gR (.tup (bN u.2.2))])=aj ↔ _;rw[jb,jg,jg,jg,jg,dt,dt,dt,h1,h2,h3];obtain⟨a,b,c⟩:=t;obtain⟨x,y,z⟩:=u;simp
theorem Kb(l m:List Ti):eqD (.lst (lT l)) (.lst (lT m))=decide (l=m):=by
 rw[wy,decide_eq_true_eq];exact wG _ N9 l m
theorem KZ(l m:List (Int×Int×Int)):eqD (.lst (iA l)) (.lst (iA m))=decide (l=m):=by
 rw[wy,decide_eq_true_eq];refine wG _ (λt u=>?_) l m;rw[show Dv.tup [Dv.int t.1,Dv.int t.2.1,Dv.int t.2.2]=.tup (bN [t.1,t.2.1,t.2.2]) from rfl,show Dv.tup [Dv.int u.1,Dv.int u.2.1,Dv.int u.2.2]=.tup (bN [u.1,u.2.1,u.2.2]) from rfl,AE,decide_eq_true_eq];obtain⟨a,b,c⟩:=t;obtain⟨x,y,z⟩:=u;simp
theorem p9(n:Nat):∀l:List Dv,(∀d∈l,eJ n d=aj)->okDs n l=aj
 | [],_=>rfl
 |d::r,h=>by
  show (eJ n d&&okDs n r)=aj;rw[h d (by simp),p9 n r λx hx=>h x (by simp[hx])];rfl
theorem L9(l:List (Int×Int×Int)):eJ 8 (.lst (iA l))=aj:=p9 7 _ λd hd=>by
 obtain⟨t,_,rfl⟩:=jh.mp hd;exact tQ 6 [t.1,t.2.1,t.2.2]
theorem LA(l:List Ti):eJ 8 (.lst (lT l))=aj:=p9 7 _ λd hd=>by
 obtain⟨t,_,rfl⟩:=jh.mp hd;refine p9 6 _ λd hd=>?_;simp only[dm,tf,or_false] at hd;rcases hd with rfl | rfl | rfl
 ·rfl
 ·rfl
 ·exact tQ 5 _
theorem Mf(l:List Int):eJ 8 (.tup (bN l))=aj:=tQ 7 l
theorem Tq(l:List Int)(b:Int):bN l++[Dv.int b]=bN (l++[b]):=by simp
theorem Ji(l:List (Int×Int×Int)):okDs 8 (iA l)=aj:=p9 8 _ λd hd=>by
 obtain⟨t,_,rfl⟩:=jh.mp hd;exact tQ 7 [t.1,t.2.1,t.2.2]
theorem PJ(t:Int×Int×Int)(l:List (Int×Int×Int)):inD (.tup [.int t.1,.int t.2.1,.int t.2.2]) (iA l)=decide (t∈l):=by
 have e3:∀u:Int×Int×Int,eqD (.tup [.int u.1,.int u.2.1,.int u.2.2]) (.tup [.int t.1,.int t.2.1,.int t.2.2])=decide (u=t):=λu=>by
  rw[show Dv.tup [Dv.int t.1,Dv.int t.2.1,Dv.int t.2.2]=.tup (bN [t.1,t.2.1,t.2.2]) from rfl,show Dv.tup [Dv.int u.1,Dv.int u.2.1,Dv.int u.2.2]=.tup (bN [u.1,u.2.1,u.2.2]) from rfl,AE];obtain⟨a,b,c⟩:=t;obtain⟨x,y,z⟩:=u;simp
 unfold inD;induction l with
 |nil=>rfl
 |cons u l ih=>
  rw[show iA (u::l)=.tup [.int u.1,.int u.2.1,.int u.2.2]::iA l from rfl,tj,ih,e3,<- Wc];exact decide_eq_decide.mpr ⟨λz=>by rcases z with rfl | z;exact dk ..;exact dg _ z,λz=>by rcases dm.mp z with rfl | z;exact .inl rfl;exact .inr z⟩
end Lw
variable {U:List Lw.T3}
namespace Lw
open L2 Z
open Sf (Rw crs uU Pre Good aJ bG place many)
open Fl (kd ids Walk eV tls pc aP Pt tm nD)
structure UpsOk(ks:List Int)(U:List T3):Prop where
 known:∀t∈U,t∈bP ks
 four:∀t,In4 ks.length t->alike ks t=ao->barred ks U t=ao
noncomputable def jZ(C XN:af):yW:=λds Q Ψ=>∃(rows:List Rw) (U:List T3),ds=[bZ C rows,.dit (dU U)]/\(aJ rows).length<=12/\(∀t∈U,t∈bP (aJ rows))/\(UpsOk (aJ rows) U->Q (.v .non))/\(¬UpsOk (aJ rows) U->Ψ (XN,ar))
variable {XN:af}
theorem FP:∀ds Q Ψ,jZ C XN ds Q Ψ->ds.length=2:=by rintro ds Q Ψ ⟨_,_,rfl,_⟩;rfl
theorem HM:MonoX (jZ C XN):=⟨λds Q Q' Ψ Ψ' w v zq6=>by obtain⟨a,b,c,d,e,f,g⟩:=zq6;exact⟨a,b,c,d,e,λz=>w _ (f z),λz=>v _ (g z)⟩⟩
variable {E:En}
theorem NF{Ψ:yX->Prop}{K:List T3}{x0 x1 x4:Sl}:∀(U:List T3) (s3:Sl),(∀t∈U,t∈K)->(∀s3,E.nx [x0,x1,.v (.lst (iA K)),s3,x4]) ->
  aX (gN 3) (iJ XN Ψ C (iM C) jX (k4 C) (iN C) (cZ C)) [] (iA U) E [x0,x1,.v (.lst (iA K)),s3,x4]:=by
 intro U;induction U with
 |nil=>
  intro s3 _ h;rw[show iA []=[] from rfl,b6];exact⟨λp hp=>by simp at hp,h _⟩
 |cons t U ih=>
  intro s3 hU h;rw[show iA (t::U)=.tup [.int t.1,.int t.2.1,.int t.2.2]::iA U from rfl];push_cast [iJ,vQ];refine⟨⟨Mf [t.1,t.2.1,t.2.2],Ji K⟩,?_⟩;rw[PJ,decide_eq_true (hU t (dk ..))];ac_nf;exact ih _ (λu hu=>hU u (dg _ hu)) h
theorem NE{Ψ:yX->Prop}{x2 x3:Sl}(hn:(aJ rows).length<=12)(no:∀t,In4 (aJ rows).length t->alike (aJ rows) t=ao->barred (aJ rows) U t=aj->Ψ (XN,ar)):∀(l:List T4) (s4:Sl),Q8 (aJ rows).length l->((∀t∈l,alike (aJ rows) t=ao->barred (aJ rows) U t=ao) -> ∀s4,E.nx [.v (bZ C rows),.v (.dit (dU U)),x2,x3,s4]) ->
  aX (gN 4) (fO XN Ψ C (iM C) jX (k4 C) (iN C) (cZ C)) [] (CQ l) E [.v (bZ C rows),.v (.dit (dU U)),x2,x3,s4]:=by
 intro l;induction l with
 |nil=>
  intro s4 _ h;rw[show CQ []=[] from rfl,b6];exact⟨λp hp=>by simp at hp,h (λt ht=>nomatch ht) _⟩
 |cons t l ih=>
  intro s4 A h;have i4:=A t (dk ..);have nx:=λ(ht:alike (aJ rows) t=ao->barred (aJ rows) U t=ao) s4=>ih s4 (λu hu=>A u (dg _ hu)) λhl=>h λu hu=>by
   rcases dm.mp hu with rfl | hu
   ·exact ht
   ·exact hl u hu
  rw[show CQ (t::l)=d4 t::CQ l from rfl,b8];refine⟨λp hp=>by simp at hp,?_⟩;generalize aX (gN 4) (fO XN Ψ C (iM C) jX (k4 C) (iN C) (cZ C)) [] (CQ l) E=G at nx ⊢;push_cast [fO];refine⟨rows,t,rfl,i4,?_⟩;cases e:alike (aJ rows) t with
  |true=>
   ac_nf;exact nx (λz=>by rw[e] at z;exact nomatch z) _
  |false=>
   ac_nf;refine⟨rows,U,t,rfl,hn,i4,?_⟩;cases eb:barred (aJ rows) U t with
   |true=>
    push_cast [zG];exact no t i4 e eb
   |false=>
    ac_nf;exact nx (λ_=>eb) _
theorem uB:∀ds Q Ψ,jZ C XN ds Q Ψ->jH XN Ψ C (iM C) jX (k4 C) (iN C) (cZ C) ↥Q (aM ["sides", "ups", "known", "three", "four"] ds):=by
 rintro ds Q Ψ ⟨rows,U,rfl,hn,hU,q,no⟩;ac_nf;refine⟨rows,rfl,hn,?_⟩;push_cast [EE];rw[show (dU U).map Hk=iA U by rw[ju];rfl];refine NF U _ hU λs3=>?_;ac_nf;refine⟨rfl,rows,rfl,?_⟩;ac_nf;refine⟨_,rfl,hn,λl A=>?_⟩;ac_nf;refine NE hn (λt i4 ha hb=>no λz=>?_) l _ (λt ht=>(A t).mp ht) λhl s4=>q ⟨hU,λt i4 ha=>hl t ((A t).mpr i4) ha⟩;have:=z.four t i4 ha;rw[hb] at this;exact nomatch this
end Lw
namespace Lw
open L2 Z
open Sf (Rw crs uU Pre Good aJ bG place many)
open Fl (kd ids Walk eV tls pc aP Pt tm nD)
noncomputable def oO(ks:List Int)(U:List T3)(x y:Int):List Int:=(ids ks.length).filter λz=>w9 ks U z x y
noncomputable def rH(ks:List Int)(U:List T3):List Ti:=(eS ks).map λp=>(p.1,p.2,oO ks U p.1 p.2)
noncomputable def vC(C XN:af):yW:=λds Q Ψ=>∃(rows:List Rw) (U:List T3),ds=[bZ C rows,.lst (iA U)]/\(aJ rows).length<=12/\U.Nodup/\U.length<=2000/\(∀t∈U,t∈bP (aJ rows))/\(UpsOk (aJ rows) U->Q (.nw (.lst (lT (rH (aJ rows) U)))))/\(¬UpsOk (aJ rows) U->Ψ (XN,ar))
variable {XN:af}
theorem KA:∀ds Q Ψ,vC C XN ds Q Ψ->ds.length=2:=by rintro ds Q Ψ ⟨_,_,rfl,_⟩;rfl
theorem HL:MonoX (vC C XN):=⟨λds Q Q' Ψ Ψ' w v zq0=>by obtain⟨a,b,c,d,e,f,g,h,i⟩:=zq0;exact⟨a,b,c,d,e,f,g,λz=>w _ (h z),λz=>v _ (i z)⟩⟩
theorem zM{t:T3}(h:t ∉ U):B9 (dU U) (DK t) (.bl aj)=dU (U++[t]):=by
 have:=uO U t;rw[decide_eq_false h] at this;unfold B9;rw[show (dU U).any (λkv=>decide (kv.1=DK t))=ao from this,Zg ∅];simp
variable {E:En}{x1:Sl}
theorem T5{Ψ:yX->Prop}{x0 x4 x5 x6 x7:Sl}:∀(U acc:List T3) (s3:Sl),(acc++U).Nodup->acc.length+U.length<=2000->(∀s3,E.nx [x0,x1,.own a (.dit (dU (acc++U))),s3,x4,x5,x6,x7]) ->
  aX (gN 3) (l9 Ψ C (nU C) (eY C) (cZ C) (jZ C XN)) [] (iA U) E [x0,x1,.own a (.dit (dU acc)),s3,x4,x5,x6,x7]:=by
 intro U;induction U with
 |nil=>
  intro acc s3 _ _ h;rw[show iA []=[] from rfl,b6];rw[ic] at h;exact⟨λp hp=>by simp at hp,h _⟩
 |cons t U ih=>
  intro acc s3 nd hl h;rw[cj] at hl;have nt:t ∉ acc:=λz=>(vj.mp nd).2.2 t z t (dk ..) rfl;rw[show iA (t::U)=.tup [.int t.1,.int t.2.1,.int t.2.2]::iA U from rfl];push_cast [l9,bf];refine⟨DK t,rfl,⋯,?_⟩;rw[zM nt];refine ih (acc++[t]) _ (by rw[dw];exact nd) (by simp;right) λs3=>?_;rw[dw];exact h s3
theorem T0{x y:Int}(hn:(aJ rows).length<=12)(hx:0<=x/\x<(aJ rows).length)(hy:0<=y/\y<(aJ rows).length):∀(i k:Nat) (acc:List Int),k+i=(aJ rows).length->acc.length<=k ->
  Q (.nw (.lst (bN (acc++((Zp k i).map λz:Nat=>(z:Int)).filter λz=>w9 (aJ rows) U z x y)))) ->
  eF [.un,.v (bZ C rows),.v (.dit (dU U)),.v (.int x),.v (.int y)] (gN 0) (kJ (b9 (nU C) (a9 (a8 1) (a9 (a8 2) (a9 (a8 0) (a9 (a8 3) (a9 (a8 4) aF))))))) (a8 0) (aV k i) (bN acc) Q:=by
 intro i;induction i with
 |zero=>
  intro k acc _ _ h;rw[bK,iQ];simpa using h
 |succ i ih=>
  intro k acc hk ha h;rw[b7];push_cast [bf];refine⟨rows,U,(k:Int),x,y,rfl,hn,⟨⟨⋯,⋯⟩,hx,hy⟩,?_⟩;rw[List.range'_succ,de] at h;rw[show ((k:Int)+1)=((k+1:Nat):Int) by right];cases e:w9 (aJ rows) U (k:Int) x y with
  |true=>
   rw[vb (p:=λz=>w9 (aJ rows) U z x y) e] at h;push_cast [bf];refine⟨⋯,?_⟩;rw[show bN acc++[Dv.int (k:Int)]=bN (acc++[(k:Int)]) by simp];exact ih (k+1) _ ⋯ (by simp;right) (by rw[dw];exact h)
  |false=>
   rw[vc (p:=λz=>w9 (aJ rows) U z x y) (by rw[e];decide)] at h;ac_nf;exact ih (k+1) acc ⋯ ⋯ h
theorem FY(n:Nat):(Zp 0 n).map (λz:Nat=>(z:Int))=ids n:=by rw[<- List.range_eq_range']
theorem T1{Ψ:yX->Prop}{x3:Sl}(hn:(aJ rows).length<=12):∀(ps:List (Int×Int)) (acc:List Ti) (s5 s6 s7:Sl),(∀p∈ps,p∈eS (aJ rows))->acc.length+ps.length<=1000 ->
  (∀s5 s6 s7,E.nx [.v (bZ C rows),x1,.v (.dit (dU U)),x3,.own b (.lst (lT (acc++ps.map λp=>(p.1,p.2,oO (aJ rows) U p.1 p.2)))),s5,s6,s7]) ->
  aX (gT [5,6]) (j7 Ψ C (nU C) (eY C) (cZ C) (jZ C XN)) [] (pM ps) E [.v (bZ C rows),x1,.v (.dit (dU U)),x3,.own b (.lst (lT acc)),s5,s6,s7]:=by
 intro ps;induction ps with
 |nil=>
  intro acc s5 s6 s7 _ _ h;rw[show pM []=[] from rfl,b6];rw[zj,ic] at h;exact⟨λp hp=>by simp at hp,h _ _ _⟩
 |cons p ps ih=>
  intro acc s5 s6 s7 hp hl h;rw[cj] at hl;obtain⟨p0,p1,p2,_⟩:=lE.mp (hp p (dk ..));have nx:=λs5 s6 s7=>ih (acc++[(p.1,p.2,oO (aJ rows) U p.1 p.2)]) s5 s6 s7 (λq hq=>hp q (dg _ hq)) (by simp;right) λs5 s6 s7=>by rw[dw];exact h s5 s6 s7
  rw[show pM (p::ps)=.tup [.int p.1,.int p.2]::pM ps from rfl,b8];refine⟨λp hp=>by simp at hp,?_⟩;generalize aX (gT [5,6]) (j7 Ψ C (nU C) (eY C) (cZ C) (jZ C XN)) [] (pM ps) E=G at nx ⊢;push_cast [j7];refine⟨rfl,rows,rfl,?_⟩;ac_nf;refine⟨⋯,?_⟩;rw[br];refine T0 hn ⟨p0,⋯⟩ ⟨⋯,p2⟩ (aJ rows).length 0 [] ⋯ (bt _) ?_;rw[gw,FY];push_cast [bf];refine⟨⋯,?_⟩;have e:lT acc++[Dv.tup [Dv.int p.1,Dv.int p.2,Dv.tup (bN (oO (aJ rows) U p.1 p.2))]]=lT (acc++[(p.1,p.2,oO (aJ rows) U p.1 p.2)]):=by simp
  have:=nx (.v (.int p.1)) (.v (.int p.2)) (.v (.lst (bN (oO (aJ rows) U p.1 p.2))));rw[<- e] at this;exact this
theorem BM:∀ds Q Ψ,vC C XN ds Q Ψ->nQ Ψ C (nU C) (eY C) (cZ C) (jZ C XN) ↥Q (aM ["sides", "some", "ups", "three", "told", "x", "y", "below"] ds):=by
 rintro ds Q Ψ ⟨rows,U,rfl,hn,nd,ul,kn,q,no⟩;have pl:(eS (aJ rows)).length<=144:=by
  have h1:=sF (aJ rows) (aJ rows).length 0;have sq:(aJ rows).length*(aJ rows).length<=12*12:=my hn hn;unfold eS;right
 ac_nf;intro a;refine T5 U [] _ (by rw[gw];exact nd) (by simp;right) λs3=>?_;rw[gw];ac_nf;push_cast [Ck];refine⟨rows,U,rfl,hn,kn,λok=>?_,no⟩;ac_nf;intro b;refine⟨rfl,rows,rfl,hn,?_⟩;ac_nf;refine T1 hn (eS (aJ rows)) [] _ _ _ (λp hp=>hp) (by simp;right) λs5 s6 s7=>?_;rw[gw];ac_nf;exact q ok
end Lw
namespace Lw
open L2 Z
open Sf (Rw crs uU Pre Good aJ bG place many)
open Fl (kd ids Walk eV tls pc aP Pt tm nD)
theorem E4(ks:List Int)(a b x:Int):∀(i c:Nat),(c:Int)<=x->x<(c+i:Nat)->kd ks x≠kd ks b->(a,b,x)∈yH ks a b i c
 |0,c,h1,h2,_=>by right
 |i+1,c,h1,h2,h3=>by
  rw[yH,fm];by_cases e:x=c
  ·subst e;rw[Zg h3];exact .inl (re _)
  ·exact .inr (E4 ks a b x i (c+1) ⋯ ⋯ h3)
variable {a b:Int}
theorem DB{c:Int}(h0:0<=a)(ab:a<b)(bc:b<c)(cn:c<ks.length)(k1:kd ks a≠kd ks b)(k2:kd ks b≠kd ks c):(a,b,c)∈bP ks:=by
 refine Xu.mpr ⟨(a,b),lE.mpr ⟨h0,ab,by show b<_;right,k1⟩,?_⟩;exact E4 ks a b c _ _ (by show ((b.toNat+1:Nat):Int)<=c;right) (by show c<((b.toNat+1+(ks.length-(b.toNat+1)):Nat):Int);right) λz=>k2 z.symm
variable {e:List Int}
theorem LV{fl:List Ti}(w:Walk ks (ids ks.length) row e)(d:eV ks e)(m:gO ks)(f:jE ks row fl){c:Int}(h0:0<=a)(ab:a<b)(bc:b<c)(cn:c<ks.length)(k:kd ks a≠kd ks c):
  b∈G0 fl a c ↔ nD (tm ks row) a b c:=by
 have mm:=m a c h0 ⋯ cn;have hl:=w.tm_lt d h0 (show a<c by right) cn ⋯;obtain⟨pre,hp,_,hm⟩:=w.under h0 (show a<c by right) cn hl;have hb:=jE.below w f hp;rw[show G0 fl a c=Fl.srt pre from hb,(Fl.j9 pre).mem_iff,hm b];unfold nD;constructor
 ·rintro⟨_,_,_,_,q | q⟩
  ·right
  ·exact q.2
 ·intro z;exact⟨⋯,⋯,⋯,⋯,.inr ⟨ab,z⟩⟩
structure UpsOf(ks:List Int)(fl:List Ti)(U:List T3):Prop where
 mem:∀t,t∈U ↔ t∈bP ks/\t.2.1∈G0 fl t.1 t.2.2
theorem qZ{fl:List Ti}(w:Walk ks (ids ks.length) row e)(d:eV ks e)(m:gO ks)(f:jE ks row fl)(u:UpsOf ks fl U){c:Int}(h0:0<=a)(ab:a<b)(bc:b<c)(cn:c<ks.length)(k:kd ks a≠kd ks c):
  cau ks U a b c=decide (nD (tm ks row) a b c):=by
 refine(w.tms d m).counts h0 ab bc cn k λk1 k2=>?_;rw[u.mem (a,b,c)];have:=LV w d m f h0 ab bc cn k;constructor
 ·exact λz=>this.mp z.2
 ·exact λz=>⟨DB h0 ab bc cn k1 k2,this.mpr z⟩
theorem R6{fl:List Ti}(w:Walk ks (ids ks.length) row e)(d:eV ks e)(m:gO ks)(f:jE ks row fl)(u:UpsOf ks fl U):UpsOk ks U:=by
 refine⟨λt ht=>((u.mem t).mp ht).1,λt i4 ha=>?_⟩;obtain⟨h0,ij,jk,kl,hi⟩:=i4;unfold alike at ha;rw[Bool.or_eq_false_iff,decide_eq_false_iff_not,decide_eq_false_iff_not] at ha;obtain⟨k1,k2⟩:=ha;have m1:=m t.1 t.2.1 h0 ⋯ ⋯;have m2:=m t.2.1 t.2.2.1 ⋯ ⋯ ⋯;have m3:=m t.2.2.1 t.2.2.2 ⋯ ⋯ ⋯;have fo:=(w.tms d m).four h0 ij jk kl hi k1 k2;unfold barred;rw[qZ w d m f u h0 ij jk ⋯ k1,qZ w d m f u h0 ij ⋯ hi ⋯,qZ w d m f u h0 ⋯ kl hi ⋯,qZ w d m f u ⋯ jk kl hi k2];have ce:∀(p q:Prop) [Decidable p] [Decidable q],chg (decide p) (decide q)=if (p ↔ q) then 0 else 1:=λp q _ _=>by
  unfold chg;by_cases z:p ↔ q
  ·rw[ZE z,ZE (decide_eq_decide.mpr z)]
  ·rw[Zg z,Zg λy=>z (decide_eq_decide.mp y)]
 rw[ce,ce,ce];rcases fo with⟨a,b⟩ | ⟨a,b⟩ | ⟨a,b⟩
 all_goals
  rw[ZE a,ZE b];split<;>rfl
end Lw
namespace Lw
open L2 Z
open Sf (Rw crs uU Pre Good aJ bG place many)
open Fl (kd ids Walk eV tls pc aP Pt tm nD)
variable {e:List Int}{y z:Int}
theorem Bp{fl:List Ti}(w:Walk ks (ids ks.length) row e)(d:eV ks e)(m:gO ks)(f:jE ks row fl)(u:UpsOf ks fl U){x:Int}(h0:0<=x)(xy:x<y)(yn:y<ks.length)(k:kd ks x≠kd ks y)(z0:0<=z)(zn:z<ks.length):
  w9 ks U z x y=aj ↔ z≠x/\z≠y/\((z<x/\tm ks row x y<tm ks row z x) \/ (x<z/\tm ks row x z<tm ks row x y)):=by
 rw[<- (w.tms d m).isb h0 xy yn k z0 zn];have m1:=m x y h0 ⋯ yn;unfold w9;by_cases e:z<x
 ·have m2:=m z x z0 ⋯ ⋯;rw[ZE e,ZE e,qZ w d m f u z0 e xy yn ⋯];simp
 ·rw[Zg e,Zg e];by_cases e2:y<z
  ·have m2:=m y z ⋯ ⋯ zn;rw[ZE e2,ZE e2,qZ w d m f u h0 xy e2 zn ⋯];simp
  ·rw[Zg e2,Zg e2];by_cases e3:x<z
   ·by_cases e4:z<y
    ·rw[qZ w d m f u h0 e3 e4 yn k];simp[e3,e4]
    ·simp[e3,e4]
   ·simp[e3]
theorem N2(n:Nat):(ids n).Pairwise (· < ·):=by
 rw[ir];exact List.pairwise_lt_range.imp λh=>X7.mpr h
theorem KM:z∈ids n ↔ 0<=z/\z<n:=by
 rw[jh];constructor
 ·rintro⟨k,hk,rfl⟩;have:=xm.mp hk;right
 ·intro h;exact⟨z.toNat,xm.mpr ⋯,⋯⟩
theorem IY{fl:List Ti}(w:Walk ks (ids ks.length) row e)(d:eV ks e)(m:gO ks)(f:jE ks row fl)(u:UpsOf ks fl U){x:Int}(h0:0<=x)(xy:x<y)(yn:y<ks.length)(k:kd ks x≠kd ks y):
  oO ks U x y=G0 fl x y:=by
 have m1:=m x y h0 ⋯ yn;have hl:=w.tm_lt d h0 xy yn ⋯;obtain⟨pre,hp,nd,hm⟩:=w.under h0 xy yn hl;have hb:=jE.below w f hp;rw[show G0 fl x y=Fl.srt pre from hb];have up:=(N2 ks.length).sublist (List.filter_sublist (p:=λz=>w9 ks U z x y));refine Fl.jW ((yt (up.imp λh=>Int.ne_of_lt h) nd).mpr λz=>?_) (up.imp λh=>Vx h);show z∈(ids ks.length).filter _ ↔ _;rw[Vo,KM,hm z];constructor
 ·rintro⟨hz,q⟩;exact⟨hz.1,hz.2,(Bp w d m f u h0 xy yn k hz.1 hz.2).mp q⟩
 ·rintro⟨z0,zn,q⟩;exact⟨⟨z0,zn⟩,(Bp w d m f u h0 xy yn k z0 zn).mpr q⟩
noncomputable def Bk(p q:Int×Int):Prop:=p.1<q.1 \/ (p.1=q.1/\p.2<q.2)
theorem EC(ks:List Int)(a:Int):∀i b,(yI ks a i b).Pairwise Bk /\ ∀t∈yI ks a i b,t.1=a/\(b:Int)<=t.2
 |0,b=>⟨List.Pairwise.nil,λt ht=>by cases ht⟩
 |i+1,b=>by
  obtain⟨h1,h2⟩:=EC ks a i (b+1);rw[yI];by_cases e:kd ks a=kd ks b
  ·rw[ZE e,gw];exact⟨h1,λt ht=>⟨(h2 t ht).1,by have:=(h2 t ht).2;right⟩⟩
  ·rw[Zg e,wa];refine⟨iz.mpr ⟨λt ht=>?_,h1⟩,λt ht=>?_⟩
   ·have:=h2 t ht;exact .inr ⟨this.1.symm,by show (b:Int)<t.2;right⟩
   ·rcases dm.mp ht with rfl | ht
    ·exact⟨rfl,zq _⟩
    ·have:=h2 t ht;exact⟨this.1,⋯⟩
theorem sE(ks:List Int):∀i a,(lG ks i a).Pairwise Bk /\ ∀t∈lG ks i a,(a:Int)<=t.1
 |0,a=>⟨List.Pairwise.nil,λt ht=>by cases ht⟩
 |i+1,a=>by
  obtain⟨h1,h2⟩:=sE ks i (a+1);obtain⟨g1,g2⟩:=EC ks a (ks.length-(a+1)) (a+1);rw[lG];refine⟨ou.mpr ⟨g1,h1,λt ht u hu=>.inl ?_⟩,λt ht=>?_⟩
  ·have q1:=(g2 t ht).1;have q2:=h2 u hu;right
  ·rcases fm.mp ht with ht | ht
   ·exact Int.le_of_eq (g2 t ht).1.symm
   ·have:=h2 t ht;right
theorem t9{p q:Int×Int}(h:Bk p q)(k:Bk q p):False:=by
 unfold Bk at h k;right
theorem xZ:∀{l m:List (Int×Int)},l.Pairwise Bk->m.Pairwise Bk->(∀t,t∈l ↔ t∈m)->l=m
 | [],[],_,_,_=>rfl
 | [],t::m,_,_,h=>by cases (h t).mpr (dk ..)
 |t::l,[],_,_,h=>by cases (h t).mp (dk ..)
 |t::l,u::m,hl,hm,h=>by
  obtain⟨l1,l2⟩:=iz.mp hl;obtain⟨m1,m2⟩:=iz.mp hm;have e:t=u:=by
   rcases dm.mp ((h t).mp (dk ..)) with z | z
   ·exact z
   ·rcases dm.mp ((h u).mpr (dk ..)) with y | y
    ·exact y.symm
    ·exact(t9 (m1 t z) (l1 u y)).elim
  subst e;rw[xZ l2 m2 λv=>?_];constructor
  ·intro hv;rcases dm.mp ((h v).mp (dg _ hv)) with rfl | z
   ·exact(t9 (l1 v hv) (l1 v hv)).elim
   ·exact z
  ·intro hv;rcases dm.mp ((h v).mpr (dg _ hv)) with rfl | z
   ·exact(t9 (m1 v hv) (m1 v hv)).elim
   ·exact z
theorem Iu{fl:List Ti}(w:Walk ks (ids ks.length) row e)(d:eV ks e)(m:gO ks)(f:jE ks row fl)(s:fl.Pairwise λt u=>Bk (t.1,t.2.1) (u.1,u.2.1))(u:UpsOf ks fl U):rH ks U=fl:=by
 have cov:=jE.cov w d m f;have key:=jE.keys w f;have rng:∀t∈fl,0<=t.1/\t.1<t.2.1/\t.2.1<ks.length/\kd ks t.1≠kd ks t.2.1:=λt ht=>by
  obtain⟨ts,pm,al⟩:=f;obtain⟨i,hi⟩:=qk.mp (pm.subset ht);have li:=(cg.mp hi).1;have lu:i<(tls (ids ks.length) row).length:=by rw[<- al.1];exact li
  obtain⟨e1,e2,_⟩:=al.2 i t _ hi (au lu);obtain⟨⟨a,b,ab,bn,ea,eb⟩,hk,_⟩:=w.key (Pt.ids _) (fw lu);have bn':b<ks.length:=by simpa using bn
  rw[Fl.kQ ⋯] at ea;rw[Fl.kQ bn'] at eb;rw[e1,e2];exact⟨⋯,⋯,⋯,⋯⟩
 have pe:eS ks=fl.map λt=>(t.1,t.2.1):=by
  refine xZ (sE ks _ _).1 (ir.mpr s) λp=>?_;rw[lE,jh];constructor
  ·rintro⟨a,b,c,k⟩;obtain⟨t,ht,e1,e2⟩:=cov p.1 p.2 a b c k;exact⟨t,ht,Prod.ext e1 e2⟩
  ·rintro⟨t,ht,rfl⟩;exact rng t ht
 unfold rH;rw[pe,ju];refine(tu λt ht=>?_).trans (map_id fl);obtain⟨a,b,c,k⟩:=rng t ht;show (t.1,t.2.1,oO ks U t.1 t.2.1)=t;rw[IY w d m f u a b c k];obtain⟨v,_,hv,e1,e2,e3⟩:=wE ⟨t,ht,rfl,rfl⟩;rw[e3];have vt:v=t:=by
  obtain⟨i,hi,ei⟩:=cp.mp hv;obtain⟨j,hj,ej⟩:=cp.mp ht;have pw:=da.mp s;rcases sd i j with q | q | q
  ·have:=pw i j hi hj q;rw[ei,ej,e1,e2] at this;exact(t9 this this).elim
  ·subst q;rw[<- ei,<- ej]
  ·have:=pw j i hj hi q;rw[ei,ej,e1,e2] at this;exact(t9 this this).elim
 rw[vt]
end Lw
namespace Lw
open L2 Z
open Sf (Rw crs uU Pre Good aJ bG place many)
open Fl (kd ids Walk eV tls pc aP Pt tm nD srt tS g6)
theorem Px(us:List Ti):Al (us.map tS) us:=⟨by rw[bf],λi t u h1 h2=>by
 rw[dh,h2] at h1;cases h1;exact⟨rfl,rfl,rfl⟩⟩
theorem EH{fl:List Ti}(h:fl.Perm (g6 (ids ks.length) row)):jE ks row fl:=⟨_,h,Px _⟩
noncomputable def NZ(t u:Ti):Bool:=decide (t.1<u.1 \/ (t.1=u.1/\t.2.1<=u.2.1))
theorem J3{e:List Int}(w:Walk ks (ids ks.length) row e):∃fl,jE ks row fl/\fl.Pairwise λt u=>Bk (t.1,t.2.1) (u.1,u.2.1):=by
 have F:jE ks row ((g6 (ids ks.length) row).mergeSort NZ):=EH (Wm _ _);refine⟨_,F,?_⟩;have k:((g6 (ids ks.length) row).mergeSort NZ).Pairwise _:=F.keys w;have h:=Vi (le:=NZ) (λa b c h1 h2=>by simp only[NZ,decide_eq_true_eq] at *;right) (λa b=>by simp only[NZ,Bool.or_eq_true,decide_eq_true_eq];right) (g6 (ids ks.length) row);refine(h.and k).imp λ{t u} zz=>?_;obtain⟨h1,h2⟩:=zz;unfold NZ at h1;rw[decide_eq_true_eq] at h1;unfold Bk;dsimp only;right
theorem PF(ks:List Int)(U:List T3)(z x y:Int):Fl.isb (cau ks U) z x y=w9 ks U z x y:=rfl
theorem Pi(ok:UpsOk ks U):Fl.Cs ks (cau ks U):=by
 refine⟨λa b d _ _ _ _ k=>by unfold cau;rw[ZE k],λa b d _ _ _ _ k1 k2=>by unfold cau;rw[Zg k1,ZE k2],λi j k l h0 ij jk kl hl k1 k2=>?_⟩;have b:=ok.four (i,j,k,l) ⟨h0,ij,jk,kl,hl⟩ (by unfold alike;rw[decide_eq_false k1,decide_eq_false k2];rfl);unfold barred at b;dsimp only at b;revert b;generalize cau ks U i j k=p;generalize cau ks U i j l=q;generalize cau ks U i k l=r;generalize cau ks U j k l=s;cases p<;>cases q<;>cases r<;>cases s<;>simp[Fl.bar,chg]
theorem PZ(m:gO ks)(ok:UpsOk ks U):∃row e,Walk ks (ids ks.length) row e/\eV ks e/\jE ks row (rH ks U)/\UpsOf ks (rH ks U) U/\(rH ks U).Pairwise λt u=>Bk (t.1,t.2.1) (u.1,u.2.1):=by
 obtain⟨row,e,w,d,f⟩:=Fl.exfit (cau ks U) ks.length ks rfl m (Pi ok);obtain⟨fl,F,so⟩:=J3 w;have key:∀a b c:Int,(a,b,c)∈bP ks->(b∈G0 fl a c ↔ (a,b,c)∈U):=λa b c h=>by
  obtain⟨h0,ab,bc,cn,k1,k2⟩:=v5 h;dsimp only at h0 ab bc cn k1 k2;have m1:=m a b h0 ⋯ ⋯;have m2:=m b c ⋯ ⋯ cn;obtain⟨v,hv,e1,e2⟩:=w.all (Fl.Pt.ids _) d (x:=a) (y:=c) ⋯ (Fl.tE h0 ⋯ cn);obtain⟨j,hj,gj⟩:=cp.mp hv;have hb:=F.below w (k:=j) (v:=v) (by rw[au hj,gj]);rw[e1,e2] at hb;rw[hb];have fi:=f (tS v) (vm hv) b ⋯ ⋯;rw[show (b∈srt v.2.2 ↔ b∈(tS v).2.2) from Iff.rfl,fi,show (tS v).1=a from e1,show (tS v).2.1=c from e2];unfold Fl.isb;rw[Zg ⋯,Zg ⋯,decide_eq_true ab,decide_eq_true bc,wn,wn];unfold cau;rw[Zg k1,Zg k2,decide_eq_true_eq]
 have u:UpsOf ks fl U:=⟨λt=>by
  obtain⟨a,b,c⟩:=t;constructor
  ·exact λh=>⟨ok.known _ h,(key a b c (ok.known _ h)).mpr h⟩
  ·exact λh=>(key a b c h.1).mp h.2⟩
 have te:=Iu w d m F so u;rw[te];exact⟨row,e,w,d,F,u,so⟩
end Lw
namespace Lw
open L2 Z
open Sf (Rw crs uU Pre Good aJ bG place many)
open Fl (kd ids Walk eV tls pc aP Pt tm nD)
noncomputable def LW(l:List Ti)(t:Int×Int×Int):Bool:=decide (t.2.1∈G0 l t.1 t.2.2)
theorem R7{fl:List Ti}(cov:Tn ks fl)(mono:gO ks):∀(l acc:List (Int×Int×Int)),(∀t∈l,t∈bP ks)->acc.length+l.length<=10000->Q (.nw (.lst (iA (acc++l.filter (LW fl))))) ->
  eF [.un,.v (.dit (Ik fl))] (gN 0) (bI (aR NW (aR cV (a8 0) (eC (.int 1))) (aR cV (a8 1) (gI (a9 (aR cV (a8 0) (eC (.int 0))) (a9 (aR cV (a8 0) (eC (.int 2))) aF)))))) (a8 0) (iA l) (iA acc) Q:=by
 intro l;induction l with
 |nil=>
  intro acc _ _ h;rw[show iA []=[] from rfl,iQ];simpa using h
 |cons t l ih=>
  intro acc hm hl h;simp only[cj] at hl;obtain⟨m1,m2,m3,m4,m5,m6⟩:=v5 (hm t (by simp));have k1:=mono t.1 t.2.1 m1 ⋯ ⋯;have k2:=mono t.2.1 t.2.2 ⋯ ⋯ m4;obtain⟨u,hu,_,_,_,eu⟩:=wE (cov t.1 t.2.2 m1 ⋯ m4 ⋯);rw[show iA (t::l)=.tup [.int t.1,.int t.2.1,.int t.2.2]::iA l from rfl];push_cast [KW,hu,Zi,NW,LD,bf];refine⟨⟨SH _ _,tQ _ _⟩,?_⟩;rw[<- eu];have e:LW fl t=decide (t.2.1∈G0 fl t.1 t.2.2):=rfl;by_cases z:t.2.1∈G0 fl t.1 t.2.2
  ·rw[ZE z];refine⟨⋯,?_⟩;rw[show iA acc++[Dv.tup [Dv.int t.1,Dv.int t.2.1,Dv.int t.2.2]]=iA (acc++[t]) by simp];rw[vb (by rw[e];simpa using z)] at h;exact ih _ (λt ht=>hm t (dg _ ht)) (by simp;right) (by simpa using h)
  ·rw[Zg z];rw[vc (by rw[e];simpa using z)] at h;exact ih _ (λt ht=>hm t (dg _ ht)) ⋯ h
noncomputable def kY:Fn:=λds Q=>∃(ks:List Int) (fl:List Ti),ds=[.lst (bN ks),.lst (lT fl)]/\1<=ks.length/\ks.length<=12/\fl.length<=1000/\CO fl/\Tn ks fl/\gO ks/\Q (.nw (.lst (iA ((bP ks).filter (LW fl)))))
theorem Jy:∀ds Q,kY ds Q->ds.length=2:=by rintro ds Q ⟨_,_,rfl,_⟩;rfl
theorem HG:MonoF kY:=⟨λds Q Q' w z=>by obtain⟨r,e,a,b,c,d,f,g,i,h⟩:=z;exact⟨r,e,a,b,c,d,f,g,i,w _ h⟩⟩
theorem Gr:∀ds Q,kY ds Q->v9 oY nR ↥Q (aM ["_law_bands_here", "_law_tiles", "_law_belows_here"] ds):=by
 rintro ds Q ⟨ks,fl,rfl,h1,hn,hl,hk,cov,mono,h⟩;have tl:=tO hn;ac_nf;refine⟨fl,rfl,hl,hk,?_⟩;ac_nf;refine⟨ks,rfl,h1,hn,mono,?_⟩;ac_nf;exact R7 cov mono (bP ks) [] (λt ht=>ht) (by simp;right) h
theorem DO(ks:List Int)(a b:Int):∀i c,(yH ks a b i c).Pairwise (· ≠ ·)
 |0,c=>List.Pairwise.nil
 |i+1,c=>by
  rw[yH];by_cases e:kd ks c=kd ks b
  ·rw[ZE e,gw];exact DO ks a b i (c+1)
  ·rw[Zg e,wa];refine iz.mpr ⟨λt ht z=>?_,DO ks a b i (c+1)⟩;have:=(kP ks a b i (c+1) t ht).2.2.1;rw[<- z] at this;have q:((c+1:Nat):Int)<=c:=this;right
theorem Eb(ks:List Int):(bP ks).Nodup:=by
 unfold bP eW;refine VO.mpr ⟨λp _=>DO ks _ _ _ _,(sE ks _ _).1.imp λ{p q} h x hx y hy z=>?_⟩;have h1:=kP ks _ _ _ _ x hx;have h2:=kP ks _ _ _ _ y hy;subst z;unfold Bk at h;right
noncomputable def l3(t u:T3):Prop:=t.1<u.1 \/ (t.1=u.1/\(t.2.1<u.2.1 \/ (t.2.1=u.2.1/\t.2.2<u.2.2)))
theorem Mr{t u:T3}(h:gZ [t.1,t.2.1,t.2.2] [u.1,u.2.1,u.2.2]=aj):l3 t u:=by
 unfold l3;simp only[gZ] at h;split at h
 ·split at h
  ·split at h
   ·cases h
   ·exact .inr ⟨by assumption,.inr ⟨by assumption,of_decide_eq_true h⟩⟩
  ·exact .inr ⟨by assumption,.inl (of_decide_eq_true h)⟩
 ·exact .inl (of_decide_eq_true h)
theorem zC{α:Type}{R:α->α->Prop}(as:∀a b,R a b->R b a->False):∀{l m:List α},l.Pairwise R->m.Pairwise R->(∀t,t∈l ↔ t∈m)->l=m
 | [],[],_,_,_=>rfl
 | [],b::m,_,_,h=>nomatch (h b).mpr (dk ..)
 |a::l,[],_,_,h=>nomatch (h a).mp (dk ..)
 |a::l,b::m,h1,h2,h=>by
  obtain⟨a1,a2⟩:=iz.mp h1;obtain⟨b1,b2⟩:=iz.mp h2;have e:a=b:=by
   rcases dm.mp ((h a).mp (dk ..)) with z | z
   ·exact z
   ·rcases dm.mp ((h b).mpr (dk ..)) with y | y
    ·exact y.symm
    ·exact(as a b (a1 b y) (b1 a z)).elim
  subst e;refine congrArg _ (zC as a2 b2 λt=>?_);constructor
  ·intro ht;rcases dm.mp ((h t).mp (dg _ ht)) with z | z
   ·subst z;exact(as t t (a1 t ht) (a1 t ht)).elim
   ·exact z
  ·intro ht;rcases dm.mp ((h t).mpr (dg _ ht)) with z | z
   ·subst z;exact(as t t (b1 t ht) (b1 t ht)).elim
   ·exact z
theorem DP(ks:List Int)(a b:Int):∀i c,(yH ks a b i c).Pairwise l3
 |0,c=>List.Pairwise.nil
 |i+1,c=>by
  rw[yH];by_cases e:kd ks c=kd ks b
  ·rw[ZE e,gw];exact DP ks a b i (c+1)
  ·rw[Zg e,wa];refine iz.mpr ⟨λt ht=>?_,DP ks a b i (c+1)⟩;obtain⟨h1,h2,h3,_⟩:=kP ks a b i (c+1) t ht;unfold l3;exact .inr ⟨h1.symm,.inr ⟨h2.symm,by dsimp only;right⟩⟩
theorem Ec(ks:List Int):(bP ks).Pairwise l3:=by
 unfold bP eW;refine VO.mpr ⟨λp _=>DP ks _ _ _ _,(sE ks _ _).1.imp λ{p q} h x hx y hy=>?_⟩;have h1:=kP ks _ _ _ _ x hx;have h2:=kP ks _ _ _ _ y hy;unfold Bk at h;unfold l3;right
theorem KY{fl:List Ti}(u:UpsOf ks fl U)(so:U.Pairwise l3):(bP ks).filter (LW fl)=U:=by
 refine zC (R:=l3) (λa b h1 h2=>by unfold l3 at *;right) ((Ec ks).filter _) so λt=>?_;rw[u.mem t,Vo];unfold LW;rw[decide_eq_true_eq]
noncomputable abbrev v3(t:T3):List Int:=[t.1,t.2.1,t.2.2]
theorem Ch{M:List T3}(hl:M.length<=1000)(h:∀U:List T3,U.Perm M->U.Pairwise l3->Q (.nw (.lst (iA U)))):iO [.dit (dU M)] Q:=by
 rw[BN];refine⟨M.map v3,2,by rw[ju,ju];rfl,by rw[bf];right,λl hl=>?_,λls pm pw=>?_⟩
 ·obtain⟨p,_,rfl⟩:=jh.mp hl;rfl
 ·obtain⟨ps,pp,rfl⟩:=p7 pm (its:=M) rfl;rw[ju];rw[ir] at pw;exact h ps pp (pw.imp λh=>Mr h)
variable {E:En}
theorem SM(m:gO ks){x:Nat}:∀(i b:Nat) (acc:List (Int×Int)) (s3:Sl),x<b->b+i<=ks.length->acc.length+i<=1000->(∀s3,E.nx [.v (.lst (bN ks)),.own a (.lst (pM (acc++yI ks x i b))),.v (.int x),s3]) ->
  aX (gN 3) iZ [] (aV b i) E [.v (.lst (bN ks)),.own a (.lst (pM acc)),.v (.int x),s3]:=by
 intro i;induction i with
 |zero=>
  intro b acc s3 _ _ _ h;rw[bK,b6];rw[show yI ks x 0 b=[] from rfl,ic] at h;exact⟨λp hp=>by simp at hp,h _⟩
 |succ i ih=>
  intro b acc s3 hb hi hl h;rw[b7,b8];refine⟨λp hp=>by simp at hp,?_⟩;rw[show ((b:Int)+1)=((b+1:Nat):Int) by right];have nx:=λacc s3=>ih (b+1) acc s3 ⋯ ⋯;generalize aX (gN 3) iZ [] (aV ((b+1:Nat):Int) i) E=G at nx ⊢;have mo:=m x b ⋯ ⋯ ⋯;rw[yI] at h;push_cast [iZ];rw[eU (show x<ks.length by right),eU (show b<ks.length by right)];push_cast [bf];have k1:kd ks (x:Int)=ks.getD x 0:=by unfold kd;rw[br]
  have k2:kd ks (b:Int)=ks.getD b 0:=by unfold kd;rw[br]
  rw[k1,k2] at mo;rw[k1,k2] at h;refine oA (λq=>?_) λq=>?_
  ·refine⟨⋯,?_⟩;rw[show pM acc++[Dv.tup [Dv.int (x:Int),Dv.int (b:Int)]]=pM (acc++[((x:Int),(b:Int))]) by simp];refine nx _ _ (by simp;right) λs3=>?_;rw[Zg ⋯] at h;rw[dw];exact h s3
  ·refine nx _ _ ⋯ λs3=>?_;rw[ZE ⋯,gw] at h;exact h s3
theorem SL(m:gO ks)(hn:ks.length<=12):∀(i x:Nat) (acc:List (Int×Int)) (s2 s3:Sl),x+i=ks.length->acc.length+12*i<=900->(∀s2 s3,E.nx [.v (.lst (bN ks)),.own a (.lst (pM (acc++lG ks i x))),s2,s3]) ->
  aX (gN 2) iY [] (aV x i) E [.v (.lst (bN ks)),.own a (.lst (pM acc)),s2,s3]:=by
 intro i;induction i with
 |zero=>
  intro x acc s2 s3 _ _ h;rw[bK,b6];rw[show lG ks 0 x=[] from rfl,ic] at h;exact⟨λp hp=>by simp at hp,h _ _⟩
 |succ i ih=>
  intro x acc s2 s3 hi hl h;rw[b7,b8];refine⟨λp hp=>by simp at hp,?_⟩;rw[show ((x:Int)+1)=((x+1:Nat):Int) by right];have nx:=λacc s2 s3=>ih (x+1) acc s2 s3 ⋯;generalize aX (gN 2) iY [] (aV ((x+1:Nat):Int) i) E=G at nx ⊢;rw[lG] at h;have il:=sI ks x (ks.length-(x+1)) (x+1);push_cast [iY,bf];rw[show ((x:Int)+1)=((x+1:Nat):Int) by right];refine⟨⋯,?_⟩;rw[show ((ks.length:Int)-((x+1:Nat):Int)).toNat=ks.length-(x+1) by right];refine SM m _ (x+1) acc _ ⋯ ⋯ ⋯ λs3=>?_;refine nx _ _ _ (by rw[eg];right) λs2 s3=>?_;rw[dw];exact h s2 s3
noncomputable def sT:Fn:=λds Q=>∃ks:List Int,ds=[.lst (bN ks)]/\ks.length<=12/\gO ks/\Q (.nw (.lst (pM (eS ks))))
theorem K0:∀ds Q,sT ds Q->ds.length=1:=by rintro ds Q ⟨_,rfl,_⟩;rfl
theorem Mj:MonoF sT:=⟨λds Q Q' w z=>by obtain⟨a,b,c,d,e⟩:=z;exact⟨a,b,c,d,w _ e⟩⟩
theorem BI:∀ds Q,sT ds Q->nL ↥Q (aM ["_law_bands_here", "_law_found", "_law_a", "_law_b"] ds):=by
 rintro ds Q ⟨ks,rfl,hn,m,q⟩;push_cast [bf];refine λa=>⟨⋯,?_⟩;rw[br];refine SL m hn ks.length 0 [] _ _ ⋯ (by simp;right) λs2 s3=>?_;rw[gw];ac_nf;exact q
end Lw
namespace Lw
open L2 Z
open Sf (Rw crs uU Pre Good aJ bG place many)
open Fl (kd ids Walk eV tls pc aP Pt tm nD)
noncomputable def xT:Fn:=λds Q=>∃(ks:List Int) (M:List T3) (a b c:Int),ds=[.lst (bN ks),.dit (dU M),.int a,.int b,.int c]/\Nh ks.length a b c/\Q (.v (.bl (cau ks M a b c)))
theorem Mp:∀ds Q,xT ds Q->ds.length=5:=by rintro ds Q ⟨_,_,_,_,_,rfl,_⟩;rfl
theorem Ox:MonoF xT:=⟨λds Q Q' w z=>by obtain⟨a,b,c,d,e,f,g,h⟩:=z;exact⟨a,b,c,d,e,f,g,w _ h⟩⟩
theorem zO:∀ds Q,xT ds Q->lZ ↥Q (aM ["_law_bands_here", "_law_marks", "_law_a", "_law_b", "_law_c"] ds):=by
 rintro ds Q ⟨ks,M,a,b,c,rfl,⟨ha,hb,hc⟩,q⟩;unfold cau at q;ac_nf;rw[fD ha.1 ha.2,fD hb.1 hb.2];ac_nf;refine oA (λe=>by rw[ZE e] at q;exact q) λe=>?_;rw[Zg e] at q;rw[fD hc.1 hc.2];ac_nf;refine oA (λe2=>by rw[ZE e2] at q;exact q) λe2=>?_;rw[Zg e2] at q;refine⟨DK (a,b,c),rfl,?_⟩;rw[uO];exact q
noncomputable def lbar(ks:List Int)(M:List T3)(t:T4):Bool:=!alike ks t&&barred ks M t
noncomputable def n8:Fn:=λds Q=>∃(ks:List Int) (M:List T3) (t:T4),ds=[.lst (bN ks),.dit (dU M),.int t.1,.int t.2.1,.int t.2.2.1,.int t.2.2.2]/\In4 ks.length t/\Q (.v (.bl (lbar ks M t)))
theorem Mq:∀ds Q,n8 ds Q->ds.length=6:=by rintro ds Q ⟨_,_,_,rfl,_⟩;rfl
theorem Oy:MonoF n8:=⟨λds Q Q' w z=>by obtain⟨a,b,c,d,e,h⟩:=z;exact⟨a,b,c,d,e,w _ h⟩⟩
theorem SO{p q r s:Bool}{x0 x1 x2 x3 x4 x5:Sl}(h:Q (.v (.bl (decide (1<chg p q+chg q r+chg r s))))):
  aX (gN 8) (kG xT) [] (aV 0 3) { nx:=cP (aR Dy (a8 7) (eC (.int 1))) ↥Q,rt:=Q } [x0,x1,x2,x3,x4,x5,.v (.lst [.bl p,.bl q,.bl r,.bl s]),.v (.int 0),.un]:=by
 rw[show aV 0 3=[.int 0,.int 1,.int 2] from rfl];push_cast [kG];revert h;cases p<;>cases q<;>cases r<;>cases s<;>intro h<;>exact@YQ _ _ ⟨rfl,rfl⟩ (@YQ _ _ ⟨rfl,rfl⟩ (@YQ _ _ ⟨rfl,rfl⟩ h))
theorem zQ:∀ds Q,n8 ds Q->mC xT ↥Q (aM ["_law_bands_here", "_law_marks", "_law_a", "_law_b", "_law_c", "_law_d", "_law_row_here", "_law_changes", "_law_k"] ds):=by
 rintro ds Q ⟨ks,M,t,rfl,i4,q⟩;obtain⟨h0,ij,jk,kl,hi⟩:=i4;unfold lbar alike barred at q;ac_nf;rw[fD (show 0<=t.1 by right) ⋯,fD (show 0<=t.2.1 by right) ⋯,fD (show 0<=t.2.2.1 by right) ⋯,fD (show 0<=t.2.2.2 by right) ⋯];ac_nf;have kn:∀{a b c:Int} {Q:R->Prop},(0<=a/\a<ks.length)->(0<=b/\b<ks.length)->(0<=c/\c<ks.length)->Q (.v (.bl (cau ks M a b c)))->xT [.lst (bN ks),.dit (dU M),.int a,.int b,.int c] Q:=λha hb hc q=>⟨ks,M,_,_,_,rfl,⟨ha,hb,hc⟩,q⟩;refine oA (λe=>?_) λe=>oA (λe2=>?_) λe2=>?_
 ·rw[decide_eq_true e,YX] at q;exact q
 ·rw[decide_eq_true e2,Bool.or_true] at q;exact q
 rw[decide_eq_false e,decide_eq_false e2,Ux,Bool.not_false,wn] at q;refine kn ⟨⋯,⋯⟩ ⟨⋯,⋯⟩ ⟨⋯,⋯⟩ ?_;ac_nf;refine kn ⟨⋯,⋯⟩ ⟨⋯,⋯⟩ ⟨⋯,⋯⟩ ?_;ac_nf;refine kn ⟨⋯,⋯⟩ ⟨⋯,⋯⟩ ⟨⋯,⋯⟩ ?_;ac_nf;refine kn ⟨⋯,⋯⟩ ⟨⋯,⋯⟩ ⟨⋯,⋯⟩ ?_;ac_nf;exact SO q
variable {j:Nat}
section
variable {M:List T3}{E:En}
theorem Ss(yes:∀t,In4 ks.length t->lbar ks M t=aj->E.rt (.v (.bl aj))){k:Nat}(ij:i<j)(jk:j<k):∀(m l:Nat) (s:Sl),k<l->l+m=ks.length ->
  ((∀t,In4 ks.length t->t.1=i->t.2.1=j->t.2.2.1=k->(l:Int)<=t.2.2.2->lbar ks M t=ao) -> ∀s,E.nx [.v (.lst (bN ks)),.v (.dit (dU M)),.v (.int i),.v (.int j),.v (.int k),s]) ->
  aX (gN 5) (fN n8) [] (aV l m) E [.v (.lst (bN ks)),.v (.dit (dU M)),.v (.int i),.v (.int j),.v (.int k),s]:=by
 intro m;induction m with
 |zero=>
  intro l s _ ln h;rw[bK,b6];exact⟨λp hp=>by simp at hp,h (λt i4 _ _ _ z=>by have:=i4.hi;right) s⟩
 |succ m ih=>
  intro l s kl ln h;have i4:In4 ks.length ((i:Int),(j:Int),(k:Int),(l:Int)):=⟨show (0:Int)<=i by right,show (i:Int)<j by right,show (j:Int)<k by right,show (k:Int)<l by right,show (l:Int)<ks.length by right⟩;rw[b7,b8];refine⟨λp hp=>by simp at hp,?_⟩;rw[show ((l:Int)+1)=((l+1:Nat):Int) by right];have nx:=λs=>ih (l+1) s ⋯ ⋯;generalize aX (gN 5) (fN n8) [] (aV ((l+1:Nat):Int) m) E=G at nx ⊢;push_cast [fN];refine⟨ks,M,((i:Int),(j:Int),(k:Int),(l:Int)),rfl,i4,?_⟩;cases e:lbar ks M ((i:Int),(j:Int),(k:Int),(l:Int)) with
  |true=>
   ac_nf;exact yes _ i4 e
  |false=>
   ac_nf;refine nx _ λno=>h λt j4 a b c z=>?_;rcases qw z with z | z
   ·exact no t j4 a b c ⋯
   ·obtain⟨x,y,u,v⟩:=t;dsimp only at a b c z;rw[a,b,c,<- z];exact e
theorem Sr(hn:ks.length<=12)(yes:∀t,In4 ks.length t->lbar ks M t=aj->E.rt (.v (.bl aj)))(ij:i<j):∀(m k:Nat) (s u:Sl),j<k->k+m=ks.length ->
  ((∀t,In4 ks.length t->t.1=i->t.2.1=j->(k:Int)<=t.2.2.1->lbar ks M t=ao) -> ∀s u,E.nx [.v (.lst (bN ks)),.v (.dit (dU M)),.v (.int i),.v (.int j),s,u]) ->
  aX (gN 4) (fM n8) [] (aV k m) E [.v (.lst (bN ks)),.v (.dit (dU M)),.v (.int i),.v (.int j),s,u]:=by
 intro m;induction m with
 |zero=>
  intro k s u _ ln h;rw[bK,b6];exact⟨λp hp=>by simp at hp,h (λt i4 _ _ z=>by have:=i4.hi;have:=i4.kl;right) s u⟩
 |succ m ih=>
  intro k s u jk ln h;rw[b7,b8];refine⟨λp hp=>by simp at hp,?_⟩;rw[show ((k:Int)+1)=((k+1:Nat):Int) by right];have nx:=λs u=>ih (k+1) s u ⋯ ⋯;generalize aX (gN 4) (fM n8) [] (aV ((k+1:Nat):Int) m) E=G at nx ⊢;push_cast [fM,bf];refine⟨⋯,?_⟩;rw[show ((ks.length:Int)-((k:Int)+1)).toNat=ks.length-(k+1) by right,show ((k:Int)+1)=((k+1:Nat):Int) by right];refine Ss ?_ ij jk (ks.length-(k+1)) (k+1) u ⋯ ⋯ ?_
  ·exact yes
  refine λa s=>nx _ s λb=>h λt i4 x y z=>?_;rcases qw z with z | z
  ·exact b t i4 x y ⋯
  ·exact a t i4 x y z.symm (by have:=i4.kl;right)
theorem Sq(hn:ks.length<=12)(yes:∀t,In4 ks.length t->lbar ks M t=aj->E.rt (.v (.bl aj))):∀(m j:Nat) (s u v:Sl),i<j->j+m=ks.length ->
  ((∀t,In4 ks.length t->t.1=i->(j:Int)<=t.2.1->lbar ks M t=ao) -> ∀s u v,E.nx [.v (.lst (bN ks)),.v (.dit (dU M)),.v (.int i),s,u,v]) ->
  aX (gN 3) (fK n8) [] (aV j m) E [.v (.lst (bN ks)),.v (.dit (dU M)),.v (.int i),s,u,v]:=by
 intro m;induction m with
 |zero=>
  intro j s u v _ ln h;rw[bK,b6];exact⟨λp hp=>by simp at hp,h (λt i4 _ z=>by have:=i4.hi;have:=i4.kl;have:=i4.jk;right) s u v⟩
 |succ m ih=>
  intro j s u v ij ln h;rw[b7,b8];refine⟨λp hp=>by simp at hp,?_⟩;rw[show ((j:Int)+1)=((j+1:Nat):Int) by right];have nx:=λs u v=>ih (j+1) s u v ⋯ ⋯;generalize aX (gN 3) (fK n8) [] (aV ((j+1:Nat):Int) m) E=G at nx ⊢;push_cast [fK,bf];refine⟨⋯,?_⟩;rw[show ((ks.length:Int)-((j:Int)+1)).toNat=ks.length-(j+1) by right,show ((j:Int)+1)=((j+1:Nat):Int) by right];refine Sr hn ?_ ij (ks.length-(j+1)) (j+1) u v ⋯ ⋯ ?_
  ·exact yes
  refine λa s u=>nx _ s u λb=>h λt i4 x z=>?_;rcases qw z with z | z
  ·exact b t i4 x ⋯
  ·exact a t i4 x z.symm (by have:=i4.jk;right)
theorem So(hn:ks.length<=12)(yes:∀t,In4 ks.length t->lbar ks M t=aj->E.rt (.v (.bl aj))):∀(m i:Nat) (s u v x:Sl),i+m=ks.length ->
  ((∀t,In4 ks.length t->(i:Int)<=t.1->lbar ks M t=ao) -> ∀s u v x,E.nx [.v (.lst (bN ks)),.v (.dit (dU M)),s,u,v,x]) ->
  aX (gN 2) (fJ n8) [] (aV i m) E [.v (.lst (bN ks)),.v (.dit (dU M)),s,u,v,x]:=by
 intro m;induction m with
 |zero=>
  intro i s u v x ln h;rw[bK,b6];exact⟨λp hp=>by simp at hp,h (λt i4 z=>by have:=i4.hi;have:=i4.kl;have:=i4.jk;have:=i4.ij;right) s u v x⟩
 |succ m ih=>
  intro i s u v x ln h;rw[b7,b8];refine⟨λp hp=>by simp at hp,?_⟩;rw[show ((i:Int)+1)=((i+1:Nat):Int) by right];have nx:=λs u v x=>ih (i+1) s u v x ⋯;generalize aX (gN 2) (fJ n8) [] (aV ((i+1:Nat):Int) m) E=G at nx ⊢;push_cast [fJ,bf];refine⟨⋯,?_⟩;rw[show ((ks.length:Int)-((i:Int)+1)).toNat=ks.length-(i+1) by right,show ((i:Int)+1)=((i+1:Nat):Int) by right];refine Sq hn ?_ (ks.length-(i+1)) (i+1) u v x ⋯ ⋯ ?_
  ·exact yes
  refine λa s u v=>nx _ s u v λb=>h λt i4 z=>?_;rcases qw z with z | z
  ·exact b t i4 ⋯
  ·exact a t i4 z.symm (by have:=i4.ij;right)
end
noncomputable def sU:Fn:=λds Q=>∃(ks:List Int) (M:List T3),ds=[.lst (bN ks),.dit (dU M)]/\ks.length<=12/\(∀t,In4 ks.length t->lbar ks M t=aj->Q (.v (.bl aj)))/\((∀t,In4 ks.length t->lbar ks M t=ao)->Q (.v (.bl ao)))
theorem K2:∀ds Q,sU ds Q->ds.length=2:=by rintro ds Q ⟨_,_,rfl,_⟩;rfl
theorem Ml:MonoF sU:=⟨λds Q Q' w z=>by obtain⟨a,b,c,d,e,f⟩:=z;exact⟨a,b,c,d,λt x y=>w _ (e t x y),λz=>w _ (f z)⟩⟩
theorem u9:∀ds Q,sU ds Q->jF n8 ↥Q (aM ["_law_bands_here", "_law_marks", "_law_a", "_law_b", "_law_c", "_law_d"] ds):=by
 rintro ds Q ⟨ks,M,rfl,hn,yes,no⟩;push_cast [bf];refine⟨⋯,?_⟩;rw[br];refine So hn yes ks.length 0 _ _ _ _ ⋯ λa s u v x=>?_;ac_nf;exact no λt i4=>a t i4 i4.lo
end Lw
namespace Lw
open L2 Z
open Sf (Rw crs uU Pre Good aJ bG place many)
open Fl (kd ids Walk eV tls pc aP Pt Bf srt jW tS g6)
noncomputable def Dh(l:List Int)(p:Nat):Ti:=(l.getD p 0,l.getD (p+1) 0,srt (l.take p))
theorem Hx(l:List Ti)(t:Ti):wC l t=decide (t∈l):=by
 unfold wC;induction l with
 |nil=>rfl
 |cons u l ih=>
  rw[tj,ih,<- Wc];refine decide_eq_decide.mpr ?_;rw[dm];exact⟨λz=>z.imp Eq.symm _root_.id,λz=>z.imp Eq.symm _root_.id⟩
theorem M3{l:List Ti}{t:Ti}(h:t ∉ l):xX l t=l++[t]:=by
 have:=Hx l t;rw[decide_eq_false h] at this;unfold xX;unfold wC at this;rw[this,Zg ∅]
variable {e cur:List Int}
theorem wmore{R S:List Int}(w:Walk ks (ids ks.length) R e)(v:Walk ks (ids ks.length) S cur)(h:S.length<R.length):¬eV ks cur:=λd=>by
 have P:=Pt.ids ks.length;have nd:=w.nodup P;have:=nd.length_le_of_subset (l₂:=(tls (ids ks.length) S).map λt=>(t.1,t.2.1)) λk hk=>by
  obtain⟨t,ht,rfl⟩:=jh.mp hk;obtain⟨h1,h2,_⟩:=w.key P ht;obtain⟨u,hu,e1,e2⟩:=v.all P d h2 h1;exact jh.mpr ⟨u,hu,by rw[e1,e2]⟩
 rw[bf,bf,Fl.i9,Fl.i9] at this;right
variable {E:En}{x1 x6:Sl}
theorem PB{x0 x4 x5 x7:Sl}:∀(l acc:List Ti) (s:Sl),(acc++l).Nodup->acc.length+l.length<=1000->(∀s,E.nx [x0,x1,.own a (.dns (acc++l)),s,x4,x5,x6,x7]) ->
  aX (gN 3) (n5 dF) [] (lT l) E [x0,x1,.own a (.dns acc),s,x4,x5,x6,x7]:=by
 intro l;induction l with
 |nil=>
  intro acc s _ _ h;rw[show lT []=[] from rfl,b6];rw[ic] at h;exact⟨λp hp=>by simp at hp,h _⟩
 |cons t l ih=>
  intro acc s nd hl h;rw[cj] at hl;have nt:t ∉ acc:=λz=>(vj.mp nd).2.2 t z t (dk ..) rfl;rw[show lT (t::l)=Iy t::lT l from rfl];push_cast [n5,Ax];refine⟨t,rfl,⋯,?_⟩;rw[M3 nt];refine ih (acc++[t]) _ (by rw[dw];exact nd) (by simp;right) λs=>?_;rw[dw];exact h s
theorem P9{fl met:List Ti}(hn:ks.length<=12)(Pc:Pt ks.length cur)(ml:met.length<=100)
  (h:∀q,q+1<cur.length->kd ks (cur.getD q 0)<kd ks (cur.getD (q+1) 0)->Dh cur q∈fl->E.nx [.v (.lst (bN ks)),x1,.own a (.dns fl),.v (Iy (Dh cur q)),.v (.lst (bN (aP cur q))),.own b (.lst (lT (met++[Dh cur q]))),x6,.v (.int (q:Nat))]):
  ∀(i p:Nat) (s3 s7:Sl),p+i+1=cur.length->(∃q,p<=q/\q+1<cur.length/\kd ks (cur.getD q 0)<kd ks (cur.getD (q+1) 0)/\Dh cur q∈fl) ->
  aX (gN 7) (jT dF) [] (aV p i) E [.v (.lst (bN ks)),x1,.own a (.dns fl),s3,.v (.lst (bN cur)),.own b (.lst (lT met)),x6,s7]:=by
 have lc:=Pc.len;intro i;induction i with
 |zero=>
  intro p s3 s7 hp ⟨q,h1,h2,_⟩;right
 |succ i ih=>
  intro p s3 s7 hp ⟨q,h1,h2,h3,h4⟩;rw[b7,b8];refine⟨λp hp=>by simp at hp,?_⟩;rw[show ((p:Int)+1)=((p+1:Nat):Int) by right];have nx:=λs3 s7=>ih (p+1) s3 s7 ⋯;generalize aX (gN 7) (jT dF) [] (aV ((p+1:Nat):Int) i) E=G at nx ⊢;have b1:=Pc.bd p ⋯;have b2:=Pc.bd (p+1) ⋯;push_cast [jT];rw[eU (show p<cur.length by right),show ((p:Int)+1)=((p+1:Nat):Int) by right,eU (show p+1<cur.length by right),DU ⋯,br,<- X0];ac_nf;refine y7 (by simp;right) λms hm hs=>?_;obtain rfl:=jW hm hs;ac_nf;rw[fD b1.1 b1.2,fD b2.1 b2.2];ac_nf;refine oA (λkk=>?_) λkk=>?_
  ·refine(show Gw (Iy (Dh cur p)) (.dns fl) _ from⟨Dh cur p,rfl,?_⟩);rw[Hx];by_cases m:Dh cur p∈fl
   ·rw[decide_eq_true m];push_cast [bf];refine⟨⋯,cur,p,rfl,⋯,⋯,?_⟩;ac_nf;have:=h p ⋯ kk m;rw[show lT (met++[Dh cur p])=lT met++[Iy (Dh cur p)] by simp] at this;exact this
   ·rw[decide_eq_false m];ac_nf;refine nx _ _ ⟨q,?_,h2,h3,h4⟩;rcases W9 p q with z | z
    ·right
    ·exact absurd ((show p=q by right) ▸ h4) m
  ·refine nx _ _ ⟨q,?_,h2,h3,h4⟩;rcases W9 p q with z | z
   ·right
   ·exact absurd ((show p=q by right) ▸ h3) kk
theorem P8{fl:List Ti}(h2:2<=ks.length)(hn:ks.length<=12)(w:Walk ks (ids ks.length) row e)(d:eV ks e)(rl:row.length<=60)(pm:fl.Perm (g6 (ids ks.length) row))
  (h:∀S cur s3 s6 s7,Walk ks (ids ks.length) S cur->S.length=row.length->(∀t∈g6 (ids ks.length) S,t∈fl)->E.nx [.v (.lst (bN ks)),.v (.lst (lT fl)),.own a (.dns fl),s3,.v (.lst (bN cur)),.own b (.lst (lT (g6 (ids ks.length) S))),s6,s7]):
  ∀(i k:Nat) (S cur:List Int) (s3 s6 s7:Sl),k+i=row.length->S.length=k->Walk ks (ids ks.length) S cur->(∀t∈g6 (ids ks.length) S,t∈fl) ->
  aX (gN 6) (jS dF) [] (aV k i) E [.v (.lst (bN ks)),.v (.lst (lT fl)),.own a (.dns fl),s3,.v (.lst (bN cur)),.own b (.lst (lT (g6 (ids ks.length) S))),s6,s7]:=by
 have P:=Pt.ids ks.length;intro i;induction i with
 |zero=>
  intro k S cur s3 s6 s7 hk hS v sub;rw[bK,b6];exact⟨λp hp=>by simp at hp,h S cur s3 s6 s7 v ⋯ sub⟩
 |succ i ih=>
  intro k S cur s3 s6 s7 hk hS v sub;have Pc:=v.pt P;have lc:=Pc.len;rw[b7,b8];refine⟨λp hp=>by simp at hp,?_⟩;rw[show ((k:Int)+1)=((k+1:Nat):Int) by right];have nx:=λS cur s3 s6 s7=>ih (k+1) S cur s3 s6 s7 ⋯;generalize aX (gN 6) (jS dF) [] (aV ((k+1:Nat):Int) i) E=G at nx ⊢;obtain⟨q,hq,u,hu,e1,e2,e3⟩:=Fl.greedy w d v (λt ht=>by
   have m:tS t∈g6 (ids ks.length) row:=pm.mem_iff.mp (sub _ (vm ht));obtain⟨u,hu,e⟩:=jh.mp m;have e':(u.1,u.2.1,srt u.2.2)=(t.1,t.2.1,srt t.2.2):=e;injection e' with a b;injection b with b c;exact⟨u,hu,a,b,(Fl.j9 _).symm.trans (c ▸ Fl.j9 _)⟩) (wmore w v ⋯)
  have mq:Dh cur q∈fl:=pm.mem_iff.mpr (by
   refine jh.mpr ⟨u,hu,?_⟩;unfold tS Dh;rw[e1,e2,Fl.Cf e3])
  have kq:kd ks (cur.getD q 0)<kd ks (cur.getD (q+1) 0):=by
   have:=(w.key P hu).2.1;rwa[e1,e2] at this
  push_cast [jS,bf];refine⟨⋯,?_⟩;rw[show ((cur.length:Int)-1).toNat=cur.length-1 by right];refine P9 hn Pc (by rw[g6,bf,Fl.i9];right) (λp hp kk m=>?_) (cur.length-1) 0 _ _ ⋯ ⟨q,⋯,⋯,kq,mq⟩;have te:g6 (ids ks.length) (S++[(p:Int)])=g6 (ids ks.length) S++[Dh cur p]:=by
   rw[Fl.CY v];rw[show g6 cur [(p:Int)]=[Dh cur p] by unfold g6;rw[tls,tls,br];rfl]
  have:=nx (S++[(p:Int)]) (aP cur p) (.v (Iy (Dh cur p))) (.v (.int k)) (.v (.int (p:Nat))) (by rw[eg,hS];rfl) (v.snoc ⋯ kk) (λt ht=>by
   rw[te] at ht;rcases fm.mp ht with ht | ht
   ·exact sub t ht
   ·rw[fe.mp ht];exact m)
  rw[te] at this;exact this
noncomputable def oX:Fn:=λds Q=>∃(ks row e:List Int) (fl:List Ti),ds=[.lst (bN ks),.lst (lT fl)]/\2<=ks.length/\ks.length<=12/\Walk ks (ids ks.length) row e/\eV ks e/\row.length<=60/\jE ks row fl/\(fl.Pairwise λt u=>Bk (t.1,t.2.1) (u.1,u.2.1))/\Q (.v (.bl aj))
theorem Hb:∀ds Q,oX ds Q->ds.length=2:=by rintro ds Q ⟨_,_,_,_,rfl,_⟩;rfl
theorem Jq:MonoF oX:=⟨λds Q Q' w z=>by obtain⟨a,b,c,d,e,f,g,h,i,j,k,m,l⟩:=z;exact⟨a,b,c,d,e,f,g,h,i,j,k,m,w _ l⟩⟩
theorem Nl{ts us:List Ti}(h:Al ts us):ts=us.map tS:=by
 apply rd;intro i;rw[dh];by_cases hi:i<us.length
 ·have hi':i<ts.length:=by rw[h.1];exact hi
  obtain⟨a,b,c⟩:=h.2 i _ _ (au hi') (au hi);rw[au hi',au hi];show aa ts[i]=aa (us[i].1,us[i].2.1,srt us[i].2.2);rw[<- a,<- b,<- c]
 ·rw[lf (by rw[h.1];right),lf ⋯];rfl
theorem Jk{fl:List Ti}(h:jE ks row fl):fl.Perm (g6 (ids ks.length) row):=by
 obtain⟨ts,p,a⟩:=h;rw[Nl a] at p;exact p
theorem Ju{t u:Ti}(h:gZ [t.1,t.2.1] [u.1,u.2.1]=aj):Bk (t.1,t.2.1) (u.1,u.2.1):=by
 unfold Bk;simp only[gZ] at h;split at h
 ·split at h
  ·cases h
  ·exact .inr ⟨by assumption,of_decide_eq_true h⟩
 ·exact .inl (of_decide_eq_true h)
theorem D1:∀ds Q,oX ds Q->q8 dF ↥Q (aM ["_law_bands_here", "_law_tiles", "_law_marks", "_law_tile", "_law_path", "_law_met", "_law_step", "_law_p"] ds):=by
 rintro ds Q ⟨ks,row,e,fl,rfl,h2,hn,w,d,rl,F,so,q⟩;have pm:=Jk F;have L:fl.length=row.length:=by rw[pm.length_eq,g6,bf,Fl.i9]
 have key:=F.keys w;have nd:fl.Nodup:=List.Pairwise.imp (λ{t u} z q=>z (by rw[q];exact⟨rfl,rfl⟩)) key;push_cast [TR];intro a;refine PB fl [] _ (by rw[gw];exact nd) (by simp;right) λs=>?_;rw[gw];push_cast [bf];refine⟨⋯,λb=>⟨⋯,?_⟩⟩;rw[show ((ks.length:Nat):Int).toNat=ks.length by right,vJ ks.length,br];refine P8 h2 hn w d rl pm (λS cur s3 s6 s7 v sl sub=>?_) fl.length 0 [] (ids ks.length) _ _ _ ⋯ rfl (.nil _) (λt ht=>nomatch ht);ac_nf;have FS:jE ks S (g6 (ids ks.length) S):=EH (.refl _);have ml:(g6 (ids ks.length) S).length=row.length:=by rw[g6,bf,Fl.i9,sl]
 generalize em:g6 (ids ks.length) S=ts at FS ml sub;rw[show lT ts=(ts.map λt=>([t.1,t.2.1],[Dv.tup (bN t.2.2)])).map tI by rw[ju];rfl];refine y6 (k:=1) (by simp;right) (λt ht=>?_) ?_ λts' hp hs=>?_
 ·obtain⟨u,_,rfl⟩:=jh.mp ht;rfl
 ·rw[ir];exact(FS.keys v).imp λ{t u} z q=>z (by simpa using q)
 ·obtain⟨gl,hf,rfl⟩:=p7 hp rfl;rw[ju];rw[ir] at hs;ac_nf;have ndt:ts.Nodup:=List.Pairwise.imp (λ{t u} z q=>z (by rw[q];exact⟨rfl,rfl⟩)) (FS.keys v);have sub':∀x∈fl,x∈ts:=λx hx=>oq λno=>by
   have:=(ya.mpr ⟨no,ndt⟩).length_le_of_subset (l₂:=fl) λy hy=>by
    rcases dm.mp hy with rfl | hy
    ·exact hx
    ·exact sub y hy
   rw[cj] at this;right
  have e:gl=fl:=zC (R:=λt u:Ti=>Bk (t.1,t.2.1) (u.1,u.2.1)) (λa b h1 h2=>t9 h1 h2) (hs.imp λh=>Ju h) so λt=>⟨λh=>sub t (hf.mem_iff.mp h),λh=>hf.mem_iff.mpr (sub' t h)⟩;subst e;refine(show sP (.lst (lT gl)) (.lst (lT gl)) _ from⟨⟨LA _,LA _⟩,?_⟩);rw[Kb,decide_eq_true rfl];exact q
end Lw
namespace Lw
open L2 Z
open Sf (Rw crs uU Pre Good aJ bG place many)
open Fl (kd ids Walk eV tls pc aP Pt tm nD)
noncomputable abbrev d3(t:T3):Dv:=.tup [.int t.1,.int t.2.1,.int t.2.2]
variable {l:List T3}
theorem LN{k:Nat}(h:k<l.length):rA (iA l) (k:Int)=aa (d3 l[k]):=by
 rw[kU ⋯ (by simp;right)];simp[h]
theorem NN{i:Int}(h0:0<=i)(h:i<l.length):∃t∈l,rA (iA l) i=aa (d3 t):=by
 obtain⟨k,rfl⟩:∃k:Nat,i=k:=⟨i.toNat,⋯⟩;exact⟨_,fw _,LN ⋯⟩
theorem Ln{k:Nat}(h:k<1728):((1:Int)*2 ^ ((k:Int)).toNat≠0/\((1:Int)*2 ^ ((k:Int)).toNat).natAbs<2 ^ 4000):=by
 rw[br,Za,Yz];refine⟨λz=>?_,Nat.pow_lt_pow_right ∅ ⋯⟩;have z':=congrArg Int.natAbs z;rw[Yz] at z';exact absurd z' (Nat.pos_iff_ne_zero.mp (Nat.pow_pos ∅))
noncomputable abbrev UO:cD:=n4 nR qB jY kY
noncomputable abbrev Uu:cD:=mZ nR qB jY kY
noncomputable abbrev UN:cD:=mY nR qB jY kY
variable {E:En}{x0 x2 x7:Sl}
theorem Ll{V:List T3}(nd:V.Nodup)(vl:V.length<=1728){c:Int}{x6:Sl}:∀(i k:Nat) (M:List T3) (s:Sl),k+i=V.length->M.Nodup->(∀t∈M,t∈V.take k)->M.length<=k ->
  (∀M s,M.Nodup->(∀t∈M,t∈V)->E.nx [x0,.v (.int c),x2,.v (.lst (iA V)),.own a (.dit (dU M)),s,x6,x7]) ->
  aX (gN 5) UO [] (aV k i) E [x0,.v (.int c),x2,.v (.lst (iA V)),.own a (.dit (dU M)),s,x6,x7]:=by
 intro i;induction i with
 |zero=>
  intro k M s hk nm sub ml h;rw[bK,b6];exact⟨λp hp=>by simp at hp,h M s nm λt ht=>rm (sub t ht)⟩
 |succ i ih=>
  intro k M s hk nm sub ml h;have hk':k<V.length:=⋯;rw[b7,b8];refine⟨λp hp=>by simp at hp,?_⟩;rw[show ((k:Int)+1)=((k+1:Nat):Int) by right];have nx:=λM s n1 s1 l1=>ih (k+1) M s ⋯ n1 s1 l1 h;generalize aX (gN 5) UO [] (aV ((k+1:Nat):Int) i) E=G at nx ⊢;push_cast [n4,sD];refine⟨⟨by decide,by decide⟩,⟨⋯,⋯,by decide⟩,Ln ⋯,?_⟩;split
  ·rw[LN hk'];push_cast [bf];have nt:V[k] ∉ M:=λz=>by
    obtain⟨j,hj,e⟩:=cp.mp (sub _ z);have hj':j<k:=by rw[ef] at hj;right
    rw[fq] at e;have:=(Xb nd).mp e;right
   refine⟨DK V[k],rfl,⋯,?_⟩;rw[zM nt];refine nx _ _ (vj.mpr ⟨nm,by simp,λx hx y hy=>?_⟩) (λt ht=>?_) (by simp;right)
   ·rw[fe.mp hy];exact λz=>nt (z ▸ hx)
   ·rw[pz hk'];rcases fm.mp ht with ht | ht
    ·exact gr _ (sub t ht)
    ·exact eh _ ht
  ·exact nx _ _ nm (λt ht=>by rw[pz hk'];exact gr _ (sub t ht)) ⋯
variable {x1:Sl}
theorem Lk{x3 x5:Sl}:∀(U acc:List T3) (s:Sl),(acc++U).Nodup->acc.length+U.length<=2000->(∀s,E.nx [x0,x1,x2,x3,.own a (.dit (dU (acc++U))),x5,s,x7]) ->
  aX (gN 6) Uu [] (iA U) E [x0,x1,x2,x3,.own a (.dit (dU acc)),x5,s,x7]:=by
 intro U;induction U with
 |nil=>
  intro acc s _ _ h;rw[show iA []=[] from rfl,b6];rw[ic] at h;exact⟨λp hp=>by simp at hp,h _⟩
 |cons t U ih=>
  intro acc s nd hl h;rw[cj] at hl;have nt:t ∉ acc:=λz=>(vj.mp nd).2.2 t z t (dk ..) rfl;rw[show iA (t::U)=.tup [.int t.1,.int t.2.1,.int t.2.2]::iA U from rfl];push_cast [mZ,bf];refine⟨DK t,rfl,⋯,?_⟩;rw[zM nt];refine ih (acc++[t]) _ (by rw[dw];exact nd) (by simp;right) λs=>?_;rw[dw];exact h s
theorem Lj{V:List T3}(vl:V.length<=1728):∀(i k:Nat) (M:List T3) (r:Int) (s u:Sl),M.Nodup->(∀t∈M,t∈V)->M.length+i<=2000 ->
  (∀M r s u,M.Nodup->(∀t∈M,t∈V)->E.nx [x0,x1,x2,.v (.lst (iA V)),.own a (.dit (dU M)),s,u,.v (.int r)]) ->
  aX (gN 5) UN [] (aV k i) E [x0,x1,x2,.v (.lst (iA V)),.own a (.dit (dU M)),s,u,.v (.int r)]:=by
 intro i;induction i with
 |zero=>
  intro k M r s u nm sub _ h;rw[bK,b6];exact⟨λp hp=>by simp at hp,h M r s u nm sub⟩
 |succ i ih=>
  intro k M r s u nm sub ml h;rw[b7,b8];refine⟨λp hp=>by simp at hp,?_⟩;rw[show ((k:Int)+1)=((k+1:Nat):Int) by right];have nx:=λM r s u n1 s1 l1=>ih (k+1) M r s u n1 s1 l1 h;generalize aX (gN 5) UN [] (aV ((k+1:Nat):Int) i) E=G at nx ⊢;push_cast [mY,bf];by_cases v0:0<V.length
  ·rw[ZE ⋯];refine⟨⋯,?_⟩;obtain⟨t,tV,e⟩:=NN (l:=V) (i:=r % (V.length:Int)) (zt _ ⋯) (vn _ ⋯);rw[e];push_cast [bf];refine⟨DK t,rfl,?_⟩;rw[uO];by_cases m:t∈M
   ·rw[decide_eq_true m];push_cast [Ay,bf];obtain⟨j,hj,ej⟩:=cp.mp m;refine⟨DK t,j,.bl aj,rfl,by rw[dh,au hj,ej];rfl,?_⟩;rw[show (dU M).eraseIdx j=dU (M.eraseIdx j) from uR _ _ _];refine⟨⟨⋯,⋯⟩,?_⟩;exact nx _ _ _ _ (nm.sublist (VL ..)) (λx hx=>sub x (V1 hx)) (by have:=Vh M j;right)
   ·rw[decide_eq_false m];push_cast [bf];refine⟨DK t,rfl,⋯,?_⟩;rw[zM m];refine⟨⟨⋯,⋯⟩,?_⟩;refine nx _ _ _ _ (vj.mpr ⟨nm,by simp,λx hx y hy=>?_⟩) (λx hx=>?_) (by simp;right)
    ·rw[fe.mp hy];exact λz=>m (z ▸ hx)
    ·rcases fm.mp hx with hx | hx
     ·exact sub x hx
     ·rw[fe.mp hx];exact tV
  ·rw[Zg ⋯];exact nx _ _ _ _ nm sub ⋯
noncomputable def oV:Fn:=λds Q=>∃(ks:List Int) (c o:Int),ds=[.lst (bN ks),.int c,.int o]/\2<=ks.length/\ks.length<=12/\gO ks/\pc ks<=60 /\ ∀M:List T3,M.Nodup->(∀t∈M,t∈bP ks)->Q (.nw (.dit (dU M)))
theorem HV:∀ds Q,oV ds Q->ds.length=3:=by rintro ds Q ⟨_,_,_,rfl,_⟩;rfl
theorem Jm:MonoF oV:=⟨λds Q Q' w z=>by obtain⟨a,b,c,d,e,f,g,i,h⟩:=z;exact⟨a,b,c,d,e,f,g,i,λM x y=>w _ (h M x y)⟩⟩
theorem Cw:∀ds Q,oV ds Q->pW nR qB jY kY ↥Q (aM ["_law_bands_here", "_law_cell", "_law_others", "_law_every", "_law_marks", "_law_k", "_law_three", "_law_rest"] ds):=by
 rintro ds Q ⟨ks,c,o,rfl,h2,hn,m,hp,q⟩;have vl:=tO hn;have nd:=Eb ks;ac_nf;refine⟨ks,rfl,⋯,hn,m,?_⟩;push_cast [bf];intro a;split
 ·refine⟨⋯,?_⟩;rw[br];refine Ll nd vl (bP ks).length 0 [] _ ⋯ .nil (λt ht=>nomatch ht) (bt _) λM s n1 s1=>?_;ac_nf;exact q M n1 s1
 ·refine⟨ks,_,rfl,h2,hn,hp,λrow e w d rl=>?_⟩;ac_nf;refine⟨ks,row,e,rfl,hn,w,rl,λfl F up=>?_⟩;ac_nf;have fl1:=F.len;refine⟨ks,fl,rfl,⋯,hn,⋯,F.keys w,F.cov w d m,m,?_⟩;ac_nf;have fsub:∀t∈(bP ks).filter (LW fl),t∈bP ks:=λt ht=>(Vo.mp ht).1;have flen:((bP ks).filter (LW fl)).length<=1728:=ly (vy ..) vl;refine Lk _ [] _ (nd.filter _) (by simp only[yg];right) λs=>?_;rw[gw];ac_nf;have o4:0<=o % 4/\o % 4<4:=⟨⋯,⋯⟩;obtain⟨k,hk⟩:∃k:Nat,o % 4=k:=⟨(o % 4).toNat,⋯⟩;rw[hk];refine⟨⋯,?_⟩;rw[br];refine Lj vl k 0 _ _ _ _ (nd.filter _) fsub ⋯ λM r s u n1 s1=>?_;ac_nf;exact q M n1 s1
end Lw
namespace Lw
open L2 Z
open Sf (Rw crs uU Pre Good aJ bG place many)
open Fl (kd ids Walk eV tls pc aP Pt tm nD)
noncomputable def sS(C:af):Fn:=λds Q=>∃(rows:List Rw) (U:List T3),ds=[bZ C rows,.lst (iA U)]/\(aJ rows).length<=12/\U.Nodup/\U.length<=2000/\(∀t∈U,t∈bP (aJ rows)) /\ ¬UpsOk (aJ rows) U/\Q (.v (.bl aj))
theorem Jx:∀ds Q,sS C ds Q->ds.length=2:=by rintro ds Q ⟨_,_,rfl,_⟩;rfl
theorem Mi:MonoF (sS C):=⟨λds Q Q' w z=>by obtain⟨a,b,c,d,e,f,g,h,i⟩:=z;exact⟨a,b,c,d,e,f,g,h,w _ i⟩⟩
variable {XT:af}
theorem wZ{XS XF:af}(ci:ExcI K XT)(k1:rg K (.ref XT) (.ref XT)=aa aj)(k2:rg K (.ref XT) (.type "ValueError")=aa aj)(k3:rg K (.ref XT) (.ref XF)=aa ao):∀ds Q,sS C ds Q->kW K XS XT XF (vC C XT) ↥Q (aM ["_law_sides_here", "_law_some_here", "_law_refused_here", "e"] ds):=by
 rintro ds Q ⟨rows,U,rfl,hn,nd,ul,kn,no,q⟩;push_cast [Lo];refine⟨rows,U,rfl,hn,nd,ul,kn,λok=>absurd ok no,λ_=>⟨rfl,?_⟩⟩;push_cast [EL,IK];refine⟨ci,aj,k1,ci,aj,k2,?_⟩;rw[ZE rfl];exact⟨ci,ao,k3,q⟩
theorem y9(ks:List Int):∀i a,a+i=ks.length->2*(lG ks i a).length<=i*i
 |0,_,_=>oj _
 |i+1,a,h=>by
  rw[lG,eg];have h1:=y9 ks i (a+1) ⋯;have h2:=sI ks a (ks.length-(a+1)) (a+1);have h3:(i+1)*(i+1)=i*i+2*i+1:=by rw[zr,Y4];right
  right
theorem v6(hn:ks.length<=12):(bP ks).length<=864:=by
 have h1:=y9 ks ks.length 0 ⋯;have h2:=lX ks (eS ks);have sq:ks.length*ks.length<=12*12:=my hn hn;have h3:(eS ks).length*ks.length<=72*12:=my (by unfold eS;right) hn;unfold bP;right
noncomputable abbrev Cg(C XT:af):Fn:=λds Q=>vC C XT ds Q λ_=>False
noncomputable abbrev B0(C XT:af):cD:=ET oW jO lB (jU C) oV sU (sS C) (Cg C XT) sT kY oX
variable {E:En}{x2 x3 x4 x5 x6:Sl}
theorem SS{k:Nat}{tl:cD}(h:∀cs (M U:List T3),Cnt cs->M.Nodup->(∀t∈M,t∈bP (aQ 0 cs))->U.Perm M->U.Pairwise l3->tl E [.v (.scr ns),.v (.int k),.v (.lst (bN (aQ 0 cs))),.v (bZ C (d6 0 cs)),.v (.dit (dU M)),.v (.lst (iA U)),x6]):
  (aU (c9 2 (b9 lB (a9 (b9 jO (a9 (a8 0) (a9 (a8 1) aF))) (a9 (b9 oW (a9 (a8 0) (a9 (a8 1) (a9 (eC (.int 8)) aF)))) aF))))
 (aU (c9 3 (b9 (jU C) (a9 (a8 2) aF)))
 (aU (c9 4 (b9 oV (a9 (a8 2) (a9 (b9 jO (a9 (a8 0) (a9 (aR dG (a8 1) (eC (.int 1))) aF))) (a9 (b9 jO (a9 (a8 0) (a9 (aR dG (a8 1) (eC (.int 2))) aF))) aF)))))
 (aU (c9 5 (fF iO (a9 (a8 4) aF))) tl)))) E [.v (.scr ns),.v (.int k),x2,x3,x4,x5,x6]:=by
 ac_nf;refine⟨ns,k,rfl,⋯,λc=>?_⟩;ac_nf;refine⟨ns,k,rfl,λm h6 h12=>?_⟩;ac_nf;refine⟨c,m,rfl,h6,h12,λcs hc=>?_⟩;ac_nf;refine⟨cs,rfl,hc,?_⟩;ac_nf;refine⟨ns,(k:Int)+1,rfl,⋯,λc=>?_⟩;ac_nf;refine⟨ns,(k:Int)+2,rfl,⋯,λo=>?_⟩;ac_nf;obtain⟨n2,n12⟩:=AS hc;refine⟨aQ 0 cs,c,o,rfl,n2,n12,wO cs,IT hc,λM nd sub=>?_⟩;ac_nf;have ml:M.length<=864:=ly (nd.length_le_of_subset sub) (v6 n12);refine Ch ⋯ λU pu so=>?_;ac_nf;exact h cs M U hc nd sub pu so
theorem SQ:∀(fl:List Ti) (acc:List (Int×Int)),acc.length+fl.length<=1000->Q (.nw (.lst (pM (acc++fl.map λt=>(t.1,t.2.1))))) ->
  eF [.un,.un,.un] (gT [0,1,2]) jM (gI (a9 (a8 0) (a9 (a8 1) aF))) (lT fl) (pM acc) Q:=by
 intro fl;induction fl with
 |nil=>
  intro acc _ h;rw[show lT []=[] from rfl,iQ];simpa using h
 |cons t fl ih=>
  intro acc hl h;rw[cj] at hl;rw[show lT (t::fl)=Iy t::lT fl from rfl];push_cast [bf];refine⟨⋯,?_⟩;rw[show pM acc++[Dv.tup [Dv.int t.1,Dv.int t.2.1]]=pM (acc++[(t.1,t.2.1)]) by simp];exact ih _ (by simp;right) (by rw[dw];exact h)
theorem HC(l:List (Int×Int)):eJ 8 (.lst (pM l))=aj:=p9 7 _ λd hd=>by
 obtain⟨t,_,rfl⟩:=jh.mp hd;exact tQ 6 [t.1,t.2]
theorem Ka(l m:List (Int×Int)):eqD (.lst (pM l)) (.lst (pM m))=decide (l=m):=by
 rw[wy,decide_eq_true_eq];refine wG _ (λt u=>?_) l m;rw[show Dv.tup [Dv.int t.1,Dv.int t.2]=.tup (bN [t.1,t.2]) from rfl,show Dv.tup [Dv.int u.1,Dv.int u.2]=.tup (bN [u.1,u.2]) from rfl,AE,decide_eq_true_eq];obtain⟨a,b⟩:=t;obtain⟨x,y⟩:=u;simp
variable {M:List T3}
theorem Is(pu:U.Perm M)(sub:∀t∈M,t∈bP ks):UpsOk ks U ↔ ∀t,In4 ks.length t->lbar ks M t=ao:=by
 have ce:∀a b c,cau ks U a b c=cau ks M a b c:=λa b c=>by
  unfold cau;rw[decide_eq_decide.mpr (pu.mem_iff (a:=(a,b,c)))]
 have be:∀t,barred ks U t=barred ks M t:=λt=>by unfold barred;simp only[ce]
 constructor
 ·intro ok t i4;unfold lbar;cases ha:alike ks t with
  |true=>rfl
  |false=>
   have:=ok.four t i4 ha;rw[be] at this;rw[this];rfl
 ·intro h;refine⟨λt ht=>sub t (pu.mem_iff.mp ht),λt i4 ha=>?_⟩;have:=h t i4;unfold lbar at this;rw[ha] at this;rw[be];simpa using this
variable {x0 x1:Sl}
theorem SR{cs:List Nat}(hc:Cnt cs)(nd:M.Nodup)(sub:∀t∈M,t∈bP (aQ 0 cs))(pu:U.Perm M)(so:U.Pairwise l3)
  (h:∀x6,E.nx [x0,x1,.v (.lst (bN (aQ 0 cs))),.v (bZ C (d6 0 cs)),.v (.dit (dU M)),.v (.lst (iA U)),x6]):
  (jN (kJ (b9 sU (a9 (a8 2) (a9 (a8 4) aF)))) (jN (oC (kJ (b9 (sS C) (a9 (a8 3) (a9 (fF sC (a9 (a8 5) aF)) aF))))) (cP (eC (.bl ao))) cA) (aU (c9 6 (b9 (Cg C XT) (a9 (a8 3) (a9 (fF sC (a9 (a8 5) aF)) aF))))
 (aU (jN (Ke (oC (kJ (AG "list" (a8 6)))) (bI (aR y8 (gE 3 [] (kI (a8 6)) (gT [0,1,2]) jM (gI (a9 (a8 0) (a9 (a8 1) aF)))) (b9 sT (a9 (a8 2) aF))))) (cP (eC (.bl ao))) cA)
 (jN (Ke (bI (aR y8 (b9 kY (a9 (a8 2) (a9 (a8 6) aF))) (a8 5))) (oC (kJ (b9 oX (a9 (a8 2) (a9 (a8 6) aF)))))) (cP (eC (.bl ao))) cA)))) E [x0,x1,.v (.lst (bN (aQ 0 cs))),.v (bZ C (d6 0 cs)),.v (.dit (dU M)),.v (.lst (iA U)),x6]:=by
 obtain⟨n2,n12⟩:=AS hc;have m:=wO cs;have kr:=DL cs;have ml:M.length<=864:=ly (nd.length_le_of_subset sub) (v6 n12);have ul:U.length<=864:=by rw[pu.length_eq];exact ml
 have ndU:U.Nodup:=pu.nodup_iff.mpr nd;have kn:∀t∈U,t∈bP (aQ 0 cs):=λt ht=>sub t (pu.mem_iff.mp ht);have ub:=Is pu sub;ac_nf;refine⟨aQ 0 cs,M,rfl,n12,λt i4 hb=>?_,λhb=>?_⟩
 ·ac_nf;have no:¬UpsOk (aJ (d6 0 cs)) U:=λok=>by
   rw[kr] at ok;have:=ub.mp ok t i4;rw[hb] at this;exact nomatch this
  refine⟨d6 0 cs,U,rfl,by rw[kr];exact n12,ndU,⋯,by rw[kr];exact kn,no,?_⟩;ac_nf;exact h _
 ·ac_nf;have ok:=ub.mpr hb;obtain⟨row,e,w,d,F,u,sf⟩:=PZ m ok;have rc:=w.count (by simp);rw[Fl.Hv] at rc;have pc60:=IT hc;have fl1:=F.len;have fp:(rH (aQ 0 cs) U).map (λt=>(t.1,t.2.1))=eS (aQ 0 cs):=by
   unfold rH;rw[ju];exact map_id _
  refine⟨d6 0 cs,U,rfl,by rw[kr];exact n12,ndU,⋯,by rw[kr];exact kn,λ_=>?_,λz=>absurd (by rw[kr];exact ok) z⟩;rw[kr];generalize rH (aQ 0 cs) U=fl at F u sf fl1 fp;ac_nf;refine⟨rfl,?_⟩;rw[show Hs "list" (Dv.lst (lT fl))=aj from rfl];ac_nf;refine SQ fl [] (by simp;right) ?_;rw[gw,fp];ac_nf;refine⟨aQ 0 cs,rfl,n12,m,?_⟩;push_cast [Ka];refine⟨⟨HC _,HC _⟩,?_⟩;refine⟨aQ 0 cs,fl,rfl,⋯,n12,⋯,F.keys w,F.cov w d m,m,?_⟩;rw[KY u so];push_cast [KZ];refine⟨⟨L9 _,L9 _⟩,?_⟩;refine⟨aQ 0 cs,row,e,fl,rfl,n2,n12,w,d,⋯,F,sf,?_⟩;ac_nf;exact h _
theorem Ub{d:Dv}{Q:List Sl->Prop}(h:Q [x0,.v d,x2,x3,x4,x5,x6]):gN 1 d [x0,x1,x2,x3,x4,x5,x6] Q:=by
 ac_nf;exact h
theorem PC:∀(ks:List Nat) (s1 s2 s3 s4 s5 s6:Sl),(∀s1 s2 s3 s4 s5 s6,E.nx [.v (.scr ns),s1,s2,s3,s4,s5,s6]) ->
  aX (gN 1) (B0 C XT) [] (ks.map λ(m:Nat)=>Dv.int (m:Int)) E [.v (.scr ns),s1,s2,s3,s4,s5,s6]:=by
 intro ks;induction ks with
 |nil=>
  intro s1 s2 s3 s4 s5 s6 h;rw[zj,b6];exact⟨λp hp=>by simp at hp,h _ _ _ _ _ _⟩
 |cons k ks ih=>
  intro s1 s2 s3 s4 s5 s6 h;rw[de,b8];refine⟨λp hp=>by simp at hp,?_⟩;have next:=λs1 s2 s3 s4 s5 s6=>ih s1 s2 s3 s4 s5 s6 h;generalize aX (gN 1) (B0 C XT) [] (ks.map λ(m:Nat)=>Dv.int (m:Int)) E=G at next ⊢;exact Ub (SS λcs M U hc nd sub pu so=>SR hc nd sub pu so λx6=>next _ _ _ _ _ _)
noncomputable def spLaw:Fn:=λds Q=>∃ns:List Int,ds=[.scr ns]/\ns.length<=63/\Q (.v (.bl aj))
theorem K3:∀ds Q,spLaw ds Q->ds.length=1:=by rintro ds Q ⟨d,rfl,_⟩;rfl
theorem Od:∀ds Q,spLaw ds Q->GG oW jO lB (jU C) oV sU (sS C) (Cg C XT) sT kY oX ↥Q (aM ["_law_script", "_law_k", "_law_bands_here", "_law_sides_here", "_law_marks", "_law_some_here", "_law_tiles"] ds):=by
 rintro ds Q ⟨ns,rfl,hl,h⟩;ac_nf;obtain⟨m,hm,m22⟩:∃m:Nat,(if (ns.length:Int)<21 then (ns.length:Int) else 21)+1=m/\m<23:=⟨((if (ns.length:Int)<21 then (ns.length:Int) else 21)+1).toNat,by split<;>right,by split<;>right⟩;rw[hm];have sm:∀m:Nat,m<23->xa 0 (m:Int) 3=aj/\0<=fg 0 (m:Int) 3/\(fg 0 (m:Int) 3).toNat<=23:=by decide +kernel
 obtain⟨q1,q2,q3⟩:=sm m m22;refine⟨⟨by decide,by decide,q1,q2⟩,?_⟩;have e:qD 0 3 (fg 0 (m:Int) 3).toNat=((gy (fg 0 (m:Int) 3).toNat).map λ(k:Nat)=>3*k).map λ(m:Nat)=>Dv.int (m:Int):=by
  unfold qD;rw[ju];apply tu;intro k _;show Dv.int (0+(k:Int)*3)=Dv.int ((3*k:Nat):Int);rw[show 0+(k:Int)*3=((3*k:Nat):Int) by right]
 rw[e];refine PC _ _ _ _ _ _ _ λs1 s2 s3 s4 s5 s6=>?_;ac_nf;exact h
end Lw
namespace Hd
open PySem PySem.W
noncomputable def NY:List jv->Nat->BT->Option (BT×Nat)
 | [],n,t=>aa (t,n)
 |o::r,n,t=>match ((t.ins n o).get n).isSome with
  |true=>NY r (n+1) (t.ins n o)
  |false=>ar
theorem BU{life:Life}:∀(l:List jv) (n:Nat) (t:BT) {t':BT} {n':Nat},NY l n t=aa (t',n')->absHeap t' n' life=⟨((absHeap t n life).objs.toList++l).toArray,life⟩
 | [],n,t,t',n',h=>by
  cases h;rw[ic];rfl
 |o::r,n,t,t',n',h=>by
  rw[NY] at h;cases g:((t.ins n o).get n).isSome with
  |false=>rw[g] at h;cases h
  |true=>
   rw[g] at h;rw[BU r (n+1) (t.ins n o) h,absHeap_ins g];show Heap.mk _ _=Heap.mk _ _;congr 1;show (((absHeap t n life).objs.push o).toList++r).toArray=_;simp
theorem HD{t:BT}(e:NY h.objs.toList 0 .nil=aa (t,n)):absHeap t n h.life=h:=by
 rw[BU (life:=h.life) _ _ _ e];rfl
noncomputable def uG(st:SharedT->yw->Option (SharedT×yw))(th:yw->Bool)(ok:yw->Bool):Nat->SharedT->yw->Option SharedT
 |0,_,_=>ar
 |n+1,s,t=>match th t with
  |true=>aa s
  |false=>match ok t with
   |false=>ar
   |true=>match ZC s.toks 1000000 with
    |false=>ar
    |true=>match st s t with
     |some (s',t')=>uG st th ok n s' t'
     |none=>ar
theorem rG{tb:String->Option sr}{p:ay}{w:bz}{n₀:Nat}{ann:Option ah}:∀(n:Nat) (s:SharedT) (t:yw) {s':SharedT},uG (stepT (Zx tb) p w) through (stepOk n₀ ann) n s t=aa s'->topRun tb p w n₀ ann n s.abs t=aa s'.abs
 |0,_,_,_,h=>by cases h
 |n+1,s,t,s',h=>by
  unfold uG at h;unfold topRun;cases ht:through t with
  |true=>rw[ht] at h;cases h;rfl
  |false=>
   rw[ht] at h;cases hk:stepOk n₀ ann t with
   |false=>rw[hk] at h;cases h
   |true=>
    rw[hk] at h;dsimp only at h ⊢;cases hb:ZC s.toks 1000000 with
    |false=>rw[hb] at h;cases h
    |true=>
     rw[hb] at h;dsimp only at h;cases hs:stepT (Zx tb) p w s t with
     |none=>rw[hs] at h;cases h
     |some x=>
      obtain⟨s1,t1⟩:=x;rw[hs] at h;rw[stepT_spec hs];exact rG n s1 t1 h
noncomputable def Cn(st:SharedT->yw->Option (SharedT×yw))(th:yw->Bool)(ok:yw->Bool)(M:Nat)(h:dq)(gs:Array V6)(d:YF)(k:Nat)(os:Y2)(t:yw):Option SharedT:=
 match NY h.objs.toList 0 .nil with
 |some (b,n)=>uG st th ok M ⟨b,n,h.life,gs,d,k,os⟩ t
 |none=>ar
variable {p:ay}{ann:Option ah}{M:Nat}
theorem B3{tb:String->Option sr}{n₀:Nat}{gs:Array V6}{d:YF}{k:Nat}{os:Y2}{t:yw}{s':SharedT}
  (e:Cn (stepT (Zx tb) p w) through (stepOk n₀ ann) M h gs d k os t=aa s'):topRun tb p w n₀ ann M ⟨h,gs,d,k,os⟩ t=aa s'.abs:=by
 unfold Cn at e;cases q:NY h.objs.toList 0 .nil with
 |none=>rw[q] at e;cases e
 |some x=>
  obtain⟨b,n⟩:=x;rw[q] at e;have:=rG M _ _ e;unfold SharedT.abs at this;dsimp only at this;rw[HD q] at this;exact this
theorem KD{q:ay}{loose:List bw}{Xt:ai->Bool}{Yf:ai->α}{Ya:bz->α}{N:Nat}{g0:Bool}{HZ:YW->dq}{gs₀:Array V6}{d₀:YF}{k₀:Nat}{m₀:Nat}
  (open_:∀w:bz,(fencedOpening Xy p w N).map (λs=>(s.heap,s.gens,s.drawn,s.toks))=aa (HZ w.params,gs₀,d₀,k₀))
  (size:∀w:bz,((HZ w.params).isNs jq&&gs₀.size==0,(HZ w.params).objs.size,(HZ w.params).nsMap jq "__annotations__")=(aj,m₀,ann)) (le:ZC M N=aj)
  (run:∀(w:bz) (os:Y2),(Cn (stepT (Zx Xy) p w) through (stepOk m₀ ann) M (HZ w.params) gs₀ d₀ k₀ os (topStub p)).map (λs=>
    ((staticsOk (VE p.main.body) (HZ w.params) s.abs.heap&&namesBound p s.abs.heap&&gensDone s.abs&&laidKept (HZ w.params) s.abs.heap),openSeen q loose (VE p.main.body) Xt g0 s.abs,Yf s.abs))=aa (aj,openGood q loose,Ya w)):
  LeftO p q loose Xt Yf Ya N g0:=λw=>by
 obtain⟨⟨h,gs,d,k,os⟩,e,e'⟩:=Vz.mp (open_ w);obtain⟨rfl,rfl,rfl,rfl⟩:h=HZ w.params/\gs=gs₀/\d=d₀/\k=k₀:=by simpa using e'
 obtain⟨z1,z2,z3⟩:_/\_/\_:=by simpa only[Wu] using size w
 obtain⟨s',r,l⟩:=Vz.mp (run w os);obtain⟨l1,l2,l3⟩:_/\_/\_:=by simpa only[Wu] using l
 have r:=topRun_mono (N-M) _ _ _ _ (B3 r);rw[show M+(N-M)=N by have:=vz le;right] at r;have t:topFrom Xy p w N ⟨HZ w.params,gs,d,k,os⟩=aa s'.abs:=by
  unfold topFrom;dsimp only;rw[z1,z2,z3,r];show (match staticsOk (VE p.main.body) (HZ w.params) s'.abs.heap&&namesBound p s'.abs.heap&&gensDone s'.abs&&laidKept (HZ w.params) s'.abs.heap with | true=>_ | false=>_)=_;rw[l1]
 unfold openEnds;rw[e];show (topFrom Xy p w N _).map _=_;rw[t];exact congrArg aa (Prod.ext l2 l3)
end Hd
namespace Lw
open L2 Z
theorem law_start(hl:ns.length<=63)(hO:Ih H)(hS:gK K H a (ns.map V.int)):low K spLaw [.ref a] H (λv _=>v=.bl aj) (λ_ _ _=>False):=
 Ee (λQ q=>⟨ns,rfl,hl,q⟩) hO (λP q z=>nomatch z.1) hS
theorem Uv{us:List ah}(h:us.length=1):∃a0,us=[a0]:=by
 cases us with
 |nil=>cases h
 |cons a r=>obtain⟨rfl⟩:=Vb.mp (Nat.succ.inj h);exact⟨a,rfl⟩
theorem NQ{fa:af}(X:K.In h)(G:h.Ns jq mg)(hfa:mg "law" = aa (.ref fa))
  {od0 an0:Option af} {sl0:Array (Option ah)} {oc0 kV0 dc0 pm0 cd0 ct0:ah} {f0:af}
  {eA:af}
  {aT:af}
  {i0:af}
  (aC:mg "Sides" = aa (.ref C))
  (m1:MF K C "__init__" "Sides.__init__" (g9 (top 28) 0))
  (m2:MF K C "many" "Sides.many" (g9 (top 28) 1))
  (m3:MF K C "kind" "Sides.kind" (g9 (top 28) 2))
  (m4:MF K C "pairs" "Sides.pairs" (g9 (top 28) 4))
  (cl:Cls K C) (mk:Xd K C=aj) (kc:qi K (.ref C)=aj)
  (jP:jr K (.ref C) "kinds" = aa ar)
  (t4:jr K (.ref C) "vectors" = aa ar)
  (m5:DF K mg "threes" "threes" (top 7))
  (m6:DF K mg "counts_as_up" "counts_as_up" (top 8))
  (m7:DF K mg "fours" "fours" (top 9))
  (m8:DF K mg "has_three_alike" "has_three_alike" (top 10))
  (m9:DF K mg "is_barred" "is_barred" (top 11))
  (m10:DF K mg "check_threes" "check_threes" (top 12))
  (m11:DF K mg "is_below" "is_below" (top 13))
  (m12:DF K mg "floor_by" "floor_by" (top 14))
  (m13:DF K mg "is_whole" "is_whole" (top 16))
  (m14:DF K mg "has_three_wholes" "has_three_wholes" (top 22))
  (m15:DF K mg "has_few_figures" "has_few_figures" (top 23))
  (m16:DF K mg "points_up" "points_up" (top 24))
  (m17:DF K mg "lies_left" "lies_left" (top 25))
  (m18:DF K mg "check_direction" "check_direction" (top 26))
  (m19:DF K mg "check_directions" "check_directions" (top 27))
  (m20:DF K mg "_law_cell_at" "_law_cell_at" (top 30))
  (m21:DF K mg "_law_most" "_law_most" (top 33))
  (m22:DF K mg "_law_bands" "_law_bands" (top 34))
  (m23:DF K mg "_law_pick" "_law_pick" (top 35))
  (m24:DF K mg "_law_exchanged" "_law_exchanged" (top 36))
  (m25:DF K mg "_law_row" "_law_row" (top 37))
  (m26:DF K mg "_law_floor" "_law_floor" (top 38))
  (m27:DF K mg "_law_many" "_law_many" (top 39))
  (m28:DF K mg "_law_sides" "_law_sides" (top 40))
  (m29:DF K mg "_law_threes" "_law_threes" (top 41))
  (m30:DF K mg "_law_belows" "_law_belows" (top 42))
  (m31:DF K mg "_law_up" "_law_up" (top 43))
  (m32:DF K mg "_law_some" "_law_some" (top 44))
  (m33:DF K mg "_law_counts" "_law_counts" (top 45))
  (m34:DF K mg "_law_barred" "_law_barred" (top 46))
  (m35:DF K mg "_law_is_barred" "_law_is_barred" (top 47))
  (m36:DF K mg "_law_laid" "_law_laid" (top 48))
  (m37:DF K mg "_law_refused" "_law_refused" (top 49))
  (m38:DF K mg "_law_pairs" "_law_pairs" (top 50))
  (a0:mg "law" = aa (.ref f0))
  (l0:K.lookup f0=aa ⟨oc0,od0,.func (zu "law" "law" (jR (top 51)) (eL (top 51)) (aI (top 51)) .none kV0 dc0 pm0 an0 cd0 ct0),sl0⟩) (c0:VW K cd0 "law" = aj) (k0:qi K (.ref f0)=aj)
  (gF:∃t,mg "FEWEST_DIRECTIONS" = aa (.int 2 t))
  (i7:∃t,mg "MOST_DIRECTIONS" = aa (.int 6 t))
  (lW:∃t,mg "MOST_BANDS" = aa (.int 12 t))
  (i8:∃t,mg "LARGEST_PART" = aa (.int 999999999999 t))
  (lV:mg "ValueError" = ar)
  (Dc:mg "abs" = ar)
  (G7:mg "all" = ar)
  (CS:mg "bool" = ar)
  (nE:mg "enumerate" = ar)
  (G5:mg "int" = ar)
  (bF:mg "isinstance" = ar)
  (bA:mg "len" = ar)
  (fS:mg "list" = ar)
  (xQ:mg "min" = ar)
  (aS:mg "range" = ar)
  (fR:mg "sorted" = ar)
  (G4:mg "sum" = ar)
  (eK:mg "tuple" = ar)
  (xP:mg "zip" = ar)
  (mT:mg "SlantError" = aa (.ref eA))
  (h7:mg "NoThrees" = aa (.ref aT))
  (tF:mg "NoFloor" = aa (.ref i0))
  (rq_NoThrees:ZB K aT [.type "ValueError",.type "Exception",.type "BaseException",.type "object"] "ValueError.__new__" = aj)
  (x_NoThrees_SlantError:X3 K (.ref aT) (.ref eA)=aa aj)
  (ic1:Xq K aT=aj)
  (ic2:jr K (.ref aT) "__getattribute__" = aa (aa (.builtin "BaseException.__getattribute__")))
  (ic7:jr K (.ref aT) "__getattr__" = aa ar)
  (ic8:WQ K aT (.type "BaseException")=aa aj)
  (ic3:jr K (.ref aT) "__class__" = aa (aa (.builtin "object.__class__")))
  (ic4:VV K (.builtin "object.__class__") "__get__" = aa (aa (.builtin "getset_descriptor.__get__")))
  (ic5:Xf K (.builtin "object.__class__")=aa aj)
  (ic6:WQ K aT (.type "object")=aa aj)
  (kq_NoThrees:rg K (.ref aT) (.ref aT)=aa aj)
  (kq_NoFloor:rg K (.ref aT) (.ref i0)=aa ao)
  (kq_V:rg K (.ref aT) (.type "ValueError")=aa aj):
  ∃fd:jy,(∀(s:ai) (v:ah),WS s fd ⟨[v],[]⟩ [("_law_script",v)]) /\ ∀base:dq,K.In base->base.Ns jq mg->FnOk P w K mg base DZ 8 fa fd ["_law_script"] ((low K spLaw)):=by
 have e:=hfa.symm.trans a0;cases e;have F0:=AC (st:=(top 51)) l0 c0 k0;have mF:DY K aT:=rq_NoThrees;have ci:ExcI K aT:=⟨ic1,ic2,ic7,ic8,ic3,ic4,ic5,ic6⟩;refine⟨zu "law" "law" (jR (top 51)) (eL (top 51)) (aI (top 51)) .none kV0 dc0 pm0 an0 cd0 ct0,λs v=>.of_eq rfl,λbase _ _=>?_⟩;have mI:IAt K mg "Sides" C "Sides.__init__" (g9 (top 28) 0) ["self", "directions"]:=m1.ini aC mk kc;have AQ:=IP P w mg base m7.at aS FM Je;have qV:=C7 P w mg base m13.at bF G5 CS K4 D3;have h9:=pR P w mg base m14.at bF eK bA G7 qV Mm FI qF;have iH:=qO P w mg base m15.at Dc i8 E5 sA;have oE:=AH P w mg base m16.at  E5 BF;have oF:=AI P w mg base m17.at  Ha BG;have iI:=qP P w mg base m18.at h9 HE iH HK oE HK Hf sB;have hC:=pS P w mg base m19.at bF fS bA G4 xP gF i7 lW iI Jr oF Jp KB qG;have AR:=Ki P w mg base mI nE eK cl jP t4 hC Mo FJ MQ;have iP:=Kg P w mg base m2.at bA cl jP HY MO;have eO:=Kh P w mg base m3.at cl jP Hc MP;have d9:=uF P w mg base m6.at cl eO dB KC vP;have iG:=qN P w mg base m8.at cl eO dB FR rZ;have oK:=AN P w mg base m9.at xP bA d9 HN DJ BL;have qW:=C8 P w mg base m11.at d9 HN K9 D4;have pC:=IN P w mg base m4.at aS cl iP g8 eO dB FK Jd;have wL:=Fi P w mg base m5.at aS cl pC lH iP g8 eO dB DG Gq;have gW:=tJ P w mg base m10.at cl h7 mF wL t5 AQ vW iG HQ oK FE iP g8 FP uB;have IQ:=gW.calm;have kR:=AO P w mg base m12.at aS eK cl gW HM qW Mn pC lH iP g8 KA BM;have qX:=kR.calm;have dJ:=wK P w mg base m20.at bA Hh x9;have qS:=C4 P w mg base m21.at dJ E3 HX Cz;have oJ:=AM P w mg base m22.at aS bA xQ FQ BK;have qR:=C3 P w mg base m23.at  HW Cy;have cJ:=tH P w mg base m24.at  He uA;have tK:=DS P w mg base m25.at bA fS aS qR Jn cJ A3 Jv Ex;have oI:=AL P w mg base m26.at bA fS aS fR eK cJ A3 FN BJ;have qT:=C5 P w mg base m27.at bA FL D0;have oG:=AJ P w mg base m28.at aS qT HI AR HF DH BH;have gB:=xE P w mg base m29.at bA aS Jz zN;have mV:=xG P w mg base m30.at  DI zP;have lM:=Fj P w mg base m31.at mV FD gB HH Jy Gr;have qQ:=C2 P w mg base m32.at bA aS gB HH tK Mh oI HJ lM HG HV Cw;have gC:=xF P w mg base m33.at  Mp zO;have mW:=xH P w mg base m34.at aS gC Ox Mq zQ;have jK:=tG P w mg base m35.at bA aS mW Oy K2 u9;have qU:=C6 P w mg base m36.at bA fS aS fR eK cJ A3 Hb D1;have l8:=wJ P w mg base m37.at bF lV mT x_NoThrees_SlantError h7 tF kR HL Jx (wZ ci kq_NoThrees kq_V kq_NoFloor);have oH:=AK P w mg base m38.at bA aS K0 BI;exact NB P w mg base F0 bA xQ aS fR fS bF qS Jo dJ E3 oJ HP oG FC qQ Jm jK Ml l8 Mi qX HL.calm oH Mj lM HG qU Jq K3 Od
theorem walk{l:W.OpenLaw}{q:ay}{loose:List bw}{XP:(bw->Option ah)->dq->Prop}{YP:bz->dq->Prop}{d:DefRec}{K:YW->ap}(hn:l.most=aa 63)(hdf:d.params.defaults=[])
  (hY:∀(w:bz) (h:dq),YP w h->(K w.params).In h)
  (F:∀(w:bz) (mg:bw->Option ah) (fa:af) (h:dq),(K w.params).In h->h.Ns jq mg->mg d.name=aa (.ref fa) ->
   ∃fd:jy,(∀(s:ai) (u:ah),WS s fd ⟨[u],[]⟩ [("_law_script",u)]) /\ ∀base:dq,(K w.params).In base->base.Ns jq mg->FnOk l.prog w (K w.params) mg base DZ 8 fa fd ["_law_script"] ((low (K w.params) spLaw))):
  W.WalkO q loose XP YP l.row.toRowW d [] (λf vs=>PySem.call f vs):=
 L2.Ir (n:=63) (k:=8) (x:="_law_script") (CX:=λ_=>DZ) (sp:=λw=>(low (K w.params) spLaw)) hn ∅ hdf ⟨rfl,by decide,by decide⟩ hY F (λ_ H a ns hl hO hS=>law_start hl hO hS) λ_ _ _ _ _ z=>z
end Lw
noncomputable def Hd.QV:PySem.Program:=PySem.W.view mw [0,2,3,4,5,7,8,9,10,11,12,13,14,16,18,19,20,21,22,23,24,25,26,27,28,30,31,32,33,34,35,36,37,38,39,40,41,42,43,44,45,46,47,48,49,50,51]
open PySem PySem.W PyProof.Rows
local macro_rules | `(tactic| o_head $H)=>`(tactic| refine holds_open (q:=Hd.QV) (loose:=[]) (Xt:=λs=>xlAt Hd.QV [] s&&recOk (RowW.records (OpenRow.toRowW (OpenLaw.row PySem.Challenge.rw_slantfloor_k43_whole_sets_of_threes))) s) (XP:=XL Hd.QV []) (Yf:=Hook.obs $H) (Ya:=Hook.val $H) (YP:=Hook.says $H) (N:=5078) ?hl (Hook.of $H) (Hook.keeps $H) (λs e=>xl_of s (Bool.and_eq_true_iff.mp e).1) XL.keeps (by rfl) (by rfl) (by rfl) (λs e=>recFacts_of (Bool.and_eq_true_iff.mp e).2) (by rfl) (by first | assumption | decide +kernel) (by decide +kernel) ⟨rfl,rfl,rfl,rfl,rfl,by decide +kernel⟩ ?hw ?hc)
set_option maxRecDepth 100000 in
noncomputable def PySem.W.Fast.tw3556512712802343942:=PySem.Challenge.rw_slantfloor_k43_whole_sets_of_threes
theorem PySem.W.Fast.te3556512712802343942:PySem.Challenge.rw_slantfloor_k43_whole_sets_of_threes=PySem.W.Fast.tw3556512712802343942:=rfl
set_option maxHeartbeats 0 in
theorem PySem.Challenge.cw_slantfloor_k43_whole_sets_of_threes_holds : PySem.Challenge.rw_slantfloor_k43_whole_sets_of_threes.Holds := by
 w_on;o_law;k_head
 (case hl=>exact Hd.KD (HZ:=boot_heap) (gs₀:=Array.mk []) (d₀:=boot_drawn) (k₀:=boot_toks) (m₀:=11) (ann:=aa (.ref 6)) (M:=5078) (boot_open (by kernel_rfl) rfl (λs=>by kernel_rfl)) (λw=>by kernel_rfl) rfl (λw os=>by rw[Wv,Ww,Wx,WI,WJ];kernel_rfl))
 (case hw=>w_witness2)
 k_fill
 refine Lw.walk (l:=nc) rfl rfl (λw h Y=>by first | exact PySem.W.kIn_of Y | exact PySem.W.km_in_of Y) ?F
 case F=>
  intro w mg fa h KX G hmg;apply Lw.NQ KX G hmg
  any_goals first | refine' Z.DF.mk (mg_of KX G ?_) ?_ ?_ ?_ | refine' Z.MF.mk ?_ ?_ ?_ ?_ ?_ | refine' mg_none_of KX G ?_ | refine' mg_of KX G ?_ | refine' Z.Uc (mg_of KX G ?_) | refine' Z.exS (mg_of KX G ?_) | refine' L2.Cls.mk ?_ ?_ ?_ ?_
  any_goals k_is
  (case rq_NoThrees=>k_exc)
  (case x_NoThrees_SlantError=>kts_exm)
  (case kq_NoThrees=>kit_is)
  (case kq_NoFloor=>kit_is)
  (case kq_V=>kit_is)
